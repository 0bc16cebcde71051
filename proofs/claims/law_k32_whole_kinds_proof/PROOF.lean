import PyProof.Rows.All
import KE.KSortTup
import KE.KDictOf
import KE.KDictList
import KE.KIsAll
import PySem.Challenge.RW_shelfwork_k32_whole_kinds
set_option compiler.extract_closed false
set_option Elab.async false
set_option linter.all false
set_option maxRecDepth 100000
set_option maxHeartbeats 1000000
open Option renaming some→À,none→Á,map_eq_some_iff→è,bind_eq_some_iff→ü
open Bool renaming true→Â,false→Ä
open PySem renaming Value→Ã,Shared→Å,Str→Ç,Addr→È,wpAny→É,tupleKeyHash→Ë,starEach→Ì,model→Í,Expr→Î,Program→Ï,sizeLine→Ð,IsTupleKey→Ñ,compareOp→Ò,SetTable→Ó,World→Ô,Heap→Õ,bootBuiltins→Ø,Around→Ù,sysModules→Ý,mainGlobals→ß,backTo→á,binaryOp→â,eval→å,behindInMarks→ç,Builtin→é,foldedSetIterable→ê,Scope→ë,assignEach→ñ,Obj→ó,cLine→õ,wpAny_bind→ö,rawInt→ÿ,DictEntry→ă,FuncData→ą,wpAny_loadPart'→Ĉ,Stmt→č,swapsWith→Ď,carriedByValue→Đ,holding→Ē,importedModules→ĕ,attributeBase→ė,pyNext→ę,ofAClassStatement→ě,Pos→ĝ,tupleKind→Ġ,sliceBounds→ĩ,Operator→ī,pyIter→Ĭ,firstArgMember→į,Keyword→Ķ,setSearchFrom→ĸ,NameKind→Ļ,keywordEach→ļ,assign→Ľ,letOwnedTupleGo→ľ,OsState→Ŀ,call→ŀ,codeAny→Ł,storedH→ł,IsPart→ņ,typeLookup→ŉ,swapsWithSole→ő,swappedStores→Œ,setWalkUnseen→Ř,GenState→ř,pickOrder→Ś,getItem→Ŝ,callerA→Ş,IsPair→ş,wpAny_specialOf→Ŧ,wpAny_notOrdered_dict→ũ,wpAny_eqIsQuiet_tuple→Ū,wpAny_isSame_ref_self→ū,wpAny_loadName_local→ŭ,backToKw→ů,attributeErrorLeaves→ű,entryFor→Ų,codeAny_extend_loopS→ŵ,treeTable→Ÿ,PassesOwn→ź,lastMarks→Ż,wpAny_loadName_cell→ż,wpAny_setEntries_of→ž,wpAny_binaryOp_same→ſ
open List renaming replicate→Æ,length→Ú,range→ä,getD→ġ,foldl→Ŋ,length_eraseIdx_of_lt→Ŏ
open PySem.Value renaming ref→Ê,none→Ö,isStrOf→ô,type→Č,int→ħ,str→Ĵ,bool→ś
open PySem.Builtin.SmallTypes renaming nextOf→Û,ownedTupleIsFree→ï,ownedTupleHandOut→ģ
open PySem.Heap renaming SameBut→Ü,ExtBut→Ű
open PySem.Obj renaming mapSeq→Þ,putSet→ĵ,isFreed_of_fields→Ũ
open PySem.SetTable renaming runEnd→à,bits→ã,turns→æ,below→ð,advance→Ą,insertAt→ċ,leap→Ę,fill→Ĥ,Probe→ı,has→Š,grown→Ŵ
open PySem.W renaming keepIn→ì,fnOf→Ċ,codeIn→ĭ,boot_heap→Ĳ,boot_drawn→ĳ,kas_rev→Ĺ,openGood→ĺ,boot_toks→ń,kitOne→Ņ,methodObj→ŏ,hashAt→ŕ,instObj→ţ,KeysLit→Ť,lookIn→Ů
open PySem.Builtin.Tuple renaming tupleExact→í,tupleItemsOf→ň,tupleIsExact→ŋ,tupleTooMany→Ō
open PySem.Builtin.List renaming listTooLong→î,listExtendWith→Ă,listLengthHint→Ń,listFitsIndex→ō,listSameRef→ŗ
open PySem.PyData renaming eqv→ò,strOk→ú,eqvAll→û,canLayAll0→ý,canLay0→ď,depthAll→Ħ,depth→Į,keyHash→Ŭ
open True renaming intro→ø
open PySem.Str renaming ofString→ù
open PySem.SetTable.probe renaming go→þ
open Array renaming getD→Ā,replicate→ť
open PyProof.Rows renaming seqObj→ā,AllBare→Ő,envOfC→œ,subscriptTail_builtinR→ŝ,IsTup→Ţ,entry_list_sort→ŧ,slot_list_sort→Ŷ,args_list_sort→ŷ,entry_tuple_getitem→Ž
open PySem.Builtin.Frozenset renaming isAnySet→Ć,slot1→đ,updateFrom→Ė,unchanged→Ĝ,baseOf→ĥ,sizeOf→Ŗ
open PySem.Builtin.Slice renaming slicePlaces→ć,sliceAdjust→Ģ,sliceApplied→Ň
open ForInStep renaming yield→ĉ
open False renaming elim→ē
open PySem.SetTable.layClean renaming free→Ĕ
open List.Pairwise renaming nil→Ě
open List.Perm renaming cons→Ğ,swap→ų
open Sum renaming inr→ğ,inl→Ź
open PySem.Builtin.Str renaming occurrences→Ĩ
open Int renaming toNat_natCast→Ī
open PySem.SetTable.below renaming go→İ
open PySem.NameKind renaming free→ķ,cell→Ŕ
open PUnit renaming unit→š
def aRf(h:0=0:=by rfl):=h
def aDc(h:0=0:=by decide):=h
local macro_rules|`(↥$t)=>`(autoParam $t aRf._auto_1)
local macro_rules|`(⇑$t)=>`(autoParam $t aDc._auto_1)
local macro_rules
 |`(tactic|erw[$r,*]$[$l]?)=>do
  let a<-r.getElems.mapM λx=>let t:Lean.Term:=⟨x.raw[1]⟩;if x.raw[0].isNone then `(Lean.Parser.Tactic.simpLemma|$t:term) else `(Lean.Parser.Tactic.simpLemma|<-$t:term)
  `(tactic|simp only[$a,*]$[$l]?)
def SJ{α:Sort _}{a b:α}(h:a=b:=by kernel_rfl):a=b:=h
abbrev Te:=PySem.W.Frag
def za:=@PySem.wpAny_bind
def zc:=@PySem.Heap.get?_push_of_some
def zf:=@PySem.wpAny_pure
def zg:=@List.mem_cons
def zj:=@è
def zm:=@ü
def zp:=@Nat.le_trans
def zq:=@List.mem_cons_of_mem
def zr:=@Bool.and_eq_true
def zu:=@List.getElem?_eq_some_iff
def zx:=@List.mem_append
def zy:=@Nat.le_refl
def zz:=@List.map_cons
def zA:=@List.not_mem_nil
def zE:=@List.length_cons
def zF:=@List.mem_cons_self
def zG:=@List.length_map
def zH:=@PySem.Heap.get?_push_size
def zJ:=@PySem.Heap.lt_size
def zK:=@List.mem_map
def zL:=@Nat.ne_of_lt
def zM:=@List.getElem?_eq_getElem
def zN:=@Nat.lt_of_lt_of_le
def zO:=@Bool.false_eq_true
def zP:=@List.size_toArray
def zQ:=@if_pos
def zR:=@List.length_append
def zU:=@Array.length_toList
def zV:=@Bool.false_ne_true
def zW:=@Option.some.inj
def zX:=@if_neg
def zY:=@List.getElem?_append_left
def zZ:=@List.mem_append_right
def kh:=@List.getElem?_map
def kE:=@List.all_eq_true
def kI:=@List.length_nil
def kJ:=@decide_eq_true
def kO:=@or_false
def kY:=@List.map_nil
def kZ:=@List.map_map
def jb:=@List.nil_append
def jc:=@List.mem_filter
def jd:=@PySem.wpAny_newObj_type
def je:=@if_true
def jf:=@List.getElem?_append_right
def jh:=@PySem.wpAny_setState_of
def ji:=@decide_eq_false
def jj:=@congrArg
def jk:=@PySem.wpAny_call_entry
def jl:=@List.mem_singleton
def jm:=@PySem.wpAny_holding
def jn:=@Ne.symm
def jo:=@Ī
def jq:=@PySem.W.kia_one
def jr:=@List.cons_append
def jt:=@Bool.and_eq_true_iff
def ju:=@if_false
def jw:=@List.prefix_refl
def jx:=@PySem.wpAny_setField_rec
def jy:=@PySem.wpAny_callSpecial?_slot
def jz:=@List.mem_of_getElem?
def jA:=@PySem.sizeLine_eq
def jB:=@beq_eq_false_iff_ne
def jC:=@beq_self_eq_true
def jD:=@PySem.Heap.get?_update_self
def jE:=@List.length_filter_le
def jF:=@List.getElem?_eq_none
def jG:=@PyProof.Rows.slot_tuple_getitem
def jH:=@Nat.lt_succ_of_lt
def jJ:=@List.mem_of_mem_drop
def jK:=@Nat.lt_or_eq_of_le
def jL:=@List.nodup_cons
def jM:=@List.getElem?_eq_none_iff
def jN:=@List.find?_cons
def jO:=@Nat.lt_irrefl
def jP:=@List.all_cons
def jQ:=@PySem.Around.under_plainId
def jR:=@PySem.wpAny_Call_Name_kw
def jT:=@PySem.wpAny_seqItems
def jU:=@of_decide_eq_true
def jV:=@List.filterMap_cons_some
def jW:=@PySem.Heap.size_push
def jX:=@List.mem_range
def jY:=@PyProof.Rows.callWith_type1
def jZ:=@Nat.pow_le_pow_right
def j4:=@Nat.lt_succ_self
def j5:=@Nat.le_of_not_lt
def j6:=@List.filter_cons
def j7:=@PySem.wpAny_field
def j8:=@List.getElem?_set_self
def j9:=@Nat.zero_le
def qb:=@PySem.Heap.get?_update_other
def qd:=@PySem.wpAny_truthy_bool
def qe:=@PySem.wpAny_mono
def qg:=@PySem.Heap.SameBut.update
def qi:=@List.pairwise_cons
def qj:=@Option.getD_some
def ql:=@Option.bind_some
def qm:=@List.lookup_cons
def qp:=@List.eq_nil_of_length_eq_zero
def qt:=@PySem.codeAny_builtin
def qu:=@List.getElem?_set_ne
def qw:=@List.replicate_succ
def qx:=@List.of_mem_zip
def qy:=@List.map_congr_left
def qz:=@List.map_append
def qC:=@PySem.wpAny_typeOf
def qD:=@PySem.wpAny_setEpoch_of
def qF:=@List.length_drop
def qG:=@List.take_append_drop
def qH:=@List.set_append_right
def qI:=@List.prefix_append
def qJ:=@List.mem_iff_getElem?
def qK:=@List.length_singleton
def qL:=@List.Perm.refl
def qM:=@PySem.wpAny_isInstance
def qN:=@List.filterMap_cons_none
def qO:=@PySem.Calls.spliced_cons
def qP:=@Bool.not_eq_true'
def qQ:=@Nat.le_of_lt
def qR:=@Nat.le_succ
def qT:=@List.getElem_of_mem
def qU:=@List.getElem?_replicate
def qW:=@List.getElem?_cons_zero
def qX:=@List.length_take
def qY:=@List.getElem_mem
def qZ:=@PySem.Calls.spliced_nil
def q8:=@List.nodup_nil
def q9:=@List.length_replicate
def vd:=@List.cons.injEq
def vf:=@List.flatten_cons
def vg:=@List.mem_of_mem_take
def vh:=@PySem.wpAny_passesOwn
def vm:=@PySem.builtinLookup_eq_fast
def vo:=@PyProof.Rows.F.plain_set_update_loop
def vp:=@List.pairwise_iff_getElem
def vq:=@PySem.wpAny_rule
def vA:=@PySem.wpAny_attempt
def vB:=@PySem.plainId_quiet
def vC:=@PySem.mem_of_lookup
def vD:=@List.filter_eq_self
def vG:=@PySem.Heap.SameBut.refl
def vH:=@Option.isSome_iff_exists
def vI:=@Nat.pow_succ
def vJ:=@Nat.add_zero
def vK:=@PySem.F.slot_tuple_iterator_next
def vL:=@Array.size_setIfInBounds
def vM:=@PySem.isSubtype_type
def vN:=@List.length_zip
def vO:=@List.length_eq_zero_iff
def vP:=@List.forIn_cons
def vQ:=@List.append_nil
def vR:=@Int.emod_lt_of_pos
def vU:=@Bool.eq_iff_iff
def vV:=@PySem.F.called_set
def vW:=@decide_eq_true_eq
def vX:=@beq_iff_eq
def vY:=@PySem.wpAny_updateSeq
def vZ:=@PyProof.Rows.callWith_builtin1
def v6:=@Nat.ne_of_gt
def v7:=@List.contains_iff_mem
def v8:=@List.mem_flatMap
def v9:=@PySem.wpAny_pyIter_list
def wg:=@PySem.call_meets
def wj:=@List.sum_cons
def wu:=@List.any_cons
def ww:=@Nat.mod_lt
def wz:=@List.filter_map
def wA:=@List.filterMap_cons
def wB:=@Int.emod_nonneg
def wC:=@PySem.wpAny_typeNameOfWhole_keyiter
def wD:=@PySem.wpAny_forIn_list
def wF:=@PySem.F.slot_tuple_mul
def wG:=@PySem.AutoSeq1.idx_int
def wI:=@Array.forIn_toList
def wJ:=@Array.find?_toList
def wK:=@Option.isNone_iff_eq_none
def wL:=@List.drop_eq_getElem_cons
def wM:=@PySem.F.slot_dict_keyiterator_next
def wO:=@PySem.wpAny_setEntries_of
def wQ:=@PySem.wpAny_of_eq
def wR:=@PySem.typeLookup_type
def wU:=@PySem.Value.isStrOf_shape
def wV:=@PySem.W.kitx_list
def wW:=@PySem.F.args_tuple_add_2
def wX:=@PyProof.Rows.boot_sorted
def wY:=@Nat.le_of_lt_succ
def wZ:=@List.append_assoc
def yc:=@PySem.F.plainAttrs_list
def yd:=@PySem.F.entry_tuple_add
def ye:=@PySem.W.KasT.kasWp_bind
def yf:=@Int.eq_ofNat_of_zero_le
def yg:=@PySem.wpAny_pyIter_tuple
def yh:=@PySem.Obj.data_mapFields
def yj:=@List.isEmpty_iff
def ym:=@List.getElem_inj
def yo:=@List.flatMap_def
def yp:=@List.ext_getElem
def yq:=@List.any_eq_true
def yr:=@PySem.F.slot_tuple_add
def yt:=@PySem.Calls.call_function_entry
def yu:=@PySem.wpAny_typeNameOf_keyiter
def yw:=@not_or
def yx:=@PySem.F.slot_dict_get
def yz:=@Nat.zero_add
def yC:=@Nat.lt_or_ge
def yD:=@PySem.F.slot_list_getattribute
def yE:=@PySem.F.plain_list_iadd
def yF:=@Array.getElem?_toList
def yG:=@Nat.not_lt
def yH:=@List.mem_append_left
def yI:=@Array.mem_toList_iff
def yJ:=@PySem.wpAny_askSetting
def yK:=@PyProof.Rows.F.entry_set_update_loop
def yL:=@List.getElem?_range
def yM:=@List.filter_sublist
def yN:=@PySem.Calls.callWith_builtin
def yO:=@PySem.wpAny_isOneOf_keyiter
def yP:=@PySem.wpAny_execs_nil
def yQ:=@PySem.codeAny_mono
def yR:=@PySem.PassesOwn.never
def yS:=@List.zip_cons_cons
def yU:=@List.mem_filterMap
def yV:=@List.map_take
def yW:=@List.map_drop
def yX:=@List.filterMap_map
def yZ:=@PySem.F.slot_zip_next
def xf:=@PySem.F.slot_int_rmul
def xg:=@Bool.not_true
def xj:=@PySem.wpAny_load
def xm:=@PySem.wpAny_updateSeq_pair
def xn:=@PySem.W.kitx_dict
def xq:=@Option.some.injEq
def xr:=@Nat.lt_trichotomy
def xu:=@List.take_sublist
def xx:=@List.nodup_append
def xF:=@List.length_range
def xG:=@PySem.Heap.get?_none_of_le
def xH:=@Function.comp_def
def xJ:=@PySem.wpAny_setField
def xK:=@PySem.wpAny_runValue
def xM:=@PyProof.Rows.tupleItemsOf_
def xN:=@PySem.entryFor_alias
def xO:=@Nat.mul_comm
def xP:=@PySem.wpAny_throw
def xQ:=@Nat.succ_ne_self
def xR:=@Nat.mod_eq_of_lt
def xT:=@Nat.le_add_right
def xU:=@List.zipIdx_cons
def xV:=@List.take_length
def xW:=@List.reverse_nil
def xX:=@List.mem_reverse
def xY:=@List.drop_length
def xZ:=@PySem.Heap.get?_update_ne
def uc:=@PySem.wpAny_onRaise
def ud:=@PySem.wpAny_newList
def ue:=@PySem.tupleKind_room_in1
def uf:=@Nat.pow_add
def ug:=@PySem.F.args_tuple_mul_2
def uh:=@Array.getD_eq_getD_getElem?
def ul:=@Option.ne_none_iff_exists'
def um:=@Array.getElem?_eq_some_iff
def uo:=@PySem.wpAny_storeSet_of
def uq:=@PySem.wpAny_pyIter_slot
def ur:=@PySem.typeIs_int
def ut:=@PySem.strKind_is
def uv:=@List.getElem?_zip_eq_some
def uw:=@PySem.F.entry_tuple_mul
def ux:=@PySem.concat_meets
def uy:=@List.length_erase_of_mem
def uz:=@List.getElem?_take_of_lt
def uA:=@PySem.noFill_tuple_add
def uB:=@and_true
def uC:=@PySem.F.args_dict_get_3
def uD:=@List.pairwise_singleton
def uE:=@List.getElem?_cons_succ
def uG:=@List.eraseIdx_cons_succ
def uH:=@Bool.or_false
def uJ:=@PySem.W.cellsFrom_some
def uK:=@PySem.F.entry_dict_get
def uL:=@List.take_of_length_le
def uM:=@List.length_pos_of_mem
def uN:=@List.filter_eq_nil_iff
def uO:=@PySem.F.args_tuple_iterator_next_1
def uP:=@Array.toList_filterMap
def uQ:=@Nat.sub_self
def uR:=@Nat.lt_trans
def uT:=@List.any_map
def uU:=@PySem.F.entry_tuple_iterator_next
def uV:=@Nat.not_succ_le_self
def uW:=@List.mem_erase_of_ne
def uX:=@List.getElem?_zipIdx
def uY:=@PySem.Calls.Name_function_global
def uZ:=@Array.getElem_toList
def u0:=@PySem.wpAny_newTuple
def u5:=@PySem.wpAny_binaryOp_repeat_ref
def u6:=@PySem.isSubtype_stop
def u9:=@List.map_id
def ph:=@Int.toNat_of_nonneg
def pA:=@Bool.or_eq_true_iff
def pB:=@decide_eq_true_iff
def pC:=@PySem.W.kitx_tuple
def pD:=@Nat.pos_of_ne_zero
def pF:=@List.length_zipIdx
def pG:=@PySem.AutoSeq1.sub_tuple_tuple
local macro_rules|`(⋯)=>`(by decide +kernel)
local macro_rules|`(∅)=>`(by omega)
namespace ML
open PySem PySem.W PyProof.Rows
inductive Cn where
 | int (i:Int) | str (x:Ç) | tup (l:List Cn)
noncomputable def pN(h:Õ)(v:Ã):Option (Array Ã):=match v with
 | .ref a=>(h.get? a).bind λo=>match o.cls with
  | .type t=>if t="tuple" then (match o.data with | .seq cb _=>if o.dict.isNone then À cb else Á | _=>Á) else Á
  | _=>Á
 | _=>Á
noncomputable def isI(i:Int)(v:Ã):Bool:=match v with | .int j _=>i==j | _=>Ä
noncomputable def U4(x:Ç)(v:Ã):Bool:=match v with | .str y _=>x==y | _=>Ä
noncomputable def fw{α β:Type}(p:α->β->Bool):List α->List β->Bool
 | [],[]=>Â
 | a::l,b::r=>p a b&&fw p l r
 | _,_=>Ä
noncomputable def fA(h:Õ):Nat->Cn->Ã->Bool
 | 0,_,_=>Ä
 | n+1,w,v=>match w with
  | .int i=>isI i v
  | .str x=>U4 x v
  | .tup l=>(pN h v).any λcb=>decide (cb.size<=Ð)&&fw (fA h n) l cb.toList
noncomputable def dictAt(h:Õ)(v:Ã):Option (Array ă):=match v with
 | .ref a=>(h.get? a).bind λo=>match o.cls with
  | .type t=>if t="dict" then (match o.data with | .dict es _=>if o.dict.isNone&&o.slots.isEmpty&&a != Ý then À es else Á | _=>Á) else Á
  | _=>Á
 | _=>Á
noncomputable def VE(h:Õ)(l:List (Ç×Cn))(v:Option Ã):Bool×List Int:=match v.bind (dictAt h) with
 | some es=>(fw (λp (e:ă)=>U4 p.1 e.key&&fA h 9 p.2 e.val) l es.toList,es.toList.map (·.hash))
 | none=>(Ä,[])
noncomputable def Wi(cons:List (Ç×Cn))(bins:List Ç)(h:Õ):Bool:=h.isNs ß&&cons.all (λp=>(h.nsMap ß p.1).any λv=>fA h 9 p.2 v)&&bins.all λx=>(h.nsMap ß x).isNone
noncomputable def W4(tabs:List (Ç×List (Ç×Cn)))(h:Õ):List (Bool×List Int):=tabs.map λp=>VE h p.2 (h.nsMap ß p.1)
noncomputable def Kf(tabs:List (Ç×List (Ç×Cn)))(w:Ô):List (Bool×List Int):=tabs.map λp=>(Â,p.2.map λk=>Ŭ w.params k.1)
noncomputable def Jt(cons:List (Ç×Cn))(tabs:List (Ç×List (Ç×Cn)))(bins:List Ç):PySem.W.Hook:=
 ⟨Bool×List (Bool×List Int),λs=>(Wi cons bins s.heap,W4 tabs s.heap),λw=>(Â,Kf tabs w),
  λw h=>∃h₀:Õ,(∀b o,h₀.get? b=À o->h.get? b=À o)/\Wi cons bins h₀=Â/\W4 tabs h₀=Kf tabs w,
  λw s e=>⟨s.heap,λ_ _ z=>z,jj Prod.fst e,jj Prod.snd e⟩,λw h h' ⟨h₀,a,b⟩ k=>⟨h₀,λ_ _ z=>k _ _ (a _ _ z),b⟩⟩
def XG{p q:Ï}{loose:List Ç}{Xt:Å->Bool}{α:Type}{Yf:Å->α}{Ya:Ô->α}{N:Nat}{g0:Bool}(row:String)
  (hf:∀w:Ô,(openEnds Ÿ p (w.withFollow row Ä) N).map (λs=>(openSeen q loose (ĕ p.main.body) Xt g0 s,Yf s))=À (ĺ q loose,Ya (w.withFollow row Ä)))
  (ht:∀w:Ô,(openEnds Ÿ p (w.withFollow row Â) N).map (λs=>(openSeen q loose (ĕ p.main.body) Xt g0 s,Yf s))=À (ĺ q loose,Ya (w.withFollow row Â))):LeftO p q loose Xt Yf Ya N g0:=
 byRow2 row (P:=λw=>(openEnds Ÿ p w N).map (λs=>(openSeen q loose (ĕ p.main.body) Xt g0 s,Yf s))=À (ĺ q loose,Ya w)) hf ht
noncomputable def Yp(tb:String->Option é)(p:Ï)(w:Ô)(Eb:Nat)(ann:Option Ã):Nat->SharedT->Thread->Option SharedT
 | 0,_,_=>Á
 | n+1,s,t=>match through t with
  | true=>À s
  | false=>match stepOk Eb ann t with
   | false=>Á
   | true=>match stepT (denote tb) p w s t with
    | some (s',t')=>Yp tb p w Eb ann n s' t'
    | none=>Á
def W5{tb:String->Option é}{p:Ï}{w:Ô}{Eb:Nat}{ann:Option Ã}(n:Nat):∀{s s':SharedT} {t:Thread},Yp tb p w Eb ann n s t=À s'->topRun tb p w Eb ann n s.abs t=À s'.abs:=by
 induction n with
 | zero=>intro _ _ _ h;cases h
 | succ n ih=>
  intro s s' t h;unfold Yp at h;unfold topRun;cases he:through t with
  | true=>rw[he] at h;cases h;rfl
  | false=>
   rw[he] at h;cases hk:stepOk Eb ann t with
   | false=>rw[hk] at h;cases h
   | true=>
    rw[hk] at h;cases hs:stepT (denote tb) p w s t with
    | none=>rw[hs] at h;cases h
    | some r=>rw[hs] at h;rw[stepT_spec hs];exact ih h
noncomputable def treeOf:List ó->Nat->BT->BT
 | [],_,t=>t
 | o::l,n,t=>treeOf l (n+1) (t.ins n o)
noncomputable def Xf(H:Õ)(d:Drawn)(k:Nat)(os:Ŀ):SharedT:=⟨treeOf H.objs.toList 0 .nil,H.objs.size,H.life,Array.mk [],d,k,os⟩
noncomputable def YD(p q:Ï)(loose:List Ç)(H:Õ)(d6:Å):=
 (staticsOk (ĕ p.main.body) H d6.heap&&namesBound p d6.heap&&gensDone d6&&laidKept H d6.heap,openSeen q loose (ĕ p.main.body) (λs=>xlAt q [] s&&recOk [] s) Â d6)
noncomputable def K8{α:Type}(p q:Ï)(loose:List Ç)(obs:Å->α)(H:Õ)(d:Drawn)(k:Nat)(w:Ô)(os:Ŀ):=
 (Yp Ÿ p w H.objs.size (H.nsMap ß "__annotations__") 8000 (Xf H d k os) (topStub p)).map λs=>(YD p q loose H s.abs,obs s.abs)
theorem Cv:@K8=@K8:=rfl
lay_quick K8
name_quick runBQ for K8 by Cv
theorem boot_abs(P:Params)(os:Ŀ):(Xf (Ĳ P) ĳ ń os).abs=⟨Ĳ P,Array.mk [],ĳ,ń,os⟩:=by kernel_rfl
theorem US(P:Params):((Ĳ P).isNs ß&&(Array.mk []:Array ř).size==0)=Â:=by kernel_rfl
def Xy{p q:Ï}{loose:List Ç}{h:Hook}(row:String)(e:opening p=plainProg p.main.scope.names)(f:∀s,fenceModules? p s=À s)
  (hf:∀(w:Ô) (os:Ŀ),PySem.W.Fast.runBQ p q loose h.obs (Ĳ (w.withFollow row Ä).params) ĳ ń (w.withFollow row Ä) os=À ((Â,ĺ q loose),h.val (w.withFollow row Ä)))
  (ht:∀(w:Ô) (os:Ŀ),PySem.W.Fast.runBQ p q loose h.obs (Ĳ (w.withFollow row Â).params) ĳ ń (w.withFollow row Â) os=À ((Â,ĺ q loose),h.val (w.withFollow row Â))) :
  LeftO p q loose (λs=>xlAt q [] s&&recOk [] s) h.obs h.val 8000:=by
 have k:∀(b:Bool) (w:Ô),(∀os:Ŀ,PySem.W.Fast.runBQ p q loose h.obs (Ĳ (w.withFollow row b).params) ĳ ń (w.withFollow row b) os=À ((Â,ĺ q loose),h.val (w.withFollow row b)))->(openEnds Ÿ p (w.withFollow row b) 8000).map (λs=>(openSeen q loose (ĕ p.main.body) (λs=>xlAt q [] s&&recOk [] s) Â s,h.obs s))=À (ĺ q loose,h.val (w.withFollow row b)):=λb w r=>by
  rw[<-PySem.W.Fast.runBQ_eq] at r;generalize w.withFollow row b=w at r ⊢;obtain⟨⟨H,g,d,k,os⟩,hs,hv⟩:=zj.mp (boot_open (N:=8000) e rfl f w);erw[Prod.mk.injEq] at hv;obtain⟨rfl,rfl,rfl,rfl⟩:=hv;obtain⟨s,h1,h2⟩:=zj.mp (r os);have h3:=W5 _ h1;rw[boot_abs] at h3;erw[YD,Prod.mk.injEq] at h2;obtain⟨⟨h4,h5⟩,h6⟩:=h2;unfold openEnds topFrom;rw[hs];erw[ql];rw[US];erw[h3,ql];rw[h4];exact jj À (Prod.ext h5 h6)
 exact XG row (λw=>k Ä w (hf w)) λw=>k Â w (ht w)
end ML
namespace K32
open PySem PySem.W PyProof.Rows ML
def pw:Ï:=PySem.Challenge.pw_shelfwork_k32_whole_kinds
def isNm(x:String):Î->Bool | .Name y ..=>y==x | _=>Ä
def drops:č->Bool
 | .Assign [t] ..=>isNm "FORMS" t||isNm "__name__" t
 | _=>Ä
def q:Ï:={ pw with main:={ pw.main with body:=pw.main.body.filter λs=>!drops s } }
def consC:List (Ç×Cn):=[("SHELVES",(.tup [.str "a",.str "b",.str "c",.str "d"]))]
def tabsC:List (Ç×List (Ç×Cn)):=[("FORMS",[("number",(.tup [.int 2,.int 2])),("name",(.tup [.int 2,.int 2])),("read",(.tup [.int 2,.int 2])),("write",(.tup [.int 3,.int 2])),("add",(.tup [.int 3,.int 1])),("less",(.tup [.int 3,.int 1])),("then",(.tup [.int 3,.int 1])),("if",(.tup [.int 4,.int 1])),("loop",(.tup [.int 3,.int 1])),("let",(.tup [.int 4,.int 2])),("own",(.tup [.int 4,.int 2])),("say",(.tup [.int 2,.int 1])),("ask",(.tup [.int 1,.int 1])),("do",(.tup [.int 2,.int 2])),("call",(.tup [.int 4,.int 2]))])]
def Fe:List Ç:=["all","dict","enumerate","isinstance","len","list","range","set","sorted","sum","tuple","zip"]
noncomputable def H:Hook:=Jt consC tabsC Fe
set_option maxHeartbeats 0 in
theorem said:PySem.Challenge.rw_shelfwork_k32_whole_kinds.wellSaid=Â:=by kernel_rfl
set_option maxHeartbeats 0 in
theorem leftF(w:Ô)(os:Ŀ):PySem.W.Fast.runBQ pw q ["FORMS"] H.obs (Ĳ (w.withFollow "special-get-raises" Ä).params) ĳ ń (w.withFollow "special-get-raises" Ä) os=À ((Â,ĺ q ["FORMS"]),H.val (w.withFollow "special-get-raises" Ä)):=by kernel_rfl
set_option maxHeartbeats 0 in
theorem leftT(w:Ô)(os:Ŀ):PySem.W.Fast.runBQ pw q ["FORMS"] H.obs (Ĳ (w.withFollow "special-get-raises" Â).params) ĳ ń (w.withFollow "special-get-raises" Â) os=À ((Â,ĺ q ["FORMS"]),H.val (w.withFollow "special-get-raises" Â)):=by kernel_rfl
set_option maxHeartbeats 0 in
def left:LeftO pw q ["FORMS"] (λs=>xlAt q [] s&&recOk [] s) H.obs H.val 8000:=Xy "special-get-raises" SJ (λs=>SJ) leftF leftT
end K32
section
namespace L2
open PySem PySem.Spec PyProof.Rows
abbrev Key:=Sum Int Ç
def iK:Key->Ã->Bool
 | .inl k,v=>Value.isInt k v
 | .inr x,v=>ô x v
def Gr(w:Ô):Key->Int
 | .inl k=>hashInt k
 | .inr x=>hashStr w x
def vn:∀{k:Key} {v:Ã},iK k v=Â->(∃i t,k=Ź i/\v=ħ i t)\/(∃x t,k=ğ x/\v=Ĵ x t)
 | .inl i,v,h=>by
  obtain⟨t,e⟩:=Value.isInt_shape (k:=i) (v:=v) h;exact .inl ⟨i,t,rfl,e⟩
 | .inr x,v,h=>by
  obtain⟨t,e⟩:=wU (x:=x) (v:=v) h;exact .inr ⟨x,t,rfl,e⟩
def Vh(i:Int)(t:Tok):iK (.inl i) (.int i t)=Â:=by simp[iK,Value.isInt]
def QJ(x:Ç)(t:Tok):iK (.inr x) (.str x t)=Â:=by simp[iK,ô]
def C8(a b:Int):decide ((Ź a:Key)=Ź b)=(a==b):=by
 by_cases e:a=b
 .subst e;simp
 .have h:¬(Ź a:Key)=Ź b:=λq=>e (Sum.inl.inj q)
  rw[ji h];exact(jB.mpr e).symm
def U6(a b:Ç):decide ((ğ a:Key)=ğ b)=decide (a=b):=by
 by_cases e:a=b
 .subst e;simp
 .have h:¬(ğ a:Key)=ğ b:=λq=>e (Sum.inr.inj q)
  rw[ji h,ji e]
def Dm(a:Int)(b:Ç):decide ((Ź a:Key)=ğ b)=Ä:=ji (λq=>nomatch q)
def Bi(a:Ç)(b:Int):decide ((ğ a:Key)=Ź b)=Ä:=ji (λq=>nomatch q)
def qB(prog:Ï)(w:Ô):PySem.KeyKind prog w Key where
 is:=iK
 hash:=Gr w
 inj:=λv a b ha hb=>by
  rcases vn ha with ⟨i,t,rfl,rfl⟩ | ⟨x,t,rfl,rfl⟩
  .rcases vn hb with ⟨j,u,rfl,e⟩ | ⟨y,u,rfl,e⟩
   .injection e with e1 _;rw[e1]
   .exact nomatch e
  .rcases vn hb with ⟨j,u,rfl,e⟩ | ⟨y,u,rfl,e⟩
   .exact nomatch e
   .injection e with e1 _;rw[e1]
 byValue:=λk v h=>by
  rcases vn h with ⟨i,t,rfl,rfl⟩ | ⟨x,t,rfl,rfl⟩<;>rfl
 pyHash:=λhv h=>by
  rcases vn hv with ⟨i,t,rfl,rfl⟩ | ⟨x,t,rfl,rfl⟩
  .exact wpAny_pyHash_int h
  .exact wpAny_pyHash_str h
 eqBool:=λhu hv h=>by
  rcases vn hu with ⟨i,t,rfl,rfl⟩ | ⟨x,t,rfl,rfl⟩
  .rcases vn hv with ⟨j,u,rfl,rfl⟩ | ⟨y,u,rfl,rfl⟩
   .rw[C8] at h;exact wpAny_eqBool_int h
   .rw[Dm] at h;exact SeqAt.EqAt.int_str i t y u _ _ _ _ h
  .rcases vn hv with ⟨j,u,rfl,rfl⟩ | ⟨y,u,rfl,rfl⟩
   .rw[Bi] at h;exact SeqAt.EqAt.str_int x t j u _ _ _ _ h
   .rw[U6] at h;exact wpAny_eqBool_str h
 «strs»:=λk x t v h=>by
  rcases vn h with ⟨i,u,rfl,e⟩ | ⟨y,u,rfl,e⟩
  .exact nomatch e
  .injection e with e1 _
   subst e1;cases v<;>rfl
def Zm(prog:Ï)(w:Ô)(i:Int)(t:Tok):(qB prog w).is (.inl i) (.int i t)=Â:=Vh i t
def Zj(prog:Ï)(w:Ô)(x:Ç)(t:Tok):(qB prog w).is (.inr x) (.str x t)=Â:=QJ x t
end L2
namespace L2
open PySem PySem.Spec PyProof.Rows
inductive V where
 | non | bl (b:Bool) | int (i:Int) | str (x:Ç) | byt (b:Array UInt8) | flt (b:UInt64) | ref (a:È) | ty (n:String)
 deriving DecidableEq
def RelV:V->Ã->Prop
 | .non,u=>u=Ö
 | .bl b,u=>u=ś b
 | .int i,u=>∃t,u=ħ i t
 | .str x,u=>∃t,u=Ĵ x t
 | .byt b,u=>∃t,u=Value.bytes b t
 | .flt b,u=>∃t,u=Value.float b t
 | .ref a,u=>u=Ê a
 | .ty n,u=>u=Č n
abbrev Vals:List V->List Ã->Prop:=Paired RelV
theorem Vals.length{xs:List V}{us:List Ã}(r:Vals xs us):xs.length=us.length:=Paired.length r
theorem Vals.get:∀{xs:List V} {us:List Ã} {i:Nat} {x:V},Vals xs us->xs[i]?=À x->∃u,us[i]?=À u/\RelV x u
 | _,_,_,_,.nil,e=>by simp at e
 | _,_,0,_,.cons r _,e=>by simp at e;subst e;exact⟨_,rfl,r⟩
 | _,_,i+1,x,.cons _ t,e=>by
  obtain⟨u,h1,h2⟩:=Vals.get (i:=i) (x:=x) t (by simpa using e);exact⟨u,by simpa using h1,h2⟩
theorem Vals.set{x:V}{u:Ã}(r:RelV x u):∀{xs:List V} {us:List Ã} (i:Nat),Vals xs us->Vals (xs.set i x) (us.set i u)
 | _,_,_,.nil=>.nil
 | _,_,0,.cons _ t=>.cons r t
 | _,_,i+1,.cons q t=>.cons q (Vals.set r i t)
def Vals.append{xs ys:List V}{us ws:List Ã}(h:Vals xs us)(s:Vals ys ws):Vals (xs++ys) (us++ws):=by
 induction h with
 | nil=>exact s
 | cons r t ih=>exact .cons r ih
theorem Vals.take:∀{xs:List V} {us:List Ã} (n:Nat),Vals xs us->Vals (xs.take n) (us.take n)
 | _,_,0,_=>.nil
 | _,_,_+1,.nil=>.nil
 | _,_,n+1,.cons r t=>.cons r (Vals.take n t)
theorem Vals.drop:∀{xs:List V} {us:List Ã} (n:Nat),Vals xs us->Vals (xs.drop n) (us.drop n)
 | _,_,0,r=>r
 | _,_,_+1,.nil=>.nil
 | _,_,n+1,.cons _ t=>Vals.drop n t
def RelO:Option V->Option Ã->Prop
 | some v,À u=>RelV v u
 | none,Á=>True
 | _,_=>False
def KV{κ:Type}:List (κ×V)->List (κ×Ã)->Prop:=Paired λ(p:κ×V) (q:κ×Ã)=>p.1=q.1/\RelV p.2 q.2
def kV:Key->V
 | .inl i=>.int i
 | .inr x=>.str x
inductive HO where
 | lst (xs:List V)
 | tup (xs:List V)
 | dK (cx:List (Key×V)) | dT (cx:List (List Key×V))
 | set (S:Int->Bool) (n:Nat)
 | ins (C dx:È) (fs:List (Ç×V))
 | own (x:È)
 | xd (fs:List (Ç×V))
 | met (f x:È)
 | rng (lo hi:Int)
 | frz (o:ó) (u:HO)
 | tbl (ps:Array Ã)
 | ext (φ:Õ->Prop)
abbrev Hp:=È->Option HO
def upd(H:Hp)(a:È)(o:HO):Hp:=λb=>if b=a then À o else H b
def qa{H:Hp}{a:È}{o:HO}:upd H a o a=À o:=by unfold upd;rw[zQ rfl]
def kH{H:Hp}{a b:È}{o:HO}(h:b≠a):upd H a o b=H b:=by unfold upd;rw[zX h]
def Fk{H:Hp}{a b:È}{o u:HO}(h:H a=À o)(h':H b=À u)(d:o≠u):a≠b:=by
 intro e;subst e;rw[h] at h';exact d (zW h')
def qc{H:Hp}{a b:È}{o:HO}(h:H a=À o)(h':H b=Á):a≠b:=by
 intro e;subst e;rw[h] at h';cases h'
def NoDi(h:Õ)(a:È):Prop:=∃o,h.get? a=À o/\o.dict=Á
def NoDi.new(h:Õ)(o:ó)(n:↥(o.dict=Á))(f:↥(o.isFreed=Ä)):NoDi (h.push o) h.objs.size:=⟨o,zH _ f,n⟩
section
variable(P:Ï)(w:Ô)
def ObjOk(H:Hp)(h:Õ)(a:È):HO->Prop
 | .lst xs=>xs.length<=Ð/\∃(cb:List Ã) (n:Nat),Vals xs cb/\h.get? a=À { cls:=.type "list",data:=.seq cb.toArray n }
 | .tup xs=>xs.length<=Ð/\∃cb:List Ã,Vals xs cb/\Ţ h a cb.toArray/\NoDi h a
 | .dK cx=>cx.length<=Ð/\(a==Ý)=Ä/\∃vs,KV cx vs/\h.DictOf (qB P w) a vs
 | .dT cx=>cx.length<=Ð/\(a==Ý)=Ä/\∃xs:List (List Key×È×Ã),
   Paired (λ(p:List Key×V) (q:List Key×È×Ã)=>p.1=q.1/\H q.2.1=À (.tup (p.1.map kV))/\RelV p.2 q.2.2) cx xs /\
   ∃o es ep,h.get? a=À o/\o.ExactDict/\o.data=.dict es ep/\es.toList=xs.map (entryOfKey (Ġ (qB P w)))/\(xs.map (·.1)).Nodup
 | .set S n=>h.SetOf (intKind P w) a S n
 | .ins C dx fs=>H dx=À (.own a)/\fs.length<=1000/\dx≠a/\h.get? a=À (ţ C dx) /\
   ∃mA,h.Ns1 dx mA/\(∀f,RelO (fs.lookup f) (mA f))/\PySem.Within mA (fs.map (·.1))
 | .own _=>∃o,h.get? a=À o
 | .xd fs=>∃mA,h.Ns1 a mA/\∀f,RelO (fs.lookup f) (mA f)
 | .rng lo hi=>∃t u v,h.get? a=À { cls:=.type "range",data:=.fields #[.int lo t,.int hi u,.int 1 v] }
 | .frz o u=>h.get? a=À o/\ObjOk H h a u
 | .tbl ps=>h.get? a=À { cls:=.none,data:=.fields ps }
 | .met f x=>h.get? a=À (ŏ (.ref f) (.ref x))
 | .ext φ=>φ h/\(∃o,h.get? a=À o)/\∀h1 h2:Õ,φ h1->(∀o,h1.get? a=À o->h2.get? a=À o)->φ h2
def HOk(H:Hp)(h:Õ):Prop:=∀a o,H a=À o->ObjOk P w H h a o
end
section
variable{P:Ï}{w:Ô}{H H':Hp}{h h':Õ}{a:È}{o:HO}
theorem ObjOk.lt(x:ObjOk P w H h a o):a<h.objs.size:=by
 cases o with
 | lst xs=>obtain⟨_,_,_,_,e⟩:=x;exact zJ e
 | tup xs=>obtain⟨_,_,_,p,_⟩:=x;exact p.lt
 | dK cx=>obtain⟨_,_,_,_,o,_,_,e,_⟩:=x;exact zJ e
 | dT cx=>obtain⟨_,_,_,_,o,_,_,e,_⟩:=x;exact zJ e
 | set S n=>obtain⟨o,_,_,_,e,_⟩:=x;exact zJ e
 | ins C dx fs=>obtain⟨_,_,_,e,_⟩:=x;exact zJ e
 | own y=>obtain⟨_,e⟩:=x;exact zJ e
 | xd fs=>obtain⟨_,⟨_,_,_,e,_⟩,_⟩:=x;exact zJ e
 | rng lo hi=>obtain⟨_,_,_,e⟩:=x;exact zJ e
 | frz ob u=>obtain⟨e,_⟩:=x;exact zJ e
 | tbl ps=>exact zJ (show h.get? a=À _ from x)
 | met f y=>exact zJ (show h.get? a=À _ from x)
 | ext φ=>obtain⟨_,⟨_,e⟩,_⟩:=x;exact zJ e
theorem Paired.mapP{α β:Type}{F G:α->β->Prop}:∀{l₁:List α} {Io:List β},Paired F l₁ Io->(∀a b,F a b->G a b)->Paired G l₁ Io
 | _,_,.nil,_=>.nil
 | _,_,.cons r t,f=>.cons (f _ _ r) (Paired.mapP t f)
def ObjOk.stay(x:ObjOk P w H h a o)(k:∀b u,(b=a\/H b=À (.own a))->h.get? b=À u->h'.get? b=À u)
  (ho:∀b,H b=À (.own a)->H' b=À (.own a)) (ht:∀b xs,H b=À (.tup xs)->H' b=À (.tup xs)):ObjOk P w H' h' a o:=by
 induction o with
 | lst xs=>obtain⟨z,cb,n,r,e⟩:=x;exact⟨z,cb,n,r,k _ _ (.inl rfl) e⟩
 | tup xs=>obtain⟨z,cb,r,⟨ob,e,c⟩,o2,e2,d2⟩:=x;exact⟨z,cb,r,⟨ob,k _ _ (.inl rfl) e,c⟩,o2,k _ _ (.inl rfl) e2,d2⟩
 | dK cx=>obtain⟨z,y,vs,r,ob,es,ep,e,c⟩:=x;exact⟨z,y,vs,r,ob,es,ep,k _ _ (.inl rfl) e,c⟩
 | dT cx=>
  obtain⟨z,y,xs,r,ob,es,ep,e,c⟩:=x;exact⟨z,y,xs,Paired.mapP r λp q z=>⟨z.1,ht _ _ z.2.1,z.2.2⟩,ob,es,ep,k _ _ (.inl rfl) e,c⟩
 | set S n=>obtain⟨ob,es,ep,t,e,c⟩:=x;exact⟨ob,es,ep,t,k _ _ (.inl rfl) e,c⟩
 | ins C dx fs=>
  obtain⟨d,z,ne,e,mA,⟨od,es,ep,e2,c⟩,r⟩:=x;exact⟨ho _ d,z,ne,k _ _ (.inl rfl) e,mA,⟨od,es,ep,k _ _ (.inr d) e2,c⟩,r⟩
 | own y=>obtain⟨ob,e⟩:=x;exact⟨ob,k _ _ (.inl rfl) e⟩
 | xd fs=>obtain⟨mA,⟨od,es,ep,e,c⟩,r⟩:=x;exact⟨mA,⟨od,es,ep,k _ _ (.inl rfl) e,c⟩,r⟩
 | rng lo hi=>obtain⟨t,u,v,e⟩:=x;exact⟨t,u,v,k _ _ (.inl rfl) e⟩
 | frz ob u ih=>obtain⟨e,q⟩:=x;exact⟨k _ _ (.inl rfl) e,ih q⟩
 | tbl ps=>
  have e:h.get? a=À { cls:=.none,data:=.fields ps }:=x;show h'.get? a=À { cls:=.none,data:=.fields ps }
  exact k a _ (.inl rfl) e
 | met f y=>
  have e:h.get? a=À (ŏ (.ref f) (.ref y)):=x;show h'.get? a=À (ŏ (.ref f) (.ref y))
  exact k a _ (.inl rfl) e
 | ext φ=>obtain⟨p,⟨o,e⟩,st⟩:=x;exact⟨st _ _ p λo q=>k _ _ (.inl rfl) q,⟨o,k _ _ (.inl rfl) e⟩,st⟩
theorem HOk.lt(x:HOk P w H h)(e:H a=À o):a<h.objs.size:=(x a o e).lt
def HOk.fresh(x:HOk P w H h)(e:h.objs.size<=a):H a=Á:=by
 cases q:H a with
 | none=>rfl
 | some u=>exact absurd (zN (x.lt q) e) (jO _)
def HOk.kept(x:HOk P w H h)(k:∀b u,h.get? b=À u->h'.get? b=À u):HOk P w H h':=λa o e=>
 (x a o e).stay (λb u _ q=>k b u q) (λ_ q=>q) λ_ _ q=>q
def HOk.laid(x:HOk P w H h)(k:∀b u,h.get? b=À u->h'.get? b=À u)(hp:h.objs.size<=a)(new:ObjOk P w (upd H a o) h' a o):HOk P w (upd H a o) h':=λb u e=>by
 have hn:=x.fresh hp;by_cases hb:b=a
 .subst hb;rw[qa] at e;cases e;exact new
 .rw[kH hb] at e
  exact(x b u e).stay (λc v _ q=>k c v q) (λc q=>by rw[kH (qc q hn)];exact q) λc xs q=>by rw[kH (qc q hn)];exact q
end
def Rd(H:Hp)(a:È)(u:HO):Prop:=H a=À u\/∃o,H a=À (.frz o u)
def Rd.ok{P:Ï}{w:Ô}{H:Hp}{h:Õ}{a:È}{u:HO}(r:Rd H a u)(x:HOk P w H h):ObjOk P w H h a u:=by
 rcases r with r | ⟨o,r⟩
 .exact x a u r
 .obtain⟨_,q⟩:=x a _ r
  exact q
def pJ:Option HO->Prop
 | some (.lst _)=>True
 | some (.dK _)=>True
 | some (.dT _)=>True
 | some (.set _ _)=>True
 | some (.ins _ _ _)=>True
 | some (.ext _)=>True
 | _=>False
section
variable{P:Ï}{w:Ô}{H:Hp}{h h':Õ}{x e:È}{o':HO}
theorem HOk.write(ok:HOk P w H h)(mu:pJ (H x))(he:e=x\/H e=À (.own x))(k:∀b u,b≠e->h.get? b=À u->h'.get? b=À u)(HZ:∃u,h'.get? e=À u)
  (new:ObjOk P w (upd H x o') h' x o'):HOk P w (upd H x o') h':=λb u q=>by
 have Ip:∀c y,H c=À (.own y)->c≠x:=λc y r z=>by subst z;rw[r] at mu;exact mu
 have LM:∀c xs,H c=À (.tup xs)->c≠x:=λc xs r z=>by subst z;rw[r] at mu;exact mu
 by_cases hb:b=x
 .subst hb;rw[qa] at q;cases q;exact new
 .rw[kH hb] at q
  by_cases hbe:b=e
  .have q':H b=À (.own x):=by
    rcases he with z | z
    .exact absurd (hbe.trans z) hb
    .rw[hbe];exact z
   rw[q] at q';cases q';obtain⟨v,hv⟩:=HZ;exact⟨v,by rw[hbe];exact hv⟩
  .refine(ok b u q).stay (λc v hc r=>k c v ?_ r) (λc r=>by rw[kH (Ip c b r)];exact r) λc xs r=>by rw[kH (LM c xs r)];exact r
   rcases hc with rfl | hc
   .exact hbe
   .rintro rfl
    rcases he with z | z
    .exact Ip c b hc z
    .rw[hc] at z;cases z;exact hb rfl
end
structure Un(fs ex:List È)(H H':Hp)(h h':Õ):Prop where
 keep:∀b o,h.get? b=À o->H b=Á->b∉fs->b∉ex->h'.get? b=À o
 slot:∀b o,h.get? b=À o->H b=Á->b∈fs->b∉ex->∃sl,h'.get? b=À { o with slots:=sl }
 free:∀b o,h.get? b=À o->H b=Á->b∉ex->H' b=Á
 there:∀b o,h.get? b=À o->b∉ex->∃o',h'.get? b=À o'
 tups:∀b xs,H b=À (.tup xs)->H' b=À (.tup xs)
 frzs:∀b o u,H b=À (.frz o u)->H' b=À (.frz o u)
 tbls:∀b ps,H b=À (.tbl ps)->∃more,H' b=À (.tbl (ps++more))
section
variable{fs FM ex Sw:List È}{H H1 H2:Hp}{h h1 h2 h':Õ}{a x e:È}{o:HO}
def Un.any(u:Un fs ex H H1 h h1){b:È}{ob:ó}(q:h.get? b=À ob)(n:H b=Á)(hx:b∉ex):∃sl,h1.get? b=À { ob with slots:=sl }:=by
 by_cases hb:b∈fs
 .exact u.slot b ob q n hb hx
 .exact⟨ob.slots,u.keep b ob q n hb hx⟩
def Un.kept(k:∀b u,h.get? b=À u->h'.get? b=À u):Un fs ex H H h h':=
 ⟨λb ob q _ _ _=>k b ob q,λb ob q _ _ _=>⟨ob.slots,k b ob q⟩,λ_ _ _ n _=>n,λb ob q _=>⟨ob,k b ob q⟩,λ_ _ q=>q,λ_ _ _ q=>q,λ_ ps q=>⟨#[],by rw[q];simp⟩⟩
def Un.refl:Un fs ex H H h h:=Un.kept λ_ _ q=>q
def Un.laid(k:∀b u,h.get? b=À u->h'.get? b=À u)(hp:h.objs.size<=a)(hn:H a=Á):Un fs ex H (upd H a o) h h' where
 keep:=λb u q _ _ _=>k b u q
 slot:=λb u q _ _ _=>⟨u.slots,k b u q⟩
 free:=λb u q n _=>by rw[kH (zL (zN (zJ q) hp))];exact n
 there:=λb u q _=>⟨u,k b u q⟩
 tups:=λb xs q=>by rw[kH (qc q hn)];exact q
 frzs:=λb u xs q=>by rw[kH (qc q hn)];exact q
 tbls:=λb ps q=>⟨#[],by rw[kH (qc q hn),q];simp⟩
def Un.write(mu:pJ (H x))(he:e=x\/H e=À (.own x))(k:∀b u,b≠e->h.get? b=À u->h'.get? b=À u)(HZ:∃u,h'.get? e=À u):Un fs ex H (upd H x o) h h':=by
 have hx:∀b,H b=Á->b≠x:=λb n z=>by subst z;rw[n] at mu;exact mu
 have hb:∀b,H b=Á->b≠e:=λb n z=>by
  subst z;rcases he with r | r
  .exact hx b n r
  .rw[n] at r;cases r
 have hm:∀b u,H b=À u->¬pJ (À u)->b≠x:=λb u q nm z=>by subst z;rw[q] at mu;exact nm mu
 refine⟨λb u q n _ _=>k b u (hb b n) q,λb u q n _ _=>⟨u.slots,k b u (hb b n) q⟩,λb u q n _=>by rw[kH (hx b n)];exact n,λb u q _=>?_,
  λb xs q=>by rw[kH (hm b _ q λz=>z)];exact q,λb u xs q=>by rw[kH (hm b _ q λz=>z)];exact q,λb ps q=>⟨#[],by rw[kH (hm b _ q λz=>z),q];simp⟩⟩
 by_cases hbe:b=e
 .subst hbe;exact HZ
 .exact⟨u,k b u hbe q⟩
end
def Yv(h:Õ)(H:Hp):List È:=(ä h.objs.size).filter λa=>(H a).isSome
def fH(h:Õ)(H:Hp):Õ:=PySem.W.hideAll h (Yv h H)
def JK(h:Õ)(H:Hp):(fH h H).objs.size=h.objs.size:=PySem.W.hideAll_size _ _
def WK{h:Õ}{H:Hp}{b:È}{o:ó}(e:h.get? b=À o)(n:H b=Á):(fH h H).get? b=À o:=
 PySem.W.hideAll_get _ e λhm=>by
  have q:(H b).isSome=Â:=(jc.mp hm).2;rw[n] at q;simp at q
def XM{h:Õ}{H:Hp}{b:È}{o:ó}(e:(fH h H).get? b=À o):h.get? b=À o/\H b=Á:=by
 have e':h.get? b=À o:=PySem.W.of_hideAll (Yv h H) e;refine⟨e',?_⟩;cases q:H b with
 | none=>rfl
 | some x=>
  have hm:b∈Yv h H:=jc.mpr ⟨jX.mpr (zJ e'),by simp[q]⟩;have z:(fH h H).get? b=Á:=PySem.W.hideAll_none (Yv h H) hm;rw[z] at e;cases e
end L2
namespace L2
open PySem PySem.Spec PyProof.Rows
structure Mod(K:Te)(mg:Ç->Option Ã)(base:Õ):Prop where
 kin:K.In base
 glob:base.Ns ß mg
 blt:∃mb,base.Ns builtinsNs mb/\∀x:Ç,x≠"__name__"->mb x=Ø x
 nolimit:base.NoLimit
structure Cx where
 prog:Ï
 w:Ô
 K:Te
 mg:Ç->Option Ã
 base:Õ
 A:Ù
 N:List Ç
 s₀:Å
 H₀:Hp
 env:Env
 outer:List Env
 stack:List Env
 ex:List È
 fn:Ç->Bool
 calm:Bool
 pn:List (È×ó)
 xe:Ã->Å->Prop
def frs(l:List Env):List È:=l.filterMap (·.frame)
abbrev Cx.fs(X:Cx):List È:=frs X.outer
def ZA(sc:ë)(x:Ç):Prop:=sc.names.lookup x=À .local\/sc.names.lookup x=À .cell\/sc.names.lookup x=À .free
def Loc(sc:ë)(x:Ç):Prop:=sc.names.lookup x=À .local\/sc.names.lookup x=À .cell
def Look(env:Env)(h:Õ)(m:Ç->Option Ã)(x:Ç)(u:Ã):Prop:=
 (env.kindOf x=À .local/\m x=À u)\/((env.kindOf x=À .cell\/env.kindOf x=À .free)/\∃c,env.cells.lookup x=À c/\h.IsCell c (À u))
structure Cx.Ok(X:Cx):Prop where
 mod:Mod X.K X.mg X.base
 kind:X.env.scope.kind=.function
 glob:X.env.globals=ß
 blt:X.env.builtins=builtinsNs
 above:X.s₀.heap.objs.size<=X.env.locals
 inj:∀x y c,X.env.cells.lookup x=À c->X.env.cells.lookup y=À c->x=y
 has:∀x,(X.env.kindOf x=À .cell\/X.env.kindOf x=À .free)->∃c,X.env.cells.lookup x=À c
 cab:∀x c,X.fn x=Â->X.env.cells.lookup x=À c->X.s₀.heap.objs.size<=c
 hd:X.calm=Â->X.A.handled=Á
 frames:X.A.frames=À X.stack
 stk:X.stack=X.outer\/(X.stack=X.env::X.outer/\X.env.frame=À X.env.locals)
 exf:∀b∈X.ex,b≠X.env.locals/\∀x c,X.env.cells.lookup x=À c->c≠b
 bs:∀b o,X.base.get? b=À o->X.s₀.heap.get? b=À o/\X.H₀ b=Á
 bsz:X.base.objs.size<=X.s₀.heap.objs.size
 noex:∀b o,X.base.get? b=À o->b∉X.ex
 exfs:∀b∈X.ex,b∉X.fs
 funs:X.s₀.heap.FunFrames X.base X.outer
 frf:∀b∈X.fs,X.H₀ b=Á
structure Inv(X:Cx)(ag:List (È×ó))(σ:List (Option V))(H:Hp)(s:Å):Prop where
 ok:X.Ok
 os:s.os=X.s₀.os
 bare:Ő s.gens
 base:Un X.fs X.ex X.H₀ H X.s₀.heap s.heap
 loc:∃m,s.heap.Ns X.env.locals m/\∀(i:Nat) (x:Ç) (v:V),X.N[i]?=À x->σ[i]?=À (À v)->ZA X.env.scope x->∃u,RelV v u/\Look X.env s.heap m x u
 cell:∀x c,X.env.cells.lookup x=À c->∃v,s.heap.IsCell c v
 free:H X.env.locals=Á
 freeC:∀x c,X.env.cells.lookup x=À c->H c=Á
 pin:∀p∈X.pn++ag,s.heap.get? p.1=À p.2/\H p.1=Á/\p.1≠X.env.locals/\p.1∉X.fs/\∀v,p.2.data≠.cell v
 hok:HOk X.prog X.w H s.heap
 len:σ.length=X.N.length
section
variable{X:Cx}{ag:List (È×ó)}{σ:List (Option V)}{H H':Hp}{s:Å}{h':Õ}
def Cx.Ok.nofr(ok:X.Ok){b:È}{o:ó}(e:X.base.get? b=À o):b∉X.fs:=λhb=>by
 have:=(ok.funs.mem hb).1;rw[e] at this;cases this
theorem Inv.bs(I:Inv X ag σ H s):∀b o,X.base.get? b=À o->s.heap.get? b=À o/\H b=Á:=λb o e=>
 ⟨I.base.keep b o (I.ok.bs b o e).1 (I.ok.bs b o e).2 (I.ok.nofr e) (I.ok.noex b o e),I.base.free b o (I.ok.bs b o e).1 (I.ok.bs b o e).2 (I.ok.noex b o e)⟩
def Inv.bk(I:Inv X ag σ H s):∀b o,X.base.get? b=À o->s.heap.get? b=À o:=λb o e=>(I.bs b o e).1
theorem Inv.mod(I:Inv X ag σ H s):Mod X.K X.mg X.base:=I.ok.mod
def Inv.kIn(I:Inv X ag σ H s):X.K.In s.heap:=I.ok.mod.kin.keeps I.bk
theorem Inv.lt(I:Inv X ag σ H s):X.env.locals<s.heap.objs.size:=let ⟨_,hn,_⟩:=I.loc;hn.lt
def Inv.sz(I:Inv X ag σ H s):X.s₀.heap.objs.size<=s.heap.objs.size:=zp I.ok.above (qQ I.lt)
def Inv.nofs(I:Inv X ag σ H s){a:È}(h:s.heap.objs.size<=a):a∉X.fs:=λhb=>by
 obtain⟨_,o,ho,_⟩:=I.ok.funs.mem hb;exact absurd (zN (zJ ho) (zp I.sz h)) (jO _)
def Inv.cne(I:Inv X ag σ H s):∀x c,X.env.cells.lookup x=À c->c≠X.env.locals:=λx c e z=>by
 obtain⟨v,o,ho,hd⟩:=I.cell x c e;obtain⟨m,⟨o',es,ep,AL,AM,_⟩,_⟩:=I.loc;rw[z,AL] at ho;cases ho;rw[AM] at hd;cases hd
theorem Inv.funs(I:Inv X ag σ H s):s.heap.FunFrames X.base X.outer:=by
 have all:∀(l:List Env),(∀b∈frs l,b∈X.fs)->X.s₀.heap.FunFrames X.base l->s.heap.FunFrames X.base l:=by
  intro l;induction l with
  | nil=>intro _ _;trivial
  | cons env r ih=>
   intro hs hl;obtain⟨hk,⟨L,o,hf,hn,ho,hd⟩,hr⟩:=hl;have hL:L∈X.fs:=hs L (by unfold frs;rw[wA,hf];exact zF);obtain⟨sl,e⟩:=I.base.slot L o ho (I.ok.frf L hL) hL λz=>I.ok.exfs L z hL
   exact⟨hk,⟨L,_,hf,hn,e,hd⟩,ih (λb hb=>hs b (by unfold frs;rw[wA,hf];exact zq _ hb)) hr⟩
 exact all X.outer (λ_ hb=>hb) I.ok.funs
theorem Inv.stack(I:Inv X ag σ H s):s.heap.FunFrames X.base X.stack:=by
 rcases I.ok.stk with e | ⟨e,hf⟩
 .rw[e];exact I.funs
 .rw[e]
  obtain⟨m,hn,_⟩:=I.loc;refine .cons (by rw[I.ok.kind];decide) hf hn ?_ I.funs;exact xG (zp I.ok.bsz I.ok.above)
def Inv.stkSub(I:Inv X ag σ H s):∀b∈frs X.stack,b∈X.env.locals::X.fs:=λb hb=>by
 rcases I.ok.stk with e | ⟨e,hf⟩
 .rw[e] at hb;exact zq _ hb
 .rw[e] at hb
  unfold frs at hb;rw[wA,hf] at hb;exact hb
def Inv.stkFree(I:Inv X ag σ H s):∀b∈frs X.stack,H b=Á:=λb hb=>by
 rcases zg.mp (I.stkSub b hb) with e | hb
 .rw[e];exact I.free
 .obtain⟨_,o,ho,_⟩:=I.ok.funs.mem hb
  exact I.base.free b o ho (I.ok.frf b hb) λz=>I.ok.exfs b z hb
def Inv.step{g':Array ř}{t':Nat}{d':Drawn}{ch:List È}(I:Inv X ag σ H s)
  (EY:∀b∈ch,(b∈X.ex\/X.s₀.heap.objs.size<=b)/\b≠X.env.locals/\(∀x c,X.env.cells.lookup x=À c->c≠b)/\∀p∈X.pn++ag,p.1≠b)
  (keep:∀b o,b≠X.env.locals->b∉X.fs->b∉ch->s.heap.get? b=À o->H b=Á->h'.get? b=À o)
  (slot:∀b o,b≠X.env.locals->b∈X.fs->b∉ch->s.heap.get? b=À o->H b=Á->∃sl,h'.get? b=À { o with slots:=sl }) (free:∀b o,b∉ch->s.heap.get? b=À o->H b=Á->H' b=Á)
  (there:∀b o,b∉ch->s.heap.get? b=À o->∃o',h'.get? b=À o')
  (tups:∀b xs,H b=À (.tup xs)->H' b=À (.tup xs)) (frzs:∀b o u,H b=À (.frz o u)->H' b=À (.frz o u)) (tbls:∀b ps,H b=À (.tbl ps)->∃more,H' b=À (.tbl (ps++more)))
  (ns:∀m,s.heap.Ns X.env.locals m->h'.Ns X.env.locals m) (hok:HOk X.prog X.w H' h') (hg:Ő g') :
  Inv X ag σ H' { s with heap:=h',gens:=g',drawn:=d',toks:=t' }:=by
 have Nv:∀b o,X.s₀.heap.get? b=À o->b≠X.env.locals:=λb o e=>zL (zN (zJ e) I.ok.above)
 have Ln:∀b o,X.s₀.heap.get? b=À o->b∉X.ex->b∉ch:=λb o e hx hb=>by
  rcases(EY b hb).1 with z | z
  .exact hx z
  .exact absurd (zN (zJ e) z) (jO _)
 have cellK:∀x c,X.env.cells.lookup x=À c->∀v,s.heap.IsCell c v->h'.IsCell c v:=λx c e v ⟨o,ho,hd⟩=>by
  have Iq:c∉ch:=λz=>(EY c z).2.2.1 x c e rfl
  by_cases hc:c∈X.fs
  .obtain⟨sl,q⟩:=slot c o (I.cne x c e) hc Iq ho (I.freeC x c e)
   exact⟨_,q,hd⟩
  .exact⟨o,keep c o (I.cne x c e) hc Iq ho (I.freeC x c e),hd⟩
 refine⟨I.ok,I.os,hg,⟨λb o e n hb hx=>?_,λb o e n hb hx=>?_,λb o e n hx=>?_,λb o e hx=>?_,λb xs e=>tups b xs (I.base.tups b xs e),λb o xs e=>frzs b o xs (I.base.frzs b o xs e),λb ps e=>?_⟩,?_,λx c e=>?_,?_,λx c e=>?_,λp hp=>?_,hok,I.len⟩
 .exact keep b o (Nv b o e) hb (Ln b o e hx) (I.base.keep b o e n hb hx) (I.base.free b o e n hx)
 .obtain⟨sl,e1⟩:=I.base.slot b o e n hb hx
  obtain⟨O1,e2⟩:=slot b _ (Nv b o e) hb (Ln b o e hx) e1 (I.base.free b o e n hx);exact⟨O1,e2⟩
 .obtain⟨o',e1⟩:=I.base.there b o e hx
  exact free b o' (Ln b o e hx) e1 (I.base.free b o e n hx)
 .obtain⟨o',e1⟩:=I.base.there b o e hx
  exact there b o' (Ln b o e hx) e1
 .obtain⟨m1,e1⟩:=I.base.tbls b ps e
  obtain⟨m2,e2⟩:=tbls b _ e1;exact⟨m1++m2,by rw[e2,Array.append_assoc]⟩
 .obtain⟨m,hn,hl⟩:=I.loc
  refine⟨m,ns m hn,λi x v e1 e2 e3=>?_⟩;obtain⟨u,r,l⟩:=hl i x v e1 e2 e3;refine⟨u,r,?_⟩;rcases l with l | ⟨k,c,e,z⟩
  .exact .inl l
  .exact .inr ⟨k,c,e,cellK x c e _ z⟩
 .obtain⟨v,z⟩:=I.cell x c e
  exact⟨v,cellK x c e v z⟩
 .obtain⟨m,⟨o,_,_,ho,_⟩,_⟩:=I.loc
  exact free _ o (λz=>(EY _ z).2.1 rfl) ho I.free
 .obtain⟨v,o,ho,hd⟩:=I.cell x c e
  exact free c o (λz=>(EY c z).2.2.1 x c e rfl) ho (I.freeC x c e)
 .obtain⟨e,n,ne,nf,d⟩:=I.pin p hp
  have Iq:p.1∉ch:=λz=>(EY p.1 z).2.2.2 p hp rfl
  exact⟨keep p.1 p.2 ne nf Iq e n,free p.1 p.2 Iq e n,ne,nf,d⟩
def Inv.un{t':Nat}(I:Inv X ag σ H s)(u:Un X.fs [] H H' s.heap h')(hok:HOk X.prog X.w H' h'):Inv X ag σ H' { s with heap:=h',toks:=t' }:=by
 obtain⟨m,⟨o,es,ep,ho,r⟩,_⟩:=id I.loc;obtain⟨sl,hL⟩:=u.any ho I.free (by simp)
 exact I.step (g':=s.gens) (d':=s.drawn) (ch:=[]) (λ_ z=>nomatch z) (λb o _ hb _ e n=>u.keep b o e n hb (by simp)) (λb o _ hb _ e n=>u.slot b o e n hb (by simp)) (λb o _ e n=>u.free b o e n (by simp)) (λb o _ e=>u.there b o e (by simp)) u.tups u.frzs u.tbls (λm' hm=>by
  obtain⟨o',es',Hq,AL,r'⟩:=hm;rw[ho] at AL;cases AL
  exact⟨_,es',Hq,hL,r'⟩) hok I.bare
def Inv.call{g':Array ř}{t':Nat}{d':Drawn}{ch:List È}(I:Inv X ag σ H s)(u:Un (frs X.stack) ch H H' s.heap h')(hok:HOk X.prog X.w H' h')(hg:Ő g')
  (EY:∀b∈ch,(b∈X.ex\/X.s₀.heap.objs.size<=b)/\b≠X.env.locals/\(∀x c,X.env.cells.lookup x=À c->c≠b)/\∀p∈X.pn++ag,p.1≠b) :
  Inv X ag σ H' { s with heap:=h',gens:=g',drawn:=d',toks:=t' }:=by
 obtain⟨m,⟨o,es,ep,ho,r⟩,_⟩:=id I.loc;obtain⟨sl,hL⟩:=u.any ho I.free λz=>(EY _ z).2.1 rfl
 exact I.step (ch:=ch) EY (λb o hL hb hc e n=>u.keep b o e n (λz=>(zg.mp (I.stkSub b z)).elim hL hb) hc) (λb o _ _ hc e n=>u.any e n hc) (λb o hc e n=>u.free b o e n hc) (λb o hc e=>u.there b o e hc) u.tups u.frzs u.tbls (λm' hm=>by
  obtain⟨o',es',Hq,AL,r'⟩:=hm;rw[ho] at AL;cases AL
  exact⟨_,es',Hq,hL,r'⟩) hok hg
def Inv.turned{t':Nat}{it:È}(I:Inv X ag σ H s)(k:∀b o,b≠it->s.heap.get? b=À o->h'.get? b=À o)(hn:H it=Á)(hL:it≠X.env.locals)
  (h1:it∈X.ex\/X.s₀.heap.objs.size<=it) (h2:∀x c,X.env.cells.lookup x=À c->c≠it) (h3:∀p∈X.pn++ag,p.1≠it):Inv X ag σ H { s with heap:=h',toks:=t' }:=by
 have Nw:∀b u,H b=À u->b≠it:=λb u e z=>by rw[z,hn] at e;cases e
 refine I.step (g':=s.gens) (d':=s.drawn) (ch:=[it]) (λb hb=>?_) (λb o _ _ hc e _=>k b o (λz=>hc (by simp[z])) e) (λb o _ _ hc e _=>⟨o.slots,k b o (λz=>hc (by simp[z])) e⟩) (λ_ _ _ _ n=>n)
  (λb o hc e=>⟨o,k b o (λz=>hc (by simp[z])) e⟩) (λ_ _ e=>e) (λ_ _ _ e=>e) (λb ps e=>⟨#[],by rw[e];simp⟩) (λm hm=>?_) (λb u e=>?_) I.bare
 .have e:b=it:=by simpa using hb
  subst e;exact⟨h1,hL,h2,h3⟩
 .obtain⟨o,es,ep,ho,r⟩:=hm
  exact⟨o,es,ep,k _ o (jn hL) ho,r⟩
 .refine(I.hok b u e).stay (λc v hc q=>k c v ?_ q) (λ_ q=>q) λ_ _ q=>q
  rcases hc with z | z
  .rw[z];exact Nw b u e
  .exact Nw c _ z
def Inv.tok(I:Inv X ag σ H s)(t:Nat):Inv X ag σ H { s with toks:=t }:=I.un (h':=s.heap) (t':=t) Un.refl I.hok
theorem Inv.kept{t':Nat}(I:Inv X ag σ H s)(k:∀b u,s.heap.get? b=À u->h'.get? b=À u):Inv X ag σ H { s with heap:=h',toks:=t' }:=I.un (Un.kept k) (I.hok.kept k)
theorem Inv.laid{a:È}{o:HO}{t':Nat}(I:Inv X ag σ H s)(k:∀b u,s.heap.get? b=À u->h'.get? b=À u)(hp:s.heap.objs.size<=a)(new:ObjOk X.prog X.w (upd H a o) h' a o) :
  Inv X ag σ (upd H a o) { s with heap:=h',toks:=t' }:=I.un (Un.laid k hp (I.hok.fresh hp)) (I.hok.laid k hp new)
theorem Inv.write{x e:È}{o:HO}{t':Nat}(I:Inv X ag σ H s)(mu:pJ (H x))(he:e=x\/H e=À (.own x))(k:∀b u,b≠e->s.heap.get? b=À u->h'.get? b=À u)(HZ:∃u,h'.get? e=À u)
  (new:ObjOk X.prog X.w (upd H x o) h' x o):Inv X ag σ (upd H x o) { s with heap:=h',toks:=t' }:=I.un (Un.write mu he k HZ) (I.hok.write mu he k HZ new)
def Inv.pins_of{Hf:List (È×ó)}(I:Inv X ag σ H s)(h:∀p∈Hf,s.heap.get? p.1=À p.2/\H p.1=Á/\p.1≠X.env.locals/\p.1∉X.fs/\∀v,p.2.data≠.cell v):Inv X Hf σ H s:=
 ⟨I.ok,I.os,I.bare,I.base,I.loc,I.cell,I.free,I.freeC,λp hp=>(zx.mp hp).elim (λz=>I.pin p (yH _ z)) (h p),I.hok,I.len⟩
def sE{N:List Ç}(hN:N.Nodup){i j:Nat}{x:Ç}(a:N[i]?=À x)(b:N[j]?=À x):i=j:=by
 obtain⟨h1,e1⟩:=zu.mp a;obtain⟨h2,e2⟩:=zu.mp b;exact(ym hN).mp (e1.trans e2.symm)
def nU{M:Model}{A:Ù}{E:Ã->Å->Prop}{i:Nat}{x:Ç}{v:V}{u:Ã}{Q:Unit->Å->Prop}(I:Inv X ag σ H s)(hN:X.N.Nodup)(hi:X.N[i]?=À x)(hx:Loc X.env.scope x)(r:RelV v u)
  (h:∀s',Inv X ag (σ.set i (À v)) H s'->(∃a,Ü a s.heap s'.heap/\(a=X.env.locals\/X.env.cells.lookup x=À a))->Q () s') (hf:X.fn x=Â\/X.env.scope.names.lookup x=À .local:=by first | exact .inl rfl | exact .inr rfl | assumption):É M A (storeName X.env x u) Q E s:=by
 obtain⟨m,hn,hl⟩:=id I.loc;have LN:(X.env.scope.kind==.class||(X.env.scope.kind==.module&&X.env.locals != X.env.globals))=Ä:=by rw[I.ok.kind];rfl
 have Ir:i<σ.length:=by rw[I.len];exact(zu.mp hi).1
 have cne:=I.cne;have tracked:∀{a:È} {h':Õ},(∃o,s.heap.get? a=À o/\H a=Á)->Ü a s.heap h'->HOk X.prog X.w H h':=λ{a h'} ha hs b ob e=>by
  obtain⟨_,_,Hg⟩:=ha;refine(I.hok b ob e).stay (λc w' hc q=>(hs.2 c ?_).trans q) (λ_ q=>q) λ_ _ q=>q
  rintro rfl;rcases hc with rfl | hc
  .rw[Hg] at e;cases e
  .rw[Hg] at hc;cases hc
 rcases hx with hk | hk
 .refine wpAny_storeName_local hk hn (λh' O2 hs=>?_) LN
  obtain⟨oL,_,_,O3,_⟩:=id hn;refine h _ ⟨I.ok,I.os,I.bare,⟨λb o e n hb hx=>?_,λb o e n hb hx=>?_,I.base.free,λb o e hx=>?_,I.base.tups,I.base.frzs,I.base.tbls⟩,⟨_,O2,λj y v' e1 e2 e3=>?_⟩,λy c e=>?_,I.free,I.freeC,λp hp=>?_,tracked ⟨oL,O3,I.free⟩ hs,by simpa using I.len⟩ ⟨_,hs,.inl rfl⟩
  .exact(hs.2 b (zL (zN (zJ e) I.ok.above))).trans (I.base.keep b o e n hb hx)
  .obtain⟨sl,e1⟩:=I.base.slot b o e n hb hx
   exact⟨sl,(hs.2 b (zL (zN (zJ e) I.ok.above))).trans e1⟩
  .obtain⟨o',e1⟩:=I.base.there b o e hx
   exact⟨o',(hs.2 b (zL (zN (zJ e) I.ok.above))).trans e1⟩
  .by_cases hj:j=i
   .subst hj
    rw[hi] at e1;cases e1;rw[j8 Ir] at e2;cases e2;exact⟨u,r,.inl ⟨hk,by simp⟩⟩
   .rw[qu (jn hj)] at e2
    obtain⟨u',r',q⟩:=hl j y v' e1 e2 e3;refine⟨u',r',?_⟩;rcases q with ⟨k,e⟩ | ⟨k,c,e,z⟩
    .refine .inl ⟨k,?_⟩
     have:y≠x:=λe=>hj (sE hN e1 (e▸hi))
     simp[this,e]
    .exact .inr ⟨k,c,e,z.sameBut hs (cne y c e)⟩
  .obtain⟨w',z⟩:=I.cell y c e
   exact⟨w',z.sameBut hs (cne y c e)⟩
  .obtain⟨e,n,ne,nf,d⟩:=I.pin p hp
   exact⟨(hs.2 p.1 ne).trans e,n,ne,nf,d⟩
 .have LO:X.fn x=Â:=by
   rcases hf with z | z
   .exact z
   .rw[z] at hk;cases hk
  obtain⟨c,hc⟩:=I.ok.has x (.inl hk);obtain⟨w',z⟩:=I.cell x c hc;refine wpAny_storeName_cell I.ok.kind hk hc z (λh' Hh hs=>?_);obtain⟨oc,Nx,LP⟩:=id z;refine h { s with heap:=h' } ⟨I.ok,I.os,I.bare,⟨λb o e n hb hx=>?_,λb o e n hb hx=>?_,I.base.free,λb o e hx=>?_,I.base.tups,I.base.frzs,I.base.tbls⟩,⟨m,hn.sameBut hs (jn (cne x c hc)),λj y v' e1 e2 e3=>?_⟩,λy c' e=>?_,I.free,I.freeC,λp hp=>?_,tracked ⟨oc,Nx,I.freeC x c hc⟩ hs,by simpa using I.len⟩ ⟨c,hs,.inr hc⟩
  .exact(hs.2 b (zL (zN (zJ e) (I.ok.cab x c LO hc)))).trans (I.base.keep b o e n hb hx)
  .obtain⟨sl,e1⟩:=I.base.slot b o e n hb hx
   exact⟨sl,(hs.2 b (zL (zN (zJ e) (I.ok.cab x c LO hc)))).trans e1⟩
  .obtain⟨o',e1⟩:=I.base.there b o e hx
   exact⟨o',(hs.2 b (zL (zN (zJ e) (I.ok.cab x c LO hc)))).trans e1⟩
  .by_cases hj:j=i
   .subst hj
    rw[hi] at e1;cases e1;rw[j8 Ir] at e2;cases e2;exact⟨u,r,.inr ⟨.inl hk,c,hc,Hh⟩⟩
   .rw[qu (jn hj)] at e2
    obtain⟨u',r',q⟩:=hl j y v' e1 e2 e3;refine⟨u',r',?_⟩;rcases q with q | ⟨k,c',e,z'⟩
    .exact .inl q
    .refine .inr ⟨k,c',e,z'.sameBut hs ?_⟩
     rintro rfl;exact hj (sE hN e1 (I.ok.inj _ _ _ e hc▸hi))
  .by_cases hcc:c'=c
   .subst hcc;exact⟨_,Hh⟩
   .obtain⟨w2,z2⟩:=I.cell y c' e
    exact⟨w2,z2.sameBut hs hcc⟩
  .obtain⟨e,n,ne,nf,d⟩:=I.pin p hp
   refine⟨(hs.2 p.1 ?_).trans e,n,ne,nf,d⟩;intro q;rw[q,Nx] at e;have q':oc=p.2:=zW e;exact d w' (by rw[<-q'];exact LP)
def lz{M:Model}{A:Ù}{E:Ã->Å->Prop}{i:Nat}{x:Ç}{v:V}{u:Ã}{Q:Unit->Å->Prop}(I:Inv X ag σ H s)(hN:X.N.Nodup)(hi:X.N[i]?=À x)(hx:Loc X.env.scope x)(r:RelV v u)
  (h:∀s',Inv X ag (σ.set i (À v)) H s'->Q () s') (hf:X.fn x=Â\/X.env.scope.names.lookup x=À .local:=by first | exact .inl rfl | exact .inr rfl | assumption):É M A (storeName X.env x u) Q E s:=
 nU I hN hi hx r (λs' I' _=>h s' I') hf
def Inv.call'{s':Å}{ch:List È}(I:Inv X ag σ H s)(ho:s'.os=s.os)(u:Un (frs X.stack) ch H H' s.heap s'.heap)(hok:HOk X.prog X.w H' s'.heap)(hg:Ő s'.gens)
  (EY:∀b∈ch,(b∈X.ex\/X.s₀.heap.objs.size<=b)/\b≠X.env.locals/\(∀x c,X.env.cells.lookup x=À c->c≠b)/\∀p∈X.pn++ag,p.1≠b):Inv X ag σ H' s':=by
 obtain⟨h',g',d',t',o'⟩:=s';have e:o'=s.os:=ho;subst e;exact I.call (g':=g') (t':=t') (d':=d') u hok hg EY
end
abbrev XK:=Ã->Option È->Hp->Prop
abbrev St:=List (Option V)
abbrev VK:=V->Hp->Prop
abbrev TE:=St->Hp->VK->Prop
abbrev TT:=St->Hp->(Bool->Hp->Prop)->Prop
abbrev TA:=St->Hp->(List V->Hp->Prop)->Prop
structure Ends where
 nx:St->Hp->Prop
 rt:VK
 bk:St->Hp->Prop:=λ_ _=>False
 ct:St->Hp->Prop:=λ_ _=>False
abbrev TS:=Ends->St->Hp->Prop
def EP(X:Cx)(ag:List (È×ó))(σ:St)(Q:VK)(u:Ã)(s':Å):Prop:=∃v H',Inv X ag σ H' s'/\RelV v u/\Q v H'
def TP(X:Cx)(ag:List (È×ó))(σ:St)(Q:Bool->Hp->Prop)(b:Bool)(s':Å):Prop:=∃H',Inv X ag σ H' s'/\Q b H'
def AP(X:Cx)(ag:List (È×ó))(σ:St)(Q:List V->Hp->Prop)(us:List Ã)(s':Å):Prop:=∃vs H',Inv X ag σ H' s'/\Vals vs us/\Q vs H'
def SP(X:Cx)(ag:List (È×ó))(D:Ends)(f:Flow)(s':Å):Prop:=
 match f with
 | .next=>∃hG H',Inv X ag hG H' s'/\D.nx hG H'
 | .brk=>∃hG H',Inv X ag hG H' s'/\D.bk hG H'
 | .cont=>∃hG H',Inv X ag hG H' s'/\D.ct hG H'
 | .ret u=>∃v hG H',Inv X ag hG H' s'/\RelV v u/\D.rt v H'
def PE(X:Cx)(e:Î)(t:TE):Prop:=
 ∀(ag:List (È×ó)) (s:Å) (σ:St) (H:Hp) (Q:VK),Inv X ag σ H s->t σ H Q->É (Í X.prog X.w) X.A (å e X.env) (EP X ag σ Q) X.xe s
def PT(X:Cx)(e:Î)(t:TT):Prop:=
 ∀(ag:List (È×ó)) (s:Å) (σ:St) (H:Hp) (Q:Bool->Hp->Prop),Inv X ag σ H s->t σ H Q->É (Í X.prog X.w) X.A (isTrue e X.env (å e X.env)) (TP X ag σ Q) X.xe s
def PW(X:Cx)(e:Î)(t:TT):Prop:=
 ∀(whole:Sem Ã) (ag:List (È×ó)) (s:Å) (σ:St) (H:Hp) (Q:Bool->Hp->Prop),Inv X ag σ H s->t σ H Q->É (Í X.prog X.w) X.A (isTrue e X.env whole) (TP X ag σ Q) X.xe s
def PW.pt{X:Cx}{e:Î}{t:TT}(h:PW X e t):PT X e t:=h _
def PA(X:Cx)(es:List Î)(t:TA):Prop:=
 ∀(pos:ĝ) (ag:List (È×ó)) (s:Å) (σ:St) (H:Hp) (Q:List V->Hp->Prop),Inv X ag σ H s->t σ H Q->É (Í X.prog X.w) X.A (spliced (á pos (Ì es X.env))) (AP X ag σ Q) X.xe s
def PS(X:Cx)(st:č)(t:TS):Prop:=
 ∀(ag:List (È×ó)) (s:Å) (σ:St) (H:Hp) (D:Ends),Inv X ag σ H s->t D σ H->É (Í X.prog X.w) X.A (exec st X.env) (SP X ag D) X.xe s
def PSs(X:Cx)(st:List č)(t:TS):Prop:=
 ∀(ag:List (È×ó)) (s:Å) (σ:St) (H:Hp) (D:Ends),Inv X ag σ H s->t D σ H->É (Í X.prog X.w) X.A (execs st X.env) (SP X ag D) X.xe s
def ku{α:Type}{t:Sem α}{Q Q':α->Å->Prop}{M:Model}{A:Ù}{E:Ã->Å->Prop}{s:Å}(h:É M A t Q E s)(hQ:∀a s,Q a s->Q' a s):É M A t Q' E s:=qe h hQ λ_ _ x=>x
end L2
namespace L2
open PySem PySem.Spec PyProof.Rows
section
variable{X:Cx}
def F2(i:Nat):TE:=λσ H Q=>∃v,σ[i]?=À (À v)/\Q v H
def tC(v:V):TE:=λ_ H Q=>Q v H
def CM{i:Nat}{x:Ç}{pos:ĝ}(hN:X.N[i]?=À x)(hv:ZA X.env.scope x)(hd:⇑((x==("__debug__":Ç))=Ä))(Eg:⇑((x==("__classdict__":Ç))=Ä)):PE X (.Name x pos) (F2 i):=by
 intro ag s σ H Q I h;obtain⟨v,e,h⟩:=h;obtain⟨m,hn,hl⟩:=I.loc;obtain⟨u,r,l⟩:=hl i x v hN e hv;have fin:EP X ag σ Q u s:=⟨v,H,I,r,h⟩;rcases l with ⟨hk,hm⟩ | ⟨hk,c,hc,AC⟩
 .exact wpAny_Name (ŭ I.ok.kind hk hn hm fin) hd
 .rcases hk with hk | hk
  .exact wpAny_Name (ż I.ok.kind hk hc AC fin) hd
  .exact wpAny_Name (wpAny_loadName_free I.ok.kind hk hc AC fin Eg) hd
def By{i j pos}:PE X (.Constant (.int i) j pos) (tC (.int i)):=λ_ _ _ H _ I h=>wpAny_Constant_int ⟨.int i,H,I.tok _,⟨_,rfl⟩,h⟩
def DO{b j pos}:PE X (.Constant (.bool b) j pos) (tC (.bl b)):=λ_ _ _ H _ I h=>Constant_bool ⟨.bl b,H,I,rfl,h⟩
def C6{j pos}:PE X (.Constant .none j pos) (tC .non):=λ_ _ _ H _ I h=>Constant_none ⟨.non,H,I,rfl,h⟩
def B6{x j pos}:PE X (.Constant (.str x) j pos) (tC (.str x)):=λ_ _ _ H _ I h=>Calls.Constant_str ⟨.str x,H,I.tok _,⟨_,rfl⟩,h⟩
def Gl(X:Cx)(x:Ç):Prop:=X.env.kindOf x=À .globalImplicit
def nA{E:Ã->Å->Prop}{ag:List (È×ó)}{s:Å}{σ:St}{H:Hp}{x:Ç}{u:Ã}{pos:ĝ}{Q:Ã->Å->Prop}(I:Inv X ag σ H s)(hg:Gl X x)(hm:X.mg x=À u)(h:Q u s)
  (hd:⇑((x==("__debug__":Ç))=Ä)):É (Í X.prog X.w) X.A (å (.Name x pos) X.env) Q E s:=
 uY I.ok.kind hg (Calls.loadGlobal_global (by rw[I.ok.glob];exact I.mod.glob.keeps I.bk) hm h) hd
def xw{E:Ã->Å->Prop}{ag:List (È×ó)}{s:Å}{σ:St}{H:Hp}{x:Ç}{u:Ã}{pos:ĝ}{Q:Ã->Å->Prop}(I:Inv X ag σ H s)(hg:Gl X x)(hm:X.mg x=Á)(hv:Ø x=À u)(h:Q u s)
  (hn:⇑(x≠"__name__")) (hd:⇑((x==("__debug__":Ç))=Ä)):É (Í X.prog X.w) X.A (å (.Name x pos) X.env) Q E s:=by
 obtain⟨mb,h1,h2⟩:=I.mod.blt;exact uY I.ok.kind hg (Calls.loadGlobal_builtin (by rw[I.ok.glob];exact I.mod.glob.keeps I.bk) hm (by rw[I.ok.blt];exact h1.keeps I.bk) ((h2 x hn).trans hv) h) hd
def iP{x:Ç}{v:V}{u:Ã}{pos:ĝ}(hg:Gl X x)(hm:X.mg x=À u)(r:RelV v u)(hd:⇑((x==("__debug__":Ç))=Ä)):PE X (.Name x pos) (tC v):=
 λ_ _ _ H _ I h=>nA I hg hm ⟨v,H,I,r,h⟩ hd
def XH{x:Ç}{v:V}{u:Ã}{pos:ĝ}(hg:Gl X x)(hm:X.mg x=Á)(hv:Ø x=À u)(r:RelV v u)(hn:⇑(x≠"__name__"))(hd:⇑((x==("__debug__":Ç))=Ä)):PE X (.Name x pos) (tC v):=
 λ_ _ _ H _ I h=>xw I hg hm hv ⟨v,H,I,r,h⟩ hn hd
variable{a b:Î}{ta tb:TE}{pos:ĝ}
def tB(t:TE):TT:=λσ H Q=>t σ H λx H1=>∃c,x=.bl c/\Q c H1
def C7{e:Î}{t:TE}(h:PE X e t)(he:∀whole,isTrue e X.env whole=(do let v <-whole;standAt e.pos;Ē [v] (truthy v)):=by intro _;rfl):PT X e (tB t):=by
 intro ag s σ H Q I hw;refine isTrue_plain (ku (h ag s σ H _ I hw) ?_) (he _);rintro v s1 ⟨x,H1,I1,r1,q1⟩;obtain⟨d,rfl,q⟩:=q1;cases r1;exact qd ⟨H1,I1,q⟩
variable{tA Lo:TT}{rest:List Î}
def Gx(t u:TT):TT:=λσ H Q=>t σ H λc H1=>if c=Â then u σ H1 Q else Q Ä H1
def GH(t u:TT):TT:=λσ H Q=>t σ H λc H1=>if c=Â then Q Â H1 else u σ H1 Q
def F9(t:TT):TT:=λσ H Q=>t σ H λc H1=>Q (!c) H1
def pw_and1(ha:PT X a tA):PW X (.BoolOp .And [a] pos) tA:=by
 intro wh ag s σ H Q I h;refine isTrue_and (ku (ha ag s σ H Q I h) λc s1 e=>?_);cases c with
 | true=>exact isTrue_and_nil e
 | false=>exact e
def pw_or1(ha:PT X a tA):PW X (.BoolOp .Or [a] pos) tA:=by
 intro wh ag s σ H Q I h;refine isTrue_or (ku (ha ag s σ H Q I h) λc s1 e=>?_);cases c with
 | false=>exact isTrue_or_nil e
 | true=>exact e
def pw_and(ha:PT X a tA)(hb:PW X (.BoolOp .And (b::rest) pos) Lo):PW X (.BoolOp .And (a::b::rest) pos) (Gx tA Lo):=by
 intro wh ag s σ H Q I h;refine isTrue_and (ku (ha ag s σ H _ I h) ?_);rintro c s1 ⟨H1,I1,q1⟩;cases c with
 | true=>exact hb wh ag s1 σ H1 Q I1 q1
 | false=>exact⟨H1,I1,q1⟩
def pw_or(ha:PT X a tA)(hb:PW X (.BoolOp .Or (b::rest) pos) Lo):PW X (.BoolOp .Or (a::b::rest) pos) (GH tA Lo):=by
 intro wh ag s σ H Q I h;refine isTrue_or (ku (ha ag s σ H _ I h) ?_);rintro c s1 ⟨H1,I1,q1⟩;cases c with
 | true=>exact⟨H1,I1,q1⟩
 | false=>exact hb wh ag s1 σ H1 Q I1 q1
def CN(ha:PT X a tA):PT X (.UnaryOp .Not a pos) (F9 tA):=by
 intro ag s σ H Q I h;exact isTrue_not (ha ag s σ H (λc H1=>Q (!c) H1) I h)
def Ft(ta tb:TE):TE:=λσ H Q=>ta σ H λx H1=>∃c,x=.bl c/\if c=Â then tb σ H1 Q else Q (.bl Ä) H1
def Ge(ta tb:TE):TE:=λσ H Q=>ta σ H λx H1=>∃c,x=.bl c/\if c=Â then Q (.bl Â) H1 else tb σ H1 Q
def Fo(ta:TE):TE:=λσ H Q=>ta σ H λx H1=>∃c,x=.bl c/\Q (.bl (!c)) H1
def CK{op}{t:TE}(h:PE X a t):PE X (.BoolOp op [a] pos) t:=λag s σ H Q I hw=>BoolOp_one (h ag s σ H Q I hw)
def Cr(ha:PE X a ta)(hb:PE X (.BoolOp .And (b::rest) pos) tb):PE X (.BoolOp .And (a::b::rest) pos) (Ft ta tb):=by
 intro ag s σ H Q I h;refine BoolOp_and (ku (ha ag s σ H _ I h) ?_);rintro v s1 ⟨x,H1,I1,r1,q1⟩;obtain⟨c,rfl,q1⟩:=q1;cases r1;refine qd ?_;cases c with
 | true=>exact hb ag s1 σ H1 Q I1 q1
 | false=>exact⟨.bl Ä,H1,I1,rfl,q1⟩
def FA(ha:PE X a ta)(hb:PE X (.BoolOp .Or (b::rest) pos) tb):PE X (.BoolOp .Or (a::b::rest) pos) (Ge ta tb):=by
 intro ag s σ H Q I h;refine BoolOp_or (ku (ha ag s σ H _ I h) ?_);rintro v s1 ⟨x,H1,I1,r1,q1⟩;obtain⟨c,rfl,q1⟩:=q1;cases r1;refine qd ?_;cases c with
 | false=>exact hb ag s1 σ H1 Q I1 q1
 | true=>exact⟨.bl Â,H1,I1,rfl,q1⟩
def BD(ha:PE X a ta):PE X (.UnaryOp .Not a pos) (Fo ta):=by
 intro ag s σ H Q I h;refine UnaryOp_ (ku (ha ag s σ H _ I h) ?_);rintro v s1 ⟨x,H1,I1,r1,q1⟩;obtain⟨c,rfl,q1⟩:=q1;cases r1;exact not_of (qd ⟨.bl (!c),H1,I1,rfl,q1⟩)
def GW(t:TT)(ta tb:TE):TE:=λσ H Q=>t σ H λc H1=>if c=Â then ta σ H1 Q else tb σ H1 Q
def Yi{c:Î}(hc:PT X c tA)(ha:PE X a ta)(hb:PE X b tb):PE X (.IfExp c a b pos) (GW tA ta tb):=by
 intro ag s σ H Q I h;refine wpAny_IfExp (ku (hc ag s σ H _ I h) ?_);rintro d s1 ⟨H1,I1,q1⟩;cases d with
 | true=>exact ha ag s1 σ H1 Q I1 q1
 | false=>exact hb ag s1 σ H1 Q I1 q1
end
end L2
namespace L2
open PySem PySem.Spec PyProof.Rows
def SqL(K:Te)(H:Hp)(a:È)(xs:List V):Prop:=
 Rd H a (.lst xs) \/
  ∃(o:ó) (cb:Array Ã) (n:Nat),K.lookup a=À o/\o.cls=.type "list" /\ o.dict=Á/\o.data=.seq cb n/\cb.size<=Ð/\Vals xs cb.toList
def SqT(K:Te)(H:Hp)(a:È)(xs:List V):Prop:=
 Rd H a (.tup xs) \/
  ∃(o:ó) (cb:Array Ã) (n:Nat),K.lookup a=À o/\(o.cls=.type "tuple" /\ o.dict=Á)/\o.data=.seq cb n/\cb.size<=Ð/\Vals xs cb.toList
def F5:Ã->Option V
 | .none=>À .non
 | .bool b=>À (.bl b)
 | .int i _=>À (.int i)
 | .str x _=>À (.str x)
 | .bytes b _=>À (.byt b)
 | .float b _=>À (.flt b)
 | .ref a=>À (.ref a)
 | .type n=>À (.ty n)
 | _=>Á
theorem RelV.abs{x:V}{u:Ã}(r:RelV x u):F5 u=À x:=by
 cases x with
 | non=>cases r;rfl
 | bl _=>cases r;rfl
 | int _=>obtain⟨t,rfl⟩:=r;rfl
 | str _=>obtain⟨t,rfl⟩:=r;rfl
 | byt _=>obtain⟨t,rfl⟩:=r;rfl
 | flt _=>obtain⟨t,rfl⟩:=r;rfl
 | ref _=>cases r;rfl
 | ty _=>cases r;rfl
theorem RelV.inj{x y:V}{u:Ã}(r:RelV x u)(q:RelV y u):x=y:=zW (r.abs.symm.trans q.abs)
theorem Vals.inj{xs ys:List V}{us:List Ã}(h:Vals xs us)(q:Vals ys us):xs=ys:=by
 induction h generalizing ys with
 | nil=>cases q;rfl
 | cons r t ih=>cases q with | cons r' t'=>rw[r.inj r',ih t']
section
variable{X:Cx}{ag:List (È×ó)}{σ:St}{H:Hp}{s:Å}{a:È}{xs ys:List V}
def SqL.of{K:Te}(h:H a=À (.lst xs)):SqL K H a xs:=.inl (.inl h)
def SqT.of{K:Te}(h:H a=À (.tup xs)):SqT K H a xs:=.inl (.inl h)
def Inv.list(I:Inv X ag σ H s)(h:SqL X.K H a xs):∃cb:List Ã,Vals xs cb/\PlainL s.heap a cb.toArray/\xs.length<=Ð:=by
 rcases h with h | ⟨o,cb,n,hk,hc,hd,hs,hz,r⟩
 .obtain⟨z,cb,n,r,e⟩:=h.ok I.hok
  exact⟨cb,r,⟨_,n,e,rfl,rfl,rfl⟩,z⟩
 .refine⟨cb.toList,r,⟨o,n,I.kIn a o hk,hc,hd,by simpa using hs⟩,?_⟩
  have e:=r.length;erw[zU] at e;omega
def Inv.tuple(I:Inv X ag σ H s)(h:SqT X.K H a xs):∃cb:List Ã,Vals xs cb/\Ţ s.heap a cb.toArray/\xs.length<=Ð:=by
 rcases h with h | ⟨o,cb,n,hk,⟨hc,_⟩,hs,hz,r⟩
 .obtain⟨z,cb,r,p,_⟩:=h.ok I.hok
  exact⟨cb,r,p,z⟩
 .refine⟨cb.toList,r,⟨o,I.kIn a o hk,hc,n,by simpa using hs⟩,?_⟩
  have e:=r.length;erw[zU] at e;omega
def Inv.list_inj(I:Inv X ag σ H s)(h:SqL X.K H a xs)(h':SqL X.K H a ys):xs=ys:=by
 obtain⟨cb,r,⟨o,n,e,_,_,d⟩,_⟩:=I.list h;obtain⟨its',r',⟨o',n',e',_,_,d'⟩,_⟩:=I.list h';rw[e] at e';cases e';rw[d] at d';injection d' with d1 _;have:cb=its':=by simpa using jj Array.toList d1
 subst this;exact r.inj r'
def Inv.tuple_inj(I:Inv X ag σ H s)(h:SqT X.K H a xs)(h':SqT X.K H a ys):xs=ys:=by
 obtain⟨cb,r,⟨o,e,_,n,d⟩,_⟩:=I.tuple h;obtain⟨its',r',⟨o',e',_,n',d'⟩,_⟩:=I.tuple h';rw[e] at e';cases e';rw[d] at d';injection d' with d1 _;have:cb=its':=by simpa using jj Array.toList d1
 subst this;exact r.inj r'
end
abbrev Cx.wish(X:Cx)(E:Ã->Å->Prop):Cx:={ X with xe:=E }
abbrev Cx.nox(X:Cx):Cx:=X.wish λ_ _=>False
theorem Cx.Ok.wish{X:Cx}(ok:X.Ok)(E:Ã->Å->Prop):(X.wish E).Ok:=
 ⟨ok.mod,ok.kind,ok.glob,ok.blt,ok.above,ok.inj,ok.has,ok.cab,ok.hd,ok.frames,ok.stk,ok.exf,ok.bs,ok.bsz,ok.noex,ok.exfs,ok.funs,ok.frf⟩
def Cx.Ok.unwish{X:Cx}{E:Ã->Å->Prop}(ok:(X.wish E).Ok):X.Ok:=
 ⟨ok.mod,ok.kind,ok.glob,ok.blt,ok.above,ok.inj,ok.has,ok.cab,ok.hd,ok.frames,ok.stk,ok.exf,ok.bs,ok.bsz,ok.noex,ok.exfs,ok.funs,ok.frf⟩
section
variable{X:Cx}{ag:List (È×ó)}{σ:St}{H:Hp}{s:Å}{E:Ã->Å->Prop}
theorem Inv.wish(I:Inv X ag σ H s)(E:Ã->Å->Prop):Inv (X.wish E) ag σ H s:=⟨I.ok.wish E,I.os,I.bare,I.base,I.loc,I.cell,I.free,I.freeC,I.pin,I.hok,I.len⟩
theorem Inv.unwish(I:Inv (X.wish E) ag σ H s):Inv X ag σ H s:=⟨I.ok.unwish,I.os,I.bare,I.base,I.loc,I.cell,I.free,I.freeC,I.pin,I.hok,I.len⟩
theorem SP.unwish{D:Ends}{f:Flow}{s':Å}(h:SP (X.wish E) ag D f s'):SP X ag D f s':=by
 cases f with
 | next=>obtain⟨hG,H',I,q⟩:=h;exact⟨hG,H',I.unwish,q⟩
 | brk=>obtain⟨hG,H',I,q⟩:=h;exact⟨hG,H',I.unwish,q⟩
 | cont=>obtain⟨hG,H',I,q⟩:=h;exact⟨hG,H',I.unwish,q⟩
 | ret u=>obtain⟨v,hG,H',I,r,q⟩:=h;exact⟨v,hG,H',I.unwish,r,q⟩
theorem PSs.nox{st:List č}{t:TS}(h:PSs X.nox st t):PSs X st t:=λag s σ H D I hw=>
 qe (h ag s σ H D (I.wish _) hw) (λ_ _ q=>q.unwish) λ_ _ z=>ē z
end
section
variable{X:Cx}{st:č}{rest:List č}{t u:TS}{e:Î}{te:TE}{pos:ĝ}
def YB:TS:=λD σ H=>D.nx σ H
def FU(t u:TS):TS:=λD σ H=>t { D with nx:=u D } σ H
def UK:PSs X [] YB:=λ_ _ σ H _ I h=>yP ⟨σ,H,I,h⟩
def W7(h1:PS X st t)(h2:PSs X rest u):PSs X (st::rest) (FU t u):=by
 intro ag s σ H D I h;refine wpAny_execs_cons (ku (h1 ag s σ H { D with nx:=u D } I h) λf s1 q=>?_);cases f with
 | next=>
  obtain⟨hG,H',I',q⟩:=q;exact h2 ag s1 hG H' D I' q
 | ret v=>exact q
 | brk=>exact q
 | cont=>exact q
def XY(h1:PS X st t):PSs X [st] t:=by
 intro ag s σ H D I h;refine wpAny_execs_cons (ku (h1 ag s σ H D I h) λf s1 q=>?_);cases f with
 | next=>exact yP q
 | ret v=>exact q
 | brk=>exact q
 | cont=>exact q
def U0:PS X (.Pass pos) YB:=λ_ _ σ H _ I h=>wpAny_Pass ⟨σ,H,I,h⟩
def Inv.quiet{ag:List (È×ó)}{σ:St}{H:Hp}{s:Å}(I:Inv X ag σ H s):interactive X.env=Ä:=by simp[interactive,I.ok.kind]
def Fv(te:TE):TS:=λD σ H=>te σ H λ_ H1=>D.nx σ H1
def XD(he:PE X e te)(hs:↥(Ď e Á pos.line X.env=pure Ä)):PS X (.Expr e pos) (Fv te):=by
 intro ag s σ H D I h;exact wpAny_Expr_any (ku (he ag s σ H _ I h) λv s1 O4=>(by obtain⟨x,H1,I1,r1,q1⟩:=O4;exact⟨σ,H1,I1,q1⟩)) I.quiet hs
def FW(te:TE):TS:=λD σ H=>te σ H D.rt
def BW(he:PE X e te):PS X (.Return (À e) pos) (FW te):=by
 intro ag s σ H D I h;exact wpAny_Return_some (ku (he ag s σ H _ I h) λv s1 O5=>(by obtain⟨x,H1,I1,r1,q1⟩:=O5;exact⟨x,σ,H1,I1,r1,q1⟩))
def FT(c:TT)(t u:TS):TS:=λD σ H=>c σ H λb H1=>if b=Â then t D σ H1 else u D σ H1
def Fp{c:Î}{a b:List č}{tc:TT}(hc:PT X c tc)(ha:PSs X a t)(hb:PSs X b u):PS X (.If c a b pos) (FT tc t u):=by
 intro ag s σ H D I h;refine wpAny_If (ku (hc ag s σ H _ I h) ?_);rintro d s1 ⟨H1,I1,q1⟩;cases d with
 | true=>exact ha ag s1 σ H1 D I1 q1
 | false=>exact hb ag s1 σ H1 D I1 q1
end
abbrev TG:=V->St->Hp->(St->Hp->Prop)->Prop
abbrev rH:=List V->St->Hp->(St->Hp->Prop)->Prop
def PG(X:Cx)(target:Î)(t:TG):Prop:=
 ∀(ag:List (È×ó)) (s:Å) (σ:St) (H:Hp) (v:V) (u:Ã) (Q:St->Hp->Prop),Inv X ag σ H s->RelV v u->t v σ H Q->
  É (Í X.prog X.w) X.A (Ľ target X.env u) (λ_ s'=>∃hG H',Inv X ag hG H' s'/\Q hG H') X.xe s
def PGs(X:Cx)(ts:List Î)(t:rH):Prop:=
 ∀(ag:List (È×ó)) (s:Å) (σ:St) (H:Hp) (vs:List V) (us:List Ã) (Q:St->Hp->Prop),Inv X ag σ H s->Vals vs us->t vs σ H Q->
  É (Í X.prog X.w) X.A (assignInOrder ((ñ ts X.env).map (·.2)) us) (λ_ s'=>∃hG H',Inv X ag hG H' s'/\Q hG H') X.xe s
abbrev VJ:=V->V->V->Hp->(Hp->Prop)->Prop
def Jk(X:Cx)(t:VJ):Prop:=
 ∀(ag:List (È×ó)) (s:Å) (σ:St) (H:Hp) (o i v:V) (ov iv u:Ã) (Q:Hp->Prop),Inv X ag σ H s->RelV o ov->RelV i iv->RelV v u->t o i v H Q->
  É (Í X.prog X.w) X.A (setItem ov iv u) (λ_ s'=>∃H',Inv X ag σ H' s'/\Q H') X.xe s
abbrev YF:=V->V->Hp->VK->Prop
def Vc(X:Cx)(op:ī)(t:YF):Prop:=
 ∀(ag:List (È×ó)) (s:Å) (σ:St) (H:Hp) (x y:V) (v u:Ã) (Q:VK),Inv X ag σ H s->RelV x v->RelV y u->t x y H Q->
  É (Í X.prog X.w) X.A (inplaceOp op v u) (EP X ag σ Q) X.xe s
section
variable{X:Cx}{pos:ĝ}
def Yx(i:Nat):TG:=λv σ H Q=>Q (σ.set i (À v)) H
def Xz{i:Nat}{x:Ç}(hN:X.N.Nodup)(hi:X.N[i]?=À x)(hx:Loc X.env.scope x)(hf:X.fn x=Â\/X.env.scope.names.lookup x=À .local:=by first | exact .inl rfl | exact .inr rfl | assumption):PG X (.Name x pos) (Yx i):=by
 intro ag s σ H v u Q I r h;exact wpAny_assign_Name (lz I hN hi hx r (λs' I'=>⟨_,H,I',h⟩) hf)
def Gg:rH:=λvs σ H Q=>vs=[]/\Q σ H
def Fd(t:TG)(u:rH):rH:=λvs σ H Q=>∃v r,vs=v::r/\t v σ H λhG H'=>u r hG H' Q
def X7:PGs X [] Gg:=by
 intro ag s σ H vs us Q I r h;obtain⟨e,h⟩:=h;subst e;cases r;exact assignInOrder_nil ⟨σ,H,I,h⟩
def WN{e:Î}{es:List Î}{t:TG}{u:rH}(h1:PG X e t)(h2:PGs X es u)
  (hs:↥((ñ (e::es) X.env).map (·.2)=Ľ e X.env::(ñ es X.env).map (·.2))):PGs X (e::es) (Fd t u):=by
 intro ag s σ H vs us Q I r h;obtain⟨v,vr,e1,h⟩:=h;subst e1;cases r with
 | cons r rr=>
  rw[hs];refine assignInOrder_cons (ku (h1 ag s σ H _ _ _ I r h) ?_);rintro _ s1 ⟨GM,H1,I1,q1⟩;exact h2 ag s1 GM H1 _ _ Q I1 rr q1
def F8(K:Te)(n:Nat)(t:rH):TG:=λv σ H Q=>∃a xs,v=.ref a/\SqT K H a xs/\xs.length=n/\t xs σ H Q
def B4{es:List Î}{k:Nat}{t:rH}{n:Nat}(hc:X.calm=Â)(h:PGs X es t)
  (hn:↥((ñ es X.env).length=n)) (r9:↥((ñ es X.env).findIdx? (·.1)=Á)):PG X (.Tuple es k pos) (F8 X.K n t):=by
 intro ag s σ H v u Q I r hw;obtain⟨a,xs,e1,hq,hl,hw⟩:=hw;subst e1;cases r;obtain⟨cb,rv,ht,hz⟩:=I.tuple hq;refine assign_Tuple_tuple (I.ok.hd hc) ht (by simp[hn,<-hl,rv.length]) r9 λh' hx=>?_
 have I1:Inv X ag σ H { s with heap:=h' }:=I.kept (t':=s.toks) λb o e=>hx b o (zL (zJ e)) e
 exact h ag _ σ H xs _ Q I1 (by simpa using rv) hw
def F7(to ti:TE)(t:VJ):TG:=λv σ H Q=>to σ H λo H1=>ti σ H1 λi H2=>t o i v H2 λH3=>Q σ H3
def BY{o i:Î}{to ti:TE}{t:VJ}(ho:PE X o to)(hi:PE X i ti)(hs:Jk X t)
  (ha:∀v,Ľ (.Subscript o i pos) X.env v=(do
   let ov <-Ē [v] (å o X.env)
   let iv <-Ē [v,ov] (å i X.env)
   standAt pos
   Ē [v,ov,iv] (setItem ov iv v)
   release [v,ov,iv] []):=by intro _;rfl):PG X (.Subscript o i pos) (F7 to ti t):=by
 intro ag s σ H v u Q I r h;rw[ha];refine za (jm (ku (ho ag s σ H _ I h) ?_));rintro ov s1 ⟨x,H1,I1,r1,q1⟩;refine za (jm (ku (hi ag s1 σ H1 _ I1 q1) ?_));rintro iv s2 ⟨y,H2,I2,r2,q2⟩;refine za (wpAny_standAt (za (jm (ku (hs ag s2 σ H2 x y v ov iv u _ I2 r1 r2 r q2) ?_))));rintro _ s3 ⟨H3,I3,q3⟩;exact wpAny_release ⟨σ,H3,I3,q3⟩
def CQ(te:TE)(g:TG):TS:=λD σ H=>te σ H λx H1=>g x σ H1 D.nx
def CC{tg e:Î}{te:TE}{g:TG}(he:PE X e te)(hg:PG X tg g)(hs:↥(ő [tg] e pos.line X.env=pure Ä))(hw:↥(Œ [tg] e X.env=pure Á))
  (h1:↥((ñ [tg] X.env).map (·.2)=[Ľ tg X.env])):PS X (.Assign [tg] e pos) (CQ te g):=by
 intro ag s σ H D I h;refine wpAny_Assign_stores (ku (he ag s σ H _ I h) ?_) hs hw;rintro v s1 ⟨x,H1,I1,r1,q1⟩;rw[h1];exact ku (hg ag s1 σ H1 x v _ I1 r1 q1) λ_ s2 q=>q
def DJ{i:Nat}{x:Ç}{e:Î}{te:TE}{Av:ĝ}(hN:X.N.Nodup)(hi:X.N[i]?=À x)(hx:Loc X.env.scope x)(he:PE X e te)(hs:↥(Ď e (À (.Name x Av)) pos.line X.env=pure Ä))(hf:X.fn x=Â\/X.env.scope.names.lookup x=À .local:=by first | exact .inl rfl | exact .inr rfl | assumption) :
  PS X (.Assign [.Name x Av] e pos) (CQ te (Yx i)):=by
 intro ag s σ H D I h;refine wpAny_Assign_Name (ku (he ag s σ H _ I h) ?_) hs;rintro v s1 ⟨y,H1,I1,r1,q1⟩;exact lz I1 hN hi hx r1 (λs2 I2=>⟨_,H1,I2,q1⟩) hf
def Gp(i:Nat)(te:TE)(ti:YF):TS:=λD σ H=>∃x,σ[i]?=À (À x)/\te σ H λy H1=>ti x y H1 λz H2=>D.nx (σ.set i (À z)) H2
def Dg{i:Nat}{x:Ç}{e:Î}{te:TE}{op:ī}{ti:YF}{Av:ĝ}(hN:X.N.Nodup)(hi:X.N[i]?=À x)(hx:Loc X.env.scope x)(he:PE X e te)(ho:Vc X op ti)(hf:X.fn x=Â\/X.env.scope.names.lookup x=À .local:=by first | exact .inl rfl | exact .inr rfl | assumption) :
  PS X (.AugAssign (.Name x Av) op e pos) (Gp i te ti):=by
 intro ag s σ H D I h;obtain⟨v,e1,h⟩:=h;obtain⟨m,hn,hl⟩:=I.loc;have LQ:ZA X.env.scope x:=by rcases hx with k | k;exact .inl k;exact .inr (.inl k)
 obtain⟨u,r,l⟩:=hl i x v hi e1 LQ;refine wpAny_AugAssign_Name ?_;have go:É (Í X.prog X.w) X.A (å e X.env) (λw Ad=>É (Í X.prog X.w) X.A (inplaceOp op u w) (λr AW=>É (Í X.prog X.w) X.A (storeName X.env x r) (λ_=>SP X ag D .next) X.xe AW) X.xe Ad) X.xe s:=by
  refine ku (he ag s σ H _ I h) ?_;rintro w s1 ⟨y,H1,I1,r1,q1⟩;refine ku (ho ag s1 σ H1 v y u w _ I1 r r1 q1) ?_;rintro z s2 ⟨zv,H2,I2,r2,q2⟩;exact lz I2 hN hi hx r2 (λs3 I3=>⟨_,H2,I3,q2⟩) hf
 rcases l with ⟨hk,hm⟩ | ⟨hk,c,hc,AC⟩
 .exact ŭ I.ok.kind hk hn hm go
 .rcases hk with hk | hk
  .exact ż I.ok.kind hk hc AC go
  .rcases hx with k | k
   .have:X.env.scope.names.lookup x=À .free:=hk
    rw[k] at this;cases this
   .have:X.env.scope.names.lookup x=À .free:=hk
    rw[k] at this;cases this
def GC(f:Int->Int->Int):YF:=λx y H Q=>∃i j,x=.int i/\y=.int j/\Q (.int (f i j)) H
def Ba:Vc X .Add (GC λi j=>i+j):=by
 intro ag s σ H x y v u Q I r1 r2 h;obtain⟨i,j,e1,e2,q⟩:=h;subst e1;subst e2;obtain⟨t,rfl⟩:=r1;obtain⟨t',rfl⟩:=r2;exact iadd_int ⟨.int _,H,I.tok _,⟨_,rfl⟩,q⟩
end
section
variable{X:Cx}{pos:ĝ}
def DI(c:TT)(tb:TS):TS:=λD σ H=>∃W:Nat->St->Hp->Prop,(∃m,W m σ H)/\∀m σ H,W m σ H->
 c σ H λb H1=>if b=Â then ∃N:St->Hp->Prop,(∀hG H',N hG H'->∃m',m'<m/\W m' hG H')/\tb { D with nx:=N,ct:=N,bk:=D.nx } σ H1 else D.nx σ H1
def Wl{c:Î}{body:List č}{tc:TT}{tb:TS}(hp:ź (Í X.prog X.w) X.A X.env X.xe)(hc:PT X c tc)(hb:PSs X body tb):PS X (.While c body [] pos) (DI tc tb):=by
 intro ag s σ H D I h;obtain⟨W,⟨m0,w0⟩,turn⟩:=h;refine wpAny_While (codeAny_whileLoop (λn s'=>∃hG H',Inv X ag hG H' s'/\W n hG H') ?_ m0 ⟨σ,H,I,w0⟩);rintro n s1 ⟨GM,H1,I1,w1⟩;refine vh hp (ku (hc ag s1 GM H1 _ I1 (turn n GM H1 w1)) ?_);rintro b s2 ⟨H2,I2,q2⟩;cases b with
 | true=>
  obtain⟨N,hN,q2⟩:=q2;rw[zQ rfl];refine vh hp (ku (hb ag s2 GM H2 _ I2 q2) λf s3 q3=>?_);cases f with
  | next=>
   obtain⟨AX,H3,I3,n3⟩:=q3;obtain⟨m',hm,w3⟩:=hN AX H3 n3;exact⟨m',hm,AX,H3,I3,w3⟩
  | cont=>
   obtain⟨AX,H3,I3,n3⟩:=q3;obtain⟨m',hm,w3⟩:=hN AX H3 n3;exact⟨m',hm,AX,H3,I3,w3⟩
  | brk=>exact q3
  | ret v=>exact q3
 | false=>
  rw[zX zV];exact yP ⟨GM,H2,I2,q2⟩
end
structure It where
 go:Nat->Hp->Prop
 yld:Nat->Hp->V->Hp->Prop
 stop:Nat->Hp->Prop
def aT(X:Cx)(ag:List (È×ó))(H:Hp)(b:È):Prop:=
 H b=Á/\b≠X.env.locals/\b∉X.fs/\(b∈X.ex\/X.s₀.heap.objs.size<=b)/\(∀x c,X.env.cells.lookup x=À c->c≠b)/\∀p∈X.pn++ag,p.1≠b
def Inv.fpOk{X:Cx}{ag:List (È×ó)}{σ:St}{H H':Hp}{s:Å}{b:È}(I:Inv X ag σ H s)(hb:s.heap.objs.size<=b)(hn:H' b=Á):aT X ag H' b:=by
 refine⟨hn,v6 (zN I.lt hb),I.nofs hb,.inr (zp I.sz hb),λx c e z=>?_,λp hp z=>?_⟩
 .obtain⟨v,q⟩:=I.cell x c e
  exact absurd (zN q.lt (by rw[z];exact hb)) (jO _)
 .exact absurd (zN (zJ (I.pin p hp).1) (by rw[z];exact hb)) (jO _)
structure Turn(P:Ï)(w:Ô)(K:Te)(tg:Î)(J:It)(fp:List È)(it:È)(tn:Nat->Õ->Prop):Prop where
 mem:it∈fp
 obj:∀i h,tn i h->∀b∈fp,∃o,h.get? b=À o/\∀v,o.data≠.cell v
 keep:∀i h h',tn i h->(∀b∈fp,∀o,h.get? b=À o->h'.get? b=À o)->tn i h'
 item:∀(X:Cx),X.prog=P->X.w=w->X.K=K->X.calm=Â->∀(i:Nat) (ag:List (È×ó)) (s:Å) (σ:St) (H:Hp) (E:Ã->Å->Prop),Inv X ag σ H s->(∀b∈fp,aT X ag H b)->tn i s.heap->J.go i H->
  É (Í P w) X.A (ę (.ref it)) (λr s1=>∃u,r=À u /\
   É (Í P w) X.A (ľ tg (.ref it) u) (λ_ s2=>∃x H',Inv X ag σ H' s2/\RelV x u/\J.yld i H x H'/\tn (i+1) s2.heap/\∀b∈fp,H' b=Á) E s1) E s
 done:∀(X:Cx),X.prog=P->X.w=w->X.K=K->X.calm=Â->∀(i:Nat) (ag:List (È×ó)) (s:Å) (σ:St) (H:Hp) (E:Ã->Å->Prop),Inv X ag σ H s->(∀b∈fp,aT X ag H b)->tn i s.heap->J.stop i H->
  É (Í P w) X.A (ę (.ref it)) (λr s1=>r=Á/\Inv X ag σ H s1) E s
 self:∀(A:Ù) (i:Nat) (s:Å) (Q:Ã->Å->Prop) (E:Ã->Å->Prop),tn i s.heap->Q (.ref it) s->É (Í P w) A (Ĭ (.ref it)) Q E s
abbrev TI:=St->Hp->(It->Hp->Prop)->Prop
def PIE(X:Cx)(ag:List (È×ó))(σ:St)(tg:Î)(R:It->Hp->Prop)(LR:Ã)(s2:Å):Prop:=
 ∃(it:È) (fp:List È) (tn:Nat->Õ->Prop) (J:It) (H':Hp),LR=.ref it/\Inv X ag σ H' s2/\Turn X.prog X.w X.K tg J fp it tn/\tn 0 s2.heap/\(∀b∈fp,aT X ag H' b)/\R J H'
def PI(X:Cx)(tg iter:Î)(wi:TI):Prop:=
 ∀(ag:List (È×ó)) (s:Å) (σ:St) (H:Hp) (R:It->Hp->Prop),Inv X ag σ H s->wi σ H R->
  É (Í X.prog X.w) X.A (å iter X.env) (λv s1=>É (Í X.prog X.w) X.A (Ĭ v) (PIE X ag σ tg R) X.xe s1) X.xe s
def pM {M : Model} {A : Ù} {E : Ã -> Å -> Prop} {s : Å} {tg : Î} {it : È} {u : Ã} {o : ó} {n : String} {vs : Array Ã} {Q : Unit -> Å -> Prop} (ho : s.heap.get? it = À o) (hc : o.cls = .type n) (hd : o.data = .fields vs)
    (hn : ["enumerate", "zip", "dict_itemiterator", "dict_reverseitemiterator", "odict_iterator", "itertools.zip_longest", "itertools.pairwise"].contains n = Ä) (hQ : Q () s) : É M A (ľ tg (.ref it) u) Q E s := by
  unfold ľ;cases tg <;> first
    | exact zf hQ
    | (cases u <;> first
        | exact zf hQ
        | (refine za (xj ho ?_)
           rw [hc, hd];show É M A (if (["enumerate", "zip", "dict_itemiterator", "dict_reverseitemiterator", "odict_iterator", "itertools.zip_longest", "itertools.pairwise"].contains n && vs[0]? == À (ÿ _)) = Â then _ else _) Q E s
           rw [zX (by intro h;rw [hn, Bool.false_and] at h;cases h)]
           exact zf hQ))
def Yw(K:Te)(a:È):It:=
 ⟨λi H=>∃xs x,SqL K H a xs/\xs[i]?=À x,λi H x H'=>H'=H/\∀xs,SqL K H a xs->xs[i]?=À x,λi H=>∃xs,SqL K H a xs/\xs.length<=i⟩
def CW(K:Te)(a:È):It:=
 ⟨λi H=>∃xs x,SqT K H a xs/\xs[i]?=À x,λi H x H'=>H'=H/\∀xs,SqT K H a xs->xs[i]?=À x,λi H=>∃xs,SqT K H a xs/\xs.length<=i⟩
def Yq(lo:Int)(n:Nat):It:=⟨λi _=>i<n,λi H x H'=>H'=H/\x=.int (lo+i),λi _=>n<=i⟩
def JZ{P:Ï}{w:Ô}{K:Te}{tg:Î}(a it:È):Turn P w K tg (Yw K a) [it] it (λi h=>h.IsListIter it a i) where
 mem:=by simp
 obj:=λi h st b hb=>by
  have e:b=it:=by simpa using hb
  subst e;obtain⟨o,e,c,d⟩:=st;exact⟨o,e,λv z=>by rw[d] at z;cases z⟩
 keep:=λi h h' st k=>st.at λo e=>k it (by simp) o e
 item:=by
  intro X hP hw hK hc i ag s σ H E I hf st hg;subst hP hw hK;obtain⟨xs,x,hq,hx⟩:=hg;obtain⟨cb,rv,p,hz⟩:=I.list hq;obtain⟨u,hu,ru⟩:=rv.get hx;obtain⟨f0,f1,f2,f3,f4,f5⟩:=hf it (by simp);refine wpAny_pyNext_list_item st p.isList (x:=u) (by simpa using hu) λh' AD sb=>?_
  have I1:Inv X ag σ H { s with heap:=h' }:=I.turned (t':=s.toks) (λb o hb e=>(sb.2 b hb).trans e) f0 f1 f3 f4 f5;obtain⟨o,e,c,d⟩:=id AD;exact⟨u,rfl,pM (s:={ s with heap:=h' }) e c d (by decide) ⟨x,H,I1,ru,⟨rfl,λys hy=>by rw[I.list_inj hy hq];exact hx⟩,AD,λb hb=>(hf b hb).1⟩⟩
 done:=by
  intro X hP hw hK hc i ag s σ H E I hf st hg;subst hP hw hK;obtain⟨xs,hq,hx⟩:=hg;obtain⟨cb,rv,p,hz⟩:=I.list hq;obtain⟨f0,f1,f2,f3,f4,f5⟩:=hf it (by simp);have hl:=rv.length;exact wpAny_pyNext_list_end (I.ok.hd hc) st p.isList (by simp;omega) λh' eb=>⟨rfl,I.turned (t':=s.toks) (λb o hb e=>eb b o hb e) f0 f1 f3 f4 f5⟩
 self:=λ_ _ _ _ _ st h=>wpAny_pyIter_listiter st h
def Km{P:Ï}{w:Ô}{K:Te}{tg:Î}(a it:È):Turn P w K tg (CW K a) [it] it (λi h=>h.IsTupleIter it a i) where
 mem:=by simp
 obj:=λi h st b hb=>by
  have e:b=it:=by simpa using hb
  subst e;obtain⟨o,e,c,d⟩:=st;exact⟨o,e,λv z=>by rw[d] at z;cases z⟩
 keep:=λi h h' st k=>st.at λo e=>k it (by simp) o e
 item:=by
  intro X hP hw hK hc i ag s σ H E I hf st hg;subst hP hw hK;obtain⟨xs,x,hq,hx⟩:=hg;obtain⟨cb,rv,p,hz⟩:=I.tuple hq;obtain⟨u,hu,ru⟩:=rv.get hx;obtain⟨f0,f1,f2,f3,f4,f5⟩:=hf it (by simp);refine wpAny_pyNext_tuple_item st (show s.heap.IsTuple a cb.toArray from p) (x:=u) (by simpa using hu) λh' AD sb=>?_
  have I1:Inv X ag σ H { s with heap:=h' }:=I.turned (t':=s.toks) (λb o hb e=>(sb.2 b hb).trans e) f0 f1 f3 f4 f5;obtain⟨o,e,c,d⟩:=id AD;exact⟨u,rfl,pM (s:={ s with heap:=h' }) e c d (by decide) ⟨x,H,I1,ru,⟨rfl,λys hy=>by rw[I.tuple_inj hy hq];exact hx⟩,AD,λb hb=>(hf b hb).1⟩⟩
 done:=by
  intro X hP hw hK hc i ag s σ H E I hf st hg;subst hP hw hK;obtain⟨xs,hq,hx⟩:=hg;obtain⟨cb,rv,p,hz⟩:=I.tuple hq;obtain⟨f0,f1,f2,f3,f4,f5⟩:=hf it (by simp);have hl:=rv.length;exact wpAny_pyNext_tuple_end (I.ok.hd hc) st (show s.heap.IsTuple a cb.toArray from p) (by simp;omega) λh' eb=>⟨rfl,I.turned (t':=s.toks) (λb o hb e=>eb b o hb e) f0 f1 f3 f4 f5⟩
 self:=λ_ _ _ _ _ st h=>wpAny_pyIter_tupleiter st h
def Je{P:Ï}{w:Ô}{K:Te}{tg:Î}(it:È)(lo:Int)(n:Nat):Turn P w K tg (Yq lo n) [it] it (λi h=>IsRangeIter h it (lo+(i:Nat)*1) ((n:Int)-(i:Nat)) 1) where
 mem:=by simp
 obj:=λi h st b hb=>by
  have e:b=it:=by simpa using hb
  subst e
  exact⟨_,st,λv z=>by
   have z':Data.fields _=Data.cell v:=z
   cases z'⟩
 keep:=λi h h' st k=>k it (by simp) _ st
 item:=by
  intro X hP hw hK hc i ag s σ H E I hf st hg;subst hP hw hK;obtain⟨f0,f1,f2,f3,f4,f5⟩:=hf it (by simp);have W:=Walks.range (prog:=X.prog) (w:=X.w) (I.ok.hd hc) it lo 1 n;refine W.item i s _ _ hg st λv h' tk hv AD kk=>?_
  obtain⟨t,rfl⟩:=hv;have I1:Inv X ag σ H { s with heap:=h',toks:=tk }:=I.turned (λb o hb e=>kk b o (by simpa using hb) e) f0 f1 f3 f4 f5;refine⟨_,rfl,pM (s:={ s with heap:=h',toks:=tk }) (n:="range_iterator") AD rfl rfl (by decide) ⟨.int (lo+i),H,I1,⟨t,?_⟩,⟨rfl,rfl⟩,AD,λb hb=>(hf b hb).1⟩⟩;rw[Int.mul_one]
 done:=by
  intro X hP hw hK hc i ag s σ H E I hf st hg;subst hP hw hK;obtain⟨f0,f1,f2,f3,f4,f5⟩:=hf it (by simp);exact wpAny_pyNext_range_end (I.ok.hd hc) st (by have:n<=i:=hg;omega) λh' eb=>⟨rfl,I.turned (t':=s.toks) (λb o hb e=>eb b o hb e) f0 f1 f3 f4 f5⟩
 self:=λ_ _ _ _ _ st h=>wpAny_pyIter_rangeiter st h
end L2
namespace L2
open PySem PySem.Spec PyProof.Rows
section
variable{X:Cx}{tg:Î}
def Wb{ag:List (È×ó)}{σ:St}{H:Hp}{s:Å}{R:It->Hp->Prop}{E:Ã->Å->Prop}{lo hi:Int}{t u v:Tok}{tk:Nat}(I:Inv X ag σ H s)(h1:-(2 ^ 62)<=lo)(h2:lo<2 ^ 62)(h3:-(2 ^ 62)<=hi)(h4:hi<2 ^ 62)
  (q:R (Yq lo (hi-lo).toNat) H):É (Í X.prog X.w) X.A (Ĭ (.ref s.heap.objs.size)) (PIE X ag σ tg R) E { s with heap:=s.heap.push { cls:=.type "range",data:=.fields #[.int lo t,.int hi u,.int 1 v] },toks:=tk }:=by
 refine wpAny_pyIter_range (IsRange.new ..) (small_one h1 h2 h3 h4) ?_;have I1:Inv X ag σ H { s with heap:=s.heap.push { cls:=.type "range",data:=.fields #[.int lo t,.int hi u,.int 1 v] },toks:=tk }:=I.kept λb o e=>zc _ e
 refine⟨(s.heap.push { cls:=.type "range",data:=.fields #[.int lo t,.int hi u,.int 1 v] }).objs.size,[(s.heap.push { cls:=.type "range",data:=.fields #[.int lo t,.int hi u,.int 1 v] }).objs.size],_,_,H,rfl,
  I1.kept (t':=tk) λb o e=>zc _ e,Je _ lo (hi-lo).toNat,?_,λb hb=>?_,q⟩
 .have e1:lo+((0:Nat):Int)*1=lo:=by simp
  have e2:(((hi-lo).toNat:Nat):Int)-((0:Nat):Int)=Builtin.Range.rangeSize lo hi 1:=by rw[rangeSize_one];split<;>omega
  show IsRangeIter _ _ (lo+((0:Nat):Int)*1) ((((hi-lo).toNat:Nat):Int)-((0:Nat):Int)) 1
  rw[e1,e2];exact zH _ rfl
 .have e:b=(s.heap.push { cls:=.type "range",data:=.fields #[.int lo t,.int hi u,.int 1 v] }).objs.size:=by simpa using hb
  subst e;exact I1.fpOk (zy _) (I1.hok.fresh (zy _))
def D8(ta:TA):TI:=λσ H R=>ta σ H λvs H1=>∃j:Int,vs=[.int j]/\-(2 ^ 62)<=j/\j<2 ^ 62/\R (Yq 0 j.toNat) H1
def Qh{a:Î}{ta:TA}{p pos:ĝ}(hg:Gl X "range")(hm:X.mg "range" = Á)(ha:PA X [a] ta)(hs:↥(Ì [a] X.env=[(Ä,å a X.env)])):PI X tg (.Call (.Name "range" p) [a] [] pos) (D8 ta):=by
 intro ag s σ H R I h;refine Call_ (xw I hg hm boot_range (jY (ku (ha pos ag s σ H _ I h) ?_) hs rfl));rintro us s1 ⟨vs,H1,I1,r1,q1⟩;obtain⟨j,e,q1,q2,q⟩:=q1;subst e;cases r1 with
 | cons r rr=>
  cases rr;obtain⟨t,rfl⟩:=r;exact call_range_1 (Wb I1 ∅ ∅ q1 q2 (by simpa using q))
def Gf(wi:TI)(g:TG)(tb:TS):TS:=λD σ H=>wi σ H λJ H1=>∃W:Nat->Nat->St->Hp->Prop,(∃m,W 0 m σ H1)/\∀i m σ H,W i m σ H->
 (J.stop i H/\D.nx σ H)\/(J.go i H/\∃N:St->Hp->Prop,(∀hG H',N hG H'->∃m',m'<m/\W (i+1) m' hG H')/\∀x H',J.yld i H x H'->g x σ H' λEh H2=>tb { D with nx:=N,ct:=N,bk:=D.nx } Eh H2)
def io(fp:List È)(h:Õ):List (È×ó):=fp.filterMap λb=>(h.get? b).map λo=>(b,o)
def de{fp:List È}{h:Õ}{b:È}{o:ó}(hb:b∈fp)(e:h.get? b=À o):(b,o)∈io fp h:=yU.mpr ⟨b,hb,by rw[e];rfl⟩
def Qu{fp:List È}{h:Õ}{p:È×ó}(hp:p∈io fp h):p.1∈fp/\h.get? p.1=À p.2:=by
 obtain⟨b,hb,e⟩:=yU.mp hp;cases q:h.get? b with
 | none=>rw[q] at e;cases e
 | some o=>
  rw[q] at e;have e':(b,o)=p:=zW e;subst e';exact⟨hb,q⟩
def Inv.pinned{ag:List (È×ó)}{σ:St}{H:Hp}{s:Å}{fp:List È}(I:Inv X ag σ H s)(hf:∀b∈fp,aT X ag H b)(ho:∀b∈fp,∃o,s.heap.get? b=À o/\∀v,o.data≠.cell v):Inv X (ag++io fp s.heap) σ H s:=
 I.pins_of λp hp=>(zx.mp hp).elim (λz=>I.pin p (zZ _ z)) λz=>by
  obtain⟨hb,e⟩:=Qu z;obtain⟨f0,f1,f2,_⟩:=hf p.1 hb;obtain⟨o,e',d⟩:=ho p.1 hb;rw[e] at e';cases e';exact⟨e,f0,f1,f2,d⟩
def Inv.unpinned{ag pl:List (È×ó)}{σ:St}{H:Hp}{s:Å}(I:Inv X (ag++pl) σ H s):Inv X ag σ H s:=I.pins_of λp hp=>I.pin p (zZ _ (yH _ hp))
def C5{iter:Î}{body:List č}{wi:TI}{g:TG}{tb:TS}{pos:ĝ}(hp:ź (Í X.prog X.w) X.A X.env X.xe)(hc:X.calm=Â)(hi:PI X tg iter wi)(hg:PG X tg g)(hb:PSs X body tb)
  (hs:∀x,ê iter X.env x=pure x:=by intro _;rfl):PS X (.For tg iter body [] pos) (Gf wi g tb):=by
 intro ag s σ H D I h;refine wpAny_For (ku (hi ag s σ H _ I h) λv s1 h1=>ku h1 λLR s2 h2=>?_) hs;obtain⟨it,fp,tn,J,H2,e,I2,T,GX,f2,W,⟨m0,w0⟩,turn⟩:=h2;subst e;have Hr:∀{H':Hp},(∀b∈fp,H' b=Á)->∀b∈fp,aT X ag H' b:=λhn b hb=>⟨hn b hb,(f2 b hb).2⟩
 refine codeAny_forLoop_any (λn s'=>∃i hG H',Inv X ag hG H' s'/\tn i s'.heap/\(∀b∈fp,H' b=Á)/\W i n hG H') ?_ m0 ⟨0,σ,H2,I2,GX,λb hb=>(f2 b hb).1,w0⟩;rintro n s3 ⟨i,AX,H3,I3,Iu,Lp,w3⟩;rcases turn i n AX H3 w3 with ⟨stop,qn⟩ | ⟨go,N,hN,step⟩
 .refine vh hp (ku (T.done X rfl rfl rfl hc i ag s3 AX H3 X.xe I3 (Hr Lp) Iu stop) ?_)
  rintro r s4 ⟨hr,I4⟩;subst hr;exact yP ⟨AX,H3,I4,qn⟩
 .refine vh hp (ku (T.item X rfl rfl rfl hc i ag s3 AX H3 X.xe I3 (Hr Lp) Iu go) ?_)
  rintro r s4 ⟨u,hr,h4⟩;subst hr;refine vh hp (ku h4 ?_);rintro _ s5 ⟨x,H5,I5,r5,y5,Hs,LS⟩;have LU:=I5.pinned (Hr LS) (T.obj _ _ Hs);refine vh hp (ku (hg _ s5 AX H5 x u _ LU r5 (step x H5 y5)) ?_);rintro _ s6 ⟨EZ,H6,I6,q6⟩;refine vh hp (ku (hb _ s6 EZ H6 _ I6 q6) λf s7 q7=>?_);have again:∀{Es:St} {H7:Hp},Inv X (ag++io fp s5.heap) Es H7 s7->N Es H7->∃m,m<n/\∃i hG H',Inv X ag hG H' s7/\tn i s7.heap/\(∀b∈fp,H' b=Á)/\W i m hG H':=λ{Es H7} I7 n7=>by
   obtain⟨m',hm,w7⟩:=hN Es H7 n7;refine⟨m',hm,i+1,Es,H7,I7.unpinned,T.keep _ _ _ Hs λb hb o e=>(I7.pin (b,o) (zZ _ (zZ _ (de hb e)))).1,λb hb=>?_,w7⟩;obtain⟨o,e,d⟩:=T.obj _ _ Hs b hb;exact(I7.pin (b,o) (zZ _ (zZ _ (de hb e)))).2.1
  cases f with
  | next=>obtain⟨Es,H7,I7,n7⟩:=q7;exact again I7 n7
  | cont=>obtain⟨Es,H7,I7,n7⟩:=q7;exact again I7 n7
  | brk=>obtain⟨Es,H7,I7,q7⟩:=q7;exact⟨Es,H7,I7.unpinned,q7⟩
  | ret v=>obtain⟨x7,Es,H7,I7,r7,q7⟩:=q7;exact⟨x7,Es,H7,I7.unpinned,r7,q7⟩
end
end L2
namespace L2
open PySem PySem.Spec PyProof.Rows
abbrev R2:=V->V->Hp->VK->Prop
def kT(X:Cx)(f:Ã->Ã->Sem Ã)(r:R2):Prop:=
 ∀(ag:List (È×ó)) (s:Å) (σ:St) (H:Hp) (x y:V) (v u:Ã) (Q:VK),Inv X ag σ H s->RelV x v->RelV y u->r x y H Q->
  É (Í X.prog X.w) X.A (f v u) (EP X ag σ Q) X.xe s
def Ql(X:Cx)(f:Ã->Sem Ã)(r:V->Hp->VK->Prop):Prop:=
 ∀(ag:List (È×ó)) (s:Å) (σ:St) (H:Hp) (x:V) (v:Ã) (Q:VK),Inv X ag σ H s->RelV x v->r x H Q->
  É (Í X.prog X.w) X.A (f v) (EP X ag σ Q) X.xe s
def qh(X:Cx)(f:Ã)(r:List V->Hp->VK->Prop):Prop:=
 ∀(ag:List (È×ó)) (s:Å) (σ:St) (H:Hp) (xs:List V) (us:List Ã) (Q:VK),Inv X ag σ H s->Vals xs us->r xs H Q->
  É (Í X.prog X.w) X.A (ŀ f us) (EP X ag σ Q) X.xe s
def QR(r:R2)(ta tb:TE):TE:=λσ H Q=>ta σ H λx H1=>tb σ H1 λy H2=>r x y H2 Q
def GR(r:V->Hp->VK->Prop)(ta:TE):TE:=λσ H Q=>ta σ H λx H1=>r x H1 Q
def rI(C:Int->Int->Prop)(g:Int->Int->V):R2:=λx y H Q=>∃i j,x=.int i/\y=.int j/\C i j/\Q (g i j) H
def mJ(g:Int->Int->V):R2:=λx y H Q=>∃i j,x=.int i/\y=.int j/\Q (g i j) H
def rU(g:Int->V):V->Hp->VK->Prop:=λx H Q=>∃i,x=.int i/\Q (g i) H
section
variable{X:Cx}{a b c:Î}{ta tb tc:TE}{pos:ĝ}
def WI(ha:PE X a ta)(hb:PE X b tb){ag:List (È×ó)}{s:Å}{σ:St}{H:Hp}{R:V->V->Hp->Prop}(I:Inv X ag σ H s)
  (h:ta σ H λx H1=>tb σ H1 λy H2=>R x y H2) {Q:Ã->Å->Prop} {f:Ã->Ã->Sem Ã}
  (hf:∀v u s2 x y H2,Inv X ag σ H2 s2->RelV x v->RelV y u->R x y H2->É (Í X.prog X.w) X.A (f v u) Q X.xe s2) :
  É (Í X.prog X.w) X.A (å a X.env) (λv d6=>É (Í X.prog X.w) X.A (å b X.env) (λu Ad=>É (Í X.prog X.w) X.A (f v u) Q X.xe Ad) X.xe d6) X.xe s:=by
 refine ku (ha ag s σ H _ I h) ?_;rintro v s1 ⟨x,H1,I1,r1,q1⟩;refine ku (hb ag s1 σ H1 _ I1 q1) ?_;rintro u s2 ⟨y,H2,I2,r2,q2⟩;exact hf v u s2 x y H2 I2 r1 r2 q2
def DW{op:ī}{r:R2}(ho:kT X (â op) r)(ha:PE X a ta)(hb:PE X b tb):PE X (.BinOp a op b pos) (QR r ta tb):=by
 intro ag s σ H Q I h;exact wpAny_BinOp (WI ha hb I h λv u s2 x y H2 I2 rx ry q=>ho ag s2 σ H2 x y v u Q I2 rx ry q)
def Ff{op:UnaryOp}{r:V->Hp->VK->Prop}(ho:Ql X (unaryOp op) r)(ha:PE X a ta):PE X (.UnaryOp op a pos) (GR r ta):=by
 intro ag s σ H Q I h;exact UnaryOp_ (ku (ha ag s σ H _ I h) λv s1 O6=>(by obtain⟨x,H1,I1,r1,q1⟩:=O6;exact ho ag s1 σ H1 x v Q I1 r1 q1))
def Y9{f:Ã->Ã->Sem Ã}{C:Int->Int->Prop}{g:Int->Int->Int}
  (rule:∀(i j:Int) (t u:Tok) (s:Å) (Q:Ã->Å->Prop) (E:Ã->Å->Prop),C i j->Q (.int (g i j) s.toks) { s with toks:=s.toks+1 }->É (Í X.prog X.w) X.A (f (.int i t) (.int j u)) Q E s) :
  kT X f (rI C λi j=>.int (g i j)):=by
 intro ag s σ H x y v u Q I rx ry h;obtain⟨i,j,rfl,rfl,hc,q⟩:=h;obtain⟨t,rfl⟩:=rx;obtain⟨t',rfl⟩:=ry;exact rule i j t t' s _ _ hc ⟨.int (g i j),H,I.tok _,⟨_,rfl⟩,q⟩
def BH{f:Ã->Ã->Sem Ã}{g:Int->Int->Int}
  (rule:∀(i j:Int) (t u:Tok) (s:Å) (Q:Ã->Å->Prop) (E:Ã->Å->Prop),Q (.int (g i j) s.toks) { s with toks:=s.toks+1 }->É (Í X.prog X.w) X.A (f (.int i t) (.int j u)) Q E s) :
  kT X f (mJ λi j=>.int (g i j)):=by
 intro ag s σ H x y v u Q I rx ry h;obtain⟨i,j,rfl,rfl,q⟩:=h;obtain⟨t,rfl⟩:=rx;obtain⟨t',rfl⟩:=ry;exact rule i j t t' s _ _ ⟨.int (g i j),H,I.tok _,⟨_,rfl⟩,q⟩
def Jo{f:Ã->Ã->Sem Ã}{g:Int->Int->Bool}
  (rule:∀(i j:Int) (t u:Tok) (s:Å) (Q:Ã->Å->Prop) (E:Ã->Å->Prop),Q (.bool (g i j)) s->É (Í X.prog X.w) X.A (f (.int i t) (.int j u)) Q E s) :
  kT X f (mJ λi j=>.bl (g i j)):=by
 intro ag s σ H x y v u Q I rx ry h;obtain⟨i,j,rfl,rfl,q⟩:=h;obtain⟨t,rfl⟩:=rx;obtain⟨t',rfl⟩:=ry;exact rule i j t t' s _ _ ⟨.bl (g i j),H,I,rfl,q⟩
def Gy(i j:Int):Prop:=0<j/\j<1073741824
def Gj(i j:Int):Prop:=0<=j/\j<=1000000/\i.natAbs<2 ^ 64
def CMul(i j:Int):Prop:=(-(2 ^ 64)<i/\i<2 ^ 64)\/(-(2 ^ 64)<j/\j<2 ^ 64)
def CMul.ok{i j:Int}(h:CMul i j):IntMulOk i j:=by
 rcases h with ⟨h1,h2⟩ | ⟨h1,h2⟩
 .exact .of_left (intBits_le_64 h1 h2)
 .exact .of_right (intBits_le_64 h1 h2)
def Bq:kT X (â .Add) (mJ λi j=>.int (i+j)):=BH λ_ _ _ _ _ _ _ q=>add_int q
def Du:kT X (â .Sub) (mJ λi j=>.int (i-j)):=BH λ_ _ _ _ _ _ _ q=>sub_int q
def BK:kT X (â .Mult) (rI CMul λi j=>.int (i*j)):=Y9 λ_ _ _ _ _ _ _ hc q=>mul_int q hc.ok
def Xj:kT X (â .FloorDiv) (rI Gy λi j=>.int (i/j)):=Y9 λi j _ _ _ _ _ hc q=>by
 have h1:(0:Int)<j:=hc.1;have h2:j<1073741824:=hc.2;exact floordiv_int ∅ (by rw[Int.fdiv_eq_ediv_of_nonneg i ∅];exact q) (.inl (PyProof.noPylong_small ∅))
def C9:kT X (â .Mod) (rI (λ_ j=>0<j) λi j=>.int (i%j)):=Y9 λi j _ _ _ _ _ hc q=>by
 have h1:(0:Int)<j:=hc;exact mod_int' ∅ (by rw[Int.fmod_eq_emod_of_nonneg i ∅];exact q)
def CI:kT X (â .Pow) (rI Gj λi j=>.int (i ^ j.toNat)):=Y9 λ_ _ _ _ _ _ _ hc q=>pow_int_small hc.1 hc.2.1 hc.2.2 q
def GU{f:Ã->Sem Ã}{g:Int->Int}
  (rule:∀(i:Int) (t:Tok) (s:Å) (Q:Ã->Å->Prop) (E:Ã->Å->Prop),Q (.int (g i) s.toks) { s with toks:=s.toks+1 }->É (Í X.prog X.w) X.A (f (.int i t)) Q E s) :
  Ql X f (rU λi=>.int (g i)):=by
 intro ag s σ H x v Q I rx h;obtain⟨i,rfl,q⟩:=h;obtain⟨t,rfl⟩:=rx;exact rule i t s _ _ ⟨.int (g i),H,I.tok _,⟨_,rfl⟩,q⟩
def Bt:Ql X (unaryOp .USub) (rU λi=>.int (-i)):=GU λ_ _ _ _ _ q=>neg_int q
end
def Bb:V->V->Bool
 | .non,.non=>Â | .non,.int _=>Â | .int _,.non=>Â | .non,.bl _=>Â | .bl _,.non=>Â | .non,.str _=>Â | .str _,.non=>Â
 | .int _,.int _=>Â | .bl _,.bl _=>Â | .str _,.str _=>Â | .byt _,.byt _=>Â
 | .int _,.str _=>Â | .str _,.int _=>Â | .bl _,.str _=>Â | .str _,.bl _=>Â
 | _,_=>Ä
def GJ:R2:=λx y H Q=>Bb x y=Â/\Q (.bl (decide (x=y))) H
def GL:R2:=λx y H Q=>Bb x y=Â/\Q (.bl (!decide (x=y))) H
def iS{i j:Int}:decide (V.int i=V.int j)=(i==j):=by
 rw[vU];simp
def lZ{i j:Bool}:decide (V.bl i=V.bl j)=(i==j):=by
 rw[vU];simp
def iL{i j:Ç}:decide (V.str i=V.str j)=(i==j):=by
 rw[vU];simp
def ZV{i j:Array UInt8}:decide (V.byt i=V.byt j)=(i.toList==j.toList):=by
 rw[vU];cases i;cases j;simp
section
variable{X:Cx}{a b c:Î}{ta tb tc:TE}{pos:ĝ}
def kD{ag:List (È×ó)}{σ:St}{H:Hp}{s:Å}{Q:VK}{k k':Bool}(I:Inv X ag σ H s)(q:Q (.bl k) H)(e:k=k'):EP X ag σ Q (.bool k') s:=by
 subst e;exact⟨.bl k,H,I,rfl,q⟩
def Jl:kT X (Ò .Eq) GJ:=by
 intro ag s σ H x y v u Q I rx ry h;obtain⟨hs,q⟩:=h;cases x with
 | non=>
  cases rx;cases y with
  | non=>cases ry;exact PySem.EqNone.eq_none_none (kD I q (by simp))
  | bl j=>cases ry;exact PySem.EqNone.eq_none_bool (kD I q (by simp))
  | int j=>obtain⟨t',rfl⟩:=ry;exact PySem.EqNone.eq_none_int (kD I q (by simp))
  | str j=>obtain⟨t',rfl⟩:=ry;exact PySem.EqNone.eq_none_str (kD I q (by simp))
  | _=>exact absurd (show Ä=Â from hs) zV
 | bl i=>
  cases rx;cases y with
  | non=>cases ry;exact PySem.EqNone.eq_bool_none (kD I q (by simp))
  | bl j=>cases ry;exact eq_bool (kD I q lZ)
  | str j=>obtain⟨t',rfl⟩:=ry;exact PySem.EqMixed.eq_bool_str (kD I q (by simp))
  | _=>exact absurd (show Ä=Â from hs) zV
 | int i=>
  obtain⟨t,rfl⟩:=rx;cases y with
  | non=>cases ry;exact PySem.EqNone.eq_int_none (kD I q (by simp))
  | int j=>obtain⟨t',rfl⟩:=ry;exact eq_int (kD I q iS)
  | str j=>obtain⟨t',rfl⟩:=ry;exact PySem.EqMixed.eq_int_str (kD I q (by simp))
  | _=>exact absurd (show Ä=Â from hs) zV
 | str i=>
  obtain⟨t,rfl⟩:=rx;cases y with
  | non=>cases ry;exact PySem.EqNone.eq_str_none (kD I q (by simp))
  | bl j=>cases ry;exact PySem.EqMixed.eq_str_bool (kD I q (by simp))
  | int j=>obtain⟨t',rfl⟩:=ry;exact PySem.EqMixed.eq_str_int (kD I q (by simp))
  | str j=>obtain⟨t',rfl⟩:=ry;exact eq_str (kD I q iL)
  | _=>exact absurd (show Ä=Â from hs) zV
 | byt i=>
  obtain⟨t,rfl⟩:=rx;cases y with
  | byt j=>obtain⟨t',rfl⟩:=ry;exact PySem.W.eq_bytes (kD I q ZV)
  | _=>exact absurd (show Ä=Â from hs) zV
 | _=>cases y<;>exact absurd (show Ä=Â from hs) zV
def KA:kT X (Ò .NotEq) GL:=by
 intro ag s σ H x y v u Q I rx ry h;obtain⟨hs,q⟩:=h;cases x with
 | non=>
  cases rx;cases y with
  | non=>cases ry;exact PySem.EqNone.ne_none_none (kD I q (by simp))
  | bl j=>cases ry;exact PySem.EqNone.ne_none_bool (kD I q (by simp))
  | int j=>obtain⟨t',rfl⟩:=ry;exact PySem.EqNone.ne_none_int (kD I q (by simp))
  | str j=>obtain⟨t',rfl⟩:=ry;exact PySem.EqNone.ne_none_str (kD I q (by simp))
  | _=>exact absurd (show Ä=Â from hs) zV
 | bl i=>
  cases rx;cases y with
  | non=>cases ry;exact PySem.EqNone.ne_bool_none (kD I q (by simp))
  | bl j=>cases ry;exact ne_bool (kD I q (jj not lZ))
  | str j=>obtain⟨t',rfl⟩:=ry;exact PySem.EqMixed.ne_bool_str (kD I q (by simp))
  | _=>exact absurd (show Ä=Â from hs) zV
 | int i=>
  obtain⟨t,rfl⟩:=rx;cases y with
  | non=>cases ry;exact PySem.EqNone.ne_int_none (kD I q (by simp))
  | int j=>obtain⟨t',rfl⟩:=ry;exact ne_int (kD I q (jj not iS))
  | str j=>obtain⟨t',rfl⟩:=ry;exact PySem.EqMixed.ne_int_str (kD I q (by simp))
  | _=>exact absurd (show Ä=Â from hs) zV
 | str i=>
  obtain⟨t,rfl⟩:=rx;cases y with
  | non=>cases ry;exact PySem.EqNone.ne_str_none (kD I q (by simp))
  | bl j=>cases ry;exact PySem.EqMixed.ne_str_bool (kD I q (by simp))
  | int j=>obtain⟨t',rfl⟩:=ry;exact PySem.EqMixed.ne_str_int (kD I q (by simp))
  | str j=>obtain⟨t',rfl⟩:=ry;exact ne_str (kD I q (jj not iL))
  | _=>exact absurd (show Ä=Â from hs) zV
 | byt i=>
  obtain⟨t,rfl⟩:=rx;cases y with
  | byt j=>obtain⟨t',rfl⟩:=ry;exact PySem.W.ne_bytes (kD I q (jj not ZV))
  | _=>exact absurd (show Ä=Â from hs) zV
 | _=>cases y<;>exact absurd (show Ä=Â from hs) zV
def FC:kT X (Ò .Lt) (mJ λi j=>.bl (decide (i<j))):=Jo λ_ _ _ _ _ _ _ q=>lt_int q
def DY:kT X (Ò .LtE) (mJ λi j=>.bl (decide (i<=j))):=Jo λ_ _ _ _ _ _ _ q=>le_int q
def Fc:kT X (Ò .Gt) (mJ λi j=>.bl (decide (j<i))):=Jo λ_ _ _ _ _ _ _ q=>gt_int q
def D9:kT X (Ò .GtE) (mJ λi j=>.bl (decide (j<=i))):=Jo λ_ _ _ _ _ _ _ q=>ge_int q
def Qa:kT X (Ò .In) (λx y H Q=>∃i j,x=.str i/\y=.str j/\Q (.bl (!(Ĩ j i 0 j.length 1).isEmpty)) H):=by
 intro ag s σ H x y v u Q I rx ry h;obtain⟨i,j,rfl,rfl,q⟩:=h;obtain⟨t,rfl⟩:=rx;obtain⟨t',rfl⟩:=ry;exact in_str (kD I q rfl)
def Dj:kT X (Ò .Is) (λx y H Q=>y=.non/\Q (.bl (decide (x=.non))) H):=by
 intro ag s σ H x y v u Q I rx ry h;obtain⟨rfl,q⟩:=h;cases ry;refine is_none_gen (kD I q ?_);cases x<;>first
  | (cases rx;rfl)
  | (obtain⟨t,rfl⟩:=rx;rfl)
def UM:kT X (Ò .IsNot) (λx y H Q=>y=.non/\Q (.bl (!decide (x=.non))) H):=by
 intro ag s σ H x y v u Q I rx ry h;obtain⟨rfl,q⟩:=h;cases ry;refine isnot_none_gen (kD I q ?_);cases x<;>first
  | (cases rx;rfl)
  | (obtain⟨t,rfl⟩:=rx;rfl)
def tm:kT X (Ò .NotIn) (λx y H Q=>∃i j,x=.str i/\y=.str j/\Q (.bl (!(!(Ĩ j i 0 j.length 1).isEmpty))) H):=by
 intro ag s σ H x y v u Q I rx ry h;obtain⟨i,j,rfl,rfl,q⟩:=h;obtain⟨t,rfl⟩:=rx;obtain⟨t',rfl⟩:=ry;exact notIn_str (kD I q rfl)
def ZW{op:CmpOp}{r:R2}(ho:kT X (Ò op) r)(ha:PE X a ta)(hb:PE X b tb)(hm:ç op b=Ä):PE X (.Compare a [op] [b] pos) (QR r ta tb):=by
 intro ag s σ H Q I h;exact wpAny_Compare1 (WI ha hb I h λv u s2 x y H2 I2 rx ry q=>ho ag s2 σ H2 x y v u Q I2 rx ry q) hm
def Yk(t:TE):TT:=λσ H Q=>t σ H λx H'=>∃k,x=.bl k/\Q k H'
def ZM{op:CmpOp}{r:R2}(ho:kT X (Ò op) r)(ha:PE X a ta)(hb:PE X b tb)(hm:ç op b=Ä):PT X (.Compare a [op] [b] pos) (Yk (QR r ta tb)):=by
 intro ag s σ H Q I h
 refine wpAny_isTrue_Compare1 (ku (ha ag s σ H _ I h) λv s1 ⟨x,H1,I1,r1,q1⟩=>ku (hb ag s1 σ H1 _ I1 q1) λu s2 ⟨y,H2,I2,r2,q2⟩=>
  ku (ho ag s2 σ H2 x y v u _ I2 r1 r2 q2) λc s3 ⟨z,H3,I3,r3,k,e,q3⟩=>?_) hm
 subst e;cases r3;exact qd ⟨H3,I3,q3⟩
def tv(r r':R2)(ta tb tc:TE):TE:=λσ H Q=>ta σ H λx H1=>tb σ H1 λy H2=>r x y H2 λz H3=>∃k,z=.bl k /\
 (if k=Â then tc σ H3 λw' H4=>r' y w' H4 Q else Q (.bl Ä) H3)
def VU{op AA:CmpOp}{r r':R2}(ho:kT X (Ò op) r)(AL:kT X (Ò AA) r')(ha:PE X a ta)(hb:PE X b tb)(hc:PE X c tc)
  (hm:Ż [op,AA] [b,c]=Ä:=by with_unfolding_all rfl):PE X (.Compare a [op,AA] [b,c] pos) (tv r r' ta tb tc):=by
 intro ag s σ H Q I h
 refine Compare_chain (ku (ha ag s σ H _ I h) λv s1 ⟨x,H1,I1,r1,q1⟩=>chain_link (ku (hb ag s1 σ H1 _ I1 q1) λu s2 ⟨y,H2,I2,r2,q2⟩=>
  ku (ho ag s2 σ H2 x y v u _ I2 r1 r2 q2) λd s3 ⟨z,H3,I3,r3,k,e,q3⟩=>?_)) hm
 subst e;cases r3;refine qd ?_;cases k with
 | false=>exact ite_ff ⟨.bl Ä,H3,I3,rfl,q3⟩
 | true=>exact ite_tt (chain_last (ku (hc ag s3 σ H3 _ I3 q3) λw' s4 ⟨z',H4,I4,r4,q4⟩=>AL ag s4 σ H4 y z' u w' Q I4 r2 r4 q4))
def WJ{op AA:CmpOp}{r r':R2}(ho:kT X (Ò op) r)(AL:kT X (Ò AA) r')(ha:PE X a ta)(hb:PE X b tb)(hc:PE X c tc)
  (hm:Ż [op,AA] [b,c]=Ä:=by with_unfolding_all rfl):PT X (.Compare a [op,AA] [b,c] pos) (Yk (tv r r' ta tb tc)):=by
 intro ag s σ H Q I h
 refine isTrue_chain (ku (ha ag s σ H _ I h) λv s1 ⟨x,H1,I1,r1,q1⟩=>test_link (ku (hb ag s1 σ H1 _ I1 q1) λu s2 ⟨y,H2,I2,r2,q2⟩=>
  ku (ho ag s2 σ H2 x y v u _ I2 r1 r2 q2) λd s3 ⟨z,H3,I3,r3,k,e,q3⟩=>?_)) hm
 subst e;cases r3;refine qd ?_;cases k with
 | false=>
  obtain⟨k',e',q'⟩:=q3;cases e';exact ite_ff ⟨H3,I3,q'⟩
 | true=>
  refine ite_tt (test_last (ku (hc ag s3 σ H3 _ I3 q3) ?_));rintro w' s4 ⟨z',H4,I4,r4,q4⟩;refine ku (AL ag s4 σ H4 y z' u w' _ I4 r2 r4 q4) ?_;rintro d' s5 ⟨z2,H5,I5,r5,k2,e2,q5⟩;subst e2;cases r5;exact qd ⟨H5,I5,q5⟩
def fq:(Ð:Nat)<2 ^ 63:=by rw[jA];decide
def Ku:kT X (â .Add) (λx y H Q=>∃i j,x=.str i/\y=.str j/\i.length+j.length<=Ð/\Q (.str (i++j)) H):=by
 intro ag s σ H x y v u Q I rx ry h;obtain⟨i,j,rfl,rfl,hz,q⟩:=h;obtain⟨t,rfl⟩:=rx;obtain⟨t',rfl⟩:=ry;exact add_str (λt' tk=>⟨.str (i++j),H,I.tok _,⟨_,rfl⟩,q⟩) hz
def vals1{x:V}{us:List Ã}(r:Vals [x] us):∃u,us=[u]/\RelV x u:=by
 cases r with
 | cons r1 r2=>cases r2;exact⟨_,rfl,r1⟩
def vals2{x y:V}{us:List Ã}(r:Vals [x,y] us):∃u w',us=[u,w']/\RelV x u/\RelV y w':=by
 cases r with
 | cons r1 r2=>
  cases r2 with
  | cons r3 r4=>cases r4;exact⟨_,_,rfl,r1,r3⟩
def og:qh X (.type "int") (λxs H Q=>(∃i,xs=[.int i]/\Q (.int i) H)\/∃k,xs=[.bl k]/\Q (.int (if k then 1 else 0)) H):=by
 intro ag s σ H xs us Q I r h;rcases h with ⟨i,rfl,q⟩ | ⟨k,rfl,q⟩
 .obtain⟨u,rfl,t,rfl⟩:=vals1 r
  exact call_int_int ⟨.int i,H,I,⟨_,rfl⟩,q⟩
 .obtain⟨u,rfl,r1⟩:=vals1 r
  cases r1;exact call_int_bool ⟨.int (if k then 1 else 0),H,I.tok _,⟨_,rfl⟩,q⟩
def tR:qh X (.type "str") (λxs H Q=>∃i,xs=[.int i]/\i.natAbs.log2<1920/\Q (.str (toString i)) H):=by
 intro ag s σ H xs us Q I r h;obtain⟨i,rfl,hz,q⟩:=h;obtain⟨u,rfl,t,rfl⟩:=vals1 r;exact PySem.P.str_of_int hz ⟨.str _,H,I.tok _,⟨_,rfl⟩,q⟩
end
end L2
namespace L2
open PySem PySem.Spec PyProof.Rows
structure ObjM(h:Õ)(x dx C:È)(mA:Ç->Option Ã):Prop where
 obj:h.get? x=À (ţ C dx)
 ns:h.Ns1 dx mA
 ne:dx≠x
def JH{h:Õ}{dx:È}{mA:Ç->Option Ã}(n:h.Ns1 dx mA):∃od,h.get? dx=À od/\∀name,Ů name od=À (mA name):=by
 obtain⟨o,es,ep,ho,hd,hk,_,hm⟩:=n;refine⟨o,ho,λname=>?_⟩;have e:=hm name;unfold nsFind findBy at e;rw[<-wJ] at e;unfold Ů;rw[hd];dsimp only;split
 .rename_i y q
  rw[q] at e;exact jj À e
 .rename_i q
  rw[q] at e;have a:es.toList.any (·.refKey)=Ä:=by
   rw[List.any_eq_false];intro y hy;obtain⟨z,t,AY⟩:=hk y (yI.mp hy);simp[DictEntry.refKey,AY]
  have a':¬es.toList.any (·.refKey)=Â:=by rw[a];exact zV
  rw[zX a'];exact jj À e
def ObjM.look{h:Õ}{x dx C:È}{mA:Ç->Option Ã}(I:ObjM h x dx C mA):∃od,PySem.W.InstAt h x (ţ C dx) C (À od)/\∀name,Ů name od=À (mA name):=
 let ⟨od,ho,hl⟩:=JH I.ns
 ⟨od,⟨I.obj,rfl,rfl,ho⟩,hl⟩
section
variable{P:Ï}{w:Ô}{H H':Hp}{h h':Õ}{a C dx:È}{fs FM:List (Ç×V)}
def Ul(hok:HOk P w H h)(e:H a=À (.ins C dx fs)):∃mA,ObjM h a dx C mA/\(∀f,RelO (fs.lookup f) (mA f))/\PySem.Within mA (fs.map (·.1))/\fs.length<=1000/\H dx=À (.own a):=by
 obtain⟨d,z,ne,ob,mA,n,r,q⟩:=(show ObjOk P w H h a (.ins C dx fs) from hok a _ e);exact⟨mA,⟨ob,n,ne⟩,r,q,z,d⟩
end
structure Cls(K:Te)(C:È):Prop where
 pg:PySem.W.plainGet K C Str.empty=Â
 hd:PySem.W.hasDictIn K C=Â
 po:PySem.W.plainOver K C=Â
 sa:PySem.W.findIn K (.ref C) "__setattr__" = À (À (.builtin "object.__setattr__"))
def Cls.get{K:Te}{C:È}(c:Cls K C)(f:Ç):PySem.W.plainGet K C f=Â:=c.pg
section
variable{X:Cx}{ag:List (È×ó)}{σ:St}{H:Hp}{s:Å}{A:Ù}{E:Ã->Å->Prop}{Q:Ã->Å->Prop}{c:Ã}{b:Bool}
inductive TyOf(K:Te)(H:Hp):V->Ã->Prop where
 | non:TyOf K H .non (.type "NoneType")
 | bl (x:Bool):TyOf K H (.bl x) (.type "bool")
 | int (i:Int):TyOf K H (.int i) (.type "int")
 | str (x:Ç):TyOf K H (.str x) (.type "str")
 | flt (x:UInt64):TyOf K H (.flt x) (.type "float")
 | lst {a:È} {xs:List V} (e:H a=À (.lst xs)):TyOf K H (.ref a) (.type "list")
 | frz {a:È} {o:ó} {xs:List V} (e:H a=À (.frz o (.lst xs))):TyOf K H (.ref a) (.type "list")
 | tup {a:È} {xs:List V} (e:H a=À (.tup xs)):TyOf K H (.ref a) (.type "tuple")
 | dK {a:È} {cx:List (Key×V)} (e:H a=À (.dK cx)):TyOf K H (.ref a) (.type "dict")
 | dT {a:È} {cx:List (List Key×V)} (e:H a=À (.dT cx)):TyOf K H (.ref a) (.type "dict")
 | ins {a C dx:È} {fs:List (Ç×V)} (e:H a=À (.ins C dx fs)) (cl:Cls K C) (ha:PySem.W.findIn K (.ref C) "__class__" = À (À (.builtin "object.__class__")))
   (hn:PySem.W.specialIn K (.builtin "object.__class__") "__get__" = À (À (.builtin "getset_descriptor.__get__"))) (Ny:PySem.W.takesIn K (.builtin "object.__class__")=À Â)
   (hm:PySem.W.mroIn K C (.type "object")=À Â):TyOf K H (.ref a) (.ref C)
def Qq{x:V}{u t:Ã}(I:Inv X ag σ H s)(rx:RelV x u)(ty:TyOf X.K H x t)(e:Ņ X.K t c=À b)(h:∀tk,Q (.bool b) { s with toks:=tk }) :
  É (Í X.prog X.w) A (ŀ (.builtin "isinstance") [u,c]) Q E s:=by
 cases ty with
 | non=>cases (show u=Ö from rx);exact jq PySem.W.kitx_none I.kIn ø e (λz=>nomatch z) h
 | bl y=>cases (show u=ś y from rx);exact jq PySem.W.kitx_bool I.kIn ø e (λz=>nomatch z) h
 | int i=>obtain⟨t,q⟩:=(show ∃t,u=ħ i t from rx);cases q;exact jq PySem.W.kitx_int I.kIn ø e (λz=>nomatch z) h
 | str y=>obtain⟨t,q⟩:=(show ∃t,u=Ĵ y t from rx);cases q;exact jq PySem.W.kitx_str I.kIn ø e (λz=>nomatch z) h
 | flt y=>obtain⟨t,q⟩:=(show ∃t,u=Value.float y t from rx);cases q;exact jq PySem.W.kitx_float I.kIn ø e (λz=>nomatch z) h
 | @lst a xs ea=>
  cases (show u=Ê a from rx);obtain⟨_,_,n,_,h1⟩:=(show ObjOk X.prog X.w H s.heap a (.lst xs) from I.hok a _ ea);exact jq wV I.kIn ⟨_,h1,rfl⟩ e (λz=>nomatch z) h
 | @frz a ob xs ea=>
  cases (show u=Ê a from rx);obtain⟨_,_,_,n,_,h1⟩:=(show ObjOk X.prog X.w H s.heap a (.frz ob (.lst xs)) from I.hok a _ ea);exact jq wV I.kIn ⟨_,h1,rfl⟩ e (λz=>nomatch z) h
 | @tup a xs ea=>
  cases (show u=Ê a from rx);obtain⟨_,_,_,p,_⟩:=(show ObjOk X.prog X.w H s.heap a (.tup xs) from I.hok a _ ea);obtain⟨o,h1,h2,_⟩:=p;exact jq pC I.kIn ⟨o,h1,h2⟩ e (λz=>nomatch z) h
 | @dK a cx ea=>
  cases (show u=Ê a from rx);obtain⟨_,_,vs,_,p⟩:=(show ObjOk X.prog X.w H s.heap a (.dK cx) from I.hok a _ ea);obtain⟨o,es,ep,h1,h2,_⟩:=p;exact jq xn I.kIn ⟨o,h1,h2.1⟩ e (λz=>nomatch z) h
 | @dT a cx ea=>
  cases (show u=Ê a from rx);obtain⟨_,_,xs,_,o,es,ep,h1,h2,_⟩:=(show ObjOk X.prog X.w H s.heap a (.dT cx) from I.hok a _ ea);exact jq xn I.kIn ⟨o,h1,h2.1⟩ e (λz=>nomatch z) h
 | @ins a C dx fs ea cl ha hn Ny hm=>
  cases (show u=Ê a from rx);obtain⟨mA,O,_⟩:=Ul I.hok ea;obtain⟨od,J,_⟩:=O.look;exact jq (PySem.W.kitx_own (cl.get _) cl.hd ha hn Ny hm) I.kIn J e (λz=>nomatch z) h
end
end L2
namespace L2
open PySem PySem.Spec PyProof.Rows
structure Room(k:Nat)(A:Ù):Prop where
 hd:A.handled=Á
 dp:A.depth+3*k+5<recursionLimit
 un:A.units+16*k+200<õ
theorem Room.deeper{k:Nat}{A:Ù}(r:Room (k+1) A)(env:Env):Room k (A.deeper env):=
 ⟨r.hd,by have:=r.dp;show A.depth+1+3*k+5<_;omega,by have:=r.un;show A.units+3+16*k+200<_;omega⟩
theorem Room.depth{k:Nat}{A:Ù}(r:Room k A):A.depth<recursionLimit:=by have:=r.dp;omega
theorem Room.units{k:Nat}{A:Ù}(r:Room k A):A.units+64<õ:=by have:=r.un;omega
def Be:TA:=λ_ H Q=>Q [] H
def DS(ta:TE)(tr:TA):TA:=λσ H Q=>ta σ H λx H1=>tr σ H1 λxs H2=>Q (x::xs) H2
section
variable{X:Cx}{e:Î}{es:List Î}{te:TE}{t:TA}{pos:ĝ}
def JV:PA X [] Be:=λ_ _ _ _ H Q I h=>qZ ⟨[],H,I,.nil,h⟩
def nj(ha:PE X e te)(hr:PA X es t)(hs:↥(Ì (e::es) X.env=(Ä,å e X.env)::Ì es X.env)):PA X (e::es) (DS te t):=by
 intro pos ag s σ H Q I h;rw[hs];show É _ _ (spliced ((Ä,å e X.env)::á pos (Ì es X.env))) _ _ s
 refine qO (ku (ha ag s σ H _ I h) ?_);rintro u s1 ⟨x,H1,I1,r1,q1⟩;exact ku (hr pos ag s1 σ H1 _ I1 q1) λus s2 LV=>(by obtain⟨xs,H2,I2,r2,q2⟩:=LV;exact⟨x::xs,H2,I2,.cons r1 r2,q2⟩)
def F6(t:TA):TE:=λσ H Q=>t σ H λxs H1=>xs.length<=Ð/\∀p,H1 p=Á->Q (.ref p) (upd H1 p (.tup xs))
def Gz(t:TA):TE:=λσ H Q=>t σ H λxs H1=>xs.length<=Ð/\∀p,H1 p=Á->Q (.ref p) (upd H1 p (.lst xs))
def Bh{x1}(h:PA X es t):PE X (.Tuple es x1 pos) (F6 t):=by
 intro ag s σ H Q I hq;refine wpAny_Tuple_spliced (ku (h pos ag s σ H _ I hq) ?_);rintro us s1 ⟨xs,H1,I1,r,z,q⟩;refine⟨by rw[<-r.length];exact z,?_⟩;have hf:H1 s1.heap.objs.size=Á:=I1.hok.fresh (zy _);refine⟨.ref s1.heap.objs.size,upd H1 s1.heap.objs.size (.tup xs),I1.laid (t':=s1.toks) (λb u e=>zc _ e) (zy _) ?_,rfl,q _ hf⟩;exact⟨z,us,r,⟨_,zH _ rfl,rfl,_,rfl⟩,.new _ _⟩
def QH(h:PA X es t):PE X (.List es pos) (Gz t):=by
 intro ag s σ H Q I hq;refine wpAny_List_spliced (ku (h pos ag s σ H _ I hq) ?_);rintro us s1 ⟨xs,H1,I1,r,z,q⟩;refine⟨by rw[<-r.length];exact z,?_⟩;have hf:H1 s1.heap.objs.size=Á:=I1.hok.fresh (zy _);refine⟨.ref s1.heap.objs.size,upd H1 s1.heap.objs.size (.lst xs),I1.laid (t':=s1.toks) (λb u e=>zc _ e) (zy _) ?_,rfl,q _ hf⟩;exact⟨z,us,0,r,zH _ rfl⟩
end
abbrev Sp:=List V->Hp->VK->XK->Prop
abbrev gE:=List Env->Hp->Å->XK->Ã->Å->Prop
structure Env0(P:Ï)(w:Ô)(K:Te)(mg:Ç->Option Ã)(base:Õ)(A:Ù)(outer:List Env)(s:Å)(H:Hp):Prop where
 frames:A.frames=À outer
 mod:Mod K mg base
 bs:∀b o,base.get? b=À o->s.heap.get? b=À o/\H b=Á
 bsz:base.objs.size<=s.heap.objs.size
 funs:s.heap.FunFrames base outer
 frf:∀b∈frs outer,H b=Á
 hok:HOk P w H s.heap
 bare:Ő s.gens
def CE(outer:List Env)(P:Ï)(w:Ô)(H:Hp)(s:Å)(Q:VK)(u:Ã)(s':Å):Prop:=
 ∃v H',s'.os=s.os/\Ő s'.gens/\Un (frs outer) [] H H' s.heap s'.heap/\HOk P w H' s'.heap/\RelV v u/\Q v H'
def CR(CX:gE)(outer:List Env)(P:Ï)(w:Ô)(H:Hp)(s:Å)(Q:VK)(E:XK)(r:Result)(s':Å):Prop:=
 match r with
 | .ok (.ret u)=>CE outer P w H s Q u s'
 | .ok _=>False
 | .error e=>CX outer H s E e s'
structure FnOk(P:Ï)(w:Ô)(K:Te)(mg:Ç->Option Ã)(base:Õ)(CX:gE)(k:Nat)(f:È)(fd:ą)(ps:List Ç)(sp:Sp):Prop where
 len:∀vs H Q E,sp vs H Q E->vs.length=ps.length
 run:∀(A:Ù) (outer:List Env) (s:Å) (H:Hp) (args:Args) (us:List Ã) (vs:List V) (Q:VK) (E:XK),Room k A->Env0 P w K mg base A outer s H->BindsTo s fd args (ps.zip us)->Vals vs us->sp vs H Q E->
  Ł (Í P w) A (.call (.ref f) args) (CR CX outer P w H s Q E) s
def FnOk.imp{P:Ï}{w:Ô}{K:Te}{mg:Ç->Option Ã}{base:Õ}{CX:gE}{k:Nat}{f:È}{fd:ą}{ps:List Ç}{sp Nz:Sp}(F:FnOk P w K mg base CX k f fd ps sp)
  (h:∀vs H Q E,Nz vs H Q E->sp vs H Q E):FnOk P w K mg base CX k f fd ps Nz:=
 ⟨λvs H Q E q=>F.len vs H Q E (h _ _ _ _ q),λA outer s H args us vs Q E hr he hb hv hs=>F.run A outer s H args us vs Q E hr he hb hv (h _ _ _ _ hs)⟩
section
variable{X:Cx}{ag:List (È×ó)}{σ:St}{H:Hp}{s s':Å}
def Inv.env0(I:Inv X ag σ H s):Env0 X.prog X.w X.K X.mg X.base X.A X.stack s H:=
 ⟨I.ok.frames,I.ok.mod,I.bs,zp I.ok.bsz I.sz,I.stack,I.stkFree,I.hok,I.bare⟩
def Inv.after{Q:VK}{u:Ã}(I:Inv X ag σ H s)(h:CE X.stack X.prog X.w H s Q u s'):EP X ag σ Q u s':=by
 obtain⟨v,H',os,bare,un,hok,r,q⟩:=h;obtain⟨hh,g,d,t,GY⟩:=s';obtain rfl:GY=s.os:=os;exact⟨v,H',I.call (h':=hh) (g':=g) (d':=d) (t':=t) (ch:=[]) un hok bare (λb z=>absurd z (by simp)),r,q⟩
end
def Xe(sp:Sp)(Fm:List V)(E:XK)(t:TA):TE:=λσ H Q=>t σ H λvs H1=>sp (vs++Fm) H1 Q E
def Binds(K:Te)(fd:ą)(ps:List Ç)(ds:List Ã):Prop:=
 ∀(s:Å) (us:List Ã),K.In s.heap->(us++ds).length=ps.length->BindsTo s fd ⟨us,[]⟩ (ps.zip (us++ds))
def Binds.all{K:Te}{fd:ą}{ps:List Ç}(h:∀us:List Ã,us.length=ps.length->bindArgs fd ⟨us,[]⟩=pure (ps.zip us)):Binds K fd ps []:=λs us _ hl=>by
 rw[vQ] at hl ⊢;exact .of_eq (h us hl)
def mn(CX:gE)(X:Cx)(E:XK):Prop:=∀(ag:List (È×ó)) (σ:St) (H:Hp) (s:Å) (e:Ã) (s':Å),Inv X ag σ H s->CX X.stack H s E e s'->X.xe e s'
section
variable{X:Cx}{CX:gE}{k:Nat}{f C:È}{fd:ą}{ps:List Ç}{sp:Sp}{Fm:List V}{ds:List Ã}{E:XK}{x m:Ç}{p pos apos:ĝ}{e o:Î}{es:List Î}{ta:TE}{t:TA}
def Qj{ag:List (È×ó)}{σ:St}{H:Hp}{s:Å}{Q:VK}{us:List Ã}{vs:List V}(F:FnOk X.prog X.w X.K X.mg X.base CX k f fd ps sp)(hr:Room k X.A)(hb:Binds X.K fd ps ds)(hd:Vals Fm ds)(hx:mn CX X E)
  (I:Inv X ag σ H s) (r:Vals vs us) (h:sp (vs++Fm) H Q E):É (Í X.prog X.w) X.A (ŀ (.ref f) us) (EP X ag σ Q) X.xe s:=by
 have r2:Vals (vs++Fm) (us++ds):=r.append hd;have hl:(us++ds).length=ps.length:=by rw[<-r2.length];exact F.len _ _ _ _ h
 refine wpAny_call (yQ (F.run X.A X.stack s H ⟨us,[]⟩ (us++ds) (vs++Fm) Q E hr I.env0 (hb s us I.kIn hl) r2 h) λr s' hq=>?_);cases r with
 | error e=>exact hx ag σ H s e s' I hq
 | ok fl=>
  cases fl with
  | ret u=>exact I.after hq
  | next=>exact ē hq
  | brk=>exact ē hq
  | cont=>exact ē hq
def Xw(F:FnOk X.prog X.w X.K X.mg X.base CX k f fd ps sp)(hr:Room k X.A)(hg:Gl X x)(hm:X.mg x=À (.ref f))(hk:ì X.K (.ref f)=Â)(hb:Binds X.K fd ps ds)(hd:Vals Fm ds)(hx:mn CX X E)
  (ha:PA X (e::es) t) (AQ:⇑((x==("__debug__":Ç))=Ä)) (he:↥(Ì (e::es) X.env=(Ä,å e X.env)::Ì es X.env)) (Ai:↥((á pos (Ì es X.env)).any (·.1)=Ä)) :
  PE X (.Call (.Name x p) (e::es) [] pos) (Xe sp Fm E t):=by
 intro ag s σ H Q I h;refine jR (nA I hg hm ?_ AQ);refine PySem.W.callWith_K (h₀:=X.base) I.ok.mod.kin hk (ku (ha pos ag s σ H _ I h) ?_) he Ai;rintro us s1 ⟨vs,H1,I1,r,q⟩;refine⟨I1.kIn,?_⟩;exact Qj F hr hb hd hx I1 r q
def V1(F:FnOk X.prog X.w X.K X.mg X.base CX k f fd ps sp)(hr:Room k X.A)(hg:Gl X x)(hm:X.mg x=À (.ref f))(hk:ì X.K (.ref f)=Â)(hb:Binds X.K fd ps ds)(hd:Vals Fm ds)(hx:mn CX X E)
  (AQ:⇑((x==("__debug__":Ç))=Ä)):PE X (.Call (.Name x p) [] [] pos) (Xe sp Fm E Be):=by
 intro ag s σ H Q I h;refine jR (nA I hg hm ?_ AQ);exact PySem.W.callWith_K0 I.kIn hk (Qj (us:=[]) F hr hb hd hx I .nil h)
end
section
variable{X:Cx}{CX:gE}{k:Nat}{f C:È}{fd:ą}{ps ks:List Ç}{sp:Sp}{E:XK}{x m:Ç}{p pos apos O7:ĝ}{e o:Î}{es:List Î}{Sx:List Ķ}{te ta:TE}{t tk:TA}{nm:Option Ç}
variable{g:List Ã->List Ã->List Ã}{gV:List V->List V->List V}
end
structure FnScope(N P:List Ç)(sc:ë):Prop where
 kind:sc.kind=.function
 co:sc.isCoroutine=Ä
 gen:sc.isGenerator=Ä
 nd:N.Nodup
 pre:N.take P.length=P
 par:∀x∈P,sc.names.lookup x=À .local\/sc.names.lookup x=À .cell
 nofree:∀y∈sc.names,y.2≠.free
theorem oV{kindOf:Ç->Option Ļ}{x:Ç}:∀{binds:List (Ç×Ã)} {m:Ç->Option Ã},(∀v,(x,v)∉binds)->bindL kindOf binds m x=m x
 | [],_,_=>rfl
 | (n,v)::r,m,h=>by
  unfold bindL;rw[oV λw hw=>h w (zq _ hw)];split
  .have:x≠n:=by rintro rfl;exact h v zF
   simp[this]
  .rfl
theorem pI{kindOf:Ç->Option Ļ}{x:Ç}:∀{binds:List (Ç×Ã)} {m:Ç->Option Ã},(∀v,(x,v)∉binds)->bindC kindOf binds m x=m x
 | [],_,_=>rfl
 | (n,v)::r,m,h=>by
  unfold bindC;rw[pI λw hw=>h w (zq _ hw)];split
  .rfl
  .have:x≠n:=by rintro rfl;exact h v zF
   simp[this]
theorem oO{kindOf:Ç->Option Ļ}{x:Ç}{v:Ã}:∀{P:List Ç} {vs:List Ã} {i:Nat} {m:Ç->Option Ã},P.Nodup->P[i]?=À x->vs[i]?=À v->kindOf x=À .local->
  bindL kindOf (P.zip vs) m x=À v
 | [],_,_,_,_,h,_,_=>by simp at h
 | _::_,[],_,_,_,_,h,_=>by simp at h
 | p::P,w::vs,0,m,nd,h1,h2,hk=>by
  simp at h1 h2;subst h1;subst h2;show bindL kindOf ((p,w)::P.zip vs) m p=_
  unfold bindL;rw[oV λv hv=>(jL.mp nd).1 (qx hv).1,zQ hk];simp
 | p::P,w::vs,i+1,m,nd,h1,h2,hk=>by
  show bindL kindOf ((p,w)::P.zip vs) m x=_
  unfold bindL;exact oO (i:=i) (jL.mp nd).2 (by simpa using h1) (by simpa using h2) hk
theorem nY{kindOf:Ç->Option Ļ}{x:Ç}{v:Ã}:∀{P:List Ç} {vs:List Ã} {i:Nat} {m:Ç->Option Ã},P.Nodup->P[i]?=À x->vs[i]?=À v->kindOf x≠À .local->
  bindC kindOf (P.zip vs) m x=À v
 | [],_,_,_,_,h,_,_=>by simp at h
 | _::_,[],_,_,_,_,h,_=>by simp at h
 | p::P,w::vs,0,m,nd,h1,h2,hk=>by
  simp at h1 h2;subst h1;subst h2;show bindC kindOf ((p,w)::P.zip vs) m p=_
  unfold bindC;rw[pI λv hv=>(jL.mp nd).1 (qx hv).1,zX hk];simp
 | p::P,w::vs,i+1,m,nd,h1,h2,hk=>by
  show bindC kindOf ((p,w)::P.zip vs) m x=_
  unfold bindC;exact nY (i:=i) (jL.mp nd).2 (by simpa using h1) (by simpa using h2) hk
def start(N:List Ç)(vs:List V):St:=vs.map À++Æ (N.length-vs.length) Á
def il(CX:gE)(P:Ï)(w:Ô)(K:Te)(mg:Ç->Option Ã)(base:Õ)(N:List Ç)(qual:Ç)(scope:ë)(f:È)(cd:Ã)(A:Ù)(outer:List Env)(s:Å)(H:Hp)(E:XK):Cx where
 prog:=P
 w:=w
 K:=K
 mg:=mg
 base:=base
 A:=A.deeper (œ qual scope s.heap.objs.size f cd)
 N:=N
 s₀:=s
 H₀:=H
 env:=œ qual scope s.heap.objs.size f cd
 outer:=outer
 stack:=œ qual scope s.heap.objs.size f cd::outer
 ex:=[]
 calm:=Â
 fn:=λ_=>Â
 pn:=[]
 xe:=λe s'=>É (Í P w) (A.deeper (œ qual scope s.heap.objs.size f cd)) (leaving (œ qual scope s.heap.objs.size f cd) e) (λ_ Ht=>CX outer H s E e Ht) (λe' Ht=>CX outer H s E e' Ht) s'
def sV{sc:ë}{n:Nat}{x:Ç}(h:sc.names.lookup x=À .cell):∃c,(cellsFrom n sc.names []).lookup x=À c:=by
 have q:=uJ sc.names n [] (.inl h);exact vH.mp q
def Jx{CX:gE}{P:Ï}{w:Ô}{K:Te}{mg:Ç->Option Ã}{base:Õ}{N ps:List Ç}{qual:Ç}{scope:ë}{f:È}{cd:Ã}{A:Ù}{outer:List Env}{s s1:Å}{H:Hp}{E:XK}{us:List Ã}{vs:List V}
  (S:FnScope N ps scope) (hd:A.handled=Á) (e0:Env0 P w K mg base A outer s H) (hl:vs.length=ps.length) (r:Vals vs us)
  (x:InCallC s s.heap.objs.size (bindL (œ qual scope s.heap.objs.size f cd).kindOf (ps.zip us) λ_=>Á) (cellsFrom (s.heap.objs.size+1) scope.names []) (bindC (œ qual scope s.heap.objs.size f cd).kindOf (ps.zip us) λ_=>Á) s1) :
  Inv (il CX P w K mg base N qual scope f cd A outer s H E) [] (start N vs) H s1:=by
 have Ai:ps.length<=N.length:=by have:=jj Ú S.pre;rw[qX] at this;omega
 obtain⟨h1,tk,rfl,hk⟩:=x.done;have Iv:∀b:È,b∉(il CX P w K mg base N qual scope f cd A outer s H E).ex:=λb z=>absurd (show b∈([]:List È) from z) (by simp)
 refine⟨⟨e0.mod,S.kind,rfl,rfl,zy _,λy z c h1 h2=>?_,λy hy=>?_,λy c _ h=>?_,λ_=>hd,Around.frames_deeper e0.frames,.inr ⟨rfl,rfl⟩,λb z=>absurd z (Iv b),e0.bs,e0.bsz,λb _ _=>Iv b,λb z=>absurd z (Iv b),e0.funs,e0.frf⟩,
  rfl,e0.bare,Un.kept hk,⟨_,x.toInCall.ns,λi y v h1 h2 h3=>?_⟩,λy c h=>⟨_,x.cell y c h⟩,e0.hok.fresh (zy _),λy c h=>?_,λp hp=>absurd (show p∈([]:List (È×ó)) from hp) (by simp),e0.hok.kept hk,?_⟩
 .exact name_of_addr x.apart (vC h1) (vC h2)
 .have hy:scope.names.lookup y=À .cell\/scope.names.lookup y=À .free:=hy
  rcases hy with hy | hy
  .exact sV hy
  .exact absurd rfl (S.nofree _ (vC hy))
 .exact qQ (x.above y c (vC h))
 .have hi:i<vs.length:=by
   unfold start at h2;by_cases hi:i<vs.length
   .exact hi
   .rw[jf (by simpa using hi)] at h2
    rw[qU] at h2;split at h2<;>cases h2
  have ha:vs[i]?=À v:=by
   unfold start at h2;rw[zY (by simpa using hi),kh] at h2;cases e:vs[i]? with
   | none=>rw[e] at h2;cases h2
   | some a=>rw[e] at h2;cases h2;rfl
  obtain⟨u,hu,rv⟩:=r.get ha;have hp:ps[i]?=À y:=by
   rw[<-S.pre,uz ∅];exact h1
  have NA:ps.Nodup:=by rw[<-S.pre];exact S.nd.sublist (xu _ _)
  refine⟨u,rv,?_⟩;rcases S.par y (jz hp) with k | k
  .exact .inl ⟨k,oO NA hp hu k⟩
  .obtain⟨c,e⟩:=sV (n:=s.heap.objs.size+1) k
   refine .inr ⟨.inl k,c,e,?_⟩;have q:=x.cell y c e;rw[nY NA hp hu (by show scope.names.lookup y≠_;rw[k];decide)] at q;exact q
 .exact e0.hok.fresh (qQ (x.above y c (vC h)))
 .unfold start
  show _=N.length
  rw[zR,zG,q9];omega
def DQ{CX:gE}{P:Ï}{w:Ô}{K:Te}{mg:Ç->Option Ã}{base:Õ}{k:Nat}{f:È}{name qual:Ç}{params:Arguments}{body:List č}{scope:ë}{dV kV doc pm r6 ct oc:Ã}{an od:Option È}
  {Et:Array (Option Ã)} {N ps:List Ç} {sp:Sp} (lk:K.lookup f=À ⟨oc,od,.func (Ċ name qual params body scope dV kV doc pm an r6 ct),Et⟩) (Eg:ĭ K r6 qual=Â) (S:FnScope N ps scope)
  (len:∀vs H Q E,sp vs H Q E->vs.length=ps.length)
  (Eu:∀(A:Ù) (outer:List Env) (s:Å) (H:Hp) (vs:List V) (Q:VK) (E:XK),Room k (A.deeper (œ qual scope s.heap.objs.size f r6))->sp vs H Q E->
   ∃t,PSs (il CX P w K mg base N qual scope f r6 A outer s H E) body t/\t { nx:=λ_ H'=>Q .non H',rt:=Q } (start N vs) H) :
  FnOk P w K mg base CX (k+1) f (Ċ name qual params body scope dV kV doc pm an r6 ct) ps sp:=by
 refine⟨len,λA outer s H args us vs Q E hr e0 hb r Ew=>?_⟩;have hl:=len _ _ _ _ Ew;have KX:K.In s.heap:=e0.mod.kin.keeps λb o e=>(e0.bs b o e).1
 have lim:s.heap.NoLimit:=e0.mod.nolimit.keeps λb o e=>(e0.bs b o e).1
 have Iw:∀y∈ps.zip us,scope.names.lookup y.1=À .local\/(scope.names.lookup y.1=À .cell/\((cellsFrom (s.heap.objs.size+1) scope.names []).lookup y.1).isSome=Â):=λ⟨n,v⟩ hy=>by
  rcases S.par n (qx hy).1 with q | q
  .exact .inl q
  .exact .inr ⟨q,uJ _ _ _ (.inl q)⟩
 refine codeAny_call_function hr.depth (KX _ _ lk) rfl S.co S.gen rfl (PySem.W.codeRec_of KX Eg) (hb _ _ _ _ ?_);refine wpAny_newFunctionEnv_cells S.kind Iw λenv he s1 x=>?_
 subst he;refine⟨lim.keeps x.toInCall.keep,codeAny_func ?_⟩;obtain⟨t,ht,hq⟩:=Eu A outer s H vs Q E (hr.deeper _) Ew;have I:Inv (il CX P w K mg base N qual scope f r6 A outer s H E) [] (start N vs) H s1:=Jx S hr.hd e0 hl r x;refine qe (ht [] s1 (start N vs) H _ I hq) (λfl s' hs=>?_) λe s' hs=>hs
 have fin:∀{hG:St} {H':Hp} {v:V} {u:Ã},Inv (il CX P w K mg base N qual scope f r6 A outer s H E) [] hG H' s'->RelV v u->Q v H'->CE outer P w H s Q u s':=
  λ{hG H' v u} J rv q=>⟨v,H',J.os,J.bare,J.base,J.hok,rv,q⟩
 cases fl with
 | ret u=>
  obtain⟨v,hG,H',J,rv,q⟩:=hs;exact fin J rv q
 | next=>
  obtain⟨hG,H',J,q⟩:=hs;exact fin (v:=V.non) (u:=Ö) J rfl q
 | brk=>
  obtain⟨_,_,_,q⟩:=hs;exact ē q
 | cont=>
  obtain⟨_,_,_,q⟩:=hs;exact ē q
end L2
namespace L2
open PySem PySem.Spec PyProof.Rows
section
variable{X:Cx}{x:Ç}{p pos:ĝ}{e:Î}{es:List Î}{t:TA}{id T:String}{r:List V->Hp->VK->Prop}
def FR(r:List V->Hp->VK->Prop)(t:TA):TE:=λσ H Q=>t σ H λvs H1=>r vs H1 Q
def rC(hc:qh X (.builtin id) r)(hg:Gl X x)(hm:X.mg x=Á)(hv:Ø x=À (.builtin id))(ha:PA X (e::es) t)(hn:⇑(x≠"__name__"))(AQ:⇑((x==("__debug__":Ç))=Ä))
  (he:↥(Ì (e::es) X.env=(Ä,å e X.env)::Ì es X.env)) (Ai:↥((á pos (Ì es X.env)).any (·.1)=Ä)):PE X (.Call (.Name x p) (e::es) [] pos) (FR r t):=by
 intro ag s σ H Q I h;refine jR (xw I hg hm hv ?_ hn AQ);exact vZ (ku (ha pos ag s σ H _ I h) λus s1 O8=>(by obtain⟨vs,H1,I1,r1,q1⟩:=O8;exact hc ag s1 σ H1 vs us Q I1 r1 q1)) he Ai
def JY(hc:qh X (.type T) r)(hg:Gl X x)(hm:X.mg x=Á)(hv:Ø x=À (.type T))(ha:PA X (e::es) t)(hn:⇑(x≠"__name__"))(AQ:⇑((x==("__debug__":Ç))=Ä))
  (he:↥(Ì (e::es) X.env=(Ä,å e X.env)::Ì es X.env)) (Ai:↥((á pos (Ì es X.env)).any (·.1)=Ä)):PE X (.Call (.Name x p) (e::es) [] pos) (FR r t):=by
 intro ag s σ H Q I h;refine jR (xw I hg hm hv ?_ hn AQ);exact jY (ku (ha pos ag s σ H _ I h) λus s1 O9=>(by obtain⟨vs,H1,I1,r1,q1⟩:=O9;exact hc ag s1 σ H1 vs us Q I1 r1 q1)) he Ai
end
end L2
namespace HT
open PySem PyProof.Rows
section
open PySem.SeqAt
open PySem.AutoSeq1 (wpAny_loadPart')
open PySem.MeetsSeq PySem.MeetsSeq2 PySem.MeetsSeq3
end
section
variable{prog:Ï}{w:Ô}{A:Ù}{E:Ã->Å->Prop}{s:Å}
def cat_tup{t b:È}{vs ws:List Ã}{Q:Ã->Å->Prop}(ht:Ţ s.heap t vs.toArray)(hb:Ţ s.heap b ws.toArray)(hv:vs≠[])
  (h1:ws=[]->Q (.ref t) s) (h2:ws≠[]->Q (.ref s.heap.objs.size) { s with heap:=s.heap.push { cls:=.type "tuple",data:=.seq (vs++ws).toArray } })
  (hsz:vs.length+ws.length<=Ð):É (Í prog w) A (â .Add (.ref t) (.ref b)) Q E s:=by
 obtain⟨⟨cls,dd,data,sl⟩,ho,hc,n,hd⟩:=id ht;obtain⟨⟨Iy,Ei,data2,A5⟩,Ej,Hi,n2,hd2⟩:=id hb;simp only at hc hd Hi hd2;subst hc hd Hi hd2;have e:vs.toArray++ws.toArray=(vs++ws).toArray:=by simp
 by_cases hw:ws=[]
 .exact ux ⟨_,ho,rfl⟩ ⟨_,Ej,rfl⟩ uA seq_tuple_add yr yd (wW _ _)
   (tuple_addW1 t b vs.toArray ws.toArray n n2 dd Ei sl A5 (by simpa using hv) (by simp[hw])) ⟨ho,Ej,h1 hw⟩
 .refine ux ⟨_,ho,rfl⟩ ⟨_,Ej,rfl⟩ uA seq_tuple_add yr yd (wW _ _)
   (tuple_addW2 t b vs.toArray ws.toArray n n2 dd Ei sl A5 (by simpa using hv) (by simpa using hw) (by rw[zP,zP];exact hsz)) ⟨ho,Ej,?_⟩
  rw[e];exact h2 hw
def sIx(n d:Nat):Option Int->Nat
 | none=>d
 | some v=>if v<0 then (v+(n:Int)).toNat else min v.toNat n
def DB(n d:Nat)(hd:d<=n)(o:Option Int):sIx n d o<=n:=by
 cases o with
 | none=>exact hd
 | some v=>
  show(if v<0 then (v+(n:Int)).toNat else min v.toNat n)<=n
  by_cases hv:v<0
  .rw[zQ hv];omega
  .rw[zX hv];exact Nat.min_le_right _ _
def ZL(v:Int)(n d:Nat):(if v<0 then max (v+(n:Int)) 0 else min v (n:Int))=((sIx n d (À v):Nat):Int):=by
 show(if v<0 then max (v+(n:Int)) 0 else min v (n:Int))=(((if v<0 then (v+(n:Int)).toNat else min v.toNat n):Nat):Int)
 by_cases hv:v<0
 .erw[zQ hv];omega
 .erw[zX hv];omega
def Jq(lo hi:Option Int)(n:Nat):Ģ lo hi 1 (n:Int)=(((sIx n 0 lo:Nat):Int),((sIx n n hi:Nat):Int)):=by
 have h1:¬((1:Int)<0):=by omega
 unfold Ģ;erw[h1,ju];refine Prod.ext ?_ ?_
 .cases lo with
  | none=>rfl
  | some v=>exact ZL v n 0
 .cases hi with
  | none=>rfl
  | some v=>exact ZL v n n
def Ky(i j:Nat):ć (i:Int) (j:Int) 1=j-i:=by
 unfold ć;have h1:(1:Int)>0:=by omega
 erw[h1,je,Int.ediv_one];split<;>omega
def l9{v:Ã}{o:Option Int}{Q:Option Int->Å->Prop}(p:ņ v o)(h:Q o s):É (Í prog w) A (Builtin.Slice.slicePartIndex v) Q E s:=by
 cases p with
 | none=>exact slicePart_none h
 | int i t=>exact slicePart_int h
def dy{sl:È}{vl vu:Ã}{lo hi:Option Int}{n:Nat}{Q:Int×Int×Nat->Å->Prop}(hs:s.heap.IsSliceOf sl vl vu .none)(pl:ņ vl lo)(pu:ņ vu hi)
  (h:Q (((sIx n 0 lo:Nat):Int),1,sIx n n hi-sIx n 0 lo) s):É (Í prog w) A (Ň (.ref sl) (pure (n:Int))) Q E s:=by
 obtain⟨os,Hu,AE,Iz⟩:=id hs;unfold Ň Builtin.Slice.sliceFields;refine za (za (j7 Hu Iz (x:=vl) rfl (za (j7 Hu Iz (x:=vu) rfl (za (j7 Hu Iz (x:=.none) rfl (zf ?_)))))));refine za (slicePart_none ?_);show É _ _ (if ((1:Int)==0)=Â then _ else _) _ _ s
 rw[zX (by decide)];refine za (l9 pl (za (l9 pu (za (zf ?_)))));show É _ _ (match Ģ lo hi 1 (n:Int) with | (lo,hi)=>pure (lo,(1:Int),ć lo hi 1)) _ _ s
 rw[Jq lo hi n];show É _ _ (pure (((sIx n 0 lo:Nat):Int),(1:Int),ć ((sIx n 0 lo:Nat):Int) ((sIx n n hi:Nat):Int) 1)) _ _ s
 rw[Ky];exact zf h
def Wq(xs:Array Ã)(i k:Nat):((ä k).filterMap λ(m:Nat)=>xs[((i:Int)+(m:Int)*1).toNat]?).toArray=((xs.toList.drop i).take k).toArray:=by
 have e:(λ(m:Nat)=>xs[((i:Int)+(m:Int)*1).toNat]?)=λm=>xs[i+m]?:=by
  funext m
  have:((i:Int)+(m:Int)*1).toNat=i+m:=by omega
  rw[this]
 rw[e];have:=pick_run xs i k;rw[yX] at this;have e2:((λx=>xs[x]?)∘λx=>i+x)=λm=>xs[i+m]?:=rfl
 rw[e2] at this;rw[this]
def getItem_tuple_cut{t sl:È}{items:Array Ã}{vl vu:Ã}{lo hi:Option Int}{Q:Ã->Å->Prop}(ht:Ţ s.heap t items)(hs:s.heap.IsSliceOf sl vl vu .none)(pl:ņ vl lo)(pu:ņ vu hi)
  (hw:¬(sIx items.size 0 lo=0/\sIx items.size items.size hi=items.size))
  (h:Q (.ref s.heap.objs.size) { s with heap:=s.heap.push { cls:=.type "tuple",data:=.seq ((items.toList.drop (sIx items.size 0 lo)).take (sIx items.size items.size hi-sIx items.size 0 lo)).toArray } })
  (hsz:items.size<=Ð):É (Í prog w) A (Ŝ (.ref t) (.ref sl)) Q E s:=by
 have A6:sizeOk (.seq ((items.toList.drop (sIx items.size 0 lo)).take (sIx items.size items.size hi-sIx items.size 0 lo)).toArray):=by
  show((items.toList.drop (sIx items.size 0 lo)).take (sIx items.size items.size hi-sIx items.size 0 lo)).toArray.size<=Ð
  rw[zP,qX,qF,zU];omega
 have hj:sIx items.size items.size hi<=items.size:=DB _ _ (zy _) hi;obtain⟨os,Hu,AE,Iz⟩:=id hs;have LW:s.TypeIs (.ref sl) "slice":=⟨os,Hu,AE⟩;unfold Ŝ;try with_reducible refine jm ?_
 first | refine za (zf ?_) | skip
 refine za (wpAny_sequenceKey ht.typeIs (by decide) ?_)
 refine za (jy (name:=ù "__getitem__") ht.typeIs jG
  (jk jG ht.typeIs Ž ?_ (args_tuple_getitem _ _)))
 show É _ _ (ň (.ref t) >>= _) _ _ s
 refine za (xM ht ?_);refine za (qC LW ?_);rw[zQ (by decide)];refine za (dy hs pl pu ?_);have LX:¬((((sIx items.size 0 lo:Nat):Int)==0&&(1:Int)==1&&(sIx items.size items.size hi-sIx items.size 0 lo)==items.size)=Â):=by
  intro q;rw[zr,zr] at q;have q1:((sIx items.size 0 lo:Nat):Int)=0:=eq_of_beq q.1.1;have q2:sIx items.size items.size hi-sIx items.size 0 lo=items.size:=eq_of_beq q.2;exact hw ⟨by omega,by omega⟩
 show É _ _ (if (((sIx items.size 0 lo:Nat):Int)==0&&(1:Int)==1&&(sIx items.size items.size hi-sIx items.size 0 lo)==items.size)=Â then _ else _) _ _ s
 rw[zX LX,Wq];first
  | exact za (m:=í _) (jd (zf ⟨_,rfl,zf h⟩) A6)
  | exact za (m:=í _) (jd (za (zf (zf ⟨_,rfl,zf h⟩))) A6)
  | exact za (za (m:=í _) (jd (zf (zf ⟨_,rfl,zf h⟩)) A6))
  | exact za (za (m:=í _) (jd (zf ⟨_,rfl,zf h⟩) A6))
end
end HT
namespace L2
open PySem PySem.Spec PyProof.Rows
abbrev TO:=St->Hp->(Option Int->Hp->Prop)->Prop
def PO(X:Cx)(e:Option Î)(t:TO):Prop:=
 ∀(ag:List (È×ó)) (s:Å) (σ:St) (H:Hp) (Q:Option Int->Hp->Prop),Inv X ag σ H s->t σ H Q->
  É (Í X.prog X.w) X.A (evalPart e X.env) (λu s'=>∃o H',Inv X ag σ H' s'/\ņ u o/\Q o H') X.xe s
def UJ:TO:=λ_ H Q=>Q Á H
def DP(t:TE):TO:=λσ H Q=>t σ H λx H1=>∃i,x=.int i/\Q (À i) H1
section
variable{X:Cx}{e:Î}{te:TE}{lo hi:Option Î}{tl th:TO}{pos p2:ĝ}
def XA:PO X Á UJ:=by
 intro ag s σ H Q I h;rw[evalPart_none];exact zf ⟨Á,H,I,.none,h⟩
def XC(h:PE X e te):PO X (À e) (DP te):=by
 intro ag s σ H Q I hw;rw[evalPart_some];refine ku (h ag s σ H _ I hw) ?_;rintro u s1 ⟨x,H1,I1,r1,q1⟩;obtain⟨i,rfl,q⟩:=q1;obtain⟨t,rfl⟩:=r1;exact⟨À i,H1,I1,.int i t,q⟩
def Qi(X:Cx)(r:V->Option Int->Option Int->Hp->VK->Prop):Prop:=
 ∀(ag:List (È×ó)) (s:Å) (σ:St) (H:Hp) (x:V) (v vl vu:Ã) (lo hi:Option Int) (sl:È) (Q:VK),Inv X ag σ H s->RelV x v->s.heap.IsSliceOf sl vl vu .none->ņ vl lo->ņ vu hi->r x lo hi H Q->
  ∃T id,ŉ (.type T) "__getitem__" = pure (À (.builtin id))/\s.TypeIs v T/\É (Í X.prog X.w) X.A (Ŝ v (.ref sl)) (EP X ag σ Q) X.xe s
def GD(r:V->Option Int->Option Int->Hp->VK->Prop)(te:TE)(tl th:TO):TE:=λσ H Q=>te σ H λx H1=>tl σ H1 λl H2=>th σ H2 λu H3=>r x l u H3 Q
def sT{r:V->Option Int->Option Int->Hp->VK->Prop}(hr:Qi X r)(he:PE X e te)(hl:PO X lo tl)(hu:PO X hi th):PE X (.Subscript e (.Slice lo hi Á p2) pos) (GD r te tl th):=by
 intro ag s σ H Q I h;refine Subscript_ (ku (he ag s σ H _ I h) ?_);rintro v s1 ⟨x,H1,I1,r1,q1⟩;refine wpAny_Slice (ku (hl ag s1 σ H1 _ I1 q1) ?_);rintro vl s2 ⟨l,H2,I2,pl,q2⟩;refine ku (hu ag s2 σ H2 _ I2 q2) ?_;rintro vu s3 ⟨u,H3,I3,pu,q3⟩;rw[evalPart_none];refine zf ?_;have I4:Inv X ag σ H3 { s3 with heap:=s3.heap.push { cls:=.type "slice",data:=.fields #[vl,vu,.none] } }:=I3.kept (t':=s3.toks) λb ob q=>zc _ q
 obtain⟨T,id,hT,ht,hg⟩:=hr ag { s3 with heap:=s3.heap.push { cls:=.type "slice",data:=.fields #[vl,vu,.none] } } σ H3 x v vl vu l u s3.heap.objs.size Q I4 r1 (Heap.IsSliceOf.new ..) pl pu q3;show É (Í X.prog X.w) X.A (subscriptTail e (.Slice lo hi Á p2) v (.ref s3.heap.objs.size)) (EP X ag σ Q) X.xe { s3 with heap:=s3.heap.push { cls:=.type "slice",data:=.fields #[vl,vu,.none] } }
 exact tail_any (ops:=[.ref s3.heap.objs.size,v]) ht hT hg (by with_unfolding_all rfl)
def dS(xs:List V)(lo hi:Option Int):List V:=(xs.drop (HT.sIx xs.length 0 lo)).take (HT.sIx xs.length xs.length hi-HT.sIx xs.length 0 lo)
def i8(xs:List V)(lo hi:Option Int):(dS xs lo hi).length<=xs.length:=by
 unfold dS;rw[qX,qF];omega
def Gk(K:Te):V->Option Int->Option Int->Hp->VK->Prop:=λx lo hi H Q=>∃a xs,x=.ref a/\SqT K H a xs /\
 ¬(HT.sIx xs.length 0 lo=0/\HT.sIx xs.length xs.length hi=xs.length)/\∀p,H p=Á->Q (.ref p) (upd H p (.tup (dS xs lo hi)))
def Cz:Qi X (Gk X.K):=by
 intro ag s σ H x v vl vu lo hi sl Q I rx hs pl pu h;obtain⟨a,xs,rfl,hx,hw,q⟩:=h;cases rx;obtain⟨cb,r,ht,hz⟩:=I.tuple hx;have gy:cb.toArray.size=xs.length:=by rw[zP];exact r.length.symm
 refine⟨"tuple",_,jG.lookup,ht.typeIs,?_⟩;refine HT.getItem_tuple_cut ht hs pl pu (by rw[gy];exact hw) ?_ (by rw[gy];exact hz);rw[gy];refine⟨.ref s.heap.objs.size,_,I.laid (t':=s.toks) (o:=.tup (dS xs lo hi)) (λb ob q=>zc _ q) (zy _) ?_,rfl,q _ (I.hok.fresh (zy _))⟩;exact⟨zp (i8 xs lo hi) hz,_,(r.drop (HT.sIx xs.length 0 lo)).take (HT.sIx xs.length xs.length hi-HT.sIx xs.length 0 lo),IsTup.new _ _,.new _ _⟩
def D4(K:Te):R2:=λx y H Q=>∃a b xs ys,x=.ref a/\y=.ref b/\SqT K H a xs/\SqT K H b ys/\xs≠[]/\xs.length+ys.length<=Ð /\
 (ys=[]->Q (.ref a) H)/\(ys≠[]->∀p,H p=Á->Q (.ref p) (upd H p (.tup (xs++ys))))
def Vals.nil_iff{xs:List V}{us:List Ã}(r:Vals xs us):us=[]↔xs=[]:=by
 cases r with
 | nil=>simp
 | cons _ _=>simp
def Xx:kT X (â .Add) (D4 X.K):=by
 intro ag s σ H x y v u Q I rx ry h;obtain⟨a,b,xs,ys,rfl,rfl,ha,hb,hx,hz,q1,q2⟩:=h;cases rx;cases ry;obtain⟨cb,r1,p1,_⟩:=I.tuple ha;obtain⟨Ar,r2,p2,_⟩:=I.tuple hb;refine HT.cat_tup p1 p2 (λz=>hx (r1.nil_iff.mp z)) (λz=>⟨.ref a,H,I,rfl,q1 (r2.nil_iff.mp z)⟩) (λz=>?_) (by rw[<-r1.length,<-r2.length];exact hz);refine⟨.ref s.heap.objs.size,_,I.laid (t':=s.toks) (o:=.tup (xs++ys)) (λb ob q=>zc _ q) (zy _) ?_,rfl,q2 (λw=>z (r2.nil_iff.mpr w)) _ (I.hok.fresh (zy _))⟩;exact⟨by rw[zR];exact hz,_,r1.append r2,IsTup.new _ _,.new _ _⟩
end
end L2
namespace L2
open PySem PySem.Spec PyProof.Rows
def y0(n:Nat)(i:Int):Option Nat:=if 0<=i then (if i<n then À i.toNat else Á) else if -(n:Int)<=i then À (i+n).toNat else Á
def atI{α:Type}(xs:List α)(i:Int):Option α:=(y0 xs.length i).bind λj=>xs[j]?
def Zp{n:Nat}{i:Int}{j:Nat}(h:y0 n i=À j):seqIndex? i n=À j/\j<n/\-(n:Int)<=i/\i<n:=by
 unfold y0 at h;by_cases h0:0<=i
 .rw[zQ h0] at h
  by_cases h1:i<n
  .rw[zQ h1] at h
   have e:i.toNat=j:=zW h;exact⟨by rw[seqIndex_of h0 h1,e],by omega,by omega,h1⟩
  .rw[zX h1] at h;cases h
 .rw[zX h0] at h
  by_cases h1:-(n:Int)<=i
  .rw[zQ h1] at h
   have e:(i+n).toNat=j:=zW h;exact⟨by rw[seqIndex_neg ∅ h1,e],by omega,h1,by omega⟩
  .rw[zX h1] at h;cases h
def nE{α:Type}{xs:List α}{i:Int}{v:α}(h:atI xs i=À v):∃j,seqIndex? i xs.length=À j/\xs[j]?=À v/\j<xs.length/\-(xs.length:Int)<=i/\i<xs.length:=by
 unfold atI at h;cases e:y0 xs.length i with
 | none=>rw[e] at h;cases h
 | some j=>
  rw[e] at h;obtain⟨h1,h2,h3,h4⟩:=Zp e;exact⟨j,h1,h,h2,h3,h4⟩
def fu(b:Î):Prop:=∀o i,subscripted b Ä o i=operate [o,i] (Ŝ o i)
def Z6(X:Cx)(r:R2):Prop:=
 ∀(value slice:Î) (ag:List (È×ó)) (s:Å) (σ:St) (H:Hp) (x y:V) (v u:Ã) (Q:VK),Inv X ag σ H s->RelV x v->RelV y u->r x y H Q->
  subscripted slice Ä v u=operate [v,u] (Ŝ v u)->É (Í X.prog X.w) X.A (subscriptTail value slice v u) (EP X ag σ Q) X.xe s
def FJ(X:Cx)(id:String)(r:V->List V->Hp->VK->Prop):Prop:=
 ∀(ag:List (È×ó)) (s:Å) (σ:St) (H:Hp) (x:V) (xs:List V) (v:Ã) (us:List Ã) (Q:VK),Inv X ag σ H s->RelV x v->Vals xs us->r x xs H Q->
  É (Í X.prog X.w) X.A (ŀ (.builtin id) (v::us)) (EP X ag σ Q) X.xe s
section
variable{X:Cx}{a b:Î}{ta tb:TE}{pos:ĝ}
def Y1{r:R2}(hr:Z6 X r)(ha:PE X a ta)(hb:PE X b tb)(hs:fu b):PE X (.Subscript a b pos) (QR r ta tb):=by
 intro ag s σ H Q I h;exact Subscript_ (WI ha hb I h λv u s2 x y H2 I2 rx ry q=>hr a b ag s2 σ H2 x y v u Q I2 rx ry q (hs _ _))
def Gu(K:Te):R2:=λx y H Q=>∃p xs i v,x=.ref p/\y=.int i/\SqL K H p xs/\atI xs i=À v/\Q v H
def Gs(K:Te):R2:=λx y H Q=>∃p xs i v,x=.ref p/\y=.int i/\SqT K H p xs/\atI xs i=À v/\Q v H
def Gb:R2:=λx y H Q=>∃z i c,x=.str z/\y=.int i/\z.length<=Ð/\atI z.cps.toList i=À c/\Q (.str ⟨#[c]⟩) H
def Ue:Z6 X (Gu X.K):=by
 intro value slice ag s σ H x y v u Q I rx ry h hs;obtain⟨p,xs,i,z,rfl,rfl,hq,he,q⟩:=h;cases rx;obtain⟨t,rfl⟩:=ry;obtain⟨cb,r,pl,hz⟩:=I.list hq;obtain⟨j,h1,h2,h3,h4,h5⟩:=nE he;obtain⟨w,ew,IA⟩:=r.get h2;have hl:=r.length;have hn:=fq;have fin:EP X ag σ Q w s:=⟨z,H,I,IA,q⟩;by_cases h0:0<=i
 .have hj:i.toNat=j:=by
   rw[seqIndex_of h0 h5] at h1;exact zW h1
  exact item_listR pl.isList h0 ∅ (by rw[hj];simpa using ew) fin hs
 .have hj:(i+(cb.toArray.size:Int)).toNat=j:=by
   rw[seqIndex_neg ∅ h4] at h1;rw[zP,<-hl];exact zW h1
  exact ŝ (x:=w) pl.isList.typeIs slot_list_getitem.lookup
   (wpAny_getItem_list_neg (Q:=λr s'=>r=w/\EP X ag σ Q r s') pl.isList ∅ (by rw[zP]<;>omega) ∅ (by rw[hj];simpa using ew) ⟨rfl,fin⟩) hs
def tZ:Z6 X (Gs X.K):=by
 intro value slice ag s σ H x y v u Q I rx ry h hs;obtain⟨p,xs,i,z,rfl,rfl,hq,he,q⟩:=h;cases rx;obtain⟨t,rfl⟩:=ry;obtain⟨cb,r,pl,hz⟩:=I.tuple hq;obtain⟨j,h1,h2,h3,h4,h5⟩:=nE he;obtain⟨w,ew,IA⟩:=r.get h2;have hl:=r.length;have hn:=fq;have fin:EP X ag σ Q w s:=⟨z,H,I,IA,q⟩;exact ŝ (x:=w) pl.typeIs slot_tuple_getitem.lookup
  (getItem_tuple (j:=j) (Q:=λr s'=>r=w/\EP X ag σ Q r s') pl ∅ ∅ (by rw[zP,<-hl];exact h1) (by simpa using ew) ⟨rfl,fin⟩) hs
def Dt:Z6 X Gb:=by
 intro value slice ag s σ H x y v u Q I rx ry h hs;obtain⟨z,i,c,rfl,rfl,hz,he,q⟩:=h;obtain⟨t,rfl⟩:=rx;obtain⟨t',rfl⟩:=ry;obtain⟨j,h1,h2,h3,h4,h5⟩:=nE he;have hl:z.cps.toList.length=z.length:=by simp[Str.length]
 rw[hl] at h1 h4 h5;have hn:=fq
 exact tail_any (typeIs_str s z t) slot_str_getitem.lookup (getItem_str (c:=c) (by
  have e1:decide (i < -(2 ^ 63:Int))=Ä:=ji ∅;have e2:decide (i>=2 ^ 63)=Ä:=ji ∅
  rw[e1,e2,uH]) (by rw[h1];simpa using h2) ⟨.str ⟨#[c]⟩,H,I.tok _,⟨_,rfl⟩,q⟩) hs
def KD(cb:List Ã)(n j:Nat)(u:Ã):Þ (·.setIfInBounds j u) { cls:=.type "list",data:=.seq cb.toArray n }={ cls:=.type "list",data:=.seq (cb.set j u).toArray n }:=by
 simp[Þ]
theorem Inv.lst{ag:List (È×ó)}{σ:St}{H:Hp}{s:Å}{p:È}{xs:List V}(I:Inv X ag σ H s)(h:H p=À (.lst xs)) :
  ∃(cb:List Ã) (n:Nat),Vals xs cb/\s.heap.get? p=À { cls:=.type "list",data:=.seq cb.toArray n }/\xs.length<=Ð:=by
 obtain⟨z,cb,n,r,e⟩:=I.hok p _ h;exact⟨cb,n,r,e,z⟩
def Inv.lstUpd{ag:List (È×ó)}{σ:St}{H:Hp}{s:Å}{p:È}{xs ys:List V}{cb its':List Ã}{n n':Nat}{f:ó->ó}(I:Inv X ag σ H s)(h:H p=À (.lst xs))
  (ho:s.heap.get? p=À { cls:=.type "list",data:=.seq cb.toArray n }) (hf:f { cls:=.type "list",data:=.seq cb.toArray n }={ cls:=.type "list",data:=.seq its'.toArray n' }) (r:Vals ys its') (hz:ys.length<=Ð) (t:Nat) :
  Inv X ag σ (upd H p (.lst ys)) { s with heap:=s.heap.update p f,toks:=t }:=by
 have e:(s.heap.update p f).get? p=À { cls:=.type "list",data:=.seq its'.toArray n' }:=by
  rw[jD f ho (by rw[hf]<;>rfl),hf]
 refine I.write (x:=p) (e:=p) (by rw[h];trivial) (.inl rfl) (λb u hb q=>(qb _ _ (jn hb)).trans q) ⟨_,e⟩ ?_;exact⟨hz,its',n',r,e⟩
def Fx:V->V->V->Hp->(Hp->Prop)->Prop:=λo i v H Q=>∃p xs k j,o=.ref p/\i=.int k/\H p=À (.lst xs)/\y0 xs.length k=À j/\Q (upd H p (.lst (xs.set j v)))
def set_list:Jk X Fx:=by
 intro ag s σ H o i v ov iv u Q I ro ri rv h;obtain⟨p,xs,k,j,rfl,rfl,hp,hj,q⟩:=h;cases ro;obtain⟨t,rfl⟩:=ri;obtain⟨cb,n,r,ho,hz⟩:=I.lst hp;obtain⟨h1,h2,h3,h4⟩:=Zp hj;have hl:=r.length;have hn:=fq;have I':Inv X ag σ (upd H p (.lst (xs.set j v))) { s with heap:=s.heap.update p (Þ (·.setIfInBounds j u)) }:=
  I.lstUpd hp ho (KD cb n j u) (r.set rv j) (by rw[List.length_set];exact hz) s.toks
 by_cases h0:0<=k
 .have hk:k.toNat=j:=by
   rw[seqIndex_of h0 h4] at h1;exact zW h1
  exact PySem.W.ki_setAt ho h0 ∅ (by rw[zP,<-hl];exact h4) (by rw[hk];exact⟨_,I',q⟩)
 .have hk:(k+(cb.toArray.size:Int)).toNat=j:=by
   rw[seqIndex_neg ∅ h3] at h1;rw[zP,<-hl];exact zW h1
  exact PySem.W.ki_setBack ho ∅ (by rw[zP,<-hl];exact h3) ∅ (by rw[hk];exact⟨_,I',q⟩)
def sH(lo hi:Option Int)(n:Nat):(ĩ lo hi Á n).1=((HT.sIx n 0 lo:Nat):Int)/\(ĩ lo hi Á n).2.1=((HT.sIx n n hi:Nat):Int)/\(ĩ lo hi Á n).2.2=1:=by
 refine⟨?_,?_,rfl⟩
 .cases lo with
  | none=>simp[ĩ,HT.sIx]
  | some i=>
   erw[ĩ,HT.sIx,Option.getD_none,show(1:Int)>0 by decide,je];by_cases h:i<0
   .erw[h,je]<;>omega
   .erw[h,ju]<;>omega
 .cases hi with
  | none=>simp[ĩ,HT.sIx]
  | some i=>
   erw[ĩ,HT.sIx,Option.getD_none,show(1:Int)>0 by decide,je];by_cases h:i<0
   .erw[h,je]<;>omega
   .erw[h,ju]<;>omega
theorem pL(cb:List Ã)(lo hi:Option Int):slicePick cb.toArray lo hi Á=((cb.drop (HT.sIx cb.length 0 lo)).take (HT.sIx cb.length cb.length hi-HT.sIx cb.length 0 lo)).toArray:=by
 obtain⟨h1,h2,h3⟩:=sH lo hi cb.toArray.size;unfold slicePick;rw[h1,h2,h3];erw[sliceRange_one,pick_run,zP]<;>rfl
def Gq(K:Te):V->Option Int->Option Int->Hp->VK->Prop:=λx lo hi H Q=>∃a xs,x=.ref a/\SqL K H a xs/\∀p,H p=Á->Q (.ref p) (upd H p (.lst (dS xs lo hi)))
def Z7:Qi X (Gq X.K):=by
 intro ag s σ H x v vl vu lo hi sl Q I rx hs pl pu h;obtain⟨a,xs,rfl,hx,q⟩:=h;cases rx;obtain⟨cb,r,ht,hz⟩:=I.list hx;have gy:=r.length;refine⟨"list",_,slot_list_getitem.lookup,ht.isList.typeIs,?_⟩;refine wpAny_getItem_list_slice ht.isList hs pl pu .none (by simp) ?_ (by rw[zP]<;>omega);rw[pL,<-gy];refine⟨.ref s.heap.objs.size,_,I.laid (t':=s.toks) (o:=.lst (dS xs lo hi)) (λb ob q=>zc _ q) (zy _) ?_,rfl,q _ (I.hok.fresh (zy _))⟩;exact⟨zp (i8 xs lo hi) hz,_,0,(r.drop (HT.sIx xs.length 0 lo)).take (HT.sIx xs.length xs.length hi-HT.sIx xs.length 0 lo),zH _ rfl⟩
def gH:qh X (.builtin "len") (λxs H Q=>∃p ys,xs=[.ref p]/\(SqL X.K H p ys\/SqT X.K H p ys)/\Q (.int ys.length) H):=by
 intro ag s σ H xs us Q I r h;obtain⟨p,ys,rfl,hq,q⟩:=h;obtain⟨u,rfl,rx⟩:=vals1 r;cases rx;have hn:=fq;rcases hq with hq | hq
 .obtain⟨cb,r',pl,hz⟩:=I.list hq
  have gy:=r'.length;exact Calls.call_len_list pl.isList (by erw[zP]<;>omega) ⟨.int ys.length,H,I.tok _,⟨s.toks+1,by rw[zP,gy]⟩,q⟩
 .obtain⟨cb,r',pl,hz⟩:=I.tuple hq
  have gy:=r'.length;exact len_tuple pl (by erw[zP]<;>omega) ⟨.int ys.length,H,I.tok _,⟨s.toks+1,by rw[zP,gy]⟩,q⟩
def rq:qh X (.builtin "len") (λxs H Q=>∃z,xs=[.str z]/\z.length<=Ð/\Q (.int z.length) H):=by
 intro ag s σ H xs us Q I r h;obtain⟨z,rfl,hz,q⟩:=h;obtain⟨u,rfl,t,rfl⟩:=vals1 r;have hn:=fq;exact len_str ∅ ⟨.int z.length,H,I.tok _,⟨_,rfl⟩,q⟩
def hV:qh X (.type "list") (λxs H Q=>∃p ys,xs=[.ref p]/\(SqL X.K H p ys\/SqT X.K H p ys)/\∀l,H l=Á->Q (.ref l) (upd H l (.lst ys))):=by
 intro ag s σ H xs us Q I r h;obtain⟨p,ys,rfl,hq,q⟩:=h;obtain⟨u,rfl,rx⟩:=vals1 r;cases rx;have fin:∀(cb:List Ã),Vals ys cb->ys.length<=Ð->∀(h':Õ) (c':Nat),(∀b o',s.heap.get? b=À o'->h'.get? b=À o')->
   h'.get? s.heap.objs.size=À { cls:=.type "list",dict:=Á,data:=.seq cb.toArray c',slots:=#[] }->EP X ag σ Q (.ref s.heap.objs.size) { s with heap:=h' }:=λcb r' hz h' c' kp e=>
  ⟨.ref s.heap.objs.size,_,I.laid (t':=s.toks) kp (zy _) (show ObjOk X.prog X.w _ h' _ (.lst ys) from ⟨hz,cb,c',r',e⟩),rfl,q _ (I.hok.fresh (zy _))⟩
 rcases hq with hq | hq
 .obtain⟨cb,r',pl,hz⟩:=I.list hq
  have gy:=r'.length;obtain⟨o,ho,hc,n,hd⟩:=pl.isList;exact call_list_seq p (.inl rfl) ho hc hd (λh' c' kp e=>fin cb r' hz h' c' kp e) (by erw[zP]<;>omega)
 .obtain⟨cb,r',pl,hz⟩:=I.tuple hq
  have gy:=r'.length;obtain⟨o,ho,hc,n,hd⟩:=pl;exact call_list_seq p (.inr rfl) ho hc hd (λh' c' kp e=>fin cb r' hz h' c' kp e) (by erw[zP]<;>omega)
def gC:qh X (.type "tuple") (λxs H Q=>∃p ys,xs=[.ref p]/\((SqL X.K H p ys/\∀l,H l=Á->Q (.ref l) (upd H l (.tup ys)))\/(SqT X.K H p ys/\Q (.ref p) H))):=by
 intro ag s σ H xs us Q I r h;obtain⟨p,ys,rfl,h⟩:=h;obtain⟨u,rfl,rx⟩:=vals1 r;cases rx;rcases h with ⟨hq,q⟩ | ⟨hq,q⟩
 .obtain⟨cb,r',pl,hz⟩:=I.list hq
  have gy:=r'.length;refine call_tuple_list pl.isList (λh' kp=>?_) (by erw[zP]<;>omega);have I1:Inv X ag σ H { s with heap:=h' }:=I.kept (t':=s.toks) kp;have I2:Inv X ag σ (upd H h'.objs.size (.tup ys)) { s with heap:=h'.push { cls:=.type "tuple",data:=.seq cb.toArray } }:=
   I1.laid (t':=s.toks) (λb o e=>zc _ e) (zy _) (show ObjOk X.prog X.w _ _ _ (.tup ys) from ⟨hz,cb,r',IsTup.new _ _,.new _ _⟩)
  exact⟨.ref h'.objs.size,_,I2,rfl,q _ (I1.hok.fresh (zy _))⟩
 .obtain⟨cb,r',pl,hz⟩:=I.tuple hq
  exact call_tuple_same pl ⟨.ref p,H,I,rfl,q⟩
def DD(K:Te)(T:String)(x:V)(H:Hp):Prop:=match x with
 | .str _=>T="str"
 | .int _=>T="int"
 | .ref p=>(T="list" /\ ∃xs,SqL K H p xs)\/(T="tuple" /\ ∃o,K.lookup p=À o/\o.cls=.type "tuple" /\ o.dict=Á) \/
   (T="dict" /\ ((∃cx,H p=À (.dK cx))\/∃cx,H p=À (.dT cx)))\/(T="set" /\ ∃S n,H p=À (.set S n))
 | _=>False
def Vj{ag:List (È×ó)}{σ:St}{H:Hp}{s:Å}{T:String}{x:V}{v:Ã}(I:Inv X ag σ H s)(r:RelV x v)(ty:DD X.K T x H) :
  s.TypeIs v T/\∀a,v=.ref a->∃ob,s.heap.get? a=À ob/\ob.dict=Á:=by
 cases x with
 | str z=>
  obtain⟨t,rfl⟩:=r;cases (show T="str" from ty);exact⟨typeIs_str s z t,λ_ e=>nomatch e⟩
 | int i=>
  obtain⟨t,rfl⟩:=r;cases (show T="int" from ty);exact⟨ur s i t,λ_ e=>nomatch e⟩
 | ref p=>
  cases r;rcases ty with ⟨rfl,xs,hq⟩ | ⟨rfl,o,hk,hc,hd⟩ | ⟨rfl,hk⟩ | ⟨rfl,S,n,hk⟩
  .obtain⟨cb,_,pl,_⟩:=I.list hq
   refine⟨pl.isList.typeIs,λa e=>?_⟩;cases e;obtain⟨o,n,e,c,hd,_⟩:=pl;exact⟨o,e,hd⟩
  .refine⟨⟨o,I.kIn p o hk,hc⟩,λa e=>?_⟩
   cases e;exact⟨o,I.kIn _ o hk,hd⟩
  .have z:∃o,s.heap.get? p=À o/\o.ExactDict:=by
    rcases hk with ⟨cx,hk⟩ | ⟨cx,hk⟩
    .obtain⟨_,_,_,_,o,_,_,e,ex,_⟩:=I.hok p _ hk
     exact⟨o,e,ex⟩
    .obtain⟨_,_,_,_,o,_,_,e,ex,_⟩:=I.hok p _ hk
     exact⟨o,e,ex⟩
   obtain⟨o,e,ex⟩:=z;refine⟨⟨o,e,ex.1⟩,λa e2=>?_⟩;cases e2;exact⟨o,e,ex.2.1⟩
  .obtain⟨o,_,_,_,e,ex,_⟩:=I.hok p _ hk
   refine⟨⟨o,e,ex.1⟩,λa e2=>?_⟩;cases e2;exact⟨o,e,ex.2.1⟩
 | _=>exact ē ty
def BM(K:Te)(T:String)(r:V->List V->Hp->VK->Prop)(to:TE):TE:=λσ H Q=>to σ H λx H1=>DD K T x H1/\r x [] H1 Q
def FO(K:Te)(T:String)(r:V->List V->Hp->VK->Prop)(to:TE)(t:TA):TE:=λσ H Q=>to σ H λx H1=>DD K T x H1/\t σ H1 λxs H2=>r x xs H2 Q
variable{o e:Î}{es:List Î}{to:TE}{t:TA}{name:Ç}{apos cpos:ĝ}{T id:String}{r:V->List V->Hp->VK->Prop}
def BE(pa:PlainAttrs T)(slot:Slot T name id)(LY:typeOf (.builtin id)=pure (.type "method_descriptor"))(hm:FJ X id r)(ho:PE X o to)
  (Al:↥(ė o name X.env (å o X.env)=å o X.env)) (Am:↥((apos.endLine==cpos.line)=Â)):PE X (.Call (.Attribute o name apos) [] [] cpos) (BM X.K T r to):=by
 intro ag s σ H Q I h;refine wpAny_Call_method0_late Al Am (ku (ho ag s σ H _ I h) ?_);rintro v s1 ⟨x,H1,I1,r1,ty,q1⟩;obtain⟨h1,h2⟩:=Vj I1 r1 ty;exact⟨T,id,pa,slot,LY,h1,h2,yN rfl (PySem.evalArgs_none (hm ag s1 σ H1 x [] v [] Q I1 r1 .nil q1))⟩
def Y6(pa:PlainAttrs T)(slot:Slot T name id)(LY:typeOf (.builtin id)=pure (.type "method_descriptor"))(hm:FJ X id r)(ho:PE X o to)(ha:PA X (e::es) t)
  (Al:↥(ė o name X.env (å o X.env)=å o X.env))
  (Ex:((á cpos (Ì (e::es) X.env)).all (λx=>!x.1)&&(ů cpos (ļ [] X.env)).all (λx=>x.1.isSome)
   && decide ((e::es).length+([]:List Ķ).length+(if ([]:List Ķ).isEmpty then 0 else 1)<30))=Â:=by rfl)
  (Am:↥((apos.endLine==cpos.line)=Â)) (hs:↥(Ì (e::es) X.env=(Ä,å e X.env)::Ì es X.env)) (Aw:↥((á cpos (Ì es X.env)).any (·.1)=Ä)) :
  PE X (.Call (.Attribute o name apos) (e::es) [] cpos) (FO X.K T r to t):=by
 intro ag s σ H Q I h;refine wpAny_Call_method_late Al Ex Am rfl (ku (ho ag s σ H _ I h) ?_);rintro v s1 ⟨x,H1,I1,r1,ty,q1⟩;obtain⟨h1,h2⟩:=Vj I1 r1 ty;refine⟨T,id,pa,slot,LY,h1,h2,?_⟩;have hA:=ha cpos ag s1 σ H1 _ I1 q1;rw[hs] at hA ⊢;refine yN (by show(Ä||(á cpos (Ì es X.env)).any (·.1))=Ä;rw[Aw]<;>rfl) (Calls.evalArgs_plain ?_);exact ku hA λus s2 LV=>(by obtain⟨vs,H2,I2,r2,q2⟩:=LV;exact hm ag s2 σ H2 x vs v us Q I2 r1 r2 q2)
end
end L2
namespace L2
open PySem PySem.Spec PyProof.Rows
def Ve(X:Cx)(id:String)(r:V->List V->Hp->VK->Prop):Prop:=
 ∀(ag:List (È×ó)) (s:Å) (σ:St) (H:Hp) (x:V) (xs:List V) (v:Ã) (us:List Ã) (Q:VK),Inv X ag σ H s->RelV x v->Vals xs us->r x xs H Q->
  É (Í X.prog X.w) X.A (ŀ (.builtin id) (v::us)) (EP X ag σ Q) X.xe s
def Vals.one{x:V}{us:List Ã}(h:Vals [x] us):∃u,us=[u]/\RelV x u:=by
 cases h with | cons r t=>cases t;exact⟨_,rfl,r⟩
theorem Vals.zero:∀{us:List Ã},Vals [] us->us=[]
 | _,.nil=>rfl
theorem Vals.dropLast{xs:List V}{us:List Ã}(h:Vals xs us):Vals xs.dropLast us.dropLast:=by
 induction h with
 | nil=>exact .nil
 | cons r t ih=>
  cases t with
  | nil=>exact .nil
  | cons q t'=>exact .cons r ih
theorem Vals.rep{xs:List V}{us:List Ã}(h:Vals xs us):∀k:Nat,Vals (Æ k xs).flatten (Æ k us).flatten
 | 0=>.nil
 | k+1=>by
  rw[qw,qw,vf,vf];exact Vals.append h (Vals.rep h k)
theorem KU{α:Type}(l:List α):l.eraseIdx (l.length-1)=l.dropLast:=by
 induction l with
 | nil=>rfl
 | cons a r ih=>
  cases r with
  | nil=>rfl
  | cons b r=>
   have e:(a::b::r).length-1=((b::r).length-1)+1:=by
    have h1:(a::b::r).length=r.length+2:=rfl;have h2:(b::r).length=r.length+1:=rfl;omega
   rw[e,uG,ih];all_goals rfl
theorem foldl_rep(cb:List Ã):∀(k:Nat) (acc:List Ã),
  Ŋ (λx1 x2=>x1++x2) acc.toArray (Æ k cb.toArray)=(acc++(Æ k cb).flatten).toArray
 | 0,acc=>by simp
 | k+1,acc=>by
  have e:acc.toArray++cb.toArray=(acc++cb).toArray:=by simp
  have e2:(acc++cb)++(Æ k cb).flatten=acc++(Æ (k+1) cb).flatten:=by
   rw[qw,vf,wZ]
  rw[<-e2,<-foldl_rep cb k (acc++cb),<-e,qw,List.foldl_cons]
section
variable{X:Cx}{ag:List (È×ó)}{σ:St}{H:Hp}{s:Å}{l b:È}{xs ys zs:List V}
def Inv.lset{cb its':List Ã}{n:Nat}{f:Array Ã->Array Ã}{t':Nat}(I:Inv X ag σ H s)(hH:H l=À (.lst xs))
  (e:s.heap.get? l=À { cls:=.type "list",data:=.seq cb.toArray n }) (hf:f cb.toArray=its'.toArray) (hv:Vals ys its') (hz:ys.length<=Ð) :
  Inv X ag σ (upd H l (.lst ys)) { s with heap:=s.heap.update l (Þ f),toks:=t' }:=by
 have q:=PySem.IsL.update e f;rw[hf] at q;refine I.write (x:=l) (e:=l) (by rw[hH];exact trivial) (.inl rfl) (λb' u hb hu=>(qb s.heap (Þ f) (jn hb)).trans hu) ⟨_,q⟩ ?_;exact⟨hz,its',_,hv,q⟩
def Inv.lnew{cb:List Ã}{t':Nat}(I:Inv X ag σ H s)(hv:Vals ys cb)(hz:ys.length<=Ð) :
  Inv X ag σ (upd H s.heap.objs.size (.lst ys)) { s with heap:=s.heap.push { cls:=.type "list",data:=.seq cb.toArray },toks:=t' }:=
 I.laid (λ_ _ q=>zc _ q) (zy _) ⟨hz,cb,0,hv,zH _ rfl⟩
theorem Inv.fresh(I:Inv X ag σ H s):H s.heap.objs.size=Á:=I.hok.fresh (zy _)
def Inv.lstM(I:Inv X ag σ H s)(hH:H l=À (.lst xs)):xs.length<=Ð/\∃(cb:List Ã) (n:Nat),Vals xs cb/\xs.length=cb.length/\s.heap.get? l=À { cls:=.type "list",data:=.seq cb.toArray n }:=by
 obtain⟨z,cb,n,r,e⟩:=I.hok l _ hH;exact⟨z,cb,n,r,r.length,e⟩
def VI{n:Nat}(h:n<=Ð):î n=Ä:=by
 unfold î;exact ji ∅
end
section
variable{X:Cx}
def U1:V->List V->Hp->VK->Prop:=λx vs H Q=>∃l xs y,x=.ref l/\vs=[y]/\H l=À (.lst xs)/\xs.length<Ð/\Q .non (upd H l (.lst (xs++[y])))
def oa:Ve X "list.append" U1:=by
 intro ag s σ H x vs v us Q I rx rv h;obtain⟨l,xs,y,rfl,rfl,hH,hz,q⟩:=h;cases rx;obtain⟨u,rfl,ru⟩:=rv.one;obtain⟨z,cb,n,r,hl,e⟩:=I.lstM hH;refine wg F.slot_list_append ⟨_,e,rfl⟩ F.entry_list_append (F.args_list_append_2 _ _) (PySem.list_append l cb.toArray n u (by rw[zP];omega)) ⟨e,?_⟩;refine⟨.non,_,I.lset (its':=cb++[u]) hH e (by simp) (r.append (.cons ru .nil)) ?_,rfl,q⟩;rw[zR,qK];omega
def FV:V->List V->Hp->VK->Prop:=λx vs H Q=>∃l xs y,x=.ref l/\vs=[]/\H l=À (.lst xs)/\xs[xs.length-1]?=À y/\Q y (upd H l (.lst xs.dropLast))
def Bj:Ve X "list.pop" FV:=by
 intro ag s σ H x vs v us Q I rx rv h;obtain⟨l,xs,y,rfl,rfl,hH,hy,q⟩:=h;cases rx;have Lq:=rv.zero;subst Lq;obtain⟨z,cb,n,r,hl,e⟩:=I.lstM hH;obtain⟨u,hu,ru⟩:=r.get hy;have Pa:cb.toArray[cb.toArray.size-1]?=À u:=by
  show cb.toArray[cb.length-1]?=À u
  rw[<-yF,<-hl];exact hu
 refine wg F.slot_list_pop ⟨_,e,rfl⟩ F.entry_list_pop (F.args_list_pop_1 _) (MeetsSeq.list_pop_last l cb.toArray n u Pa (by rw[zP];omega)) ⟨e,?_⟩;refine⟨y,_,I.lset (its':=cb.dropLast) hH e ?_ r.dropLast ?_,ru,q⟩
 .show cb.toArray.eraseIdxIfInBounds (cb.toArray.size-1)=cb.dropLast.toArray
  rw[zP,List.eraseIdxIfInBounds_toArray,KU]
 .rw[List.length_dropLast]
  omega
def len_rep{α:Type}(xs:List α)(k:Nat):(Æ k xs).flatten.length=k*xs.length:=by
 induction k with
 | zero=>simp
 | succ k ih=>rw[qw,vf,zR,ih,Nat.succ_mul,Nat.add_comm]
end
end L2
namespace L2
open PySem PySem.Spec PyProof.Rows
section
variable{κ:Type}[DecidableEq κ]
def y8(cx:List (κ×V))(k:κ):Option V:=(cx.find? λkv=>decide (kv.1=k)).map (·.2)
def putK(cx:List (κ×V))(k:κ)(v:V):List (κ×V):=
 if (cx.any λkv=>decide (kv.1=k))=Â then cx.map (λkv=>if kv.1=k then (kv.1,v) else kv) else cx++[(k,v)]
def lW{p:κ×V}{r:List (κ×V)}{k:κ}(e:p.1=k):y8 (p::r) k=À p.2:=by simp[y8,jN,e]
def lA{p:κ×V}{r:List (κ×V)}{k:κ}(e:¬p.1=k):y8 (p::r) k=y8 r k:=by simp[y8,jN,e]
theorem rE(k:κ):∀cx:List (κ×V),(cx.any λkv=>decide (kv.1=k))=(y8 cx k).isSome
 | []=>rfl
 | p::r=>by
  rw[wu];by_cases e:p.1=k
  .erw[lW e,kJ e,Bool.true_or,Option.isSome_some]
  .rw[lA e,ji e,Bool.false_or];exact rE k r
def eX(cx:List (κ×V))(k:κ)(v:V):(putK cx k v).length<=cx.length+1:=by
 unfold putK;split
 .rw[zG];omega
 .rw[zR,zE,kI];omega
theorem RelO.isSome_eq{o:Option V}{u:Option Ã}(r:RelO o u):o.isSome=u.isSome:=by
 cases o with
 | none=>cases u with
  | none=>rfl
  | some _=>exact(show False from r).elim
 | some _=>cases u with
  | none=>exact(show False from r).elim
  | some _=>rfl
theorem RelO.getD{o:Option V}{u:Option Ã}{d:V}{d':Ã}(r:RelO o u)(rd:RelV d d'):RelV (o.getD d) (u.getD d'):=by
 cases o with
 | none=>cases u with
  | none=>exact rd
  | some _=>exact(show False from r).elim
 | some _=>cases u with
  | none=>exact(show False from r).elim
  | some _=>exact r
def KV.val{cx:List (κ×V)}{vs:List (κ×Ã)}(r:KV cx vs)(k:κ):RelO (y8 cx k) (valueAt vs k):=by
 unfold KV at r;induction r with
 | nil=>exact ø
 | @cons p q ps qs h t ih=>
  obtain⟨h1,h2⟩:=h;by_cases e:p.1=k
  .have e':q.1=k:=h1.symm.trans e
   have b:valueAt (q::qs) k=À q.2:=by simp[valueAt,jN,e']
   rw[lW e,b];exact h2
  .have e':¬q.1=k:=λz=>e (h1.trans z)
   have b:valueAt (q::qs) k=valueAt qs k:=by simp[valueAt,jN,e']
   rw[lA e,b];exact ih
theorem KV.any{cx:List (κ×V)}{vs:List (κ×Ã)}(r:KV cx vs)(k:κ):(cx.any λkv=>decide (kv.1=k))=vs.any λkv=>decide (kv.1=k):=by
 unfold KV at r;induction r with
 | nil=>rfl
 | cons h t ih=>rw[wu,wu,ih,h.1]
def KV.repl{cx:List (κ×V)}{vs:List (κ×Ã)}(r:KV cx vs)(k:κ){y:V}{u:Ã}(ry:RelV y u) :
  KV (cx.map λkv=>if kv.1=k then (kv.1,y) else kv) (vs.map λkv=>if kv.1=k then (kv.1,u) else kv):=by
 unfold KV at r ⊢;induction r with
 | nil=>exact .nil
 | @cons p q ps qs h t ih=>
  rw[zz,zz];refine .cons ?_ ih;obtain⟨h1,h2⟩:=h;by_cases e:p.1=k
  .rw[zQ e,zQ (h1.symm.trans e)];exact⟨h1,ry⟩
  .rw[zX e,zX (λz=>e (h1.trans z))];exact⟨h1,h2⟩
def KV.put{cx:List (κ×V)}{vs:List (κ×Ã)}(r:KV cx vs)(k:κ){y:V}{u:Ã}(ry:RelV y u):KV (putK cx k y) (stored vs k u):=by
 unfold putK stored;rw[r.any k];by_cases e:(vs.any λkv=>decide (kv.1=k))=Â
 .rw[zQ e,zQ e];exact r.repl k ry
 .rw[zX e,zX e];exact Paired.snoc r ⟨rfl,ry⟩
theorem KV.length{cx:List (κ×V)}{vs:List (κ×Ã)}(r:KV cx vs):cx.length=vs.length:=Paired.length r
end
def pY{P:Ï}{w:Ô}{k:Key}{u:Ã}(r:RelV (kV k) u):(qB P w).is k u=Â:=by
 cases k with
 | inl i=>obtain⟨t,e⟩:=(show ∃t,u=ħ i t from r);subst e;exact Zm P w i t
 | inr x=>obtain⟨t,e⟩:=(show ∃t,u=Ĵ x t from r);subst e;exact Zj P w x t
theorem pH{P:Ï}{w:Ô}:∀{ks:List Key} {us:List Ã},Vals (ks.map kV) us->ItemsAre (qB P w) ks us
 | [],_,r=>by rw[kY] at r;cases r;exact .nil
 | k::ks,_,r=>by
  rw[zz] at r;cases r with
  | cons h t=>exact .cons (pY h) (pH t)
abbrev KT(H:Hp):List (List Key×V)->List (List Key×È×Ã)->Prop:=Paired λp q=>p.1=q.1/\H q.2.1=À (.tup (p.1.map kV))/\RelV p.2 q.2.2
def KT.val{H:Hp}{cx:List (List Key×V)}{xs:List (List Key×È×Ã)}(r:KT H cx xs)(k:List Key):RelO (y8 cx k) ((atKey xs k).map (·.2)):=by
 induction r with
 | nil=>exact ø
 | @cons p q ps qs h t ih=>
  obtain⟨h1,_,h2⟩:=h;by_cases e:p.1=k
  .have e':q.1=k:=h1.symm.trans e
   have b:atKey (q::qs) k=À q.2:=by simp[atKey,jN,e']
   rw[lW e,b];exact h2
  .have e':¬q.1=k:=λz=>e (h1.trans z)
   have b:atKey (q::qs) k=atKey qs k:=by simp[atKey,jN,e']
   rw[lA e,b];exact ih
def KT.repl{H:Hp}{cx:List (List Key×V)}{xs:List (List Key×È×Ã)}(r:KT H cx xs)(k:List Key){y:V}{u:Ã}(ry:RelV y u) :
  KT H (cx.map λkv=>if kv.1=k then (kv.1,y) else kv) (xs.map (putAt k u)):=by
 induction r with
 | nil=>exact .nil
 | @cons p q ps qs h t ih=>
  rw[zz,zz];refine .cons ?_ ih;obtain⟨h1,h2,h3⟩:=h;unfold putAt;by_cases e:p.1=k
  .rw[zQ e,zQ (h1.symm.trans e)];exact⟨h1,h2,ry⟩
  .rw[zX e,zX (λz=>e (h1.trans z))];exact⟨h1,h2,h3⟩
def KT.put{H:Hp}{cx:List (List Key×V)}{xs:List (List Key×È×Ã)}(r:KT H cx xs)(k:List Key){b:È}{y:V}{u:Ã}(hb:H b=À (.tup (k.map kV)))(ry:RelV y u) :
  KT H (putK cx k y) (ł xs k b u):=by
 have e:(cx.any λkv=>decide (kv.1=k))=(atKey xs k).isSome:=by
  rw[rE,(r.val k).isSome_eq,Option.isSome_map]
 unfold putK ł;rw[e];by_cases q:(atKey xs k).isSome=Â
 .rw[zQ q,zQ q];exact r.repl k ry
 .rw[zX q,zX q];exact Paired.snoc r ⟨rfl,hb,ry⟩
def KT.keeps{H H':Hp}{cx:List (List Key×V)}{xs:List (List Key×È×Ã)}(r:KT H cx xs)(ht:∀b ys,H b=À (.tup ys)->H' b=À (.tup ys)):KT H' cx xs:=
 Paired.mapP r λ_ _ z=>⟨z.1,ht _ _ z.2.1,z.2.2⟩
section
variable{P:Ï}{w:Ô}{H:Hp}{h:Õ}{a:È}
def YY{u:HO}(ok:HOk P w H h)(e:Rd H a u):ObjOk P w H h a u:=e.ok ok
def mH{cx:List (Key×V)}(ok:HOk P w H h)(e:Rd H a (.dK cx)):cx.length<=Ð/\(a==Ý)=Ä/\∃vs,KV cx vs/\h.DictOf (qB P w) a vs:=
 show ObjOk P w H h a (.dK cx) from YY ok e
def FE{cx:List (Key×V)}(ok:HOk P w H h)(e:H a=À (.dK cx)):cx.length<=Ð/\(a==Ý)=Ä/\∃vs,KV cx vs/\h.DictOf (qB P w) a vs:=mH ok (.inl e)
def tH{ks:List Key}(ok:HOk P w H h)(e:H a=À (.tup (ks.map kV))):(Ġ (qB P w)).is h ks a:=by
 obtain⟨_,cb,r,⟨o,h1,h2,n,h3⟩,_⟩:=(show ObjOk P w H h a (.tup (ks.map kV)) from ok a _ e);exact⟨o,cb.toArray,n,h1,h2,h3,by simpa using pH r⟩
def KO{cx:List (List Key×V)}(ok:HOk P w H h)(e:Rd H a (.dT cx)):cx.length<=Ð/\(a==Ý)=Ä /\
  ∃xs,KT H cx xs/\h.DictOfH (Ġ (qB P w)) a xs:=by
 obtain⟨z,y,xs,r,o,es,ep,h1,h2,h3,h4,h5⟩:=(show ObjOk P w H h a (.dT cx) from YY ok e);refine⟨z,y,xs,r,o,es,ep,h1,h2,h3,h4,λx hx=>?_,h5⟩;have all:∀{l:List (List Key×V)} {m:List (List Key×È×Ã)},KT H l m->∀x∈m,(Ġ (qB P w)).is h x.1 x.2.1:=by
  intro l m q;induction q with
  | nil=>intro x hx;exact nomatch hx
  | @cons p q ps qs hq t ih=>
   intro x hx;rcases zg.mp hx with e | hx
   .subst e
    exact tH ok (by rw[<-hq.1];exact hq.2.1)
   .exact ih x hx
 exact all r x hx
def uk{cx:List (List Key×V)}(ok:HOk P w H h)(e:H a=À (.dT cx)):cx.length<=Ð/\(a==Ý)=Ä /\
  ∃xs,KT H cx xs/\h.DictOfH (Ġ (qB P w)) a xs:=KO ok (.inl e)
end
def Ce(H:Hp)(a:È)(y:V)(r:Option V):Prop:=
 (∃cx k,Rd H a (.dK cx)/\y=kV k/\r=y8 cx k)\/∃cx k b,Rd H a (.dT cx)/\y=.ref b/\H b=À (.tup (k.map kV))/\r=y8 cx k
def Gn(H:Hp)(a:È)(y v:V)(H':Hp):Prop:=
 (∃cx k,H a=À (.dK cx)/\y=kV k/\cx.length<Ð/\H'=upd H a (.dK (putK cx k v))) \/
 ∃cx k b,H a=À (.dT cx)/\y=.ref b/\H b=À (.tup (k.map kV))/\cx.length<Ð/\H'=upd H a (.dT (putK cx k v))
section
variable{X:Cx}{ag:List (È×ó)}{σ:St}{H:Hp}{s:Å}{a:È}{y v:V}{u r:Ã}{o:Option V}{A:Ù}{E:Ã->Å->Prop}
def Inv.big(I:Inv X ag σ H s):Ý<s.heap.objs.size:=by
 have h:ß<s.heap.objs.size:=(I.mod.glob.keeps I.bk).lt;exact uR (by decide) h
def nH{h':Õ}{t':Nat}{ob:HO}(I:Inv X ag σ H s)(mu:pJ (H a))(hs:Ü a s.heap h')(he:∃q,h'.get? a=À q)(new:ObjOk X.prog X.w (upd H a ob) h' a ob) :
  Inv X ag σ (upd H a ob) { s with heap:=h',toks:=t' }:=
 I.write (x:=a) (e:=a) mu (.inl rfl) (λb q hb z=>(hs.2 b hb).trans z) he new
def sg{P:Ï}{w:Ô}{H':Hp}{h':Õ}{cx:List (Key×V)}{vs:List (Key×Ã)}(z:cx.length<=Ð)(hd:(a==Ý)=Ä)(rel:KV cx vs)(dd:h'.DictOf (qB P w) a vs) :
  ObjOk P w H' h' a (.dK cx):=⟨z,hd,vs,rel,dd⟩
def J8{H':Hp}{Q:Unit->Å->Prop}(hu:A.units+1<õ)(I:Inv X ag σ H s)(g:Gn H a y v H')(ry:RelV y u)(rv:RelV v r)(h:∀s',Inv X ag σ H' s'->Q () s') :
  É (Í X.prog X.w) A (setItem (.ref a) u r) Q E s:=by
 rcases g with ⟨cx,k,e,ey,l,eH⟩ | ⟨cx,k,b,e,ey,eb,l,eH⟩
 .subst ey eH
  obtain⟨z,hd,vs,rel,dd⟩:=FE I.hok e;have hz:vs.length<=Ð:=by rw[<-rel.length];exact z
  have hl:(putK cx k v).length<=Ð:=by have:=eX cx k v;omega
  refine wpAny_setItem_pairs (hsz:=hz) (pY ry) dd λh' H0 hs=>h _ ?_
  have he:∃q,h'.get? a=À q:=let ⟨q,_,_,hq,_⟩:=H0;⟨q,hq⟩;exact nH I (by rw[e];exact ø) hs he (sg hl hd (rel.put k rv) H0)
 .subst ey eH
  cases (show u=Ê b from ry);obtain⟨z,hd,xs,rel,dd⟩:=uk I.hok e;have hz:xs.length<=Ð:=by rw[<-Paired.length rel];exact z
  have hl:(putK cx k v).length<=Ð:=by have:=eX cx k v;omega
  refine wpAny_setItem_heap (hsz:=hz) (ue hu) (tH I.hok eb) dd λh' H0 hs=>h _ ?_
  obtain⟨q,es,ep,hq,h2,h3,h4,_,h5⟩:=H0;refine nH I (by rw[e];exact ø) hs ⟨q,hq⟩ ⟨hl,hd,_,(rel.put k eb rv).keeps λc ys ec=>?_,q,es,ep,hq,h2,h3,h4,h5⟩;rw[kH (Fk ec e (λz=>nomatch z))];exact ec
end
def Wp{P:Ï}{w:Ô}{H:Hp}(h:Õ)(hb:Ý<h.objs.size):ObjOk P w H (h.push { cls:=.type "dict",data:=.dict #[] }) h.objs.size (.dK []):=
 ⟨j9 _,jB.mpr (jn (zL hb)),[],.nil,Heap.DictOf.new h⟩
def B9:TE:=λ_ H Q=>∀p,H p=Á->Q (.ref p) (upd H p (.dK []))
section
variable{X:Cx}{pos:ĝ}
def t9:PE X (.Dict [] [] pos) B9:=λag s σ H Q I h=>
 wpAny_Dict_empty ⟨.ref s.heap.objs.size,_,I.laid (a:=s.heap.objs.size) (o:=.dK []) (t':=s.toks) (λ_ _ q=>zc _ q) (zy _) (Wp s.heap I.big),rfl,h _ (I.hok.fresh (zy _))⟩
end
def dQ(cx more:List (Key×V)):List (Key×V):=more.foldl (λacc kv=>putK acc kv.1 kv.2) cx
def KV.merge:∀{more:List (Key×V)} {rs:List (Key×Ã)} {cx:List (Key×V)} {vs:List (Key×Ã)},KV more rs->KV cx vs->KV (dQ cx more) (merged vs rs):=by
 intro more rs cx vs r;unfold KV at r;induction r generalizing cx vs with
 | nil=>intro q;exact q
 | @cons p q ps qs h t ih=>
  intro r0;have e:KV (putK cx p.1 p.2) (stored vs q.1 q.2):=by
   have:=r0.put p.1 h.2;rw[<-h.1];exact this
  exact ih e
theorem gD:∀(more cx:List (Key×V)),(dQ cx more).length<=cx.length+more.length
 | [],cx=>by show cx.length<=cx.length+0;omega
 | p::r,cx=>by
  have h1:=gD r (putK cx p.1 p.2);have h2:=eX cx p.1 p.2;show(dQ (putK cx p.1 p.2) r).length<=_
  rw[zE];omega
structure M2(X:Cx)(o:Î)(m:Ç)(apos:ĝ)(e f:Î)(cpos:ĝ):Prop where
 base:ė o m X.env (å o X.env)=å o X.env
 few:((á cpos (Ì [e,f] X.env)).all (λx=>!x.1)&&(ů cpos (ļ [] X.env)).all (λx=>x.1.isSome)
  && decide (([e,f]:List Î).length+([]:List Ķ).length+(if ([]:List Ķ).isEmpty then 0 else 1)<30))=Â
 line:(apos.endLine==cpos.line)=Â
 trees:á cpos (Ì [e,f] X.env)=[(Ä,å e X.env),(Ä,å f X.env)]
def FQ(H:Hp)(a:È):Prop:=(∃cx,Rd H a (.dK cx))\/∃cx,Rd H a (.dT cx)
def B8{X:Cx}{ag:List (È×ó)}{σ:St}{H:Hp}{s:Å}{a:È}(I:Inv X ag σ H s)(d:FQ H a) :
  s.TypeIs (.ref a) "dict" /\ (∀b,Ê a=.ref b->∃ob,s.heap.get? b=À ob/\ob.dict=Á)/\(a==Ý)=Ä:=by
 rcases d with ⟨cx,e⟩ | ⟨cx,e⟩
 .obtain⟨_,hd,vs,_,dd⟩:=mH I.hok e
  refine⟨dd.typeIs,λb q=>?_,hd⟩;cases q;obtain⟨ob,_,_,h1,h2,_⟩:=dd;exact⟨ob,h1,h2.2.1⟩
 .obtain⟨_,hd,xs,_,dd⟩:=KO I.hok e
  refine⟨dd.typeIs,λb q=>?_,hd⟩;cases q;obtain⟨ob,_,_,h1,h2,_⟩:=dd;exact⟨ob,h1,h2.2.1⟩
section
variable{X:Cx}{ag:List (È×ó)}{σ:St}{H:Hp}{s:Å}{a:È}{y d:V}{u r:Ã}{o:Option V}{A:Ù}{E:Ã->Å->Prop}
def Bd{Q:Ã->Å->Prop}(hu:A.units+1<õ)(I:Inv X ag σ H s)(g:Ce H a y o)(ry:RelV y u)(rd:RelV d r)(h:∀w' s',Inv X ag σ H s'->RelV (o.getD d) w'->Q w' s') :
  É (Í X.prog X.w) A (ŀ (.builtin "dict.get") [.ref a,u,r]) Q E s:=by
 rcases g with ⟨cx,k,e,ey,l⟩ | ⟨cx,k,b,e,ey,eb,l⟩
 .subst ey
  obtain⟨z,hd,vs,rel,dd⟩:=mH I.hok e;refine call_meetsIn yx dd.typeIs uK (uC _ _ _) (meets_dict_get_default (qB X.prog X.w) a (pY ry) hd r) ⟨_,dd.mapOf,h _ _ (I.tok _) ?_⟩;rw[l];exact(rel.val k).getD rd
 .subst ey
  cases (show u=Ê b from ry);obtain⟨z,hd,xs,rel,dd⟩:=KO I.hok e;refine call_meetsIn yx dd.typeIs uK (uC _ _ _) (meetsH_dict_get_default (Ġ (qB X.prog X.w)) a b hd r) ⟨ue hu,k,xs,tH I.hok eb,dd,h _ _ (I.tok _) ?_⟩;rw[l];exact(rel.val k).getD rd
end
def U5(td ty tx:TE):TE:=λσ H Q=>td σ H λx H1=>∃a,x=.ref a/\FQ H1 a/\ty σ H1 λy H2=>tx σ H2 λz H3=>∃o,Ce H3 a y o/\Q (o.getD z) H3
section
variable{X:Cx}{o e f:Î}{apos cpos:ĝ}{td ty tx:TE}
def WW(hu:X.A.units+1<õ)(ho:PE X o td)(he:PE X e ty)(hf:PE X f tx)(m:M2 X o "get" apos e f cpos):PE X (.Call (.Attribute o "get" apos) [e,f] [] cpos) (U5 td ty tx):=by
 intro ag s σ H Q I h;refine wpAny_Call_method m.base m.few m.line PySem.F.plainAttrs_dict yx PySem.F.type_dict_get (ku (ho ag s σ H _ I h) ?_);rintro u s1 ⟨x,H1,I1,rx,a,ex,d,q1⟩;subst ex;obtain rfl:u=Ê a:=rx;obtain⟨t1,t2,_⟩:=B8 I1 d;refine⟨t1,t2,?_⟩;rw[m.trees]
 refine yN rfl (Calls.evalArgs_plain (qO (ku (he ag s1 σ H1 _ I1 q1) λiv s2 ⟨y,H2,I2,ry,q2⟩=>
  qO (ku (hf ag s2 σ H2 _ I2 q2) λfv s3 ⟨z,H3,I3,rz,ov,g,q3⟩=>qZ ?_))))
 exact Bd hu I3 g ry rz λw' s4 I4 IA=>⟨_,H3,I4,IA,q3⟩
end
section
variable{X:Cx}{ag:List (È×ó)}{σ:St}{H:Hp}{s:Å}{a:È}{cx:List (Key×V)}{A:Ù}{E:Ã->Å->Prop}
def Wy{Q:Ã->Å->Prop}(I:Inv X ag σ H s)(e:Rd H a (.dK cx))(h:∀p s',H p=Á->Inv X ag σ (upd H p (.dK cx)) s'->Q (.ref p) s'):É (Í X.prog X.w) A (ŀ (.type "dict") [.ref a]) Q E s:=by
 obtain⟨z,hd,vs,rel,dd⟩:=mH I.hok e;refine kt_call_dict hd dd (by rw[<-rel.length];exact z) λh' H0 hs=>?_
 refine h _ _ (I.hok.fresh (zy _)) (I.laid (a:=s.heap.objs.size) (o:=.dK cx) (t':=s.toks) (λb q hq=>?_) (zy _) (sg z (jB.mpr (jn (zL I.big))) rel H0));exact(hs.2 b (zL (zJ hq))).trans (zc _ hq)
end
end L2
namespace Att
open PySem PySem.W PySem.Calls PyProof.Rows
def mw{P:Params}{h:Õ}:∀(ns:List Int) (vs:List Ã),WellAll P h vs (ns.map WData.int)->IntsAre vs ns:=by
 intro ns;induction ns with
 | nil=>
  intro vs w;rw[kY] at w;cases w;exact .nil
 | cons n ns ih=>
  intro vs w;rw[zz] at w;cases w with
  | cons a b=>
   cases a;exact .cons _ _ (ih _ b)
def QA{l:OpenLaw}{n:Nat}(hn:l.most=À n){P:Params}{h:Õ}{args:List WData}{vals:List Ã}
  (GZ:l.row.toRowW.claim.pre args=Â) (LZ:WellAll P h vals args) :
  ∃a vs ns,vals=[Ê a]/\args=[WData.list (ns.map WData.int)]/\h.get? a=À { cls:=.type "list",data:=.seq vs.toArray }/\IntsAre vs ns/\ns.length<=n:=by
 have Pb:WShape.hasAll [] args [.list .int]=Â:=(pre_splitW GZ).1;have hc:l.pre.holds [] { args:=args }=Â:=(pre_splitW GZ).2;obtain⟨d,r,rfl,h1,h2⟩:=hasAllW_cons Pb;obtain rfl:=hasAllW_nil h2;obtain⟨xs,rfl,h3⟩:=hasW_list h1;obtain⟨ns,rfl⟩:=items_int h3;have gy:ns.length<=n:=by
  unfold OpenLaw.pre at hc;have h4:(WTm.not (.lt (.lit (.int (n:Int))) (.len (.arg 0)))).holds [] { args:=[.list (ns.map .int)] }=Â:=by
   have h4:=(holds_andW hc).1;rw[hn] at h4;exact h4
  have h5:=condW_of h4 (w_not (w_lt w_lit (w_len_list (w_arg rfl))));rw[zG] at h5;refine j5 λq=>?_
  have q':(n:Int)<((ns.length:Nat):Int):=by omega
  first
   | (rw[kJ q'] at h5;exact absurd h5 (by decide))
   | (simp at h5;omega)
 cases LZ with
 | cons w1 w2=>
  cases w2;cases w1 with
  | list ho Ae=>exact⟨_,_,ns,rfl,rfl,ho,mw ns _ Ae,gy⟩
theorem QT(l:OpenLaw)(args:List WData):l.row.toRowW.claim.post args (.bool Â) args=Â:=
 postW_of (r:=l.row.toRowW) (X:=(Â==Â))
  (show WShape.has [] (.bool Â) .bool=Â by first | rfl | decide | simp[WShape.has,WShape.arms,WShape.armsAll])
  (show(WTm.eq .res (.lit (.bool Â))).value [] { args:=args,res:=À (.bool Â),after:=args }=À (.bool (Â==Â)) from w_eq_bool (w_res rfl) w_lit) rfl
def attach_call{l:OpenLaw}{n:Nat}{q:Ï}{loose:List Ç}{XP:(Ç->Option Ã)->Õ->Prop}{YP:Ô->Õ->Prop}{d:DefRec}
  (hn:l.most=À n) (IB:d.params.defaults=[])
  (ŀ:∀(w:Ô) (s₀ d6:Å) (mg mb:Ç->Option Ã) (fa:È) (o:ó) (pm cd doc:Ã) (a:È) (vs:List Ã) (ns:List Int),
   Ground q loose [] XP w s₀ mg mb d6.heap->YP w d6.heap->
   d6.heap.get? fa=À o->o.data=.func (docDef d.name d.params d.body d.scope pm cd doc)->d6.heap.CodeRec cd d.name->mg d.name=À (.ref fa)->
   d6.heap.get? a=À { cls:=.type "list",data:=.seq vs.toArray }->IntsAre vs ns->ns.length<=n->d6.gens = #[]->
   Ł (Í l.prog w) Ş (.call (.ref fa) ⟨[.ref a],[]⟩) (λr s'=>r=.ok (.ret (.bool Â))/\OldK d6.heap s'.heap/\s'.os=d6.os/\Ő s'.gens) d6) :
  WalkO q loose XP YP l.row.toRowW d [] (λf vs=>PySem.call f vs):=by
 intro w s₀ d6 mg mb G Y fa o pm cd doc dV kV ho hd Eg hD IC hg args vals as GZ Pc Sy LZ Sz;obtain rfl:dV=.none:=Dflts.none hD IB;obtain rfl:kV=.none:=Dflts.noKw hD;obtain⟨a,vs,ns,rfl,rfl,AF,Ey,gy⟩:=QA hn GZ LZ;refine enter_call (yQ (ŀ w s₀ d6 mg mb fa o pm cd doc a vs ns G Y ho (fd_plain hd) Eg IC AF Ey gy hg) λr s' hq=>?_);obtain⟨rfl,h2,h3,h4⟩:=hq;exact⟨.inl ⟨.bool Â,.bool Â,[],rfl,λ_=>rfl,.bool Â,QT l _,λ_=>⟨Ě,λ_ hm=>(nomatch hm)⟩⟩,h2,h3,h4⟩
end Att
namespace L2
open PySem PySem.Spec PyProof.Rows
theorem oU:∀{vs:List Ã} {ns:List Int},IntsAre vs ns->Vals (ns.map V.int) vs
 | _,_,.nil=>.nil
 | _,_,.cons n t h=>.cons ⟨t,rfl⟩ (oU h)
def Only(H:Hp):Prop:=∀b,H b=Á\/∃o xs,H b=À (.frz o (.lst xs))
def VL{P:Ï}{w:Ô}{K:Te}{mg mb:Ç->Option Ã}{CX:gE}{k:Nat}{fa a:È}{fd:ą}{x:Ç}{sp:Sp}{d6:Å}{vs:List Ã}{ns:List Int}
  (KX:K.In d6.heap) (Ap:d6.heap.Ns ß mg) (hb:d6.heap.Ns builtinsNs mb) (Pd:∀x:Ç,x≠"__name__"->mb x=Ø x) (L6:d6.heap.NoLimit) (hg:d6.gens = #[])
  (ha:d6.heap.get? a=À { cls:=.type "list",data:=.seq vs.toArray }) (hi:IntsAre vs ns) (hl:ns.length<=Ð) (hr:Room k Ş)
  (F:∀base:Õ,K.In base->base.Ns ß mg->FnOk P w K mg base CX k fa fd [x] sp) (ID:∀(s:Å) (u:Ã),BindsTo s fd ⟨[u],[]⟩ [(x,u)])
  (Ew:∀H:Hp,Only H->SqL K H a (ns.map V.int)->sp [.ref a] H (λv _=>v=.bl Â) λ_ _ _=>False)
  (L7:∀H e s',CX [] H d6 (λ_ _ _=>False) e s'->False) :
  Ł (Í P w) Ş (.call (.ref fa) ⟨[.ref a],[]⟩) (λr s'=>r=.ok (.ret (.bool Â))/\OldK d6.heap s'.heap/\s'.os=d6.os/\Ő s'.gens) d6:=by
 have rv:=oU hi;have Ec:=hi.length;have core:∀H:Hp,Only H->SqL K H a (ns.map V.int)->HOk P w H d6.heap->(∀b,H b≠Á->b=a)->(H a≠Á->K.lookup a=Á)->
   Ł (Í P w) Ş (.call (.ref fa) ⟨[.ref a],[]⟩) (λr s'=>r=.ok (.ret (.bool Â))/\OldK d6.heap s'.heap/\s'.os=d6.os/\Ő s'.gens) d6:=by
  intro H hO hS hok hA hK;have A7:∀{b:È} {o:ó},d6.heap.get? b=À o->H b=Á->(fH d6.heap H).get? b=À o:=λe n=>WK e n
  have Iv:∀{b:È} {o:ó} {es:Array ă} {ep:Nat},d6.heap.get? b=À o->o.data=.dict es ep->H b=Á:=λ{b o es ep} e d=>by
   cases q:H b with
   | none=>rfl
   | some u=>
    have e':b=a:=hA b (by rw[q];simp);subst e';rw[ha] at e;cases e;have d':Data.seq vs.toArray _=Data.dict es ep:=d;cases d'
  have Lr:∀{b:È} {m:Ç->Option Ã},d6.heap.Ns b m->(fH d6.heap H).Ns b m:=λ{b m} ⟨o,es,ep,e,d,r⟩=>⟨o,es,ep,A7 e (Iv e d),d,r⟩
  have NB:K.In (fH d6.heap H):=λb o e=>A7 (KX b o e) (by
   cases q:H b with
   | none=>rfl
   | some u=>
    have e':b=a:=hA b (by rw[q];simp);subst e'
    rw[hK (by rw[q];simp)] at e;cases e)
  have hM:Mod K mg (fH d6.heap H):=⟨NB,Lr Ap,⟨mb,Lr hb,Pd⟩,let ⟨mc,h1,h2⟩:=L6;⟨mc,Lr h1,h2⟩⟩;have e0:Env0 P w K mg (fH d6.heap H) Ş [] d6 H:=⟨rfl,hM,λb o e=>XM e,Nat.le_of_eq (JK _ _),trivial,λb hb=>absurd (show b∈([]:List È) from hb) (by simp),hok,.of_eq hg⟩;refine yQ ((F _ NB (Lr Ap)).run Ş [] d6 H ⟨[.ref a],[]⟩ [.ref a] [.ref a] _ _ hr e0 (ID d6 (.ref a)) (.cons rfl .nil) (Ew H hO hS)) λr s' h=>?_
  cases r with
  | error e=>exact(L7 H e s' h).elim
  | ok fl=>
   cases fl with
   | next=>exact ē h
   | brk=>exact ē h
   | cont=>exact ē h
   | ret u=>
    obtain⟨v,H',os,bare,un,L8,r',q⟩:=h;have q':v=.bl Â:=q;subst q';obtain rfl:u=ś Â:=r';refine⟨rfl,OldK.of_keep λb o e=>?_,os,bare⟩;cases q:H b with
    | none=>exact un.keep b o e q (by intro z;exact absurd (show b∈([]:List È) from z) (by simp)) (by simp)
    | some u=>
     rcases hO b with z | ⟨ob,xs,z⟩
     .rw[q] at z;cases z
     .have z2:=un.frzs b ob _ z
      obtain⟨e1,_⟩:=hok b _ z;obtain⟨e2,_⟩:=L8 b _ z2;rw[e] at e1;cases e1;exact e2
 cases hk:K.lookup a with
 | some o=>
  have e:=KX a o hk;rw[ha] at e;cases e;refine core (λ_=>Á) (λ_=>.inl rfl) (.inr ⟨_,vs.toArray,_,hk,rfl,rfl,rfl,by rw[zP,Ec];exact hl,by simpa using rv⟩) (λb u z=>by have z':(Á:Option HO)=À u:=z;cases z') (λb z=>absurd rfl z) λz=>absurd rfl z
 | none=>
  refine core (λb=>if b=a then À (.frz { cls:=.type "list",data:=.seq vs.toArray } (.lst (ns.map V.int))) else Á) (λb=>?_) (.inl (.inr ⟨{ cls:=.type "list",data:=.seq vs.toArray },zQ rfl⟩)) (λb u z=>?_) (λb z=>?_) λ_=>hk
  .by_cases hb:b=a
   .exact .inr ⟨_,_,zQ hb⟩
   .exact .inl (zX hb)
  .by_cases hb:b=a
   .have z':=(zQ hb).symm.trans z
    cases z';subst hb;exact⟨ha,by rw[zG];exact hl,vs,_,rv,ha⟩
   .have z':=(zX hb).symm.trans z
    cases z'
  .by_cases hb:b=a
   .exact hb
   .exact absurd (zX hb) z
end L2
namespace L2
open PySem PySem.Spec PyProof.Rows
end L2
namespace L2
open PySem PySem.Spec PyProof.Rows
def xk(s:č):Arguments:=match s with
 | .FunctionDef _ a _ _ _ _ _ _ _ _=>a
 | _=>{ posonlyargs:=[],args:=[],vararg:=Á,kwonlyargs:=[],kw_defaults:=[],kwarg:=Á,defaults:=[] }
def vj(s:č):List č:=match s with
 | .FunctionDef _ _ b _ _ _ _ _ _ _=>b
 | _=>[]
def k8(s:č):ë:=match s with
 | .FunctionDef _ _ _ _ _ _ sc _ _ _=>sc
 | _=>{ kind:=.function,names:=[],isGenerator:=Ä,isCoroutine:=Ä }
abbrev dO:gE:=λ_ _ _ _ _ _=>False
abbrev E0:XK:=λ_ _ _=>False
def YT{X:Cx}:mn dO X E0:=λ_ _ _ _ _ _ _ h=>h.elim
structure Fun(K:Te)(x qual:Ç)(st:č)(f:È)(fd:ą):Prop where
 ex:∃(oc:Ã) (od:Option È) (kV doc pm:Ã) (an:Option È) (r6 ct:Ã) (Et:Array (Option Ã)),
  fd=Ċ x qual (xk st) (vj st) (k8 st) .none kV doc pm an r6 ct/\K.lookup f=À ⟨oc,od,.func fd,Et⟩/\ĭ K r6 qual=Â
 kp:ì K (.ref f)=Â
section
variable{P:Ï}{w:Ô}{K:Te}{mg:Ç->Option Ã}{base:Õ}
def Fun.ok{x qual:Ç}{st:č}{f:È}{fd:ą}{N ps:List Ç}{k:Nat}{sp:Sp}(F:Fun K x qual st f fd)(S:FnScope N ps (k8 st))(len:∀vs H Q E,sp vs H Q E->vs.length=ps.length)
  (Eu:∀(r6:Ã) (A:Ù) (outer:List Env) (s:Å) (H:Hp) (vs:List V) (Q:VK) (E:XK),Room k (A.deeper (œ qual (k8 st) s.heap.objs.size f r6))->sp vs H Q E->
   ∃t,PSs (il dO P w K mg base N qual (k8 st) f r6 A outer s H E).nox (vj st) t/\t { nx:=λ_ H'=>Q .non H',rt:=Q } (start N vs) H):FnOk P w K mg base dO (k+1) f fd ps sp:=by
 obtain⟨oc,od,kV,doc,pm,an,r6,ct,Et,rfl,lk,Eg⟩:=F.ex;refine DQ lk Eg S len λA outer s H vs Q E hr Ew=>?_
 obtain⟨t,h,q⟩:=Eu r6 A outer s H vs Q E hr Ew;exact⟨t,h.nox,q⟩
def Fun.binds{x qual:Ç}{st:č}{f:È}{fd:ą}{ps:List Ç}(F:Fun K x qual st f fd)
  (h:∀(kV doc pm:Ã) (an:Option È) (r6 ct:Ã) (us:List Ã),us.length=ps.length->bindArgs (Ċ x qual (xk st) (vj st) (k8 st) .none kV doc pm an r6 ct) ⟨us,[]⟩=pure (ps.zip us)):Binds K fd ps []:=by
 obtain⟨oc,od,kV,doc,pm,an,r6,ct,Et,rfl,lk,Eg⟩:=F.ex;exact .all (h kV doc pm an r6 ct)
def CU{x qual:Ç}{st:č}{f:È}{oc:Ã}{od an:Option È}{Et:Array (Option Ã)}{kV doc pm r6 ct:Ã}(l:K.lookup f=À ⟨oc,od,.func (Ċ x qual (xk st) (vj st) (k8 st) .none kV doc pm an r6 ct),Et⟩)
  (c:ĭ K r6 qual=Â) (k:ì K (.ref f)=Â):Fun K x qual st f (Ċ x qual (xk st) (vj st) (k8 st) .none kV doc pm an r6 ct):=⟨⟨oc,od,kV,doc,pm,an,r6,ct,Et,rfl,l,c⟩,k⟩
end
end L2
end
set_option bootstrap.genMatcherCode false
set_option genSizeOf false
set_option genSizeOfSpec false
namespace ML
open PySem PySem.Spec PyProof.Rows L2
inductive W where
 | non | bl (b:Bool) | int (i:Int) | str (x:Ç) | tup (l:List W) | fls (l:List W) | ref (n:Nat) | fdc (l:List (Key×W)) | fn (a:È)
 deriving Inhabited
inductive MO where
 | lst (l:List W) | dic (l:List (Key×W)) | ins (c:Nat) (fs:List (Ç×W)) | tdc (ks:List (List Ç))
structure Cl where
 c:Nat->È
 P:Ï
 w:Ô
noncomputable def aS(P:Ï)(w:Ô)(a:È)(xs:List (List Ç×È×Ã)):Õ->Prop:=λh=>∃o es ep,h.get? a=À o/\o.ExactDict/\o.data=.dict es ep/\es.toList=xs.map (entryOfKey (Ġ (strKind P w)))
abbrev MH:=List MO
abbrev M(α:Type):=MH->Option (α×MH)
abbrev En:=List (Option W)
abbrev ME:=En->M W
abbrev MT:=En->M Bool
noncomputable def bnd{α β:Type}(m:M α)(f:α->M β):M β:=λh=>match m h with
 | some (a,h')=>f a h'
 | none=>Á
def Wc{α β:Type}{m:M α}{f:α->M β}{h h':MH}{a:α}(e:m h=À (a,h')):bnd m f h=f a h':=by unfold bnd;rw[e]
def kc{α β:Type}{m:M α}{f:α->M β}{h:MH}{r:β×MH}(e:bnd m f h=À r):∃a h',m h=À (a,h')/\f a h'=À r:=by
 unfold bnd at e;split at e
 .rename_i a h' e'
  exact⟨a,h',e',e⟩
 .cases e
noncomputable def SqF(K:Te)(μ:List È)(H:Hp)(a:È)(vs:List V):Prop:=(Rd H a (.lst vs)/\a∉μ) \/
 ∃(o:ó) (cb:Array Ã) (n:Nat),K.lookup a=À o/\o.cls=.type "list" /\ o.dict=Á/\o.data=.seq cb n/\cb.size<=Ð/\Vals vs cb.toList
def SqF.sq{K:Te}{μ:List È}{H:Hp}(h:SqF K μ H a vs):SqL K H a vs:=h.elim (λh=>.inl h.1) .inr
noncomputable def SqD(μ:List È)(H:Hp)(a:È)(l:List (Key×V)):Prop:=Rd H a (.dK l)/\a∉μ
section rel
variable(K:Te)(cl:Cl)(μ:List È)(H:Hp)
mutual
inductive RW:W->V->Prop
 | non:RW .non .non
 | bl (b:Bool):RW (.bl b) (.bl b)
 | int (i:Int):RW (.int i) (.int i)
 | str (x:Ç):RW (.str x) (.str x)
 | tup {a:È} {vs:List V} {l:List W}:SqT K H a vs->RWs l vs->RW (.tup l) (.ref a)
 | ref {n:Nat} {a:È}:μ[n]?=À a->RW (.ref n) (.ref a)
 | fls {a:È} {vs:List V} {l:List W}:SqF K μ H a vs->RWs l vs->RW (.fls l) (.ref a)
 | fdc {a:È} {l:List (Key×W)} {l':List (Key×V)} {ws:List W} {vs:List V}:SqD μ H a l'->l.map (·.1)=l'.map (·.1)->ws=l.map (·.2)->vs=l'.map (·.2)->RWs ws vs->RW (.fdc l) (.ref a)
 | fn {a:È}:RW (.fn a) (.ref a)
inductive RWs:List W->List V->Prop
 | nil:RWs [] []
 | cons {w:W} {v:V} {l:List W} {vs:List V}:RW w v->RWs l vs->RWs (w::l) (v::vs)
end
noncomputable def RKs{κ:Type}(l:List (κ×W))(l':List (κ×V)):Prop:=l.map (·.1)=l'.map (·.1)/\RWs K μ H (l.map (·.2)) (l'.map (·.2))
noncomputable def OR(a:È):MO->Prop
 | .lst l=>∃vs,H a=À (.lst vs)/\RWs K μ H l vs
 | .dic l=>∃l',H a=À (.dK l')/\RKs K μ H l l'
 | .ins c fs=>∃dx FM,H a=À (.ins (cl.c c) dx FM)/\RKs K μ H fs FM
 | .tdc ks=>∃xs:List (List Ç×È×Ã),H a=À (.ext (aS cl.P cl.w a xs))/\xs.map (·.1)=ks/\ks.Nodup/\(a==Ý)=Ä/\RWs K μ H (ks.map λk=>.tup (k.map .str)) (xs.map λx=>.ref x.2.1)
structure HR(h:MH):Prop where
 len:μ.length=h.length
 nd:μ.Nodup
 ob:∀(n:Nat) (a:È) (o:MO),μ[n]?=À a->h[n]?=À o->OR K cl μ H a o
structure ER(ρ:En)(σ:L2.St):Prop where
 len:ρ.length=σ.length
 at_:∀(i:Nat) (w:W),ρ[i]?=À (À w)->∃v,σ[i]?=À (À v)/\RW K μ H w v
end rel
structure Ext(μ:List È)(H:Hp)(d5:List È)(H':Hp):Prop where
 pre:μ<+:d5
 fr:∀b o,H b=À o->b∉μ->H' b=À o/\b∉d5
section
variable{K:Te}{cl:Cl}{μ d5 IE:List È}{H H' NC:Hp}{h h':MH}
def Ext.refl:Ext μ H μ H:=⟨jw _,λ_ _ e n=>⟨e,n⟩⟩
theorem Ext.trans(a:Ext μ H d5 H')(b:Ext d5 H' IE NC):Ext μ H IE NC:=
 ⟨a.pre.trans b.pre,λc o e n=>let ⟨e1,n1⟩:=a.fr c o e n;b.fr c o e1 n1⟩
def Ext.get(a:Ext μ H d5 H'){n:Nat}(e:μ[n]?=À x):d5[n]?=À x:=by
 obtain⟨r,rfl⟩:=a.pre;rw[zY (zu.mp e).1];exact e
theorem OR.some(q:OR K cl μ H a o):∃u,H a=À u/\pJ (À u):=by
 cases o with
 | lst l=>obtain⟨vs,q,_⟩:=q;exact⟨_,q,trivial⟩
 | dic l=>obtain⟨l',q,_⟩:=q;exact⟨_,q,trivial⟩
 | ins c fs=>obtain⟨dx,FM,q,_⟩:=q;exact⟨_,q,trivial⟩
 | tdc ks=>obtain⟨xs,q,_⟩:=q;exact⟨_,q,trivial⟩
def HR.mem_some(R:HR K cl μ H h)(hm:a∈μ):∃u,H a=À u/\pJ (À u):=by
 obtain⟨n,hn⟩:=qJ.mp hm;have hl:n<h.length:=by rw[<-R.len];exact(zu.mp hn).1
 exact(R.ob n a h[n] hn (zM hl)).some
def HR.fresh(R:HR K cl μ H h)(e:H a=Á):a∉μ:=λhm=>by
 obtain⟨u,q,_⟩:=R.mem_some hm;rw[e] at q;cases q
def HR.notours(R:HR K cl μ H h)(e:H a=À u)(n:¬pJ (À u)):a∉μ:=λhm=>by
 obtain⟨u',q,m⟩:=R.mem_some hm;rw[e] at q;cases q;exact n m
def HR.notup(R:HR K cl μ H h)(e:Rd H a (.tup xs)):a∉μ:=by
 rcases e with e | ⟨o,e⟩
 .exact R.notours e λz=>z
 .exact R.notours e λz=>z
def SqF.ext(E:Ext μ H d5 H')(e:SqF K μ H a vs):SqF K d5 H' a vs:=by
 rcases e with ⟨e | ⟨o,e⟩,n⟩ | e
 .exact .inl ⟨.inl (E.fr _ _ e n).1,(E.fr _ _ e n).2⟩
 .exact .inl ⟨.inr ⟨o,(E.fr _ _ e n).1⟩,(E.fr _ _ e n).2⟩
 .exact .inr e
def SqD.ext(E:Ext μ H d5 H')(e:SqD μ H a l):SqD d5 H' a l:=by
 obtain⟨e | ⟨o,e⟩,n⟩:=e
 .exact⟨.inl (E.fr _ _ e n).1,(E.fr _ _ e n).2⟩
 .exact⟨.inr ⟨o,(E.fr _ _ e n).1⟩,(E.fr _ _ e n).2⟩
def SqT.ext(R:HR K cl μ H h)(E:Ext μ H d5 H')(e:SqT K H a xs):SqT K H' a xs:=by
 rcases e with e | e
 .have n:=R.notup e
  rcases e with e | ⟨o,e⟩
  .exact .inl (.inl (E.fr _ _ e n).1)
  .exact .inl (.inr ⟨o,(E.fr _ _ e n).1⟩)
 .exact .inr e
theorem RW.ext(R:HR K cl μ H h)(E:Ext μ H d5 H'){w:W}(r:RW K μ H w v):RW K d5 H' w v:=
 RW.rec (motive_1:=λw v _=>RW K d5 H' w v) (motive_2:=λl vs _=>RWs K d5 H' l vs) .non .bl .int .str (λs _ r=>.tup (SqT.ext R E s) r) (λe=>.ref (E.get e)) (λs _ r=>.fls (SqF.ext E s) r) (λs k a b _ r=>.fdc (SqD.ext E s) k a b r) .fn .nil (λ_ _ a b=>.cons a b) r
theorem RWs.ext(R:HR K cl μ H h)(E:Ext μ H d5 H'){l:List W}(r:RWs K μ H l vs):RWs K d5 H' l vs:=
 RWs.rec (motive_1:=λw v _=>RW K d5 H' w v) (motive_2:=λl vs _=>RWs K d5 H' l vs) .non .bl .int .str (λs _ r=>.tup (SqT.ext R E s) r) (λe=>.ref (E.get e)) (λs _ r=>.fls (SqF.ext E s) r) (λs k a b _ r=>.fdc (SqD.ext E s) k a b r) .fn .nil (λ_ _ a b=>.cons a b) r
theorem ER.ext(R:HR K cl μ H h)(E:Ext μ H d5 H')(e:ER K μ H ρ σ):ER K d5 H' ρ σ:=
 ⟨e.len,λi w q=>let ⟨v,q1,r⟩:=e.at_ i w q;⟨v,q1,r.ext R E⟩⟩
theorem RWs.length:∀{l:List W} {vs:List V},RWs K μ H l vs->l.length=vs.length
 | _,_,.nil=>rfl
 | _,_,.cons _ t=>jj (· + 1) (RWs.length t)
theorem RWs.get:∀{l:List W} {vs:List V} {i:Nat} {w:W},RWs K μ H l vs->l[i]?=À w->∃v,vs[i]?=À v/\RW K μ H w v
 | _,_,_,_,.nil,e=>by simp at e
 | _,_,0,_,.cons r _,e=>by simp at e;subst e;exact⟨_,rfl,r⟩
 | _,_,i+1,w,.cons _ t,e=>by
  obtain⟨v,h1,h2⟩:=RWs.get (i:=i) (w:=w) t (by simpa using e);exact⟨v,by simpa using h1,h2⟩
theorem RWs.append:∀{l l':List W} {vs Hj:List V},RWs K μ H l vs->RWs K μ H l' Hj->RWs K μ H (l++l') (vs++Hj)
 | _,_,_,_,.nil,s=>s
 | _,_,_,_,.cons r t,s=>.cons r (RWs.append t s)
theorem RWs.take:∀{l:List W} {vs:List V} (n:Nat),RWs K μ H l vs->RWs K μ H (l.take n) (vs.take n)
 | _,_,0,_=>.nil
 | _,_,_+1,.nil=>.nil
 | _,_,n+1,.cons r t=>.cons r (RWs.take n t)
theorem RWs.drop:∀{l:List W} {vs:List V} (n:Nat),RWs K μ H l vs->RWs K μ H (l.drop n) (vs.drop n)
 | _,_,0,r=>r
 | _,_,_+1,.nil=>.nil
 | _,_,n+1,.cons _ t=>RWs.drop n t
theorem RWs.set(r:RW K μ H w v):∀{l:List W} {vs:List V} (i:Nat),RWs K μ H l vs->RWs K μ H (l.set i w) (vs.set i v)
 | _,_,_,.nil=>.nil
 | _,_,0,.cons _ t=>.cons r t
 | _,_,i+1,.cons q t=>.cons q (RWs.set r i t)
theorem RWs.dropLast{l:List W}{vs:List V}(r:RWs K μ H l vs):RWs K μ H l.dropLast vs.dropLast:=by
 induction l generalizing vs with
 | nil=>cases r;exact .nil
 | cons w l ih=>cases r with | cons r t=>cases t with
  | nil=>exact .nil
  | cons a b=>exact .cons r (ih (.cons a b))
theorem RWs.rep(r:RWs K μ H l vs):∀k:Nat,RWs K μ H (Æ k l).flatten (Æ k vs).flatten
 | 0=>.nil
 | k+1=>by
  rw[qw,qw,vf,vf];exact r.append (RWs.rep r k)
theorem RWs.ints:∀ns:List Int,RWs K μ H (ns.map W.int) (ns.map V.int)
 | []=>.nil
 | n::r=>.cons (.int n) (RWs.ints r)
theorem OR.ext(R:HR K cl μ H h)(E:Ext μ H d5 H')(e:H' a=H a)(q:OR K cl μ H a o):OR K cl d5 H' a o:=by
 cases o with
 | lst l=>obtain⟨vs,q,r⟩:=q;exact⟨vs,e.trans q,r.ext R E⟩
 | dic l=>obtain⟨l',q,k,r⟩:=q;exact⟨l',e.trans q,k,r.ext R E⟩
 | ins c fs=>obtain⟨dx,FM,q,k,r⟩:=q;exact⟨dx,FM,e.trans q,k,r.ext R E⟩
 | tdc ks=>obtain⟨xs,q,k1,k2,k3,r⟩:=q;exact⟨xs,e.trans q,k1,k2,k3,r.ext R E⟩
def Ext.new(hp:H p=Á):Ext μ H (μ++[p]) (upd H p u):=
 ⟨qI _ _,λb o e n=>by
  have ne:b≠p:=qc e hp
  exact⟨by rw[kH ne];exact e,by simp[n,ne]⟩⟩
def Ext.side(hp:H p=Á):Ext μ H μ (upd H p u):=
 ⟨jw _,λb o e n=>⟨by rw[kH (qc e hp)];exact e,n⟩⟩
theorem HR.side(R:HR K cl μ H h)(hp:H p=Á):HR K cl μ (upd H p u) h:=
 have hm:=R.fresh hp;⟨R.len,R.nd,λn a o e1 e2=>OR.ext R (Ext.side hp) (kH (by rintro rfl;exact hm (jz e1))) (R.ob n a o e1 e2)⟩
theorem HR.new(R:HR K cl μ H h)(hp:H p=Á)(q:OR K cl (μ++[p]) (upd H p u) p o):HR K cl (μ++[p]) (upd H p u) (h++[o]):=by
 have hm:=R.fresh hp;refine⟨by simp[R.len],?_,λn a o' e1 e2=>?_⟩
 .rw[xx]
  exact⟨R.nd,by simp,by simp;exactλa ha=>by rintro rfl;exact hm ha⟩
 .by_cases hn:n<μ.length
  .rw[zY hn] at e1
   rw[zY (by rw[<-R.len];exact hn)] at e2;exact OR.ext R (Ext.new hp) (kH (by rintro rfl;exact hm (jz e1))) (R.ob n a o' e1 e2)
  .rw[jf ∅] at e1
   rw[jf (by rw[<-R.len];omega)] at e2;rw[R.len] at e1;have:n-h.length=0:=by
    by_cases z:n-h.length=0
    .exact z
    .rw[jF (by simp;omega)] at e1;cases e1
   rw[this] at e1 e2;simp at e1 e2;subst e1;subst e2;exact q
def Ext.put{n:Nat}{a:È}(hn:μ[n]?=À a):Ext μ H μ (upd H a u):=
 ⟨jw _,λb o e m=>⟨by rw[kH (by rintro rfl;exact m (jz hn))];exact e,m⟩⟩
theorem HR.put{n:Nat}{a:È}(R:HR K cl μ H h)(hn:μ[n]?=À a)(q:OR K cl μ (upd H a u) a o):HR K cl μ (upd H a u) (h.set n o):=by
 refine⟨by simp[R.len],R.nd,λm b o' e1 e2=>?_⟩;by_cases hm:m=n
 .subst hm
  rw[hn] at e1;cases e1;rw[j8 (by rw[<-R.len];exact(zu.mp hn).1)] at e2;cases e2;exact q
 .rw[qu (jn hm)] at e2
  have ne:b≠a:=by
   rintro rfl;obtain⟨h1,Fn⟩:=zu.mp e1;obtain⟨h2,Pe⟩:=zu.mp hn;exact hm ((ym R.nd).mp (Fn.trans Pe.symm))
  exact OR.ext R (Ext.put hn) (kH ne) (R.ob m b o' e1 e2)
end
noncomputable def KQ(K:Te)(cl:Cl)(μ:List È)(H:Hp)(h':MH)(w:W)(Q:VK):Prop:=
 ∀d5 H' v,Ext μ H d5 H'->HR K cl d5 H' h'->RW K d5 H' w v->Q v H'
inductive tM(K:Te)(cl:Cl)(m:ME)(σ:L2.St)(H:Hp)(Q:VK):Prop
 | mk (μ:List È) (h:MH) (ρ:En) (w:W) (h':MH) (p0:HR K cl μ H h) (p1:ER K μ H ρ σ) (p2:m ρ h=À (w,h')) (p3:KQ K cl μ H h' w Q):tM K cl m σ H Q
inductive tMT(K:Te)(cl:Cl)(m:MT)(σ:L2.St)(H:Hp)(Q:Bool->Hp->Prop):Prop
 | mk (μ:List È) (h:MH) (ρ:En) (b:Bool) (h':MH) (p0:HR K cl μ H h) (p1:ER K μ H ρ σ) (p2:m ρ h=À (b,h')) (p3:∀d5 H',Ext μ H d5 H'->HR K cl d5 H' h'->Q b H'):tMT K cl m σ H Q
abbrev SE(X:Cx)(cl:Cl)(e:Î)(m:ME):Prop:=PE X e (tM X.K cl m)
abbrev ST(X:Cx)(cl:Cl)(e:Î)(m:MT):Prop:=PT X e (tMT X.K cl m)
def PE.wk(h:PE X e t)(w:∀σ H Q,t' σ H Q->t σ H Q):PE X e t':=λag s σ H Q I q=>h ag s σ H Q I (w σ H Q q)
def PT.wk(h:PT X e t)(w:∀σ H Q,t' σ H Q->t σ H Q):PT X e t':=λag s σ H Q I q=>h ag s σ H Q I (w σ H Q q)
def PA.wk(h:PA X e t)(w:∀σ H Q,t' σ H Q->t σ H Q):PA X e t':=λpos ag s σ H Q I q=>h pos ag s σ H Q I (w σ H Q q)
def PS.wk(h:PS X e t)(w:∀D σ H,t' D σ H->t D σ H):PS X e t':=λag s σ H D I q=>h ag s σ H D I (w D σ H q)
def PSs.wk(h:PSs X e t)(w:∀D σ H,t' D σ H->t D σ H):PSs X e t':=λag s σ H D I q=>h ag s σ H D I (w D σ H q)
noncomputable def zd(i:Nat):ME:=λρ h=>match ρ[i]? with
 | some (À w)=>À (w,h)
 | _=>Á
noncomputable def eC(w:W):ME:=λ_ h=>À (w,h)
noncomputable abbrev Pu(i:Int):ME:=eC (.int i)
noncomputable abbrev PN(s:Ç):ME:=eC (.str s)
noncomputable def zh(f:W->W->M W)(a b:ME):ME:=λρ=>bnd (a ρ) λx=>bnd (b ρ) λy=>f x y
noncomputable def yk(f:W->M W)(a:ME):ME:=λρ=>bnd (a ρ) f
noncomputable def xC:List ME->En->M (List W)
 | [],_=>λh=>À ([],h)
 | m::r,ρ=>bnd (m ρ) λx=>bnd (xC r ρ) λxs h=>À (x::xs,h)
noncomputable def ze(f:List W->M W)(as:List ME):ME:=λρ=>bnd (xC as ρ) f
noncomputable def nZ(w:W):M Bool:=λh=>match w with
 | .bl b=>À (b,h)
 | _=>Á
noncomputable def zS(a:ME):MT:=λρ=>bnd (a ρ) nZ
noncomputable def iC(a b:MT):MT:=λρ=>bnd (a ρ) λx=>if x=Â then b ρ else λh=>À (Ä,h)
noncomputable def af(a b:MT):MT:=λρ=>bnd (a ρ) λx=>if x=Â then (λh=>À (Â,h)) else b ρ
noncomputable def w9(a:MT):MT:=λρ=>bnd (a ρ) λx h=>À (!x,h)
noncomputable def Jv(a b:ME):ME:=λρ=>bnd (a ρ) λx=>bnd (nZ x) λc=>if c=Â then b ρ else λh=>À (.bl Ä,h)
noncomputable def Cb(a b:ME):ME:=λρ=>bnd (a ρ) λx=>bnd (nZ x) λc=>if c=Â then (λh=>À (.bl Â,h)) else b ρ
noncomputable def Wr(a:ME):ME:=λρ=>bnd (a ρ) λx=>bnd (nZ x) λc h=>À (.bl (!c),h)
noncomputable def Yu(t:MT)(a b:ME):ME:=λρ=>bnd (t ρ) λc=>if c=Â then a ρ else b ρ
noncomputable def gP(f g:W->W->M W)(a b c:ME):ME:=λρ=>bnd (a ρ) λx=>bnd (b ρ) λy=>bnd (f x y) λz=>bnd (nZ z) λk=>if k=Â then bnd (c ρ) λu=>g y u else λh=>À (.bl Ä,h)
inductive rM(K:Te)(cl:Cl)(f:W->W->M W)(x:V)(y:V)(H:Hp)(Q:VK):Prop
 | mk (μ:List È) (h:MH) (wx:W) (wy:W) (w:W) (h':MH) (p0:HR K cl μ H h) (p1:RW K μ H wx x) (p2:RW K μ H wy y) (p3:f wx wy h=À (w,h')) (p4:KQ K cl μ H h' w Q):rM K cl f x y H Q
inductive rM1(K:Te)(cl:Cl)(f:W->M W)(x:V)(H:Hp)(Q:VK):Prop
 | mk (μ:List È) (h:MH) (wx:W) (w:W) (h':MH) (p0:HR K cl μ H h) (p1:RW K μ H wx x) (p2:f wx h=À (w,h')) (p3:KQ K cl μ H h' w Q):rM1 K cl f x H Q
inductive rMs(K:Te)(cl:Cl)(f:List W->M W)(xs:List V)(H:Hp)(Q:VK):Prop
 | mk (μ:List È) (h:MH) (ws:List W) (w:W) (h':MH) (p0:HR K cl μ H h) (p1:RWs K μ H ws xs) (p2:f ws h=À (w,h')) (p3:KQ K cl μ H h' w Q):rMs K cl f xs H Q
inductive tMA(K:Te)(cl:Cl)(ms:List ME)(σ:L2.St)(H:Hp)(Q:List V->Hp->Prop):Prop
 | mk (μ:List È) (h:MH) (ρ:En) (ws:List W) (h':MH) (p0:HR K cl μ H h) (p1:ER K μ H ρ σ) (p2:xC ms ρ h=À (ws,h')) (p3:∀d5 H' vs,Ext μ H d5 H'->HR K cl d5 H' h'->RWs K d5 H' ws vs->Q vs H'):tMA K cl ms σ H Q
abbrev SA(X:Cx)(cl:Cl)(es:List Î)(ms:List ME):Prop:=PA X es (tMA X.K cl ms)
section
variable{X:Cx}{cl:Cl}{a b c:Î}{ma mb mc:ME}{pos:ĝ}{μ d5:List È}{H H':Hp}{h h':MH}
def KQ.pure{w:W}{v:V}{Q:VK}{K:Te}(k:KQ K cl μ H h w Q)(R:HR K cl μ H h)(r:RW K μ H w v):Q v H:=k μ H v .refl R r
def KQ.ext{w:W}{Q:VK}{K:Te}(E:Ext μ H d5 H')(k:KQ K cl μ H h w Q):KQ K cl d5 H' h w Q:=λhX H2 v E2 R2 r2=>k hX H2 v (E.trans E2) R2 r2
def BB(i:Nat)(hN:↥(X.N[i]?=À x))(hv:ZA X.env.scope x:=by first | exact Or.inl rfl | exact Or.inr (Or.inl rfl) | exact Or.inr (Or.inr rfl))
  (hd:⇑((x==("__debug__":Ç))=Ä)) (Eg:⇑((x==("__classdict__":Ç))=Ä)):SE X cl (.Name x pos) (zd i):=
 PE.wk (CM (i:=i) hN hv hd Eg) λσ H Q q0=>by
  obtain⟨μ,h,ρ,w,h',R,er,e,k⟩:=q0;unfold zd at e;split at e
  .rename_i w' q
   cases e;obtain⟨v,q1,r⟩:=er.at_ i _ q;exact⟨v,q1,k.pure R r⟩
  .cases e
def rn{w:W}{v:V}(he:PE X a (tC v))(r:∀μ H,RW X.K μ H w v):SE X cl a (eC w):=
 PE.wk he λσ H Q q0=>by
  obtain⟨μ,h,ρ,w',h',R,er,e,k⟩:=q0;cases e;exact k.pure R (r μ H)
def BG{j}:SE X cl (.Constant (.int i) j pos) (eC (.int i)):=rn By λ_ _=>.int i
def D5{j}:SE X cl (.Constant (.bool i) j pos) (eC (.bl i)):=rn DO λ_ _=>.bl i
def Cj{j}:SE X cl (.Constant .none j pos) (eC .non):=rn C6 λ_ _=>.non
def U3{j}:SE X cl (.Constant (.str i) j pos) (eC (.str i)):=rn B6 λ_ _=>.str i
def Ur(hm:X.mg x=À u)(r:RelV v u)(rw:∀μ H,RW X.K μ H w v)(hg:↥(Gl X x))(hd:⇑((x==("__debug__":Ç))=Ä)):SE X cl (.Name x pos) (eC w):=
 rn (iP hg hm r hd) rw
def gu{K:Te}{f:W->W->M W}(q:tM K cl (zh f ma mb) σ H Q):QR (rM K cl f) (tM K cl ma) (tM K cl mb) σ H Q:=by
 obtain⟨μ,h,ρ,w,h',R,er,e,k⟩:=q;obtain⟨x,h1,e1,e⟩:=kc e;obtain⟨y,h2,e2,e3⟩:=kc e;exact⟨μ,h,ρ,x,h1,R,er,e1,λd3 H1 vx E1 R1 rx=>⟨d3,h1,ρ,y,h2,R1,er.ext R E1,e2,λhX H2 vy E2 R2 ry=>⟨hX,h2,x,y,w,h',R2,rx.ext R1 E2,ry,e3,k.ext (E1.trans E2)⟩⟩⟩
def DT(ho:kT X (â op) (rM X.K cl f))(ha:SE X cl a ma)(hb:SE X cl b mb):SE X cl (.BinOp a op b pos) (zh f ma mb):=
 PE.wk (DW ho ha hb) λσ H Q q=>gu q
def CV(ho:kT X (Ò op) (rM X.K cl f))(ha:SE X cl a ma)(hb:SE X cl b mb)(hm:ç op b=Ä:=by first | exact nomark _ | rfl):SE X cl (.Compare a [op] [b] pos) (zh f ma mb):=
 PE.wk (ZW ho ha hb hm) λσ H Q q=>gu q
def Fb(ho:Ql X (unaryOp op) (rM1 X.K cl f))(ha:SE X cl a ma):SE X cl (.UnaryOp op a pos) (yk f ma):=
 PE.wk (Ff ho ha) λσ H Q q0=>by
  obtain⟨μ,h,ρ,w,h',R,er,e,k⟩:=q0;obtain⟨x,h1,e1,e⟩:=kc e;exact⟨μ,h,ρ,x,h1,R,er,e1,λd3 H1 vx E1 R1 rx=>⟨d3,h1,x,w,h',R1,rx,e,k.ext E1⟩⟩
theorem RW.bl_of{K:Te}{k:Bool}(r:RW K μ H (.bl k) v):v=.bl k:=by cases r;rfl
def ie{w:W}{b:Bool}(e:nZ w h=À (b,h')):w=.bl b/\h=h':=by
 unfold nZ at e;split at e
 .cases e;exact⟨rfl,rfl⟩
 .cases e
def eO{K:Te}{σ:L2.St}(q:tMT K cl (zS ma) σ H Q):tM K cl ma σ H λx H1=>∃c,x=.bl c/\Q c H1:=by
 obtain⟨μ,h,ρ,b,h',R,er,e,k⟩:=q;obtain⟨x,h1,e1,e⟩:=kc e;obtain⟨rfl,rfl⟩:=ie e;exact⟨μ,h,ρ,_,h1,R,er,e1,λd3 H1 vx E1 R1 rx=>⟨b,rx.bl_of,k d3 H1 E1 R1⟩⟩
def Dq(ha:SE X cl a ma)(he:∀whole,isTrue a X.env whole=(do let v <-whole;standAt a.pos;Ē [v] (truthy v)):=by intro _;rfl):ST X cl a (zS ma):=
 PT.wk (C7 ha he) λσ H Q q=>eO q
def CH(ho:kT X (Ò op) (rM X.K cl f))(ha:SE X cl a ma)(hb:SE X cl b mb)(hm:ç op b=Ä:=by first | exact nomark _ | rfl):ST X cl (.Compare a [op] [b] pos) (zS (zh f ma mb)):=
 PT.wk (ZM ho ha hb hm) λσ H Q q=>by
  obtain⟨μ,h,ρ,w,h',R,er,e,k⟩:=eO q;exact gu ⟨μ,h,ρ,w,h',R,er,e,k⟩
def mV{K:Te}{f g:W->W->M W}(q:tM K cl (gP f g ma mb mc) σ H Q):tv (rM K cl f) (rM K cl g) (tM K cl ma) (tM K cl mb) (tM K cl mc) σ H Q:=by
 obtain⟨μ,h,ρ,w,h',R,er,e,k⟩:=q;obtain⟨x,h1,e1,e⟩:=kc e;obtain⟨y,h2,e2,e⟩:=kc e;obtain⟨z,h3,e3,e⟩:=kc e;obtain⟨c,h4,e4,e⟩:=kc e;obtain⟨rfl,rfl⟩:=ie e4;refine⟨μ,h,ρ,x,h1,R,er,e1,λd3 H1 vx E1 R1 rx=>⟨d3,h1,ρ,y,h2,R1,er.ext R E1,e2,λhX H2 vy E2 R2 ry=>⟨hX,h2,x,y,_,h3,R2,rx.ext R1 E2,ry,e3,λAN H3 vz E3 R3 rz=>⟨c,rz.bl_of,?_⟩⟩⟩⟩;cases c with
 | true=>
  rw[zQ rfl] at e ⊢;obtain⟨u,h5,e5,e6⟩:=kc e;exact⟨AN,h3,ρ,u,h5,R3,((er.ext R E1).ext R1 E2).ext R2 E3,e5,λPf H4 vu E4 R4 ru=>⟨Pf,h5,y,u,w,h',R4,(ry.ext R2 E3).ext R3 E4,ru,e6,k.ext (E1.trans (E2.trans (E3.trans E4)))⟩⟩
 | false=>
  rw[zX zV] at e ⊢;cases e;exact k AN H3 _ (E1.trans (E2.trans E3)) R3 (.bl Ä)
def V7(ho:kT X (Ò op) (rM X.K cl f))(AL:kT X (Ò AA) (rM X.K cl g))(ha:SE X cl a ma)(hb:SE X cl b mb)(hc:SE X cl c mc)
  (hm:Ż [op,AA] [b,c]=Ä:=by with_unfolding_all rfl):SE X cl (.Compare a [op,AA] [b,c] pos) (gP f g ma mb mc):=
 PE.wk (VU ho AL ha hb hc hm) λσ H Q q=>mV q
def V4(ho:kT X (Ò op) (rM X.K cl f))(AL:kT X (Ò AA) (rM X.K cl g))(ha:SE X cl a ma)(hb:SE X cl b mb)(hc:SE X cl c mc)
  (hm:Ż [op,AA] [b,c]=Ä:=by with_unfolding_all rfl):ST X cl (.Compare a [op,AA] [b,c] pos) (zS (gP f g ma mb mc)):=
 PT.wk (WJ ho AL ha hb hc hm) λσ H Q q=>by
  obtain⟨μ,h,ρ,w,h',R,er,e,k⟩:=eO q;exact mV ⟨μ,h,ρ,w,h',R,er,e,k⟩
abbrev SW(X:Cx)(cl:Cl)(e:Î)(m:MT):Prop:=PW X e (tMT X.K cl m)
def PW.wk(h:PW X e t)(w:∀σ H Q,t' σ H Q->t σ H Q):PW X e t':=λwh ag s σ H Q I q=>h wh ag s σ H Q I (w σ H Q q)
variable{ta tb:MT}{rest:List Î}
def Uc(ha:ST X cl a ta):SW X cl (.BoolOp .And [a] pos) ta:=pw_and1 ha
def DA(ha:ST X cl a ta):SW X cl (.BoolOp .Or [a] pos) ta:=pw_or1 ha
def Bn(ha:ST X cl a ta)(hb:SW X cl (.BoolOp .And (b::rest) pos) tb):SW X cl (.BoolOp .And (a::b::rest) pos) (iC ta tb):=
 PW.wk (pw_and ha hb) λσ H Q q0=>by
  obtain⟨μ,h,ρ,w,h',R,er,e,k⟩:=q0;obtain⟨x,h1,e1,e⟩:=kc e;refine⟨μ,h,ρ,x,h1,R,er,e1,λd3 H1 E1 R1=>?_⟩;cases x with
  | true=>rw[zQ rfl] at e ⊢;exact⟨d3,h1,ρ,w,h',R1,er.ext R E1,e,λhX H2 E2 R2=>k hX H2 (E1.trans E2) R2⟩
  | false=>rw[zX zV] at e ⊢;cases e;exact k d3 H1 E1 R1
def FD(ha:ST X cl a ta)(hb:SW X cl (.BoolOp .Or (b::rest) pos) tb):SW X cl (.BoolOp .Or (a::b::rest) pos) (af ta tb):=
 PW.wk (pw_or ha hb) λσ H Q q0=>by
  obtain⟨μ,h,ρ,w,h',R,er,e,k⟩:=q0;obtain⟨x,h1,e1,e⟩:=kc e;refine⟨μ,h,ρ,x,h1,R,er,e1,λd3 H1 E1 R1=>?_⟩;cases x with
  | false=>rw[zX zV] at e ⊢;exact⟨d3,h1,ρ,w,h',R1,er.ext R E1,e,λhX H2 E2 R2=>k hX H2 (E1.trans E2) R2⟩
  | true=>rw[zQ rfl] at e ⊢;cases e;exact k d3 H1 E1 R1
def UE(h:SW X cl a ta):ST X cl a ta:=h.pt
def Di(ha:ST X cl a ta):ST X cl (.UnaryOp .Not a pos) (w9 ta):=
 PT.wk (CN ha) λσ H Q q0=>by
  obtain⟨μ,h,ρ,w,h',R,er,e,k⟩:=q0;obtain⟨x,h1,e1,e⟩:=kc e;cases e;exact⟨μ,h,ρ,x,_,R,er,e1,λd3 H1 E1 R1=>k d3 H1 E1 R1⟩
def CY{op}(h:SE X cl a ma):SE X cl (.BoolOp op [a] pos) ma:=CK h
def U9(ha:SE X cl a ma)(hb:SE X cl (.BoolOp .And (b::rest) pos) mb):SE X cl (.BoolOp .And (a::b::rest) pos) (Jv ma mb):=
 PE.wk (Cr ha hb) λσ H Q q0=>by
  obtain⟨μ,h,ρ,w,h',R,er,e,k⟩:=q0;obtain⟨x,h1,e1,e⟩:=kc e;obtain⟨c,h2,e2,e⟩:=kc e;obtain⟨rfl,rfl⟩:=ie e2;refine⟨μ,h,ρ,_,h1,R,er,e1,λd3 H1 vx E1 R1 rx=>⟨c,rx.bl_of,?_⟩⟩;cases c with
  | true=>rw[zQ rfl] at e ⊢;exact⟨d3,h1,ρ,w,h',R1,er.ext R E1,e,k.ext E1⟩
  | false=>rw[zX zV] at e ⊢;cases e;exact k d3 H1 _ E1 R1 (.bl Ä)
def DK(ha:SE X cl a ma)(hb:SE X cl (.BoolOp .Or (b::rest) pos) mb):SE X cl (.BoolOp .Or (a::b::rest) pos) (Cb ma mb):=
 PE.wk (FA ha hb) λσ H Q q0=>by
  obtain⟨μ,h,ρ,w,h',R,er,e,k⟩:=q0;obtain⟨x,h1,e1,e⟩:=kc e;obtain⟨c,h2,e2,e⟩:=kc e;obtain⟨rfl,rfl⟩:=ie e2;refine⟨μ,h,ρ,_,h1,R,er,e1,λd3 H1 vx E1 R1 rx=>⟨c,rx.bl_of,?_⟩⟩;cases c with
  | false=>rw[zX zV] at e ⊢;exact⟨d3,h1,ρ,w,h',R1,er.ext R E1,e,k.ext E1⟩
  | true=>rw[zQ rfl] at e ⊢;cases e;exact k d3 H1 _ E1 R1 (.bl Â)
def CS(ha:SE X cl a ma):SE X cl (.UnaryOp .Not a pos) (Wr ma):=
 PE.wk (BD ha) λσ H Q q0=>by
  obtain⟨μ,h,ρ,w,h',R,er,e,k⟩:=q0;obtain⟨x,h1,e1,e⟩:=kc e;obtain⟨c,h2,e2,e⟩:=kc e;obtain⟨rfl,rfl⟩:=ie e2;cases e;exact⟨μ,h,ρ,_,_,R,er,e1,λd3 H1 vx E1 R1 rx=>⟨c,rx.bl_of,k d3 H1 _ E1 R1 (.bl _)⟩⟩
def FF(ht:ST X cl t ta)(ha:SE X cl a ma)(hb:SE X cl b mb):SE X cl (.IfExp t a b pos) (Yu ta ma mb):=
 PE.wk (Yi ht ha hb) λσ H Q q0=>by
  obtain⟨μ,h,ρ,w,h',R,er,e,k⟩:=q0;obtain⟨x,h1,e1,e⟩:=kc e;refine⟨μ,h,ρ,x,h1,R,er,e1,λd3 H1 E1 R1=>?_⟩;cases x with
  | true=>rw[zQ rfl] at e ⊢;exact⟨d3,h1,ρ,w,h',R1,er.ext R E1,e,k.ext E1⟩
  | false=>rw[zX zV] at e ⊢;exact⟨d3,h1,ρ,w,h',R1,er.ext R E1,e,k.ext E1⟩
variable{es:List Î}{ms:List ME}{e:Î}{m:ME}
def mF:SA X cl [] []:=PA.wk JV λσ H Q q0=>by
 obtain⟨μ,h,ρ,ws,h',R,er,e,k⟩:=q0;cases e;exact k μ H [] .refl R .nil
def ft(ha:SE X cl e m)(hr:SA X cl es ms)(hs:↥(Ì (e::es) X.env=(Ä,å e X.env)::Ì es X.env)):SA X cl (e::es) (m::ms):=
 PA.wk (nj ha hr hs) λσ H Q q0=>by
  obtain⟨μ,h,ρ,ws,h',R,er,e,k⟩:=q0;obtain⟨x,h1,e1,e⟩:=kc e;obtain⟨xs,h2,e2,e⟩:=kc e;cases e;exact⟨μ,h,ρ,x,h1,R,er,e1,λd3 H1 vx E1 R1 rx=>⟨d3,h1,ρ,xs,_,R1,er.ext R E1,e2,λhX H2 vs E2 R2 rs=>k hX H2 _ (E1.trans E2) R2 (.cons (rx.ext R1 E2) rs)⟩⟩
noncomputable def cap:Nat:=1000000
def ya:cap<=Ð:=by decide
noncomputable def zo:List W->M W:=λws h=>if ws.length<=cap then À (.tup ws,h) else Á
noncomputable def kG:List W->M W:=λws h=>if ws.length<=cap then À (.fls ws,h) else Á
noncomputable def dY:List W->M W:=λws h=>if ws.length<=cap then À (.ref h.length,h++[.lst ws]) else Á
theorem KQ.tup{K:Te}{ws:List W}{xs:List V}{Q:VK}{p:È}(k:KQ K cl μ H h (.tup ws) Q)(R:HR K cl μ H h)(rs:RWs K μ H ws xs)(hp:H p=Á):Q (.ref p) (upd H p (.tup xs)):=
 k μ _ _ (.side hp) (R.side hp) (.tup (SqT.of qa) (rs.ext R (.side hp)))
theorem KQ.lst{K:Te}{ws:List W}{xs:List V}(k:KQ K cl μ H (h++[.lst ws]) (.ref h.length) Q)(R:HR K cl μ H h)(rs:RWs K μ H ws xs)(hp:H p=Á):Q (.ref p) (upd H p (.lst xs)):=
 k (μ++[p]) _ _ (.new hp) (R.new hp ⟨xs,qa,rs.ext R (.new hp)⟩) (.ref (by rw[<-R.len];simp))
theorem KQ.fls{K:Te}{ws:List W}{xs:List V}{Q:VK}{p:È}(k:KQ K cl μ H h (.fls ws) Q)(R:HR K cl μ H h)(rs:RWs K μ H ws xs)(hp:H p=Á):Q (.ref p) (upd H p (.lst xs)):=
 k μ _ _ (.side hp) (R.side hp) (.fls (.inl ⟨.inl qa,R.fresh hp⟩) (rs.ext R (.side hp)))
def Bk{x1}(hs:SA X cl es ms):SE X cl (.Tuple es x1 pos) (ze zo ms):=
 PE.wk (Bh hs) λσ H Q q0=>by
  obtain⟨μ,h,ρ,w,h',R,er,e,k⟩:=q0;obtain⟨ws,h1,e1,e⟩:=kc e;refine⟨μ,h,ρ,ws,h1,R,er,e1,λd3 H1 vs E1 R1 rs=>?_⟩;unfold zo at e;split at e
  .rename_i hl
   cases e;exact⟨zp (by rw[<-rs.length];exact hl) ya,λp hp=>(k.ext E1).tup R1 rs hp⟩
  .cases e
def BO(hs:SA X cl es ms):SE X cl (.List es pos) (ze kG ms):=
 PE.wk (QH hs) λσ H Q q0=>by
  obtain⟨μ,h,ρ,w,h',R,er,e,k⟩:=q0;obtain⟨ws,h1,e1,e⟩:=kc e;refine⟨μ,h,ρ,ws,h1,R,er,e1,λd3 H1 vs E1 R1 rs=>?_⟩;unfold kG at e;split at e
  .rename_i hl
   cases e;exact⟨zp (by rw[<-rs.length];exact hl) ya,λp hp=>(k.ext E1).fls R1 rs hp⟩
  .cases e
def Bx(hs:SA X cl es ms):SE X cl (.List es pos) (ze dY ms):=
 PE.wk (QH hs) λσ H Q q0=>by
  obtain⟨μ,h,ρ,w,h',R,er,e,k⟩:=q0;obtain⟨ws,h1,e1,e⟩:=kc e;refine⟨μ,h,ρ,ws,h1,R,er,e1,λd3 H1 vs E1 R1 rs=>?_⟩;unfold dY at e;split at e
  .rename_i hl
   cases e;exact⟨zp (by rw[<-rs.length];exact hl) ya,λp hp=>(k.ext E1).lst R1 rs hp⟩
  .cases e
end
noncomputable def bv(K:Te)(cl:Cl)(f:List W->M W):Sp:=λvs H Q _=>rMs K cl f vs H Q
mutual
noncomputable def low(m:Nat):W->Bool
 | .tup l=>lows m l
 | .fls l=>lows m l
 | .ref n=>decide (n<m)
 | .fdc l=>so m l
 | _=>Â
noncomputable def so(m:Nat):List (Key×W)->Bool
 | []=>Â
 | (_,w)::r=>low m w&&so m r
noncomputable def lows(m:Nat):List W->Bool
 | []=>Â
 | w::r=>low m w&&lows m r
end
open Classical in
noncomputable def gc(f:List W->M W):List W->M W:=λws h=>match f ws h with
 | some (w,h')=>if h<+:h' then (if low h.length w=Â then À (w,h) else match w with
   | .ref n=>match h'[n]? with
    | some (.lst l)=>if lows h.length l=Â then À (.fls l,h) else À (w,h')
    | _=>À (w,h')
   | _=>À (w,h')) else À (w,h')
 | none=>Á
def wm{h:MH}(e:f ws h=À (w,h'))(p:low h.length w=Â)(q:h<+:h'):gc f ws h=À (w,h):=by
 unfold gc;rw[e];erw[p,q,je]
def U8{h h':MH}(e:f ws h=À (.ref n,h'))(q:h<+:h')(hn:h.length<=n)(o:h'[n]?=À (.lst l))(p:lows h.length l=Â):gc f ws h=À (.fls l,h):=by
 unfold gc;rw[e];have b:low h.length (.ref n)=Ä:=by unfold low;simp;omega
 erw[b,q,je,o,p,zO,ju]
theorem nK(m:Nat):∀l:List (Key×W),so m l=lows m (l.map (·.2))
 | []=>by unfold so lows;rfl
 | (k,w)::r=>by unfold so;rw[nK m r];erw[zz];conv=>rhs;unfold lows
section
variable{K:Te}{cl:Cl}{μ d5:List È}{H H':Hp}
theorem RWs.low(r:RWs K μ H l vs):lows μ.length l=Â:=
 RWs.rec (motive_1:=λw _ _=>ML.low μ.length w=Â) (motive_2:=λl _ _=>lows μ.length l=Â) rfl (λ_=>rfl) (λ_=>rfl) (λ_=>rfl) (λ_ _ r=>r) (λe=>kJ (zu.mp e).1) (λ_ _ r=>r) (λ_ _ e _ _ r=>(nK ..).trans (e▸r)) rfl rfl (λ_ _ a b=>jt.mpr ⟨a,b⟩) r
def RWs.cut(pre:μ<+:d5)(p:lows μ.length l=Â)(r:RWs K d5 H l vs):RWs K μ H l vs:=
 RWs.rec (motive_1:=λw v _=>ML.low μ.length w=Â->RW K μ H w v) (motive_2:=λl vs _=>lows μ.length l=Â->RWs K μ H l vs) (λ_=>.non) (λb _=>.bl b) (λb _=>.int b) (λb _=>.str b) (λs _ r p=>.tup s (r p)) (λ{n _} e p=>.ref (by
  have p:n<μ.length:=jU p;obtain⟨t,rfl⟩:=pre;rw[zY p] at e
  exact e)) (λs _ r p=>.fls (s.elim (λz=>.inl ⟨z.1,λq=>z.2 (pre.subset q)⟩) .inr) (r p)) (λs k e b _ r p=>.fdc ⟨s.1,λq=>s.2 (pre.subset q)⟩ k e b (r (e▸(nK ..).symm.trans p))) (λ_=>.fn) (λ_=>.nil) (λ_ _ a b p=>.cons (a (jt.mp p).1) (b (jt.mp p).2)) r p
theorem RW.cut(pre:μ<+:d5)(p:ML.low μ.length w=Â)(r:RW K d5 H w v):RW K μ H w v:=by
 cases RWs.cut pre (l:=[w]) (jt.mpr ⟨p,rfl⟩) (.cons r .nil) with
 | cons r _=>exact r
theorem HR.cut(R:HR K cl μ H h)(E:Ext μ H d5 H')(R':HR K cl d5 H' h')(p:h<+:h'):HR K cl μ H' h:=by
 obtain⟨t,rfl⟩:=p;refine⟨R.len,R.nd,λn a o e1 e2=>?_⟩;have q:=R.ob n a o e1 e2;have q':=R'.ob n a o (E.get e1) (by rw[zY (zu.mp e2).1];exact e2);cases o with
 | lst l=>obtain⟨SC,_,r0⟩:=q;obtain⟨vs,z,r⟩:=q';exact⟨vs,z,RWs.cut E.pre r0.low r⟩
 | dic l=>obtain⟨l0,_,_,r0⟩:=q;obtain⟨l',z,k,r⟩:=q';exact⟨l',z,k,RWs.cut E.pre r0.low r⟩
 | ins c fs=>obtain⟨_,SD,_,_,r0⟩:=q;obtain⟨dx,FM,z,k,r⟩:=q';exact⟨dx,FM,z,k,RWs.cut E.pre r0.low r⟩
 | tdc ks=>obtain⟨_,_,_,_,_,r0⟩:=q;obtain⟨xs,z,k1,k2,k3,r⟩:=q';exact⟨xs,z,k1,k2,k3,RWs.cut E.pre r0.low r⟩
def FI(q:bv K cl (gc f) vs H Q E):bv K cl f vs H Q E:=by
 obtain⟨μ,h,ws,w,h',R,rs,e,k⟩:=q;unfold gc at e;split at e
 .rename_i w1 h1 e1
  have plain:∀{w h'},À (w1,h1)=À (w,h')->KQ K cl μ H h' w Q->bv K cl f vs H Q E:=λq k=>by cases q;exact⟨μ,h,ws,_,_,R,rs,e1,k⟩
  split at e
  .rename_i c
   have cut:∀{d5 H'},Ext μ H d5 H'->Ext μ H μ H':=λE'=>⟨jw _,λb o e n=>⟨(E'.fr b o e n).1,n⟩⟩
   split at e
   .rename_i p
    cases e;refine⟨μ,h,ws,_,h1,R,rs,e1,λd5 H' v E' R' r'=>?_⟩;exact k μ H' v (cut E') (R.cut E' R' c) (RW.cut E'.pre (by rw[R.len];exact p) r')
   .rename_i p
    split at e
    .rename_i n
     split at e
     .rename_i l ho
      split at e
      .rename_i pl
       cases e;refine⟨μ,h,ws,_,h1,R,rs,e1,λd5 H' v E' R' r'=>?_⟩;cases r' with
       | @ref _ a hm=>
        obtain⟨Hj,hv,rv⟩:=R'.ob n a _ hm ho;refine k μ H' _ (cut E') (R.cut E' R' c) (.fls (.inl ⟨.inl hv,λz=>?_⟩) (RWs.cut E'.pre (by rw[R.len];exact pl) rv));obtain⟨m,ND⟩:=qJ.mp z;have h2:=E'.get ND;have Af:m<μ.length:=(zu.mp ND).1;obtain⟨z1,z2⟩:=zu.mp h2;obtain⟨z3,z4⟩:=zu.mp hm;have:m=n:=(ym R'.nd).mp (z2.trans z4.symm);subst this;refine p ?_;unfold low;rw[R.len] at Af;simpa using Af
      .exact plain e k
     .exact plain e k
    .exact plain e k
  .exact plain e k
 .cases e
end
section
variable{X:Cx}{cl:Cl}{k:Nat}{f:È}{fd:ą}{ps:List Ç}{x:Ç}{p pos:ĝ}{e:Î}{es:List Î}{g:List W->M W}{m:ME}{ms:List ME}
def eV{K:Te}{f:List W->M W}{σ:L2.St}{H:Hp}(q:tM K cl (ze f ms) σ H Q):tMA K cl ms σ H λvs H1=>rMs K cl f vs H1 Q:=by
 obtain⟨μ,h,ρ,w,h',R,er,e,k⟩:=q;obtain⟨ws,h1,e1,e⟩:=kc e;exact⟨μ,h,ρ,ws,h1,R,er,e1,λd3 H1 vs E1 R1 rs=>⟨d3,h1,ws,w,h',R1,rs,e,k.ext E1⟩⟩
def Us(F:FnOk X.prog X.w X.K X.mg X.base dO k f fd ps (bv X.K cl g))(hr:Room k X.A)(hm:X.mg x=À (.ref f))(hk:ì X.K (.ref f)=Â)(hb:Binds X.K fd ps [])
  (ha:SA X cl (e::es) ms) (hg:↥(Gl X x)) (AQ:⇑((x==("__debug__":Ç))=Ä)) (r9:↥(Ì (e::es) X.env=(Ä,å e X.env)::Ì es X.env)) (Ai:↥((á pos (Ì es X.env)).any (·.1)=Ä)):SE X cl (.Call (.Name x p) (e::es) [] pos) (ze g ms):=
 PE.wk (Xw F hr hg hm hk hb .nil YT ha AQ r9 Ai) λσ H Q q=>by
  obtain⟨μ,h,ρ,ws,h1,R,er,e1,k1⟩:=eV q;exact⟨μ,h,ρ,ws,h1,R,er,e1,λd3 H1 vs E1 R1 rs=>by show bv X.K cl g (vs++[]) H1 Q E0;rw[vQ];exact k1 d3 H1 vs E1 R1 rs⟩
def Wv(F:FnOk X.prog X.w X.K X.mg X.base dO k f fd ps (bv X.K cl g))(hr:Room k X.A)(hm:X.mg x=À (.ref f))(hk:ì X.K (.ref f)=Â)(hb:Binds X.K fd ps [])
  (hg:↥(Gl X x)) (AQ:⇑((x==("__debug__":Ç))=Ä)):SE X cl (.Call (.Name x p) [] [] pos) (ze g []):=
 PE.wk (V1 F hr hg hm hk hb .nil YT AQ) λσ H Q q=>by
  obtain⟨μ,h,ρ,ws,h1,R,er,e1,k1⟩:=eV q;cases e1;exact k1 μ H [] .refl R .nil
def VH{id:String}(hc:qh X (.builtin id) (rMs X.K cl g))(hm:X.mg x=Á)(hv:Ø x=À (.builtin id))(ha:SA X cl (e::es) ms)(hg:↥(Gl X x))(hn:⇑(x≠"__name__"))(AQ:⇑((x==("__debug__":Ç))=Ä))(r9:↥(Ì (e::es) X.env=(Ä,å e X.env)::Ì es X.env))(Ai:↥((á pos (Ì es X.env)).any (·.1)=Ä)) :
  SE X cl (.Call (.Name x p) (e::es) [] pos) (ze g ms):=
 PE.wk (rC hc hg hm hv ha hn AQ r9 Ai) λσ H Q q=>eV q
def Vd{id:String}(hc:qh X (.type id) (rMs X.K cl g))(hm:X.mg x=Á)(hv:Ø x=À (.type id))(ha:SA X cl (e::es) ms)(hg:↥(Gl X x))(hn:⇑(x≠"__name__"))(AQ:⇑((x==("__debug__":Ç))=Ä))(r9:↥(Ì (e::es) X.env=(Ä,å e X.env)::Ì es X.env))(Ai:↥((á pos (Ì es X.env)).any (·.1)=Ä)) :
  SE X cl (.Call (.Name x p) (e::es) [] pos) (ze g ms):=
 PE.wk (JY hc hg hm hv ha hn AQ r9 Ai) λσ H Q q=>eV q
end
inductive Fl where
 | nx (ρ:En) | ret (w:W) | bk (ρ:En) | ct (ρ:En)
abbrev MS:=En->MH->Option (Fl×MH)
abbrev MG:=W->En->M En
noncomputable def KF(K:Te)(cl:Cl)(μ:List È)(H:Hp)(h':MH)(fl:Fl)(D:Ends):Prop:=∀d5 H',Ext μ H d5 H'->HR K cl d5 H' h'->match fl with
 | .nx ρ=>∀σ,ER K d5 H' ρ σ->D.nx σ H'
 | .ret w=>∀v,RW K d5 H' w v->D.rt v H'
 | .bk ρ=>∀σ,ER K d5 H' ρ σ->D.bk σ H'
 | .ct ρ=>∀σ,ER K d5 H' ρ σ->D.ct σ H'
inductive tMS(K:Te)(cl:Cl)(m:MS)(D:Ends)(σ:L2.St)(H:Hp):Prop
 | mk (μ:List È) (h:MH) (ρ:En) (fl:Fl) (h':MH) (p0:HR K cl μ H h) (p1:ER K μ H ρ σ) (p2:m ρ h=À (fl,h')) (p3:KF K cl μ H h' fl D):tMS K cl m D σ H
abbrev SS(X:Cx)(cl:Cl)(st:č)(m:MS):Prop:=PS X st (tMS X.K cl m)
abbrev SB(X:Cx)(cl:Cl)(st:List č)(m:MS):Prop:=PSs X st (tMS X.K cl m)
inductive tMG(K:Te)(cl:Cl)(g:MG)(v:V)(σ:L2.St)(H:Hp)(Q:L2.St->Hp->Prop):Prop
 | mk (μ:List È) (h:MH) (ρ:En) (w:W) (ρ':En) (h':MH) (p0:HR K cl μ H h) (p1:ER K μ H ρ σ) (p2:RW K μ H w v) (p3:g w ρ h=À (ρ',h')) (p4:∀d5 H' hG,Ext μ H d5 H'->HR K cl d5 H' h'->ER K d5 H' ρ' hG->Q hG H'):tMG K cl g v σ H Q
abbrev SG(X:Cx)(cl:Cl)(e:Î)(g:MG):Prop:=PG X e (tMG X.K cl g)
def PG.wk(h:PG X e t)(w:∀v σ H Q,t' v σ H Q->t v σ H Q):PG X e t':=λag s σ H v u Q I r q=>h ag s σ H v u Q I r (w v σ H Q q)
def KF.ext{K:Te}{cl:Cl}{μ d5:List È}{H H':Hp}(E:Ext μ H d5 H')(k:KF K cl μ H h fl D):KF K cl d5 H' h fl D:=λhX H2 E2 R2=>k hX H2 (E.trans E2) R2
theorem KF.nx{K:Te}{cl:Cl}{μ:List È}{H:Hp}{D:Ends}(k:KF K cl μ H h (.nx ρ) D)(R:HR K cl μ H h)(er:ER K μ H ρ σ):D.nx σ H:=k μ H .refl R σ er
noncomputable def kg:MS:=λρ h=>À (.nx ρ,h)
noncomputable def zl(a b:MS):MS:=λρ h=>match a ρ h with
 | some (.nx ρ',h')=>b ρ' h'
 | r=>r
noncomputable def yY(m:ME):MS:=λρ h=>match m ρ h with
 | some (_,h')=>À (.nx ρ,h')
 | none=>Á
noncomputable def kf(m:ME):MS:=λρ h=>match m ρ h with
 | some (w,h')=>À (.ret w,h')
 | none=>Á
noncomputable def kX(t:MT)(a b:MS):MS:=λρ h=>match t ρ h with
 | some (c,h')=>if c=Â then a ρ h' else b ρ h'
 | none=>Á
noncomputable def zI(m:ME)(g:MG):MS:=λρ h=>match m ρ h with
 | some (w,h')=>match g w ρ h' with
  | some (ρ',h2)=>À (.nx ρ',h2)
  | none=>Á
 | none=>Á
noncomputable def zw(i:Nat):MG:=λw ρ h=>if i<ρ.length then À (ρ.set i (À w),h) else Á
noncomputable def eZ:List MG->List W->En->M En
 | [],[]=>λρ h=>À (ρ,h)
 | g::gs,w::ws=>λρ=>bnd (g w ρ) λρ'=>eZ gs ws ρ'
 | _,_=>λ_ _=>Á
noncomputable def vE(gs:List MG):MG:=λw=>match w with
 | .tup ws=>eZ gs ws
 | _=>λ_ _=>Á
noncomputable def Ko(i:Nat)(f:W->W->M W)(m:ME):MS:=λρ h=>match ρ[i]? with
 | some (À x)=>match m ρ h with
  | some (y,h1)=>match f x y h1 with
   | some (z,h2)=>if i<ρ.length then À (.nx (ρ.set i (À z)),h2) else Á
   | none=>Á
  | none=>Á
 | _=>Á
section
variable{X:Cx}{cl:Cl}{st:č}{rest:List č}{a b:MS}{e:Î}{m:ME}{pos:ĝ}
theorem ER.set{K:Te}{μ:List È}{H:Hp}{ρ:En}{σ:L2.St}(er:ER K μ H ρ σ)(hi:i<ρ.length)(r:RW K μ H w v):ER K μ H (ρ.set i (À w)) (σ.set i (À v)):=by
 refine⟨by simp[er.len],λj w' e=>?_⟩;by_cases hj:j=i
 .subst hj
  rw[j8 hi] at e;cases e;exact⟨v,by rw[j8 (by rw[<-er.len];exact hi)],r⟩
 .rw[qu (jn hj)] at e
  obtain⟨v',e',r'⟩:=er.at_ j w' e;exact⟨v',by rw[qu (jn hj)];exact e',r'⟩
def B1:SB X cl [] kg:=PSs.wk UK λD σ H q0=>by
 obtain⟨μ,h,ρ,fl,h',R,er,e,k⟩:=q0;cases e;exact k.nx R er
def Bl(h1:SS X cl st a):SB X cl [st] a:=XY h1
def Uy(h1:SS X cl st a)(h2:SB X cl rest b):SB X cl (st::rest) (zl a b):=PSs.wk (W7 h1 h2) λD σ H q0=>by
 obtain⟨μ,h,ρ,fl,h',R,er,e,k⟩:=q0;unfold zl at e;split at e
 .rename_i mN h1 e1
  exact⟨μ,h,ρ,_,h1,R,er,e1,λd3 H1 E1 R1 GM L9=>⟨d3,h1,mN,fl,h',R1,L9,e,k.ext E1⟩⟩
 .rename_i r hr
  refine⟨μ,h,ρ,fl,h',R,er,e,λd3 H1 E1 R1=>?_⟩;have k1:=k d3 H1 E1 R1;cases fl with
  | nx mN=>exact absurd e (hr mN h')
  | ret w=>exact k1
  | bk mN=>exact k1
  | ct mN=>exact k1
def UL:SS X cl (.Pass pos) kg:=PS.wk U0 λD σ H q0=>by
 obtain⟨μ,h,ρ,fl,h',R,er,e,k⟩:=q0;cases e;exact k.nx R er
def Xh(he:SE X cl e m)(hs:↥(Ď e Á pos.line X.env=pure Ä)):SS X cl (.Expr e pos) (yY m):=PS.wk (XD he hs) λD σ H q0=>by
 obtain⟨μ,h,ρ,fl,h',R,er,e,k⟩:=q0;unfold yY at e;split at e
 .rename_i w h1 e1
  cases e;exact⟨μ,h,ρ,w,_,R,er,e1,λd3 H1 v E1 R1 _=>k d3 H1 E1 R1 σ (er.ext R E1)⟩
 .cases e
def Ds(he:SE X cl e m):SS X cl (.Return (À e) pos) (kf m):=PS.wk (BW he) λD σ H q0=>by
 obtain⟨μ,h,ρ,fl,h',R,er,e,k⟩:=q0;unfold kf at e;split at e
 .rename_i w h1 e1
  cases e;exact⟨μ,h,ρ,w,_,R,er,e1,λd3 H1 v E1 R1 r=>k d3 H1 E1 R1 v r⟩
 .cases e
def DX(hc:ST X cl c t)(ha:SB X cl sa a)(hb:SB X cl sb b):SS X cl (.If c sa sb pos) (kX t a b):=PS.wk (Fp hc ha hb) λD σ H q0=>by
 obtain⟨μ,h,ρ,fl,h',R,er,e,k⟩:=q0;unfold kX at e;split at e
 .rename_i c h1 e1
  refine⟨μ,h,ρ,c,h1,R,er,e1,λd3 H1 E1 R1=>?_⟩;cases c with
  | true=>rw[zQ rfl] at e ⊢;exact⟨d3,h1,ρ,fl,h',R1,er.ext R E1,e,k.ext E1⟩
  | false=>rw[zX zV] at e ⊢;exact⟨d3,h1,ρ,fl,h',R1,er.ext R E1,e,k.ext E1⟩
 .cases e
def Zo(i:Nat)(hN:X.N.Nodup)(hi:↥(X.N[i]?=À x))(hx:Loc X.env.scope x:=by first | exact Or.inl rfl | exact Or.inr rfl)(hf:X.fn x=Â\/X.env.scope.names.lookup x=À .local:=by first | exact .inl rfl | exact .inr rfl | assumption):SG X cl (.Name x pos) (zw i):=
 PG.wk (Xz (i:=i) hN hi hx hf) λv σ H Q q0=>by
  obtain⟨μ,h,ρ,w,ρ',h',R,er,r,e,k⟩:=q0;unfold zw at e;split at e
  .rename_i hi
   cases e;exact k μ H _ .refl R (er.set hi r)
  .cases e
inductive tMGs(K:Te)(cl:Cl)(gs:List MG)(vs:List V)(σ:L2.St)(H:Hp)(Q:L2.St->Hp->Prop):Prop
 | mk (μ:List È) (h:MH) (ρ:En) (ws:List W) (ρ':En) (h':MH) (p0:HR K cl μ H h) (p1:ER K μ H ρ σ) (p2:RWs K μ H ws vs) (p3:eZ gs ws ρ h=À (ρ',h')) (p4:∀d5 H' hG,Ext μ H d5 H'->HR K cl d5 H' h'->ER K d5 H' ρ' hG->Q hG H'):tMGs K cl gs vs σ H Q
abbrev QN(X:Cx)(cl:Cl)(es:List Î)(gs:List MG):Prop:=PGs X es (tMGs X.K cl gs)
def PGs.wk(h:PGs X es t)(w:∀v σ H Q,t' v σ H Q->t v σ H Q):PGs X es t':=λag s σ H v u Q I r q=>h ag s σ H v u Q I r (w v σ H Q q)
def UO:QN X cl [] []:=PGs.wk X7 λvs σ H Q q0=>by
 obtain⟨μ,h,ρ,ws,ρ',h',R,er,rs,e,k⟩:=q0;cases rs with
 | nil=>cases e;exact⟨rfl,k μ H _ .refl R er⟩
 | cons r t=>cases e
def Wm(h1:SG X cl e g)(h2:QN X cl es gs)
  (hs:↥((ñ (e::es) X.env).map (·.2)=Ľ e X.env::(ñ es X.env).map (·.2))):QN X cl (e::es) (g::gs):=PGs.wk (WN h1 h2 hs) λvs σ H Q q0=>by
 obtain⟨μ,h,ρ,ws,ρ',h',R,er,rs,e,k⟩:=q0;cases rs with
 | nil=>cases e
 | cons r t=>
  obtain⟨mN,h1,e1,e2⟩:=kc e;exact⟨_,_,rfl,μ,h,ρ,_,mN,h1,R,er,r,e1,λd3 H1 GM E1 R1 L9=>⟨d3,h1,mN,_,ρ',h',R1,L9,t.ext R E1,e2,λhX H2 Eh E2 R2 Ez=>k hX H2 Eh (E1.trans E2) R2 Ez⟩⟩
def Do{gs:List MG}(hc:X.calm=Â)(hg:QN X cl es gs)
  (hl:↥((ñ es X.env).length=gs.length)) (r9:↥((ñ es X.env).findIdx? (·.1)=Á)):SG X cl (.Tuple es n pos) (vE gs):=PG.wk (B4 hc hg hl r9) λv σ H Q q0=>by
 obtain⟨μ,h,ρ,w,ρ',h',R,er,r,e,k⟩:=q0;cases r with
 | @tup a vs l s rs=>
  have e':eZ gs l ρ h=À (ρ',h'):=e;have ll:∀(gs:List MG) (l:List W) (ρ:En) (h:MH),eZ gs l ρ h=À (ρ',h')->gs.length=l.length:=by
   intro gs;induction gs with
   | nil=>intro l ρ h e;cases l with | nil=>rfl | cons=>cases e
   | cons g gs ih=>
    intro l ρ h e;cases l with
    | nil=>cases e
    | cons w l=>
     obtain⟨mN,h1,e1,e2⟩:=kc e;erw[zE];rw[ih l mN h1 e2]
  exact⟨a,vs,rfl,s,by rw[<-rs.length];exact(ll gs l ρ h e').symm,μ,h,ρ,l,ρ',h',R,er,rs,e',k⟩
 | _=>cases e
def QV(he:SE X cl e m)(hg:SG X cl tg g)(hs:↥(ő [tg] e pos.line X.env=pure Ä))(hw:↥(Œ [tg] e X.env=pure Á))
  (h1:↥((ñ [tg] X.env).map (·.2)=[Ľ tg X.env])):SS X cl (.Assign [tg] e pos) (zI m g):=PS.wk (CC he hg hs hw h1) λD σ H q0=>by
 obtain⟨μ,h,ρ,fl,h',R,er,e,k⟩:=q0;unfold zI at e;split at e
 .rename_i w h1 e1
  split at e
  .rename_i oj h2 e2
   cases e;exact⟨μ,h,ρ,w,h1,R,er,e1,λd3 H1 v E1 R1 r=>⟨d3,h1,ρ,w,oj,_,R1,er.ext R E1,r,e2,λhX H2 Eh E2 R2 Ez=>k hX H2 (E1.trans E2) R2 Eh Ez⟩⟩
  .cases e
 .cases e
def Ca(i:Nat)(hN:X.N.Nodup)(he:SE X cl e m)(hi:↥(X.N[i]?=À x))(hx:Loc X.env.scope x:=by first | exact Or.inl rfl | exact Or.inr rfl)(hs:↥(Ď e (À (.Name x Av)) pos.line X.env=pure Ä))
  (hf:X.fn x=Â\/X.env.scope.names.lookup x=À .local:=by first | exact .inl rfl | exact .inr rfl | assumption):SS X cl (.Assign [.Name x Av] e pos) (zI m (zw i)):=PS.wk (DJ (i:=i) hN hi hx he hs hf) λD σ H q0=>by
 obtain⟨μ,h,ρ,fl,h',R,er,e,k⟩:=q0;unfold zI at e;split at e
 .rename_i w h1 e1
  split at e
  .rename_i oj h2 e2
   cases e;refine⟨μ,h,ρ,w,h1,R,er,e1,λd3 H1 v E1 R1 r=>?_⟩;unfold zw at e2;split at e2
   .rename_i hi
    cases e2;exact k d3 H1 E1 R1 _ ((er.ext R E1).set hi r)
   .cases e2
  .cases e
 .cases e
def B2(i:Nat)(hN:X.N.Nodup)(ho:Vc X op (rM X.K cl f))(he:SE X cl e m)(hi:↥(X.N[i]?=À x))(hx:Loc X.env.scope x:=by first | exact Or.inl rfl | exact Or.inr rfl)
  (hf:X.fn x=Â\/X.env.scope.names.lookup x=À .local:=by first | exact .inl rfl | exact .inr rfl | assumption):SS X cl (.AugAssign (.Name x Av) op e pos) (Ko i f m):=PS.wk (Dg (i:=i) hN hi hx he ho hf) λD σ H q0=>by
 obtain⟨μ,h,ρ,fl,h',R,er,e,k⟩:=q0;unfold Ko at e;split at e
 .rename_i w0 e0
  split at e
  .rename_i y h1 e1
   split at e
   .rename_i z h2 e2
    split at e
    .rename_i hi
     cases e;obtain⟨v0,q0,r0⟩:=er.at_ i w0 e0;exact⟨v0,q0,μ,h,ρ,y,h1,R,er,e1,λd3 H1 vy E1 R1 ry=>⟨d3,h1,w0,y,z,_,R1,r0.ext R E1,ry,e2,λhX H2 vz E2 R2 rz=>k hX H2 (E1.trans E2) R2 _ (((er.ext R E1).ext R1 E2).set hi rz)⟩⟩
    .cases e
   .cases e
  .cases e
 .cases e
end
noncomputable def vw(c:MT)(b:MS):Nat->MS
 | 0=>λ_ _=>Á
 | n+1=>λρ h=>match c ρ h with
  | some (Â,h1)=>match b ρ h1 with
   | some (.nx oj,h2)=>vw c b n oj h2
   | some (.ct oj,h2)=>vw c b n oj h2
   | some (.bk oj,h2)=>À (.nx oj,h2)
   | some (.ret w,h2)=>À (.ret w,h2)
   | none=>Á
  | some (Ä,h1)=>À (.nx ρ,h1)
  | none=>Á
theorem ba:∀{n:Nat} {ρ:En} {h:MH} {r:Fl×MH},vw c b n ρ h=À r->∀k,vw c b (n+k) ρ h=À r
 | 0,_,_,_,e,_=>by cases e
 | n+1,ρ,h,r,e,k=>by
  rw[show n+1+k=(n+k)+1 by omega];unfold vw at e ⊢;cases e1:c ρ h with
  | none=>rw[e1] at e;cases e
  | some p=>
   obtain⟨t,h1⟩:=p;rw[e1] at e;cases t with
   | false=>exact e
   | true=>
    simp only at e ⊢;cases e2:b ρ h1 with
    | none=>rw[e2] at e;cases e
    | some q=>
     obtain⟨fl,h2⟩:=q;rw[e2] at e;cases fl with
     | nx oj=>exact ba (n:=n) e k
     | ct oj=>exact ba (n:=n) e k
     | bk oj=>exact e
     | ret w=>exact e
open Classical in
noncomputable def ck(c:MT)(b:MS):MS:=λρ h=>if q:∃n r,vw c b n ρ h=À r then À q.choose_spec.choose else Á
def J1(e:vw c b n ρ h=À r):ck c b ρ h=À r:=by
 unfold ck;have q:∃n r,vw c b n ρ h=À r:=⟨n,r,e⟩;rw[dif_pos q];have e1:=q.choose_spec.choose_spec;have e2:=ba e1 n;have e3:=ba e q.choose;rw[Nat.add_comm] at e3;rw[e2] at e3;exact e3
def Qo(e:ck c b ρ h=À r):∃n,vw c b n ρ h=À r:=by
 unfold ck at e;split at e
 .rename_i q
  have e1:=q.choose_spec.choose_spec;cases e;exact⟨_,e1⟩
 .cases e
section
variable{X:Cx}{cl:Cl}{pos:ĝ}
def Yb(hc:ST X cl c t)(hb:SB X cl body b)(hp:ź (Í X.prog X.w) X.A X.env X.xe:=by exact yR):SS X cl (.While c body [] pos) (ck t b):=PS.wk (Wl hp hc hb) λD σ H q0=>by
 obtain⟨μ,h,ρ,fl,h',R,er,e,k⟩:=q0;obtain⟨n0,e⟩:=Qo e;refine⟨λn σ H=>∃μ h ρ fl h',HR X.K cl μ H h/\ER X.K μ H ρ σ/\vw t b n ρ h=À (fl,h')/\KF X.K cl μ H h' fl D,⟨n0,μ,h,ρ,fl,h',R,er,e,k⟩,?_⟩;rintro n σ H ⟨μ,h,ρ,fl,h',R,er,e,k⟩;cases n with
 | zero=>cases e
 | succ n=>
  unfold vw at e;cases e1:t ρ h with
  | none=>rw[e1] at e;cases e
  | some p=>
   obtain⟨c,h1⟩:=p;rw[e1] at e;refine⟨μ,h,ρ,c,h1,R,er,e1,λd3 H1 E1 R1=>?_⟩;cases c with
   | false=>
    rw[zX zV];cases e;exact k d3 H1 E1 R1 σ (er.ext R E1)
   | true=>
    rw[zQ rfl];refine⟨λhG H'=>∃μ h ρ fl h',HR X.K cl μ H' h/\ER X.K μ H' ρ hG/\vw t b n ρ h=À (fl,h')/\KF X.K cl μ H' h' fl D,λhG H' q=>⟨n,j4 n,q⟩,?_⟩;simp only at e;cases e2:b ρ h1 with
    | none=>rw[e2] at e;cases e
    | some q=>
     obtain⟨f2,h2⟩:=q;rw[e2] at e;refine⟨d3,h1,ρ,f2,h2,R1,er.ext R E1,e2,λhX H2 E2 R2=>?_⟩;cases f2 with
     | nx oj=>exactλEh Ez=>⟨hX,h2,oj,fl,h',R2,Ez,e,k.ext (E1.trans E2)⟩
     | ct oj=>exactλEh Ez=>⟨hX,h2,oj,fl,h',R2,Ez,e,k.ext (E1.trans E2)⟩
     | bk oj=>cases e;exactλEh Ez=>k hX H2 (E1.trans E2) R2 Eh Ez
     | ret w=>cases e;exactλv rv=>k hX H2 (E1.trans E2) R2 v rv
end
inductive Src where
 | items (l:List W) | live (n:Nat)
noncomputable def xD(s:Src)(i:Nat)(h:MH):Option (Option W):=match s with
 | .items l=>À l[i]?
 | .live n=>match h[n]? with
  | some (.lst l)=>À l[i]?
  | _=>Á
noncomputable def JR(K:Te)(cl:Cl)(J:It)(s:Src)(μ:List È)(H:Hp):Prop:=∀hX H2 h2,Ext μ H hX H2->HR K cl hX H2 h2->∀i,
 (∀w,xD s i h2=À (À w)->J.go i H2/\∀x H3,J.yld i H2 x H3->Ext hX H2 hX H3/\HR K cl hX H3 h2/\RW K hX H3 w x)/\(xD s i h2=À Á->J.stop i H2)
abbrev MI:=En->M Src
inductive tMI(K:Te)(cl:Cl)(m:MI)(σ:L2.St)(H:Hp)(R:It->Hp->Prop):Prop
 | mk (μ:List È) (h:MH) (ρ:En) (src:Src) (h':MH) (p0:HR K cl μ H h) (p1:ER K μ H ρ σ) (p2:m ρ h=À (src,h')) (p3:∀d5 H' J,Ext μ H d5 H'->HR K cl d5 H' h'->JR K cl J src d5 H'->R J H'):tMI K cl m σ H R
abbrev SI(X:Cx)(cl:Cl)(tg e:Î)(m:MI):Prop:=PI X tg e (tMI X.K cl m)
def PI.wk(h:PI X tg e t)(w:∀σ H Q,t' σ H Q->t σ H Q):PI X tg e t':=λag s σ H Q I q=>h ag s σ H Q I (w σ H Q q)
def JR.ext{K:Te}{cl:Cl}{J:It}{H:Hp}(E:Ext μ H d5 H')(j:JR K cl J s μ H):JR K cl J s d5 H':=λhX H2 h2 E2=>j hX H2 h2 (E.trans E2)
noncomputable def fb(s:Src)(g:MG)(b:MS):Nat->Nat->MS
 | 0,_=>λ_ _=>Á
 | k+1,i=>λρ h=>match xD s i h with
  | some (À w)=>match g w ρ h with
   | some (mN,h1)=>match b mN h1 with
    | some (.nx oj,h2)=>fb s g b k (i+1) oj h2
    | some (.ct oj,h2)=>fb s g b k (i+1) oj h2
    | some (.bk oj,h2)=>À (.nx oj,h2)
    | some (.ret w,h2)=>À (.ret w,h2)
    | none=>Á
   | none=>Á
  | some Á=>À (.nx ρ,h)
  | none=>Á
noncomputable def forL(g:MG)(b:MS):List W->MS
 | []=>λρ h=>À (.nx ρ,h)
 | w::r=>λρ h=>match g w ρ h with
  | some (mN,h1)=>match b mN h1 with
   | some (.nx oj,h2)=>forL g b r oj h2
   | some (.ct oj,h2)=>forL g b r oj h2
   | some (.bk oj,h2)=>À (.nx oj,h2)
   | some (.ret w,h2)=>À (.ret w,h2)
   | none=>Á
  | none=>Á
theorem fS(l:List W):∀(k i:Nat) (ρ:En) (h:MH),l.length+1<=i+k->i<=l.length->fb (.items l) g b k i ρ h=forL g b (l.drop i) ρ h
 | 0,i,ρ,h,hk,hi=>by omega
 | k+1,i,ρ,h,hk,hi=>by
  by_cases hl:i<l.length
  .rw[wL hl]
   unfold fb forL;erw[xD,zM hl];cases e1:g l[i] ρ h with
   | none=>rfl
   | some p=>
    obtain⟨mN,h1⟩:=p;simp only;cases e2:b mN h1 with
    | none=>rfl
    | some q=>
     obtain⟨fl,h2⟩:=q;cases fl with
     | nx oj=>exact fS l k (i+1) oj h2 ∅ hl
     | ct oj=>exact fS l k (i+1) oj h2 ∅ hl
     | bk oj=>rfl
     | ret w=>rfl
  .have Ed:i=l.length:=by omega
   subst Ed;rw[xY];unfold fb forL;simp[xD]
noncomputable def Qk(s:Src)(h:MH):Nat:=match s with
 | .items l=>l.length
 | .live n=>match h[n]? with
  | some (.lst l)=>l.length
  | _=>0
noncomputable def vS(mi:MI)(g:MG)(b:MS):MS:=λρ h=>match mi ρ h with
 | some (.items l,h1)=>forL g b l ρ h1
 | some (.live n,h1)=>fb (.live n) g b (Qk (.live n) h1+1) 0 ρ h1
 | none=>Á
section
variable{X:Cx}{cl:Cl}{pos:ĝ}
def sD{K:Te}{J:It}{src:Src}{g:MG}{b:MS}{D:Ends}{σ:L2.St}{H:Hp}(R:HR K cl μ H h)(er:ER K μ H ρ σ)(j:JR K cl J src μ H)(e:fb src g b k0 0 ρ h=À (fl,h'))
  (k:KF K cl μ H h' fl D):∃W:Nat->Nat->L2.St->Hp->Prop,(∃m,W 0 m σ H)/\∀i m σ H,W i m σ H->
   (J.stop i H/\D.nx σ H)\/(J.go i H/\∃N:L2.St->Hp->Prop,(∀hG H',N hG H'->∃m',m'<m/\W (i+1) m' hG H')/\∀x H',J.yld i H x H'->tMG K cl g x σ H' λEh H2=>tMS K cl b { D with nx:=N,ct:=N,bk:=D.nx } Eh H2):=by
 refine⟨λi m σ H=>∃μ h ρ fl h',HR K cl μ H h/\ER K μ H ρ σ/\JR K cl J src μ H/\fb src g b m i ρ h=À (fl,h')/\KF K cl μ H h' fl D,⟨k0,μ,h,ρ,fl,h',R,er,j,e,k⟩,?_⟩;rintro i m σ H ⟨μ,h,ρ,fl,h',R,er,j,e,k⟩;cases m with
 | zero=>cases e
 | succ m=>
  unfold fb at e;obtain⟨jg,js⟩:=j μ H h .refl R i;cases es:xD src i h with
  | none=>rw[es] at e;cases e
  | some o=>
   rw[es] at e;cases o with
   | none=>
    cases e;exact .inl ⟨js es,k.nx R er⟩
   | some w=>
    obtain⟨go,yl⟩:=jg w es;simp only at e;cases e1:g w ρ h with
    | none=>rw[e1] at e;cases e
    | some p=>
     obtain⟨mN,h1⟩:=p;rw[e1] at e;simp only at e;cases e2:b mN h1 with
     | none=>rw[e2] at e;cases e
     | some q=>
      obtain⟨f2,h2⟩:=q;rw[e2] at e;refine .inr ⟨go,λhG H'=>∃μ h ρ fl h',HR K cl μ H' h/\ER K μ H' ρ hG/\JR K cl J src μ H'/\fb src g b m (i+1) ρ h=À (fl,h')/\KF K cl μ H' h' fl D,λhG H' q=>⟨m,j4 m,q⟩,λx H1 y1=>?_⟩;obtain⟨E1,R1,rx⟩:=yl x H1 y1;refine⟨μ,h,ρ,w,mN,h1,R1,er.ext R E1,rx,e1,λhX H2 Eh E2 R2 Ez=>⟨hX,h1,mN,f2,h2,R2,Ez,e2,λAN H3 E3 R3=>?_⟩⟩;have E:=E1.trans (E2.trans E3);cases f2 with
      | nx oj=>exactλAX IF=>⟨AN,h2,oj,fl,h',R3,IF,j.ext E,e,k.ext E⟩
      | ct oj=>exactλAX IF=>⟨AN,h2,oj,fl,h',R3,IF,j.ext E,e,k.ext E⟩
      | bk oj=>cases e;exactλAX IF=>k AN H3 E R3 AX IF
      | ret w=>cases e;exactλv rv=>k AN H3 E R3 v rv
def Bm(hc:X.calm=Â)(hi:SI X cl tg iter mi)(hg:SG X cl tg g)(hb:SB X cl body b)
  (hs:∀x,ê iter X.env x=pure x:=by intro _;rfl) (hp:ź (Í X.prog X.w) X.A X.env X.xe:=by exact yR):SS X cl (.For tg iter body [] pos) (vS mi g b):=PS.wk (C5 hp hc hi hg hb hs) λD σ H q0=>by
 obtain⟨μ,h,ρ,fl,h',R,er,e,k⟩:=q0;unfold vS at e;split at e
 .rename_i l h1 e1
  refine⟨μ,h,ρ,.items l,h1,R,er,e1,λd3 H1 J E1 R1 j=>?_⟩;have q:=fS (g:=g) (b:=b) l (l.length+1) 0 ρ h1 ∅ ∅;rw[List.drop_zero,e] at q;exact sD R1 (er.ext R E1) j q (k.ext E1)
 .rename_i n h1 e1
  exact⟨μ,h,ρ,.live n,h1,R,er,e1,λd3 H1 J E1 R1 j=>sD R1 (er.ext R E1) j e (k.ext E1)⟩
 .cases e
end
noncomputable def kQ(np k:Nat)(b:MS):List W->M W:=λws h=>if ws.length=np then (match b (ws.map À++Æ k Á) h with
 | some (.ret w,h')=>À (w,h')
 | some (.nx _,h')=>À (.non,h')
 | _=>Á) else Á
section
variable{P:Ï}{w:Ô}{K:Te}{mg:Ç->Option Ã}{base:Õ}{cl:Cl}
def sX{H:Hp}{N:List Ç}{ws:List W}{vs:List V}(rs:RWs K μ H ws vs)(hk:N.length-vs.length=k):ER K μ H (ws.map À++Æ k Á) (L2.start N vs):=by
 subst hk;unfold L2.start;refine⟨by simp[rs.length],λi w e=>?_⟩;by_cases hi:i<ws.length
 .rw[zY (by simpa using hi),kh] at e
  cases e1:ws[i]? with
  | none=>rw[e1] at e;cases e
  | some w'=>
   rw[e1] at e;cases e;obtain⟨v,e2,r⟩:=rs.get e1;exact⟨v,by rw[zY (by rw[zG,<-rs.length];exact hi),kh,e2];rfl,r⟩
 .rw[jf (by simpa using hi),qU] at e
  split at e<;>cases e
def Fz{x qual:Ç}{st:č}{f:È}{fd:ą}{N ps:List Ç}(F:Fun K x qual st f fd)(S:FnScope N ps (k8 st))(EA:ps.length=np)(Ap:N.length-np=ns)
  (hb:∀(r6:Ã) (A:Ù) (outer:List Env) (s:Å) (H:Hp) (E:XK),Room k (A.deeper (œ qual (k8 st) s.heap.objs.size f r6))->
   SB (il dO P w K mg base N qual (k8 st) f r6 A outer s H E).nox cl (vj st) b):FnOk P w K mg base dO (k+1) f fd ps (bv K cl (gc (kQ np ns b))):=by
 have len:∀vs H Q E,bv K cl (kQ np ns b) vs H Q E->vs.length=ps.length:=by
  rintro vs H Q E ⟨μ,h,ws,w,h',R,rs,e,k⟩;unfold kQ at e;split at e
  .rename_i hl
   rw[EA,<-hl,rs.length]
  .cases e
 refine FnOk.imp (sp:=bv K cl (kQ np ns b)) (F.ok S len λr6 A outer s H vs Q E hr Ew=>⟨_,hb r6 A outer s H E hr,?_⟩) λvs H Q E q=>FI (E:=E) q
 have gy:=len _ _ _ _ Ew;obtain⟨μ,h,ws,w,h',R,rs,e,k⟩:=Ew;unfold kQ at e;split at e
 .rename_i hl
  split at e
  .rename_i w1 h1 e1
   cases e;exact⟨μ,h,_,_,_,R,sX rs (by rw[gy,EA];exact Ap),e1,λd3 H1 E1 R1 v rv=>k d3 H1 v E1 R1 rv⟩
  .rename_i mN h1 e1
   cases e;exact⟨μ,h,_,_,_,R,sX rs (by rw[gy,EA];exact Ap),e1,λd3 H1 E1 R1 GM _=>k d3 H1 .non E1 R1 .non⟩
  .cases e
 .cases e
end
noncomputable def getL(h:MH):W->Option (List W)
 | .fls l=>À l
 | .ref n=>match h[n]? with
  | some (.lst l)=>À l
  | _=>Á
 | _=>Á
section
variable{K:Te}{cl:Cl}{μ:List È}{H:Hp}{h:MH}
def wc(R:HR K cl μ H h)(r:RW K μ H w v)(e:getL h w=À l):∃a vs,v=.ref a/\SqL K H a vs/\RWs K μ H l vs:=by
 cases r with
 | @fls a vs l' s rs=>cases e;exact⟨a,vs,rfl,s.sq,rs⟩
 | @ref n a hn=>
  erw[getL] at e;split at e
  .rename_i l' ho
   cases e;obtain⟨vs,hv,rs⟩:=R.ob n a _ hn ho;exact⟨a,vs,rfl,SqL.of hv,rs⟩
  .cases e
 | _=>cases e
theorem RW.int_of(r:RW K μ H (.int i) v):v=.int i:=by cases r;rfl
theorem RW.str_of(r:RW K μ H (.str i) v):v=.str i:=by cases r;rfl
def RW.tup_of(r:RW K μ H (.tup l) v):∃a vs,v=.ref a/\SqT K H a vs/\RWs K μ H l vs:=by cases r with | @tup a vs l s rs=>exact⟨a,vs,rfl,s,rs⟩
end
noncomputable def jI(x y:W):Option W:=match x,y with
 | .int i,.int j=>À (.int (i+j))
 | .str i,.str j=>if i.length+j.length<=cap then À (.str (i++j)) else Á
 | .tup l,.tup l'=>if l.length+l'.length<=cap then À (.tup (l++l')) else Á
 | _,_=>Á
noncomputable def addW(x y:W):M W:=λh=>match jI x y with
 | some w=>À (w,h)
 | none=>match getL h x,getL h y with
  | some l,À l'=>if l.length+l'.length<=cap then À (.fls (l++l'),h) else Á
  | _,_=>Á
noncomputable def Wg(x y:W):M W:=λh=>match getL h x,getL h y with
 | some l,À l'=>if l.length+l'.length<=cap then À (.ref h.length,h++[.lst (l++l')]) else Á
 | _,_=>Á
section
variable{prog:Ï}{w:Ô}{A:Ù}{E:Ã->Å->Prop}{s:Å}
def Ww{vs ws:List Ã}(ht:s.heap.IsList t vs.toArray)(hb:s.heap.IsList b ws.toArray)
  (h2:Q (.ref s.heap.objs.size) { s with heap:=s.heap.push { cls:=.type "list",data:=.seq (vs++ws).toArray } })
  (hsz:vs.length+ws.length<=Ð):É (Í prog w) A (â .Add (.ref t) (.ref b)) Q E s:=by
 obtain⟨⟨cls,dd,data,sl⟩,ho,hc,n,hd⟩:=id ht;obtain⟨⟨Iy,Ei,data2,A5⟩,Ej,Hi,n2,hd2⟩:=id hb;simp only at hc hd Hi hd2;subst hc hd Hi hd2;have e:vs.toArray++ws.toArray=(vs++ws).toArray:=by simp
 refine ux ⟨_,ho,rfl⟩ ⟨_,Ej,rfl⟩ noFill_list_add seq_list_add PySem.F.slot_list_add PySem.F.entry_list_add (PySem.F.args_list_add_2 _ _)
  (list_addW t b vs.toArray ws.toArray n n2 dd Ei sl A5 (by rw[zP,zP];exact hsz)) ⟨ho,Ej,?_⟩
 rw[e];exact h2
def VR{ws:List Ã}(ht:Ţ s.heap t ([]:List Ã).toArray)(hb:Ţ s.heap b ws.toArray)(h1:Q (.ref b) s) :
  É (Í prog w) A (â .Add (.ref t) (.ref b)) Q E s:=by
 obtain⟨⟨cls,dd,data,sl⟩,ho,hc,n,hd⟩:=id ht;obtain⟨⟨Iy,Ei,data2,A5⟩,Ej,Hi,n2,hd2⟩:=id hb;simp only at hc hd Hi hd2;subst hc hd Hi hd2;exact ux ⟨_,ho,rfl⟩ ⟨_,Ej,rfl⟩ uA seq_tuple_add yr yd (wW _ _)
  (tuple_addW0 t b _ ws.toArray n n2 dd Ei sl A5 rfl) ⟨ho,Ej,h1⟩
end
section
variable{X:Cx}{cl:Cl}
def ZR{P:List W->MH->W->MH->Prop}{H:Hp}{l l':List W}(I:Inv X ag σ H s)(rx:RelV x v)(ry:RelV y u)
  (R:HR X.K cl μ H h) (ax:RW X.K μ H wx x) (ay:RW X.K μ H wy y) (e1:getL h wx=À l) (e2:getL h wy=À l') (hl:l.length+l'.length<=cap)
  (k:∀p xs,H p=Á->RWs X.K μ H (l++l') xs->Q (.ref p) (upd H p (.lst xs))):É (Í X.prog X.w) X.A (â .Add v u) (EP X ag σ Q) X.xe s:=by
 obtain⟨a,vs,rfl,sa,ra⟩:=wc R ax e1;obtain⟨b,Hj,rfl,sb,rb⟩:=wc R ay e2;cases rx;cases ry;obtain⟨cb,r1,p1,_⟩:=I.list sa;obtain⟨Ar,r2,p2,_⟩:=I.list sb;have hz:vs.length+Hj.length<=Ð:=zp (by rw[<-ra.length,<-rb.length];exact hl) ya;refine Ww p1.isList p2.isList ?_ (by rw[<-r1.length,<-r2.length];exact hz);exact⟨.ref _,_,I.lnew (t':=s.toks) (r1.append r2) (by rw[zR];exact hz),rfl,k _ _ I.fresh (ra.append rb)⟩
def XX:kT X (â .Add) (rM X.K cl addW):=by
 rintro ag s σ H x y v u Q I rx ry ⟨μ,h,wx,wy,w,h',R,ax,ay,e,k⟩;unfold addW at e;split at e
 .rename_i w' e'
  cases e;unfold jI at e';split at e'
  .rename_i i j
   cases e';exact Bq ag s σ H x y v u Q I rx ry ⟨i,j,ax.int_of,ay.int_of,k.pure R (.int _)⟩
  .rename_i i j
   split at e'
   .rename_i hl
    cases e';exact Ku ag s σ H x y v u Q I rx ry ⟨i,j,ax.str_of,ay.str_of,zp hl ya,k.pure R (.str _)⟩
   .cases e'
  .rename_i l l'
   split at e'
   .rename_i hl
    cases e';obtain⟨a,vs,rfl,sa,ra⟩:=ax.tup_of;obtain⟨b,Hj,rfl,sb,rb⟩:=ay.tup_of;by_cases hv:vs=[]
    .subst hv
     cases ra;cases rx;cases ry;obtain⟨cb,r1,p1,_⟩:=I.tuple sa;obtain⟨Ar,r2,p2,_⟩:=I.tuple sb;cases r1;exact VR p1 p2 ⟨.ref b,H,I,rfl,k.pure R (.tup sb rb)⟩
    .refine Xx ag s σ H _ _ v u Q I rx ry ⟨a,b,vs,Hj,rfl,rfl,sa,sb,hv,zp (by rw[<-ra.length,<-rb.length];exact hl) ya,λz=>?_,λ_ p hp=>k.tup R (ra.append rb) hp⟩
     subst z;cases rb;rw[vQ] at k;exact k.pure R (.tup sa ra)
   .cases e'
  .cases e'
 .split at e
  .rename_i l l' e1 e2
   split at e
   .rename_i hl
    cases e;exact ZR (P:=λ_ _ _ _=>True) I rx ry R ax ay e1 e2 hl λp xs hp rs=>k.fls R rs hp
   .cases e
  .cases e
def XN:kT X (â .Add) (rM X.K cl Wg):=by
 rintro ag s σ H x y v u Q I rx ry ⟨μ,h,wx,wy,w,h',R,ax,ay,e,k⟩;unfold Wg at e;split at e
 .rename_i l l' e1 e2
  split at e
  .rename_i hl
   cases e;exact ZR (P:=λ_ _ _ _=>True) I rx ry R ax ay e1 e2 hl λp xs hp rs=>k.lst R rs hp
  .cases e
 .cases e
end
noncomputable def yn(x y:W):M W:=λh=>match x,y with
 | .int i,.int j=>À (.int (i-j),h)
 | _,_=>Á
noncomputable def small(i:Int):Bool:=decide (-(2 ^ 64)<i/\i<2 ^ 64)
noncomputable def kx(x y:W):M W:=λh=>match x,y with
 | .int i,.int j=>if (small i||small j)=Â then À (.int (i*j),h) else Á
 | .tup l,.int j=>if 0<=j/\j<=1000/\l.length<=1000 then À (.tup (Æ j.toNat l).flatten,h) else Á
 | .fls l,.int j=>if 0<=j/\j<=1000/\l.length<=1000 then À (.fls (Æ j.toNat l).flatten,h) else Á
 | _,_=>Á
noncomputable def yT(x y:W):M W:=λh=>match x,y with
 | .int i,.int j=>if 0<j then À (.int (i%j),h) else Á
 | _,_=>Á
noncomputable def aI(x y:W):M W:=λh=>match x,y with
 | .int i,.int j=>if 0<j/\j<1073741824 then À (.int (i/j),h) else Á
 | _,_=>Á
noncomputable def Wj(x y:W):M W:=λh=>match x,y with
 | .int i,.int j=>if 0<=j/\j<=100/\i.natAbs<1000 then À (.int (i ^ j.toNat),h) else Á
 | _,_=>Á
noncomputable def vv(p:Int->Int->Bool)(x y:W):M W:=λh=>match x,y with
 | .int i,.int j=>À (.bl (p i j),h)
 | _,_=>Á
noncomputable def nQ(x:W):M W:=λh=>match x with
 | .int i=>À (.int (-i),h)
 | _=>Á
noncomputable def ui(b:Bool)(x y:W):M W:=λh=>match x,y with
 | .non,.non=>À (.bl b,h)
 | .tup _,.non=>À (.bl (!b),h)
 | .fls _,.non=>À (.bl (!b),h)
 | .int _,.non=>À (.bl (!b),h)
 | .str _,.non=>À (.bl (!b),h)
 | .bl _,.non=>À (.bl (!b),h)
 | .ref _,.non=>À (.bl (!b),h)
 | _,_=>Á
section
variable{X:Cx}{cl:Cl}
def Uo:kT X (â .Sub) (rM X.K cl yn):=by
 rintro ag s σ H x y v u Q I rx ry ⟨μ,h,wx,wy,w,h',R,ax,ay,e,k⟩;unfold yn at e;split at e
 .cases e;exact Du ag s σ H x y v u Q I rx ry ⟨_,_,ax.int_of,ay.int_of,k.pure R (.int _)⟩
 .cases e
def UT:kT X (â .Mod) (rM X.K cl yT):=by
 rintro ag s σ H x y v u Q I rx ry ⟨μ,h,wx,wy,w,h',R,ax,ay,e,k⟩;unfold yT at e;split at e
 .split at e
  .rename_i hj;cases e;exact C9 ag s σ H x y v u Q I rx ry ⟨_,_,ax.int_of,ay.int_of,hj,k.pure R (.int _)⟩
  .cases e
 .cases e
def XR:kT X (â .FloorDiv) (rM X.K cl aI):=by
 rintro ag s σ H x y v u Q I rx ry ⟨μ,h,wx,wy,w,h',R,ax,ay,e,k⟩;unfold aI at e;split at e
 .split at e
  .rename_i hj;cases e;exact Xj ag s σ H x y v u Q I rx ry ⟨_,_,ax.int_of,ay.int_of,hj,k.pure R (.int _)⟩
  .cases e
 .cases e
def X3:kT X (â .Pow) (rM X.K cl Wj):=by
 rintro ag s σ H x y v u Q I rx ry ⟨μ,h,wx,wy,w,h',R,ax,ay,e,k⟩;unfold Wj at e;split at e
 .split at e
  .rename_i hj;cases e;exact CI ag s σ H x y v u Q I rx ry ⟨_,_,ax.int_of,ay.int_of,⟨hj.1,by omega,zN hj.2.2 (by decide)⟩,k.pure R (.int _)⟩
  .cases e
 .cases e
def iI(ho:kT X (Ò op) (mJ λi j=>.bl (p i j))):kT X (Ò op) (rM X.K cl (vv p)):=by
 rintro ag s σ H x y v u Q I rx ry ⟨μ,h,wx,wy,w,h',R,ax,ay,e,k⟩;unfold vv at e;split at e
 .cases e;exact ho ag s σ H x y v u Q I rx ry ⟨_,_,ax.int_of,ay.int_of,k.pure R (.bl _)⟩
 .cases e
def Bv:kT X (Ò .Lt) (rM X.K cl (vv λi j=>decide (i<j))):=iI FC
def Cc:kT X (Ò .LtE) (rM X.K cl (vv λi j=>decide (i<=j))):=iI DY
def CF:kT X (Ò .Gt) (rM X.K cl (vv λi j=>decide (j<i))):=iI Fc
def CP:kT X (Ò .GtE) (rM X.K cl (vv λi j=>decide (j<=i))):=iI D9
def X9:Ql X (unaryOp .USub) (rM1 X.K cl nQ):=by
 rintro ag s σ H x v Q I rx ⟨μ,h,wx,w,h',R,ax,e,k⟩;unfold nQ at e;split at e
 .cases e;exact Bt ag s σ H x v Q I rx ⟨_,ax.int_of,k.pure R (.int _)⟩
 .cases e
def X4:Vc X .Add (rM X.K cl (λx y=>match x,y with | .int i,.int j=>λh=>À (.int (i+j),h) | _,_=>λ_=>Á)):=by
 rintro ag s σ H x y v u Q I rx ry ⟨μ,h,wx,wy,w,h',R,ax,ay,e,k⟩;try dsimp only at e
 split at e
 .cases e;exact Ba ag s σ H x y v u Q I rx ry ⟨_,_,ax.int_of,ay.int_of,k.pure R (.int _)⟩
 .cases e
def mI{K:Te}{μ:List È}{H:Hp}{h h':MH}(ax:RW K μ H wx x)(ay:RW K μ H wy y)(e:ui b wx wy h=À (w,h')):h=h'/\y=.non/\w=.bl (if b then decide (x=.non) else !decide (x=.non)):=by
 unfold ui at e;split at e<;>first | (cases e;cases ax;cases ay;refine⟨rfl,rfl,?_⟩;cases b<;>simp) | cases e
def Bg:kT X (Ò .Is) (rM X.K cl (ui Â)):=by
 rintro ag s σ H x y v u Q I rx ry ⟨μ,h,wx,wy,w,h',R,ax,ay,e,k⟩;obtain⟨rfl,hy,rfl⟩:=mI ax ay e;exact Dj ag s σ H x y v u Q I rx ry ⟨hy,k.pure R (.bl _)⟩
def JB:kT X (Ò .IsNot) (rM X.K cl (ui Ä)):=by
 rintro ag s σ H x y v u Q I rx ry ⟨μ,h,wx,wy,w,h',R,ax,ay,e,k⟩;obtain⟨rfl,hy,rfl⟩:=mI ax ay e;exact UM ag s σ H x y v u Q I rx ry ⟨hy,k.pure R (.bl _)⟩
end
noncomputable def kK(ws:List W):M W:=λh=>match ws with
 | [.tup l]=>À (.int l.length,h)
 | [.str x]=>if x.length<=cap then À (.int x.length,h) else Á
 | [w]=>match getL h w with
  | some l=>À (.int l.length,h)
  | none=>Á
 | _=>Á
noncomputable def zC(x y:W):M W:=λh=>match x,y with
 | .tup l,.int i=>match atI l i with
  | some w=>À (w,h)
  | none=>Á
 | .str z,.int i=>if z.length<=cap then (match atI z.cps.toList i with
  | some c=>À (.str ⟨#[c]⟩,h)
  | none=>Á) else Á
 | x,.int i=>match getL h x with
  | some l=>match atI l i with
   | some w=>À (w,h)
   | none=>Á
  | none=>Á
 | _,_=>Á
noncomputable def cutW(l:List W)(lo hi:Option Int):List W:=(l.drop (HT.sIx l.length 0 lo)).take (HT.sIx l.length l.length hi-HT.sIx l.length 0 lo)
theorem RWs.atI{K:Te}{μ:List È}{H:Hp}{l:List W}(rs:RWs K μ H l vs)(e:L2.atI l i=À w):∃v,L2.atI vs i=À v/\RW K μ H w v:=by
 unfold L2.atI at e ⊢;rw[<-rs.length];cases q:y0 l.length i with
 | none=>rw[q] at e;cases e
 | some j=>
  rw[q] at e;exact rs.get e
theorem RWs.cutW{K:Te}{μ:List È}{H:Hp}(rs:RWs K μ H l vs)(lo hi:Option Int):RWs K μ H (cutW l lo hi) (dS vs lo hi):=by
 unfold ML.cutW dS;rw[<-rs.length];exact(rs.drop _).take _
section
variable{X:Cx}{cl:Cl}{a b:Î}{ma mb:ME}{pos:ĝ}
def Qx:qh X (.builtin "len") (rMs X.K cl kK):=by
 rintro ag s σ H xs us Q I rs ⟨μ,h,ws,w,h',R,ax,e,k⟩;unfold kK at e;split at e
 .rename_i l
  cases e;cases ax with | cons r t=>cases t with | nil=>
   obtain⟨a,vs,rfl,sa,ra⟩:=r.tup_of;exact gH ag s σ H _ us Q I rs ⟨a,vs,rfl,.inr sa,by rw[<-ra.length];exact k.pure R (.int _)⟩
 .rename_i z
  split at e
  .rename_i hl
   cases e;cases ax with | cons r t=>cases t with | nil=>
    cases r.str_of;exact rq ag s σ H _ us Q I rs ⟨z,rfl,zp hl ya,k.pure R (.int _)⟩
  .cases e
 .split at e
  .rename_i l el
   cases e;cases ax with | cons r t=>cases t with | nil=>
    obtain⟨a,vs,rfl,sa,ra⟩:=wc R r el;exact gH ag s σ H _ us Q I rs ⟨a,vs,rfl,.inl sa,by rw[<-ra.length];exact k.pure R (.int _)⟩
  .cases e
 .cases e
def GA:Z6 X (rM X.K cl zC):=by
 rintro value slice ag s σ H x y v u Q I rx ry ⟨μ,h,wx,wy,w,h',R,ax,ay,e,k⟩ hs;unfold zC at e;split at e
 .rename_i l i
  split at e
  .rename_i w' e'
   cases e;obtain⟨a,vs,rfl,sa,ra⟩:=ax.tup_of;obtain⟨v',ev,rv⟩:=ra.atI e';exact tZ value slice ag s σ H _ y v u Q I rx ry ⟨a,vs,i,v',rfl,ay.int_of,sa,ev,k.pure R rv⟩ hs
  .cases e
 .rename_i z i
  split at e
  .rename_i hl
   split at e
   .rename_i c e'
    cases e;exact Dt value slice ag s σ H _ y v u Q I rx ry ⟨z,i,c,ax.str_of,ay.int_of,zp hl ya,e',k.pure R (.str _)⟩ hs
   .cases e
  .cases e
 .rename_i i NE Hv
  split at e
  .rename_i l el
   split at e
   .rename_i w' e'
    cases e;obtain⟨a,vs,rfl,sa,ra⟩:=wc R ax el;obtain⟨v',ev,rv⟩:=ra.atI e';exact Ue value slice ag s σ H _ y v u Q I rx ry ⟨a,vs,i,v',rfl,ay.int_of,sa,ev,k.pure R rv⟩ hs
   .cases e
  .cases e
 .cases e
def Fw(ha:SE X cl a ma)(hb:SE X cl b mb)(hs:fu b:=by exactλ_ _=>rfl):SE X cl (.Subscript a b pos) (zh zC ma mb):=
 PE.wk (Y1 GA ha hb hs) λσ H Q q=>gu q
end
section
variable{prog:Ï}{w:Ô}{A:Ù}{E:Ã->Å->Prop}{s:Å}
open HT in
def gF{t sl:È}{items:Array Ã}{vl vu:Ã}{lo hi:Option Int}{Q:Ã->Å->Prop}(ht:Ţ s.heap t items)(hs:s.heap.IsSliceOf sl vl vu .none)(pl:ņ vl lo)(pu:ņ vu hi)
  (hw:sIx items.size 0 lo=0/\sIx items.size items.size hi=items.size) (h:Q (.ref t) s):É (Í prog w) A (Ŝ (.ref t) (.ref sl)) Q E s:=by
 obtain⟨os,Hu,AE,Iz⟩:=id hs;have LW:s.TypeIs (.ref sl) "slice":=⟨os,Hu,AE⟩;unfold Ŝ;try with_reducible refine jm ?_
 first | refine za (zf ?_) | skip
 refine za (wpAny_sequenceKey ht.typeIs (by decide) ?_)
 refine za (jy (name:=ù "__getitem__") ht.typeIs jG
  (jk jG ht.typeIs Ž ?_ (args_tuple_getitem _ _)))
 show É _ _ (ň (.ref t) >>= _) _ _ s
 refine za (xM ht ?_);refine za (qC LW ?_);rw[zQ (by decide)];refine za (dy hs pl pu ?_);have LX:((((sIx items.size 0 lo:Nat):Int)==0&&(1:Int)==1&&(sIx items.size items.size hi-sIx items.size 0 lo)==items.size)=Â):=by
  rw[hw.1,hw.2];simp
 show É _ _ (if (((sIx items.size 0 lo:Nat):Int)==0&&(1:Int)==1&&(sIx items.size items.size hi-sIx items.size 0 lo)==items.size)=Â then _ else _) _ _ s
 rw[zQ LX];unfold ŋ;refine za (za (qC ht.typeIs (zf ?_)));rw[zQ (by decide)];first
  | exact za (vq (zf ⟨_,rfl,zf h⟩))
  | exact za (vq (za (zf (zf ⟨_,rfl,zf h⟩))))
  | exact za (za (vq (zf ⟨_,rfl,zf h⟩)))
end
noncomputable def gz(x:W)(lo hi:Option Int):M W:=λh=>match x with
 | .tup l=>À (.tup (cutW l lo hi),h)
 | .str z=>if z.length<=cap then À (.str (Txt.slice z lo hi),h) else Á
 | x=>match getL h x with
  | some l=>À (.fls (cutW l lo hi),h)
  | none=>Á
noncomputable def bg(m:Option ME):En->M (Option Int):=λρ=>match m with
 | none=>λh=>À (Á,h)
 | some m=>bnd (m ρ) λw h=>match w with
  | .int i=>À (À i,h)
  | _=>Á
noncomputable def bX(a:ME)(lo hi:Option ME):ME:=λρ=>bnd (a ρ) λx=>bnd (bg lo ρ) λl=>bnd (bg hi ρ) λu=>gz x l u
section
variable{X:Cx}{cl:Cl}{a:Î}{ma:ME}{pos p2:ĝ}
inductive tMO(K:Te)(cl:Cl)(m:Option ME)(σ:L2.St)(H:Hp)(Q:Option Int->Hp->Prop):Prop
 | mk (μ:List È) (h:MH) (ρ:En) (o:Option Int) (h':MH) (p0:HR K cl μ H h) (p1:ER K μ H ρ σ) (p2:bg m ρ h=À (o,h')) (p3:∀d5 H',Ext μ H d5 H'->HR K cl d5 H' h'->Q o H'):tMO K cl m σ H Q
abbrev SO(X:Cx)(cl:Cl)(e:Option Î)(m:Option ME):Prop:=PO X e (tMO X.K cl m)
def PO.wk(h:PO X e t)(w:∀σ H Q,t' σ H Q->t σ H Q):PO X e t':=λag s σ H Q I q=>h ag s σ H Q I (w σ H Q q)
def Uu:SO X cl Á Á:=PO.wk XA λσ H Q q0=>by
 obtain⟨μ,h,ρ,o,h',R,er,e,k⟩:=q0;cases e;exact k μ H .refl R
def Xo(ha:SE X cl a ma):SO X cl (À a) (À ma):=PO.wk (XC ha) λσ H Q q0=>by
 obtain⟨μ,h,ρ,o,h',R,er,e,k⟩:=q0;obtain⟨x,h1,e1,e⟩:=kc e;split at e
 .rename_i i
  cases e;exact⟨μ,h,ρ,_,_,R,er,e1,λd3 H1 v E1 R1 r=>⟨i,r.int_of,k d3 H1 E1 R1⟩⟩
 .cases e
def Ub{ag:List (È×ó)}{s:Å}{σ:L2.St}{H:Hp}{a:È}{v vl vu:Ã}{lo hi:Option Int}{sl:È}{Q:VK}{xs:List V}(I:Inv X ag σ H s)(rx:RelV (.ref a) v)(hs:s.heap.IsSliceOf sl vl vu .none)(pl:ņ vl lo)(pu:ņ vu hi)
  (hx:SqT X.K H a xs) (q1:dS xs lo hi=xs->Q (.ref a) H) (q2:∀p,H p=Á->Q (.ref p) (upd H p (.tup (dS xs lo hi)))) :
  ∃T id,ŉ (.type T) "__getitem__" = pure (À (.builtin id))/\s.TypeIs v T/\É (Í X.prog X.w) X.A (Ŝ v (.ref sl)) (EP X ag σ Q) X.xe s:=by
 by_cases hw:HT.sIx xs.length 0 lo=0/\HT.sIx xs.length xs.length hi=xs.length
 .cases rx
  obtain⟨cb,r,ht,hz⟩:=I.tuple hx;have gy:cb.toArray.size=xs.length:=by rw[zP];exact r.length.symm
  refine⟨"tuple",_,jG.lookup,ht.typeIs,?_⟩;refine gF ht hs pl pu (by rw[gy];exact hw) ⟨.ref a,H,I,rfl,q1 ?_⟩;unfold dS;rw[hw.1,hw.2];simp
 .exact Cz ag s σ H _ v vl vu lo hi sl Q I rx hs pl pu ⟨a,xs,rfl,hx,hw,q2⟩
def DU{lo hi:Option Î}(ha:SE X cl a ma)(hl:SO X cl lo ml)(hh:SO X cl hi mh):SE X cl (.Subscript a (.Slice lo hi Á p2) pos) (bX ma ml mh):=by
 have hr:Qi X (λx lo hi H Q=>∃μ h wx w h',HR X.K cl μ H h/\RW X.K μ H wx x/\gz wx lo hi h=À (w,h')/\KQ X.K cl μ H h' w Q):=by
  rintro ag s σ H x v vl vu lo hi sl Q I rx hs pl pu ⟨μ,h,wx,w,h',R,ax,e,k⟩;unfold gz at e;split at e
  .rename_i l
   cases e;obtain⟨a,vs,rfl,sa,ra⟩:=ax.tup_of;refine Ub I rx hs pl pu sa (λz=>k.pure R (.tup sa ?_)) λp hp=>k.tup R (ra.cutW lo hi) hp
   have q:=ra.cutW lo hi;rw[z] at q;exact q
  .rename_i z
   split at e
   .rename_i hl
    cases e;cases ax.str_of;obtain⟨tk,rfl⟩:=rx;refine⟨"str",_,F.slot_str_getitem.lookup,typeIs_str _ _ _,?_⟩;obtain⟨l,el⟩:∃l:Option (Int×Tok),vl=partValue l/\lo=l.map (·.1):=by
     cases pl with
     | none=>exact⟨Á,rfl,rfl⟩
     | int i t=>exact⟨À (i,t),rfl,rfl⟩
    obtain⟨u,eu⟩:∃l:Option (Int×Tok),vu=partValue l/\hi=l.map (·.1):=by
     cases pu with
     | none=>exact⟨Á,rfl,rfl⟩
     | int i t=>exact⟨À (i,t),rfl,rfl⟩
    obtain⟨rfl,rfl⟩:=el;obtain⟨rfl,rfl⟩:=eu;exact wpAny_getItem_str_slice (l:=l) (u:=u) (st:=Á) hs rfl (post_val_or_str ⟨zp (Txt.slice_le z _ _) (zp hl ya),λt' k'=>⟨.str _,H,I.tok k',⟨t',rfl⟩,k.pure R (.str _)⟩⟩)
   .cases e
  .split at e
   .rename_i l el
    cases e;obtain⟨a,vs,rfl,sa,ra⟩:=wc R ax el;exact Z7 ag s σ H _ v vl vu lo hi sl Q I rx hs pl pu ⟨a,vs,rfl,sa,λp hp=>k.fls R (ra.cutW lo hi) hp⟩
   .cases e
 refine PE.wk (sT hr ha hl hh) ?_;rintro σ H Q ⟨μ,h,ρ,w,h',R,er,e,k⟩;obtain⟨x,h1,e1,e⟩:=kc e;obtain⟨l,h2,e2,e⟩:=kc e;obtain⟨u,h3,e3,e⟩:=kc e
 exact⟨μ,h,ρ,x,h1,R,er,e1,λd3 H1 vx E1 R1 rx=>⟨d3,h1,ρ,l,h2,R1,er.ext R E1,e2,λhX H2 E2 R2=>⟨hX,h2,ρ,u,h3,R2,(er.ext R E1).ext R1 E2,e3,λAN H3 E3 R3=>
  ⟨AN,h3,x,w,h',R3,(rx.ext R1 E2).ext R2 E3,e,k.ext (E1.trans (E2.trans E3))⟩⟩⟩⟩
end
def lG:fillsNumberSlot (.type "tuple") "mul" = pure Ä:=
 PySem.fillsNumberSlot_seq (id:="tuple.__mul__") (r:=À (.builtin "tuple.__rmul__")) wF.lookup ⋯ F.slot_tuple_rmul.lookup ⋯
theorem rP:seqRepeat? (.type "tuple")=pure (À (.builtin "tuple.__mul__")):=by
 unfold seqRepeat?;rw[PySem.seqSlot_of (T:="tuple") (name:="__mul__") (id:="tuple.__mul__") wF.lookup ⋯,PySem.seqSlot_of (T:="tuple") (name:="__rmul__") (id:="tuple.__rmul__") F.slot_tuple_rmul.lookup ⋯];rfl
def eY(a:Int)(t:Tok)(l:È)(items:Array Ã)(n:Nat)(dd:Option È)(sl:Array (Option Ã)) :
  Meets (é.«int.__rmul__» ⟨[.int a t,.ref l],[]⟩) (λ_ R s=>s.heap.get? l=À { cls:=.type "tuple",dict:=dd,data:=.seq items n,slots:=sl }/\R (.ok (.ret Value.notImplemented)) s):=
 .of_wp λprog w A R s h=>by obtain⟨hp,g,d,tk,os⟩:=s;obtain⟨hl,h⟩:=h;wp_walk;exact⟨_,rfl,h⟩
def K0(l:È)(items:Array Ã)(n:Nat)(dd:Option È)(sl:Array (Option Ã))(x:Int)(u:Tok)(hf:¬((decide (x < -2 ^ 63)||decide (x>=2 ^ 63))=Â))(hc:(items.isEmpty||x==1)=Â) :
  Meets (é.«tuple.__mul__» ⟨[.ref l,.int x u],[]⟩) (λ_ R s=>s.heap.get? l=À { cls:=.type "tuple",dict:=dd,data:=.seq items n,slots:=sl }/\R (.ok (.ret (.ref l))) s):=
 .of_wp λprog w A R s h=>by
  obtain⟨hp,g,d,tk,os⟩:=s;obtain⟨hl,h⟩:=h;have f1:=wG;have ht:Ţ ({ heap:=hp,gens:=g,drawn:=d,toks:=tk,os:=os }:Å).heap l items:=⟨_,hl,rfl,n,rfl⟩;wp_walk using Ĉ hl
  rw[zX hf];try dsimp only
  refine za (xM ht ?_);try dsimp only
  rw[zQ hc];unfold ŋ;refine za (za (qC ht.typeIs (zf ?_)));rw[zQ (by decide)];exact za (vq (zf ⟨_,rfl,h⟩))
def KP (l : È) (items : Array Ã) (n : Nat) (dd : Option È) (sl : Array (Option Ã)) (x : Int) (u : Tok) (hf : ¬ ((decide (x < -2 ^ 63) || decide (x >= 2 ^ 63)) = Â)) (hc : ¬ (items.isEmpty || x == 1) = Â) (h0 : ¬ (decide (x <= 0) || items.isEmpty) = Â)
   (h1 : ¬ (items.size * x > (2 ^ 63 - 1) / 8)) (h2 : ¬ Ō (items.size * x) = Â) (hz : sizeOk (Data.seq (Ŋ (λx1 x2 => x1 ++ x2) #[] (Æ x.toNat items)))) :
    Meets (é.«tuple.__mul__» ⟨[.ref l, .int x u], []⟩) (λ_ R s => s.heap.get? l = À { cls := .type "tuple", dict := dd, data := .seq items n, slots := sl } /\
      R (.ok (.ret (.ref s.heap.objs.size))) { s with heap := s.heap.push { cls := Č "tuple", data := Data.seq (Ŋ (λx1 x2 => x1 ++ x2) #[] (Æ x.toNat items)) } }) :=
  .of_wp λprog w A R s h => by
    obtain ⟨hp, g, d, tk, os⟩ := s;obtain ⟨hl, h⟩ := h;have f1 := wG;have ht : Ţ ({ heap := hp, gens := g, drawn := d, toks := tk, os := os } : Å).heap l items := ⟨_, hl, rfl, n, rfl⟩;wp_walk using Ĉ hl
    rw [zX hf];try dsimp only
    refine za (xM ht ?_);try dsimp only
    rw [zX hc, zX h0, zX h1, zX h2];refine za (m := í _) (jd (zf ⟨_, rfl, h⟩) hz)
def Jg(l:È)(items:Array Ã)(n:Nat)(dd:Option È)(sl:Array (Option Ã))(x:Int)(u:Tok)(hf:¬((decide (x < -2 ^ 63)||decide (x>=2 ^ 63))=Â))(hc:¬(items.isEmpty||x==1)=Â)(h0:(decide (x<=0)||items.isEmpty)=Â) :
  Meets (é.«tuple.__mul__» ⟨[.ref l,.int x u],[]⟩) (λ_ R s=>s.heap.get? l=À { cls:=.type "tuple",dict:=dd,data:=.seq items n,slots:=sl } /\
   R (.ok (.ret (.ref s.heap.objs.size))) { s with heap:=s.heap.push { cls:=Č "tuple",data:=Data.seq #[] } }):=
 .of_wp λprog w A R s h=>by
  obtain⟨hp,g,d,tk,os⟩:=s;obtain⟨hl,h⟩:=h;have f1:=wG;have ht:Ţ ({ heap:=hp,gens:=g,drawn:=d,toks:=tk,os:=os }:Å).heap l items:=⟨_,hl,rfl,n,rfl⟩;wp_walk using Ĉ hl
  rw[zX hf];try dsimp only
  refine za (xM ht ?_);try dsimp only
  rw[zX hc,zQ h0];refine za (m:=í _) (jd (zf ⟨_,rfl,h⟩) (by show 0<=Ð;decide))
section
variable{X:Cx}{cl:Cl}
def UW{H:Hp}{k:Int}{xs:List V}(I:Inv X ag σ H s)(rx:RelV (.ref a) v)(ry:RelV (.int k) u)(hx:SqT X.K H a xs)(h1:0<=k)(h2:k<=1000)(hz:xs.length<=1000)
  (q1:(Æ k.toNat xs).flatten=xs->Q (.ref a) H) (q2:∀p,H p=Á->Q (.ref p) (upd H p (.tup (Æ k.toNat xs).flatten))):É (Í X.prog X.w) X.A (â .Mult v u) (EP X ag σ Q) X.xe s:=by
 cases rx;obtain⟨t,rfl⟩:=ry;obtain⟨cb,r,ht,_⟩:=I.tuple hx;have gy:=r.length;obtain⟨⟨cls,dd,data,sl⟩,e,hc,n,hd⟩:=id ht;simp only at hc hd;subst hc hd;have NF:(Ð:Nat)=16777216:=jA;have AG:Ŋ (λx1 x2=>x1++x2) #[] (Æ k.toNat cb.toArray)=(Æ k.toNat cb).flatten.toArray:=by
  have:=foldl_rep cb k.toNat [];rw[jb] at this;exact this
 have Ma:k.toNat*cb.length<=1000*1000:=Nat.mul_le_mul ∅ ∅;have hf:¬((decide (k < -2 ^ 63)||decide (k>=2 ^ 63))=Â):=by
  erw[Bool.or_eq_true,vW];omega
 have road:∀{R:Ã->Å->Prop},É (Í X.prog X.w) X.A (ŀ (.builtin "tuple.__mul__") [.ref a,.int k t]) R X.xe s->É (Í X.prog X.w) X.A (â .Mult (.ref a) (.int k t)) R X.xe s:=λEC=>
  u5 (T:="tuple") (U:="int") (by decide) ⟨_,e,rfl⟩ (λs'=>ur s' k t) lG F.fills_int_mul xf rP F.slot_int_index.lookup
   (wg xf (ur s k t) F.entry_int_rmul (F.args_int_rmul_2 _ _) (eY k t a cb.toArray n dd sl) ⟨e,rfl,⟨_,e,rfl⟩,EC⟩)
 refine road ?_;by_cases c1:(cb.toArray.isEmpty||k==1)=Â
 .refine wg wF ⟨_,e,rfl⟩ uw (ug _ _) (K0 a cb.toArray n dd sl k t hf c1) ⟨e,.ref a,H,I,rfl,q1 ?_⟩
  rcases pA.mp c1 with c | c
  .have:cb=[]:=by simpa using c
   subst this;cases r;simp
  .have:k=1:=by simpa using c
   subst this;simp
 .by_cases c2:(decide (k<=0)||cb.toArray.isEmpty)=Â
  .refine wg wF ⟨_,e,rfl⟩ uw (ug _ _) (Jg a cb.toArray n dd sl k t hf c1 c2) ⟨e,?_⟩
   have hk:k=0:=by
    have ne:cb.toArray.isEmpty=Ä:=by
     cases z:cb.toArray.isEmpty with
     | false=>rfl
     | true=>exact absurd (by rw[z];rfl) c1
    rw[ne,uH] at c2;have:=jU c2;omega
   subst hk;exact⟨.ref _,_,I.laid (t':=s.toks) (o:=.tup (Æ (0:Int).toNat xs).flatten) (λb ob q=>zc _ q) (zy _) ⟨by simp,[],by simpa using Paired.nil,IsTup.new _ _,.new _ _⟩,rfl,q2 _ I.fresh⟩
  .refine wg wF ⟨_,e,rfl⟩ uw (ug _ _) (KP a cb.toArray n dd sl k t hf c1 c2 ?_ ?_ ?_) ⟨e,?_⟩
   .rw[zP]
    have:(cb.length:Int)*k<=1000*1000:=by
     have:(cb.length:Int)*k=((k.toNat*cb.length:Nat):Int):=by
      rw[xO];push_cast;rw[ph h1]
     omega
    omega
   .rw[zP]
    unfold Ō;have:(cb.length:Int)*k<=1000*1000:=by
     have:(cb.length:Int)*k=((k.toNat*cb.length:Nat):Int):=by
      rw[xO];push_cast;rw[ph h1]
     omega
    erw[vW];omega
   .rw[AG]
    show((Æ k.toNat cb).flatten.toArray).size<=Ð
    rw[zP,len_rep];omega
   .rw[AG]
    exact⟨.ref _,_,I.laid (t':=s.toks) (o:=.tup (Æ k.toNat xs).flatten) (λb ob q=>zc _ q) (zy _) ⟨by rw[len_rep,gy];omega,_,r.rep k.toNat,IsTup.new _ _,.new _ _⟩,rfl,q2 _ I.fresh⟩
def Um{H:Hp}{k:Int}{xs:List V}(I:Inv X ag σ H s)(rx:RelV (.ref a) v)(ry:RelV (.int k) u)(hx:SqL X.K H a xs)(h1:0<=k)(h2:k<=1000)(hz:xs.length<=1000)
  (q2:∀p,H p=Á->Q (.ref p) (upd H p (.lst (Æ k.toNat xs).flatten))):É (Í X.prog X.w) X.A (â .Mult v u) (EP X ag σ Q) X.xe s:=by
 cases rx;obtain⟨t,rfl⟩:=ry;obtain⟨cb,r,⟨o,n,e,hc,hd,NG⟩,_⟩:=I.list hx;obtain⟨cls,dd,data,sl⟩:=o;simp only at hc hd NG;subst hc NG;have gy:=r.length;have NF:(Ð:Nat)=16777216:=jA;have Ma:cb.length*k.toNat<=1000*1000:=Nat.mul_le_mul ∅ ∅;have Mc:¬(!ō k)=Â:=by simp[ō];omega
 have ED:¬cb.toArray.size*k.toNat>(2 ^ 63-1)/8:=by rw[zP];omega
 have EE:¬î (cb.toArray.size*k.toNat)=Â:=by rw[zP];simp[î,Ð];omega
 have AG:Ŋ (λx1 x2=>x1++x2) #[] (Æ (if cb.toArray.isEmpty=Â then 0 else k.toNat) cb.toArray)=(Æ k.toNat cb).flatten.toArray:=by
  have f0:∀m:Nat,Ŋ (λx1 x2=>x1++x2) #[] (Æ m cb.toArray)=(Æ m cb).flatten.toArray:=λm=>by
   have z:=foldl_rep cb m [];rw[jb] at z;exact z
  rw[f0];cases cb with
  | nil=>simp
  | cons c r'=>rw[zX (by simp)]
 refine u5 (T:="list") (U:="int") (by decide) ⟨_,e,rfl⟩ (λs'=>ur s' k t) noFill_list_mul F.fills_int_mul xf repeat_list F.slot_int_index.lookup (wg xf (ur s k t) F.entry_int_rmul (F.args_int_rmul_2 _ _) (lm_int_rmul_list_any k t a cb.toArray n dd sl) ⟨e,rfl,⟨_,e,rfl⟩,wg F.slot_list_mul ⟨_,e,rfl⟩ F.entry_list_mul (F.args_list_mul_2 _ _) (lm_list_mul_any a cb.toArray n dd sl k t Mc ED EE) ⟨e,?_⟩⟩);rw[AG];exact⟨.ref _,_,I.lnew (t':=s.toks) (r.rep k.toNat) (by rw[len_rep,gy,xO];omega),rfl,q2 _ I.fresh⟩
def Xp:kT X (â .Mult) (rM X.K cl kx):=by
 rintro ag s σ H x y v u Q I rx ry ⟨μ,h,wx,wy,w,h',R,ax,ay,e,k⟩;unfold kx at e;split at e
 .rename_i i j
  split at e
  .rename_i hj
   cases e;refine BK ag s σ H x y v u Q I rx ry ⟨_,_,ax.int_of,ay.int_of,?_,k.pure R (.int _)⟩;unfold small at hj;rw[Bool.or_eq_true,vW,vW] at hj;exact hj
  .cases e
 .rename_i l j
  split at e
  .rename_i hj
   cases e;obtain⟨a,vs,rfl,sa,ra⟩:=ax.tup_of;cases ay.int_of;refine UW I rx ry sa hj.1 hj.2.1 (by rw[<-ra.length];exact hj.2.2) (λz=>k.pure R (.tup sa ?_)) λp hp=>k.tup R (ra.rep _) hp
   have q:=ra.rep j.toNat;rw[z] at q;exact q
  .cases e
 .rename_i l j
  split at e
  .rename_i hj
   cases e;obtain⟨a,vs,rfl,sa,ra⟩:=wc R ax (show getL _ (.fls l)=À l from rfl);cases ay.int_of;exact Um I rx ry sa hj.1 hj.2.1 (by rw[<-ra.length];exact hj.2.2) λp hp=>k.fls R (ra.rep _) hp
  .cases e
 .cases e
end
noncomputable def qq{α β:Type}(f:α->Option β):List α->Option (List β)
 | []=>À []
 | x::r=>match f x,qq f r with
  | some y,À ys=>À (y::ys)
  | _,_=>Á
noncomputable def kP:Nat->MH->W->Option PyData
 | 0,_,_=>Á
 | _+1,_,.non=>À .none
 | _+1,_,.bl b=>À (.bool b)
 | _+1,_,.int i=>À (.int i)
 | _+1,_,.str x=>if ú x then À (.str x) else Á
 | n+1,h,.tup l=>(qq (kP n h) l).map .tuple
 | n+1,h,.fls l=>(qq (kP n h) l).map .list
 | n+1,h,.ref k=>match h[k]? with
  | some (.lst l)=>(qq (kP n h) l).map .list
  | _=>Á
 | _+1,_,.fdc _=>Á
 | _+1,_,.fn _=>Á
section
variable{X:Cx}{cl:Cl}{ag:List (È×ó)}{σ:L2.St}{μ:List È}{H:Hp}{s:Å}{h:MH}
def xt(I:Inv X ag σ H s)(R:HR X.K cl μ H h):∀(n:Nat) {w:W} {x:V} {v:Ã} {d:PyData},RW X.K μ H w x->RelV x v->kP n h w=À d->(∃as,Reads s.heap v d as)/\d.canLay0=Â/\d.depth<=n:=by
 intro n;induction n with
 | zero=>intro w x v d _ _ e;cases e
 | succ n ih=>
  have all:∀{l:List W} {vs:List V} {us:List Ã} {ds:List PyData},RWs X.K μ H l vs->Vals vs us->qq (kP n h) l=À ds->(∃as,ReadsAll s.heap us ds as)/\ý ds=Â/\Ħ ds<=n:=by
   intro l;induction l with
   | nil=>intro vs us ds r t e;cases r;cases t;cases e;exact⟨⟨_,.nil⟩,by unfold ý;rfl,by unfold Ħ;omega⟩
   | cons w l ihl=>
    intro vs us ds r t e;cases r with | cons r rs=>cases t with | cons t ts=>
    unfold qq at e;split at e
    .rename_i y ys e1 e2
     cases e;obtain⟨⟨as,h1⟩,h2,h3⟩:=ih r t e1;obtain⟨⟨bs,g1⟩,g2,g3⟩:=ihl rs ts e2;refine⟨⟨_,.cons h1 g1⟩,by unfold ý;rw[h2,g2];rfl,?_⟩;unfold Ħ;omega
    .cases e
  have lists:∀{l:List W} {a:È} {vs:List V} {d:PyData},SqL X.K H a vs->RWs X.K μ H l vs->(qq (kP n h) l).map PyData.list=À d->(∃as,Reads s.heap (.ref a) d as)/\d.canLay0=Â/\d.depth<=n+1:=by
   intro l a vs d sq rs e;cases e1:qq (kP n h) l with
   | none=>rw[e1] at e;cases e
   | some ds=>
    rw[e1] at e;cases e;obtain⟨cb,rv,⟨o,m,h1,h2,h3,h4⟩,_⟩:=I.list sq;obtain⟨⟨as,g1⟩,g2,g3⟩:=all rs rv e1;exact⟨⟨_,.list h1 h2 h4 (by simpa using g1)⟩,by unfold ď;exact g2,by unfold Į;omega⟩
  intro w x v d r t e;cases r with
  | non=>cases e;cases t;exact⟨⟨_,.none⟩,by unfold ď;rfl,by unfold Į;omega⟩
  | bl b=>cases e;cases t;exact⟨⟨_,.bool b⟩,by unfold ď;rfl,by unfold Į;omega⟩
  | int i=>cases e;obtain⟨tk,rfl⟩:=t;exact⟨⟨_,.int i tk⟩,by unfold ď;rfl,by unfold Į;omega⟩
  | str z=>
   erw[kP] at e;split at e
   .rename_i ok
    cases e;obtain⟨tk,rfl⟩:=t;exact⟨⟨_,.str z tk⟩,by unfold ď;exact ok,by unfold Į;omega⟩
   .cases e
  | @tup a vs l sq rs=>
   erw[kP] at e;cases t;cases e1:qq (kP n h) l with
   | none=>rw[e1] at e;cases e
   | some ds=>
    rw[e1] at e;cases e;obtain⟨cb,rv,⟨o,h1,h2,m,h4⟩,_⟩:=I.tuple sq;obtain⟨⟨as,g1⟩,g2,g3⟩:=all rs rv e1;exact⟨⟨_,.tuple h1 h2 h4 (by simpa using g1)⟩,by unfold ď;exact g2,by unfold Į;omega⟩
  | @fls a vs l sq rs=>cases t;erw[kP] at e;exact lists sq.sq rs e
  | fdc=>cases e
  | fn=>cases e
  | @ref k a hk=>
   cases t;erw[kP] at e;split at e
   .rename_i l ho
    obtain⟨vs,hv,rs⟩:=R.ob k a _ hk ho;exact lists (SqL.of hv) rs e
   .cases e
end
section
variable{X:Cx}{cl:Cl}{ag:List (È×ó)}{σ:L2.St}{μ:List È}{H:Hp}{s:Å}{h:MH}
def Zh(I:Inv X ag σ H s)(R:HR X.K cl μ H h)(n:Nat):∀{l:List W} {vs:List V} {us:List Ã} {ds:List PyData},RWs X.K μ H l vs->Vals vs us->qq (kP n h) l=À ds->(∃as,ReadsAll s.heap us ds as)/\ý ds=Â:=by
 intro l;induction l with
 | nil=>intro vs us ds r t e;cases r;cases t;cases e;exact⟨⟨_,.nil⟩,by unfold ý;rfl⟩
 | cons w l ihl=>
  intro vs us ds r t e;cases r with | cons r rs=>cases t with | cons t ts=>
  unfold qq at e;split at e
  .rename_i y ys e1 e2
   cases e;obtain⟨⟨as,h1⟩,h2,h3⟩:=xt I R n r t e1;obtain⟨⟨bs,g1⟩,g2⟩:=ihl rs ts e2;exact⟨⟨_,.cons h1 g1⟩,by unfold ý;rw[h2,g2];rfl⟩
  .cases e
end
noncomputable def deep:Nat:=60
noncomputable def oQ(x y:W):Option Bool:=match x,y with
 | .str a,.str b=>À (a==b)
 | .int a,.int b=>À (a==b)
 | .bl a,.bl b=>À (a==b)
 | _,_=>Á
noncomputable def eqB(h:MH)(x y:W):Option Bool:=match oQ x y with
 | some b=>À b
 | none=>match kP deep h x,kP deep h y with
  | some d,À e=>À (ò d e)
  | _,_=>Á
noncomputable def jp(neg:Bool)(x y:W):M W:=λh=>match eqB h x y with
 | some b=>À (.bl (if neg then !b else b),h)
 | none=>Á
noncomputable def qS(h:MH):W->Option (List W)
 | .tup l=>À l
 | w=>getL h w
noncomputable def Fg(j i:Ç):Bool:=!(Ĩ j i 0 j.length 1).isEmpty
noncomputable def inB(h:MH)(x y:W):Option Bool:=match x,y with
 | .str i,.str j=>À (Fg j i)
 | x,y=>match qS h y with
  | some l=>match kP deep h x,qq (kP deep h) l with
   | some d,À ds=>À (ds.any λe=>ò e d)
   | _,_=>Á
  | none=>Á
noncomputable def u7(neg:Bool)(x y:W):M W:=λh=>match inB h x y with
 | some b=>À (.bl (if neg then !b else b),h)
 | none=>Á
section
variable{X:Cx}{cl:Cl}
def Qf(hu:X.A.units+64<õ){H:Hp}(I:Inv X ag σ H s)(rx:RelV x v)(ry:RelV y u)
  (R:HR X.K cl μ H h) (ax:RW X.K μ H wx x) (ay:RW X.K μ H wy y) (e:eqB h wx wy=À b) :
  (Q (.bl b) H->É (Í X.prog X.w) X.A (Ò .Eq v u) (EP X ag σ Q) X.xe s)/\(Q (.bl (!b)) H->É (Í X.prog X.w) X.A (Ò .NotEq v u) (EP X ag σ Q) X.xe s):=by
 unfold eqB at e;split at e
 .rename_i b' e'
  cases e;unfold oQ at e';split at e'
  .rename_i i j
   cases e';cases ax.str_of;cases ay.str_of;exact⟨λq=>Jl ag s σ H _ _ v u Q I rx ry ⟨rfl,by rw[iL];exact q⟩,λq=>KA ag s σ H _ _ v u Q I rx ry ⟨rfl,by rw[iL];exact q⟩⟩
  .rename_i i j
   cases e';cases ax.int_of;cases ay.int_of;exact⟨λq=>Jl ag s σ H _ _ v u Q I rx ry ⟨rfl,by rw[iS];exact q⟩,λq=>KA ag s σ H _ _ v u Q I rx ry ⟨rfl,by rw[iS];exact q⟩⟩
  .rename_i i j
   cases e';cases ax.bl_of;cases ay.bl_of;exact⟨λq=>Jl ag s σ H _ _ v u Q I rx ry ⟨rfl,by rw[lZ];exact q⟩,λq=>KA ag s σ H _ _ v u Q I rx ry ⟨rfl,by rw[lZ];exact q⟩⟩
  .cases e'
 .split at e
  .rename_i d d' e1 e2
   cases e;obtain⟨⟨as,r1⟩,c1,d1⟩:=xt I R deep ax rx e1;obtain⟨⟨bs,r2⟩,c2,d2⟩:=xt I R deep ay ry e2;have hr:X.A.units+min d.depth d'.depth<õ:=by
    have:min d.depth d'.depth<=d.depth:=Nat.min_le_left _ _;unfold deep at d1;omega
   exact⟨λq=>SeqAt.compareEq_reads r1 r2 c1 c2 hr ⟨.bl _,H,I,rfl,q⟩,λq=>SeqAt.compareNe_reads r1 r2 c1 c2 hr ⟨.bl _,H,I,rfl,q⟩⟩
  .cases e
def Cs(hu:X.A.units+64<õ):kT X (Ò .Eq) (rM X.K cl (jp Ä)):=by
 rintro ag s σ H x y v u Q I rx ry ⟨μ,h,wx,wy,w,h',R,ax,ay,e,k⟩;unfold jp at e;split at e
 .rename_i b eb
  cases e;exact(Qf hu I rx ry R ax ay eb).1 (k.pure R (.bl _))
 .cases e
def DG(hu:X.A.units+64<õ):kT X (Ò .NotEq) (rM X.K cl (jp Â)):=by
 rintro ag s σ H x y v u Q I rx ry ⟨μ,h,wx,wy,w,h',R,ax,ay,e,k⟩;unfold jp at e;split at e
 .rename_i b eb
  cases e;exact(Qf hu I rx ry R ax ay eb).2 (k.pure R (.bl _))
 .cases e
def xc{K:Te}{μ:List È}{H:Hp}{h:MH}(R:HR K cl μ H h)(r:RW K μ H w v)(e:qS h w=À l):∃a vs,v=.ref a/\(SqL K H a vs\/SqT K H a vs)/\RWs K μ H l vs:=by
 unfold qS at e;split at e
 .cases e
  obtain⟨a,vs,rfl,sa,ra⟩:=r.tup_of;exact⟨a,vs,rfl,.inr sa,ra⟩
 .obtain⟨a,vs,rfl,sa,ra⟩:=wc R r e
  exact⟨a,vs,rfl,.inl sa,ra⟩
def Vw(hu:X.A.units+64<õ){ag:List (È×ó)}{s:Å}{σ:L2.St}{H:Hp}{x y:V}{v u:Ã}(I:Inv X ag σ H s)(rx:RelV x v)(ry:RelV y u)
  (R:HR X.K cl μ H h) (ax:RW X.K μ H wx x) (ay:RW X.K μ H wy y) (e:inB h wx wy=À b) :
  (Q (.bl b) H->É (Í X.prog X.w) X.A (Ò .In v u) (EP X ag σ Q) X.xe s)/\(Q (.bl (!b)) H->É (Í X.prog X.w) X.A (Ò .NotIn v u) (EP X ag σ Q) X.xe s):=by
 unfold inB at e;split at e
 .rename_i i j
  cases e;exact⟨λq=>Qa ag s σ H x y v u Q I rx ry ⟨i,j,ax.str_of,ay.str_of,q⟩,λq=>tm ag s σ H x y v u Q I rx ry ⟨i,j,ax.str_of,ay.str_of,q⟩⟩
 .split at e
  .rename_i l el
   split at e
   .rename_i d ds e1 e2
    cases e;obtain⟨a,vs,rfl,sa,ra⟩:=xc R ay el;cases ry;obtain⟨⟨as,r1⟩,c1,d1⟩:=xt I R deep ax rx e1;have big:kP (deep+1) h (.tup l)=À (.tuple ds):=by erw[kP];rw[e2];rfl
    have Pg:kP (deep+1) h (.fls l)=À (.list ds):=by erw[kP];rw[e2];rfl
    have hr:X.A.units+1+min (Ħ ds) d.depth<õ:=by
     have:min (Ħ ds) d.depth<=d.depth:=Nat.min_le_right _ _;unfold deep at d1;omega
    rcases sa with sa | sa
    .obtain⟨cb,rv,⟨o,m,h1,h2,h3,h4⟩,_⟩:=I.list sa
     obtain⟨⟨SF,g1⟩,c2⟩:=Zh I R deep ra rv e2;have r2:Reads s.heap (.ref a) (.list ds) _:=.list h1 h2 h4 (by simpa using g1);exact⟨λq=>SeqAt.in_list_reads r2 r1 c2 c1 hr ⟨.bl _,H,I,rfl,q⟩,λq=>SeqAt.notIn_list_reads r2 r1 c2 c1 hr ⟨.bl _,H,I,rfl,q⟩⟩
    .obtain⟨⟨bs,r2⟩,c2,_⟩:=xt I R (deep+1) (.tup sa ra) rfl big
     have Hw:ý ds=Â:=by unfold ď at c2;exact c2
     exact⟨λq=>SeqAt.in_tuple_reads r2 r1 Hw c1 hr ⟨.bl _,H,I,rfl,q⟩,λq=>SeqAt.notIn_tuple_reads r2 r1 Hw c1 hr ⟨.bl _,H,I,rfl,q⟩⟩
   .cases e
  .cases e
def DC(hu:X.A.units+64<õ):kT X (Ò .In) (rM X.K cl (u7 Ä)):=by
 rintro ag s σ H x y v u Q I rx ry ⟨μ,h,wx,wy,w,h',R,ax,ay,e,k⟩;unfold u7 at e;split at e
 .rename_i b eb
  cases e;exact(Vw hu I rx ry R ax ay eb).1 (k.pure R (.bl _))
 .cases e
def QS(hu:X.A.units+64<õ):kT X (Ò .NotIn) (rM X.K cl (u7 Â)):=by
 rintro ag s σ H x y v u Q I rx ry ⟨μ,h,wx,wy,w,h',R,ax,ay,e,k⟩;unfold u7 at e;split at e
 .rename_i b eb
  cases e;exact(Vw hu I rx ry R ax ay eb).2 (k.pure R (.bl _))
 .cases e
end
inductive Ty where
 | int | str | bool | tuple | list | dict
 deriving DecidableEq
noncomputable def Ty.name:Ty->String
 | .int=>"int" | .str=>"str" | .bool=>"bool" | .tuple=>"tuple" | .list=>"list" | .dict=>"dict"
noncomputable def lg(h:MH):W->Option Ty
 | .bl _=>À .bool
 | .int _=>À .int
 | .str _=>À .str
 | .tup _=>À .tuple
 | .fls _=>À .list
 | .ref n=>match h[n]? with
  | some (.lst _)=>À .list
  | some (.dic _)=>À .dict
  | _=>Á
 | .fdc _=>À .dict
 | .fn _=>Á
 | .non=>Á
noncomputable def sS(T:Ty)(x:W)(h:MH):Option Bool:=match x with
 | .non=>À Ä
 | x=>match lg h x with
  | some t=>À (decide (t=T)||(decide (t=.bool)&&decide (T=.int)))
  | none=>Á
noncomputable def isW(T:Ty)(x:W):M W:=λh=>match sS T x h with
 | some b=>À (.bl b,h)
 | none=>Á
def Qm(K:Te):∀(t T:Ty),Ņ K (.type t.name) (.type T.name)=À (decide (t=T)||(decide (t=.bool)&&decide (T=.int))):=by
 intro t T;cases t<;>cases T<;>kernel_rfl
def V3(K:Te):∀(T:Ty),Ņ K (.type "NoneType") (.type T.name)=À Ä:=by
 intro T;cases T<;>kernel_rfl
section
variable{X:Cx}{cl:Cl}{a:Î}{ma:ME}{pos p p2:ĝ}
def QY(T:Ty):qh X (.builtin "isinstance") (λxs H Q=>∃x,xs=[x,.ty T.name]/\rM1 X.K cl (isW T) x H Q):=by
 rintro ag s σ H xs us Q I rs ⟨x,rfl,μ,h,wx,w,h',R,ax,e,k⟩;obtain⟨u,u2,rfl,ru,Hx⟩:=vals2 rs;obtain rfl:u2=.type T.name:=Hx;unfold isW at e;split at e
 .rename_i b eb
  cases e;have q:Q (.bl b) H:=k.pure R (.bl _);have fin:∀tk,EP X ag σ Q (.bool b) { s with toks:=tk }:=λtk=>⟨.bl b,H,I.tok tk,rfl,q⟩
  have go:∀{t:Ty},lg h wx=À t->Ņ X.K (.type t.name) (.type T.name)=À b:=λ{t} e1=>by
   rw[Qm];unfold sS at eb;split at eb
   .cases e1
   .rw[e1] at eb;exact eb
  cases ax with
  | non=>
   cases eb;cases ru;exact jq PySem.W.kitx_none I.kIn ø (V3 X.K T) (λz=>nomatch z) fin
  | bl y=>cases ru;exact jq PySem.W.kitx_bool I.kIn ø (go (t:=.bool) rfl) (λz=>nomatch z) fin
  | int i=>obtain⟨t,rfl⟩:=ru;exact jq PySem.W.kitx_int I.kIn ø (go (t:=.int) rfl) (λz=>nomatch z) fin
  | str y=>obtain⟨t,rfl⟩:=ru;exact jq PySem.W.kitx_str I.kIn ø (go (t:=.str) rfl) (λz=>nomatch z) fin
  | @tup a vs l sa ra=>
   cases ru;obtain⟨cb,_,⟨o,h1,h2,_⟩,_⟩:=I.tuple sa;exact jq pC I.kIn ⟨o,h1,h2⟩ (go (t:=.tuple) rfl) (λz=>nomatch z) fin
  | @fls a vs l sa ra=>
   cases ru;obtain⟨cb,_,⟨o,n,h1,h2,_⟩,_⟩:=I.list sa.sq;exact jq wV I.kIn ⟨o,h1,h2⟩ (go (t:=.list) rfl) (λz=>nomatch z) fin
  | @fdc a l l' ws vs sa kk e1 e2 ra=>
   cases ru;have g:=go (t:=.dict) rfl;obtain⟨_,_,Hj,_,dd⟩:=mH I.hok sa.1;obtain⟨o,es,ep,h1,h2,_⟩:=dd;exact jq xn I.kIn ⟨o,h1,h2.1⟩ g (λz=>nomatch z) fin
  | @fn a=>
   erw[sS,lg] at eb;cases eb
  | @ref n a hn=>
   cases ru;cases et:lg h (.ref n) with
   | none=>erw[sS,et] at eb;cases eb
   | some t=>
    have g:=go et;erw[lg] at et;split at et
    .rename_i l ho
     cases et;obtain⟨vs,hv,_⟩:=R.ob n a _ hn ho;obtain⟨cb,_,⟨o,n,h1,h2,_⟩,_⟩:=I.list (SqL.of hv);exact jq wV I.kIn ⟨o,h1,h2⟩ g (λz=>nomatch z) fin
    .rename_i l ho
     cases et;obtain⟨l',hv,_⟩:=R.ob n a _ hn ho;exact Qq (x:=.ref a) I rfl (.dK hv) g fin
    .cases et
 .cases e
def Ci(T:Ty)(ha:SE X cl a ma)(hi:X.mg "isinstance" = Á)(ht:X.mg y=Á)(hv:Ø y=À (.type T.name))(hg:↥(Gl X "isinstance"))(Hk:↥(Gl X y))
  (hn:⇑(y≠"__name__")) (AQ:⇑((y==("__debug__":Ç))=Ä))
  (Hy:↥(Ì [a,.Name y p2] X.env=(Ä,å a X.env)::Ì [.Name y p2] X.env)) (EF:↥(Ì [.Name y p2] X.env=(Ä,å (.Name y p2) X.env)::Ì [] X.env))
  (Ai:↥((á pos (Ì [.Name y p2] X.env)).any (·.1)=Ä)):SE X cl (.Call (.Name "isinstance" p) [a,.Name y p2] [] pos) (yk (isW T) ma):=
 PE.wk (rC (QY (cl:=cl) T) hg hi PyProof.Rows.boot_isinstance (nj ha (nj (XH Hk ht hv (show RelV (.ty T.name) (.type T.name) from rfl) hn AQ) JV EF) Hy) (by decide) (by decide) Hy Ai) λσ H Q q0=>by
  obtain⟨μ,h,ρ,w,h',R,er,e,k⟩:=q0;obtain⟨x,h1,e1,e⟩:=kc e;exact⟨μ,h,ρ,x,h1,R,er,e1,λd3 H1 vx E1 R1 rx=>⟨vx,rfl,d3,h1,x,w,h',R1,rx,e,k.ext E1⟩⟩
noncomputable def WC(ws:List W):M W:=λh=>match ws with
 | [.int i]=>À (.int i,h)
 | [.bl b]=>À (.int (if b then 1 else 0),h)
 | _=>Á
noncomputable def VO(ws:List W):M W:=λh=>match ws with
 | [.int i]=>if i.natAbs.log2<1920 then À (.str (toString i),h) else Á
 | _=>Á
noncomputable def bS(ws:List W):M W:=λh=>match ws with
 | [.tup l]=>À (.tup l,h)
 | [w]=>match getL h w with
  | some l=>À (.tup l,h)
  | none=>Á
 | _=>Á
noncomputable def Jd(ws:List W):M W:=λh=>match ws with
 | [w]=>match qS h w with
  | some l=>À (.fls l,h)
  | none=>Á
 | _=>Á
noncomputable def Kv(ws:List W):M W:=λh=>match ws with
 | [w]=>match qS h w with
  | some l=>À (.ref h.length,h++[.lst l])
  | none=>Á
 | _=>Á
def QW:qh X (.type "int") (rMs X.K cl WC):=by
 rintro ag s σ H xs us Q I rs ⟨μ,h,ws,w,h',R,ax,e,k⟩;unfold WC at e;split at e
 .cases e
  cases ax with | cons r t=>cases t with | nil=>
   cases r.int_of;exact og ag s σ H _ us Q I rs (.inl ⟨_,rfl,k.pure R (.int _)⟩)
 .cases e
  cases ax with | cons r t=>cases t with | nil=>
   cases r.bl_of;exact og ag s σ H _ us Q I rs (.inr ⟨_,rfl,k.pure R (.int _)⟩)
 .cases e
def JN:qh X (.type "str") (rMs X.K cl VO):=by
 rintro ag s σ H xs us Q I rs ⟨μ,h,ws,w,h',R,ax,e,k⟩;unfold VO at e;split at e
 .split at e
  .rename_i hl
   cases e;cases ax with | cons r t=>cases t with | nil=>
    cases r.int_of;exact tR ag s σ H _ us Q I rs ⟨_,rfl,hl,k.pure R (.str _)⟩
  .cases e
 .cases e
def Zi:qh X (.type "tuple") (rMs X.K cl bS):=by
 rintro ag s σ H xs us Q I rs ⟨μ,h,ws,w,h',R,ax,e,k⟩;unfold bS at e;split at e
 .rename_i l
  cases e;cases ax with | cons r t=>cases t with | nil=>
   obtain⟨a,vs,rfl,sa,ra⟩:=r.tup_of;exact gC ag s σ H _ us Q I rs ⟨a,vs,rfl,.inr ⟨sa,k.pure R (.tup sa ra)⟩⟩
 .split at e
  .rename_i l el
   cases e;cases ax with | cons r t=>cases t with | nil=>
    obtain⟨a,vs,rfl,sa,ra⟩:=wc R r el;exact gC ag s σ H _ us Q I rs ⟨a,vs,rfl,.inl ⟨sa,λp hp=>k.tup R ra hp⟩⟩
  .cases e
 .cases e
def K7:qh X (.type "list") (rMs X.K cl Jd):=by
 rintro ag s σ H xs us Q I rs ⟨μ,h,ws,w,h',R,ax,e,k⟩;unfold Jd at e;split at e
 .split at e
  .rename_i l el
   cases e;cases ax with | cons r t=>cases t with | nil=>
    obtain⟨a,vs,rfl,sa,ra⟩:=xc R r el;exact hV ag s σ H _ us Q I rs ⟨a,vs,rfl,sa,λp hp=>k.fls R ra hp⟩
  .cases e
 .cases e
def Jf:qh X (.type "list") (rMs X.K cl Kv):=by
 rintro ag s σ H xs us Q I rs ⟨μ,h,ws,w,h',R,ax,e,k⟩;unfold Kv at e;split at e
 .split at e
  .rename_i l el
   cases e;cases ax with | cons r t=>cases t with | nil=>
    obtain⟨a,vs,rfl,sa,ra⟩:=xc R r el;exact hV ag s σ H _ us Q I rs ⟨a,vs,rfl,sa,λp hp=>k.lst R ra hp⟩
  .cases e
 .cases e
end
noncomputable def yb(x:W)(ws:List W):M W:=λh=>match x,ws with
 | .ref n,[y]=>match h[n]? with
  | some (.lst l)=>if l.length<cap then À (.non,h.set n (.lst (l++[y]))) else Á
  | _=>Á
 | _,_=>Á
noncomputable def x8(x:W)(ws:List W):M W:=λh=>match x,ws with
 | .ref n,[y]=>match h[n]?,qS h y with
  | some (.lst l),À l'=>if l.length+l'.length<=cap then À (.non,h.set n (.lst (l++l'))) else Á
  | _,_=>Á
 | _,_=>Á
noncomputable def lR(x:W)(ws:List W):M W:=λh=>match x,ws with
 | .ref n,[]=>match h[n]? with
  | some (.lst l)=>match l[l.length-1]? with
   | some y=>À (y,h.set n (.lst l.dropLast))
   | none=>Á
  | _=>Á
 | _,_=>Á
noncomputable def qE(f:W->List W->M W)(o:ME)(ms:List ME):ME:=λρ=>bnd (o ρ) λx h=>if (getL h x).isSome=Â then bnd (xC ms ρ) (λws=>f x ws) h else Á
section
variable{X:Cx}{cl:Cl}{o e:Î}{es:List Î}{mo:ME}{ms:List ME}{apos cpos:ĝ}{f:W->List W->M W}
inductive rMm(K:Te)(cl:Cl)(f:W->List W->M W)(x:V)(xs:List V)(H:Hp)(Q:VK):Prop
 | mk (μ:List È) (h:MH) (wx:W) (ws:List W) (w:W) (h':MH) (p0:HR K cl μ H h) (p1:RW K μ H wx x) (p2:RWs K μ H ws xs) (p3:f wx ws h=À (w,h')) (p4:KQ K cl μ H h' w Q):rMm K cl f x xs H Q
def oZ{H:Hp}(q:tM X.K cl (qE f mo ms) σ H Q):FO X.K "list" (rMm X.K cl f) (tM X.K cl mo) (tMA X.K cl ms) σ H Q:=by
 obtain⟨μ,h,ρ,w,h',R,er,e,k⟩:=q;obtain⟨x,h1,e1,e⟩:=kc e;split at e
 .rename_i hl
  obtain⟨ws,h2,e2,e⟩:=kc e;refine⟨μ,h,ρ,x,h1,R,er,e1,λd3 H1 vx E1 R1 rx=>?_⟩;obtain⟨l,hl⟩:=vH.mp hl;obtain⟨a,vs,rfl,sa,ra⟩:=wc R1 rx hl;exact⟨.inl ⟨rfl,vs,sa⟩,d3,h1,ρ,ws,h2,R1,er.ext R E1,e2,λhX H2 xs E2 R2 rs=>⟨hX,h2,x,ws,w,h',R2,rx.ext R1 E2,rs,e,k.ext (E1.trans E2)⟩⟩
 .cases e
def KH{H:Hp}(q:tM X.K cl (qE f mo []) σ H Q):BM X.K "list" (rMm X.K cl f) (tM X.K cl mo) σ H Q:=by
 obtain⟨μ,h,ρ,w,h',R,er,e,k⟩:=q;obtain⟨x,h1,e1,e⟩:=kc e;split at e
 .rename_i hl
  obtain⟨ws,h2,e2,e⟩:=kc e;cases e2;refine⟨μ,h,ρ,x,h1,R,er,e1,λd3 H1 vx E1 R1 rx=>?_⟩;obtain⟨l,hl⟩:=vH.mp hl;obtain⟨a,vs,rfl,sa,ra⟩:=wc R1 rx hl;exact⟨.inl ⟨rfl,vs,sa⟩,d3,h1,x,[],w,h',R1,rx,.nil,e,k.ext E1⟩
 .cases e
theorem KQ.put{K:Te}{μ:List È}{H:Hp}{h:MH}{n:Nat}{a:È}(k:KQ K cl μ H (h.set n (.lst l)) w Q)(R:HR K cl μ H h)(hn:μ[n]?=À a)(rs:RWs K μ H l vs)(r:RW K μ H w v):Q v (upd H a (.lst vs)):=
 k μ _ v (.put hn) (R.put hn ⟨vs,qa,rs.ext R (.put hn)⟩) (r.ext R (.put hn))
def K6:Ve X "list.append" (rMm X.K cl yb):=by
 rintro ag s σ H x xs v us Q I rx rs ⟨μ,h,wx,ws,w,h',R,ax,as,e,k⟩;unfold yb at e;split at e
 .rename_i n y
  split at e
  .rename_i l ho
   split at e
   .rename_i hl
    cases e;cases ax with | @ref _ a hn=>
    cases as with | cons r t=>cases t with | nil=>
    obtain⟨vs,hv,rl⟩:=R.ob n a _ hn ho;exact oa ag s σ H _ _ v us Q I rx rs ⟨a,vs,_,rfl,rfl,hv,zN (by rw[<-rl.length];exact hl) ya,k.put R hn (rl.append (.cons r .nil)) .non⟩
   .cases e
  .cases e
 .cases e
def Ua:Ve X "list.pop" (rMm X.K cl lR):=by
 rintro ag s σ H x xs v us Q I rx rs ⟨μ,h,wx,ws,w,h',R,ax,as,e,k⟩;unfold lR at e;split at e
 .rename_i n
  split at e
  .rename_i l ho
   split at e
   .rename_i y hy
    cases e;cases ax with | @ref _ a hn=>
    cases as;obtain⟨vs,hv,rl⟩:=R.ob n a _ hn ho;obtain⟨v',ev,rv⟩:=rl.get hy;exact Bj ag s σ H _ _ v us Q I rx rs ⟨a,vs,v',rfl,rfl,hv,by rw[<-rl.length];exact ev,k.put R hn rl.dropLast rv⟩
   .cases e
  .cases e
 .cases e
def rf(T:String)(hT:T="list" \/ T="tuple")(l:È)(items:Array Ã)(n:Nat)(b:È)(Aq:Array Ã)(n2:Nat)(Ei:Option È)(A5:Array (Option Ã))(SH:¬(!items.isEmpty&&î (items.size+Aq.size))=Â)(Me:items.size<=Ð)(EF:items.size+Aq.size<=Ð+1) :
  Meets (é.«list.extend» ⟨[.ref l,.ref b],[]⟩) (λ_ R s=>s.heap.get? l=À { cls:=.type "list",dict:=Á,data:=.seq items n,slots:=#[] }/\s.heap.get? b=À { cls:=.type T,dict:=Ei,data:=.seq Aq n2,slots:=A5 }/\R (.ok (.ret Ö)) { s with heap:=s.heap.update l (Þ λx=>x++Aq),toks:=s.toks }):=by
 rcases hT with rfl | rfl
 .exact .of_wp λprog w A R s h=>by
   obtain⟨hp,g,d,tk,os⟩:=s;obtain⟨hl,hb,h⟩:=h;have f1:=wG;have f2:=pG;have f3:=AutoSeq1.sub_list_list;have f4:=AutoSeq1.sub_tuple_list;have f5:=AutoSeq1.sub_list_tuple;have Mf:(items++Aq).size<=Ð+1:=by rw[Array.size_append];exact EF
   wp_walk using (vY hl rfl (hz:=Me) (_hz':=Mf)),Ĉ hl,Ĉ hb;exact⟨_,rfl,h⟩
 .exact .of_wp λprog w A R s h=>by
   obtain⟨hp,g,d,tk,os⟩:=s;obtain⟨hl,hb,h⟩:=h;have f1:=wG;have f2:=pG;have f3:=AutoSeq1.sub_list_list;have f4:=AutoSeq1.sub_tuple_list;have f5:=AutoSeq1.sub_list_tuple;have Mf:(items++Aq).size<=Ð+1:=by rw[Array.size_append];exact EF
   wp_walk using (vY hl rfl (hz:=Me) (_hz':=Mf)),Ĉ hl,Ĉ hb;exact⟨_,rfl,h⟩
def Ji{H:Hp}{xs zs:List V}(I:Inv X ag σ H s)(rx:RelV (.ref l) v)(ru:RelV (.ref b) u)(hH:H l=À (.lst xs))(hB:SqL X.K H b zs\/SqT X.K H b zs)(hz:xs.length+zs.length<=Ð)
  (q:Q .non (upd H l (.lst (xs++zs)))):É (Í X.prog X.w) X.A (ŀ (.builtin "list.extend") [v,u]) (EP X ag σ Q) X.xe s:=by
 cases rx;cases ru;obtain⟨z,cb,n,r,hl,e⟩:=I.lstM hH;have go:∀{T:String} {Ar:List Ã} {n2:Nat} {Ei:Option È} {A5:Array (Option Ã)},(T="list" \/ T="tuple")->Vals zs Ar->s.heap.get? b=À { cls:=.type T,dict:=Ei,data:=.seq Ar.toArray n2,slots:=A5 }->
   É (Í X.prog X.w) X.A (ŀ (.builtin "list.extend") [.ref l,.ref b]) (EP X ag σ Q) X.xe s:=by
  intro T Ar n2 Ei A5 hT r2 e2;have Mg:=r2.length;have hsz:cb.toArray.size+Ar.toArray.size<=Ð:=by rw[zP,zP];omega
  have EE:¬(!cb.toArray.isEmpty&&î (cb.toArray.size+Ar.toArray.size))=Â:=by
   rw[VI hsz,Bool.and_false];exact zV
  refine wg F.slot_list_extend ⟨_,e,rfl⟩ F.entry_list_extend (F.args_list_extend_2 _ _) (rf T hT l cb.toArray n b Ar.toArray n2 Ei A5 EE (by rw[zP];omega) ∅) ⟨e,e2,?_⟩;refine⟨.non,_,I.lset (its':=cb++Ar) hH e (by simp) (r.append r2) ?_,rfl,q⟩;rw[zR];omega
 rcases hB with hB | hB
 .obtain⟨Ar,r2,⟨⟨c2,d2,Ph,A5⟩,n2,h1,h2,h3,h4⟩,_⟩:=I.list hB
  simp only at h2 h4;subst h2 h4;exact go (.inl rfl) r2 h1
 .obtain⟨Ar,r2,⟨⟨c2,d2,Ph,A5⟩,h1,h2,n2,h4⟩,_⟩:=I.tuple hB
  simp only at h2 h4;subst h2 h4;exact go (.inr rfl) r2 h1
def Kq:Ve X "list.extend" (rMm X.K cl x8):=by
 rintro ag s σ H x xs v us Q I rx rs ⟨μ,h,wx,ws,w,h',R,ax,as,e,k⟩;unfold x8 at e;split at e
 .rename_i n y
  split at e
  .rename_i l l' ho el
   split at e
   .rename_i hl
    cases e;cases ax with | @ref _ a hn=>
    cases as with | cons r t=>cases t with | nil=>
    obtain⟨vs,hv,rl⟩:=R.ob n a _ hn ho;obtain⟨b,zs,rfl,sb,rb⟩:=xc R r el;obtain⟨u,rfl,ru⟩:=rs.one;exact Ji I rx ru hv sb (zp (by rw[<-rl.length,<-rb.length];exact hl) ya) (k.put R hn (rl.append rb) .non)
   .cases e
  .cases e
 .cases e
def Vx(ho:SE X cl o mo)(ha:SA X cl (e::es) ms)(Al:↥(ė o "append" X.env (å o X.env)=å o X.env))
  (Ex:((á cpos (Ì (e::es) X.env)).all (λx=>!x.1)&&(ů cpos (ļ [] X.env)).all (λx=>x.1.isSome)
   && decide ((e::es).length+([]:List Ķ).length+(if ([]:List Ķ).isEmpty then 0 else 1)<30))=Â:=by rfl)
  (Am:↥((apos.endLine==cpos.line)=Â)) (hs:↥(Ì (e::es) X.env=(Ä,å e X.env)::Ì es X.env)) (Aw:↥((á cpos (Ì es X.env)).any (·.1)=Ä)) :
  SE X cl (.Call (.Attribute o "append" apos) (e::es) [] cpos) (qE yb mo ms):=
 PE.wk (Y6 yc PySem.F.slot_list_append PySem.F.type_list_append K6 ho ha Al Ex Am hs Aw) λσ H Q q=>oZ q
def J0(ho:SE X cl o mo)(ha:SA X cl (e::es) ms)(Al:↥(ė o "extend" X.env (å o X.env)=å o X.env))
  (Ex:((á cpos (Ì (e::es) X.env)).all (λx=>!x.1)&&(ů cpos (ļ [] X.env)).all (λx=>x.1.isSome)
   && decide ((e::es).length+([]:List Ķ).length+(if ([]:List Ķ).isEmpty then 0 else 1)<30))=Â:=by rfl)
  (Am:↥((apos.endLine==cpos.line)=Â)) (hs:↥(Ì (e::es) X.env=(Ä,å e X.env)::Ì es X.env)) (Aw:↥((á cpos (Ì es X.env)).any (·.1)=Ä)) :
  SE X cl (.Call (.Attribute o "extend" apos) (e::es) [] cpos) (qE x8 mo ms):=
 PE.wk (Y6 yc PySem.F.slot_list_extend PySem.F.type_list_extend Kq ho ha Al Ex Am hs Aw) λσ H Q q=>oZ q
def Br(ho:SE X cl o mo)(Al:↥(ė o "pop" X.env (å o X.env)=å o X.env))(Am:↥((apos.endLine==cpos.line)=Â)) :
  SE X cl (.Call (.Attribute o "pop" apos) [] [] cpos) (qE lR mo []):=
 PE.wk (BE yc PySem.F.slot_list_pop PySem.F.type_list_pop Ua ho Al Am) λσ H Q q=>KH q
end
noncomputable def srcOf(x:W):M Src:=λh=>match x with
 | .tup l=>À (.items l,h)
 | .fls l=>À (.items l,h)
 | .ref n=>match h[n]? with
  | some (.lst _)=>À (.live n,h)
  | _=>Á
 | _=>Á
noncomputable def kF(m:ME):MI:=λρ=>bnd (m ρ) srcOf
noncomputable def upto(n:Nat):List W:=(_root_.List.range n).map λ(i:Nat)=>W.int (i:Int)
noncomputable def iu(ws:List W):M Src:=λh=>match ws with
 | [.int j]=>if -(2 ^ 62)<=j/\j<2 ^ 62 then À (.items (upto j.toNat),h) else Á
 | _=>Á
noncomputable def cn(ms:List ME):MI:=λρ=>bnd (xC ms ρ) iu
section
variable{X:Cx}{cl:Cl}{tg e:Î}{m:ME}{ms:List ME}{p pos:ĝ}
def Dv(hl:PE X e tl):PI X tg e (λσ H R=>tl σ H λx H1=>∃a,x=.ref a/\(((∃xs,SqL X.K H1 a xs)/\R (Yw X.K a) H1)\/((∃xs,SqT X.K H1 a xs)/\R (CW X.K a) H1))):=by
 intro ag s σ H R I h;refine ku (hl ag s σ H _ I h) ?_;rintro v s1 ⟨x,H1,I1,r1,q1⟩;obtain⟨a,e,q1⟩:=q1;subst e;cases r1;rcases q1 with ⟨⟨xs,hq⟩,q⟩ | ⟨⟨xs,hq⟩,q⟩
 .obtain⟨cb,rv,p,hz⟩:=I1.list hq
  refine v9 p.isList ?_;refine⟨s1.heap.objs.size,[s1.heap.objs.size],_,_,H1,rfl,I1.kept (t':=s1.toks) λb o e=>zc _ e,JZ a _,⟨_,zH _ rfl,rfl,rfl⟩,λb hb=>?_,q⟩;have e:b=s1.heap.objs.size:=by simpa using hb
  subst e;exact I1.fpOk (zy _) (I1.hok.fresh (zy _))
 .obtain⟨cb,rv,p,hz⟩:=I1.tuple hq
  refine yg (show s1.heap.IsTuple a cb.toArray from p) ?_;refine⟨s1.heap.objs.size,[s1.heap.objs.size],_,_,H1,rfl,I1.kept (t':=s1.toks) λb o e=>zc _ e,Km a _,⟨_,zH _ rfl,rfl,rfl⟩,λb hb=>?_,q⟩;have e:b=s1.heap.objs.size:=by simpa using hb
  subst e;exact I1.fpOk (zy _) (I1.hok.fresh (zy _))
def C0{K:Te}{μ:List È}{H:Hp}{h:MH}(R:HR K cl μ H h)(sa:SqT K H a vs)(ra:RWs K μ H l vs):JR K cl (CW K a) (.items l) μ H:=by
 intro hX H2 h2 E2 R2 i;have Hz:=SqT.ext R E2 sa;have Ia:=ra.ext R E2;refine⟨λw ew=>?_,λes=>?_⟩
 .have Ah:l[i]?=À w:=zW ew
  obtain⟨v,ev,rv⟩:=Ia.get Ah;refine⟨⟨vs,v,Hz,ev⟩,λx H3 y=>?_⟩;obtain⟨rfl,y⟩:=y;have:=y vs Hz;rw[ev] at this;cases this;exact⟨.refl,R2,rv⟩
 .have es':l[i]?=Á:=zW es
  exact⟨vs,Hz,by rw[<-ra.length];exact jM.mp es'⟩
def Cm{K:Te}{μ:List È}{H:Hp}{h:MH}(R:HR K cl μ H h)(sa:SqF K μ H a vs)(ra:RWs K μ H l vs):JR K cl (Yw K a) (.items l) μ H:=by
 intro hX H2 h2 E2 R2 i;have Hz:=(SqF.ext E2 sa).sq;have Ia:=ra.ext R E2;refine⟨λw ew=>?_,λes=>?_⟩
 .have Ah:l[i]?=À w:=zW ew
  obtain⟨v,ev,rv⟩:=Ia.get Ah;refine⟨⟨vs,v,Hz,ev⟩,λx H3 y=>?_⟩;obtain⟨rfl,y⟩:=y;have:=y vs Hz;rw[ev] at this;cases this;exact⟨.refl,R2,rv⟩
 .have es':l[i]?=Á:=zW es
  exact⟨vs,Hz,by rw[<-ra.length];exact jM.mp es'⟩
def XO{K:Te}{μ:List È}{H:Hp}(hn:μ[n]?=À a):JR K cl (Yw K a) (.live n) μ H:=by
 intro hX H2 h2 E2 R2 i;have Hv:=E2.get hn;refine⟨λw ew=>?_,λes=>?_⟩
 .unfold xD at ew
  dsimp only at ew;split at ew
  .rename_i l ho
   have Ah:l[i]?=À w:=zW ew;obtain⟨vs,hv,ra⟩:=R2.ob n a _ Hv ho;obtain⟨v,ev,rv⟩:=ra.get Ah;refine⟨⟨vs,v,SqL.of hv,ev⟩,λx H3 y=>?_⟩;obtain⟨rfl,y⟩:=y;have:=y vs (SqL.of hv);rw[ev] at this;cases this;exact⟨.refl,R2,rv⟩
  .cases ew
 .unfold xD at es
  dsimp only at es;split at es
  .rename_i l ho
   have es':l[i]?=Á:=zW es;obtain⟨vs,hv,ra⟩:=R2.ob n a _ Hv ho;exact⟨vs,SqL.of hv,by rw[<-ra.length];exact jM.mp es'⟩
  .cases es
def Cq(he:SE X cl e m):SI X cl tg e (kF m):=PI.wk (Dv he) λσ H Q q0=>by
 obtain⟨μ,h,ρ,src,h',R,er,e,k⟩:=q0;obtain⟨x,h1,e1,e⟩:=kc e;refine⟨μ,h,ρ,x,h1,R,er,e1,λd3 H1 v E1 R1 r=>?_⟩;unfold srcOf at e;split at e
 .cases e
  obtain⟨a,vs,rfl,sa,ra⟩:=r.tup_of;exact⟨a,rfl,.inr ⟨⟨vs,sa⟩,k d3 H1 _ E1 R1 (C0 R1 sa ra)⟩⟩
 .cases e
  cases r with | @fls a vs l sa ra=>
  exact⟨a,rfl,.inl ⟨⟨vs,sa.sq⟩,k d3 H1 _ E1 R1 (Cm R1 sa ra)⟩⟩
 .rename_i n
  split at e
  .rename_i l ho
   cases e;cases r with | @ref _ a hn=>
   obtain⟨vs,hv,ra⟩:=R1.ob n a _ hn ho;exact⟨a,rfl,.inl ⟨⟨vs,SqL.of hv⟩,k d3 H1 _ E1 R1 (XO hn)⟩⟩
  .cases e
 .cases e
def Dw{K:Te}{μ:List È}{H:Hp}:JR K cl (Yq 0 n) (.items (upto n)) μ H:=by
 intro hX H2 h2 E2 R2 i;refine⟨λw ew=>?_,λes=>?_⟩
 .have Ah:(upto n)[i]?=À w:=zW ew
  unfold upto at Ah;rw[kh] at Ah;by_cases hi:i<n
  .rw[yL hi] at Ah
   cases Ah;refine⟨hi,λx H3 y=>?_⟩;obtain⟨rfl,rfl⟩:=y;exact⟨.refl,R2,by rw[Int.zero_add];exact .int _⟩
  .rw[jF (by simpa using hi)] at Ah
   cases Ah
 .have es':(upto n)[i]?=Á:=zW es
  have:=jM.mp es';unfold upto at this;rw[zG,xF] at this;exact this
def BX(hm:X.mg "range" = Á)(ha:SA X cl [e] ms)(hg:↥(Gl X "range"))(hs:↥(Ì [e] X.env=[(Ä,å e X.env)])):SI X cl tg (.Call (.Name "range" p) [e] [] pos) (cn ms):=
 PI.wk (Qh hg hm ha hs) λσ H Q q0=>by
  obtain⟨μ,h,ρ,src,h',R,er,e,k⟩:=q0;obtain⟨ws,h1,e1,e⟩:=kc e;refine⟨μ,h,ρ,ws,h1,R,er,e1,λd3 H1 vs E1 R1 rs=>?_⟩;unfold iu at e;split at e
  .rename_i j
   split at e
   .rename_i hj
    cases e;cases rs with | cons r t=>cases t with | nil=>
    cases r.int_of;exact⟨j,rfl,hj.1,hj.2,k d3 H1 _ E1 R1 Dw⟩
   .cases e
  .cases e
end
noncomputable def ig(sc scope:ë):ë:={ scope with names:=scope.names.map λ(n,k)=>if (k==.free&&sc.kind==.function&&sc.names.lookup n==À .cell) then (n,.cell) else (n,k) }
noncomputable def ik(sc:ë)(x:Ç):Bool:=sc.names.lookup x==À .cell||sc.names.lookup x==À .free
noncomputable def x5(sc:ë)(N:List Ç)(scope:ë)(N':List Ç)(nl:Nat)(ks:List Nat):Bool:=
 scope.kind==.function&&scope.names.all (λy=>y.2 != .cell)&&scope.names.all (λy=>y.2 != .local||scope.names.lookup y.1==À .local)
 && N'.length==nl+ks.length&&scope.names.all (λy=>y.2 != .free||ik sc y.1)
 && (ä ks.length).all λj=>match ks[j]?,N'[nl+j]? with
  | some k,À x=>N[k]?==À x&&ik sc x&&ik (ig sc scope) x
  | _,_=>Ä
structure CompOk(sc:ë)(N:List Ç)(scope:ë)(N':List Ç)(nl:Nat)(ks:List Nat):Prop where
 kind:scope.kind=.function
 ncell:∀y∈scope.names,y.2≠.cell
 names:∀y∈scope.names,y.2=.local->scope.names.lookup y.1=À .local
 len:N'.length=nl+ks.length
 fall:∀y∈scope.names,y.2=.free->ik sc y.1=Â
 fr:∀j k,ks[j]?=À k->∃x,N[k]?=À x/\N'[nl+j]?=À x/\ik sc x=Â/\ik (ig sc scope) x=Â
def cf(h:x5 sc N scope N' nl ks=Â):CompOk sc N scope N' nl ks:=by
 unfold x5 at h;erw[zr] at h;obtain⟨⟨⟨⟨⟨h1,h2⟩,h3⟩,h4⟩,h5⟩,h6⟩:=h;refine⟨by simpa using h1,λy hy=>?_,λy hy e=>?_,by simpa using h4,λy hy e=>?_,λj k e=>?_⟩
 .have:=kE.mp h2 y hy;simpa using this
 .have:=kE.mp h3 y hy;simpa[e] using this
 .have:=kE.mp h5 y hy;simpa[e] using this
 .have hj:j<ks.length:=(zu.mp e).1
  have:=kE.mp h6 j (jX.mpr hj);rw[e] at this;cases e2:N'[nl+j]? with
  | none=>rw[e2] at this;simp at this
  | some x=>
   rw[e2] at this;erw[zr] at this;exact⟨x,by simpa using this.1.1,rfl,this.1.2,this.2⟩
def gM{sc:ë}(h:ik sc x=Â):sc.names.lookup x=À .cell\/sc.names.lookup x=À .free:=by
 unfold ik at h;rcases pA.mp h with h | h
 .exact .inl (by simpa using h)
 .exact .inr (by simpa using h)
noncomputable def vt(X:Cx)(scope:ë)(cs:List (Ç×È))(C:È)(N:List Ç)(s₀:Å)(H₀:Hp)(ex:List È):Cx:=
 { X with N:=N,s₀:=s₀,H₀:=H₀,env:=compEnvC scope cs C X.env,outer:=X.stack,ex:=ex,fn:=λ_=>Ä,pn:=[],xe:=λ_ _=>False }
def K1{env:Env}(names:List (Ç×Ļ))(h:∀y∈names,y.2=.free->∃c,env.cells.lookup y.1=À c):∀G0:List (Ç×È),(∀x c,G0.lookup x=À c->env.cells.lookup x=À c)->
  ∃cs,(forIn names G0 λ(x:Ç×Ļ) (r:List (Ç×È))=>if (x.2==ķ)=Â then do
    let a <-cellOf env x.1
    pure (ĉ ((x.1,a)::r)) else pure (ĉ r):Sem (List (Ç×È)))=pure cs/\(∀x c,cs.lookup x=À c->env.cells.lookup x=À c)/\(∀y∈names,y.2=.free->∃c,cs.lookup y.1=À c)/\∀x c,G0.lookup x=À c->∃c',cs.lookup x=À c':=by
 induction names with
 | nil=>intro G0 h0;exact⟨G0,by simp,h0,λy hy=>by simp at hy,λx c e=>⟨c,e⟩⟩
 | cons y r ih=>
  intro G0 h0;have hr:∀z∈r,z.2=.free->∃c,env.cells.lookup z.1=À c:=λz hz=>h z (zq _ hz)
  by_cases hy:(y.2==ķ)=Â
  .obtain⟨c,hc⟩:=h y zF (by simpa using hy)
   have h1:∀x c',((y.1,c)::G0).lookup x=À c'->env.cells.lookup x=À c':=λx c' e=>by
    rw[qm] at e;split at e
    .rename_i q
     have:x=y.1:=by simpa using q
     subst this;rw[<-e];exact hc
    .exact h0 x c' e
   obtain⟨cs,e1,e2,e3,e4⟩:=ih hr ((y.1,c)::G0) h1;have Hl:∃c',cs.lookup y.1=À c':=e4 y.1 c (by rw[qm];simp);refine⟨cs,?_,e2,λz hz e=>?_,λx c' e=>?_⟩
   .rw[vP,zQ hy]
    have:cellOf env y.1=pure c:=by unfold cellOf;rw[hc]
    rw[this];erw[pure_bind];exact e1
   .rcases zg.mp hz with rfl | hz
    .exact Hl
    .exact e3 z hz e
   .by_cases q:x=y.1
    .subst q;exact Hl
    .refine e4 x c' ?_
     rw[qm];have:(x==y.1)=Ä:=by simpa using q
     rw[this];exact e
  .obtain⟨cs,e1,e2,e3,e4⟩:=ih hr G0 h0
   refine⟨cs,?_,e2,λz hz e=>?_,e4⟩
   .rw[vP,zX hy]
    erw[pure_bind];exact e1
   .rcases zg.mp hz with rfl | hz
    .exact absurd (by simpa using e) hy
    .exact e3 z hz e
theorem pK{env:Env}{scope:ë}(h:∀y∈scope.names,y.2=.free->∃c,env.cells.lookup y.1=À c) :
  ∃cs,closureFor scope env=pure cs/\(∀x c,cs.lookup x=À c->env.cells.lookup x=À c)/\(∀y∈scope.names,y.2=.free->∃c,cs.lookup y.1=À c):=by
 obtain⟨cs,e1,e2,e3,_⟩:=K1 scope.names h [] (λx c e=>by simp at e);refine⟨cs,?_,e2,e3⟩
 have q:closureFor scope env=((forIn scope.names ([]:List (Ç×È)) λ(x:Ç×Ļ) (r:List (Ç×È))=>if (x.2==ķ)=Â then do
    let a <-cellOf env x.1
    pure (ĉ ((x.1,a)::r)) else pure (ĉ r):Sem (List (Ç×È))) >>= λcs=>pure cs):=rfl
 rw[q,e1];rfl
section
variable{X:Cx}{ag:List (È×ó)}{σ:L2.St}{H:Hp}{s:Å}
def rJ{scope:ë}(nc:∀y∈scope.names,y.2≠.cell)(h:ik (ig sc scope) x=Â):∃y∈scope.names,y.1=x/\y.2=.free:=by
 have go:∀l:List (Ç×Ļ),(∀y∈l,y.2≠.cell)->∀k:Ļ,(k=.cell\/k=.free)->(l.map λ(n,k)=>if (k==ķ&&sc.kind==ScopeKind.function&&sc.names.lookup n==À Ŕ) then (n,Ŕ) else (n,k)).lookup x=À k->∃y∈l,y.1=x/\y.2=.free:=by
  intro l;induction l with
  | nil=>intro _ k _ e;simp at e
  | cons y r ih=>
   obtain⟨n,k0⟩:=y;intro nc k hk e;rw[zz,qm] at e;have IG:(if (k0==ķ&&sc.kind==ScopeKind.function&&sc.names.lookup n==À Ŕ)=Â then (n,Ŕ) else (n,k0)).1=n:=by split<;>rfl
   by_cases q:x=n
   .refine⟨(n,k0),zF,q.symm,?_⟩
    have:(x==n)=Â:=by simpa using q
    erw[IG,this] at e;split at e
    .rename_i c
     erw[zr] at c;simpa using c.1.1
    .have e':k0=k:=by simpa using e
     rcases hk with rfl | rfl
     .exact absurd e' (nc (n,k0) zF)
     .exact e'
   .have:(x==n)=Ä:=by simpa using q
    erw[IG,this] at e;obtain⟨y,hy,e1,e2⟩:=ih (λy hy=>nc y (zq _ hy)) k hk e;exact⟨y,zq _ hy,e1,e2⟩
 rcases gM h with h | h
 .exact go scope.names nc _ (.inl rfl) h
 .exact go scope.names nc _ (.inr rfl) h
def Cw{scope:ë}{cs:List (Ç×È)}(I:Inv X ag σ H s)(Ao:X.env.scope=sc)(ok:CompOk sc N scope N' nl ks)
  (AE:∀x c,cs.lookup x=À c->X.env.cells.lookup x=À c) (Ae:∀y∈scope.names,y.2=.free->∃c,cs.lookup y.1=À c) (hC:s.heap.objs.size<=C) (hex:∀b∈ex,aT X ag H b) (HA:∀b∈ex,b<s.heap.objs.size):(vt X scope cs C N' s H ex).Ok:=by
 subst Ao;refine⟨I.ok.mod,ok.kind,I.ok.glob,I.ok.blt,hC,λx y c h1 h2=>I.ok.inj x y c (AE x c h1) (AE y c h2),λx hx=>?_,λx c h=>?_,I.ok.hd,I.ok.frames,.inl rfl,λb hb=>?_,I.bs,zp I.ok.bsz I.sz,λb o e hb=>?_,λb hb z=>?_,I.stack,I.stkFree⟩
 .have hc:ik (ig X.env.scope scope) x=Â:=by
   unfold ik;rcases hx with hx | hx
   .rw[show(ig X.env.scope scope).names.lookup x=À .cell from hx];rfl
   .rw[show(ig X.env.scope scope).names.lookup x=À .free from hx];rfl
  obtain⟨y,hy,rfl,e⟩:=rJ ok.ncell hc;exact Ae y hy e
 .cases h
 .obtain⟨h0,h1,h2,h3,h4,h5⟩:=hex b hb
  exact⟨λz=>absurd (zN (HA b hb) (z▸hC)) (jO _),λx c e=>h4 x c (AE x c e)⟩
 .obtain⟨h0,h1,h2,h3,h4,h5⟩:=hex b hb
  rcases h3 with h3 | h3
  .exact I.ok.noex b o e h3
  .exact absurd (zN (zJ e) (zp I.ok.bsz h3)) (jO _)
 .obtain⟨h0,h1,h2,h3,h4,h5⟩:=hex b hb
  rcases zg.mp (I.stkSub b z) with e | e
  .exact h1 e
  .exact h2 e
end
section
variable{prog:Ï}{w:Ô}{A:Ù}{R:Result->Å->Prop}{s:Å}
noncomputable def Zw(ifs:List Î)(env:Env):Sem Bool:=forIn ifs Â λc r=>if r=Â then do let ok <-isTrue c env (å c env);pure (ĉ ok) else pure (ĉ r)
def tT{env:Env}(I:Nat->Å->Prop)
  (turn:∀n s,I n s->É (Í prog w) A (ę it) (λr d6=>match r with
   | none=>R (.ok .next) d6
   | some v=>É (Í prog w) A (ľ target it v) (λ_ Hm=>É (Í prog w) A (Ľ target env v) (λ_ Ad=>
     É (Í prog w) A (Zw ifs env) (λok AW=>
      if ok=Â then É (Í prog w) A (å elt env) (λx G1=>
       É (Í prog w) A (ŀ (.builtin "list.append") [acc,x]) (λ_ IH=>∃m,m<n/\I m IH) (λ_ _=>False) G1) (λ_ _=>False) AW
      else ∃m,m<n/\I m AW) (λ_ _=>False) Ad) (λ_ _=>False) Hm) (λ_ _=>False) d6) (λ_ _=>False) s)
  (n:Nat) (h:I n s) :
  Ł (Í prog w) A (.compLoop (.ListComp elt [⟨target,iter,ifs,0⟩] scope pos) 0 it acc env) R s:=by
 refine codeAny_loop rfl I (λn s hI=>?_) n h;show É _ A ((compTurn (.ListComp elt [⟨target,iter,ifs,0⟩] scope pos) 0 it acc env).onRaise (λx=>do noteFrame x env;theTreesLotGoes x)) _ _ s
 refine wpAny_noted ?_;rw[compTurn_list];refine za (wpAny_standAt (za (qe (turn n s hI) (λr d6 As=>?_) λ_ _ h'=>h'.elim)));cases r with
 | none=>exact zf As
 | some v=>
  refine za (qe As (λ_ Hm II=>?_) λ_ _ h'=>h'.elim);refine za (qe II (λ_ Ad EG=>za (qe EG (λok AW IJ=>?_) λ_ _ h'=>h'.elim)) λ_ _ h'=>h'.elim);cases ok with
  | false=>exact zf ⟨rfl,IJ⟩
  | true=>
   exact za (za (qe IJ (λx G1 Mh=>za (qe Mh (λ_ IH Mi=>zf (zf ⟨rfl,Mi⟩)) λ_ _ h'=>h'.elim)) λ_ _ h'=>h'.elim))
end
noncomputable def gS(X:Cx)(cl:Cl)(ifs:List Î)(t:MT):Prop:=∀(ag:List (È×ó)) (s:Å) (σ:L2.St) (H:Hp) (Q:Bool->Hp->Prop),Inv X ag σ H s->tMT X.K cl t σ H Q->É (Í X.prog X.w) X.A (Zw ifs X.env) (TP X ag σ Q) X.xe s
noncomputable def qv:MT:=λ_ h=>À (Â,h)
section
variable{X:Cx}{cl:Cl}{c:Î}{t:MT}
def Ui:gS X cl [] qv:=λag s σ H Q I q0=>by
 obtain⟨μ,h,ρ,b,h',R,er,e,k⟩:=q0;cases e;exact wpAny_tests_nil ⟨H,I,k μ H .refl R⟩
def X2(h:ST X cl c t):gS X cl [c] t:=λag s σ H Q I q=>wpAny_tests_one (h ag s σ H Q I q)
end
noncomputable def blank(nl:Nat)(ρ:En):En:=Æ nl Á++ρ.drop nl
noncomputable def xS(src:Src)(nl:Nat)(g:MG)(t:MT)(m:ME)(n0:Nat):Nat->Nat->En->MH->Option MH
 | 0,_,_,_=>Á
 | k+1,i,ρ,h=>match xD src i h with
  | none=>Á
  | some Á=>À h
  | some (À w)=>match g w ρ h with
   | none=>Á
   | some (mN,h1)=>match t mN h1 with
    | none=>Á
    | some (Ä,h2)=>xS src nl g t m n0 k (i+1) (blank nl mN) h2
    | some (Â,h2)=>match m mN h2 with
     | none=>Á
     | some (y,h3)=>match h3[n0]? with
      | some (.lst acc)=>if acc.length<cap then xS src nl g t m n0 k (i+1) (blank nl mN) (h3.set n0 (.lst (acc++[y]))) else Á
      | _=>Á
noncomputable def yv(nl:Nat)(g:MG)(t:MT)(m:ME)(n0:Nat):List W->En->MH->Option MH
 | [],_,h=>À h
 | w::r,ρ,h=>match g w ρ h with
   | none=>Á
   | some (mN,h1)=>match t mN h1 with
    | none=>Á
    | some (Ä,h2)=>yv nl g t m n0 r (blank nl mN) h2
    | some (Â,h2)=>match m mN h2 with
     | none=>Á
     | some (y,h3)=>match h3[n0]? with
      | some (.lst acc)=>if acc.length<cap then yv nl g t m n0 r (blank nl mN) (h3.set n0 (.lst (acc++[y]))) else Á
      | _=>Á
theorem fg(l:List W):∀(k i:Nat) (ρ:En) (h:MH),l.length+1<=i+k->i<=l.length->xS (.items l) nl g t m n0 k i ρ h=yv nl g t m n0 (l.drop i) ρ h
 | 0,i,ρ,h,hk,hi=>by omega
 | k+1,i,ρ,h,hk,hi=>by
  by_cases hl:i<l.length
  .rw[wL hl]
   unfold xS yv;erw[xD,zM hl];cases e1:g l[i] ρ h with
   | none=>rfl
   | some p=>
    obtain⟨mN,h1⟩:=p;simp only;cases e2:t mN h1 with
    | none=>rfl
    | some q=>
     obtain⟨b,h2⟩:=q;cases b with
     | false=>exact fg l k (i+1) _ h2 ∅ hl
     | true=>
      simp only;cases e3:m mN h2 with
      | none=>rfl
      | some q3=>
       obtain⟨y,h3⟩:=q3;simp only;split
       .split
        .exact fg l k (i+1) _ _ ∅ hl
        .rfl
       .rfl
  .have Ed:i=l.length:=by omega
   subst Ed;rw[xY];unfold xS yv;simp[xD]
noncomputable def eU(mi:MI)(nl:Nat)(ks:List Nat)(g:MG)(t:MT)(m:ME):En->MH->Option (Nat×MH×MH):=λρ h=>match mi ρ h with
 | none=>Á
 | some (.items l,h1)=>match yv nl g t m h1.length l (Æ nl Á++ks.map λk=>(ρ[k]?).join) (h1++[.lst []]) with
  | some h2=>À (h1.length,h1,h2)
  | none=>Á
 | some (.live n,h1)=>match xS (.live n) nl g t m h1.length (Qk (.live n) h1+1) 0 (Æ nl Á++ks.map λk=>(ρ[k]?).join) (h1++[.lst []]) with
  | some h2=>À (h1.length,h1,h2)
  | none=>Á
noncomputable def gJ(mi:MI)(nl:Nat)(ks:List Nat)(g:MG)(t:MT)(m:ME):ME:=λρ h=>match eU mi nl ks g t m ρ h with
 | some (n,_,h2)=>À (.ref n,h2)
 | none=>Á
open Classical in
noncomputable def kz(mi:MI)(nl:Nat)(ks:List Nat)(g:MG)(t:MT)(m:ME):ME:=λρ h=>match eU mi nl ks g t m ρ h with
 | some (n,h1,h2)=>match h2[n]? with
  | some (.lst l)=>if h1<+:h2/\lows h1.length l=Â then À (.fls l,h1) else Á
  | _=>Á
 | none=>Á
theorem ER.blank{K:Te}{μ:List È}{H:Hp}{ρ:En}(er:ER K μ H ρ σ)(hl:nl<=ρ.length):ER K μ H (ML.blank nl ρ) σ:=by
 unfold ML.blank;refine⟨by simp;rw[<-er.len];omega,λi w e=>?_⟩;by_cases hi:i<nl
 .rw[zY (by simpa using hi),qU] at e
  split at e<;>cases e
 .rw[jf (by simpa using hi),q9,List.getElem?_drop] at e
  exact er.at_ i w (by rw[<-e];congr 1;omega)
section
variable{X:Cx}{cl:Cl}{ag:List (È×ó)}{σ:L2.St}
noncomputable def σC(nl:Nat)(ks:List Nat)(σ:L2.St):L2.St:=Æ nl Á++ks.map λk=>(σ[k]?).join
noncomputable def ρC(nl:Nat)(ks:List Nat)(ρ:En):En:=Æ nl Á++ks.map λk=>(ρ[k]?).join
def GE{K:Te}{μ:List È}{H:Hp}(er:ER K μ H ρ σ):ER K μ H (ρC nl ks ρ) (σC nl ks σ):=by
 unfold ρC σC;refine⟨by simp,λi w e=>?_⟩;by_cases hi:i<nl
 .rw[zY (by simpa using hi),qU] at e
  split at e<;>cases e
 .rw[jf (by simpa using hi),q9,kh] at e
  rw[jf (by simpa using hi),q9,kh];cases e1:ks[i-nl]? with
  | none=>rw[e1] at e;cases e
  | some k=>
   rw[e1] at e;have e2:(ρ[k]?).join=À w:=zW e;have e3:ρ[k]?=À (À w):=by
    cases q:ρ[k]? with
    | none=>rw[q] at e2;cases e2
    | some o=>rw[q] at e2;cases o with
     | none=>cases e2
     | some z=>cases e2;rfl
   obtain⟨v,ev,r⟩:=er.at_ k w e3;exact⟨v,by simp[ev],r⟩
def Qy{scope:ë}{cs:List (Ç×È)}{H:Hp}{s:Å}{As:Õ}(I:Inv X ag σ H s)(Ao:X.env.scope=sc)(hN:X.N=N)(ok:CompOk sc N scope N' nl ks)
  (AE:∀x c,cs.lookup x=À c->X.env.cells.lookup x=À c) (Ae:∀y∈scope.names,y.2=.free->∃c,cs.lookup y.1=À c) (hex:∀b∈ex,aT X ag H b) (HA:∀b∈ex,b<s.heap.objs.size)
   (Ap:As.Ns (s.heap.objs.size+1) m0) (old:∀b o,s.heap.get? b=À o->As.get? b=À o) (hD:As.get? s.heap.objs.size=À { cls:=.type "list",data:=.seq ([]:List Ã).toArray }) :
  Inv (vt X scope cs (s.heap.objs.size+1) N' s H ex) [] (σC nl ks σ) (upd H s.heap.objs.size (.lst [])) { s with heap:=As,toks:=tk }:=by
 have Pi:H s.heap.objs.size=Á:=I.hok.fresh (zy _);have Ls:∀{b:È} {o:ó},s.heap.get? b=À o->b≠s.heap.objs.size:=λe=>zL (zJ e)
 refine⟨Cw I Ao ok AE Ae (qR _) hex HA,rfl,I.bare,Un.laid old (zy _) Pi,⟨m0,Ap,λi x v e1 e2 e3=>?_⟩,λx c e=>?_,?_,λx c e=>?_,λp hp=>absurd (show p∈([]:List (È×ó)) from hp) (by simp),I.hok.laid old (zy _) ⟨by simp,[],_,.nil,hD⟩,?_⟩
 .have Fn:N'[i]?=À x:=e1
  unfold σC at e2;by_cases hi:i<nl
  .rw[zY (by simpa using hi),qU] at e2
   split at e2<;>cases e2
  .rw[jf (by simpa using hi),q9,kh] at e2
   cases q1:ks[i-nl]? with
   | none=>rw[q1] at e2;cases e2
   | some k=>
    rw[q1] at e2;have q2:(σ[k]?).join=À v:=zW e2;have q3:σ[k]?=À (À v):=by
     cases q:σ[k]? with
     | none=>rw[q] at q2;cases q2
     | some o=>rw[q] at q2;cases o with
      | none=>cases q2
      | some z=>cases q2;rfl
    obtain⟨x',Pj,NH,NI,NJ⟩:=ok.fr (i-nl) k q1;have:x'=x:=by
     rw[show nl+(i-nl)=i by omega,Fn] at NH;exact(zW NH).symm
    subst this;subst Ao;obtain⟨m,hn,hl⟩:=I.loc;have LQ:ZA X.env.scope x':=by rcases gM NI with z | z;exact .inr (.inl z);exact .inr (.inr z)
    obtain⟨u,ru,lk⟩:=hl k x' v (by rw[hN];exact Pj) q3 LQ;refine⟨u,ru,?_⟩;rcases lk with ⟨z,_⟩ | ⟨_,c,hc,ic⟩
    .rcases gM NI with y | y<;>(rw[show X.env.kindOf x'=X.env.scope.names.lookup x' from rfl,y] at z;cases z)
    .refine .inr ⟨gM NJ,?_⟩
     obtain⟨y,hy,rfl,Pk⟩:=rJ ok.ncell NJ;obtain⟨c',Hh⟩:=Ae y hy Pk;have:=AE _ _ Hh;rw[hc] at this;cases this;obtain⟨o,ho,hd⟩:=ic;exact⟨c,Hh,o,old _ _ ho,hd⟩
 .obtain⟨v,o,ho,hd⟩:=I.cell x c (AE x c e)
  exact⟨v,o,old _ _ ho,hd⟩
 .show(upd H s.heap.objs.size (.lst [])) (s.heap.objs.size+1)=Á
  rw[kH (xQ _)];exact I.hok.fresh (qR _)
 .obtain⟨v,o,ho,hd⟩:=I.cell x c (AE x c e)
  rw[kH (Ls ho)];exact I.freeC x c (AE x c e)
 .show(σC nl ks σ).length=N'.length
  unfold σC;rw[ok.len];simp
def Qz{elt tg iter:Î}{ifs:List Î}{scope sc:ë}{pos:ĝ}{N N':List Ç}{nl:Nat}{ks:List Nat}{cs:List (Ç×È)}{J:It}{it:È}{fp:List È}{tn:Nat->Õ->Prop}{g:MG}{t:MT}{m:ME}{src:Src}{k0:Nat}
  {H2:Hp} {s2:Å} {μ:List È} {h h':MH} {ρ:En} {RR:Ã->È->Result->Å->Prop} {E:Ã->Å->Prop}
  (hc:X.calm=Â) (Ao:X.env.scope=sc) (hN:X.N=N) (ok:CompOk sc N scope N' nl ks)
  (hg:∀cs C s₀ H₀ ex,SG (vt X scope cs C N' s₀ H₀ ex) cl tg g) (ht:∀cs C s₀ H₀ ex,gS (vt X scope cs C N' s₀ H₀ ex) cl ifs t) (he:∀cs C s₀ H₀ ex,SE (vt X scope cs C N' s₀ H₀ ex) cl elt m)
  (I2:Inv X ag σ H2 s2) (T:Turn X.prog X.w X.K tg J fp it tn) (GX:tn 0 s2.heap) (f2:∀b∈fp,aT X ag H2 b)
  (AE:∀x c,cs.lookup x=À c->X.env.cells.lookup x=À c) (Ae:∀y∈scope.names,y.2=.free->∃c,cs.lookup y.1=À c)
  (R2:HR X.K cl μ H2 h) (er:ER X.K μ H2 ρ σ) (j:JR X.K cl J src μ H2) (e:xS src nl g t m h.length k0 0 (ρC nl ks ρ) (h++[.lst []])=À h')
  (Pl:∀D C s' H' d5 m',D≠C->s'.heap.Ns C m'->Inv X ag σ H' s'->H' C=Á->s2.heap.objs.size<=C->Ext μ H2 d5 H'->HR X.K cl d5 H' h'->d5[h.length]?=À D->RR (.ref D) C (.ok .next) s') :
  É (Í X.prog X.w) X.A (newList []) (λacc AW=>É (Í X.prog X.w) X.A (newFunctionEnv scope X.env.globals cs [] X.env.qual Á .none (À X.env)) (λIK G1=>
   Ł (Í X.prog X.w) X.A (.compStart (.ListComp elt [⟨tg,iter,ifs,0⟩] scope pos) 0 (.ref it) acc { IK with scope:=relabel scope X.env }) (RR acc IK.locals) G1) E AW) E s2:=by
 refine jd (wpAny_newFunctionEnv ok.ncell (by intro y hy;simp at hy) (λAs AH Ax=>?_) ok.kind);dsimp only at AH Ax ⊢;generalize hP:s2.heap.push { cls:=.type "list",dict:=Á,data:=.seq ([]:List Ã).toArray }=P at AH Ax ⊢;have hC:P.objs.size=s2.heap.objs.size+1:=by rw[<-hP,jW]
 rw[hC] at AH Ax ⊢;have old:∀b o,s2.heap.get? b=À o->As.get? b=À o:=λb o e=>Ax.extBut b o (zL (jH (zJ e))) (zc _ (hP▸zc _ e))
 have hD:As.get? s2.heap.objs.size=À { cls:=.type "list",data:=.seq ([]:List Ã).toArray }:=Ax.extBut _ _ (zL (j4 _)) (zc _ (hP▸zH _ rfl));have HA:∀b∈fp,b<s2.heap.objs.size:=λb hb=>by
  obtain⟨o,ho,_⟩:=T.obj 0 _ GX b hb;exact zJ ho
 have Ml:H2 s2.heap.objs.size=Á:=I2.hok.fresh (zy _);have I3:=Qy (X:=X) (tk:=s2.toks+([]:List (Ç×Ã)).length) I2 Ao hN ok AE Ae f2 HA AH old hD;have Iu:tn 0 As:=T.keep 0 _ _ GX λb _ o e=>old b o e
 have Lp:∀b∈fp,(upd H2 s2.heap.objs.size (.lst [])) b=Á:=λb hb=>by
  rw[kH (zL (HA b hb))];exact(f2 b hb).1
 have Mn:∀{H:Hp},(∀b∈fp,H b=Á)->∀b∈fp,aT (vt X scope cs (s2.heap.objs.size+1) N' s2 H2 fp) [] H b:=λhn b hb=>by
  obtain⟨g0,g1,g2,g3,g4,g5⟩:=f2 b hb;refine⟨hn b hb,zL (jH (HA b hb)),λz=>?_,.inl hb,λx c e=>g4 x c (AE x c e),λp hp=>absurd (show p∈([]:List (È×ó)) from hp) (by simp)⟩;rcases zg.mp (I2.stkSub b z) with q | q
  .exact g1 q
  .exact g2 q
 have loop:∀s:Å,s={ s2 with heap:=As,toks:=s2.toks+([]:List (Ç×Ã)).length }->
   Ł (Í X.prog X.w) X.A (.compLoop (.ListComp elt [⟨tg,iter,ifs,0⟩] scope pos) 0 (.ref it) (.ref s2.heap.objs.size) (compEnvC scope cs (s2.heap.objs.size+1) X.env)) (RR (.ref s2.heap.objs.size) (s2.heap.objs.size+1)) s:=by
  rintro s rfl
  refine tT (λn s=>∃i hG H ρ' d5 hh,Inv (vt X scope cs (s2.heap.objs.size+1) N' s2 H2 fp) [] hG H s/\tn i s.heap/\(∀b∈fp,H b=Á)/\HR X.K cl d5 H hh/\ER X.K d5 H ρ' hG/\Ext μ H2 d5 H/\nl<=ρ'.length/\d5[h.length]?=À s2.heap.objs.size /\
   xS src nl g t m h.length n i ρ' hh=À h') ?_ k0 ?_
  .rintro n s ⟨i,hG,H,ρ',d5,hh,I,st,fr,R,Po,E',hl,hm,e⟩
   cases n with
   | zero=>cases e
   | succ n=>
    unfold xS at e;obtain⟨jg,js⟩:=j d5 H hh E' R i;cases es:xD src i hh with
    | none=>rw[es] at e;cases e
    | some o=>
     rw[es] at e;cases o with
     | none=>
      cases e;refine ku (T.done (vt X scope cs (s2.heap.objs.size+1) N' s2 H2 fp) rfl rfl rfl hc i [] s hG H _ I (Mn fr) st (js es)) ?_;rintro r s1 ⟨hr,I1⟩;subst hr;obtain⟨m1,NE,_⟩:=I1.loc;refine Pl _ _ s1 H d5 m1 (zL (j4 _)) NE ?_ I1.free (qR _) E' R hm;exact I2.call' I1.os I1.base I1.hok I1.bare λb hb=>⟨(f2 b hb).2.2.2.1,(f2 b hb).2.1,(f2 b hb).2.2.2.2.1,(f2 b hb).2.2.2.2.2⟩
     | some w=>
      obtain⟨go,yl⟩:=jg w es;simp only at e;cases e1:g w ρ' hh with
      | none=>rw[e1] at e;cases e
      | some p=>
       obtain⟨mN,h1⟩:=p;rw[e1] at e;simp only at e;refine ku (T.item (vt X scope cs (s2.heap.objs.size+1) N' s2 H2 fp) rfl rfl rfl hc i [] s hG H _ I (Mn fr) st go) ?_;rintro r s1 ⟨u,hr,q1⟩;subst hr;refine ku q1 ?_;rintro _ s5 ⟨x,H5,I5,r5,y5,Hs,LS⟩;obtain⟨E5,R5,rx⟩:=yl x H5 y5;have LU:=I5.pinned (Mn LS) (T.obj _ _ Hs);refine ku (hg cs _ s2 H2 fp _ s5 hG H5 x u (λEZ H6=>∃Fu,Ext d5 H5 Fu H6/\HR X.K cl Fu H6 h1/\ER X.K Fu H6 mN EZ) LU r5 ⟨d5,hh,ρ',w,mN,h1,R5,Po.ext R E5,rx,e1,λFu H6 EZ E6 R6 Ib=>⟨Fu,E6,R6,Ib⟩⟩) ?_;rintro _ s6 ⟨EZ,H6,I6,Fu,E6,R6,Ib⟩;have Pp:nl<=mN.length:=by
        rw[Ib.len,I6.len];show nl<=N'.length
        rw[ok.len];omega
       have Pq:Ext μ H2 Fu H6:=E'.trans (E5.trans E6);have fin:∀{s9:Å} {H9:Hp} {Lu:List È} {h9:MH},Inv (vt X scope cs (s2.heap.objs.size+1) N' s2 H2 fp) ([]++io fp s5.heap) EZ H9 s9->Ext Fu H6 Lu H9->HR X.K cl Lu H9 h9->xS src nl g t m h.length n (i+1) (ML.blank nl mN) h9=À h'->
         ∃k,k<n+1/\∃i hG H ρ' d5 hh,Inv (vt X scope cs (s2.heap.objs.size+1) N' s2 H2 fp) [] hG H s9/\tn i s9.heap/\(∀b∈fp,H b=Á)/\HR X.K cl d5 H hh/\ER X.K d5 H ρ' hG/\Ext μ H2 d5 H/\nl<=ρ'.length/\d5[h.length]?=À s2.heap.objs.size/\xS src nl g t m h.length k i ρ' hh=À h':=by
        intro s9 H9 Lu h9 I9 E9 R9 e9;refine⟨n,j4 n,i+1,EZ,H9,ML.blank nl mN,Lu,h9,I9.unpinned,T.keep _ _ _ Hs λb hb o e=>(I9.pin (b,o) (zZ _ (zZ _ (de hb e)))).1,λb hb=>?_,R9,(Ib.ext R6 E9).blank Pp,Pq.trans E9,?_,E9.get (E6.get (E5.get hm)),e9⟩
        .obtain⟨o,e,d⟩:=T.obj _ _ Hs b hb
         exact(I9.pin (b,o) (zZ _ (zZ _ (de hb e)))).2.1
        .unfold ML.blank;simp
       cases e2:t mN h1 with
       | none=>rw[e2] at e;cases e
       | some p2=>
        obtain⟨bb,h2⟩:=p2;rw[e2] at e;refine ku (ht cs _ s2 H2 fp _ s6 EZ H6 (λb' H7=>b'=bb/\∃HE,Ext Fu H6 HE H7/\HR X.K cl HE H7 h2) I6 ⟨Fu,h1,mN,bb,h2,R6,Ib,e2,λHE H7 E7 R7=>⟨rfl,HE,E7,R7⟩⟩) ?_;rintro b' s7 ⟨H7,I7,AI,HE,E7,R7⟩;subst AI;cases b' with
        | false=>
         rw[zX zV];exact fin I7 E7 R7 e
        | true=>
         rw[zQ rfl];simp only at e;cases e3:m mN h2 with
         | none=>rw[e3] at e;cases e
         | some p3=>
          obtain⟨y,h3⟩:=p3;rw[e3] at e;simp only at e;refine ku (he cs _ s2 H2 fp _ s7 EZ H7 (λv H8=>∃HF,Ext HE H7 HF H8/\HR X.K cl HF H8 h3/\RW X.K HF H8 y v) I7 ⟨HE,h2,mN,y,h3,R7,Ib.ext R6 E7,e3,λHF H8 v E8 R8 r8=>⟨HF,E8,R8,r8⟩⟩) ?_;rintro xv s8 ⟨v,H8,I8,rv,HF,E8,R8,r8⟩;split at e
          .rename_i acc ho
           split at e
           .rename_i Af
            have Lv:HF[h.length]?=À s2.heap.objs.size:=E8.get (E7.get (E6.get (E5.get hm)));obtain⟨vs,hv,ra⟩:=R8.ob _ _ _ Lv ho;refine ku (oa (X:=vt X scope cs (s2.heap.objs.size+1) N' s2 H2 fp) _ s8 EZ H8 (.ref s2.heap.objs.size) [v] (.ref s2.heap.objs.size) [xv] (λ_ H9=>H9=upd H8 s2.heap.objs.size (.lst (vs++[v]))) I8 rfl (.cons rv .nil) ⟨_,vs,v,rfl,rfl,hv,zN (by rw[<-ra.length];exact Af) ya,rfl⟩) ?_;rintro _ s9 ⟨_,H9,I9,_,Pr⟩;subst Pr;exact fin I9 (E7.trans (E8.trans (.put Lv))) (R8.put (o:=.lst (acc++[y])) Lv ⟨vs++[v],qa,(ra.append (.cons r8 .nil)).ext R8 (.put Lv)⟩) e
           .cases e
          .cases e
  .have R3:HR X.K cl (μ++[s2.heap.objs.size]) (upd H2 s2.heap.objs.size (.lst [])) (h++[.lst []]):=R2.new Ml ⟨[],qa,.nil⟩
   exact⟨0,σC nl ks σ,_,ρC nl ks ρ,_,_,I3,Iu,Lp,R3,(GE er).ext R2 (.new Ml),.new Ml,by unfold ρC;simp,by rw[<-R2.len];simp,e⟩
 exact codeAny_compStart_list (loop _ rfl) (T.self _ 0 _ _ _ Iu (loop _ rfl))
def lM{H:Hp}{h1:MH}
  (hc:X.calm=Â) (Ao:X.env.scope=sc) (hN:X.N=N) (ok:CompOk sc N scope N' nl ks) (hi:SI X cl tg iter mi)
  (hg:∀cs C s₀ H₀ ex,SG (vt X scope cs C N' s₀ H₀ ex) cl tg g) (ht:∀cs C s₀ H₀ ex,gS (vt X scope cs C N' s₀ H₀ ex) cl ifs t) (he:∀cs C s₀ H₀ ex,SE (vt X scope cs C N' s₀ H₀ ex) cl elt m)
  (I:Inv X ag σ H s) (R:HR X.K cl μ H h) (er:ER X.K μ H ρ σ) (e:eU mi nl ks g t m ρ h=À (n0,h1,h2)) (hs:∀x,ê iter X.env x=pure x)
  (k:∀D C s' H' d5 m' s2 H1 d3,D≠C->s'.heap.Ns C m'->Inv X ag σ H' s'->H' C=Á->X.env.locals≠C->(∀x c,X.env.cells.lookup x=À c->c≠C)->(X.s₀.heap.objs.size<=C)->(∀p∈X.pn++ag,p.1≠C)->Inv X ag σ H1 s2->Ext μ H d3 H1->HR X.K cl d3 H1 h1->Ext d3 H1 d5 H'->HR X.K cl d5 H' h2->h1.length=n0->d5[n0]?=À D->
   compPost (Í X.prog X.w) X.A X.xe use Q (.ref D) C (.ok .next) s') :
  É (Í X.prog X.w) X.A (comprehension (.ListComp elt [⟨tg,iter,ifs,0⟩] scope pos) scope X.env p2 (newList []) Ä (å iter X.env) use) Q X.xe s:=by
 subst Ao;have AC:∀y∈scope.names,y.2=.free->∃c,X.env.cells.lookup y.1=À c:=λy hy e=>I.ok.has y.1 (gM (ok.fall y hy e))
 obtain⟨cs,IL,AE,Ae⟩:=pK AC;have key:∀{src:Src} {k0:Nat},mi ρ h=À (src,h1)->xS src nl g t m h1.length k0 0 (ρC nl ks ρ) (h1++[.lst []])=À h2->n0=h1.length->
   É (Í X.prog X.w) X.A (comprehension (.ListComp elt [⟨tg,iter,ifs,0⟩] scope pos) scope X.env p2 (newList []) Ä (å iter X.env) use) Q X.xe s:=by
  intro src k0 e1 e2 Pt;subst Pt;refine wpAny_comprehension_free (use:=use) rfl hs IL ok.kind ok.names ?_;refine ku (hi ag s σ H (λJ H1=>∃d3,Ext μ H d3 H1/\HR X.K cl d3 H1 h1/\JR X.K cl J src d3 H1) I ⟨μ,h,ρ,src,h1,R,er,e1,λd3 H1 J E1 R1 j=>⟨d3,E1,R1,j⟩⟩) λv s1 q1=>ku q1 λLR s2 q2=>?_
  obtain⟨it,fp,tn,J,H2,rfl,I2,T,GX,f2,hX,E2,R2,j⟩:=q2;refine Qz (RR:=λacc C=>compPost (Í X.prog X.w) X.A X.xe use Q acc C) hc rfl hN ok hg ht he I2 T GX f2 AE Ae R2 (er.ext R E2) j e2 ?_;intro D C s' H' d5 m' Lx Ap I' HG hC E' R' hm;refine k D C s' H' d5 m' s2 H2 hX Lx Ap I' HG (zL (zN I2.lt hC)) (λx c e z=>?_) (zp I2.sz hC) (λp hp z=>?_) I2 E2 R2 E' R' rfl hm
  .obtain⟨v,o,ho,_⟩:=I2.cell x c e
   exact absurd (zN (zJ ho) (z▸hC)) (jO _)
  .exact absurd (zN (zJ (I2.pin p hp).1) (z▸hC)) (jO _)
 unfold eU at e;split at e
 .cases e
 .rename_i l Ly e1
  split at e
  .rename_i Ay e2
   cases e;have q:=fg (nl:=nl) (g:=g) (t:=t) (m:=m) (n0:=h1.length) l (l.length+1) 0 (ρC nl ks ρ) (h1++[.lst []]) ∅ ∅;rw[List.drop_zero] at q;exact key e1 (q.trans e2) rfl
  .cases e
 .rename_i n Ly e1
  split at e
  .rename_i Ay e2
   cases e;exact key e1 e2 rfl
  .cases e
def WA(sc:ë)(N N':List Ç)(nl:Nat)(ks:List Nat)(hc:X.calm=Â)(ok:x5 sc N scope N' nl ks=Â)(hi:SI X cl tg iter mi)
  (hg:∀cs C s₀ H₀ ex,SG (vt X scope cs C N' s₀ H₀ ex) cl tg g) (ht:∀cs C s₀ H₀ ex,gS (vt X scope cs C N' s₀ H₀ ex) cl ifs t) (he:∀cs C s₀ H₀ ex,SE (vt X scope cs C N' s₀ H₀ ex) cl elt m)
  (Ao:↥(X.env.scope=sc)) (hN:↥(X.N=N)) (hs:∀x,ê iter X.env x=pure x:=by intro _;rfl):SE X cl (.ListComp elt [⟨tg,iter,ifs,0⟩] scope pos) (gJ mi nl ks g t m):=by
 rintro ag s σ H Q I ⟨μ,h,ρ,w,h',R,er,e,k⟩;unfold gJ at e;split at e
 .rename_i n0 h1 h2 e1
  cases e;rw[eval_ListComp];refine lM (use:=Á) hc Ao hN (cf ok) hi hg ht he I R er e1 hs λD C s' H' d5 m' s2 H1 d3 Lx Ap I' HG hL G2 IM FB I2 E1 R1 E' R' hn hm=>?_
  exact⟨m',Ap,λPu IP=>⟨.ref D,H',I'.turned (t':=s'.toks) (λb o hb e=>(IP.2 b hb).trans e) HG (jn hL) (.inr IM) G2 FB,rfl,k d5 H' _ (E1.trans E') R' (.ref hm)⟩⟩
 .cases e
def m9{K:Te}{μ d3 d5:List È}{H H1 H':Hp}{h1 h2:MH}(k:KQ K cl μ H h1 (.fls l) Q)(E1:Ext μ H d3 H1)(R1:HR K cl d3 H1 h1)(E':Ext d3 H1 d5 H')(R':HR K cl d5 H' h2)(hn:h1.length=n0)(hm:d5[n0]?=À D)
  (ho:h2[n0]?=À (.lst l)) (pre:h1<+:h2) (lo:lows h1.length l=Â):Q (.ref D) H':=by
 obtain⟨vs,hv,rv⟩:=R'.ob _ _ _ hm ho;have cut:Ext d3 H1 d3 H':=⟨jw _,λb o e n=>⟨(E'.fr b o e n).1,n⟩⟩;refine k d3 H' _ (E1.trans cut) (R1.cut E' R' pre) (.fls (.inl ⟨.inl hv,λz=>?_⟩) (RWs.cut E'.pre (by rw[R1.len];exact lo) rv));obtain⟨q,hq⟩:=qJ.mp z;have h3:=E'.get hq;have Af:q<d3.length:=(zu.mp hq).1;obtain⟨z1,z2⟩:=zu.mp h3;obtain⟨z3,z4⟩:=zu.mp hm;have:q=n0:=(ym R'.nd).mp (z2.trans z4.symm);subst this;rw[R1.len] at Af;omega
def UV(sc:ë)(N N':List Ç)(nl:Nat)(ks:List Nat)(hc:X.calm=Â)(ok:x5 sc N scope N' nl ks=Â)(hi:SI X cl tg iter mi)
  (hg:∀cs C s₀ H₀ ex,SG (vt X scope cs C N' s₀ H₀ ex) cl tg g) (ht:∀cs C s₀ H₀ ex,gS (vt X scope cs C N' s₀ H₀ ex) cl ifs t) (he:∀cs C s₀ H₀ ex,SE (vt X scope cs C N' s₀ H₀ ex) cl elt m)
  (Ao:↥(X.env.scope=sc)) (hN:↥(X.N=N)) (hs:∀x,ê iter X.env x=pure x:=by intro _;rfl):SE X cl (.ListComp elt [⟨tg,iter,ifs,0⟩] scope pos) (kz mi nl ks g t m):=by
 rintro ag s σ H Q I ⟨μ,h,ρ,w,h',R,er,e,k⟩;unfold kz at e;split at e
 .rename_i n0 h1 h2 e1
  split at e
  .rename_i l ho
   split at e
   .rename_i c
    cases e;rw[eval_ListComp];refine lM (use:=Á) hc Ao hN (cf ok) hi hg ht he I R er e1 hs λD C s' H' d5 m' s2 H1 d3 Lx Ap I' HG hL G2 IM FB I2 E1 R1 E' R' hn hm=>?_
    exact⟨m',Ap,λPu IP=>⟨.ref D,H',I'.turned (t':=s'.toks) (λb o hb e=>(IP.2 b hb).trans e) HG (jn hL) (.inr IM) G2 FB,rfl,m9 k E1 R1 E' R' hn hm ho c.1 c.2⟩⟩
   .cases e
  .cases e
 .cases e
def mU{AR:ĝ}{H:Hp}{h1:MH}{D:Ends}
  (AO:X.N.Nodup) (Ek:X.N[i]?=À x) (hx:X.env.kindOf x=À .local) (A8:Ď (.ListComp elt [⟨tg,iter,ifs,0⟩] scope pos) (À (.Name x px)) AR.line X.env=pure Â)
  (hc:X.calm=Â) (Ao:X.env.scope=sc) (hN:X.N=N) (ok:CompOk sc N scope N' nl ks) (hi:SI X cl tg iter mi)
  (hg:∀cs C s₀ H₀ ex,SG (vt X scope cs C N' s₀ H₀ ex) cl tg g) (ht:∀cs C s₀ H₀ ex,gS (vt X scope cs C N' s₀ H₀ ex) cl ifs t) (he:∀cs C s₀ H₀ ex,SE (vt X scope cs C N' s₀ H₀ ex) cl elt m)
  (I:Inv X ag σ H s) (R:HR X.K cl μ H h) (er:ER X.K μ H ρ σ) (e:eU mi nl ks g t m ρ h=À (n0,h1,h2)) (hs:∀x,ê iter X.env x=pure x)
  (k:∀A H' d5 H1 d3,Ext μ H d3 H1->HR X.K cl d3 H1 h1->Ext d3 H1 d5 H'->HR X.K cl d5 H' h2->h1.length=n0->d5[n0]?=À A->D.nx (σ.set i (À (.ref A))) H') :
  É (Í X.prog X.w) X.A (exec (.Assign [.Name x px] (.ListComp elt [⟨tg,iter,ifs,0⟩] scope pos) AR) X.env) (SP X ag D) X.xe s:=by
 rw[exec_Assign_Name_used _ _ _ _ A8];refine za (wpAny_standAt (za ?_));show É _ X.A (do let _ <-comprehension (.ListComp elt [⟨tg,iter,ifs,0⟩] scope pos) scope X.env _ (newList []) Ä (å iter X.env) (À (Ľ (.Name x px) X.env))) _ _ s
 refine za (qe (lM (use:=À (Ľ (.Name x px) X.env)) (Q:=λ_ s'=>SP X ag D .next s') hc Ao hN ok hi hg ht he I R er e hs ?_) (λ_ s' hq=>zf (zf hq)) λ_ _ e=>e);intro A C s' H' d5 m' s2 H1 d3 Lx Ap I' HG hL G2 IM FB I2 E1 R1 E' R' hn hm;show É _ X.A (Ľ (.Name x px) X.env (.ref A)) _ _ _
 refine wpAny_assign_Name (nU (v:=.ref A) I' AO Ek (.inl hx) rfl (λHt Pv IP=>?_) (.inr hx));obtain⟨a,sb,ha⟩:=IP;have Pw:C≠a:=by
  rcases ha with rfl | ha
  .exact jn hL
  .exact λz=>G2 x a ha z.symm
 refine⟨m',Ap.sameBut sb Pw,λh3 G3=>⟨_,H',Pv.turned (t':=Ht.toks) (λb o hb e=>(G3.2 b hb).trans e) HG (jn hL) (.inr IM) G2 FB,k A H' d5 H1 d3 E1 R1 E' R' hn hm⟩⟩
def W2(i:Nat)(sc:ë)(N N':List Ç)(nl:Nat)(ks:List Nat){AR:ĝ}(AO:X.N.Nodup)(hc:X.calm=Â)(ok:x5 sc N scope N' nl ks=Â)(hi:SI X cl tg iter mi)
  (hg:∀cs C s₀ H₀ ex,SG (vt X scope cs C N' s₀ H₀ ex) cl tg g) (ht:∀cs C s₀ H₀ ex,gS (vt X scope cs C N' s₀ H₀ ex) cl ifs t) (he:∀cs C s₀ H₀ ex,SE (vt X scope cs C N' s₀ H₀ ex) cl elt m)
  (Ao:↥(X.env.scope=sc)) (hN:↥(X.N=N)) (hs:∀x,ê iter X.env x=pure x:=by intro _;rfl) (Ek:↥(X.N[i]?=À x)) (hx:↥(X.env.kindOf x=À .local))
  (A8:↥(Ď (.ListComp elt [⟨tg,iter,ifs,0⟩] scope pos) (À (.Name x px)) AR.line X.env=pure Â)):SS X cl (.Assign [.Name x px] (.ListComp elt [⟨tg,iter,ifs,0⟩] scope pos) AR) (zI (gJ mi nl ks g t m) (zw i)):=by
 rintro ag s σ H D I ⟨μ,h,ρ,fl,h',R,er,e,k⟩;unfold zI at e;split at e
 .rename_i w h2 e1
  split at e
  .rename_i oj h3 e2
   cases e;unfold gJ at e1;split at e1
   .rename_i n0 h1 Ay e0
    cases e1;unfold zw at e2;split at e2
    .rename_i Ed
     cases e2;exact mU AO Ek hx A8 hc Ao hN (cf ok) hi hg ht he I R er e0 hs λA H' d5 H1 d3 E1 R1 E' R' hn hm=>k d5 H' (E1.trans E') R' _ ((er.ext R (E1.trans E')).set Ed (.ref hm))
    .cases e2
   .cases e1
  .cases e
 .cases e
def UH(i:Nat)(sc:ë)(N N':List Ç)(nl:Nat)(ks:List Nat){elt tg iter:Î}{ifs:List Î}{scope:ë}{pos AR px:ĝ}{x:Ç}(AO:X.N.Nodup)(hc:X.calm=Â)(ok:x5 sc N scope N' nl ks=Â)(hi:SI X cl tg iter mi)
  (hg:∀cs C s₀ H₀ ex,SG (vt X scope cs C N' s₀ H₀ ex) cl tg g) (ht:∀cs C s₀ H₀ ex,gS (vt X scope cs C N' s₀ H₀ ex) cl ifs t) (he:∀cs C s₀ H₀ ex,SE (vt X scope cs C N' s₀ H₀ ex) cl elt m)
  (Ao:↥(X.env.scope=sc)) (hN:↥(X.N=N)) (hs:∀x,ê iter X.env x=pure x:=by intro _;rfl) (Ek:↥(X.N[i]?=À x)) (hx:↥(X.env.kindOf x=À .local))
  (A8:↥(Ď (.ListComp elt [⟨tg,iter,ifs,0⟩] scope pos) (À (.Name x px)) AR.line X.env=pure Â)):SS X cl (.Assign [.Name x px] (.ListComp elt [⟨tg,iter,ifs,0⟩] scope pos) AR) (zI (kz mi nl ks g t m) (zw i)):=by
 rintro ag s σ H D I ⟨μ,h,ρ,fl,h',R,er,e,k⟩;unfold zI at e;split at e
 .rename_i w h2 e1
  split at e
  .rename_i oj h3 e2
   cases e;unfold kz at e1;split at e1
   .rename_i n0 h1 Ay e0
    split at e1
    .rename_i l ho
     split at e1
     .rename_i c
      cases e1;unfold zw at e2;split at e2
      .rename_i Ed
       cases e2;refine mU AO Ek hx A8 hc Ao hN (cf ok) hi hg ht he I R er e0 hs λA H' d5 H1 d3 E1 R1 E' R' hn hm=>?_
       exact m9 (Q:=λv H'=>D.nx (σ.set i (À v)) H') (λAN H3 v E3 R3 r3=>k AN H3 E3 R3 _ ((er.ext R E3).set Ed r3)) E1 R1 E' R' hn hm ho c.1 c.2
      .cases e2
     .cases e1
    .cases e1
   .cases e1
  .cases e
 .cases e
end
def mY{X:Cx}{ag:List (È×ó)}{σ:L2.St}{H:Hp}{s:Å}{h':Õ}{t':Nat}{fp:List È}(I:Inv X ag σ H s)(k:∀b o,b∉fp->s.heap.get? b=À o->h'.get? b=À o)(hf:∀b∈fp,aT X ag H b) :
  Inv X ag σ H { s with heap:=h',toks:=t' }:=by
 have away:∀b u,H b=À u->b∉fp:=λb u e z=>by rw[(hf b z).1] at e;cases e
 refine I.step (g':=s.gens) (d':=s.drawn) (ch:=fp) (λb hb=>⟨(hf b hb).2.2.2.1,(hf b hb).2.1,(hf b hb).2.2.2.2.1,(hf b hb).2.2.2.2.2⟩) (λb o _ _ hc e _=>k b o hc e) (λb o _ _ hc e _=>⟨o.slots,k b o hc e⟩) (λ_ _ _ _ n=>n)
  (λb o hc e=>⟨o,k b o hc e⟩) (λ_ _ e=>e) (λ_ _ _ e=>e) (λb ps e=>⟨#[],by rw[e];simp⟩) (λm hm=>?_) (λb u e=>?_) I.bare
 .obtain⟨o,es,ep,ho,r⟩:=hm
  exact⟨o,es,ep,k _ o (λz=>(hf _ z).2.1 rfl) ho,r⟩
 .refine(I.hok b u e).stay (λc v hc q=>k c v ?_ q) (λ_ q=>q) λ_ _ q=>q
  rcases hc with z | z
  .rw[z];exact away b u e
  .exact away c _ z
structure Stp(it a:È)(P:Nat->Õ->Prop)(C:Õ->List Ã->Prop):Prop where
 keep:∀{i:Nat} {h h':Õ},P i h->(∀o,h.get? it=À o->h'.get? it=À o)->P i h'
 keepC:∀{h h':Õ} {l:List Ã},C h l->(∀o,h.get? a=À o->h'.get? a=À o)->C h' l
 obj:∀{i:Nat} {h:Õ},P i h->∃o,h.get? it=À o/\∀v,o.data≠.cell v
 item:∀{prog:Ï} {w:Ô} {A:Ù} {E:Ã->Å->Prop} {s:Å} {i:Nat} {l:List Ã} {x:Ã} {Q:Ã->Å->Prop},P i s.heap->C s.heap l->l[i]?=À x->
  (∀h',P (i+1) h'->Ü it s.heap h'->Q x { s with heap:=h' })->É (Í prog w) A (Û (.ref it)) Q E s
 last:∀{prog:Ï} {w:Ô} {A:Ù} {E:Ã->Å->Prop} {s:Å} {i:Nat} {l:List Ã} {Q:Ã->Å->Prop},A.handled=Á->P i s.heap->C s.heap l->l[i]?=Á->
  (∀h' e,Ű it s.heap h'->(∃o,h'.get? e=À o/\o.cls=.type "StopIteration")->E (.ref e) { s with heap:=h' })->É (Í prog w) A (Û (.ref it)) Q E s
def VT(it a:È):Stp it a (λi h=>h.IsListIter it a i) (λh l=>h.IsList a l.toArray) where
 keep:=λp k=>p.at λo e=>k o e
 keepC:=λp k=>p.at λo e=>k o e
 obj:=λ⟨o,e,_,d⟩=>⟨o,e,λv z=>by rw[d] at z;cases z⟩
 item:=λp c e q=>wpAny_nextOf_list_item p c (by simpa using e) q
 last:=λhh p c e q=>wpAny_nextOf_list_end hh p c (by simpa using e) q
section
variable{prog:Ï}{w:Ô}{A:Ù}{E:Ã->Å->Prop}{s:Å}
def iV{items:Array Ã}(hit:s.heap.IsTupleIter it t i)(ht:s.heap.IsTuple t items)(hx:items[i]?=À x)
  (hQ:∀h',h'.IsTupleIter it t (i+1)->Ü it s.heap h'->Q x { s with heap:=h' }):É (Í prog w) A (Û (.ref it)) Q E s:=by
 obtain⟨oi,gi,ci,di⟩:=id hit;obtain⟨ot,gt,_,nt,dt⟩:=ht;unfold Û;refine za (jy (name:=ù "__next__") hit.typeIs vK (jk vK hit.typeIs uU ?_ (uO _)));show É _ _ (field (.ref it) 0 >>= _) _ _ s;refine za (j7 gi di (x:=.ref t) rfl ?_)
 show É _ _ (if (Ê t==Ö)=Â then _ else _) _ _ s;rw[zX (show ¬((Ê t==Ö)=Â) from zV)]
 show É _ _ (field (.ref it) 1 >>= _) _ _ s;refine za (j7 gi di (x:=.int i 0) rfl ?_)
 show É _ _ (seqItems? (.ref t) >>= _) _ _ s;refine za (jT gt dt ?_)
 erw[jo,hx];refine za (xJ gi di (by simp) (zf ⟨x,rfl,zf (hQ _ ?_ (qg ..))⟩));exact⟨_,jD _ gi (Ũ (yh di _)),(Obj.cls_mapFields ..).trans ci,by rw[yh di];simp[ÿ]⟩
def lC{items:Array Ã}(hh:A.handled=Á)(hit:s.heap.IsTupleIter it t i)(ht:s.heap.IsTuple t items)(hx:items[i]?=Á)
  (hE:∀h' e,Ű it s.heap h'->(∃o,h'.get? e=À o/\o.cls=.type "StopIteration")->E (.ref e) { s with heap:=h' }):É (Í prog w) A (Û (.ref it)) Q E s:=by
 obtain⟨oi,gi,ci,di⟩:=id hit;obtain⟨ot,gt,_,nt,dt⟩:=ht;unfold Û;refine za (jy (name:=ù "__next__") hit.typeIs vK (jk vK hit.typeIs uU ?_ (uO _)));show É _ _ (field (.ref it) 0 >>= _) _ _ s;refine za (j7 gi di (x:=.ref t) rfl ?_)
 show É _ _ (if (Ê t==Ö)=Â then _ else _) _ _ s;rw[zX (show ¬((Ê t==Ö)=Â) from zV)]
 show É _ _ (field (.ref it) 1 >>= _) _ _ s;refine za (j7 gi di (x:=.int i 0) rfl ?_)
 show É _ _ (seqItems? (.ref t) >>= _) _ _ s;refine za (jT gt dt ?_)
 erw[jo,hx];refine za (vq (za (xJ gi di (by simp) ?_)));show É _ _ (newExc (.type "StopIteration") [] >>= _) _ _ _
 refine za ?_;erw[newExc,newTuple];refine za (jd ?_ (by size_fits));refine za (m:=į _ _) (wQ (a:=Ö) (by first | rfl | (erw[į];rfl)) ?_);refine jd ?_ (by size_fits);erw[raiseNew];refine za (wpAny_handled ?_);first | rw[show A.in1.handled=Á from hh] | rw[hh]
 refine za (zf (xP ?_));exact hE _ _ (((qg ..).extBut.push _).push _) ⟨_,zH _ rfl,rfl⟩
end
def Qv(it a:È):Stp it a (λi h=>h.IsTupleIter it a i) (λh l=>h.IsTuple a l.toArray) where
 keep:=λp k=>p.at λo e=>k o e
 keepC:=λp k=>p.at λo e=>k o e
 obj:=λ⟨o,e,_,d⟩=>⟨o,e,λv z=>by rw[d] at z;cases z⟩
 item:=λp c e q=>iV p c (by simpa using e) q
 last:=λhh p c e q=>lC hh p c (by simpa using e) q
structure ZApart(z TI TO i1 i2 a1 a2:È):Prop where
 nd:[z,TI,TO,i1,i2].Nodup
 f1:a1∉[z,TI,TO,i1,i2]
 f2:a2∉[z,TI,TO,i1,i2]
noncomputable def Yl(z TI TO i1 i2:È)(P1 P2:Nat->Õ->Prop)(f0:Ã)(k1 k2:Nat)(h:Õ):Prop:=IsZip h z TI TO f0/\ş h TI (.ref i1) (.ref i2)/\(∃a b,ş h TO a b)/\P1 k1 h/\P2 k2 h
section
variable{prog:Ï}{w:Ô}{A:Ù}{E:Ã->Å->Prop}{s:Å}{z TI TO i1 i2 a1 a2:È}{P1 P2:Nat->Õ->Prop}{C1 C2:Õ->List Ã->Prop}
def WM(S1:Stp i1 a1 P1 C1)(S2:Stp i2 a2 P2 C2)(D:ZApart z TI TO i1 i2 a1 a2){l1 l2:List Ã}(st:Yl z TI TO i1 i2 P1 P2 .none k k s.heap)(c1:C1 s.heap l1)(c2:C2 s.heap l2)(hx:l1[k]?=À x)(hy:l2[k]?=À y)
  (hQ:∀h',Yl z TI TO i1 i2 P1 P2 (ÿ s.heap.objs.size) (k+1) (k+1) h'->h'.get? s.heap.objs.size=À { cls:=.type "tuple",data:=.seq #[x,y] }->(∀c o,c∉[z,TI,TO,i1,i2]->s.heap.get? c=À o->h'.get? c=À o)->Q (À (.ref s.heap.objs.size)) { s with heap:=h' }) :
  É (Í prog w) A (ę (.ref z)) Q E s:=by
 obtain⟨hz,FK,⟨a,b,G4⟩,p1,p2⟩:=st;have n:=D.nd;erw[jL,zg,zA,kO,yw] at n;obtain⟨⟨n1,n2,n3,n4⟩,⟨n5,n6,n7⟩,⟨n8,n9⟩,Lz,_⟩:=n;have g1:=D.f1;have g2:=D.f2;erw[zg,zA,kO,yw] at g1 g2;obtain⟨Mo,Px,Py,Pz,PB⟩:=g1;obtain⟨Mp,PD,Mq,Mr,PF⟩:=g2;have hT:s.TypeIs (.ref z) "zip":=⟨_,hz,rfl⟩;unfold ę;refine za (vA (jy (name:=ù "__next__") hT yZ (jk yZ hT F.entry_zip_next ?_ (F.args_zip_next_1 _))));show É _ _ (field (.ref z) 2 >>= _) _ _ _;refine za (j7 hz rfl (x:=.bool Ä) rfl ?_)
 show É _ _ (field (.ref z) 3 >>= _) _ _ _;refine za (j7 hz rfl (x:=.ref TI) rfl ?_)
 refine za (jT FK rfl ?_);show É _ _ (ï (.ref z) >>= _) _ _ _
 refine za ?_;unfold ï;refine za (j7 hz rfl (x:=.none) rfl (zf ?_));erw[je];refine za (vq ?_);refine za (j7 hz rfl (x:=.ref TO) rfl ?_);refine za (jx hz (by simp) λh1 q1 e1=>?_);replace q1:IsZip h1 z TI TO .ellipsis:=q1;refine za ?_;erw[xU,List.zipIdx_nil,vP,List.forIn_nil];refine za (za (uc ?_));show É _ _ (Û (.ref i1) >>= _) _ _ _
 refine za (S1.item (S1.keep p1 λo e=>e1.extBut _ _ (jn n3) e) (S1.keepC c1 λo e=>e1.extBut _ _ Mo e) hx λh2 r1 e2=>zf ?_);have t2:ş h2 TO a b:=e2.extBut _ _ n8 (e1.extBut _ _ (jn n2) G4);refine za (jT t2 rfl ?_);refine za (xm t2 λh3 t3 e3=>?_);replace t3:ş h3 TO x b:=t3
 refine za (wpAny_letGo (zf ?_));refine za (za (uc ?_));show É _ _ (Û (.ref i2) >>= _) _ _ _
 refine za (S2.item (S2.keep p2 λo e=>e3.extBut _ _ (jn n9) (e2.extBut _ _ (jn Lz) (e1.extBut _ _ (jn n4) e))) (S2.keepC c2 λo e=>e3.extBut _ _ Mq (e2.extBut _ _ Mr (e1.extBut _ _ Mp e))) hy λh4 r2 e4=>zf ?_);have t4:ş h4 TO x b:=e4.extBut _ _ n9 t3;refine za (jT t4 rfl ?_);refine za (xm t4 λh5 t5 e5=>?_);replace t5:ş h5 TO x y:=t5
 refine za (wpAny_letGo (zf (zf ?_)));refine za (jT t5 rfl ?_);refine za (u0 ?_);have sz:h5.objs.size=s.heap.objs.size:=by rw[e5.1,e4.1,e3.1,e2.1,e1.1]
 have all:∀c o,c∉[z,TI,TO,i1,i2]->s.heap.get? c=À o->h5.get? c=À o:=λc o hc e=>by
  erw[zg,zA,kO,yw] at hc;exact e5.extBut _ _ hc.2.2.1 (e4.extBut _ _ hc.2.2.2.2 (e3.extBut _ _ hc.2.2.1 (e2.extBut _ _ hc.2.2.2.1 (e1.extBut _ _ hc.1 e))))
 have z5:IsZip h5 z TI TO .ellipsis:=e5.extBut _ _ n2 (e4.extBut _ _ n4 (e3.extBut _ _ n2 (e2.extBut _ _ n3 q1)));have PH:ş h5 TI (.ref i1) (.ref i2):=e5.extBut _ _ n5 (e4.extBut _ _ n7 (e3.extBut _ _ n5 (e2.extBut _ _ n6 (e1.extBut _ _ (jn n1) FK))));have u1:P1 (k+1) h5:=S1.keep r1 λo e=>e5.extBut _ _ (jn n8) (e4.extBut _ _ Lz (e3.extBut _ _ (jn n8) e))
 have u2:P2 (k+1) h5:=S2.keep r2 λo e=>e5.extBut _ _ (jn n9) e
 have LA:z<h5.objs.size:=zJ z5;show É _ _ (ģ (.ref z) (.ref h5.objs.size) >>= _) _ _ _
 refine za ?_;unfold ģ;have z6:IsZip (h5.push { cls:=.type "tuple",data:=.seq #[x,y] }) z TI TO .ellipsis:=zc _ z5;refine za (jx z6 (by simp) λh7 z7 e7=>?_);replace z7:IsZip h7 z TI TO (ÿ h5.objs.size):=z7;refine jx z7 (by simp) λh8 z8 e8=>?_
 replace z8:IsZip h8 z TI TO (ÿ h5.objs.size):=z8
 have up:∀c o,c≠z->h5.get? c=À o->h8.get? c=À o:=λc o c1 e=>e8.extBut _ _ c1 (e7.extBut _ _ c1 (zc _ e))
 have t8:h8.get? h5.objs.size=À { cls:=.type "tuple",data:=.seq #[x,y] }:=e8.extBut _ _ (v6 LA) (e7.extBut _ _ (v6 LA) (zH _ rfl));rw[sz] at z8 t8;refine zf ⟨_,rfl,zf ?_⟩;show Q (À (.ref h5.objs.size)) _
 rw[sz];exact hQ h8 ⟨z8,up _ _ (jn n1) PH,⟨x,y,up _ _ (jn n2) t5⟩,S1.keep u1 λo e=>up _ o (jn n3) e,S2.keep u2 λo e=>up _ o (jn n4) e⟩ t8 λc o hc e=>up c o (λq=>hc (by simp[q])) (all c o hc e)
def Yd(S1:Stp i1 a1 P1 C1)(S2:Stp i2 a2 P2 C2)(D:ZApart z TI TO i1 i2 a1 a2){l1 l2:List Ã}(hh:A.handled=Á)(st:Yl z TI TO i1 i2 P1 P2 .none k k s.heap)(c1:C1 s.heap l1)(c2:C2 s.heap l2)(he:l1[k]?=Á\/l2[k]?=Á)
  (hQ:∀h',(∀c o,c∉[z,TI,TO,i1,i2]->s.heap.get? c=À o->h'.get? c=À o)->Q Á { s with heap:=h' }):É (Í prog w) A (ę (.ref z)) Q E s:=by
 obtain⟨hz,FK,⟨a,b,G4⟩,p1,p2⟩:=st;have n:=D.nd;erw[jL,zg,zA,kO,yw] at n;obtain⟨⟨n1,n2,n3,n4⟩,⟨n5,n6,n7⟩,⟨n8,n9⟩,Lz,_⟩:=n;have g1:=D.f1;have g2:=D.f2;erw[zg,zA,kO,yw] at g1 g2;obtain⟨Mo,Px,Py,Pz,PB⟩:=g1;obtain⟨Mp,PD,Mq,Mr,PF⟩:=g2;have hT:s.TypeIs (.ref z) "zip":=⟨_,hz,rfl⟩;have stop:∀{h':Õ} {e:È},(∃o,h'.get? e=À o/\o.cls=.type "StopIteration")->(∀c o,c∉[z,TI,TO,i1,i2]->s.heap.get? c=À o->h'.get? c=À o)->
   É (Í prog w) A (isInstance (.ref e) (.type "StopIteration") >>= λx=>if x=Â then pure Á else throw (.ref e)) Q E { s with heap:=h' }:=λ{h' e} ⟨o,ho,hc⟩ kk=>
  za (qM (T:="StopIteration") (b:=Â) ⟨o,ho,hc⟩ u6 (zf (hQ _ kk)))
 unfold ę;refine za (vA (jy (name:=ù "__next__") hT yZ (jk yZ hT F.entry_zip_next ?_ (F.args_zip_next_1 _))));show É _ _ (field (.ref z) 2 >>= _) _ _ _;refine za (j7 hz rfl (x:=.bool Ä) rfl ?_)
 show É _ _ (field (.ref z) 3 >>= _) _ _ _;refine za (j7 hz rfl (x:=.ref TI) rfl ?_)
 refine za (jT FK rfl ?_);show É _ _ (ï (.ref z) >>= _) _ _ _
 refine za ?_;unfold ï;refine za (j7 hz rfl (x:=.none) rfl (zf ?_));erw[je];refine za (vq ?_);refine za (j7 hz rfl (x:=.ref TO) rfl ?_);refine za (jx hz (by simp) λh1 q1 e1=>?_);replace q1:IsZip h1 z TI TO .ellipsis:=q1;refine za ?_;erw[xU,List.zipIdx_nil,vP,List.forIn_nil];refine za (za (uc ?_));show É _ _ (Û (.ref i1) >>= _) _ _ _
 have NK:=S1.keep (h':=h1) p1 λo e=>e1.extBut _ _ (jn n3) e
 have LC:=S1.keepC (h':=h1) c1 λo e=>e1.extBut _ _ Mo e
 cases hx:l1[k]? with
 | none=>
  refine za (S1.last hh NK LC hx ?_);rintro h2 e e2 ⟨oe,ge,ce⟩;have z2:IsZip h2 z TI TO .ellipsis:=e2 _ _ n3 q1;have ne:e≠z:=λq=>by subst q;rw[z2] at ge;cases ge;simp at ce
  refine jx z2 (by simp) λh3 _ e3=>?_
  refine stop ⟨oe,e3.extBut _ _ ne ge,ce⟩ λc o hc g=>?_
  erw[zg,zA,kO,yw] at hc;exact e3.extBut _ _ hc.1 (e2 _ _ hc.2.2.2.1 (e1.extBut _ _ hc.1 g))
 | some x=>
  have hy:l2[k]?=Á:=by rcases he with h | h;rw[hx] at h;cases h;exact h
  refine za (S1.item NK LC hx λh2 r1 e2=>zf ?_);have t2:ş h2 TO a b:=e2.extBut _ _ n8 (e1.extBut _ _ (jn n2) G4);refine za (jT t2 rfl ?_);refine za (xm t2 λh3 t3 e3=>?_);refine za (wpAny_letGo (zf ?_));refine za (za (uc ?_));show É _ _ (Û (.ref i2) >>= _) _ _ _
  refine za (S2.last hh (S2.keep p2 λo e=>e3.extBut _ _ (jn n9) (e2.extBut _ _ (jn Lz) (e1.extBut _ _ (jn n4) e))) (S2.keepC c2 λo e=>e3.extBut _ _ Mq (e2.extBut _ _ Mr (e1.extBut _ _ Mp e))) hy ?_);rintro h4 e e4 ⟨oe,ge,ce⟩;have z4:IsZip h4 z TI TO .ellipsis:=e4 _ _ n4 (e3.extBut _ _ n2 (e2.extBut _ _ n3 q1));have ne:e≠z:=λq=>by subst q;rw[z4] at ge;cases ge;simp at ce
  refine jx z4 (by simp) λh5 _ e5=>?_
  refine stop ⟨oe,e5.extBut _ _ ne ge,ce⟩ λc o hc g=>?_
  erw[zg,zA,kO,yw] at hc;exact e5.extBut _ _ hc.1 (e4 _ _ hc.2.2.2.2 (e3.extBut _ _ hc.2.2.1 (e2.extBut _ _ hc.2.2.2.1 (e1.extBut _ _ hc.1 g))))
end
noncomputable def mE(v:Ã)(o:ó)(C:Õ->Prop):Prop:=∀(prog:Ï) (w:Ô) (A:Ù) (E:Ã->Å->Prop) (s:Å) (Q:Ã->Å->Prop),C s.heap->Q (.ref s.heap.objs.size) { s with heap:=s.heap.push o }->É (Í prog w) A (Ĭ v) Q E s
def Wn(a:È)(l:List Ã):mE (.ref a) { cls:=.type "list_iterator",data:=.fields #[.ref a,.int 0 0] } (λh=>h.IsList a l.toArray):=λ_ _ _ _ _ _ c q=>v9 c q
def Vu(a:È)(l:List Ã):mE (.ref a) { cls:=.type "tuple_iterator",data:=.fields #[.ref a,.int 0 0] } (λh=>h.IsTuple a l.toArray):=λ_ _ _ _ _ _ c q=>yg c q
section
variable{v1 v2:Ã}{o1 o2:ó}{C1 C2:Õ->Prop}
abbrev Yt(h:Õ)(o1:ó):Õ:=h.push o1
abbrev YK(h:Õ)(o1 o2:ó):Õ:=(Yt h o1).push o2
abbrev Yy(h:Õ)(o1 o2:ó):Õ:=(YK h o1 o2).push { cls:=.type "tuple",data:=.seq #[.ref h.objs.size,.ref (Yt h o1).objs.size] }
abbrev YI(h:Õ)(o1 o2:ó):Õ:=(Yy h o1 o2).push { cls:=.type "tuple",data:=.seq #[.none,.none] }
abbrev Zr(h:Õ)(o1 o2:ó):Õ:=(YI h o1 o2).push { cls:=.type "zip",data:=.fields #[.none,.bool Ä,.bool Ä,.ref (YK h o1 o2).objs.size,.ref (Yy h o1 o2).objs.size] }
def XT(r1:mE v1 o1 C1)(r2:mE v2 o2 C2) :
  Meets (é.«zip.__new__» ⟨[.type "zip",v1,v2],[]⟩) (λ_ R s=>C1 s.heap/\C2 (s.heap.push o1)/\R (.ok (.ret (.ref (YI s.heap o1 o2).objs.size))) { s with heap:=Zr s.heap o1 o2 }):=
 .of_wp λprog w A R s h=>by
  obtain⟨hp,g,d,tk,os⟩:=s;obtain⟨k1,k2,h⟩:=h;have EH:=sub_zip;have q1:∀{A:Ù} {E:Ã->Å->Prop} {Q:Ã->Å->Prop},Q (.ref hp.objs.size) ⟨hp.push o1,g,d,tk,os⟩->É (Í prog w) A (Ĭ v1) Q E ⟨hp,g,d,tk,os⟩:=λq=>r1 prog w _ _ _ _ k1 q
  have q2:∀{A:Ù} {E:Ã->Å->Prop} {Q:Ã->Å->Prop},Q (.ref (hp.push o1).objs.size) ⟨(hp.push o1).push o2,g,d,tk,os⟩->É (Í prog w) A (Ĭ v2) Q E ⟨hp.push o1,g,d,tk,os⟩:=λq=>r2 prog w _ _ _ _ k2 q
  wp_walk using q1,q2
  exact⟨_,rfl,h⟩
end
section
variable{prog:Ï}{w:Ô}{A:Ù}{E:Ã->Å->Prop}{s:Å}{v1 v2:Ã}{o1 o2:ó}{C1 C2:Õ->Prop}
def Ye(r1:mE v1 o1 C1)(r2:mE v2 o2 C2)(k1:C1 s.heap)(k2:C2 (s.heap.push o1))(PJ:o1.isFreed=Ä)(PL:o2.isFreed=Ä)
  (h:∀h',IsZip h' (s.heap.objs.size+4) (s.heap.objs.size+2) (s.heap.objs.size+3) .none->ş h' (s.heap.objs.size+2) (.ref s.heap.objs.size) (.ref (s.heap.objs.size+1))->
   ş h' (s.heap.objs.size+3) .none .none->h'.get? s.heap.objs.size=À o1->h'.get? (s.heap.objs.size+1)=À o2->(∀c o,s.heap.get? c=À o->h'.get? c=À o)->Q (.ref (s.heap.objs.size+4)) { s with heap:=h' }) :
  É (Í prog w) A (ŀ (.type "zip") [v1,v2]) Q E s:=by
 refine callType_new F.called_zip (by decide) (F.typeCall_zip_2 _ _) (F.newCall_zip_2 _ _) (λobj=>F.args_object_init_3 obj _ _) F.entry_zip_new (XT r1 r2) ⟨k1,k2,?_⟩;have y1:(Yt s.heap o1).objs.size=s.heap.objs.size+1:=jW ..;have y2:(YK s.heap o1 o2).objs.size=s.heap.objs.size+2:=by rw[jW,y1]
 have y3:(Yy s.heap o1 o2).objs.size=s.heap.objs.size+3:=by rw[jW,y2]
 have y4:(YI s.heap o1 o2).objs.size=s.heap.objs.size+4:=by rw[jW,y3]
 have b5:(Zr s.heap o1 o2).get? (YI s.heap o1 o2).objs.size=À _:=zH _ rfl;have b4:(Zr s.heap o1 o2).get? (Yy s.heap o1 o2).objs.size=À _:=zc _ (zH _ rfl);have b3:(Zr s.heap o1 o2).get? (YK s.heap o1 o2).objs.size=À _:=zc _ (zc _ (zH _ rfl));have b2:(Zr s.heap o1 o2).get? (Yt s.heap o1).objs.size=À _:=zc _ (zc _ (zc _ (zH _ PL)));have b1:(Zr s.heap o1 o2).get? s.heap.objs.size=À _:=zc _ (zc _ (zc _ (zc _ (zH _ PJ))));show _/\_
 rw[y2,y3,y4] at b5;rw[y1,y2] at b3;rw[y3] at b4;rw[y1] at b2;rw[y4];exact⟨⟨_,b5,rfl⟩,h _ b5 b3 b4 b1 b2 λc o x=>zc _ (zc _ (zc _ (zc _ (zc _ x))))⟩
end
def fj{X:Cx}{ag:List (È×ó)}{σ:L2.St}{H:Hp}{s:Å}{h':Õ}{t':Nat}{fp:List È}{p:È}{o:HO}(I:Inv X ag σ H s)(k:∀b o,b∉fp->s.heap.get? b=À o->h'.get? b=À o)(hf:∀b∈fp,aT X ag H b)
  (hp:s.heap.objs.size<=p) (new:ObjOk X.prog X.w (upd H p o) h' p o):Inv X ag σ (upd H p o) { s with heap:=h',toks:=t' }:=by
 have hn:H p=Á:=I.hok.fresh hp;have away:∀b u,H b=À u->b∉fp:=λb u e z=>by rw[(hf b z).1] at e;cases e
 have lt:∀b u,s.heap.get? b=À u->b≠p:=λb u e=>zL (zN (zJ e) hp)
 refine I.step (g':=s.gens) (d':=s.drawn) (ch:=fp) (λb hb=>⟨(hf b hb).2.2.2.1,(hf b hb).2.1,(hf b hb).2.2.2.2.1,(hf b hb).2.2.2.2.2⟩) (λb o _ _ hc e _=>k b o hc e) (λb o _ _ hc e _=>⟨o.slots,k b o hc e⟩) (λb u _ e n=>by rw[kH (lt b u e)];exact n)
  (λb o hc e=>⟨o,k b o hc e⟩) (λb xs e=>by rw[kH (qc e hn)];exact e) (λb u v e=>by rw[kH (qc e hn)];exact e) (λb ps e=>⟨#[],by rw[kH (qc e hn),e];simp⟩) (λm hm=>?_) (λb u e=>?_) I.bare
 .obtain⟨o,es,ep,ho,r⟩:=hm
  exact⟨o,es,ep,k _ o (λz=>(hf _ z).2.1 rfl) ho,r⟩
 .by_cases hb:b=p
  .subst hb;rw[qa] at e;cases e;exact new
  .rw[kH hb] at e
   refine(I.hok b u e).stay (λc v hc q=>k c v ?_ q) (λc q=>by rw[kH (qc q hn)];exact q) λc xs q=>by rw[kH (qc q hn)];exact q
   rcases hc with z | z
   .rw[z];exact away b u e
   .exact away c _ z
noncomputable def dE(K:Te)(tp:Bool)(H:Hp)(a:È)(xs:List V):Prop:=if tp=Â then SqT K H a xs else SqL K H a xs
noncomputable def Dk(tp:Bool)(a:È)(h:Õ)(l:List Ã):Prop:=if tp=Â then h.IsTuple a l.toArray else h.IsList a l.toArray
noncomputable def Qw(tp:Bool)(it a:È)(i:Nat)(h:Õ):Prop:=if tp=Â then h.IsTupleIter it a i else h.IsListIter it a i
noncomputable def De(tp:Bool)(a:È):ó:=if tp=Â then { cls:=.type "tuple_iterator",data:=.fields #[.ref a,.int 0 0] } else { cls:=.type "list_iterator",data:=.fields #[.ref a,.int 0 0] }
def vF(tp:Bool)(it a:È):Stp it a (Qw tp it a) (Dk tp a):=by
 cases tp
 .exact VT it a
 .exact Qv it a
def KL(tp:Bool)(a:È)(l:List Ã):mE (.ref a) (De tp a) (λh=>Dk tp a h l):=by
 cases tp
 .exact Wn a l
 .exact Vu a l
theorem lE(tp:Bool)(a:È):(De tp a).isFreed=Ä:=by cases tp<;>rfl
def nJ{h:Õ}(e:h.get? it=À (De tp a)):Qw tp it a 0 h:=by
 cases tp
 .exact⟨_,e,rfl,rfl⟩
 .exact⟨_,e,rfl,rfl⟩
section
variable{X:Cx}{ag:List (È×ó)}{σ:L2.St}{H:Hp}{s:Å}
def xi(I:Inv X ag σ H s)(h:dE X.K tp H a xs):∃l,Vals xs l/\Dk tp a s.heap l:=by
 cases tp
 .obtain⟨cb,r,p,_⟩:=I.list (show SqL X.K H a xs from h)
  exact⟨cb,r,p.isList⟩
 .obtain⟨cb,r,p,_⟩:=I.tuple (show SqT X.K H a xs from h)
  exact⟨cb,r,p⟩
def nM(I:Inv X ag σ H s)(h:dE X.K tp H a xs)(h':dE X.K tp H a ys):xs=ys:=by
 cases tp
 .exact I.list_inj (show SqL X.K H a xs from h) h'
 .exact I.tuple_inj (show SqT X.K H a xs from h) h'
def ac(I:Inv X ag σ H s)(h:dE X.K tp H a xs)(f:aT X ag H b):a≠b:=by
 have k:∀o,X.K.lookup a=À o->a≠b:=λo e z=>by
  subst z;have eb:X.base.get? a=À o:=I.mod.kin _ _ e;rcases f.2.2.2.1 with q | q
  .exact I.ok.noex _ _ eb q
  .exact absurd (zN (zJ eb) (zp I.ok.bsz q)) (jO _)
 have r:∀u,Rd H a u->a≠b:=λu q=>by
  rcases q with q | ⟨o,q⟩<;>exact qc q f.1
 cases tp
 .rcases(show SqL X.K H a xs from h) with q | ⟨o,_,_,e,_⟩
  .exact r _ q
  .exact k o e
 .rcases(show SqT X.K H a xs from h) with q | ⟨o,_,_,e,_⟩
  .exact r _ q
  .exact k o e
end
noncomputable def GV (K : Te) (t1 t2 : Bool) (a1 a2 : È) : It :=
  ⟨λi H => ∃ xs ys x y, dE K t1 H a1 xs /\ dE K t2 H a2 ys /\ xs[i]? = À x /\ ys[i]? = À y,
   λi H v H' => ∃ p x y, H p = Á /\ v = .ref p /\ H' = upd H p (.tup [x, y]) /\ (∀ xs, dE K t1 H a1 xs -> xs[i]? = À x) /\ ∀ ys, dE K t2 H a2 ys -> ys[i]? = À y,
   λi H => ∃ xs ys, dE K t1 H a1 xs /\ dE K t2 H a2 ys /\ (xs.length <= i \/ ys.length <= i)⟩
def WL{P:Ï}{w:Ô}{K:Te}{AS:List Î}{n:Nat}{AU:ĝ}(t1 t2:Bool)(z TI TO i1 i2 a1 a2:È)(nd:[z,TI,TO,i1,i2].Nodup) :
  Turn P w K (.Tuple AS n AU) (GV K t1 t2 a1 a2) [z,TI,TO,i1,i2] z (λi h=>Yl z TI TO i1 i2 (Qw t1 i1 a1) (Qw t2 i2 a2) .none i i h) where
 mem:=by simp
 obj:=λi h st b hb=>by
  obtain⟨hz,FK,⟨a,b',G4⟩,p1,p2⟩:=st;erw[zg,zA,kO] at hb;rcases hb with rfl | rfl | rfl | rfl | rfl
  .exact⟨_,hz,λv q=>by cases q⟩
  .exact⟨_,FK,λv q=>by cases q⟩
  .exact⟨_,G4,λv q=>by cases q⟩
  .exact(vF t1 _ a1).obj p1
  .exact(vF t2 _ a2).obj p2
 keep:=λi h h' st k=>by
  obtain⟨hz,FK,⟨a,b',G4⟩,p1,p2⟩:=st;exact⟨k z (by simp) _ hz,k TI (by simp) _ FK,⟨a,b',k TO (by simp) _ G4⟩,(vF t1 i1 a1).keep p1 λo e=>k i1 (by simp) o e,(vF t2 i2 a2).keep p2 λo e=>k i2 (by simp) o e⟩
 item:=by
  intro X hP hw hK hc i ag s σ H E I hf st hg;subst hP hw hK;obtain⟨xs,ys,x,y,d1,d2,hx,hy⟩:=hg;obtain⟨l1,r1,c1⟩:=xi I d1;obtain⟨l2,r2,c2⟩:=xi I d2;obtain⟨u1,e1,HH⟩:=r1.get hx;obtain⟨u2,e2,Hx⟩:=r2.get hy;have D:ZApart z TI TO i1 i2 a1 a2:=⟨nd,λq=>ac I d1 (hf _ q) rfl,λq=>ac I d2 (hf _ q) rfl⟩;refine WM (vF t1 i1 a1) (vF t2 i2 a2) D st c1 c2 e1 e2 λh' AD ht kp=>⟨_,rfl,?_⟩
  obtain⟨hz,FK,⟨a,b',G4⟩,p1,p2⟩:=AD;have n:=nd;erw[jL,zg,zA,kO,yw] at n;obtain⟨⟨n1,n2,n3,n4⟩,_⟩:=n;refine wpAny_letOwnedTupleGo_zip hz λh2 PM sb=>?_
  have LA:z<s.heap.objs.size:=by obtain⟨q,_⟩:=st;exact zJ q
  have NL:h2.get? s.heap.objs.size=À { cls:=.type "tuple",data:=.seq #[u1,u2] }:=sb.extBut _ _ (v6 LA) ht;have I2:Inv X ag σ (upd H s.heap.objs.size (.tup [x,y])) { s with heap:=h2 }:=fj (t':=s.toks) (fp:=[z,TI,TO,i1,i2]) I (λb o hb e=>sb.extBut _ _ (λq=>hb (by simp[q])) (kp b o hb e)) hf (zy _)
   ⟨by show 2<=Ð;decide,[u1,u2],.cons HH (.cons Hx .nil),⟨_,NL,rfl,_,rfl⟩,⟨_,NL,rfl⟩⟩
  refine⟨.ref s.heap.objs.size,_,I2,rfl,⟨_,x,y,I.hok.fresh (zy _),rfl,rfl,λPN q=>by rw[nM I q d1];exact hx,λSJ q=>by rw[nM I q d2];exact hy⟩,?_,λb hb=>?_⟩
  .exact⟨PM,sb.extBut _ _ (jn n1) FK,⟨a,b',sb.extBut _ _ (jn n2) G4⟩,(vF t1 i1 a1).keep p1 λo e=>sb.extBut _ _ (jn n3) e,(vF t2 i2 a2).keep p2 λo e=>sb.extBut _ _ (jn n4) e⟩
  .obtain⟨o,ho,_⟩:∃o,s.heap.get? b=À o/\True:=by
    obtain⟨PP,Ms,⟨a0,b0,Mt⟩,PQ,PU⟩:=st;erw[zg,zA,kO] at hb;rcases hb with rfl | rfl | rfl | rfl | rfl
    .exact⟨_,PP,trivial⟩
    .exact⟨_,Ms,trivial⟩
    .exact⟨_,Mt,trivial⟩
    .obtain⟨o,q,_⟩:=(vF t1 _ a1).obj PQ;exact⟨o,q,trivial⟩
    .obtain⟨o,q,_⟩:=(vF t2 _ a2).obj PU;exact⟨o,q,trivial⟩
   rw[kH (zL (zJ ho))];exact(hf b hb).1
 done:=by
  intro X hP hw hK hc i ag s σ H E I hf st hg;subst hP hw hK;obtain⟨xs,ys,d1,d2,he⟩:=hg;obtain⟨l1,r1,c1⟩:=xi I d1;obtain⟨l2,r2,c2⟩:=xi I d2;have D:ZApart z TI TO i1 i2 a1 a2:=⟨nd,λq=>ac I d1 (hf _ q) rfl,λq=>ac I d2 (hf _ q) rfl⟩;refine Yd (vF t1 i1 a1) (vF t2 i2 a2) D (I.ok.hd hc) st c1 c2 ?_ λh' kp=>⟨rfl,mY (t':=s.toks) I kp hf⟩
  rcases he with he | he
  .exact .inl (jF (by rw[<-r1.length];exact he))
  .exact .inr (jF (by rw[<-r2.length];exact he))
 self:=λ_ _ _ _ _ st h=>wpAny_pyIter_zip st.1 h
noncomputable def u3(h:MH)(w:W):Option (List W):=match w with
 | .tup l=>À l
 | .fls l=>À l
 | _=>Á
noncomputable def rO(ws:List W):M Src:=λh=>match ws with
 | [x,y]=>match u3 h x,u3 h y with
  | some l,À l'=>À (.items ((l.zip l').map λp=>.tup [p.1,p.2]),h)
  | _,_=>Á
 | _=>Á
noncomputable def ar(ms:List ME):MI:=λρ=>bnd (xC ms ρ) rO
section
variable{X:Cx}{cl:Cl}{AS:List Î}{n:Nat}{AU p pos:ĝ}{e1 e2:Î}{ms:List ME}
def lS{K:Te}{μ:List È}{H:Hp}{h:MH}(r:RW K μ H w v)(e:u3 h w=À l):∃tp a vs,v=.ref a/\RWs K μ H l vs/\dE K tp H a vs/\(∀hX H2 h2,HR K cl μ H h->Ext μ H hX H2->HR K cl hX H2 h2->dE K tp H2 a vs):=by
 unfold u3 at e;split at e
 .cases e
  obtain⟨a,vs,rfl,sa,ra⟩:=r.tup_of;exact⟨Â,a,vs,rfl,ra,sa,λhX H2 h2 R E R2=>SqT.ext R E sa⟩
 .cases e
  cases r with | @fls a vs l sa ra=>
  exact⟨Ä,a,vs,rfl,ra,sa.sq,λhX H2 h2 R E R2=>(SqF.ext E sa).sq⟩
 .cases e
def Dc(hm:X.mg "zip" = Á)(ha:SA X cl [e1,e2] ms)(hg:↥(Gl X "zip"))(r9:↥(Ì [e1,e2] X.env=(Ä,å e1 X.env)::Ì [e2] X.env))(Ai:↥((á pos (Ì [e2] X.env)).any (·.1)=Ä)) :
  SI X cl (.Tuple AS n AU) (.Call (.Name "zip" p) [e1,e2] [] pos) (ar ms):=by
 rintro ag s σ H R I ⟨μ,h,ρ,src,h',R0,er,e,k⟩;obtain⟨ws,h1,Fn,e⟩:=kc e;have hv:Ø "zip" = À (.type "zip"):=by decide +kernel
 refine jR (xw I hg hm hv ?_ (by decide) (by decide));refine jY (ku (ha pos ag s σ H (λvs H1=>∃d3,Ext μ H d3 H1/\HR X.K cl d3 H1 h1/\RWs X.K d3 H1 ws vs) I ⟨μ,h,ρ,ws,h1,R0,er,Fn,λd3 H1 vs E1 R1 rs=>⟨d3,E1,R1,rs⟩⟩) ?_) r9 Ai;rintro us s1 ⟨vs,H1,I1,r1,d3,E1,R1,rs⟩;unfold rO at e;split at e
 .rename_i x y
  split at e
  .rename_i l l' q1 q2
   cases e;cases rs with | cons rx t=>cases t with | cons ry t=>cases t with | nil=>
   obtain⟨t1,a1,xs,rfl,IQ,d1,f1⟩:=lS (cl:=cl) rx q1;obtain⟨t2,a2,ys,rfl,Ia,d2,f2⟩:=lS (cl:=cl) ry q2;obtain⟨u1,u2,rfl,HH,Hx⟩:=vals2 r1;cases HH;cases Hx;obtain⟨l1,v1,c1⟩:=xi I1 d1;obtain⟨l2,v2,c2⟩:=xi I1 d2;refine Ye (KL t1 a1 l1) (KL t2 a2 l2) c1 ((vF t2 0 a2).keepC c2 λo e=>zc _ e) (lE t1 a1) (lE t2 a2) λh2 b5 b3 b4 b1 b2 kp=>?_
   refine wpAny_pyIter_zip b5 ?_;have nd:[s1.heap.objs.size+4,s1.heap.objs.size+2,s1.heap.objs.size+3,s1.heap.objs.size,s1.heap.objs.size+1].Nodup:=by
    erw[jL,zg,zA,kO,yw,q8,uB,not_false_eq_true];omega
   refine⟨_,_,_,_,H1,rfl,I1.kept (t':=s1.toks) kp,WL t1 t2 _ _ _ _ _ a1 a2 nd,⟨b5,b3,⟨_,_,b4⟩,nJ b1,nJ b2⟩,λb hb=>?_,k d3 H1 _ E1 R1 ?_⟩
   .have HI:s1.heap.objs.size<=b:=by
     erw[zg,zA,kO] at hb;rcases hb with rfl | rfl | rfl | rfl | rfl<;>omega
    exact I1.fpOk HI (I1.hok.fresh HI)
   .intro hX H2 h3 E2 R2 i
    have HJ:=f1 hX H2 h3 R1 E2 R2;have Mu:=f2 hX H2 h3 R1 E2 R2;have HK:=IQ.ext R1 E2;have Mv:=Ia.ext R1 E2;refine⟨λw ew=>?_,λes=>?_⟩
    .have Ah:((l.zip l').map λp=>W.tup [p.1,p.2])[i]?=À w:=zW ew
     rw[kh] at Ah;cases ez:(l.zip l')[i]? with
     | none=>rw[ez] at Ah;cases Ah
     | some pr=>
      rw[ez] at Ah;cases Ah;obtain⟨ea,eb⟩:=uv.mp ez;obtain⟨vx,IR,Mw⟩:=HK.get ea;obtain⟨vy,NM,PV⟩:=Mv.get eb;refine⟨⟨xs,ys,vx,vy,HJ,Mu,IR,NM⟩,λv H3 yl=>?_⟩;obtain⟨pp,x',y',hp,rfl,rfl,w1,w2⟩:=yl;have z1:=w1 xs HJ;have z2:=w2 ys Mu;rw[IR] at z1;rw[NM] at z2;cases z1;cases z2;exact⟨.side hp,R2.side hp,.tup (SqT.of qa) (.cons (Mw.ext R2 (.side hp)) (.cons (PV.ext R2 (.side hp)) .nil))⟩
    .have es':((l.zip l').map λp=>W.tup [p.1,p.2])[i]?=Á:=zW es
     have hl:=jM.mp es';rw[zG,vN] at hl;refine⟨xs,ys,HJ,Mu,?_⟩;rw[<-IQ.length,<-Ia.length];omega
  .cases e
 .cases e
end
noncomputable def iH:List W->Option (List Bool)
 | []=>À []
 | .bl b::r=>match iH r with
  | some l=>À (b::l)
  | none=>Á
 | _=>Á
noncomputable def intsOf:List W->Option (List Int)
 | []=>À []
 | .int b::r=>match intsOf r with
  | some l=>À (b::l)
  | none=>Á
 | _=>Á
noncomputable def mZ(f:List Bool->Bool)(ws:List W):M W:=λh=>match ws with
 | [w]=>match qS h w with
  | some l=>match iH l with
   | some bs=>À (.bl (f bs),h)
   | none=>Á
  | none=>Á
 | _=>Á
noncomputable def rB:List W->M W:=mZ λl=>l.all id
noncomputable def Ck:List W->M W:=mZ λl=>l.any id
noncomputable def ab:List Int->Int
 | []=>0
 | i::r=>i+ab r
noncomputable def gW(ws:List W):M W:=λh=>match ws with
 | [w]=>match qS h w with
  | some l=>match intsOf l with
   | some bs=>À (.int (ab bs),h)
   | none=>Á
  | none=>Á
 | _=>Á
section
variable{K:Te}{μ:List È}{H:Hp}
def WZ{bs:List Bool}(e:iH l=À bs)(r:RWs K μ H l vs)(q:Vals vs us):us=bs.map ś:=by
 induction l generalizing vs us bs with
 | nil=>cases r;cases q;cases e;rfl
 | cons w l ih=>
  cases r with | cons rb rr=>cases q with | cons tb tr=>cases rb with
  | bl b=>
   unfold iH at e;split at e
   .rename_i l e'
    cases e;cases tb;rw[ih e' rr tr];rfl
   .cases e
  | _=>cases e
def JW{us:List Ã}{bs:List Int}(e:intsOf l=À bs)(r:RWs K μ H l vs)(q:Vals vs us):us.length=bs.length/\∀i u,us[i]?=À u->∃t,u=ħ (bs.getD i 0) t:=by
 induction l generalizing vs us bs with
 | nil=>cases r;cases q;cases e;exact⟨rfl,λi u e=>by simp at e⟩
 | cons w l ih=>
  cases r with | cons rb rr=>cases q with | cons tb tr=>cases rb with
  | int b=>
   unfold intsOf at e;split at e
   .rename_i l e'
    cases e;obtain⟨t,rfl⟩:=tb;obtain⟨h1,h2⟩:=ih e' rr tr;refine⟨jj (· + 1) h1,λi u e=>?_⟩;cases i with
    | zero=>cases e;exact⟨t,rfl⟩
    | succ i=>exact h2 i u e
   .cases e
  | _=>cases e
end
def Zg(a b:List Int):ab (a++b)=ab a+ab b:=by
 induction a with
 | nil=>simp[ab]
 | cons x r ih=>erw[jr,ab,ih];omega
theorem preSum_eq(bs:List Int):∀n,n<=bs.length->preSum (λi=>bs.getD i 0) n=ab (bs.take n)
 | 0,_=>by simp[preSum,ab]
 | n+1,h=>by
  have ih:=preSum_eq bs n ∅;have:preSum (λi=>bs.getD i 0) (n+1)=preSum (λi=>bs.getD i 0) n+bs.getD n 0:=rfl;rw[this,ih,List.take_succ,Zg];simp[zM (show n<bs.length by omega),ab]
section
variable{X:Cx}{cl:Cl}
def sC{s:Å}{H:Hp}{A:Ù}{R:Ã->Å->Prop}(I:Inv X ag σ H s)(sq:SqL X.K H a vs\/SqT X.K H a vs)(hh:A.handled=Á)
  (k:∀(us:List Ã) (it:È) (fp wr:List È) (St:Nat->Õ->Prop) (h1:Õ),Vals vs us->Walks X.prog X.w A it fp wr us.length (λi v=>us[i]?=À v) St->St 0 h1->(∀b∈fp,b<h1.objs.size)->
   (∀b∈wr,s.heap.objs.size<=b)->(∀b o,s.heap.get? b=À o->h1.get? b=À o)->R (.ref it) { s with heap:=h1 }) :
  É (Í X.prog X.w) A (Ĭ (.ref a)) R E s:=by
 rcases sq with sq | sq
 .obtain⟨cb,rv,p,hz⟩:=I.list sq
  refine v9 p.isList ?_;have Af:a<s.heap.objs.size:=by obtain⟨o,ho,_⟩:=p.isList;exact zJ ho
  have W0:=Walks.list (prog:=X.prog) (w:=X.w) hh s.heap.objs.size a (zL Af) cb.toArray;have W1:Walks X.prog X.w A s.heap.objs.size [s.heap.objs.size,a] [s.heap.objs.size] cb.length (λi v=>cb[i]?=À v) (λi h=>h.IsListIter s.heap.objs.size a i/\h.IsList a cb.toArray):=by simpa using W0
  refine k cb _ _ _ _ _ rv W1 ⟨⟨_,zH _ rfl,rfl,rfl⟩,p.isList.at λo e=>zc _ e⟩ (λb hb=>?_) (λb hb=>?_) λb o e=>zc _ e
  .erw[zg,zA,kO] at hb
   erw[jW];rcases hb with rfl | rfl
   .exact j4 _
   .exact jH Af
  .erw[zg,zA,kO] at hb
   rw[hb];exact zy _
 .obtain⟨cb,rv,p,hz⟩:=I.tuple sq
  refine yg (show s.heap.IsTuple a cb.toArray from p) ?_;have Af:a<s.heap.objs.size:=by obtain⟨o,ho,_⟩:=id p;exact zJ ho
  have p':s.heap.IsTuple a cb.toArray:=p;have W0:=Walks.tuple (prog:=X.prog) (w:=X.w) hh s.heap.objs.size a (zL Af) cb.toArray;have W1:Walks X.prog X.w A s.heap.objs.size [s.heap.objs.size,a] [s.heap.objs.size] cb.length (λi v=>cb[i]?=À v) (λi h=>h.IsTupleIter s.heap.objs.size a i/\h.IsTuple a cb.toArray):=by simpa using W0
  refine k cb _ _ _ _ _ rv W1 ⟨⟨_,zH _ rfl,rfl,rfl⟩,p'.at λo e=>zc _ e⟩ (λb hb=>?_) (λb hb=>?_) λb o e=>zc _ e
  .erw[zg,zA,kO] at hb
   erw[jW];rcases hb with rfl | rfl
   .exact j4 _
   .exact jH Af
  .erw[zg,zA,kO] at hb
   rw[hb];exact zy _
def l4{ag:List (È×ó)}{s:Å}{σ:L2.St}{H:Hp}{h1 h2:Õ}{tk:Nat}{wr:List È}(I:Inv X ag σ H s)(k1:∀b o,s.heap.get? b=À o->h1.get? b=À o)(hw:∀b∈wr,s.heap.objs.size<=b)(k2:∀b o,b∉wr->h1.get? b=À o->h2.get? b=À o) :
  Inv X ag σ H { s with heap:=h2,toks:=tk }:=
 I.kept (t':=tk) λb o e=>k2 b o (λz=>absurd (zJ e) (yG.mpr (hw b z))) (k1 b o e)
def mK{f:List Bool->Bool}{id:String}(EC:∀{A:Ù} {E:Ã->Å->Prop} {s:Å} {x:Ã} {Q:Ã->Å->Prop},A.handled=Á->É (Í X.prog X.w) A.in1 (Ĭ x) (λit Ad=>∃I fp wr n P St tr,it=.ref I/\Walks X.prog X.w A.in1 I fp wr n P St/\St 0 Ad.heap/\TruthOf X.prog X.w A.in1 P tr /\
   ∀h' tk,(∀b o,b∉wr->Ad.heap.get? b=À o->h'.get? b=À o)->Q (.bool (f ((ä n).map tr))) { Ad with heap:=h',toks:=tk }) E s->É (Í X.prog X.w) A (ŀ (.builtin id) [x]) Q E s) (hc:X.calm=Â):qh X (.builtin id) (rMs X.K cl (mZ f)):=by
 rintro ag s σ H xs us Q I rs ⟨μ,h,ws,w,h',R,ax,e,k⟩;unfold mZ at e;split at e
 .split at e
  .rename_i l el
   split at e
   .rename_i bs eb
    cases e;cases ax with | cons r t=>cases t with | nil=>
    obtain⟨a,vs,rfl,sa,ra⟩:=xc R r el;obtain⟨u,rfl,ru⟩:=rs.one;cases ru;have hh:=I.ok.hd hc;refine EC hh (sC (A:=X.A.in1) I sa hh λus it fp wr St h1 rv W r9 NN Mx k1=>?_);have hu:=WZ eb ra rv;subst hu;refine⟨it,fp,wr,_,_,St,λi=>bs.getD i Ä,rfl,W,r9,?_,λh2 tk k2=>?_⟩
    .intro i v s Q E hP hQ
     rw[kh] at hP;cases eb:bs[i]? with
     | none=>rw[eb] at hP;cases hP
     | some b=>
      rw[eb] at hP;cases hP;have:bs.getD i Ä=b:=by simp[ġ,eb]
      have NO:Q (bs.getD i Ä) s:=hQ;rw[this] at NO;exact qd NO
    .have e2:(ä (bs.map ś).length).map (λi=>bs.getD i Ä)=bs:=by
      apply yp
      .simp
      .intro i h1 h2;simp at h1;simp[h1]
     rw[e2];exact⟨.bl _,H,(show Inv X ag σ H { s with heap:=h2,toks:=tk } from l4 I k1 Mx k2),rfl,k.pure R (.bl _)⟩
   .cases e
  .cases e
 .cases e
def Qc(hc:X.calm=Â):qh X (.builtin "all") (rMs X.K cl rB):=by
 refine mK (λ{A E s x Q} hh h=>call_all_walk (qe h (λit Ad EG=>?_) λ_ _ e=>e)) hc;obtain⟨I,fp,wr,n,P,St,tr,rfl,W,r9,My,hQ⟩:=EG;refine⟨I,fp,wr,n,P,St,tr,rfl,W,r9,My,λh' tk hk=>?_⟩;have:=hQ h' tk hk;rw[List.all_map] at this;exact this
def J2(hc:X.calm=Â):qh X (.builtin "any") (rMs X.K cl Ck):=by
 refine mK (λ{A E s x Q} hh h=>call_any_walk (qe h (λit Ad EG=>?_) λ_ _ e=>e)) hc;obtain⟨I,fp,wr,n,P,St,tr,rfl,W,r9,My,hQ⟩:=EG;refine⟨I,fp,wr,n,P,St,tr,rfl,W,r9,My,λh' tk hk=>?_⟩;have:=hQ h' tk hk;rw[uT] at this;exact this
def Qd(hc:X.calm=Â):qh X (.builtin "sum") (rMs X.K cl gW):=by
 rintro ag s σ H xs us Q I rs ⟨μ,h,ws,w,h',R,ax,e,k⟩;unfold gW at e;split at e
 .split at e
  .rename_i l el
   split at e
   .rename_i bs eb
    cases e;cases ax with | cons r t=>cases t with | nil=>
    obtain⟨a,vs,rfl,sa,ra⟩:=xc R r el;obtain⟨u,rfl,ru⟩:=rs.one;cases ru;have hh:=I.ok.hd hc;refine call_sum_walkG (sC (A:=X.A.in1) I sa hh λus it fp wr St h1 rv W r9 NN Mx k1=>?_);obtain⟨hl,hv⟩:=JW eb ra rv;refine⟨it,fp,wr,_,_,St,λi=>bs.getD i 0,rfl,W,r9,NN,hv,λh2 tk t' k2=>?_⟩;rw[hl,preSum_eq bs _ (zy _),xV];exact⟨.int _,H,(show Inv X ag σ H { s with heap:=h2,toks:=tk } from l4 I k1 Mx k2),⟨t',rfl⟩,k.pure R (.int _)⟩
   .cases e
  .cases e
 .cases e
def boot_all:Ø "all" = À (.builtin "all"):=by decide +kernel
def boot_any:Ø "any" = À (.builtin "any"):=by decide +kernel
def boot_sum:Ø "sum" = À (.builtin "sum"):=by decide +kernel
def ZZ:Ø "int" = À (.type Ty.int.name):=by decide +kernel
def Z9:Ø "str" = À (.type Ty.str.name):=by decide +kernel
def W3:Ø "bool" = À (.type Ty.bool.name):=by decide +kernel
def oW:Ø "tuple" = À (.type Ty.tuple.name):=by decide +kernel
def lj:Ø "list" = À (.type Ty.list.name):=by decide +kernel
def rS:Ø "dict" = À (.type Ty.dict.name):=by decide +kernel
end
noncomputable abbrev ZT:W->W->M W:=vv λi j=>decide (i<j)
noncomputable abbrev GG:W->W->M W:=vv λi j=>decide (i<=j)
noncomputable abbrev Qs:W->W->M W:=vv λi j=>decide (j<i)
noncomputable abbrev GQ:W->W->M W:=vv λi j=>decide (j<=i)
noncomputable abbrev FZ:W->W->M W:=λx y=>match x,y with | .int i,.int j=>λh=>À (.int (i+j),h) | _,_=>λ_=>Á
noncomputable def FS(x:Ç):It:=
 ⟨λi _=>i<x.cps.size,λi H v H'=>H'=H/\∃c,x.cps[i]?=À c/\v=.str ⟨#[c]⟩,λi _=>x.cps.size<=i⟩
section
variable{P:Ï}{w:Ô}{K:Te}{tg:Î}
def Qr(hn:["enumerate","zip","dict_itemiterator","dict_reverseitemiterator","odict_iterator","itertools.zip_longest","itertools.pairwise"].contains T=Ä)(it:È)(x:Ç)(t:Tok)
  (W:∀A:Ù,A.handled=Á->Walks P w A it [it] [it] x.cps.size (SignAt x) (λi h=>h.IsStrIter it T x t i))
  (sf:∀(A:Ù) (i:Nat) (s:Å) (Q:Ã->Å->Prop) (E:Ã->Å->Prop),s.heap.IsStrIter it T x t i->Q (.ref it) s->É (Í P w) A (Ĭ (.ref it)) Q E s) :
  Turn P w K tg (FS x) [it] it (λi h=>i<=x.cps.size/\h.IsStrIter it T x t i) where
 mem:=by simp
 obj:=λi h st b hb=>by
  have e:b=it:=by simpa using hb
  subst e;obtain⟨_,o,e,c,d⟩:=st;exact⟨o,e,λv z=>by rw[d] at z;cases z⟩
 keep:=λi h h' st k=>by
  obtain⟨hi,o,e,c,d⟩:=st;exact⟨hi,o,k it (by simp) o e,c,d⟩
 item:=by
  intro X hP hw hK hc i ag s σ H E I hf st hg;subst hP hw hK;obtain⟨f0,f1,f2,f3,f4,f5⟩:=hf it (by simp);refine(W X.A (I.ok.hd hc)).item i s _ _ hg st.2 λv h' tk hv AD kk=>?_
  obtain⟨c,u,PX,rfl⟩:=hv;have I1:Inv X ag σ H { s with heap:=h',toks:=tk }:=I.turned (t':=tk) (λb o hb e=>kk b o (by simpa using hb) e) f0 f1 f3 f4 f5;obtain⟨o,e,cc,d⟩:=id AD;exact⟨_,rfl,pM (s:={ s with heap:=h',toks:=tk }) e cc d hn ⟨.str ⟨#[c]⟩,H,I1,⟨u,rfl⟩,⟨rfl,c,PX,rfl⟩,⟨hg,AD⟩,λb hb=>(hf b hb).1⟩⟩
 done:=by
  intro X hP hw hK hc i ag s σ H E I hf st hg;subst hP hw hK;obtain⟨f0,f1,f2,f3,f4,f5⟩:=hf it (by simp);have hi:i=x.cps.size:=Nat.le_antisymm st.1 hg;have GX:=st.2;rw[hi] at GX;exact(W X.A (I.ok.hd hc)).done s _ _ GX λh' tk kk=>⟨rfl,I.turned (t':=tk) (λb o hb e=>kk b o (by simpa using hb) e) f0 f1 f3 f4 f5⟩
 self:=λA i s Q E st h=>sf A i s Q E st.2 h
end
noncomputable def signs(x:Ç):List W:=x.cps.toList.map λc=>.str ⟨#[c]⟩
noncomputable def nB(m:ME):MI:=λρ=>bnd (m ρ) λw h=>match w with
 | .str x=>À (.items (signs x),h)
 | _=>Á
section
variable{X:Cx}{cl:Cl}{tg e:Î}{m:ME}
def Xg{K:Te}{μ:List È}{H:Hp}:JR K cl (FS x) (.items (signs x)) μ H:=by
 intro hX H2 h2 E2 R2 i;refine⟨λw ew=>?_,λes=>?_⟩
 .have Ah:(signs x)[i]?=À w:=zW ew
  unfold signs at Ah;rw[kh] at Ah;cases ec:x.cps.toList[i]? with
  | none=>rw[ec] at Ah;cases Ah
  | some c=>
   rw[ec] at Ah;cases Ah;have NP:x.cps[i]?=À c:=by rw[<-yF];exact ec
   refine⟨(um.mp NP).1,λv H3 y=>?_⟩;obtain⟨rfl,c',Hh,rfl⟩:=y;rw[NP] at Hh;cases Hh;exact⟨.refl,R2,.str _⟩
 .have es':(signs x)[i]?=Á:=zW es
  have:=jM.mp es';unfold signs at this;rw[zG,zU] at this;exact this
def CJ(he:SE X cl e m):SI X cl tg e (nB m):=by
 rintro ag s σ H R I ⟨μ,h,ρ,src,h',R0,er,e,k⟩;obtain⟨x,h1,e1,e⟩:=kc e;refine ku (he ag s σ H (λv H1=>∃d3,Ext μ H d3 H1/\HR X.K cl d3 H1 h1/\RW X.K d3 H1 x v) I ⟨μ,h,ρ,x,h1,R0,er,e1,λd3 H1 v E1 R1 r=>⟨d3,E1,R1,r⟩⟩) ?_;rintro u s1 ⟨v,H1,I1,r1,d3,E1,R1,rv⟩;cases x with
 | str z=>
  cases e;cases rv.str_of;obtain⟨tk,rfl⟩:=r1;have fin:∀{o:ó} {T:String},["enumerate","zip","dict_itemiterator","dict_reverseitemiterator","odict_iterator","itertools.zip_longest","itertools.pairwise"].contains T=Ä->(∀A:Ù,A.handled=Á->Walks X.prog X.w A s1.heap.objs.size [s1.heap.objs.size] [s1.heap.objs.size] z.cps.size (SignAt z) (λi h=>h.IsStrIter s1.heap.objs.size T z tk i))->
    (∀(A:Ù) (i:Nat) (s:Å) (Q:Ã->Å->Prop) (E:Ã->Å->Prop),s.heap.IsStrIter s1.heap.objs.size T z tk i->Q (.ref s1.heap.objs.size) s->É (Í X.prog X.w) A (Ĭ (.ref s1.heap.objs.size)) Q E s)->
    (s1.heap.push o).IsStrIter s1.heap.objs.size T z tk 0->PIE X ag σ tg R (.ref s1.heap.objs.size) { s1 with heap:=s1.heap.push o }:=λ{o T} hn W sf st=>
   ⟨_,[s1.heap.objs.size],_,_,H1,rfl,I1.kept (t':=s1.toks) λb o e=>zc _ e,Qr hn _ z tk W sf,⟨j9 _,st⟩,λb hb=>by
    have e:b=s1.heap.objs.size:=by simpa using hb
    subst e
    exact I1.fpOk (zy _) (I1.hok.fresh (zy _)),k d3 H1 _ E1 R1 Xg⟩
  cases ha:z.cps.all (· < 128)
  .exact wpAny_pyIter_wide ha (fin (T:="str_iterator") (by decide) (λA' hA=>Walks.strWide hA _ z tk) (λA i s Q E st q=>wpAny_pyIter_striter_wide st q) ⟨_,zH _ rfl,rfl,rfl⟩)
  .exact wpAny_pyIter_ascii ha (fin (T:="str_ascii_iterator") (by decide) (λA' hA=>Walks.strAscii hA _ z tk) (λA i s Q E st q=>wpAny_pyIter_striter_ascii st q) ⟨_,zH _ rfl,rfl,rfl⟩)
 | _=>cases e
end
structure Glob(K:Te)(mg:Ç->Option Ã)(x:Ç)(w:W):Prop where
 ex:∃(v:V) (u:Ã),mg x=À u/\RelV v u/\∀μ H,RW K μ H w v
def Glob.se{X:Cx}(G:Glob X.K X.mg x w)(hg:↥(Gl X x))(hd:⇑((x==("__debug__":Ç))=Ä)):SE X cl (.Name x pos) (eC w):=by
 obtain⟨v,u,hm,r,rw⟩:=G.ex;exact Ur hm r rw hg hd
mutual
inductive KW(K:Te):W->Ã->Prop
 | int {i:Int} {t:Tok}:KW K (.int i) (.int i t)
 | str {i:Ç} {t:Tok}:KW K (.str i) (.str i t)
 | fn {a:È}:KW K (.fn a) (.ref a)
 | tup {a:È} {l:List W} {o:ó} {cb:Array Ã} {n:Nat}:K.lookup a=À o->(o.cls=.type "tuple" /\ o.dict=Á)->o.data=.seq cb n->cb.size<=Ð->KWs K l cb.toList->KW K (.tup l) (.ref a)
inductive KWs(K:Te):List W->List Ã->Prop
 | nil:KWs K [] []
 | cons {w:W} {v:Ã} {l:List W} {vs:List Ã}:KW K w v->KWs K l vs->KWs K (w::l) (v::vs)
end
def KWs.rw{K:Te}{l:List W}(r:KWs K l us):∃vs,Vals vs us/\∀μ H,RWs K μ H l vs:=
 KWs.rec (motive_1:=λw u _=>∃v,RelV v u/\∀μ H,RW K μ H w v) (motive_2:=λl us _=>∃vs,Vals vs us/\∀μ H,RWs K μ H l vs) (λ{i t}=>⟨.int i,⟨t,rfl⟩,λ_ _=>.int _⟩) (λ{i t}=>⟨.str i,⟨t,rfl⟩,λ_ _=>.str _⟩) (λ{a}=>⟨.ref a,rfl,λ_ _=>.fn⟩)
  (λ{a _ _ _ _} e c d z _ q=>q.elim λ_ q=>⟨.ref a,rfl,λμ H=>.tup (.inr ⟨_,_,_,e,c,d,z,q.1⟩) (q.2 μ H)⟩) ⟨[],.nil,λ_ _=>.nil⟩ (λ_ _ p q=>p.elim λv p=>q.elim λvs q=>⟨v::vs,.cons p.1 q.1,λμ H=>.cons (p.2 μ H) (q.2 μ H)⟩) r
theorem KW.rw{K:Te}{w:W}(r:KW K w u):∃v,RelV v u/\∀μ H,RW K μ H w v:=by
 obtain⟨vs,a,b⟩:=KWs.rw (.cons r .nil);cases a with
 | @cons v _ _ _ a _=>exact⟨v,a,λμ H=>by cases b μ H with | cons q _=>exact q⟩
def KW.glob{K:Te}{mg:Ç->Option Ã}{x:Ç}(hm:mg x=À u)(k:KW K w u):Glob K mg x w:=by
 obtain⟨v,r1,r2⟩:=k.rw;exact⟨v,u,hm,r1,r2⟩
inductive TabRel(K:Te):List (Ç×W)->List ă->Prop
 | nil:TabRel K [] []
 | cons {k:Ç} {t:Tok} {w:W} {hs:Int} {v:Ã} {l:List (Ç×W)} {es:List ă} {e:ă}:e.key=.str k t->KW K w e.val->TabRel K l es->TabRel K ((k,w)::l) (e::es)
structure TabOk(K:Te)(P:Params)(mg:Ç->Option Ã)(x:Ç)(l:List (Ç×W)):Prop where
 ex:∃(a:È) (es:Array ă) (n:Nat),mg x=À (.ref a)/\K.lookup a=À ⟨.type "dict",Á,.dict es n,#[]⟩/\Ť P es.toList/\(a==Ý)=Ä/\TabRel K l es.toList
theorem TabRel.find{K:Te}:∀{l:List (Ç×W)} {es:List ă},TabRel K l es->match l.lookup k with
  | some w=>∃v,(es.find? λe=>ô k e.key).map (·.val)=À v/\KW K w v
  | none=>(es.find? λe=>ô k e.key).map (·.val)=Á
 | _,_,.nil=>rfl
 | _,_,.cons (k:=k') (l:=l) (es:=es) (e:=e) hk r t=>by
  have ih:=TabRel.find (k:=k) t;rw[qm];by_cases q:k=k'
  .subst q
   have e1:(k==k)=Â:=by simp
   have e2:ô k e.key=Â:=by rw[hk];simp[ô]
   erw[e1,jN,e2];exact⟨_,rfl,r⟩
  .have e1:(k==k')=Ä:=by simpa using q
   have e2:ô k e.key=Ä:=by rw[hk];simp[ô];exactλz=>q z.symm
   erw[e1,jN,e2];exact ih
noncomputable def tabIn(neg:Bool)(l:List (Ç×W))(w:W):M W:=λh=>match w with
 | .str k=>À (.bl (if neg then !(l.lookup k).isSome else (l.lookup k).isSome),h)
 | _=>Á
noncomputable def fz(l:List (Ç×W))(w:W):M W:=λh=>match w with
 | .str k=>match l.lookup k with
  | some v=>À (v,h)
  | none=>Á
 | _=>Á
section
variable{X:Cx}{cl:Cl}{a:Î}{ma:ME}{x:Ç}{l:List (Ç×W)}{p pos:ĝ}
def TabOk.at{s:Å}{H:Hp}{es:Array ă}(I:Inv X ag σ H s)(hl:X.K.lookup d=À ⟨.type "dict",Á,.dict es n,#[]⟩)(hk:Ť X.w.params es.toList) :
  s.heap.MapOf (strKind X.prog X.w) d (λk=>findBy ô es k):=PySem.W.mapOf_K I.kIn hl hk
def J3{op:CmpOp}(neg:Bool)(ho:∀{A:Ù} {E:Ã->Å->Prop} {s:Å} {d:È} {f:Ç->Option Ã} {k:Ç} {t:Tok} {Q:Ã->Å->Prop},(d==Ý)=Ä->s.heap.MapOf (strKind X.prog X.w) d f->Q (.bool (if neg then !(f k).isSome else (f k).isSome)) { s with toks:=s.toks+1 }->É (Í X.prog X.w) A (Ò op (.str k t) (.ref d)) Q E s)
  (T:TabOk X.K X.w.params X.mg x l) (ha:SE X cl a ma) (hm:ç op (.Name x p)=Ä) (hg:Gl X x) (hd:(x==("__debug__":Ç))=Ä):SE X cl (.Compare a [op] [.Name x p] pos) (yk (tabIn neg l) ma):=by
 obtain⟨d,es,n,e1,e2,e3,e4,e5⟩:=T.ex;have Mz:kT X (Ò op) (λx y H Q=>∃k,x=.str k/\y=.ref d/\Q (.bl (if neg then !(l.lookup k).isSome else (l.lookup k).isSome)) H):=by
  rintro ag s σ H x y v u Q I rx ry ⟨k,rfl,rfl,q⟩;obtain⟨t,rfl⟩:=rx;cases ry;refine ho e4 (TabOk.at I e2 e3) ?_;have fk:(findBy ô es k).isSome=(l.lookup k).isSome:=by
   have:=e5.find (k:=k);unfold findBy;rw[<-wJ];cases ek:l.lookup k with
   | none=>rw[ek] at this;rw[this];rfl
   | some w=>rw[ek] at this;obtain⟨v,e,_⟩:=this;rw[e];rfl
  rw[fk];exact⟨.bl _,H,I.tok _,rfl,q⟩
 refine PE.wk (ZW Mz ha (iP hg e1 (show RelV (.ref d) (.ref d) from rfl) hd) hm) ?_;rintro σ H Q ⟨μ,h,ρ,w,h',R,er,e,k⟩;obtain⟨y,h1,f1,e⟩:=kc e;refine⟨μ,h,ρ,y,h1,R,er,f1,λd3 H1 vx E1 R1 rx=>?_⟩;unfold tabIn at e;split at e
 .cases e
  exact⟨_,rx.str_of,rfl,k d3 H1 _ E1 R1 (.bl _)⟩
 .cases e
def Wu(hu:X.A.units+64<õ)(T:TabOk X.K X.w.params X.mg x l)(ha:SE X cl a ma)(hm:ç .In (.Name x p)=Ä:=by first | exact nomark _ | rfl)(hg:↥(Gl X x))(hd:⇑((x==("__debug__":Ç))=Ä)):SE X cl (.Compare a [.In] [.Name x p] pos) (yk (tabIn Ä l) ma):=
 J3 Ä (λ{A E s d f k t Q} h1 h2 h3=>wpAny_in_of (ut X.prog X.w k t) h1 h2 h3) T ha hm hg hd
def JP(hu:X.A.units+64<õ)(T:TabOk X.K X.w.params X.mg x l)(ha:SE X cl a ma)(hm:ç .NotIn (.Name x p)=Ä:=by first | exact nomark _ | rfl)(hg:↥(Gl X x))(hd:⇑((x==("__debug__":Ç))=Ä)):SE X cl (.Compare a [.NotIn] [.Name x p] pos) (yk (tabIn Â l) ma):=
 J3 Â (λ{A E s d f k t Q} h1 h2 h3=>wpAny_notIn_of (ut X.prog X.w k t) h1 h2 h3) T ha hm hg hd
def Qt(hu:X.A.units+64<õ)(T:TabOk X.K X.w.params X.mg x l)(ha:SE X cl a ma)(hs:fu a:=by exactλ_ _=>rfl)(hg:↥(Gl X x))(hd:⇑((x==("__debug__":Ç))=Ä)):SE X cl (.Subscript (.Name x p) a pos) (yk (fz l) ma):=by
 obtain⟨d,es,n,e1,e2,e3,e4,e5⟩:=T.ex;have Ek:Z6 X (λx y H Q=>∃k w,x=.ref d/\y=.str k/\l.lookup k=À w/\∀v,(∀μ H,RW X.K μ H w v)->Q v H):=by
  rintro value slice ag s σ H x y v u Q I rx ry ⟨k,w,rfl,rfl,el,q⟩ hs;cases rx;obtain⟨t,rfl⟩:=ry;have hm:=TabOk.at I e2 e3;have:=e5.find (k:=k);rw[el] at this;obtain⟨v0,ev,kw⟩:=this;obtain⟨v1,r1,r2⟩:=kw.rw;refine tail_any hm.typeIs slot_dict_getitem.lookup (wpAny_getItem_of (v:=v0) (ut X.prog X.w k t) hm ?_ ⟨v1,H,I.tok _,r1,q v1 r2⟩) hs;unfold findBy;rw[<-wJ];exact ev
 refine PE.wk (Y1 Ek (iP hg e1 (show RelV (.ref d) (.ref d) from rfl) hd) ha hs) ?_;rintro σ H Q ⟨μ,h,ρ,w,h',R,er,e,k⟩;obtain⟨y,h1,f1,e⟩:=kc e;refine⟨μ,h,ρ,y,h1,R,er,f1,λd3 H1 vx E1 R1 rx=>?_⟩;unfold fz at e;split at e
 .split at e
  .rename_i k' w' el
   cases e;exact⟨_,_,rfl,rx.str_of,el,λv hv=>k d3 H1 _ E1 R1 (hv d3 H1)⟩
  .cases e
 .cases e
end
noncomputable def keyOf:W->Option Key
 | .int i=>À (.inl i)
 | .str x=>À (.inr x)
 | _=>Á
noncomputable def fc(l:List (Key×W))(k:Key):Option W:=(l.find? λkv=>decide (kv.1=k)).map (·.2)
noncomputable def lU(l:List (Key×W))(k:Key)(v:W):List (Key×W):=
 if (l.any λkv=>decide (kv.1=k))=Â then l.map (λkv=>if kv.1=k then (kv.1,v) else kv) else l++[(k,v)]
noncomputable def xA(l more:List (Key×W)):List (Key×W):=more.foldl (λacc kv=>lU acc kv.1 kv.2) l
noncomputable def fP(h:MH):W->Option (List (Key×W))
 | .fdc l=>À l
 | .ref n=>match h[n]? with
  | some (.dic l)=>À l
  | _=>Á
 | _=>Á
inductive PR(K:Te)(μ:List È)(H:Hp):List (Key×W)->List (Key×V)->Prop
 | nil:PR K μ H [] []
 | cons {k:Key} {w:W} {v:V} {l:List (Key×W)} {l':List (Key×V)}:RW K μ H w v->PR K μ H l l'->PR K μ H ((k,w)::l) ((k,v)::l')
section
variable{K:Te}{cl:Cl}{μ d5:List È}{H H':Hp}{h:MH}
theorem RKs.pr:∀{l:List (Key×W)} {l':List (Key×V)},RKs K μ H l l'->PR K μ H l l'
 | [],[],_=>.nil
 | [],_::_,⟨k,_⟩=>by simp at k
 | _::_,[],⟨k,_⟩=>by simp at k
 | (k1,w)::l,(k2,v)::l',⟨k,r⟩=>by
  erw[zz,vd] at k;obtain⟨rfl,k⟩:=k;erw[zz] at r;cases r with | cons r t=>exact .cons r (RKs.pr ⟨k,t⟩)
theorem PR.rk:∀{l:List (Key×W)} {l':List (Key×V)},PR K μ H l l'->RKs K μ H l l'
 | _,_,.nil=>⟨rfl,.nil⟩
 | _,_,.cons r t=>⟨by simp[t.rk.1],.cons r t.rk.2⟩
theorem PR.len:∀{l:List (Key×W)} {l':List (Key×V)},PR K μ H l l'->l.length=l'.length
 | _,_,.nil=>rfl
 | _,_,.cons _ t=>jj (· + 1) t.len
theorem PR.val:∀{l:List (Key×W)} {l':List (Key×V)},PR K μ H l l'->match fc l k with
  | some w=>∃v,y8 l' k=À v/\RW K μ H w v
  | none=>y8 l' k=Á
 | _,_,.nil=>rfl
 | _,_,.cons (k:=k') (l:=l) (l':=l') (w:=w) (v:=v) r t=>by
  have ih:=PR.val (k:=k) t;by_cases q:k'=k
  .have e1:fc ((k',w)::l) k=À w:=by simp[fc,jN,q]
   rw[e1];exact⟨v,by simp[y8,jN,q],r⟩
  .have e1:fc ((k',w)::l) k=fc l k:=by simp[fc,jN,q]
   have e2:y8 ((k',v)::l') k=y8 l' k:=by simp[y8,jN,q]
   rw[e1,e2];exact ih
theorem PR.any:∀{l:List (Key×W)} {l':List (Key×V)},PR K μ H l l'->(l.any λkv=>decide (kv.1=k))=(l'.any λkv=>decide (kv.1=k))
 | _,_,.nil=>rfl
 | _,_,.cons _ t=>by erw[wu];rw[t.any]
theorem PR.map(r:RW K μ H w v):∀{l:List (Key×W)} {l':List (Key×V)},PR K μ H l l'->PR K μ H (l.map λkv=>if kv.1=k then (kv.1,w) else kv) (l'.map λkv=>if kv.1=k then (kv.1,v) else kv)
 | _,_,.nil=>.nil
 | _,_,.cons (k:=k') q t=>by
  erw[zz];by_cases z:k'=k
  .erw[z,je];exact .cons r (t.map r)
  .erw[z,ju];exact .cons q (t.map r)
theorem PR.app:∀{l m:List (Key×W)} {l' m':List (Key×V)},PR K μ H l l'->PR K μ H m m'->PR K μ H (l++m) (l'++m')
 | _,_,_,_,.nil,s=>s
 | _,_,_,_,.cons r t,s=>.cons r (t.app s)
def PR.put(p:PR K μ H l l')(r:RW K μ H w v):PR K μ H (lU l k w) (putK l' k v):=by
 unfold lU putK;rw[<-p.any (k:=k)];split
 .exact p.map r
 .exact p.app (.cons r .nil)
def PR.merge{more:List (Key×W)}(q:PR K μ H more more')(p:PR K μ H l l'):PR K μ H (xA l more) (dQ l' more'):=by
 induction q generalizing l l' with
 | nil=>exact p
 | cons r t ih=>exact ih (p.put r)
theorem PR.ext(R:HR K cl μ H h)(E:Ext μ H d5 H'):∀{l:List (Key×W)} {l':List (Key×V)},PR K μ H l l'->PR K d5 H' l l'
 | _,_,.nil=>.nil
 | _,_,.cons r t=>.cons (r.ext R E) (t.ext R E)
def lJ(R:HR K cl μ H h)(r:RW K μ H w v)(e:fP h w=À l):∃a l',v=.ref a/\Rd H a (.dK l')/\PR K μ H l l':=by
 cases r with
 | @fdc a l0 l' ws vs s kk e1 e2 rs=>cases e;subst e1;subst e2;exact⟨a,l',rfl,s.1,RKs.pr ⟨kk,rs⟩⟩
 | @ref n a hn=>
  erw[fP] at e;split at e
  .rename_i l' ho
   cases e;obtain⟨l2,hv,rs⟩:=R.ob n a _ hn ho;exact⟨a,l2,rfl,.inl hv,RKs.pr rs⟩
  .cases e
 | _=>cases e
theorem ij(r:RW K μ H w v)(e:keyOf w=À k):v=kV k:=by
 cases r<;>cases e<;>rfl
theorem KQ.fdc{l:List (Key×W)}{l':List (Key×V)}{Q:VK}{p:È}(k:KQ K cl μ H h (.fdc l) Q)(R:HR K cl μ H h)(pr:PR K μ H l l')(hp:H p=Á):Q (.ref p) (upd H p (.dK l')):=
 k μ _ _ (.side hp) (R.side hp) (.fdc ⟨.inl qa,R.fresh hp⟩ (pr.rk.1) rfl rfl ((pr.ext R (.side hp)).rk.2))
end
noncomputable def mO(md mk mv:ME):ME:=λρ=>bnd (md ρ) λx h=>if (fP h x).isSome=Â then bnd (mk ρ) (λy=>bnd (mv ρ) λz h=>match fP h x,keyOf y with
  | some l,À k=>À ((fc l k).getD z,h)
  | _,_=>Á) h else Á
section
variable{X:Cx}{cl:Cl}{o a b:Î}{mo ma mb:ME}{apos cpos pos:ĝ}
def VG(hu:X.A.units+64<õ)(ho:SE X cl o mo)(ha:SE X cl a ma)(hb:SE X cl b mb)(m:M2 X o "get" apos a b cpos:=by exact⟨rfl,rfl,rfl,rfl⟩):SE X cl (.Call (.Attribute o "get" apos) [a,b] [] cpos) (mO mo ma mb):=
 PE.wk (WW ∅ ho ha hb m) λσ H Q q0=>by
  obtain⟨μ,h,ρ,w,h',R,er,e,k⟩:=q0;obtain⟨x,h1,e1,e⟩:=kc e;split at e
  .rename_i hd
   obtain⟨y,h2,e2,e⟩:=kc e;obtain⟨z,h3,e3,e⟩:=kc e;refine⟨μ,h,ρ,x,h1,R,er,e1,λd3 H1 vx E1 R1 rx=>?_⟩;obtain⟨l0,hd⟩:=vH.mp hd;obtain⟨d,l',rfl,rd,_⟩:=lJ R1 rx hd;refine⟨d,rfl,.inl ⟨l',rd⟩,d3,h1,ρ,y,h2,R1,er.ext R E1,e2,λhX H2 vy E2 R2 ry=>⟨hX,h2,ρ,z,h3,R2,(er.ext R E1).ext R1 E2,e3,λAN H3 vz E3 R3 rz=>?_⟩⟩;split at e
   .rename_i l k' el ek
    cases e;obtain⟨d2,l2,ed,PY,pr⟩:=lJ R3 ((rx.ext R1 E2).ext R2 E3) el;cases ed;have hk:=ij ry ek;subst hk;refine⟨y8 l2 k',.inl ⟨l2,k',PY,rfl,rfl⟩,?_⟩;have E:=E1.trans (E2.trans E3);have:=pr.val (k:=k');cases ev:fc l k' with
    | none=>rw[ev] at this k;rw[this];exact k AN H3 _ E R3 rz
    | some w0=>rw[ev] at this k;obtain⟨v0,e0,r0⟩:=this;rw[e0];exact k AN H3 _ E R3 r0
   .cases e
  .cases e
def UX:SE X cl (.Dict [] [] pos) (eC (.fdc [])):=
 PE.wk t9 λσ H Q q0=>by
  obtain⟨μ,h,ρ,w,h',R,er,e,k⟩:=q0;cases e;exactλp hp=>k.fdc R .nil hp
noncomputable def Ys:ME:=λ_ h=>À (.ref h.length,h++[.dic []])
def VM:SE X cl (.Dict [] [] pos) Ys:=
 PE.wk t9 λσ H Q q0=>by
  obtain⟨μ,h,ρ,w,h',R,er,e,k⟩:=q0;cases e;exactλp hp=>k (μ++[p]) _ _ (.new hp) (R.new hp ⟨[],qa,rfl,.nil⟩) (.ref (by rw[<-R.len];simp))
end
def W9{A:Ù}(S:Stp it a P C)(hh:A.handled=Á)(AB:a≠it)(l:List Ã) :
  Draws prog w A it [it,a] l.length (λi v=>l[i]?=À v) (λi h=>P i h/\C h l) where
 live:=λ_ _ st=>let ⟨o,ho,_⟩:=S.obj st.1;⟨o,ho⟩
 frame:=λ_ _ _ st hk=>⟨S.keep st.1 λo e=>hk it (by simp) o e,S.keepC st.2 λo e=>hk a (by simp) o e⟩
 item:=λi s Q E hi st hQ=>S.item st.1 st.2 (x:=l[i]) (by simp[hi]) λh' MA Ak=>hQ _ h' s.toks (by simp[hi]) ⟨MA,S.keepC st.2 λo e=>Ak.extBut _ _ AB e⟩ Ak
 done:=λs Q E st hE=>S.last hh st.1 st.2 (by simp) hE
section
variable{prog:Ï}{w:Ô}{A:Ù}{E:Ã->Å->Prop}{s:Å}
def QK(S:Stp it a P C){l:List Ã}(hh:A.handled=Á)
  (he:IsEnum s.heap e it j old) (p:P i s.heap) (c:C s.heap l) (hx:l[i]?=Á) (hQ:∀h',Ű it s.heap h'->Q Á { s with heap:=h' }):É (Í prog w) A (ę (.ref e)) Q E s:=by
 have hT:s.TypeIs (.ref e) "enumerate":=⟨_,he,rfl⟩;unfold ę;refine za (vA (jy (name:=ù "__next__") hT F.slot_enumerate_next (jk F.slot_enumerate_next hT F.entry_enumerate_next ?_ (F.args_enumerate_next_1 _))));show É _ _ (field (.ref e) 2 >>= _) _ _ _;refine za (j7 he rfl (x:=.ref it) rfl ?_)
 refine za (S.last hh p c hx λh' x PZ MB=>?_);obtain⟨o,ho,hc⟩:=MB;refine za (qM (T:="StopIteration") (b:=Â) ⟨o,ho,hc⟩ u6 ?_);exact zf (hQ _ PZ)
end
def VF(r:mE v o C) :
  Meets (é.«enumerate.__new__» ⟨[.type "enumerate",v],[]⟩) (λ_ R s=>C s.heap/\R (.ok (.ret (.ref (s.heap.push o).objs.size))) { s with heap:=(s.heap.push o).push { cls:=.type "enumerate",data:=.fields #[.none,.bool Ä,.ref s.heap.objs.size,ÿ 0,.none,.none] } }):=
 .of_wp λprog w A R s h=>by
  obtain⟨hp,g,d,tk,os⟩:=s;obtain⟨k1,h⟩:=h;have EH:=sub_enumerate;have q1:∀{A:Ù} {E:Ã->Å->Prop} {Q:Ã->Å->Prop},Q (.ref hp.objs.size) ⟨hp.push o,g,d,tk,os⟩->É (Í prog w) A (Ĭ v) Q E ⟨hp,g,d,tk,os⟩:=λq=>r prog w _ _ _ _ k1 q
  wp_walk
  refine wpAny_stack_any λst=>zf ?_
  split
  .rename_i c _ _ _ _ _
   cases (c==Č "enumerate")<;>(wp_walk using q1;exact⟨_,rfl,h⟩)
  .wp_walk using q1
   exact⟨_,rfl,h⟩
section
variable{prog:Ï}{w:Ô}{A:Ù}{E:Ã->Å->Prop}{s:Å}
def Jw{o:ó}(r:mE v o C)(k1:C s.heap)(hf:o.isFreed=Ä)
  (h:∀h',IsEnum h' (s.heap.objs.size+1) s.heap.objs.size 0 .none->h'.get? s.heap.objs.size=À o->(∀c o,s.heap.get? c=À o->h'.get? c=À o)->Q (.ref (s.heap.objs.size+1)) { s with heap:=h' }) :
  É (Í prog w) A (ŀ (.type "enumerate") [v]) Q E s:=by
 refine callType_new F.called_enumerate (by decide) (F.typeCall_enumerate_1 _) (F.newCall_enumerate_1 _) (λobj=>F.args_object_init_2 obj _) F.entry_enumerate_new (VF r) ⟨k1,?_⟩;have hz:(s.heap.push o).objs.size=s.heap.objs.size+1:=jW ..;have b2:((s.heap.push o).push { cls:=.type "enumerate",data:=.fields #[.none,.bool Ä,.ref s.heap.objs.size,ÿ 0,.none,.none] }).get? (s.heap.push o).objs.size=À _:=zH _ rfl;have b1:((s.heap.push o).push { cls:=.type "enumerate",data:=.fields #[.none,.bool Ä,.ref s.heap.objs.size,ÿ 0,.none,.none] }).get? s.heap.objs.size=À _:=zc _ (zH _ hf);show _/\_
 rw[hz] at b2 ⊢;exact⟨⟨_,b2,rfl⟩,h _ b2 b1 λc o x=>zc _ (zc _ x)⟩
end
noncomputable def GO (K : Te) (tp : Bool) (a : È) : It :=
  ⟨λi H => ∃ xs x, dE K tp H a xs /\ xs[i]? = À x,
   λi H v H' => ∃ p x, H p = Á /\ v = .ref p /\ H' = upd H p (.tup [.int i, x]) /\ (∀ xs, dE K tp H a xs -> xs[i]? = À x),
   λi H => ∃ xs, dE K tp H a xs /\ xs.length <= i⟩
def J5{P:Ï}{w:Ô}{K:Te}(tp:Bool)(e it a:È)(AB:e≠it) :
  Turn P w K (.Tuple AS n AU) (GO K tp a) [e,it] e (λi h=>(∃old,IsEnum h e it i old)/\Qw tp it a i h) where
 mem:=by simp
 obj:=λi h st b hb=>by
  obtain⟨⟨old,he⟩,p⟩:=st;erw[zg,zA,kO] at hb;rcases hb with rfl | rfl
  .exact⟨_,he,λv q=>by cases q⟩
  .exact(vF tp _ a).obj p
 keep:=λi h h' st k=>by
  obtain⟨⟨old,he⟩,p⟩:=st;exact⟨⟨old,k e (by simp) _ he⟩,(vF tp it a).keep p λo q=>k it (by simp) o q⟩
 item:=by
  intro X hP hw hK hc i ag s σ H E I hf st hg;subst hP hw hK;obtain⟨xs,x,d,hx⟩:=hg;obtain⟨⟨old,he⟩,p⟩:=st;obtain⟨l,r,c⟩:=xi I d;obtain⟨u,eu,ru⟩:=r.get hx;have ae:a≠e:=ac I d (hf e (by simp));have ai:a≠it:=ac I d (hf it (by simp));refine wpAny_pyNext_enum_itemD (W9 (A:=X.A.in1) (vF tp it a) (I.ok.hd hc) ai l) he ⟨p,c⟩ (zu.mp eu).1 AB (by simp[AB,jn ae]) λx' h' tk hP ho EI hT hsz hk=>⟨_,rfl,?_⟩
  rw[eu] at hP;cases hP;refine wpAny_letOwnedTupleGo_enum ho λh2 HL EF=>?_
  have elt:e<s.heap.objs.size:=zJ he;have NQ:h2.get? s.heap.objs.size=À { cls:=.type "tuple",data:=.seq #[.int i tk,u] }:=EF.extBut _ _ (v6 elt) hT;have I2:Inv X ag σ (upd H s.heap.objs.size (.tup [.int i,x])) { s with heap:=h2,toks:=tk+1 }:=fj (t':=tk+1) (fp:=[e,it]) I (λb o hb q=>EF.extBut _ _ (λz=>hb (by simp[z])) (hk b o (λz=>hb (by simp[z])) (λz=>hb (by simp[z])) q)) hf (zy _)
   ⟨by show 2<=Ð;decide,[.int i tk,u],.cons ⟨tk,rfl⟩ (.cons ru .nil),⟨_,NQ,rfl,_,rfl⟩,⟨_,NQ,rfl⟩⟩
  refine⟨.ref s.heap.objs.size,_,I2,rfl,⟨_,x,I.hok.fresh (zy _),rfl,rfl,λPN q=>by rw[nM I q d];exact hx⟩,⟨⟨_,HL⟩,(vF tp it a).keep EI.1 λo q=>EF.extBut _ _ (jn AB) q⟩,λb hb=>?_⟩;obtain⟨o,q⟩:∃o,s.heap.get? b=À o:=by
   erw[zg,zA,kO] at hb;rcases hb with rfl | rfl
   .exact⟨_,he⟩
   .obtain⟨o,q,_⟩:=(vF tp _ a).obj p;exact⟨o,q⟩
  rw[kH (zL (zJ q))];exact(hf b hb).1
 done:=by
  intro X hP hw hK hc i ag s σ H E I hf st hg;subst hP hw hK;obtain⟨xs,d,hx⟩:=hg;obtain⟨⟨old,he⟩,p⟩:=st;obtain⟨l,r,c⟩:=xi I d;exact QK (vF tp it a) (I.ok.hd hc) he p c (jF (by rw[<-r.length];exact hx)) λh' MB=>⟨rfl,mY (t':=s.toks) (fp:=[e,it]) I (λb o hb q=>MB b o (λz=>hb (by simp[z])) q) hf⟩
 self:=λ_ _ _ _ _ st h=>by obtain⟨⟨old,he⟩,_⟩:=st;exact wpAny_pyIter_enum he h
noncomputable def numbered(l:List W):List W:=l.zipIdx.map λp=>.tup [.int (p.2:Nat),p.1]
noncomputable def l5(ws:List W):M Src:=λh=>match ws with
 | [x]=>match u3 h x with
  | some l=>À (.items (numbered l),h)
  | none=>Á
 | _=>Á
noncomputable def w8(ms:List ME):MI:=λρ=>bnd (xC ms ρ) l5
def iq(l:List W)(i:Nat):(numbered l)[i]?=(l[i]?).map λw=>.tup [.int (i:Nat),w]:=by
 unfold numbered;rw[kh,uX];cases l[i]?<;>simp
section
variable{X:Cx}{cl:Cl}{AS:List Î}{n:Nat}{AU p pos:ĝ}{e1:Î}{ms:List ME}
def XZ(hm:X.mg "enumerate" = Á)(ha:SA X cl [e1] ms)(hg:↥(Gl X "enumerate"))(r9:↥(Ì [e1] X.env=(Ä,å e1 X.env)::Ì [] X.env))(Ai:↥((á pos (Ì [] X.env)).any (·.1)=Ä)) :
  SI X cl (.Tuple AS n AU) (.Call (.Name "enumerate" p) [e1] [] pos) (w8 ms):=by
 rintro ag s σ H R I ⟨μ,h,ρ,src,h',R0,er,e,k⟩;obtain⟨ws,h1,Fn,e⟩:=kc e;have hv:Ø "enumerate" = À (.type "enumerate"):=by decide +kernel
 refine jR (xw I hg hm hv ?_ (by decide) (by decide));refine jY (ku (ha pos ag s σ H (λvs H1=>∃d3,Ext μ H d3 H1/\HR X.K cl d3 H1 h1/\RWs X.K d3 H1 ws vs) I ⟨μ,h,ρ,ws,h1,R0,er,Fn,λd3 H1 vs E1 R1 rs=>⟨d3,E1,R1,rs⟩⟩) ?_) r9 Ai;rintro us s1 ⟨vs,H1,I1,r1,d3,E1,R1,rs⟩;unfold l5 at e;split at e
 .rename_i x
  split at e
  .rename_i l q1
   cases e;cases rs with | cons rx t=>cases t with | nil=>
   obtain⟨t1,a1,xs,rfl,IQ,d1,f1⟩:=lS (cl:=cl) rx q1;obtain⟨u1,rfl,HH⟩:=r1.one;cases HH;obtain⟨l1,v1,c1⟩:=xi I1 d1;refine Jw (KL t1 a1 l1) c1 (lE t1 a1) λh2 b2 b1 kp=>?_
   refine wpAny_pyIter_enum b2 ?_;refine⟨_,_,_,_,H1,rfl,I1.kept (t':=s1.toks) kp,J5 t1 _ _ a1 (xQ _),⟨⟨_,b2⟩,nJ b1⟩,λb hb=>?_,k d3 H1 _ E1 R1 ?_⟩
   .have HI:s1.heap.objs.size<=b:=by
     erw[zg,zA,kO] at hb;rcases hb with rfl | rfl<;>omega
    exact I1.fpOk HI (I1.hok.fresh HI)
   .intro hX H2 h3 E2 R2 i
    have HJ:=f1 hX H2 h3 R1 E2 R2;have HK:=IQ.ext R1 E2;refine⟨λw ew=>?_,λes=>?_⟩
    .have Ah:(numbered l)[i]?=À w:=zW ew
     rw[iq] at Ah;cases ez:l[i]? with
     | none=>rw[ez] at Ah;cases Ah
     | some w0=>
      rw[ez] at Ah;cases Ah;obtain⟨vx,IR,Mw⟩:=HK.get ez;refine⟨⟨xs,vx,HJ,IR⟩,λv H3 yl=>?_⟩;obtain⟨pp,x',hp,rfl,rfl,w1⟩:=yl;have z1:=w1 xs HJ;rw[IR] at z1;cases z1;exact⟨.side hp,R2.side hp,.tup (SqT.of qa) (.cons (.int _) (.cons (Mw.ext R2 (.side hp)) .nil))⟩
    .have es':(numbered l)[i]?=Á:=zW es
     rw[iq] at es';refine⟨xs,HJ,?_⟩;rw[<-IQ.length];cases ez:l[i]? with
     | none=>exact jM.mp ez
     | some w0=>rw[ez] at es';cases es'
  .cases e
 .cases e
end
def sub_tuple_set:isSubtype (.type "tuple") (.type "set")=pure Ä:=by rw[vM];kernel_rfl
def sub_tuple_frozenset:isSubtype (.type "tuple") (.type "frozenset")=pure Ä:=by rw[vM];kernel_rfl
end ML
namespace ML
open PySem PySem.Spec PyProof.Rows L2
noncomputable def strsOf:List W->Option (List Ç)
 | []=>À []
 | .str b::r=>match strsOf r with
  | some l=>À (b::l)
  | none=>Á
 | _=>Á
noncomputable def keysOf:List (W×W)->Option (List (Key×W))
 | []=>À []
 | (x,y)::r=>match keyOf x,keysOf r with
  | some k,À l=>À ((k,y)::l)
  | _,_=>Á
noncomputable def pairsOf:List W->Option (List (W×W))
 | []=>À []
 | .tup [x,y]::r=>match pairsOf r with
  | some l=>À ((x,y)::l)
  | none=>Á
 | _=>Á
noncomputable def iM(ws:List W):M W:=λh=>match ws with
 | [w]=>match fP h w with
  | some l=>À (.fdc l,h)
  | none=>match getL h w with
   | some l=>match pairsOf l with
    | some ps=>match keysOf ps with
     | some ks=>if ks.length<=1000 then À (.fdc (xA [] ks),h) else Á
     | none=>Á
    | none=>Á
   | none=>Á
 | _=>Á
def UY(h:T="list" \/ T="tuple" \/ T="zip"):ŉ (.type T) "keys" = pure Á:=by
 rcases h with rfl | rfl | rfl<;>(rw[wR,vm];kernel_rfl)
def UB(h:T="list" \/ T="tuple" \/ T="zip"):ŉ (.type T) "__getattr__" = pure Á:=by
 rcases h with rfl | rfl | rfl<;>(rw[wR,vm];kernel_rfl)
def lL:isSubtype (.type "AttributeError") (.type "AttributeError")=pure Â:=by rw[vM];kernel_rfl
section
variable{prog:Ï}{w:Ô}{A:Ù}{E:Ã->Å->Prop}{s:Å}
theorem XW{name:Ã}(he:s.heap.get? e=À { cls:=.type "AttributeError",data:=.fields #[v0,v1,v2,v3,v4,v5,ÿ 0,ÿ 0] })
  (hq:∀h' ob,Ű e s.heap h'->h'.get? e=À ob->ob.cls=.type "AttributeError"->Q () { s with heap:=h' }):É (Í prog w) A (noteAttr (.ref e) o name) Q E s:=by
 have hT:s.TypeIs (.ref e) "AttributeError":=⟨_,he,rfl⟩;unfold noteAttr;refine za ?_;unfold lacksNameAndObj;refine za (qM hT lL ?_);erw[xg,zO,ju];refine za (xj he ?_);refine zf ?_;erw[je];refine za (vq (za (qC hT ?_)));show É _ _ (layMembers e 6 #[name,o]) _ _ s
 unfold layMembers;refine za (xj he ?_);refine wpAny_update he (hq _ _ (qg ..).extBut (jD _ he ?_) ?_)
 .rfl
 .rfl
def KR{α:Type}{o:Ã}{x msg:Ç}{Q:α->Å->Prop}(hh:A.handled=Á)(hm:msg.length<=Ð)
  (hq:∀h' Au e,(∀b ob,s.heap.get? b=À ob->h'.get? b=À ob)->(∃ob,h'.get? e=À ob/\ob.cls=.type "AttributeError")->E (.ref e) { s with heap:=h',toks:=Au }):É (Í prog w) A (raiseAttrError o x msg:Sem α) Q E s:=by
 unfold raiseAttrError;refine za (wpAny_mkStr (za ?_) hm);unfold newExc newTuple;refine za (jd ?_);refine za (m:=į _ _) (wQ (a:=Ö) (by first | rfl | kernel_rfl) ?_);refine jd ?_;refine za (wpAny_mkText (za ?_));refine XW (zH _ rfl) λh' ob hx ho hc=>?_
 unfold raiseNew;refine za (wpAny_handled ?_);rw[hh];first
  | refine xP ?_
  | refine za (zf (xP ?_))
 refine hq _ _ _ (λb P0 hb=>hx b P0 ?_ (zc _ (zc _ hb))) ⟨ob,ho,hc⟩;refine zL (zN (zJ hb) ?_);simp
end
section
variable{prog:Ï}{w:Ô}{A:Ù}{E:Ã->Å->Prop}{h:Õ}{g:Array ř}{d:Drawn}{t:Nat}{os:Ŀ}{a:È}{items:Array Ã}{n:Nat}{sl:Array (Option Ã)}{dd:Option È}
noncomputable def B5(h:Õ)(g:Array ř)(d:Drawn)(os:Ŀ)(E:Ã->Å->Prop):Prop:=∀h' Au e,(∀b ob,h.get? b=À ob->h'.get? b=À ob)->(∃ob,h'.get? e=À ob/\ob.cls=.type "AttributeError")->E (.ref e) ⟨h',g,d,Au,os⟩
set_option maxHeartbeats 1000000 in
def J7(hh:A.handled=Á)(hx:h.get? a=À { cls:=.type "list",dict:=Á,data:=.seq items n,slots:=sl })(hq:B5 h g d os E) :
  É (Í prog w) A (é.«object.__getattribute__» ⟨[.ref a,.str "keys" tk],[]⟩) Q E ⟨h,g,d,t,os⟩:=by
 have hT:(⟨h,g,d,t,os⟩:Å).TypeIs (.ref a) "list":=⟨_,hx,rfl⟩;have f4:=UY (T:="list") (.inl rfl);repeat (any_goals (first | assumption | wp_step))
 refine KR hh ⋯ λh' Au e k1 k2=>hq h' Au e k1 k2
def rR(hh:A.handled=Á)(hx:h.get? a=À { cls:=.type "list",dict:=Á,data:=.seq items n,slots:=sl })(hq:B5 h g d os E):É (Í prog w) A (getAttrBy (.ref a) (.str "keys" tk) Ä) Q E ⟨h,g,d,t,os⟩:=by
 have hT:(⟨h,g,d,t,os⟩:Å).TypeIs (.ref a) "list":=⟨_,hx,rfl⟩;have f2:=yD.lookup;have f3:=yD.bind (.ref a);unfold getAttrBy;refine jm (za (qC hT (za (wQ f2 ?_))));show É _ _ (getAttrByItsOwn (.ref a) (.str "keys" tk) (.type "list") (.builtin "list.__getattribute__") Ä Ä) _ _ _
 unfold getAttrByItsOwn;refine za (zf ?_);refine za (vA ?_);refine jm ?_;show É _ _ (boundAndCalled (.builtin "list.__getattribute__") (.ref a) (.str "keys" tk)) _ _ _
 unfold boundAndCalled;refine za (wQ f3 ?_);refine jk yD hT F.entry_list_ga ?_ (F.args_list_getattribute_2 _ _);refine J7 hh hx λh' Au e k1 k2=>?_
 obtain⟨ob,ho,hc⟩:=k2;have P3:(⟨h',g,d,Au,os⟩:Å).TypeIs (.ref e) "AttributeError":=⟨_,ho,hc⟩;show É _ _ (getattributeRaised (.ref a) (.str "keys" tk) (.type "list") (.ref e) Á Ä Ä) _ _ _
 unfold getattributeRaised;refine za (qM P3 lL ?_);erw[je];refine za (wQ (show hookBehind (.type "list") Á=pure Á from UB (.inl rfl)) ?_);show É _ _ (ű (.ref a) (.str "keys" tk) (.ref e) Ä Ä) _ _ _
 unfold ű;erw[Bool.not_false,je];exact xP (hq h' Au e k1 ⟨ob,ho,hc⟩)
def tX(hh:A.handled=Á)(hx:h.get? a=À { cls:=.type "list",dict:=Á,data:=.seq items n,slots:=sl })(hq:∀h' Au,(∀b ob,h.get? b=À ob->h'.get? b=À ob)->Q Á ⟨h',g,d,Au,os⟩):É (Í prog w) A (getAttr? (.ref a) "keys") Q E ⟨h,g,d,t,os⟩:=by
 unfold getAttr? getAttrBy?;refine za (wpAny_mkText ?_);refine za (vA (rR hh hx λh' Au e k1 k2=>?_));obtain⟨ob,ho,hc⟩:=k2;refine za (qM (T:="AttributeError") (b:=Â) ⟨ob,ho,hc⟩ lL ?_);exact zf (hq h' Au k1)
end
def oG:Ų table "dict.update.loop" = À é.«dict.update.loop»:=entryFor_of_tree SJ
def eg:plainId "dict.update.loop" = Â:=by decide +kernel
section
variable{prog:Ï}{w:Ô}{A:Ù}{R:Result->Å->Prop}{I D:È}{fp wr:List È}{n:Nat}{P:Nat->Ã->Prop}{St:Nat->Õ->Prop}{h0:Õ}{us:List Ã}{cx:List (Key×Ã)}
noncomputable def ni(knd:KeyKind prog w Key)(h:Õ)(us:List Ã)(cx:List (Key×Ã)):Prop:=us.length=cx.length/\∀(i:Nat) (u:Ã) (kv:Key×Ã),us[i]?=À u->cx[i]?=À kv->∃T k,u=.ref T/\Ţ h T #[k,kv.2]/\knd.is kv.1 k=Â
def WG(knd:KeyKind prog w Key)(W:Walks prog w A.in1 I fp wr us.length (λi v=>us[i]?=À v) St)(NR:D∉fp)(P4:h0.get? D=Á)(NS:∀b∈wr,h0.get? b=Á)(hp:ni knd h0 us cx)(hz:cx.length<=1000) :
  ∀(k i:Nat) (tk:Tok) (s:Å),us.length-i=k->i<=us.length->St i s.heap->s.heap.DictOf knd D (merged [] (cx.take i))->(∀b o,h0.get? b=À o->s.heap.get? b=À o)->
   (∀h' Au,h'.DictOf knd D (merged [] cx)->(∀b o,h0.get? b=À o->h'.get? b=À o)->R (.ok (.ret .none)) { s with heap:=h',toks:=Au })->
   Ł (Í prog w) A (.builtin "dict.update.loop" ⟨[.ref D,.ref I,.int i tk,.none],[]⟩) R s:=by
 have NT:D∉wr:=λh=>NR (W.sub _ h)
 intro k;induction k with
 | zero=>
  intro i tk s hk hi r9 hd MC hR;obtain rfl:i=us.length:=by omega
  refine qt oG ?_;rw[jQ eg _];show É _ A.in1 (ę (.ref I) >>= _) _ _ s;refine za (W.done s _ _ r9 λh' Au kk=>?_)
  show É _ A.in1 (Builtin.Dict.addKeywords D [] >>= _) _ _ _
  refine za (zf (zf (hR h' Au ?_ λb o e=>kk b o (λz=>by rw[NS b z] at e;cases e) (MC b o e))));rw[hp.1,xV] at hd;obtain⟨o,es,ep,ho,rest⟩:=hd;exact⟨o,es,ep,kk D o NT ho,rest⟩
 | succ k ih=>
  intro i tk s hk hi r9 hd MC hR;have Af:i<us.length:=by omega
  refine qt oG ?_;rw[jQ eg _];show É _ A.in1 (ę (.ref I) >>= _) _ _ s;refine za (W.item i s _ _ Af r9 λv h' Au hv EI kk=>?_)
  have LD:i<cx.length:=by rw[<-hp.1];exact Af
  obtain⟨T,key,rfl,hT,NU⟩:=hp.2 i v cx[i] hv (zM LD);have keep:∀b o,h0.get? b=À o->h'.get? b=À o:=λb o e=>kk b o (λz=>by rw[NS b z] at e;cases e) (MC b o e)
  have AZ:Ţ h' T #[key,cx[i].2]:=by obtain⟨o,ho,r⟩:=hT;exact⟨o,keep T o ho,r⟩
  have AM:h'.DictOf knd D (merged [] (cx.take i)):=by obtain⟨o,es,ep,ho,rest⟩:=hd;exact⟨o,es,ep,kk D o NT ho,rest⟩
  show É _ A.in1 (Ē [Ê T] _ >>= _) _ _ _
  refine za (jm (za (wpAny_tryCatch ?_)));unfold Builtin.Dict.pairItems;refine za (qC AZ.typeIs ?_);rw[zQ (by decide)];obtain⟨oT,P5,SL,nT,P6⟩:=AZ;refine za (jT P5 P6 (zf ?_));show É _ _ (Ē [key,cx[i].2] (dictSet D key cx[i].2)) _ _ _
  refine jm ?_;unfold dictSet;try with_reducible refine jm ?_
  refine za (knd.pyHash NU ?_);refine wpAny_dictSetHashed_pairs (s:={ s with heap:=h',toks:=Au+1 }) NU AM (λh2 hd2 sb=>?_) (by have:=merged_length_le ([]:List (Key×Ã)) (cx.take i);rw[qX] at this;simp at this;exact zp (zp this ∅) (show 1000<=Ð by decide));refine zf ⟨vB eg _,ih (i+1) _ _ ∅ Af (W.frame _ _ _ EI λb hb o e=>?_) ?_ (λb o e=>?_) λh3 P7 P8 k3=>?_⟩
  .rw[sb.2 b (λz:b=D=>NR (by rw[<-z];exact hb))];exact e
  .rw[merged_take_succ [] cx i cx[i] (zM LD)];exact hd2
  .rw[sb.2 b (λz:b=D=>by rw[z,P4] at e;cases e)];exact keep b o e
  .exact hR h3 P7 P8 k3
end
section
variable{prog:Ï}{w:Ô}{A:Ù}{E:Ã->Å->Prop}{s:Å}{us:List Ã}{cx:List (Key×Ã)}{l:È}{n:Nat}{sl:Array (Option Ã)}
def nv(knd:KeyKind prog w Key)(hh:A.handled=Á)(hl:s.heap.get? l=À { cls:=.type "list",dict:=Á,data:=.seq us.toArray n,slots:=sl })(hp:ni knd s.heap us cx)(hz:cx.length<=1000)
  (h:∀h' Au,h'.DictOf knd s.heap.objs.size (merged [] cx)->(∀b o,s.heap.get? b=À o->h'.get? b=À o)->Q (.ref s.heap.objs.size) { s with heap:=h',toks:=Au }):É (Í prog w) A (ŀ (.type "dict") [.ref l]) Q E s:=by
 refine callType_codes (Q₁:=λobj d6=>obj=.ref s.heap.objs.size/\d6={ s with heap:=s.heap.push { cls:=.type "dict",data:=.dict #[] } }) F.kt_called_dict (F.kt_typeCall_dict_1 _) F.entry_dict_init (kt_code_dict_new _ ⟨rfl,rfl⟩) ?_;rintro obj d6 ⟨rfl,rfl⟩;have AG:(s.heap.push { cls:=.type "dict",data:=.dict #[] }).DictOf knd s.heap.objs.size []:=Heap.DictOf.new s.heap;refine⟨AG.typeIs,F.args_dict_init_2 _ _,?_⟩;unfold é.«dict.__init__»;refine za ?_;unfold Builtin.Dict.selfAndRest;refine za (ũ AG.typeIs ?_);show É _ _ (pure (s.heap.objs.size,[Ê l])) _ _ _
 refine zf ?_;show É _ _ (Builtin.Dict.updateFrom "dict.__init__" s.heap.objs.size (.ref l) [] .none) _ _ _
 unfold Builtin.Dict.updateFrom;have G5:(s.heap.push { cls:=.type "dict",data:=.dict #[] }).get? l=À _:=zc _ hl;refine za (qC (T:="list") ⟨_,G5,rfl⟩ ?_);rw[zQ (by decide)];have P9:A.in1.in1.handled=Á:=by simpa using hh
 refine za (tX P9 G5 λh1 Ic k1=>?_);erw[Option.isNone_none,je];have Mg:=k1 _ _ G5;have hL:h1.IsList l us.toArray:=⟨_,Mg,rfl,n,rfl⟩;refine za (vq ?_);refine za (v9 hL ?_);have k0:∀b o,s.heap.get? b=À o->h1.get? b=À o:=λb o e=>k1 b o (zc _ e)
 have HM:s.heap.objs.size<h1.objs.size:=by obtain⟨o,es,ep,ho,_⟩:=AG;exact zJ (k1 _ _ ho)
 have IS:l<s.heap.objs.size:=zJ hl;have Ra:h1.DictOf knd s.heap.objs.size []:=by obtain⟨o,es,ep,ho,rest⟩:=AG;exact⟨o,es,ep,k1 _ _ ho,rest⟩
 have AB:l≠h1.objs.size:=zL (uR IS HM);have W0:=Walks.list (prog:=prog) (w:=w) (A:=A.in1.in1) (by simpa using hh) h1.objs.size l AB us.toArray;have W1:Walks prog w A.in1.in1 h1.objs.size [h1.objs.size,l] [h1.objs.size] us.length (λi v=>us[i]?=À v) (λi h=>h.IsListIter h1.objs.size l i/\h.IsList l us.toArray):=by simpa using W0
 refine zf ⟨vB eg _,WG (h0:=s.heap) knd W1 ?_ ?_ ?_ hp hz us.length 0 _ _ rfl (j9 _) ⟨⟨_,zH _ rfl,rfl,rfl⟩,hL.at λo e=>zc _ e⟩ ?_ (λb o e=>zc _ (k0 b o e)) λh' Au AM k'=>?_⟩
 .erw[zg,zA,kO,yw]
  exact⟨zL HM,v6 IS⟩
 .exact xG (zy _)
 .intro b hb
  erw[zg,zA,kO] at hb;rw[hb];exact xG (qQ HM)
 .obtain⟨o,es,ep,ho,rest⟩:=Ra
  exact⟨o,es,ep,zc _ ho,rest⟩
 .exact⟨rfl,h h' Au AM k'⟩
end
end ML
namespace ML
open PySem PySem.Spec PyProof.Rows L2
section
variable{X:Cx}{cl:Cl}
theorem si{K:Te}{μ:List È}{H:Hp}:∀{l:List W} {vs:List V} {ps:List (W×W)} {ks:List (Key×W)},RWs K μ H l vs->pairsOf l=À ps->keysOf ps=À ks->
  ∃pf:List (Key×V),PR K μ H ks pf/\vs.length=pf.length/\∀(i:Nat) (v:V) (kv:Key×V),vs[i]?=À v->pf[i]?=À kv->∃T,v=.ref T/\SqT K H T [kV kv.1,kv.2]
 | [],_,_,_,.nil,e1,e2=>by
  cases e1;cases e2;exact⟨[],.nil,rfl,λi v kv e=>by simp at e⟩
 | w::l,_,ps,ks,.cons (v:=v) r t,e1,e2=>by
  have hw:∃x y,w=.tup [x,y]:=by
   unfold pairsOf at e1;split at e1
   .rename_i hd;cases hd
   .rename_i x y r' hd;cases hd;exact⟨x,y,rfl⟩
   .cases e1
  obtain⟨x,y,rfl⟩:=hw;unfold pairsOf at e1;split at e1
  .rename_i l' e3
   cases e1;unfold keysOf at e2;split at e2
   .rename_i k lk e4 e5
    cases e2;obtain⟨pf,p,hl,hi⟩:=si t e3 e5;obtain⟨T,SM,rfl,sq,rr⟩:=r.tup_of;cases rr with | cons r1 rr=>cases rr with | @cons _ v2 _ _ r2 rr=>cases rr with | nil=>
    have:=ij r1 e4;subst this;refine⟨(k,v2)::pf,.cons r2 p,by simp[hl],λi v kv ev ek=>?_⟩;cases i with
    | zero=>simp at ev ek;subst ev;subst ek;exact⟨T,rfl,sq⟩
    | succ i=>exact hi i v kv (by simpa using ev) (by simpa using ek)
   .cases e2
  .cases e1
theorem pairs_at{s:Å}{H:Hp}(I:Inv X ag σ H s):∀{vs:List V} {cb:List Ã} {pf:List (Key×V)},Vals vs cb->vs.length=pf.length->
  (∀(i:Nat) (v:V) (kv:Key×V),vs[i]?=À v->pf[i]?=À kv->∃T,v=.ref T/\SqT X.K H T [kV kv.1,kv.2])->∃cx,KV pf cx/\ni (qB X.prog X.w) s.heap cb cx
 | _,_,[],.nil,_,_=>⟨[],.nil,rfl,λi u kv e=>by simp at e⟩
 | _,_,_::_,.nil,hl,_=>by simp at hl
 | _,_,[],.cons _ _,hl,_=>by simp at hl
 | _,_,(k,v2)::pf,.cons (a:=v) (b:=u) r t,hl,hi=>by
  obtain⟨cx,q1,q2,q3⟩:=pairs_at I t (by simpa using hl) λi v kv e1 e2=>hi (i+1) v kv (by simpa using e1) (by simpa using e2)
  obtain⟨T,rfl,sq⟩:=hi 0 v (k,v2) (by simp) (by simp);obtain⟨SN,rv,ht,_⟩:=I.tuple sq;obtain⟨u1,u2,rfl,HH,Hx⟩:=vals2 rv;cases r;refine⟨(k,u2)::cx,.cons ⟨rfl,Hx⟩ q1,by simp[q2],λi u kv e1 e2=>?_⟩;cases i with
  | zero=>simp at e1 e2;subst e1;subst e2;exact⟨T,u1,rfl,ht,pY HH⟩
  | succ i=>exact q3 i u kv (by simpa using e1) (by simpa using e2)
def Kx(hc:X.calm=Â):qh X (.type "dict") (rMs X.K cl iM):=by
 rintro ag s σ H xs us Q I rs ⟨μ,h,ws,w,h',R,ax,e,k⟩;unfold iM at e;split at e
 .cases ax with | cons r t=>cases t with | nil=>
  obtain⟨u,rfl,ru⟩:=rs.one;split at e
  .rename_i l el
   cases e;obtain⟨a,l',rfl,rd,pr⟩:=lJ R r el;cases ru;exact Wy I rd λp s' hp I'=>⟨.ref p,_,I',rfl,k.fdc R pr hp⟩
  .split at e
   .rename_i l el
    split at e
    .rename_i ps ep
     split at e
     .rename_i ks ek
      split at e
      .rename_i gy
       cases e;obtain⟨a,vs,rfl,sa,ra⟩:=wc R r el;cases ru;obtain⟨pf,pr,hl,hi⟩:=si ra ep ek;obtain⟨cb,rv,⟨⟨oc,od,Rb,Et⟩,n,g1,g2,g3,g4⟩,_⟩:=I.list sa;simp only at g2 g3 g4;subst g2 g3 g4;obtain⟨cx,q1,q2⟩:=pairs_at I rv hl hi;have LD:pf.length=cx.length:=q1.length;refine nv (qB X.prog X.w) (I.ok.hd hc) g1 q2 (by rw[<-LD,<-pr.len];exact gy) λh2 tk dd kp=>?_
       have rel:KV (dQ [] pf) (merged [] cx):=q1.merge .nil;have hz:(dQ [] pf).length<=Ð:=by
        have h1:=gD pf [];rw[kI] at h1;rw[jA];have:=pr.len;omega
       exact⟨.ref _,_,I.laid (a:=s.heap.objs.size) (o:=.dK (dQ [] pf)) (t':=tk) kp (zy _) (sg hz (jB.mpr (jn (zL I.big))) rel dd),rfl,k.fdc R (pr.merge .nil) (I.hok.fresh (zy _))⟩
      .cases e
     .cases e
    .cases e
   .cases e
 .cases e
end
def Dd{P:Ï}{w:Ô}{K:Te}{mg:Ç->Option Ã}{base:Õ}{cl:Cl}{x qual:Ç}{st:č}{N ps:List Ç}(F:Fun K x qual st f fd)(Ao:k8 st=sc)(MD:vj st=bd)(S:FnScope N ps sc)(EA:ps.length=np)(Ap:N.length-np=ns)
  (hb:∀(r6:Ã) (A:Ù) (outer:List Env) (s:Å) (H:Hp) (E:XK),Room k (A.deeper (œ qual sc s.heap.objs.size f r6))->
   SB (il dO P w K mg base N qual sc f r6 A outer s H E).nox cl bd b):FnOk P w K mg base dO (k+1) f fd ps (bv K cl (gc (kQ np ns b))):=by
 subst Ao MD;exact Fz F S EA Ap hb
noncomputable def Wz(sc:ë)(x:Ç):Bool:=match sc.names.lookup x with
 | some .local=>Â
 | some .cell=>Â
 | some .free=>Â
 | _=>Ä
noncomputable def Kl(sc:ë)(x:Ç):Bool:=match sc.names.lookup x with
 | some .local=>Â
 | some .cell=>Â
 | _=>Ä
noncomputable def Wd(sc:ë)(N:List Ç)(i:Nat)(x:Ç):Bool:=N[i]?==À x&&Wz sc x && !(x==("__debug__":Ç)) && !(x==("__classdict__":Ç))
noncomputable def setB(sc:ë)(N:List Ç)(i:Nat)(x:Ç):Bool:=N[i]?==À x&&Kl sc x
noncomputable def setC(sc:ë)(N:List Ç)(i:Nat)(x:Ç):Bool:=N[i]?==À x&&sc.names.lookup x==À .local
noncomputable def wl(sc:ë)(x:Ç):Bool:=sc.names.lookup x==À .globalImplicit && !(x==("__debug__":Ç)) && !(x==("__name__":Ç))
section
variable{X:Cx}{cl:Cl}{x:Ç}{pos Av p:ĝ}{sc:ë}{N:List Ç}{i:Nat}{e:Î}{m:ME}
def Xq(h:Wz sc x=Â):ZA sc x:=by
 unfold Wz at h;split at h
 .rename_i q;exact .inl q
 .rename_i q;exact .inr (.inl q)
 .rename_i q;exact .inr (.inr q)
 .cases h
def iO(h:Kl sc x=Â):Loc sc x:=by
 unfold Kl at h;split at h
 .rename_i q;exact .inl q
 .rename_i q;exact .inr q
 .cases h
def v_(h:Wd sc N i x=Â)(hs:↥(X.env.scope=sc))(hN:↥(X.N=N)):SE X cl (.Name x pos) (zd i):=by
 unfold Wd at h;erw[zr,vX,qP] at h;exact BB i (by rw[hN];exact h.1.1.1) (by rw[hs];exact Xq h.1.1.2) h.1.2 h.2
def g_(h:setB sc N i x=Â)(AO:N.Nodup)(hs:↥(X.env.scope=sc))(hN:↥(X.N=N))(hf:↥(X.fn x=Â)):SG X cl (.Name x pos) (zw i):=by
 unfold setB at h;erw[zr,vX] at h;exact Zo i (by rw[hN];exact AO) (by rw[hN];exact h.1) (by rw[hs];exact iO h.2) (.inl hf)
def GK(h:setC sc N i x=Â)(AO:N.Nodup)(hs:↥(X.env.scope=sc))(hN:↥(X.N=N)):SG X cl (.Name x pos) (zw i):=by
 unfold setC at h;erw[zr,vX] at h;exact Zo i (by rw[hN];exact AO) (by rw[hN];exact h.1) (by rw[hs];exact .inl h.2) (.inr (by rw[hs];exact h.2))
def s_(h:setB sc N i x=Â)(AO:N.Nodup)(he:SE X cl e m)(hs:↥(X.env.scope=sc))(hN:↥(X.N=N))(hf:↥(X.fn x=Â))(A8:↥(Ď e (À (.Name x Av)) pos.line X.env=pure Ä)):SS X cl (.Assign [.Name x Av] e pos) (zI m (zw i)):=by
 unfold setB at h;erw[zr,vX] at h;exact Ca i (by rw[hN];exact AO) he (by rw[hN];exact h.1) (by rw[hs];exact iO h.2) A8 (.inl hf)
def GN(h:setB sc N i x=Â)(AO:N.Nodup)(ho:Vc X op (rM X.K cl f))(he:SE X cl e m)(hs:↥(X.env.scope=sc))(hN:↥(X.N=N))(hf:↥(X.fn x=Â)):SS X cl (.AugAssign (.Name x Av) op e pos) (Ko i f m):=by
 unfold setB at h;erw[zr,vX] at h;exact B2 i (by rw[hN];exact AO) ho he (by rw[hN];exact h.1) (by rw[hs];exact iO h.2) (.inl hf)
def kS(h:wl sc x=Â)(hs:X.env.scope=sc):Gl X x/\(x==("__debug__":Ç))=Ä/\x≠"__name__":=by
 unfold wl at h;erw[zr,vX,qP] at h;refine⟨?_,h.1.2,λz=>?_⟩
 .show X.env.scope.names.lookup x=_
  rw[hs];exact h.1.1
 .have:=h.2;rw[z] at this;simp at this
variable{k:Nat}{f:È}{fd:ą}{ps:List Ç}{es:List Î}{g:List W->M W}{ms:List ME}{id:String}
def c_(h:wl sc x=Â)(F:FnOk X.prog X.w X.K X.mg X.base dO k f fd ps (bv X.K cl g))(hr:Room k X.A)(hm:X.mg x=À (.ref f))(hk:ì X.K (.ref f)=Â)(hb:Binds X.K fd ps [])
  (ha:SA X cl (e::es) ms) (hs:↥(X.env.scope=sc)) (r9:↥(Ì (e::es) X.env=(Ä,å e X.env)::Ì es X.env)) (Ai:↥((á pos (Ì es X.env)).any (·.1)=Ä)):SE X cl (.Call (.Name x p) (e::es) [] pos) (ze g ms):=
 Us F hr hm hk hb ha (kS h hs).1 (kS h hs).2.1 r9 Ai
def GI(h:wl sc x=Â)(F:FnOk X.prog X.w X.K X.mg X.base dO k f fd ps (bv X.K cl g))(hr:Room k X.A)(hm:X.mg x=À (.ref f))(hk:ì X.K (.ref f)=Â)(hb:Binds X.K fd ps [])
  (hs:↥(X.env.scope=sc)):SE X cl (.Call (.Name x p) [] [] pos) (ze g []):=Wv F hr hm hk hb (kS h hs).1 (kS h hs).2.1
def QM(h:wl sc x=Â)(hc:qh X (.builtin id) (rMs X.K cl g))(hm:X.mg x=Á)(hv:Ø x=À (.builtin id))(ha:SA X cl (e::es) ms)(hs:↥(X.env.scope=sc))(r9:↥(Ì (e::es) X.env=(Ä,å e X.env)::Ì es X.env))(Ai:↥((á pos (Ì es X.env)).any (·.1)=Ä)) :
  SE X cl (.Call (.Name x p) (e::es) [] pos) (ze g ms):=VH hc hm hv ha (kS h hs).1 (kS h hs).2.2 (kS h hs).2.1 r9 Ai
def ZP(h:wl sc x=Â)(hc:qh X (.type id) (rMs X.K cl g))(hm:X.mg x=Á)(hv:Ø x=À (.type id))(ha:SA X cl (e::es) ms)(hs:↥(X.env.scope=sc))(r9:↥(Ì (e::es) X.env=(Ä,å e X.env)::Ì es X.env))(Ai:↥((á pos (Ì es X.env)).any (·.1)=Ä)) :
  SE X cl (.Call (.Name x p) (e::es) [] pos) (ze g ms):=Vd hc hm hv ha (kS h hs).1 (kS h hs).2.2 (kS h hs).2.1 r9 Ai
def GB(h:wl sc x=Â)(G:Glob X.K X.mg x w)(hs:↥(X.env.scope=sc)):SE X cl (.Name x pos) (eC w):=G.se (kS h hs).1 (kS h hs).2.1
def Gi(T:Ty)(h:wl sc "isinstance" = Â)(h2:wl sc y=Â)(ha:SE X cl a ma)(hi:X.mg "isinstance" = Á)(ht:X.mg y=Á)(hv:Ø y=À (.type T.name))(hs:↥(X.env.scope=sc))
  (Hy:↥(Ì [a,.Name y p2] X.env=(Ä,å a X.env)::Ì [.Name y p2] X.env)) (EF:↥(Ì [.Name y p2] X.env=(Ä,å (.Name y p2) X.env)::Ì [] X.env))
  (Ai:↥((á pos (Ì [.Name y p2] X.env)).any (·.1)=Ä)):SE X cl (.Call (.Name "isinstance" p) [a,.Name y p2] [] pos) (yk (isW T) ma):=
 Ci T ha hi ht hv (kS h hs).1 (kS h2 hs).1 (kS h2 hs).2.2 (kS h2 hs).2.1 Hy EF Ai
variable{a:Î}{ma:ME}{l:List (Ç×W)}
def GS(h:wl sc x=Â)(hu:X.A.units+64<õ)(T:TabOk X.K X.w.params X.mg x l)(ha:SE X cl a ma)(hs:↥(X.env.scope=sc))(hm:ç .In (.Name x p)=Ä:=by first | exact nomark _ | rfl):SE X cl (.Compare a [.In] [.Name x p] pos) (yk (tabIn Ä l) ma):=Wu hu T ha hm (kS h hs).1 (kS h hs).2.1
def GF(h:wl sc x=Â)(hu:X.A.units+64<õ)(T:TabOk X.K X.w.params X.mg x l)(ha:SE X cl a ma)(hs:↥(X.env.scope=sc))(hm:ç .NotIn (.Name x p)=Ä:=by first | exact nomark _ | rfl):SE X cl (.Compare a [.NotIn] [.Name x p] pos) (yk (tabIn Â l) ma):=JP hu T ha hm (kS h hs).1 (kS h hs).2.1
def GT(h:wl sc x=Â)(hu:X.A.units+64<õ)(T:TabOk X.K X.w.params X.mg x l)(ha:SE X cl a ma)(hs:↥(X.env.scope=sc))(hp:fu a:=by exactλ_ _=>rfl):SE X cl (.Subscript (.Name x p) a pos) (yk (fz l) ma):=Qt hu T ha hp (kS h hs).1 (kS h hs).2.1
def Gd(h:wl sc "range" = Â)(hm:X.mg "range" = Á)(ha:SA X cl [e] ms)(hs:↥(X.env.scope=sc))(r9:↥(Ì [e] X.env=[(Ä,å e X.env)])):SI X cl tg (.Call (.Name "range" p) [e] [] pos) (cn ms):=BX hm ha (kS h hs).1 r9
def F3(h:wl sc "enumerate" = Â)(hm:X.mg "enumerate" = Á)(ha:SA X cl [e] ms)(hs:↥(X.env.scope=sc))(r9:↥(Ì [e] X.env=(Ä,å e X.env)::Ì [] X.env))(Ai:↥((á pos (Ì [] X.env)).any (·.1)=Ä)) :
  SI X cl (.Tuple AS n AU) (.Call (.Name "enumerate" p) [e] [] pos) (w8 ms):=XZ hm ha (kS h hs).1 r9 Ai
def Gm(h:wl sc "zip" = Â)(hm:X.mg "zip" = Á)(ha:SA X cl [e,e2] ms)(hs:↥(X.env.scope=sc))(r9:↥(Ì [e,e2] X.env=(Ä,å e X.env)::Ì [e2] X.env))(Ai:↥((á pos (Ì [e2] X.env)).any (·.1)=Ä)) :
  SI X cl (.Tuple AS n AU) (.Call (.Name "zip" p) [e,e2] [] pos) (ar ms):=Dc hm ha (kS h hs).1 r9 Ai
end
end ML
namespace ML
open PySem PySem.Spec PyProof.Rows L2
section
variable{X:Cx}{cl:Cl}{a:Î}{ma:ME}{x:Ç}{l:List (Ç×W)}{p pos:ĝ}{sc:ë}
def JJ(neg:Bool)(ho:∀{A:Ù} {E:Ã->Å->Prop} {s:Å} {d:È} {f:Ç->Option Ã} {k:Ç} {t:Tok} {Q:Ã->Å->Prop},(d==Ý)=Ä->s.heap.MapOf (strKind X.prog X.w) d f->Q (.bool (if neg then !(f k).isSome else (f k).isSome)) { s with toks:=s.toks+1 }->É (Í X.prog X.w) A (Ò op (.str k t) (.ref d)) Q E s)
  (T:TabOk X.K X.w.params X.mg x l) (ha:SE X cl a ma) (hm:ç op (.Name x p)=Ä) (hg:Gl X x) (hd:(x==("__debug__":Ç))=Ä):ST X cl (.Compare a [op] [.Name x p] pos) (zS (yk (tabIn neg l) ma)):=by
 obtain⟨d,es,n,e1,e2,e3,e4,e5⟩:=T.ex;have Mz:kT X (Ò op) (λx y H Q=>∃k,x=.str k/\y=.ref d/\Q (.bl (if neg then !(l.lookup k).isSome else (l.lookup k).isSome)) H):=by
  rintro ag s σ H x y v u Q I rx ry ⟨k,rfl,rfl,q⟩;obtain⟨t,rfl⟩:=rx;cases ry;refine ho e4 (TabOk.at I e2 e3) ?_;have fk:(findBy ô es k).isSome=(l.lookup k).isSome:=by
   have:=e5.find (k:=k);unfold findBy;rw[<-wJ];cases ek:l.lookup k with
   | none=>rw[ek] at this;rw[this];rfl
   | some w=>rw[ek] at this;obtain⟨v,e,_⟩:=this;rw[e];rfl
  rw[fk];exact⟨.bl _,H,I.tok _,rfl,q⟩
 refine PT.wk (ZM Mz ha (iP hg e1 (show RelV (.ref d) (.ref d) from rfl) hd) hm) λσ H Q q=>?_
 obtain⟨μ,h,ρ,w,h',R,er,e,k⟩:=eO q;obtain⟨y,h1,f1,e⟩:=kc e;refine⟨μ,h,ρ,y,h1,R,er,f1,λd3 H1 vx E1 R1 rx=>?_⟩;unfold tabIn at e;split at e
 .cases e
  exact⟨_,rx.str_of,rfl,k d3 H1 _ E1 R1 (.bl _)⟩
 .cases e
def F4(h:wl sc x=Â)(hu:X.A.units+64<õ)(T:TabOk X.K X.w.params X.mg x l)(ha:SE X cl a ma)(hs:↥(X.env.scope=sc))(hm:ç .In (.Name x p)=Ä:=by first | exact nomark _ | rfl):ST X cl (.Compare a [.In] [.Name x p] pos) (zS (yk (tabIn Ä l) ma)):=
 JJ Ä (λ{A E s d f k t Q} h1 h2 h3=>wpAny_in_of (ut X.prog X.w k t) h1 h2 h3) T ha hm (kS h hs).1 (kS h hs).2.1
def FY(h:wl sc x=Â)(hu:X.A.units+64<õ)(T:TabOk X.K X.w.params X.mg x l)(ha:SE X cl a ma)(hs:↥(X.env.scope=sc))(hm:ç .NotIn (.Name x p)=Ä:=by first | exact nomark _ | rfl):ST X cl (.Compare a [.NotIn] [.Name x p] pos) (zS (yk (tabIn Â l) ma)):=
 JJ Â (λ{A E s d f k t Q} h1 h2 h3=>wpAny_notIn_of (ut X.prog X.w k t) h1 h2 h3) T ha hm (kS h hs).1 (kS h hs).2.1
end
noncomputable def sk(l:List Ç):Bool:=decide l.Nodup
def YL{l:List Ç}(h:sk l=Â:=by kernel_rfl):l.Nodup:=jU h
structure FTxt(K:Te)(mg:Ç->Option Ã)(x:Ç)(st:č)(ps:List Ç)(a:È)(d:ą):Prop where
 F:Fun K x x st a d
 B:Binds K d ps []
 m:mg x=À (.ref a)
def rK{K:Te}{x y:Ç}{st:č}(F:Fun K x x st f fd)
  (hb:∀(kV doc pm:Ã) (an:Option È) (r6 ct:Ã) (us:List Ã),us.length=[y].length->bindArgs (Ċ x x (xk st) (vj st) (k8 st) .none kV doc pm an r6 ct) ⟨us,[]⟩=pure ([y].zip us)):∀(s:Å) (v:Ã),BindsTo s fd ⟨[v],[]⟩ [(y,v)]:=by
 intro s v;obtain⟨oc,od,kV,doc,pm,an,r6,ct,Et,rfl,lk,Eg⟩:=F.ex;exact .of_eq (hb kV doc pm an r6 ct [v] rfl)
noncomputable def FL(P:Ï)(w:Ô)(f:List W->M W)(K:Te):Sp:=bv K ⟨λ_=>0,P,w⟩ f
def CT(hf:∀ns:List Int,ns.length<=63->∃h',f [.fls (ns.map W.int)] []=À (.bl Â,h'))(K:Te)(H:Hp)(a:È)(ns:List Int)(hl:ns.length<=63)(hS:SqL K H a (ns.map V.int)):FL P w f K [.ref a] H (λv _=>v=.bl Â) λ_ _ _=>False:=by
 obtain⟨h',e⟩:=hf ns hl;refine⟨[],[],[.fls (ns.map W.int)],.bl Â,h',⟨rfl,q8,λn a o e=>by simp at e⟩,.cons (.fls ?_ (RWs.ints ns)) .nil,e,λd5 H' v E R r=>r.bl_of⟩;rcases hS with hS | hS
 .exact .inl ⟨hS,by simp⟩
 .exact .inr hS
noncomputable def KN(x y v:W):M W:=λh=>match x with
 | .ref n=>match h[n]? with
  | some (.dic l)=>match keyOf y with
   | some k=>if l.length<cap then À (.non,h.set n (.dic (lU l k v))) else Á
   | none=>Á
  | some (.lst l)=>match y with
   | .int i=>match y0 l.length i with
    | some j=>À (.non,h.set n (.lst (l.set j v)))
    | none=>Á
   | _=>Á
  | _=>Á
 | _=>Á
section
variable{X:Cx}{cl:Cl}{o i:Î}{mo mi:ME}{pos:ĝ}
inductive rPut(K:Te)(cl:Cl)(o:V)(i:V)(v:V)(H:Hp)(Q:Hp->Prop):Prop
 | mk (μ:List È) (h:MH) (wo:W) (wi:W) (wv:W) (w:W) (h':MH) (p0:HR K cl μ H h) (p1:RW K μ H wo o) (p2:RW K μ H wi i) (p3:RW K μ H wv v) (p4:KN wo wi wv h=À (w,h')) (p5:∀d5 H',Ext μ H d5 H'->HR K cl d5 H' h'->Q H'):rPut K cl o i v H Q
def D6(hu:X.A.units+64<õ):Jk X (rPut X.K cl):=by
 rintro ag s σ H o i v ov iv u Q I ro ri rv ⟨μ,h,wo,wi,wv,w,h',R,ao,ai,av,e,k⟩;unfold KN at e;split at e
 .rename_i n
  cases ao with | @ref _ p hn=>
  split at e
  .rename_i l ho
   split at e
   .rename_i kk ek
    split at e
    .rename_i hl
     cases e;obtain⟨l',hp,rk⟩:=R.ob n p _ hn ho;have pr:=RKs.pr rk;have hk:=ij ai ek;subst hk;cases ro;have Ie:l'.length<Ð:=by rw[<-pr.len];exact zN hl ya
     refine qe (J8 ∅ I (.inl ⟨l',kk,hp,rfl,Ie,rfl⟩) ri rv λs' I'=>?_) (λ_ _ z=>z) λ_ _ z=>z
     have E:Ext μ H μ (upd H p (.dK (putK l' kk v))):=Ext.put hn;exact⟨_,I',k μ _ E (R.put hn ⟨_,qa,((pr.put av).ext R E).rk⟩)⟩
    .cases e
   .cases e
  .rename_i l ho
   split at e
   .rename_i j
    split at e
    .rename_i j' ej
     cases e;obtain⟨vs,hp,rs⟩:=R.ob n p _ hn ho;have hi:=ai.int_of;subst hi;have E:Ext μ H μ (upd H p (.lst (vs.set j' v))):=Ext.put hn;refine set_list ag s σ H _ _ v ov iv u Q I ro ri rv ⟨p,vs,j,j',rfl,rfl,hp,by rw[<-rs.length];exact ej,k μ _ E (R.put hn ⟨_,qa,(RWs.set av _ rs).ext R E⟩)⟩
    .cases e
   .cases e
  .cases e
 .cases e
end
noncomputable def BL(x:W)(lo hi:Option Int):M W:=λh=>match getL h x with
 | some l=>À (.ref h.length,h++[.lst (cutW l lo hi)])
 | none=>Á
noncomputable def BP(a:ME)(lo hi:Option ME):ME:=λρ=>bnd (a ρ) λx=>bnd (bg lo ρ) λl=>bnd (bg hi ρ) λu=>BL x l u
section
variable{X:Cx}{cl:Cl}{a:Î}{ma:ME}{pos p2:ĝ}
def Df{lo hi:Option Î}(ha:SE X cl a ma)(hl:SO X cl lo ml)(hh:SO X cl hi mh):SE X cl (.Subscript a (.Slice lo hi Á p2) pos) (BP ma ml mh):=by
 have hr:Qi X (λx lo hi H Q=>∃μ h wx w h',HR X.K cl μ H h/\RW X.K μ H wx x/\BL wx lo hi h=À (w,h')/\KQ X.K cl μ H h' w Q):=by
  rintro ag s σ H x v vl vu lo hi sl Q I rx hs pl pu ⟨μ,h,wx,w,h',R,ax,e,k⟩;unfold BL at e;split at e
  .rename_i l el
   cases e;obtain⟨a,vs,rfl,sa,ra⟩:=wc R ax el;exact Z7 ag s σ H _ v vl vu lo hi sl Q I rx hs pl pu ⟨a,vs,rfl,sa,λp hp=>k.lst R (ra.cutW lo hi) hp⟩
  .cases e
 refine PE.wk (sT hr ha hl hh) ?_;rintro σ H Q ⟨μ,h,ρ,w,h',R,er,e,k⟩;obtain⟨x,h1,e1,e⟩:=kc e;obtain⟨l,h2,e2,e⟩:=kc e;obtain⟨u,h3,e3,e⟩:=kc e
 exact⟨μ,h,ρ,x,h1,R,er,e1,λd3 H1 vx E1 R1 rx=>⟨d3,h1,ρ,l,h2,R1,er.ext R E1,e2,λhX H2 E2 R2=>⟨hX,h2,ρ,u,h3,R2,(er.ext R E1).ext R1 E2,e3,λAN H3 E3 R3=>
  ⟨AN,h3,x,w,h',R3,(rx.ext R1 E2).ext R2 E3,e,k.ext (E1.trans (E2.trans E3))⟩⟩⟩⟩
end
noncomputable def noStar:Î->Bool
 | .Starred ..=>Ä
 | _=>Â
noncomputable def gZ:Î->Bool
 | .ListComp ..=>Ä
 | .SetComp ..=>Ä
 | .DictComp ..=>Ä
 | _=>Â
noncomputable def pU:Î->Bool
 | .Set ..=>Ä
 | _=>Â
noncomputable def Y3:Î->Bool
 | .Tuple ..=>Ä
 | _=>Â
noncomputable def iJ:Î->Bool
 | .Slice ..=>Ä
 | _=>Â
noncomputable def plainT:Î->Bool
 | .UnaryOp ..=>Ä
 | .BoolOp ..=>Ä
 | .IfExp ..=>Ä
 | .Compare ..=>Ä
 | _=>Â
noncomputable def QQ:Î->Bool
 | .Call ..=>Ä
 | _=>Â
section
variable{e tg o:Î}{es:List Î}{env:Env}{pos:ĝ}
def kC(h:noStar e=Â):Ì (e::es) env=(Ä,å e env)::Ì es env:=by
 cases e<;>first | (cases h;done) | kernel_rfl
theorem fG:Ì [] env=[]:=by kernel_rfl
theorem eI(h:noStar e=Â):á pos (Ì (e::es) env)=(Ä,å e env)::á pos (Ì es env):=by
 rw[kC h];rfl
theorem qr:∀{es:List Î},es.all noStar=Â->(á pos (Ì es env)).any (·.1)=Ä
 | [],_=>by rw[fG];rfl
 | e::es,h=>by
  rw[jP,zr] at h;rw[eI h.1,wu,qr h.2];rfl
theorem rW:∀{es:List Î},es.all noStar=Â->(á pos (Ì es env)).all (λx=>!x.1)=Â
 | [],_=>by rw[fG];rfl
 | e::es,h=>by
  rw[jP,zr] at h;rw[eI h.1,jP,rW h.2];rfl
def rQ(h:es.all noStar=Â)(hl:decide (es.length<30)=Â):((á pos (Ì es env)).all (λx=>!x.1)&&(ů pos (ļ [] env)).all (λx=>x.1.isSome)
   && decide (es.length+([]:List Ķ).length+(if ([]:List Ķ).isEmpty then 0 else 1)<30))=Â:=by
 rw[rW h];have:(ļ [] env)=[]:=by kernel_rfl
 rw[this];simpa[ů] using hl
theorem aE(h:gZ e=Â):Ď e t l env=pure Ä:=by
 cases e<;>first | (cases h;done) | rfl
theorem Jc(h:Y3 e=Â):Œ [.Tuple ts n p] e env=pure Á:=by
 cases e<;>first | (cases h;done) | rfl
def xB(h:noStar e=Â):ñ (e::es) env=(Ä,Ľ e env)::ñ es env:=by
 cases e<;>first | (cases h;done) | kernel_rfl
theorem cE:ñ [] env=[]:=by kernel_rfl
theorem mR:∀{es:List Î},es.all noStar=Â->(ñ es env).length=es.length
 | [],_=>by rw[cE];rfl
 | e::es,h=>by
  rw[jP,zr] at h;rw[xB h.1,zE,mR h.2];rfl
theorem iW:∀{es:List Î},es.all noStar=Â->(ñ es env).findIdx? (·.1)=Á
 | [],_=>by rw[cE];rfl
 | e::es,h=>by
  rw[jP,zr] at h;rw[xB h.1,List.findIdx?_cons,iW h.2];rfl
theorem bP(h:pU e=Â):∀x,ê e env x=pure x:=by
 intro x;cases e<;>first | (cases h;done) | rfl
theorem iF(h:QQ o=Â):ė o a env whole=whole:=by
 cases o<;>first | (cases h;done) | rfl
def Wh(h:plainT e=Â):∀whole,isTrue e env whole=(do let v <-whole;standAt e.pos;Ē [v] (truthy v)):=by
 intro whole;cases e<;>first | (cases h;done) | kernel_rfl
theorem Xb(h:iJ e=Â):fu e:=by
 intro o i;cases e<;>first | (cases h;done) | rfl
end
structure RC where
 sc:ë
 N:List Ç
 inC:Bool
 fns:List (Ç×(List W->M W))
 con:List (Ç×W)
 tab:List (Ç×List (Ç×W))
 bin:List Ç
 own:List Ç
 txt:List Ç
 cmp:List ((Nat×Nat)×List Ç)
noncomputable def FnAt(P:Ï)(w:Ô)(K:Te)(mg:Ç->Option Ã)(base:Õ)(cl:Cl)(k:Nat)(x:Ç)(g:List W->M W):Prop:=
 ∃f fd ps,FnOk P w K mg base dO k f fd ps (bv K cl g)/\mg x=À (.ref f)/\ì K (.ref f)=Â/\Binds K fd ps []
noncomputable def AllOf{α:Type}(P:Ç->α->Prop):List (Ç×α)->Prop
 | []=>True
 | (x,g)::r=>P x g/\AllOf P r
theorem AllOf.at{α:Type}{P:Ç->α->Prop}{x:Ç}{g:α}:∀{l:List (Ç×α)},AllOf P l->l.lookup x=À g->P x g
 | [],_,e=>by cases e
 | (y,g')::r,h,e=>by
  rw[qm] at e;cases q:x==y with
  | true=>rw[q] at e;cases e;rw[eq_of_beq q];exact h.1
  | false=>rw[q] at e;exact AllOf.at h.2 e
noncomputable def AllNone(mg:Ç->Option Ã):List Ç->Prop
 | []=>True
 | x::r=>mg x=Á/\AllNone mg r
theorem AllNone.at:∀{l:List Ç},AllNone mg l->x∈l->mg x=Á
 | y::r,h,e=>by
  rcases zg.mp e with rfl | e
  .exact h.1
  .exact AllNone.at h.2 e
structure BaseOk(P:Ï)(w:Ô)(K:Te)(mg:Ç->Option Ã)(base:Õ)(cl:Cl)(k:Nat)(Γ:RC):Prop where
 fns:AllOf (FnAt P w K mg base cl k) Γ.fns
 con:AllOf (Glob K mg) Γ.con
 tab:AllOf (TabOk K w.params mg) Γ.tab
 bin:AllNone mg Γ.bin
 pw:cl.P=P/\cl.w=w
structure Fits(Γ:RC)(cl:Cl)(k:Nat)(X:Cx):Prop where
 sc:X.env.scope=Γ.sc
 N:X.N=Γ.N
 nd:X.N.Nodup
 fn:Γ.inC=Ä->∀x,X.fn x=Â
 kind:Γ.sc.kind=.function
 calm:X.calm=Â
 pass:ź (Í X.prog X.w) X.A X.env X.xe
 room:Room k X.A
 base:BaseOk X.prog X.w X.K X.mg X.base cl k Γ
noncomputable def nP(x:Ç):List Ç->Option Nat
 | []=>Á
 | y::r=>if y==x then À 0 else (nP x r).map (· + 1)
noncomputable def Kz(Γ:RC)(x:Ç):Option ME:=match nP x Γ.N with
 | some i=>if Wd Γ.sc Γ.N i x=Â then À (zd i) else Á
 | none=>match Γ.con.lookup x with
  | some w=>if wl Γ.sc x=Â then À (eC w) else Á
  | none=>Á
noncomputable def rA:Const->Option ME
 | .none=>À (eC .non)
 | .bool b=>À (eC (.bl b))
 | .int i=>À (eC (.int i))
 | .str x=>À (eC (.str x))
 | _=>Á
noncomputable def BQ(mu:Bool):ī->Option (W->W->M W)
 | .Add=>match mu with
  | true=>À Wg
  | false=>À addW
 | .Sub=>À yn
 | .Mult=>À kx
 | .Mod=>À yT
 | .FloorDiv=>À aI
 | .Pow=>À Wj
 | _=>Á
noncomputable def YO:CmpOp->Option (W->W->M W)
 | .Eq=>À (jp Ä)
 | .NotEq=>À (jp Â)
 | .In=>À (u7 Ä)
 | .NotIn=>À (u7 Â)
 | .Lt=>À ZT
 | .LtE=>À GG
 | .Gt=>À Qs
 | .GtE=>À GQ
 | .Is=>À (ui Â)
 | .IsNot=>À (ui Ä)
noncomputable def rV(Γ:RC):Î->Option MG
 | .Name x _=>match nP x Γ.N with
  | some i=>match Γ.inC with
   | true=>if setC Γ.sc Γ.N i x=Â then À (zw i) else Á
   | false=>if setB Γ.sc Γ.N i x=Â then À (zw i) else Á
  | none=>Á
 | _=>Á
noncomputable def Vb(Γ:RC):Î->Option MG
 | .Tuple es _ _=>if es.all noStar=Â then (qq (rV Γ) es).map vE else Á
 | e=>rV Γ e
noncomputable def CA:Î->Nat
 | .Tuple es _ _=>es.length
 | _=>1
section
variable{Γ:RC}{cl:Cl}{k:Nat}{X:Cx}{x:Ç}{m:ME}{pos:ĝ}
def VW(F:Fits Γ cl k X)(h:Kz Γ x=À m):SE X cl (.Name x pos) m:=by
 unfold Kz at h;split at h
 .split at h
  .rename_i i _ q
   cases h;exact v_ q F.sc F.N
  .cases h
 .split at h
  .rename_i w e
   split at h
   .rename_i q
    cases h;exact GB q (F.base.con.at e) F.sc
   .cases h
  .cases h
def QO(h:rA c=À m):SE X cl (.Constant c j pos) m:=by
 unfold rA at h;split at h
 .cases h;exact Cj
 .cases h;exact D5
 .cases h;exact BG
 .cases h;exact U3
 .cases h
def Dh(h:BQ mu op=À f):kT X (â op) (rM X.K cl f):=by
 unfold BQ at h;split at h
 .split at h
  .cases h;exact XN
  .cases h;exact XX
 .cases h;exact Uo
 .cases h;exact Xp
 .cases h;exact UT
 .cases h;exact XR
 .cases h;exact X3
 .cases h
def fx(hu:X.A.units+64<õ)(h:YO op=À f):kT X (Ò op) (rM X.K cl f):=by
 cases op<;>cases h
 .exact Cs hu
 .exact DG hu
 .exact Bv
 .exact Cc
 .exact CF
 .exact CP
 .exact Bg
 .exact JB
 .exact DC hu
 .exact QS hu
def ZE(F:Fits Γ cl k X)(h:rV Γ e=À g):SG X cl e g:=by
 unfold rV at h;split at h
 .rename_i x p
  split at h
  .rename_i i _
   split at h
   .split at h
    .rename_i q
     cases h;exact GK q (F.N▸F.nd) F.sc F.N
    .cases h
   .rename_i c
    split at h
    .rename_i q
     cases h;exact g_ q (F.N▸F.nd) F.sc F.N (F.fn c _)
    .cases h
  .cases h
 .cases h
def g9{α β:Type}{f:α->Option β}{x:α}{r:List α}{ys:List β}(h:qq f (x::r)=À ys):∃y zs,f x=À y/\qq f r=À zs/\ys=y::zs:=by
 unfold qq at h;split at h
 .rename_i y zs e1 e2
  cases h;exact⟨y,zs,e1,e2,rfl⟩
 .cases h
theorem Zq(F:Fits Γ cl k X):∀{es:List Î} {gs:List MG},es.all noStar=Â->qq (rV Γ) es=À gs->QN X cl es gs
 | [],gs,_,h=>by cases h;exact UO
 | e::es,gs,hn,h=>by
  obtain⟨g,SQ,h1,h2,rfl⟩:=g9 h;rw[jP,zr] at hn;exact Wm (ZE F h1) (Zq F hn.2 h2) (by rw[xB hn.1];rfl)
theorem sF{α β:Type}{f:α->Option β}:∀{l:List α} {ys:List β},qq f l=À ys->ys.length=l.length
 | [],ys,h=>by cases h;rfl
 | x::r,ys,h=>by
  obtain⟨y,zs,_,h2,rfl⟩:=g9 h;rw[zE,zE,sF h2]
def tN(F:Fits Γ cl k X)(h:Vb Γ e=À g):SG X cl e g:=by
 unfold Vb at h;split at h
 .rename_i es n p
  split at h
  .rename_i hn
   rw[zj] at h;obtain⟨gs,h1,rfl⟩:=h;exact Do F.calm (Zq F hn h1) (by rw[mR hn,sF h1]) (iW hn)
  .cases h
 .exact ZE F h
end
end ML
namespace ML
open PySem
def Wk(xs:Array Nat)(j:Nat):∀(lx lo hi:Nat),hi-lo<=lx->lo<=hi->hi<=xs.size->(∀i (h:i<xs.size),i<lo->xs[i]<j)->(∀i (h:i<xs.size),hi<=i->j<=xs[i])->xs.toList.Pairwise (· < ·)->
  İ xs j lx lo hi<=xs.size/\(∀i (h:i<xs.size),i<İ xs j lx lo hi->xs[i]<j)/\∀i (h:i<xs.size),İ xs j lx lo hi<=i->j<=xs[i]:=by
 intro lx;induction lx with
 | zero=>
  intro lo hi h1 h2 h3 h4 h5 _;have:lo=hi:=by omega
  subst this;exact⟨h3,h4,h5⟩
 | succ f ih=>
  intro lo hi h1 h2 h3 h4 h5 hp;unfold İ;by_cases c:lo<hi
  .rw[zQ c]
   have hm:(lo+hi)/2<xs.size:=by omega
   have e:xs.getD ((lo+hi)/2) j=xs[(lo+hi)/2]:=by simp[Ā,hm]
   have mono:∀a b (ha:a<xs.size) (hb:b<xs.size),a<=b->xs[a]<=xs[b]:=by
    intro a b ha hb q;rcases jK q with q | q
    .have:=vp.mp hp a b (by simpa using ha) (by simpa using hb) q
     simpa using qQ this
    .subst q;exact zy _
   dsimp only;rw[e];by_cases d:xs[(lo+hi)/2]<j
   .rw[zQ d]
    refine ih _ _ ∅ ∅ h3 (λi h q=>?_) h5 hp;exact Nat.lt_of_le_of_lt (mono i _ h hm ∅) d
   .rw[zX d]
    refine ih _ _ ∅ ∅ ∅ h4 (λi h q=>?_) hp;exact zp (j5 d) (mono _ i hm h q)
  .rw[zX c]
   have:lo=hi:=by omega
   subst this;exact⟨h3,h4,h5⟩
def x3{xs:Array Nat}(hp:xs.toList.Pairwise (· < ·)):ð xs j<=xs.size/\(∀i (h:i<xs.size),i<ð xs j->xs[i]<j)/\∀i (h:i<xs.size),ð xs j<=i->j<=xs[i]:=
 Wk xs j xs.size 0 xs.size ∅ ∅ (zy _) (λi h q=>absurd q ∅) (λi h q=>absurd h ∅) hp
def below_at{xs:Array Nat}(hp:xs.toList.Pairwise (· < ·))(h:i<xs.size):ð xs xs[i]=i:=by
 obtain⟨a,b,c⟩:=x3 (j:=xs[i]) hp;rcases xr (ð xs xs[i]) i with q | q | q
 .have h1:ð xs xs[i]<xs.size:=by omega
  have h2:=c _ h1 (zy _);have h3:=vp.mp hp _ i (by simpa using h1) (by simpa using h) q;erw[uZ] at h3;omega
 .exact q
 .exact absurd (b i h q) (jO _)
structure TOk(t:Ó):Prop where
 nod:t.dummies = #[]
 up:t.place.toList.Pairwise (· < ·)
 le:∀j∈t.place.toList,j<=t.mask
 pow:∃k,3<=k/\t.mask+1=2 ^ k
 room:t.place.size<=t.mask
def nD(j:Nat):Š #[] j=Ä:=by unfold Š;simp
def iw{t:Ó}(T:TOk t)(h:i<t.place.size):t.slot t.place[i]=.live i:=by
 unfold SetTable.slot;dsimp only;rw[below_at T.up h];simp[h]
theorem mT{t:Ó}(T:TOk t)(h:j∉t.place.toList):t.slot j=.empty:=by
 unfold SetTable.slot;dsimp only;rw[T.nod,nD];have:¬(t.place[ð t.place j]?==À j)=Â:=by
  intro q;have q:=eq_of_beq q;obtain⟨h1,h2⟩:=um.mp q;exact h (by rw[<-h2];simp)
 rw[zX this];rfl
def slot_of{t:Ó}(T:TOk t)(j:Nat):(∃i,∃h:i<t.place.size,t.place[i]=j/\t.slot j=.live i)\/(j∉t.place.toList/\t.slot j=.empty):=by
 by_cases h:j∈t.place.toList
 .obtain⟨i,h1,h2⟩:=qT h
  have Ly:i<t.place.size:=by simpa using h1
  have Ay:t.place[i]=j:=by simpa using h2
  exact .inl ⟨i,Ly,Ay,by rw[<-Ay];exact iw T Ly⟩
 .exact .inr ⟨h,mT T h⟩
theorem lX:∀(n:Nat) (l:List Nat),(∀j,j<n->j∈l)->n<=l.length
 | 0,_,_=>j9 _
 | n+1,l,h=>by
  have h1:=lX n (l.erase n) λj q=>by
   have:j≠n:=by omega
   exact(uW this).mpr (h j ∅)
  rw[uy (h n ∅)] at h1;have:0<l.length:=uM (h n ∅);omega
def Kr{t:Ó}(T:TOk t):∃j,j<=t.mask/\j∉t.place.toList:=by
 by_cases q:∃j,j<=t.mask/\j∉t.place.toList
 .exact q
 .have h:=lX (t.mask+1) t.place.toList λj hj=>by
   by_cases m:j∈t.place.toList
   .exact m
   .exact absurd ⟨j,by omega,m⟩ q
  have:=T.room;simp at h;omega
def gw(x:Nat):Nat->Nat
 | 0=>x
 | m+1=>5*gw x m+1
theorem JX(x:Nat)(a:Nat):∀b,gw x (a+b)=gw (gw x a) b
 | 0=>rfl
 | b+1=>by show 5*gw x (a+b)+1=_;rw[JX x a b];rfl
theorem Qb(x:Nat):∀m,4*gw x m+1=5 ^ m*(4*x+1)
 | 0=>by simp[gw]
 | m+1=>by
  have:=Qb x m;rw[vI,Nat.mul_right_comm,<-this];show 4*(5*gw x m+1)+1=_
  omega
def five(k:Nat):∃c,5 ^ (2 ^ k)=1+2 ^ (k+2)*(2*c+1):=by
 induction k with
 | zero=>exact⟨0,rfl⟩
 | succ k ih=>
  obtain⟨c,e⟩:=ih;refine⟨c+2 ^ k*(2*c+1)*(2*c+1),?_⟩;rw[vI 2 k,Nat.pow_mul,e];have h2:2 ^ (k+1+2)=8*2 ^ k:=by rw[uf,uf];omega
  have h3:2 ^ (k+2)=4*2 ^ k:=by rw[uf];omega
  rw[h2,h3];generalize 2 ^ k=p;grind
def Yh(x k:Nat):∃c,gw x (2 ^ k)=x+2 ^ k*(2*c+1):=by
 obtain⟨c,e⟩:=five k;have h:=Qb x (2 ^ k);rw[e] at h;have h3:2 ^ (k+2)=4*2 ^ k:=by rw[uf];omega
 rw[h3] at h;refine⟨c+(2*c+1)*(2*x),?_⟩;generalize 2 ^ k=p at *;have e2:(1+4*p*(2*c+1))*(4*x+1)=4*(x+p*(2*(c+(2*c+1)*(2*x))+1))+1:=by grind
 omega
def Cd(k:Nat):∀x y:Nat,∃m,m<2 ^ k/\gw x m%2 ^ k=y%2 ^ k:=by
 induction k with
 | zero=>intro x y;exact⟨0,by simp,by simp[Nat.mod_one]⟩
 | succ k ih=>
  intro x y;obtain⟨m,hm,e⟩:=ih x y;have hp:2 ^ (k+1)=2*2 ^ k:=by rw[vI];omega
  have pos:0<2 ^ k:=Nat.two_pow_pos k;obtain⟨c,e2⟩:=Yh (gw x m) k;rw[<-JX] at e2;rw[hp];generalize 2 ^ k=p at *;by_cases q:gw x m%(2*p)=y%(2*p)
  .exact⟨m,by omega,q⟩
  .refine⟨m+p,by omega,?_⟩
   rw[e2];have a1:gw x m=p*(gw x m/p)+gw x m%p:=(Nat.div_add_mod _ _).symm;have a2:y=p*(y/p)+y%p:=(Nat.div_add_mod _ _).symm;have r1:=ww y pos;rw[e] at a1;generalize gw x m/p=u at *;generalize y/p=v at *;generalize y%p=r at *;generalize gw x m=g at *;subst a1 a2;have par:∀n:Nat,(p*n+r)%(2*p)=p*(n%2)+r:=by
    intro n;have:p*n+r=(p*(n%2)+r)+(2*p)*(n/2):=by
     have:n=n%2+2*(n/2):=by omega
     rw[this];grind
    rw[this,Nat.add_mul_mod_self_left];apply xR
    have:n%2<2:=ww _ ∅;have:p*(n%2)<=p*1:=Nat.mul_le_mul_left _ ∅;omega
   have e3:p*u+r+p*(2*c+1)=p*(u+(2*c+1))+r:=by grind
   rw[e3,par,par];rw[par,par] at q;have:u%2≠v%2:=λz=>q (by rw[z])
   have:(u+(2*c+1))%2=v%2:=by omega
   rw[this]
def path(t:Ó)(h:Int):Nat->ı
 | 0=>t.probeStart h
 | n+1=>t.advance (path t h n)
def lp(mask:Nat)(h:Int):Nat->Nat×Nat
 | 0=>(ã h%(mask+1),ã h)
 | n+1=>Ę mask (lp mask h n).1 (lp mask h n).2
theorem Vp(mask:Nat)(h:Int):∀n,(lp mask h n).2=ã h/32 ^ n
 | 0=>by simp[lp]
 | n+1=>by
  show(lp mask h n).2/32=_
  rw[Vp mask h n,Nat.div_div_eq_div_mul,vI]
def XS(h:Int):ã h<2 ^ 64:=by unfold ã;omega
def UC(mask:Nat)(h:Int)(n:Nat):(lp mask h (n+13)).2=0:=by
 rw[Vp];have:=XS h;apply Nat.div_eq_of_lt
 have:32 ^ 13<=32 ^ (n+13):=jZ ∅ ∅;omega
def B3(mask:Nat)(h:Int)(n:Nat):(lp mask h (12+n)).1%(mask+1)=gw (lp mask h 12).1 n%(mask+1):=by
 induction n with
 | zero=>rfl
 | succ n ih=>
  show((lp mask h (12+n)).1*5+1+(lp mask h (12+n)).2/32)%(mask+1)%(mask+1)=(5*gw (lp mask h 12).1 n+1)%(mask+1)
  have z:(lp mask h (12+n)).2/32=0:=by
   have:=UC mask h n;have e:n+13=(12+n)+1:=by omega
   rw[e] at this;exact this
  rw[z,Nat.mod_mod,vJ,xO];rw[Nat.add_mod,Nat.mul_mod,ih,<-Nat.mul_mod,<-Nat.add_mod]
def Fh(mask:Nat)(h:Int)(n:Nat):(lp mask h n).1<mask+1:=by
 cases n with
 | zero=>exact ww _ ∅
 | succ n=>exact ww _ ∅
def Vv(h:Int)(e:mask+1=2 ^ k)(hj:j<=mask):∃n,n<=mask+12/\(lp mask h n).1=j:=by
 obtain⟨m,hm,q⟩:=Cd k (lp mask h 12).1 j;refine⟨12+m,by omega,?_⟩;have a:=B3 mask h m;rw[e,q,<-e,xR (Fh ..),xR ∅] at a;exact a
def Bc(mask i:Nat):à mask i-i<=9:=by unfold à;split<;>omega
def atHead(t:Ó)(h:Int)(m:Nat):ı:=⟨(lp t.mask h m).1,à t.mask (lp t.mask h m).1-(lp t.mask h m).1,(lp t.mask h m).1,(lp t.mask h m).2,Á⟩
theorem sJ(t:Ó)(h:Int)(p:ı):∀(r n:Nat),path t h n={ p with more:=r }->∃j,path t h (n+r)={ p with j:=j,more:=0 }
 | 0,n,e=>⟨p.j,by rw[vJ,e]⟩
 | r+1,n,e=>by
  have:path t h (n+1)={ ({ p with j:=p.j+1 }:ı) with more:=r }:=by
   show t.advance (path t h n)=_
   rw[e];unfold Ą;rw[zQ (by simp)];simp
  obtain⟨j,q⟩:=sJ t h { p with j:=p.j+1 } r (n+1) this;exact⟨j,by rw[show n+(r+1)=n+1+r from by omega];exact q⟩
theorem oI(t:Ó)(h:Int):∀m,∃n,n<=10*m/\path t h n=atHead t h m
 | 0=>⟨0,by omega,rfl⟩
 | m+1=>by
  obtain⟨n,hn,e⟩:=oI t h m;obtain⟨j,q⟩:=sJ t h (atHead t h m) (atHead t h m).more n e;have r:=Bc t.mask (lp t.mask h m).1;refine⟨n+(à t.mask (lp t.mask h m).1-(lp t.mask h m).1)+1,by omega,?_⟩;show t.advance (path t h _)=_
  have q':path t h (n+(à t.mask (lp t.mask h m).1-(lp t.mask h m).1))=_:=q;rw[q'];unfold Ą;rw[zX (by simp)];rfl
def WE{t:Ó}(h:Int)(e:t.mask+1=2 ^ k)(hj:j<=t.mask):∃n,n<10*æ t.mask/\(path t h n).j=j:=by
 obtain⟨m,hm,q⟩:=Vv h e hj;obtain⟨n,hn,q2⟩:=oI t h m;refine⟨n,by unfold æ;omega,?_⟩;rw[q2];exact q
theorem gj(t:Ó)(h:Int):∀n,(path t h n).dummy=Á
 | 0=>rfl
 | n+1=>by
  show(t.advance (path t h n)).dummy=Á
  unfold Ą;split
  .exact gj t h n
  .exact gj t h n
theorem iB(t:Ó)(h:Int):∀n,(path t h n).j+(path t h n).more<=t.mask/\(path t h n).i<=t.mask
 | 0=>by
  have:ã h%(t.mask+1)<t.mask+1:=ww _ ∅;show ã h%(t.mask+1)+(à t.mask (ã h%(t.mask+1))-ã h%(t.mask+1))<=_/\ã h%(t.mask+1)<=_
  unfold à;split<;>omega
 | n+1=>by
  obtain⟨a,b⟩:=iB t h n;show(t.advance (path t h n)).j+(t.advance (path t h n)).more<=_/\(t.advance (path t h n)).i<=_
  unfold Ą;split
  .rename_i c
   show(path t h n).j+1+((path t h n).more-1)<=_/\(path t h n).i<=_
   omega
  .show((Ę t.mask (path t h n).i (path t h n).perturb).1)+(à t.mask (Ę t.mask (path t h n).i (path t h n).perturb).1-(Ę t.mask (path t h n).i (path t h n).perturb).1)<=_/\(Ę t.mask (path t h n).i (path t h n).perturb).1<=_
   have:(Ę t.mask (path t h n).i (path t h n).perturb).1<t.mask+1:=ww _ ∅;generalize (Ę t.mask (path t h n).i (path t h n).perturb).1=q at *;unfold à;split<;>omega
def Wf{p:Nat->Prop}:∀n,p n->∃m,m<=n/\p m/\∀k,k<m->¬p k:=by
 intro n;induction n using Nat.strongRecOn with
 | _ n ih=>
  intro h;by_cases q:∃k,k<n/\p k
  .obtain⟨k,a,b⟩:=q
   obtain⟨m,c,d,e⟩:=ih k a b;exact⟨m,by omega,d,e⟩
  .exact⟨n,zy _,h,λk hk hp=>q ⟨k,hk,hp⟩⟩
def i7{t:Ó}(T:TOk t)(h:Int):∃N,N<10*æ t.mask/\(path t h N).j∉t.place.toList/\∀k,k<N->(path t h k).j∈t.place.toList:=by
 obtain⟨j,hj,hn⟩:=Kr T;obtain⟨k,_,e⟩:=T.pow;obtain⟨n,a,b⟩:=WE h e hj;obtain⟨m,c,d,f⟩:=Wf (p:=λn=>(path t h n).j∉t.place.toList) n (by rw[b];exact hn)
 exact⟨m,by omega,d,λk hk=>by
  have:=f k hk;by_cases q:(path t h k).j∈t.place.toList
  .exact q
  .exact absurd q this⟩
def V6{t:Ó}(T:TOk t)(ŕ:Nat->Int)(h:Int)(hN:(path t h N).j∉t.place.toList)(hb:∀k,k<N->(path t h k).j∈t.place.toList):∀(F n:Nat),n<=N->N-n<F->
  (∃m i,n<=m/\m<N/\t.slot (path t h m).j=.live i/\ŕ i=h/\þ t ŕ h F (path t h n)=À (.candidate (path t h m).j i (path t h (m+1)))/\∀m',n<=m'->m'<m->∀i',t.slot (path t h m').j=.live i'->ŕ i'≠h) \/
  (þ t ŕ h F (path t h n)=À (.empty (path t h N).j Á)/\∀m',n<=m'->m'<N->∀i',t.slot (path t h m').j=.live i'->ŕ i'≠h):=by
 intro F;induction F with
 | zero=>intro n _ q;omega
 | succ F ih=>
  intro n hn hF;rcases jK hn with q | q
  .obtain⟨i,hi,e1,e2⟩ | ⟨e1,_⟩:=slot_of T (path t h n).j
   .have e:þ t ŕ h (F+1) (path t h n)=if ŕ i==h then À (.candidate (path t h n).j i (t.advance (path t h n))) else þ t ŕ h F (t.advance (path t h n)):=by
     rw[þ,e2]
    by_cases c:ŕ i=h
    .refine .inl ⟨n,i,zy _,q,e2,c,?_,λm' a b=>absurd a ∅⟩
     rw[e,zQ (by simpa using c)];rfl
    .rw[e,zX (by simpa using c)]
     have step:∀m',n<=m'->m'<n+1->∀i',t.slot (path t h m').j=.live i'->ŕ i'≠h:=by
      intro m' a b i' z;have:m'=n:=by omega
      subst this;rw[e2] at z;cases z;exact c
     rcases ih (n+1) q ∅ with ⟨m,i',a,b,c1,c2,c3,c4⟩ | ⟨a,b⟩
     .refine .inl ⟨m,i',by omega,b,c1,c2,c3,λm' z1 z2 IT z3=>?_⟩
      by_cases w:m'<n+1
      .exact step m' z1 w IT z3
      .exact c4 m' ∅ z2 IT z3
     .refine .inr ⟨a,λm' z1 z2 IT z3=>?_⟩
      by_cases w:m'<n+1
      .exact step m' z1 w IT z3
      .exact b m' ∅ z2 IT z3
   .exact absurd (hb n q) e1
  .subst q
   refine .inr ⟨?_,λm' a b=>absurd a ∅⟩;rw[þ,mT T hN,gj]
theorem uu{t t':Ó}(e:t.mask=t'.mask)(h:Int):∀n,path t h n=path t' h n
 | 0=>by show t.probeStart h=t'.probeStart h;unfold SetTable.probeStart;rw[e]
 | n+1=>by
  show t.advance (path t h n)=t'.advance (path t' h n)
  rw[uu e h n];unfold Ą;rw[e]
def On(t:Ó)(occ:Nat->Prop)(j:Nat)(h:Int):Prop:=∃n,(path t h n).j=j/\∀m,m<n->occ (path t h m).j
def On.mono{t t':Ó}(o:On t occ j h)(e:t.mask=t'.mask)(k:∀j,occ j->occ' j):On t' occ' j h:=by
 obtain⟨n,a,b⟩:=o;exact⟨n,by rw[<-uu e];exact a,λm hm=>k _ (by rw[<-uu e];exact b m hm)⟩
structure SOk(t:Ó)(es:List (Int×Ã))(R:List (Nat×(Int×Ã))):Prop where
 T:TOk t
 pl:R.map (·.1)=t.place.toList
 es:R.map (·.2)=es
 on:∀r∈R,On t (· ∈ t.place.toList) r.1 r.2.1
 few:t.place.size*5<t.mask*3
def cp{α:Type}(xs:Array α){p:Nat}(hp:p<=xs.size)(x:α):(ċ xs p x).toList=xs.toList.take p++x::xs.toList.drop p:=by
 unfold ċ;simp[Array.toList_extract,List.extract_eq_take_drop];rw[uL (by simp)]
def fO{t:Ó}(T:TOk t)(j:Nat):(t.put j).1.place.toList=t.place.toList.take (t.put j).2++j::t.place.toList.drop (t.put j).2:=cp _ (x3 T.up).1 _
def BI{t:Ó}(T:TOk t)(hj:j<=t.mask)(hn:j∉t.place.toList)(hr:t.place.size+1<=t.mask):TOk (t.put j).1:=by
 have L:=fO T j;obtain⟨b1,b2,b3⟩:=x3 (xs:=t.place) (j:=j) T.up;refine⟨?_,?_,?_,T.pow,?_⟩
 .show(if Š t.dummies j then _ else t.dummies)=_
  rw[T.nod,nD];rfl
 .rw[L]
  have hl:∀x∈t.place.toList.take (t.put j).2,x<j:=λx hx=>by
   obtain⟨i,h1,h2⟩:=qT hx;rw[qX] at h1;rw[List.getElem_take] at h2;have:=b2 i (by simp at h1;omega) (show i<(t.put j).2 by omega);simp at h2;omega
  have hg:∀x∈t.place.toList.drop (t.put j).2,j<x:=λx hx=>by
   obtain⟨i,h1,h2⟩:=qT hx;rw[qF] at h1;rw[List.getElem_drop] at h2;have h3:(t.put j).2+i<t.place.size:=by simp at h1;omega
   have:=b3 ((t.put j).2+i) h3 (xT _ _);simp at h2;have ne:x≠j:=λz=>hn (by rw[<-z];exact jJ hx)
   omega
  refine List.pairwise_append.mpr ⟨T.up.sublist (xu _ _),qi.mpr ⟨hg,T.up.sublist (List.drop_sublist _ _)⟩,λa ha b hb=>?_⟩;rcases zg.mp hb with rfl | hb
  .exact hl a ha
  .exact uR (hl a ha) (hg b hb)
 .intro x hx
  rw[L] at hx;rcases zx.mp hx with hx | hx
  .exact T.le x (vg hx)
  .rcases zg.mp hx with rfl | hx
   .exact hj
   .exact T.le x (jJ hx)
 .show(t.put j).1.place.size<=t.mask
  have:(t.put j).1.place.toList.length=t.place.toList.length+1:=by
   rw[L,zR,zE,<-Nat.add_assoc,<-zR,qG]
  simp at this;omega
def Xr{t:Ó}(T:TOk t)(j x:Nat):x∈(t.put j).1.place.toList↔x=j\/x∈t.place.toList:=by
 rw[fO T];constructor
 .intro h
  rcases zx.mp h with h | h
  .exact .inr (vg h)
  .rcases zg.mp h with h | h
   .exact .inl h
   .exact .inr (jJ h)
 .rintro(rfl | h)
  .exact zZ _ (zF ..)
  .rw[<-qG (t.put j).2 t.place.toList] at h
   rcases zx.mp h with h | h
   .exact yH _ h
   .exact zZ _ (zq _ h)
theorem SOk.put{t:Ó}{es:Array (Int×Ã)}{R:List (Nat×(Int×Ã))}(S:SOk t es.toList R)(hN:(path t h N).j∉t.place.toList)(hb:∀k,k<N->(path t h k).j∈t.place.toList)
  (t':Ó) (hm:t'.mask=t.mask) (hp:t'.place=(t.put (path t h N).j).1.place) (hd:t'.dummies=(t.put (path t h N).j).1.dummies) (few:t'.place.size*5<t'.mask*3) :
  ∃R',SOk t' (ċ es (t.put (path t h N).j).2 (h,x)).toList R'/\R'.Perm (((path t h N).j,(h,x))::R):=by
 have T:=S.T;have L:=fO T (path t h N).j;have hj:(path t h N).j<=t.mask:=by have:=(iB t h N).1;omega
 have hr:t.place.size+1<=t.mask:=by
  have:=S.few;obtain⟨k,a,b⟩:=T.pow;have:2 ^ 3<=2 ^ k:=jZ ∅ a;omega
 have T':=BI T hj hN hr;have Ag:R.length=es.size:=by have:=jj Ú S.es;simpa using this
 have AJ:R.length=t.place.size:=by have:=jj Ú S.pl;simpa using this
 have Rc:(t.put (path t h N).j).2<=es.size:=by
  have:=(x3 (xs:=t.place) (j:=(path t h N).j) T.up).1;rw[<-Ag,AJ];exact this
 generalize hq:(t.put (path t h N).j).2=p at *;refine⟨R.take p++((path t h N).j,(h,x))::R.drop p,⟨⟨by rw[hd];exact T'.nod,by rw[hp];exact T'.up,by rw[hp,hm];exact T'.le,by rw[hm];exact T.pow,by rw[hp,hm];exact T'.room⟩,?_,?_,?_,few⟩,?_⟩
 .rw[hp,L]
  simp[yV,yW,S.pl]
 .rw[cp _ Rc]
  simp[yV,yW,S.es]
 .have up:∀j,j∈t.place.toList->j∈t'.place.toList:=λj hj=>by rw[hp];exact(Xr T _ _).mpr (.inr hj)
  intro r hr;rcases zx.mp hr with hr | hr
  .exact(S.on r (vg hr)).mono hm.symm up
  .rcases zg.mp hr with rfl | hr
   .exact On.mono (t:=t) (occ:=(· ∈ t.place.toList)) ⟨N,rfl,hb⟩ hm.symm up
   .exact(S.on r (jJ hr)).mono hm.symm up
 .have:R.Perm (R.take p++R.drop p):=by rw[qG]
  exact List.perm_middle.trans (Ğ _ this.symm)
theorem df(t:Ó)(h:Int)(e:path t h n=atHead t h m):∀k,k<=(atHead t h m).more->path t h (n+k)=⟨(lp t.mask h m).1+k,(atHead t h m).more-k,(lp t.mask h m).1,(lp t.mask h m).2,Á⟩
 | 0,_=>by rw[vJ,e];rfl
 | k+1,hk=>by
  show t.advance (path t h (n+k))=_
  rw[df t h e k ∅];unfold Ą;rw[zQ (show(atHead t h m).more-k>0 by omega)];erw[SetTable.Probe.mk.injEq,uB];omega
theorem Vf(t:Ó)(h:Int)(e:path t h n=atHead t h m):path t h (n+(atHead t h m).more+1)=atHead t h (m+1):=by
 show t.advance (path t h (n+(atHead t h m).more))=_
 rw[df t h e _ (zy _)];unfold Ą;rw[zX (by simp)];rfl
def em(owner:Array (Option Nat))(j:Nat):Bool:=(owner.getD j (À 0)).isNone
def Xv(t:Ó)(h:Int)(owner:Array (Option Nat)):∀(lx m n:Nat),path t h n=atHead t h m->(∀k,k<n->em owner (path t h k).j=Ä)->(∃d,d<lx/\em owner (lp t.mask h (m+d)).1=Â)->
  ∃N,Ĕ t.mask owner lx (lp t.mask h m).1 (lp t.mask h m).2=À (path t h N).j/\em owner (path t h N).j=Â/\∀k,k<N->em owner (path t h k).j=Ä:=by
 intro lx;induction lx with
 | zero=>rintro m n _ _ ⟨d,hd,_⟩;omega
 | succ lx ih=>
  rintro m n e hb ⟨d,hd,he⟩;have hi:(lp t.mask h m).1<=à t.mask (lp t.mask h m).1:=by unfold à;split<;>omega
  have NV:(atHead t h m).more=à t.mask (lp t.mask h m).1-(lp t.mask h m).1:=rfl;unfold Ĕ;cases q:(ä (à t.mask (lp t.mask h m).1+1-(lp t.mask h m).1)).find? (λk=>(owner.getD ((lp t.mask h m).1+k) (À 0)).isNone) with
  | some k=>
   obtain⟨a,b,c⟩:=List.find?_range_eq_some.mp q;have hk:k<=(atHead t h m).more:=by have:=jX.mp b;omega
   refine⟨n+k,?_,?_,λk' Re=>?_⟩
   .simp only[]
    rw[df t h e k hk]
   .rw[df t h e k hk];exact a
   .by_cases z:k'<n
    .exact hb k' z
    .have e2:k'=n+(k'-n):=by omega
     rw[e2,df t h e (k'-n) ∅];have:=c (k'-n) ∅;unfold em;simpa using this
  | none=>
   simp only[];have all:=List.find?_range_eq_none.mp q;have hb2:∀k,k<n+(atHead t h m).more+1->em owner (path t h k).j=Ä:=λk' Re=>by
    by_cases z:k'<n
    .exact hb k' z
    .have e2:k'=n+(k'-n):=by omega
     rw[e2,df t h e (k'-n) ∅];have:=all (k'-n) ∅;unfold em;simpa using this
   refine ih (m+1) _ (Vf t h e) hb2 ?_;cases d with
   | zero=>
    have:=all 0 ∅;rw[vJ] at he;unfold em at he;rw[vJ,he] at this;cases this
   | succ d=>exact⟨d,by omega,by rw[show m+1+d=m+(d+1) from by omega];exact he⟩
def live(mask:Nat)(owner:Array (Option Nat)):List (Nat×Nat):=(ä (mask+1)).filterMap λj=>(owner.getD j Á).map (j,·)
theorem sA:∀{l:List Nat},(∀x∈l,g x=f x)->l.filterMap g=l.filterMap f
 | [],_=>rfl
 | x::l,h=>by
  have e:=h x (zF ..);have r:=sA (l:=l) λy hy=>h y (zq _ hy)
  erw[wA,e,r]
theorem JS(hf:f j=Á)(hg:g j=À v)(ho:∀i,i≠j->g i=f i):∀l:List Nat,l.Nodup->j∈l->(l.filterMap g).Perm (v::l.filterMap f)
 | [],_,h=>by cases h
 | i::l,nd,h=>by
  obtain⟨n1,n2⟩:=jL.mp nd;by_cases e:i=j
  .subst e
   rw[jV hg,qN hf];have:l.filterMap g=l.filterMap f:=by
    apply sA
    intro x hx;exact ho x λz=>n1 (z▸hx)
   rw[this]
  .have hj:j∈l:=by
    rcases zg.mp h with h | h
    .exact absurd h.symm e
    .exact h
   have ih:=JS hf hg ho l n2 hj;cases q:f i with
   | none=>rw[qN (by rw[ho i e,q]),qN q];exact ih
   | some u=>
    rw[jV (by rw[ho i e,q]),jV q];exact(Ğ _ ih).trans (ų _ _ _)
structure LInv(t:Ó)(owner:Array (Option Nat))(D:List Int):Prop where
 sz:owner.size=t.mask+1
 perm:((live t.mask owner).map (·.2)).Perm (ä D.length)
 on:∀j i,owner.getD j Á=À i->∃h,D[i]?=À h/\On t (λj=>em owner j=Ä) j h
def mem_live{owner:Array (Option Nat)}:(j,i)∈live mask owner↔j<mask+1/\owner.getD j Á=À i:=by
 unfold live;rw[yU];constructor
 .rintro⟨j',a,b⟩
  obtain⟨i',c,d⟩:=zj.mp b;cases d;exact⟨jX.mp a,c⟩
 .rintro⟨a,b⟩
  exact⟨j,jX.mpr a,by rw[b];rfl⟩
def em_iff{owner:Array (Option Nat)}(hs:owner.size=mask+1)(hj:j<=mask):em owner j=Â↔owner.getD j Á=Á:=by
 have:j<owner.size:=by omega
 unfold em Ā;simp[this]
def VB{t:Ó}{D:List Int}(I:LInv t owner D)(hl:D.length<=t.mask):∃j,j<=t.mask/\em owner j=Â:=by
 by_cases q:∃j,j<=t.mask/\em owner j=Â
 .exact q
 .have h:=lX (t.mask+1) ((live t.mask owner).map (·.1)) λj hj=>by
   have:owner.getD j Á≠Á:=λz=>q ⟨j,by omega,(em_iff I.sz ∅).mpr z⟩
   obtain⟨i,e⟩:=ul.mp this;exact zK.mpr ⟨(j,i),mem_live.mpr ⟨hj,e⟩,rfl⟩
  have:=I.perm.length_eq;simp at h this;omega
def WD{t:Ó}(hp:t.mask+1=2 ^ k){owner:Array (Option Nat)}{D:List Int}(I:LInv t owner D)(hl:D.length<=t.mask)(h:Int) :
  ∃j,Ĕ t.mask owner (æ t.mask) (ã h%(t.mask+1)) (ã h)=À j/\LInv t (owner.setIfInBounds j (À D.length)) (D++[h]):=by
 obtain⟨j0,Rf,Rg⟩:=VB I hl;obtain⟨m0,NW,e0⟩:=Vv h hp Rf;obtain⟨N,a,b,c⟩:=Xv t h owner (æ t.mask) 0 0 rfl (λk hk=>absurd hk ∅) ⟨m0,by unfold æ;omega,by rw[yz,e0];exact Rg⟩;refine⟨(path t h N).j,a,?_⟩;have hj:(path t h N).j<=t.mask:=by have:=(iB t h N).1;omega
 have hn:=(em_iff I.sz hj).mp b;have upd:∀i,(owner.setIfInBounds (path t h N).j (À D.length)).getD i Á=if i=(path t h N).j then À D.length else owner.getD i Á:=by
  intro i;by_cases e:i=(path t h N).j
  .subst e
   have:(path t h N).j<owner.size:=by rw[I.sz];omega
   simp[Ā,this]
  .rw[zX e]
   unfold Ā;erw[vL];split
   .exact Array.getElem_setIfInBounds_ne _ (λz=>e z.symm)
   .rfl
 have keep:∀i,em owner i=Ä->em (owner.setIfInBounds (path t h N).j (À D.length)) i=Ä:=by
  intro i e;by_cases q:i<=t.mask
  .cases z:em (owner.setIfInBounds (path t h N).j (À D.length)) i with
   | false=>rfl
   | true=>
    have z2:=(em_iff (mask:=t.mask) (by rw[vL];exact I.sz) q).mp z;rw[upd] at z2;split at z2
    .cases z2
    .rw[(em_iff I.sz q).mpr z2] at e;cases e
  .unfold em Ā
   rw[dif_neg (by rw[vL,I.sz];omega)];rfl
 refine⟨by rw[vL];exact I.sz,?_,?_⟩
 .have P:=JS (f:=λj=>(owner.getD j Á).map (j,·)) (g:=λj=>((owner.setIfInBounds (path t h N).j (À D.length)).getD j Á).map (j,·)) (j:=(path t h N).j) (v:=((path t h N).j,D.length)) (by rw[hn];rfl) (by rw[upd,zQ rfl];rfl) (λi hi=>by rw[upd,zX hi]) (ä (t.mask+1)) List.nodup_range (jX.mpr ∅)
  have P2:=P.map (·.2);rw[zz] at P2;rw[zR,qK,List.range_succ];exact P2.trans ((Ğ _ I.perm).trans (List.perm_append_comm (l₁:=[D.length])))
 .intro j i e
  rw[upd] at e;by_cases z:j=(path t h N).j
  .rw[zQ z] at e
   cases e;subst z;refine⟨h,by simp,N,rfl,λm hm=>keep _ (c m hm)⟩
  .rw[zX z] at e
   obtain⟨h',e1,e2⟩:=I.on j i e;have:i<D.length:=by
    obtain⟨q,_⟩:=zu.mp e1;exact q
   exact⟨h',by rw[zY this];exact e1,e2.mono rfl keep⟩
theorem Z5{t:Ó}(hp:t.mask+1=2 ^ k):∀(l:List Int) (owner:Array (Option Nat)) (D:List Int),LInv t owner D->D.length+l.length<=t.mask+1->
  ∃owner',(l.foldl (init:=À (owner,D.length)) λacc h=>do
   let (owner,k) <-acc
   let j <-Ĕ t.mask owner (æ t.mask) (ã h%(t.mask+1)) (ã h)
   pure (owner.setIfInBounds j (À k),k+1))=À (owner',(D++l).length)/\LInv t owner' (D++l)
 | [],owner,D,I,_=>⟨owner,by simp,by rw[vQ];exact I⟩
 | h::l,owner,D,I,hl=>by
  erw[zE] at hl;obtain⟨j,e,I'⟩:=WD hp I ∅ h;obtain⟨o',e2,I2⟩:=Z5 hp l _ _ I' (by rw[zR,qK];omega);refine⟨o',?_,by rw[wZ] at I2;exact I2⟩;rw[List.foldl_cons];have e3:D++h::l=D++[h]++l:=by simp
  rw[e3,<-e2];congr 1
  erw[Option.bind_eq_bind,ql,e,Option.pure_def,zR,qK]
def DL(t:Ó):LInv t (ť (t.mask+1) Á) []:=by
 have z:∀j,(ť (t.mask+1) (Á:Option Nat)).getD j Á=Á:=by
  intro j;unfold Ā;split
  .simp
  .rfl
 refine⟨by simp,?_,λj i e=>by rw[z] at e;cases e⟩;have:live t.mask (ť (t.mask+1) Á)=[]:=by
  unfold live;rw[List.filterMap_eq_nil_iff];intro j _;rw[z];rfl
 rw[this];exact List.Perm.nil
theorem Zb(hp:mask+1=2 ^ k)(H:Array Int)(hl:H.size<=mask)(t:Ó)(ht:t.mask=mask):∃owner,SetTable.layClean mask H=À owner/\LInv t owner H.toList:=by
 subst ht;obtain⟨o,e,I⟩:=Z5 hp H.toList _ [] (DL t) (by simp;omega);refine⟨o,?_,by simpa using I⟩;unfold SetTable.layClean;rw[<-Array.foldl_toList];rw[show(([]:List Int).length)=0 from rfl] at e;rw[e];rfl
def UQ(mask:Nat)(owner:Array (Option Nat)):((live mask owner).map (·.1)).Pairwise (· < ·):=by
 unfold live;have:∀l:List Nat,l.Pairwise (· < ·)->((l.filterMap λj=>(owner.getD j Á).map (j,·)).map (·.1)).Pairwise (· < ·)/\∀x∈(l.filterMap λj=>(owner.getD j Á).map (j,·)).map (·.1),x∈l:=by
  intro l;induction l with
  | nil=>intro _;exact⟨Ě,λx h=>by cases h⟩
  | cons j l ih=>
   intro h;obtain⟨h1,h2⟩:=qi.mp h;obtain⟨i1,i2⟩:=ih h2;cases q:owner.getD j Á with
   | none=>
    rw[qN (by rw[q];rfl)];exact⟨i1,λx hx=>zq _ (i2 x hx)⟩
   | some v=>
    rw[jV (b:=(j,v)) (by rw[q];rfl),zz]
    exact⟨qi.mpr ⟨λx hx=>h1 x (i2 x hx),i1⟩,λx hx=>by
     rcases zg.mp hx with rfl | hx
     .exact zF ..
     .exact zq _ (i2 x hx)⟩
 exact(this _ (List.pairwise_lt_range)).1
def filterMap_get{α:Type}(l:List α):(ä l.length).filterMap (l[·]?)=l:=by
 induction l with
 | nil=>rfl
 | cons a l ih=>
  rw[zE,List.range_succ_eq_map,jV (b:=a) (by rfl),yX];congr 1
def Kb(hp:mask+1=2 ^ k)(hk:3<=k)(es:Array (Int×Ã))(few:es.size*5<mask*3)(finger moves:Nat)(led plain:Bool) :
  ∃t' order,SetTable.laid mask finger moves led plain (es.map (·.1))=À (t',order)/\t'.mask=mask/\t'.led=led/\t'.plain=plain/\t'.finger=finger/\t'.moves=moves/\(order.filterMap (es[·]?)).toList.Perm es.toList /\
   ∃R',SOk t' (order.filterMap (es[·]?)).toList R':=by
 let t0:Ó:={ mask,place:=#[],dummies:=#[],finger,led,moves,plain }
 obtain⟨owner,e,I⟩:=Zb hp (es.map (·.1)) (by simp;omega) t0 rfl;let lv:=live mask owner
 let t':Ó:={ mask,place:=(lv.map (·.1)).toArray,dummies:=#[],finger,led,moves,plain }
 have hI:((live mask owner).map (·.2)).Perm (ä es.size):=by have:=I.perm;simpa using this
 have pe:((lv.map (·.2)).toArray.filterMap (es[·]?)).toList.Perm es.toList:=by
  rw[uP];have:=List.Perm.filterMap (es[·]?) hI;refine this.trans ?_;have e2:=filterMap_get es.toList;erw[zU,yF] at e2;rw[e2]
 refine⟨t',(lv.map (·.2)).toArray,?_,rfl,rfl,rfl,rfl,rfl,pe,?_⟩
 .unfold SetTable.laid
  rw[e];rfl
 .have A3:lv.length=es.size:=by have:=hI.length_eq;simpa using this
  have inr:∀p∈lv,p.2<es.size:=λp hp=>jX.mp (hI.mem_iff.mp (zK.mpr ⟨p,hp,rfl⟩))
  let R':=lv.map λp=>(p.1,es.toList.getD p.2 (0,Ö))
  have IU:∀p∈lv,es[p.2]?=À (es.toList.getD p.2 (0,Ö)):=λp hp=>by
   have:=inr p hp;simp[ġ,this]
  have Rh:∀j,j<=mask->(em owner j=Ä↔j∈lv.map (·.1)):=λj hj=>by
   constructor
   .intro q
    have:owner.getD j Á≠Á:=λz=>by rw[(em_iff I.sz hj).mpr z] at q;cases q
    obtain⟨i,e⟩:=ul.mp this;exact zK.mpr ⟨(j,i),mem_live.mpr ⟨by omega,e⟩,rfl⟩
   .intro q
    obtain⟨⟨j',i⟩,a,b⟩:=zK.mp q;cases b;cases z:em owner j' with
    | false=>rfl
    | true=>
     have:=(em_iff (mask:=mask) I.sz hj).mp z;rw[(mem_live.mp a).2] at this;cases this
  refine⟨R',⟨⟨rfl,?_,?_,⟨k,hk,hp⟩,?_⟩,?_,?_,?_,?_⟩⟩
  .exact UQ mask owner
  .intro j hj
   obtain⟨⟨j',i⟩,a,b⟩:=zK.mp hj;cases b;have:=(mem_live.mp a).1;show j'<=mask
   omega
  .show(lv.map (·.1)).toArray.size<=mask
   simp[A3];omega
  .show(lv.map λp=>(p.1,es.toList.getD p.2 (0,Ö))).map (·.1)=(lv.map (·.1)).toArray.toList
   simp
  .show(lv.map λp=>(p.1,es.toList.getD p.2 (0,Ö))).map (·.2)=((lv.map (·.2)).toArray.filterMap (es[·]?)).toList
   rw[uP,yX,kZ];have:∀l:List (Nat×Nat),(∀p∈l,es[p.2]?=À (es.toList.getD p.2 (0,Ö)))->l.map ((λ(x:Nat×(Int×Ã))=>x.2)∘λp=>(p.1,es.toList.getD p.2 (0,Ö)))=l.filterMap ((λx=>es[x]?)∘λx=>x.2):=by
    intro l;induction l with
    | nil=>intro _;rfl
    | cons p l ih=>
     intro h;have e0:((λx=>es[x]?)∘λ(x:Nat×Nat)=>x.2) p=À (es.toList.getD p.2 (0,Ö)):=h p (zF ..);rw[jV e0,zz,ih λq hq=>h q (zq _ hq)];rfl
   exact this lv IU
  .intro r hr
   obtain⟨⟨j,i⟩,a,b⟩:=zK.mp hr;cases b;obtain⟨h,e1,e2⟩:=I.on j i (mem_live.mp a).2;have e3:h=(es.toList.getD i (0,Ö)).1:=by
    have:=IU _ a;have Fn:(es.map (·.1))[i]?=À h:=by simpa using e1
    rw[Array.getElem?_map,this] at Fn;simpa using Fn.symm
   obtain⟨n,q1,q2⟩:=e2;refine⟨n,?_,λm hm=>?_⟩
   .show(path t' (es.toList.getD i (0,Ö)).1 n).j=j
    rw[<-e3,uu (t:=t') (t':=t0) rfl];exact q1
   .show(path t' (es.toList.getD i (0,Ö)).1 m).j∈(lv.map (·.1)).toArray.toList
    rw[<-e3,uu (t:=t') (t':=t0) rfl];have le:=(iB t0 h m).1;exact(Rh _ (by have:t0.mask=mask:=rfl;omega)).mp (q2 m hm)
  .show(lv.map (·.1)).toArray.size*5<mask*3
   simp[A3];exact few
theorem ZX(n:Nat):∀(lx k:Nat),n<2 ^ (k+lx)->∃k',k<=k'/\SetTable.sizeAbove.go n lx (2 ^ k)=2 ^ k'/\n<2 ^ k'/\(2 ^ k'<=2*n\/k'=k)
 | 0,k,h=>⟨k,zy _,rfl,h,.inr rfl⟩
 | lx+1,k,h=>by
  unfold SetTable.sizeAbove.go;by_cases c:2 ^ k<=n
  .rw[zQ c,<-vI]
   obtain⟨k',a,b,d,e⟩:=ZX n lx (k+1) (by rw[show k+1+lx=k+(lx+1) from by omega];exact h);refine⟨k',by omega,b,d,.inl ?_⟩;rcases e with e | e
   .exact e
   .subst e;rw[vI];omega
  .rw[zX c]
   exact⟨k,zy _,rfl,by omega,.inr rfl⟩
def sO(h:n<2 ^ 60):∃k,3<=k/\SetTable.sizeAbove n=2 ^ k/\n<2 ^ k/\(2 ^ k<=2*n\/k=3):=by
 have h2:2 ^ 60<=2 ^ (3+64):=jZ ∅ ∅;obtain⟨k,a,b,c,d⟩:=ZX n 64 3 (zN h h2);exact⟨k,a,b,c,d⟩
section
variable{prog:Ï}{w:Ô}{K:Type}[DecidableEq K]{knd:KeyKind prog w K}{A:Ù}{E:Ã->Å->Prop}{s:Å}
def JE(n:Nat)(h:Đ v=Â):ě n v=pure Ä:=by
 cases v with
 | ref a=>simp[Đ] at h
 | _=>first | rfl | simp[ě] | (unfold ě;rfl)
def nX(hk:Ñ knd s.heap ks a)(h:Q Ä s):É (Í prog w) A (ě 8 (.ref a)) Q E s:=by
 have hT:=hk.typeIs;obtain⟨o,items,n,ho,_,hd,hi⟩:=hk;unfold ě;refine za (qC hT ?_);dsimp only;rw[if_pos (by rfl)];refine za (zf ?_);rw[zX (by simp)];refine za (jT ho hd ?_);dsimp only;refine ö ?_;rw[<-Array.forIn_toList];refine wD _ (λrest r s'=>r.1=Á/\s'=s/\∀v∈rest,Đ v=Â) _ ?_ ?_ _ _ ⟨rfl,rfl,hi.byValue⟩
 .rintro v rest r s' ⟨hr,rfl,Ae⟩
  rw[JE _ (Ae v zF)];refine za (zf ?_);erw[zO,ju];exact zf ⟨rfl,rfl,λu MF=>Ae u (zq _ MF)⟩
 .rintro⟨r1,r2⟩ s' ⟨hr,rfl,_⟩
  simp only at hr;subst hr;exact zf h
def Bf(hk:Ñ knd s.heap ks x)(hl:∀v∈l,∃pf b,v=.ref b/\Ñ knd s.heap pf b)(h:Q Ä s):É (Í prog w) A (searchCouldBeSeen (.ref x) l) Q E s:=by
 unfold searchCouldBeSeen;refine za ?_;refine wD _ (λrest r s'=>r.1=Á/\s'=s/\∀v∈rest,∃pf b,v=.ref b/\Ñ knd s.heap pf b) _ ?_ ?_ _ _ ⟨rfl,rfl,hl⟩
 .rintro v rest r s' ⟨hr,rfl,Ae⟩
  obtain⟨pf,b,rfl,hb⟩:=Ae v zF;have fin:∀u∈rest,∃pf b,u=.ref b/\Ñ knd s'.heap pf b:=λu hu=>Ae u (zq _ hu)
  dsimp only;by_cases e:(x==b)=Â
  .rw[zQ (by simp[e])]
   exact zf ⟨rfl,rfl,fin⟩
  .rw[zX (by simp[e,Đ])]
   refine za (Ū hk ?_);erw[xg,zO,ju];refine za (Ū hb ?_);erw[xg,zO,ju];refine za (nX hk ?_);erw[zO,ju];refine za (nX hb ?_);erw[zO,ju];exact zf ⟨rfl,rfl,fin⟩
 .rintro⟨r1,r2⟩ s' ⟨hr,rfl,_⟩
  simp only at hr;subst hr;exact zf h
def SetT(knd:KeyKind prog w K)(h:Õ)(a:È)(L:List (List K×È)):Prop:=
 ∃o es ep t R,h.get? a=À o/\o.ExactSet/\o.data=.set es ep t/\t.mask<=8191/\t.led = !w.params.followText "set-order" /\ SOk t es.toList R/\es.toList=L.map (λp=>(Ë knd p.1,Ê p.2))/\(L.map (·.1)).Nodup/\∀p∈L,Ñ knd h p.1 p.2
theorem TOk.odd{t:Ó}(T:TOk t):t.gaveWay=Ä:=by
 obtain⟨k,a,b⟩:=T.pow;unfold SetTable.gaveWay;obtain⟨k,rfl⟩:∃j,k=j+1:=⟨k-1,by omega⟩;rw[vI] at b;have:t.mask%2=1:=by omega
 rw[this];rfl
theorem SOk.fits{t:Ó}{es:Array (Int×Ã)}{R:List (Nat×(Int×Ã))}(S:SOk t es.toList R):t.fits es.size=Â:=by
 have a:=jj Ú S.pl;have b:=jj Ú S.es;erw[zG,zU] at a b;unfold SetTable.fits Ĥ;rw[S.T.nod];have:=S.T.room;simp;omega
theorem SOk.at{t:Ó}{es:Array (Int×Ã)}{R:List (Nat×(Int×Ã))}(S:SOk t es.toList R)(h:t.slot j=.live i):∃e,es[i]?=À e/\(j,e)∈R/\t.place[i]?=À j:=by
 obtain⟨i',hi,e1,e2⟩ | ⟨_,e2⟩:=slot_of S.T j
 .rw[e2] at h
  cases h;have a:=jj Ú S.pl;erw[zG,zU] at a;have hr:i<R.length:=by omega
  have p1:R[i].1=j:=by
   have:=jj (·[i]?) S.pl;simp[hr,hi] at this;rw[this];exact e1
  have p2:es[i]?=À R[i].2:=by
   have:=jj (·[i]?) S.es;simp[hr] at this;exact this.symm
  exact⟨R[i].2,p2,by rw[<-p1];exact qY hr,by rw[<-e1];simp[hi]⟩
 .rw[e2] at h;cases h
end
section
variable{prog:Ï}{w:Ô}{K:Type}[DecidableEq K]{knd:KeyKind prog w K}{A:Ù}{E:Ã->Å->Prop}{s:Å}
def CZ{α:Type}{c:Bool}{m:Sem Bool}{X Y:Sem α}{Q:α->Å->Prop}(hm:É (Í prog w) A m (λb s'=>b=Ä/\s'=s) E s)(hY:É (Í prog w) A Y Q E s) :
  É (Í prog w) A (if c=Â then (do let b <-m;if b=Â then X else Y) else Y) Q E s:=by
 cases c with
 | true=>
  rw[zQ rfl];refine za (qe hm (λb s' h=>?_) λ_ _ h=>h);obtain⟨rfl,rfl⟩:=h;rw[zX (by simp)];exact hY
 | false=>rw[zX (by simp)];exact hY
theorem m6{L:List (List K×È)}{o:ó}{es:Array (Int×Ã)}{t:Ó}{R:List (Nat×(Int×Ã))}
  (hu:A.units<õ) (ho:s.heap.get? a=À o) (hd:o.data=.set es ep t) (S:SOk t es.toList R) (hL:es.toList=L.map (λp=>(Ë knd p.1,Ê p.2))) (hT:∀p∈L,Ñ knd s.heap p.1 p.2) (hk:Ñ knd s.heap k x)
  (hN:(path t (Ë knd k) N).j∉t.place.toList) (hb:∀m,m<N->(path t (Ë knd k) m).j∈t.place.toList) (Af:N<10*æ t.mask)
  (yes:∀i,adding=Â\/(∃p,L[i]?=À p/\p.1=k)->(∃p∈L,p.1=k)->Q (.there (if adding then Á else À i)) s):∀(lx n:Nat) (A9:Option ı),A9.getD (t.probeStart (Ë knd k))=path t (Ë knd k) n->n<=N->N-n<lx->
  ((∀m i e,n<=m->m<N->t.slot (path t (Ë knd k) m).j=.live i->L[i]?=À e->e.1≠k)->Q (.free (path t (Ë knd k) N).j Ä) s)->
  É (Í prog w) A (ĸ a (.ref x) (Ë knd k) adding lx A9) Q E s:=by
 intro lx;induction lx with
 | zero=>intro n A9 _ _ q;omega
 | succ lx ih=>
  intro n A9 hs hn hf no;have getL:∀{i:Nat} {e:Int×Ã},es[i]?=À e->∃p,L[i]?=À p/\e=(Ë knd p.1,Ê p.2):=by
   intro i e he;have h1:es.toList[i]?=À e:=by simpa using he
   rw[hL,kh] at h1;obtain⟨p,a1,a2⟩:=zj.mp h1;exact⟨p,a1,a2.symm⟩
  unfold ĸ;refine za (jh ho hd S.fits ?_);dsimp only;rw[S.T.odd];erw[zO,ju];rw[hs];generalize hF:t.probe _ (Ë knd k) (path t (Ë knd k) n)=r;have LF:þ t (λi=>(es[i]?.map (·.1)).getD 0) (Ë knd k) (10*æ t.mask) (path t (Ë knd k) n)=r:=hF;rcases V6 S.T (λi=>(es[i]?.map (·.1)).getD 0) (Ë knd k) hN hb (10*æ t.mask) n hn ∅ with ⟨m,i,m1,m2,sl,hh,ee,before⟩ | ⟨ee,before⟩
  .rw[ee] at LF
   subst LF;obtain⟨e,ei,er,Hq⟩:=S.at sl;obtain⟨p,pi,rfl⟩:=getL ei;have hp:=jz pi;have MJ:p.1≠k->É (Í prog w) A (ĸ a (.ref x) (Ë knd k) adding lx (À (path t (Ë knd k) (m+1)))) Q E s:=λne=>by
    refine ih (m+1) (À _) rfl m2 ∅ λh=>no λm' i' e' a1 a2 a3 a4=>?_
    rcases xr m' m with z | z | z
    .intro ek
     refine before m' a1 z i' a3 ?_;have h1:es.toList[i']?=À (Ë knd e'.1,Ê e'.2):=by rw[hL,kh,a4];rfl
     have h2:es[i']?=À (Ë knd e'.1,Ê e'.2):=by simpa using h1
     show(es[i']?.map (·.1)).getD 0=_
     rw[h2,ek];rfl
    .subst z
     rw[sl] at a3;cases a3;rw[pi] at a4;cases a4;exact ne
    .exact h m' i' e' z a2 a3 a4
   dsimp only;refine CZ (Bf hk (λv hv=>?_) ⟨rfl,rfl⟩) ?_
   .obtain⟨q,q1,q2⟩:=zK.mp hv
    have q3:q∈es.toList:=by
     have:=yI.mp q1;exact yI.mpr (Array.mem_filter.mp this).1
    rw[hL] at q3;obtain⟨p',z1,z2⟩:=zK.mp q3;subst z2;exact⟨p'.1,p'.2,q2.symm,hT p' z1⟩
   .rw[ei]
    dsimp only;refine ö (wpAny_holding (wpAny_eqBool_tuple hu (hT p hp) hk ?_));refine ö (wpAny_setState_of ho hd S.fits ?_);dsimp only;have sm:t.sameMemory t.moves t.mask=À Â:=by unfold SetTable.sameMemory;rw[if_pos (by simp)]
    by_cases z:p.1=k
    .rw[kJ z]
     cases adding with
     | true=>
      erw[Bool.and_self,je];exact zf (yes i (.inl rfl) ⟨p,hp,z⟩)
     | false=>
      erw[Bool.false_and,zO,ju,sm,je,sl,ei];refine za (ū ?_);refine za (zf ?_);erw[je];exact zf (yes i (.inr ⟨p,pi,z⟩) ⟨p,hp,z⟩)
    .rw[ji z]
     erw[Bool.and_false,zO,ju,sm,je,sl,ei];refine za (ū ?_);refine za (zf ?_);erw[je,zO,ju];exact MJ z
  .rw[ee] at LF
   subst LF;dsimp only;refine wpAny_pure (no λm' i' e' a1 a2 a3 a4 ek=>?_);refine before m' a1 a2 i' a3 ?_;have h1:es.toList[i']?=À (Ë knd e'.1,Ê e'.2):=by rw[hL,kh,a4];rfl
   have h2:es[i']?=À (Ë knd e'.1,Ê e'.2):=by simpa using h1
   show(es[i']?.map (·.1)).getD 0=_
   rw[h2,ek];rfl
end
def xb{α β:Type}{f:α->β}{m l:List β}(h:m.Perm l):∀{L:List α},m=L.map f->∃L':List α,L'.Perm L/\L'.map f=l:=by
 induction h with
 | nil=>intro L e;exact⟨L,qL _,e.symm⟩
 | cons x _ ih=>
  intro L e;cases L with
  | nil=>cases e
  | cons a L=>
   cases e;obtain⟨L',p,q⟩:=ih rfl;exact⟨a::L',Ğ _ p,by rw[zz,q]⟩
 | swap x y l=>
  intro L e;match L,e with
  | b::a::L,e=>
   cases e;exact⟨a::b::L,ų _ _ _,rfl⟩
 | trans _ _ ih1 ih2=>
  intro L e;obtain⟨L1,p1,q1⟩:=ih1 e;obtain⟨L2,p2,q2⟩:=ih2 q1.symm;exact⟨L2,p2.trans p1,q2⟩
section
variable{prog:Ï}{w:Ô}{K:Type}[DecidableEq K]{knd:KeyKind prog w K}{A:Ù}{E:Ã->Å->Prop}{s:Å}
def UN(n:Nat)(h:Đ v=Â):∃b,hashByValue n v=pure b:=by
 cases v with
 | ref a=>simp[Đ] at h
 | _=>cases n<;>exact⟨_,rfl⟩
def Uk(hk:Ñ knd s.heap ks a)(h:∀b,Q b s):É (Í prog w) A (hashByValue 8 (.ref a)) Q E s:=by
 have hT:=hk.typeIs;obtain⟨o,items,n,ho,_,hd,hi⟩:=hk;unfold hashByValue;refine za (Ŧ hT F.slot_tuple_hash.lookup ?_);refine za (jT ho hd ?_);refine za ?_;show É _ _ (forIn items _ _) _ _ s
 rw[<-wI];refine wD _ (λrest r s'=>r.1=Á/\s'=s/\∀v∈rest,Đ v=Â) _ ?_ ?_ _ _ ⟨rfl,rfl,hi.byValue⟩
 .rintro v rest r s' ⟨hr,rfl,Ae⟩
  obtain⟨b,e⟩:=UN 7 (Ae v zF);rw[e];refine za (zf ?_);cases b with
  | true=>
   erw[xg,zO,ju];exact zf ⟨rfl,rfl,λu MF=>Ae u (zq _ MF)⟩
  | false=>
   erw[Bool.not_false,je];exact zf (zf (h _))
 .rintro⟨r1,r2⟩ s' ⟨hr,rfl,_⟩
  simp only at hr;subst hr;exact zf (h _)
def ah{h:Õ}{o:ó}{es ep t}(hk:Ñ knd h ks x)(ho:h.get? a=À o)(hd:o.data=.set es ep t)(sb:Ü a h h'):Ñ knd h' ks x:=by
 obtain⟨o',items,n,AL,hc,AM,hi⟩:=hk;have AB:x≠a:=by
  rintro rfl;obtain rfl:o'=o:=zW (AL.symm.trans ho);rw[hd] at AM;exact nomatch AM
 exact⟨o',items,n,(sb.2 x AB).trans AL,hc,AM,hi⟩
def pZ{α:Type}{m:Sem α}{v:α}{Q:α->Å->Prop}(e:m=pure v)(h:Q v s):É (Í prog w) A m Q E s:=by rw[e];exact zf h
def dc{h:Õ}{o:ó}(ho:h.get? a=À o)(hex:o.ExactSet)(hd:o.data=.set es ep t){es':Array (Int×Ã)}{t':Ó}{L':List (List K×È)}
  (hm:t'.mask<=8191) (xa:t'.led = !w.params.followText "set-order") (S:SOk t' es'.toList R') (hL:es'.toList=L'.map (λp=>(Ë knd p.1,Ê p.2))) (nd:(L'.map (·.1)).Nodup) (hT:∀p∈L',Ñ knd h p.1 p.2) :
  (h.update a (ĵ es' t')).get? a=À { o with data:=.set es' (ep+1) t' }/\SetT knd (h.update a (ĵ es' t')) a L':=by
 have hg:(h.update a (ĵ es' t')).get? a=À { o with data:=.set es' (ep+1) t' }:=by
  have:=jD (ĵ es' t') ho (by rw[putSet_of es' t' hd];rfl);rw[putSet_of es' t' hd] at this;exact this
 exact⟨hg,_,es',ep+1,t',R',hg,hex,rfl,hm,xa,S,hL,nd,λp hp=>ah (hT p hp) ho hd (qg _ _ _)⟩
def oA{o:ó}{es:Array (Int×Ã)}{t:Ó}{L:List (List K×È)}(ho:s.heap.get? a=À o)(hex:o.ExactSet)(hd:o.data=.set es ep t)(hf:t.fits es.size=Â)(xa:t.led = !w.params.followText "set-order")
  (hL:es.toList=L.map (λp=>(Ë knd p.1,Ê p.2))) (nd:(L.map (·.1)).Nodup) (hT:∀p∈L,Ñ knd s.heap p.1 p.2) (hw:wanted<=4000) (SR:es.size*2<=wanted) (SU:0<wanted)
  (h:∀h' L',Ü a s.heap h'->SetT knd h' a L'->L'.Perm L->(∃o es ep t,h'.get? a=À o/\o.data=.set es ep t/\wanted<=t.mask)->Q () { s with heap:=h' }):É (Í prog w) A (setRelay a wanted) Q E s:=by
 unfold setRelay;refine za (jh ho hd hf ?_);dsimp only;obtain⟨k,k1,k2,k3,k4⟩:=sO (n:=wanted) ∅;have le:2 ^ k<=8192:=by
  rcases k4 with k4 | k4
  .have:2 ^ k<=8000:=by omega
   omega
  .subst k4;decide
 have pos:2 ^ 3<=2 ^ k:=jZ ∅ k1;rw[zX (by rw[k2,jA];omega)];obtain⟨t',order,e1,e2,e3,e4,e5,e6,pe,R',S⟩:=Kb (mask:=2 ^ k-1) (k:=k) ∅ k1 es ∅ t.finger (t.movedTo (SetTable.sizeAbove wanted-1)) t.led t.plain;have e0:t.relaid (es.map (·.1)) wanted=À (t',order):=by
  unfold SetTable.relaid;rw[k2] at e1 ⊢;exact e1
 rw[e0];have hz:(order.filterMap (es[·]?)).size=es.size:=by rw[<-zU,pe.length_eq,zU]
 refine za (pZ (v:=(order.filterMap (es[·]?),t')) (zX (by rw[hz];simp)) ?_);dsimp only;obtain⟨L',p1,p2⟩:=xb (f:=λp:List K×È=>(Ë knd p.1,Ê p.2)) pe.symm hL;obtain⟨Ri,ST⟩:=dc (knd:=knd) ho hex hd (t':=t') (es':=order.filterMap (es[·]?)) (L':=L') ∅ (by rw[e3];exact xa) S p2.symm ((p1.map (·.1)).nodup_iff.mpr nd) (λp hp=>hT p (p1.mem_iff.mp hp));exact uo ho hd (h _ _ (qg _ _ _) ST p1 ⟨_,_,_,t',Ri,rfl,by omega⟩) (by rw[hz,jA];omega)
theorem nO{L:List (List K×È)}(hu:A.units<õ)(hS:SetT knd s.heap a L)(hk:Ñ knd s.heap k x)(hb:L.length<900)
  (h:∀added h' L',Ü a s.heap h'->SetT knd h' a L'->L'.Perm (if k∈L.map (·.1) then L else (k,x)::L)->Q added { s with heap:=h' }) :
  É (Í prog w) A (setAddHashed a (.ref x) (Ë knd k)) Q E s:=by
 obtain⟨o,es,ep,t,R,ho,hex,hd,hm,xa,S,hL,nd,hT⟩:=hS;have Ag:es.size=L.length:=by have:=jj Ú hL;simpa using this
 have AJ:t.place.size=L.length:=by
  have a1:=jj Ú S.pl;have a2:=jj Ú S.es;erw[zG,zU] at a1 a2;omega
 obtain⟨N,n1,n2,n3⟩:=i7 S.T (Ë knd k);unfold setAddHashed;refine jm ?_;show É _ _ (setAddHashedIn a (.ref x) (Ë knd k) (99999+1)) _ _ _
 unfold setAddHashedIn;refine za (jh ho hd S.fits ?_);dsimp only;rw[show byScan (.ref x) es=Ä from rfl];erw[zO,ju];have HN:s={ s with heap:=s.heap }:=by cases s;rfl
 refine za ?_;show É _ _ (ĸ a (.ref x) (Ë knd k) Â 100000 Á) _ _ _
 refine m6 (knd:=knd) (L:=L) (N:=N) (k:=k) hu ho hd S hL hT hk n2 n3 n1 (λi _ there=>?_) 100000 0 Á rfl (j9 _) (by unfold æ at n1;omega) λno=>?_
 ·
  erw[je];refine zf ?_;rw[HN];refine h _ _ L (vG _ _) ⟨o,es,ep,t,R,ho,hex,hd,hm,xa,S,hL,nd,hT⟩ ?_;obtain⟨p,p1,p2⟩:=there;rw[zQ (zK.mpr ⟨p,p1,p2⟩)]
 ·
  have absent:k∉L.map (·.1):=by
   intro hc;obtain⟨p,p1,p2⟩:=zK.mp hc;obtain⟨i,hi,e⟩:=qT p1;have hr:i<R.length:=by have:=jj Ú S.pl;erw[zG,zU] at this;omega
   have IV:i<t.place.size:=by omega
   have r1:R[i].1=t.place[i]:=by
    have:=jj (·[i]?) S.pl;simp[hr,IV] at this;exact this
   have r2:R[i].2=(Ë knd p.1,Ê p.2):=by
    have:=jj (·[i]?) (S.es.trans hL);simp[hr,hi,e] at this;rw[this]
   obtain⟨n,a1,a2⟩:=S.on R[i] (qY hr);rw[r2,r1] at a1;rw[r2] at a2;dsimp only at a1 a2;rw[p2] at a1 a2;have nN:n<N:=by
    rcases yC n N with z | z
    .exact z
    .rcases jK z with z | z
     .exact absurd (a2 N z) n2
     .subst z
      rw[a1] at n2;exact absurd (by simp) n2
   refine no n i p (j9 _) nN ?_ (by rw[zM hi,e]) p2;rw[a1];exact iw S.T IV
  dsimp only;refine za (jh ho hd S.fits ?_);dsimp only;have hp:(t.put (path t (Ë knd k) N).j).2<=L.length:=by
   have:=(x3 (xs:=t.place) (j:=(path t (Ë knd k) N).j) S.T.up).1;rw[AJ] at this;exact this
  have pe:(L.take (t.put (path t (Ë knd k) N).j).2++(k,x)::L.drop (t.put (path t (Ë knd k) N).j).2).Perm ((k,x)::L):=by
   have:(L.take (t.put (path t (Ë knd k) N).j).2++L.drop (t.put (path t (Ë knd k) N).j).2)=L:=qG _ _;refine List.perm_middle.trans ?_;rw[this]
  have MK:(ċ es (t.put (path t (Ë knd k) N).j).2 (Ë knd k,Ê x)).toList=(L.take (t.put (path t (Ë knd k) N).j).2++(k,x)::L.drop (t.put (path t (Ë knd k) N).j).2).map (λp=>(Ë knd p.1,Ê p.2)):=by
   rw[cp _ ∅,hL];simp[yV,yW]
  have put:=λt' a1 a2 a3 a4=>S.put (h:=Ë knd k) (x:=Ê x) n2 n3 t' a1 a2 a3 a4
  have NX:(t.put (path t (Ë knd k) N).j).1.place.size=L.length+1:=by
   have:=jj Ú (fO S.T (path t (Ë knd k) N).j);rw[zR,zE,<-Nat.add_assoc,<-zR,qG] at this;erw[zU] at this;omega
  generalize hL2:(L.take (t.put (path t (Ë knd k) N).j).2++(k,x)::L.drop (t.put (path t (Ë knd k) N).j).2)=L1 at *;have NY:(L1.map (·.1)).Nodup:=((pe.map (·.1)).nodup_iff).mpr (jL.mpr ⟨absent,nd⟩);have NZ:∀p∈L1,Ñ knd s.heap p.1 p.2:=λp hp=>by
   rcases zg.mp (pe.mem_iff.mp hp) with rfl | hp
   .exact hk
   .exact hT p hp
  have Rj:L1.length=L.length+1:=by have:=pe.length_eq;simpa using this
  have fin:∀h' L',Ü a s.heap h'->SetT knd h' a L'->L'.Perm L1->Q Â { s with heap:=h' }:=λh' L' sb ST q=>h _ h' L' sb ST (by rw[zX absent];exact q.trans pe)
  have dm:(t.put (path t (Ë knd k) N).j).1.dummies = #[]:=by
   show(if Š t.dummies _ then _ else t.dummies)=_
   rw[S.T.nod,nD];rfl
  have tail:∀t':Ó,t'.mask=t.mask->t'.place=(t.put (path t (Ë knd k) N).j).1.place->t'.dummies=(t.put (path t (Ë knd k) N).j).1.dummies->t'.led=t.led->É (Í prog w) A (do
    storeSet a (ċ es (t.put (path t (Ë knd k) N).j).2 (Ë knd k,Ê x)) t'
    if (!Ä&&t'.tooFull)=Â then do
      setRelay a (Ŵ (es.size+1))
      pure Â
     else pure Â) Q E s:=by
   intro t' m1 m2 m3 m4;generalize N0:ċ es (t.put (path t (Ë knd k) N).j).2 (Ë knd k,Ê x)=El at *;have Em:El.size=L.length+1:=by have:=jj Ú MK;erw[zU,zG] at this;omega
   refine za (uo ho hd ?_ (by rw[Em,jA];omega));have MM:=qg s.heap a (ĵ El t');have hg:(s.heap.update a (ĵ El t')).get? a=À { o with data:=.set El (ep+1) t' }:=by
    have:=jD (ĵ El t') ho (by rw[putSet_of El t' hd];rfl);rw[putSet_of El t' hd] at this;exact this
   by_cases full:t'.tooFull=Â
   .rw[zQ (by simp[full])]
    have gr:Ŵ (es.size+1)=(es.size+1)*4:=by unfold Ŵ;rw[zX ∅]
    rw[gr];refine za (oA (knd:=knd) (L:=L1) hg hex rfl ?_ (m4.trans xa) MK NY (λp hp=>ah (NZ p hp) ho hd MM) ∅ ∅ ∅ λh' L' sb ST q _=>zf (fin h' L' (MM.trans sb) ST q));unfold SetTable.fits Ĥ;rw[m2,m3,dm,NX,m1,Em];have:=S.few;obtain⟨k',a1,b1⟩:=S.T.pow;have:2 ^ 3<=2 ^ k':=jZ ∅ a1;simp;omega
   .rw[zX (by simp[full])]
    have few:t'.place.size*5<t'.mask*3:=by
     unfold SetTable.tooFull Ĥ at full;rw[m3,dm] at full;simp at full;omega
    obtain⟨R',S',_⟩:=put t' m1 m2 m3 few;obtain⟨_,ST⟩:=dc (knd:=knd) ho hex hd (t':=t') (es':=El) (L':=L1) ∅ (m4.trans xa) S' MK NY NZ;exact zf (fin _ _ MM ST (qL _))
  split
  .refine za (Uk hk λb=>?_)
   refine tail _ ?_ ?_ ?_ ?_<;>cases b<;>rfl
  .refine za (zf ?_)
   exact tail _ rfl rfl rfl rfl
end
end ML
namespace ML
open PySem PySem.W PyProof.Rows
section
variable{n:Nat}{rk:Nat->Nat}{cmp:Nat->Nat->(Bool->Å->Prop)->Å->Prop}{s:Å}
def R(rk:Nat->Nat)(p:Array Nat)(i:Nat):Nat:=rk (p.getD i 0)
structure Pm(n:Nat)(p:Array Nat):Prop where
 sz:p.size=n
 pm:p.toList.Perm (ä n)
def Pm.lt{p:Array Nat}(P:Pm n p)(h0:0<n)(i:Nat):p.getD i 0<n:=by
 by_cases h:i<p.size
 .have e:p.getD i 0=p[i]:=by simp[Ā,h]
  rw[e];exact jX.mp (P.pm.mem_iff.mp (by simp))
 .have e:p.getD i 0=0:=by simp[Ā,h]
  rw[e];exact h0
def Answers(n:Nat)(rk:Nat->Nat)(cmp:Nat->Nat->(Bool->Å->Prop)->Å->Prop)(s:Å):Prop:=∀i j (C:Bool->Å->Prop),i<n->j<n->C (decide (rk i<rk j)) s->cmp i j C s
theorem iz(p:Array Nat)(hj:j<=p.size)(k:Nat):R rk (Ĺ p i j) k=if i<=k/\k<j then R rk p (i+j-1-k) else R rk p k:=by
 have e:=getElem?_mirror_all (xs:=p) (i:=i) hj k;unfold R Ĺ;have g:∀(q:Array Nat) (m:Nat),q.getD m 0=q[m]?.getD 0:=λq m=>uh ..
 rw[g,e,g,g];split<;>rfl
theorem YM(p:Array Nat)(hk:k<p.size)(hl:l<=k)(m:Nat):R rk (bubble p k (k-l)) m=if m=l then R rk p k else if l<m/\m<=k then R rk p (m-1) else R rk p m:=by
 have e:=getElem?_bubble (xs:=p) hk (k-l) ∅ m;rw[show k-(k-l)=l from by omega] at e;unfold R;have g:∀(q:Array Nat) (m:Nat),q.getD m 0=q[m]?.getD 0:=λq m=>uh ..
 rw[g,e,g,g,g];split
 .rfl
 .split<;>rfl
def Pm.rev(P:Pm n p)(i j:Nat):Pm n (Ĺ p i j):=⟨by unfold Ĺ;rw[mirror_size];exact P.sz,(mirror_perm p i j _).toList.trans P.pm⟩
def Pm.bub(P:Pm n p)(k d:Nat):Pm n (bubble p k d):=⟨by rw[bubble_size];exact P.sz,(bubble_perm p k d).toList.trans P.pm⟩
def Up(rk:Nat->Nat)(p:Array Nat)(m:Nat):Prop:=∀i j,i<=j->j<m->R rk p i<=R rk p j
def Dn(rk:Nat->Nat)(p:Array Nat)(m:Nat):Prop:=∀i j,i<=j->j<m->R rk p j<=R rk p i
def Up.succ(u:Up rk p m)(h:0<m)(e:R rk p (m-1)<=R rk p m):Up rk p (m+1):=by
 intro i j a b;rcases jK (wY b) with q | q
 .exact u i j a q
 .subst q
  rcases jK a with z | z
  .exact zp (u i (j-1) ∅ ∅) e
  .subst z;exact zy _
def Dn.succ(u:Dn rk p m)(h:0<m)(e:R rk p m<=R rk p (m-1)):Dn rk p (m+1):=by
 intro i j a b;rcases jK (wY b) with q | q
 .exact u i j a q
 .subst q
  rcases jK a with z | z
  .exact zp e (u i (j-1) ∅ ∅)
  .subst z;exact zy _
theorem rN(hc:Answers n rk cmp s)(h0:0<n)(P:Pm n p):∀(f m:Nat),0<m->Up rk p m->m+f<=n->(∀m',m<=m'->m'<=m+f->Up rk p m'->(m'=m+f\/R rk p m'<R rk p (m'-1))->G m' s)->(kas_asc p f m).kasWp cmp G s
 | 0,m,h1,u,hf,k=>k m (zy _) ∅ u (.inl rfl)
 | f+1,m,h1,u,hf,k=>by
  refine hc _ _ _ (P.lt h0 _) (P.lt h0 _) ?_;by_cases c:rk (p.getD m 0)<rk (p.getD (m-1) 0)
  .rw[kJ c];dsimp only;rw[if_pos rfl]
   exact k m (zy _) ∅ u (.inr c)
  .rw[ji c];dsimp only;rw[if_neg (by simp)]
   refine rN hc h0 P f (m+1) ∅ (u.succ h1 (j5 c)) ∅ λm' a b d e=>k m' ∅ ∅ d ?_
   rcases e with e | e
   .exact .inl ∅
   .exact .inr e
theorem iN(hc:Answers n rk cmp s)(h0:0<n):∀(f:Nat) (p:Array Nat) (m q:Nat),Pm n p->q<m->Dn rk p m->(∀i,m-(q+1)<=i->i<m->R rk p i=R rk p (m-1))->m+f<=n->
  (∀p' m' q',Pm n p'->q'<m'->m<=m'->m'<=m+f->Dn rk p' m'->(∀i,m'-(q'+1)<=i->i<m'->R rk p' i=R rk p' (m'-1))->G (p',m',q') s)->(kas_desc f p m q).kasWp cmp G s
 | 0,p,m,q,P,hq,u,eq,hf,k=>k p m q P hq (zy _) ∅ u eq
 | f+1,p,m,q,P,hq,u,eq,hf,k=>by
  refine hc _ _ _ (P.lt h0 _) (P.lt h0 _) ?_;by_cases c:rk (p.getD m 0)<rk (p.getD (m-1) 0)
  .rw[kJ c];dsimp only;rw[if_pos rfl]
   have c':R rk p m<R rk p (m-1):=c;by_cases z:q>0
   .rw[zQ z]
    have rv:∀i,R rk (Ĺ p (m-(q+1)) m) i=R rk p i:=λi=>by
     rw[iz p (by rw[P.sz];omega)];split
     .rename_i y
      rw[eq _ ∅ ∅,eq i y.1 y.2]
     .rfl
    have u':Dn rk (Ĺ p (m-(q+1)) m) (m+1):=by
     have:Dn rk (Ĺ p (m-(q+1)) m) m:=λi j a b=>by rw[rv,rv];exact u i j a b
     exact this.succ ∅ (by rw[rv,rv];omega)
    refine iN hc h0 f _ (m+1) 0 (P.rev _ _) ∅ u' (λi a b=>?_) ∅ λp' m' q' a1 a2 a3 a4 a5 a6=>k p' m' q' a1 a2 ∅ ∅ a5 a6
    have:i=m+1-1:=by omega
    rw[this]
   .rw[zX z]
    refine iN hc h0 f _ (m+1) 0 P ∅ (u.succ ∅ ∅) (λi a b=>?_) ∅ λp' m' q' a1 a2 a3 a4 a5 a6=>k p' m' q' a1 a2 ∅ ∅ a5 a6
    have:i=m+1-1:=by omega
    rw[this]
  .rw[ji c];dsimp only;rw[if_neg (by simp)]
   have c':R rk p (m-1)<=R rk p m:=j5 c;refine hc _ _ _ (P.lt h0 _) (P.lt h0 _) ?_;by_cases d:rk (p.getD (m-1) 0)<rk (p.getD m 0)
   .rw[kJ d];dsimp only;rw[if_pos rfl]
    exact k p m q P hq (zy _) ∅ u eq
   .rw[ji d];dsimp only;rw[if_neg (by simp)]
    have d':R rk p m<=R rk p (m-1):=j5 d;refine iN hc h0 f p (m+1) (q+1) P ∅ (u.succ ∅ d') (λi a b=>?_) ∅ λp' m' q' a1 a2 a3 a4 a5 a6=>k p' m' q' a1 a2 ∅ ∅ a5 a6
    rw[show m+1-1=m from by omega];rcases jK (wY b) with z | z
    .rw[eq i ∅ z];omega
    .rw[z]
def ZS(hc:Answers n rk cmp s)(h0:0<n)(P:Pm n p)(hm:0<m)(hn:m<=n)(u:Dn rk p m)(k:∀m' p',Pm n p'->m<=m'->m'<=n->Up rk p' m'->G (m',p') s):(kas_tail3 m n p).kasWp cmp G s:=by
 unfold kas_tail3;rw[ye];have u':Up rk (Ĺ p 0 m) m:=λi j a b=>by
  rw[iz p (by rw[P.sz];exact hn),iz p (by rw[P.sz];exact hn),zQ ⟨by omega,by omega⟩,zQ ⟨by omega,b⟩];exact u _ _ ∅ ∅
 exact rN hc h0 (P.rev _ _) (n-m) m hm u' ∅ λm' a b c _=>k m' _ (P.rev _ _) a ∅ c
def lc(hc:Answers n rk cmp s)(h0:0<n)(P:Pm n p)(hm:0<m)(hn:m+1<=n)(u:Dn rk p (m+1))(k:∀m' p',Pm n p'->0<m'->m'<=n->Up rk p' m'->G (m',p') s):(kas_descPart m n p).kasWp cmp G s:=by
 unfold kas_descPart;rw[ye];refine iN hc h0 _ p (m+1) 0 P ∅ u (λi a b=>by rw[show i=m+1-1 from by omega]) ∅ λp' m' q' a1 a2 a3 a4 a5 a6=>?_
 dsimp only;by_cases z:q'>0
 .rw[zQ z]
  have rv:∀i,R rk (Ĺ p' (m'-(q'+1)) m') i=R rk p' i:=λi=>by
   rw[iz p' (by rw[a1.sz];omega)];split
   .rename_i y
    rw[a6 _ ∅ ∅,a6 i y.1 y.2]
   .rfl
  exact ZS hc h0 (a1.rev _ _) ∅ ∅ (λi j a b=>by rw[rv,rv];exact a5 i j a b) λm2 p2 b1 b2 b3 b4=>k m2 p2 b1 ∅ b3 b4
 .rw[zX z]
  exact ZS hc h0 a1 ∅ ∅ a5 λm2 p2 b1 b2 b3 b4=>k m2 p2 b1 ∅ b3 b4
def WR(hc:Answers n rk cmp s)(h0:0<n)(P:Pm n p)(k:∀m' p',Pm n p'->0<m'->m'<=n->Up rk p' m'->G (m',p') s):(kas_count n p).kasWp cmp G s:=by
 unfold kas_count;rw[ye];refine rN hc h0 P (n-1) 1 ∅ (λi j a b=>by rw[show i=j from by omega];exact zy _) ∅ λm a b u e=>?_
 by_cases z:m=n
 .rw[zQ (by simp[z])]
  exact k m p P ∅ ∅ u
 .rw[zX (by simp[z])]
  have lt:R rk p m<R rk p (m-1):=by
   rcases e with e | e
   .omega
   .exact e
  by_cases y:m>1
  .rw[zQ y]
   refine hc _ _ _ (P.lt h0 _) (P.lt h0 _) ?_;by_cases c:rk (p.getD 0 0)<rk (p.getD (m-1) 0)
   .rw[kJ c];dsimp only;rw[if_pos rfl]
    exact k m p P ∅ ∅ u
   .rw[ji c];dsimp only;rw[if_neg (by simp)]
    have c':R rk p (m-1)<=R rk p 0:=j5 c;have all:∀i,i<m->R rk p i=R rk p 0:=λi hi=>by
     have a1:=u 0 i ∅ hi;have a2:=u i (m-1) ∅ ∅;omega
    have rv:∀i,i<m->R rk (Ĺ p 0 m) i=R rk p 0:=λi hi=>by
     rw[iz p (by rw[P.sz];omega),zQ ⟨by omega,hi⟩];exact all _ ∅
    have d:Dn rk (Ĺ p 0 m) m:=λi j a1 b1=>by rw[rv i ∅,rv j b1];exact zy _
    refine lc hc h0 (P.rev 0 m) ∅ ∅ (d.succ ∅ ?_) k;rw[rv (m-1) ∅,iz p (by rw[P.sz];omega),zX ∅];have:=all (m-1) ∅;omega
  .rw[zX y]
   have:m=1:=by omega
   subst this;refine lc hc h0 P ∅ ∅ (Dn.succ (λi j a1 b1=>by rw[show i=j from by omega];exact zy _) ∅ ∅) k
theorem lu(hc:Answers n rk cmp s)(h0:0<n)(P:Pm n p)(u:Up rk p k):∀(f l r:Nat),l<=r->r<=k->r-l<=f->(∀i,i<l->R rk p i<=R rk p k)->(∀i,r<=i->i<k->R rk p k<R rk p i)->
  (∀l',l'<=k->(∀i,i<l'->R rk p i<=R rk p k)->(∀i,l'<=i->i<k->R rk p k<R rk p i)->G l' s)->(kas_place p k f l r).kasWp cmp G s
 | 0,l,r,a,b,c,d,e,g=>g l ∅ d (by rw[show l=r from by omega];exact e)
 | f+1,l,r,a,b,c,d,e,g=>by
  unfold kas_place;by_cases z:l>=r
  .rw[zQ z]
   exact g l ∅ d (by rw[show l=r from by omega];exact e)
  .rw[zX z]
   refine hc _ _ _ (P.lt h0 _) (P.lt h0 _) ?_;by_cases y:rk (p.getD k 0)<rk (p.getD ((l+r)/2) 0)
   .rw[kJ y];dsimp only;rw[if_pos rfl]
    refine lu hc h0 P u f l _ ∅ ∅ ∅ d (λi a1 b1=>?_) g;exact zN y (u _ i a1 b1)
   .rw[ji y];dsimp only;rw[if_neg (by simp)]
    refine lu hc h0 P u f _ r ∅ b ∅ (λi a1=>?_) e g;exact zp (u i ((l+r)/2) ∅ ∅) (j5 y)
theorem Vm(hc:Answers n rk cmp s)(h0:0<n):∀(f:Nat) (p:Array Nat) (k:Nat),Pm n p->Up rk p k->k+f=n->(∀p',Pm n p'->Up rk p' n->G p' s)->(kas_bin f p k).kasWp cmp G s
 | 0,p,k,P,u,e,g=>g p P (by rw[<-e];exact u)
 | f+1,p,k,P,u,e,g=>by
  unfold kas_bin;rw[ye];refine lu hc h0 P u k 0 k ∅ (zy _) ∅ (λi a=>by omega) (λi a b=>by omega) λl hl a b=>?_
  refine Vm hc h0 f _ (k+1) (P.bub _ _) (λi j i1 j1=>?_) ∅ g;have hk:k<p.size:=by rw[P.sz];omega
  rw[YM p hk hl i,YM p hk hl j];by_cases x1:i=l
  .rw[zQ x1]
   by_cases y1:j=l
   .rw[zQ y1];exact zy _
   .rw[zX y1,zQ ⟨by omega,by omega⟩]
    exact qQ (b _ ∅ ∅)
  .rw[zX x1]
   by_cases x2:l<i/\i<=k
   .rw[zQ x2,zX ∅,zQ ⟨by omega,by omega⟩]
    exact u _ _ ∅ ∅
   .rw[zX x2]
    by_cases y1:j=l
    .rw[zQ y1];exact a i ∅
    .rw[zX y1]
     by_cases y2:l<j/\j<=k
     .rw[zQ y2];exact u _ _ ∅ ∅
     .rw[zX y2];exact u _ _ i1 ∅
def Ug(hc:Answers n rk cmp s)(h0:0<n)(g:∀p,p.size=n->p.toList.Perm (ä n)->(∀i j,i<=j->j<n->rk (p.getD i 0)<=rk (p.getD j 0))->G p s):(kas_sort n).kasWp cmp G s:=by
 unfold kas_sort;rw[ye];refine WR hc h0 ⟨by simp,by simp⟩ λm p P a b u=>?_
 dsimp only;by_cases z:m<n
 .rw[zQ z,show max m 1=m from by omega]
  exact Vm hc h0 _ p m P u ∅ λp' P' u'=>g p' P'.sz P'.pm u'
 .rw[zX z]
  have:m=n:=by omega
  subst this;exact g p P.sz P.pm u
end
def eG(x y:Ç):Bool:=decide (x.cps.toList<y.cps.toList)
def Qn(x:Ç):eG x x=Ä:=ji (List.lt_irrefl _)
def Wx(a:eG x y=Â)(b:eG y z=Â):eG x z=Â:=kJ (List.lt_trans (jU a) (jU b))
def Vt(h:x≠y):eG x y=Â\/eG y x=Â:=by
 have AB:x.cps.toList≠y.cps.toList:=λe=>h (by cases x;cases y;simp at e;rw[e])
 by_cases a:x.cps.toList<y.cps.toList
 .exact .inl (kJ a)
 .have b:y.cps.toList<=x.cps.toList:=List.not_lt.mp a
  refine .inr (kJ ?_);by_cases c:y.cps.toList<x.cps.toList
  .exact c
  .exact absurd (List.le_antisymm (List.not_lt.mp c) b) AB
def vb:List Ç->List Ç->Bool
 | [],[]=>Ä
 | [],_::_=>Â
 | _::_,[]=>Ä
 | x::a,y::b=>if x=y then vb a b else eG x y
theorem aw:∀a,vb a a=Ä
 | []=>rfl
 | x::a=>by unfold vb;rw[zQ rfl];exact aw a
theorem iU:∀{a b c:List Ç},vb a b=Â->vb b c=Â->vb a c=Â
 | [],[],_,h,_=>by cases h
 | [],_::_,[],_,h=>by cases h
 | [],_::_,_::_,_,_=>rfl
 | _::_,[],_,h,_=>by cases h
 | _::_,_::_,[],_,h=>by cases h
 | x::a,y::b,z::c,h1,h2=>by
  unfold vb at h1 h2 ⊢;by_cases e:x=y
  .subst e
   rw[zQ rfl] at h1;by_cases f:x=z
   .rw[zQ f] at h2 ⊢
    exact iU h1 h2
   .rw[zX f] at h2 ⊢
    exact h2
  .rw[zX e] at h1
   by_cases f:y=z
   .subst f
    rw[zX e];exact h1
   .rw[zX f] at h2
    have t:=Wx h1 h2;by_cases g:x=z
    .subst g;rw[Qn] at t;cases t
    .rw[zX g];exact t
theorem fZ:∀{a b:List Ç},a≠b->vb a b=Â\/vb b a=Â
 | [],[],h=>absurd rfl h
 | [],_::_,_=>.inl rfl
 | _::_,[],_=>.inr rfl
 | x::a,y::b,h=>by
  unfold vb;by_cases e:x=y
  .subst e
   rw[zQ rfl,zQ rfl];exact fZ λz=>h (by rw[z])
  .rw[zX e,zX λz=>e z.symm]
   exact Vt e
def J4{α:Type}{p q:α->Bool}(h:∀x,p x=Â->q x=Â){y:α}(hq:q y=Â)(hp:p y=Ä):∀l:List α,y∈l->(l.filter p).length<(l.filter q).length:=by
 have le:∀l:List α,(l.filter p).length<=(l.filter q).length:=by
  intro l;induction l with
  | nil=>exact zy _
  | cons x l ih=>
   rw[j6,j6];cases e:p x with
   | true=>rw[h x e];simp;exact ih
   | false=>cases q x<;>simp<;>omega
 intro l;induction l with
 | nil=>intro m;cases m
 | cons x l ih=>
  intro m;rw[j6,j6];rcases zg.mp m with rfl | m
  .rw[hq,hp];simp;have:=le l;omega
  .have:=ih m
   cases e:p x with
   | true=>rw[h x e];simp;exact this
   | false=>cases q x<;>simp<;>omega
def cy(ks:List (List Ç))(k:List Ç):Nat:=(ks.filter λx=>vb x k).length
def ZN(ha:a∈ks)(h:vb a b=Â):cy ks a<cy ks b:=J4 (p:=λx=>vb x a) (q:=λx=>vb x b) (y:=a) (λx hx=>iU hx h) h (aw a) ks ha
def sW(ha:a∈ks)(hb:b∈ks):decide (cy ks a<cy ks b)=vb a b:=by
 cases e:vb a b with
 | true=>exact kJ (ZN ha e)
 | false=>
  refine ji λh=>?_
  by_cases z:a=b
  .subst z;omega
  .rcases fZ z with q | q
   .rw[e] at q;cases q
   .have:=ZN hb q;omega
def cq(k:List Ç):List (List Ç)->List (List Ç)
 | []=>[k]
 | x::l=>if k=x then x::l else if vb k x then k::x::l else x::cq k l
def kA(l:List (List Ç)):List (List Ç):=l.foldr cq []
def cv(l:List (List Ç)):Prop:=l.Pairwise λa b=>vb a b=Â
theorem insK_mem:∀{l:List (List Ç)},x∈cq k l↔x=k\/x∈l
 | []=>by simp[cq]
 | y::l=>by
  unfold cq;by_cases e:k=y
  .subst e;simp
  .rw[zX e]
   split
   .simp
   .rw[zg,insK_mem (l:=l),zg]
    constructor
    .rintro(h | h | h)
     .exact .inr (.inl h)
     .exact .inl h
     .exact .inr (.inr h)
    .rintro(h | h | h)
     .exact .inr (.inl h)
     .exact .inl h
     .exact .inr (.inr h)
theorem Z2:∀{l:List (List Ç)},cv l->cv (cq k l)
 | [],_=>uD _ _
 | y::l,u=>by
  obtain⟨u1,u2⟩:=qi.mp u;unfold cq;by_cases e:k=y
  .rw[zQ e];exact u
  .rw[zX e]
   split
   .rename_i h
    refine qi.mpr ⟨λz hz=>?_,u⟩;rcases zg.mp hz with rfl | hz
    .exact h
    .exact iU h (u1 z hz)
   .rename_i h
    refine qi.mpr ⟨λz hz=>?_,Z2 u2⟩;rcases insK_mem.mp hz with rfl | hz
    .rcases fZ e with q | q
     .exact absurd q h
     .exact q
    .exact u1 z hz
theorem vc:∀l,cv (kA l)
 | []=>Ě
 | _::l=>Z2 (vc l)
theorem ssort_mem:∀{l},x∈kA l↔x∈l
 | []=>Iff.rfl
 | y::l=>by
  show x∈cq y (kA l)↔_
  rw[insK_mem,ssort_mem (l:=l),zg]
theorem wb:∀{a b:List (List Ç)},cv a->cv b->(∀x,x∈a↔x∈b)->a=b
 | [],[],_,_,_=>rfl
 | [],y::b,_,_,h=>by have:=(h y).mpr (zF ..);cases this
 | x::a,[],_,_,h=>by have:=(h x).mp (zF ..);cases this
 | x::a,y::b,ua,ub,h=>by
  obtain⟨a1,a2⟩:=qi.mp ua;obtain⟨b1,b2⟩:=qi.mp ub;have e:x=y:=by
   rcases zg.mp ((h x).mp (zF ..)) with e | m1
   .exact e
   .rcases zg.mp ((h y).mpr (zF ..)) with e | m2
    .exact e.symm
    .have:=iU (b1 x m1) (a1 y m2)
     rw[aw] at this;cases this
  subst e;congr 1
  refine wb a2 b2 λz=>⟨λm=>?_,λm=>?_⟩
  .rcases zg.mp ((h z).mp (zq _ m)) with e | m'
   .subst e;have:=a1 z m;rw[aw] at this;cases this
   .exact m'
  .rcases zg.mp ((h z).mpr (zq _ m)) with e | m'
   .subst e;have:=b1 z m;rw[aw] at this;cases this
   .exact m'
section
variable{prog:Ï}{w:Ô}{A:Ù}{E:Ã->Å->Prop}{s:Å}
abbrev SK(prog:Ï)(w:Ô):PySem.KeyKind prog w Ç:=PySem.strKind prog w
def c9(fin:Bool):List Ç->List Ç->Bool
 | x::a,y::b=>if x=y then c9 fin a b else eG x y
 | _,_=>fin
theorem tQ:∀a b:List Ç,c9 (decide (a.length<b.length)) a b=vb a b
 | [],[]=>rfl
 | [],_::_=>by simp[c9,vb]
 | _::_,[]=>by simp[c9,vb]
 | x::a,y::b=>by
  unfold c9 vb;have:decide ((x::a).length<(y::b).length)=decide (a.length<b.length):=by simp
  rw[this,tQ a b]
theorem oD:∀{ka kb:List Ç} {xs ys:List Ã} {i:Nat},ItemsAre (SK prog w) ka xs->ItemsAre (SK prog w) kb ys->Q (c9 fin ka kb) s->KatLex prog w A Â fin Q (xs.zip ys) i s
 | [],kb,xs,ys,i,ha,hb,q=>by cases ha;exact kat_nil (by unfold c9 at q;exact q)
 | x::ka,[],xs,ys,i,ha,hb,q=>by cases hb;rw[List.zip_nil_right];exact kat_nil (by unfold c9 at q;exact q)
 | x::ka,y::kb,xs,ys,i,ha,hb,q=>by
  cases ha with
  | @cons _ u _ xs h1 ha=>
   cases hb with
   | @cons _ v _ ys h2 hb=>
    rw[yS];refine kat_cons ((SK prog w).eqBool (a:=x) (b:=y) h1 h2 ?_);unfold c9 at q;by_cases e:x=y
    .rw[zQ e] at q
     rw[kJ e];exact kat_yes (oD ha hb q)
    .rw[zX e] at q
     rw[ji e];refine kat_no ?_;obtain⟨t,rfl⟩:=wU h1;obtain⟨t',rfl⟩:=wU h2;by_cases z:i=0
     .subst z
      exact oneLt_str q
     .have:(Â&&i==0)=Ä:=by simp[z]
      rw[this];exact kat_one _ _ (PyProof.Rows.lt_str q)
def BC(ha:Ñ (SK prog w) s.heap ka x)(hb:Ñ (SK prog w) s.heap kb y)(q:Q (vb ka kb) s):É (Í prog w) A (keyLt' (tuples' Â) (.ref x) (.ref y)) Q E s:=by
 obtain⟨ox,xs,nx,e1,_,e2,i1⟩:=ha;obtain⟨oy,ys,ny,f1,_,f2,i2⟩:=hb;refine kat_lt e1 e2 f1 f2 (oD i1 i2 ?_);have l1:=i1.length;have l2:=i2.length;have:decide (xs.size<ys.size)=decide (ka.length<kb.length):=by rw[l1,l2];simp
 rw[this,tQ];exact q
def range_getD{α:Type}(l:List α)(d:α):(ä l.length).map (λi=>l.getD i d)=l:=by
 apply yp
 .simp
 .intro i h1 h2
  simp[ġ,h2]
theorem kat_tups:∀{L:List (List Ç×È)},(∀p∈L,Ñ (SK prog w) h p.1 p.2/\p.1≠[])->∃fs,KatTups h (L.map λp=>Ê p.2) fs/\fs.length=L.length/\∀v∈fs,∃x t,v=Ĵ x t
 | [],_=>⟨[],KatTups.nil,rfl,λv hv=>by cases hv⟩
 | p::L,hL=>by
  obtain⟨fs,a,b,c⟩:=kat_tups (L:=L) λq hq=>hL q (zq _ hq)
  obtain⟨⟨o,xs,n,e1,e2,e3,i1⟩,ne⟩:=hL p (zF ..);cases hk:p.1 with
  | nil=>exact absurd hk ne
  | cons k ks=>
   rw[hk] at i1;cases hx:xs.toList with
   | nil=>rw[hx] at i1;cases i1
   | cons v vs=>
    rw[hx] at i1;cases i1 with
    | cons h1 _=>
     obtain⟨t,rfl⟩:=wU h1;refine⟨Ĵ k t::fs,KatTups.cons e1 e2 e3 ?_ a,by simp[b],λu hu=>?_⟩
     .have:xs.toList[0]?=À (Ĵ k t):=by rw[hx];rfl
      simpa using this
     .rcases zg.mp hu with rfl | hu
      .exact⟨_,_,rfl⟩
      .exact c u hu
def gX{L:List (List Ç×È)}(AF:s.heap.get? a=À (ā "list" (L.map λp=>Ê p.2).toArray n))(hL:∀p∈L,Ñ (SK prog w) s.heap p.1 p.2/\p.1≠[])(SV:L.length<64)
  (k:∀(L':List (List Ç×È)) (h':Õ) (n':Nat),L'.Perm L->(L'.map (·.1)).Pairwise (λx y=>vb y x=Ä)->h'.get? a=À (ā "list" (L'.map λp=>Ê p.2).toArray n')->(∀b o,b≠a->s.heap.get? b=À o->h'.get? b=À o)->P (.done (.ret .none)) { s with heap:=h' }) :
  É (Í prog w) A (é.«list.sort» ⟨[.ref a],[]⟩) P E s:=by
 have Ec:(L.map λp=>Ê p.2).length=L.length:=by simp
 have alt:a<s.heap.objs.size:=zJ AF;rw[list_sort_plain];refine za (listItems_at AF rfl (za (listUpdate_at AF rfl ?_)));obtain⟨ep,obj1⟩:∃ep,(s.heap.update a (Þ λ_=>#[])).get? a=À (ā "list" #[] ep):=⟨_,get?_update_seq AF (λ_=>#[])⟩;refine za (seqEpoch_at obj1 rfl (za (u0 (za (ud (jm ?_))))));let h3:Õ:=((s.heap.update a (Þ λ_=>#[])).push (ā "tuple" (L.map λp=>Ê p.2).toArray 0)).push (ā "list" #[] 0)
 show É (Í prog w) A _ P E { s with heap:=h3 }
 have other:∀b o,b≠a->s.heap.get? b=À o->h3.get? b=À o:=λb o ne e=>by
  refine zc _ (zc _ ?_);rw[xZ _ _ _ _ ne];exact e
 have EJ:h3.get? a=À (ā "list" #[] ep):=zc _ (zc _ obj1);have tups:∀p∈L,Ñ (SK prog w) h3 p.1 p.2/\p.1≠[]:=λp hp=>by
  obtain⟨⟨o,cb,m,e1,e2,e3,e4⟩,ne⟩:=hL p hp;refine⟨⟨o,cb,m,other _ _ (λz=>?_) e1,e2,e3,e4⟩,ne⟩;rw[z,AF] at e1;cases e1;exact absurd (Value.type.inj (show Č "list" = Č "tuple" from e2)) (by decide)
 have last:∀L':List (List Ç×È),L'.Perm L->(L'.map (·.1)).Pairwise (λx y=>vb y x=Ä)->∀h',h'=h3.update a (Þ λ_=>(L'.map λp=>Ê p.2).toArray)->P (.done (.ret .none)) { s with heap:=h' }:=λL' pe up h' e=>by
  obtain⟨n',on⟩:∃n',(h3.update a (Þ λ_=>(L'.map λp=>Ê p.2).toArray)).get? a=À (ā "list" (L'.map λp=>Ê p.2).toArray n'):=⟨_,get?_update_seq EJ _⟩;subst e;exact k L' _ n' pe up on λb o ne q=>by rw[xZ _ _ _ _ ne];exact other b o ne q
 dsimp only;by_cases few:(L.map λp=>Ê p.2).toArray.size<2
 .rw[zQ few,zQ few]
  refine za (zf ?_);rw[StateT.run_pure];refine za (zf ?_);dsimp only;have Bz:(L.map (·.1)).Pairwise (λx y=>vb y x=Ä):=by
   match L,few with
   | [],_=>exact Ě
   | [x],_=>exact uD _ _
   | _::_::_,few=>simp at few;omega
  refine za (seqEpoch_at EJ rfl ?_);refine za (listUpdate_at EJ rfl ?_ (hsz2:=?_))
  .erw[bne_self_eq_false,zO,ju]
   refine zf (last L (qL _) Bz _ ?_);show h3.update a (Þ λ_=>Array.map (·.2) (Array.zip _ _))=_
   congr 2
   funext _
   apply Array.toList_inj.mp
   simp[List.map_snd_zip]
  .refine zp (m:=L.length) ?_ (by rw[jA];omega)
   show(Array.map (λx=>x.2) ((L.map λp=>Ê p.2).toArray.zip (L.map λp=>Ê p.2).toArray)).size<=L.length
   simp
 .rw[zX few,zX few]
  have two:2<=L.length:=by simp at few;omega
  obtain⟨fs,kt,kl,kv⟩:=kat_tups tups;refine za (kat_kind (s:={ s with heap:=h3 }) (T:=.type "str") kt ∅ (λv hv=>?_) (by decide) ?_)
  .obtain⟨x,t,rfl⟩:=kv v hv
   exact Looks.of_pure rfl
  .have gv:∀i,i<L.length->(L.map λp=>Ê p.2).getD i Ö=.ref (L.getD i ([],0)).2:=λi hi=>by simp[ġ,hi]
   have mem:∀i,i<L.length->L.getD i ([],0)∈L:=λi hi=>by simp[ġ,hi]
   have kin:∀i,i<L.length->(L.getD i ([],0)).1∈L.map (·.1):=λi hi=>zK.mpr ⟨_,mem i hi,rfl⟩
   refine za (qe (kat_run (s:={ s with heap:=h3 }) (ks:=L.map λp=>Ê p.2) (vs:=L.map λp=>Ê p.2) (κ:=tuples' Â) (G:=λp s'=>s'={ s with heap:=h3 }/\p.toList.Perm (ä L.length)/\∀i j,i<=j->j<L.length->cy (L.map (·.1)) (L.getD (p.getD i 0) ([],0)).1<=cy (L.map (·.1)) (L.getD (p.getD j 0) ([],0)).1)
    (Q:=λAD s'=>s'={ s with heap:=h3 }/\∃p:Array Nat,p.size=L.length/\arrOf AD=p.map (kas_item ((L.map λp=>Ê p.2).toArray.zip (L.map λp=>Ê p.2).toArray))/\failedOf AD=Á/\p.toList.Perm (ä L.length)/\∀i j,i<=j->j<L.length->cy (L.map (·.1)) (L.getD (p.getD i 0) ([],0)).1<=cy (L.map (·.1)) (L.getD (p.getD j 0) ([],0)).1)
    rfl ∅ ∅ (λp AD s' a1 a2 a3 a4=>⟨a4.1,p,a1.trans Ec,a2,a3,a4.2.1,a4.2.2⟩) ?_) ?_ λ_ _ e=>e)
   .rw[Ec]
    refine Ug (n:=L.length) (rk:=λi=>cy (L.map (·.1)) (L.getD i ([],0)).1) (λi j C hi hj hC=>?_) ∅ λp a1 a2 a3=>⟨rfl,a2,a3⟩
    unfold kas_ask;rw[gv i hi,gv j hj];refine BC (tups _ (mem i hi)).1 (tups _ (mem j hj)).1 ?_;rw[<-sW (kin i hi) (kin j hj)];exact hC
   .rintro⟨⟨⟩,AD⟩ s' ⟨rfl,p,NX,har,hf,pp,up⟩
    dsimp only;have out:=kat_snds (ks:=L.map λp=>Ê p.2) (vs:=L.map λp=>Ê p.2) rfl har;have MN:∀i∈p.toList,i<L.length:=λi hi=>jX.mp (pp.mem_iff.mp hi)
    have MP:(arrOf AD).map (·.2)=((p.toList.map λi=>L.getD i ([],0)).map λq=>Ê q.2).toArray:=by
     rw[out,kZ];congr 1
     exact qy λi hi=>gv i (MN i hi)
    have pe:(p.toList.map λi=>L.getD i ([],0)).Perm L:=by
     have:=pp.map λi=>L.getD i ([],0)
     rw[range_getD] at this;exact this
    have Bz:((p.toList.map λi=>L.getD i ([],0)).map (·.1)).Pairwise (λx y=>vb y x=Ä):=by
     rw[vp];intro i j hi hj SX;erw[zG,zU] at hi hj;have e1:∀m,(hm:m<p.size)->((p.toList.map λi=>L.getD i ([],0)).map (·.1))[m]'(by simpa using hm)=(L.getD (p.getD m 0) ([],0)).1:=λm hm=>by simp[Ā,hm]
     rw[e1 i hi,e1 j hj];have le:=up i j ∅ ∅;have mi:p.getD i 0<L.length:=by erw[Ā,hi,dite_true];exact MN _ (by simp)
     have mj:p.getD j 0<L.length:=by erw[Ā,hj,dite_true];exact MN _ (by simp)
     rw[<-sW (kin _ mj) (kin _ mi)];exact ji ∅
    rw[MP];refine za (seqEpoch_at EJ rfl ?_);refine za (listUpdate_at EJ rfl ?_ (hsz2:=?_))
    .rw[hf]
     erw[bne_self_eq_false,zO,ju];exact zf (last _ pe Bz _ rfl)
    .rw[jA]
     simp;omega
end
theorem gf{α:Type}:∀(l:List α) (i:Nat) (x:α),l[i]?=À x->l.Perm (x::l.eraseIdx i)
 | [],i,x,h=>by simp at h
 | y::l,0,x,h=>by simp at h;subst h;exact qL _
 | y::l,i+1,x,h=>by
  have:=gf l i x (by simpa using h);rw[uG];exact(Ğ _ this).trans (ų _ _ _)
theorem ZH{α:Type}(next:Nat->Nat):∀(lx k:Nat) (left:List α) (out:Array α),left.length<=lx->(pickOrder.go next lx k left out).toList.Perm (out.toList++left)
 | 0,k,left,out,h=>by
  have:left=[]:=vO.mp ∅;subst this;simp[pickOrder.go]
 | lx+1,k,left,out,h=>by
  unfold pickOrder.go;cases left with
  | nil=>simp
  | cons y l=>
   have Af:next k%(y::l).length<(y::l).length:=ww _ (by simp);obtain⟨x,hx⟩:∃x,(y::l)[next k%(y::l).length]?=À x:=⟨_,zM Af⟩;rw[hx];dsimp only
   have ih:=ZH next lx (k+1) ((y::l).eraseIdx (next k%(y::l).length)) (out.push x) (by
    rw[Ŏ Af];omega)
   refine ih.trans ?_;rw[Array.toList_push,wZ];exact List.Perm.append_left _ (gf _ _ _ hx).symm
def gU{α:Type}(next:Nat->Nat)(xs:Array α):(Ś next xs).toList.Perm xs.toList:=by
 unfold Ś;have:=ZH next xs.size 0 xs.toList #[] (by simp);simpa using this
section
variable{prog:Ï}{w:Ô}{A:Ù}{E:Ã->Å->Prop}{s:Å}
def Cf(hn:n≠0)(h:∀i d,i<n->Q i { s with drawn:=d }):É (Í prog w) A (choose .order n) Q E s:=by
 intro Γ p _;unfold choose;rw[Sem.wp_choose];refine⟨hn,?_⟩;rw[Sem.wp_pure];exact h _ _ (ww _ (pD hn))
theorem nS{α:Type}:∀(n:Nat) (xs:List α) (s:Å) {Q:List α->Å->Prop},n=xs.length->(∀ys d,ys.Perm xs->Q ys { s with drawn:=d })->É (Í prog w) A (drawOrder n xs) Q E s
 | 0,xs,s,Q,e,h=>by
  have:xs=[]:=vO.mp e.symm;subst this;unfold drawOrder;have:=h [] s.drawn (qL _);exact zf this
 | n+1,[],s,Q,e,h=>by cases e
 | n+1,x::xs,s,Q,e,h=>by
  unfold drawOrder;refine za (Cf (by simp) λi d hi=>?_);obtain⟨y,hy⟩:∃y,(x::xs)[i]?=À y:=⟨_,zM hi⟩;rw[hy];dsimp only;refine ö (nS n ((x::xs).eraseIdx i) _ (by rw[Ŏ hi];simp at e ⊢;omega) λys d' pe=>zf ?_);exact h (y::ys) d' ((Ğ _ pe).trans (gf _ _ _ hy).symm)
def slotN:Slot "set_iterator" "__next__" "set_iterator.__next__":=.of (owner:="set_iterator") (n:="__next__") (by rw[wR,vm];kernel_rfl) ⋯ ⋯ ⋯ (.inl ⋯) (by rw[vM];kernel_rfl)
def entryN:Ų table "set_iterator.__next__" = À é.«set_iterator.__next__»:=entryFor_of_tree SJ
def YH(a:Ã):argsOk "set_iterator.__next__" ⟨[a],[]⟩:=by unfold argsOk;kernel_rfl
def entryI:Ų table "set.__iter__" = À é.«frozenset.__iter__»:=xN (id':="frozenset.__iter__") SJ rfl ⋯ SJ
def IsSI(h:Õ)(I:È)(first:Ã)(i:Nat)(a:È)(n ep:Nat):Prop:=h.get? I=À { cls:=.type "set_iterator",dict:=Á,data:=.fields #[first,.int i 0,.ref a,.int n 0,.int ep 0],slots:=#[] }
def IsSI.typeIs(h:IsSI s.heap I first i a n ep):s.TypeIs (.ref I) "set_iterator":=⟨_,h,rfl⟩
def slotAt(t:Ó)(i:Nat):Nat:=if i=0 then 0 else t.place.getD (i-1) 0+1
def Kj{t:Ó}(T:TOk t)(hi:i<=t.place.size):ð t.place (slotAt t i)=i:=by
 by_cases z:i=0
 .subst z
  show ð t.place 0=0
  obtain⟨a,b,c⟩:=x3 (xs:=t.place) (j:=0) T.up;by_cases y:ð t.place 0=0
  .exact y
  .have:=b 0 ∅ ∅
   omega
 .have Af:i-1<t.place.size:=by omega
  have e:slotAt t i=t.place[i-1]+1:=by unfold slotAt;rw[zX z];simp[Ā,Af]
  rw[e];obtain⟨a,b,c⟩:=x3 (xs:=t.place) (j:=t.place[i-1]+1) T.up;have mono:=vp.mp T.up;rcases xr (ð t.place (t.place[i-1]+1)) i with q | q | q
  .have:=c (i-1) Af ∅
   omega
  .exact q
  .have h1:i<t.place.size:=by omega
   have:=b i h1 q;have m:=mono (i-1) i (by simpa using Af) (by simpa using h1) ∅;erw[uZ] at m;omega
def Md(w:Ô)(h:Õ)(a:È)(es:Array (Int×Ã))(t:Ó)(ep:Nat)(vs:List Ã)(first:Ã)(i:Nat):Prop:=
 (w.params.followText "set-order" = Â/\first=.int 0 0/\vs=(Ś (w.params.setOrder a ep) es).toList.map (·.2)) \/
 (w.params.followText "set-order" = Ä/\(!t.plain&&decide (es.size>1))=Â/\∃(T:È) (places:List Nat) (oT:ó) (m:Nat),first=.ref T/\h.get? T=À oT/\oT.data=.seq (places.map λj=>ħ (j:Nat) 0).toArray m/\vs=places.map (λj=>(es.toList.getD j (0,.none)).2)/\∀j∈places,j<es.size) \/
 (w.params.followText "set-order" = Ä/\(!t.plain&&decide (es.size>1))=Ä/\t.led=Â/\first=.int (slotAt t i:Nat) 0/\vs=es.toList.map (·.2))
def yi(h:Q (w.params.followText "set-order") s):É (Í prog w) A setsByText Q E s:=by
 unfold setsByText;exact za (yJ (zf h))
def oB{oi:ó}{fs:Array Ã}(e1:s.heap.get? I=À oi)(e3:oi.data=.fields fs)(h:Q fs s):É (Í prog w) A (fieldsOf (.ref I)) Q E s:=by
 unfold fieldsOf;refine za (xj e1 ?_);rw[e3];exact zf h
def bo{α:Type}{c:Bool}{X Y:Sem α}{Q:α->Å->Prop}(hc:c=Ä)(h:É (Í prog w) A Y Q E s):É (Í prog w) A (if c=Â then X else Y) Q E s:=by
 rw[hc,zX (by simp)];exact h
def nW{o:ó}{es:Array (Int×Ã)}{R:List (Nat×(Int×Ã))}(ho:s.heap.get? a=À o)(hd:o.data=.set es ep t)(S:SOk t es.toList R)(m1:w.params.followText "set-order" = Â)
  (q:Q (((Ś (w.params.setOrder a ep) es)[i]?).map λe=>(e.2,slot)) s):É (Í prog w) A (setNext a slot i ep) Q E s:=by
 unfold setNext;refine za (jh ho hd S.fits ?_);dsimp only;refine ö (yi ?_);rw[m1,if_pos rfl,if_neg (by simp)];refine za ?_;unfold setWalk;refine za (jh ho hd S.fits ?_);dsimp only;refine ö (yi ?_);rw[m1,if_pos rfl];exact za (yJ (zf (zf q)))
def oJ{o:ó}{es:Array (Int×Ã)}{t:Ó}{R:List (Nat×(Int×Ã))}(ho:s.heap.get? a=À o)(hd:o.data=.set es ep t)(S:SOk t es.toList R)(m1:w.params.followText "set-order" = Ä)
  (m2:(!t.plain&&decide (es.size>1))=Ä) (m4:t.led=Â) (hi:i<=es.size) (q:Q (es[i]?.map λe=>(e.2,slotAt t (i+1))) s):É (Í prog w) A (setNext a (slotAt t i) i ep) Q E s:=by
 have AJ:t.place.size=es.size:=by
  have a1:=jj Ú S.pl;have a2:=jj Ú S.es;erw[zG,zU] at a1 a2;omega
 unfold setNext;refine za (jh ho hd S.fits ?_);dsimp only;refine ö (yi ?_);rw[m1,if_neg (by simp)];refine bo m2 ?_;refine za (pZ (v:=()) (zX (by rw[m4];simp)) ?_);rw[Kj S.T ∅];refine zf ?_;by_cases z:i<es.size
 .have e1:es[i]?=À es[i]:=by simp[z]
  have e2:t.place[i]?=À t.place[i]:=by simp[show i<t.place.size by omega]
  rw[e1,e2];rw[e1] at q;have e3:slotAt t (i+1)=t.place[i]+1:=by unfold slotAt;rw[zX ∅];simp[Ā,show i<t.place.size by omega]
  rw[e3] at q;exact q
 .have e1:es[i]?=Á:=by simp[j5 z]
  rw[e1];rw[e1] at q;exact q
def mL{nx:Nat}(hi:IsSI s.heap I old i a n ep)(hP:∀h',IsSI h' I (.int nx 0) (i+1) a n ep->Ü I s.heap h'->P (.done (.ret x)) { s with heap:=h' }) :
  É (Í prog w) A (do
   setField (Ê I) 0 (ÿ nx)
   setField (Ê I) 1 (ÿ ((i:Int)+1))
   ret x) P E s:=by
 refine za (jx hi (by simp) λh1 g1 b1=>za (jx g1 (by simp) λh2 g2 b2=>zf (hP h2 ?_ (b1.trans b2))));exact g2
def QU(hi:IsSI s.heap I old i a n ep)(hP:∀h',IsSI h' I old (i+1) a n ep->Ü I s.heap h'->P (.done (.ret x)) { s with heap:=h' }) :
  É (Í prog w) A (do
   setField (Ê I) 1 (ÿ ((i:Int)+1))
   ret x) P E s:=by
 refine za (jx hi (by simp) λh2 g2 b2=>zf (hP h2 ?_ b2));exact g2
def Md.step(md:Md w h a es t ep vs (.ref T) i)(ne:T≠I)(sb:Ü I h h'):Md w h' a es t ep vs (.ref T) (i+1):=by
 rcases md with ⟨m1,m2,m3⟩ | ⟨m1,m2,T',places,oT,m,e,t1,t2,m3,m4⟩ | ⟨m1,m2,m4,m5,m3⟩
 .cases m2
 .cases e
  exact .inr (.inl ⟨m1,m2,_,places,oT,m,rfl,(sb.2 _ ne).trans t1,t2,m3,m4⟩)
 .cases m5
def Uz{o:ó}{es:Array (Int×Ã)}{R:List (Nat×(Int×Ã))}{vs:List Ã}(ho:s.heap.get? a=À o)(hd:o.data=.set es ep t)(S:SOk t es.toList R)
  (hi:IsSI s.heap I first i a es.size ep) (md:Md w s.heap a es t ep vs first i) (hx:vs[i]?=À x) (AB:∀T,first=.ref T->T≠I)
  (k:∀Az h',IsSI h' I Az (i+1) a es.size ep->Md w h' a es t ep vs Az (i+1)->(∀T,Az=.ref T->first=.ref T)->Ü I s.heap h'->Q (À x) { s with heap:=h' }):É (Í prog w) A (ę (.ref I)) Q E s:=by
 unfold ę;refine za (vA (jy (name:=ù "__next__") hi.typeIs slotN (jk slotN hi.typeIs entryN ?_ (YH _))));unfold é.«set_iterator.__next__»;refine za (show É _ _ (slotArgs "__next__" 0 { pos:=[Ê I] }) _ _ _ from zf ?_);dsimp only;refine ö (oB hi rfl ?_);dsimp only;refine ö (ž ho hd S.fits ?_);rw[if_neg (by simp)];have lt:i<vs.length:=by
  obtain⟨q,_⟩:=zu.mp hx;exact q
 have Rk:=md;rcases md with ⟨m1,rfl,m3⟩ | ⟨m1,m2,T,places,oT,m,rfl,t1,t2,m3,m4⟩ | ⟨m1,m2,m4,rfl,m3⟩
 .dsimp only
  erw[jo];refine za (nW (i:=i) (slot:=0) ho hd S m1 ?_);obtain⟨e,z1,rfl⟩:∃e,(Ś (w.params.setOrder a ep) es)[i]?=À e/\e.2=x:=by
   rw[m3,kh] at hx;obtain⟨e,z1,z2⟩:=zj.mp hx;exact⟨e,by simpa using z1,z2⟩
  rw[z1];dsimp only[Option.map];exact mL hi λh' g b=>⟨_,rfl,zf (k _ h' g (.inl ⟨m1,rfl,m3⟩) (λT e=>by cases e) b)⟩
 .dsimp only
  refine za (jT t1 t2 ?_);dsimp only;erw[Ī];obtain⟨j,z1,z2⟩:∃j,places[i]?=À j/\(es.toList.getD j (0,.none)).2=x:=by
   rw[m3,kh] at hx;obtain⟨e,z1,z2⟩:=zj.mp hx;exact⟨e,z1,z2⟩
  have Rl:=m4 j (jz z1);have e1:(places.map λj=>ħ (j:Nat) 0).toArray[i]?=À (ħ (j:Nat) 0):=by simp[z1]
  rw[e1];dsimp only;erw[Ī];refine za ?_;unfold setNextDrawn;refine za (jh ho hd S.fits ?_);dsimp only;rw[if_neg (by simp)];have e2:es[j]?=À (es.toList.getD j (0,.none)):=by simp[ġ,Rl]
  rw[e2];dsimp only;refine wpAny_pure ?_;rw[z2];exact QU hi λh' g b=>⟨_,rfl,zf (k _ h' g (Rk.step (AB _ rfl) b) (λ_ e=>e) b)⟩
 .dsimp only
  erw[jo];rw[m3,zG,zU] at lt;refine za (oJ (i:=i) ho hd S m1 m2 m4 ∅ ?_);obtain⟨e,z1,rfl⟩:∃e,es[i]?=À e/\e.2=x:=by
   rw[m3,kh] at hx;obtain⟨e,z1,z2⟩:=zj.mp hx;exact⟨e,by simpa using z1,z2⟩
  rw[z1];dsimp only[Option.map];exact mL hi λh' g b=>⟨_,rfl,zf (k _ h' g (.inr (.inr ⟨m1,m2,m4,rfl,m3⟩)) (λT e=>by cases e) b)⟩
end
section
variable{prog:Ï}{w:Ô}{A A':Ù}{E:Ã->Å->Prop}{s:Å}
def iT{P:PySem.Fin->Å->Prop}{Q:Option Ã->Å->Prop}(hh:A'.handled=Á)(h:∀h',(∀b o,s.heap.get? b=À o->h'.get? b=À o)->Q Á { s with heap:=h' }) :
  É (Í prog w) A' (do
   let e <-newExc (.type "StopIteration") []
   raiseNew e) P (λe s'=>É (Í prog w) A (do
    let b <-isInstance e (.type "StopIteration")
    if b=Â then pure Á else throw e) Q E s') s:=by
 refine za ?_;erw[newExc,newTuple];refine za (jd ?_ (by size_fits));refine za (m:=į _ _) (wQ (a:=Ö) (by first | rfl | (erw[į];rfl)) (jd ?_ (by size_fits)));erw[raiseNew];refine za (wpAny_handled ?_);rw[hh];refine za (zf (xP ?_));refine za (qM (T:="StopIteration") (b:=Â) ⟨_,zH _ rfl,rfl⟩ u6 ?_);exact zf (h _ λb o e=>zc _ (zc _ e))
def UA{I a:È}{o:ó}{es:Array (Int×Ã)}{ep:Nat}{t:Ó}{R:List (Nat×(Int×Ã))}{vs:List Ã}{first:Ã}{i:Nat}{Q:Option Ã->Å->Prop}(hh:A.handled=Á)(ho:s.heap.get? a=À o)(hd:o.data=.set es ep t)(S:SOk t es.toList R)
  (hi:IsSI s.heap I first i a es.size ep) (md:Md w s.heap a es t ep vs first i) (hx:i=vs.length) (hv:vs.length=es.size)
  (k:∀h',(∀b o,b≠I->s.heap.get? b=À o->h'.get? b=À o)->Q Á { s with heap:=h' }):É (Í prog w) A (ę (.ref I)) Q E s:=by
 unfold ę;refine za (vA (jy (name:=ù "__next__") hi.typeIs slotN (jk slotN hi.typeIs entryN ?_ (YH _))));unfold é.«set_iterator.__next__»;refine za (show É _ _ (slotArgs "__next__" 0 { pos:=[Ê I] }) _ _ _ from zf ?_);dsimp only;refine ö (oB hi rfl ?_);dsimp only;refine ö (ž ho hd S.fits ?_);rw[if_neg (by simp)];have EK:A.in1.handled=Á:=by simpa using hh
 rcases md with ⟨m1,rfl,m3⟩ | ⟨m1,m2,T,places,oT,m,rfl,t1,t2,m3,m4⟩ | ⟨m1,m2,m4,rfl,m3⟩
 .dsimp only
  erw[jo];refine za (nW (i:=i) (slot:=0) ho hd S m1 ?_);have z1:(Ś (w.params.setOrder a ep) es)[i]?=Á:=by
   have:=(gU (w.params.setOrder a ep) es).length_eq;rw[zU,zU] at this;simp;omega
  rw[z1];dsimp only[Option.map];refine za (jx hi (by simp) λh1 g1 b1=>?_);exact iT EK λh' e=>k h' λb o ne q=>e b o ((b1.2 b ne).trans q)
 .dsimp only
  refine za (jT t1 t2 ?_);dsimp only;erw[Ī];have e1:(places.map λj=>ħ (j:Nat) 0).toArray[i]?=Á:=by
   have:=jj Ú m3;rw[zG] at this;simp;omega
  rw[e1];dsimp only;refine za (jx hi (by simp) λh1 g1 b1=>?_);refine za (jx g1 (by simp) λh2 g2 b2=>?_);exact iT EK λh' e=>k h' λb o ne q=>e b o (((b1.trans b2).2 b ne).trans q)
 .dsimp only
  erw[jo];refine za (oJ (i:=i) ho hd S m1 m2 m4 ∅ ?_);have z1:es[i]?=Á:=by simp;omega
  rw[z1];dsimp only[Option.map];refine za (jx hi (by simp) λh1 g1 b1=>?_);exact iT EK λh' e=>k h' λb o ne q=>e b o ((b1.2 b ne).trans q)
def gO{α:Type}{c:Bool}{X Y:Sem α}{Q:α->Å->Prop}(hc:c=Â)(h:É (Í prog w) A X Q E s):É (Í prog w) A (if c=Â then X else Y) Q E s:=by
 rw[hc,zQ rfl];exact h
def Vy:Slot "set_iterator" "__iter__" "set_iterator.__iter__":=.of (owner:="set_iterator") (n:="__iter__") (by rw[wR,vm];kernel_rfl) ⋯ ⋯ ⋯ (.inl ⋯) (by rw[vM];kernel_rfl)
def Ut:Ų table "set_iterator.__iter__" = À é.«dict_keyiterator.__iter__»:=xN (id':="dict_keyiterator.__iter__") SJ rfl ⋯ SJ
def DH(a:Ã):argsOk "set_iterator.__iter__" ⟨[a],[]⟩:=by unfold argsOk;kernel_rfl
def QE(hh:A.handled=Á){es:Array (Int×Ã)}{R:List (Nat×(Int×Ã))}{vs:List Ã}(S:SOk t es.toList R)(hv:vs.length=es.size)(AB:a≠I)(fp:List È)(hI:I∈fp)(ha:a∈fp) :
  Walks prog w A I fp [I] vs.length (λi v=>vs[i]?=À v) (λi h=>∃o first,h.get? a=À o/\o.data=.set es ep t/\IsSI h I first i a es.size ep/\Md w h a es t ep vs first i/\∀T,first=.ref T->T≠I/\T∈fp) where
 sub:=λb hb=>by simp at hb;rw[hb];exact hI
 frame:=λi h h' st hk=>by
  obtain⟨o,first,h1,h2,h3,h4,h5⟩:=st;refine⟨o,first,hk a ha _ h1,h2,hk I hI _ h3,?_,h5⟩;rcases h4 with m | ⟨m1,m2,T,places,oT,m,e,t1,t2,m3,m4⟩ | m
  .exact .inl m
  .exact .inr (.inl ⟨m1,m2,T,places,oT,m,e,hk T (h5 T e).2 _ t1,t2,m3,m4⟩)
  .exact .inr (.inr m)
 item:=λi s Q E hi st hQ=>by
  obtain⟨o,first,h1,h2,h3,h4,h5⟩:=st;have hx:vs[i]?=À vs[i]:=by simp[hi]
  refine Uz h1 h2 S h3 h4 hx (λT e=>(h5 T e).1) λAz h' g1 g2 g3 sb=>?_
  refine hQ vs[i] h' s.toks hx ⟨o,Az,(sb.2 a AB).trans h1,h2,g1,g2,λT e=>h5 T (g3 T e)⟩ λb o' hb e=>(sb.2 b (by simpa using hb)).trans e
 done:=λs Q E st hQ=>by
  obtain⟨o,first,h1,h2,h3,h4,h5⟩:=st;exact UA hh h1 h2 S h3 h4 rfl hv λh' e=>hQ h' s.toks λb o hb q=>e b o (by simpa using hb) q
 self:=λi s Q E st hQ=>by
  obtain⟨o,first,h1,h2,h3,h4,h5⟩:=st;refine uq h3.typeIs Vy (jk Vy h3.typeIs Ut ?_ (DH _));show É _ _ (ret (.ref I)) _ _ s
  exact zf ⟨_,rfl,"set_iterator",_,h3.typeIs,slotN.lookup,hQ⟩
def VX{o:ó}{es:Array (Int×Ã)}{t:Ó}{R:List (Nat×(Int×Ã))}(ho:s.heap.get? a=À o)(hc:o.cls=.type "set")(hd:o.data=.set es ep t)(S:SOk t es.toList R)(xa:t.led = !w.params.followText "set-order")(hz:es.size<=4000)
  (k:∀I first h' d vs,s.heap.objs.size<=I->IsSI h' I first 0 a es.size ep->Md w h' a es t ep vs first 0->vs.Perm (es.toList.map (·.2))->(∀T,first=.ref T->T≠I/\s.heap.objs.size<=T/\T<h'.objs.size)->(∀b o,s.heap.get? b=À o->h'.get? b=À o)->Q (.ref I) { s with heap:=h',drawn:=d }) :
  É (Í prog w) A (Ĭ (.ref a)) Q E s:=by
 have hT:s.TypeIs (.ref a) "set":=⟨o,ho,hc⟩;refine uq hT F.slot_set_iter (jk F.slot_set_iter hT entryI ?_ (F.args_set_iter_1 _));unfold é.«frozenset.__iter__»;refine za (show É _ _ (Builtin.Frozenset.slot0 "__iter__" { pos:=[Ê a] }) _ _ _ from za (zf (zf ?_)));unfold Ŗ;refine za (za (wO ho hd S.fits (zf ?_)));unfold setDrawn;refine za (za (jh ho hd S.fits ?_));dsimp only;refine za (yi ?_);refine zf ?_
 have num:∀vs,Md w s.heap a es t ep vs (.int 0 0) 0->vs.Perm (es.toList.map (·.2))->É (Í prog w) A.in1 (do
   let first <-pure (ÿ 0)
   let e <-setEpoch a
   let it <-newFields "set_iterator" [first,ÿ 0,Ê a,ÿ es.size,ÿ e]
   ret it) (λfin s'=>∃v,fin=Fin.done (Flow.ret v)/\∃T' r,s'.TypeIs v T'/\ŉ (Č T') (ù "__next__")=pure (À r)/\Q v s') E s:=by
  intro vs md pe;refine za (zf ?_);refine za (qD ho hd S.fits ?_);refine za (jd ?_);refine zf ⟨_,rfl,"set_iterator",_,⟨_,zH _ rfl,rfl⟩,slotN.lookup,?_⟩;refine k s.heap.objs.size (.int 0 0) _ s.drawn vs (zy _) (zH _ rfl) ?_ pe (λT e=>by cases e) λb o e=>zc _ e
  rcases md with m | ⟨m1,m2,T,places,oT,m,e,_⟩ | m
  .exact .inl m
  .cases e
  .exact .inr (.inr m)
 by_cases bt:w.params.followText "set-order" = Â
 .refine bo (by rw[bt];rfl) ?_
  exact num _ (.inl ⟨bt,rfl,rfl⟩) ((gU _ es).map _)
 .have bt:w.params.followText "set-order" = Ä:=by simpa using bt
  by_cases dr:(!t.plain&&decide (es.size>1))=Â
  .refine gO (show(!w.params.followText "set-order" && (!t.plain&&decide (es.size>1)))=Â by rw[bt,dr];rfl) ?_
   refine za (nS es.size (ä es.size) s (by simp) λys d pe=>?_);refine za (u0 ?_ (by rw[zG,pe.length_eq,xF,jA];omega));have Ej:(s.heap.push { cls:=.type "tuple",data:=.seq (ys.map λ(i:Nat)=>ÿ (i:Int)).toArray }).get? a=À o:=zc _ ho;refine za (qD (s:={ s with heap:=s.heap.push { cls:=.type "tuple",data:=.seq (ys.map λ(i:Nat)=>ÿ (i:Int)).toArray },drawn:=d }) Ej hd S.fits ?_);refine za (jd ?_);refine zf ⟨_,rfl,"set_iterator",_,⟨_,zH _ rfl,rfl⟩,slotN.lookup,?_⟩;have sz:(s.heap.push { cls:=.type "tuple",data:=.seq (ys.map λ(i:Nat)=>ÿ (i:Int)).toArray }).objs.size=s.heap.objs.size+1:=jW ..;refine k (s.heap.push { cls:=.type "tuple",data:=.seq (ys.map λ(i:Nat)=>ÿ (i:Int)).toArray }).objs.size (.ref s.heap.objs.size) _ d (ys.map λj=>(es.toList.getD j (0,.none)).2) (by rw[sz];omega) (zH _ rfl) ?_ ?_ (λT e=>?_) λb o e=>zc _ (zc _ e)
   .refine .inr (.inl ⟨bt,dr,s.heap.objs.size,ys,_,_,rfl,zc _ (zH _ rfl),rfl,rfl,λj hj=>?_⟩)
    exact jX.mp (pe.mem_iff.mp hj)
   .have:=pe.map λj=>(es.toList.getD j (0,Ö)).2
    refine this.trans ?_;have e2:=jj (List.map (λ(x:Int×Ã)=>x.2)) (range_getD es.toList (0,Ö));rw[kZ,zU] at e2;exact List.Perm.of_eq e2
   .cases e
    refine⟨by rw[sz];exact zL (j4 _),zy _,?_⟩;rw[jW,sz];exact jH (j4 _)
  .have dr:(!t.plain&&decide (es.size>1))=Ä:=by simpa using dr
   refine bo (show(!w.params.followText "set-order" && (!t.plain&&decide (es.size>1)))=Ä by rw[dr];simp) ?_;exact num _ (.inr (.inr ⟨bt,dr,by rw[xa,bt];rfl,rfl,rfl⟩)) (qL _)
end
section
variable{prog:Ï}{w:Ô}{A:Ù}{E:Ã->Å->Prop}{s:Å}
def Xk:ŉ (.type "set") "__len__" = pure (À (.builtin "set.__len__")):=by rw[wR,vm];kernel_rfl
def Ws(hT:s.TypeIs (.ref a) "set")(h:Q Ä s):É (Í prog w) A (Ń (.ref a)) Q E s:=by
 unfold Ń;refine za (Ŧ hT Xk ?_);dsimp only;generalize hid:("set.__len__":String)=idl;rw[show splitId idl=À ("set","__len__") from by subst hid;decide +kernel];subst hid;dsimp only;refine ö (wpAny_isInstance (b:=Â) hT (by rw[isSubtype_type];kernel_rfl) ?_);rw[zX (by decide)];refine gO ⋯ ?_;refine za (qC hT ?_);exact zf h
def Zf{L:List (List Ç×È)}(hh:A.handled=Á)(hS:SetT (SK prog w) s.heap S L)(hb:L.length<900)
  (k:∀(L':List (List Ç×È)) (s':Å),L'.Perm L->(∀b o,s.heap.get? b=À o->s'.heap.get? b=À o)->s'.gens=s.gens->s'.os=s.os->s.heap.objs.size<=s'.heap.objs.size->Q (L'.map λp=>Ê p.2) s'):É (Í prog w) A (collect (.ref S)) Q E s:=by
 obtain⟨o,es,ep,t,R,ho,hex,hd,hm,xa,S0,hL,nd,hT⟩:=hS;have Ag:es.size=L.length:=by have:=jj Ú hL;simpa using this
 have N1:S<s.heap.objs.size:=zJ ho;unfold collect;refine za (xK (qt F.entry_proto_collect ?_));rw[jQ F.plain_proto_collect _];show É _ A.in1 (newList [] >>= λnl=>again (.builtin "list.__iadd__" ⟨[nl,.ref S],[]⟩)) _ _ s
 refine za (jd ?_);refine zf ⟨vB yE _,qt F.entry_list_iadd ?_⟩;rw[jQ yE _];generalize hN:s.heap.objs.size=N;show É _ A.in1 (Ă (.ref N) (.ref S) (.ref N)) _ _ _
 let h1:Õ:=s.heap.push { cls:=.type "list",data:=.seq ([]:List Ã).toArray }
 have An:∀b o,s.heap.get? b=À o->h1.get? b=À o:=λb o e=>zc _ e
 have Em:h1.objs.size=N+1:=by rw[<-hN];exact jW ..
 have LG:h1.get? S=À o:=An _ _ ho;have MQ:h1.get? N=À { cls:=.type "list",data:=.seq ([]:List Ã).toArray }:=by rw[<-hN];exact zH _ rfl
 have IW:N≠S:=by rw[<-hN];exact(zL N1).symm
 show É _ A.in1 _ _ _ { s with heap:=h1 }
 have MR:Shared.TypeIs { s with heap:=h1 } (.ref S) "set":=⟨o,LG,hex.1⟩;unfold Ă;refine za (qC MR ?_);refine bo (by simp[ŗ,IW]) ?_;refine za (VX (s:={ s with heap:=h1 }) LG hex.1 hd S0 xa ∅ λI first h2 d vs gI Rm Rn N3 gT gK=>?_);refine za (jm (Ws ⟨o,gK _ _ LG,hex.1⟩ ?_));refine gO ⋯ ?_;refine za (vq ?_);refine za ?_;show É _ A.in1 (updateSeq N (·.push .none) >>= λ_=>updateSeq N (·.pop)) _ _ _
 have EL:h2.get? N=À { cls:=.type "list",data:=.seq ([]:List Ã).toArray }:=gK _ _ MQ;refine za (vY EL rfl ?_);have up1:=jD (Þ (·.push Ö)) EL rfl;refine vY up1 rfl ?_;have MU:=jD (Þ (·.pop)) up1 rfl;have off:∀b o,b≠N->h2.get? b=À o->((h2.update N (Þ (·.push Ö))).update N (Þ (·.pop))).get? b=À o:=
  λb o ne e=>(qb _ _ (jn ne)).trans ((qb _ _ (jn ne)).trans e)
 let fp:List È:=I::S::(match first with | .ref T=>[T] | _=>[])
 have Ec:vs.length=es.size:=by have:=N3.length_eq;simpa using this
 have MV:N+1<=I:=by rw[<-Em];exact gI
 have Ro:S≠I:=λe=>by
  have:S<N:=by rw[<-hN];exact N1
  exact absurd MV (by rw[<-e];exact Nat.not_le.mpr (jH this))
 have nF:N∉fp:=by
  intro m;rcases zg.mp m with e | m
  .exact absurd MV (by rw[<-e];exact uV _)
  .rcases zg.mp m with e | m
   .exact IW e
   .cases first with
    | ref T=>
     have e:N=T:=by simpa using m
     have:=(gT T rfl).2.1;have this:N+1<=T:=by rw[<-Em];exact this
     exact absurd this (by rw[<-e];exact uV _)
    | _=>simp at m
 have N4:∀T,first=.ref T->T∈fp:=λT e=>by
  subst e;exact zq _ (zq _ (by simp))
 have EK:A.in1.handled=Á:=by simpa using hh
 have W:=(QE (prog:=prog) (w:=w) (A:=A.in1) EK (I:=I) (a:=S) (ep:=ep) (vs:=vs) S0 Ec Ro fp (zF ..) (zq _ (zF ..))).toS;have Rp:Md w ((h2.update N (Þ (·.push Ö))).update N (Þ (·.pop))) S es t ep vs first 0:=by
  rcases Rn with m | ⟨m1,m2,T,places,oT,m,e,t1,t2,m3,m4⟩ | m
  .exact .inl m
  .refine .inr (.inl ⟨m1,m2,T,places,oT,m,e,off _ _ (λz=>?_) t1,t2,m3,m4⟩)
   exact nF (z▸N4 T e)
  .exact .inr (.inr m)
 have nI:I≠N:=λe=>nF (by rw[<-e];exact zF ..)
 refine zf ⟨vB F.plain_extend_loop _,ŵ W (by rw[jA];omega) N nF (.ref N) vs.length 0 _ _ _ rfl (j9 _) ?_ MU (ItemsOf.nil _) λs' acc c HP Ee EM=>?_⟩
 .exact⟨o,first,off _ _ (jn IW) (gK _ _ LG),hd,off _ _ nI Rm,Rp,λT e=>⟨(gT T e).1,N4 T e⟩⟩
 .show É _ A (load N >>= _) _ _ s'
  refine za (xj Ee ?_);have EN:acc.toList=vs:=by
   apply yp
   .rw[zU];exact EM.1
   .intro i a1 a2
    have this:vs[i]?=À acc.toList[i]:=EM.2 i acc.toList[i] (by simp);rw[zM a2] at this;exact(zW this).symm
  have MW:(L.map λp=>Ê p.2).Perm vs:=by
   have e:es.toList.map (·.2)=L.map λp=>Ê p.2:=by rw[hL,kZ];rfl
   rw[<-e];exact N3.symm
  obtain⟨L',q1,q2⟩:=xb MW rfl;refine zf ?_;show Q acc.toList s'
  rw[EN,<-q2];refine k L' s' q1 (λb ob e=>?_) HP.gens HP.os (by rw[hN];exact qQ (zJ Ee));refine HP.heap b ob ?_ (off b ob ?_ (gK _ _ (An _ _ e)))
  .intro m
   have lt:=zJ e;rw[hN] at lt;rcases zg.mp m with z | m
   .exact zL lt z
   .have z:b=I:=by simpa using m
    exact absurd MV (by rw[<-z];exact Nat.not_le.mpr (jH lt))
  .have lt:=zJ e
   rw[hN] at lt;exact zL lt
def Jm{l:List (List Ç)}(nd:l.Nodup)(h:l.Pairwise λx y=>vb y x=Ä):cv l:=by
 unfold cv;refine(List.Pairwise.and h nd).imp λ{x y} q=>?_
 rcases fZ q.2 with z | z
 .exact z
 .rw[q.1] at z;cases z
def mG{L:List (List Ç×È)}(hh:A.handled=Á)(hS:SetT (SK prog w) s.heap S L)(hb:L.length<64)(ne:∀p∈L,p.1≠[])
  (k:∀(D:È) (L':List (List Ç×È)) (n:Nat) (s':Å),L'.Perm L->L'.map (·.1)=kA (L.map (·.1))->s'.heap.get? D=À (ā "list" (L'.map λp=>Ê p.2).toArray n)->s.heap.objs.size<=D->(∀b o,s.heap.get? b=À o->s'.heap.get? b=À o)->s'.gens=s.gens->s'.os=s.os->Q (.ref D) s') :
  É (Í prog w) A (ŀ (.builtin "sorted") [.ref S]) Q E s:=by
 have nd:(L.map (·.1)).Nodup:=by obtain⟨o,es,ep,t,R,_,_,_,_,_,_,_,nd,_⟩:=hS;exact nd
 have tk:∀p∈L,Ñ (SK prog w) s.heap p.1 p.2:=by obtain⟨o,es,ep,t,R,_,_,_,_,_,_,_,_,hT⟩:=hS;exact hT
 refine yt kind_sorted plain_sorted entry_sorted (args_sorted1 _) ?_;unfold é.«sorted»;refine za (m:=checkCount "sorted" 1 1 _) (zf ?_);refine za (Zf (by simpa using hh) hS ∅ λL1 s1 p1 k1 g1 o1 EO=>?_);refine za (ud ?_ (by rw[zG,p1.length_eq,jA];omega));have Hn:(s1.heap.push (ā "list" (L1.map λp=>Ê p.2).toArray 0)).get? s1.heap.objs.size=À (ā "list" (L1.map λp=>Ê p.2).toArray 0):=zH _ rfl;have kp:∀b o,s.heap.get? b=À o->(s1.heap.push (ā "list" (L1.map λp=>Ê p.2).toArray 0)).get? b=À o:=λb o e=>zc _ (k1 _ _ e)
 show É _ _ _ _ _ { s1 with heap:=s1.heap.push (ā "list" (L1.map λp=>Ê p.2).toArray 0) }
 have Ic:∀p∈L1,Ñ (SK prog w) (s1.heap.push (ā "list" (L1.map λp=>Ê p.2).toArray 0)) p.1 p.2/\p.1≠[]:=λp hp=>by
  obtain⟨o,cb,m,e1,e2,e3,e4⟩:=tk p (p1.mem_iff.mp hp);exact⟨⟨o,cb,m,kp _ _ e1,e2,e3,e4⟩,ne p (p1.mem_iff.mp hp)⟩
 refine za (jm (jk Ŷ ⟨_,Hn,rfl⟩ ŧ (gX (L:=L1) Hn Ic (by rw[p1.length_eq];exact hb) λL2 h2 n2 p2 up IX off=>⟨_,rfl,?_⟩) (ŷ _)));refine zf ⟨_,rfl,k _ L2 n2 _ (p2.trans p1) ?_ IX EO (λb o e=>off b o (λz=>?_) (kp _ _ e)) g1 o1⟩
 .have IY:(L2.map (·.1)).Nodup:=(((p2.trans p1).map (·.1)).nodup_iff).mpr nd
  refine wb (Jm IY up) (vc _) λx=>?_
  rw[ssort_mem];exact((p2.trans p1).map (·.1)).mem_iff
 .have lt:=zJ e
  rw[z] at lt;exact absurd lt (yG.mpr EO)
end
section
variable{prog:Ï}{w:Ô}{A:Ù}{E:Ã->Å->Prop}{s:Å}
def SetT.kept{h h':Õ}(hS:SetT (SK prog w) h S L)(k1:∀o,h.get? S=À o->h'.get? S=À o)(k2:∀p∈L,∀o,h.get? p.2=À o->h'.get? p.2=À o):SetT (SK prog w) h' S L:=by
 obtain⟨o,es,ep,t,R,h1,h2,h3,h4,h5,h6,h7,h8,h9⟩:=hS;refine⟨o,es,ep,t,R,k1 _ h1,h2,h3,h4,h5,h6,h7,h8,λp hp=>?_⟩;obtain⟨ob,cb,m,e1,e2,e3,e4⟩:=h9 p hp;exact⟨ob,cb,m,k2 p hp _ e1,e2,e3,e4⟩
theorem SetT.fresh(led:Bool)(hl:led = !w.params.followText "set-order"){h:Õ}(e:h.get? S=À { cls:=.type "set",dict:=Á,data:=.set #[] 0 (.fresh 0 0 led) }):SetT (SK prog w) h S []:=by
 have T:TOk (SetTable.fresh 0 0 led):=⟨rfl,Ě,λj hj=>(by cases hj),⟨3,zy _,rfl⟩,j9 _⟩;have S:SOk (SetTable.fresh 0 0 led) [] []:=⟨T,rfl,rfl,λr hr=>(by cases hr),show 0*5<7*3 by decide⟩;exact⟨_,#[],0,.fresh 0 0 led,[],e,⟨rfl,rfl,rfl⟩,rfl,show 7<=8191 by decide,hl,S,rfl,q8,λp hp=>(by cases hp)⟩
variable{R:Result->Å->Prop}{I:È}{fp wr:List È}{G:Array ř->Array ř->Prop}{n:Nat}{P:Nat->Ã->Prop}{St:Nat->Å->Prop}
def oz(W:WalksS prog w A.in1 I fp wr G n P St)(S:È)(IZ:S∉fp)(key:Nat->List Ç)(ad:Nat->È)(G6:∀i v,P i v->v=.ref (ad i))(hu:A.in1.units<õ)(hb:n<890)(hw:∀j,j<n->ad j∉wr/\ad j≠S) :
  ∀(k i:Nat) (s:Å) (L:List (List Ç×È)),n-i=k->i<=n->St i s->SetT (SK prog w) s.heap S L->L.length<=i->(∀x,x∈L.map (·.1)↔∃j,j<i/\key j=x)->(∀p∈L,∃j,j<i/\p=(key j,ad j))->(∀j,j<n->Ñ (SK prog w) s.heap (key j) (ad j))->
   (∀s' L',Moved (S::wr) G s s'->SetT (SK prog w) s'.heap S L'->L'.length<=n->(∀x,x∈L'.map (·.1)↔∃j,j<n/\key j=x)->(∀p∈L',∃j,j<n/\p=(key j,ad j))->R (.ok (.ret .none)) s')->
   Ł (Í prog w) A (.builtin "set.update.loop" ⟨[.ref S,.ref I],[]⟩) R s:=by
 have Rq:S∉wr:=λh=>IZ (W.sub _ h)
 have up:∀b∈wr,b∈S::wr:=λb hb=>zq _ hb
 have stay:∀{i:Nat} {L:List (List Ç×È)} {s s':Å},i<=n->SetT (SK prog w) s.heap S L->(∀p∈L,∃j,j<i/\p=(key j,ad j))->Moved wr G s s'->SetT (SK prog w) s'.heap S L:=λhi hS hp hm=>hS.kept (λo e=>hm.heap S o Rq e) λp mp o e=>by
  obtain⟨j,j1,rfl⟩:=hp p mp;exact hm.heap _ o (hw j ∅).1 e
 have I0:∀{s s':Å},(∀j,j<n->Ñ (SK prog w) s.heap (key j) (ad j))->Moved wr G s s'->∀j,j<n->Ñ (SK prog w) s'.heap (key j) (ad j):=λhk hm j hj=>by
  obtain⟨ob,cb,m,e1,e2,e3,e4⟩:=hk j hj;exact⟨ob,cb,m,hm.heap _ _ (hw j hj).1 e1,e2,e3,e4⟩
 intro k;induction k with
 | zero=>
  intro i s L hk hi r9 hS gy HQ Ig AY hR;obtain rfl:i=n:=by omega
  refine qt yK ?_;rw[jQ vo _];show É _ A.in1 (ę (.ref I) >>= _) _ _ s;refine za (W.done s _ _ r9 λs' hm=>?_)
  show É _ A.in1 (ret Ö) _ _ s';exact zf (hR s' L (hm.mono up) (stay hi hS Ig hm) gy HQ Ig)
 | succ k ih=>
  intro i s L hk hi r9 hS gy HQ Ig AY hR;have Af:i<n:=by omega
  refine qt yK ?_;rw[jQ vo _];show É _ A.in1 (ę (.ref I) >>= _) _ _ s;refine za (W.item i s _ _ Af r9 λv s' hP EI hm=>?_)
  obtain rfl:=G6 i v hP;have Ee:=stay hi hS Ig hm;have MX:=I0 AY hm;show É _ A.in1 (Ē [Ê (ad i)] (setAdd S (.ref (ad i))) >>= _) _ _ s';refine za (jm ?_)
  unfold setAdd;refine jm (za (wpAny_pyHash_tuple hu (MX i Af) ?_));refine nO (knd:=SK prog w) (s:={ s' with toks:=s'.toks+((key i).length+1) }) (L:=L) hu Ee (MX i Af) ∅ λadded h' L' sb ST pe=>?_
  have KM:L'.length<=i+1:=by
   rw[pe.length_eq];split
   .omega
   .erw[zE];omega
  have La:∀x,x∈L'.map (·.1)↔∃j,j<i+1/\key j=x:=λx=>by
   rw[(pe.map (·.1)).mem_iff];have st:(∃j,j<i+1/\key j=x)↔(∃j,j<i/\key j=x)\/key i=x:=by
    constructor
    .rintro⟨j,j1,j2⟩
     rcases jK (wY j1) with z | z
     .exact .inl ⟨j,z,j2⟩
     .subst z;exact .inr j2
    .rintro(⟨j,j1,j2⟩ | z)
     .exact⟨j,by omega,j2⟩
     .exact⟨i,by omega,z⟩
   rw[st,<-HQ x];split
   .rename_i c
    constructor
    .exact .inl
    .rintro(z | z)
     .exact z
     .rw[<-z];exact c
   .rw[zz,zg]
    constructor
    .rintro(z | z)
     .exact .inr z.symm
     .exact .inl z
    .rintro(z | z)
     .exact .inr z
     .exact .inl z.symm
  have MY:∀p∈L',∃j,j<i+1/\p=(key j,ad j):=λp mp=>by
   have:=pe.mem_iff.mp mp;split at this
   .obtain⟨j,j1,j2⟩:=Ig p this
    exact⟨j,by omega,j2⟩
   .rcases zg.mp this with z | z
    .exact⟨i,by omega,z⟩
    .obtain⟨j,j1,j2⟩:=Ig p z
     exact⟨j,by omega,j2⟩
  have oS:=Ee;obtain⟨oS,_,_,_,_,SY,_⟩:=oS;refine zf ⟨vB vo _,ih (i+1) _ L' ∅ Af (W.frame _ s' _ _ EI (xT _ _) λb hb o e=>?_) ST KM La MY (λj hj=>?_) λHt L2 MZ Eo z1 z2 z3=>?_⟩
  .rw[sb.2 b (λh:b=S=>IZ (by rw[<-h];exact hb))];exact e
  .obtain⟨ob,cb,m,e1,e2,e3,e4⟩:=MX j hj
   exact⟨ob,cb,m,(sb.2 _ (hw j hj).2).trans e1,e2,e3,e4⟩
  .refine hR Ht L2 (Moved.trans W.gtrans ((hm.mono up).then_heap (xT _ _) λb o hb e=>?_) MZ) Eo z1 z2 z3
   rw[sb.2 b (λh:b=S=>hb (by rw[h];exact zF))];exact e
end
section
variable{prog:Ï}{w:Ô}{A:Ù}{E:Ã->Å->Prop}{s:Å}
def Zz(h:Q (.ref s.heap.objs.size) { s with heap:=s.heap.push { cls:=.type "set",dict:=Á,data:=.set #[] 0 (.fresh 0 0 (!w.params.followText "set-order")) } }):É (Í prog w) A (newSet (.type "set")) Q E s:=by
 unfold newSet;refine za (yi ?_);exact jd h
def WY(a:Ã)(h:Q₁ (.ref s.heap.objs.size) { s with heap:=s.heap.push { cls:=.type "set",dict:=Á,data:=.set #[] 0 (.fresh 0 0 (!w.params.followText "set-order")) } }) :
  Ł (Í prog w) A (.call (.builtin "set.__new__") ⟨[.type "set",a],[]⟩) (wants Q₁ E) s:=by
 refine codeAny_of_tree ?_;show É _ A.in1 (checkBuiltinCall "set.__new__" ⟨[.type "set",a],[]⟩ >>= λ_=>again (.builtin "set.__new__" ⟨[.type "set",a],[]⟩)) _ _ s
 refine za (wQ (F.newCall_set_1 a) ?_);refine zf ⟨vB F.plain_set_new _,qt F.entry_set_new ?_⟩;rw[jQ F.plain_set_new _];unfold é.«set.__new__» Builtin.Frozenset.newClass;have sub:=sub_set_self;obtain⟨hp,g,d,tk,os⟩:=s;dsimp only;wp_walk;refine yJ (zf ?_);dsimp only;exact jd (zf h)
set_option maxHeartbeats 3200000 in
def oY{us:List Ã}{Lk:List (List Ç×È)}(hT:T="list" \/ T="tuple")(hl:∃o n,s.heap.get? l=À o/\o.cls=.type T/\o.data=.seq us.toArray n)(Lq:us=Lk.map λp=>Ê p.2)(hk:∀p∈Lk,Ñ (SK prog w) s.heap p.1 p.2)(hh:A.handled=Á)(hb:Lk.length<890)(hu:A.units+10<õ)
  (k:∀(L:List (List Ç×È)) (h':Õ) (tk:Nat),SetT (SK prog w) h' s.heap.objs.size L->L.length<=Lk.length->(∀x,x∈L.map (·.1)↔x∈Lk.map (·.1))->(∀p∈L,p∈Lk)->(∀b o,s.heap.get? b=À o->h'.get? b=À o)->Q (.ref s.heap.objs.size) { s with heap:=h',toks:=tk }):É (Í prog w) A (ŀ (.type "set") [.ref l]) Q E s:=by
 obtain⟨c,tl,Rr⟩:=vV.mro;have f1:=vV.made;have f2:=vV.sub;refine wpAny_call (codeAny_of_tree ?_);show É _ _ (callAny (.type "set") _) _ _ _
 refine zf ⟨Code.quiet_builtin _ ⋯,qt F.entry_type_call ?_⟩;rw[Around.under_plain (weight_type_call_type "set" [.ref l] []) rfl];have f3:=vV.notType;have f4:=vV.canCreate;have f5:=F.typeCall_set_1 (.ref l);repeat (any_goals (first | assumption | wp_step))
 refine yQ (WY (.ref l) (E:=E) (Q₁:=λobj d6=>obj=.ref s.heap.objs.size/\d6={ s with heap:=s.heap.push { cls:=.type "set",dict:=Á,data:=.set #[] 0 (.fresh 0 0 (!w.params.followText "set-order")) } }) ⟨rfl,rfl⟩) λr d6 hr=>?_
 cases r with
 | error e=>exact hr
 | ok fl=>
  cases fl with
  | ret obj=>
   obtain⟨rfl,rfl⟩:=hr;generalize EK:s.heap.push { cls:=.type "set",dict:=Á,data:=.set #[] 0 (.fresh 0 0 (!w.params.followText "set-order")) }=h1;have old:∀b o,s.heap.get? b=À o->h1.get? b=À o:=λb o e=>by rw[<-EK];exact zc _ e
   have sz:h1.objs.size=s.heap.objs.size+1:=by rw[<-EK,jW]
   have hS:h1.get? s.heap.objs.size=À { cls:=.type "set",dict:=Á,data:=.set #[] 0 (.fresh 0 0 (!w.params.followText "set-order")) }:=by rw[<-EK];exact zH _ rfl
   have MR:Shared.TypeIs { s with heap:=h1 } (.ref s.heap.objs.size) "set":=⟨_,hS,rfl⟩;have g1:=vV.init.lookup;have g2:=vV.init.bind (.ref s.heap.objs.size);repeat (any_goals (first | assumption | wp_step))
   refine yQ (codeAny_call_builtin (R:=wants (λr Ad=>r=.none/\∃L h' tk,Ad={ s with heap:=h',toks:=tk }/\SetT (SK prog w) h' s.heap.objs.size L/\L.length<=Lk.length/\(∀x,x∈L.map (·.1)↔x∈Lk.map (·.1))/\(∀p∈L,p∈Lk)/\(∀b o,s.heap.get? b=À o->h'.get? b=À o)) E) vV.init.plain F.entry_set_init (check_set_init_1 MR ?_)) λM0 Ad EQ=>?_
   .obtain⟨⟨oc,od,Rb,Et⟩,nl,N5,G2,N6⟩:=hl
    simp only at G2 N6;subst G2 N6;have Lb:=old _ _ N5;have N7:l<s.heap.objs.size:=zJ N5;have N8:A.in1.in1.in1.handled=Á:=by simp[hh]
    have Lc:l≠h1.objs.size:=zL (by rw[sz];exact jH N7);have IZ:s.heap.objs.size∉[h1.objs.size,l]:=by
     erw[zg,zA,kO,yw];exact⟨zL (by rw[sz];exact j4 _),v6 N7⟩
    have ES:us.toArray.size=Lk.length:=by rw[Lq];simp
    have G7:∀j,j<us.toArray.size->(Lk.getD j ([],0)).2<s.heap.objs.size/\Lk.getD j ([],0)∈Lk:=λj hj=>by
     rw[ES] at hj;have m:Lk.getD j ([],0)∈Lk:=by simp[ġ,hj]
     obtain⟨o,cb,mm,e1,_⟩:=hk _ m;exact⟨zJ e1,m⟩
    have hw:∀j,j<us.toArray.size->(Lk.getD j ([],0)).2∉[h1.objs.size]/\(Lk.getD j ([],0)).2≠s.heap.objs.size:=λj hj=>by
     have:=(G7 j hj).1;refine⟨?_,zL this⟩;erw[zg,zA,kO];exact zL (by rw[sz];exact jH this)
    have AY:∀(o:ó) j,j<us.toArray.size->Ñ (SK prog w) (h1.push o) (Lk.getD j ([],0)).1 (Lk.getD j ([],0)).2:=λo j hj=>by
     obtain⟨ob,cb,mm,e1,e2,e3,e4⟩:=hk _ (G7 j hj).2;exact⟨ob,cb,mm,zc _ (old _ _ e1),e2,e3,e4⟩
    have G6:∀(i:Nat) (v:Ã),us.toArray[i]?=À v->v=Ê (Lk.getD i ([],0)).2:=λi v e=>by
     rw[Lq,List.getElem?_toArray,kh] at e;obtain⟨p,p1,p2⟩:=zj.mp e;simp[ġ,p1,<-p2]
    have N9:A.in1.in1.in1.units<õ:=by simp;omega
    have S0:∀o,SetT (SK prog w) (h1.push o) s.heap.objs.size []:=λo=>SetT.fresh _ rfl (zc _ hS)
    have keys:∀x,(∃j,j<us.toArray.size/\(Lk.getD j ([],0)).1=x)↔x∈Lk.map (·.1):=λx=>by
     constructor
     .rintro⟨j,j1,j2⟩
      exact zK.mpr ⟨_,(G7 j j1).2,j2⟩
     .intro m
      obtain⟨p,p1,p2⟩:=zK.mp m;obtain⟨j,j1,j2⟩:=qT p1;exact⟨j,by rw[ES];exact j1,by simp[ġ,j1,j2,p2]⟩
    have fin:∀{o:ó} (s':Å) (L':List (List Ç×È)),Moved [s.heap.objs.size,h1.objs.size] (λa b=>b=a) { s with heap:=h1.push o } s'->SetT (SK prog w) s'.heap s.heap.objs.size L'->L'.length<=us.toArray.size->(∀x,x∈L'.map (·.1)↔∃j,j<us.toArray.size/\(Lk.getD j ([],0)).1=x)->(∀p∈L',∃j,j<us.toArray.size/\p=((Lk.getD j ([],0)).1,(Lk.getD j ([],0)).2))->
      ∃L h' tk,s'={ s with heap:=h',toks:=tk }/\SetT (SK prog w) h' s.heap.objs.size L/\L.length<=Lk.length/\(∀x,x∈L.map (·.1)↔x∈Lk.map (·.1))/\(∀p∈L,p∈Lk)/\(∀b o,s.heap.get? b=À o->h'.get? b=À o):=by
     intro o s' L' hm ST ln me pa;obtain⟨h',g',d',Au,GY⟩:=s';obtain rfl:g'=s.gens:=hm.gens;obtain rfl:d'=s.drawn:=hm.drawn;obtain rfl:GY=s.os:=hm.os;refine⟨L',h',Au,rfl,ST,by rw[<-ES];exact ln,λx=>(me x).trans (keys x),λp mp=>?_,λb o e=>?_⟩
     .obtain⟨j,j1,j2⟩:=pa p mp
      rw[j2];exact(G7 j j1).2
     .have hb:=zJ e
      exact hm.heap b o (by erw[zg,zA,kO,yw];exact⟨zL hb,zL (by rw[sz];exact jH hb)⟩) (zc _ (old _ _ e))
    rcases hT with rfl | rfl
    .have a1:=F.sub_list_set;have a2:=F.sub_list_frozenset
     have a3:(Č "list" == Č "dict")=Ä:=by decide
     have G5:h1.IsList l us.toArray:=⟨_,Lb,rfl,nl,rfl⟩;unfold é.«set.__init__» noKeywords Ė;generalize hPI:Ĭ=PI;wp_walk
     subst hPI;refine v9 G5 (za (xK ?_));refine oz ((Walks.list N8 _ l Lc us.toArray).toS) s.heap.objs.size IZ (λj=>(Lk.getD j ([],0)).1) (λj=>(Lk.getD j ([],0)).2) G6 N9 (by rw[ES];exact hb) hw (us.toArray.size-0) 0 _ [] ∅ (j9 _) ⟨⟨_,zH _ rfl,rfl,rfl⟩,G5.push _⟩ (S0 _) (zy _) (λx=>⟨λm=>(by cases m),λ⟨j,j1,_⟩=>absurd j1 (Nat.not_lt_zero _)⟩) (λp mp=>(by cases mp)) (AY _) λs' L' hm ST ln me pa=>?_
     show É _ _ _ _ _ _
     refine zf ?_;show É _ _ (ret Ö) _ _ _
     exact zf ⟨rfl,fin s' L' hm ST ln me pa⟩
    .have a1:=sub_tuple_set;have a2:=sub_tuple_frozenset
     have a3:(Č "tuple" == Č "dict")=Ä:=by decide
     have G5:h1.IsTuple l us.toArray:=⟨_,Lb,rfl,nl,rfl⟩;unfold é.«set.__init__» noKeywords Ė;generalize hPI:Ĭ=PI;wp_walk
     subst hPI;refine yg G5 (za (xK ?_));refine oz ((Walks.tuple N8 _ l Lc us.toArray).toS) s.heap.objs.size IZ (λj=>(Lk.getD j ([],0)).1) (λj=>(Lk.getD j ([],0)).2) G6 N9 (by rw[ES];exact hb) hw (us.toArray.size-0) 0 _ [] ∅ (j9 _) ⟨⟨_,zH _ rfl,rfl,rfl⟩,G5.at λo e=>zc _ e⟩ (S0 _) (zy _) (λx=>⟨λm=>(by cases m),λ⟨j,j1,_⟩=>absurd j1 (Nat.not_lt_zero _)⟩) (λp mp=>(by cases mp)) (AY _) λs' L' hm ST ln me pa=>?_
     show É _ _ _ _ _ _
     refine zf ?_;show É _ _ (ret Ö) _ _ _
     exact zf ⟨rfl,fin s' L' hm ST ln me pa⟩
   .cases M0 with
    | error e=>exact EQ
    | ok fl₂=>
     cases fl₂ with
     | ret r=>
      obtain⟨rfl,L,h',tk,rfl,Ee,z1,z2,z3,z4⟩:=EQ;repeat (any_goals (first | assumption | wp_step))
      exact k L h' tk Ee z1 z2 z3 z4
     | _=>exact EQ.elim
  | _=>exact hr.elim
end
def SOk.congr{t t':Ó}{es:List (Int×Ã)}{R:List (Nat×(Int×Ã))}(S:SOk t es R)(m:t'.mask=t.mask)(p:t'.place=t.place)(d:t'.dummies=t.dummies):SOk t' es R:=
 ⟨⟨d.trans S.T.nod,by rw[p];exact S.T.up,by rw[p,m];exact S.T.le,by rw[m];exact S.T.pow,by rw[p,m];exact S.T.room⟩,by rw[p];exact S.pl,S.es,λr hr=>(S.on r hr).mono m.symm λj hj=>by rw[p];exact hj,by rw[p,m];exact S.few⟩
section
variable{prog:Ï}{w:Ô}{A:Ù}{E:Ã->Å->Prop}{s:Å}
def SetT.tab{h:Õ}{L:List (List Ç×È)}(S:SetT (SK prog w) h a L):∃o es ep t R,h.get? a=À o/\o.ExactSet/\o.data=.set es ep t/\t.mask<=8191/\t.led=(!w.params.followText "set-order")/\SOk t es.toList R/\es.toList=L.map (λp=>(Ë (SK prog w) p.1,Ê p.2))/\es.size=L.length/\t.place.size=L.length:=by
 obtain⟨o,es,ep,t,R,h1,h2,h3,h4,h5,h6,h7,_⟩:=S;have Ag:es.size=L.length:=by have:=jj Ú h7;simpa using this
 refine⟨o,es,ep,t,R,h1,h2,h3,h4,h5,h6,h7,Ag,?_⟩;have a1:=jj Ú h6.pl;have a2:=jj Ú h6.es;erw[zG,zU] at a1 a2;omega
def tO{L:List (List Ç×È)}{more:Nat}(hS:SetT (SK prog w) s.heap a L)(hb:L.length+more<=900)
  (k:∀h' L',Ü a s.heap h'->SetT (SK prog w) h' a L'->L'.Perm L->(∃o es ep t,h'.get? a=À o/\o.data=.set es ep t/\(L.length+more)*5<t.mask*3)->Q () { s with heap:=h' }):É (Í prog w) A (setRoomFor a more) Q E s:=by
 have Ld:=hS;obtain⟨o,es,ep,t,R,h1,h2,h3,h4,h5,h6,h7,Ag,AJ⟩:=hS.tab;obtain⟨_,_,_,_,_,_,_,_,_,_,_,_,nd,hT⟩:=Ld;have HN:s={ s with heap:=s.heap }:=by cases s;rfl
 unfold setRoomFor;refine za (jh h1 h3 h6.fits ?_);dsimp only;have fl:t.fill=L.length:=by unfold Ĥ;rw[h6.T.nod,AJ];rfl
 by_cases c:(t.fill+more)*5>=t.mask*3
 .have e:t.roomFor more=À ((t.place.size+more)*2):=by unfold SetTable.roomFor;rw[zQ c]
  rw[e];dsimp only;obtain⟨kk,a1,b1⟩:=h6.T.pow;have:2 ^ 3<=2 ^ kk:=jZ ∅ a1;refine oA (knd:=SK prog w) (L:=L) h1 h2 h3 h6.fits h5 h7 nd hT ∅ ∅ ∅ λh' L' sb ST pe mk=>?_
  obtain⟨o',es',Hq,t',m1,m2,m3⟩:=mk;exact k h' L' sb ST pe ⟨o',es',Hq,t',m1,m2,by omega⟩
 .have e:t.roomFor more=Á:=by unfold SetTable.roomFor;rw[zX c]
  rw[e];dsimp only;rw[HN];exact zf (k s.heap L (vG _ _) hS (qL _) ⟨o,es,ep,t,h1,h3,by omega⟩)
def sv{L:List (List Ç×È)}(ne:r≠S)(hr:SetT (SK prog w) s.heap r [])(hS:SetT (SK prog w) s.heap S L)(hb:L.length<=800)
  (k:∀h' L',Ü r s.heap h'->SetT (SK prog w) h' r L'->L'.Perm L->Q () { s with heap:=h' }):É (Í prog w) A (setMerge r S each) Q E s:=by
 obtain⟨o,es,ep,t,R,h1,h2,h3,h4,h5,h6,h7,Ag,AJ⟩:=hS.tab;have Ld:=hS;obtain⟨_,_,_,_,_,_,_,_,_,_,_,_,nd,hT⟩:=Ld;have HN:s={ s with heap:=s.heap }:=by cases s;rfl
 unfold setMerge;rw[zX (by simpa using ne)];refine za (jh h1 h3 h6.fits ?_);dsimp only;by_cases em:es.isEmpty=Â
 .rw[zQ em]
  have:L=[]:=vO.mp (by rw[<-Ag];simpa using em);subst this;rw[HN];exact zf (k s.heap [] (vG _ _) hr (qL _))
 .rw[zX em]
  have pos:0<es.size:=by
   rcases Nat.eq_zero_or_pos es.size with z | z
   .exact absurd (by simpa using z) em
   .exact z
  refine za (tO hr (by simp;omega) λh' L0 sb ST pe rm=>?_);have:L0=[]:=pe.eq_nil;subst this;obtain⟨o1,El,Oa,t1,g1,g2,g3⟩:=rm;obtain⟨o2,LH,M3,t2,R2,f1,f2,f3,f4,f5,f6,f7,ET,Da⟩:=ST.tab;have:o1=o2:=zW (g1.symm.trans f1);subst this;rw[f3] at g2;cases g2;have Ee:h'.get? S=À o:=(sb.2 S (jn ne)).trans h1;refine za (jh f1 f3 f6.fits ?_);dsimp only;have fl:t1.fill=0:=by unfold Ĥ;rw[f6.T.nod,Da];rfl
  obtain⟨o0,SZ,S3,t0,_,q1,_,q3,_⟩:=hr.tab;have AZ:∀p∈L,Ñ (SK prog w) h' p.1 p.2:=λp hp=>ah (hT p hp) q1 q3 sb
  have bb:(t1.led&&t.led) = !w.params.followText "set-order":=by rw[f5,h5,Bool.and_self]
  by_cases c:(t1.mask==t.mask&&t.dummies.isEmpty)=Â
  .have rd:t1.road t=.slotForSlot:=by unfold SetTable.road;rw[zX (by simp[fl]),zQ c]
   rw[rd];dsimp only;have S':SOk { t with finger:=t1.finger,led:=t1.led&&t.led,moves:=t1.moves,plain:=t1.plain&&t.plain } es.toList R:=h6.congr rfl rfl rfl;obtain⟨_,M4⟩:=dc (knd:=SK prog w) f1 f2 f3 (t':={ t with finger:=t1.finger,led:=t1.led&&t.led,moves:=t1.moves,plain:=t1.plain&&t.plain }) (es':=es) (L':=L) h4 bb S' h7 nd AZ;exact wpAny_storeSet_of f1 f3 (k _ L (sb.trans (Heap.SameBut.update _ _ _)) M4 (List.Perm.refl _)) (by rw[Ag,sizeLine_eq];omega)
  .have rd:t1.road t=.clean:=by unfold SetTable.road;rw[zX (by simp[fl]),zX c]
   rw[rd];dsimp only;obtain⟨kk,a1,b1⟩:=f6.T.pow;obtain⟨t',order,e1,e2,e3,e4,e5,e6,Ob,R',S'⟩:=Kb (mask:=t1.mask) (k:=kk) b1 a1 es (by simpa using g3) t1.finger t1.moves (t1.led&&t.led) (t1.plain&&t.plain);rw[e1];have hz:(order.filterMap (es[·]?)).size=es.size:=by rw[<-zU,Ob.length_eq,zU]
   refine za (pZ (v:=(order.filterMap (es[·]?),t')) (zX (by rw[hz];simp)) ?_);dsimp only;obtain⟨L',p1,p2⟩:=xb (f:=λp:List Ç×È=>(Ë (SK prog w) p.1,Ê p.2)) Ob.symm h7;obtain⟨_,M4⟩:=dc (knd:=SK prog w) f1 f2 f3 (t':=t') (es':=order.filterMap (es[·]?)) (L':=L') (by rw[e2];exact f4) (by rw[e3];exact bb) S' p2.symm ((p1.map (·.1)).nodup_iff.mpr nd) (λp hp=>AZ p (p1.mem_iff.mp hp));exact uo f1 f3 (k _ L' (sb.trans (qg _ _ _)) M4 p1) (by rw[hz,Ag,jA];omega)
def lP{o:ó}{es:Array (Int×Ã)}{t:Ó}{R:List (Nat×(Int×Ã))}(ho:s.heap.get? S=À o)(hd:o.data=.set es ep t)(S0:SOk t es.toList R)(xa:t.led = !w.params.followText "set-order")
  (k:∀es' d,es'.toList.Perm es.toList->Q es' { s with drawn:=d }):É (Í prog w) A (setWalk S) Q E s:=by
 unfold setWalk;refine za (jh ho hd S0.fits ?_);dsimp only;refine za (yi ?_);by_cases bt:w.params.followText "set-order" = Â
 .rw[zQ bt]
  exact za (yJ (zf (k _ s.drawn (gU _ es))))
 .rw[zX bt]
  have bt:w.params.followText "set-order" = Ä:=by simpa using bt
  by_cases dr:(!t.plain&&decide (es.size>1))=Â
  .refine gO (show(!t.plain&&decide (es.size>1))=Â from dr) ?_
   exact za (nS es.size es.toList s (by simp) λys d pe=>zf (k _ d (by simpa using pe)))
  .have dr:(!t.plain&&decide (es.size>1))=Ä:=by simpa using dr
   refine bo (show(!t.plain&&decide (es.size>1))=Ä from dr) ?_;refine za (pZ (v:=()) (zX (by rw[xa,bt];simp)) ?_);exact zf (k es s.drawn (qL _))
def Vs{l:List (Int×Ã)}{o:ó}{es:Array (Int×Ã)}{R:List (Nat×(Int×Ã))}(others:List È)(ho:s.heap.get? S=À o)(hd:o.data=.set es ep t)(S0:SOk t es.toList R){L:List (List Ç×È)}(h7:es.toList=L.map (λp=>(Ë (SK prog w) p.1,Ê p.2)))(hT:∀p∈L,Ñ (SK prog w) s.heap p.1 p.2)(ne:L≠[])
  (q:Q Ä s):É (Í prog w) A (setsQuiet (S::others)) Q E s:=by
 cases L with
 | nil=>exact absurd rfl ne
 | cons p L=>
  unfold setsQuiet;refine za ?_;rw[vP];refine za (za (wO ho hd S0.fits ?_));refine za ?_;rw[<-wI,h7,zz,vP];dsimp only;refine ö (ö (Ŧ (hT p (List.mem_cons_self ..)).typeIs F.slot_tuple_eq.lookup ?_));rw[if_pos (by decide)];exact zf (zf (zf (zf (zf q))))
def i6{o:ó}{es:Array (Int×Ã)}{t:Ó}{R:List (Nat×(Int×Ã))}(ho:s.heap.get? S=À o)(hd:o.data=.set es ep t)(S0:SOk t es.toList R)(xa:t.led = !w.params.followText "set-order"){L:List (List Ç×È)}(h7:es.toList=L.map (λp=>(Ë (SK prog w) p.1,Ê p.2)))(hT:∀p∈L,Ñ (SK prog w) s.heap p.1 p.2)(ne:L≠[])
  (k:∀es' d,es'.toList.Perm es.toList->Q es' { s with drawn:=d }):É (Í prog w) A (Ř S others filled) Q E s:=by
 unfold Ř;refine za (jh ho hd S0.fits ?_);dsimp only;refine za (yi ?_);split
 .exact lP ho hd S0 xa k
 .refine za (Vs (l:=[]) others ho hd S0 h7 hT ne ?_)
  rw[zQ (by decide)];exact lP ho hd S0 xa k
def Vq{L0 L:List (List Ç×È)}(hu:A.units<õ)(ne:r≠S)(hr:SetT (SK prog w) s.heap r L0)(n0:L0≠[])(hS:SetT (SK prog w) s.heap S L)(hb:L0.length+L.length<=800)
  (Dx:∀(s':Å) (Q':Unit->Å->Prop),(∀o,s.heap.get? S=À o->s'.heap.get? S=À o)->Q' () s'->É (Í prog w) A each Q' E s')
  (k:∀h' L' d,Ü r s.heap h'->SetT (SK prog w) h' r L'->L'.length<=L0.length+L.length->(∀x,x∈L'.map (·.1)↔x∈L0.map (·.1)\/x∈L.map (·.1))->(∀p∈L',p∈L0\/p∈L)->Q () { s with heap:=h',drawn:=d }):É (Í prog w) A (setMerge r S each) Q E s:=by
 obtain⟨o,es,ep,t,R,h1,h2,h3,h4,h5,h6,h7,Ag,AJ⟩:=hS.tab;have Ld:=hS;obtain⟨_,_,_,_,_,_,_,_,_,_,_,_,nd,hT⟩:=Ld;have HN:s={ s with heap:=s.heap,drawn:=s.drawn }:=by cases s;rfl
 unfold setMerge;rw[zX (by simpa using ne)];refine za (jh h1 h3 h6.fits ?_);dsimp only;by_cases em:es.isEmpty=Â
 .rw[zQ em]
  have:L=[]:=vO.mp (by rw[<-Ag];simpa using em);subst this;rw[HN];exact zf (k s.heap L0 s.drawn (vG _ _) hr (by simp) (λx=>by simp) λp hp=>.inl hp)
 .rw[zX em]
  have nL:L≠[]:=λz=>by subst z;simp at Ag;exact em (by simpa using Ag)
  refine za (tO hr ∅ λh' L1 sb ST pe rm=>?_);obtain⟨o2,LH,M3,t2,R2,f1,f2,f3,f4,f5,f6,f7,ET,Da⟩:=ST.tab;have Ee:h'.get? S=À o:=(sb.2 S (jn ne)).trans h1;refine za (jh f1 f3 f6.fits ?_);dsimp only;have l1:0<L1.length:=by rw[pe.length_eq];exact List.length_pos_iff.mpr n0
  have rd:t2.road t=.oneByOne:=by
   have nz:t2.place.size≠0:=by omega
   unfold SetTable.road Ĥ;rw[f6.T.nod,zQ (by simpa using nz)]
  rw[rd];dsimp only;obtain⟨oq,_,_,_,_,q1,_,q3,_⟩:=hr.tab;have AZ:∀p∈L,Ñ (SK prog w) h' p.1 p.2:=λp hp=>ah (hT p hp) q1 q3 sb
  refine za (i6 (s:={ s with heap:=h' }) Ee h3 h6 h5 h7 AZ nL λes' d pw=>?_);obtain⟨L2,p1,p2⟩:=xb (f:=λp:List Ç×È=>(Ë (SK prog w) p.1,Ê p.2)) pw.symm h7;rw[<-wI,<-p2];refine za ?_;refine wD _ (λrest _ s'=>∃done left h2 L',L2=done++left/\rest=left.map (λp:List Ç×È=>(Ë (SK prog w) p.1,Ê p.2))/\s'={ s with heap:=h2,drawn:=d }/\Ü r s.heap h2/\SetT (SK prog w) h2 r L'/\L'.length<=L0.length+done.length/\(∀x,x∈L'.map (·.1)↔x∈L0.map (·.1)\/x∈done.map (·.1))/\∀p∈L',p∈L0\/p∈L) _ ?_ ?_ _ _ ⟨[],L2,h',L1,rfl,rfl,rfl,sb,ST,by rw[pe.length_eq];simp,λx=>by rw[(pe.map (·.1)).mem_iff];simp,λp hp=>.inl (pe.mem_iff.mp hp)⟩
  .rintro x rest b s' ⟨done,left,Ay,L',e1,e2,rfl,Ea,Eo,ln,me,pa⟩
   cases left with
   | nil=>cases e2
   | cons q left=>
    cases e2;have mq:q∈L:=p1.mem_iff.mp (by rw[e1];exact zZ _ (zF ..));have M5:done.length+left.length+1=L.length:=by
     have:=jj Ú e1;rw[p1.length_eq,zR,zE] at this;omega
    have kq:Ñ (SK prog w) Ay q.1 q.2:=ah (hT q mq) q1 q3 Ea;have Rt:Ay.get? S=À o:=(Ea.2 S (jn ne)).trans h1;dsimp only;refine za (jm (nO (knd:=SK prog w) (s:={ s with heap:=Ay,drawn:=d }) (L:=L') hu Eo kq ∅ λadded Ep L3 G3 M6 HS=>?_));have Oc:Ep.get? S=À o:=(G3.2 S (jn ne)).trans Rt;refine za (Dx { s with heap:=Ep,drawn:=d } _ (λo' e=>?_) ?_)
    .rw[h1] at e;cases e;exact Oc
    refine za (jh (s:={ s with heap:=Ep,drawn:=d }) Oc h3 h6.fits ?_);rw[zX (by simp)];refine zf ⟨done++[q],left,Ep,L3,by rw[e1];simp,rfl,rfl,Ea.trans G3,M6,?_,λx=>?_,λp hp=>?_⟩
    .rw[HS.length_eq,zR,qK]
     split
     .omega
     .rw[zE];omega
    .rw[(HS.map (·.1)).mem_iff,qz,zx]
     have mx:=me x;split
     .rename_i c
      rw[mx];constructor
      .rintro(z | z)
       .exact .inl z
       .exact .inr (.inl z)
      .rintro(z | z | z)
       .exact .inl z
       .exact .inr z
       .have:x=q.1:=by simpa using z
        subst this;exact(me _).mp c
     .rw[zz,zg,mx]
      constructor
      .rintro(z | z | z)
       .exact .inr (.inr (by simp[z]))
       .exact .inl z
       .exact .inr (.inl z)
      .rintro(z | z | z)
       .exact .inr (.inl z)
       .exact .inr (.inr z)
       .exact .inl (by simpa using z)
    .have:=HS.mem_iff.mp hp
     split at this
     .exact pa p this
     .rcases zg.mp this with z | z
      .exact .inr (z▸mq)
      .exact pa p z
  .rintro b s' ⟨done,left,Ay,L',e1,e2,rfl,Ea,Eo,ln,me,pa⟩
   have:left=[]:=by cases left with | nil=>rfl | cons _ _=>cases e2
   subst this;rw[vQ] at e1;subst e1;refine zf (k Ay L' d Ea Eo (by rw[<-p1.length_eq];exact ln) (λx=>?_) pa);rw[me x,(p1.map (·.1)).mem_iff]
end
section
variable{prog:Ï}{w:Ô}{A:Ù}{E:Ã->Å->Prop}{s:Å}
def XF:Ų table "set.__or__" = À é.«frozenset.__or__»:=xN (id':="frozenset.__or__") SJ rfl ⋯ SJ
def VD:Ų table "set.__and__" = À é.«frozenset.__and__»:=xN (id':="frozenset.__and__") SJ rfl ⋯ SJ
def dn(hT:s.TypeIs (.ref a) "set")(h:Q Â s):É (Í prog w) A (Ć (.ref a)) Q E s:=by
 unfold Ć;refine za (qM (b:=Â) hT (by rw[vM];kernel_rfl) ?_);exact zf h
def tE(hT:s.TypeIs (.ref a) "set")(h:Q (.type "set") s):É (Í prog w) A (ĥ a) Q E s:=by
 unfold ĥ;refine za (qM (b:=Â) hT (by rw[vM];kernel_rfl) ?_);exact zf h
def XI{L1 L2:List (List Ç×È)}(hu:A.units+10<õ)(h1:SetT (SK prog w) s.heap S1 L1)(h2:SetT (SK prog w) s.heap S2 L2)(ne:S1≠S2)(hb:L1.length+L2.length<=800)
  (k:∀S h' L' d,s.heap.objs.size<=S->SetT (SK prog w) h' S L'->L'.length<=L1.length+L2.length->(∀x,x∈L'.map (·.1)↔x∈L1.map (·.1)\/x∈L2.map (·.1))->(∀p∈L',p∈L1\/p∈L2)->(∀b o,s.heap.get? b=À o->h'.get? b=À o)->Q (.ref S) { s with heap:=h',drawn:=d }) :
  É (Í prog w) A (â .BitOr (.ref S1) (.ref S2)) Q E s:=by
 have T1:s.TypeIs (.ref S1) "set":=by obtain⟨o,_,_,_,_,a,b,_⟩:=h1.tab;exact⟨o,a,b.1⟩
 have T2:s.TypeIs (.ref S2) "set":=by obtain⟨o,_,_,_,_,a,b,_⟩:=h2.tab;exact⟨o,a,b.1⟩
 refine ſ T1 T2 F.fills_set_or F.slot_set_or (jk F.slot_set_or T1 XF ?_ (F.args_set_or_2 _ _));show É _ _ (đ "__or__" ⟨[.ref S1,.ref S2],[]⟩ >>= _) _ _ _
 refine za (show É _ _ (đ "__or__" ⟨[.ref S1,.ref S2],[]⟩) _ _ _ from za (zf (zf ?_)));erw[zO,ju];refine za (show É _ _ (Ć (.ref S1) >>= _) _ _ _ from za (dn T1 ?_));refine dn T2 ?_;rw[zX (by decide)];refine za (zf ?_);refine za ?_;show É _ _ (Builtin.Frozenset.copyOf S1 >>= _) _ _ _
 let h3:Õ:=s.heap.push { cls:=.type "set",dict:=Á,data:=.set #[] 0 (.fresh 0 0 (!w.params.followText "set-order")) }
 have kp:∀b o,s.heap.get? b=À o->h3.get? b=À o:=λb o e=>zc _ e
 have fr:SetT (SK prog w) h3 s.heap.objs.size []:=SetT.fresh _ rfl (zH _ rfl);have LI:S1<s.heap.objs.size:=by obtain⟨o,_,_,_,_,a,_⟩:=h1.tab;exact zJ a
 have Ih:S2<s.heap.objs.size:=by obtain⟨o,_,_,_,_,a,_⟩:=h2.tab;exact zJ a
 have s1:SetT (SK prog w) h3 S1 L1:=h1.kept (λo e=>kp _ o e) λp _ o e=>kp _ o e
 have s2:SetT (SK prog w) h3 S2 L2:=h2.kept (λo e=>kp _ o e) λp _ o e=>kp _ o e
 refine za (show É _ _ (ĥ S1 >>= _) _ _ _ from za (tE T1 (za (Zz ?_))));refine za (zf ?_);refine za (sv (s:={ s with heap:=h3 }) (zL LI).symm fr s1 ∅ λh4 L4 M7 Ii Ij=>?_);refine zf ?_;have nq:((Ê S2 != Ê S1)=Â):=by simp[jn ne]
 rw[zQ nq];have M8:SetT (SK prog w) h4 S2 L2:=s2.kept (λo e=>(M7.2 _ (zL Ih)).trans e) λp hp o e=>by
  obtain⟨_,_,_,_,_,_,_,_,_,_,_,_,_,hT⟩:=h2;obtain⟨o',_,_,e1,_⟩:=hT p hp;exact(M7.2 _ (zL (zJ e1))).trans e
 refine za (zf ?_);refine za (jm ?_);unfold Ė;obtain⟨o2,LH,M3,t2,R2,g1,g2,g3,g4,g5,g6,g7,ET,Da⟩:=M8.tab;refine za (dn (s:={ s with heap:=h4 }) ⟨o2,g1,g2.1⟩ ?_);rw[zQ rfl];refine za (zf ?_);unfold Builtin.Frozenset.merge;refine za (qD (s:={ s with heap:=h4 }) g1 g3 g6.fits ?_);have M9:∀b o,s.heap.get? b=À o->h4.get? b=À o:=λb o e=>(M7.2 _ (zL (zJ e))).trans (kp _ _ e)
 have fin:∀h5 L5 d,Ü s.heap.objs.size h4 h5->SetT (SK prog w) h5 s.heap.objs.size L5->L5.length<=L1.length+L2.length->(∀x,x∈L5.map (·.1)↔x∈L1.map (·.1)\/x∈L2.map (·.1))->(∀p∈L5,p∈L1\/p∈L2)->Q (.ref s.heap.objs.size) { s with heap:=h5,drawn:=d }:=λh5 L5 d G8 G9 ln me pa=>
  k _ h5 L5 d (zy _) G9 ln me pa λb o e=>(G8.2 _ (zL (zJ e))).trans (M9 b o e)
 by_cases z:L1=[]
 .subst z
  have:L4=[]:=Ij.eq_nil;subst this;refine sv (s:={ s with heap:=h4 }) (zL Ih).symm Ii M8 ∅ λh5 L5 G8 G9 Na=>?_
  refine zf (zf ⟨_,rfl,λe=>(by cases e),?_⟩);have:=fin h5 L5 s.drawn G8 G9 (by rw[Na.length_eq];simp) (λx=>by rw[(Na.map (·.1)).mem_iff];simp) λp hp=>.inr (Na.mem_iff.mp hp)
  exact this
 .have n4:L4≠[]:=λe=>z (by subst e;exact Ij.symm.eq_nil)
  refine Vq (s:={ s with heap:=h4 }) (by simp;omega) (zL Ih).symm Ii n4 M8 (by rw[Ij.length_eq];exact hb) (λs' Q' keep q=>?_) λh5 L5 d G8 G9 ln me pa=>?_
  .unfold Ĝ
   refine za (qD (keep _ g1) g3 g6.fits ?_);rw[zX (by simp)];exact zf q
  .refine zf (zf ⟨_,rfl,λe=>(by cases e),?_⟩)
   exact fin h5 L5 d G8 G9 (by rw[Ij.length_eq] at ln;exact ln) (λx=>by rw[me x,(Ij.map (·.1)).mem_iff]) λp hp=>(pa p hp).imp (λm=>Ij.mem_iff.mp m) id
end
section
variable{prog:Ï}{w:Ô}{A:Ù}{E:Ã->Å->Prop}{s:Å}
theorem We{L:List (List Ç×È)}(hu:A.units<õ)(hS:SetT (SK prog w) s.heap a L)(hk:Ñ (SK prog w) s.heap k x)
  (h:∀r:Option Nat,r.isSome=decide (k∈L.map (·.1))->Q r s):É (Í prog w) A (setFind a (.ref x) (Ë (SK prog w) k)) Q E s:=by
 obtain⟨o,es,ep,t,R,ho,hex,hd,hm,xa,S,hL,nd,hT⟩:=hS;have Ag:es.size=L.length:=by have:=jj Ú hL;simpa using this
 have AJ:t.place.size=L.length:=by
  have a1:=jj Ú S.pl;have a2:=jj Ú S.es;erw[zG,zU] at a1 a2;omega
 obtain⟨N,n1,n2,n3⟩:=i7 S.T (Ë (SK prog w) k);show É _ _ (setFindIn a (.ref x) (Ë (SK prog w) k) (99999+1)) _ _ _
 unfold setFindIn;refine za (jh ho hd S.fits ?_);dsimp only;rw[show byScan (.ref x) es=Ä from rfl];erw[zO,ju];refine za ?_;show É _ _ (ĸ a (.ref x) (Ë (SK prog w) k) Ä 100000 Á) _ _ _
 refine m6 (knd:=SK prog w) (L:=L) (N:=N) (k:=k) hu ho hd S hL hT hk n2 n3 n1 (λi _ there=>?_) 100000 0 Á rfl (j9 _) (by unfold æ at n1;omega) λno=>?_
 .erw[zO,ju]
  refine zf (h _ ?_);obtain⟨p,p1,p2⟩:=there;rw[kJ (zK.mpr ⟨p,p1,p2⟩)];rfl
 .refine zf (h _ ?_)
  have absent:k∉L.map (·.1):=by
   intro hc;obtain⟨p,p1,p2⟩:=zK.mp hc;obtain⟨i,hi,e⟩:=qT p1;have hr:i<R.length:=by have:=jj Ú S.pl;erw[zG,zU] at this;omega
   have IV:i<t.place.size:=by omega
   have r1:R[i].1=t.place[i]:=by
    have:=jj (·[i]?) S.pl;simp[hr,IV] at this;exact this
   have r2:R[i].2=(Ë (SK prog w) p.1,Ê p.2):=by
    have:=jj (·[i]?) (S.es.trans hL);simp[hr,hi,e] at this;rw[this]
   obtain⟨n,a1,a2⟩:=S.on R[i] (qY hr);rw[r2,r1] at a1;rw[r2] at a2;dsimp only at a1 a2;rw[p2] at a1 a2;have nN:n<N:=by
    rcases yC n N with z | z
    .exact z
    .rcases jK z with z | z
     .exact absurd (a2 N z) n2
     .subst z
      rw[a1] at n2;exact absurd (by simp) n2
   refine no n i p (j9 _) nN ?_ (by rw[zM hi,e]) p2;rw[a1];exact iw S.T IV
  rw[ji absent];rfl
def nh(hS:SetT (SK prog w) s.heap S L)
  (k:∀(L':List (List Ç×È)) d es',L'.Perm L->es'.toList=L'.map (λp=>(Ë (SK prog w) p.1,Ê p.2))->Q es' { s with drawn:=d }):É (Í prog w) A (Ř S others filled) Q E s:=by
 obtain⟨o,es,ep,t,R,ho,hex,hd,hm,xa,S0,h7,nd,hT⟩:=hS;have Ag:es.size=L.length:=by have:=jj Ú h7;simpa using this
 have fin:∀(es':Array (Int×Ã)) d,es'.toList.Perm es.toList->Q es' { s with drawn:=d }:=λes' d pw=>by
  obtain⟨L2,p1,p2⟩:=xb (f:=λp:List Ç×È=>(Ë (SK prog w) p.1,Ê p.2)) pw.symm h7;exact k L2 d es' p1 p2.symm
 by_cases ne:L=[]
 .unfold Ř
  refine za (jh ho hd S0.fits ?_);dsimp only;refine ö (yi ?_);rw[if_pos (by subst ne;simp at Ag;simp[Ag])];exact lP ho hd S0 xa fin
 .exact i6 ho hd S0 xa h7 hT ne fin
def pj{r W K:È}{Lw Lk L0:List (List Ç×È)}{Q:PUnit->Å->Prop}{un:Sem Unit}{es':Array (Int×Ã)}(hu:A.units<õ)(ne1:r≠W)(ne2:r≠K)(N0:es'.toList=L0.map (λp=>(Ë (SK prog w) p.1,Ê p.2)))(p0:L0.Perm Lw)(hr:SetT (SK prog w) s.heap r [])(hW:SetT (SK prog w) s.heap W Lw)(hK:SetT (SK prog w) s.heap K Lk)(hb:Lw.length<=800)
  (Dx:∀(s':Å) (Q':Unit->Å->Prop),(∀o,s.heap.get? W=À o->s'.heap.get? W=À o)->Q' () s'->É (Í prog w) A un Q' E s')
  (k:∀h' L',Ü r s.heap h'->SetT (SK prog w) h' r L'->L'.length<=Lw.length->(∀x,x∈L'.map (·.1)↔x∈Lw.map (·.1)/\x∈Lk.map (·.1))->(∀p∈L',p∈Lw)->Q š { s with heap:=h' }) :
  É (Í prog w) A (forIn es' š λx _=>do
   Ē [x.2] (do
    let f <-setFind K x.2 x.1
    if f.isSome=Â then do
      let _ <-setAddHashed r x.2 x.1
      pure š
     else pure š)
   un
   pure (ĉ š)) Q E s:=by
 obtain⟨_,_,_,_,_,_,_,_,_,_,_,_,_,hT⟩:=hW;have Ru:=hK;obtain⟨_,_,_,_,_,_,_,_,_,_,_,_,_,Rv⟩:=Ru;obtain⟨oq,_,_,_,_,q1,_,q3,_⟩:=hr.tab;rw[<-wI,N0];refine wD _ (λrest _ s'=>∃done left h2 L',L0=done++left/\rest=left.map (λp:List Ç×È=>(Ë (SK prog w) p.1,Ê p.2))/\s'={ s with heap:=h2 }/\Ü r s.heap h2/\SetT (SK prog w) h2 r L'/\L'.length<=done.length/\(∀x,x∈L'.map (·.1)↔x∈done.map (·.1)/\x∈Lk.map (·.1))/\∀p∈L',p∈Lw) _ ?_ ?_ _ _ ⟨[],L0,s.heap,[],rfl,rfl,(by cases s;rfl),vG _ _,hr,zy _,λx=>by simp,λp hp=>(by cases hp)⟩
 .rintro x rest b s' ⟨done,left,Ay,L',e1,e2,rfl,Ea,Eo,ln,me,pa⟩
  cases left with
  | nil=>cases e2
  | cons q left=>
   cases e2;have mq:q∈Lw:=p0.mem_iff.mp (by rw[e1];exact zZ _ (zF ..));have M5:done.length+left.length+1=Lw.length:=by
    have:=jj Ú e1;rw[p0.length_eq,zR,zE] at this;omega
   have kq:Ñ (SK prog w) Ay q.1 q.2:=ah (hT q mq) q1 q3 Ea;have Rw:SetT (SK prog w) Ay K Lk:=hK.kept (λo e=>(Ea.2 _ (jn ne2)).trans e) λp hp o e=>by
    obtain⟨o',cb,m,z1,z2,z3,z4⟩:=Rv p hp;have:p.2≠r:=λz=>by
     rw[z,q1] at z1;cases z1;rw[q3] at z3;cases z3
    exact(Ea.2 _ this).trans e
   dsimp only;refine za (jm (za (We (s:={ s with heap:=Ay }) hu Rw kq λf hf=>?_)));have Od:∀Ep,Ü r Ay Ep->∀o,s.heap.get? W=À o->Ep.get? W=À o:=λEp G3 o e=>(G3.2 _ (jn ne1)).trans ((Ea.2 _ (jn ne1)).trans e)
   by_cases c:q.1∈Lk.map (·.1)
   .rw[kJ c] at hf
    rw[zQ hf];refine za (nO (knd:=SK prog w) (s:={ s with heap:=Ay }) (L:=L') hu Eo kq ∅ λadded Ep L3 G3 M6 HS=>zf ?_);refine za (Dx { s with heap:=Ep } _ (Od Ep G3) (zf ⟨done++[q],left,Ep,L3,by rw[e1];simp,rfl,rfl,Ea.trans G3,M6,?_,λx=>?_,λp hp=>?_⟩))
    .rw[HS.length_eq,zR,qK]
     split
     .omega
     .rw[zE];omega
    .have mx:=me x
     rw[(HS.map (·.1)).mem_iff,qz,zx];split
     .rename_i c2
      rw[mx];constructor
      .rintro⟨z1,z2⟩;exact⟨.inl z1,z2⟩
      .rintro⟨z1 | z1,z2⟩
       .exact⟨z1,z2⟩
       .have:x=q.1:=by simpa using z1
        subst this;exact(me _).mp c2
     .rw[zz,zg,mx]
      constructor
      .rintro(z | ⟨z1,z2⟩)
       .subst z;exact⟨.inr (by simp),c⟩
       .exact⟨.inl z1,z2⟩
      .rintro⟨z1 | z1,z2⟩
       .exact .inr ⟨z1,z2⟩
       .exact .inl (by simpa using z1)
    .have:=HS.mem_iff.mp hp
     split at this
     .exact pa p this
     .rcases zg.mp this with z | z
      .exact z▸mq
      .exact pa p z
   .rw[ji c] at hf
    rw[zX (by rw[hf];simp)];refine zf ?_;refine za (Dx { s with heap:=Ay } _ (Od Ay (vG _ _)) (zf ⟨done++[q],left,Ay,L',by rw[e1];simp,rfl,rfl,Ea,Eo,?_,λx=>?_,pa⟩))
    .rw[zR];omega
    .rw[me x,qz,zx]
     constructor
     .rintro⟨z1,z2⟩;exact⟨.inl z1,z2⟩
     .rintro⟨z1 | z1,z2⟩
      .exact⟨z1,z2⟩
      .have:x=q.1:=by simpa using z1
       subst this;exact absurd z2 c
 .rintro b s' ⟨done,left,Ay,L',e1,e2,rfl,Ea,Eo,ln,me,pa⟩
  have:left=[]:=by cases left with | nil=>rfl | cons _ _=>cases e2
  subst this;rw[vQ] at e1;subst e1;refine k Ay L' Ea Eo (by rw[<-p0.length_eq];exact ln) (λx=>?_) pa;rw[me x,(p0.map (·.1)).mem_iff]
def WV{S1 S2:È}{L1 L2:List (List Ç×È)}(hu:A.units+10<õ)(h1:SetT (SK prog w) s.heap S1 L1)(h2:SetT (SK prog w) s.heap S2 L2)(ne:S1≠S2)(hb:L1.length+L2.length<=800)
  (k:∀S h' L' d,s.heap.objs.size<=S->SetT (SK prog w) h' S L'->L'.length<=L1.length+L2.length->(∀x,x∈L'.map (·.1)↔x∈L1.map (·.1)/\x∈L2.map (·.1))->(∀p∈L',p∈L1\/p∈L2)->(∀b o,s.heap.get? b=À o->h'.get? b=À o)->Q (.ref S) { s with heap:=h',drawn:=d }) :
  É (Í prog w) A (â .BitAnd (.ref S1) (.ref S2)) Q E s:=by
 have T1:s.TypeIs (.ref S1) "set":=by obtain⟨o,_,_,_,_,a,b,_⟩:=h1.tab;exact⟨o,a,b.1⟩
 have T2:s.TypeIs (.ref S2) "set":=by obtain⟨o,_,_,_,_,a,b,_⟩:=h2.tab;exact⟨o,a,b.1⟩
 refine ſ T1 T2 F.fills_set_and F.slot_set_and (jk F.slot_set_and T1 VD ?_ (F.args_set_and_2 _ _));show É _ _ (đ "__and__" ⟨[.ref S1,.ref S2],[]⟩ >>= _) _ _ _
 refine za (show É _ _ (đ "__and__" ⟨[.ref S1,.ref S2],[]⟩) _ _ _ from za (zf (zf ?_)));erw[zO,ju];refine za (show É _ _ (Ć (.ref S1) >>= _) _ _ _ from za (dn T1 ?_));refine dn T2 ?_;rw[zX (by decide)];refine za (zf ?_);refine za ?_;unfold Builtin.Frozenset.intersection;rw[zX (by simp[jn ne])];let h3:Õ:=s.heap.push { cls:=.type "set",dict:=Á,data:=.set #[] 0 (.fresh 0 0 (!w.params.followText "set-order")) }
 have kp:∀b o,s.heap.get? b=À o->h3.get? b=À o:=λb o e=>zc _ e
 have fr:SetT (SK prog w) h3 s.heap.objs.size []:=SetT.fresh _ rfl (zH _ rfl);have LI:S1<s.heap.objs.size:=by obtain⟨o,_,_,_,_,a,_⟩:=h1.tab;exact zJ a
 have Ih:S2<s.heap.objs.size:=by obtain⟨o,_,_,_,_,a,_⟩:=h2.tab;exact zJ a
 have s1:SetT (SK prog w) h3 S1 L1:=h1.kept (λo e=>kp _ o e) λp _ o e=>kp _ o e
 have s2:SetT (SK prog w) h3 S2 L2:=h2.kept (λo e=>kp _ o e) λp _ o e=>kp _ o e
 refine za (tE T1 (za (Zz ?_)));refine za (zf (za (jm ?_)));obtain⟨o1,El,Oa,t1,R1,f1,f2,f3,f4,f5,f6,f7,Oe,Of⟩:=s1.tab;obtain⟨o2,LH,M3,t2,R2,g1,g2,g3,g4,g5,g6,g7,ET,Da⟩:=s2.tab;refine za (dn (s:={ s with heap:=h3 }) ⟨o2,g1,g2.1⟩ ?_);rw[zQ rfl];refine za (zf ?_);unfold Ŗ;refine za (za (wO (s:={ s with heap:=h3 }) g1 g3 g6.fits (zf ?_)));refine za (za (wO (s:={ s with heap:=h3 }) f1 f3 f6.fits (zf ?_)));by_cases c:LH.size>El.size
 .rw[zQ c]
  dsimp only;refine za (qD (s:={ s with heap:=h3 }) f1 f3 f6.fits ?_);refine za (nh (s:={ s with heap:=h3 }) s1 λL0 d es' pe he=>?_);refine za (pj (s:={ s with heap:=h3,drawn:=d }) (r:=s.heap.objs.size) (W:=S1) (K:=S2) (L0:=L0) (by simp;omega) (zL LI).symm (zL Ih).symm he pe fr s1 s2 ∅ (λs' Q' keep q=>?_) λh5 L5 G8 G9 ln me pa=>?_)
  .unfold Ĝ
   refine za (qD (keep _ f1) f3 f6.fits ?_);rw[zX (by simp)];exact zf q
  .refine zf (zf (zf ⟨_,rfl,λe=>(by cases e),?_⟩))
   exact k _ h5 L5 d (zy _) G9 ∅ me (λp hp=>.inl (pa p hp)) λb o e=>(G8.2 _ (zL (zJ e))).trans (kp b o e)
 .rw[zX c]
  dsimp only;refine za (qD (s:={ s with heap:=h3 }) g1 g3 g6.fits ?_);refine za (nh (s:={ s with heap:=h3 }) s2 λL0 d es' pe he=>?_);refine za (pj (s:={ s with heap:=h3,drawn:=d }) (r:=s.heap.objs.size) (W:=S2) (K:=S1) (L0:=L0) (by simp;omega) (zL Ih).symm (zL LI).symm he pe fr s2 s1 ∅ (λs' Q' keep q=>?_) λh5 L5 G8 G9 ln me pa=>?_)
  .unfold Ĝ
   refine za (qD (keep _ g1) g3 g6.fits ?_);rw[zX (by simp)];exact zf q
  .refine zf (zf (zf ⟨_,rfl,λe=>(by cases e),?_⟩))
   exact k _ h5 L5 d (zy _) G9 ∅ (λx=>(me x).trans And.comm) (λp hp=>.inr (pa p hp)) λb o e=>(G8.2 _ (zL (zJ e))).trans (kp b o e)
end
def DEs(h:Õ)(d:È)(es:Array ă)(ep:Nat):Prop:=∃o,h.get? d=À o/\o.ExactDict/\o.data=.dict es ep
section
variable{prog:Ï}{w:Ô}{A:Ù}{E:Ã->Å->Prop}{s:Å}{d it:È}{es:Array ă}{ep i:Nat}
def DEs.ty(D:DEs s.heap d es ep):s.TypeIs (.ref d) "dict":=by
 obtain⟨o,g1,g2,g3⟩:=D;exact⟨o,g1,g2.1⟩
def DEs.at{h h':Õ}(D:DEs h d es ep)(k:∀o,h.get? d=À o->h'.get? d=À o):DEs h' d es ep:=by
 obtain⟨o,g1,g2⟩:=D;exact⟨o,k _ g1,g2⟩
def UP(ns:(d==Ý)=Ä)(D:DEs s.heap d es ep)(k:Q (.ref s.heap.objs.size) { s with heap:=s.heap.push { cls:=.type "dict_keyiterator",data:=.fields #[.ref d,.int 0 0,.int es.size 0,.int ep 0] } }) :
  É (Í prog w) A (Ĭ (.ref d)) Q E s:=by
 obtain⟨o,g1,g2,g3⟩:=id D;refine uq D.ty F.slot_dict_iter (jk F.slot_dict_iter D.ty F.entry_dict_iter ?_ (F.args_dict_iter_1 _));unfold é.«dict.__iter__» Builtin.Dict.dictSlotNone;refine za (za (ũ D.ty (show É _ _ (pure (Ê d)) _ _ s from zf ?_)));show É _ _ (Builtin.Dict.showsAll d >>= λ_=>_) _ _ s
 unfold Builtin.Dict.showsAll;refine za ?_;refine bo ns (zf ?_);refine za (wpAny_dictEntries g1 g3 (za (wpAny_dictEpoch g1 g3 ?_)));exact za (jd (zf ⟨_,rfl,"dict_keyiterator",_,⟨_,zH _ rfl,rfl⟩,wM.lookup,by simpa[ÿ] using k⟩))
def ZK(hi:s.heap.IsKeyIter it d i es.size ep)(D:DEs s.heap d es ep)
  (k1:∀(Af:i<es.size) h',h'.IsKeyIter it d (i+1) es.size ep->Ü it s.heap h'->Q (À es[i].key) { s with heap:=h' })
  (hh:A.handled=Á) (k2:es.size<=i->∀h',(∀b o,b≠it->s.heap.get? b=À o->h'.get? b=À o)->Q Á { s with heap:=h' }):É (Í prog w) A (ę (.ref it)) Q E s:=by
 obtain⟨o,ho,hc,hd⟩:=id hi;obtain⟨od,g1,g2,g3⟩:=id D;unfold ę;refine za (vA (jy (name:=ù "__next__") hi.typeIs wM (jk wM hi.typeIs F.entry_dict_keyiterator_next ?_ (F.args_dict_keyiterator_next_1 _))));refine za (zf (za (za ?_)));first | refine za (wC hi.typeIs (zf (za (wpAny_fieldsOf ho hd ?_)))) | refine za (yu hi.typeIs (zf (za (wpAny_fieldsOf ho hd ?_))))
 erw[show Builtin.Dict_items.ownsTuple "dict_keyiterator" = Ä from by decide,zO,ju];refine bo (c:=(Ê d==Ö)) rfl (za (zf (za (wpAny_dictEntries g1 g3 ?_))));rw[zX (by simp)];refine za (zf (za (wpAny_dictEpoch g1 g3 ?_)));rw[zX (by simp)];refine zf ?_;by_cases Af:i<es.size
 .erw[show ¬((i:Int)<0) by omega,ju,jo,Array.getElem?_eq_getElem Af]
  refine za ?_;first | refine za (wC hi.typeIs (zf (za (yO hi.typeIs ?_)))) | refine za (yu hi.typeIs (zf (za (yO hi.typeIs ?_))))
  show É _ _ (setField (.ref it) 1 (ÿ ((i:Int)+1)) >>= λ_=>_) _ _ s
  refine za (xJ ho hd (by simp) ?_);have Ed:(s.heap.update it (Obj.mapFields (·.setIfInBounds 1 (ÿ ((i:Int)+1))))).IsKeyIter it d (i+1) es.size ep:=
   ⟨_,jD _ ho (Ũ (yh hd _)),(Obj.cls_mapFields ..).trans hc,by rw[yh hd];simp[ÿ]⟩
  refine za (jm (za (yO (s:={ s with heap:=s.heap.update it (Obj.mapFields (·.setIfInBounds 1 (ÿ ((i:Int)+1)))) }) Ed.typeIs (show É _ _ (pure es[i].key) _ _ _ from ?_))));exact zf (zf ⟨_,rfl,zf (k1 Af _ Ed (qg ..))⟩)
 .erw[show ¬((i:Int)<0) by omega,ju,jo,Array.getElem?_eq_none (j5 Af)]
  refine za ?_;first | refine za (wC hi.typeIs (zf ?_)) | refine za (yu hi.typeIs (zf ?_))
  refine(show É _ _ (setField (.ref it) 0 .none >>= λ_=>_) _ _ s from za (xJ ho hd (by simp) ?_));refine iT (by simpa using hh) λh' e=>k2 (j5 Af) h' λb o ne q=>e b o ((qb _ _ (jn ne)).trans q)
def VP(hh:A.handled=Á)(I d:È)(AB:d≠I)(es:Array ă)(ep:Nat):Walks prog w A I [I,d] [I] es.size (λi v=>∃h:i<es.size,v=es[i].key) (λi h=>h.IsKeyIter I d i es.size ep/\DEs h d es ep) where
 sub:=λb hb=>by simp at hb;simp[hb]
 frame:=λ_ _ _ st hk=>⟨st.1.at λo e=>hk I (by simp) o e,st.2.at λo e=>hk d (by simp) o e⟩
 item:=λi s Q E hi st hQ=>ZK st.1 st.2 (λAf h' g sb=>hQ _ h' s.toks ⟨Af,rfl⟩ ⟨g,st.2.at λo e=>(sb.2 d AB).trans e⟩ λb o hb e=>(sb.2 b (by simpa using hb)).trans e) hh λHI=>absurd hi (yG.mpr HI)
 done:=λs Q E st hQ=>ZK st.1 st.2 (λAf=>absurd Af (jO _)) hh λ_ h' e=>hQ h' s.toks λb o hb q=>e b o (by simpa using hb) q
 self:=λ_ _ _ _ st hQ=>wpAny_pyIter_keyiter st.1 hQ
def rj(hh:A.handled=Á)(ns:(d==Ý)=Ä)(D:DEs s.heap d es ep)(hb:es.size<900)
  (k:∀(s':Å),(∀b o,s.heap.get? b=À o->s'.heap.get? b=À o)->s'.gens=s.gens->s'.os=s.os->s.heap.objs.size<=s'.heap.objs.size->Q (es.toList.map (·.key)) s'):É (Í prog w) A (collect (.ref d)) Q E s:=by
 have Ls:d<s.heap.objs.size:=by obtain⟨o,g1,_⟩:=D;exact zJ g1
 unfold collect;refine za (xK (qt F.entry_proto_collect ?_));rw[jQ F.plain_proto_collect _];show É _ A.in1 (newList [] >>= λnl=>again (.builtin "list.__iadd__" ⟨[nl,.ref d],[]⟩)) _ _ s
 refine za (jd (zf ⟨vB yE _,qt F.entry_list_iadd ?_⟩));rw[jQ yE _];generalize hN:s.heap.objs.size=N;show É _ A.in1 (Ă (.ref N) (.ref d) (.ref N)) _ _ _
 let h1:Õ:=s.heap.push { cls:=.type "list",data:=.seq ([]:List Ã).toArray }
 have An:∀b o,s.heap.get? b=À o->h1.get? b=À o:=λb o e=>zc _ e
 have Em:h1.objs.size=N+1:=by rw[<-hN];exact jW ..
 have MQ:h1.get? N=À { cls:=.type "list",data:=.seq ([]:List Ã).toArray }:=by rw[<-hN];exact zH _ rfl
 have Nb:N≠d:=by rw[<-hN];exact(zL Ls).symm
 have D1:DEs h1 d es ep:=D.at λo e=>An _ _ e
 show É _ A.in1 _ _ _ { s with heap:=h1 }
 unfold Ă;refine za (qC (DEs.ty (s:={ s with heap:=h1 }) D1) ?_);refine bo (by simp[ŗ,Nb]) ?_;refine za (UP (s:={ s with heap:=h1 }) ns D1 ?_);let h2:Õ:=h1.push { cls:=.type "dict_keyiterator",data:=.fields #[.ref d,.int 0 0,.int es.size 0,.int ep 0] }
 have EU:∀b o,h1.get? b=À o->h2.get? b=À o:=λb o e=>zc _ e
 have Rx:h2.IsKeyIter h1.objs.size d 0 es.size ep:=⟨_,zH _ rfl,rfl,rfl⟩;have D2:DEs h2 d es ep:=D1.at λo e=>EU _ _ e
 refine za (jm (kdl_hint_dict (DEs.ty (s:={ s with heap:=h2 }) D2) ?_));refine gO ⋯ (za (vq (za ?_)));have EL:h2.get? N=À { cls:=.type "list",data:=.seq ([]:List Ã).toArray }:=EU _ _ MQ;refine(show É _ A.in1 (updateSeq N (·.push .none) >>= λ_=>updateSeq N (·.pop)) _ _ { s with heap:=h2 } from za (vY EL rfl ?_));have up1:=jD (Þ (·.push Ö)) EL rfl;refine vY up1 rfl ?_;have MU:=jD (Þ (·.pop)) up1 rfl;have off:∀b o,b≠N->h2.get? b=À o->((h2.update N (Þ (·.push Ö))).update N (Þ (·.pop))).get? b=À o:=λb o ne e=>(qb _ _ (jn ne)).trans ((qb _ _ (jn ne)).trans e)
 have EK:A.in1.handled=Á:=by simpa using hh
 have dI:d≠h1.objs.size:=by rw[Em,<-hN];exact zL (jH Ls)
 have nI:h1.objs.size≠N:=by rw[Em];exact xQ _
 have nF:N∉[h1.objs.size,d]:=by
  erw[zg,zA,kO,yw];exact⟨nI.symm,Nb⟩
 have W:=(VP (prog:=prog) (w:=w) (A:=A.in1) EK h1.objs.size d dI es ep).toS;refine zf ⟨vB F.plain_extend_loop _,ŵ W (by rw[jA];omega) N nF (.ref N) es.size 0 _ _ _ rfl (j9 _) ⟨Rx.at λo e=>off _ _ nI e,D2.at λo e=>off _ _ (jn Nb) e⟩ MU (ItemsOf.nil _) λs' acc c HP Ee EM=>?_⟩;refine(show É _ A (load N >>= λ_=>_) _ _ s' from za (xj Ee (zf ?_)));have EN:acc.toList=es.toList.map (·.key):=by
  apply yp
  .rw[zU,zG,zU];exact EM.1
  .intro j a1 a2
   obtain⟨_,z⟩:=EM.2 j acc.toList[j] (by simp);rw[z];simp
 show Q acc.toList s'
 rw[EN];refine k s' (λb ob e=>HP.heap b ob (λm=>?_) (off b ob ?_ (EU _ _ (An _ _ e)))) HP.gens HP.os (by rw[hN];exact qQ (zJ Ee))
 .have lt:=zJ e
  rw[hN] at lt;rcases zg.mp m with z | m
  .exact zL lt z
  .have z:b=h1.objs.size:=by simpa using m
   rw[z,Em] at lt;exact absurd lt (yG.mpr (qR _))
 .have lt:=zJ e
  rw[hN] at lt;exact zL lt
def Zl{xs:List (List Ç×È×Ã)}(hh:A.handled=Á)(ns:(d==Ý)=Ä)(D:s.heap.DictOfH (Ġ (SK prog w)) d xs)(hb:xs.length<64)(ne:∀p∈xs,p.1≠[])
  (k:∀(L:È) (L':List (List Ç×È)) (n:Nat) (s':Å),L'.Perm (xs.map λx=>(x.1,x.2.1))->L'.map (·.1)=kA (xs.map (·.1))->s'.heap.get? L=À (ā "list" (L'.map λp=>Ê p.2).toArray n)->s.heap.objs.size<=L->(∀b o,s.heap.get? b=À o->s'.heap.get? b=À o)->s'.gens=s.gens->s'.os=s.os->Q (.ref L) s') :
  É (Í prog w) A (ŀ (.builtin "sorted") [.ref d]) Q E s:=by
 obtain⟨o,es,ep,g1,g2,g3,g4,tk,nd⟩:=D;have len:es.size=xs.length:=by have:=jj Ú g4;simpa using this
 have ks:es.toList.map (·.key)=(xs.map λx=>(x.1,x.2.1)).map λp=>Ê p.2:=by rw[g4,kZ,kZ];rfl
 refine yt kind_sorted plain_sorted entry_sorted (args_sorted1 _) ?_;unfold é.«sorted»;refine za (m:=checkCount "sorted" 1 1 _) (zf (za (rj (by simpa using hh) ns ⟨o,g1,g2,g3⟩ ∅ λs1 k1 q1 o1 EO=>?_)));rw[ks];generalize hL:(xs.map λx=>(x.1,x.2.1))=L1 at k ks ⊢;have A3:L1.length=xs.length:=by rw[<-hL,zG]
 refine za (ud ?_ (by rw[zG,A3,jA];omega));have Hn:(s1.heap.push (ā "list" (L1.map λp=>Ê p.2).toArray 0)).get? s1.heap.objs.size=À (ā "list" (L1.map λp=>Ê p.2).toArray 0):=zH _ rfl;have kp:∀b o,s.heap.get? b=À o->(s1.heap.push (ā "list" (L1.map λp=>Ê p.2).toArray 0)).get? b=À o:=λb o e=>zc _ (k1 _ _ e)
 show É _ _ _ _ _ { s1 with heap:=s1.heap.push (ā "list" (L1.map λp=>Ê p.2).toArray 0) }
 have Ic:∀p∈L1,Ñ (SK prog w) (s1.heap.push (ā "list" (L1.map λp=>Ê p.2).toArray 0)) p.1 p.2/\p.1≠[]:=λp hp=>by
  rw[<-hL] at hp;obtain⟨x,hx,rfl⟩:=zK.mp hp;obtain⟨o',cb,m,e1,e2,e3,e4⟩:=tk x hx;exact⟨⟨o',cb,m,kp _ _ e1,e2,e3,e4⟩,ne x hx⟩
 refine za (jm (jk Ŷ ⟨_,Hn,rfl⟩ ŧ (gX (L:=L1) Hn Ic ∅ λL2 h2 n2 p2 up IX off=>⟨_,rfl,?_⟩) (ŷ _)));have e1:xs.map (·.1)=L1.map (·.1):=by rw[<-hL,kZ];rfl
 refine zf ⟨_,rfl,k _ L2 n2 _ p2 ?_ IX EO (λb o e=>off b o (λz=>?_) (kp _ _ e)) q1 o1⟩
 .rw[e1] at nd ⊢
  have IY:(L2.map (·.1)).Nodup:=((p2.map (·.1)).nodup_iff).mpr nd;refine wb (Jm IY up) (vc _) λx=>?_
  rw[ssort_mem];exact(p2.map (·.1)).mem_iff
 .have lt:=zJ e
  rw[z] at lt;exact absurd lt (yG.mpr EO)
end
end ML
namespace ML
open PySem PySem.Spec PyProof.Rows L2
noncomputable def nG:W->Option (List Ç)
 | .tup l=>strsOf l
 | _=>Á
noncomputable def eW:List W->Option (List (List Ç))
 | []=>À []
 | w::r=>(nG w).bind λk=>(eW r).map (k::·)
noncomputable def tupS(k:List Ç):W:=.tup (k.map .str)
noncomputable def fy(w:W):M W:=λh=>(qS h w).bind λl=>(eW l).bind λks=>if ks.length<890/\(kA ks).length<64/\(∀k∈ks,k≠[]) then À (.fls ((kA ks).map tupS),h) else Á
theorem nR:∀{l:List W} {k:List Ç},strsOf l=À k->l=k.map .str
 | [],k,e=>by cases e;rfl
 | .str b::r,k,e=>by
  unfold strsOf at e;split at e
  .rename_i l' e'
   cases e;rw[nR e'];rfl
  .cases e
 | .non::r,k,e=>by cases e
 | .bl _::r,k,e=>by cases e
 | .int _::r,k,e=>by cases e
 | .tup _::r,k,e=>by cases e
 | .fls _::r,k,e=>by cases e
 | .ref _::r,k,e=>by cases e
 | .fdc _::r,k,e=>by cases e
 | .fn _::r,k,e=>by cases e
def gN{l:List (List Ç)}(u:cv l):l.Nodup:=u.imp λ{a b} h e=>by subst e;rw[aw] at h;cases h
def hZ{l:List (List Ç)}(nd:l.Nodup)(h:∀x,x∈l↔x∈m):l.length=(kA m).length:=by
 have:l.Perm (kA m):=(List.perm_ext_iff_of_nodup nd (gN (vc m))).mpr λx=>(h x).trans ssort_mem.symm
 exact this.length_eq
def lY(h:∀x,x∈l↔x∈m):kA l=kA m:=wb (vc l) (vc m) λx=>ssort_mem.trans ((h x).trans ssort_mem.symm)
section
variable{X:Cx}{ag:List (È×ó)}{σ:L2.St}{H:Hp}{s:Å}{μ:List È}
theorem mW:∀{k:List Ç} {vs:List V} {us:List Ã},RWs X.K μ H (k.map .str) vs->Vals vs us->ItemsAre (SK X.prog X.w) k us
 | [],_,_,.nil,.nil=>.nil
 | x::k,_,_,.cons r rs,.cons v vs=>by
  cases r;obtain⟨t,rfl⟩:=v;exact .cons (PySem.strKind_is _ _ _ _) (mW rs vs)
def dk(I:Inv X ag σ H s)(r:RW X.K μ H (tupS k) (.ref a)):Ñ (SK X.prog X.w) s.heap k a:=by
 unfold tupS at r;cases r with
 | tup sq rs=>
  obtain⟨cb,rv,⟨o,g1,g2,n,g4⟩,_⟩:=I.tuple sq;exact⟨o,cb.toArray,n,g1,g2,g4,by simpa using mW rs rv⟩
theorem eS(I:Inv X ag σ H s):∀{l:List W} {vs:List V} {us:List Ã} {ks:List (List Ç)},eW l=À ks->RWs X.K μ H l vs->Vals vs us->
  ∃Lk:List (List Ç×È),us=Lk.map (λp=>Ê p.2)/\Lk.map (·.1)=ks/\∀p∈Lk,RW X.K μ H (tupS p.1) (.ref p.2)
 | [],_,_,_,e,.nil,.nil=>by cases e;exact⟨[],rfl,rfl,λp hp=>by cases hp⟩
 | w::l,_,_,_,e,.cons r rs,.cons v vs=>by
  obtain⟨k,e1,e2⟩:=zm.mp e;obtain⟨ks,e3,e4⟩:=zj.mp e2;subst e4;obtain⟨Lk,z1,z2,z3⟩:=eS I e3 rs vs;cases w with
  | tup l'=>
   have e5:=nR (show strsOf l'=À k from e1);subst e5;have r':=r;cases r with
   | @tup a _ _ sq _=>
    have v':=v;cases v
    exact⟨(k,a)::Lk,by rw[z1];rfl,by rw[zz,z2],λp hp=>by
     rcases zg.mp hp with rfl | hp
     .exact r'
     .exact z3 p hp⟩
  | _=>cases e1
def l8{L:List (List Ç×È)}(h:∀p∈L,RW X.K μ H (tupS p.1) (.ref p.2)):RWs X.K μ H ((L.map (·.1)).map tupS) (L.map λp=>V.ref p.2)/\Vals (L.map λp=>V.ref p.2) (L.map λp=>Ê p.2):=by
 induction L with
 | nil=>exact⟨.nil,.nil⟩
 | cons p L ih=>
  obtain⟨a,b⟩:=ih λq hq=>h q (zq _ hq)
  exact⟨.cons (h p (zF ..)) a,.cons rfl b⟩
def Inv.draw(I:Inv X ag σ H s):Inv X ag σ H { s with drawn:=d }:=⟨I.ok,I.os,I.bare,I.base,I.loc,I.cell,I.free,I.freeC,I.pin,I.hok,I.len⟩
end
section
variable{X:Cx}{cl:Cl}{a:Î}{ma:ME}{p p2 p3 pos:ĝ}
def KJ(hc:X.calm=Â)(hu:X.A.units+64<õ)(hl:X.mg "sorted" = Á)(hs:X.mg "set" = Á)(ha:SE X cl a ma)(hg:↥(Gl X "sorted"))(Hk:↥(Gl X "set"))
  (HU:↥(Ì [a] X.env=(Ä,å a X.env)::Ì [] X.env)) (HV:↥((á p3 (Ì [] X.env)).any (·.1)=Ä))
  (HL:↥(Ì [.Call (.Name "set" p2) [a] [] p3] X.env=(Ä,å (.Call (.Name "set" p2) [a] [] p3) X.env)::Ì [] X.env)) (Nc:↥((á pos (Ì [] X.env)).any (·.1)=Ä)) :
  SE X cl (.Call (.Name "sorted" p) [.Call (.Name "set" p2) [a] [] p3] [] pos) (yk fy ma):=by
 rintro ag s σ H Q I ⟨μ,h,ρ,w,h',R,er,e,k⟩;obtain⟨x,h1,e1,e⟩:=kc e;have hv:Ø "set" = À (.type "set"):=by decide +kernel
 refine jR (xw I hg hl wX ?_ (by decide) (by decide));refine vZ ?_ HL Nc;rw[HL];show É _ _ (spliced ((Ä,å (.Call (.Name "set" p2) [a] [] p3) X.env)::á pos (Ì [] X.env))) _ _ s
 have h0:∀{q:ĝ},á q (Ì [] X.env)=[]:=λ{q}=>rfl
 rw[h0];refine qO ?_;refine jR (xw I Hk hs hv ?_ (by decide) (by decide));refine jY ?_ HU HV;rw[HU];show É _ _ (spliced ((Ä,å a X.env)::á p3 (Ì [] X.env))) _ _ s
 rw[h0];refine qO (ku (ha ag s σ H (λv H1=>∃d3,Ext μ H d3 H1/\HR X.K cl d3 H1 h1/\RW X.K d3 H1 x v) I ⟨μ,h,ρ,x,h1,R,er,e1,λd3 H1 v E1 R1 r=>⟨d3,E1,R1,r⟩⟩) ?_);rintro u s1 ⟨v,H1,I1,r1,d3,E1,R1,rv⟩;refine qZ ?_;obtain⟨l,el,e⟩:=zm.mp (show(qS h1 x).bind _=À (w,h') from e);obtain⟨ks,ek,e⟩:=zm.mp e;by_cases ok:ks.length<890/\(kA ks).length<64/\(∀k∈ks,k≠[])
 .rw[zQ ok] at e
  cases e;obtain⟨d,vs,rfl,sq,ra⟩:=xc R1 rv el;cases r1;have fin:∀{us:List Ã} {T:String},(T="list" \/ T="tuple")->Vals vs us->(∃o n,s1.heap.get? d=À o/\o.cls=.type T/\o.data=.seq us.toArray n)->É (Í X.prog X.w) X.A (ŀ (.type "set") [.ref d]) (λv Ad=>É (Í X.prog X.w) X.A (ŀ (.builtin "sorted") [v]) (EP X ag σ Q) X.xe Ad) X.xe s1:=by
   intro us T hT Nd ho;obtain⟨Lk,z1,z2,z3⟩:=eS I1 ek ra Nd;have A3:Lk.length=ks.length:=by rw[<-z2,zG]
   refine oY hT ho z1 (λp hp=>dk I1 (z3 p hp)) (I1.ok.hd hc) ∅ ∅ λL h2 tk ST ln me pa kp=>?_
   have HW:∀y,y∈L.map (·.1)↔y∈ks:=λy=>by rw[<-z2];exact me y
   have nd:(L.map (·.1)).Nodup:=by obtain⟨_,_,_,_,_,_,_,_,_,_,_,_,nd,_⟩:=ST;exact nd
   have lt:L.length<64:=by have:=hZ nd HW;rw[zG] at this;omega
   refine mG (s:={ s1 with heap:=h2,toks:=tk }) (I1.ok.hd hc) ST lt (λp hp=>ok.2.2 p.1 ((HW _).mp (zK.mpr ⟨p,hp,rfl⟩))) λD L' n s' pe Bz ob le keep gg oo=>?_
   obtain⟨AK,g',d',t',GY⟩:=s';obtain rfl:g'=s1.gens:=gg;obtain rfl:GY=s1.os:=oo;have rr:∀p∈L',RW X.K d3 H1 (tupS p.1) (.ref p.2):=λp hp=>z3 p (pa p (pe.mem_iff.mp hp))
   obtain⟨q1,q2⟩:=l8 rr;have An:∀b o,s1.heap.get? b=À o->AK.get? b=À o:=λb o e=>keep b o (kp b o e)
   have EO:s1.heap.objs.size<=D:=by
    obtain⟨_,_,_,_,_,go,_⟩:=ST;exact zp (qQ (zJ go)) le
   have I2:Inv X ag σ (upd H1 D (.lst (L'.map λp=>V.ref p.2))) { s1 with heap:=AK,toks:=t',drawn:=d' }:=Inv.draw (s:={ s1 with heap:=AK,toks:=t' }) (I1.laid (t':=t') An EO ⟨by rw[zG,pe.length_eq,jA];omega,_,n,q2,ob⟩);refine⟨.ref D,_,I2,rfl,?_⟩;have Nf:L'.map (·.1)=kA ks:=Bz.trans (lY HW);rw[Nf] at q1;exact KQ.fls (k.ext E1) R1 q1 (I1.hok.fresh EO)
  rcases sq with sq | sq
  .obtain⟨cb,rv,⟨o,n,g1,g2,g3,g4⟩,_⟩:=I1.list sq
   exact qe (fin (.inl rfl) rv ⟨o,n,g1,g2,g4⟩) (λv Ad q=>qZ q) λ_ _ e=>e
  .obtain⟨cb,rv,⟨o,g1,g2,n,g4⟩,_⟩:=I1.tuple sq
   exact qe (fin (.inr rfl) rv ⟨o,n,g1,g2,g4⟩) (λv Ad q=>qZ q) λ_ _ e=>e
 .rw[zX ok] at e;cases e
end
section
variable{prog:Ï}{w:Ô}{A:Ù}{E:Ã->Å->Prop}{s:Å}
def Ze{L:List (List Ç×È)}(hl:s.heap.IsList l (L.map λp=>Ê p.2).toArray)(hT:∀p∈L,Ñ (SK prog w) s.heap p.1 p.2/\p.1≠[])(hb:L.length<64)(nd:(L.map (·.1)).Nodup)
  (k:∀(D:È) (L':List (List Ç×È)) (n:Nat) (h':Õ),L'.Perm L->L'.map (·.1)=kA (L.map (·.1))->h'.get? D=À (ā "list" (L'.map λp=>Ê p.2).toArray n)->s.heap.objs.size<=D->(∀b o,s.heap.get? b=À o->h'.get? b=À o)->Q (.ref D) { s with heap:=h' }) :
  É (Í prog w) A (ŀ (.builtin "sorted") [.ref l]) Q E s:=by
 refine yt kind_sorted plain_sorted entry_sorted (args_sorted1 _) ?_;unfold é.«sorted»;refine za (m:=checkCount "sorted" 1 1 _) (zf ?_);refine za (collect_list hl ?_ (by rw[zG,jA];omega));let h1:Õ:=(s.heap.push (ā "list" #[] 0)).update s.heap.objs.size (Þ (· ++ (L.map λp=>Ê p.2).toArray))
 have Em:h1.objs.size=s.heap.objs.size+1:=by show((s.heap.push _).update _ _).objs.size=_;rw[Heap.size_update,size_push']
 have k1:∀b o,s.heap.get? b=À o->h1.get? b=À o:=λb o e=>by
  have lt:=zJ e;show((s.heap.push _).update _ _).get? b=_
  rw[xZ _ _ _ _ (zL lt)];exact zc _ e
 refine za (ud ?_ (by rw[zG,jA];omega));have Hn:(h1.push (ā "list" (L.map λp=>Ê p.2).toArray 0)).get? h1.objs.size=À (ā "list" (L.map λp=>Ê p.2).toArray 0):=zH _ rfl;show É _ _ _ _ _ { s with heap:=h1.push (ā "list" (L.map λp=>Ê p.2).toArray 0) }
 have kp:∀b o,s.heap.get? b=À o->(h1.push (ā "list" (L.map λp=>Ê p.2).toArray 0)).get? b=À o:=λb o e=>zc _ (k1 _ _ e)
 have Ic:∀p∈L,Ñ (SK prog w) (h1.push (ā "list" (L.map λp=>Ê p.2).toArray 0)) p.1 p.2/\p.1≠[]:=λp hp=>by
  obtain⟨⟨o,cb,m,e1,e2,e3,e4⟩,ne⟩:=hT p hp;exact⟨⟨o,cb,m,kp _ _ e1,e2,e3,e4⟩,ne⟩
 refine za (jm (jk Ŷ ⟨_,Hn,rfl⟩ ŧ (gX (L:=L) Hn Ic hb λL2 h2 n2 p2 up IX off=>⟨_,rfl,?_⟩) (ŷ _)));refine zf ⟨_,rfl,k _ L2 n2 h2 p2 ?_ IX (by rw[Em];exact qR _) λb o e=>off b o (λz=>?_) (kp _ _ e)⟩
 .have IY:(L2.map (·.1)).Nodup:=((p2.map (·.1)).nodup_iff).mpr nd
  refine wb (Jm IY up) (vc _) λx=>?_
  rw[ssort_mem];exact(p2.map (·.1)).mem_iff
 .have lt:=zJ e
  rw[z,Em] at lt;exact absurd lt (yG.mpr (qR _))
end
noncomputable def YU(w:W):M W:=λh=>(getL h w).bind λl=>(eW l).bind λks=>if ks.length<64/\ks.Nodup/\(∀k∈ks,k≠[]) then À (.fls ((kA ks).map tupS),h) else Á
noncomputable def fh:List W->M W
 | [w]=>YU w
 | _=>λ_=>Á
section
variable{X:Cx}{cl:Cl}
def Kg:qh X (.builtin "sorted") (rMs X.K cl fh):=by
 rintro ag s σ H xs us Q I rs ⟨μ,h,ws,w,h',R,ax,e,k⟩;match ws,ax,e with
 | [x],.cons r .nil,e=>
  obtain⟨l,el,e⟩:=zm.mp (show(getL h x).bind _=À (w,h') from e);obtain⟨ks,ek,e⟩:=zm.mp e;by_cases ok:ks.length<64/\ks.Nodup/\(∀k∈ks,k≠[])
  .rw[zQ ok] at e
   cases e;obtain⟨d,vs,rfl,sq,ra⟩:=wc R r el;cases rs with
   | cons r1 r2=>
    cases r2;cases r1
    .obtain⟨cb,rv,⟨o,n,g1,g2,g3,g4⟩,_⟩:=I.list sq
     obtain⟨Lk,z1,z2,z3⟩:=eS I ek ra rv;have A3:Lk.length=ks.length:=by rw[<-z2,zG]
     have hl:s.heap.IsList d (Lk.map λp=>Ê p.2).toArray:=by rw[<-z1];exact⟨o,g1,g2,n,g4⟩
     refine Ze hl (λp hp=>⟨dk I (z3 p hp),ok.2.2 p.1 (by rw[<-z2];exact zK.mpr ⟨p,hp,rfl⟩)⟩) ∅ (by rw[z2];exact ok.2.1) λD L' n' AK pe Bz ob le keep=>?_
     obtain⟨q1,q2⟩:=l8 (X:=X) (μ:=μ) (H:=H) (L:=L') λp hp=>z3 p (pe.mem_iff.mp hp)
     have I2:Inv X ag σ (upd H D (.lst (L'.map λp=>V.ref p.2))) { s with heap:=AK,toks:=s.toks }:=I.laid keep le ⟨by rw[zG,pe.length_eq,jA];omega,_,n',q2,ob⟩;refine⟨.ref D,_,I2,rfl,?_⟩;rw[Bz,z2] at q1;exact KQ.fls k R q1 (I.hok.fresh le)
  .rw[zX ok] at e;cases e
end
section
variable{X:Cx}{cl:Cl}{a:Î}{ma:ME}{p2 p3:ĝ}{ag:List (È×ó)}{σ:L2.St}{H:Hp}{s:Å}{μ:List È}
structure SetV(X:Cx)(cl:Cl)(ag:List (È×ó))(σ:L2.St)(μ:List È)(H:Hp)(h1:MH)(ks:List (List Ç))(v:Ã)(s2:Å):Prop where
 ex:∃S d3 H1 L,v=.ref S/\Inv X ag σ H1 s2/\Ext μ H d3 H1/\HR X.K cl d3 H1 h1/\SetT (SK X.prog X.w) s2.heap S L/\L.length<=ks.length/\(∀x,x∈L.map (·.1)↔x∈ks)/\(∀p∈L,RW X.K d3 H1 (tupS p.1) (.ref p.2))/\H1 S=Á/\S≠X.env.locals/\S∉X.fs/\∀p∈ag,p.1≠S
def Qg(hc:X.calm=Â)(hu:X.A.units+64<õ)(hs:X.mg "set" = Á)(ha:SE X cl a ma)(Hk:Gl X "set")(HU:Ì [a] X.env=(Ä,å a X.env)::Ì [] X.env)(HV:(á p3 (Ì [] X.env)).any (·.1)=Ä)
      {ks:List (List Ç)} (I:Inv X ag σ H s) (R:HR X.K cl μ H h) (er:ER X.K μ H ρ σ) (e1:ma ρ h=À (x,h1)) (el:qS h1 x=À l) (ek:eW l=À ks) (hb:ks.length<890) :
  É (Í X.prog X.w) X.A (å (.Call (.Name "set" p2) [a] [] p3) X.env) (SetV X cl ag σ μ H h1 ks) X.xe s:=by
 have hv:Ø "set" = À (.type "set"):=by decide +kernel
 have h0:∀{q:ĝ},á q (Ì [] X.env)=[]:=λ{q}=>rfl
 refine jR (xw I Hk hs hv ?_ (by decide) (by decide));refine jY ?_ HU HV;rw[HU];show É _ _ (spliced ((Ä,å a X.env)::á p3 (Ì [] X.env))) _ _ s
 rw[h0];refine qO (ku (ha ag s σ H (λv H1=>∃d3,Ext μ H d3 H1/\HR X.K cl d3 H1 h1/\RW X.K d3 H1 x v) I ⟨μ,h,ρ,x,h1,R,er,e1,λd3 H1 v E1 R1 r=>⟨d3,E1,R1,r⟩⟩) ?_);rintro u s1 ⟨v,H1,I1,r1,d3,E1,R1,rv⟩;refine qZ ?_;obtain⟨d,vs,rfl,sq,ra⟩:=xc R1 rv el;cases r1;have fin:∀{us:List Ã} {T:String},(T="list" \/ T="tuple")->Vals vs us->(∃o n,s1.heap.get? d=À o/\o.cls=.type T/\o.data=.seq us.toArray n)->É (Í X.prog X.w) X.A (ŀ (.type "set") [.ref d]) (SetV X cl ag σ μ H h1 ks) X.xe s1:=by
  intro us T hT Nd ho;obtain⟨Lk,z1,z2,z3⟩:=eS I1 ek ra Nd;have A3:Lk.length=ks.length:=by rw[<-z2,zG]
  refine oY hT ho z1 (λp hp=>dk I1 (z3 p hp)) (I1.ok.hd hc) ∅ ∅ λL h2 tk ST ln me pa kp=>?_
  exact⟨s1.heap.objs.size,d3,H1,L,rfl,I1.kept (t':=tk) kp,E1,R1,ST,by omega,λy=>by rw[<-z2];exact me y,λp hp=>z3 p (pa p hp),I1.fresh,λz=>absurd I1.lt (by rw[<-z];exact jO _),I1.nofs (zy _),λp hp z=>absurd (zJ (I1.pin p (zZ _ hp)).1) (by rw[z];exact jO _)⟩
 rcases sq with sq | sq
 .obtain⟨cb,rv,⟨o,n,g1,g2,g3,g4⟩,_⟩:=I1.list sq
  exact fin (.inl rfl) rv ⟨o,n,g1,g2,g4⟩
 .obtain⟨cb,rv,⟨o,g1,g2,n,g4⟩,_⟩:=I1.tuple sq
  exact fin (.inr rfl) rv ⟨o,n,g1,g2,g4⟩
end
noncomputable def p9(h:MH)(w:W):Option (List (List Ç)):=(qS h w).bind eW
noncomputable def xo(f:List (List Ç)->List (List Ç)->List (List Ç))(ma mb:ME):ME:=λρ=>bnd (ma ρ) λx h1=>(p9 h1 x).bind λka=>bnd (mb ρ) (λy h2=>(p9 h2 y).bind λkb=>if ka.length+kb.length<=800/\(kA (f ka kb)).length<64/\(∀k∈f ka kb,k≠[]) then À (.fls ((kA (f ka kb)).map tupS),h2) else Á) h1
def rD(op:ī)(rel:Prop->Prop->Prop):Prop:=∀{prog:Ï} {w:Ô} {A:Ù} {E:Ã->Å->Prop} {s:Å} {S1 S2:È} {L1 L2:List (List Ç×È)} {Q:Ã->Å->Prop},A.units+10<õ->SetT (SK prog w) s.heap S1 L1->SetT (SK prog w) s.heap S2 L2->S1≠S2->L1.length+L2.length<=800->
 (∀S h' L' d,s.heap.objs.size<=S->SetT (SK prog w) h' S L'->L'.length<=L1.length+L2.length->(∀x,x∈L'.map (·.1)↔rel (x∈L1.map (·.1)) (x∈L2.map (·.1)))->(∀p∈L',p∈L1\/p∈L2)->(∀b o,s.heap.get? b=À o->h'.get? b=À o)->Q (.ref S) { s with heap:=h',drawn:=d })->
 É (Í prog w) A (â op (.ref S1) (.ref S2)) Q E s
def DM:rD .BitOr Or:=λhu h1 h2 ne hb k=>XI hu h1 h2 ne hb k
def BU:rD .BitAnd And:=λhu h1 h2 ne hb k=>WV hu h1 h2 ne hb k
section
variable{X:Cx}{cl:Cl}{a b:Î}{ma mb:ME}{p p2 p3 p4 p5 p6 pos:ĝ}{op:ī}{rel:Prop->Prop->Prop}{f:List (List Ç)->List (List Ç)->List (List Ç)}
def ou(ho:rD op rel)(hf:∀ka kb x,x∈f ka kb↔rel (x∈ka) (x∈kb))(hc:X.calm=Â)(hu:X.A.units+64<õ)(hl:X.mg "sorted" = Á)(hs:X.mg "set" = Á)(ha:SE X cl a ma)(hb:SE X cl b mb)(hg:Gl X "sorted")(Hk:Gl X "set")
  (HU:Ì [a] X.env=(Ä,å a X.env)::Ì [] X.env) (Ng:Ì [b] X.env=(Ä,å b X.env)::Ì [] X.env) (Ai:∀q:ĝ,(á q (Ì [] X.env)).any (·.1)=Ä)
  (HL:Ì [.BinOp (.Call (.Name "set" p2) [a] [] p3) op (.Call (.Name "set" p4) [b] [] p5) p6] X.env=(Ä,å (.BinOp (.Call (.Name "set" p2) [a] [] p3) op (.Call (.Name "set" p4) [b] [] p5) p6) X.env)::Ì [] X.env) :
  SE X cl (.Call (.Name "sorted" p) [.BinOp (.Call (.Name "set" p2) [a] [] p3) op (.Call (.Name "set" p4) [b] [] p5) p6] [] pos) (xo f ma mb):=by
 rintro ag s σ H Q I ⟨μ,h,ρ,w,h',R,er,e,k⟩;obtain⟨x,h1,e1,e⟩:=kc e;obtain⟨ka,Ry,e⟩:=zm.mp e;obtain⟨la,Rz,RA⟩:=zm.mp Ry;obtain⟨y,h2,e2,e⟩:=kc e;obtain⟨kb,RB,e⟩:=zm.mp e;obtain⟨lb,RD,RE⟩:=zm.mp RB;by_cases ok:ka.length+kb.length<=800/\(kA (f ka kb)).length<64/\(∀k∈f ka kb,k≠[])
 .rw[zQ ok] at e
  cases e;have h0:∀{q:ĝ},á q (Ì [] X.env)=[]:=λ{q}=>rfl
  refine jR (xw I hg hl wX ?_ (by decide) (by decide));refine vZ ?_ HL (Ai pos);rw[HL];show É _ _ (spliced ((Ä,å (.BinOp (.Call (.Name "set" p2) [a] [] p3) op (.Call (.Name "set" p4) [b] [] p5) p6) X.env)::á pos (Ì [] X.env))) _ _ s
  rw[h0];refine qO (wpAny_BinOp ?_);refine ku (Qg hc hu hs ha Hk HU (Ai p3) I R er e1 Rz RA ∅) ?_;rintro v1 s1 ⟨S1,d3,H1,L1,q1,I1,E1,R1,Og,S4,RF,Le,n1,n2,n3,_⟩;subst q1;obtain⟨o1,El,Oa,t1,S5,g1,g2,g3,_⟩:=Og.tab;have RH:Inv X (ag++[(S1,o1)]) σ H1 s1:=I1.pins_of λp hp=>by
   rcases zx.mp hp with z | z
   .exact I1.pin p (zZ _ z)
   .have:p=(S1,o1):=by simpa using z
    subst this;exact⟨g1,n1,n2,n3,λv e=>by rw[g3] at e;cases e⟩
  refine ku (Qg hc hu hs hb Hk Ng (Ai p5) RH R1 (er.ext R E1) e2 RD RE ∅) ?_;rintro v2 s2 ⟨S2,hX,H2,L2,q2,I2,E2,R2,Eo,ln2,RI,Z0,_,_,_,ne2⟩;subst q2;have LJ:Inv X ag σ H2 s2:=I2.unpinned;have RJ:s2.heap.get? S1=À o1:=(I2.pin (S1,o1) (zZ _ (zZ _ (jl.mpr rfl)))).1;have IW:S1≠S2:=ne2 (S1,o1) (zZ _ (jl.mpr rfl));have Lf:∀p∈L1,RW X.K hX H2 (tupS p.1) (.ref p.2):=λp hp=>(Le p hp).ext R1 E2
  have Nh:SetT (SK X.prog X.w) s2.heap S1 L1:=by
   obtain⟨o,es,ep,t,RR,a1,a2,a3,a4,a5,a6,a7,a8,a9⟩:=Og;rw[g1] at a1;cases a1;exact⟨_,es,ep,t,RR,RJ,a2,a3,a4,a5,a6,a7,a8,λp hp=>dk LJ (Lf p hp)⟩
  refine ho ∅ Nh Eo IW ∅ λS h4 L d4 RK Ii S6 RL RM RN=>qZ ?_
  have HW:∀y,y∈L.map (·.1)↔y∈f ka kb:=λy=>by
   rw[RL y,hf ka kb y];have z1:(y∈L1.map (·.1))=(y∈ka):=propext (RF y);have z2:(y∈L2.map (·.1))=(y∈kb):=propext (RI y);rw[z1,z2]
  have nd:(L.map (·.1)).Nodup:=by obtain⟨_,_,_,_,_,_,_,_,_,_,_,_,nd,_⟩:=Ii;exact nd
  have lt:L.length<64:=by have:=hZ nd HW;rw[zG] at this;omega
  refine mG (s:={ s2 with heap:=h4,drawn:=d4 }) (LJ.ok.hd hc) Ii lt (λp hp=>ok.2.2 p.1 ((HW _).mp (zK.mpr ⟨p,hp,rfl⟩))) λD L' n s' pe Bz ob le keep gg oo=>?_
  obtain⟨AK,g',d',t',GY⟩:=s';obtain rfl:g'=s2.gens:=gg;obtain rfl:GY=s2.os:=oo;have rr:∀p∈L',RW X.K hX H2 (tupS p.1) (.ref p.2):=λp hp=>(RM p (pe.mem_iff.mp hp)).elim (Lf p) (Z0 p)
  obtain⟨q1,q2⟩:=l8 rr;have An:∀b o,s2.heap.get? b=À o->AK.get? b=À o:=λb o e=>keep b o (RN b o e)
  have EO:s2.heap.objs.size<=D:=by
   obtain⟨_,_,_,_,_,go,_⟩:=Ii;exact zp RK (zp (qQ (zJ go)) le)
  have I3:Inv X ag σ (upd H2 D (.lst (L'.map λp=>V.ref p.2))) { s2 with heap:=AK,toks:=t',drawn:=d' }:=Inv.draw (s:={ s2 with heap:=AK,toks:=t' }) (LJ.laid (t':=t') An EO ⟨by rw[zG,pe.length_eq,jA];omega,_,n,q2,ob⟩);refine⟨.ref D,_,I3,rfl,?_⟩;rw[Bz.trans (lY HW)] at q1;exact KQ.fls (k.ext (E1.trans E2)) R2 q1 (LJ.hok.fresh EO)
 .rw[zX ok] at e;cases e
end
structure SamePW(X:Cx)(cl:Cl):Prop where
 P:cl.P=X.prog
 w:cl.w=X.w
noncomputable def mz:ME:=λ_ h=>À (.ref h.length,h++[.tdc []])
noncomputable def yA(ks:List (List Ç))(k:List Ç):List (List Ç):=if k∈ks then ks else ks++[k]
noncomputable def tW(x y v:W):M W:=λh=>match x with
 | .ref n=>match h[n]? with
  | some (.tdc ks)=>match nG y with
   | some k=>if ks.length<800 then À (.non,h.set n (.tdc (yA ks k))) else Á
   | none=>Á
  | _=>KN x y v h
 | _=>Á
noncomputable def pP(mo mi:ME):MG:=λv ρ=>bnd (mo ρ) λx=>bnd (mi ρ) λy=>bnd (tW x y v) λ_ h=>À (ρ,h)
noncomputable def uS(ws:List W):M W:=λh=>match ws with
 | [.ref n]=>match h[n]? with
  | some (.tdc ks)=>if ks.length<64/\(∀k∈ks,k≠[]) then À (.fls ((kA ks).map tupS),h) else Á
  | _=>fh ws h
 | _=>fh ws h
def Co(P:Ï)(w:Ô)(h:Õ):aS P w h.objs.size [] (h.push { cls:=.type "dict",data:=.dict #[] }):=⟨_,#[],0,zH _ rfl,⟨rfl,rfl,rfl⟩,rfl,rfl⟩
def rG:∀h1 h2:Õ,aS P w a xs h1->(∀o,h1.get? a=À o->h2.get? a=À o)->aS P w a xs h2:=λh1 h2 ⟨o,es,ep,g,r⟩ k=>⟨o,es,ep,k _ g,r⟩
def i5{xs:List (List Ç×È×Ã)}:(ł xs k b v).map (·.1)=yA (xs.map (·.1)) k:=by
 unfold ł yA;have e:(atKey xs k).isSome=Â↔k∈xs.map (·.1):=by
  unfold atKey;rw[Option.isSome_map,List.find?_isSome];erw[vW,zK]
 by_cases q:k∈xs.map (·.1)
 .rw[zQ (e.mpr q),zQ q,kZ]
  refine qy λx _=>?_
  unfold Function.comp putAt;split<;>rfl
 .rw[zX (λz=>q (e.mp z)),zX q]
  simp
def my{ks:List (List Ç)}(n:ks.Nodup):(yA ks k).Nodup:=by
 unfold yA;split
 .exact n
 .rename_i q
  rw[xx];refine⟨n,by simp,?_⟩;intro a ha b hb e;rw[jl] at hb;subst hb;subst e;exact q ha
section
variable{X:Cx}{cl:Cl}{o i:Î}{mo mi:ME}{pos:ĝ}{ag:List (È×ó)}{σ:L2.St}{H:Hp}{s:Å}{μ:List È}
def Jj{xs:List (List Ç×È×Ã)}(r:RWs X.K μ H ((xs.map (·.1)).map tupS) (xs.map λx=>.ref x.2.1))(rk:RW X.K μ H (tupS k) (.ref b)) :
  RWs X.K μ H ((yA (xs.map (·.1)) k).map tupS) ((ł xs k b v).map λx=>.ref x.2.1):=by
 rw[<-i5 (b:=b) (v:=v)];unfold ł;split
 .have e1:(xs.map (putAt k v)).map (·.1)=xs.map (·.1):=by
   rw[kZ];refine qy λx _=>?_
   unfold Function.comp putAt;split<;>rfl
  have e2:((xs.map (putAt k v)).map λx=>V.ref x.2.1)=xs.map λx=>V.ref x.2.1:=by
   rw[kZ];refine qy λx _=>?_
   unfold Function.comp putAt;split<;>rfl
  rw[e1,e2];exact r
 .erw[qz,zz,kY]
  exact r.append (.cons rk .nil)
def ZY:∀{ys:List (List Ç×È×Ã)},RWs X.K μ H ((ys.map (·.1)).map tupS) (ys.map λx=>.ref x.2.1)->∀x∈ys,RW X.K μ H (tupS x.1) (.ref x.2.1):=by
 intro ys;induction ys with
 | nil=>intro _ x hx;cases hx
 | cons y ys ih=>
  intro q x hx;cases q with
  | cons q1 q2=>
   rcases zg.mp hx with rfl | hx
   .exact q1
   .exact ih q2 x hx
def Z4(S:SamePW X cl)(I:Inv X ag σ H s){xs:List (List Ç×È×Ã)}(hp:H p=À (.ext (aS cl.P cl.w p xs)))(nd:(xs.map (·.1)).Nodup)(r:RWs X.K μ H ((xs.map (·.1)).map tupS) (xs.map λx=>.ref x.2.1)):s.heap.DictOfH (Ġ (SK X.prog X.w)) p xs:=by
 rw[S.P,S.w] at hp;obtain⟨⟨o,es,ep,g1,g2,g3,g4⟩,_⟩:=(show ObjOk X.prog X.w H s.heap p (.ext (aS X.prog X.w p xs)) from I.hok p _ hp);refine⟨o,es,ep,g1,g2,g3,g4,λx hx=>?_,nd⟩;exact dk I (ZY r x hx)
def Fq(S:SamePW X cl)(hu:X.A.units+64<õ):Jk X (λo i v H Q=>∃μ h wo wi wv w h',HR X.K cl μ H h/\RW X.K μ H wo o/\RW X.K μ H wi i/\RW X.K μ H wv v/\tW wo wi wv h=À (w,h')/\∀d5 H',Ext μ H d5 H'->HR X.K cl d5 H' h'->Q H'):=by
 rintro ag s σ H o i v ov iv u Q I ro ri rv ⟨μ,h,wo,wi,wv,w,h',R,ao,ai,av,e,k⟩;have old:KN wo wi wv h=À (w,h')->É (Í X.prog X.w) X.A (setItem ov iv u) (λ_ s'=>∃H',Inv X ag σ H' s'/\Q H') X.xe s:=λe=>D6 hu ag s σ H o i v ov iv u Q I ro ri rv ⟨μ,h,wo,wi,wv,w,h',R,ao,ai,av,e,k⟩
 unfold tW at e;split at e
 .rename_i n
  split at e
  .rename_i ks ho
   split at e
   .rename_i kk ek
    split at e
    .rename_i hl
     cases e;cases ao with | @ref _ p hn=>
     obtain⟨xs,hp,rfl,nd,ns,r⟩:=R.ob n p _ hn ho;have RO:wi=tupS kk:=by
      cases wi with
      | tup l=>unfold tupS;rw[nR (show strsOf l=À kk from ek)]
      | _=>cases ek
     subst RO;obtain⟨b,vs,rfl,sq,rs⟩:=(show RW X.K μ H (.tup (kk.map .str)) i from ai).tup_of;cases ro;cases ri;have hk:=dk I ai;have Ie:xs.length<=Ð:=by rw[zG] at hl;rw[jA];omega
     refine wpAny_setItem_heap (knd:=Ġ (SK X.prog X.w)) (hsz:=Ie) (ue ∅) hk (Z4 S I hp nd r) λh2 dd hs=>?_
     obtain⟨o2,es,ep,g1,g2,g3,g4,_,_⟩:=dd;have E:Ext μ H μ (upd H p (.ext (aS cl.P cl.w p (ł xs kk b u)))):=Ext.put hn;have td:aS cl.P cl.w p (ł xs kk b u) h2:=by rw[S.P,S.w];exact⟨o2,es,ep,g1,g2,g3,g4⟩
     refine⟨_,nH (ob:=.ext (aS cl.P cl.w p (ł xs kk b u))) I (by rw[hp];exact ø) hs ⟨o2,g1⟩ (show ObjOk X.prog X.w _ h2 p (.ext (aS cl.P cl.w p (ł xs kk b u))) from ⟨td,⟨o2,g1⟩,rG⟩),k μ _ E (R.put hn ⟨_,qa,i5,my nd,ns,?_⟩)⟩;exact(Jj r ai).ext R E
    .cases e
   .cases e
  .exact old e
 .cases e
def Xm(S:SamePW X cl)(hu:X.A.units+64<õ)(ho:SE X cl o mo)(hi:SE X cl i mi)
  (ha:∀v,Ľ (.Subscript o i pos) X.env v=(do
   let ov <-Ē [v] (å o X.env)
   let iv <-Ē [v,ov] (å i X.env)
   standAt pos
   Ē [v,ov,iv] (setItem ov iv v)
   release [v,ov,iv] [])):SG X cl (.Subscript o i pos) (pP mo mi):=
 PG.wk (BY ho hi (Fq S hu) ha) λv σ H Q ⟨μ,h,ρ,w,ρ',h',R,er,rv,e,k⟩=>by
  obtain⟨x,h1,e1,e⟩:=kc e;obtain⟨y,h2,e2,e⟩:=kc e;obtain⟨z,h3,e3,e⟩:=kc e;cases e;refine⟨μ,h,ρ,x,h1,R,er,e1,λd3 H1 vx E1 R1 rx=>⟨d3,h1,ρ,y,h2,R1,er.ext R E1,e2,λhX H2 vy E2 R2 ry=>?_⟩⟩;refine⟨hX,h2,x,y,w,z,_,R2,rx.ext R1 E2,ry,(rv.ext R E1).ext R1 E2,e3,λAN H3 E3 R3=>?_⟩;exact k AN H3 σ (E1.trans (E2.trans E3)) R3 (((er.ext R E1).ext R1 E2).ext R2 E3)
def XE(S:SamePW X cl):SE X cl (.Dict [] [] pos) mz:=by
 rintro ag s σ H Q I ⟨μ,h,ρ,w,h',R,er,e,k⟩;cases e;have hf:H s.heap.objs.size=Á:=I.hok.fresh (zy _);have td:aS cl.P cl.w s.heap.objs.size [] (s.heap.push { cls:=.type "dict",data:=.dict #[] }):=Co _ _ _;refine wpAny_Dict_empty ⟨.ref s.heap.objs.size,_,I.laid (a:=s.heap.objs.size) (o:=.ext (aS cl.P cl.w s.heap.objs.size [])) (t':=s.toks) (λ_ _ q=>zc _ q) (zy _) (show ObjOk X.prog X.w _ _ _ (.ext (aS cl.P cl.w s.heap.objs.size [])) from ⟨td,⟨_,zH _ rfl⟩,rG⟩),rfl,?_⟩;refine k _ _ _ (Ext.new hf) (R.new hf ⟨[],qa,rfl,.nil,jB.mpr (jn (zL I.big)),.nil⟩) (.ref ?_);rw[<-R.len];simp
def Zd(S:SamePW X cl)(hc:X.calm=Â):qh X (.builtin "sorted") (rMs X.K cl uS):=by
 rintro ag s σ H xs us Q I rs ⟨μ,h,ws,w,h',R,ax,e,k⟩;have old:fh ws h=À (w,h')->É (Í X.prog X.w) X.A (ŀ (.builtin "sorted") us) (EP X ag σ Q) X.xe s:=λe=>Kg ag s σ H xs us Q I rs ⟨μ,h,ws,w,h',R,ax,e,k⟩
 unfold uS at e;split at e
 .rename_i n
  split at e
  .rename_i ks ho
   split at e
   .rename_i ok
    cases e;cases ax with | cons a1 a2=>
    cases a2;cases a1 with | @ref _ p hn=>
    cases rs with | cons r1 r2=>
    cases r2;cases r1;obtain⟨ys,hp,rfl,nd,ns,r⟩:=R.ob n p _ hn ho;have dd:=Z4 S I hp nd r;refine Zl (I.ok.hd hc) ns dd (by rw[zG] at ok;exact ok.1) (λx hx=>ok.2 x.1 (zK.mpr ⟨x,hx,rfl⟩)) λD L' m s' pe Bz ob le keep gg oo=>?_
    obtain⟨AK,g',d',t',GY⟩:=s';obtain rfl:g'=s.gens:=gg;obtain rfl:GY=s.os:=oo;have rr:∀q∈L',RW X.K μ H (tupS q.1) (.ref q.2):=λq hq=>by
     obtain⟨x,hx,rfl⟩:=zK.mp (pe.mem_iff.mp hq);exact ZY r x hx
    obtain⟨q1,q2⟩:=l8 rr;have I2:Inv X ag σ (upd H D (.lst (L'.map λp=>V.ref p.2))) { s with heap:=AK,toks:=t',drawn:=d' }:=Inv.draw (s:={ s with heap:=AK,toks:=t' }) (I.laid (t':=t') keep le ⟨by rw[zG,pe.length_eq,zG,jA];rw[zG] at ok;omega,_,m,q2,ob⟩);refine⟨.ref D,_,I2,rfl,?_⟩;rw[Bz] at q1;exact KQ.fls k R q1 (I.hok.fresh le)
   .cases e
  .exact old e
 .exact old e
end
end ML
namespace ML
open PySem PySem.Spec PyProof.Rows L2
noncomputable def iD(E:Î->Option ME)(es:List Î):Option (List ME):=if es.all noStar=Â then qq E es else Á
noncomputable def uj(Γ:RC)(x:Ç):Bool:=Γ.bin.any (· == x)
noncomputable def tyOf(x:Ç):Option Ty:=if x=="int" then À .int else if x=="str" then À .str else if x=="bool" then À .bool else if x=="tuple" then À .tuple else if x=="list" then À .list else if x=="dict" then À .dict else Á
noncomputable def ly(mu:Bool)(x:Ç):Option (List W->M W):=
 if x=="len" then À kK else if x=="all" then À rB else if x=="any" then À Ck else if x=="sum" then À gW
 else if x=="int" then À WC else if x=="str" then À VO else if x=="tuple" then À bS else if x=="dict" then À iM
 else if x=="sorted" then À uS
 else if x=="list" then (match mu with
  | true=>À Kv
  | false=>À Jd)
 else Á
noncomputable def iy:List Î->Option Î
 | [.Call (.Name y _) [a] [] _]=>if y=="set" then À a else Á
 | _=>Á
noncomputable def mQ:List Î->Option (Î×ī×Î)
 | [.BinOp l op r _]=>(iy [l]).bind λa=>(iy [r]).map λb=>(a,op,b)
 | _=>Á
noncomputable def sY(Γ:RC)(E:Î->Option ME)(x:Ç)(t:Î×ī×Î):Option ME:=
 if (x=="sorted" && wl Γ.sc "set" && uj Γ "set" && noStar t.1&&noStar t.2.2)=Â then (E t.1).bind λma=>(E t.2.2).bind λmb=>match t.2.1 with
  | .BitOr=>À (xo (λa b=>a++b) ma mb)
  | .BitAnd=>À (xo (λa b=>a.filter (b.contains ·)) ma mb)
  | _=>Á
 else Á
noncomputable def sQ(Γ:RC):List Î->Option (Î×Ty)
 | [a,.Name y _]=>if (wl Γ.sc y&&uj Γ y&&noStar a)=Â then (tyOf y).map λT=>(a,T) else Á
 | _=>Á
noncomputable def tI(Γ:RC)(E:Î->Option ME)(mu:Bool)(x:Ç)(as:List Î):Option ME:=
 if x=="isinstance" then (sQ Γ as).bind λp=>(E p.1).map (yk (isW p.2))
 else match as with
  | []=>Á
  | _::_=>(ly mu x).bind λg=>(iD E as).map (ze g)
noncomputable def tV(Γ:RC)(E:Î->Option ME)(mu:Bool)(x:Ç)(as:List Î):Option ME:=
 if wl Γ.sc x=Â then (match Γ.fns.lookup x with
  | some g=>(iD E as).map (ze g)
  | none=>if uj Γ x=Â then (match iy as with
    | some a=>if (x=="sorted" && wl Γ.sc "set" && uj Γ "set" && noStar a)=Â then (E a).map (yk fy) else Á
    | none=>(match mQ as with
     | some t=>sY Γ E x t
     | none=>tI Γ E mu x as)) else Á) else Á
noncomputable def K9(E:Î->Option ME)(o:Î)(m:Ç)(apos:ĝ)(as:List Î)(pos:ĝ):Option ME:=
 if (QQ o&&(apos.endLine==pos.line)&&as.all noStar&&decide (as.length<30))=Â then (E o).bind λmo=>match as with
  | []=>if m=="pop" then À (qE lR mo []) else Á
  | a::r=>if m=="append" then (qq E (a::r)).map (qE yb mo)
   else if m=="extend" then (qq E (a::r)).map (qE x8 mo)
   else if m=="get" then (match r with
    | [b]=>(E a).bind λma=>(E b).map (mO mo ma)
    | _=>Á)
   else Á
 else Á
section
variable{Γ:RC}{cl:Cl}{k:Nat}{X:Cx}{x:Ç}{m:ME}{pos p:ĝ}{E:Î->Option ME}{as:List Î}{mu:Bool}
theorem eE:∀{es:List Î} {ms:List ME},(∀e m,E e=À m->SE X cl e m)->es.all noStar=Â->qq E es=À ms->SA X cl es ms
 | [],ms,_,_,h=>by cases h;exact mF
 | e::es,ms,hE,hn,h=>by
  obtain⟨m,S7,h1,h2,rfl⟩:=g9 h;rw[jP,zr] at hn;exact ft (hE _ _ h1) (eE hE hn.2 h2) (kC hn.1)
def dN{es:List Î}(hE:∀e m,E e=À m->SE X cl e m)(h:iD E es=À ms):es.all noStar=Â/\SA X cl es ms:=by
 unfold iD at h;split at h
 .rename_i hn
  exact⟨hn,eE hE hn h⟩
 .cases h
def yB(F:Fits Γ cl k X)(h:uj Γ x=Â):X.mg x=Á:=by
 unfold uj at h;obtain⟨y,hy,e⟩:=yq.mp h;rw[<-eq_of_beq e];exact F.base.bin.at hy
def UR{T:Ty}(h:tyOf x=À T):Ø x=À (.type T.name):=by
 unfold tyOf at h;split at h
 .rename_i q;rw[eq_of_beq q];cases h;exact ZZ
 split at h
 .rename_i q;rw[eq_of_beq q];cases h;exact Z9
 split at h
 .rename_i q;rw[eq_of_beq q];cases h;exact W3
 split at h
 .rename_i q;rw[eq_of_beq q];cases h;exact oW
 split at h
 .rename_i q;rw[eq_of_beq q];cases h;exact lj
 split at h
 .rename_i q;rw[eq_of_beq q];cases h;exact rS
 .cases h
def Zk(F:Fits Γ cl k X)(hg:wl Γ.sc x=Â)(hb:uj Γ x=Â)(h:ly mu x=À g)(hn:(e::es).all noStar=Â)(ha:SA X cl (e::es) ms):SE X cl (.Call (.Name x p) (e::es) [] pos) (ze g ms):=by
 have hm:=yB F hb;rw[jP,zr] at hn;have h1:=kC (es:=es) (env:=X.env) hn.1;have h2:=qr (pos:=pos) (env:=X.env) hn.2;unfold ly at h;split at h
 .rename_i q;have q:=eq_of_beq q;subst q;cases h;exact QM hg Qx hm PySem.boot_len ha F.sc h1 h2
 split at h
 .rename_i q;have q:=eq_of_beq q;subst q;cases h;exact QM hg (Qc F.calm) hm ML.boot_all ha F.sc h1 h2
 split at h
 .rename_i q;have q:=eq_of_beq q;subst q;cases h;exact QM hg (J2 F.calm) hm ML.boot_any ha F.sc h1 h2
 split at h
 .rename_i q;have q:=eq_of_beq q;subst q;cases h;exact QM hg (Qd F.calm) hm ML.boot_sum ha F.sc h1 h2
 split at h
 .rename_i q;have q:=eq_of_beq q;subst q;cases h;exact ZP hg QW hm ZZ ha F.sc h1 h2
 split at h
 .rename_i q;have q:=eq_of_beq q;subst q;cases h;exact ZP hg JN hm Z9 ha F.sc h1 h2
 split at h
 .rename_i q;have q:=eq_of_beq q;subst q;cases h;exact ZP hg Zi hm oW ha F.sc h1 h2
 split at h
 .rename_i q;have q:=eq_of_beq q;subst q;cases h;exact ZP hg (Kx F.calm) hm rS ha F.sc h1 h2
 split at h
 .rename_i q;have q:=eq_of_beq q;subst q;cases h;exact QM hg (Zd ⟨F.base.pw.1,F.base.pw.2⟩ F.calm) hm wX ha F.sc h1 h2
 split at h
 .rename_i q
  have q:=eq_of_beq q;subst q;split at h
  .cases h;exact ZP hg Jf hm lj ha F.sc h1 h2
  .cases h;exact ZP hg K7 hm lj ha F.sc h1 h2
 .cases h
def QL(h:sQ Γ as=À (a,T)):∃y p2,as=[a,.Name y p2]/\wl Γ.sc y=Â/\uj Γ y=Â/\noStar a=Â/\tyOf y=À T:=by
 unfold sQ at h;split at h
 .rename_i a' y p2
  split at h
  .rename_i q
   rw[zj] at h;obtain⟨T',e,z⟩:=h;cases z;erw[zr] at q;exact⟨y,p2,rfl,q.1.1,q.1.2,q.2,e⟩
  .cases h
 .cases h
def JM(F:Fits Γ cl k X)(hE:∀e m,E e=À m->SE X cl e m)(hg:wl Γ.sc x=Â)(hb:uj Γ x=Â)(h:tI Γ E mu x as=À m):SE X cl (.Call (.Name x p) as [] pos) m:=by
 unfold tI at h;split at h
 .rename_i q
  have q:=eq_of_beq q;subst q;rw[zm] at h;obtain⟨⟨a,T⟩,e,h⟩:=h;rw[zj] at h;obtain⟨ma,e2,rfl⟩:=h;obtain⟨y,p2,rfl,g2,b2,ns,ty⟩:=QL e;exact Gi T hg g2 (hE _ _ e2) (yB F hb) (yB F b2) (UR ty) F.sc (kC ns) (kC rfl) (qr rfl)
 .split at h
  .cases h
  .rw[zm] at h
   obtain⟨g,e,h⟩:=h;rw[zj] at h;obtain⟨ms,e2,rfl⟩:=h;obtain⟨hn,ha⟩:=dN hE e2;exact Zk F hg hb e hn ha
def ip(h:iy as=À a):∃p2 p3,as=[.Call (.Name "set" p2) [a] [] p3]:=by
 unfold iy at h;split at h
 .rename_i y p2 a' p3
  split at h
  .rename_i q
   cases h;rw[eq_of_beq q];exact⟨p2,p3,rfl⟩
  .cases h
 .cases h
def JI{t:Î×ī×Î}(h:mQ as=À t):∃p2 p3 p4 p5 p6,as=[.BinOp (.Call (.Name "set" p2) [t.1] [] p3) t.2.1 (.Call (.Name "set" p4) [t.2.2] [] p5) p6]:=by
 unfold mQ at h;split at h
 .obtain⟨a,e1,h⟩:=zm.mp h
  obtain⟨b,e2,h⟩:=zj.mp h;cases h;obtain⟨p2,p3,e1⟩:=ip e1;obtain⟨p4,p5,e2⟩:=ip e2;cases e1;cases e2;exact⟨p2,p3,p4,p5,_,rfl⟩
 .cases h
def JC(F:Fits Γ cl k X)(hE:∀e m,E e=À m->SE X cl e m)(hg:wl Γ.sc x=Â)(hb:uj Γ x=Â)(e:mQ as=À t)(h:sY Γ E x t=À m):SE X cl (.Call (.Name x p) as [] pos) m:=by
 obtain⟨p2,p3,p4,p5,p6,rfl⟩:=JI e;obtain⟨a,op,b⟩:=t;unfold sY at h;split at h
 .rename_i q
  erw[zr] at q;obtain⟨⟨⟨⟨q1,q2⟩,q3⟩,q4⟩,q5⟩:=q;obtain⟨ma,e1,h⟩:=zm.mp h;obtain⟨mb,e2,h⟩:=zm.mp h;have hx:=eq_of_beq q1;subst hx;split at h
  .rename_i z
   cases h;have z:op=.BitOr:=z;subst z;exact ou DM (λka kb y=>zx) F.calm F.room.units (yB F hb) (yB F q3) (hE _ _ e1) (hE _ _ e2) (kS hg F.sc).1 (kS q2 F.sc).1 (kC q4) (kC q5) (λ_=>qr rfl) (kC rfl)
  .rename_i z
   cases h;have z:op=.BitAnd:=z;subst z;exact ou BU (λka kb y=>by simp[jc]) F.calm F.room.units (yB F hb) (yB F q3) (hE _ _ e1) (hE _ _ e2) (kS hg F.sc).1 (kS q2 F.sc).1 (kC q4) (kC q5) (λ_=>qr rfl) (kC rfl)
  .cases h
 .cases h
def QG(F:Fits Γ cl k X)(hE:∀e m,E e=À m->SE X cl e m)(h:tV Γ E mu x as=À m):SE X cl (.Call (.Name x p) as [] pos) m:=by
 unfold tV at h;split at h
 .rename_i hg
  split at h
  .rename_i g e
   rw[zj] at h;obtain⟨ms,e2,rfl⟩:=h;obtain⟨hn,ha⟩:=dN hE e2;obtain⟨f,fd,ps,fo,hm,hk,hb⟩:=F.base.fns.at e;cases as with
   | nil=>
    have:ms=[]:=by
     cases e2;rfl
    subst this;exact GI hg fo F.room hm hk hb F.sc
   | cons a r=>
    rw[jP,zr] at hn;exact c_ hg fo F.room hm hk hb ha F.sc (kC hn.1) (qr hn.2)
  .split at h
   .rename_i hb
    split at h
    .rename_i a e
     .split at h
      .rename_i q
       erw[zr] at q;rw[zj] at h;obtain⟨ma,e2,rfl⟩:=h;obtain⟨p2,p3,rfl⟩:=ip e;have hx:=eq_of_beq q.1.1.1;subst hx;exact KJ F.calm F.room.units (yB F hb) (yB F q.1.2) (hE _ _ e2) (kS hg F.sc).1 (kS q.1.1.2 F.sc).1 (kC q.2) (qr rfl) (kC rfl) (qr rfl)
      .cases h
    .split at h
     .rename_i t e
      exact JC F hE hg hb e h
     .exact JM F hE hg hb h
   .cases h
 .cases h
def Wt(F:Fits Γ cl k X)(hE:∀e m,E e=À m->SE X cl e m)(h:K9 E o nm apos as pos=À m):SE X cl (.Call (.Attribute o nm apos) as [] pos) m:=by
 unfold K9 at h;split at h
 .rename_i q
  erw[zr] at q;obtain⟨⟨⟨q1,q2⟩,q3⟩,q4⟩:=q;rw[zm] at h;obtain⟨mo,eo,h⟩:=h;split at h
  .split at h
   .rename_i z
    rw[eq_of_beq z];cases h;exact Br (hE _ _ eo) (iF q1) q2
   .cases h
  .rename_i a r
   have hn:=q3;rw[jP,zr] at hn;split at h
   .rename_i z
    rw[eq_of_beq z];rw[zj] at h;obtain⟨ms,e2,rfl⟩:=h;exact Vx (hE _ _ eo) (eE hE q3 e2) (iF q1) (rQ q3 q4) q2 (kC hn.1) (qr hn.2)
   split at h
   .rename_i z
    rw[eq_of_beq z];rw[zj] at h;obtain⟨ms,e2,rfl⟩:=h;exact J0 (hE _ _ eo) (eE hE q3 e2) (iF q1) (rQ q3 q4) q2 (kC hn.1) (qr hn.2)
   split at h
   .rename_i z
    rw[eq_of_beq z];split at h
    .rename_i b
     rw[zm] at h;obtain⟨ma,e1,h⟩:=h;rw[zj] at h;obtain⟨mb,e2,rfl⟩:=h;have hb:noStar b=Â:=by simpa using hn.2
     exact VG F.room.units (hE _ _ eo) (hE _ _ e1) (hE _ _ e2) ⟨iF q1,rQ q3 q4,q2,by rw[eI hn.1,eI hb,fG];rfl⟩
    .cases h
   .cases h
 .cases h
end
noncomputable def JF(Γ:RC):Î->Bool
 | .Constant (.str _) _ _=>Â
 | .Name x _=>Γ.txt.any (· == x)
 | _=>Ä
noncomputable def YS(Γ:RC):Î->Bool
 | .Subscript e (.Slice _ _ _ _) _=>JF Γ e
 | e=>JF Γ e
noncomputable def isTup:Î->Bool
 | .Tuple ..=>Â
 | _=>Ä
noncomputable def tP(Γ:RC)(E:Î->Option ME)(tg:Î)(x:Ç)(as:List Î):Option MI:=
 if (wl Γ.sc x&&uj Γ x&&as.all noStar)=Â then (match as with
  | [e]=>if x=="range" then (E e).map λm=>cn [m]
   else if (x=="enumerate" && isTup tg)=Â then (E e).map λm=>w8 [m]
   else Á
  | [e,e2]=>if (x=="zip" && isTup tg)=Â then (E e).bind λm=>(E e2).map λm2=>ar [m,m2] else Á
  | _=>Á) else Á
noncomputable def QZ(Γ:RC)(E:Î->Option ME)(tg:Î):Î->Option MI
 | .Call (.Name x _) as [] _=>tP Γ E tg x as
 | _=>Á
noncomputable def pV(Γ:RC)(E:Î->Option ME)(tg it:Î):Option MI:=match QZ Γ E tg it with
 | some m=>À m
 | none=>(E it).map λm=>match YS Γ it with
  | true=>nB m
  | false=>kF m
section
variable{Γ:RC}{cl:Cl}{k:Nat}{X:Cx}{x:Ç}{pos p:ĝ}{E:Î->Option ME}{as:List Î}{tg it:Î}{mi:MI}
def tU(h:isTup tg=Â):∃es n tp,tg=.Tuple es n tp:=by
 unfold isTup at h;split at h
 .exact⟨_,_,_,rfl⟩
 .cases h
def Va(F:Fits Γ cl k X)(hE:∀e m,E e=À m->SE X cl e m)(h:tP Γ E tg x as=À mi):SI X cl tg (.Call (.Name x p) as [] pos) mi:=by
 unfold tP at h;split at h
 .rename_i q
  erw[zr] at q;obtain⟨⟨q1,q2⟩,q3⟩:=q;split at h
  .rename_i e
   have hn:noStar e=Â:=by simpa using q3
   split at h
   .rename_i z
    have z:=eq_of_beq z;subst z;rw[zj] at h;obtain⟨m,e1,rfl⟩:=h;exact Gd q1 (yB F q2) (ft (hE _ _ e1) mF (kC hn)) F.sc (by rw[kC hn,fG])
   split at h
   .rename_i z
    rw[zr] at z;obtain⟨es,n,tp,rfl⟩:=tU z.2;have z:=eq_of_beq z.1;subst z;rw[zj] at h;obtain⟨m,e1,rfl⟩:=h;exact F3 q1 (yB F q2) (ft (hE _ _ e1) mF (kC hn)) F.sc (kC hn) (qr rfl)
   .cases h
  .rename_i e e2
   rw[jP,zr] at q3;have Hv:noStar e2=Â:=by simpa using q3.2
   split at h
   .rename_i z
    rw[zr] at z;obtain⟨es,n,tp,rfl⟩:=tU z.2;have z:=eq_of_beq z.1;subst z;rw[zm] at h;obtain⟨m,e1,h⟩:=h;rw[zj] at h;obtain⟨m2,e3,rfl⟩:=h;exact Gm q1 (yB F q2) (ft (hE _ _ e1) (ft (hE _ _ e3) mF (kC Hv)) (kC q3.1)) F.sc (kC q3.1) (qr q3.2)
   .cases h
  .cases h
 .cases h
def rZ(F:Fits Γ cl k X)(hE:∀e m,E e=À m->SE X cl e m)(h:pV Γ E tg it=À mi):SI X cl tg it mi:=by
 unfold pV at h;split at h
 .rename_i m e
  cases h;unfold QZ at e;split at e
  .exact Va F hE e
  .cases e
 .rw[zj] at h
  obtain⟨m,e1,h⟩:=h;cases q:YS Γ it with
  | true=>rw[q] at h;subst h;exact CJ (hE _ _ e1)
  | false=>rw[q] at h;subst h;exact Cq (hE _ _ e1)
end
noncomputable def tf(T:Î->Option MT):List Î->Option MT
 | []=>À qv
 | [c]=>T c
 | _=>Á
structure CompR where
 mi:MI
 nl:Nat
 ks:List Nat
 g:MG
 t:MT
 m:ME
noncomputable def RC.inner(Γ:RC)(scope:ë)(N':List Ç):RC:={ Γ with sc:=ig Γ.sc scope,N:=N',inC:=Â }
noncomputable def Vo(Γ:RC)(E:RC->Bool->Î->Option ME)(T:RC->Î->Option MT)(elt tg it:Î)(ifs:List Î)(scope:ë)(N':List Ç):Option CompR:=
 if (pU it&&sk N')=Â then (qq (λx=>nP x Γ.N) (N'.drop (CA tg))).bind λks=>
  if x5 Γ.sc Γ.N scope N' (CA tg) ks=Â then (pV Γ (E Γ Ä) tg it).bind λmi=>(Vb (Γ.inner scope N') tg).bind λg=>(tf (T (Γ.inner scope N')) ifs).bind λt=>(E (Γ.inner scope N') Ä elt).map λm=>⟨mi,CA tg,ks,g,t,m⟩
  else Á
 else Á
noncomputable def pR(Γ:RC)(E:RC->Bool->Î->Option ME)(T:RC->Î->Option MT)(elt:Î)(gens:List Comprehension)(scope:ë)(pos:ĝ):Option CompR:=match gens with
 | [⟨tg,it,ifs,ia⟩]=>match Γ.cmp.lookup (pos.line,pos.col) with
  | some N'=>if ia=0 then Vo Γ E T elt tg it ifs scope N' else Á
  | none=>Á
 | _=>Á
section
variable{Γ:RC}{cl:Cl}{k:Nat}{X:Cx}{E:RC->Bool->Î->Option ME}{T:RC->Î->Option MT}{elt:Î}{gens:List Comprehension}{scope:ë}{pos:ĝ}{r:CompR}
theorem Fits.inner(F:Fits Γ cl k X){N':List Ç}(hN:N'.Nodup)(hk:scope.kind=.function)(cs:List (Ç×È))(C:È)(s₀:Å)(H₀:Hp)(ex:List È):Fits (Γ.inner scope N') cl k (vt X scope cs C N' s₀ H₀ ex) where
 sc:=by
  show relabel scope X.env=ig Γ.sc scope
  rw[<-F.sc];rfl
 N:=rfl
 nd:=hN
 fn:=λh=>by cases h
 kind:=hk
 calm:=F.calm
 pass:=yR
 room:=F.room
 base:=⟨F.base.fns,F.base.con,F.base.tab,F.base.bin,F.base.pw⟩
def Vg(hT:∀e m,t e=À m->ST X cl e m)(h:tf t ifs=À m):gS X cl ifs m:=by
 unfold tf at h;split at h
 .cases h;exact Ui
 .exact X2 (hT _ _ h)
 .cases h
structure CompG(X:Cx)(cl:Cl)(elt:Î)(gens:List Comprehension)(scope:ë)(r:CompR):Prop where
 ex:∃tg it ifs N',gens=[⟨tg,it,ifs,0⟩]/\x5 X.env.scope X.N scope N' r.nl r.ks=Â/\pU it=Â/\SI X cl tg it r.mi/\(∀cs C s₀ H₀ ex,SG (vt X scope cs C N' s₀ H₀ ex) cl tg r.g)/\(∀cs C s₀ H₀ ex,gS (vt X scope cs C N' s₀ H₀ ex) cl ifs r.t)/\∀cs C s₀ H₀ ex,SE (vt X scope cs C N' s₀ H₀ ex) cl elt r.m
def sI(F:Fits Γ cl k X)(hE:∀Γ X,Fits Γ cl k X->∀mu e m,E Γ mu e=À m->SE X cl e m)(hT:∀Γ X,Fits Γ cl k X->∀e m,T Γ e=À m->ST X cl e m)(h:pR Γ E T elt gens scope pos=À r):CompG X cl elt gens scope r:=by
 unfold pR at h;split at h
 .rename_i tg it ifs ia
  split at h
  .rename_i N' _
   split at h
   .rename_i z
    subst z;unfold Vo at h;split at h
    .rename_i q
     rw[zr] at q;rw[zm] at h;obtain⟨ks,e1,h⟩:=h;split at h
     .rename_i ok
      rw[zm] at h;obtain⟨mi,e2,h⟩:=h;rw[zm] at h;obtain⟨g,e3,h⟩:=h;rw[zm] at h;obtain⟨t,e4,h⟩:=h;rw[zj] at h;obtain⟨m,e5,rfl⟩:=h;have Fi:=λcs C s₀ H₀ ex=>F.inner (scope:=scope) (YL q.2) (cf ok).kind cs C s₀ H₀ ex
      exact⟨tg,it,ifs,N',rfl,by rw[F.sc,F.N];exact ok,q.1,rZ F (hE _ _ F Ä) e2,λcs C s₀ H₀ ex=>tN (Fi cs C s₀ H₀ ex) e3,λcs C s₀ H₀ ex=>Vg (hT _ _ (Fi cs C s₀ H₀ ex)) e4,λcs C s₀ H₀ ex=>hE _ _ (Fi cs C s₀ H₀ ex) _ _ _ e5⟩
     .cases h
    .cases h
   .cases h
  .cases h
 .cases h
end
noncomputable def tabOf(Γ:RC):CmpOp->Î->Option (Bool×List (Ç×W))
 | .In,.Name x _=>if wl Γ.sc x=Â then (Γ.tab.lookup x).map λl=>(Ä,l) else Á
 | .NotIn,.Name x _=>if wl Γ.sc x=Â then (Γ.tab.lookup x).map λl=>(Â,l) else Á
 | _,_=>Á
noncomputable def KG(Γ:RC)(E:Î->Option ME)(a:Î)(op:CmpOp)(b:Î):Option ME:=match tabOf Γ op b with
 | some p=>(E a).map (yk (tabIn p.1 p.2))
 | none=>if ç op b=Â then Á else (YO op).bind λf=>(E a).bind λma=>(E b).map λmb=>zh f ma mb
noncomputable def Jb(E:Î->Option ME)(a:Î)(op AA:CmpOp)(b c:Î):Option ME:=
 if Ż [op,AA] [b,c]=Â then Á else (YO op).bind λf=>(YO AA).bind λg=>(E a).bind λma=>(E b).bind λmb=>(E c).map λmc=>gP f g ma mb mc
noncomputable def KZ(Γ:RC)(E:Î->Option ME)(a:Î)(ops:List CmpOp)(bs:List Î):Option ME:=match ops,bs with
 | [op],[b]=>KG Γ E a op b
 | [op,AA],[b,c]=>Jb E a op AA b c
 | _,_=>Á
noncomputable def nr(E:Î->Option ME):Option Î->Option (Option ME)
 | none=>À Á
 | some e=>(E e).map À
noncomputable def tw(E:Î->Option ME)(ma:ME)(lo hi st:Option Î):Option ME:=match st with
 | none=>(nr E lo).bind λml=>(nr E hi).map λmh=>bX ma ml mh
 | _=>Á
noncomputable def nu(Γ:RC)(E:Î->Option ME)(a b:Î):Option ME:=match a with
 | .Name x _=>if (wl Γ.sc x&&iJ b)=Â then (match Γ.tab.lookup x with
  | some l=>(E b).map (yk (fz l))
  | none=>Á) else Á
 | _=>Á
noncomputable def Kp(Γ:RC)(E:Î->Option ME)(a b:Î):Option ME:=match nu Γ E a b with
 | some m=>À m
 | none=>(E a).bind λma=>match b with
  | .Slice lo hi st _=>tw E ma lo hi st
  | b=>(E b).map (zh zC ma)
noncomputable def KC(Γ:RC)(E:Î->Option ME)(a b:Î):Bool->Option ME
 | false=>Kp Γ E a b
 | true=>match b with
  | .Slice lo hi Á _=>(E a).bind λma=>(nr E lo).bind λml=>(nr E hi).map λmh=>BP ma ml mh
  | b=>Kp Γ E a b
noncomputable def mr(op:BoolOp)(E:Î->Option ME):List Î->Option ME
 | []=>Á
 | [a]=>E a
 | a::r=>(E a).bind λma=>(mr op E r).map λmb=>match op with
  | .And=>Jv ma mb
  | .Or=>Cb ma mb
noncomputable def mX(op:BoolOp)(T:Î->Option MT):List Î->Option MT
 | []=>Á
 | [a]=>T a
 | a::r=>(T a).bind λma=>(mX op T r).map λmb=>match op with
  | .And=>iC ma mb
  | .Or=>af ma mb
noncomputable def KI(E:Î->Option ME)(mu:Bool)(ks:List (Option Î))(vs:List Î):Option ME:=match ks,vs with
 | [],[]=>match mu with
  | true=>À Ys
  | false=>À (eC (.fdc []))
 | _,_=>Á
noncomputable def mf(mu:Bool)(r:CompR):ME:=match mu with
 | true=>gJ r.mi r.nl r.ks r.g r.t r.m
 | false=>kz r.mi r.nl r.ks r.g r.t r.m
noncomputable def Js(E:RC->Bool->Î->Option ME)(T:RC->Î->Option MT)(Γ:RC)(mu:Bool):Î->Option ME
 | .Name x _=>Kz Γ x
 | .Constant c _ _=>rA c
 | .UnaryOp .Not a _=>(E Γ Ä a).map Wr
 | .UnaryOp .USub a _=>(E Γ Ä a).map (yk nQ)
 | .BinOp a op b _=>(BQ mu op).bind λf=>(E Γ Ä a).bind λma=>(E Γ Ä b).map (zh f ma)
 | .Compare a ops bs _=>KZ Γ (E Γ Ä) a ops bs
 | .BoolOp op vs _=>mr op (E Γ Ä) vs
 | .IfExp t a b _=>(T Γ t).bind λmt=>(E Γ Ä a).bind λma=>(E Γ Ä b).map (Yu mt ma)
 | .Tuple es _ _=>(iD (E Γ Ä) es).map (ze zo)
 | .List es _=>(iD (E Γ Ä) es).map (match mu with
  | true=>ze dY
  | false=>ze kG)
 | .Dict ks vs _=>KI (E Γ Ä) mu ks vs
 | .Subscript a b _=>KC Γ (E Γ Ä) a b mu
 | .Call (.Name x _) as [] _=>tV Γ (E Γ Ä) mu x as
 | .Call (.Attribute o nm apos) as [] pos=>K9 (E Γ Ä) o nm apos as pos
 | .ListComp elt gens scope pos=>(pR Γ E T elt gens scope pos).map (mf mu)
 | _=>Á
noncomputable def stepT(E:RC->Bool->Î->Option ME)(T:RC->Î->Option MT)(Γ:RC):Î->Option MT
 | .BoolOp op vs _=>mX op (T Γ) vs
 | .UnaryOp .Not a _=>(T Γ a).map w9
 | .Compare a ops bs _=>(KZ Γ (E Γ Ä) a ops bs).map zS
 | e=>if plainT e=Â then (E Γ Ä e).map zS else Á
noncomputable def pz:Nat->(RC->Bool->Î->Option ME)×(RC->Î->Option MT)
 | 0=>(λ_ _ _=>Á,λ_ _=>Á)
 | n+1=>(Js (pz n).1 (pz n).2,stepT (pz n).1 (pz n).2)
section
variable{Γ:RC}{cl:Cl}{k:Nat}{X:Cx}{m:ME}{pos p:ĝ}{E:Î->Option ME}{T:Î->Option MT}{a b:Î}{mu:Bool}
def VC(F:Fits Γ cl k X)(hE:∀e m,E e=À m->SE X cl e m)(h:KG Γ E a op b=À m):SE X cl (.Compare a [op] [b] pos) m/\ST X cl (.Compare a [op] [b] pos) (zS m):=by
 unfold KG at h;split at h
 .rename_i q e
  rw[zj] at h;obtain⟨ma,e1,rfl⟩:=h;unfold tabOf at e;split at e
  .split at e
   .rename_i hg
    rw[zj] at e;obtain⟨l,e2,rfl⟩:=e;exact⟨GS hg F.room.units (F.base.tab.at e2) (hE _ _ e1) F.sc,F4 hg F.room.units (F.base.tab.at e2) (hE _ _ e1) F.sc⟩
   .cases e
  .split at e
   .rename_i hg
    rw[zj] at e;obtain⟨l,e2,rfl⟩:=e;exact⟨GF hg F.room.units (F.base.tab.at e2) (hE _ _ e1) F.sc,FY hg F.room.units (F.base.tab.at e2) (hE _ _ e1) F.sc⟩
   .cases e
  .cases e
 .split at h
  .cases h
  .rename_i hm
   rw[Bool.not_eq_true] at hm;rw[zm] at h;obtain⟨f,e0,h⟩:=h;rw[zm] at h;obtain⟨ma,e1,h⟩:=h;rw[zj] at h;obtain⟨mb,e2,rfl⟩:=h;exact⟨CV (fx F.room.units e0) (hE _ _ e1) (hE _ _ e2) hm,CH (fx F.room.units e0) (hE _ _ e1) (hE _ _ e2) hm⟩
def WH(F:Fits Γ cl k X)(hE:∀e m,E e=À m->SE X cl e m)(h:Jb E a op AA b c=À m):SE X cl (.Compare a [op,AA] [b,c] pos) m/\ST X cl (.Compare a [op,AA] [b,c] pos) (zS m):=by
 unfold Jb at h;split at h
 .cases h
 .rename_i hm
  rw[Bool.not_eq_true] at hm;rw[zm] at h;obtain⟨f,e0,h⟩:=h;rw[zm] at h;obtain⟨g,Oh,h⟩:=h;rw[zm] at h;obtain⟨ma,e1,h⟩:=h;rw[zm] at h;obtain⟨mb,e2,h⟩:=h;rw[zj] at h;obtain⟨mc,e3,rfl⟩:=h;exact⟨V7 (fx F.room.units e0) (fx F.room.units Oh) (hE _ _ e1) (hE _ _ e2) (hE _ _ e3) hm,V4 (fx F.room.units e0) (fx F.room.units Oh) (hE _ _ e1) (hE _ _ e2) (hE _ _ e3) hm⟩
def Zu{bs:List Î}(F:Fits Γ cl k X)(hE:∀e m,E e=À m->SE X cl e m)(h:KZ Γ E a ops bs=À m):SE X cl (.Compare a ops bs pos) m/\ST X cl (.Compare a ops bs pos) (zS m):=by
 unfold KZ at h;split at h
 .exact VC F hE h
 .exact WH F hE h
 .cases h
def iQ(hE:∀e m,E e=À m->SE X cl e m)(h:nr E o=À mo):SO X cl o mo:=by
 unfold nr at h;split at h
 .cases h;exact Uu
 .rw[zj] at h
  obtain⟨m,e1,rfl⟩:=h;exact Xo (hE _ _ e1)
def Qp{ma:ME}{lo hi st:Option Î}(hE:∀e m,E e=À m->SE X cl e m)(ha:SE X cl a ma)(h:tw E ma lo hi st=À m):SE X cl (.Subscript a (.Slice lo hi st p) pos) m:=by
 unfold tw at h;split at h
 .rw[zm] at h
  obtain⟨ml,e1,h⟩:=h;rw[zj] at h;obtain⟨mh,e2,rfl⟩:=h;exact DU ha (iQ hE e1) (iQ hE e2)
 .cases h
def Kk(F:Fits Γ cl k X)(hE:∀e m,E e=À m->SE X cl e m)(h:nu Γ E a b=À m):SE X cl (.Subscript a b pos) m:=by
 unfold nu at h;split at h
 .split at h
  .rename_i q
   rw[zr] at q;split at h
   .rename_i l e
    rw[zj] at h;obtain⟨mb,e1,rfl⟩:=h;exact GT q.1 F.room.units (F.base.tab.at e) (hE _ _ e1) F.sc (Xb q.2)
   .cases h
  .cases h
 .cases h
def ZD(F:Fits Γ cl k X)(hE:∀e m,E e=À m->SE X cl e m)(h:Kp Γ E a b=À m):SE X cl (.Subscript a b pos) m:=by
 unfold Kp at h;split at h
 .rename_i m' e
  cases h;exact Kk F hE e
 .rw[zm] at h
  obtain⟨ma,e1,h⟩:=h;split at h
  .exact Qp hE (hE _ _ e1) h
  .rename_i hb
   rw[zj] at h;obtain⟨mb,e2,rfl⟩:=h;refine Fw (hE _ _ e1) (hE _ _ e2) (Xb ?_);cases b<;>first | rfl | exact absurd rfl (hb _ _ _ _)
def WT(F:Fits Γ cl k X)(hE:∀e m,E e=À m->SE X cl e m)(h:KC Γ E a b mu=À m):SE X cl (.Subscript a b pos) m:=by
 unfold KC at h;split at h
 .exact ZD F hE h
 .split at h
  .rw[zm] at h
   obtain⟨ma,e0,h⟩:=h;rw[zm] at h;obtain⟨ml,e1,h⟩:=h;rw[zj] at h;obtain⟨mh,e2,rfl⟩:=h;exact Df (hE _ _ e0) (iQ hE e1) (iQ hE e2)
  .exact ZD F hE h
theorem oX(hE:∀e m,E e=À m->SE X cl e m):∀{vs:List Î} {m:ME},mr op E vs=À m->SE X cl (.BoolOp op vs pos) m
 | [],m,h=>by cases h
 | [a],m,h=>CY (hE _ _ h)
 | a::b::r,m,h=>by
  unfold mr at h;rw[zm] at h;obtain⟨ma,e1,h⟩:=h;rw[zj] at h;obtain⟨mb,e2,h⟩:=h;have ih:=oX hE e2;cases op with
  | And=>subst h;exact U9 (hE _ _ e1) ih
  | Or=>subst h;exact DK (hE _ _ e1) ih
theorem oF(hT:∀e m,T e=À m->ST X cl e m):∀{vs:List Î} {m:MT},mX op T vs=À m->SW X cl (.BoolOp op vs pos) m
 | [],m,h=>by cases h
 | [a],m,h=>by
  cases op with
  | And=>exact Uc (hT _ _ h)
  | Or=>exact DA (hT _ _ h)
 | a::b::r,m,h=>by
  unfold mX at h;rw[zm] at h;obtain⟨ma,e1,h⟩:=h;rw[zj] at h;obtain⟨mb,e2,h⟩:=h;have ih:=oF hT e2;cases op with
  | And=>subst h;exact Bn (hT _ _ e1) ih
  | Or=>subst h;exact FD (hT _ _ e1) ih
def V0(hE:∀e m,E e=À m->SE X cl e m)(h:KI E mu ks vs=À m):SE X cl (.Dict ks vs pos) m:=by
 unfold KI at h;split at h
 .split at h
  .cases h;exact VM
  .cases h;exact UX
 .cases h
end
section
variable{Γ:RC}{cl:Cl}{k:Nat}{X:Cx}{m:ME}{pos p:ĝ}{E:RC->Bool->Î->Option ME}{T:RC->Î->Option MT}{mu:Bool}
def oK(F:Fits Γ cl k X)(g:CompG X cl elt gens scope r):SE X cl (.ListComp elt gens scope pos) (mf mu r):=by
 obtain⟨tg,it,ifs,N',rfl,ok,hs,hi,hg,ht,he⟩:=g.ex;cases mu with
 | true=>exact WA _ _ N' r.nl r.ks F.calm ok hi hg ht he rfl rfl (bP hs)
 | false=>exact UV _ _ N' r.nl r.ks F.calm ok hi hg ht he rfl rfl (bP hs)
def V2(hE:∀Γ X,Fits Γ cl k X->∀mu e m,E Γ mu e=À m->SE X cl e m)(hT:∀Γ X,Fits Γ cl k X->∀e m,T Γ e=À m->ST X cl e m)(F:Fits Γ cl k X)(h:Js E T Γ mu e=À m):SE X cl e m:=by
 have RP:=hE _ _ F;have hF:=RP Ä;have AZ:=hT _ _ F;unfold Js at h;cases e with
 | Name a0 a1=>
  exact VW F h
 | Constant a0 a1 a2=>
  exact QO h
 | UnaryOp a0 a1 a2=>
  cases a0 with
  | Not=>
   dsimp only at h;rw[è] at h;obtain⟨ma,e1,rfl⟩:=h;exact CS (hF _ _ e1)
  | USub=>
   dsimp only at h;rw[è] at h;obtain⟨ma,e1,rfl⟩:=h;exact Fb X9 (hF _ _ e1)
  | _=>cases h
 | BinOp a0 a1 a2 a3=>
  dsimp only at h;rw[ü] at h;obtain⟨f,e0,h⟩:=h;rw[zm] at h;obtain⟨ma,e1,h⟩:=h;rw[zj] at h;obtain⟨mb,e2,rfl⟩:=h;exact DT (Dh e0) (hF _ _ e1) (hF _ _ e2)
 | Compare a0 a1 a2 a3=>
  exact(Zu F hF h).1
 | BoolOp a0 a1 a2=>
  exact oX hF h
 | IfExp a0 a1 a2 a3=>
  dsimp only at h;rw[ü] at h;obtain⟨mt,e0,h⟩:=h;rw[zm] at h;obtain⟨ma,e1,h⟩:=h;rw[zj] at h;obtain⟨mb,e2,rfl⟩:=h;exact FF (AZ _ _ e0) (hF _ _ e1) (hF _ _ e2)
 | Tuple a0 a1 a2=>
  dsimp only at h;rw[è] at h;obtain⟨ms,e1,rfl⟩:=h;exact Bk (dN hF e1).2
 | List a0 a1=>
  dsimp only at h;rw[è] at h;obtain⟨ms,e1,h⟩:=h;cases mu with
  | true=>subst h;exact Bx (dN hF e1).2
  | false=>subst h;exact BO (dN hF e1).2
 | Dict a0 a1 a2=>
  exact V0 hF h
 | Subscript a0 a1 a2=>
  exact WT F hF h
 | Call a0 a1 a2 a3=>
  cases a0 with
  | Name b0 b1=>
   cases a2 with
   | nil=>
    exact QG F hF h
   | cons _ _=>cases h
  | Attribute b0 b1 b2=>
   cases a2 with
   | nil=>
    exact Wt F hF h
   | cons _ _=>cases h
  | _=>cases h
 | ListComp a0 a1 a2 a3=>
  dsimp only at h;rw[è] at h;obtain⟨r,e1,rfl⟩:=h;exact oK F (sI F hE hT e1)
 | _=>cases h
def VQ(hE:∀Γ X,Fits Γ cl k X->∀mu e m,E Γ mu e=À m->SE X cl e m)(hT:∀Γ X,Fits Γ cl k X->∀e m,T Γ e=À m->ST X cl e m)(F:Fits Γ cl k X)(h:stepT E T Γ e=À t):ST X cl e t:=by
 have hF:=hE _ _ F Ä;have AZ:=hT _ _ F;unfold stepT at h;split at h
 .exact UE (oF AZ h)
 .rw[zj] at h
  obtain⟨ma,e1,rfl⟩:=h;exact Di (AZ _ _ e1)
 .rw[zj] at h
  obtain⟨ma,e1,rfl⟩:=h;exact(Zu F hF e1).2
 .split at h
  .rename_i q
   rw[zj] at h;obtain⟨ma,e1,rfl⟩:=h;exact Dq (hF _ _ e1) (Wh q)
  .cases h
theorem fi:∀n,(∀Γ X,Fits Γ cl k X->∀mu e m,(pz n).1 Γ mu e=À m->SE X cl e m)/\(∀Γ X,Fits Γ cl k X->∀e m,(pz n).2 Γ e=À m->ST X cl e m)
 | 0=>⟨λ_ _ _ _ _ _ h=>(by cases h),λ_ _ _ _ _ h=>(by cases h)⟩
 | n+1=>⟨λΓ X F mu e m h=>V2 (fi n).1 (fi n).2 F h,λΓ X F e m h=>VQ (fi n).1 (fi n).2 F h⟩
end
def B0{env:Env}(h:iJ i=Â):∀v,Ľ (.Subscript o i pos) env v=(do
   let ov <-Ē [v] (å o env)
   let iv <-Ē [v,ov] (å i env)
   standAt pos
   Ē [v,ov,iv] (setItem ov iv v)
   release [v,ov,iv] []):=by
 intro v;cases i<;>first | (cases h;done) | kernel_rfl
theorem Zc{env:Env}:Œ [.Subscript o i p] e env=pure Á:=rfl
noncomputable def pX(Γ:RC)(x:Ç):Bool:=Γ.own.any (· == x)
noncomputable def pT(Γ:RC)(x:Ç)(px:ĝ)(scope:ë)(cpos:ĝ):Bool:=Γ.sc.names.lookup x==À .local&&px.line==cpos.line && !(scope.names.any λ(n,k)=>n==x&&(k==.local||k==.cell))
noncomputable def Ju(Γ:RC)(E:RC->Bool->Î->Option ME)(T:RC->Î->Option MT)(x:Ç):Î->Option ME
 | .ListComp elt gens scope cpos=>(pR Γ E T elt gens scope cpos).map (mf (pX Γ x))
 | .Dict [] [] dp=>if Γ.txt.any (· == x)=Â then À mz else E Γ (pX Γ x) (.Dict [] [] dp)
 | v=>if gZ v=Â then E Γ (pX Γ x) v else Á
noncomputable def WQ(Γ:RC)(E:RC->Bool->Î->Option ME)(T:RC->Î->Option MT)(tg v:Î):Option MS:=match tg with
 | .Name x _=>match nP x Γ.N with
  | some i=>if (setB Γ.sc Γ.N i x && !Γ.inC)=Â then (Ju Γ E T x v).map λm=>zI m (zw i) else Á
  | none=>Á
 | .Subscript o i p=>if (gZ v&&iJ i)=Â then (E Γ Ä v).bind λm=>(E Γ Ä o).bind λmo=>(E Γ Ä i).map λmi=>zI m (pP mo mi) else Á
 | .Tuple es n p=>if (gZ v&&Y3 v)=Â then (E Γ Ä v).bind λm=>(Vb Γ (.Tuple es n p)).map λg=>zI m g else Á
 | _=>Á
noncomputable def V9(Γ:RC)(E:RC->Bool->Î->Option ME)(tg:Î)(op:ī)(v:Î):Option MS:=match tg,op with
 | .Name x _,.Add=>match nP x Γ.N with
  | some i=>if (setB Γ.sc Γ.N i x && !Γ.inC)=Â then (E Γ Ä v).map (Ko i FZ) else Á
  | none=>Á
 | _,_=>Á
noncomputable def iE:MS:=λ_ _=>Á
def X5{X:Cx}{cl:Cl}{st:č}:SS X cl st iE:=by
 rintro ag s σ H D I ⟨μ,h,ρ,fl,h',R,er,e,k⟩;cases e
noncomputable def Jh(E:RC->Bool->Î->Option ME)(T:RC->Î->Option MT)(B:RC->List č->Option MS)(Γ:RC):č->Option MS
 | .Return (À e) _=>(E Γ Ä e).map kf
 | .Pass _=>À kg
 | .Raise ..=>À iE
 | .Expr e _=>if gZ e=Â then (E Γ Ä e).map yY else Á
 | .If c a b _=>(T Γ c).bind λt=>(B Γ a).bind λma=>(B Γ b).map (kX t ma)
 | .While c body [] _=>(T Γ c).bind λt=>(B Γ body).map (ck t)
 | .For tg it body [] _=>if pU it=Â then (pV Γ (E Γ Ä) tg it).bind λmi=>(Vb Γ tg).bind λg=>(B Γ body).map (vS mi g) else Á
 | .Assign [tg] v _=>WQ Γ E T tg v
 | .AugAssign tg op v _=>V9 Γ E tg op v
 | _=>Á
noncomputable def blk(S:č->Option MS):List č->Option MS
 | []=>À kg
 | [s]=>S s
 | s::r=>(S s).bind λa=>(blk S r).map (zl a)
noncomputable def cS:Nat->RC->č->Option MS
 | 0=>λ_ _=>Á
 | n+1=>Jh (pz 40).1 (pz 40).2 (λΓ=>blk (cS n Γ))
noncomputable def cB(Γ:RC)(bd:List č):Option MS:=blk (cS 12 Γ) bd
section
variable{Γ:RC}{cl:Cl}{k:Nat}{X:Cx}{pos p:ĝ}{E:RC->Bool->Î->Option ME}{T:RC->Î->Option MT}{B:RC->List č->Option MS}{ms:MS}
theorem Ke{scope:ë}{cpos px:ĝ}{env:Env}:Ď (.ListComp elt gens scope cpos) (À (.Name x px)) l env=pure (env.blockKind==.function&&env.kindOf x==À .local&&px.line==cpos.line && !(scope.names.any λ(n,k)=>n==x&&(k==.local||k==.cell))):=rfl
def VV(hE:∀Γ X,Fits Γ cl k X->∀mu e m,E Γ mu e=À m->SE X cl e m)(hT:∀Γ X,Fits Γ cl k X->∀e m,T Γ e=À m->ST X cl e m)(F:Fits Γ cl k X)(hc:Γ.inC=Ä)(hb:setB Γ.sc Γ.N i x=Â)(h:Ju Γ E T x v=À m):SS X cl (.Assign [.Name x px] v pos) (zI m (zw i)):=by
 have AO:=F.N▸F.nd;unfold Ju at h;split at h
 .rename_i elt gens scope cpos
  rw[zj] at h;obtain⟨r,e1,rfl⟩:=h;have g:=sI F hE hT e1;have hk:X.env.blockKind=.function:=by
   unfold Env.blockKind;rw[F.sc,F.kind];rfl
  have A8:=Ke (elt:=elt) (gens:=gens) (scope:=scope) (cpos:=cpos) (px:=px) (x:=x) (l:=pos.line) (env:=X.env);have he:(X.env.blockKind==.function&&X.env.kindOf x==À .local&&px.line==cpos.line && !(scope.names.any λ(n,k)=>n==x&&(k==.local||k==.cell)))=pT Γ x px scope cpos:=by
   rw[hk];unfold pT;rw[<-F.sc];rfl
  rw[he] at A8;cases q:pT Γ x px scope cpos with
  | false=>
   rw[q] at A8;exact s_ hb AO (oK F g) F.sc F.N (F.fn hc _) A8
  | true=>
   rw[q] at A8;obtain⟨tg,it,ifs,N',rfl,ok,hs,hi,hg,ht,Oi⟩:=g.ex;have hx:X.env.kindOf x=À .local:=by
    unfold pT at q;erw[zr,vX] at q;have:=q.1.1;rw[<-F.sc] at this;exact this
   have Ek:X.N[i]?=À x:=by
    unfold setB at hb;erw[zr,vX] at hb;rw[F.N];exact hb.1
   unfold mf;cases pX Γ x with
   | true=>exact W2 i _ _ N' r.nl r.ks F.nd F.calm ok hi hg ht Oi rfl rfl (bP hs) Ek hx A8
   | false=>exact UH i _ _ N' r.nl r.ks F.nd F.calm ok hi hg ht Oi rfl rfl (bP hs) Ek hx A8
 .split at h
  .cases h
   exact s_ hb AO (XE ⟨F.base.pw.1,F.base.pw.2⟩) F.sc F.N (F.fn hc _) (aE rfl)
  .exact s_ hb AO (hE _ _ F _ _ _ h) F.sc F.N (F.fn hc _) (aE rfl)
 .split at h
  .rename_i q
   exact s_ hb AO (hE _ _ F _ _ _ h) F.sc F.N (F.fn hc _) (aE q)
  .cases h
def UG(hE:∀Γ X,Fits Γ cl k X->∀mu e m,E Γ mu e=À m->SE X cl e m)(hT:∀Γ X,Fits Γ cl k X->∀e m,T Γ e=À m->ST X cl e m)(F:Fits Γ cl k X)(h:WQ Γ E T tg v=À ms):SS X cl (.Assign [tg] v pos) ms:=by
 unfold WQ at h;split at h
 .split at h
  .split at h
   .rename_i q
    rw[zr,qP] at q;rw[zj] at h;obtain⟨m,e1,rfl⟩:=h;exact VV hE hT F q.2 q.1 e1
   .cases h
  .cases h
 .split at h
  .rename_i q
   rw[zr] at q;rw[zm] at h;obtain⟨m,e1,h⟩:=h;rw[zm] at h;obtain⟨mo,e2,h⟩:=h;rw[zj] at h;obtain⟨mi,e3,rfl⟩:=h;exact QV (hE _ _ F _ _ _ e1) (Xm ⟨F.base.pw.1,F.base.pw.2⟩ F.room.units (hE _ _ F _ _ _ e2) (hE _ _ F _ _ _ e3) (B0 q.2)) ((show ő [_] v pos.line X.env=Ď v (À _) pos.line X.env from rfl).trans (aE q.1)) Zc (by rw[xB rfl,cE];rfl)
  .cases h
 .split at h
  .rename_i q
   rw[zr] at q;rw[zm] at h;obtain⟨m,e1,h⟩:=h;rw[zj] at h;obtain⟨g,e2,rfl⟩:=h;exact QV (hE _ _ F _ _ _ e1) (tN F e2) ((show ő [_] v pos.line X.env=Ď v (À _) pos.line X.env from rfl).trans (aE q.1)) (Jc q.2) (by rw[xB rfl,cE];rfl)
  .cases h
 .cases h
def Uh(hE:∀Γ X,Fits Γ cl k X->∀mu e m,E Γ mu e=À m->SE X cl e m)(F:Fits Γ cl k X)(h:V9 Γ E tg op v=À ms):SS X cl (.AugAssign tg op v pos) ms:=by
 unfold V9 at h;split at h
 .split at h
  .split at h
   .rename_i q
    rw[zr,qP] at q;rw[zj] at h;obtain⟨m,e1,rfl⟩:=h;exact GN q.1 (F.N▸F.nd) X4 (hE _ _ F _ _ _ e1) F.sc F.N (F.fn q.2 _)
   .cases h
  .cases h
 .cases h
def Yc(hE:∀Γ X,Fits Γ cl k X->∀mu e m,E Γ mu e=À m->SE X cl e m)(hT:∀Γ X,Fits Γ cl k X->∀e m,T Γ e=À m->ST X cl e m)(hB:∀Γ X,Fits Γ cl k X->∀b m,B Γ b=À m->SB X cl b m)(F:Fits Γ cl k X){st:č}(h:Jh E T B Γ st=À ms):SS X cl st ms:=by
 have hF:=hE _ _ F Ä;have AZ:=hT _ _ F;have LK:=hB _ _ F;unfold Jh at h;cases st with
 | Return a0 a1=>
  cases a0 with
  | none=>cases h
  | some b0=>
   dsimp only at h;rw[è] at h;obtain⟨m,e1,rfl⟩:=h;exact Ds (hF _ _ e1)
 | Pass a0=>
  dsimp only at h;cases h;exact UL
 | Raise a0 a1 a2=>
  dsimp only at h;cases h;exact X5
 | Expr a0 a1=>
  dsimp only at h;split at h
  .rename_i q
   rw[zj] at h;obtain⟨m,e1,rfl⟩:=h;exact Xh (hF _ _ e1) (aE q)
  .cases h
 | If a0 a1 a2 a3=>
  dsimp only at h;rw[ü] at h;obtain⟨t,e0,h⟩:=h;rw[zm] at h;obtain⟨ma,e1,h⟩:=h;rw[zj] at h;obtain⟨mb,e2,rfl⟩:=h;exact DX (AZ _ _ e0) (LK _ _ e1) (LK _ _ e2)
 | While a0 a1 a2 a3=>
  cases a2 with
  | cons _ _=>cases h
  | nil=>
   dsimp only at h;rw[ü] at h;obtain⟨t,e0,h⟩:=h;rw[zj] at h;obtain⟨mb,e2,rfl⟩:=h;exact Yb (AZ _ _ e0) (LK _ _ e2) F.pass
 | For a0 a1 a2 a3 a4=>
  cases a3 with
  | cons _ _=>cases h
  | nil=>
   dsimp only at h;split at h
   .rename_i q
    rw[zm] at h;obtain⟨mi,e0,h⟩:=h;rw[zm] at h;obtain⟨g,e1,h⟩:=h;rw[zj] at h;obtain⟨mb,e2,rfl⟩:=h;exact Bm F.calm (rZ F hF e0) (tN F e1) (LK _ _ e2) (bP q) F.pass
   .cases h
 | Assign a0 a1 a2=>
  cases a0 with
  | nil=>cases h
  | cons b0 b1=>
   cases b1 with
   | cons _ _=>cases h
   | nil=>
    exact UG hE hT F h
 | AugAssign a0 a1 a2 a3=>
  exact Uh hE F h
 | _=>cases h
theorem sL(hS:∀s m,S s=À m->SS X cl s m):∀{b:List č} {m:MS},blk S b=À m->SB X cl b m
 | [],m,h=>by cases h;exact B1
 | [s],m,h=>Bl (hS _ _ h)
 | s::s'::r,m,h=>by
  unfold blk at h;rw[zm] at h;obtain⟨ma,e1,h⟩:=h;rw[zj] at h;obtain⟨mb,e2,rfl⟩:=h;exact Uy (hS _ _ e1) (sL hS e2)
theorem Ym:∀(n:Nat) (Γ:RC) (X:Cx),Fits Γ cl k X->∀s m,cS n Γ s=À m->SS X cl s m
 | 0,_,_,_,_,_,h=>by cases h
 | n+1,Γ,X,F,s,m,h=>Yc (fi 40).1 (fi 40).2 (λΓ X F b m h=>sL (Ym n Γ X F) h) F h
def FH(F:Fits Γ cl k X)(h:cB Γ bd=À ms):SB X cl bd ms:=sL (Ym 12 Γ X F) h
end
def B7{P:Ï}{w:Ô}{K:Te}{mg:Ç->Option Ã}{base:Õ}{cl:Cl}{x qual:Ç}{st:č}{f:È}{fd:ą}{ps:List Ç}{k np ns:Nat}{b:MS}(Γ:RC){bd:List č}(F:Fun K x qual st f fd)(Ao:k8 st=Γ.sc)(MD:vj st=bd)(S:FnScope Γ.N ps Γ.sc)(EA:ps.length=np)(Ap:Γ.N.length-np=ns)
  (hc:Γ.inC=Ä) (B:BaseOk P w K mg base cl k Γ) (hb:cB Γ bd=À b):FnOk P w K mg base dO (k+1) f fd ps (bv K cl (gc (kQ np ns b))):=
 Dd F Ao MD S EA Ap λr6 A outer s H E hr=>FH (k:=k) ⟨rfl,rfl,S.nd,λ_ _=>rfl,S.kind,rfl,yR,hr,⟨B.fns,B.con,B.tab,B.bin,B.pw⟩⟩ hb
structure Def where
 x:Ç
 st:č
 ps:List Ç
 N:List Ç
 own:List Ç
 txt:List Ç
 cmp:List ((Nat×Nat)×List Ç)
noncomputable def dU(N ps:List Ç)(sc:ë):Bool:=sc.kind==.function && !sc.isCoroutine && !sc.isGenerator&&sk N&&N.take ps.length==ps&&ps.all (Kl sc)&&sc.names.all λy=>y.2 != .free
def KY(h:dU N ps sc=Â):FnScope N ps sc:=by
 unfold dU at h;erw[zr,qP,vX] at h;obtain⟨⟨⟨⟨⟨⟨h1,h2⟩,h3⟩,h4⟩,h5⟩,h6⟩,h7⟩:=h;exact⟨h1,h2,h3,YL h4,h5,λx hx=>iO (kE.mp h6 x hx),λy hy=>by simpa using kE.mp h7 y hy⟩
noncomputable def HB(x:Ç)(st:č)(ps:List Ç)(us:List Ã):Prop:=∀(kV doc pm:Ã) (an:Option È) (r6 ct:Ã),bindArgs (Ċ x x (xk st) (vj st) (k8 st) .none kV doc pm an r6 ct) ⟨us,[]⟩=pure (ps.zip us)
noncomputable def sN(x:Ç)(st:č)(ps:List Ç):Prop:=∀us:List Ã,us.length=ps.length->HB x st ps us
section
variable{x:Ç}{st:č}{ps:List Ç}
def yy{us:List Ã}(e:us.length=n+1):∃a r,us=a::r/\r.length=n:=by
 cases us with
 | nil=>cases e
 | cons a r=>exact⟨a,r,rfl,Nat.succ.inj e⟩
def hb1(h:∀a,HB x st ps [a])(hl:↥(ps.length=1)):sN x st ps:=λus e=>by
 obtain⟨a,r,rfl,e1⟩:=yy (e.trans hl);rw[qp e1];exact h a
def hb2(h:∀a b,HB x st ps [a,b])(hl:↥(ps.length=2)):sN x st ps:=λus e=>by
 obtain⟨a,r,rfl,e1⟩:=yy (e.trans hl);obtain⟨b,r,rfl,e2⟩:=yy e1;rw[qp e2];exact h a b
def hb3(h:∀a b c,HB x st ps [a,b,c])(hl:↥(ps.length=3)):sN x st ps:=λus e=>by
 obtain⟨a,r,rfl,e1⟩:=yy (e.trans hl);obtain⟨b,r,rfl,e2⟩:=yy e1;obtain⟨c,r,rfl,e3⟩:=yy e2;rw[qp e3];exact h a b c
def hb4(h:∀a b c d,HB x st ps [a,b,c,d])(hl:↥(ps.length=4)):sN x st ps:=λus e=>by
 obtain⟨a,r,rfl,e1⟩:=yy (e.trans hl);obtain⟨b,r,rfl,e2⟩:=yy e1;obtain⟨c,r,rfl,e3⟩:=yy e2;obtain⟨d,r,rfl,e4⟩:=yy e3;rw[qp e4];exact h a b c d
def hb5(h:∀a b c d f,HB x st ps [a,b,c,d,f])(hl:↥(ps.length=5)):sN x st ps:=λus e=>by
 obtain⟨a,r,rfl,e1⟩:=yy (e.trans hl);obtain⟨b,r,rfl,e2⟩:=yy e1;obtain⟨c,r,rfl,e3⟩:=yy e2;obtain⟨d,r,rfl,e4⟩:=yy e3;obtain⟨f,r,rfl,e5⟩:=yy e4;rw[qp e5];exact h a b c d f
end
noncomputable def eQ(K:Te)(mg:Ç->Option Ã)(d:Def):Prop:=∃a fd,FTxt K mg d.x d.st d.ps a fd
noncomputable def tS(P:Def->Prop):List Def->Prop
 | []=>True
 | d::r=>P d/\tS P r
noncomputable def RC.at(Γ:RC)(d:Def):RC:=⟨k8 d.st,d.N,Ä,Γ.fns,Γ.con,Γ.tab,Γ.bin,d.own,d.txt,d.cmp⟩
section
variable{P:Ï}{w:Ô}{K:Te}{mg:Ç->Option Ã}{base:Õ}{cl:Cl}{n np ns:Nat}{Γ:RC}{d:Def}{b:MS}
def ZI(T:FTxt K mg d.x d.st d.ps a fd)(B:BaseOk P w K mg base cl n Γ)(Ao:dU d.N d.ps (k8 d.st)=Â)(EA:d.ps.length=np)(Ap:d.N.length-np=ns)(hb:cB (Γ.at d) (vj d.st)=À b):FnOk P w K mg base dO (n+1) a fd d.ps (bv K cl (gc (kQ np ns b))):=
 B7 (Γ.at d) T.F rfl rfl (KY Ao) EA Ap rfl ⟨B.fns,B.con,B.tab,B.bin,B.pw⟩ hb
def kN(T:eQ K mg d)(B:BaseOk P w K mg base cl n Γ)(Ao:dU d.N d.ps (k8 d.st)=Â:=by kernel_rfl)(EA:↥(d.ps.length=np))(Ap:↥(d.N.length-np=ns))(hb:cB (Γ.at d) (vj d.st)=À b:=by kernel_rfl):FnAt P w K mg base cl (n+1) d.x (gc (kQ np ns b)):=by
 obtain⟨a,fd,T⟩:=T;exact⟨a,fd,d.ps,ZI T B Ao EA Ap hb,T.m,T.F.kp,T.B⟩
def ki(T:eQ K mg d):FnAt P w K mg base cl 0 d.x λ_ _=>Á:=by
 obtain⟨a,fd,T⟩:=T;have no:∀vs H Q E,¬bv K cl (λ_ _=>Á) vs H Q E:=λvs H Q E ⟨μ,h,ws,w,h2,R,rs,e,k⟩=>by cases e
 exact⟨a,fd,d.ps,⟨λvs H Q E h=>absurd h (no vs H Q E),λA outer s H args us vs Q E _ _ _ _ h=>absurd h (no vs H Q E)⟩,T.m,T.F.kp,T.B⟩
end
end ML
namespace ML
open PySem PySem.Spec PyProof.Rows PySem.W L2
noncomputable def Kw(h:Õ):Te:=(ä h.objs.size).filterMap λa=>(h.get? a).map λo=>(a,o)
theorem Kw.lookupAux(h:Õ)(a:È):∀l:List Nat,(l.filterMap λa=>(h.get? a).map λo=>(a,o)).lookup a=if a∈l then h.get? a else Á
 | []=>by simp
 | b::l=>by
  cases q:h.get? b with
  | none=>
   rw[qN (by rw[q];rfl),Kw.lookupAux h a l];by_cases e:a=b
   .subst e;simp[q]
   .simp[e]
  | some o=>
   rw[jV (b:=(b,o)) (by rw[q];rfl),qm];by_cases e:a=b
   .subst e;simp[q]
   .have:(a==b)=Ä:=by simp[e]
    rw[this];simp only[];rw[Kw.lookupAux h a l];simp[e]
theorem Kw.lookup{h:Õ}:(Kw h).lookup a=h.get? a:=by
 unfold Kw;rw[Kw.lookupAux];split
 .rfl
 .rename_i n
  cases q:h.get? a with
  | none=>rfl
  | some o=>exact absurd (jX.mpr (zJ q)) n
def Kw.in(h:Õ):(Kw h).In h:=λa o e=>Kw.lookup▸e
def WB{l:PySem.W.OpenLaw}{n k:Nat}{q:Ï}{loose:List Ç}{XP:(Ç->Option Ã)->Õ->Prop}{YP:Ô->Õ->Prop}{d:DefRec}{CX:gE}{sp:Ô->Te->Sp}{x:Ç}
  (hn:l.most=À n) (Hv:n<=Ð) (IB:d.params.defaults=[]) (hr:Room k Ş)
  (F:∀(w:Ô) (s₀:Å) (mg mb:Ç->Option Ã) (fa:È) (h:Õ),Ground q loose [] XP w s₀ mg mb h->YP w h->mg d.name=À (.ref fa)->
   ∃fd:ą,(∀(s:Å) (u:Ã),BindsTo s fd ⟨[u],[]⟩ [(x,u)]) /\
    ∀base:Õ,(Kw h).In base->base.Ns ß mg->FnOk l.prog w (Kw h) mg base CX k fa fd [x] (sp w (Kw h)))
  (Ew:∀(w:Ô) (K:Te) (H:Hp) (a:È) (ns:List Int),ns.length<=n->Only H->SqL K H a (ns.map V.int)->sp w K [.ref a] H (λv _=>v=.bl Â) λ_ _ _=>False)
  (L7:∀(H:Hp) (s:Å) (e:Ã) (s':Å),CX [] H s (λ_ _ _=>False) e s'->False) :
  PySem.W.WalkO q loose XP YP l.row.toRowW d [] (λf vs=>PySem.call f vs):=by
 refine Att.attach_call hn IB λw s₀ d6 mg mb fa o pm cd doc a vs ns G Y ho hd Eg IC AF Ey gy hg=>?_
 obtain⟨fd,hb,hF⟩:=F w s₀ mg mb fa _ G Y IC;exact VL (Kw.in _) G.T.g G.T.b G.T.builtins G.T.nolimit hg AF Ey (zp gy Hv) hr hF hb (λH hO hS=>Ew w _ H a ns gy hO hS) λH e s'=>L7 H d6 e s'
def sU{q:Ï}{R:WRecords}(G:Ground q loose R XP w s₀ mg mb h){d:Def}
  (hd:(defOf q d.x).map (λp=>(p.1.name,p.1.params,p.1.body,p.1.scope,p.2))=À (d.x,xk d.st,vj d.st,k8 d.st,[])) (hb:sN d.x d.st d.ps) (hf:(xk d.st).defaults=[]):eQ (Kw h) mg d:=by
 obtain⟨⟨⟨n,p,b,sc,ps⟩,kw⟩,hq,e⟩:=zj.mp hd;cases e;obtain⟨a,o,pm,cd,doc,dV,kV,m,ho,RQ,hc,D⟩:=G.fn hq;obtain rfl:dV=.none:=Dflts.none D hf;obtain rfl:kV=.none:=Dflts.noKw D;have lk:(Kw h).lookup a=À ⟨o.cls,o.dict,.func (Ċ d.x d.x (xk d.st) (vj d.st) (k8 d.st) .none .none doc pm Á cd .none),o.slots⟩:=by
  rw[Kw.lookup,ho];cases o;cases RQ;rfl
 have c:ĭ (Kw h) cd d.x=Â:=by
  obtain⟨c,o',vs,t,rfl,e1,e2,e3⟩:=hc;unfold ĭ;erw[Kw.lookup,e1];cases o';cases e2;simp only[];obtain⟨vs⟩:=vs;match vs,e3 with
  | [],e3=>cases e3
  | [_],e3=>cases e3
  | _::v::r,e3=>
   have e4:À v=À (Ĵ d.x t):=by simpa using e3
   cases e4;simp
 have k:ì (Kw h) (.ref a)=Â:=by
  unfold ì;erw[lk]
 have F:=CU (st:=d.st) lk c k;exact⟨a,_,F,F.binds (λkV doc pm an r6 ct us hl=>hb us hl kV doc pm an r6 ct),m⟩
noncomputable def Yo:Nat->Cn->W
 | 0,_=>.non
 | n+1,c=>match c with
  | .int i=>.int i
  | .str x=>.str x
  | .tup l=>.tup (l.map (Yo n))
noncomputable def toT(l:List (Ç×Cn)):List (Ç×W):=l.map λp=>(p.1,Yo 9 p.2)
def VS{h:Õ}(e:pN h v=À cb):∃a o n,v=.ref a/\h.get? a=À o/\(o.cls=.type "tuple" /\ o.dict=Á)/\o.data=.seq cb n:=by
 cases v with
 | ref a=>
  obtain⟨⟨c,di,d,sl⟩,e1,e2⟩:=zm.mp e;cases c with
  | type t=>
   have e3:(if t="tuple" then (match d with | .seq cb _=>if di.isNone then À cb else Á | _=>Á) else Á)=À cb:=e2;by_cases q:t="tuple"
   .rw[zQ q] at e3
    cases d with
    | seq its' n=>
     have e4:(if di.isNone then À its' else Á)=À cb:=e3;by_cases q2:di.isNone=Â
     .rw[zQ q2] at e4
      cases e4;exact⟨a,_,n,rfl,e1,⟨by rw[q],wK.mp q2⟩,rfl⟩
     .rw[zX q2] at e4;cases e4
    | _=>cases e3
   .rw[zX q] at e3;cases e3
  | _=>cases e2
 | _=>cases e
def BF{K:Te}{p:Cn->Ã->Bool}(hp:∀w v,p w v=Â->KW K (f w) v)(l:List Cn):∀vs:List Ã,fw p l vs=Â->KWs K (l.map f) vs:=by
 induction l with
 | nil=>intro vs h;cases vs with | nil=>exact .nil | cons _ _=>cases h
 | cons w l ih=>
  intro vs h;cases vs with
  | nil=>cases h
  | cons v vs=>have h2:=jt.mp h;exact .cons (hp _ _ h2.1) (ih vs h2.2)
def oh{h:Õ}{K:Te}(hK:∀b o,h.get? b=À o->K.lookup b=À o)(n:Nat):∀w v,fA h n w v=Â->KW K (Yo n w) v:=by
 induction n with
 | zero=>intro w v e;cases e
 | succ n ih=>
  intro w v e;cases w with
  | int i=>cases v with
   | int j t=>cases eq_of_beq (show(i==j)=Â from e);exact .int
   | _=>cases e
  | str x=>cases v with
   | str j t=>cases eq_of_beq (show(x==j)=Â from e);exact .str
   | _=>cases e
  | tup l=>
   have e1:((pN h v).any λcb=>decide (cb.size<=Ð)&&fw (fA h n) l cb.toList)=Â:=e;cases z:pN h v with
   | none=>rw[z] at e1;cases e1
   | some cb=>
    rw[z] at e1;obtain⟨a,o,m,rfl,e4,e5,e6⟩:=VS z;have e7:=jt.mp e1;exact .tup (hK _ _ e4) e5 e6 (jU e7.1) (BF ih _ _ e7.2)
def Vz{h:Õ}(e:dictAt h v=À es):∃a n,v=.ref a/\h.get? a=À ⟨.type "dict",Á,.dict es n,#[]⟩/\(a==Ý)=Ä:=by
 cases v with
 | ref a=>
  obtain⟨⟨c,di,d,sl⟩,e1,e2⟩:=zm.mp e;cases c with
  | type t=>
   have e3:(if t="dict" then (match d with | .dict es _=>if di.isNone&&sl.isEmpty&&a != Ý then À es else Á | _=>Á) else Á)=À es:=e2;by_cases q:t="dict"
   .rw[zQ q] at e3
    cases d with
    | dict es' n=>
     have e4:(if di.isNone&&sl.isEmpty&&a != Ý then À es' else Á)=À es:=e3;by_cases z:(di.isNone&&sl.isEmpty&&a != Ý)=Â
     .rw[zQ z] at e4
      cases e4;have z1:=jt.mp z;have z2:=jt.mp z1.1;refine⟨a,n,rfl,?_,?_⟩
      .rw[e1,q,wK.mp z2.1,Array.isEmpty_iff.mp z2.2]
      .have:=z1.2;rw[bne,qP] at this;exact this
     .rw[zX z] at e4;cases e4
    | _=>cases e3
   .rw[zX q] at e3;cases e3
  | _=>cases e2
 | _=>cases e
def tab_of{h:Õ}{K:Te}(hK:∀b o,h.get? b=À o->K.lookup b=À o)(l:List (Ç×Cn)):∀es:List ă,fw (λp (e:ă)=>U4 p.1 e.key&&fA h 9 p.2 e.val) l es=Â->es.map (·.hash)=l.map (λp=>Ŭ P p.1)->TabRel K (toT l) es/\Ť P es:=by
 induction l with
 | nil=>intro es a b;cases es with | nil=>exact⟨.nil,trivial⟩ | cons _ _=>cases a
 | cons p l ih=>
  intro es a b;cases es with
  | nil=>cases a
  | cons e es=>
   have a1:=jt.mp a;have a2:=jt.mp a1.1;have b1:=List.cons.inj b;obtain⟨r,t⟩:=ih es a1.2 b1.2;obtain⟨eh,ek,ev⟩:=e;cases ek with
   | str y t'=>
    have q:=eq_of_beq (show(p.1==y)=Â from a2.1);subst q;exact⟨.cons (hs:=0) (v:=.none) rfl (oh hK _ _ _ a2.2) r,⟨_,_,rfl,b1.1⟩,t⟩
   | _=>cases a2.1
def X0{h h₀:Õ}(G:h.Ns ß mg)(k:∀b o,h₀.get? b=À o->h.get? b=À o)(hn:h₀.isNs ß=Â)(x:Ç):mg x=h₀.nsMap ß x:=by
 obtain⟨o,es,ep,e1,e2,e3,e4⟩:=Heap.Ns.of_isNs hn;obtain⟨o',es',Hq,f1,f2,f3,f4⟩:=G;have:=k _ _ e1;rw[f1] at this;cases this;rw[e2] at f2;cases f2;rw[<-f4 x,<-e4 x]
theorem tL{α β:Type}{P:Ç->α->Prop}(f:β->α):∀{l:List (Ç×β)},(∀p∈l,P p.1 (f p.2))->AllOf P (l.map λp=>(p.1,f p.2))
 | [],_=>trivial
 | (x,g)::r,h=>⟨h (x,g) (zF ..),tL f λp m=>h p (zq _ m)⟩
theorem none_of:∀{l:List Ç},(∀x∈l,mg x=Á)->AllNone mg l
 | [],_=>trivial
 | x::r,h=>⟨h x (zF ..),none_of λp m=>h p (zq _ m)⟩
def C3{cons:List (Ç×Cn)}{tabs:List (Ç×List (Ç×Cn))}{bins:List Ç}{w:Ô}{h:Õ}(Y:(Jt cons tabs bins).says w h)(G:h.Ns ß mg) :
  AllOf (Glob (Kw h) mg) (toT cons)/\AllOf (TabOk (Kw h) w.params mg) (tabs.map λp=>(p.1,toT p.2))/\AllNone mg bins:=by
 obtain⟨h₀,k,b,t⟩:=Y;have hK:∀b o,h₀.get? b=À o->(Kw h).lookup b=À o:=λb o e=>by rw[Kw.lookup];exact k _ _ e
 unfold Wi at b;erw[zr,kE] at b;obtain⟨⟨b1,b2⟩,b3⟩:=b;have M:=X0 G k b1;refine⟨tL (Yo 9) λp m=>?_,tL toT λp m=>?_,none_of λx m=>?_⟩
 .have e:=b2 p m
  cases q:h₀.nsMap ß p.1 with
  | none=>rw[q] at e;cases e
  | some v=>rw[q] at e;exact(oh hK _ _ _ e).glob ((M _).trans q)
 .have e:VE h₀ p.2 (h₀.nsMap ß p.1)=(Â,p.2.map λk=>Ŭ w.params k.1):=by
   unfold W4 Kf at t;exact(List.map_inj_left.mp t) p m
  unfold VE at e;cases q:h₀.nsMap ß p.1 with
  | none=>rw[q] at e;cases e
  | some v=>
   rw[q] at e;cases z:dictAt h₀ v with
   | none=>rw[ql,z] at e;cases e
   | some es=>
    rw[ql,z] at e;have e2:=Prod.mk.inj e;obtain⟨a,n,rfl,g,f⟩:=Vz z;obtain⟨r,kl⟩:=tab_of hK (P:=w.params) p.2 es.toList e2.1 e2.2;exact⟨a,es,n,(M _).trans q,hK _ _ g,kl,f,r⟩
 .have:=b3 x m
  rw[M];exact wK.mp this
def walk_lawE{l:PySem.W.OpenLaw}{q:Ï}{d:DefRec}{D:Def}{Γ:RC}{ns:Nat}{cons:List (Ç×Cn)}{tabs:List (Ç×List (Ç×Cn))}(hc:toT cons=Γ.con)(ht:(tabs.map λp=>(p.1,toT p.2))=Γ.tab)(hn:l.most=À 63)(IB:d.params.defaults=[])
  (hr:Room (room+1) Ş) (hx:D.x=d.name) (Ni:D.ps=[y]) (hb:sN D.x D.st D.ps) (Ao:dU D.N D.ps (k8 D.st)=Â) (Ap:D.N.length-1=ns) (hB:cB (Γ.at D) (vj D.st)=À b) (hg:g=gc (kQ 1 ns b))
  (main:∀ns:List Int,ns.length<=63->∃h',g [.fls (ns.map W.int)] []=À (.bl Â,h'))
  (lvl:∀(w:Ô) (K:Te) (mg:Ç->Option Ã) (base:Õ),tS (eQ K mg) ds->AllOf (Glob K mg) Γ.con->AllOf (TabOk K w.params mg) Γ.tab->AllNone mg Γ.bin->BaseOk l.prog w K mg base ⟨λ_=>0,l.prog,w⟩ room Γ)
  (F:∀(w:Ô) (s₀:Å) (mg mb:Ç->Option Ã) (h:Õ),Ground q loose [] XP w s₀ mg mb h->eQ (Kw h) mg D/\tS (eQ (Kw h) mg) ds):PySem.W.WalkO q loose XP (Jt cons tabs Γ.bin).says l.row.toRowW d [] (λf vs=>PySem.call f vs):=by
 refine WB (n:=63) (k:=room+1) (x:=y) (CX:=dO) (sp:=λw=>FL l.prog w g) hn (by decide) IB hr (λw s₀ mg mb fa h G Y IC=>?_) (λw K H a ns hl _ hS=>CT main K H a ns hl hS) λ_ _ _ _ z=>z
 obtain⟨⟨a,fd,T⟩,h1⟩:=F w s₀ mg mb h G;obtain⟨h2,h3,h4⟩:=C3 Y G.T.g;rw[hc] at h2;rw[ht] at h3;have e:=T.m.symm.trans (hx▸IC);cases e;refine⟨fd,?_,λbase _ _=>?_⟩
 .have hb2:=λkV doc pm an r6 ct us hl=>hb us hl kV doc pm an r6 ct
  rw[Ni] at hb2;exact rK T.F hb2
 .have:=ZI T (lvl w _ mg base h1 h2 h3 h4) Ao (np:=1) (by rw[Ni];rfl) Ap hB
  rw[Ni] at this;subst hg;exact this
end ML
namespace ML
open PySem L2
noncomputable def dt:Nat->W->Bool
 | 0,_=>Ä
 | _+1,.non=>Â
 | _+1,.bl _=>Â
 | _+1,.int _=>Â
 | _+1,.str x=>ú x&&decide (x.length<=1000)
 | n+1,.tup l=>decide (l.length<=1000)&&l.all (dt n)
 | n+1,.fls l=>decide (l.length<=1000)&&l.all (dt n)
 | _+1,.ref _=>Ä
 | _+1,.fdc _=>Ä
 | _+1,.fn _=>Ä
noncomputable def toD:Nat->W->PyData
 | 0,_=>.none
 | _+1,.non=>.none
 | _+1,.bl b=>.bool b
 | _+1,.int i=>.int i
 | _+1,.str x=>.str x
 | n+1,.tup l=>.tuple (l.map (toD n))
 | n+1,.fls l=>.list (l.map (toD n))
 | _+1,_=>.none
theorem va:∀{l:List W},(∀w∈l,low m w=Â)->lows m l=Â
 | [],_=>by unfold lows;rfl
 | w::r,h=>by
  unfold lows;rw[h w zF,va λw hw=>h w (zq _ hw)];rfl
theorem wf:∀{n:Nat} {w:W},dt n w=Â->low m w=Â
 | 0,_,h=>by cases h
 | n+1,.non,_=>by unfold low;rfl
 | n+1,.bl _,_=>by unfold low;rfl
 | n+1,.int _,_=>by unfold low;rfl
 | n+1,.str _,_=>by unfold low;rfl
 | n+1,.tup l,h=>by
  unfold dt at h;rw[zr] at h;unfold low;exact va λw hw=>wf (kE.mp h.2 w hw)
 | n+1,.fls l,h=>by
  unfold dt at h;rw[zr] at h;unfold low;exact va λw hw=>wf (kE.mp h.2 w hw)
 | n+1,.ref _,h=>by cases h
 | n+1,.fdc _,h=>by cases h
 | n+1,.fn _,h=>by cases h
theorem vi:∀{n m:Nat} {w:W},dt n w=Â->n<=m->dt m w=Â
 | 0,_,_,h,_=>by cases h
 | n+1,0,_,_,h=>by omega
 | n+1,m+1,.non,_,_=>rfl
 | n+1,m+1,.bl _,_,_=>rfl
 | n+1,m+1,.int _,_,_=>rfl
 | n+1,m+1,.str _,h,_=>h
 | n+1,m+1,.tup l,h,hn=>by
  unfold dt at h ⊢;rw[zr] at h ⊢;exact⟨h.1,kE.mpr λw hw=>vi (kE.mp h.2 w hw) ∅⟩
 | n+1,m+1,.fls l,h,hn=>by
  unfold dt at h ⊢;rw[zr] at h ⊢;exact⟨h.1,kE.mpr λw hw=>vi (kE.mp h.2 w hw) ∅⟩
 | n+1,m+1,.ref _,h,_=>by cases h
 | n+1,m+1,.fdc _,h,_=>by cases h
 | n+1,m+1,.fn _,h,_=>by cases h
theorem nC{α β:Type}{f:α->Option β}{g:α->β}:∀{l:List α},(∀x∈l,f x=À (g x))->qq f l=À (l.map g)
 | [],_=>rfl
 | x::r,h=>by
  unfold qq;rw[h x zF,nC λy hy=>h y (zq _ hy)];rfl
theorem wq:∀{n m:Nat} {w:W},dt n w=Â->n<=m->kP m h w=À (toD n w)
 | 0,_,_,e,_=>by cases e
 | n+1,0,_,_,hn=>by omega
 | n+1,m+1,.non,_,_=>rfl
 | n+1,m+1,.bl _,_,_=>rfl
 | n+1,m+1,.int _,_,_=>rfl
 | n+1,m+1,.str x,e,_=>by
  unfold dt at e;rw[zr] at e;unfold kP;rw[zQ e.1];rfl
 | n+1,m+1,.tup l,e,hn=>by
  unfold dt at e;rw[zr] at e;unfold kP;rw[nC λw hw=>wq (kE.mp e.2 w hw) ∅];rfl
 | n+1,m+1,.fls l,e,hn=>by
  unfold dt at e;rw[zr] at e;unfold kP;rw[nC λw hw=>wq (kE.mp e.2 w hw) ∅];rfl
 | n+1,m+1,.ref _,e,_=>by cases e
 | n+1,m+1,.fdc _,e,_=>by cases e
 | n+1,m+1,.fn _,e,_=>by cases e
def qA(e:f ws h=À (w,h))(d:dt n w=Â):gc f ws h=À (w,h):=wm e (wf d) (jw _)
def CD(e:f ws h=À (w,h++t))(d:dt n w=Â):gc f ws h=À (w,h):=wm e (wf d) (qI _ _)
noncomputable def tyB(T:Ty):W->Bool
 | .bl _=>decide (T=.bool)||decide (T=.int)
 | .int _=>decide (T=.int)
 | .str _=>decide (T=.str)
 | .tup _=>decide (T=.tuple)
 | .fls _=>decide (T=.list)
 | _=>Ä
theorem CO(d:dt n w=Â):isW T w h=À (.bl (tyB T w),h):=by
 cases n with
 | zero=>cases d
 | succ n=>
  unfold isW sS tyB;cases w with
  | ref _=>cases d
  | fdc _=>cases d
  | fn _=>cases d
  | non=>rfl
  | bl b=>erw[lg];cases T<;>rfl
  | int b=>erw[lg];cases T<;>rfl
  | str b=>erw[lg];cases T<;>rfl
  | tup b=>erw[lg];cases T<;>rfl
  | fls b=>erw[lg];cases T<;>rfl
theorem vk(h:MH)(x y:Ç):eqB h (.str x) (.str y)=À (x==y):=rfl
theorem qV(h:MH)(x y:Int):eqB h (.int x) (.int y)=À (x==y):=rfl
theorem Dp(h:MH)(x y:Bool):eqB h (.bl x) (.bl y)=À (x==y):=rfl
noncomputable def l7:W->Bool
 | .tup []=>Â
 | _=>Ä
def UD(d:dt n w=Â)(hn:n<=60)(dl:dt m (.tup l)=Â)(hm:m<=60):eqB h w (.tup l)=À (ò (toD n w) (toD m (.tup l))):=by
 have e1:=wq (h:=h) d (show n<=deep from hn);have e2:=wq (h:=h) dl (show m<=deep from hm);unfold eqB;have:oQ w (.tup l)=Á:=by unfold oQ;cases w<;>rfl
 rw[this,e1,e2]
def ZU(d:dt n w=Â)(hn:n<=60):eqB h w (.tup [])=À (l7 w):=by
 rw[UD d hn (m:=1) (by rfl) ∅];cases n with
 | zero=>cases d
 | succ n=>
  cases w with
  | ref _=>cases d
  | fdc _=>cases d
  | fn _=>cases d
  | tup l=>cases l<;>simp[toD,ò,û,l7]
  | _=>simp[toD,ò,l7]
noncomputable def kU(l:List Ç):W->Bool
 | .str x=>l.any (· == x)
 | _=>Ä
noncomputable def zk(l:List Ç):List W:=l.map .str
def WF{l:List Ç}(d:dt n w=Â)(hn:n<=60)(hl:l.all ú=Â)(hy:qS h y=À (zk l))(Ap:∀z,y≠.str z):inB h w y=À (kU l w):=by
 have e1:=wq (h:=h) d (show n<=deep from hn);have e2:qq (kP deep h) (zk l)=À (l.map .str):=by
  unfold zk;have:∀l:List Ç,l.all ú=Â->qq (kP deep h) (l.map .str)=À (l.map PyData.str):=by
   intro l;induction l with
   | nil=>intro _;rfl
   | cons x r ih=>
    intro hl;rw[jP,zr] at hl;erw[zz];unfold qq;have:kP deep h (.str x)=À (.str x):=by
     show kP (59+1) h (.str x)=_
     unfold kP;rw[zQ hl.1]
    rw[this,ih hl.2]
  exact this l hl
 have e3:inB h w y=match qS h y with
  | some l=>match kP deep h w,qq (kP deep h) l with
   | some d,À ds=>À (ds.any λe=>ò e d)
   | _,_=>Á
  | none=>Á:=by
  unfold inB;split
  .rename_i j
   exact absurd rfl (Ap _)
  .rfl
 rw[e3,hy];erw[e1,e2];congr 1
 cases n with
 | zero=>cases d
 | succ n=>
  rw[uT];cases w with
  | ref _=>cases d
  | fdc _=>cases d
  | fn _=>cases d
  | str x=>
   unfold kU;congr 1
  | _=>simp[toD,ò,kU]
def dA{l:List Ç}(d:dt n w=Â)(hn:n<=60)(hl:l.all ú=Â):inB h w (.tup (zk l))=À (kU l w):=WF d hn hl rfl (λz=>nofun)
theorem mS{h:MH}(hn:h.length=n0)(p:W->Bool)(f:W->W):∀(l:List W) (acc:List W) (o:Option W),
  (∀w∈l,∀H',t (À w::caps) H'=À (p w,H'))->(∀w∈l,p w=Â->∀H',m (À w::caps) H'=À (f w,H'))->acc.length+l.length<=cap->
  yv 1 (zw 0) t m n0 l (o::caps) (h++[.lst acc])=À (h++[.lst (acc++(l.filter p).map f)])
 | [],acc,o,_,_,_=>by simp[yv]
 | w::l,acc,o,ht,hf,hl=>by
  have ih:=λEV=>mS (caps:=caps) (t:=t) (m:=m) hn p f l EV Á (λw hw=>ht w (zq _ hw)) (λw hw=>hf w (zq _ hw))
  have hb:blank 1 (À w::caps)=Á::caps:=by simp[blank]
  unfold yv;have hg:zw 0 w (o::caps) (h++[.lst acc])=À (À w::caps,h++[.lst acc]):=by simp[zw]
  rw[hg];simp only;rw[ht w zF];erw[zE] at hl;cases hp:p w with
  | false=>
   simp only;rw[hb,ih acc ∅];simp[j6,hp]
  | true=>
   simp only;rw[hf w zF hp];have e1:(h++[MO.lst acc])[n0]?=À (.lst acc):=by rw[<-hn];simp
   have e2:(h++[MO.lst acc]).set n0 (.lst (acc++[f w]))=h++[.lst (acc++[f w])]:=by rw[<-hn,qH _ _ (zy _)];simp
   erw[e1];rw[zQ ∅,hb,e2,ih (acc++[f w]) (by rw[zR];simp;omega)];simp[j6,hp]
def eM{ks:List Nat}{ρ:En}{h:MH}{l:List W}(p:W->Bool)(f:W->W)(hm:mi ρ h=À (.items l,h))(ht:∀w∈l,∀H',t (À w::ks.map λk=>(ρ[k]?).join) H'=À (p w,H'))
  (hf:∀w∈l,p w=Â->∀H',m (À w::ks.map λk=>(ρ[k]?).join) H'=À (f w,H')) (EW:∀w∈l,p w=Â->low h.length (f w)=Â) (hl:l.length<=cap):kz mi 1 ks (zw 0) t m ρ h=À (.fls ((l.filter p).map f),h):=by
 have e:=mS (caps:=ks.map λk=>(ρ[k]?).join) (t:=t) (m:=m) (h:=h) rfl p f l [] Á ht hf (by simpa using hl);unfold kz eU;rw[hm];have er:(Æ 1 (Á:Option W)++ks.map λk=>(ρ[k]?).join)=Á::ks.map λk=>(ρ[k]?).join:=rfl
 simp only;rw[er,e];erw[jb,jf (zy _),uQ,qW];rw[zQ];refine⟨qI _ _,va λw hw=>?_⟩;obtain⟨w',h1,rfl⟩:=zK.mp hw;obtain⟨h2,h3⟩:=jc.mp h1;exact EW w' h2 h3
theorem i9{h:MH}(hn:h.length=n0)(p:W->W->Bool)(f:W->W->W):∀(l:List (W×W)) (acc:List W) (o1 o2:Option W),
  (∀w∈l,∀H',t (À w.1::À w.2::caps) H'=À (p w.1 w.2,H'))->(∀w∈l,p w.1 w.2=Â->∀H',m (À w.1::À w.2::caps) H'=À (f w.1 w.2,H'))->acc.length+l.length<=cap->
  yv 2 (vE [zw 0,zw 1]) t m n0 (l.map λw=>.tup [w.1,w.2]) (o1::o2::caps) (h++[.lst acc])=À (h++[.lst (acc++(l.filter λw=>p w.1 w.2).map λw=>f w.1 w.2)])
 | [],acc,_,_,_,_,_=>by simp[yv]
 | (a,b)::l,acc,o1,o2,ht,hf,hl=>by
  have ih:=λEV=>i9 (caps:=caps) (t:=t) (m:=m) hn p f l EV Á Á (λw hw=>ht w (zq _ hw)) (λw hw=>hf w (zq _ hw))
  have hb:blank 2 (À a::À b::caps)=Á::Á::caps:=by simp[blank,Æ]
  erw[zz];unfold yv;have hg:vE [zw 0,zw 1] (.tup [a,b]) (o1::o2::caps) (h++[.lst acc])=À (À a::À b::caps,h++[.lst acc]):=by simp[vE,eZ,bnd,zw]
  rw[hg];simp only;rw[ht (a,b) zF];erw[zE] at hl;cases hp:p a b with
  | false=>
   simp only;rw[hb,ih acc ∅];simp[j6,hp]
  | true=>
   simp only;rw[hf (a,b) zF hp];have e1:(h++[MO.lst acc])[n0]?=À (.lst acc):=by rw[<-hn];simp
   have e2:(h++[MO.lst acc]).set n0 (.lst (acc++[f a b]))=h++[.lst (acc++[f a b])]:=by rw[<-hn,qH _ _ (zy _)];simp
   erw[e1];rw[zQ ∅,hb,e2,ih (acc++[f a b]) (by rw[zR];simp;omega)];simp[j6,hp]
def Ks{ks:List Nat}{ρ:En}{h:MH}{l:List (W×W)}(p:W->W->Bool)(f:W->W->W)(hm:mi ρ h=À (.items (l.map λw=>.tup [w.1,w.2]),h))(ht:∀w∈l,∀H',t (À w.1::À w.2::ks.map λk=>(ρ[k]?).join) H'=À (p w.1 w.2,H'))
  (hf:∀w∈l,p w.1 w.2=Â->∀H',m (À w.1::À w.2::ks.map λk=>(ρ[k]?).join) H'=À (f w.1 w.2,H')) (EW:∀w∈l,p w.1 w.2=Â->low h.length (f w.1 w.2)=Â) (hl:l.length<=cap):kz mi 2 ks (vE [zw 0,zw 1]) t m ρ h=À (.fls ((l.filter λw=>p w.1 w.2).map λw=>f w.1 w.2),h):=by
 have e:=i9 (caps:=ks.map λk=>(ρ[k]?).join) (t:=t) (m:=m) (h:=h) rfl p f l [] Á Á ht hf (by simpa using hl);unfold kz eU;rw[hm];have er:(Æ 2 (Á:Option W)++ks.map λk=>(ρ[k]?).join)=Á::Á::ks.map λk=>(ρ[k]?).join:=rfl
 simp only;rw[er,e];erw[jb,jf (zy _),uQ,qW];rw[zQ];refine⟨qI _ _,va λw hw=>?_⟩;obtain⟨w',h1,rfl⟩:=zK.mp hw;obtain⟨h2,h3⟩:=jc.mp h1;exact EW w' h2 h3
end ML
namespace K32
open PySem PySem.Spec PyProof.Rows L2 ML
def top(i:Nat):č:=PySem.Challenge.pw_shelfwork_k32_whole_kinds.main.body.getD i (.Pass ⟨0,0,0,0⟩)
def wn:W:=(.tup [.str "a",.str "b",.str "c",.str "d"])
def t_FORMS:List (Ç×W):=[("number",(.tup [.int 2,.int 2])),("name",(.tup [.int 2,.int 2])),("read",(.tup [.int 2,.int 2])),("write",(.tup [.int 3,.int 2])),("add",(.tup [.int 3,.int 1])),("less",(.tup [.int 3,.int 1])),("then",(.tup [.int 3,.int 1])),("if",(.tup [.int 4,.int 1])),("loop",(.tup [.int 3,.int 1])),("let",(.tup [.int 4,.int 2])),("own",(.tup [.int 4,.int 2])),("say",(.tup [.int 2,.int 1])),("ask",(.tup [.int 1,.int 1])),("do",(.tup [.int 2,.int 2])),("call",(.tup [.int 4,.int 2]))]
set_option genInjectivity false in
structure Fs where
 (bV aD aM aN bD aG aY az aZ aJ bR aF aU aR aK bH bh cI aL aB aH aC bK aa bU au bT bu aq ak bj cN:List W->M W)
noncomputable def bL(F:Fs):MS:=(zl (kX (zS (zh (jp Ä) (zh zC (zd 0) (Pu 0)) (PN "call")))
 (kf (zh addW (zh zC (zd 0) (Pu 2)) (zh zC (zd 0) (Pu 3))))
 kg)
 (kf (bX (zd 0) (À (zh zC (yk (fz t_FORMS) (zh zC (zd 0) (Pu 0))) (Pu 1))) Á)))
noncomputable def aj(F:Fs):MS:=(zl (kX (zS (zh (u7 Ä) (zh zC (zd 1) (Pu 0)) (ze zo [PN "read",PN "write",PN "do"])))
 (kf (ze kG [ze zo [zh zC (zd 1) (Pu 0),zh zC (zd 1) (Pu 1)]]))
 kg)
 (zl (kX (zS (zh (u7 Ä) (zh zC (zd 1) (Pu 0)) (ze zo [PN "say",PN "ask"])))
 (kf (ze kG [ze zo [zh zC (zd 1) (Pu 0)]]))
 kg)
 (zl (kX (zS (zh (jp Ä) (zh zC (zd 1) (Pu 0)) (PN "call")))
 (kf (kz (kF (zh zC (zd 0) (zh zC (zd 1) (Pu 1)))) 1 [] (zw 0) (zS (zh (jp Â) (zh zC (zd 0) (Pu 0)) (PN "do"))) (zd 0)))
 kg)
 (kf (ze kG [])))))
noncomputable def aW(F:Fs):MS:=(zl (zI (zh zC (zh zC (zd 0) (zd 2)) (Pu 1)) (zw 4))
 (kf (ze bS [kz (ar [zd 4,zd 3]) 2 [1,2] (vE [zw 0,zw 1]) (zS (zh (u7 Ä) (ze zo [PN "do",zd 0]) (zh zC (zd 2) (zd 3)))) (zd 1)])))
noncomputable def aQ(F:Fs):MS:=(zl (kX (zS (zh (jp Ä) (zh zC (zd 2) (Pu 0)) (PN "call")))
 (kf (zh addW (zh zC (zd 2) (Pu 2)) (ze F.aM [zd 0,zd 1,zh zC (zd 2) (Pu 1),zh zC (zd 2) (Pu 3)])))
 kg)
 (kf (ze F.bV [zd 2])))
noncomputable def bc(F:Fs):MS:=(kf (Yu (zS (zh (u7 Ä) (zd 1) (zd 0))) (zd 0) (zh addW (zd 0) (ze zo [zd 1]))))
noncomputable def aA(F:Fs):MS:=(zl (kX (zS (zh (jp Ä) (zh zC (zd 2) (Pu 0)) (PN "own")))
 (kf (ze kG [ze zo [zh zC (zd 2) (Pu 2),zd 3],ze zo [zh zC (zd 2) (Pu 3),ze F.bD [zd 3,zh zC (zd 2) (Pu 1)]]]))
 kg)
 (kf (kz (kF (ze F.aN [zd 0,zd 1,zd 2])) 1 [3] (zw 0) qv (ze zo [zd 0,zd 1]))))
noncomputable def zT:MT:=zS (zh Qs (ze kK [zd 4]) (Pu 0))
noncomputable def ZG:MS:=(kX (zS (zh (u7 Â) (zh zC (zd 6) (yk nQ (Pu 1))) (zh zC (zd 5) (Pu 1))))
 (zI (eC (.bl Â)) (pP (zd 3) (zd 6)))
 kg)
noncomputable def zB(F:Fs):MS:=(zl (zI (qE lR (zd 4) []) (zw 5))
 (zl (vS (kF (ze F.aD [zd 1,zh zC (zd 5) (Pu 0)])) (zw 6) ZG)
 (yY (qE x8 (zd 4) [ze F.aG [zd 0,zd 1,zh zC (zd 5) (Pu 0),zh zC (zd 5) (Pu 1)]]))))
noncomputable def bI(F:Fs):MS:=zl (zI mz (zw 3)) (zl (zI (ze dY [ze zo [zd 2,ze zo []]]) (zw 4)) (zl (ck zT (zB F)) (kf (ze uS [zd 3]))))
noncomputable def bB(F:Fs):MS:=(yY (qE yb (zd 1) [ze F.aY [zd 0,zd 1,zh zC (zd 2) (Pu 2)]]))
noncomputable def aX(F:Fs):MS:=zl (zI (ze dY []) (zw 1)) (zl (vS (kF (zd 0)) (zw 2) (bB F)) (kf (zd 1)))
noncomputable def cg(F:Fs):MS:=(kf (ze F.aY [zd 0,ze F.az [zd 0],zd 1]))
noncomputable def bG(F:Fs):MS:=(kf (zh zC (ze F.az [zd 0]) (zd 1)))
noncomputable def bA(F:Fs):MS:=(zl (zI (kz (kF (eC wn)) 1 [] (zw 0) qv (ze zo [PN "read",zd 0])) (zw 1))
 (zl (zI (kz (kF (eC wn)) 1 [] (zw 0) qv (ze zo [PN "write",zd 0])) (zw 2))
 (kf (zh addW (zh addW (zh addW (zd 1) (zd 2)) (ze kG [ze zo [PN "say"],ze zo [PN "ask"]])) (kz (kF (zd 0)) 1 [] (zw 0) qv (ze zo [PN "do",zd 0]))))))
noncomputable def cj(F:Fs):MS:=(zl (kX (w9 (zS (yk (isW .list) (zd 0))))
 (kf (eC (.bl Ä)))
 kg)
 (zl (zI (ze F.bR [zd 1]) (zw 2))
 (kf (Jv (ze rB [kz (kF (zd 0)) 1 [2] (zw 0) qv (zh (u7 Ä) (zd 0) (zd 1))]) (zh (jp Ä) (zd 0) (yk fy (zd 0)))))))
noncomputable def bZ(F:Fs):MS:=(kf (kz (kF (zd 0)) 1 [1] (zw 0) (zS (zh (u7 Â) (zd 0) (zd 1))) (zd 0)))
noncomputable def b7(F:Fs):MS:=(kf (zh (jp Ä) (ze kK [ze F.aU [zd 0,zd 1]]) (Pu 0)))
noncomputable def cC(F:Fs):MS:=(kf (xo (λa b=>a++b) (zd 0) (zd 1)))
noncomputable def b8(F:Fs):MS:=(kf (xo (λa b=>a.filter (b.contains ·)) (zd 0) (zd 1)))
noncomputable def bW(F:Fs):MS:=(kf (ze F.aU [ze F.aZ [zd 0,zd 1],zd 2]))
noncomputable def cL(F:Fs):MS:=(kf (zh (jp Ä) (ze kK [ze F.bh [zd 0,zd 1,zd 2]]) (Pu 0)))
noncomputable def bN(F:Fs):MS:=(kf (ze F.az [zd 0]))
noncomputable def aP(F:Fs):MS:=(zl (kX (zS (zh (jp Â) (ze kK [zd 1]) (ze kK [zd 0])))
 iE
 kg)
 (vS (ar [zd 0,zd 1]) (vE [zw 2,zw 3])
 (kX (w9 (zS (ze F.aF [zd 3,zh zC (zd 2) (Pu 1)])))
 iE
 kg)))
noncomputable def bJ(F:Fs):MS:=(zl (yY (ze F.aB [zd 0,zd 1]))
 (zl (vS (w8 [ze F.aL [zd 0]]) (vE [zw 2,zw 3])
 (zl (zI (ze F.aU [zd 3,zh zC (zd 1) (zd 2)]) (zw 4))
 (kX (zS (zh Qs (ze kK [zd 4]) (Pu 0)))
 (kf (ze zo [zd 2,zd 4]))
 kg)))
 (kf (eC .non))))
noncomputable def bF(F:Fs):MS:=(zl (yY (ze F.aB [zd 0,zd 1]))
 (kf (ze F.aY [zd 0,zd 1,zd 2])))
noncomputable def bM(F:Fs):MS:=(zl (kX (zS (zh (jp Ä) (zd 0) (ze kG [])))
 (kf (zh kx (Pu 7) (zd 1)))
 kg)
 (kf (zh addW (zh zC (zd 0) (zh yT (zd 1) (ze kK [zd 0]))) (zh kx (Pu 6553) (zh aI (zd 1) (ze kK [zd 0]))))))
noncomputable def bz(F:Fs):MS:=(zl (zI (zh yT (zh addW (zh kx (zh yT (ze F.bK [zd 0,zd 1]) (Pu 2147483563)) (Pu 69069)) (zh kx (Pu 104723) (zh addW (zd 1) (Pu 1)))) (Pu 2147483563)) (zw 3))
 (zl (zI (zh yT (zh addW (zh kx (zd 3) (zd 3)) (zh aI (zd 3) (Pu 3))) (Pu 2147483399)) (zw 3))
 (kf (zh yT (zh aI (zh yT (zh addW (zh kx (zd 3) (zd 3)) (zh aI (zd 3) (Pu 7))) (Pu 2147483647)) (Pu 11)) (zd 2)))))
noncomputable def Yz(F:Fs):MS:=(zI (zd 2) (vE [zw 3,zw 4,zw 5]))
noncomputable def YV(F:Fs):MS:=(zI (ze F.aa [zd 0,zd 1,Pu 8]) (zw 6))
noncomputable def ZC(F:Fs):MS:=(kX (zS (zh ZT (zd 6) (Pu 2)))
 (kf (ze zo [PN "number",zh zC (ze kG [Pu 0,Pu 1,Pu 2,Pu 3,Pu 7,Pu 1008]) (ze F.aa [zd 0,zh addW (zd 1) (Pu 1),Pu 6])]))
 kg)
noncomputable def tu(F:Fs):MS:=(kX (iC (zS (zh (jp Ä) (zd 6) (Pu 2))) (zS (zh (jp Â) (zd 3) (ze zo []))))
 (kf (ze zo [PN "name",zh zC (zd 3) (ze F.aa [zd 0,zh addW (zd 1) (Pu 1),ze kK [zd 3]])]))
 kg)
noncomputable def tF(F:Fs):MS:=(kX (iC (zS (zh (jp Ä) (zd 6) (Pu 3))) (zS (zh (jp Â) (zd 5) (ze zo []))))
 (kf (ze zo [PN "do",zh zC (zd 5) (ze F.aa [zd 0,zh addW (zd 1) (Pu 1),ze kK [zd 5]])]))
 kg)
noncomputable def JO(F:Fs):MS:=(kX (zS (zh (jp Ä) (zd 6) (Pu 4)))
 (kf (ze zo [PN "ask"]))
 kg)
noncomputable def QP(F:Fs):MS:=(zI (zh addW (ze zo [PN "a",PN "b",PN "c",PN "d"]) (zh kx (zd 4) (Pu 3))) (zw 7))
noncomputable def YR(F:Fs):MS:=(kf (ze zo [PN "read",zh zC (zd 7) (ze F.aa [zd 0,zh addW (zd 1) (Pu 1),ze kK [zd 7]])]))
noncomputable def bf(F:Fs):MS:=zl (Yz F) (zl (YV F) (zl (ZC F) (zl (tu F) (zl (tF F) (zl (JO F) (zl (QP F) (YR F)))))))
noncomputable def Jy(F:Fs):MS:=(zI (ze F.aa [zd 0,zd 1,Pu 15]) (zw 5))
noncomputable def su(F:Fs):MS:=(kX (af (zS (zh (jp Ä) (zd 2) (Pu 0))) (zS (zh ZT (zd 5) (Pu 2))))
 (kf (ze F.bU [zd 0,zh addW (zd 1) (Pu 1),zd 3]))
 kg)
noncomputable def nV(F:Fs):MS:=(kX (iC (zS (zh ZT (zd 5) (Pu 4))) (zS (zh (jp Â) (zd 4) (ze zo []))))
 (kf (ze F.bT [zd 0,zd 1,zd 2,zd 3,zd 4]))
 kg)
noncomputable def Zx(F:Fs):MS:=(zI (ze F.au [zd 0,zh addW (zh kx (zd 1) (Pu 3)) (Pu 7),zh yn (zd 2) (Pu 1),zd 3,zd 4]) (zw 6))
noncomputable def tG(F:Fs):MS:=(kX (zS (zh ZT (zd 5) (Pu 6)))
 (zl (zI (zh addW (ze zo [PN "a",PN "b",PN "c",PN "d"]) (zh kx (zh zC (zd 3) (Pu 1)) (Pu 3))) (zw 7))
 (kf (ze zo [PN "write",zh zC (zd 7) (ze F.aa [zd 0,zh addW (zd 1) (Pu 3),ze kK [zd 7]]),zd 6])))
 kg)
noncomputable def Kc(F:Fs):MS:=(kX (zS (zh (jp Ä) (zd 5) (Pu 6)))
 (kf (ze zo [PN "say",zd 6]))
 kg)
noncomputable def Zs(F:Fs):MS:=(kX (zS (zh (jp Ä) (zd 5) (Pu 7)))
 (zl (zI (zh zC (ze kG [PN "x",PN "y",PN "x1"]) (ze F.aa [zd 0,zh addW (zd 1) (Pu 3),Pu 3])) (zw 8))
 (kf (ze zo [PN "let",zd 8,zd 6,ze F.au [zd 0,zh addW (zh kx (zd 1) (Pu 3)) (Pu 23),zh yn (zd 2) (Pu 1),zh addW (ze zo [zh addW (zh zC (zd 3) (Pu 0)) (ze zo [zd 8])]) (bX (zd 3) (À (Pu 1)) Á),zd 4]])))
 kg)
noncomputable def Zn(F:Fs):MS:=(kX (zS (zh (jp Ä) (zd 5) (Pu 8)))
 (zl (zI (zh zC (ze kG [PN "p",PN "q"]) (ze F.aa [zd 0,zh addW (zd 1) (Pu 3),Pu 2])) (zw 8))
 (zl (zI (ze zo [zh zC (zd 3) (Pu 0),zh addW (zh zC (zd 3) (Pu 1)) (ze zo [zd 8]),zh zC (zd 3) (Pu 2)]) (zw 9))
 (kf (ze zo [PN "own",zd 8,zd 6,ze F.au [zd 0,zh addW (zh kx (zd 1) (Pu 3)) (Pu 23),zh yn (zd 2) (Pu 1),zd 9,zd 4]]))))
 kg)
noncomputable def rh(F:Fs):MS:=(zI (ze F.au [zd 0,zh addW (zh kx (zd 1) (Pu 3)) (Pu 41),zh yn (zd 2) (Pu 1),zd 3,zd 4]) (zw 10))
noncomputable def rT(F:Fs):MS:=(kX (zS (zh (jp Ä) (zd 5) (Pu 9)))
 (kf (ze zo [PN "if",zd 6,zd 10,ze F.au [zd 0,zh addW (zh kx (zd 1) (Pu 3)) (Pu 61),zh yn (zd 2) (Pu 1),zd 3,zd 4]]))
 kg)
noncomputable def lQ(F:Fs):MS:=(kf (zh addW (zh zC (ze kG [ze zo [PN "then"],ze zo [PN "add"],ze zo [PN "less"],ze zo [PN "loop"],ze zo [PN "then"]]) (zh yn (zd 5) (Pu 10))) (ze zo [zd 6,zd 10])))
noncomputable def aO(F:Fs):MS:=zl (Jy F) (zl (su F) (zl (nV F) (zl (Zx F) (zl (tG F) (zl (Kc F) (zl (Zs F) (zl (Zn F) (zl (rh F) (zl (rT F) (lQ F))))))))))
noncomputable def Y0(F:Fs):MS:=(zI (ze F.aa [zd 0,zh addW (zd 1) (Pu 3),ze kK [zd 4]]) (zw 5))
noncomputable def YQ(F:Fs):MS:=(zI (ze kK [zh zC (zh zC (zd 4) (zd 5)) (Pu 0)]) (zw 6))
noncomputable def Y7(F:Fs):MS:=(zI (ze dY []) (zw 7))
noncomputable def Yj(F:Fs):MS:=(vS (cn [zh addW (zd 6) (ze kK [zh zC (zh zC (zd 4) (zd 5)) (Pu 1)])]) (zw 8)
 (yY (qE yb (zd 7) [ze F.au [zd 0,zh addW (zh addW (zh kx (zd 1) (Pu 3)) (Pu 7)) (zh kx (Pu 5) (zd 8)),zh yn (zd 2) (Pu 1),zd 3,zd 4]])))
noncomputable def Y5(F:Fs):MS:=(kf (ze zo [PN "call",zd 5,ze bS [bX (zd 7) Á (À (zd 6))],ze bS [bX (zd 7) (À (zd 6)) Á]]))
noncomputable def bO(F:Fs):MS:=zl (Y0 F) (zl (YQ F) (zl (Y7 F) (zl (Yj F) (Y5 F))))
noncomputable def Yr(F:Fs):MS:=(zI (ze zo []) (zw 2))
noncomputable def Dl(F:Fs):MS:=(vS (cn [ze F.aa [zd 0,zd 1,Pu 3]]) (zw 3)
 (zl (zI (zh zC (ze kG [ze zo [],ze zo [PN "x"],ze zo [PN "y",PN "x"]]) (ze F.aa [zd 0,zh addW (zh addW (zd 1) (Pu 1)) (zh kx (Pu 5) (zd 3)),Pu 3])) (zw 4))
 (zl (zI (zh zC (ze kG [ze zo [],ze zo [PN "f"],ze zo [PN "f",PN "g1"]]) (ze F.aa [zd 0,zh addW (zh addW (zd 1) (Pu 2)) (zh kx (Pu 5) (zd 3)),Pu 3])) (zw 5))
 (zl (zI (ze F.au [zd 0,zh addW (zh addW (zd 1) (Pu 20)) (zh kx (Pu 7) (zd 3)),Pu 2,ze zo [zd 4,ze zo [],zd 5],zd 2]) (zw 6))
 (zI (zh addW (zd 2) (ze zo [ze zo [zd 4,zd 5,zd 6]])) (zw 2))))))
noncomputable def BN(F:Fs):MS:=(kf (zd 2))
noncomputable def bx(F:Fs):MS:=zl (Yr F) (zl (Dl F) (BN F))
noncomputable def bQ(F:Fs):MS:=(zl (zI (zh addW (ze kG [ze zo [PN "ask"],ze zo [PN "say"]]) (kz (kF (zd 2)) 1 [] (zw 0) qv (ze zo [PN "do",zd 0]))) (zw 3))
 (zl (vS (nB (PN "abcd")) (zw 4)
 (zI (zh addW (zd 3) (ze kG [ze zo [PN "read",zd 4],ze zo [PN "write",zd 4]])) (zw 3)))
 (kf (ze uS [kz (w8 [zd 3]) 2 [0,1] (vE [zw 0,zw 1]) (zS (zh (jp Ä) (ze F.aa [zd 2,zh addW (zd 3) (zd 0),Pu 3]) (Pu 0))) (zd 1)]))))
noncomputable def w1(F:Fs):MS:=(kX (zS (zh (u7 Ä) (zd 3) (ze zo [PN "number",PN "name",PN "ask",PN "read"])))
 (kf (Pu 1))
 kg)
noncomputable def w2(F:Fs):MS:=(kX (zS (zh (jp Ä) (zd 3) (PN "do")))
 (kf (mO (zd 2) (zh zC (zd 1) (Pu 1)) (Pu 1)))
 kg)
noncomputable def w3(F:Fs):MS:=(kX (zS (zh (jp Ä) (zd 3) (PN "call")))
 (zl (zI (ze iM [kz (ar [zh zC (zh zC (zd 0) (zh zC (zd 1) (Pu 1))) (Pu 1),zh zC (zd 1) (Pu 3)]) 2 [0,2] (vE [zw 0,zw 1]) qv (ze zo [zd 0,ze F.ak [zd 2,zd 1,zd 3]])]) (zw 4))
 (zl (zI (ze gW [kz (kF (zh zC (zd 1) (Pu 2))) 1 [0,2] (zw 0) qv (ze F.ak [zd 1,zd 0,zd 2])]) (zw 5))
 (kf (zh addW (zh addW (Pu 1) (zd 5)) (ze F.ak [zd 0,zh zC (zh zC (zd 0) (zh zC (zd 1) (Pu 1))) (Pu 2),zd 4])))))
 kg)
noncomputable def w4(F:Fs):MS:=(zI (kz (kF (bX (zd 1) (À (Pu 1)) Á)) 1 [0,2] (zw 0) (zS (yk (isW .tuple) (zd 0))) (ze F.ak [zd 1,zd 0,zd 2])) (zw 6))
noncomputable def w5(F:Fs):MS:=(kX (zS (zh (jp Ä) (zd 3) (PN "loop")))
 (kf (zh addW (zh addW (Pu 1) (zh zC (zd 6) (Pu 0))) (zh kx (Pu 3) (zh zC (zd 6) (Pu 1)))))
 kg)
noncomputable def w6(F:Fs):MS:=(kf (zh addW (Pu 1) (ze gW [zd 6])))
noncomputable def aV(F:Fs):MS:=zl (zI (zh zC (zd 1) (Pu 0)) (zw 3)) (zl (w1 F) (zl (w2 F) (zl (w3 F) (zl (w4 F) (zl (w5 F) (w6 F))))))
noncomputable def bC(F:Fs):MS:=(zl (zI (ze F.au [zd 0,zd 1,zd 2,ze zo [ze zo [],ze zo [],ze zo []],zd 3]) (zw 4))
 (zl (kX (zS (zh Qs (ze F.ak [zd 3,zd 4,eC (.fdc [])]) (Pu 80)))
 (kf (ze zo [PN "read",zh zC (PN "abcd") (ze F.aa [zd 0,zd 1,Pu 4])]))
 kg)
 (kf (zd 4))))
noncomputable def Q0(F:Fs):MS:=(zI (ze F.bu [zd 0,Pu 1]) (zw 1))
noncomputable def Q1(F:Fs):MS:=(zI (ze F.bj [zd 0,Pu 90,Pu 2,zd 1]) (zw 2))
noncomputable def Q2(F:Fs):MS:=(zI (ze F.aZ [zd 1,zd 2]) (zw 3))
noncomputable def Q3(F:Fs):MS:=(zI (ze F.aq [zd 0,Pu 400,ze zo []]) (zw 4))
noncomputable def Q4(F:Fs):MS:=(zI (ze F.aq [zd 0,Pu 420,ze zo []]) (zw 5))
noncomputable def Q5(F:Fs):MS:=(kX (af (w9 (zS (ze F.cI [zd 1,zd 2,ze F.aK [zd 3,zd 4]]))) (af (zS (zh (jp Â) (ze F.bh [zd 1,zd 2,zd 3]) (ze kG []))) (w9 (zS (ze F.aF [zd 3,ze zo []])))))
 (kf (eC (.bl Ä)))
 kg)
noncomputable def Q6(F:Fs):MS:=(kX (af (w9 (zS (ze F.aR [zd 4,ze F.aK [zd 4,zd 5]]))) (w9 (zS (ze F.aR [ze F.bH [zd 4,zd 5],zd 5]))))
 (kf (eC (.bl Ä)))
 kg)
noncomputable def Q7(F:Fs):MS:=(kX (af (zS (zh (jp Â) (ze F.aR [zd 4,zd 5]) (zh (jp Ä) (ze F.aK [zd 4,zd 5]) (zd 5)))) (zS (zh (jp Â) (ze F.aR [zd 4,zd 5]) (zh (jp Ä) (ze F.bH [zd 4,zd 5]) (zd 4)))))
 (kf (eC (.bl Ä)))
 kg)
noncomputable def Q8(F:Fs):MS:=(zI (ze F.aL [zd 1]) (zw 6))
noncomputable def Q9(F:Fs):MS:=(zI (kz (w8 [zd 6]) 2 [0,1] (vE [zw 0,zw 1]) qv (ze F.aK [zd 1,ze F.aq [zd 2,zh addW (Pu 440) (zh kx (Pu 20) (zd 0)),zh zC (zh zC (zd 3) (zd 0)) (Pu 1)]])) (zw 7))
noncomputable def Bw(F:Fs):MS:=(zI (kz (w8 [zd 7]) 2 [0,1] (vE [zw 0,zw 1]) qv (ze F.aK [zd 1,ze F.aq [zd 2,zh addW (Pu 480) (zh kx (Pu 20) (zd 0)),zh zC (zh zC (zd 3) (zd 0)) (Pu 1)]])) (zw 8))
noncomputable def YJ(F:Fs):MS:=(kX (af (zS (zh (ui Ä) (ze F.aH [zd 1,zd 6]) (eC .non))) (zS (zh (ui Ä) (ze F.aH [zd 1,zd 7]) (eC .non))))
 (kf (eC (.bl Ä)))
 kg)
noncomputable def YN(F:Fs):MS:=(zI (ze F.aC [zd 1,zd 7,zd 2]) (zw 9))
noncomputable def YX(F:Fs):MS:=(kX (af (zS (zh (jp Â) (ze F.aC [zd 1,zd 6,zd 2]) (zd 3))) (w9 (zS (ze F.aR [zd 3,zd 9]))))
 (kf (eC (.bl Ä)))
 kg)
noncomputable def Xd(F:Fs):MS:=(kX (w9 (zS (ze F.aR [zd 9,ze F.aC [zd 1,zd 8,zd 2]])))
 (kf (eC (.bl Ä)))
 kg)
noncomputable def Dz(F:Fs):MS:=(vS (cn [ze kK [zd 1]]) (zw 10)
 (zl (kX (af (w9 (zS (ze F.aF [zh zC (zd 6) (zd 10),zh zC (zh zC (zd 1) (zd 10)) (Pu 1)]))) (zS (zh (jp Â) (zh zC (zd 6) (zd 10)) (ze F.aJ [zd 1,zd 10]))))
 (kf (eC (.bl Ä)))
 kg)
 (kX (zS (zh (jp Â) (zh zC (zd 6) (zd 10)) (ze kG [])))
 (zl (zI (zh zC (zh zC (zd 6) (zd 10)) (ze F.aa [zd 0,zh addW (Pu 520) (zd 10),ze kK [zh zC (zd 6) (zd 10)]])) (zw 11))
 (zl (zI (zh addW (zh addW (bX (zd 7) Á (À (zd 10))) (ze kG [kz (kF (zh zC (zd 7) (zd 10))) 1 [11] (zw 0) (zS (zh (jp Â) (zd 0) (zd 1))) (zd 0)])) (bX (zd 7) (À (zh addW (zd 10) (Pu 1))) Á)) (zw 12))
 (kX (zS (zh (jp Â) (ze F.aH [zd 1,zd 12]) (ze zo [zd 10,ze kG [zd 11]])))
 (kf (eC (.bl Ä)))
 kg)))
 kg)))
noncomputable def FN(F:Fs):MS:=(kf (eC (.bl Â)))
noncomputable def cu(F:Fs):MS:=zl (Q0 F) (zl (Q1 F) (zl (Q2 F) (zl (Q3 F) (zl (Q4 F) (zl (Q5 F) (zl (Q6 F) (zl (Q7 F) (zl (Q8 F) (zl (Q9 F) (zl (Bw F) (zl (YJ F) (zl (YN F) (zl (YX F) (zl (Xd F) (zl (Dz F) (FN F))))))))))))))))
noncomputable def step(F:Fs):Fs where
 bV:=gc (kQ 1 0 (bL F))
 aD:=gc (kQ 2 0 (aj F))
 aM:=gc (kQ 4 1 (aW F))
 aN:=gc (kQ 3 0 (aQ F))
 bD:=gc (kQ 2 0 (bc F))
 aG:=gc (kQ 4 0 (aA F))
 aY:=gc (kQ 3 4 (bI F))
 az:=gc (kQ 1 2 (aX F))
 aZ:=gc (kQ 2 0 (cg F))
 aJ:=gc (kQ 2 0 (bG F))
 bR:=gc (kQ 1 2 (bA F))
 aF:=gc (kQ 2 1 (cj F))
 aU:=gc (kQ 2 0 (bZ F))
 aR:=gc (kQ 2 0 (b7 F))
 aK:=gc (kQ 2 0 (cC F))
 bH:=gc (kQ 2 0 (b8 F))
 bh:=gc (kQ 3 0 (bW F))
 cI:=gc (kQ 3 0 (cL F))
 aL:=gc (kQ 1 0 (bN F))
 aB:=gc (kQ 2 2 (aP F))
 aH:=gc (kQ 2 3 (bJ F))
 aC:=gc (kQ 3 0 (bF F))
 bK:=gc (kQ 2 0 (bM F))
 aa:=gc (kQ 3 1 (bz F))
 bU:=gc (kQ 3 5 (bf F))
 au:=gc (kQ 5 6 (aO F))
 bT:=gc (kQ 5 4 (bO F))
 bu:=gc (kQ 2 5 (bx F))
 aq:=gc (kQ 3 2 (bQ F))
 ak:=gc (kQ 3 4 (aV F))
 bj:=gc (kQ 4 1 (bC F))
 cN:=gc (kQ 1 12 (cu F))
noncomputable def Fs.bot:Fs:=let z:List W->M W:=λ_ _=>Á;⟨z,z,z,z,z,z,z,z,z,z,z,z,z,z,z,z,z,z,z,z,z,z,z,z,z,z,z,z,z,z,z,z⟩
noncomputable def lv:Nat->Fs
 | 0=>.bot
 | n+1=>step (lv n)
def fns(F:Fs):List (Ç×(List W->M W)):=[(("parts_of":Ç),F.bV),(("marks_of_itself":Ç),F.aD),(("handed_that_are_done":Ç),F.aM),(("parts_that_count":Ç),F.aN),(("with_hidden":Ç),F.bD),(("parts_with_hidden":Ç),F.aG),(("marks_by":Ç),F.aY),(("marks_of_bodies":Ç),F.az),(("touches":Ç),F.aZ),(("rule_touches":Ç),F.aJ),(("marks_let":Ç),F.bR),(("is_kind":Ç),F.aF),(("lacking":Ç),F.aU),(("is_less":Ç),F.aR),(("joined":Ç),F.aK),(("both_of":Ç),F.bH),(("too_much":Ç),F.bh),(("fits":Ç),F.cI),(("least_kinds":Ç),F.aL),(("refuse_bad_kinds":Ç),F.aB),(("first_fault":Ç),F.aH),(("told_touches":Ç),F.aC),(("_law_cell":Ç),F.bK),(("_law_drawn":Ç),F.aa),(("_law_leaf":Ç),F.bU),(("_law_deed":Ç),F.au),(("_law_call":Ç),F.bT),(("_law_rules":Ç),F.bu),(("_law_kind":Ç),F.aq),(("_law_weight":Ç),F.ak),(("_law_light":Ç),F.bj),(("law":Ç),F.cN)]
def cons:List (Ç×W):=[("SHELVES",wn)]
def tabs:List (Ç×List (Ç×W)):=[("FORMS",t_FORMS)]
def bins:List Ç:=["all","dict","enumerate","isinstance","len","list","range","set","sorted","sum","tuple","zip"]
def rc(F:Fs):RC:=⟨⟨.function,[],Ä,Ä,[]⟩,[],Ä,fns F,cons,tabs,bins,[],[],[]⟩
def cY:Def:=⟨"parts_of",top 6,["deed"],["deed"],[],[],[]⟩
def cH:Def:=⟨"marks_of_itself",top 8,["bodies","deed"],["bodies","deed"],[],[],[((20,15),["mark"])]⟩
def bY:Def:=⟨"handed_that_are_done",top 9,["rules","bodies","number","handed"],["rules","bodies","number","handed","names"],[],[],[((24,17),["name","part","bodies","number"])]⟩
def cD:Def:=⟨"parts_that_count",top 10,["rules","bodies","deed"],["rules","bodies","deed"],[],[],[]⟩
def cO:Def:=⟨"with_hidden",top 11,["hidden","shelf"],["hidden","shelf"],[],[],[]⟩
def cA:Def:=⟨"parts_with_hidden",top 12,["rules","bodies","deed","hidden"],["rules","bodies","deed","hidden"],[],[],[((34,11),["part","hidden"])]⟩
def dg:Def:=⟨"marks_by",top 13,["rules","bodies","deed"],["rules","bodies","deed","found","waiting","place","mark"],["found","waiting"],["found"],[]⟩
def cG:Def:=⟨"marks_of_bodies",top 14,["rules"],["rules","bodies","rule"],["bodies"],[],[]⟩
def dD:Def:=⟨"touches",top 15,["rules","deed"],["rules","deed"],[],[],[]⟩
def cM:Def:=⟨"rule_touches",top 16,["rules","number"],["rules","number"],[],[],[]⟩
def cT:Def:=⟨"marks_let",top 18,["handed"],["handed","reads","writes"],[],[],[((56,12),["shelf"]),((57,13),["shelf"]),((58,51),["name"])]⟩
def dF:Def:=⟨"is_kind",top 19,["thing","handed"],["thing","handed","let"],[],[],[((63,15),["mark","let"])]⟩
def dw:Def:=⟨"lacking",top 20,["marks","kind"],["marks","kind"],[],[],[((65,11),["mark","kind"])]⟩
def dB:Def:=⟨"is_less",top 21,["one","other"],["one","other"],[],[],[]⟩
def dH:Def:=⟨"joined",top 22,["one","other"],["one","other"],[],[],[]⟩
def dC:Def:=⟨"both_of",top 23,["one","other"],["one","other"],[],[],[]⟩
def dh:Def:=⟨"too_much",top 24,["rules","deed","kind"],["rules","deed","kind"],[],[],[]⟩
def dJ:Def:=⟨"fits",top 25,["rules","deed","kind"],["rules","deed","kind"],[],[],[]⟩
def cQ:Def:=⟨"least_kinds",top 26,["rules"],["rules"],[],[],[]⟩
def cF:Def:=⟨"refuse_bad_kinds",top 27,["rules","kinds"],["rules","kinds","rule","kind"],[],[],[]⟩
def cP:Def:=⟨"first_fault",top 28,["rules","kinds"],["rules","kinds","number","marks","lacks"],[],[],[]⟩
def cJ:Def:=⟨"told_touches",top 29,["rules","kinds","deed"],["rules","kinds","deed"],[],[],[]⟩
def cX:Def:=⟨"_law_cell",top 31,["_law_script","_law_k"],["_law_script","_law_k"],[],[],[]⟩
def cV:Def:=⟨"_law_drawn",top 32,["_law_script","_law_k","_law_many"],["_law_script","_law_k","_law_many","_law_cell_here"],[],[],[]⟩
def cZ:Def:=⟨"_law_leaf",top 33,["_law_script","_law_at","_law_known"],["_law_script","_law_at","_law_known","_law_names","_law_owns","_law_handed","_law_way","_law_shelves"],[],[],[]⟩
def dq:Def:=⟨"_law_deed",top 34,["_law_script","_law_at","_law_deep","_law_known","_law_rules_here"],["_law_script","_law_at","_law_deep","_law_known","_law_rules_here","_law_way","_law_one","_law_shelves","_law_word","_law_inner","_law_other"],[],[],[]⟩
def du:Def:=⟨"_law_call",top 35,["_law_script","_law_at","_law_deep","_law_known","_law_rules_here"],["_law_script","_law_at","_law_deep","_law_known","_law_rules_here","_law_number","_law_size","_law_parts","_law_k"],["_law_parts"],[],[]⟩
def cU:Def:=⟨"_law_rules",top 36,["_law_script","_law_at"],["_law_script","_law_at","_law_rules_here","_law_k","_law_names","_law_handed","_law_body"],[],[],[]⟩
def dj:Def:=⟨"_law_kind",top 39,["_law_script","_law_at","_law_handed"],["_law_script","_law_at","_law_handed","_law_every","_law_shelf"],[],[],[((159,40),["_law_word"]),((162,18),["_law_k","_law_mark","_law_script","_law_at"])]⟩
def cR:Def:=⟨"_law_weight",top 40,["_law_rules_here","_law_deed_here","_law_handed"],["_law_rules_here","_law_deed_here","_law_handed","_law_word","_law_there","_law_parts","_law_inner"],[],[],[((173,17),["_law_part","_law_rules_here","_law_handed"]),((170,26),["_law_one","_law_part","_law_rules_here","_law_handed"]),((171,25),["_law_part","_law_rules_here","_law_handed"])]⟩
def cW:Def:=⟨"_law_light",top 41,["_law_script","_law_at","_law_deep","_law_rules_here"],["_law_script","_law_at","_law_deep","_law_rules_here","_law_deed_here"],[],[],[]⟩
def dG:Def:=⟨"law",top 42,["_law_script"],["_law_script","_law_rules_here","_law_deed_here","_law_mine","_law_one","_law_other","_law_least","_law_kinds","_law_greater","_law_told","_law_k","_law_mark","_law_less"],[],[],[((195,17),["_law_k","_law_some","_law_script","_law_rules_here"]),((196,19),["_law_k","_law_some","_law_script","_law_rules_here"]),((209,47),["_law_one_mark","_law_mark"])]⟩
def defs:List Def:=[cY,cH,bY,cD,cO,cA,dg,cG,dD,cM,cT,dF,dw,dB,dH,dC,dh,dJ,cQ,cF,cP,cJ,cX,cV,cZ,dq,du,cU,dj,cR,cW,dG]
def lvl{P:Ï}{w:Ô}{K:Te}{mg:Ç->Option Ã}{base:Õ}(T:tS (eQ K mg) defs)(c:AllOf (Glob K mg) cons)(t:AllOf (TabOk K w.params mg) tabs)(z:AllNone mg bins):∀n,BaseOk P w K mg base ⟨λ_=>0,P,w⟩ n (rc (lv n)):=by
 obtain⟨T0,T1,T2,T3,T4,T5,T6,T7,T8,T9,Oj,Ol,Om,Oo,Oq,Os,Ot,Ou,Ov,Ow,Ox,Oy,Oz,OA,OB,OC,OD,OE,OF,OG,OH,OI,-⟩:=T;intro n;induction n with
 | zero=>exact⟨⟨ki T0,ki T1,ki T2,ki T3,ki T4,ki T5,ki T6,ki T7,ki T8,ki T9,ki Oj,ki Ol,ki Om,ki Oo,ki Oq,ki Os,ki Ot,ki Ou,ki Ov,ki Ow,ki Ox,ki Oy,ki Oz,ki OA,ki OB,ki OC,ki OD,ki OE,ki OF,ki OG,ki OH,ki OI,trivial⟩,c,t,z,⟨rfl,rfl⟩⟩
 | succ n ih=>exact⟨⟨kN (b:=bL _) T0 ih,kN (b:=aj _) T1 ih,kN (b:=aW _) T2 ih,kN (b:=aQ _) T3 ih,kN (b:=bc _) T4 ih,kN (b:=aA _) T5 ih,kN (b:=bI _) T6 ih,kN (b:=aX _) T7 ih,kN (b:=cg _) T8 ih,kN (b:=bG _) T9 ih,kN (b:=bA _) Oj ih,kN (b:=cj _) Ol ih,kN (b:=bZ _) Om ih,kN (b:=b7 _) Oo ih,kN (b:=cC _) Oq ih,kN (b:=b8 _) Os ih,kN (b:=bW _) Ot ih,kN (b:=cL _) Ou ih,kN (b:=bN _) Ov ih,kN (b:=aP _) Ow ih,kN (b:=bJ _) Ox ih,kN (b:=bF _) Oy ih,kN (b:=bM _) Oz ih,kN (b:=bz _) OA ih,kN (b:=bf _) OB ih,kN (b:=aO _) OC ih,kN (b:=bO _) OD ih,kN (b:=bx _) OE ih,kN (b:=bQ _) OF ih,kN (b:=aV _) OG ih,kN (b:=bC _) OH ih,kN (b:=cu _) OI ih,trivial⟩,c,t,z,⟨rfl,rfl⟩⟩
end K32
namespace K32
open PySem L2 ML
theorem BJ{α:Type}{β:Type}{c:Prop}[Decidable c]{f g:α->β}{x:α}:(if c then f else g) x=if c then f x else g x:=by split<;>rfl
local macro_rules
 |`(tactic|simp![$l,*])=>`(tactic|simp[step,kQ,zl,kX,kf,yY,kg,zI,zw,vE,eZ,zd,eC,zh,yk,ze,xC,Jv,Cb,Wr,Yu,gP,zS,iC,af,w9,nZ,bnd,jp,u7,BJ,$l,*])
def UI(l:List W)(f:W->Bool):iH (l.map λw=>.bl (f w))=À (l.map f):=by
 induction l with
 | nil=>rfl
 | cons x r ih=>erw[zz];unfold iH;rw[ih]
def forms:List (Ç×(Int×Int)):=[("number",(2,2)),("name",(2,2)),("read",(2,2)),("write",(3,2)),("add",(3,1)),("less",(3,1)),("then",(3,1)),("if",(4,1)),("loop",(3,1)),("let",(4,2)),("own",(4,2)),("say",(2,1)),("ask",(1,1)),("do",(2,2)),("call",(4,2))]
def fm(x:Ç):Option (Int×Int):=forms.lookup x
theorem Xu:t_FORMS=forms.map λp=>(p.1,.tup [.int p.2.1,.int p.2.2]):=rfl
theorem QD{α β:Type}(f:α->β)(x:Ç):∀l:List (Ç×α),(l.map λp=>(p.1,f p.2)).lookup x=(l.lookup x).map f
 | []=>rfl
 | (k,v)::r=>by
  erw[zz,qm];cases x==k with
  | true=>rfl
  | false=>exact QD f x r
def Gw(x:Ç):t_FORMS.lookup x=(fm x).map λp=>W.tup [.int p.1,.int p.2]:=by
 rw[Xu];exact QD (λp:Int×Int=>W.tup [.int p.1,.int p.2]) x forms
def j3{l:List W}(d:dt n (.tup l)=Â):∃m,n=m+1/\l.length<=1000/\∀w∈l,dt m w=Â:=by
 cases n with
 | zero=>cases d
 | succ m=>
  unfold dt at d;rw[zr] at d;exact⟨m,rfl,jU d.1,λw hw=>kE.mp d.2 w hw⟩
def u4:zC (.tup (x::r)) (.int 0) h=À (x,h):=by simp[zC,atI,y0]
def bq:zC (.tup (x::y::r)) (.int 1) h=À (y,h):=by
 have:(1:Int)<(r.length:Int)+1+1:=by omega
 simp[zC,atI,y0,this]
def sG:zC (.tup (x::y::z::r)) (.int 2) h=À (z,h):=by
 have:(2:Int)<(r.length:Int)+1+1+1:=by omega
 simp[zC,atI,y0,this]
def YA:zC (.tup (x::y::z::u::r)) (.int 3) h=À (u,h):=by
 have:(3:Int)<(r.length:Int)+1+1+1+1:=by omega
 simp[zC,atI,y0,this]
def YE{l:List W}{i:Int}(h0:0<=i)(h1:i<l.length)(e:l[i.toNat]?=À w):zC (.tup l) (.int i) h=À (w,h):=by
 have hj:i.toNat<l.length:=by omega
 have:l[i.toNat]=w:=by rw[zM hj] at e;exact zW e
 simp[zC,atI,y0,h0,h1,this]
def zD:W->List W
 | .tup (.str x::r)=>if x=="call" then (match r with
   | [_,.tup a,.tup b]=>a++b
   | _=>[]) else (match fm x with
   | some p=>r.drop (p.2.toNat-1)
   | none=>[])
 | _=>[]
def gp{l:List W}{k:Nat}:cutW l (À (k:Int)) Á=l.drop k:=by
 unfold cutW;have e1:HT.sIx l.length 0 (À (k:Int))=min k l.length:=by
  have:¬((k:Int)<0):=by omega
  simp[HT.sIx,this]
 have e2:HT.sIx l.length l.length Á=l.length:=rfl;rw[e1,e2];have:l.drop (min k l.length)=l.drop k:=by
  by_cases h:k<=l.length
  .rw[Nat.min_eq_left h]
  .rw[Nat.min_eq_right ∅,xY,List.drop_of_length_le ∅]
 rw[this];apply uL
 rw[qF];omega
def Bp{p:Int×Int}(e:fm x=À p):1<=p.2/\p.2<=4:=by
 have:∀(l:List (Ç×(Int×Int))),(l.all λq=>decide (1<=q.2.2/\q.2.2<=4))=Â->l.lookup x=À p->1<=p.2/\p.2<=4:=by
  intro l;induction l with
  | nil=>intro _ e;cases e
  | cons q r ih=>
   obtain⟨k,v⟩:=q;intro h e;rw[jP,zr] at h;rw[qm] at e;split at e
   .cases e;exact jU h.1
   .exact ih h.2 e
 exact this forms (by decide) e
def qf(ks:List Ç):(zk ks).length=ks.length:=by simp[zk]
def d9(d:dt (n+1) w=Â):∀v∈zD w,dt n v=Â:=by
 intro v hv;unfold zD at hv;split at hv
 .rename_i x r
  obtain⟨m,e,hl,hd⟩:=j3 d;cases e;split at hv
  .split at hv
   .rename_i a b
    rename_i z0;cases n with
    | zero=>have:=hd (.tup a) (by simp);cases this
    | succ n=>
    obtain⟨m1,e1,la,da⟩:=j3 (hd (.tup a) (by simp));obtain⟨m2,e2,lb,db⟩:=j3 (hd (.tup b) (by simp));cases e1;cases e2;rcases zx.mp hv with h | h
    .exact vi (da v h) (qR _)
    .exact vi (db v h) (qR _)
   .simp at hv
  .split at hv
   .exact hd v (zq _ (jJ hv))
   .simp at hv
 .simp at hv
def fQ(d:dt n w=Â):(zD w).length<=2000:=by
 unfold zD;split
 .rename_i x r
  obtain⟨m,rfl,hl,hd⟩:=j3 d;split
  .split
   .rename_i a b
    obtain⟨m1,e1,la,da⟩:=j3 (hd (.tup a) (by simp));obtain⟨m2,e2,lb,db⟩:=j3 (hd (.tup b) (by simp));rw[zR];omega
   .simp
  .split
   .rw[qF]
    simp at hl;omega
   .simp
 .simp
def at0{α:Type}(h:List α)(o:α):(h++[o])[h.length]?=À o:=by simp
def F0{α:Type}(h:List α)(o o':α):(h++[o]).set h.length o'=h++[o']:=by rw[qH _ _ (zy _)];simp
noncomputable def up:Nat->Fs->Fs
 | 0,F=>F
 | n+1,F=>step (up n F)
def zt(e:a ρ h=À (.nx ρ',h')):zl a b ρ h=b ρ' h':=by unfold zl;rw[e]
def we(e:a ρ h=À (.ret w,h')):zl a b ρ h=À (.ret w,h'):=by unfold zl;rw[e]
def Ga:zC (.fls (a::r)) (.int 0) h=À (a,h):=by simp[zC,getL,atI,y0]
def Gv:zC (.fls (a::b::r)) (.int 1) h=À (b,h):=by
 have:(1:Int)<(r.length:Int)+1+1:=by omega
 simp[zC,getL,atI,y0,this]
noncomputable abbrev th(x:Ç)(r:List W):W:=.tup (.str x::r)
def JU{l:List W}(hk:k<=l.length):cutW l Á (À (k:Int))=l.take k:=by
 unfold cutW;have e1:HT.sIx l.length l.length (À (k:Int))=k:=by
  have:¬((k:Int)<0):=by omega
  simp[HT.sIx,this];omega
 have e2:HT.sIx l.length 0 Á=0:=rfl;rw[e1,e2];simp
def YZ:cutW (x::r) (À 1) Á=r:=by
 have:=gp (l:=x::r) (k:=1);simpa using this
def ints_map(l:List W)(f:W->Int):intsOf (l.map λw=>.int (f w))=À (l.map f):=by
 induction l with
 | nil=>rfl
 | cons x r ih=>erw[zz];unfold intsOf;rw[ih]
def filter_true{α:Type}(l:List α):(l.filter λ_=>Â)=l:=vD.mpr (by simp)
def lD{l:List W}(d:dt n (.fls l)=Â)(hn:n<=60):eqB h (.fls l) (.fls [])=À l.isEmpty:=by
 have e1:=wq (h:=h) d (show n<=deep from hn);have e2:=wq (h:=h) (show dt 1 (.fls [])=Â from rfl) (show 1<=deep by decide);unfold eqB;erw[oQ,e1,e2];congr 1
 cases n with
 | zero=>cases d
 | succ n=>
  cases l<;>simp[toD,ò,û]
def ky(ns:List Int):W:=.fls (ns.map W.int)
theorem BS{ns:List Int}(h:ns.length<=63):dt 2 (ky ns)=Â:=by
 unfold ky dt;rw[zr];refine⟨kJ (by simp;omega),kE.mpr λw hw=>?_⟩;obtain⟨i,_,rfl⟩:=zK.mp hw;rfl
def bi(ns:List Int)(k:Int):Int:=if ns=[] then 7*k else ns.getD (k%ns.length).toNat 0+6553*(k/ns.length)
def Dr{ns:List Int}(hl:ns.length<=63):(step F).bK [ky ns,.int k] h=À (.int (bi ns k),h):=by
 refine qA (n:=1) ?_ rfl;have eq:=lD (h:=h) (BS hl) ∅;have sm:(small 7||small k)=Â:=by rw[show small 7=Â by decide];rfl
 cases ns with
 | nil=>
  have Nj:eqB h (ky []) (.fls [])=À Â:=eq;simp![bM,kG,cap,Nj,kx,sm,bi]
 | cons n r=>
  have Nj:eqB h (ky (n::r)) (.fls [])=À Ä:=eq;have hp:(0:Int)<(r.length:Int)+1:=by omega
  have hb:(r.length:Int)+1<1073741824:=by simp at hl;omega
  have NW:=wB k (show((r.length:Int)+1)≠0 by omega);have S8:=vR k hp;have gy:kK [ky (n::r)] h=À (.int ((r.length:Int)+1),h):=by simp[kK,ky,getL]
  have Ek:zC (ky (n::r)) (.int (k%((r.length:Int)+1))) h=À (.int ((n::r).getD (k%((r.length:Int)+1)).toNat 0),h):=by
   have hj:(k%((r.length:Int)+1)).toNat<(n::r).length:=by simp;omega
   have e1:((n::r).map W.int)[(k%((r.length:Int)+1)).toNat]?=À (.int ((n::r).getD (k%((r.length:Int)+1)).toNat 0)):=by
    rw[kh,zM hj];erw[Option.map_some,ġ,zM hj,qj]
   have e2:atI ((n::r).map W.int) (k%((r.length:Int)+1))=À (.int ((n::r).getD (k%((r.length:Int)+1)).toNat 0)):=by
    unfold atI y0;rw[zQ NW,zQ (by simp;omega)];exact e1
   erw[zC,ky,getL,e2]
  have RS:(small 6553||small (k/((r.length:Int)+1)))=Â:=by rw[show small 6553=Â by decide];rfl
  simp![bM,kG,cap,Nj,gy,yT,hp,Ek,aI,hb,kx,RS,addW,jI,bi]
def b9(ns:List Int)(k:Int):Int:=(bi ns k%2147483563*69069+104723*(k+1))%2147483563
def br(ns:List Int)(k:Int):Int:=(b9 ns k*b9 ns k+b9 ns k/3)%2147483399
def vT(ns:List Int)(k many:Int):Int:=(br ns k*br ns k+br ns k/7)%2147483647/11%many
def lh(h0:0<=i)(h1:i<2147483648):small i=Â:=by
 unfold small;exact kJ ⟨by omega,by omega⟩
def x6{ns:List Int}(hl:ns.length<=63)(hm:0<many):(step (step F)).aa [ky ns,.int k,.int many] h=À (.int (vT ns k many),h):=by
 refine qA (n:=1) ?_ rfl;have e:=λh=>Dr (F:=F) (k:=k) (h:=h) hl
 generalize step F=G at e;have a1:0<=b9 ns k/\b9 ns k<2147483563:=⟨wB _ ∅,vR _ ∅⟩;have a2:0<=br ns k/\br ns k<2147483399:=⟨wB _ ∅,vR _ ∅⟩;have c0:0<=bi ns k%2147483563/\bi ns k%2147483563<2147483563:=⟨wB _ ∅,vR _ ∅⟩;have s1:(small (bi ns k%2147483563)||small 69069)=Â:=by rw[lh c0.1 ∅];rfl
 have s2:(small 104723||small (k+1))=Â:=by rw[show small 104723=Â by decide];rfl
 have s3:(small (b9 ns k)||small (b9 ns k))=Â:=by rw[lh a1.1 ∅];rfl
 have s4:(small (br ns k)||small (br ns k))=Â:=by rw[lh a2.1 ∅];rfl
 have m1:∀h,kx (.int (bi ns k%2147483563)) (.int 69069) h=À (.int (bi ns k%2147483563*69069),h):=λh=>by erw[kx,s1,je]
 have m2:∀h,kx (.int 104723) (.int (k+1)) h=À (.int (104723*(k+1)),h):=λh=>by erw[kx,s2,je]
 have m3:∀h,kx (.int (b9 ns k)) (.int (b9 ns k)) h=À (.int (b9 ns k*b9 ns k),h):=λh=>by erw[kx,s3,je]
 have m4:∀h,kx (.int (br ns k)) (.int (br ns k)) h=À (.int (br ns k*br ns k),h):=λh=>by erw[kx,s4,je]
 have f1:(bi ns k%2147483563*69069+104723*(k+1))%2147483563=b9 ns k:=rfl;have f2:(b9 ns k*b9 ns k+b9 ns k/3)%2147483399=br ns k:=rfl;have f3:(br ns k*br ns k+br ns k/7)%2147483647/11%many=vT ns k many:=rfl;have b1:(zI (zh yT (zh addW (zh kx (zh yT (ze G.bK [zd 0,zd 1]) (Pu 2147483563)) (Pu 69069)) (zh kx (Pu 104723) (zh addW (zd 1) (Pu 1)))) (Pu 2147483563)) (zw 3)) [À (ky ns),À (.int k),À (.int many),Á] h=À (.nx [À (ky ns),À (.int k),À (.int many),À (.int (b9 ns k))],h):=by
  simp![e,yT,m1,m2,addW,jI,f1]
 have b2:(zI (zh yT (zh addW (zh kx (zd 3) (zd 3)) (zh aI (zd 3) (Pu 3))) (Pu 2147483399)) (zw 3)) [À (ky ns),À (.int k),À (.int many),À (.int (b9 ns k))] h=À (.nx [À (ky ns),À (.int k),À (.int many),À (.int (br ns k))],h):=by
  simp![yT,m3,aI,addW,jI,f2]
 have b3:(kf (zh yT (zh aI (zh yT (zh addW (zh kx (zd 3) (zd 3)) (zh aI (zd 3) (Pu 7))) (Pu 2147483647)) (Pu 11)) (zd 2))) [À (ky ns),À (.int k),À (.int many),À (.int (br ns k))] h=À (.ret (.int (vT ns k many)),h):=by
  simp![yT,m4,aI,addW,jI,hm,f3]
 have row:bz G [À (ky ns),À (.int k),À (.int many),Á] h=À (.ret (.int (vT ns k many)),h):=by
  unfold bz;rw[zt b1,zt b2,b3]
 erw[kQ,zE,kI,je,zz,kY,Æ,jr,jb];erw[row]
def kr(hm:0<many):0<=vT ns k many/\vT ns k many<many:=⟨wB _ ∅,vR _ hm⟩
def pl:Nat->W->Bool
 | 0,_=>Ä
 | _+1,.int i=>decide (0<=i)&&decide (i<=1008)
 | _+1,.str x=>ú x&&decide (x.length<=1000)
 | n+1,.tup l=>decide (l.length<=4)&&l.all (pl n)
 | _+1,_=>Ä
def gG{l:List W}(d:pl n (.tup l)=Â):∃m,n=m+1/\l.length<=4/\∀w∈l,pl m w=Â:=by
 cases n with
 | zero=>cases d
 | succ m=>
  unfold pl at d;rw[zr] at d;exact⟨m,rfl,jU d.1,λw hw=>kE.mp d.2 w hw⟩
def y6{l:List W}(hl:l.length<=4)(h:∀w∈l,pl n w=Â):pl (n+1) (.tup l)=Â:=by
 unfold pl;rw[zr];exact⟨kJ hl,kE.mpr h⟩
def uk{l:List W}(hl:l.length<=1000)(h:∀w∈l,dt n w=Â):dt (n+1) (.tup l)=Â:=by
 unfold dt;rw[zr];exact⟨kJ hl,kE.mpr h⟩
def QC{l:List W}(hl:l.length<=1000)(h:∀w∈l,dt n w=Â):dt (n+1) (.fls l)=Â:=by
 unfold dt;rw[zr];exact⟨kJ hl,kE.mpr h⟩
theorem wt:∀{n:Nat} {w:W},pl n w=Â->dt n w=Â
 | 0,_,h=>by cases h
 | n+1,.non,h=>by cases h
 | n+1,.bl _,h=>by cases h
 | n+1,.int _,_=>rfl
 | n+1,.str _,h=>h
 | n+1,.tup l,h=>by
  obtain⟨m,e,hl,hd⟩:=gG h;cases e;exact uk ∅ λw hw=>wt (hd w hw)
 | n+1,.fls _,h=>by cases h
 | n+1,.ref _,h=>by cases h
 | n+1,.fdc _,h=>by cases h
 | n+1,.fn _,h=>by cases h
theorem ja:∀{n m:Nat} {w:W},pl n w=Â->n<=m->pl m w=Â
 | 0,_,_,h,_=>by cases h
 | n+1,0,_,_,h=>by omega
 | n+1,m+1,.non,h,_=>by cases h
 | n+1,m+1,.bl _,h,_=>by cases h
 | n+1,m+1,.int _,h,_=>h
 | n+1,m+1,.str _,h,_=>h
 | n+1,m+1,.tup l,h,hn=>by
  obtain⟨m',e,hl,hd⟩:=gG h;cases e;exact y6 hl λw hw=>ja (hd w hw) ∅
 | n+1,m+1,.fls _,h,_=>by cases h
 | n+1,m+1,.ref _,h,_=>by cases h
 | n+1,m+1,.fdc _,h,_=>by cases h
 | n+1,m+1,.fn _,h,_=>by cases h
def six:List Ç:=["a","b","c","d","p","q"]
inductive Sh(rl:List W)(k:Nat)(H:List Ç):W->Prop
 | number (i:Int):Sh rl k H (th "number" [.int i])
 | name (v:Ç):Sh rl k H (th "name" [.str v])
 | read (v:Ç) (hv:v∈six):Sh rl k H (th "read" [.str v])
 | doo (v:Ç) (hv:v∈H):Sh rl k H (th "do" [.str v])
 | ask:Sh rl k H (th "ask" [])
 | write (v:Ç) (hv:v∈six) (a:List W):Sh rl k H (th "write" [.str v,.tup a])
 | say (a:List W):Sh rl k H (th "say" [.tup a])
 | lett (v:Ç) (a b:List W):Sh rl k H (th "let" [.str v,.tup a,.tup b])
 | own (v:Ç) (hv:v="p" \/ v="q") (a b:List W):Sh rl k H (th "own" [.str v,.tup a,.tup b])
 | add (a b:List W):Sh rl k H (th "add" [.tup a,.tup b])
 | less (a b:List W):Sh rl k H (th "less" [.tup a,.tup b])
 | thenn (a b:List W):Sh rl k H (th "then" [.tup a,.tup b])
 | loop (a b:List W):Sh rl k H (th "loop" [.tup a,.tup b])
 | iff (a b c:List W):Sh rl k H (th "if" [.tup a,.tup b,.tup c])
 | call (i:Nat) (a b:List W) (hi:i<k) (ns:List W) (hs:List Ç) (body:W) (e:rl[i]?=À (.tup [.tup ns,.tup (zk hs),body])) (lb:b.length=hs.length):Sh rl k H (th "call" [.int i,.tup a,.tup b])
inductive Pn:W->Prop
 | mk (x:Ç) (r:List W) (p:Int×Int) (hc:(x==("call":Ç))=Ä) (hf:fm x=À p) (hp:r.filter (tyB .tuple)=zD (th x r)):Pn (th x r)
def Sh.split{rl:List W}{H:List Ç}(h:Sh rl k H w):Pn w\/∃(i:Nat) (a b:List W) (ns:List W) (hs:List Ç) (body:W),w=th "call" [.int i,.tup a,.tup b]/\i<k/\rl[i]?=À (.tup [.tup ns,.tup (zk hs),body]):=by
 have key:∀(x:Ç) (p:Int×Int),(x==("call":Ç))=Ä->fm x=À p->∀r:List W,r.filter (tyB .tuple)=r.drop (p.2.toNat-1)->Pn (th x r):=by
  intro x p hc hf r hr;refine .mk x r p hc hf ?_;erw[zD,hc,hf,hr];rfl
 cases h with
 | number i=>exact .inl (key _ (2,2) ⋯ ⋯ _ (by simp[tyB]))
 | name v=>exact .inl (key _ (2,2) ⋯ ⋯ _ (by simp[tyB]))
 | read v hv=>exact .inl (key _ (2,2) ⋯ ⋯ _ (by simp[tyB]))
 | doo v hv=>exact .inl (key _ (2,2) ⋯ ⋯ _ (by simp[tyB]))
 | ask=>exact .inl (key _ (1,1) ⋯ ⋯ _ (by simp))
 | write v hv a=>exact .inl (key _ (3,2) ⋯ ⋯ _ (by simp[tyB]))
 | say a=>exact .inl (key _ (2,1) ⋯ ⋯ _ (by simp[tyB]))
 | lett v a b=>exact .inl (key _ (4,2) ⋯ ⋯ _ (by simp[tyB]))
 | own v hv a b=>exact .inl (key _ (4,2) ⋯ ⋯ _ (by simp[tyB]))
 | add a b=>exact .inl (key _ (3,1) ⋯ ⋯ _ (by simp[tyB]))
 | less a b=>exact .inl (key _ (3,1) ⋯ ⋯ _ (by simp[tyB]))
 | thenn a b=>exact .inl (key _ (3,1) ⋯ ⋯ _ (by simp[tyB]))
 | loop a b=>exact .inl (key _ (3,1) ⋯ ⋯ _ (by simp[tyB]))
 | iff a b c=>exact .inl (key _ (4,1) ⋯ ⋯ _ (by simp[tyB]))
 | call i a b hi ns hs body e lb=>exact .inr ⟨i,a,b,ns,hs,body,rfl,hi,e⟩
def wa(i:Int)(a b:List W):zD (th "call" [.int i,.tup a,.tup b])=a++b:=by simp[zD]
def Jp{H:List Ç}(d:dt n w=Â)(ho:Sh rl k H w):(step F).bV [w] h=À (.tup (zD w),h):=by
 rcases ho.split with hp | ⟨i,a,b,ns,hs,body,rfl,hi,e⟩
 .obtain⟨x,r,p,t7,hp,hq⟩:=hp
  obtain⟨m,rfl,hl,hd⟩:=j3 d;obtain⟨p1,p2⟩:=Bp hp;obtain⟨k,hk⟩:=yf (show 0<=p.2 by omega);have e:zD (.tup (.str x::r))=(W.str x::r).drop k:=by
   erw[zD,t7,hp];rw[hk];cases k with
   | zero=>omega
   | succ k=>simp
  rw[e];refine wm (h':=h) ?_ ?_ (jw _)
  .have ek:zC (.tup [.int p.1,.int p.2]) (.int 1) h=À (.int p.2,h):=bq
   simp![bL,u4,vk,t7,bX,bg,fz,Gw,hp,ek,gz];rw[hk];exact gp
  .unfold low
   exact va λw hw=>wf (hd w (jJ hw))
 .obtain⟨m,rfl,hl,hd⟩:=j3 d
  obtain⟨m1,rfl,la,da⟩:=j3 (hd (.tup a) (by simp));obtain⟨m2,e2,lb,db⟩:=j3 (hd (.tup b) (by simp));have hc:a.length+b.length<=cap:=zp (show a.length+b.length<=2000 by omega) (by decide);rw[wa];refine wm (h':=h) ?_ ?_ (jw _)
  .simp![bL,u4,sG,YA,vk,addW,jI,hc]
  .unfold low
   refine va λw hw=>?_
   rcases zx.mp hw with hw | hw
   .exact wf (da w hw)
   .exact wf (db w hw)
def okd(rl:List W)(k:Nat)(H:List Ç):Nat->W->Prop
 | 0,_=>False
 | n+1,w=>Sh rl k H w/\∀p∈zD w,okd rl k H n p
def cnt:Nat->W->Nat
 | 0,_=>0
 | n+1,w=>1+((zD w).map (cnt n)).sum
theorem fY{H:List Ç}:∀{n m:Nat} {w:W},okd rl k H n w->n<=m->okd rl k H m w
 | 0,_,_,h,_=>by cases h
 | n+1,0,_,_,h=>by omega
 | n+1,m+1,w,h,hn=>⟨h.1,λp hp=>fY (h.2 p hp) ∅⟩
def gA{f g:W->Nat}{l:List W}(h:∀p∈l,f p=g p):(l.map f).sum=(l.map g).sum:=by rw[qy h]
theorem tj{rl:List W}{k:Nat}{H:List Ç}:∀{n m:Nat} {w:W},okd rl k H n w->n<=m->cnt m w=cnt n w
 | 0,_,_,h,_=>by cases h
 | n+1,0,_,_,h=>by omega
 | n+1,m+1,w,h,hn=>by
  unfold cnt;rw[gA λp hp=>tj (h.2 p hp) ∅]
def Z3:1<=cnt (n+1) w:=by unfold cnt;omega
def Dy(hl:(zD w).length<=l)(h:∀p∈zD w,cnt n p<=B):cnt (n+1) w<=1+l*B:=by
 unfold cnt;have:∀ps:List W,(∀p∈ps,cnt n p<=B)->(ps.map (cnt n)).sum<=ps.length*B:=by
  intro ps;induction ps with
  | nil=>intro _;simp
  | cons p r ih=>
   intro hp;have h1:=hp p zF;have h2:=ih λq hq=>hp q (zq _ hq)
   erw[zz,wj,zE,Nat.add_mul];omega
 have h1:=this _ h;have h2:(zD w).length*B<=l*B:=Nat.mul_le_mul_right _ hl;omega
def fV(l:List (Key×W)):Prop:=∀p∈l,∃v,p.2=.int v
def XU(h:fV l):fV (lU l k (.int v)):=by
 intro p hp;unfold lU at hp;split at hp
 .obtain⟨q,hq,rfl⟩:=zK.mp hp
  split
  .exact⟨v,rfl⟩
  .exact h q hq
 .rcases zx.mp hp with z | z
  .exact h p z
  .simp at z;subst z;exact⟨v,rfl⟩
theorem oP:∀{more l:List (Key×W)},fV l->fV more->fV (xA l more)
 | [],l,h,_=>h
 | (k,w)::r,l,h,hm=>by
  obtain⟨v,e⟩:=hm (k,w) zF;simp only at e;subst e;have:=oP (more:=r) (l:=lU l k (.int v)) (XU h) λp hp=>hm p (zq _ hp)
  exact this
def Ud(h:fV l):∃v,(fc l k).getD (.int 1)=.int v:=by
 unfold fc;cases e:l.find? λkv=>decide (kv.1=k) with
 | none=>exact⟨1,rfl⟩
 | some p=>
  obtain⟨v,hv⟩:=h p (List.mem_of_find?_eq_some e);exact⟨v,by simp[hv]⟩
structure RulesGood(rl:List W):Prop where
 g:∀i,i<rl.length->∃(ns:List W) (hs:List Ç) (body:W),rl[i]?=À (.tup [.tup ns,.tup (zk hs),body])/\dt 60 body=Â/\okd rl i hs 3 body/\hs.length<=4
def WOk(G:Fs)(rl:List W)(k n:Nat):Prop:=∀(Hd:List Ç) (w:W) (hd:List (Key×W)),okd rl k Hd n w->dt 60 w=Â->fV hd->∃v:Int,∀h,G.ak [.tup rl,w,.fdc hd] h=À (.int v,h)
noncomputable def wv(G:Fs)(rl:List W)(hd:List (Key×W))(w:W):Int:=match G.ak [.tup rl,w,.fdc hd] [] with
 | some (.int v,_)=>v
 | _=>0
def WOk.at{G:Fs}(H:WOk G rl k n)(o:okd rl k Hd n w)(d:dt 60 w=Â)(q:fV hd)(h:MH):G.ak [.tup rl,w,.fdc hd] h=À (.int (wv G rl hd w),h):=by
 obtain⟨v,e⟩:=H _ w hd o d q;unfold wv;rw[e []];exact e h
def four:List Ç:=["number","name","ask","read"]
noncomputable abbrev ρw(rl:List W)(w:W)(hd:List (Key×W))(x:Ç)(o4 o5 o6:Option W):En:=[À (.tup rl),À w,À (.fdc hd),À (.str x),o4,o5,o6]
theorem mD(F:Fs):aV F=zl (zI (zh zC (zd 1) (Pu 0)) (zw 3)) (zl (w1 F) (zl (w2 F) (zl (w3 F) (zl (w4 F) (zl (w5 F) (w6 F)))))):=rfl
def in4(d:dt n (.str x)=Â)(hn:n<=60):inB h (.str x) (.tup [.str "number",.str "name",.str "ask",.str "read"])=À (kU four (.str x)):=dA (l:=four) d hn ⋯
def U7(d:dt n (.str x)=Â)(hn:n<=60)(q:kU four (.str x)=Â):w1 F (ρw rl w hd x Á Á Á) h=À (.ret (.int 1),h):=by
 have c4:(4:Nat)<=cap:=by decide
 have e:=in4 (h:=h) d hn;rw[q] at e;simp![w1,zo,c4,e]
def pW(d:dt n (.str x)=Â)(hn:n<=60)(q:kU four (.str x)=Ä):w1 F (ρw rl w hd x Á Á Á) h=À (.nx (ρw rl w hd x Á Á Á),h):=by
 have c4:(4:Nat)<=cap:=by decide
 have e:=in4 (h:=h) d hn;rw[q] at e;simp![w1,zo,c4,e]
def Jr(q:(x==("do":Ç))=Ä):w2 F (ρw rl w hd x Á Á Á) h=À (.nx (ρw rl w hd x Á Á Á),h):=by
 simp![w2,vk,q]
def YC(q:(x==("call":Ç))=Ä):w3 F (ρw rl w hd x Á Á Á) h=À (.nx (ρw rl w hd x Á Á Á),h):=by
 simp![w3,vk,q]
def QF(l:List (Ç×W))(f:W->Int):pairsOf (l.map λp=>.tup [.str p.1,.int (f p.2)])=À (l.map λp=>(.str p.1,.int (f p.2))):=by
 induction l with
 | nil=>rfl
 | cons x r ih=>erw[zz];unfold pairsOf;rw[ih]
theorem Wa(l:List (Ç×W))(f:W->Int):keysOf (l.map λp=>(W.str p.1,W.int (f p.2)))=À (l.map λp=>(.inr p.1,.int (f p.2))):=by
 induction l with
 | nil=>rfl
 | cons x r ih=>erw[zz];unfold keysOf;rw[ih];rfl
def t6(hs:List Ç)(b:List W):(zk hs).zip b=(hs.zip b).map λp=>(W.str p.1,p.2):=by
 induction hs generalizing b with
 | nil=>rfl
 | cons x r ih=>
  cases b with
  | nil=>rfl
  | cons y b=>erw[zk,zz,yS,zz] at ih ⊢;rw[ih]
theorem x9:∀{a b:List Ç},zk a=zk b->a=b
 | [],[],_=>rfl
 | [],y::b,h=>by simp[zk] at h
 | x::a,[],h=>by simp[zk] at h
 | x::a,y::b,h=>by
  erw[zk,zz,vd,W.str.injEq] at h;rw[h.1,x9 (a:=a) (b:=b) h.2]
def l6(e1:m ρ h=À (w,h'))(e2:g w ρ h'=À (ρ',h2)):zI m g ρ h=À (.nx ρ',h2):=by
 unfold zI;rw[e1];erw[e2]
def sZ(e:m ρ h=À (w,h')):ze f [m] ρ h=f [w] h':=by
 simp[ze,xC,bnd,e]
def Za{rl:List W}(hr:RulesGood rl)(hk:k<=rl.length)(H:WOk G rl k n)(HB:∀i,i<k->WOk G rl i 3):WOk (step G) rl k (n+1):=by
 intro Hd w hd o d q;suffices hs:∃v:Int,∀h,aV G [À (.tup rl),À w,À (.fdc hd),Á,Á,Á,Á] h=À (.ret (.int v),h) by
  obtain⟨v,e⟩:=hs;refine⟨v,λh=>qA (n:=1) ?_ rfl⟩;erw[kQ,zE,kI,je,zz,kY,Æ,jr,jb];erw[e h]
 have dp:∀v∈zD w,dt 60 v=Â:=λv hv=>vi (d9 (n:=59) d v hv) ∅
 have lp:=fQ d;have start:∀x r,w=th x r->∀h,(zI (zh zC (zd 1) (Pu 0)) (zw 3)) [À (.tup rl),À w,À (.fdc hd),Á,Á,Á,Á] h=À (.nx (ρw rl w hd x Á Á Á),h):=by
  intro x r e h;subst e;simp![u4]
 have dx:∀x r,w=th x r->dt 59 (.str x)=Â:=by
  intro x r e;subst e;obtain⟨m,e,hl,hd⟩:=j3 d;cases e;exact hd _ zF
 have leaf:∀x r,w=th x r->kU four (.str x)=Â->∃v:Int,∀h,aV G [À (.tup rl),À w,À (.fdc hd),Á,Á,Á,Á] h=À (.ret (.int v),h):=by
  intro x r e hx;refine⟨1,λh=>?_⟩;rw[mD,zt (start x r e h),we (U7 (dx x r e) ∅ hx)]
 have inner:∀x r,w=th x r->r.filter (tyB .tuple)=zD w->∀h,w4 G (ρw rl w hd x Á Á Á) h=À (.nx (ρw rl w hd x Á Á (À (.fls ((zD w).map λv=>.int (wv G rl hd v))))),h):=by
  intro x r e hq h;have c:=eM (mi:=kF (bX (zd 1) (À (Pu 1)) Á)) (ks:=[0,2]) (t:=zS (yk (isW .tuple) (zd 0))) (m:=ze G.ak [zd 1,zd 0,zd 2]) (ρ:=ρw rl w hd x Á Á Á) (h:=h) (l:=r) (tyB .tuple) (λv=>.int (wv G rl hd v))
   (by subst e;simp![kF,bX,bg,gz,srcOf,YZ])
   (λv hv H'=>by
    subst e;obtain⟨m,e,hl,AM⟩:=j3 d
    simp![CO (AM v (zq _ hv))])
   (λv hv hy H'=>by
    have OJ:v∈zD w:=by rw[<-hq];exact jc.mpr ⟨hv,hy⟩
    simp![H.at (o.2 v OJ) (dp v OJ) q H'])
   (λv hv _=>by unfold low;rfl)
   (by
    subst e;obtain⟨m,e,hl,AM⟩:=j3 d;have:r.length<=1000:=by simp at hl;omega
    exact zp this (by decide))
  rw[hq] at c;unfold w4 zI;rw[c];simp![]
 have other:∀x r,w=th x r->kU four (.str x)=Ä->(x==("do":Ç))=Ä->(x==("loop":Ç))=Ä->Pn w->∃v:Int,∀h,aV G [À (.tup rl),À w,À (.fdc hd),Á,Á,Á,Á] h=À (.ret (.int v),h):=by
  intro x r e h1 h2 h3 hp;refine⟨1+ab ((zD w).map λv=>wv G rl hd v),λh=>?_⟩;cases hp with
  | mk x' r' p hc hf hq=>
   cases e;have e2:=ints_map (zD (th x r)) λv=>wv G rl hd v
   rw[mD,zt (start x r rfl h),zt (pW (dx x r rfl) ∅ h1),zt (Jr h2),zt (YC hc),zt (inner x r rfl hq h),
    zt (ρ':=ρw rl (th x r) hd x Á Á (À (.fls ((zD (th x r)).map λv=>.int (wv G rl hd v))))) (h':=h) (by simp![w5,vk,h3])]
   simp![w6,gW,qS,getL,e2,addW,jI]
 have RT:=o.1;have Ho:=o.1.split;cases RT with
 | number i=>exact leaf _ _ rfl ⋯
 | name v=>exact leaf _ _ rfl ⋯
 | read v=>exact leaf _ _ rfl ⋯
 | ask=>exact leaf _ _ rfl ⋯
 | doo v=>
  obtain⟨u,hu⟩:=Ud (k:=.inr v) q;refine⟨u,λh=>?_⟩;rw[mD,zt (start _ _ rfl h),zt (pW (dx _ _ rfl) ∅ ⋯)];refine we ?_;simp![w2,vk,mO,fP,bq,keyOf,hu]
 | write v a=>
  rcases Ho with hp | ⟨_,_,_,_,_,_,e,_,_⟩
  .exact other _ _ rfl ⋯ ⋯ ⋯ hp
  .cases e
 | say a=>
  rcases Ho with hp | ⟨_,_,_,_,_,_,e,_,_⟩
  .exact other _ _ rfl ⋯ ⋯ ⋯ hp
  .cases e
 | lett v a b=>
  rcases Ho with hp | ⟨_,_,_,_,_,_,e,_,_⟩
  .exact other _ _ rfl ⋯ ⋯ ⋯ hp
  .cases e
 | own v a b=>
  rcases Ho with hp | ⟨_,_,_,_,_,_,e,_,_⟩
  .exact other _ _ rfl ⋯ ⋯ ⋯ hp
  .cases e
 | add a b=>
  rcases Ho with hp | ⟨_,_,_,_,_,_,e,_,_⟩
  .exact other _ _ rfl ⋯ ⋯ ⋯ hp
  .cases e
 | less a b=>
  rcases Ho with hp | ⟨_,_,_,_,_,_,e,_,_⟩
  .exact other _ _ rfl ⋯ ⋯ ⋯ hp
  .cases e
 | thenn a b=>
  rcases Ho with hp | ⟨_,_,_,_,_,_,e,_,_⟩
  .exact other _ _ rfl ⋯ ⋯ ⋯ hp
  .cases e
 | iff a b c=>
  rcases Ho with hp | ⟨_,_,_,_,_,_,e,_,_⟩
  .exact other _ _ rfl ⋯ ⋯ ⋯ hp
  .cases e
 | loop a b=>
  have ep:zD (th "loop" [.tup a,.tup b])=[.tup a,.tup b]:=by
   simp[zD,show(("loop":Ç)=="call")=Ä by decide +kernel,show fm "loop" = À (3,1) by decide +kernel]
  refine⟨1+wv G rl hd (.tup a)+3*wv G rl hd (.tup b),λh=>?_⟩;have Ik:=inner _ _ rfl (by rw[ep];simp[tyB]) h;rw[ep] at Ik;rw[mD,zt (start _ _ rfl h),zt (pW (dx _ _ rfl) ∅ ⋯),zt (Jr ⋯),zt (YC ⋯),zt Ik];refine we ?_;have sm:(small 3||small (wv G rl hd (.tup b)))=Â:=by rw[show small 3=Â by decide];rfl
  simp![w5,vk,Ga,Gv,addW,jI,kx,sm]
 | call i a b hi ns hs body e=>
  obtain⟨S9,Ak,xI,e',db,ob,RU⟩:=hr.g i ∅;have eb:hs=Ak/\body=xI:=by
   rw[e] at e';injection e' with e';injection e' with e';erw[vd,W.tup.injEq,uB] at e';refine⟨?_,e'.2.2⟩;have:=e'.2.1;exact x9 this
  obtain⟨rfl,rfl⟩:=eb;obtain⟨m,em,hl,AM⟩:=j3 d;cases em;obtain⟨m1,e1,la,da⟩:=j3 (AM (.tup a) (by simp));obtain⟨m2,e2,lb,Tc⟩:=j3 (AM (.tup b) (by simp));rw[wa] at dp;have op:=o.2;rw[wa] at op;have ei:∀h,zC (.tup rl) (.int (i:Int)) h=À (.tup [.tup ns,.tup (zk hs),body],h):=λh=>YE ∅ ∅ (by simpa using e)
  have RV:fV (xA [] ((hs.zip b).map λp=>(ğ p.1,W.int (wv G rl hd p.2)))):=by
   refine oP (λp hp=>by simp at hp) λp hp=>?_
   obtain⟨z,_,rfl⟩:=zK.mp hp;exact⟨_,rfl⟩
  refine⟨1+ab (a.map λv=>wv G rl hd v)+wv G rl (xA [] ((hs.zip b).map λp=>(ğ p.1,W.int (wv G rl hd p.2)))) body,λh=>?_⟩;have c2:(2:Nat)<=cap:=by decide
  have RX:(hs.zip b).length<=4:=by rw[vN];omega
  have cz:=Ks (mi:=ar [zh zC (zh zC (zd 0) (zh zC (zd 1) (Pu 1))) (Pu 1),zh zC (zd 1) (Pu 3)]) (ks:=[0,2]) (t:=qv) (m:=ze zo [zd 0,ze G.ak [zd 2,zd 1,zd 3]]) (ρ:=ρw rl (th "call" [.int i,.tup a,.tup b]) hd "call" Á Á Á) (h:=h) (l:=(hs.zip b).map λp=>(W.str p.1,p.2)) (λ_ _=>Â) (λx y=>.tup [x,.int (wv G rl hd y)])
   (by simp![ar,u4,bq,YA,ei,rO,u3,t6])
   (λv hv H'=>rfl)
   (λv hv _ H'=>by
    obtain⟨p,hp,rfl⟩:=zK.mp hv;have hb:p.2∈b:=(qx (show(p.1,p.2)∈hs.zip b from hp)).2;have AI:p.2∈a++b:=zx.mpr (.inr hb)
    simp![H.at (op _ AI) (dp _ AI) q H',zo,c2])
   (λv hv _=>by
    obtain⟨p,hp,rfl⟩:=zK.mp hv
    simp[low,lows])
   (by rw[zG];exact zp RX (by decide))
  rw[filter_true,kZ] at cz;have cs:=eM (mi:=kF (zh zC (zd 1) (Pu 2))) (ks:=[0,2]) (t:=qv) (m:=ze G.ak [zd 1,zd 0,zd 2]) (ρ:=ρw rl (th "call" [.int i,.tup a,.tup b]) hd "call" (À (.fdc (xA [] ((hs.zip b).map λp=>(ğ p.1,W.int (wv G rl hd p.2)))))) Á Á) (h:=h) (l:=a) (λ_=>Â) (λv=>.int (wv G rl hd v))
   (by simp![kF,sG,srcOf])
   (λv hv H'=>rfl)
   (λv hv _ H'=>by
    have AI:v∈a++b:=zx.mpr (.inl hv)
    simp![H.at (op _ AI) (dp _ AI) q H'])
   (λv hv _=>by unfold low;rfl)
   (zp la (by decide))
  rw[filter_true] at cs;have e3:=ints_map a λv=>wv G rl hd v
  have pm:=QF (hs.zip b) λv=>wv G rl hd v
  have km:=Wa (hs.zip b) λv=>wv G rl hd v
  have Ha:=(HB i hi).at (hd:=xA [] ((hs.zip b).map λp=>(ğ p.1,W.int (wv G rl hd p.2)))) ob db RV h;have HX:(hs.zip b).length<=1000:=by omega
  rw[mD,zt (start _ _ rfl h),zt (pW (dx _ _ rfl) ∅ ⋯),zt (Jr ⋯)];refine we ?_;have s1:(zI (ze iM [kz (ar [zh zC (zh zC (zd 0) (zh zC (zd 1) (Pu 1))) (Pu 1),zh zC (zd 1) (Pu 3)]) 2 [0,2] (vE [zw 0,zw 1]) qv (ze zo [zd 0,ze G.ak [zd 2,zd 1,zd 3]])]) (zw 4)) (ρw rl (th "call" [.int i,.tup a,.tup b]) hd "call" Á Á Á) h=À (.nx (ρw rl (th "call" [.int i,.tup a,.tup b]) hd "call" (À (.fdc (xA [] ((hs.zip b).map λp=>(ğ p.1,W.int (wv G rl hd p.2)))))) Á Á),h):=by
   refine l6 ((sZ cz).trans ?_) rfl;have:(List.map ((λw:W×W=>W.tup [w.fst,W.int (wv G rl hd w.snd)])∘λp:Ç×W=>(W.str p.fst,p.snd)) (hs.zip b))=(hs.zip b).map λp=>.tup [.str p.1,.int (wv G rl hd p.2)]:=rfl
   rw[this];erw[iM,fP,getL,pm,km];rw[zG,zQ HX]
  have s2:(zI (ze gW [kz (kF (zh zC (zd 1) (Pu 2))) 1 [0,2] (zw 0) qv (ze G.ak [zd 1,zd 0,zd 2])]) (zw 5)) (ρw rl (th "call" [.int i,.tup a,.tup b]) hd "call" (À (.fdc (xA [] ((hs.zip b).map λp=>(ğ p.1,W.int (wv G rl hd p.2)))))) Á Á) h=À (.nx (ρw rl (th "call" [.int i,.tup a,.tup b]) hd "call" (À (.fdc (xA [] ((hs.zip b).map λp=>(ğ p.1,W.int (wv G rl hd p.2)))))) (À (.int (ab (a.map λv=>wv G rl hd v)))) Á),h):=by
   refine l6 ((sZ cs).trans ?_) rfl;erw[gW,qS,getL,e3]
  have t:zS (zh (jp Ä) (zd 3) (PN "call")) (ρw rl (th "call" [.int i,.tup a,.tup b]) hd "call" Á Á Á) h=À (Â,h):=by simp![vk]
  unfold w3 kX;erw[t,je];rw[zt s1,zt s2];simp![u4,bq,sG,ei,Ha,addW,jI]
theorem gn{rl:List W}(hr:RulesGood rl)(F:Fs):∀(m k n:Nat),3*k+n<=m->n<=3->k<=rl.length->WOk (up m F) rl k n
 | m,k,0,_,_,_=>by intro Hd w hd o;cases o
 | 0,k,n+1,h,_,_=>by omega
 | m+1,k,n+1,h,hn,hk=>Za hr hk (gn hr F m k n ∅ ∅ hk) λi hi=>gn hr F m i 3 ∅ ∅ ∅
theorem DE(F:Fs):bf F=zl (Yz F) (zl (YV F) (zl (ZC F) (zl (tu F) (zl (tF F) (zl (JO F) (zl (QP F) (YR F))))))):=rfl
def wd(l:List Ç):Prop:=∀v∈l,pl 1 (.str v)=Â
noncomputable abbrev kn(N O H:List Ç):W:=.tup [.tup (zk N),.tup (zk O),.tup (zk H)]
def JG{l:List W}{i:Int}(h0:0<=i)(h1:i<l.length):∃v∈l,atI l i=À v:=by
 have hj:i.toNat<l.length:=by omega
 exact⟨l[i.toNat],qY hj,by unfold atI y0;rw[zQ h0,zQ h1];simp[hj]⟩
def d7{l:List W}{i:Int}(h0:0<=i)(h1:i<l.length):∃v∈l,∀h,zC (.fls l) (.int i) h=À (v,h):=by
 obtain⟨v,hv,e⟩:=JG h0 h1;exact⟨v,hv,λh=>by simp[zC,getL,e]⟩
def tZ{l:List W}{i:Int}(h0:0<=i)(h1:i<l.length):∃v∈l,∀h,zC (.tup l) (.int i) h=À (v,h):=by
 obtain⟨v,hv,e⟩:=JG h0 h1;exact⟨v,hv,λh=>by simp[zC,e]⟩
def iG{l:List Ç}{i:Int}(h0:0<=i)(h1:i<l.length):∃v∈l,∀h,zC (.tup (zk l)) (.int i) h=À (.str v,h):=by
 obtain⟨v,hv,e⟩:=tZ (l:=zk l) h0 (by rw[qf];exact h1);unfold zk at hv;obtain⟨x,hx,rfl⟩:=zK.mp hv;exact⟨x,hx,e⟩
def Ka{l:List Ç}(h:wd l)(hl:l.length<=4):pl 2 (.tup (zk l))=Â:=by
 refine y6 (by rw[qf];exact hl) λw hw=>?_
 unfold zk at hw;obtain⟨x,hx,rfl⟩:=zK.mp hw;exact h x hx
def Uv{l:List Ç}(h:wd l)(hl:l.length<=1000):dt 2 (.tup (zk l))=Â:=by
 refine uk (by rw[qf];exact hl) λw hw=>?_
 unfold zk at hw;obtain⟨x,hx,rfl⟩:=zK.mp hw;exact wt (h x hx)
theorem Kh(l:List Ç):l7 (.tup (zk l))=l.isEmpty:=by cases l<;>rfl
def iZ{l:List Ç}{h:MH}(hw:wd l)(hl:l.length<=1000):eqB h (.tup (zk l)) (.tup [])=À l.isEmpty:=by
 rw[ZU (Uv hw hl) ∅,Kh]
def Vr{x v:W}(hx:pl 1 x=Â)(hv:pl 1 v=Â):pl 2 (.tup [x,v])=Â:=y6 (by simp) λw hw=>by
 erw[zg,zA,kO] at hw;rcases hw with rfl | rfl<;>assumption
def xy{x:Ç}{p:Int×Int}{r:List W}(hc:(x==("call":Ç))=Ä)(hf:fm x=À p)(hr:r.drop (p.2.toNat-1)=[]):zD (th x r)=[]:=by
 simp[zD,hc,hf,hr]
def wo(l:List Ç):Prop:=∀v∈l,v="p" \/ v="q"
def Kn{l:List Ç}(h:wo l):wd l:=λv hv=>by rcases h v hv with rfl | rfl<;>decide +kernel
def ve(O:List Ç):List Ç:=([("a":Ç),"b","c","d"]:List Ç)++(O++(O++O))
def Z8(O:List Ç):[W.str "a",.str "b",.str "c",.str "d"]++(Æ 3 (zk O)).flatten=zk (ve O):=by
 simp[ve,zk,Æ]
def ZO{O:List Ç}(h:wd O):wd (ve O):=by
 intro v hv;unfold ve at hv;rcases zx.mp hv with z | z
 .erw[zg,zA,kO] at z
  rcases z with rfl | rfl | rfl | rfl<;>decide +kernel
 .rcases zx.mp z with z | z
  .exact h v z
  .rcases zx.mp z with z | z<;>exact h v z
def tD{O:List Ç}(h:wo O):∀v∈ve O,v∈six:=by
 intro v hv;have o:v∈O->v∈six:=λq=>by rcases h v q with rfl | rfl<;>decide +kernel
 unfold ve at hv;rcases zx.mp hv with z | z
 .have:∀x∈([("a":Ç),"b","c","d"]:List Ç),x∈six:=by decide +kernel
  exact this v z
 .rcases zx.mp z with z | z
  .exact o z
  .rcases zx.mp z with z | z<;>exact o z
def sM(O:List Ç):(ve O).length=4+3*O.length:=by simp[ve];omega
noncomputable def cw:Nat->List Ç->W->Prop
 | 0,_,_=>False
 | n+1,O,w=>(∀x v r,w=th x (.str v::r)->x="read" \/ x="write"->v∈ve O)/\(∀v a b,w=th "own" [.str v,a,b]->cw n O a/\cw n (O++[v]) b)/\((∀r,w≠th "own" r)->∀p∈zD w,cw n O p)
def d8{x y:Ç}{r s:List W}(h:th x r=th y s):x=y/\r=s:=by
 erw[th,W.tup.injEq,vd,W.str.injEq] at h;exact h
theorem dZ:∀{n m:Nat} {O:List Ç} {w:W},cw n O w->n<=m->cw m O w
 | 0,_,_,_,h,_=>by cases h
 | n+1,0,_,_,_,h=>by omega
 | n+1,m+1,_,_,⟨h1,h2,h3⟩,hn=>⟨h1,λv a b e=>⟨dZ (h2 v a b e).1 ∅,dZ (h2 v a b e).2 ∅⟩,λne p hp=>dZ (h3 ne p hp) ∅⟩
def Y2{n:Nat}{O:List Ç}{x v:Ç}{r:List W}(hx:x≠"own")(hv:v∈ve O)(hp:∀q∈zD (th x (.str v::r)),cw n O q):cw (n+1) O (th x (.str v::r)):=
 ⟨λy u s e _=>by
  obtain⟨_,e⟩:=d8 e;cases e
  exact hv,λu a b e=>absurd (d8 e).1 hx,λ_=>hp⟩
def Ki{n:Nat}{O:List Ç}{x:Ç}{r:List W}(hx:x≠"read" /\ x≠"write" /\ x≠"own")(hp:∀q∈zD (th x r),cw n O q):cw (n+1) O (th x r):=
 ⟨λy u s e z=>by
  have e:=(d8 e).1;subst e;rcases z with z | z
  .exact absurd z hx.1
  .exact absurd z hx.2.1,λu a b e=>absurd (d8 e).1 hx.2.2,λ_=>hp⟩
def CL{n:Nat}{O:List Ç}{v:Ç}{a b:W}(ha:cw n O a)(hb:cw n (O++[v]) b):cw (n+1) O (th "own" [.str v,a,b]):=
 ⟨λy u s e z=>by
  have e:=(d8 e).1;subst e;rcases z with z | z<;>exact absurd z ⋯,λu a' b' e=>by
  obtain⟨_,e⟩:=d8 e;cases e
  exact⟨ha,hb⟩,λne=>absurd rfl (ne _)⟩
noncomputable def okc(rl:List W)(k:Nat)(H O:List Ç)(n:Nat)(w:W):Prop:=okd rl k H n w/\cw n O w
def mP{rl:List W}{k:Nat}{H O:List Ç}{x:Ç}{r:List W}(sh:Sh rl k H (th x r))(hp:zD (th x r)=[])(hx:x≠"read" /\ x≠"write" /\ x≠"own"):okc rl k H O 1 (th x r):=
 ⟨⟨sh,λp q=>by rw[hp] at q;cases q⟩,Ki hx λp q=>by rw[hp] at q;cases q⟩
def tJ{rl:List W}{k:Nat}{H O:List Ç}{v:Ç}(h6:v∈six)(hv:v∈ve O):okc rl k H O 1 (th "read" [.str v]):=by
 have hp:zD (th "read" [.str v])=[]:=xy (p:=(2,2)) ⋯ ⋯ rfl;exact⟨⟨.read v h6,λp q=>by rw[hp] at q;cases q⟩,Y2 ⋯ hv λp q=>by rw[hp] at q;cases q⟩
def Vl{F:Fs}{ns:List Int}{a:Int}{N O H:List Ç}{rl:List W}{k:Nat}(hl:ns.length<=63)(hN:wd N)(A4:wo O)(hH:wd H)(lN:N.length<=100)(lO:O.length<=100)(lH:H.length<=100) :
  ∃w,(∀h,(step (step (step F))).bU [ky ns,.int a,kn N O H] h=À (w,h))/\pl 2 w=Â/\okc rl k H O 1 w:=by
 have hO:=Kn A4;have e:=λ(k many:Int) (h:MH) (hm:0<many)=>x6 (F:=F) (k:=k) (many:=many) (h:=h) hl hm
 generalize step (step F)=G at e;suffices hs:∃w,(∀h,bf G [À (ky ns),À (.int a),À (kn N O H),Á,Á,Á,Á,Á] h=À (.ret w,h))/\pl 2 w=Â/\okc rl k H O 1 w by
  obtain⟨w,e,p,o⟩:=hs;refine⟨w,λh=>qA (n:=2) ?_ (wt p),p,o⟩;erw[kQ,zE,kI,je,zz,kY,Æ,jr,jb];erw[e h]
 have LC:(1:Nat)<=cap:=by decide
 have Hw:(2:Nat)<=cap:=by decide
 have RY:(4:Nat)<=cap:=by decide
 have RZ:(6:Nat)<=cap:=by decide
 have s0:∀h,Yz G [À (ky ns),À (.int a),À (kn N O H),Á,Á,Á,Á,Á] h=À (.nx [À (ky ns),À (.int a),À (kn N O H),À (.tup (zk N)),À (.tup (zk O)),À (.tup (zk H)),Á,Á],h):=λh=>by
  simp![Yz]
 have s1:∀h,YV G [À (ky ns),À (.int a),À (kn N O H),À (.tup (zk N)),À (.tup (zk O)),À (.tup (zk H)),Á,Á] h=À (.nx [À (ky ns),À (.int a),À (kn N O H),À (.tup (zk N)),À (.tup (zk O)),À (.tup (zk H)),À (.int (vT ns a 8)),Á],h):=λh=>by
  simp![YV,e a 8 _ ∅]
 generalize vT ns a 8=d at s1;have row:∀h,bf G [À (ky ns),À (.int a),À (kn N O H),Á,Á,Á,Á,Á] h=zl (ZC G) (zl (tu G) (zl (tF G) (zl (JO G) (zl (QP G) (YR G))))) [À (ky ns),À (.int a),À (kn N O H),À (.tup (zk N)),À (.tup (zk O)),À (.tup (zk H)),À (.int d),Á] h:=λh=>by
  rw[DE,zt (s0 h),zt (s1 h)]
 by_cases k2:d<2
 .obtain⟨v,hv,ev⟩:=d7 (l:=[.int 0,.int 1,.int 2,.int 3,.int 7,.int 1008]) (kr (ns:=ns) (k:=a+1) (many:=6) ∅).1 (by simpa using (kr (ns:=ns) (k:=a+1) (many:=6) ∅).2)
  refine⟨th "number" [v],λh=>?_,?_,?_⟩
  .rw[row]
   refine we ?_;simp![ZC,vv,k2,kG,RZ,addW,jI,e (a+1) 6 _ ∅,ev,zo,Hw]
  .refine Vr ⋯ ?_
   erw[zg,zA,kO] at hv;rcases hv with rfl | rfl | rfl | rfl | rfl | rfl<;>rfl
  .have:∃i,v=.int i:=by
    erw[zg,zA,kO] at hv;rcases hv with rfl | rfl | rfl | rfl | rfl | rfl<;>exact⟨_,rfl⟩
   obtain⟨i,rfl⟩:=this;exact mP (.number i) (xy (p:=(2,2)) ⋯ ⋯ rfl) ⋯
 have p2:∀h,ZC G [À (ky ns),À (.int a),À (kn N O H),À (.tup (zk N)),À (.tup (zk O)),À (.tup (zk H)),À (.int d),Á] h=À (.nx [À (ky ns),À (.int a),À (kn N O H),À (.tup (zk N)),À (.tup (zk O)),À (.tup (zk H)),À (.int d),Á],h):=λh=>by
  simp![ZC,vv,k2]
 have eN:=λh=>iZ (h:=h) hN ∅
 have eH:=λh=>iZ (h:=h) hH ∅
 by_cases k3:(d==2)=Â/\N.isEmpty=Ä
 .have hp:(0:Int)<(N.length:Int):=by
   cases N with
   | nil=>simp at k3
   | cons _ _=>erw[zE];omega
  obtain⟨v,hv,ev⟩:=iG (l:=N) (kr (ns:=ns) (k:=a+1) (many:=N.length) hp).1 (kr (ns:=ns) (k:=a+1) (many:=N.length) hp).2;refine⟨th "name" [.str v],λh=>?_,?_,?_⟩
  .rw[row,zt (p2 h)]
   refine we ?_;simp![tu,qV,k3.1,k3.2,eN,zo,kK,qf,addW,jI,e (a+1) N.length _ hp,ev,Hw]
  .exact Vr ⋯ (hN v hv)
  .exact mP (.name v) (xy (p:=(2,2)) ⋯ ⋯ rfl) ⋯
 have p3:∀h,tu G [À (ky ns),À (.int a),À (kn N O H),À (.tup (zk N)),À (.tup (zk O)),À (.tup (zk H)),À (.int d),Á] h=À (.nx [À (ky ns),À (.int a),À (kn N O H),À (.tup (zk N)),À (.tup (zk O)),À (.tup (zk H)),À (.int d),Á],h):=λh=>by
  cases q1:(d==2) with
  | false=>simp![tu,qV,q1]
  | true=>
   have q2:N.isEmpty=Â:=by
    cases q:N.isEmpty with
    | true=>rfl
    | false=>exact absurd ⟨q1,q⟩ k3
   simp![tu,qV,q1,eN,zo,q2]
 by_cases k4:(d==3)=Â/\H.isEmpty=Ä
 .have hp:(0:Int)<(H.length:Int):=by
   cases H with
   | nil=>simp at k4
   | cons _ _=>erw[zE];omega
  obtain⟨v,hv,ev⟩:=iG (l:=H) (kr (ns:=ns) (k:=a+1) (many:=H.length) hp).1 (kr (ns:=ns) (k:=a+1) (many:=H.length) hp).2;refine⟨th "do" [.str v],λh=>?_,?_,?_⟩
  .rw[row,zt (p2 h),zt (p3 h)]
   refine we ?_;simp![tF,qV,k4.1,k4.2,eH,zo,kK,qf,addW,jI,e (a+1) H.length _ hp,ev,Hw]
  .exact Vr ⋯ (hH v hv)
  .exact mP (.doo v hv) (xy (p:=(2,2)) ⋯ ⋯ rfl) ⋯
 have p4:∀h,tF G [À (ky ns),À (.int a),À (kn N O H),À (.tup (zk N)),À (.tup (zk O)),À (.tup (zk H)),À (.int d),Á] h=À (.nx [À (ky ns),À (.int a),À (kn N O H),À (.tup (zk N)),À (.tup (zk O)),À (.tup (zk H)),À (.int d),Á],h):=λh=>by
  cases q1:(d==3) with
  | false=>simp![tF,qV,q1]
  | true=>
   have q2:H.isEmpty=Â:=by
    cases q:H.isEmpty with
    | true=>rfl
    | false=>exact absurd ⟨q1,q⟩ k4
   simp![tF,qV,q1,eH,zo,q2]
 cases k5:(d==4) with
 | true=>
  refine⟨th "ask" [],λh=>?_,by decide +kernel,?_⟩
  .rw[row,zt (p2 h),zt (p3 h),zt (p4 h)]
   refine we ?_;simp![JO,qV,k5,zo,LC]
  .exact mP .ask (xy (p:=(1,1)) ⋯ ⋯ rfl) ⋯
 | false=>
  have hp:(0:Int)<((ve O).length:Int):=by rw[sM];omega
  obtain⟨v,hv,ev⟩:=iG (l:=ve O) (kr (ns:=ns) (k:=a+1) (many:=(ve O).length) hp).1 (kr (ns:=ns) (k:=a+1) (many:=(ve O).length) hp).2;have c7:4+(Æ 3 (zk O)).flatten.length<=cap:=by
   have:(Æ 3 (zk O)).flatten.length=3*O.length:=by simp[Æ,zk];omega
   rw[this];exact zp (show 4+3*O.length<=400 by omega) (by decide)
  have Nk:(zk O).length<=1000:=by rw[qf];omega
  refine⟨th "read" [.str v],λh=>?_,Vr ⋯ (ZO hO v hv),tJ (tD A4 v hv) hv⟩;have p6:QP G [À (ky ns),À (.int a),À (kn N O H),À (.tup (zk N)),À (.tup (zk O)),À (.tup (zk H)),À (.int d),Á] h=À (.nx [À (ky ns),À (.int a),À (kn N O H),À (.tup (zk N)),À (.tup (zk O)),À (.tup (zk H)),À (.int d),À (.tup (zk (ve O)))],h):=by
   rw[<-Z8];have m:∀h,kx (.tup (zk O)) (.int 3) h=À (.tup (Æ 3 (zk O)).flatten,h):=λh=>by
    erw[kx];rw[zQ ⟨by omega,by omega,Nk⟩];rfl
   have ad:∀h,addW (.tup [.str "a",.str "b",.str "c",.str "d"]) (.tup (Æ 3 (zk O)).flatten) h=À (.tup ([.str "a",.str "b",.str "c",.str "d"]++(Æ 3 (zk O)).flatten),h):=λh=>by
    erw[addW,jI,zE,kI];rw[zQ c7]
   generalize (Æ 3 (zk O)).flatten=Z at m ad;simp![QP,zo,RY,m,ad]
  rw[row,zt (p2 h),zt (p3 h),zt (p4 h),zt (ρ':=[À (ky ns),À (.int a),À (kn N O H),À (.tup (zk N)),À (.tup (zk O)),À (.tup (zk H)),À (.int d),Á]) (h':=h) (by simp![JO,qV,k5]),zt p6];simp![YR,kK,qf,addW,jI,e (a+1) (ve O).length _ hp,ev,zo,Hw]
theorem BV(F:Fs):aO F=zl (Jy F) (zl (su F) (zl (nV F) (zl (Zx F) (zl (tG F) (zl (Kc F) (zl (Zs F) (zl (Zn F) (zl (rh F) (zl (rT F) (lQ F)))))))))):=rfl
def dX(G:Fs)(ns:List Int)(rl:List W)(d:Nat):Prop:=∀(a:Int) (N O H:List Ç),wd N->wo O->wd H->N.length+d<=20->O.length+d<=20->H.length<=20->
 ∃w,(∀h,G.au [ky ns,.int a,.int (d:Int),kn N O H,.tup rl] h=À (w,h))/\pl (2+2*d) w=Â/\okc rl rl.length H O (d+1) w
def J6(G:Fs)(ns:List Int)(rl:List W)(d:Nat):Prop:=∀(a:Int) (N O H:List Ç),wd N->wo O->wd H->N.length+d<=20->O.length+d<=20->H.length<=20->
 ∃w,(∀h,G.bT [ky ns,.int a,.int ((d:Int)+1),kn N O H,.tup rl] h=À (w,h))/\pl (2+2*(d+1)) w=Â/\okc rl rl.length H O (d+2) w
theorem Sh.tup{rl:List W}{k:Nat}{H:List Ç}{w:W}(h:Sh rl k H w):∃l,w=.tup l:=by cases h<;>exact⟨_,rfl⟩
theorem okd.tup{rl:List W}{k n:Nat}{H:List Ç}{w:W}(h:okd rl k H n w):∃l,w=.tup l:=by
 cases n with
 | zero=>cases h
 | succ n=>exact h.1.tup
def rL{H:List Ç}{p:Int×Int}{r:List W}(sh:Sh rl k H (th x r))(hc:(x==("call":Ç))=Ä)(hf:fm x=À p)(hr:∀q∈r.drop (p.2.toNat-1),okd rl k H n q):okd rl k H (n+1) (th x r):=by
 refine⟨sh,λq hq=>hr q ?_⟩;have e:zD (th x r)=r.drop (p.2.toNat-1):=by simp[zD,hc,hf]
 rw[<-e];exact hq
theorem okc.tup{rl:List W}{k n:Nat}{H O:List Ç}{w:W}(h:okc rl k H O n w):∃l,w=.tup l:=h.1.tup
def ng{H:List Ç}{p:Int×Int}{r:List W}(sh:Sh rl k H (th x r))(hc:(x==("call":Ç))=Ä)(hf:fm x=À p)(hx:x≠"read" /\ x≠"write" /\ x≠"own")(hr:∀q∈r.drop (p.2.toNat-1),okc rl k H O n q):okc rl k H O (n+1) (th x r):=by
 refine⟨rL sh hc hf λq hq=>(hr q hq).1,Ki hx λq hq=>(hr q ?_).2⟩;have e:zD (th x r)=r.drop (p.2.toNat-1):=by simp[zD,hc,hf]
 rw[<-e];exact hq
def Xl(h:wd l)(hv:pl 1 (.str v)=Â):wd (l++[v]):=by
 intro u hu;rcases zx.mp hu with z | z
 .exact h u z
 .simp at z;subst z;exact hv
def Uj{l:List Ç}{v:Ç}(h:wo l)(hv:v="p" \/ v="q"):wo (l++[v]):=λu hu=>by
 rcases zx.mp hu with z | z
 .exact h u z
 .rw[jl.mp z];exact hv
def gh(l:List Ç)(v:Ç):zk l++[.str v]=zk (l++[v]):=by simp[zk]
def c8(e:t ρ h=À (Â,h))(eA:A ρ h=À (.ret w,h')):zl (kX t A kg) b ρ h=À (.ret w,h'):=by
 refine we ?_;unfold kX;rw[e];erw[je];exact eA
theorem Vi(e:t ρ h=À (Ä,h)):zl (kX t A kg) b ρ h=b ρ h:=by
 refine zt ?_;unfold kX;rw[e];rfl
def tq(e:t ρ h=À (Â,h))(eA:A ρ h=À (f,h')):kX t A kg ρ h=À (f,h'):=by
 unfold kX;rw[e];erw[je];exact eA
theorem fN(e:t ρ h=À (Ä,h)):kX t A kg ρ h=À (.nx ρ,h):=by
 unfold kX;rw[e];rfl
noncomputable abbrev ρD(ns:List Int)(a:Int)(d:Int)(K:W)(rl:List W)(o5 o6 o7 o8 o9 Lg:Option W):En:=[À (ky ns),À (.int a),À (.int d),À K,À (.tup rl),o5,o6,o7,o8,o9,Lg]
def Ct{j:Nat}{ρ:En}(e:ρ[i]?=À (À (.int d))):zS (zh ZT (zd i) (eC (.int m))) ρ h=À (decide (d<m),h):=by simp![e,vv]
def gQ{ρ:En}(e:ρ[i]?=À (À (.int d))):zS (zh (jp Ä) (zd i) (eC (.int m))) ρ h=À (d==m,h):=by simp![e,qV]
def m3:kx (.int a) (.int 3) h=À (.int (a*3),h):=by
 have:(small a||small 3)=Â:=by rw[show small 3=Â by decide];simp
 erw[kx,this,je]
def QB{F:Fs}{ns:List Int}{rl:List W}{d:Nat}(hl:ns.length<=63)(Ma:dt 20 (.tup rl)=Â)(hd:d+1<=5)(HD:dX (step (step (step F))) ns rl d)(HC:rl≠[]->J6 (step (step (step F))) ns rl d):dX (step (step (step (step F)))) ns rl (d+1):=by
 intro a N O H hN A4 hH lN lO lH;have hO:=Kn A4;have e:=λ(k many:Int) (h:MH) (hm:0<many)=>x6 (F:=step F) (k:=k) (many:=many) (h:=h) hl hm
 have eL:=λ(a:Int)=>Vl (F:=F) (ns:=ns) (a:=a) (N:=N) (O:=O) (H:=H) (rl:=rl) (k:=rl.length) hl hN A4 hH ∅ ∅ ∅
 generalize step (step (step F))=G at e HD HC eL;have ed:((d+1:Nat):Int)=(d:Int)+1:=by omega
 rw[ed];suffices hs:∃w,(∀h,aO G (ρD ns a ((d:Int)+1) (kn N O H) rl Á Á Á Á Á Á) h=À (.ret w,h))/\pl (2+2*(d+1)) w=Â/\okc rl rl.length H O (d+1+1) w by
  obtain⟨w,e,p,o⟩:=hs;refine⟨w,λh=>qA (n:=2+2*(d+1)) ?_ (wt p),p,o⟩;erw[kQ,zE,kI,je,zz,kY,Æ,jr,jb];have:=e h;erw[ρD] at this;erw[this]
 have c1:(1:Nat)<=cap:=by decide
 have c2:(2:Nat)<=cap:=by decide
 have c3:(3:Nat)<=cap:=by decide
 have c4:(4:Nat)<=cap:=by decide
 have c5:(5:Nat)<=cap:=by decide
 have s0:∀h,Jy G (ρD ns a ((d:Int)+1) (kn N O H) rl Á Á Á Á Á Á) h=À (.nx (ρD ns a ((d:Int)+1) (kn N O H) rl (À (.int (vT ns a 15))) Á Á Á Á Á),h):=λh=>by
  simp![Jy,e a 15 _ ∅]
 have rg:=kr (ns:=ns) (k:=a) (many:=15) ∅;generalize vT ns a 15=y at s0 rg;have row:∀h,aO G (ρD ns a ((d:Int)+1) (kn N O H) rl Á Á Á Á Á Á) h=zl (su G) (zl (nV G) (zl (Zx G) (zl (tG G) (zl (Kc G) (zl (Zs G) (zl (Zn G) (zl (rh G) (zl (rT G) (lQ G))))))))) (ρD ns a ((d:Int)+1) (kn N O H) rl (À (.int y)) Á Á Á Á Á) h:=λh=>by
  rw[BV,zt (s0 h)]
 have dz:(((d:Int)+1)==0)=Ä:=by rw[jB];omega
 by_cases k1:y<2
 .obtain⟨w,ew,p,o⟩:=eL (a+1)
  refine⟨w,λh=>?_,ja p ∅,⟨fY o.1 ∅,dZ o.2 ∅⟩⟩;rw[row];refine we ?_;simp![su,qV,dz,vv,k1,addW,jI,ew]
 have p1:∀h,su G (ρD ns a ((d:Int)+1) (kn N O H) rl (À (.int y)) Á Á Á Á Á) h=À (.nx (ρD ns a ((d:Int)+1) (kn N O H) rl (À (.int y)) Á Á Á Á Á),h):=λh=>by
  simp![su,qV,dz,vv,k1]
 have eR:=λh=>ZU (h:=h) Ma ∅
 have iR:l7 (.tup rl)=rl.isEmpty:=by cases rl<;>rfl
 by_cases k2:y<4/\rl≠[]
 .obtain⟨w,ew,p,o⟩:=HC k2.2 a N O H hN A4 hH ∅ ∅ lH
  refine⟨w,λh=>?_,p,o⟩;have q:rl.isEmpty=Ä:=by
   cases rl with
   | nil=>exact absurd rfl k2.2
   | cons _ _=>rfl
  rw[row,zt (p1 h)];refine we ?_;simp![nV,vv,k2.1,eR,iR,q,zo,ew]
 have p2:∀h,nV G (ρD ns a ((d:Int)+1) (kn N O H) rl (À (.int y)) Á Á Á Á Á) h=À (.nx (ρD ns a ((d:Int)+1) (kn N O H) rl (À (.int y)) Á Á Á Á Á),h):=λh=>by
  by_cases q1:y<4
  .have q:rl.isEmpty=Â:=by
    cases rl with
    | nil=>rfl
    | cons _ _=>exact absurd ⟨q1,by simp⟩ k2
   simp![nV,vv,q1,eR,iR,q,zo]
  .simp![nV,vv,q1]
 obtain⟨w1,e1,Il,o1⟩:=HD (a*3+7) N O H hN A4 hH ∅ ∅ lH;have p3:∀h,Zx G (ρD ns a ((d:Int)+1) (kn N O H) rl (À (.int y)) Á Á Á Á Á) h=À (.nx (ρD ns a ((d:Int)+1) (kn N O H) rl (À (.int y)) (À w1) Á Á Á Á),h):=λh=>by
  simp![Zx,m3,addW,jI,yn,e1]
 have EX:∀h,aO G (ρD ns a ((d:Int)+1) (kn N O H) rl Á Á Á Á Á Á) h=zl (tG G) (zl (Kc G) (zl (Zs G) (zl (Zn G) (zl (rh G) (zl (rT G) (lQ G)))))) (ρD ns a ((d:Int)+1) (kn N O H) rl (À (.int y)) (À w1) Á Á Á Á) h:=λh=>by
  rw[row,zt (p1 h),zt (p2 h),zt (p3 h)]
 obtain⟨l1,rfl⟩:=o1.tup;have pS:∀{n:Nat} {v:Ç},pl 1 (.str v)=Â->pl (n+1) (.str v)=Â:=λh=>h
 by_cases k4:y<6
 .have hp:(0:Int)<((ve O).length:Int):=by rw[sM];omega
  obtain⟨v,hv,ev⟩:=iG (l:=ve O) (kr (ns:=ns) (k:=a+3) (many:=(ve O).length) hp).1 (kr (ns:=ns) (k:=a+3) (many:=(ve O).length) hp).2;have c7:4+(Æ 3 (zk O)).flatten.length<=cap:=by
   have:(Æ 3 (zk O)).flatten.length=3*O.length:=by simp[Æ,zk];omega
   rw[this];exact zp (show 4+3*O.length<=400 by omega) (by decide)
  have Nk:(zk O).length<=1000:=by rw[qf];omega
  refine⟨th "write" [.str v,.tup l1],λh=>?_,?_,?_⟩
  .rw[EX]
   refine we ?_;have m:∀h,kx (.tup (zk O)) (.int 3) h=À (.tup (Æ 3 (zk O)).flatten,h):=λh=>by
    erw[kx];rw[zQ ⟨by omega,by omega,Nk⟩];rfl
   have ad:∀h,addW (.tup [.str "a",.str "b",.str "c",.str "d"]) (.tup (Æ 3 (zk O)).flatten) h=À (.tup ([.str "a",.str "b",.str "c",.str "d"]++(Æ 3 (zk O)).flatten),h):=λh=>by
    erw[addW,jI,zE,kI];rw[zQ c7]
   rw[Z8] at ad;generalize (Æ 3 (zk O)).flatten=Z at m ad;have a3:∀h,addW (.int a) (.int 3) h=À (.int (a+3),h):=λh=>by simp[addW,jI]
   unfold tG;refine tq ((Ct (j:=0) rfl).trans (by simp[k4])) ?_;rw[zt (ρ':=ρD ns a ((d:Int)+1) (kn N O H) rl (À (.int y)) (À (.tup l1)) (À (.tup (zk (ve O)))) Á Á Á) (h':=h) (by simp![zo,c4,bq,m,ad])];simp![kK,qf,a3,e (a+3) (ve O).length _ hp,ev,zo,c3]
  .rw[show 2+2*(d+1)=(2*d+3)+1 by omega]
   refine y6 (by simp) λw hw=>?_
   erw[zg,zA,kO] at hw;rcases hw with rfl | rfl | rfl
   .exact pS ⋯
   .exact pS (ZO hO v hv)
   .exact ja Il ∅
  .refine⟨rL (p:=(3,2)) (.write v (tD A4 v hv) l1) ⋯ ⋯ λq hq=>?_,Y2 ⋯ hv λq hq=>?_⟩
   .simp at hq;subst hq;exact o1.1
   .have e:zD (th "write" [.str v,.tup l1])=[.tup l1]:=by
     have h1:(("write":Ç)==("call":Ç))=Ä:=by decide +kernel
     have h2:fm "write" = À (3,2):=by decide +kernel
     simp[zD,h1,h2]
    rw[e] at hq;simp at hq;subst hq;exact o1.2
 have p4:∀h,tG G (ρD ns a ((d:Int)+1) (kn N O H) rl (À (.int y)) (À (.tup l1)) Á Á Á Á) h=À (.nx (ρD ns a ((d:Int)+1) (kn N O H) rl (À (.int y)) (À (.tup l1)) Á Á Á Á),h):=λh=>
  fN ((Ct (j:=0) rfl).trans (by simp[k4]))
 cases k5:(y==6) with
 | true=>
  refine⟨th "say" [.tup l1],λh=>?_,?_,?_⟩
  .rw[EX,zt (p4 h)]
   refine c8 ((gQ rfl).trans (by rw[k5])) ?_;simp![zo,c2]
  .rw[show 2+2*(d+1)=(2*d+3)+1 by omega]
   refine y6 (by simp) λw hw=>?_
   erw[zg,zA,kO] at hw;rcases hw with rfl | rfl
   .exact pS ⋯
   .exact ja Il ∅
  .refine ng (p:=(2,1)) (.say l1) ⋯ ⋯ ⋯ λq hq=>?_
   simp at hq;subst hq;exact o1
 | false=>
 have p5:∀h,Kc G (ρD ns a ((d:Int)+1) (kn N O H) rl (À (.int y)) (À (.tup l1)) Á Á Á Á) h=À (.nx (ρD ns a ((d:Int)+1) (kn N O H) rl (À (.int y)) (À (.tup l1)) Á Á Á Á),h):=λh=>
  fN ((gQ rfl).trans (by rw[k5]))
 have a3:∀h,addW (.int a) (.int 3) h=À (.int (a+3),h):=λh=>by simp[addW,jI]
 cases k6:(y==7) with
 | true=>
  obtain⟨v',hv,ev⟩:=d7 (l:=[.str "x",.str "y",.str "x1"]) (kr (ns:=ns) (k:=a+3) (many:=3) ∅).1 (by simpa using (kr (ns:=ns) (k:=a+3) (many:=3) ∅).2);have:∃v:Ç,v'=.str v/\pl 1 (.str v)=Â:=by
   erw[zg,zA,kO] at hv;rcases hv with rfl | rfl | rfl<;>exact⟨_,rfl,by decide +kernel⟩
  obtain⟨v,rfl,pv⟩:=this;obtain⟨w2,e2,Ef,o2⟩:=HD (a*3+23) (N++[v]) O H (Xl hN pv) A4 hH (by simp;omega) ∅ lH;obtain⟨l2,rfl⟩:=o2.tup;have a4:∀h,addW (.tup (zk N)) (.tup [.str v]) h=À (.tup (zk (N++[v])),h):=λh=>by
   rw[<-gh];erw[addW,jI,zE,kI,qf];rw[zQ (zp (show N.length+(0+1)<=100 by omega) (by decide))]
  have a5:∀h,gz (kn N O H) (À 1) Á h=À (.tup [.tup (zk O),.tup (zk H)],h):=λh=>by simp[gz,YZ]
  have a6:∀h,addW (.tup [.tup (zk (N++[v]))]) (.tup [.tup (zk O),.tup (zk H)]) h=À (kn (N++[v]) O H,h):=λh=>by
   erw[addW,jI,zE,kI];rw[zQ (by decide)];rfl
  have a7:∀h,addW (.int (a*3)) (.int 23) h=À (.int (a*3+23),h):=λh=>by simp[addW,jI]
  refine⟨th "let" [.str v,.tup l1,.tup l2],λh=>?_,?_,?_⟩
  .rw[EX,zt (p4 h),zt (p5 h)]
   refine c8 ((gQ rfl).trans (by rw[k6])) ?_;rw[zt (ρ':=ρD ns a ((d:Int)+1) (kn N O H) rl (À (.int y)) (À (.tup l1)) Á (À (.str v)) Á Á) (h':=h) (by simp![kG,c3,a3,e (a+3) 3 _ ∅,ev])];simp![m3,a7,yn,u4,zo,c1,c4,a4,bX,bg,a5,a6,e2]
  .rw[show 2+2*(d+1)=(2*d+3)+1 by omega]
   refine y6 (by simp) λw hw=>?_
   erw[zg,zA,kO] at hw;rcases hw with rfl | rfl | rfl | rfl
   .exact pS ⋯
   .exact pS pv
   .exact ja Il ∅
   .exact ja Ef ∅
  .refine ng (p:=(4,2)) (.lett v l1 l2) ⋯ ⋯ ⋯ λq hq=>?_
   simp at hq;rcases hq with rfl | rfl
   .exact o1
   .exact o2
 | false=>
 have p6:∀h,Zs G (ρD ns a ((d:Int)+1) (kn N O H) rl (À (.int y)) (À (.tup l1)) Á Á Á Á) h=À (.nx (ρD ns a ((d:Int)+1) (kn N O H) rl (À (.int y)) (À (.tup l1)) Á Á Á Á),h):=λh=>
  fN ((gQ rfl).trans (by rw[k6]))
 cases k7:(y==8) with
 | true=>
  obtain⟨v',hv,ev⟩:=d7 (l:=[.str "p",.str "q"]) (kr (ns:=ns) (k:=a+3) (many:=2) ∅).1 (by simpa using (kr (ns:=ns) (k:=a+3) (many:=2) ∅).2);have:∃v:Ç,v'=.str v/\pl 1 (.str v)=Â/\(v="p" \/ v="q"):=by
   erw[zg,zA,kO] at hv;rcases hv with rfl | rfl
   .exact⟨_,rfl,by decide +kernel,.inl rfl⟩
   .exact⟨_,rfl,by decide +kernel,.inr rfl⟩
  obtain⟨v,rfl,pv,OK⟩:=this;obtain⟨w2,e2,Ef,o2⟩:=HD (a*3+23) N (O++[v]) H hN (Uj A4 OK) hH ∅ (by simp;omega) lH;obtain⟨l2,rfl⟩:=o2.tup;have a4:∀h,addW (.tup (zk O)) (.tup [.str v]) h=À (.tup (zk (O++[v])),h):=λh=>by
   rw[<-gh];erw[addW,jI,zE,kI,qf];rw[zQ (zp (show O.length+(0+1)<=100 by omega) (by decide))]
  have a7:∀h,addW (.int (a*3)) (.int 23) h=À (.int (a*3+23),h):=λh=>by simp[addW,jI]
  refine⟨th "own" [.str v,.tup l1,.tup l2],λh=>?_,?_,?_⟩
  .rw[EX,zt (p4 h),zt (p5 h),zt (p6 h)]
   refine c8 ((gQ rfl).trans (by rw[k7])) ?_;rw[zt (ρ':=ρD ns a ((d:Int)+1) (kn N O H) rl (À (.int y)) (À (.tup l1)) Á (À (.str v)) Á Á) (h':=h) (by simp![kG,c2,a3,e (a+3) 2 _ ∅,ev])];rw[zt (ρ':=ρD ns a ((d:Int)+1) (kn N O H) rl (À (.int y)) (À (.tup l1)) Á (À (.str v)) (À (kn N (O++[v]) H)) Á) (h':=h) (by simp![zo,c1,c3,u4,bq,sG,a4])];simp![m3,a7,yn,zo,c4,e2]
  .rw[show 2+2*(d+1)=(2*d+3)+1 by omega]
   refine y6 (by simp) λw hw=>?_
   erw[zg,zA,kO] at hw;rcases hw with rfl | rfl | rfl | rfl
   .exact pS ⋯
   .exact pS pv
   .exact ja Il ∅
   .exact ja Ef ∅
  .refine⟨rL (p:=(4,2)) (.own v OK l1 l2) ⋯ ⋯ λq hq=>?_,CL o1.2 o2.2⟩
   simp at hq;rcases hq with rfl | rfl
   .exact o1.1
   .exact o2.1
 | false=>
 have p7:∀h,Zn G (ρD ns a ((d:Int)+1) (kn N O H) rl (À (.int y)) (À (.tup l1)) Á Á Á Á) h=À (.nx (ρD ns a ((d:Int)+1) (kn N O H) rl (À (.int y)) (À (.tup l1)) Á Á Á Á),h):=λh=>
  fN ((gQ rfl).trans (by rw[k7]))
 obtain⟨w2,e2,Ef,o2⟩:=HD (a*3+41) N O H hN A4 hH ∅ ∅ lH;obtain⟨l2,rfl⟩:=o2.tup;have a8:∀h,addW (.int (a*3)) (.int 41) h=À (.int (a*3+41),h):=λh=>by simp[addW,jI]
 have p8:∀h,rh G (ρD ns a ((d:Int)+1) (kn N O H) rl (À (.int y)) (À (.tup l1)) Á Á Á Á) h=À (.nx (ρD ns a ((d:Int)+1) (kn N O H) rl (À (.int y)) (À (.tup l1)) Á Á Á (À (.tup l2))),h):=λh=>by
  simp![rh,m3,a8,yn,e2]
 have Lh:∀h,aO G (ρD ns a ((d:Int)+1) (kn N O H) rl Á Á Á Á Á Á) h=zl (rT G) (lQ G) (ρD ns a ((d:Int)+1) (kn N O H) rl (À (.int y)) (À (.tup l1)) Á Á Á (À (.tup l2))) h:=λh=>by
  rw[EX,zt (p4 h),zt (p5 h),zt (p6 h),zt (p7 h),zt (p8 h)]
 cases k9:(y==9) with
 | true=>
  obtain⟨w3,e3,Sa,o3⟩:=HD (a*3+61) N O H hN A4 hH ∅ ∅ lH;obtain⟨l3,rfl⟩:=o3.tup;have a9:∀h,addW (.int (a*3)) (.int 61) h=À (.int (a*3+61),h):=λh=>by simp[addW,jI]
  refine⟨th "if" [.tup l1,.tup l2,.tup l3],λh=>?_,?_,?_⟩
  .rw[Lh]
   refine c8 ((gQ rfl).trans (by rw[k9])) ?_;simp![m3,a9,yn,zo,c4,e3]
  .rw[show 2+2*(d+1)=(2*d+3)+1 by omega]
   refine y6 (by simp) λw hw=>?_
   erw[zg,zA,kO] at hw;rcases hw with rfl | rfl | rfl | rfl
   .exact pS ⋯
   .exact ja Il ∅
   .exact ja Ef ∅
   .exact ja Sa ∅
  .refine ng (p:=(4,1)) (.iff l1 l2 l3) ⋯ ⋯ ⋯ λq hq=>?_
   simp at hq;rcases hq with rfl | rfl | rfl
   .exact o1
   .exact o2
   .exact o3
 | false=>
 have OL:0<=y-10/\y-10<5:=by
  rw[jB] at k5 k6 k7 k9;omega
 obtain⟨v',hv,ev⟩:=d7 (l:=[.tup [.str "then"],.tup [.str "add"],.tup [.str "less"],.tup [.str "loop"],.tup [.str "then"]]) (i:=y-10) OL.1 (by simpa using OL.2);have:∃x:Ç,v'=.tup [.str x]/\pl 1 (.str x)=Â/\(x==("call":Ç))=Ä/\fm x=À (3,1)/\(x≠"read" /\ x≠"write" /\ x≠"own")/\Sh rl rl.length H (th x [.tup l1,.tup l2]):=by
  erw[zg,zA,kO] at hv;rcases hv with rfl | rfl | rfl | rfl | rfl
  .exact⟨_,rfl,by decide +kernel,by decide +kernel,by decide +kernel,by decide +kernel,.thenn l1 l2⟩
  .exact⟨_,rfl,by decide +kernel,by decide +kernel,by decide +kernel,by decide +kernel,.add l1 l2⟩
  .exact⟨_,rfl,by decide +kernel,by decide +kernel,by decide +kernel,by decide +kernel,.less l1 l2⟩
  .exact⟨_,rfl,by decide +kernel,by decide +kernel,by decide +kernel,by decide +kernel,.loop l1 l2⟩
  .exact⟨_,rfl,by decide +kernel,by decide +kernel,by decide +kernel,by decide +kernel,.thenn l1 l2⟩
 obtain⟨x,rfl,px,hc,hf,hx,sh⟩:=this;refine⟨th x [.tup l1,.tup l2],λh=>?_,?_,?_⟩
 .rw[Lh]
  unfold rT;rw[Vi ((gQ rfl).trans (by rw[k9]))];have Nl:∀h,addW (.tup [.str x]) (.tup [.tup l1,.tup l2]) h=À (th x [.tup l1,.tup l2],h):=λh=>by
   erw[addW,jI,zE,kI];rw[zQ (by decide)];rfl
  simp![lQ,zo,kG,c1,c2,c5,yn,ev,Nl]
 .rw[show 2+2*(d+1)=(2*d+3)+1 by omega]
  refine y6 (by simp) λw hw=>?_
  erw[zg,zA,kO] at hw;rcases hw with rfl | rfl | rfl
  .exact pS px
  .exact ja Il ∅
  .exact ja Ef ∅
 .refine ng (p:=(3,1)) sh hc hf hx λq hq=>?_
  simp at hq;rcases hq with rfl | rfl
  .exact o1
  .exact o2
def JL{ns:List Int}(hl:ns.length<=63):dX (step (step (step (step F)))) ns rl 0:=by
 intro a N O H hN A4 hH lN lO lH;have hO:=Kn A4;have e:=λ(k many:Int) (h:MH) (hm:0<many)=>x6 (F:=step F) (k:=k) (many:=many) (h:=h) hl hm
 obtain⟨w,ew,p,o⟩:=Vl (F:=F) (ns:=ns) (a:=a+1) (N:=N) (O:=O) (H:=H) (rl:=rl) (k:=rl.length) hl hN A4 hH ∅ ∅ ∅;generalize step (step (step F))=G at e ew;refine⟨w,λh=>qA (n:=2) ?_ (wt p),p,o⟩;simp![aO,Jy,su,nV,Zx,tG,Kc,Zs,Zn,rh,rT,lQ,e a 15 _ ∅,qV,addW,jI,ew]
theorem Cu(F:Fs):bO F=zl (Y0 F) (zl (YQ F) (zl (Y7 F) (zl (Yj F) (Y5 F)))):=rfl
theorem C4(F:Fs):bx F=zl (Yr F) (zl (Dl F) (BN F)):=rfl
def hnd:List (List Ç):=[[],["f"],["f","g1"]]
structure RG(rl:List W):Prop where
 l:rl.length<=4
 g:∀i,i<rl.length->∃(N hs:List Ç) (body:W),rl[i]?=À (.tup [.tup (zk N),.tup (zk hs),body])/\N.length<=2/\hs.length<=2/\wd N/\wd hs/\pl 6 body=Â/\okd rl i hs 3 body/\hs.Nodup/\cw 3 [] body/\hs∈hnd
theorem RG.pl(h:RG rl):pl 8 (.tup rl)=Â:=by
 refine y6 h.l λw hw=>?_
 obtain⟨i,hi,rfl⟩:=List.mem_iff_getElem.mp hw;obtain⟨N,hs,body,e,l1,l2,w1,w2,p,o⟩:=h.g i hi;rw[zM hi] at e;injection e with e;rw[e];refine y6 (by simp) λv hv=>?_
 erw[zg,zA,kO] at hv;rcases hv with rfl | rfl | rfl
 .exact ja (Ka w1 ∅) ∅
 .exact ja (Ka w2 ∅) ∅
 .exact p
def RG.good(h:RG rl):RulesGood rl:=⟨λi hi=>by
 obtain⟨N,hs,body,e,l1,l2,w1,w2,p,o⟩:=h.g i hi
 exact⟨zk N,hs,body,e,vi (wt p) ∅,o.1,by omega⟩⟩
def Sh.more{H:List Ç}(h:Sh rl k H w):Sh (rl++[r]) k H w:=by
 cases h with
 | call i a b hi ns hs body e lb=>exact .call i a b hi ns hs body (lb:=lb) (by rw[zY (zu.mp e).1];exact e)
 | number i=>exact .number i
 | name v=>exact .name v
 | read v hv=>exact .read v hv
 | doo v hv=>exact .doo v hv
 | ask=>exact .ask
 | write v hv a=>exact .write v hv a
 | say a=>exact .say a
 | lett v a b=>exact .lett v a b
 | own v hv a b=>exact .own v hv a b
 | add a b=>exact .add a b
 | less a b=>exact .less a b
 | thenn a b=>exact .thenn a b
 | loop a b=>exact .loop a b
 | iff a b c=>exact .iff a b c
theorem lq{H:List Ç}:∀{n:Nat} {w:W},okd rl k H n w->okd (rl++[r]) k H n w
 | 0,_,h=>by cases h
 | n+1,w,h=>⟨h.1.more,λp hp=>lq (h.2 p hp)⟩
def RG.snoc{rl:List W}(h:RG rl)(hl:rl.length<=3){N hs:List Ç}(l1:N.length<=2)(l2:hs.length<=2)(w1:wd N)(w2:wd hs)(p:K32.pl 6 body=Â)(o:okc rl rl.length hs [] 3 body)(nd:hs.Nodup)(hh:hs∈hnd):RG (rl++[.tup [.tup (zk N),.tup (zk hs),body]]):=by
 refine⟨by simp;omega,λi hi=>?_⟩;by_cases c:i<rl.length
 .obtain⟨N',Ak,xI,e,a1,a2,a3,a4,a5,a6⟩:=h.g i c
  exact⟨N',Ak,xI,by rw[zY c];exact e,a1,a2,a3,a4,a5,lq a6.1,a6.2⟩
 .have:i=rl.length:=by simp at hi;omega
  subst this;exact⟨N,hs,body,by simp,l1,l2,w1,w2,p,lq o.1,nd,o.2,hh⟩
def m5:kx (.int 5) (.int a) h=À (.int (5*a),h):=by
 have:(small 5||small a)=Â:=by rw[show small 5=Â by decide];rfl
 erw[kx,this,je]
def m7:kx (.int 7) (.int a) h=À (.int (7*a),h):=by
 have:(small 7||small a)=Â:=by rw[show small 7=Â by decide];rfl
 erw[kx,this,je]
noncomputable abbrev ρC(ns:List Int)(a d:Int)(K:W)(rl:List W)(o5 o6 o7 o8:Option W):En:=[À (ky ns),À (.int a),À (.int d),À K,À (.tup rl),o5,o6,o7,o8]
theorem oN{G:Fs}{rl:List W}{N O H:List Ç}(HD:dX G ns rl d)(hN:wd N)(hO:wo O)(hH:wd H)(lN:N.length+d<=20)(lO:O.length+d<=20)(lH:H.length<=20) :
  ∀is:List Int,∃ws:List W,ws.length=is.length/\(∀w∈ws,pl (2+2*d) w=Â/\okc rl rl.length H O (d+1) w)/\∀(h0:MH) (acc:List W) (o5 o6 o8:Option W),acc.length+is.length<=1000->
   ∃o,forL (zw 8) (yY (qE yb (zd 7) [ze G.au [zd 0,zh addW (zh addW (zh kx (zd 1) (Pu 3)) (Pu 7)) (zh kx (Pu 5) (zd 8)),zh yn (zd 2) (Pu 1),zd 3,zd 4]])) (is.map W.int) (ρC ns a ((d:Int)+1) (kn N O H) rl o5 o6 (À (.ref h0.length)) o8) (h0++[.lst acc]) =
    À (.nx (ρC ns a ((d:Int)+1) (kn N O H) rl o5 o6 (À (.ref h0.length)) o),h0++[.lst (acc++ws)])
 | []=>⟨[],rfl,λw hw=>by simp at hw,λh0 acc o5 o6 o8 _=>⟨o8,by simp[forL]⟩⟩
 | i::is=>by
  obtain⟨ws,h1,h2,h3⟩:=oN (a:=a) HD hN hO hH lN lO lH is;obtain⟨w,ew,p,o⟩:=HD (a*3+7+5*i) N O H hN hO hH lN lO lH;refine⟨w::ws,by simp[h1],λv hv=>?_,λh0 acc o5 o6 o8 hc=>?_⟩
  .rcases zg.mp hv with rfl | z
   .exact⟨p,o⟩
   .exact h2 v z
  .erw[zE] at hc
   obtain⟨o',e⟩:=h3 h0 (acc++[w]) o5 o6 (À (.int i)) (by simp;omega);refine⟨o',?_⟩;erw[zz];unfold forL;have g:zw 8 (.int i) (ρC ns a ((d:Int)+1) (kn N O H) rl o5 o6 (À (.ref h0.length)) o8) (h0++[.lst acc])=À (ρC ns a ((d:Int)+1) (kn N O H) rl o5 o6 (À (.ref h0.length)) (À (.int i)),h0++[.lst acc]):=by simp[zw]
   rw[g];have ED:acc.length<cap:=zN (show acc.length<1000 by omega) (by decide);have b:(yY (qE yb (zd 7) [ze G.au [zd 0,zh addW (zh addW (zh kx (zd 1) (Pu 3)) (Pu 7)) (zh kx (Pu 5) (zd 8)),zh yn (zd 2) (Pu 1),zd 3,zd 4]])) (ρC ns a ((d:Int)+1) (kn N O H) rl o5 o6 (À (.ref h0.length)) (À (.int i))) (h0++[.lst acc])=À (.nx (ρC ns a ((d:Int)+1) (kn N O H) rl o5 o6 (À (.ref h0.length)) (À (.int i))),h0++[.lst (acc++[w])]):=by
    simp![qE,getL,at0,yb,F0,m3,m5,addW,jI,yn,ew,ED]
   erw[b];rw[e];simp
def oH(n:Nat):upto n=((_root_.List.range n).map λ(i:Nat)=>(i:Int)).map W.int:=by simp[upto]
def VA{ns:List Int}(hl:ns.length<=63)(HY:RG rl)(AB:rl≠[])(HD:dX (step (step F)) ns rl d):J6 (step (step (step F))) ns rl d:=by
 intro a N O H hN hO hH lN lO lH;have e:=λ(k many:Int) (h:MH) (hm:0<many)=>x6 (F:=F) (k:=k) (many:=many) (h:=h) hl hm
 generalize step (step F)=G at e HD;have hp:(0:Int)<(rl.length:Int):=by
  cases rl with
  | nil=>exact absurd rfl AB
  | cons _ _=>erw[zE];omega
 have rg:=kr (ns:=ns) (k:=a+3) (many:=rl.length) hp;have er:=λh=>e (a+3) rl.length h hp
 obtain⟨j,hj⟩:=yf rg.1;rw[hj] at rg er;have OM:j<rl.length:=by omega
 obtain⟨N',Ak,xI,eb,b1,b2,b3,b4,b5,b6⟩:=HY.g j OM;have ei:∀h,zC (.tup rl) (.int (j:Int)) h=À (.tup [.tup (zk N'),.tup (zk Ak),xI],h):=λh=>YE ∅ ∅ (by simpa using eb)
 obtain⟨ws,h1,h2,h3⟩:=oN (a:=a) HD hN hO hH lN lO lH ((_root_.List.range (N'.length+Ak.length)).map λ(i:Nat)=>(i:Int));erw[zG,xF] at h1 h3;refine⟨th "call" [.int (j:Int),.tup (ws.take N'.length),.tup (ws.drop N'.length)],λh=>?_,?_,?_⟩
 .have pw:dt (2+2*(d+1)) (th "call" [.int (j:Int),.tup (ws.take N'.length),.tup (ws.drop N'.length)])=Â:=by
   rw[show 2+2*(d+1)=(2*d+3)+1 by omega];refine uk (by simp) λv hv=>?_
   erw[zg,zA,kO] at hv;rcases hv with rfl | rfl | rfl | rfl
   .have:dt 1 (.str "call")=Â:=by decide +kernel
    exact vi this ∅
   .rfl
   .exact uk (by simp;omega) λu hu=>vi (wt (h2 u (vg hu)).1) ∅
   .exact uk (by simp;omega) λu hu=>vi (wt (h2 u (jJ hu)).1) ∅
  refine CD (t:=[.lst ws]) ?_ pw;obtain⟨o,e3⟩:=h3 h [] (À (.int (j:Int))) (À (.int (N'.length:Int))) Á (by simp;omega);rw[jb] at e3;suffices hs:bO G (ρC ns a ((d:Int)+1) (kn N O H) rl Á Á Á Á) h=À (.ret (th "call" [.int (j:Int),.tup (ws.take N'.length),.tup (ws.drop N'.length)]),h++[.lst ws]) by
   erw[kQ,zE,kI,je,zz,kY,Æ,jr,jb];erw[ρC] at hs;erw[hs]
  have c0:(0:Nat)<=cap:=by decide
  have c4:(4:Nat)<=cap:=by decide
  have s0:Y0 G (ρC ns a ((d:Int)+1) (kn N O H) rl Á Á Á Á) h=À (.nx (ρC ns a ((d:Int)+1) (kn N O H) rl (À (.int (j:Int))) Á Á Á),h):=by
   simp![Y0,addW,jI,kK,er]
  have s1:YQ G (ρC ns a ((d:Int)+1) (kn N O H) rl (À (.int (j:Int))) Á Á Á) h=À (.nx (ρC ns a ((d:Int)+1) (kn N O H) rl (À (.int (j:Int))) (À (.int (N'.length:Int))) Á Á),h):=by
   simp![YQ,ei,u4,kK,qf]
  have s2:Y7 G (ρC ns a ((d:Int)+1) (kn N O H) rl (À (.int (j:Int))) (À (.int (N'.length:Int))) Á Á) h=À (.nx (ρC ns a ((d:Int)+1) (kn N O H) rl (À (.int (j:Int))) (À (.int (N'.length:Int))) (À (.ref h.length)) Á),h++[.lst []]):=by
   simp![Y7,dY,c0]
  have s3:Yj G (ρC ns a ((d:Int)+1) (kn N O H) rl (À (.int (j:Int))) (À (.int (N'.length:Int))) (À (.ref h.length)) Á) (h++[.lst []])=À (.nx (ρC ns a ((d:Int)+1) (kn N O H) rl (À (.int (j:Int))) (À (.int (N'.length:Int))) (À (.ref h.length)) o),h++[.lst ws]):=by
   rw[<-e3];have ir:(cn [zh addW (zd 6) (ze kK [zh zC (zh zC (zd 4) (zd 5)) (Pu 1)])]) (ρC ns a ((d:Int)+1) (kn N O H) rl (À (.int (j:Int))) (À (.int (N'.length:Int))) (À (.ref h.length)) Á) (h++[.lst []])=À (.items (upto (N'.length+Ak.length)),h++[.lst []]):=by
    have q:-(2 ^ 62:Int)<=(N'.length:Int)+(Ak.length:Int)/\(N'.length:Int)+(Ak.length:Int)<2 ^ 62:=by omega
    have q2:((N'.length:Int)+(Ak.length:Int)).toNat=N'.length+Ak.length:=by omega
    have lw:∀h,kK [.tup (zk Ak)] h=À (.int (Ak.length:Int),h):=λh=>by simp[kK,qf]
    have ad:∀h,addW (.int (N'.length:Int)) (.int (Ak.length:Int)) h=À (.int ((N'.length:Int)+(Ak.length:Int)),h):=λh=>by simp[addW,jI]
    have Le:∀h,iu [.int ((N'.length:Int)+(Ak.length:Int))] h=À (.items (upto (N'.length+Ak.length)),h):=λh=>by
     unfold iu;simp only;rw[zQ q,q2]
    simp![cn,ei,bq,lw,ad,Le]
   unfold Yj vS;rw[ir];simp only;rw[oH]
  have s4:Y5 G (ρC ns a ((d:Int)+1) (kn N O H) rl (À (.int (j:Int))) (À (.int (N'.length:Int))) (À (.ref h.length)) o) (h++[.lst ws])=À (.ret (th "call" [.int (j:Int),.tup (ws.take N'.length),.tup (ws.drop N'.length)]),h++[.lst ws]):=by
   have t1:=JU (l:=ws) (k:=N'.length) ∅;have t2:=gp (l:=ws) (k:=N'.length);simp![Y5,bX,bg,gz,getL,at0,bS,zo,c4,t1,t2]
  rw[Cu,zt s0,zt s1,zt s2,zt s3,s4]
 .rw[show 2+2*(d+1)=(2*d+3)+1 by omega]
  refine y6 (by simp) λv hv=>?_
  erw[zg,zA,kO] at hv;have RU:=HY.l;rcases hv with rfl | rfl | rfl | rfl
  .have:pl 1 (.str "call")=Â:=by decide +kernel
   exact ja this ∅
  .have:pl 1 (.int (j:Int))=Â:=by
    unfold pl;rw[zr];exact⟨kJ ∅,kJ ∅⟩
   exact ja this ∅
  .exact y6 (by simp;omega) λu hu=>ja (h2 u (vg hu)).1 ∅
  .exact y6 (by simp;omega) λu hu=>ja (h2 u (jJ hu)).1 ∅
 .refine⟨⟨.call j _ _ OM (zk N') Ak xI eb (by rw[qF];omega),λp hp=>?_⟩,Ki ⋯ λp hp=>?_⟩ <;>
  rw[wa,qG] at hp
  .exact(h2 p hp).2.1
  .exact(h2 p hp).2.2
theorem fC{ns:List Int}(hl:ns.length<=63)(HY:RG rl)(F:Fs):∀(d:Nat),d<=4->∀m,4+2*d<=m->dX (up m F) ns rl d
 | 0,_,m,hm=>by
  obtain⟨m',rfl⟩:∃m',m=m'+4:=⟨m-4,by omega⟩;exact JL hl
 | d+1,hd,m,hm=>by
  obtain⟨m',rfl⟩:∃m',m=m'+4:=⟨m-4,by omega⟩;have i1:=fC hl HY F d ∅ (m'+3) ∅;have i2:=fC hl HY F d ∅ (m'+2) ∅;exact QB hl (vi (wt HY.pl) ∅) ∅ i1 λAB=>VA hl HY AB i2
noncomputable abbrev ρR(ns:List Int)(a:Int)(rl:List W)(o3 o4 o5 o6:Option W):En:=[À (ky ns),À (.int a),À (.tup rl),o3,o4,o5,o6]
noncomputable def Xc(F:Fs):MS:=(zl (zI (zh zC (ze kG [ze zo [],ze zo [PN "x"],ze zo [PN "y",PN "x"]]) (ze F.aa [zd 0,zh addW (zh addW (zd 1) (Pu 1)) (zh kx (Pu 5) (zd 3)),Pu 3])) (zw 4))
 (zl (zI (zh zC (ze kG [ze zo [],ze zo [PN "f"],ze zo [PN "f",PN "g1"]]) (ze F.aa [zd 0,zh addW (zh addW (zd 1) (Pu 2)) (zh kx (Pu 5) (zd 3)),Pu 3])) (zw 5))
 (zl (zI (ze F.au [zd 0,zh addW (zh addW (zd 1) (Pu 20)) (zh kx (Pu 7) (zd 3)),Pu 2,ze zo [zd 4,ze zo [],zd 5],zd 2]) (zw 6))
 (zI (zh addW (zd 2) (ze zo [ze zo [zd 4,zd 5,zd 6]])) (zw 2)))))
theorem mB{G:Fs}(e:∀(k many:Int) (h:MH),0<many->G.aa [ky ns,.int k,.int many] h=À (.int (vT ns k many),h))(HD:∀rl,RG rl->dX G ns rl 2) :
  ∀(is:List Int) (rl:List W),RG rl->rl.length+is.length<=4->∃Hb,RG Hb/\Hb.length=rl.length+is.length/\∀(h:MH) (o3 o4 o5 o6:Option W),∃p3 p4 p5 p6,forL (zw 3) (Xc G) (is.map W.int) (ρR ns a rl o3 o4 o5 o6) h=À (.nx (ρR ns a Hb p3 p4 p5 p6),h)
 | [],rl,hr,_=>⟨rl,hr,by simp,λh o3 o4 o5 o6=>⟨o3,o4,o5,o6,by simp[forL]⟩⟩
 | i::is,rl,hr,hl=>by
  erw[zE] at hl;have c0:(0:Nat)<=cap:=by decide
  have c1:(1:Nat)<=cap:=by decide
  have c2:(2:Nat)<=cap:=by decide
  have c3:(3:Nat)<=cap:=by decide
  obtain⟨v1,ON,Sb⟩:=d7 (l:=[.tup [],.tup [.str "x"],.tup [.str "y",.str "x"]]) (kr (ns:=ns) (k:=a+1+5*i) (many:=3) ∅).1 (by simpa using (kr (ns:=ns) (k:=a+1+5*i) (many:=3) ∅).2);have:∃N:List Ç,v1=.tup (zk N)/\N.length<=2/\wd N:=by
   erw[zg,zA,kO] at ON;rcases ON with rfl | rfl | rfl
   .exact⟨[],rfl,by simp,λv hv=>by simp at hv⟩
   .exact⟨["x"],rfl,by simp,λv hv=>by erw[zg,zA,kO] at hv;subst hv;decide +kernel⟩
   .exact⟨["y","x"],rfl,by simp,λv hv=>by erw[zg,zA,kO] at hv;rcases hv with rfl | rfl<;>decide +kernel⟩
  obtain⟨N,rfl,lN,wN⟩:=this;obtain⟨v2,Nm,Sd⟩:=d7 (l:=[.tup [],.tup [.str "f"],.tup [.str "f",.str "g1"]]) (kr (ns:=ns) (k:=a+2+5*i) (many:=3) ∅).1 (by simpa using (kr (ns:=ns) (k:=a+2+5*i) (many:=3) ∅).2);have:∃N:List Ç,v2=.tup (zk N)/\N.length<=2/\wd N/\N.Nodup/\N∈hnd:=by
   erw[zg,zA,kO] at Nm;rcases Nm with rfl | rfl | rfl
   .exact⟨[],rfl,by simp,λv hv=>by simp at hv,by simp,by decide +kernel⟩
   .exact⟨["f"],rfl,by simp,λv hv=>by erw[zg,zA,kO] at hv;subst hv;decide +kernel,by decide +kernel,by decide +kernel⟩
   .exact⟨["f","g1"],rfl,by simp,λv hv=>by erw[zg,zA,kO] at hv;rcases hv with rfl | rfl<;>decide +kernel,by decide +kernel,by decide +kernel⟩
  obtain⟨H,rfl,lH,wH,Se,hH⟩:=this;obtain⟨w,ew,pw,ow⟩:=HD rl hr (a+20+7*i) N [] H wN (λv hv=>by simp at hv) wH ∅ (by simp) ∅;obtain⟨Hb,LL,Ie,ih⟩:=mB (a:=a) e HD is (rl++[.tup [.tup (zk N),.tup (zk H),w]]) (hr.snoc ∅ lN lH wN wH pw ow Se hH) (by simp;omega);refine⟨Hb,LL,by rw[Ie];simp;omega,λh o3 o4 o5 o6=>?_⟩;obtain⟨p3,p4,p5,p6,e6⟩:=ih h (À (.int i)) (À (.tup (zk N))) (À (.tup (zk H))) (À w);refine⟨p3,p4,p5,p6,?_⟩;erw[zz];unfold forL;have g:zw 3 (.int i) (ρR ns a rl o3 o4 o5 o6) h=À (ρR ns a rl (À (.int i)) o4 o5 o6,h):=by simp[zw]
  rw[g];have cr:rl.length+1<=cap:=zp (show rl.length+1<=10 by omega) (by decide);have a1:∀x y:Int,∀h,addW (.int x) (.int y) h=À (.int (x+y),h):=λx y h=>by simp[addW,jI]
  have a2:∀w h,addW (.tup rl) (.tup [w]) h=À (.tup (rl++[w]),h):=λw h=>by
   erw[addW,jI,zE,kI];rw[zQ (by simpa using cr)]
  have Ah:∀h,G.au [ky ns,.int (a+20+7*i),.int 2,.tup [.tup (zk N),.tup [],.tup (zk H)],.tup rl] h=À (w,h):=λh=>ew h
  have b:Xc G (ρR ns a rl (À (.int i)) o4 o5 o6) h=À (.nx (ρR ns a (rl++[.tup [.tup (zk N),.tup (zk H),w]]) (À (.int i)) (À (.tup (zk N))) (À (.tup (zk H))) (À w)),h):=by
   unfold Xc;rw[zt (ρ':=ρR ns a rl (À (.int i)) (À (.tup (zk N))) o5 o6) (h':=h) (by simp![zo,kG,c0,c1,c2,c3,a1,m5,e (a+1+5*i) 3 _ ∅,Sb])];rw[zt (ρ':=ρR ns a rl (À (.int i)) (À (.tup (zk N))) (À (.tup (zk H))) o6) (h':=h) (by simp![zo,kG,c0,c1,c2,c3,a1,m5,e (a+2+5*i) 3 _ ∅,Sd])];rw[zt (ρ':=ρR ns a rl (À (.int i)) (À (.tup (zk N))) (À (.tup (zk H))) (À w)) (h':=h) (by simp![zo,c0,c3,a1,m7,Ah])];simp![zo,c1,c3,a2]
  erw[b];rw[e6]
def X1{ns:List Int}(hl:ns.length<=63)(hm:8<=m):∃rl,RG rl/\∀h,(step (up m F)).bu [ky ns,.int 1] h=À (.tup rl,h):=by
 have HD:=λrl (hr:RG rl)=>fC hl hr F 2 ∅ m ∅
 have e:∀(k many:Int) (h:MH),0<many->(up m F).aa [ky ns,.int k,.int many] h=À (.int (vT ns k many),h):=by
  obtain⟨m',rfl⟩:∃m',m=m'+2:=⟨m-2,by omega⟩;exactλk many h hm=>x6 (F:=up m' F) hl hm
 generalize up m F=G at e HD;have rg:=kr (ns:=ns) (k:=1) (many:=3) ∅;have e1:=λh=>e 1 3 h ∅
 obtain⟨j,hj⟩:=yf rg.1;rw[hj] at rg e1;obtain⟨Hb,LL,Ie,ih⟩:=mB (a:=1) e HD ((_root_.List.range j).map λ(i:Nat)=>(i:Int)) [] ⟨by simp,λi hi=>by simp at hi⟩ (by simp;omega);refine⟨Hb,LL,λh=>qA (n:=8) ?_ (wt LL.pl)⟩;obtain⟨p3,p4,p5,p6,e6⟩:=ih h Á Á Á Á;have c0:(0:Nat)<=cap:=by decide
 have s0:Yr G [À (ky ns),À (.int 1),Á,Á,Á,Á,Á] h=À (.nx (ρR ns 1 [] Á Á Á Á),h):=by
  simp![Yr,zo,c0]
 have s1:Dl G (ρR ns 1 [] Á Á Á Á) h=À (.nx (ρR ns 1 Hb p3 p4 p5 p6),h):=by
  rw[<-e6];have ir:(cn [ze G.aa [zd 0,zd 1,Pu 3]]) (ρR ns 1 [] Á Á Á Á) h=À (.items (upto j),h):=by
   have q:-(2 ^ 62:Int)<=(j:Int)/\(j:Int)<2 ^ 62:=by omega
   have Le:∀h,iu [.int (j:Int)] h=À (.items (upto j),h):=λh=>by
    unfold iu;simp only;rw[zQ q,jo]
   simp![cn,e1,Le]
  show(vS _ _ (Xc G)) _ _=_
  unfold vS;rw[ir];simp only;rw[oH]
 have hs:bx G [À (ky ns),À (.int 1),Á,Á,Á,Á,Á] h=À (.ret (.tup Hb),h):=by
  rw[C4,zt s0,zt s1];simp![BN]
 erw[kQ,zE,kI,je,zz,kY,Æ,jr,jb];erw[hs]
def X6{ns:List Int}{rl:List W}(hl:ns.length<=63)(hm:15<=m)(hr:RG rl):∃w,pl 6 w=Â/\okc rl rl.length [] [] 3 w/\∀h,(step (up m F)).bj [ky ns,.int a,.int 2,.tup rl] h=À (w,h):=by
 obtain⟨w,ew,p,o⟩:=fC hl hr F 2 ∅ m ∅ a [] [] [] (λv hv=>by simp at hv) (λv hv=>by simp at hv) (λv hv=>by simp at hv) (by simp) (by simp) (by simp);obtain⟨v,ev⟩:=gn hr.good F m rl.length 3 (by have:=hr.l;omega) ∅ ∅ _ w [] o.1 (vi (wt p) ∅) (λp hp=>by simp at hp);have e:∀(k many:Int) (h:MH),0<many->(up m F).aa [ky ns,.int k,.int many] h=À (.int (vT ns k many),h):=by
  obtain⟨m',rfl⟩:∃m',m=m'+2:=⟨m-2,by omega⟩;exactλk many h hm=>x6 (F:=up m' F) hl hm
 generalize up m F=G at e ew ev;have c0:(0:Nat)<=cap:=by decide
 have c2:(2:Nat)<=cap:=by decide
 have c3:(3:Nat)<=cap:=by decide
 have Ah:∀h,G.au [ky ns,.int a,.int 2,.tup [.tup [],.tup [],.tup []],.tup rl] h=À (w,h):=λh=>ew h
 by_cases k:80<v
 .have rg:=kr (ns:=ns) (k:=a) (many:=4) ∅
  have e1:=λh=>e a 4 h ∅
  generalize vT ns a 4=y at rg e1;have:∃c:Ç,(pl 1 (.str c)=Â/\c∈six/\c∈ve [])/\∀h,zC (.str "abcd") (.int y) h=À (.str c,h):=by
   have hy:y=0\/y=1\/y=2\/y=3:=by omega
   have hc:(("abcd":Ç).length<=cap):=by decide +kernel
   have hx:("abcd":Ç).cps.toList=[97,98,99,100]:=by decide +kernel
   rcases hy with rfl | rfl | rfl | rfl
   .exact⟨⟨#[97]⟩,by decide +kernel,λh=>by simp[zC,hc,hx,atI,y0]⟩
   .exact⟨⟨#[98]⟩,by decide +kernel,λh=>by simp[zC,hc,hx,atI,y0]⟩
   .exact⟨⟨#[99]⟩,by decide +kernel,λh=>by simp[zC,hc,hx,atI,y0]⟩
   .exact⟨⟨#[100]⟩,by decide +kernel,λh=>by simp[zC,hc,hx,atI,y0]⟩
  obtain⟨c,⟨pc,c6,cs⟩,ec⟩:=this;have pr:pl 2 (th "read" [.str c])=Â:=Vr ⋯ pc;refine⟨th "read" [.str c],ja pr ∅,⟨fY (tJ (rl:=rl) (k:=rl.length) (H:=[]) c6 cs).1 ∅,dZ (tJ (rl:=rl) (k:=rl.length) (H:=[]) c6 cs).2 ∅⟩,λh=>qA (n:=2) ?_ (wt pr)⟩
  .simp![bC,zo,c0,c2,c3,Ah,ev,vv,k,e1,ec]
 .refine⟨w,p,o,λh=>qA (n:=6) ?_ (wt p)⟩
  simp![bC,zo,c0,c2,c3,Ah,ev,vv,k]
def ko(k:List Ç):Bool:=decide (k.length<=4)&&k.all λx=>ú x&&decide (x.length<=1000)
def Zt(g:ko k=Â):dt 2 (tupS k)=Â:=by
 unfold ko at g;rw[zr] at g;have l:=jU g.1;refine uk (by simp;omega) λw hw=>?_
 obtain⟨x,hx,rfl⟩:=zK.mp hw;exact kE.mp g.2 x hx
def xh{ks:List (List Ç)}(hl:ks.length<=1000)(g:∀k∈ks,ko k=Â):dt 3 (.fls (ks.map tupS))=Â:=QC (by simpa using hl) λw hw=>by
 obtain⟨k,hk,rfl⟩:=zK.mp hw;exact Zt (g k hk)
theorem y9(k:List Ç):low m (tupS k)=Â:=by
 unfold tupS low;exact va λw hw=>by
  obtain⟨x,_,rfl⟩:=zK.mp hw;unfold low;rfl
def dP(ks:List (List Ç)):low m (.fls (ks.map tupS))=Â:=by
 unfold low;exact va λw hw=>by
  obtain⟨k,_,rfl⟩:=zK.mp hw;exact y9 k
noncomputable def bw(B:List (List (List Ç))):List W:=B.map λks=>.fls (ks.map tupS)
def be(k:List Ç):Bool:=match k with
 | x::_=>!(x=="do")
 | []=>Â
noncomputable def itself(B:List (List (List Ç))):W->List (List Ç)
 | .tup (.str x::r)=>if kU ["read","write","do"] (.str x) then (match r with
   | .str v::_=>[[x,v]]
   | _=>[]) else if kU ["say","ask"] (.str x) then [[x]] else if x=="call" then (match r with
   | .int i::_=>((B[i.toNat]?).getD []).filter be
   | _=>[]) else []
 | _=>[]
def i3(d:dt n (.str x)=Â)(hn:n<=60):inB h (.str x) (.tup [.str "read",.str "write",.str "do"])=À (kU ["read","write","do"] (.str x)):=dA (l:=["read","write","do"]) d hn ⋯
def i2(d:dt n (.str x)=Â)(hn:n<=60):inB h (.str x) (.tup [.str "say",.str "ask"])=À (kU ["say","ask"] (.str x)):=dA (l:=["say","ask"]) d hn ⋯
def V5{B:List (List (List Ç))}{H:List Ç}(hb:getL h bd=À (bw B))(nb:∀l,bd≠.tup l)(ns:∀z,bd≠.str z)(hB:∀ks∈B,ks.length<=60/\∀k∈ks,k≠[])(hk:k<=B.length)(d:dt 60 w=Â)(sh:Sh rl k H w) :
  (step F).aD [bd,w] h=À (.fls ((itself B w).map tupS),h):=by
 refine wm (h':=h) ?_ (dP _) (jw _);suffices row:aj F [À bd,À w] h=À (.ret (.fls ((itself B w).map tupS)),h) by
  erw[kQ,zE,kI,je,zz,kY,Æ,jr,jb];erw[row]
 have c0:(0:Nat)<=cap:=by decide
 have c1:(1:Nat)<=cap:=by decide
 have c2:(2:Nat)<=cap:=by decide
 have c3:(3:Nat)<=cap:=by decide
 have one:∀(x v:Ç) (r:List W),kU ["read","write","do"] (.str x)=Â->dt 60 (th x (.str v::r))=Â->aj F [À bd,À (th x (.str v::r))] h=À (.ret (.fls ((itself B (th x (.str v::r))).map tupS)),h):=by
  intro x v r q d;obtain⟨m,e,_,hd⟩:=j3 d;cases e;have z3:=i3 (h:=h) (hd (.str x) (by simp)) ∅;rw[q] at z3;have e:itself B (th x (.str v::r))=[[x,v]]:=by erw[th,itself,q,je]
  rw[e];simp![aj,u4,bq,z3,zo,kG,c1,c2,c3,tupS]
 have two:∀(x:Ç) (r:List W),kU ["read","write","do"] (.str x)=Ä->kU ["say","ask"] (.str x)=Â->dt 60 (th x r)=Â->aj F [À bd,À (th x r)] h=À (.ret (.fls ((itself B (th x r)).map tupS)),h):=by
  intro x r q q2 d;obtain⟨m,e,_,hd⟩:=j3 d;cases e;have z3:=i3 (h:=h) (hd (.str x) (by simp)) ∅;have z2:=i2 (h:=h) (hd (.str x) (by simp)) ∅;rw[q] at z3;rw[q2] at z2;have e:itself B (th x r)=[[x]]:=by erw[th,itself,q,q2,je,zO,ju]
  rw[e];simp![aj,u4,z3,z2,zo,kG,c1,c2,c3,tupS]
 have non:∀(x:Ç) (r:List W),kU ["read","write","do"] (.str x)=Ä->kU ["say","ask"] (.str x)=Ä->(x==("call":Ç))=Ä->dt 60 (th x r)=Â->aj F [À bd,À (th x r)] h=À (.ret (.fls ((itself B (th x r)).map tupS)),h):=by
  intro x r q q2 q4 d;obtain⟨m,e,_,hd⟩:=j3 d;cases e;have z3:=i3 (h:=h) (hd (.str x) (by simp)) ∅;have z2:=i2 (h:=h) (hd (.str x) (by simp)) ∅;rw[q] at z3;rw[q2] at z2;have e:itself B (th x r)=[]:=by erw[th,itself,q,q2,q4,zO,ju]
  rw[e];simp![aj,u4,z3,z2,vk,q4,zo,kG,c0,c2,c3]
 cases sh with
 | read v hv=>exact one _ v [] ⋯ d
 | doo v hv=>exact one _ v [] ⋯ d
 | write v hv a=>exact one _ v _ ⋯ d
 | ask=>exact two _ _ ⋯ ⋯ d
 | say a=>exact two _ _ ⋯ ⋯ d
 | call i a b hi ns hs body e lb=>
  obtain⟨m,em,_,hd⟩:=j3 d;cases em;have z3:=i3 (h:=h) (hd (.str "call") (by simp)) ∅;have z2:=i2 (h:=h) (hd (.str "call") (by simp)) ∅;rw[show kU ["read","write","do"] (.str "call")=Ä by decide +kernel] at z3;rw[show kU ["say","ask"] (.str "call")=Ä by decide +kernel] at z2;have Im:i<B.length:=by omega
  obtain⟨lk,nk⟩:=hB B[i] (qY Im);have e:itself B (th "call" [.int (i:Int),.tup a,.tup b])=B[i].filter be:=by
   erw[th,itself,show kU ["read","write","do"] (.str "call")=Ä by decide +kernel,show kU ["say","ask"] (.str "call")=Ä by decide +kernel,jC,je,zO,ju,jo,zM Im,qj]
  rw[e];have ei:∀{h'},getL h' bd=À (bw B)->zC bd (.int (i:Int)) h'=À (.fls (B[i].map tupS),h'):=by
   intro h' AI;have at1:atI (bw B) (i:Int)=À (.fls (B[i].map tupS)):=by
    unfold atI y0 bw;rw[zQ ∅,zQ (by simp;omega)];simp[Im]
   cases bd with
   | tup l=>exact absurd rfl (nb l)
   | str z=>exact absurd rfl (ns z)
   | fls l=>unfold zC;erw[AI,at1]
   | ref n=>unfold zC;erw[AI,at1]
   | _=>cases AI
  have cm:kz (kF (zh zC (zd 0) (zh zC (zd 1) (Pu 1)))) 1 [] (zw 0) (zS (zh (jp Â) (zh zC (zd 0) (Pu 0)) (PN "do"))) (zd 0) [À bd,À (th "call" [.int (i:Int),.tup a,.tup b])] h=À (.fls ((B[i].filter be).map tupS),h):=by
   refine(eM (l:=B[i].map tupS) (λw=>match w with | .tup (.str x::_)=>!(x=="do") | _=>Â) id ?_ ?_ ?_ ?_ ?_).trans ?_
   .simp![kF,bq,ei hb,srcOf]
   .intro w hw H'
    obtain⟨k,hk,rfl⟩:=zK.mp hw;cases k with
    | nil=>exact absurd rfl (nk _ hk)
    | cons x r=>
     simp![tupS,u4,vk]
   .intro w hw _ H';simp![]
   .intro w hw _
    obtain⟨k,hk,rfl⟩:=zK.mp hw;exact y9 k
   .erw[zG];exact zp lk (by decide)
   .have fe:((λw=>match w with | .tup (.str x::_)=>!(x=="do") | _=>Â)∘tupS)=be:=funext λk=>by cases k<;>rfl
    rw[u9,wz,fe]
  simp![aj,u4,z3,z2,vk,zo,c2,c3,cm]
 | number i=>exact non _ _ ⋯ ⋯ ⋯ d
 | name v=>exact non _ _ ⋯ ⋯ ⋯ d
 | lett v a b=>exact non _ _ ⋯ ⋯ ⋯ d
 | own v hv a b=>exact non _ _ ⋯ ⋯ ⋯ d
 | add a b=>exact non _ _ ⋯ ⋯ ⋯ d
 | less a b=>exact non _ _ ⋯ ⋯ ⋯ d
 | thenn a b=>exact non _ _ ⋯ ⋯ ⋯ d
 | loop a b=>exact non _ _ ⋯ ⋯ ⋯ d
 | iff a b c=>exact non _ _ ⋯ ⋯ ⋯ d
theorem gd:∀k:List Ç,strsOf (k.map .str)=À k
 | []=>rfl
 | x::r=>by erw[zz];unfold strsOf;rw[gd r]
def x4(k:List Ç):nG (tupS k)=À k:=gd k
structure Bod(h:MH)(B:List (List (List Ç)))(bd:W):Prop where
 gl:getL h bd=À (bw B)
 nt:∀l,bd≠.tup l
 ns:∀z,bd≠.str z
def Bod.ix{B:List (List (List Ç))}(b:Bod h B bd)(hi:i<B.length):zC bd (.int (i:Int)) h=À (.fls (B[i].map tupS),h):=by
 have AI:=b.gl;have at1:atI (bw B) (i:Int)=À (.fls (B[i].map tupS)):=by
  unfold atI y0 bw;rw[zQ ∅,zQ (by simp;omega)];simp[hi]
 cases bd with
 | tup l=>exact absurd rfl (b.nt l)
 | str z=>exact absurd rfl (b.ns z)
 | fls l=>unfold zC;erw[AI,at1]
 | ref n=>unfold zC;erw[AI,at1]
 | _=>cases AI
def Bod.more(b:Bod h B bd):Bod (h++t) B bd:=by
 refine⟨?_,b.nt,b.ns⟩;have AI:=b.gl;cases bd with
 | fls l=>exact AI
 | ref n=>
  have hb2:(match h[n]? with | some (.lst l)=>À l | _=>Á)=À (bw B):=AI;show(match (h++t)[n]? with | some (.lst l)=>À l | _=>Á)=À (bw B)
  cases e:h[n]? with
  | none=>rw[e] at hb2;cases hb2
  | some o=>
   rw[zY (zu.mp e).1,e];rw[e] at hb2;exact hb2
 | _=>cases AI
theorem lf{h:MH}(hn:h.length=n0)(p:W->W->Bool)(f:W->W->W):∀(l:List (W×W)) (acc:List W) (o1 o2:Option W),
  (∀w∈l,∀acc,t (À w.1::À w.2::caps) (h++[.lst acc])=À (p w.1 w.2,h++[.lst acc]))->(∀w∈l,p w.1 w.2=Â->∀H',m (À w.1::À w.2::caps) H'=À (f w.1 w.2,H'))->acc.length+l.length<=cap->
  yv 2 (vE [zw 0,zw 1]) t m n0 (l.map λw=>.tup [w.1,w.2]) (o1::o2::caps) (h++[.lst acc])=À (h++[.lst (acc++(l.filter λw=>p w.1 w.2).map λw=>f w.1 w.2)])
 | [],acc,_,_,_,_,_=>by simp[yv]
 | (a,b)::l,acc,o1,o2,ht,hf,hl=>by
  have ih:=λEV=>lf (caps:=caps) (t:=t) (m:=m) hn p f l EV Á Á (λw hw=>ht w (zq _ hw)) (λw hw=>hf w (zq _ hw))
  have hb:blank 2 (À a::À b::caps)=Á::Á::caps:=by simp[blank,Æ]
  erw[zz];unfold yv;have hg:vE [zw 0,zw 1] (.tup [a,b]) (o1::o2::caps) (h++[.lst acc])=À (À a::À b::caps,h++[.lst acc]):=by simp[vE,eZ,bnd,zw]
  rw[hg];simp only;rw[ht (a,b) zF];erw[zE] at hl;cases hp:p a b with
  | false=>
   simp only;rw[hb,ih acc ∅];simp[j6,hp]
  | true=>
   simp only;rw[hf (a,b) zF hp];have e1:(h++[MO.lst acc])[n0]?=À (.lst acc):=by rw[<-hn];simp
   have e2:(h++[MO.lst acc]).set n0 (.lst (acc++[f a b]))=h++[.lst (acc++[f a b])]:=by rw[<-hn,qH _ _ (zy _)];simp
   erw[e1];rw[zQ ∅,hb,e2,ih (acc++[f a b]) (by rw[zR];simp;omega)];simp[j6,hp]
def U2{ks:List Nat}{ρ:En}{h:MH}{l:List (W×W)}(p:W->W->Bool)(f:W->W->W)(hm:mi ρ h=À (.items (l.map λw=>.tup [w.1,w.2]),h))(ht:∀w∈l,∀acc,t (À w.1::À w.2::ks.map λk=>(ρ[k]?).join) (h++[.lst acc])=À (p w.1 w.2,h++[.lst acc]))
  (hf:∀w∈l,p w.1 w.2=Â->∀H',m (À w.1::À w.2::ks.map λk=>(ρ[k]?).join) H'=À (f w.1 w.2,H')) (EW:∀w∈l,p w.1 w.2=Â->low h.length (f w.1 w.2)=Â) (hl:l.length<=cap):kz mi 2 ks (vE [zw 0,zw 1]) t m ρ h=À (.fls ((l.filter λw=>p w.1 w.2).map λw=>f w.1 w.2),h):=by
 have e:=lf (caps:=ks.map λk=>(ρ[k]?).join) (t:=t) (m:=m) (h:=h) rfl p f l [] Á Á ht hf (by simpa using hl);unfold kz eU;rw[hm];have er:(Æ 2 (Á:Option W)++ks.map λk=>(ρ[k]?).join)=Á::Á::ks.map λk=>(ρ[k]?).join:=rfl
 simp only;rw[er,e];erw[jb,jf (zy _),uQ,qW];rw[zQ];refine⟨qI _ _,va λw hw=>?_⟩;obtain⟨w',h1,rfl⟩:=zK.mp hw;obtain⟨h2,h3⟩:=jc.mp h1;exact EW w' h2 h3
theorem dW:∀(k l:List Ç),û (k.map .str) (l.map .str)=decide (k=l)
 | [],[]=>by simp[û]
 | [],_::_=>by simp[û]
 | _::_,[]=>by simp[û]
 | x::k,y::l=>by
  erw[zz,û,ò,dW k l];by_cases e:x=y
  .subst e;simp
  .have:(x==y)=Ä:=jB.mpr e
   simp[this,e]
def eF{k:List Ç}(g:ko k=Â):kP deep h (tupS k)=À (.tuple (k.map .str)):=by
 rw[wq (Zt g) (show 2<=deep by decide)];unfold tupS toD;erw[kZ];congr 2
def J9{ks:List (List Ç)}(g:∀k∈ks,ko k=Â):qq (kP deep h) (ks.map tupS)=À (ks.map λk=>.tuple (k.map .str)):=by
 induction ks with
 | nil=>rfl
 | cons k r ih=>
  erw[zz];unfold qq;rw[eF (g k zF),ih λq hq=>g q (zq _ hq)]
def lV{ks:List (List Ç)}(g:ko k=Â)(gs:∀k∈ks,ko k=Â)(hy:qS h y=À (ks.map tupS)):inB h (tupS k) y=À (ks.contains k):=by
 have e3:inB h (tupS k) y=match qS h y with
  | some l=>match kP deep h (tupS k),qq (kP deep h) l with
   | some d,À ds=>À (ds.any λe=>ò e d)
   | _,_=>Á
  | none=>Á:=by unfold inB tupS;rfl
 rw[e3,hy];erw[eF g,J9 gs];congr 1
 rw[uT,List.contains_eq_any_beq];congr 1
 funext x
 show ò (.tuple (x.map .str)) (.tuple (k.map .str))=(k==x)
 erw[ò,dW];by_cases e:x=k
 .subst e;simp
 .have:(k==x)=Ä:=jB.mpr λz=>e z.symm
  simp[this,e]
def jv(ks:List (List Ç))(hs:List Ç)(b:List W):List W:=((hs.zip b).filter λp=>ks.contains ["do",p.1]).map (·.2)
def W6{B:List (List (List Ç))}{rl:List W}{b:List W}(Bo:Bod h B bd)(hB:∀ks∈B,∀k∈ks,ko k=Â)(hi:i<B.length)(OO:i<rl.length)(lr:rl.length<=1000)(e:rl[i]?=À (.tup [.tup ns,.tup (zk hs),body]))(hg:∀x∈hs,ko ["do",x]=Â)(lb:b.length<=1000)(db:∀w∈b,dt n w=Â) :
  (step F).aM [.tup rl,bd,.int (i:Int),.tup b] h=À (.tup (jv B[i] hs b),h):=by
 have ei:∀h,zC (.tup rl) (.int (i:Int)) h=À (.tup [.tup ns,.tup (zk hs),body],h):=λh=>YE ∅ ∅ (by simpa using e)
 have ld:(jv B[i] hs b).length<=1000:=by
  unfold jv;rw[zG];refine zp (jE _ _) ?_;rw[vN];omega
 have dd:∀w∈jv B[i] hs b,dt n w=Â:=λw hw=>by
  unfold jv at hw;obtain⟨p,hp,rfl⟩:=zK.mp hw;exact db _ (qx (jc.mp hp).1).2
 refine qA (n:=n+1) ?_ (uk ld dd);have c2:(2:Nat)<=cap:=by decide
 have gB:=hB B[i] (qY hi);have cm:kz (ar [zd 4,zd 3]) 2 [1,2] (vE [zw 0,zw 1]) (zS (zh (u7 Ä) (ze zo [PN "do",zd 0]) (zh zC (zd 2) (zd 3)))) (zd 1) [À (.tup rl),À bd,À (.int (i:Int)),À (.tup b),À (.tup (zk hs))] h=À (.fls (jv B[i] hs b),h):=by
  have zs:=t6 hs b;refine(U2 (l:=(hs.zip b).map λp=>(W.str p.1,p.2)) (λx y=>match x with | .str v=>B[i].contains ["do",v] | _=>Ä) (λ_ y=>y) ?_ ?_ ?_ ?_ ?_).trans ?_
  .rw[<-zs]
   simp![ar,rO,u3]
  .intro w hw acc
   obtain⟨p,hp,rfl⟩:=zK.mp hw;have h1:=(Bo.more (t:=[.lst acc])).ix hi;have h2:=lV (h:=h++[.lst acc]) (k:=["do",p.1]) (ks:=B[i]) (y:=.fls (B[i].map tupS)) (hg _ (qx hp).1) gB rfl;have h3:tupS ["do",p.1]=.tup [.str "do",.str p.1]:=rfl;rw[h3] at h2;rw[List.contains_eq_mem] at h2;simp![zo,c2,h1,h2]
  .intro w hw _ H';simp![]
  .intro w hw _
   obtain⟨p,hp,rfl⟩:=zK.mp hw;exact wf (db _ (qx hp).2)
  .rw[zG,vN];exact zp (show min hs.length b.length<=1000 by omega) (by decide)
  .rw[wz,kZ]
   rfl
 simp![aW,ei,bq,cm,bS,getL]
noncomputable def jS(rl:List W)(B:List (List (List Ç))):W->List W
 | .tup [.str x,.int i,.tup a,.tup b]=>if x=="call" then a++jv ((B[i.toNat]?).getD []) (match rl[i.toNat]? with
   | some (.tup [_,.tup l,_])=>(strsOf l).getD []
   | _=>[]) b else zD (.tup [.str x,.int i,.tup a,.tup b])
 | w=>zD w
theorem qo(h:Pn w):jS rl B w=zD w:=by
 cases h with
 | mk x r p hc hf hp=>
  unfold jS th;split
  .rename_i x' i a b e
   cases e;rw[zX (by rw[hc];exact zV)]
  .rfl
def Xs{B:List (List (List Ç))}{rl:List W}{H:List Ç}(Bo:Bod h B bd)(hB:∀ks∈B,∀k∈ks,ko k=Â)(hk:k<=B.length)(lr:rl.length<=1000)(hg:∀(i:Nat) (ns:List W) (hs:List Ç) (body:W),rl[i]?=À (.tup [.tup ns,.tup (zk hs),body])->∀x∈hs,ko ["do",x]=Â)(d:dt 60 w=Â)(sh:Sh rl k H w) :
  (step (step F)).aN [.tup rl,bd,w] h=À (.tup (jS rl B w),h):=by
 have eP:=Jp (F:=F) (h:=h) d sh;rcases sh.split with hp | ⟨i,a,b,ns,hs,body,rfl,hi,e⟩
 .rw[qo hp]
  generalize step F=G at eP;have dp:=d9 (n:=59) d;have lp:=fQ d;obtain⟨x,r,p,hc,hf,hq⟩:=hp;refine wm (h':=h) ?_ ?_ (jw _)
  .simp![aQ,u4,vk,hc,eP]
  .unfold low
   exact va λw hw=>wf (dp w hw)
 .have Im:i<B.length:=by omega
  have OO:i<rl.length:=(zu.mp e).1;obtain⟨m,em,hl,hd⟩:=j3 d;cases em;obtain⟨m1,e1,la,da⟩:=j3 (hd (.tup a) (by simp));obtain⟨m2,e2,lb,db⟩:=j3 (hd (.tup b) (by simp));have eH:=W6 (F:=F) (n:=m2) Bo hB Im OO lr e (hg i ns hs body e) lb db;generalize step F=G at eH;have ec:jS rl B (th "call" [.int (i:Int),.tup a,.tup b])=a++jv B[i] hs b:=by
   unfold jS th;erw[jC,je,jo,zM Im,qj,e];rw[show strsOf (zk hs)=À hs from gd hs];rfl
  rw[ec];have ld:(jv B[i] hs b).length<=b.length:=by
   unfold jv;rw[zG];refine zp (jE _ _) ?_;rw[vN];omega
  have ad:∀h,addW (.tup a) (.tup (jv B[i] hs b)) h=À (.tup (a++jv B[i] hs b),h):=λh=>by
   erw[addW,jI];rw[zQ (zp (show a.length+(jv B[i] hs b).length<=2000 by omega) (by decide))]
  have lw:low h.length (.tup (a++jv B[i] hs b))=Â:=by
   unfold low;refine va λw hw=>?_
   rcases zx.mp hw with z | z
   .exact wf (da w z)
   .unfold jv at z
    obtain⟨p,hp,rfl⟩:=zK.mp z;exact wf (db _ (qx (jc.mp hp).1).2)
  generalize a++jv B[i] hs b=Z at ad lw;generalize jv B[i] hs b=Y at eH ad;refine wm (h':=h) ?_ lw (jw _);simp![aQ,u4,bq,sG,YA,vk,eH,ad]
noncomputable def hide(hid:List Ç)(v:Ç):List Ç:=if hid.any (· == v) then hid else hid++[v]
noncomputable def ke(rl:List W)(B:List (List (List Ç)))(w:W)(hid:List Ç):List (W×List Ç):=match w with
 | .tup [.str x,.str v,a,b]=>if x=="own" then [(a,hid),(b,hide hid v)] else (jS rl B w).map λp=>(p,hid)
 | w=>(jS rl B w).map λp=>(p,hid)
noncomputable def encP(p:W×List Ç):W:=.tup [p.1,.tup (zk p.2)]
def CB{hid:List Ç}(ho:hid.all ú=Â)(dv:dt 1 (.str v)=Â)(hl:hid.length<=100):(step F).bD [.tup (zk hid),.str v] h=À (.tup (zk (hide hid v)),h):=by
 have e:=λh=>dA (h:=h) (w:=.str v) (l:=hid) dv ∅ ho
 have e':∀h,inB h (.str v) (.tup (zk hid))=À (hid.any (· == v)):=e;have c1:(1:Nat)<=cap:=by decide
 have ad:∀h,addW (.tup (zk hid)) (.tup [.str v]) h=À (.tup (zk (hid++[v])),h):=λh=>by
  rw[<-gh];erw[addW,jI,zE,kI,qf];rw[zQ (zp (show hid.length+(0+1)<=101 by omega) (by decide))]
 refine wm (h':=h) ?_ ?_ (jw _)
 .unfold hide
  cases q:hid.any (· == v) with
  | true=>simp![bc,e',q]
  | false=>simp![bc,e',q,zo,c1,ad]
 .exact y9 _
theorem y7(hx:(x==("own":Ç))=Ä):ke rl B (th x r) hid=(jS rl B (th x r)).map λp=>(p,hid):=by
 unfold ke th;split
 .rename_i x' v a b e
  cases e;rw[zX (by rw[hx];exact zV)]
 .rfl
structure HidOk(hid:List Ç):Prop where
 nd:hid.Nodup
 pq:∀v∈hid,v="p" \/ v="q"
theorem gL{α:Type}[DecidableEq α]:∀{l m:List α},l.Nodup->(∀x∈l,x∈m)->l.length<=m.length
 | [],_,_,_=>j9 _
 | x::l,m,n,h=>by
  obtain⟨n1,n2⟩:=jL.mp n;have hx:=h x zF;have ih:=gL (m:=m.erase x) n2 λy hy=>by
   have ne:y≠x:=λe=>by subst e;exact n1 hy
   exact(uW ne).mpr (h y (zq _ hy))
  rw[uy hx] at ih;have:0<m.length:=uM hx;erw[zE];omega
def HidOk.len{hid:List Ç}(h:HidOk hid):hid.length<=2:=gL (m:=[("p":Ç),"q"]) h.nd λv hv=>by rcases h.pq v hv with rfl | rfl<;>simp
theorem xl(x:Ç)(p:Int×Int)(hc:(x==("call":Ç))=Ä)(hf:fm x=À p)(r:List W)(hr:r.filter (tyB .tuple)=r.drop (p.2.toNat-1)):Pn (th x r):=by
 refine .mk x r p hc hf ?_;erw[zD,hc,hf,hr];rfl
def HidOk.ok{hid:List Ç}(h:HidOk hid):hid.all ú=Â:=kE.mpr λv hv=>by rcases h.pq v hv with rfl | rfl<;>decide +kernel
theorem HidOk.hide{hid:List Ç}(h:HidOk hid){v:Ç}(hv:v="p" \/ v="q"):HidOk (hide hid v):=by
 unfold K32.hide;split
 .exact h
 .rename_i q
  refine⟨?_,λu hu=>?_⟩
  .rw[xx]
   refine⟨h.nd,by simp,λa ha b hb e=>?_⟩;rw[jl] at hb;subst hb;subst e;exact q (yq.mpr ⟨a,ha,by simp⟩)
  .rcases zx.mp hu with z | z
   .exact h.pq u z
   .rw[jl.mp z];exact hv
def Kt{b:List W}:(∀p∈jv ks hs b,p∈b)/\(jv ks hs b).length<=b.length:=by
 unfold jv;refine⟨λp hp=>?_,?_⟩
 .obtain⟨q,hq,rfl⟩:=zK.mp hp
  exact(qx (jc.mp hq).1).2
 .rw[zG]
  refine zp (jE _ _) ?_;rw[vN];omega
def mC{a b:List W}:(∀p∈jS rl B (th "call" [.int (i:Int),.tup a,.tup b]),p∈a++b)/\(jS rl B (th "call" [.int (i:Int),.tup a,.tup b])).length<=a.length+b.length:=by
 unfold jS th;erw[jC,je]
 have:=Kt (ks:=(B[(i:Int).toNat]?).getD []) (hs:=match rl[(i:Int).toNat]? with
   | some (.tup [_,.tup l,_])=>(strsOf l).getD []
   | _=>[]) (b:=b)
 refine⟨λp hp=>?_,by rw[zR];exact Nat.add_le_add_left this.2 _⟩;rcases zx.mp hp with z | z
 .exact zx.mpr (.inl z)
 .exact zx.mpr (.inr (this.1 p z))
structure Env0(rl:List W)(B:List (List (List Ç)))(k:Nat):Prop where
 lr:rl.length<=1000
 kB:k<=B.length
 len:∀ks∈B,ks.length<=60
 good:∀ks∈B,∀k∈ks,ko k=Â
 ne:∀ks∈B,∀k∈ks,k≠[]
 hg:∀(i:Nat) (ns:List W) (hs:List Ç) (body:W),rl[i]?=À (.tup [.tup ns,.tup (zk hs),body])->∀x∈hs,ko ["do",x]=Â
def Fj{H:List Ç}(E0:Env0 rl B k)(Bo:Bod h B bd)(d:dt 60 w=Â)(sh:Sh rl k H w)(ho:HidOk hid) :
  (step (step (step F))).aG [.tup rl,bd,w,.tup (zk hid)] h=À (.fls ((ke rl B w hid).map encP),h):=by
 have eC:=Xs (F:=F) Bo E0.good E0.kB E0.lr E0.hg d sh;have eH:=λ(v:Ç) (dv:dt 1 (.str v)=Â) h=>CB (F:=step F) (h:=h) ho.ok dv (zp ho.len ∅)
 generalize step (step F)=G at eC eH;have Hc:∀(p:W) (hd:List Ç),low h.length p=Â->low h.length (encP (p,hd))=Â:=λp hd hp=>by
  unfold encP low;refine va λw hw=>?_
  erw[zg,zA,kO] at hw;rcases hw with rfl | rfl
  .exact hp
  .exact y9 _
 have c2:(2:Nat)<=cap:=by decide
 have plain:∀(x:Ç) (r:List W),w=th x r->(x==("own":Ç))=Ä->(∀p∈jS rl B w,low h.length p=Â)->(jS rl B w).length<=2000->gc (kQ 4 0 (aA G)) [.tup rl,bd,w,.tup (zk hid)] h=À (.fls ((ke rl B w hid).map encP),h):=by
  intro x r ew hx lp ll;have OP:ke rl B w hid=(jS rl B w).map λp=>(p,hid):=by subst ew;exact y7 hx
  refine wm (h':=h) ?_ ?_ (jw _)
  .have cm:kz (kF (ze G.aN [zd 0,zd 1,zd 2])) 1 [3] (zw 0) qv (ze zo [zd 0,zd 1]) [À (.tup rl),À bd,À w,À (.tup (zk hid))] h=À (.fls ((ke rl B w hid).map encP),h):=by
    refine(eM (l:=jS rl B w) (λ_=>Â) (λp=>.tup [p,.tup (zk hid)]) ?_ ?_ ?_ ?_ ?_).trans ?_
    .simp![kF,eC,srcOf]
    .intro p _ H';rfl
    .intro p hp _ H';simp![zo,c2]
    .intro p hp _;exact Hc p hid (lp p hp)
    .exact zp ll (by decide)
    .rw[filter_true,OP,kZ];rfl
   subst ew;generalize (ke rl B (th x r) hid).map encP=Z at cm;simp![aA,u4,vk,hx,cm]
  .rw[OP,kZ]
   unfold low;refine va λz hz=>?_
   obtain⟨p,hp,rfl⟩:=zK.mp hz;exact Hc p hid (lp p hp)
 have OQ:=d9 (n:=59) d;have Nn:=fQ d;show gc (kQ 4 0 (aA G)) [.tup rl,bd,w,.tup (zk hid)] h=_
 have pn:∀(x:Ç) (r:List W),w=th x r->(x==("own":Ç))=Ä->Pn w->gc (kQ 4 0 (aA G)) [.tup rl,bd,w,.tup (zk hid)] h=À (.fls ((ke rl B w hid).map encP),h):=λx r ew hx p=>by
  refine plain x r ew hx ?_ ?_<;>rw[qo p]
  .exact λp hp=>wf (OQ p hp)
  .exact Nn
 cases sh with
 | number i=>exact pn _ _ rfl ⋯ (xl _ (2,2) ⋯ ⋯ _ (by simp[tyB]))
 | name v=>exact pn _ _ rfl ⋯ (xl _ (2,2) ⋯ ⋯ _ (by simp[tyB]))
 | read v hv=>exact pn _ _ rfl ⋯ (xl _ (2,2) ⋯ ⋯ _ (by simp[tyB]))
 | doo v hv=>exact pn _ _ rfl ⋯ (xl _ (2,2) ⋯ ⋯ _ (by simp[tyB]))
 | ask=>exact pn _ _ rfl ⋯ (xl _ (1,1) ⋯ ⋯ _ (by simp))
 | write v hv a=>exact pn _ _ rfl ⋯ (xl _ (3,2) ⋯ ⋯ _ (by simp[tyB]))
 | say a=>exact pn _ _ rfl ⋯ (xl _ (2,1) ⋯ ⋯ _ (by simp[tyB]))
 | lett v a b=>exact pn _ _ rfl ⋯ (xl _ (4,2) ⋯ ⋯ _ (by simp[tyB]))
 | add a b=>exact pn _ _ rfl ⋯ (xl _ (3,1) ⋯ ⋯ _ (by simp[tyB]))
 | less a b=>exact pn _ _ rfl ⋯ (xl _ (3,1) ⋯ ⋯ _ (by simp[tyB]))
 | thenn a b=>exact pn _ _ rfl ⋯ (xl _ (3,1) ⋯ ⋯ _ (by simp[tyB]))
 | loop a b=>exact pn _ _ rfl ⋯ (xl _ (3,1) ⋯ ⋯ _ (by simp[tyB]))
 | iff a b c=>exact pn _ _ rfl ⋯ (xl _ (4,1) ⋯ ⋯ _ (by simp[tyB]))
 | call i a b hi ns hs body e lb=>
  have sub:=mC (rl:=rl) (B:=B) (i:=i) (a:=a) (b:=b);refine plain _ _ rfl ⋯ (λp hp=>?_) ?_
  .have:=sub.1 p hp
   rw[<-wa (i:Int)] at this;exact wf (OQ p this)
  .have:=sub.2
   rw[wa] at Nn;rw[zR] at Nn;omega
 | own v hv a b=>
  obtain⟨m,em,hl,hd⟩:=j3 d;cases em;have dv:dt 1 (.str v)=Â:=by
   have:ú v=Â/\v.length<=1000:=by rcases hv with rfl | rfl<;>decide +kernel
   unfold dt;rw[zr];exact⟨this.1,kJ this.2⟩
  have e2:=eH v dv;have ew:ke rl B (th "own" [.str v,.tup a,.tup b]) hid=[(.tup a,hid),(.tup b,hide hid v)]:=by
   erw[ke,th,jC,je]
  rw[ew];refine wm (h':=h) ?_ ?_ (jw _)
  .generalize hide hid v=Nm at e2
   simp![aA,u4,bq,sG,YA,vk,e2,zo,kG,c2,encP]
  .unfold low
   refine va λz hz=>?_
   erw[zz,kY,zg,zA,kO] at hz;rcases hz with rfl | rfl
   .exact Hc _ _ (wf (hd (.tup a) (by simp)))
   .exact Hc _ _ (wf (hd (.tup b) (by simp)))
def xE(k:List Ç):Ç:=k.getLastD ""
noncomputable def qk(hid:List Ç)(k:List Ç):Bool:=hid.any (· == xE k)
noncomputable def xp(hid:List Ç)(F:List (List Ç))(ks:List (List Ç)):List (List Ç):=ks.foldl (λF k=>if qk hid k then F else yA F k) F
def Yg:x∈yA F k↔x∈F\/x=k:=by
 unfold yA;split
 .rename_i q
  refine⟨.inl,λh=>h.elim id λe=>by subst e;exact q⟩
 .simp
theorem mem_addAll:∀{ks F:List (List Ç)},x∈xp hid F ks↔x∈F\/(x∈ks/\qk hid x=Ä)
 | [],F=>by simp[xp]
 | k::ks,F=>by
  have ih:=mem_addAll (hid:=hid) (x:=x) (ks:=ks) (F:=if qk hid k then F else yA F k);have e:xp hid F (k::ks)=xp hid (if qk hid k then F else yA F k) ks:=rfl;rw[e,ih];cases q:qk hid k with
  | true=>
   erw[je,zg];constructor
   .rintro(h | ⟨h,z⟩)
    .exact .inl h
    .exact .inr ⟨.inr h,z⟩
   .rintro(h | ⟨rfl | h,z⟩)
    .exact .inl h
    .rw[q] at z;cases z
    .exact .inr ⟨h,z⟩
  | false=>
   erw[zO,ju,Yg,zg];constructor
   .rintro((h | rfl) | ⟨h,z⟩)
    .exact .inl h
    .exact .inr ⟨.inl rfl,q⟩
    .exact .inr ⟨.inr h,z⟩
   .rintro(h | ⟨rfl | h,z⟩)
    .exact .inl (.inl h)
    .exact .inl (.inr rfl)
    .exact .inr ⟨h,z⟩
theorem oC:∀{ks F:List (List Ç)},F.Nodup->(xp hid F ks).Nodup
 | [],F,n=>n
 | k::ks,F,n=>by
  have e:xp hid F (k::ks)=xp hid (if qk hid k then F else yA F k) ks:=rfl;rw[e];refine oC ?_;split
  .exact n
  .exact my n
theorem last_eq(x:Ç)(r:List Ç):xE (x::r)=(x::r).getLast (by simp):=by
 unfold xE;rw[List.getLastD_eq_getLast?,List.getLast?_eq_some_getLast (by simp)];rfl
def Xi(hk:k≠[]):∀h,zC (tupS k) (.int (-1)) h=À (.str (xE k),h):=by
 intro h;obtain⟨x,r,rfl⟩:∃x r,k=x::r:=by
  cases k with
  | nil=>exact absurd rfl hk
  | cons x r=>exact⟨x,r,rfl⟩
 have e4:((x::r).map W.str)[r.length]?=À (.str (xE (x::r))):=by
  rw[kh,last_eq,List.getLast_eq_getElem];simp
 have e:atI ((x::r).map W.str) (-1)=À (.str (xE (x::r))):=by
  have n:y0 ((x::r).map W.str).length (-1)=À r.length:=by
   unfold y0;simp;omega
  unfold atI;rw[n];exact e4
 unfold tupS zC;erw[e]
abbrev ρm(r b d:W)(n:Nat)(o5 o6:Option W):En:=[À r,À b,À d,À (.ref n),À (.ref (n+1)),o5,o6]
theorem pk{h0:MH}(ho:HidOk hid):∀(ks F:List (List Ç)) (o6:Option W),(∀k∈ks,ko k=Â/\k≠[])->F.length+ks.length<800->
  ∃He,forL (zw 6) ZG (ks.map tupS) (ρm r b d h0.length (À (encP (p,hid))) o6) (h0++[.tdc F,.lst s])=À (.nx (ρm r b d h0.length (À (encP (p,hid))) He),h0++[.tdc (xp hid F ks),.lst s])
 | [],F,o6,_,_=>⟨o6,by simp[forL,xp]⟩
 | k::ks,F,o6,hk,hl=>by
  obtain⟨g,ne⟩:=hk k zF;erw[zE] at hl;have hF:(if qk hid k then F else yA F k).length<=F.length+1:=by
   split
   .omega
   .unfold yA;split
    .omega
    .simp
  obtain⟨He,ih⟩:=pk (r:=r) (b:=b) (d:=d) (p:=p) (h0:=h0) (s:=s) ho ks (if qk hid k then F else yA F k) (À (tupS k)) (λq hq=>hk q (zq _ hq)) ∅;refine⟨He,?_⟩;have hg:zw 6 (tupS k) (ρm r b d h0.length (À (encP (p,hid))) o6) (h0++[.tdc F,.lst s])=À (ρm r b d h0.length (À (encP (p,hid))) (À (tupS k)),h0++[.tdc F,.lst s]):=by simp[zw]
  have dl:dt 1 (.str (xE k))=Â:=by
   unfold ko at g;rw[zr] at g;obtain⟨x,q,rfl⟩:∃x q,k=x::q:=by
    cases k with
    | nil=>exact absurd rfl ne
    | cons x q=>exact⟨x,q,rfl⟩
   have hm:xE (x::q)∈x::q:=by
    rw[last_eq];exact List.getLast_mem _
   exact kE.mp g.2 _ hm
  have li:=Xi ne (h0++[.tdc F,.lst s]);have ii:zC (encP (p,hid)) (.int 1) (h0++[.tdc F,.lst s])=À (.tup (zk hid),h0++[.tdc F,.lst s]):=bq;have ib:inB (h0++[.tdc F,.lst s]) (.str (xE k)) (.tup (zk hid))=À (qk hid k):=dA (w:=.str (xE k)) (l:=hid) dl ∅ ho.ok;have pt:tW (.ref h0.length) (tupS k) (.bl Â) (h0++[.tdc F,.lst s])=À (.non,h0++[.tdc (yA F k),.lst s]):=by
   have e1:(h0++[.tdc F,.lst s])[h0.length]?=À (.tdc F):=by simp
   have e2:(h0++([.tdc F,.lst s]:MH)).set h0.length (.tdc (yA F k))=h0++[.tdc (yA F k),.lst s]:=by
    rw[qH _ _ (zy _)];simp
   unfold tW;erw[e1,x4];rw[zQ ∅,e2]
  have bd:ZG (ρm r b d h0.length (À (encP (p,hid))) (À (tupS k))) (h0++[.tdc F,.lst s])=À (.nx (ρm r b d h0.length (À (encP (p,hid))) (À (tupS k))),h0++[.tdc (if qk hid k then F else yA F k),.lst s]):=by
   generalize tupS k=tk at li pt;generalize encP (p,hid)=pp at ii;cases q:qk hid k with
   | true=>
    rw[q] at ib;simp![ZG,nQ,li,ii,ib]
   | false=>
    rw[q] at ib;simp![ZG,nQ,li,ii,ib,pP,pt]
  erw[zz];unfold forL;rw[hg];erw[bd];exact ih
noncomputable def mk(rl:List W)(B:List (List (List Ç))):Nat->W->List (List Ç)
 | 0,_=>[]
 | n+1,w=>itself B w++(ke rl B w []).flatMap λp=>(mk rl B n p.1).filter λk=>!qk p.2 k
def pd{H:List Ç}(sh:Sh rl k H w):∀p∈jS rl B w,p∈zD w:=by
 rcases sh.split with hp | ⟨i,a,b,ns,hs,body,rfl,hi,e⟩
 .rw[qo hp];exactλp hp=>hp
 .rw[wa];exact mC.1
def bE{H:List Ç}(sh:Sh rl k H w)(ho:HidOk hid):∀p∈ke rl B w hid,p.1∈zD w/\HidOk p.2:=by
 have pl:∀(x:Ç) (r:List W),w=th x r->(x==("own":Ç))=Ä->∀p∈ke rl B w hid,p.1∈zD w/\HidOk p.2:=by
  intro x r e hx p hp;have e2:ke rl B w hid=(jS rl B w).map λp=>(p,hid):=by subst e;exact y7 hx
  rw[e2] at hp;obtain⟨q,hq,rfl⟩:=zK.mp hp;exact⟨pd sh q hq,ho⟩
 have Td:=sh;cases sh with
 | own v hv a b=>
  intro p hp;have e:ke rl B (th "own" [.str v,.tup a,.tup b]) hid=[(.tup a,hid),(.tup b,hide hid v)]:=by
   erw[ke,th,jC,je]
  rw[e] at hp;have ep:zD (th "own" [.str v,.tup a,.tup b])=[.tup a,.tup b]:=by
   have h1:(("own":Ç)=="call")=Ä:=by decide +kernel
   have h2:fm "own" = À (4,2):=by decide +kernel
   erw[zD,h1,h2];rfl
  rw[ep];erw[zg,zA,kO] at hp;rcases hp with rfl | rfl
  .exact⟨by simp,ho⟩
  .exact⟨by simp,ho.hide hv⟩
 | _=>exact pl _ _ rfl ⋯
theorem ZJ(k:List Ç):qk [] k=Ä:=rfl
def VZ:qk (hide hid v) k=(qk hid k||qk (hide [] v) k):=by
 unfold qk hide;by_cases q:(hid.any (· == v))=Â
 .rw[zQ q]
  erw[List.any_nil,zO,ju,jb,wu,uH];obtain⟨u,hu,e⟩:=yq.mp q;have e:=eq_of_beq e;subst e;cases z:(u==xE k) with
  | false=>simp
  | true=>
   rw[Bool.or_true];exact yq.mpr ⟨u,hu,z⟩
 .rw[zX q]
  simp[List.any_append]
def Ja{rl:List W}{B:List (List (List Ç))}{w:W}{hid:List Ç}{f:W->List (List Ç)}{x:List Ç}:(∃p∈ke rl B w hid,x∈f p.1/\qk p.2 x=Ä)↔(∃p∈ke rl B w [],x∈f p.1/\qk p.2 x=Ä)/\qk hid x=Ä:=by
 unfold ke;split
 .rename_i y v a b
  split
  .erw[zg,zA,kO,exists_eq_or_imp,exists_eq_left,ZJ]
   rw[VZ (hid:=hid)];cases qk hid x<;>simp
  .erw[zK]
   constructor
   .rintro⟨p,⟨q,hq,rfl⟩,h1,h2⟩
    exact⟨⟨(q,[]),⟨q,hq,rfl⟩,h1,rfl⟩,h2⟩
   .rintro⟨⟨p,⟨q,hq,rfl⟩,h1,_⟩,h2⟩
    exact⟨(q,hid),⟨q,hq,rfl⟩,h1,h2⟩
 .erw[zK]
  constructor
  .rintro⟨p,⟨q,hq,rfl⟩,h1,h2⟩
   exact⟨⟨(q,[]),⟨q,hq,rfl⟩,h1,rfl⟩,h2⟩
  .rintro⟨⟨p,⟨q,hq,rfl⟩,h1,_⟩,h2⟩
   exact⟨(q,hid),⟨q,hq,rfl⟩,h1,h2⟩
def mem_mk:x∈mk rl B (n+1) w↔x∈itself B w\/∃p∈ke rl B w [],x∈mk rl B n p.1/\qk p.2 x=Ä:=by
 have e:mk rl B (n+1) w=itself B w++(ke rl B w []).flatMap λp=>(mk rl B n p.1).filter λk=>!qk p.2 k:=rfl
 rw[e,zx,v8];erw[jc,qP]
def seen{rl:List W}{B:List (List (List Ç))}{n:Nat}{w:W}{hid:List Ç}{x:List Ç}:(x∈mk rl B (n+1) w/\qk hid x=Ä)↔(x∈itself B w/\qk hid x=Ä)\/∃p∈ke rl B w hid,x∈mk rl B n p.1/\qk p.2 x=Ä:=by
 rw[Ja (hid:=hid) (f:=mk rl B n),mem_mk];constructor
 .rintro⟨h | h,z⟩
  .exact .inl ⟨h,z⟩
  .exact .inr ⟨h,z⟩
 .rintro(⟨h,z⟩ | ⟨h,z⟩)
  .exact⟨.inl h,z⟩
  .exact⟨.inr h,z⟩
theorem Zy{H:List Ç}:∀{n m:Nat} {w:W},okd rl k H n w->n<=m->mk rl B m w=mk rl B n w
 | 0,_,_,h,_=>by cases h
 | n+1,0,_,_,h=>by omega
 | n+1,m+1,w,h,hn=>by
  show itself B w++_=itself B w++_
  congr 1
  have:∀p∈ke rl B w [],(λp:W×List Ç=>(mk rl B m p.1).filter λk=>!qk p.2 k) p=(λp:W×List Ç=>(mk rl B n p.1).filter λk=>!qk p.2 k) p:=λp hp=>by
   have AK:=(bE h.1 ⟨q8,nofun⟩ p hp).1;show(mk rl B m p.1).filter _=(mk rl B n p.1).filter _
   rw[Zy (h.2 p.1 AK) ∅]
  rw[yo,yo,qy this]
def Jn{H:List Ç}(sh:Sh rl k H w):((ke rl B w hid).map λp=>cnt n p.1).sum<=((zD w).map (cnt n)).sum:=by
 have sub:∀{l m:List W},l.Sublist m->(l.map (cnt n)).sum<=(m.map (cnt n)).sum:=by
  intro l m s;induction s with
  | slnil=>exact zy _
  | cons a _ ih=>erw[zz,wj];omega
  | cons_cons a _ ih=>erw[zz,wj];omega
 have Np:∀(ks:List (List Ç)) (hs:List Ç) (b:List W),(jv ks hs b).Sublist b:=by
  intro ks hs b;unfold jv;have h1:(((hs.zip b).filter λp=>ks.contains ["do",p.1]).map (·.2)).Sublist ((hs.zip b).map (·.2)):=yM.map _;have h2:((hs.zip b).map (·.2)).Sublist b:=by
   have:(hs.zip b).map (·.2)=b.take hs.length:=by
    clear h1;induction hs generalizing b with
    | nil=>simp
    | cons x hs ih=>
     cases b with
     | nil=>simp
     | cons y b=>
      erw[yS,zz,zE,List.take_succ_cons];rw[ih b]
   rw[this];exact xu _ _
  exact h1.trans h2
 have Nq:(jS rl B w).Sublist (zD w):=by
  rcases sh.split with hp | ⟨i,a,b,ns,hs,body,rfl,hi,e⟩
  .rw[qo hp];exact List.Sublist.refl _
  .rw[wa]
   unfold jS th;erw[jC,je];exact List.Sublist.append (List.Sublist.refl _) (Np _ _ _)
 have pl:∀(x:Ç) (r:List W),w=th x r->(x==("own":Ç))=Ä->((ke rl B w hid).map λp=>cnt n p.1).sum<=((zD w).map (cnt n)).sum:=by
  intro x r e hx;have e2:ke rl B w hid=(jS rl B w).map λp=>(p,hid):=by subst e;exact y7 hx
  rw[e2,kZ];exact sub Nq
 cases sh with
 | own v hv a b=>
  have e:ke rl B (th "own" [.str v,.tup a,.tup b]) hid=[(.tup a,hid),(.tup b,hide hid v)]:=by
   erw[ke,th,jC,je]
  have ep:zD (th "own" [.str v,.tup a,.tup b])=[.tup a,.tup b]:=by
   have h1:(("own":Ç)=="call")=Ä:=by decide +kernel
   have h2:fm "own" = À (4,2):=by decide +kernel
   erw[zD,h1,h2];rfl
  rw[e,ep];exact zy _
 | _=>exact pl _ _ rfl ⋯
def uni(H:List Ç):List (List Ç):=(six.flatMap λv=>[[("read":Ç),v],["write",v]])++[[("say":Ç)],["ask"]]++H.map λv=>[("do":Ç),v]
def ZF(H:List Ç):(uni H).length=14+H.length:=by
 unfold uni;rw[zR,zR,zG];have:(six.flatMap λv=>[[("read":Ç),v],["write",v]]).length=12:=by decide +kernel
 rw[this];simp
def Vk(H:List Ç):Prop:=∀v∈H,pl 1 (.str v)=Â
def gq{x:Ç}(h1:ú x=Â/\x.length<=1000)(h2:pl 1 (.str v)=Â):ko [x,v]=Â:=by
 unfold ko;rw[zr];refine⟨kJ (by simp),?_⟩;erw[jP,List.all_nil,Bool.and_true];rw[zr,zr];exact⟨⟨h1.1,kJ h1.2⟩,h2⟩
def Vn:∀v∈six,pl 1 (.str v)=Â:=by decide +kernel
def dR{H:List Ç}(wH:Vk H):∀k∈uni H,ko k=Â/\k≠[]:=by
 intro k hk;unfold uni at hk;rcases zx.mp hk with hk | hk
 .rcases zx.mp hk with hk | hk
  .obtain⟨v,hv,hk⟩:=v8.mp hk
   erw[zg,zA,kO] at hk;rcases hk with rfl | rfl
   .exact⟨gq ⋯ (Vn v hv),by simp⟩
   .exact⟨gq ⋯ (Vn v hv),by simp⟩
  .erw[zg,zA,kO] at hk
   rcases hk with rfl | rfl<;>exact⟨by decide +kernel,by simp⟩
 .obtain⟨v,hv,rfl⟩:=zK.mp hk
  exact⟨gq ⋯ (wH v hv),by simp⟩
def lT(B:List (List (List Ç)))(k:Nat)(H:List Ç):Prop:=∀(i:Nat) (ks:List (List Ç)),i<k->B[i]?=À ks->∀x∈ks,be x=Â->x∈uni H
def K4{H:List Ç}(hU:lT B k H)(sh:Sh rl k H w):∀x∈itself B w,x∈uni H:=by
 have OS:∀v∈six,[("read":Ç),v]∈uni H/\[("write":Ç),v]∈uni H:=λv hv=>by
  unfold uni;constructor
  .exact zx.mpr (.inl (zx.mpr (.inl (v8.mpr ⟨v,hv,by simp⟩))))
  .exact zx.mpr (.inl (zx.mpr (.inl (v8.mpr ⟨v,hv,by simp⟩))))
 have sy:[("say":Ç)]∈uni H/\[("ask":Ç)]∈uni H:=by
  unfold uni;exact⟨zx.mpr (.inl (zx.mpr (.inr (by simp)))),zx.mpr (.inl (zx.mpr (.inr (by simp))))⟩
 intro x hx;have l3:∀y:Ç,kU ["read","write","do"] (.str y)=Â->∀v r,itself B (th y (.str v::r))=[[y,v]]:=λy q v r=>by erw[th,itself,q,je]
 have l0:∀y:Ç,kU ["read","write","do"] (.str y)=Ä->kU ["say","ask"] (.str y)=Ä->(y==("call":Ç))=Ä->∀r,itself B (th y r)=[]:=λy q q2 q4 r=>by erw[th,itself,q,q2,q4,zO,ju]
 have l2:∀y:Ç,kU ["read","write","do"] (.str y)=Ä->kU ["say","ask"] (.str y)=Â->∀r,itself B (th y r)=[[y]]:=λy q q2 r=>by erw[th,itself,q,q2,je,zO,ju]
 cases sh with
 | read v hv=>rw[l3 _ ⋯] at hx;rw[jl.mp hx];exact(OS v hv).1
 | write v hv a=>rw[l3 _ ⋯] at hx;rw[jl.mp hx];exact(OS v hv).2
 | doo v hv=>
  rw[l3 _ ⋯] at hx;rw[jl.mp hx];unfold uni;exact zx.mpr (.inr (zK.mpr ⟨v,hv,rfl⟩))
 | say a=>rw[l2 _ ⋯ ⋯] at hx;rw[jl.mp hx];exact sy.1
 | ask=>rw[l2 _ ⋯ ⋯] at hx;rw[jl.mp hx];exact sy.2
 | call i a b hi ns hs body e lb=>
  have e1:itself B (th "call" [.int (i:Int),.tup a,.tup b])=((B[i]?).getD []).filter be:=by
   erw[th,itself,show kU ["read","write","do"] (.str "call")=Ä by decide +kernel,show kU ["say","ask"] (.str "call")=Ä by decide +kernel,jC,je,zO,ju,jo]
  rw[e1] at hx;obtain⟨h1,h2⟩:=jc.mp hx;cases q:B[i]? with
  | none=>rw[q] at h1;simp at h1
  | some ks=>rw[q] at h1;exact hU i ks hi q x h1 h2
 | number i=>rw[l0 _ ⋯ ⋯ ⋯] at hx;simp at hx
 | name v=>rw[l0 _ ⋯ ⋯ ⋯] at hx;simp at hx
 | lett v a b=>rw[l0 _ ⋯ ⋯ ⋯] at hx;simp at hx
 | own v hv a b=>rw[l0 _ ⋯ ⋯ ⋯] at hx;simp at hx
 | add a b=>rw[l0 _ ⋯ ⋯ ⋯] at hx;simp at hx
 | less a b=>rw[l0 _ ⋯ ⋯ ⋯] at hx;simp at hx
 | thenn a b=>rw[l0 _ ⋯ ⋯ ⋯] at hx;simp at hx
 | loop a b=>rw[l0 _ ⋯ ⋯ ⋯] at hx;simp at hx
 | iff a b c=>rw[l0 _ ⋯ ⋯ ⋯] at hx;simp at hx
theorem Bu(F:Fs):bI F=zl (zI mz (zw 3)) (zl (zI (ze dY [ze zo [zd 2,ze zo []]]) (zw 4)) (zl (ck zT (zB F)) (kf (ze uS [zd 3])))):=rfl
def at1{α:Type}(h:List α)(o p:α):(h++[o,p])[h.length+1]?=À p:=by rw[jf ∅];simp
def BA{α:Type}(h:List α)(o p q:α):(h++[o,p]).set (h.length+1) q=h++[o,q]:=by rw[qH _ _ ∅];simp
def K5{G:Fs}{h0:MH}{H:List Ç}(E0:Env0 rl B k)(hU:lT B k H)(wH:Vk H)(lH:H.length<=20)(Bo:Bod h0 B bd)
  (e1:∀(w:W) (h:MH),Bod h B bd->dt 60 w=Â->Sh rl k H w->G.aD [bd,w] h=À (.fls ((itself B w).map tupS),h))
  (e2:∀(w:W) (hid:List Ç) (h:MH),Bod h B bd->dt 60 w=Â->Sh rl k H w->HidOk hid->G.aG [.tup rl,bd,w,.tup (zk hid)] h=À (.fls ((ke rl B w hid).map encP),h)) :
  ∀(T:Nat) (s:List (W×List Ç)) (F:List (List Ç)) (o5 o6:Option W),(∀p∈s,dt 60 p.1=Â/\okd rl k H N p.1/\HidOk p.2)->(s.map λp=>cnt N p.1).sum<=T->T<=100000->F.Nodup->(∀x∈F,x∈uni H)->
   ∃F' p5 p6,vw zT (zB G) (T+1) (ρm (.tup rl) bd d0 h0.length o5 o6) (h0++[.tdc F,.lst (s.reverse.map encP)])=À (.nx (ρm (.tup rl) bd d0 h0.length p5 p6),h0++[.tdc F',.lst []])/\F'.Nodup/\(∀x∈F',x∈uni H)/\∀x,x∈F'↔x∈F\/∃p∈s,x∈mk rl B N p.1/\qk p.2 x=Ä:=by
 intro T;induction T with
 | zero=>
  intro s F o5 o6 hs ht hT nF uF;cases s with
  | nil=>
   have t:zT (ρm (.tup rl) bd d0 h0.length o5 o6) (h0++[.tdc F,.lst []])=À (Ä,h0++[.tdc F,.lst []]):=by
    simp![zT,kK,getL,at1,vv]
   refine⟨F,o5,o6,?_,nF,uF,λx=>by simp⟩;erw[xW,kY];unfold vw;rw[t]
  | cons p r=>
   exfalso;erw[zz,wj] at ht;obtain⟨_,o,_⟩:=hs p zF;cases N with
   | zero=>cases o
   | succ N=>have:=Z3 (n:=N) (w:=p.1);omega
 | succ T ih=>
  intro s F o5 o6 hs ht hT nF uF;cases s with
  | nil=>
   have t:zT (ρm (.tup rl) bd d0 h0.length o5 o6) (h0++[.tdc F,.lst []])=À (Ä,h0++[.tdc F,.lst []]):=by
    simp![zT,kK,getL,at1,vv]
   refine⟨F,o5,o6,?_,nF,uF,λx=>by simp⟩;erw[xW,kY];unfold vw;rw[t]
  | cons p r=>
   obtain⟨d,o,ho⟩:=hs p zF;cases N with
   | zero=>cases o
   | succ N=>
   obtain⟨w,hid⟩:=p;simp only at d o ho;have sh:=o.1;let F1:=xp hid F (itself B w)
   let s1:=(ke rl B w hid).reverse++r
   have uI:=K4 hU sh;have u1:∀x∈F1,x∈uni H:=λx hx=>(mem_addAll.mp hx).elim (uF x) λz=>uI x z.1
   have Hy:∀p∈s1,dt 60 p.1=Â/\okd rl k H (N+1) p.1/\HidOk p.2:=by
    intro q hq;rcases zx.mp hq with z | z
    .obtain⟨z1,z2⟩:=bE sh ho q (xX.mp z)
     exact⟨vi (d9 (n:=59) d q.1 z1) ∅,fY (o.2 q.1 z1) (qR _),z2⟩
    .exact hs q (zq _ z)
   have Nr:(s1.map λp=>cnt (N+1) p.1).sum<=T:=by
    erw[zz,wj] at ht;have e:cnt (N+1) w=1+((zD w).map (cnt (N+1))).sum:=by
     conv=>lhs;unfold cnt
     rw[gA λp hp=>(tj (o.2 p hp) (qR N)).symm]
    have:=Jn (rl:=rl) (B:=B) (hid:=hid) (n:=N+1) sh;rw[qz,List.sum_append,List.map_reverse,List.sum_reverse];omega
   have lF:F.length<=34:=zp (gL nF uF) (by rw[ZF];omega);have lI:(itself B w).length<=60:=by
    have pl:(itself B w).length<=1\/∃ks∈B,(itself B w).length<=ks.length:=by
     unfold itself;split
     .split
      .split<;>simp
      .split
       .simp
       .split
        .split
         .rename_i i _
          cases q:B[i.toNat]? with
          | none=>simp
          | some ks=>exact .inr ⟨ks,jz q,by simp[jE]⟩
         .simp
        .simp
     .simp
    rcases pl with z | ⟨ks,hk,z⟩
    .omega
    .exact zp z (E0.len ks hk)
   obtain⟨He,ef⟩:=pk (r:=.tup rl) (b:=bd) (d:=d0) (p:=w) (h0:=h0) (s:=r.reverse.map encP) ho (itself B w) F o6 (λx hx=>dR wH x (uI x hx)) ∅;obtain⟨F',p5,p6,ew,n1,n2,n3⟩:=ih s1 F1 (À (encP (w,hid))) He Hy Nr ∅ (oC nF) u1;refine⟨F',p5,p6,?_,n1,n2,λx=>?_⟩
   .have hl:(0:Int)<(r.length:Int)+1:=by omega
    have t:zT (ρm (.tup rl) bd d0 h0.length o5 o6) (h0++[.tdc F,.lst (((w,hid)::r).reverse.map encP)])=À (Â,h0++[.tdc F,.lst (((w,hid)::r).reverse.map encP)]):=by
     simp![zT,kK,getL,at1,vv,hl]
    have q1:(zI (qE lR (zd 4) []) (zw 5)) (ρm (.tup rl) bd d0 h0.length o5 o6) (h0++[.tdc F,.lst (((w,hid)::r).reverse.map encP)])=À (.nx (ρm (.tup rl) bd d0 h0.length (À (encP (w,hid))) o6),h0++[.tdc F,.lst (r.reverse.map encP)]):=by
     simp![qE,getL,at1,lR,BA]
    have i0:∀h,zC (encP (w,hid)) (.int 0) h=À (w,h):=λh=>u4
    have OT:∀h,zC (encP (w,hid)) (.int 1) h=À (.tup (zk hid),h):=λh=>bq
    have m1:=e1 w (h0++[.tdc F,.lst (r.reverse.map encP)]) Bo.more d sh;have q2:(vS (kF (ze G.aD [zd 1,zh zC (zd 5) (Pu 0)])) (zw 6) ZG) (ρm (.tup rl) bd d0 h0.length (À (encP (w,hid))) o6) (h0++[.tdc F,.lst (r.reverse.map encP)])=À (.nx (ρm (.tup rl) bd d0 h0.length (À (encP (w,hid))) He),h0++[.tdc F1,.lst (r.reverse.map encP)]):=by
     have it:(kF (ze G.aD [zd 1,zh zC (zd 5) (Pu 0)])) (ρm (.tup rl) bd d0 h0.length (À (encP (w,hid))) o6) (h0++[.tdc F,.lst (r.reverse.map encP)])=À (.items ((itself B w).map tupS),h0++[.tdc F,.lst (r.reverse.map encP)]):=by
      generalize encP (w,hid)=pp at i0;generalize (itself B w).map tupS=Z at m1;generalize h0++[.tdc F,.lst (r.reverse.map encP)]=hh at m1;simp![kF,i0,m1,srcOf]
     unfold vS;rw[it];exact ef
    have m2:=e2 w hid (h0++[.tdc F1,.lst (r.reverse.map encP)]) Bo.more d sh ho;have hc:∀l:List (W×List Ç),(∀p∈l,okd rl k H (N+1) p.1)->l.length<=(l.map λp=>cnt (N+1) p.1).sum:=by
     intro l;induction l with
     | nil=>intro _;simp
     | cons p q ihq=>
      intro hq;have h1:=ihq λz hz=>hq z (zq _ hz)
      have h2:=Z3 (n:=N) (w:=p.1);erw[zz,wj,zE];omega
    have Me:=hc s1 λp hp=>(Hy p hp).2.1
    have gy:s1.length=(ke rl B w hid).length+r.length:=by show((ke rl B w hid).reverse++r).length=_;simp
    have ED:r.length+(ke rl B w hid).length<=cap:=zp (show r.length+(ke rl B w hid).length<=100000 by omega) (by decide);have es:s1.reverse.map encP=r.reverse.map encP++(ke rl B w hid).map encP:=by
     show((ke rl B w hid).reverse++r).reverse.map encP=_
     rw[List.reverse_append,List.reverse_reverse,qz]
    have q3:(yY (qE x8 (zd 4) [ze G.aG [zd 0,zd 1,zh zC (zd 5) (Pu 0),zh zC (zd 5) (Pu 1)]])) (ρm (.tup rl) bd d0 h0.length (À (encP (w,hid))) He) (h0++[.tdc F1,.lst (r.reverse.map encP)])=À (.nx (ρm (.tup rl) bd d0 h0.length (À (encP (w,hid))) He),h0++[.tdc F1,.lst (s1.reverse.map encP)]):=by
     rw[es];have ex:x8 (.ref (h0.length+1)) [.fls ((ke rl B w hid).map encP)] (h0++[.tdc F1,.lst (r.reverse.map encP)])=À (.non,h0++[.tdc F1,.lst (r.reverse.map encP++(ke rl B w hid).map encP)]):=by
      erw[x8,at1,qS,getL];rw[zQ (by erw[zG,List.length_reverse];exact ED),BA]
     have gl:getL (h0++[.tdc F1,.lst (r.reverse.map encP)]) (.ref (h0.length+1))=À (r.reverse.map encP):=by erw[getL,at1]
     generalize (r.reverse.map encP++(ke rl B w hid).map encP)=R2 at ex ⊢;generalize (ke rl B w hid).map encP=Y at m2 ex;generalize h0++[.tdc F1,.lst (r.reverse.map encP)]=hh at m2 ex gl ⊢;generalize encP (w,hid)=pp at i0 OT ⊢;simp![qE,gl,i0,OT,m2,ex]
    have zb:zB G (ρm (.tup rl) bd d0 h0.length o5 o6) (h0++[.tdc F,.lst (((w,hid)::r).reverse.map encP)])=À (.nx (ρm (.tup rl) bd d0 h0.length (À (encP (w,hid))) He),h0++[.tdc F1,.lst (s1.reverse.map encP)]):=by
     unfold zB;rw[zt q1,zt q2,q3]
    unfold vw;rw[t];erw[zb];exact ew
   .rw[n3 x]
    have sn:=seen (rl:=rl) (B:=B) (n:=N) (w:=w) (hid:=hid) (x:=x);have pm:∀p∈ke rl B w hid,mk rl B (N+1) p.1=mk rl B N p.1:=λp hp=>Zy (o.2 p.1 (bE sh ho p hp).1) (qR _)
    rw[show(x∈F1↔_) from mem_addAll];constructor
    .rintro((h | h) | ⟨p,hp,h1,h2⟩)
     .exact .inl h
     .exact .inr ⟨(w,hid),zF,sn.mpr (.inl h)⟩
     .rcases zx.mp hp with z | z
      .have z:=xX.mp z
       rw[pm p z] at h1;exact .inr ⟨(w,hid),zF,sn.mpr (.inr ⟨p,z,h1,h2⟩)⟩
      .exact .inr ⟨p,zq _ z,h1,h2⟩
    .rintro(h | ⟨p,hp,h1,h2⟩)
     .exact .inl (.inl h)
     .rcases zg.mp hp with rfl | z
      .rcases sn.mp ⟨h1,h2⟩ with z | ⟨p,hp,h3,h4⟩
       .exact .inl (.inr z)
       .rw[<-pm p hp] at h3
        exact .inr ⟨p,zx.mpr (.inl (xX.mpr hp)),h3,h4⟩
      .exact .inr ⟨p,zx.mpr (.inr z),h1,h2⟩
def s_by{H:List Ç}(E0:Env0 rl B k)(hU:lT B k H)(wH:Vk H)(lH:H.length<=20)(Bo:Bod h B bd)(d:dt 60 w=Â)(o:okd rl k H n w)(hb:cnt n w<=100000) :
  ∃M:List (List Ç),cv M/\(∀x,x∈M↔x∈mk rl B n w)/\(∀x∈M,x∈uni H)/\M.length<=34/\(step (step (step (step F)))).aY [.tup rl,bd,w] h=À (.fls (M.map tupS),h):=by
 have e1:=λ(w:W) (h:MH) (Bo:Bod h B bd) (d:dt 60 w=Â) (sh:Sh rl k H w)=>V5 (F:=step (step F)) (h:=h) Bo.gl Bo.nt Bo.ns (λks hk=>⟨E0.len ks hk,E0.ne ks hk⟩) E0.kB d sh
 have e2:=λ(w:W) (hid:List Ç) (h:MH) (Bo:Bod h B bd) (d:dt 60 w=Â) (sh:Sh rl k H w) (ho:HidOk hid)=>Fj (F:=F) (h:=h) E0 Bo d sh ho
 generalize step (step (step F))=G at e1 e2;obtain⟨F',p5,p6,ew,n1,n2,n3⟩:=K5 (G:=G) (d0:=w) (h0:=h) (N:=n) E0 hU wH lH Bo e1 e2 (cnt n w) [(w,[])] [] Á Á (λp hp=>by rw[jl.mp hp];exact⟨d,o,q8,nofun⟩) (by simp) hb q8 nofun;have lF:F'.length<=34:=zp (gL n1 n2) (by rw[ZF];omega);have ls:(kA F').length=F'.length:=(hZ n1 λx=>Iff.rfl).symm;refine⟨kA F',vc _,λx=>?_,λx hx=>n2 x (ssort_mem.mp hx),by omega,?_⟩
 .rw[ssort_mem,n3 x]
  simp[ZJ]
 have wr:=J1 ew;erw[List.reverse_cons,xW,jb,zz,kY] at wr;have c0:(0:Nat)<=cap:=by decide
 have c1:(1:Nat)<=cap:=by decide
 have c2:(2:Nat)<=cap:=by decide
 refine wm (h':=h++[.tdc F',.lst []]) ?_ (dP _) (qI _ _);have Bz:uS [.ref h.length] (h++[.tdc F',.lst []])=À (.fls ((kA F').map tupS),h++[.tdc F',.lst []]):=by
  have e:(h++[.tdc F',.lst []])[h.length]?=À (.tdc F'):=by simp
  unfold uS;erw[e];rw[zQ ⟨by omega,λx hx=>(dR wH x (n2 x hx)).2⟩]
 have row:bI G [À (.tup rl),À bd,À w,Á,Á,Á,Á] h=À (.ret (.fls ((kA F').map tupS)),h++[.tdc F',.lst []]):=by
  rw[Bu];rw[zt (ρ':=[À (.tup rl),À bd,À w,À (.ref h.length),Á,Á,Á]) (h':=h++[.tdc []]) (by simp![mz])];rw[zt (ρ':=ρm (.tup rl) bd w h.length Á Á) (h':=h++[.tdc [],.lst [encP (w,[])]]) (by simp![dY,zo,c0,c1,c2,encP,zk])];rw[zt wr];generalize (kA F').map tupS=Z at Bz;simp![Bz]
 erw[kQ,zE,kI,je,zz,kY,Æ,jr,jb];erw[row]
def tY{B B':List (List (List Ç))}{H:List Ç}(hb:∀j,j<k->B[j]?=B'[j]?)(sh:Sh rl k H w):itself B w=itself B' w:=by
 cases sh with
 | call i a b hi ns hs body e lb=>
  have e1:∀B:List (List (List Ç)),itself B (th "call" [.int (i:Int),.tup a,.tup b])=((B[i]?).getD []).filter be:=λB=>by
   erw[th,itself,show kU ["read","write","do"] (.str "call")=Ä by decide +kernel,show kU ["say","ask"] (.str "call")=Ä by decide +kernel,jC,je,zO,ju,jo]
  rw[e1,e1,hb i hi]
 | _=>first | rfl | (unfold itself th;erw[show(("number":Ç)=="call")=Ä by decide +kernel,show(("name":Ç)=="call")=Ä by decide +kernel,show(("let":Ç)=="call")=Ä by decide +kernel,show(("own":Ç)=="call")=Ä by decide +kernel,show(("add":Ç)=="call")=Ä by decide +kernel,show(("less":Ç)=="call")=Ä by decide +kernel,show(("then":Ç)=="call")=Ä by decide +kernel,show(("loop":Ç)=="call")=Ä by decide +kernel,show(("if":Ç)=="call")=Ä by decide +kernel,zO,ju])
def sR{B B':List (List (List Ç))}{H:List Ç}(hb:∀j,j<k->B[j]?=B'[j]?)(sh:Sh rl k H w):jS rl B w=jS rl B' w:=by
 rcases sh.split with hp | ⟨i,a,b,ns,hs,body,rfl,hi,e⟩
 .rw[qo hp,qo hp]
 .unfold jS th
  erw[jC,je,jo,hb i hi]
def sx{B B':List (List (List Ç))}{H:List Ç}(hb:∀j,j<k->B[j]?=B'[j]?)(sh:Sh rl k H w):ke rl B w hid=ke rl B' w hid:=by
 have e:=sR hb sh;unfold ke;split
 .split
  .rfl
  .rw[e]
 .rw[e]
theorem dM{B B':List (List (List Ç))}{H:List Ç}(hb:∀j,j<k->B[j]?=B'[j]?):∀{n:Nat} {w:W},okd rl k H n w->mk rl B n w=mk rl B' n w
 | 0,_,h=>by cases h
 | n+1,w,h=>by
  show itself B w++_=itself B' w++_
  rw[tY hb h.1,sx hb h.1];congr 1
  have:∀p∈ke rl B' w [],(λp:W×List Ç=>(mk rl B n p.1).filter λk=>!qk p.2 k) p=(λp:W×List Ç=>(mk rl B' n p.1).filter λk=>!qk p.2 k) p:=λp hp=>by
   have AK:=(bE h.1 ⟨q8,nofun⟩ p hp).1;show(mk rl B n p.1).filter _=(mk rl B' n p.1).filter _
   rw[dM hb (h.2 p.1 AK)]
  rw[yo,yo,qy this]
structure BodsOk(rl:List W)(B:List (List (List Ç))):Prop where
 len:B.length<=rl.length
 at_:∀(i:Nat) (ks:List (List Ç)),B[i]?=À ks->∀(N hs:List Ç) (body:W),rl[i]?=À (.tup [.tup (zk N),.tup (zk hs),body])->cv ks/\ks.length<=34/\(∀x∈ks,x∈uni hs)/\∀x,x∈ks↔x∈mk rl B 3 body
def ol{H:List Ç}(h:x∈uni H)(n:be x=Â):x∈uni H':=by
 unfold uni at h ⊢;rcases zx.mp h with z | z
 .exact zx.mpr (.inl z)
 .obtain⟨v,_,rfl⟩:=zK.mp z
  simp[be] at n
def BodsOk.env{B:List (List (List Ç))}(b:BodsOk rl B)(hr:RG rl):Env0 rl B B.length:=by
 have g:∀ks∈B,∃(N hs:List Ç) (body:W),wd hs/\cv ks/\ks.length<=34/\∀x∈ks,x∈uni hs:=λks hk=>by
  obtain⟨i,hi⟩:=qJ.mp hk;have hl:i<rl.length:=zN (zu.mp hi).1 b.len;obtain⟨N,hs,body,e,_,_,_,w2,_⟩:=hr.g i hl;obtain⟨q1,q2,q3,_⟩:=b.at_ i ks hi N hs body e;exact⟨N,hs,body,w2,q1,q2,q3⟩
 refine⟨zp hr.l ∅,zy _,λks hk=>?_,λks hk x hx=>?_,λks hk x hx=>?_,λi ns hs body e x hx=>?_⟩
 .obtain⟨_,_,_,_,_,q,_⟩:=g ks hk;omega
 .obtain⟨_,hs,_,w2,_,_,q⟩:=g ks hk;exact(dR w2 x (q x hx)).1
 .obtain⟨_,hs,_,w2,_,_,q⟩:=g ks hk;exact(dR w2 x (q x hx)).2
 .have hl:=(zu.mp e).1
  obtain⟨N,Ak,xI,e',_,_,_,w2,_⟩:=hr.g i hl;rw[e] at e';injection e' with e';injection e' with e';injection e' with e1 e2;injection e2 with e2 e3;injection e2 with e2;have:=x9 e2;subst this;exact gq ⋯ (w2 x hx)
def BodsOk.uni{B:List (List (List Ç))}(b:BodsOk rl B)(hr:RG rl)(H:List Ç):lT B B.length H:=by
 intro i ks hi e x hx n;have hl:i<rl.length:=zN hi b.len;obtain⟨N,hs,body,e',_⟩:=hr.g i hl;exact ol ((b.at_ i ks e N hs body e').2.2.1 x hx) n
theorem WS(F:Fs):aX F=zl (zI (ze dY []) (zw 1)) (zl (vS (kF (zd 0)) (zw 2) (bB F)) (kf (zd 1))):=rfl
def W8(p:pl n w=Â):(zD w).length<=8/\∀q∈zD w,pl n q=Â:=by
 cases w with
 | tup l=>
  obtain⟨m,rfl,hl,hd⟩:=gG p;unfold zD;split
  .rename_i x r e
   cases e;split
   .split
    .rename_i y a b
     obtain⟨m1,rfl,la,da⟩:=gG (hd (.tup a) (by simp));obtain⟨m2,e2,lb,db⟩:=gG (hd (.tup b) (by simp));refine⟨by rw[zR];omega,λq hq=>?_⟩;rcases zx.mp hq with z | z
     .exact ja (da q z) ∅
     .exact ja (db q z) ∅
    .exact⟨by simp,λq hq=>by simp at hq⟩
   .split
    .rename_i pp _
     refine⟨?_,λq hq=>?_⟩
     .rw[qF];erw[zE] at hl;omega
     .exact ja (hd q (zq _ (jJ hq))) ∅
    .exact⟨by simp,λq hq=>by simp at hq⟩
  .exact⟨by simp,λq hq=>by simp at hq⟩
 | _=>exact⟨by simp[zD],λq hq=>by simp[zD] at hq⟩
theorem pQ:∀(n:Nat) (w:W),pl m w=Â->cnt n w<=9 ^ n
 | 0,_,_=>by unfold cnt;omega
 | n+1,w,p=>by
  have hp:=W8 p;have:=Dy (n:=n) (B:=9 ^ n) (w:=w) (l:=8) hp.1 λq hq=>pQ n q (hp.2 q hq)
  have h1:1<=9 ^ n:=pD (by simp);rw[vI];omega
def JD(p:pl 6 w=Â):cnt 3 w<=100000:=zp (pQ 3 w p) (by decide)
def at_of{α:Type}(h:List α)(o:α):(h++[o])[h.length]?=À o:=by simp
theorem om{G:Fs}{rl:List W}{h0:MH}(hr:RG rl)
  (e:∀(B:List (List (List Ç))) (bd w:W) (h:MH) (k:Nat) (H:List Ç),Env0 rl B k->lT B k H->Vk H->H.length<=20->Bod h B bd->dt 60 w=Â->okd rl k H 3 w->cnt 3 w<=100000->∃M:List (List Ç),cv M/\(∀x,x∈M↔x∈mk rl B 3 w)/\(∀x∈M,x∈uni H)/\M.length<=34/\G.aY [.tup rl,bd,w] h=À (.fls (M.map tupS),h)) :
  ∀(r:List W) (B:List (List (List Ç))) (o2:Option W),rl.drop B.length=r->BodsOk rl B->∃B' Li,BodsOk rl B'/\B'.length=rl.length/\forL (zw 2) (bB G) r [À (.tup rl),À (.ref h0.length),o2] (h0++[.lst (bw B)])=À (.nx [À (.tup rl),À (.ref h0.length),Li],h0++[.lst (bw B')])
 | [],B,o2,hd,b=>by
  refine⟨B,o2,b,?_,by simp[forL]⟩;have:=List.drop_eq_nil_iff.mp hd;exact Nat.le_antisymm b.len this
 | rule::r,B,o2,hd,b=>by
  have hi:B.length<rl.length:=by
   rcases yC B.length rl.length with z | z
   .exact z
   .rw[List.drop_eq_nil_of_le z] at hd;cases hd
  have AM:=wL hi;rw[hd] at AM;obtain⟨er,Sf⟩:=List.cons.inj AM;obtain⟨N,hs,body,eb,l1,l2,w1,w2,pb,ob,nd⟩:=hr.g B.length hi;have Lj:rule=.tup [.tup (zk N),.tup (zk hs),body]:=by
   rw[zM hi] at eb;rw[er];exact zW eb
  have Bo:Bod (h0++[.lst (bw B)]) B (.ref h0.length):=⟨by simp[getL],λl=>nofun,λz=>nofun⟩;obtain⟨M,m1,m2,m3,m4,m5⟩:=e B (.ref h0.length) body (h0++[.lst (bw B)]) B.length hs (b.env hr) (b.uni hr hs) w2 ∅ Bo (vi (wt pb) ∅) ob (JD pb);have Sg:bw B++[.fls (M.map tupS)]=bw (B++[M]):=by unfold bw;simp
  have gy:(B++[M]).length=B.length+1:=by simp
  have agree:∀j,j<B.length->B[j]?=(B++[M])[j]?:=λj hj=>by rw[zY hj]
  have b':BodsOk rl (B++[M]):=by
   refine⟨by rw[gy];omega,λi ks ei N' Ak xI e'=>?_⟩;rcases yC i B.length with z | z
   .rw[zY z] at ei
    obtain⟨q1,q2,q3,q4⟩:=b.at_ i ks ei N' Ak xI e';refine⟨q1,q2,q3,λx=>?_⟩;obtain⟨N2,EF,OU,e2,_,_,_,_,_,o2,_⟩:=hr.g i ∅;rw[e'] at e2;have:=zW e2;injection this with this;injection this with t1 t2;injection t2 with t2 t3;injection t3 with t3;subst t3;rw[q4 x,dM (λj hj=>agree j ∅) o2]
   .have zi:i=B.length:=by
     have:=(zu.mp ei).1;rw[gy] at this;omega
    subst zi;rw[eb] at e';have:=zW e';injection this with this;injection this with t1 t2;injection t2 with t2 t3;injection t2 with t2;injection t3 with t3;subst t3;have:=x9 t2;subst this;have ek:ks=M:=by simpa using ei.symm
    subst ek;refine⟨m1,m4,m3,λx=>?_⟩;rw[m2 x,dM agree ob]
  obtain⟨B',Li,g1,g2,g3⟩:=om (h0:=h0) hr e r (B++[M]) (À rule) (by rw[gy];exact Sf.symm) b';refine⟨B',Li,g1,g2,?_⟩;have hg:zw 2 rule [À (.tup rl),À (.ref h0.length),o2] (h0++[.lst (bw B)])=À ([À (.tup rl),À (.ref h0.length),À rule],h0++[.lst (bw B)]):=by simp[zw]
  have lB:(bw B).length<cap:=by
   have:(bw B).length=B.length:=by unfold bw;simp
   rw[this];have:=hr.l;exact zN (show B.length<5 by omega) (by decide)
  have ap:yb (.ref h0.length) [.fls (M.map tupS)] (h0++[.lst (bw B)])=À (.non,h0++[.lst (bw (B++[M]))]):=by
   erw[yb,at_of];rw[zQ lB,Sg];simp
  have gl:getL (h0++[.lst (bw B)]) (.ref h0.length)=À (bw B):=by erw[getL,at_of]
  have ib:∀h,zC rule (.int 2) h=À (body,h):=λh=>by rw[Lj];exact sG
  have st:bB G [À (.tup rl),À (.ref h0.length),À rule] (h0++[.lst (bw B)])=À (.nx [À (.tup rl),À (.ref h0.length),À rule],h0++[.lst (bw (B++[M]))]):=by
   generalize h0++[.lst (bw (B++[M]))]=h2 at ap ⊢;generalize M.map tupS=Z at m5 ap;generalize h0++[.lst (bw B)]=h1 at m5 ap gl ⊢;simp![bB,qE,gl,ib,m5,ap]
  unfold forL;rw[hg];erw[st];exact g3
def sd{rl:List W}(hr:RG rl)(h:MH):∃B,BodsOk rl B/\B.length=rl.length/\(step (step (step (step (step F))))).az [.tup rl] h=À (.fls (bw B),h):=by
 have e:=λ(B:List (List (List Ç))) (bd w:W) (h:MH) (k:Nat) (H:List Ç) (a1:Env0 rl B k) (a2:lT B k H) (a3:Vk H) (a4:H.length<=20) (a5:Bod h B bd) (a6:dt 60 w=Â) (a7:okd rl k H 3 w) (a8:cnt 3 w<=100000)=>s_by (F:=F) a1 a2 a3 a4 a5 a6 a7 a8
 generalize step (step (step (step F)))=G at e;obtain⟨B',Li,b1,b2,b3⟩:=om (h0:=h) hr e rl [] Á rfl ⟨j9 _,λi ks ei=>by simp at ei⟩;refine⟨B',b1,b2,?_⟩;have c0:(0:Nat)<=cap:=by decide
 have row:aX G [À (.tup rl),Á,Á] h=À (.ret (.ref h.length),h++[.lst (bw B')]):=by
  rw[WS];rw[zt (ρ':=[À (.tup rl),À (.ref h.length),Á]) (h':=h++[.lst []]) (by simp![dY,c0])];have fr:(vS (kF (zd 0)) (zw 2) (bB G)) [À (.tup rl),À (.ref h.length),Á] (h++[.lst []])=À (.nx [À (.tup rl),À (.ref h.length),Li],h++[.lst (bw B')]):=by
   unfold vS;have it:kF (zd 0) [À (.tup rl),À (.ref h.length),Á] (h++[.lst []])=À (.items rl,h++[.lst []]):=by simp![kF,srcOf]
   rw[it];exact b3
  rw[zt fr];simp![]
 refine U8 (h':=h++[.lst (bw B')]) (n:=h.length) ?_ (qI _ _) (zy _) (at_of _ _) ?_
 .erw[kQ,zE,kI,je,zz,kY,Æ,jr,jb]
  erw[row]
 .refine va λw hw=>?_
  unfold bw at hw;obtain⟨ks,_,rfl⟩:=zK.mp hw;exact dP ks
def oR{B B':List (List (List Ç))}(hr:RG rl)(b:BodsOk rl B)(b':BodsOk rl B')(hl:B.length=B'.length):B=B':=by
 have key:∀i:Nat,B[i]?=B'[i]?:=by
  intro i;induction i using Nat.strongRecOn with
  | ind i ih=>
   rcases yC i B.length with z | z
   .obtain⟨N,hs,body,e,_,_,_,_,_,o,_⟩:=hr.g i (zN z b.len)
    have q:=zM z;have q':=zM (show i<B'.length by omega);obtain⟨u1,_,_,m1⟩:=b.at_ i _ q N hs body e;obtain⟨u2,_,_,m2⟩:=b'.at_ i _ q' N hs body e;rw[q,q'];congr 1
    refine wb u1 u2 λx=>?_
    rw[m1 x,m2 x,dM (λj hj=>ih j hj) o]
   .rw[jF z,jF ∅]
 exact List.ext_getElem? key
def JA{rl:List W}(hr:RG rl):∃B,BodsOk rl B/\B.length=rl.length/\∀h,(step (step (step (step (step F))))).az [.tup rl] h=À (.fls (bw B),h):=by
 obtain⟨B,b1,b2,b3⟩:=sd (F:=F) hr [];refine⟨B,b1,b2,λh=>?_⟩;obtain⟨B',c1,c2,c3⟩:=sd (F:=F) hr h;have:=oR hr b1 c1 ∅;subst this;exact c3
def oE{rl:List W}{B:List (List (List Ç))}(hr:RG rl)(b:BodsOk rl B)(bl:B.length=rl.length)(eb:∀h,(step (step (step (step (step F))))).az [.tup rl] h=À (.fls (bw B),h))(hn:n<=5)(hm:m<=60)(p:pl m w=Â)(o:okd rl rl.length [] n w) :
  ∃M:List (List Ç),cv M/\(∀x,x∈M↔x∈mk rl B n w)/\(∀x∈M,x∈uni [])/\M.length<=34/\∀h,(step (step (step (step (step (step F)))))).aZ [.tup rl,w] h=À (.fls (M.map tupS),h):=by
 have Bo:∀h,Bod h B (.fls (bw B)):=λh=>⟨rfl,λl=>nofun,λz=>nofun⟩
 have E0:=b.env hr;have hU:=b.uni hr [];rw[bl] at E0 hU;have Ll:=λh=>s_by (F:=step F) E0 hU (λv hv=>by simp at hv) (by simp) (Bo h) (vi (wt p) hm) o (zp (pQ n w p) (zp (jZ ∅ hn) (by decide)))
 obtain⟨M,m1,m2,m3,m4,_⟩:=Ll [];refine⟨M,m1,m2,m3,m4,λh=>?_⟩;obtain⟨M',n1,n2,n3,n4,n5⟩:=Ll h;have:M=M':=wb m1 n1 λx=>(m2 x).trans (n2 x).symm
 subst this;generalize step (step (step (step (step F))))=G at eb n5;refine wm (h':=h) ?_ (dP _) (jw _);generalize M.map tupS=Z at n5;simp![cg,eb,n5]
theorem bp:∀ks:List (List Ç),eW (ks.map tupS)=À ks
 | []=>rfl
 | k::r=>by erw[zz,eW,x4,bp r];rfl
def tK(k:List Ç):toD 2 (tupS k)=.tuple (k.map .str):=by
 unfold tupS toD;erw[kZ];congr 1
def kR:List (List Ç):=[["read","a"],["read","b"],["read","c"],["read","d"]]
def kW:List (List Ç):=[["write","a"],["write","b"],["write","c"],["write","d"]]
def kL(hs:List Ç):List (List Ç):=kR++kW++([["say"],["ask"]]:List (List Ç))++hs.map λx=>[("do":Ç),x]
def iA:∀hs∈hnd,∀k∈kL hs,ko k=Â:=by decide +kernel
def Qe:∀hs∈hnd,(kL hs).length<=12:=by decide +kernel
theorem f9{xs:List Ç}(hx:xs.length<=100)(hm:mi ρ h=À (.items (zk xs),h)):kz mi 1 [] (zw 0) qv (ze zo [eC (.str v),zd 0]) ρ h=À (.fls (xs.map λx=>tupS [v,x]),h):=by
 refine(eM (l:=zk xs) (λ_=>Â) (λw=>.tup [.str v,w]) hm ?_ ?_ ?_ ?_).trans ?_
 .intro w _ H';rfl
 .intro w hw _ H';simp![zo,cap]
 .intro w hw _
  obtain⟨x,_,rfl⟩:=zK.mp hw;exact y9 [v,x]
 .erw[zk,zG];exact zp hx (by decide)
 .rw[vD.mpr λ_ _=>rfl]
  unfold zk tupS;rw[kZ];rfl
def am{a b:List W}(h:MH)(hl:a.length+b.length<=1000):addW (.fls a) (.fls b) h=À (.fls (a++b),h):=by
 erw[addW,jI,getL];rw[zQ (zp hl (by decide))]
def FG(hh:hs∈hnd):(step F).bR [.tup (zk hs)] h=À (.fls ((kL hs).map tupS),h):=by
 refine qA (n:=3) ?_ (xh (zp (Qe hs hh) (by decide)) (iA hs hh));have hl:hs.length<=2:=by revert hs;decide +kernel
 have e1:∀(ρ:En) (h:MH),kz (kF (eC wn)) 1 [] (zw 0) qv (ze zo [PN "read",zd 0]) ρ h=À (.fls (kR.map tupS),h):=λρ h=>f9 (mi:=kF (eC wn)) (v:="read") (ρ:=ρ) (h:=h) (xs:=["a","b","c","d"]) (by decide) (by simp![kF,wn,srcOf,zk])
 have e2:∀(ρ:En) (h:MH),kz (kF (eC wn)) 1 [] (zw 0) qv (ze zo [PN "write",zd 0]) ρ h=À (.fls (kW.map tupS),h):=λρ h=>f9 (mi:=kF (eC wn)) (v:="write") (ρ:=ρ) (h:=h) (xs:=["a","b","c","d"]) (by decide) (by simp![kF,wn,srcOf,zk])
 have e3:=λ(o1 o2:Option W) (h:MH)=>f9 (mi:=kF (zd 0)) (v:="do") (ρ:=[À (.tup (zk hs)),o1,o2]) (h:=h) (xs:=hs) ∅ (by simp![kF,srcOf])
 have a1:=λh=>am (a:=kR.map tupS) (b:=kW.map tupS) h (by decide)
 have a2:=λh=>am (a:=kR.map tupS++kW.map tupS) (b:=[tupS ["say"],tupS ["ask"]]) h (by decide)
 have a3:=λh=>am (a:=kR.map tupS++kW.map tupS++[tupS ["say"],tupS ["ask"]]) (b:=hs.map λx=>tupS ["do",x]) h (by simp[kR,kW];omega)
 have er:kR.map tupS++kW.map tupS++[tupS ["say"],tupS ["ask"]]++(hs.map λx=>tupS ["do",x])=(kL hs).map tupS:=by
  unfold kL;erw[qz,kZ,zz,kY];rfl
 have c1:(1:Nat)<=cap:=by decide
 have c2:(2:Nat)<=cap:=by decide
 have t1:tupS ["say"]=.tup [.str "say"]:=rfl;have t2:tupS ["ask"]=.tup [.str "ask"]:=rfl;rw[er] at a3;rw[t1,t2] at a2 a3;generalize (hs.map λx=>tupS ["do",x])=D at e3 a3;generalize kR.map tupS++kW.map tupS++[.tup [.str "say"],.tup [.str "ask"]]=E at a2 a3;generalize kR.map tupS++kW.map tupS=B at a1 a2;generalize kR.map tupS=A at e1 a1;generalize kW.map tupS=A2 at e2 a1;generalize (kL hs).map tupS=Z at a3;generalize zk hs=hw at e3;have row:bA F [À (.tup hw),Á,Á] h=À (.ret (.fls Z),h):=by
  unfold bA;rw[zt (ρ':=[À (.tup hw),À (.fls A),Á]) (h':=h) (by simp[zI,bnd,e1,zw])];rw[zt (ρ':=[À (.tup hw),À (.fls A),À (.fls A2)]) (h':=h) (by simp[zI,bnd,e2,zw])];simp![a1,a2,a3,e3,zo,kG,c1,c2]
 erw[kQ,zE,kI,je,zz,kY,Æ,jr,jb];erw[row]
theorem sr(k:List Ç):∀l:List (List Ç),(cq k l).length<=l.length+1
 | []=>by simp[cq]
 | x::l=>by
  unfold cq;split
  .omega
  .split
   .simp
   .have:=sr k l;simp;omega
theorem oM:∀l:List (List Ç),(kA l).length<=l.length
 | []=>zy _
 | k::l=>by
  have:=oM l;have e:=sr k (kA l);show(cq k (kA l)).length<=_
  simp;omega
def YG:∀hs∈hnd,∀k∈kL hs,k≠[]:=by decide +kernel
noncomputable def Z0(x:Ç):List (List Ç):=[["read",x],["write",x]]
noncomputable def fv(hs:List Ç):List (List Ç):=([["ask"],["say"]]:List (List Ç))++(hs.map λx=>[("do":Ç),x])++(["a","b","c","d"]:List Ç).flatMap Z0
def D7:∀hs∈hnd,(fv hs).Nodup/\(fv hs).length<=12/\∀k∈fv hs,k∈kL hs:=by decide +kernel
def CG:∀hs∈hnd,hs.length<=2:=by decide +kernel
theorem abcd:signs "abcd" = zk ["a","b","c","d"]:=by
 have e:((("abcd":Ç).cps.toList.map λc=>(⟨#[c]⟩:Ç)))=[("a":Ç),"b","c","d"]:=by decide +kernel
 unfold signs zk;rw[<-e,kZ];rfl
theorem pE:∀(xs:List Ç) (A:List W) (o4:Option W),A.length+2*xs.length<=900->∃Nt,forL (zw 4) (zI (zh addW (zd 3) (ze kG [ze zo [PN "read",zd 4],ze zo [PN "write",zd 4]])) (zw 3)) (zk xs) [s,a,t,À (.fls A),o4] h=À (.nx [s,a,t,À (.fls (A++(xs.flatMap Z0).map tupS)),Nt],h)
 | [],A,o4,_=>⟨o4,by simp[zk,forL]⟩
 | x::xs,A,o4,hl=>by
  erw[zE] at hl;obtain⟨Nt,ih⟩:=pE (s:=s) (a:=a) (t:=t) (h:=h) xs (A++[.tup [.str "read",.str x],.tup [.str "write",.str x]]) (À (.str x)) (by simp;omega);refine⟨Nt,?_⟩;have ad:=λh=>am (a:=A) (b:=[.tup [.str "read",.str x],.tup [.str "write",.str x]]) h (by simp;omega)
  have c2:(2:Nat)<=cap:=by decide
  have st:(zI (zh addW (zd 3) (ze kG [ze zo [PN "read",zd 4],ze zo [PN "write",zd 4]])) (zw 3)) [s,a,t,À (.fls A),À (.str x)] h=À (.nx [s,a,t,À (.fls (A++[.tup [.str "read",.str x],.tup [.str "write",.str x]])),À (.str x)],h):=by
   generalize A++[.tup [.str "read",.str x],.tup [.str "write",.str x]]=B at ad;simp![zo,kG,c2,ad]
  have hg:zw 4 (.str x) [s,a,t,À (.fls A),o4] h=À ([s,a,t,À (.fls A),À (.str x)],h):=by simp[zw]
  have es:zk (x::xs)=.str x::zk xs:=rfl;rw[es];unfold forL;rw[hg];erw[st];rw[ih];simp[List.flatMap_cons,Z0,tupS]
def Cy{ns:List Int}(hl:ns.length<=63)(hh:hs∈hnd):∃k1,cv k1/\k1.length<=12/\(∀k∈k1,k∈kL hs)/\∀h,(step (step (step F))).aq [ky ns,.int at_,.tup (zk hs)] h=À (.fls (k1.map tupS),h):=by
 have eD:=λ(k:Int) h=>x6 (F:=F) (ns:=ns) (k:=k) (many:=3) (h:=h) hl ∅
 generalize step (step F)=G at eD;obtain⟨n1,n2,n3⟩:=D7 hs hh;have Mg:=CG hs hh;let kk:=((fv hs).zipIdx.filter λp=>vT ns (at_+(p.2:Nat)) 3==0).map (·.1)
 have EH:kk.Sublist (fv hs):=by
  have:=(yM (p:=λp:List Ç×Nat=>vT ns (at_+(p.2:Nat)) 3==0) (l:=(fv hs).zipIdx)).map (·.1);simpa[List.zipIdx_map_fst] using this
 have gy:kk.length<=12:=zp EH.length_le n2;have Ik:∀k∈kk,k∈kL hs:=λk hk=>n3 k (EH.mem hk)
 have NF:=oM kk;refine⟨kA kk,vc kk,by omega,λk hk=>Ik k (ssort_mem.mp hk),λh=>?_⟩;refine qA (n:=3) ?_ (xh ∅ λk hk=>iA hs hh k (Ik k (ssort_mem.mp hk)));have e1:=λ(o1 o2:Option W) (h:MH)=>f9 (mi:=kF (zd 2)) (v:="do") (ρ:=[À (ky ns),À (.int at_),À (.tup (zk hs)),o1,o2]) (h:=h) (xs:=hs) ∅ (by simp![kF,srcOf])
 have a1:=λh=>am (a:=[.tup [.str "ask"],.tup [.str "say"]]) (b:=hs.map λx=>tupS ["do",x]) h (by simp;omega)
 have c1:(1:Nat)<=cap:=by decide
 have c2:(2:Nat)<=cap:=by decide
 let A0:List W:=[.tup [.str "ask"],.tup [.str "say"]]++hs.map λx=>tupS ["do",x]
 obtain⟨o4,ef⟩:=pE (s:=À (ky ns)) (a:=À (.int at_)) (t:=À (.tup (zk hs))) (h:=h) ["a","b","c","d"] A0 Á (by simp[A0];omega);have eA:A0++((["a","b","c","d"]:List Ç).flatMap Z0).map tupS=(fv hs).map tupS:=by
  unfold fv;erw[qz,kZ,zz,kY];rfl
 rw[eA] at ef;have s0:(zI (zh addW (ze kG [ze zo [PN "ask"],ze zo [PN "say"]]) (kz (kF (zd 2)) 1 [] (zw 0) qv (ze zo [PN "do",zd 0]))) (zw 3)) [À (ky ns),À (.int at_),À (.tup (zk hs)),Á,Á] h=À (.nx [À (ky ns),À (.int at_),À (.tup (zk hs)),À (.fls A0),Á],h):=by
  have OV:∀h,addW (.fls [.tup [.str "ask"],.tup [.str "say"]]) (.fls (hs.map λx=>tupS ["do",x])) h=À (.fls A0,h):=a1;generalize (hs.map λx=>tupS ["do",x])=D at e1 OV;simp![zo,kG,c1,c2,e1,OV]
 have s1:(vS (nB (PN "abcd")) (zw 4) (zI (zh addW (zd 3) (ze kG [ze zo [PN "read",zd 4],ze zo [PN "write",zd 4]])) (zw 3))) [À (ky ns),À (.int at_),À (.tup (zk hs)),À (.fls A0),Á] h=À (.nx [À (ky ns),À (.int at_),À (.tup (zk hs)),À (.fls ((fv hs).map tupS)),o4],h):=by
  unfold vS;have:nB (PN "abcd") [À (ky ns),À (.int at_),À (.tup (zk hs)),À (.fls A0),Á] h=À (.items (zk ["a","b","c","d"]),h):=by
   unfold nB;erw[bnd,eC,abcd]
  rw[this];exact ef
 have s2:kz (w8 [zd 3]) 2 [0,1] (vE [zw 0,zw 1]) (zS (zh (jp Ä) (ze G.aa [zd 2,zh addW (zd 3) (zd 0),Pu 3]) (Pu 0))) (zd 1) [À (ky ns),À (.int at_),À (.tup (zk hs)),À (.fls ((fv hs).map tupS)),o4] h=À (.fls (kk.map tupS),h):=by
  refine(Ks (l:=(fv hs).zipIdx.map λp=>(W.int (p.2:Nat),tupS p.1)) (λa b=>match a with | .int k=>vT ns (at_+k) 3==0 | _=>Ä) (λ_ b=>b) ?_ ?_ ?_ ?_ ?_).trans ?_
  .have en:ML.numbered ((fv hs).map tupS)=((fv hs).zipIdx.map λp=>(W.int (p.2:Nat),tupS p.1)).map λw=>.tup [w.1,w.2]:=by
    unfold ML.numbered;rw[List.zipIdx_map,kZ,kZ];rfl
   simp![w8,l5,u3,en]
  .intro w hw H'
   obtain⟨p,_,rfl⟩:=zK.mp hw;have ad:∀h,addW (.int at_) (.int (p.2:Nat)) h=À (.int (at_+(p.2:Nat)),h):=λh=>rfl
   simp![ad,eD,qV]
  .intro w hw _ H';simp![]
  .intro w hw _
   obtain⟨p,_,rfl⟩:=zK.mp hw;exact y9 _
  .rw[zG,pF];exact zp n2 (by decide)
  .rw[wz,kZ,kZ]
   rfl
 have s3:uS [.fls (kk.map tupS)] h=À (.fls ((kA kk).map tupS),h):=by
  have e0:∀l:List W,uS [.fls l] h=fh [.fls l] h:=λl=>by unfold uS;rfl
  rw[e0];unfold fh YU;erw[getL,ql,bp];rw[zQ ⟨by omega,n1.sublist EH,λk hk=>YG hs hh k (Ik k hk)⟩]
 have row:bQ G [À (ky ns),À (.int at_),À (.tup (zk hs)),Á,Á] h=À (.ret (.fls ((kA kk).map tupS)),h):=by
  unfold bQ;rw[zt s0,zt s1];generalize kk.map tupS=Z at s2 s3;erw[kf,ze,xC,bnd,s2,s3]
 erw[kQ,zE,kI,je,zz,kY,Æ,jr,jb];erw[row]
noncomputable def iX(O:List Ç)(x:List Ç):Prop:=∀a v,x=[a,v]->a≠"do"->v∈ve O
def shel_mem:v∈ve O↔v∈([("a":Ç),"b","c","d"]:List Ç)\/v∈O:=by
 unfold ve;erw[zx];grind
def Ux(h:iX [] x):iX O x:=λa v e n=>shel_mem.mpr (.inl ((shel_mem.mp (h a v e n)).resolve_right nofun))
def Fy(hB:∀ks∈B,∀x∈ks,iX [] x)(s:cw (n+1) O w):∀x∈itself B w,iX O x:=by
 intro x hx;unfold itself at hx;split at hx
 .rename_i y r
  split at hx
  .rename_i q
   split at hx
   .rename_i u t
    rw[jl] at hx;subst hx;intro a v e ne;cases e;refine s.1 y u t rfl ?_;have:("read":Ç)=y\/("write":Ç)=y\/("do":Ç)=y:=by simpa[kU] using q
    rcases this with z | z | z
    .exact .inl z.symm
    .exact .inr z.symm
    .exact absurd z.symm ne
   .cases hx
  .split at hx
   .rw[jl] at hx
    subst hx;intro a v e;cases e
   .split at hx
    .split at hx
     .rename_i i t
      have h1:=(jc.mp hx).1;cases q:B[i.toNat]? with
      | none=>rw[q] at h1;cases h1
      | some ks=>rw[q] at h1;exact Ux (hB ks (jz q) x h1)
     .cases hx
    .cases hx
 .cases hx
def K3:ke rl B (th "own" [.str v,.tup a,.tup b]) hid=[(.tup a,hid),(.tup b,hide hid v)]:=by
 erw[ke,th,jC,je]
theorem WX(a v:Ç):xE [a,v]=v:=rfl
def YW{H:List Ç}(hB:∀ks∈B,∀x∈ks,iX [] x):∀{n:Nat} {O:List Ç} {w:W},okd rl k H n w->cw n O w->∀x∈mk rl B n w,iX O x:=by
 intro n;induction n with
 | zero=>intro O w o;cases o
 | succ n ih=>
  intro O w o s x hx;rcases mem_mk.mp hx with z | ⟨p,hp,h1,h2⟩
  .exact Fy hB s x z
  .obtain⟨sh,op⟩:=o
   have other:∀(y:Ç) (r:List W),w=th y r->(y==("own":Ç))=Ä->iX O x:=λy r e hy=>by
    subst e;rw[y7 hy] at hp;obtain⟨q,hq,rfl⟩:=zK.mp hp;have OW:=pd sh q hq;exact ih (op q OW) (s.2.2 (λr' e=>by rw[(d8 e).1] at hy;exact absurd hy ⋯) q OW) x h1
   cases sh with
   | own v hv a b=>
    rw[K3] at hp;obtain⟨sa,sb⟩:=s.2.1 v _ _ rfl;have ep:zD (th "own" [.str v,.tup a,.tup b])=[.tup a,.tup b]:=by
     have h1:(("own":Ç)=="call")=Ä:=by decide +kernel
     have h2:fm "own" = À (4,2):=by decide +kernel
     erw[zD,h1,h2];rfl
    rw[ep] at op;erw[zg,zA,kO] at hp;rcases hp with rfl | rfl
    .exact ih (op _ (by simp)) sa x h1
    .intro c u e ne
     have hu:=ih (op _ (by simp)) sb x h1 c u e ne;subst e;rw[shel_mem] at hu ⊢;have:u≠v:=by
      rintro rfl;simp[hide,qk,WX] at h2
     rcases hu with z | z
     .exact .inl z
     .rcases zx.mp z with z | z
      .exact .inr z
      .exact absurd (jl.mp z) this
   | _=>exact other _ _ rfl ⋯
noncomputable def FP(k:Nat)(B B':List (List (List Ç))):Prop:=∀i,i<k->∀x∈(B[i]?).getD [],x∈(B'[i]?).getD []
def JQ(h:∀x∈ks,x∈pf):∀p∈jv ks hs b,p∈jv pf hs b:=λp hp=>by
 unfold jv at hp ⊢;obtain⟨q,hq,rfl⟩:=zK.mp hp;obtain⟨h1,h2⟩:=jc.mp hq;exact zK.mpr ⟨q,jc.mpr ⟨h1,v7.mpr (h _ (v7.mp h2))⟩,rfl⟩
def Y4{H:List Ç}(hb:FP k B B'):∀{n:Nat} {w:W},okd rl k H n w->∀x∈mk rl B n w,x∈mk rl B' n w:=by
 intro n;induction n with
 | zero=>intro w o;cases o
 | succ n ih=>
  intro w ⟨sh,op⟩ x hx;have Si:∀p∈ke rl B w [],okd rl k H n p.1:=λp hp=>op p.1 (bE sh ⟨q8,nofun⟩ p hp).1
  have key:(∀y∈itself B w,y∈itself B' w)/\∀p∈ke rl B w [],p∈ke rl B' w []:=by
   rcases sh.split with hp | ⟨i,a,b,ns,hs,body,rfl,hi,e⟩
   .have e1:itself B w=itself B' w:=by
     cases hp with
     | mk x r p hc hf hp=>erw[th,itself,hc,zO,ju]
    have e2:ke rl B w []=ke rl B' w []:=by
     cases hp with
     | mk x r p hc hf hp=>
      have FB:Pn (th x r):=.mk x r p hc hf hp;unfold ke th;split
      .rw[qo (B:=B) FB,qo (B:=B') FB]
      .rw[qo (B:=B) FB,qo (B:=B') FB]
    rw[e1,e2];exact⟨λ_ h=>h,λ_ h=>h⟩
   .have Ed:(i:Int).toNat=i:=jo i
    constructor
    .intro y hy
     have e1:∀B:List (List (List Ç)),itself B (th "call" [.int (i:Int),.tup a,.tup b])=((B[i]?).getD []).filter be:=λB=>by
      erw[th,itself,show kU ["read","write","do"] (.str "call")=Ä by decide +kernel,show kU ["say","ask"] (.str "call")=Ä by decide +kernel,jC,je,zO,ju,Ed]
     rw[e1] at hy ⊢;obtain⟨h1,h2⟩:=jc.mp hy;exact jc.mpr ⟨hb i hi y h1,h2⟩
    .intro p hp
     rw[y7 ⋯] at hp ⊢;obtain⟨q,hq,rfl⟩:=zK.mp hp;refine zK.mpr ⟨q,?_,rfl⟩;erw[th,jS,jC,je,Ed] at hq ⊢;rcases zx.mp hq with z | z
     .exact zx.mpr (.inl z)
     .exact zx.mpr (.inr (JQ (hb i hi) q z))
  rcases mem_mk.mp hx with z | ⟨p,hp,h1,h2⟩
  .exact mem_mk.mpr (.inl (key.1 x z))
  .exact mem_mk.mpr (.inr ⟨p,key.2 p hp,ih (Si p hp) x h1,h2⟩)
structure Kd(hs:List Ç)(M:List (List Ç)):Prop where
 hh:hs∈hnd
 up:cv M
 u:∀x∈M,x∈kL hs
section
variable{hs:List Ç}{M A B:List (List Ç)}{F:Fs}{h:MH}
def Kd.len(k:Kd hs M):M.length<=12:=zp (gL (gN k.up) k.u) (Qe hs k.hh)
def Kd.good(k:Kd hs M):∀x∈M,ko x=Â:=λx hx=>iA hs k.hh x (k.u x hx)
def Kd.ne(k:Kd hs M):∀x∈M,x≠[]:=λx hx=>YG hs k.hh x (k.u x hx)
theorem Kd.dt(k:Kd hs M):dt 3 (.fls (M.map tupS))=Â:=xh (zp k.len (by decide)) k.good
def Kd.join(a:Kd hs A)(b:Kd hs B):Kd hs (kA (A++B)):=⟨a.hh,vc _,λx hx=>(zx.mp (ssort_mem.mp hx)).elim (a.u x) (b.u x)⟩
def Kd.sub(a:Kd hs A)(p:List Ç->Bool):Kd hs (A.filter p):=⟨a.hh,a.up.sublist yM,λx hx=>a.u x (jc.mp hx).1⟩
theorem sP:∀k l:List (List Ç),û (k.map λx=>.tuple (x.map .str)) (l.map λx=>.tuple (x.map .str))=decide (k=l)
 | [],[]=>rfl
 | [],_::_=>rfl
 | _::_,[]=>rfl
 | x::k,y::l=>by
  erw[zz,û,ò,dW,sP k l,vd,Bool.decide_and]
def VY{A B:List (List Ç)}(la:A.length<=1000)(ga:∀x∈A,ko x=Â)(lb:B.length<=1000)(gb:∀x∈B,ko x=Â)(h:MH):eqB h (.fls (A.map tupS)) (.fls (B.map tupS))=À (decide (A=B)):=by
 have e:∀{A:List (List Ç)},A.length<=1000->(∀x∈A,ko x=Â)->kP deep h (.fls (A.map tupS))=À (.list (A.map λx=>.tuple (x.map .str))):=λ{A} l g=>by
  rw[wq (h:=h) (xh l g) (show 3<=deep by decide)];erw[toD,kZ,xH,tK]
 unfold eqB;have ef:oQ (.fls (A.map tupS)) (.fls (B.map tupS))=Á:=rfl;rw[ef,e la ga,e lb gb];erw[ò,sP]
def Kd.eq(a:Kd hs A)(b:Kd Ak B)(h:MH):eqB h (.fls (A.map tupS)) (.fls (B.map tupS))=À (decide (A=B)):=VY (zp a.len (by decide)) a.good (zp b.len (by decide)) b.good h
def XB(neg:Bool){ρ:En}(g1:∀k∈A,ko k=Â)(g2:∀k∈B,ko k=Â)(l1:A.length<=100)(ha:(ρ[a]?).join=À (.fls (A.map tupS)))(hb:(ρ[b]?).join=À (.fls (B.map tupS))) :
  kz (kF (zd a)) 1 [b] (zw 0) (zS (zh (u7 neg) (zd 0) (zd 1))) (zd 0) ρ h=À (.fls ((A.filter λk=>if neg then !B.contains k else B.contains k).map tupS),h):=by
 have hv:zd a ρ h=À (.fls (A.map tupS),h):=by
  unfold zd;cases e:ρ[a]? with
  | none=>rw[e] at ha;cases ha
  | some o=>rw[e] at ha;simp at ha;subst ha;rfl
 refine(eM (l:=A.map tupS) (λw=>if neg then !B.contains ((nG w).getD []) else B.contains ((nG w).getD [])) id ?_ ?_ ?_ ?_ ?_).trans ?_
 .simp[kF,bnd,hv,srcOf]
 .intro w hw H'
  obtain⟨k,hk,rfl⟩:=zK.mp hw;have:=lV (h:=H') (y:=.fls (B.map tupS)) (g1 k hk) g2 rfl;erw[zz,kY,hb,x4,qj];simp![this]
 .intro w hw _ H';simp![]
 .intro w hw _
  obtain⟨k,hk,rfl⟩:=zK.mp hw;exact y9 k
 .erw[zG];exact zp l1 (by decide)
 .rw[u9,wz]
  erw[xH,x4,qj]
noncomputable def lack(A B:List (List Ç)):List (List Ç):=A.filter λk=>!B.contains k
def rF(g1:∀k∈A,ko k=Â)(g2:∀k∈B,ko k=Â)(l1:A.length<=100):(step F).aU [.fls (A.map tupS),.fls (B.map tupS)] h=À (.fls ((lack A B).map tupS),h):=by
 refine qA (n:=3) ?_ (xh (zp (jE _ _) ∅) λk hk=>g1 k (jc.mp hk).1);have:=XB (h:=h) Â (ρ:=[À (.fls (A.map tupS)),À (.fls (B.map tupS))]) (a:=0) (b:=1) g1 g2 l1 rfl rfl;simp![bZ,this,lack]
def lack_nil:(lack A B).isEmpty=Â↔∀x∈A,x∈B:=by
 unfold lack;rw[yj,uN];simp
def sj(Z:List (List Ç)):((Z.length:Int)==0)=Z.isEmpty:=by cases Z<;>simp;omega
def Cp(g1:∀k∈A,ko k=Â)(g2:∀k∈B,ko k=Â)(l1:A.length<=100):(step (step F)).aR [.fls (A.map tupS),.fls (B.map tupS)] h=À (.bl (lack A B).isEmpty,h):=by
 have e:=λh=>rF (F:=F) (h:=h) g1 g2 l1
 generalize step F=G at e;refine qA (n:=1) ?_ rfl;generalize lack A B=Z at e;have ln:∀h,kK [.fls (Z.map tupS)] h=À (.int (Z.length:Int),h):=λh=>by simp[kK,getL]
 simp![b7,e,ln,qV,sj]
def BZ(a:Kd hs A)(b:Kd hs B):(step F).bH [.fls (A.map tupS),.fls (B.map tupS)] h=À (.fls ((A.filter λk=>B.contains k).map tupS),h):=by
 refine qA (n:=3) ?_ (a.sub _).dt;have es:kA (A.filter λk=>B.contains k)=A.filter λk=>B.contains k:=wb (vc _) (a.sub _).up λx=>ssort_mem
 have hl:=jE (λk=>B.contains k) A;have l1:=a.len;have l2:=b.len;have ex:xo (λa b=>a.filter (b.contains ·)) (zd 0) (zd 1) [À (.fls (A.map tupS)),À (.fls (B.map tupS))] h=À (.fls ((A.filter λk=>B.contains k).map tupS),h):=by
  unfold xo p9;erw[bnd,zd,qS,getL,ql,bp,qW,uE];rw[zQ ⟨by omega,by rw[es];omega,λk hk=>a.ne k (jc.mp hk).1⟩,es]
 erw[kQ,zE,kI,je,zz,kY,Æ,jr,jb,b8,kf,ex]
def WU(a:Kd hs A)(b:Kd hs B):(step F).aK [.fls (A.map tupS),.fls (B.map tupS)] h=À (.fls ((kA (A++B)).map tupS),h):=by
 refine qA (n:=3) ?_ (a.join b).dt;have l0:=(a.join b).len;have l1:=a.len;have l2:=b.len;have ex:xo (λa b=>a++b) (zd 0) (zd 1) [À (.fls (A.map tupS)),À (.fls (B.map tupS))] h=À (.fls ((kA (A++B)).map tupS),h):=by
  unfold xo p9;erw[bnd,zd,qS,getL,ql,bp,qW,uE];rw[zQ ⟨by omega,by omega,λk hk=>(zx.mp hk).elim (a.ne k) (b.ne k)⟩]
 erw[kQ,zE,kI,je,zz,kY,Æ,jr,jb,cC,kf,ex]
def Y8(a:Kd hs M):(step (step F)).aF [.fls (M.map tupS),.tup (zk hs)] h=À (.bl Â,h):=by
 have e:=λh=>FG (F:=F) (h:=h) a.hh
 generalize step F=G at e;refine qA (n:=1) ?_ rfl;have l1:=a.len;have gk:=iA hs a.hh;have ea:∀(r:En) (h:MH),kz (kF (zd 0)) 1 [2] (zw 0) qv (zh (u7 Ä) (zd 0) (zd 1)) [À (.fls (M.map tupS)),À (.tup (zk hs)),À (.fls ((kL hs).map tupS))] h=À (.fls ((M.map tupS).map λ_=>.bl Â),h):=λr h=>by
  refine(eM (l:=M.map tupS) (λ_=>Â) (λ_=>.bl Â) ?_ ?_ ?_ ?_ ?_).trans ?_
  .simp![kF,srcOf]
  .intro w hw H';rfl
  .intro w hw _ H'
   obtain⟨k,hk,rfl⟩:=zK.mp hw;have:=lV (h:=H') (y:=.fls ((kL hs).map tupS)) (a.good k hk) gk rfl;rw[v7.mpr (a.u k hk)] at this;simp![this]
  .intro w hw _;unfold low;rfl
  .erw[zG];exact zp l1 (by decide)
  .rw[vD.mpr λ_ _=>rfl]
 have eb:∀h,rB [.fls ((M.map tupS).map λ_=>.bl Â)] h=À (.bl Â,h):=λh=>by
  have:=UI (M.map tupS) λ_=>Â
  erw[rB,mZ,qS,getL,this];rw[kE.mpr λx hx=>by obtain⟨_,_,rfl⟩:=zK.mp hx;rfl]
 have es:kA M=M:=wb (vc _) a.up λx=>ssort_mem
 have ec:∀h,fy (.fls (M.map tupS)) h=À (.fls (M.map tupS),h):=λh=>by
  unfold fy;erw[qS,getL,ql,bp];rw[zQ ⟨by omega,by rw[es];omega,a.ne⟩,es]
 have ed:∀h,eqB h (.fls (M.map tupS)) (.fls (M.map tupS))=À Â:=λh=>(a.eq a h).trans (by simp)
 have el:∀h,isW .list (.fls (M.map tupS)) h=À (.bl Â,h):=λh=>rfl
 generalize M.map tupS=Z at *;generalize (Z.map λ_=>W.bl Â)=Y at *;simp![cj,e,el,ea [],eb,ec,ed]
end
def gY(e:mi ρ h=À (.items l,h1)):vS mi g b ρ h=forL g b l ρ h1:=by
 unfold vS;rw[e]
def Zv(Q:En->Prop)(l:List W)(hs:∀w∈l,∀ρ,Q ρ->∃mN oj,g w ρ h=À (mN,h)/\b mN h=À (.nx oj,h)/\Q oj):∀ρ,Q ρ->∃ρ',Q ρ'/\forL g b l ρ h=À (.nx ρ',h):=by
 induction l with
 | nil=>intro ρ q;exact⟨ρ,q,by simp[forL]⟩
 | cons w r ih=>
  intro ρ q;obtain⟨mN,oj,e1,e2,q2⟩:=hs w zF ρ q;obtain⟨ρ',q',e3⟩:=ih (λv hv=>hs v (zq _ hv)) oj q2;refine⟨ρ',q',?_⟩;unfold forL;rw[e1];erw[e2];exact e3
def JT:∀v∈([("a":Ç),"b","c","d"]:List Ç),∀hs∈hnd,[("read":Ç),v]∈kL hs/\[("write":Ç),v]∈kL hs:=by decide +kernel
def DV:∀hs∈hnd,∀x∈([[("say":Ç)],["ask"]]:List (List Ç)),x∈kL hs:=by decide +kernel
def Gc:∀hs∈hnd,∀v∈hs,[("do":Ç),v]∈kL hs:=by decide +kernel
def QX(hh:hs∈hnd)(h:x∈uni hs)(s:iX [] x):x∈kL hs:=by
 unfold uni at h;rcases zx.mp h with z | z
 .rcases zx.mp z with z | z
  .obtain⟨v,_,z⟩:=v8.mp z
   erw[zg,zA,kO] at z;rcases z with rfl | rfl
   .exact(JT v ((shel_mem.mp (s _ v rfl ⋯)).resolve_right nofun) hs hh).1
   .exact(JT v ((shel_mem.mp (s _ v rfl ⋯)).resolve_right nofun) hs hh).2
  .exact DV hs hh x z
 .obtain⟨v,hv,rfl⟩:=zK.mp z
  exact Gc hs hh v hv
def FX:∀hs∈hnd,∀x∈kL hs,x∈uni hs:=by decide +kernel
structure KB(rl:List W)(B:List (List (List Ç))):Prop where
 len:B.length=rl.length
 at_:∀(i:Nat) (ks:List (List Ç)),B[i]?=À ks->∀(N hs:List Ç) (body:W),rl[i]?=À (.tup [.tup (zk N),.tup (zk hs),body])->Kd hs ks
section
variable{rl:List W}{B K:List (List (List Ç))}
def KB.row(k:KB rl K)(hr:RG rl)(hi:i<rl.length):∃(N hs:List Ç) (body:W) (ks:List (List Ç)),rl[i]?=À (.tup [.tup (zk N),.tup (zk hs),body])/\K[i]?=À ks/\Kd hs ks:=by
 obtain⟨N,hs,body,e,_⟩:=hr.g i hi;have hk:i<K.length:=by rw[k.len];exact hi
 exact⟨N,hs,body,K[i],e,zM hk,k.at_ i _ (zM hk) N hs body e⟩
def KB.mem(k:KB rl K)(hr:RG rl)(h:ks∈K):∃hs,Kd hs ks:=by
 obtain⟨i,e⟩:=qJ.mp h;obtain⟨N,hs,body,pf,_,e',kd⟩:=k.row hr (i:=i) (by rw[<-k.len];exact(zu.mp e).1);rw[e] at e';cases e';exact⟨hs,kd⟩
def XQ(hr:RG rl)(b:BodsOk rl B):∀i,i<=B.length->∀ks∈B.take i,∀x∈ks,iX [] x:=by
 intro i;induction i with
 | zero=>intro _ ks hk;simp at hk
 | succ i ih=>
  intro hi ks hk x hx;have ih:=ih ∅;rw[List.take_succ,zx] at hk;rcases hk with z | z
  .exact ih ks z x hx
  .have e:B[i]?=À ks:=by simpa using z
   obtain⟨N,hs,body,e',_,_,_,_,_,o,_,sc,_⟩:=hr.g i (zN hi b.len);have hm:=((b.at_ i ks e N hs body e').2.2.2 x).mp hx;rw[dM (B':=B.take i) (λj hj=>by rw[uz hj]) o] at hm;exact YW ih o sc x hm
def iY(hr:RG rl)(b:BodsOk rl B):∀ks∈B,∀x∈ks,iX [] x:=by
 have:=XQ hr b B.length (zy _);rwa [xV] at this
def Xn(hr:RG rl)(b:BodsOk rl B)(bl:B.length=rl.length):KB rl B:=by
 refine⟨bl,λi ks e N hs body e'=>?_⟩;obtain⟨N',Ak,xI,e2,_,_,_,_,_,_,_,_,hh⟩:=hr.g i (zu.mp e').1;have q:=e'.symm.trans e2;erw[xq,W.tup.injEq,vd,uB] at q;obtain⟨_,q,_⟩:=q;have q:=x9 q;subst q;obtain⟨u,_,x1,_⟩:=b.at_ i ks e N hs body e';exact⟨hh,u,λx hx=>QX hh (x1 x hx) (iY hr b ks (jz e) x hx)⟩
def KB.env(k:KB rl K)(hr:RG rl)(E:Env0 rl B rl.length):Env0 rl K rl.length:=
 ⟨E.lr,Nat.le_of_eq k.len.symm,λks h=>by obtain⟨hs,q⟩:=k.mem hr h;exact zp q.len (by decide),λks h=>by obtain⟨hs,q⟩:=k.mem hr h;exact q.good,λks h=>by obtain⟨hs,q⟩:=k.mem hr h;exact q.ne,E.hg⟩
def KB.uni(k:KB rl K)(hr:RG rl):lT K rl.length []:=λi ks hi e x hx n=>by
 obtain⟨hs,q⟩:=k.mem hr (jz e);exact ol (FX hs q.hh x (q.u x hx)) n
structure Mb(rl:List W)(K:List (List (List Ç)))(n:Nat)(w:W)(M:List (List Ç)):Prop where
 up:cv M
 me:∀x,x∈M↔x∈mk rl K n w
 u:∀x∈M,x∈uni []
 l:M.length<=34
 e:∀F h,(step (step (step (step F)))).aY [.tup rl,.fls (bw K),w] h=À (.fls (M.map tupS),h)
def Mb.good{M:List (List Ç)}(m:Mb rl K n w M):∀x∈M,ko x=Â:=λx hx=>(dR (λv hv=>by simp at hv) x (m.u x hx)).1
def KS(hr:RG rl)(k:KB rl K)(E:Env0 rl B rl.length)(hn:n<=5)(hm:m<=60)(p:pl m w=Â)(o:okd rl rl.length [] n w):∃M,Mb rl K n w M:=by
 have Bo:∀h,Bod h K (.fls (bw K)):=λh=>⟨rfl,λl=>nofun,λz=>nofun⟩
 have Ll:=λF h=>s_by (F:=F) (k.env hr E) (k.uni hr) (λv hv=>by simp at hv) (by simp) (Bo h) (vi (wt p) hm) o (zp (pQ n w p) (zp (jZ ∅ hn) (by decide)))
 obtain⟨M,m1,m2,m3,m4,_⟩:=Ll Fs.bot [];refine⟨M,m1,m2,m3,m4,λF h=>?_⟩;obtain⟨M',n1,n2,n3,n4,n5⟩:=Ll F h;have:M=M':=wb m1 n1 λx=>(m2 x).trans (n2 x).symm
 subst this;exact n5
theorem DN{i:Nat}{ks:List (List Ç)}(e:K[i]?=À ks):(bw K)[i]?=À (.fls (ks.map tupS)):=by
 unfold bw;rw[kh,e];rfl
theorem pO{i:Nat}{ks:List (List Ç)}(hl:K.length<=100)(e:K[i]?=À ks)(h:MH):zC (.fls (bw K)) (.int (i:Int)) h=À (.fls (ks.map tupS),h):=by
 have hi:=(zu.mp e).1;have:=(show Bod h K (.fls (bw K)) from ⟨rfl,λl=>nofun,λz=>nofun⟩).ix hi;rw[this];rw[zM hi] at e;cases e;rfl
def Xa{i:Nat}(hl:rl.length<=100)(e:rl[i]?=À r)(h:MH):zC (.tup rl) (.int (i:Int)) h=À (r,h):=by
 have hi:=(zu.mp e).1;exact YE ∅ ∅ (by simpa using e)
def gR:(bw K).length=K.length:=zG ..
def rp(hr:RG rl)(k:KB rl K)(F:Fs)(h:MH):(step (step (step F))).aB [.tup rl,.fls (bw K)] h=À (.non,h):=by
 have e:∀(hs:List Ç) (M:List (List Ç)),Kd hs M->∀h,(step (step F)).aF [.fls (M.map tupS),.tup (zk hs)] h=À (.bl Â,h):=λhs M q h=>Y8 q
 generalize step (step F)=G at e;have lr:=hr.l;have lk:=k.len;have ez:∀ρ:En,ρ[0]?=À (À (.tup rl))->ρ[1]?=À (À (.fls (bw K)))->ar [zd 0,zd 1] ρ h=À (.items ((rl.zip (bw K)).map λp=>.tup [p.1,p.2]),h):=λρ h0 h1=>by
  simp[ar,xC,bnd,zd,h0,h1,rO,u3]
 obtain⟨ρ',⟨o2,o3,rfl⟩,ef⟩:=Zv (g:=vE [zw 2,zw 3]) (b:=kX (w9 (zS (ze G.aF [zd 3,zh zC (zd 2) (Pu 1)]))) iE kg) (h:=h) (λρ=>∃o2 o3,ρ=[À (.tup rl),À (.fls (bw K)),o2,o3]) ((rl.zip (bw K)).map λp=>.tup [p.1,p.2]) (λw hw ρ ⟨o2,o3,e0⟩=>by
  subst e0;obtain⟨p,hp,rfl⟩:=zK.mp hw;obtain⟨i,hi⟩:=qJ.mp hp;rw[uv] at hi;obtain⟨N,hs,body,ks,e1,e2,kd⟩:=k.row hr (zu.mp hi.1).1;have e3:=DN e2;rw[hi.1] at e1;rw[hi.2] at e3;erw[xq] at e1 e3;refine⟨[À (.tup rl),À (.fls (bw K)),À p.1,À p.2],[À (.tup rl),À (.fls (bw K)),À p.1,À p.2],by simp[vE,eZ,bnd,zw],?_,_,_,rfl⟩;rw[e1,e3];have:=e hs ks kd h;generalize bw K=Z;generalize ks.map tupS=Y at this
  simp![bq,this]) [À (.tup rl),À (.fls (bw K)),Á,Á] ⟨Á,Á,rfl⟩
 refine qA (n:=1) ?_ rfl;have ef:=(gY (g:=vE [zw 2,zw 3]) (b:=kX (w9 (zS (ze G.aF [zd 3,zh zC (zd 2) (Pu 1)]))) iE kg) (ez [À (.tup rl),À (.fls (bw K)),Á,Á] rfl rfl)).trans ef;have l1:∀h,kK [.tup rl] h=À (.int (rl.length:Int),h):=λh=>by simp[kK]
 have l2:∀h,kK [.fls (bw K)] h=À (.int (rl.length:Int),h):=λh=>by simp[kK,getL,gR,lk]
 have row:aP G [À (.tup rl),À (.fls (bw K)),Á,Á] h=À (.nx [À (.tup rl),À (.fls (bw K)),o2,o3],h):=by
  unfold aP;rw[zt (ρ':=[À (.tup rl),À (.fls (bw K)),Á,Á]) (h':=h) (by simp![l1,l2,qV])];exact ef
 erw[kQ,zE,kI,je,zz,kY,Æ,jr,jb];erw[row]
end
section
variable{rl:List W}{B K:List (List (List Ç))}
noncomputable def ff(K:List (List (List Ç))):List (List (List Ç))->Nat->Option (Nat×List (List Ç))
 | [],_=>Á
 | ks::r,i=>if (lack ks ((K[i]?).getD [])).isEmpty=Â then ff K r (i+1) else À (i,lack ks ((K[i]?).getD []))
noncomputable def g8:Option (Nat×List (List Ç))->W
 | none=>.non
 | some p=>.tup [.int (p.1:Nat),.fls (p.2.map tupS)]
noncomputable def rX(G:Fs):MS:=zl (zI (ze G.aU [zd 3,zh zC (zd 1) (zd 2)]) (zw 4)) (kX (zS (zh Qs (ze kK [zd 4]) (Pu 0))) (kf (ze zo [zd 2,zd 4])) kg)
def Uq{G:Fs}(eL:∀A B:List (List Ç),(∀x∈A,ko x=Â)->(∀x∈B,ko x=Â)->A.length<=100->∀h,G.aU [.fls (A.map tupS),.fls (B.map tupS)] h=À (.fls ((lack A B).map tupS),h))(gK:∀ks∈K,∀x∈ks,ko x=Â)(lK:K.length<=100) :
  ∀(Bs:List (List (List Ç))) (i:Nat) (o2 o3 o4:Option W),(∀ks∈Bs,(∀x∈ks,ko x=Â)/\ks.length<=100)->i+Bs.length<=K.length->
   ∃p2 p3 p4,forL (vE [zw 2,zw 3]) (rX G) ((Bs.zipIdx i).map λp=>.tup [.int (p.2:Nat),.fls (p.1.map tupS)]) [À (.tup rl),À (.fls (bw K)),o2,o3,o4] h=À (match ff K Bs i with | none=>.nx [À (.tup rl),À (.fls (bw K)),p2,p3,p4] | some p=>.ret (g8 (À p)),h):=by
 intro Bs;induction Bs with
 | nil=>intro i o2 o3 o4 _ _;exact⟨o2,o3,o4,by simp[forL,ff]⟩
 | cons ks r ih=>
  intro i o2 o3 o4 gB hl;rw[zE] at hl;have hi:i<K.length:=by omega
  have ek:K[i]?=À K[i]:=zM hi;obtain⟨g1,l1⟩:=gB ks zF;have e1:=eL ks K[i] g1 (gK _ (qY hi)) l1;have e2:=λh=>pO lK ek h
  have ll:(lack ks K[i]).length<=100:=zp (jE _ _) l1;have c2:(2:Nat)<=cap:=by decide
  have ln:∀h,kK [.fls ((lack ks K[i]).map tupS)] h=À (.int ((lack ks K[i]).length:Int),h):=λh=>by simp[kK,getL]
  have st:∀o4:Option W,(zI (ze G.aU [zd 3,zh zC (zd 1) (zd 2)]) (zw 4)) [À (.tup rl),À (.fls (bw K)),À (.int (i:Nat)),À (.fls (ks.map tupS)),o4] h=À (.nx [À (.tup rl),À (.fls (bw K)),À (.int (i:Nat)),À (.fls (ks.map tupS)),À (.fls ((lack ks K[i]).map tupS))],h):=λo4=>by
   generalize (lack ks K[i]).map tupS=Z at e1;generalize K[i].map tupS=Y at e1 e2;generalize bw K=X at e2;simp![e1,e2]
  have g:vE [zw 2,zw 3] (.tup [.int (i:Nat),.fls (ks.map tupS)]) [À (.tup rl),À (.fls (bw K)),o2,o3,o4] h=À ([À (.tup rl),À (.fls (bw K)),À (.int (i:Nat)),À (.fls (ks.map tupS)),o4],h):=by simp[vE,eZ,bnd,zw]
  rw[xU,zz];unfold ff;rw[ek,qj];cases q:(lack ks K[i]).isEmpty with
  | true=>
   obtain⟨p2,p3,p4,e⟩:=ih (i+1) (À (.int (i:Nat))) (À (.fls (ks.map tupS))) (À (.fls ((lack ks K[i]).map tupS))) (λk hk=>gB k (zq _ hk)) ∅;refine⟨p2,p3,p4,?_⟩;rw[zQ rfl,<-e];conv=>lhs;unfold forL
   rw[g];have b:rX G [À (.tup rl),À (.fls (bw K)),À (.int (i:Nat)),À (.fls (ks.map tupS)),o4] h=À (.nx [À (.tup rl),À (.fls (bw K)),À (.int (i:Nat)),À (.fls (ks.map tupS)),À (.fls ((lack ks K[i]).map tupS))],h):=by
    unfold rX;rw[zt (st o4)];have q0:((lack ks K[i]).length:Int)=0:=by rw[yj.mp q];rfl
    refine fN ?_;rw[q0] at ln;generalize (lack ks K[i]).map tupS=Z at ln;simp![ln,vv]
   erw[b]
  | false=>
   refine⟨Á,Á,Á,?_⟩;rw[zX (by decide)];unfold forL;rw[g];have b:rX G [À (.tup rl),À (.fls (bw K)),À (.int (i:Nat)),À (.fls (ks.map tupS)),o4] h=À (.ret (g8 (À (i,lack ks K[i]))),h):=by
    unfold rX;rw[zt (st o4)];have q0:0<((lack ks K[i]).length:Int):=by
     cases z:lack ks K[i] with
     | nil=>rw[z] at q;cases q
     | cons _ _=>rw[zE];omega
    unfold g8;generalize ((lack ks K[i]).length:Int)=y at ln q0;simp only;generalize (lack ks K[i]).map tupS=Z at ln ⊢;refine tq (f:=.ret _) ?_ ?_
    .simp![ln,vv,q0]
    .simp![zo,c2]
   erw[b]
def Z1(h:∀(i:Nat) ks,B[i]?=À ks->∀x∈ks,x∈(K[i]?).getD []):ff K B 0=Á:=by
 have key:∀(Bs:List (List (List Ç))) (j:Nat),(∀(i:Nat) ks,Bs[i]?=À ks->∀x∈ks,x∈(K[j+i]?).getD [])->ff K Bs j=Á:=by
  intro Bs;induction Bs with
  | nil=>intro j _;rfl
  | cons ks r ih=>
   intro j h;unfold ff;have h0:=h 0 ks rfl;rw[vJ] at h0;rw[zQ (lack_nil.mpr h0)];exact ih (j+1) λi pf e=>by rw[show j+1+i=j+(i+1) by omega];exact h (i+1) pf e
 exact key B 0 λi ks e=>by rw[yz];exact h i ks e
def X8(e:B[i]?=À ks)(h:∀(j:Nat) ks,j<i->B[j]?=À ks->∀x∈ks,x∈(K[j]?).getD [])(hL:lack ks ((K[i]?).getD [])=L)(ne:L≠[]):ff K B 0=À (i,L):=by
 have key:∀(Bs:List (List (List Ç))) (j i:Nat),Bs[i]?=À ks->(∀(k:Nat) ks,k<i->Bs[k]?=À ks->∀x∈ks,x∈(K[j+k]?).getD [])->lack ks ((K[j+i]?).getD [])=L->ff K Bs j=À (j+i,L):=by
  intro Bs;induction Bs with
  | nil=>intro j i e;simp at e
  | cons k0 r ih=>
   intro j i e h hL;unfold ff;cases i with
   | zero=>
    cases e;rw[vJ] at hL;rw[hL,zX (by rw[yj];exact ne)];rfl
   | succ i=>
    have h0:=h 0 k0 ∅ rfl;rw[vJ] at h0;rw[zQ (lack_nil.mpr h0),ih (j+1) i e (λk ks hk e=>by rw[show j+1+k=j+(k+1) by omega];exact h (k+1) ks ∅ e) (by rw[show j+1+i=j+(i+1) by omega];exact hL)];rw[show j+1+i=j+(i+1) by omega]
 have:=key B 0 i e (λk ks hk e=>by rw[yz];exact h k ks hk e) (by rw[yz];exact hL);rw[yz] at this;exact this
def Cg:∀(Bs:List (List (List Ç))) (j:Nat) (p:Nat×List (List Ç)),ff K Bs j=À p->∃ks∈Bs,∀x∈p.2,x∈ks:=by
 intro Bs;induction Bs with
 | nil=>intro j p e;cases e
 | cons ks r ih=>
  intro j p e;unfold ff at e;split at e
  .obtain⟨k,hk,q⟩:=ih _ _ e
   exact⟨k,zq _ hk,q⟩
  .cases e
   exact⟨ks,zF,λx hx=>(jc.mp hx).1⟩
theorem i4:ML.numbered (bw B)=(B.zipIdx 0).map λp=>.tup [.int (p.2:Nat),.fls (p.1.map tupS)]:=by
 unfold ML.numbered bw;rw[List.zipIdx_map,kZ];rfl
noncomputable def EB(rl:List W)(B:List (List (List Ç))):Prop:=∀F h,(step (step (step (step (step F))))).az [.tup rl] h=À (.fls (bw B),h)
def D0(hr:RG rl)(b:KB rl B):dt 4 (.fls (bw B))=Â:=QC (by rw[gR,b.len];exact zp hr.l (by decide)) λw hw=>by
 obtain⟨ks,hk,rfl⟩:=zK.mp hw;obtain⟨hs,kd⟩:=b.mem hr hk;exact kd.dt
def ZQ(hr:RG rl)(b:KB rl B)(eb:EB rl B)(F:Fs)(h:MH):(step (step (step (step (step (step F)))))).aL [.tup rl] h=À (.fls (bw B),h):=by
 have e:=eb F;generalize step (step (step (step (step F))))=G at e;refine qA (n:=4) ?_ (D0 hr b);generalize bw B=Z at e;simp![bN,e]
def DF(hr:RG rl)(b:KB rl B)(eb:EB rl B){ks:List (List Ç)}(ei:B[i]?=À ks)(F:Fs)(h:MH):(step (step (step (step (step (step F)))))).aJ [.tup rl,.int (i:Nat)] h=À (.fls (ks.map tupS),h):=by
 have e:=eb F;generalize step (step (step (step (step F))))=G at e;obtain⟨hs,kd⟩:=b.mem hr (jz ei);refine qA (n:=3) ?_ kd.dt;have ex:=λh=>pO (by rw[b.len];exact zp hr.l (by decide)) ei h
 generalize bw B=Z at e ex;generalize ks.map tupS=Y at ex;simp![bG,e,ex]
def Gh(hr:RG rl)(b:KB rl B)(k:KB rl K)(eb:EB rl B)(F:Fs)(h:MH):(step (step (step (step (step (step (step F))))))).aH [.tup rl,.fls (bw K)] h=À (g8 (ff K B 0),h):=by
 have e1:=λh=>ZQ hr b eb F h
 have e2:=λh=>rp hr k (step (step (step F))) h
 have e3:∀A B:List (List Ç),(∀x∈A,ko x=Â)->(∀x∈B,ko x=Â)->A.length<=100->∀h,(step (step (step (step (step (step F)))))).aU [.fls (A.map tupS),.fls (B.map tupS)] h=À (.fls ((lack A B).map tupS),h):=λA B g1 g2 l h=>rF g1 g2 l
 generalize step (step (step (step (step (step F)))))=G at e1 e2 e3;have lr:=hr.l;obtain⟨p2,p3,p4,ef⟩:=Uq (rl:=rl) (h:=h) e3 (λks hk=>by obtain⟨hs,q⟩:=k.mem hr hk;exact q.good) (by rw[k.len];omega) B 0 Á Á Á (λks hk=>by obtain⟨hs,q⟩:=b.mem hr hk;exact⟨q.good,zp q.len (by decide)⟩) (by rw[k.len,b.len];omega);have d:dt 4 (g8 (ff K B 0))=Â:=by
  cases q:ff K B 0 with
  | none=>rfl
  | some p=>
   obtain⟨ks,hk,hp⟩:=Cg B 0 p q;obtain⟨hs,kd⟩:=b.mem hr hk;unfold g8;refine uk (by simp) λw hw=>?_
   erw[zg,zA,kO] at hw;rcases hw with rfl | rfl
   .rfl
   .refine xh ?_ λx hx=>kd.good x (hp x hx)
    have:∀(Bs:List (List (List Ç))) (j:Nat) (p:Nat×List (List Ç)),(∀ks∈Bs,ks.length<=1000)->ff K Bs j=À p->p.2.length<=1000:=by
     intro Bs;induction Bs with
     | nil=>intro j p _ e;cases e
     | cons k0 r ih=>
      intro j p hB e;unfold ff at e;split at e
      .exact ih _ _ (λk hk=>hB k (zq _ hk)) e
      .cases e
       exact zp (jE _ _) (hB k0 zF)
    exact this B 0 p (λks hk=>by obtain⟨hs,q⟩:=b.mem hr hk;exact zp q.len (by decide)) q
 refine qA (n:=4) ?_ d;have ei:w8 [ze G.aL [zd 0]] [À (.tup rl),À (.fls (bw K)),Á,Á,Á] h=À (.items ((B.zipIdx 0).map λp=>.tup [.int (p.2:Nat),.fls (p.1.map tupS)]),h):=by
  rw[<-i4];generalize bw B=Z at e1;generalize bw K=Y;simp![w8,l5,u3,e1]
 have es:=(gY (g:=vE [zw 2,zw 3]) (b:=rX G) ei).trans ef;have s0:yY (ze G.aB [zd 0,zd 1]) [À (.tup rl),À (.fls (bw K)),Á,Á,Á] h=À (.nx [À (.tup rl),À (.fls (bw K)),Á,Á,Á],h):=by
  generalize bw K=Y at e2;simp![e2]
 have row:bJ G [À (.tup rl),À (.fls (bw K)),Á,Á,Á] h=À (.ret (g8 (ff K B 0)),h):=by
  show zl (yY (ze G.aB [zd 0,zd 1])) (zl (vS (w8 [ze G.aL [zd 0]]) (vE [zw 2,zw 3]) (rX G)) (kf (eC .non))) _ h=_
  rw[zt s0];cases q:ff K B 0 with
  | none=>rw[q] at es;rw[zt es];rfl
  | some p=>rw[q] at es;rw[we es]
 erw[kQ,zE,kI,je,zz,kY,Æ,jr,jb];erw[row]
def rY(hr:RG rl)(k:KB rl K){M:List (List Ç)}(m:Mb rl K n w M)(F:Fs)(h:MH):(step (step (step (step (step F))))).aC [.tup rl,.fls (bw K),w] h=À (.fls (M.map tupS),h):=by
 have e1:=λh=>rp hr k (step F) h
 have e2:=m.e F;generalize step (step (step (step F)))=G at e1 e2;refine qA (n:=3) ?_ (xh (zp m.l (by decide)) m.good);generalize bw K=Y at e1 e2;generalize M.map tupS=Z at e2;simp![bF,e1,e2]
def Yn{M A:List (List Ç)}(gm:∀x∈M,ko x=Â)(lm:M.length<=100)(ga:∀x∈A,ko x=Â)(t:∀h,(step F).aZ [.tup rl,w] h=À (.fls (M.map tupS),h))(h:MH):(step (step F)).bh [.tup rl,w,.fls (A.map tupS)] h=À (.fls ((lack M A).map tupS),h):=by
 have e:=λh=>rF (F:=F) (h:=h) gm ga lm
 generalize step F=G at e t;refine qA (n:=3) ?_ (xh (zp (jE _ _) ∅) λk hk=>gm k (jc.mp hk).1);generalize M.map tupS=X at e t;generalize A.map tupS=Y at e;generalize (lack M A).map tupS=Z at e;simp![bW,e,t]
def BR{M A:List (List Ç)}(gm:∀x∈M,ko x=Â)(lm:M.length<=100)(ga:∀x∈A,ko x=Â)(t:∀h,(step F).aZ [.tup rl,w] h=À (.fls (M.map tupS),h))(h:MH):(step (step (step F))).cI [.tup rl,w,.fls (A.map tupS)] h=À (.bl (lack M A).isEmpty,h):=by
 have e:=λh=>Yn gm lm ga t h
 generalize step (step F)=G at e;refine qA (n:=1) ?_ rfl;generalize lack M A=Z at e;have ln:∀h,kK [.fls (Z.map tupS)] h=À (.int (Z.length:Int),h):=λh=>by simp[kK,getL]
 generalize A.map tupS=Y at e;simp![cL,e,ln,qV,sj]
end
def GP:kx (.int 20) (.int a) h=À (.int (20*a),h):=by
 have:(small 20||small a)=Â:=by rw[show small 20=Â by decide];rfl
 erw[kx,this,je]
section
variable{rl:List W}{B K:List (List (List Ç))}{ns:List Int}
theorem m8{G:Fs}(hr:RG rl)(b:KB rl B)(eK:∀hs∈hnd,∀a:Int,∃k1,Kd hs k1/\∀h,G.aq [ky ns,.int a,.tup (zk hs)] h=À (.fls (k1.map tupS),h))
  (eJ:∀(hs:List Ç) (A B:List (List Ç)),Kd hs A->Kd hs B->∀h,G.aK [.fls (A.map tupS),.fls (B.map tupS)] h=À (.fls ((kA (A++B)).map tupS),h)) (c:Int) :
  ∃K,KB rl K/\(∀(i:Nat) ks,B[i]?=À ks->∃pf,K[i]?=À pf/\∀x∈ks,x∈pf)/\∀(ρ:En) (v:Nat) (h:MH),ρ[0]?=À (À (ky ns))->ρ[1]?=À (À (.tup rl))->ρ[v]?=À (À (.fls (bw B)))->
   kz (w8 [zd v]) 2 [0,1] (vE [zw 0,zw 1]) qv (ze G.aK [zd 1,ze G.aq [zd 2,zh addW (eC (.int c)) (zh kx (Pu 20) (zd 0)),zh zC (zh zC (zd 3) (zd 0)) (Pu 1)]]) ρ h=À (.fls (bw K),h):=by
 have ex:∀i,i<rl.length->∃M,∃(N hs:List Ç) (body:W) (ks k1:List (List Ç)),rl[i]?=À (.tup [.tup (zk N),.tup (zk hs),body])/\B[i]?=À ks/\Kd hs ks/\Kd hs k1/\M=kA (ks++k1)/\∀h,G.aq [ky ns,.int (c+20*(i:Nat)),.tup (zk hs)] h=À (.fls (k1.map tupS),h):=λi hi=>by
  obtain⟨N,hs,body,ks,e1,e2,kd⟩:=b.row hr hi;obtain⟨k1,q1,q2⟩:=eK hs kd.hh (c+20*(i:Nat));exact⟨_,N,hs,body,ks,k1,e1,e2,kd,q1,rfl,q2⟩
 obtain⟨J,hJ⟩:∃J:Nat->List (List Ç),∀i,i<rl.length->∃(N hs:List Ç) (body:W) (ks k1:List (List Ç)),rl[i]?=À (.tup [.tup (zk N),.tup (zk hs),body])/\B[i]?=À ks/\Kd hs ks/\Kd hs k1/\J i=kA (ks++k1)/\∀h,G.aq [ky ns,.int (c+20*(i:Nat)),.tup (zk hs)] h=À (.fls (k1.map tupS),h):=
  ⟨λi=>if h:i<rl.length then Classical.choose (ex i h) else [],λi h=>by erw[dif_pos h];exact Classical.choose_spec (ex i h)⟩
 have lr:=hr.l;have at_:∀i,i<rl.length->((_root_.List.range rl.length).map J)[i]?=À (J i):=λi hi=>by rw[kh,yL hi];rfl
 refine⟨(_root_.List.range rl.length).map J,⟨by simp,λi ks e N hs body e'=>?_⟩,λi ks e=>?_,λρ v h h0 h1 hv=>?_⟩
 .have hi:=(zu.mp e').1
  rw[at_ i hi] at e;cases e;obtain⟨N',Ak,xI,ks,k1,e1,e2,a1,a2,a3,_⟩:=hJ i hi;have q:=e'.symm.trans e1;erw[xq,W.tup.injEq,vd,uB] at q;obtain⟨_,q,_⟩:=q;have q:=x9 q;subst q;rw[a3];exact a1.join a2
 .have hi:i<rl.length:=by rw[<-b.len];exact(zu.mp e).1
  obtain⟨N',Ak,xI,pf,k1,e1,e2,a1,a2,a3,_⟩:=hJ i hi;rw[e] at e2;cases e2;exact⟨_,at_ i hi,λx hx=>by rw[a3];exact ssort_mem.mpr (zx.mpr (.inl hx))⟩
 .refine(Ks (l:=B.zipIdx.map λp=>(W.int (p.2:Nat),.fls (p.1.map tupS))) (λ_ _=>Â) (λa x=>match a with | .int k=>.fls ((J k.toNat).map tupS) | _=>x) ?_ ?_ ?_ ?_ ?_).trans ?_
  .have en:=i4 (B:=B)
   rw[kZ];have:((λw:W×W=>W.tup [w.1,w.2])∘λp:List (List Ç)×Nat=>(W.int (p.2:Nat),W.fls (p.1.map tupS)))=λp=>.tup [.int (p.2:Nat),.fls (p.1.map tupS)]:=rfl
   rw[this,<-en];simp[w8,xC,bnd,zd,hv,l5,u3]
  .intro w hw H';rfl
  .intro w hw _ H'
   obtain⟨p,hp,rfl⟩:=zK.mp hw;have AK:=List.mem_zipIdx_iff_getElem?.mp hp;have hi:p.2<rl.length:=by rw[<-b.len];exact(zu.mp AK).1
   obtain⟨N',Ak,xI,pf,k1,e1,e2,a1,a2,a3,a4⟩:=hJ p.2 hi;rw[AK] at e2;cases e2;have i1:=λh=>Xa ∅ e1 h
   have i2:=eJ Ak _ _ a1 a2;rw[<-a3] at i2;have ad:∀h,addW (.int c) (.int (20*(p.2:Nat))) h=À (.int (c+20*(p.2:Nat)),h):=λh=>rfl
   erw[zz,kY,h0,h1,Option.join_some,jo];generalize (J p.2).map tupS=Z at i2 ⊢;generalize p.1.map tupS=Y at i2 ⊢;generalize k1.map tupS=X at i2 a4;generalize zk Ak=V at a4 i1;generalize ky ns=S at a4;simp![GP,ad,i1,bq,a4,i2]
  .intro w hw _
   obtain⟨p,hp,rfl⟩:=zK.mp hw;exact dP _
  .rw[zG,pF,b.len];exact zp lr (by decide)
  .rw[vD.mpr λ_ _=>rfl,kZ]
   unfold bw;rw[kZ];have:B.zipIdx.map (λp=>J p.2)=(_root_.List.range rl.length).map J:=by
    apply List.ext_getElem?
    intro i;rw[kh,uX,kh];by_cases hi:i<rl.length
    .rw[yL hi,zM (by rw[b.len];exact hi)]
     simp
    .rw[jF (l:=B) (by rw[b.len];omega),jF (l:=_root_.List.range rl.length) (by simp;omega)]
     rfl
   rw[<-kZ (g:=λks:List (List Ç)=>W.fls (ks.map tupS)) (f:=J),<-this,kZ];rfl
def VN{ks K:List (List Ç)}(nd:ks.Nodup)(hx:x∈ks)(sub:∀y∈ks,y∈K):lack ks (K.filter λy=>!(y==x))=[x]:=by
 unfold lack;have e:ks.filter (λk=>!(K.filter λy=>!(y==x)).contains k)=ks.filter λk=>k==x:=by
  apply List.filter_congr
  intro k hk;by_cases q:k=x
  .subst q;simp
  .have:(k==x)=Ä:=jB.mpr q
   simp[this,sub k hk,q]
 rw[e];clear e sub;induction ks with
 | nil=>cases hx
 | cons k r ih=>
  rw[jL] at nd;by_cases q:k=x
  .subst q
   rw[List.filter_cons_of_pos (by simp)];congr 1
   rw[uN];intro y hy;simp;rintro rfl;exact nd.1 hy
  .rw[List.filter_cons_of_neg (by simpa using q)]
   exact ih nd.2 ((zg.mp hx).resolve_left λz=>q z.symm)
def KB.less(k:KB rl K){ks:List (List Ç)}(e:K[i]?=À ks)(p:List Ç->Bool):KB rl (K.take i++[ks.filter p]++K.drop (i+1))/\(K.take i++[ks.filter p]++K.drop (i+1))[i]?=À (ks.filter p)/\∀j,j<i->(K.take i++[ks.filter p]++K.drop (i+1))[j]?=K[j]?:=by
 have hi:=(zu.mp e).1;have es:K.take i++[ks.filter p]++K.drop (i+1)=K.set i (ks.filter p):=by
  rw[List.set_eq_take_append_cons_drop,zQ hi,wZ];rfl
 rw[es];refine⟨⟨by rw[List.length_set];exact k.len,λj pf ej N hs body e'=>?_⟩,j8 hi,λj hj=>qu ∅⟩;by_cases q:i=j
 .subst q
  rw[j8 hi] at ej;cases ej;exact(k.at_ i ks e N hs body e').sub p
 .rw[qu q] at ej
  exact k.at_ j pf ej N hs body e'
end
def Wo{rl:List W}(hr:RG rl):∃B,BodsOk rl B/\B.length=rl.length/\EB rl B:=by
 obtain⟨B,b1,b2,_⟩:=JA (F:=Fs.bot) hr;refine⟨B,b1,b2,λF h=>?_⟩;obtain⟨B',c1,c2,c3⟩:=JA (F:=F) hr;have:=oR hr b1 c1 ∅;subst this;exact c3 h
def Jz{rl:List W}{B:List (List (List Ç))}(hr:RG rl)(b:BodsOk rl B)(bl:B.length=rl.length)(eb:EB rl B)(hm:m<=60)(p:pl m w=Â)(o:okc rl rl.length [] [] 3 w) :
  ∃M,Kd [] M/\(∀x,x∈M↔x∈mk rl B 3 w)/\∀F h,(step (step (step (step (step (step F)))))).aZ [.tup rl,w] h=À (.fls (M.map tupS),h):=by
 obtain⟨M,m1,m2,m3,m4,_⟩:=oE (F:=Fs.bot) hr b bl (eb _) ∅ hm p o.1;refine⟨M,⟨by decide +kernel,m1,λx hx=>QX ⋯ (m3 x hx) (YW (iY hr b) o.1 o.2 x ((m2 x).mp hx))⟩,m2,λF=>?_⟩;obtain⟨M',n1,n2,_,_,n5⟩:=oE (F:=F) hr b bl (eb _) ∅ hm p o.1;have:M=M':=wb m1 n1 λx=>(m2 x).trans (n2 x).symm
 subst this;exact n5
def UU(a:Kd hs A)(b:Kd hs B):decide (kA (A++B)=B)=(lack A B).isEmpty:=by
 rw[vU,pB,lack_nil];constructor
 .intro e x hx
  rw[<-e];exact ssort_mem.mpr (zx.mpr (.inl hx))
 .intro h
  exact wb (vc _) b.up λx=>ssort_mem.trans (zx.trans ⟨λz=>z.elim (h x) id,.inr⟩)
def Uw{A B:List (List Ç)}:decide ((A.filter λk=>B.contains k)=A)=(lack A B).isEmpty:=by
 rw[vU,pB,lack_nil,vD];simp
def QI{rl:List W}{B K:List (List (List Ç))}(h:∀(i:Nat) ks,B[i]?=À ks->∃pf,K[i]?=À pf/\∀x∈ks,x∈pf):FP rl.length B K:=λi _ x hx=>by
 cases e:B[i]? with
 | none=>rw[e] at hx;cases hx
 | some ks=>
  obtain⟨pf,e',q⟩:=h i ks e;rw[e] at hx;rw[e'];exact q x hx
noncomputable abbrev ρL(ns:List Int)(a1 a2 a3 a4 a5 a6 a7 a8 a9 Nl Sj Sk:Option W):En:=[À (ky ns),a1,a2,a3,a4,a5,a6,a7,a8,a9,Nl,Sj,Sk]
noncomputable def LB(G:Fs):MS:=(zl (kX (af (w9 (zS (ze G.aF [zh zC (zd 6) (zd 10),zh zC (zh zC (zd 1) (zd 10)) (Pu 1)]))) (zS (zh (jp Â) (zh zC (zd 6) (zd 10)) (ze G.aJ [zd 1,zd 10]))))
 (kf (eC (.bl Ä)))
 kg)
 (kX (zS (zh (jp Â) (zh zC (zd 6) (zd 10)) (ze kG [])))
 (zl (zI (zh zC (zh zC (zd 6) (zd 10)) (ze G.aa [zd 0,zh addW (Pu 520) (zd 10),ze kK [zh zC (zd 6) (zd 10)]])) (zw 11))
 (zl (zI (zh addW (zh addW (bX (zd 7) Á (À (zd 10))) (ze kG [kz (kF (zh zC (zd 7) (zd 10))) 1 [11] (zw 0) (zS (zh (jp Â) (zd 0) (zd 1))) (zd 0)])) (bX (zd 7) (À (zh addW (zd 10) (Pu 1))) Á)) (zw 12))
 (kX (zS (zh (jp Â) (ze G.aH [zd 1,zd 12]) (ze zo [zd 10,ze kG [zd 11]])))
 (kf (eC (.bl Ä)))
 kg)))
 kg))
def V8(g:ko x=Â)(h:MH):eqB h (.tup [.int (i:Nat),.fls [tupS x]]) (.tup [.int (i:Nat),.fls [tupS x]])=À Â:=by
 have d:dt 4 (.tup [.int (i:Nat),.fls [tupS x]])=Â:=uk (by simp) λw hw=>by
  erw[zg,zA,kO] at hw;rcases hw with rfl | rfl
  .rfl
  .exact xh (ks:=[x]) (by simp) λk hk=>by rw[jl.mp hk];exact g
 have e:=wq (h:=h) d (show 4<=deep by decide);unfold eqB;rw[show oQ (.tup [.int (i:Nat),.fls [tupS x]]) (.tup [.int (i:Nat),.fls [tupS x]])=Á from rfl,e];erw[toD,zz,kY,tK,ò,û,dW];simp
def WO(gk:ko k=Â)(gl:ko l=Â):eqB h (tupS k) (tupS l)=À (k==l):=by
 have ef:oQ (tupS k) (tupS l)=Á:=rfl;unfold eqB;rw[ef,eF gk,eF gl];erw[ò,dW];by_cases e:k=l
 .subst e;simp
 .have:(k==l)=Ä:=jB.mpr e
  simp[this,e]
def UZ{A:List (List Ç)}{ρ:En}(g:∀k∈A,ko k=Â)(gx:ko x=Â)(l1:A.length<=100)(hm:mi ρ h=À (.fls (A.map tupS),h))(hx:(ρ[11]?).join=À (tupS x)) :
  kz (kF mi) 1 [11] (zw 0) (zS (zh (jp Â) (zd 0) (zd 1))) (zd 0) ρ h=À (.fls ((A.filter λy=>!(y==x)).map tupS),h):=by
 refine(eM (l:=A.map tupS) (λw=>!((nG w).getD []==x)) id ?_ ?_ ?_ ?_ ?_).trans ?_
 .simp[kF,bnd,hm,srcOf]
 .intro w hw H'
  obtain⟨k,hk,rfl⟩:=zK.mp hw;have:=WO (h:=H') (g k hk) gx;erw[zz,kY,hx,x4,qj];simp![this]
 .intro w hw _ H';simp![]
 .intro w hw _
  obtain⟨k,hk,rfl⟩:=zK.mp hw;exact y9 k
 .erw[zG];exact zp l1 (by decide)
 .rw[u9,wz]
  erw[xH,x4,qj]
def WP{G:Fs}{rl:List W}{B K:List (List (List Ç))}(hr:RG rl)(kb:KB rl B)(kk:KB rl K)(sK:∀(i:Nat) ks,B[i]?=À ks->∃pf,K[i]?=À pf/\∀x∈ks,x∈pf)
  (fI:∀(hs:List Ç) (M:List (List Ç)),Kd hs M->∀h,G.aF [.fls (M.map tupS),.tup (zk hs)] h=À (.bl Â,h)) (fU:∀(i:Nat) ks,B[i]?=À ks->∀h,G.aJ [.tup rl,.int (i:Nat)] h=À (.fls (ks.map tupS),h))
  (fX:∀K,KB rl K->∀h,G.aH [.tup rl,.fls (bw K)] h=À (g8 (ff K B 0),h)) (fD:∀(k many:Int) (h:MH),0<many->G.aa [ky ns,.int k,.int many] h=À (.int (vT ns k many),h))
  (hi:i<rl.length) (a2 a3 a4 a5 a8 a9 Er AV:Option W) :
  ∃OX OY,LB G (ρL ns (À (.tup rl)) a2 a3 a4 a5 (À (.fls (bw B))) (À (.fls (bw K))) a8 a9 (À (.int (i:Nat))) Er AV) h=À (.nx (ρL ns (À (.tup rl)) a2 a3 a4 a5 (À (.fls (bw B))) (À (.fls (bw K))) a8 a9 (À (.int (i:Nat))) OX OY),h):=by
 obtain⟨N,hs,body,ks,er,eB,kd⟩:=kb.row hr hi;obtain⟨k1,eK,sub⟩:=sK i ks eB;have lr:=hr.l;have i1:=λh=>pO (by rw[kb.len];omega) eB h
 have i2:=λh=>pO (by rw[kk.len];omega) eK h
 have i3:=λh=>Xa ∅ er h
 have OZ:=kk.at_ i k1 eK N hs body er;have e1:=fI hs ks kd;have e2:=fU i ks eB;have e3:=λh=>(kd.eq kd h).trans (by rw[kJ rfl])
 have c0:(0:Nat)<=cap:=by decide
 have c1:(1:Nat)<=cap:=by decide
 have c2:(2:Nat)<=cap:=by decide
 have s0:∀Er AV,(kX (af (w9 (zS (ze G.aF [zh zC (zd 6) (zd 10),zh zC (zh zC (zd 1) (zd 10)) (Pu 1)]))) (zS (zh (jp Â) (zh zC (zd 6) (zd 10)) (ze G.aJ [zd 1,zd 10])))) (kf (eC (.bl Ä))) kg) (ρL ns (À (.tup rl)) a2 a3 a4 a5 (À (.fls (bw B))) (À (.fls (bw K))) a8 a9 (À (.int (i:Nat))) Er AV) h=À (.nx (ρL ns (À (.tup rl)) a2 a3 a4 a5 (À (.fls (bw B))) (À (.fls (bw K))) a8 a9 (À (.int (i:Nat))) Er AV),h):=λEr AV=>by
  generalize bw B=X at i1;generalize bw K=Y;generalize ks.map tupS=Z at i1 e1 e2 e3;generalize zk hs=V at e1 i3;generalize ky ns=S;simp![i1,i3,bq,e1,e2,e3]
 have e4:=λh=>lD (h:=h) kd.dt ∅
 have em:(ks.map tupS).isEmpty=ks.isEmpty:=by cases ks<;>rfl
 rw[em] at e4;unfold LB;rw[zt (s0 Er AV)];cases q:ks.isEmpty with
 | true=>
  refine⟨Er,AV,fN ?_⟩;rw[q] at e4;generalize bw B=X at i1;generalize bw K=Y;generalize ks.map tupS=Z at i1 e4;generalize ky ns=S;simp![i1,e4,kG,c0]
 | false=>
  rw[q] at e4;have hp:(0:Int)<(ks.length:Int):=by
   cases ks with
   | nil=>cases q
   | cons _ _=>rw[zE];omega
  obtain⟨v,hv,ev⟩:=d7 (l:=ks.map tupS) (kr (ns:=ns) (k:=520+(i:Nat)) (many:=ks.length) hp).1 (by rw[zG];exact(kr (ns:=ns) (k:=520+(i:Nat)) (many:=ks.length) hp).2);obtain⟨x,hx,rfl⟩:=zK.mp hv;have d1:=λh=>fD (520+(i:Nat)) ks.length h hp
  have ln:∀h,kK [.fls (ks.map tupS)] h=À (.int (ks.length:Int),h):=λh=>by simp[kK,getL]
  have gx:=kd.good x hx;obtain⟨kl,el,ej⟩:=kk.less eK λy=>!(y==x)
  have f1:=fX _ kl
  have Sl:ff (K.take i++[k1.filter λy=>!(y==x)]++K.drop (i+1)) B 0=À (i,[x]):=X8 eB (λj kj hj e=>by
   rw[ej j hj];obtain⟨k',e',q'⟩:=sK j kj e;rw[e']
   exact q') (by rw[el,qj];exact VN (gN kd.up) hx sub) (by simp)
  rw[Sl] at f1;have eq:=λh=>V8 (i:=i) gx h
  have lk:K.length=rl.length:=kk.len;have b1:bw (K.take i++[k1.filter λy=>!(y==x)]++K.drop (i+1))=(bw K).take i++[.fls ((k1.filter λy=>!(y==x)).map tupS)]++(bw K).drop (i+1):=by
   unfold bw;erw[qz,yV,yW,zz,kY]
  rw[b1] at f1;have t1:∀h,gz (.fls (bw K)) Á (À (i:Int)) h=À (.fls ((bw K).take i),h):=λh=>by
   erw[gz,getL];rw[JU (by rw[gR];omega)]
  have t2:∀h,gz (.fls (bw K)) (À ((i:Int)+1)) Á h=À (.fls ((bw K).drop (i+1)),h):=λh=>by
   have:=gp (l:=bw K) (k:=i+1);rw[show(((i+1:Nat):Int))=(i:Int)+1 from rfl] at this;erw[gz,getL,this]
  have t3:∀h,addW (.int (i:Int)) (.int 1) h=À (.int ((i:Int)+1),h):=λh=>rfl
  have a1:=λh=>am (a:=(bw K).take i) (b:=[.fls ((k1.filter λy=>!(y==x)).map tupS)]) h (by rw[qX,gR];simp;omega)
  have Lm:=λh=>am (a:=(bw K).take i++[.fls ((k1.filter λy=>!(y==x)).map tupS)]) (b:=(bw K).drop (i+1)) h (by rw[zR,qX,qF,gR];simp;omega)
  have Sm:∀h,addW (.int 520) (.int (i:Nat)) h=À (.int (520+(i:Nat)),h):=λh=>rfl
  have cm:∀(AV:Option W) (h:MH),kz (kF (zh zC (zd 7) (zd 10))) 1 [11] (zw 0) (zS (zh (jp Â) (zd 0) (zd 1))) (zd 0) (ρL ns (À (.tup rl)) a2 a3 a4 a5 (À (.fls (bw B))) (À (.fls (bw K))) a8 a9 (À (.int (i:Nat))) (À (tupS x)) AV) h=À (.fls ((k1.filter λy=>!(y==x)).map tupS),h):=λAV h=>UZ OZ.good gx (zp OZ.len (by decide)) (by
   generalize k1.map tupS=Z at i2;generalize bw K=Y at i2;generalize ky ns=S
   simp![i2]) rfl
  refine⟨À (tupS x),À (.fls ((bw K).take i++[.fls ((k1.filter λy=>!(y==x)).map tupS)]++(bw K).drop (i+1))),tq ?_ ?_⟩
  .generalize bw B=X at i1
   generalize bw K=Y;generalize ks.map tupS=Z at i1 e4;generalize ky ns=S;simp![i1,e4,kG,c0]
  .rw[zt (ρ':=ρL ns (À (.tup rl)) a2 a3 a4 a5 (À (.fls (bw B))) (À (.fls (bw K))) a8 a9 (À (.int (i:Nat))) (À (tupS x)) AV) (h':=h) (by
    generalize bw B=X at i1;generalize bw K=Y;generalize tupS x=T at ev;generalize ks.map tupS=Z at i1 ln ev
    simp![i1,ln,Sm,d1,ev])]
   rw[zt (ρ':=ρL ns (À (.tup rl)) a2 a3 a4 a5 (À (.fls (bw B))) (À (.fls (bw K))) a8 a9 (À (.int (i:Nat))) (À (tupS x)) (À (.fls ((bw K).take i++[.fls ((k1.filter λy=>!(y==x)).map tupS)]++(bw K).drop (i+1))))) (h':=h) (by
    have cm:=cm AV;generalize (k1.filter λy=>!(y==x)).map tupS=Z at cm a1 Lm;generalize (bw K).take i++[.fls Z]++(bw K).drop (i+1)=Q at Lm;generalize (bw K).take i++[.fls Z]=Q1 at a1 Lm;generalize (bw K).take i=Q2 at a1 t1;generalize (bw K).drop (i+1)=Q3 at Lm t2;erw[ρL] at cm ⊢
    simp![cm,a1,Lm,t1,t2,t3,kG,c1,bX,bg])]
   refine fN ?_;erw[g8,zz,kY] at f1;generalize (bw K).take i++[.fls ((k1.filter λy=>!(y==x)).map tupS)]++(bw K).drop (i+1)=Q at f1;generalize bw B=X;generalize bw K=Y;generalize tupS x=T at f1 eq;generalize ky ns=S;simp![f1,zo,kG,c1,c2,eq]
theorem D3(F:Fs):cu F=zl (Q0 F) (zl (Q1 F) (zl (Q2 F) (zl (Q3 F) (zl (Q4 F) (zl (Q5 F) (zl (Q6 F) (zl (Q7 F) (zl (Q8 F) (zl (Q9 F) (zl (Bw F) (zl (YJ F) (zl (YN F) (zl (YX F) (zl (Xd F) (zl (Dz F) (FN F)))))))))))))))):=rfl
theorem XJ{G:Fs}{B K:List (List (List Ç))}{M A1 A2 T1 T2:List (List Ç)}(hr:RG rl)(kb:KB rl B)(kk:KB rl K)(sK:∀(i:Nat) ks,B[i]?=À ks->∃pf,K[i]?=À pf/\∀x∈ks,x∈pf)(kM:Kd [] M)(k1:Kd [] A1)(k2:Kd [] A2)
  (g1:∀x∈T1,ko x=Â) (g2:∀x∈T2,ko x=Â) (l1:T1.length<=100) (s1:∀x∈M,x∈T1) (s2:∀x∈T1,x∈T2)
  (fR:∀h,G.bu [ky ns,.int 1] h=À (.tup rl,h)) (fW:∀h,G.bj [ky ns,.int 90,.int 2,.tup rl] h=À (w,h)) (fT:∀h,G.aZ [.tup rl,w] h=À (.fls (M.map tupS),h))
  (e4:∀h,G.aq [ky ns,.int 400,.tup []] h=À (.fls (A1.map tupS),h)) (e5:∀h,G.aq [ky ns,.int 420,.tup []] h=À (.fls (A2.map tupS),h))
  (fJ:∀(hs:List Ç) (A B:List (List Ç)),Kd hs A->Kd hs B->∀h,G.aK [.fls (A.map tupS),.fls (B.map tupS)] h=À (.fls ((kA (A++B)).map tupS),h))
  (fB:∀h,G.bH [.fls (A1.map tupS),.fls (A2.map tupS)] h=À (.fls ((A1.filter λk=>A2.contains k).map tupS),h))
  (fL:∀A B:List (List Ç),(∀x∈A,ko x=Â)->(∀x∈B,ko x=Â)->A.length<=100->∀h,G.aR [.fls (A.map tupS),.fls (B.map tupS)] h=À (.bl (lack A B).isEmpty,h))
  (fM:∀A:List (List Ç),(∀x∈A,ko x=Â)->∀h,G.bh [.tup rl,w,.fls (A.map tupS)] h=À (.fls ((lack M A).map tupS),h)) (fF:∀A:List (List Ç),(∀x∈A,ko x=Â)->∀h,G.cI [.tup rl,w,.fls (A.map tupS)] h=À (.bl (lack M A).isEmpty,h))
  (fI:∀(hs:List Ç) (M:List (List Ç)),Kd hs M->∀h,G.aF [.fls (M.map tupS),.tup (zk hs)] h=À (.bl Â,h)) (fE:∀h,G.aL [.tup rl] h=À (.fls (bw B),h)) (fU:∀(i:Nat) ks,B[i]?=À ks->∀h,G.aJ [.tup rl,.int (i:Nat)] h=À (.fls (ks.map tupS),h))
  (fX:∀K,KB rl K->∀h,G.aH [.tup rl,.fls (bw K)] h=À (g8 (ff K B 0),h)) (fD:∀(k many:Int) (h:MH),0<many->G.aa [ky ns,.int k,.int many] h=À (.int (vT ns k many),h))
  (t0:∀h,G.aC [.tup rl,.fls (bw B),w] h=À (.fls (M.map tupS),h)) (t1:∀h,G.aC [.tup rl,.fls (bw K),w] h=À (.fls (T1.map tupS),h)) (t2:∀h,G.aC [.tup rl,.fls (bw K2),w] h=À (.fls (T2.map tupS),h))
  (cK:∀(ρ:En) (v:Nat) (h:MH),ρ[0]?=À (À (ky ns))->ρ[1]?=À (À (.tup rl))->ρ[v]?=À (À (.fls (bw B)))->
   kz (w8 [zd v]) 2 [0,1] (vE [zw 0,zw 1]) qv (ze G.aK [zd 1,ze G.aq [zd 2,zh addW (Pu 440) (zh kx (Pu 20) (zd 0)),zh zC (zh zC (zd 3) (zd 0)) (Pu 1)]]) ρ h=À (.fls (bw K),h))
  (Nu:∀(ρ:En) (v:Nat) (h:MH),ρ[0]?=À (À (ky ns))->ρ[1]?=À (À (.tup rl))->ρ[v]?=À (À (.fls (bw K)))->
   kz (w8 [zd v]) 2 [0,1] (vE [zw 0,zw 1]) qv (ze G.aK [zd 1,ze G.aq [zd 2,zh addW (Pu 480) (zh kx (Pu 20) (zd 0)),zh zC (zh zC (zd 3) (zd 0)) (Pu 1)]]) ρ h=À (.fls (bw K2),h)) :
  cu G (ρL ns Á Á Á Á Á Á Á Á Á Á Á Á) h=À (.ret (.bl Â),h):=by
 have c0:(0:Nat)<=cap:=by decide
 have j1:=fJ [] M A1 kM k1;have j2:=fJ [] A1 A2 k1 k2;have f1:=fF _ (kM.join k1).good;rw[lack_nil.mpr λx hx=>ssort_mem.mpr (zx.mpr (.inl hx))] at f1;have f2:=fM M kM.good;have z0:lack M M=[]:=yj.mp (lack_nil.mpr λx hx=>hx);rw[z0] at f2;have f3:∀h,G.aF [.fls (M.map tupS),.tup []] h=À (.bl Â,h):=fI [] M kM;have f4:=fL A1 _ k1.good (k1.join k2).good (zp k1.len (by decide));rw[lack_nil.mpr λx hx=>ssort_mem.mpr (zx.mpr (.inl hx))] at f4;have f5:=fL _ A2 (k1.sub λk=>A2.contains k).good k2.good (zp (k1.sub λk=>A2.contains k).len (by decide));rw[lack_nil.mpr λx hx=>v7.mp (jc.mp hx).2] at f5;have f6:=fL A1 A2 k1.good k2.good (zp k1.len (by decide));have q1:=λh=>((k1.join k2).eq k2 h).trans (by rw[UU k1 k2])
 have q2:=λh=>((k1.sub λk=>A2.contains k).eq k1 h).trans (by rw[Uw])
 have x1:=fX B kb;rw[Z1 λi ks e x hx=>by rw[e];exact hx] at x1;have x2:=fX K kk;rw[Z1 λi ks e x hx=>by obtain⟨k',e',q⟩:=sK i ks e;rw[e'];exact q x hx] at x2;have q3:=λh=>(kM.eq kM h).trans (by rw[kJ rfl])
 have f7:=fL M T1 kM.good g1 (zp kM.len (by decide));rw[lack_nil.mpr s1] at f7;have f8:=fL T1 T2 g1 g2 l1;rw[lack_nil.mpr s2] at f8;have en:∀h,eqB h (.fls []) (.fls [])=À Â:=λh=>lD (l:=[]) (n:=1) rfl ∅
 have eb:∀(b:Bool) (h:MH),eqB h (.bl b) (.bl b)=À Â:=λb h=>by rw[Dp];simp
 have lr:=hr.l
 obtain⟨ρ',⟨Lg,Er,AV,rfl⟩,ef⟩:=Zv (g:=zw 10) (b:=LB G) (h:=h) (λρ=>∃Lg Er AV,ρ=ρL ns (À (.tup rl)) (À w) (À (.fls (M.map tupS))) (À (.fls (A1.map tupS))) (À (.fls (A2.map tupS))) (À (.fls (bw B))) (À (.fls (bw K))) (À (.fls (bw K2))) (À (.fls (T1.map tupS))) Lg Er AV) (upto rl.length) (λv hv ρ ⟨Lg,Er,AV,e0⟩=>by
  subst e0;obtain⟨i,hi,rfl⟩:=zK.mp hv;have hi:=jX.mp hi;obtain⟨OX,OY,e⟩:=WP (h:=h) hr kb kk sK fI fU fX fD hi (À w) (À (.fls (M.map tupS))) (À (.fls (A1.map tupS))) (À (.fls (A2.map tupS))) (À (.fls (bw K2))) (À (.fls (T1.map tupS))) Er AV
  exact⟨_,_,by simp[zw],e,_,_,_,rfl⟩) (ρL ns (À (.tup rl)) (À w) (À (.fls (M.map tupS))) (À (.fls (A1.map tupS))) (À (.fls (A2.map tupS))) (À (.fls (bw B))) (À (.fls (bw K))) (À (.fls (bw K2))) (À (.fls (T1.map tupS))) Á Á Á) ⟨Á,Á,Á,rfl⟩
 have rg:∀h,iu [.int (rl.length:Int)] h=À (.items (upto rl.length),h):=λh=>by
  have q:-(2 ^ 62)<=(rl.length:Int)/\(rl.length:Int)<2 ^ 62:=⟨by omega,by omega⟩;unfold iu;simp only;rw[zQ q,jo]
 have ei:cn [ze kK [zd 1]] (ρL ns (À (.tup rl)) (À w) (À (.fls (M.map tupS))) (À (.fls (A1.map tupS))) (À (.fls (A2.map tupS))) (À (.fls (bw B))) (À (.fls (bw K))) (À (.fls (bw K2))) (À (.fls (T1.map tupS))) Á Á Á) h=À (.items (upto rl.length),h):=by
  unfold cn;rw[Wc (a:=[.int (rl.length:Int)]) (h':=h) rfl];exact rg h
 have ef:=(gY (g:=zw 10) (b:=LB G) ei).trans ef;generalize M.map tupS=Mm at *;generalize (lack A1 A2).isEmpty=bb at *;generalize (A1.filter λk=>A2.contains k).map tupS=Ab at *;generalize (kA (A1++A2)).map tupS=Aj at *;generalize (kA (M++A1)).map tupS=Mj at *;generalize A1.map tupS=Aa at *;generalize A2.map tupS=Ac at *;generalize T1.map tupS=Ta at *;generalize T2.map tupS=Tb at *;erw[kY] at f2;erw[g8] at x1 x2;have z0:Q0 G (ρL ns Á Á Á Á Á Á Á Á Á Á Á Á) h=À (.nx (ρL ns (À (.tup rl)) Á Á Á Á Á Á Á Á Á Á Á),h):=by simp![Q0,fR]
 have z1:Q1 G (ρL ns (À (.tup rl)) Á Á Á Á Á Á Á Á Á Á Á) h=À (.nx (ρL ns (À (.tup rl)) (À w) Á Á Á Á Á Á Á Á Á Á),h):=by simp![Q1,fW]
 have z2:Q2 G (ρL ns (À (.tup rl)) (À w) Á Á Á Á Á Á Á Á Á Á) h=À (.nx (ρL ns (À (.tup rl)) (À w) (À (.fls Mm)) Á Á Á Á Á Á Á Á Á),h):=by simp![Q2,fT]
 have z3:Q3 G (ρL ns (À (.tup rl)) (À w) (À (.fls Mm)) Á Á Á Á Á Á Á Á Á) h=À (.nx (ρL ns (À (.tup rl)) (À w) (À (.fls Mm)) (À (.fls Aa)) Á Á Á Á Á Á Á Á),h):=by simp![Q3,e4,zo,c0]
 have z4:Q4 G (ρL ns (À (.tup rl)) (À w) (À (.fls Mm)) (À (.fls Aa)) Á Á Á Á Á Á Á Á) h=À (.nx (ρL ns (À (.tup rl)) (À w) (À (.fls Mm)) (À (.fls Aa)) (À (.fls Ac)) Á Á Á Á Á Á Á),h):=by simp![Q4,e5,zo,c0]
 have z5:Q5 G (ρL ns (À (.tup rl)) (À w) (À (.fls Mm)) (À (.fls Aa)) (À (.fls Ac)) Á Á Á Á Á Á Á) h=À (.nx (ρL ns (À (.tup rl)) (À w) (À (.fls Mm)) (À (.fls Aa)) (À (.fls Ac)) Á Á Á Á Á Á Á),h):=by simp![Q5,j1,f1,f2,f3,en,zo,kG,c0]
 have z6:Q6 G (ρL ns (À (.tup rl)) (À w) (À (.fls Mm)) (À (.fls Aa)) (À (.fls Ac)) Á Á Á Á Á Á Á) h=À (.nx (ρL ns (À (.tup rl)) (À w) (À (.fls Mm)) (À (.fls Aa)) (À (.fls Ac)) Á Á Á Á Á Á Á),h):=by simp![Q6,j2,f4,fB,f5]
 have z7:Q7 G (ρL ns (À (.tup rl)) (À w) (À (.fls Mm)) (À (.fls Aa)) (À (.fls Ac)) Á Á Á Á Á Á Á) h=À (.nx (ρL ns (À (.tup rl)) (À w) (À (.fls Mm)) (À (.fls Aa)) (À (.fls Ac)) Á Á Á Á Á Á Á),h):=by simp![Q7,j2,f6,q1,q2,fB,eb]
 have z8:Q8 G (ρL ns (À (.tup rl)) (À w) (À (.fls Mm)) (À (.fls Aa)) (À (.fls Ac)) Á Á Á Á Á Á Á) h=À (.nx (ρL ns (À (.tup rl)) (À w) (À (.fls Mm)) (À (.fls Aa)) (À (.fls Ac)) (À (.fls (bw B))) Á Á Á Á Á Á),h):=by generalize bw B=X at fE ⊢;simp![Q8,fE]
 have z9:Q9 G (ρL ns (À (.tup rl)) (À w) (À (.fls Mm)) (À (.fls Aa)) (À (.fls Ac)) (À (.fls (bw B))) Á Á Á Á Á Á) h=À (.nx (ρL ns (À (.tup rl)) (À w) (À (.fls Mm)) (À (.fls Aa)) (À (.fls Ac)) (À (.fls (bw B))) (À (.fls (bw K))) Á Á Á Á Á),h):=l6 (cK _ 6 h rfl rfl rfl) rfl;have Sn:Bw G (ρL ns (À (.tup rl)) (À w) (À (.fls Mm)) (À (.fls Aa)) (À (.fls Ac)) (À (.fls (bw B))) (À (.fls (bw K))) Á Á Á Á Á) h=À (.nx (ρL ns (À (.tup rl)) (À w) (À (.fls Mm)) (À (.fls Aa)) (À (.fls Ac)) (À (.fls (bw B))) (À (.fls (bw K))) (À (.fls (bw K2))) Á Á Á Á),h):=l6 (Nu _ 7 h rfl rfl rfl) rfl;have So:YJ G (ρL ns (À (.tup rl)) (À w) (À (.fls Mm)) (À (.fls Aa)) (À (.fls Ac)) (À (.fls (bw B))) (À (.fls (bw K))) (À (.fls (bw K2))) Á Á Á Á) h=À (.nx (ρL ns (À (.tup rl)) (À w) (À (.fls Mm)) (À (.fls Aa)) (À (.fls Ac)) (À (.fls (bw B))) (À (.fls (bw K))) (À (.fls (bw K2))) Á Á Á Á),h):=by generalize bw B=X at x1 ⊢;generalize bw K=Y at x2 ⊢;generalize bw K2=Z;simp![YJ,x1,x2,ui]
 have Sq:YN G (ρL ns (À (.tup rl)) (À w) (À (.fls Mm)) (À (.fls Aa)) (À (.fls Ac)) (À (.fls (bw B))) (À (.fls (bw K))) (À (.fls (bw K2))) Á Á Á Á) h=À (.nx (ρL ns (À (.tup rl)) (À w) (À (.fls Mm)) (À (.fls Aa)) (À (.fls Ac)) (À (.fls (bw B))) (À (.fls (bw K))) (À (.fls (bw K2))) (À (.fls Ta)) Á Á Á),h):=by generalize bw B=X;generalize bw K=Y at t1 ⊢;generalize bw K2=Z;simp![YN,t1]
 have Sr:YX G (ρL ns (À (.tup rl)) (À w) (À (.fls Mm)) (À (.fls Aa)) (À (.fls Ac)) (À (.fls (bw B))) (À (.fls (bw K))) (À (.fls (bw K2))) (À (.fls Ta)) Á Á Á) h=À (.nx (ρL ns (À (.tup rl)) (À w) (À (.fls Mm)) (À (.fls Aa)) (À (.fls Ac)) (À (.fls (bw B))) (À (.fls (bw K))) (À (.fls (bw K2))) (À (.fls Ta)) Á Á Á),h):=by generalize bw B=X at t0 ⊢;generalize bw K=Y;generalize bw K2=Z;simp![YX,t0,q3,f7]
 have Ss:Xd G (ρL ns (À (.tup rl)) (À w) (À (.fls Mm)) (À (.fls Aa)) (À (.fls Ac)) (À (.fls (bw B))) (À (.fls (bw K))) (À (.fls (bw K2))) (À (.fls Ta)) Á Á Á) h=À (.nx (ρL ns (À (.tup rl)) (À w) (À (.fls Mm)) (À (.fls Aa)) (À (.fls Ac)) (À (.fls (bw B))) (À (.fls (bw K))) (À (.fls (bw K2))) (À (.fls Ta)) Á Á Á),h):=by generalize bw B=X;generalize bw K=Y;generalize bw K2=Z at t2 ⊢;simp![Xd,t2,f8]
 have Su:Dz G (ρL ns (À (.tup rl)) (À w) (À (.fls Mm)) (À (.fls Aa)) (À (.fls Ac)) (À (.fls (bw B))) (À (.fls (bw K))) (À (.fls (bw K2))) (À (.fls Ta)) Á Á Á) h=À (.nx _,h):=ef;rw[D3,zt z0,zt z1,zt z2,zt z3,zt z4,zt z5,zt z6,zt z7,zt z8,zt z9,zt Sn,zt So,zt Sq,zt Sr,zt Ss,zt Su];rfl
def DR{ns:List Int}(hl:ns.length<=63):(step (up 30 F)).cN [ky ns] h=À (.bl Â,h):=by
 obtain⟨rl,hr,fR⟩:=X1 (F:=F) (m:=29) hl ∅;obtain⟨w,pw,ow,fW⟩:=X6 (F:=F) (m:=29) (a:=90) hl ∅ hr;obtain⟨B,b,bl,eb⟩:=Wo hr;have kb:=Xn hr b bl;obtain⟨M,kM,mM,eT⟩:=Jz hr b bl eb ∅ pw ow;have E0:Env0 rl B rl.length:=by have:=b.env hr;rwa [bl] at this
 have fK:∀hs∈hnd,∀a:Int,∃k1,Kd hs k1/\∀h,(up 30 F).aq [ky ns,.int a,.tup (zk hs)] h=À (.fls (k1.map tupS),h):=λhs hh a=>by
  obtain⟨k1,u,_,i,e⟩:=Cy (F:=up 27 F) (at_:=a) hl hh;exact⟨k1,⟨hh,u,i⟩,e⟩
 have fJ:∀(hs:List Ç) (A B:List (List Ç)),Kd hs A->Kd hs B->∀h,(up 30 F).aK [.fls (A.map tupS),.fls (B.map tupS)] h=À (.fls ((kA (A++B)).map tupS),h):=λhs A B a b h=>WU (F:=up 29 F) a b
 obtain⟨A1,k1,e4⟩:=fK [] ⋯ 400;obtain⟨A2,k2,e5⟩:=fK [] ⋯ 420;obtain⟨K,kk,sK,cK⟩:=m8 hr kb fK fJ 440;obtain⟨K2,O0,Sv,Nu⟩:=m8 hr kk fK fJ 480;obtain⟨T0,m0⟩:=KS hr kb E0 ∅ ∅ pw ow.1;obtain⟨T1,m1⟩:=KS hr kk E0 ∅ ∅ pw ow.1;obtain⟨T2,m2⟩:=KS hr O0 E0 ∅ ∅ pw ow.1;have:T0=M:=wb m0.up kM.up λx=>(m0.me x).trans (mM x).symm
 subst this;have row:=XJ (G:=up 30 F) (h:=h) hr kb kk sK kM k1 k2 m1.good m2.good (zp m1.l (by decide)) (λx hx=>(m1.me x).mpr (Y4 (QI sK) ow.1 x ((mM x).mp hx))) (λx hx=>(m2.me x).mpr (Y4 (QI Sv) ow.1 x ((m1.me x).mp hx)))
  fR fW (eT (up 24 F)) e4 e5 fJ (λh=>BZ (F:=up 29 F) k1 k2) (λA B g1 g2 l h=>Cp (F:=up 28 F) g1 g2 l) (λA ga h=>Yn (F:=up 28 F) kM.good (zp kM.len (by decide)) ga (eT (up 23 F)) h) (λA ga h=>BR (F:=up 27 F) kM.good (zp kM.len (by decide)) ga (eT (up 22 F)) h)
  (λhs M q h=>Y8 (F:=up 28 F) q) (ZQ hr kb eb (up 24 F)) (λi ks e h=>DF hr kb eb e (up 24 F) h) (λK k h=>Gh hr kb k eb (up 23 F) h) (λk many h hm=>x6 (F:=up 28 F) hl hm) (rY hr kb m0 (up 25 F)) (rY hr kk m1 (up 25 F)) (rY hr O0 m2 (up 25 F)) cK Nu
 refine qA (n:=1) ?_ rfl;erw[kQ,zE,kI,je,zz,kY,Æ,jr,jb];erw[row]
def DZ(n:Nat):lv n=up n Fs.bot:=by
 induction n with
 | zero=>rfl
 | succ n ih=>show step (lv n)=step (up n Fs.bot);rw[ih]
def main(ns:List Int)(hl:ns.length<=63):∃h',(lv 200).cN [.fls (ns.map W.int)] []=À (.bl Â,h'):=by
 refine⟨[],?_⟩;rw[DZ];exact DR (F:=up 169 Fs.bot) hl
end K32
namespace K32
open PySem PySem.W PyProof.Rows ML
set_option maxHeartbeats 0 in
def txt{XP:(Ç->Option Ã)->Õ->Prop}{w:Ô}{s₀:Å}{mg mb:Ç->Option Ã}{h:Õ}(G:Ground q ["FORMS"] [] XP w s₀ mg mb h):tS (eQ (Kw h) mg) defs:=by
 repeat refine⟨by
  first
  | exact sU G SJ (ML.hb1 λ_ _ _ _ _ _ _=>SJ) rfl
  | exact sU G SJ (ML.hb2 λ_ _ _ _ _ _ _ _=>SJ) rfl
  | exact sU G SJ (ML.hb3 λ_ _ _ _ _ _ _ _ _=>SJ) rfl
  | exact sU G SJ (ML.hb4 λ_ _ _ _ _ _ _ _ _ _=>SJ) rfl
  | exact sU G SJ (ML.hb5 λ_ _ _ _ _ _ _ _ _ _ _=>SJ) rfl,?_⟩
 trivial
end K32
open PySem PySem.W PyProof.Rows ML
set_option maxRecDepth 100000 in
set_option maxHeartbeats 0 in
theorem PySem.Challenge.cw_shelfwork_k32_whole_kinds_holds : PySem.Challenge.rw_shelfwork_k32_whole_kinds.Holds := by
 refine holds_law K32.said λsaid=>?_
 refine holds_open (q:=K32.q) (loose:=["FORMS"]) (Xt:=λs=>xlAt K32.q [] s&&recOk [] s) (XP:=XL K32.q []) (Yf:=K32.H.obs) (Ya:=K32.H.val) (YP:=K32.H.says) (N:=8000) K32.left (Hook.of K32.H) (Hook.keeps K32.H) (λs e=>xl_of s (jt.mp e).1) XL.keeps rfl rfl rfl (λs e=>recFacts_of (jt.mp e).2) rfl said ⋯ ⟨rfl,rfl,rfl,rfl,rfl,by decide +kernel⟩ ?hw ?hc
 case hw=>w_witness2
 case hc=>
  exact ML.walk_lawE (l:=PySem.Challenge.rw_shelfwork_k32_whole_kinds) (D:=K32.dG) (g:=(K32.lv 200).cN) (b:=K32.cu (K32.lv 199)) (Γ:=K32.rc (K32.lv 199)) (ds:=K32.defs) (y:="_law_script") (room:=199) (cons:=K32.consC) (tabs:=K32.tabsC) SJ SJ rfl rfl ⟨rfl,by decide,by decide⟩ rfl rfl (ML.hb1 λ_ _ _ _ _ _ _=>SJ) SJ rfl SJ rfl K32.main (λw K mg base T c t z=>K32.lvl T c t z 199) λw s₀ mg mb h G=>⟨(K32.txt G).2.2.2.2.2.2.2.2.2.2.2.2.2.2.2.2.2.2.2.2.2.2.2.2.2.2.2.2.2.2.2.1,K32.txt G⟩

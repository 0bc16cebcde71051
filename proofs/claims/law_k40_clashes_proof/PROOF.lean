import PyProof.Rows.All
import KE.KSortTup
import PySem.Challenge.RW_shelfwork_k40_clashes
import KE.KDictOf
import KE.KDictList
import KE.KIsAll
set_option compiler.extract_closed false
set_option Elab.async false
set_option linter.all false
set_option maxRecDepth 100000
set_option maxHeartbeats 1000000
open Option renaming some→À,none→Á,map_eq_some_iff→ç,bind_eq_some_iff→û,map→Ź
open Bool renaming false→Â,true→Ã
open PySem renaming Value→Ä,Shared→Å,Str→Æ,Addr→È,wpAny→É,starEach→Ê,model→Ë,tupleKeyHash→Ì,Program→Í,Expr→Î,SetTable→Ð,World→Ñ,Heap→Ò,bootBuiltins→Õ,Around→Ö,compareOp→Ù,IsTupleKey→Ú,mainGlobals→Ü,backTo→ß,sysModules→ã,assignEach→å,foldedSetIterable→é,Scope→ê,binaryOp→ë,Builtin→ò,wpAny_bind→ô,Obj→ö,KeyKind→ù,DictEntry→ā,swapsWith→Ă,FuncData→ą,wpAny_loadPart'→Ĉ,attributeBase→ċ,Stmt→Č,carriedByValue→Ď,cLine→ď,pyNext→đ,importedModules→ē,ofAClassStatement→Ę,Pos→ĝ,Keyword→Ğ,tupleKind→ġ,sliceBounds→ģ,keywordEach→Ĥ,firstArgMember→Ĩ,behindInMarks→ī,NameKind→į,letOwnedTupleGo→İ,pyIter→ı,wpAny_setEntries_of→ĳ,OsState→Ĵ,codeAny→ĵ,storedH→Ķ,IsPart→Ĺ,typeLookup→ļ,wpAny_pure→Ł,swapsWithSole→Ņ,swappedStores→ņ,setSearchFrom→Ŋ,strKind→ŋ,GenState→ō,backToKw→ŏ,pickOrder→Ő,relayAll→ő,getItem→œ,wpAny_Call_method_late→ŕ,callerA→Ŗ,IsPair→ŗ,setAddHashed→ř,wpAny_notOrdered_dict→Ş,wpAny_eqIsQuiet_tuple→ş,wpAny_isSame_ref_self→Š,attributeErrorLeaves→ť,setAddHashedIn→ŧ,codeAny_extend_loopS→Ũ,treeTable→ũ,PassesOwn→ū,seq_tuple_add→Ů,wpAny_handled→ů,Comprehension→ų,wpAny_setItem_heap→ŵ,getattributeRaised→Ŷ,standAt→ż,setItem→Ž,wpAny_assign_Name→ž
open List renaming replicate→Ç,range→Ô,length→â,getD→ă,foldl→Ľ,length_eraseIdx_of_lt→ł
open PySem.Value renaming ref→Ï,none→Ó,type→ó,isStrOf→Ā,str→ĕ,int→Ġ,bool→Œ,isInt→Ţ
open PySem.Builtin.SmallTypes renaming nextOf→Ø,ownedTupleIsFree→ï,ownedTupleHandOut→Ĝ
open PySem.Obj renaming mapSeq→Û,putSet→Ć,isFreed_of_fields→ŝ
open PySem.Heap renaming SameBut→Ý,ExtBut→Ť
open PySem.SetTable renaming runEnd→Þ,bits→à,below→ð,turns→ñ,grown→õ,advance→Ą,insertAt→Ċ,leap→Ė,Probe→Ī,fits→ŉ,has→Ř,laid→Ű,fill→ű,sizeAbove→ŷ
open PySem.PyData renaming eqvAll→á,eqv→ä,strOk→è,canLayAll0→ü,canLay0→č,depthAll→ğ,depth→ħ,keyHash→š
open Function renaming comp→æ
open PySem.W renaming keepIn→ì,fnOf→ĉ,codeIn→Ħ,kas_rev→ĭ,openGood→Į,kitOne→ĸ,methodObj→Ń,instObj→Ś,KeysLit→ś,lookIn→ţ,openEnds→ź,openSeen→Ż,kitx_none→ſ
open PySem.Builtin.Tuple renaming tupleExact→í,tupleItemsOf→Ļ,tupleIsExact→ľ,tupleTooMany→Ŀ
open PySem.Builtin.List renaming listTooLong→î,listExtendWith→ÿ,listLengthHint→ķ,listFitsIndex→ŀ,listSameRef→Ō
open True renaming intro→ø
open PySem.Str renaming ofString→ú
open PySem.SetTable.probe renaming go→ý
open Array renaming getD→þ,replicate→Ŝ,length_toList→Ŭ,forIn_toList→Ÿ
open PySem.Builtin.Slice renaming slicePlaces→ć,sliceAdjust→ě,sliceApplied→ĺ
open False renaming elim→Đ
open PySem.SetTable.layClean renaming free→Ē
open ForInStep renaming yield→Ĕ
open List.Pairwise renaming nil→ė
open List.Perm renaming cons→ę,swap→Ŧ
open Sum renaming inr→Ě,inl→Ū
open PySem.Builtin.Str renaming occurrences→Ģ
open Int renaming toNat_natCast→ĥ
open PySem.SetTable.below renaming go→ĩ
open PySem.NameKind renaming free→Ĭ,cell→ň
open PyProof.Rows renaming seqObj→Ĳ,AllBare→ń,envOfC→Ň,IsTup→Ŏ,subscriptTail_builtinR→Ŕ,entry_tuple_getitem→ŭ,listUpdate_at→Ų,args_tuple_getitem→Ŵ
def aRf(h:0=0:=by rfl):=h
def aDc(h:0=0:=by decide):=h
local macro_rules|`(↥$t)=>`(autoParam $t aRf._auto_1)
local macro_rules|`(⇑$t)=>`(autoParam $t aDc._auto_1)
local macro_rules
 |`(tactic|erw[$r,*]$[$l]?)=>do
  let a<-r.getElems.mapM λx=>let t:Lean.Term:=⟨x.raw[1]⟩;if x.raw[0].isNone then `(Lean.Parser.Tactic.simpLemma|$t:term) else `(Lean.Parser.Tactic.simpLemma|<-$t:term)
  `(tactic|simp only[$a,*]$[$l]?)
def RL{α:Sort _}{a b:α}(h:a=b:=by kernel_rfl):a=b:=h
abbrev Sb:=PySem.W.Frag
def zc:=@PySem.wpAny_bind
def zf:=@PySem.Heap.get?_push_of_some
def zg:=@PySem.wpAny_pure
def zj:=@List.mem_cons
def zm:=@List.mem_cons_of_mem
def zp:=@List.mem_map
def zq:=@ç
def zr:=@List.mem_cons_self
def zu:=@List.map_cons
def zx:=@List.not_mem_nil
def zy:=@Bool.and_eq_true
def zz:=@Nat.le_trans
def zA:=@List.mem_append
def zE:=@List.length_cons
def zF:=@List.length_map
def zG:=@Nat.le_refl
def zH:=@û
def zJ:=@List.getElem?_eq_some_iff
def zK:=@PySem.Heap.get?_push_size
def zL:=@List.length_append
def zM:=@PySem.Heap.lt_size
def zN:=@Bool.false_eq_true
def zO:=@Nat.lt_of_lt_of_le
def zP:=@List.getElem?_eq_getElem
def zQ:=@List.size_toArray
def zR:=@Bool.false_ne_true
def zU:=@Nat.ne_of_lt
def zV:=@List.mem_filter
def zW:=@if_pos
def zX:=@Option.some.inj
def zY:=@List.getElem?_append_left
def zZ:=@List.all_eq_true
def z9:=@List.map_map
def kh:=@if_neg
def kj:=@Ŭ
def kE:=@or_false
def kI:=@List.length_nil
def kJ:=@List.nil_append
def kO:=@decide_eq_true
def kW:=@List.getElem?_map
def kY:=@if_true
def kZ:=@List.getElem?_append_right
def jb:=@List.length_filter_le
def jc:=@PySem.wpAny_newObj_type
def jd:=@ĥ
def je:=@PySem.wpAny_holding
def jf:=@List.prefix_refl
def jh:=@List.mem_append_right
def ji:=@List.map_nil
def jj:=@decide_eq_false
def jk:=@beq_self_eq_true
def jl:=@PySem.W.kia_one
def jm:=@Bool.and_eq_true_iff
def jn:=@if_false
def jo:=@PySem.wpAny_call_entry
def jq:=@Ne.symm
def jr:=@List.cons_append
def jt:=@congrArg
def ju:=@List.mem_range
def jw:=@PySem.wpAny_setField_rec
def jx:=@PySem.wpAny_callSpecial?_slot
def jy:=@PySem.Heap.get?_update_self
def jz:=@List.mem_singleton
def jA:=@beq_eq_false_iff_ne
def jB:=@List.filter_cons
def jC:=@List.mem_of_mem_drop
def jD:=@of_decide_eq_true
def jE:=@PyProof.Rows.slot_tuple_getitem
def jF:=@Nat.lt_succ_of_lt
def jG:=@List.all_cons
def jH:=@List.prefix_append
def jJ:=@List.nodup_cons
def jK:=@List.find?_cons
def jL:=@PySem.sizeLine_eq
def jM:=@Option.bind_some
def jN:=@PySem.Around.under_plainId
def jO:=@PySem.wpAny_seqItems
def jP:=@List.filterMap_cons_some
def jQ:=@PySem.Heap.size_push
def jR:=@PySem.Heap.SameBut.update
def jT:=@PySem.wpAny_setState_of
def jU:=@Nat.lt_or_eq_of_le
def jV:=@Nat.lt_succ_self
def jW:=@Nat.le_of_not_lt
def jX:=@List.mem_flatMap
def jY:=@PySem.wpAny_field
def jZ:=@Bool.not_eq_true'
def j4:=@Nat.lt_irrefl
def j5:=@List.getElem?_eq_none_iff
def j6:=@List.getElem?_eq_none
def j7:=@PySem.Heap.get?_update_other
def j8:=@PySem.wpAny_mono
def j9:=@List.pairwise_cons
def qb:=@List.zipIdx_cons
def qd:=@List.lookup_cons
def qe:=@List.getElem_mem
def qg:=@List.eq_nil_of_length_eq_zero
def qi:=@PySem.codeAny_builtin
def qj:=@List.mem_of_getElem?
def ql:=@PySem.wpAny_Call_Name_kw
def qm:=@PyProof.Rows.callWith_type1
def qp:=@Nat.zero_le
def qt:=@List.replicate_succ
def qu:=@List.of_mem_zip
def qw:=@List.map_congr_left
def qx:=@List.filter_map
def qy:=@PySem.wpAny_typeOf
def qz:=@PySem.wpAny_rule
def qC:=@List.length_drop
def qD:=@List.take_append_drop
def qF:=@List.sum_cons
def qG:=@List.set_append_right
def qH:=@List.mem_iff_getElem?
def qI:=@List.findIdx?_eq_some_iff_getElem
def qJ:=@List.nodup_nil
def qK:=@List.Perm.refl
def qL:=@Nat.pow_le_pow_right
def qM:=@List.filterMap_cons_none
def qN:=@List.append_nil
def qO:=@List.getElem?_replicate
def qP:=@PySem.strKind_is
def qQ:=@List.pairwise_lt_range
def qR:=@List.getElem?_set_self
def qT:=@Nat.le_succ
def qU:=@Nat.le_of_lt
def qW:=@List.length_replicate
def qX:=@decide_eq_true_eq
def qY:=@List.flatten_cons
def qZ:=@List.append_assoc
def vd:=@List.mem_of_mem_take
def vf:=@List.mem_append_left
def vg:=@List.getElem?_set_ne
def vh:=@PySem.wpAny_passesOwn
def vm:=@PySem.builtinLookup_eq_fast
def vo:=@PyProof.Rows.F.plain_set_update_loop
def vp:=@List.pairwise_iff_getElem
def vq:=@List.drop_eq_getElem_cons
def vA:=@List.any_eq_true
def vB:=@PySem.wpAny_truthy_bool
def vC:=@PySem.wpAny_pyIter_list
def vD:=@PySem.wpAny_attempt
def vG:=@PySem.plainId_quiet
def vH:=@PySem.mem_of_lookup
def vI:=@List.getElem_of_mem
def vJ:=@Option.isSome_iff_exists
def vK:=@Nat.pow_succ
def vL:=@PySem.F.slot_tuple_iterator_next
def vM:=@Array.size_setIfInBounds
def vN:=@List.length_zip
def vO:=@List.any_cons
def vP:=@Int.emod_lt_of_pos
def vQ:=@PySem.wpAny_isInstance
def vR:=@PySem.F.called_set
def vU:=@List.length_range
def vV:=@Bool.false_and
def vW:=@PySem.wpAny_updateSeq
def vX:=@Nat.ne_of_gt
def vY:=@List.length_singleton
def vZ:=@PySem.Calls.spliced_cons
def v6:=@exists_eq_or_imp
def v7:=@Option.getD_some
def v8:=@List.length_take
def v9:=@List.getElem_inj
def wg:=@PySem.Calls.callWith_builtin
def wj:=@PySem.call_meets
def wu:=@PySem.Calls.spliced_nil
def ww:=@beq_iff_eq
def wz:=@Nat.mod_lt
def wA:=@List.range_succ
def wC:=@List.filterMap_cons
def wD:=@Int.emod_nonneg
def wF:=@Bool.eq_iff_iff
def wG:=@PySem.wpAny_typeNameOfWhole_keyiter
def wI:=@PySem.F.slot_tuple_mul
def wJ:=@PySem.AutoSeq1.idx_int
def wK:=@Option.isNone_iff_eq_none
def wL:=@List.getElem?_zip_eq_some
def wM:=@PySem.F.slot_dict_keyiterator_next
def wO:=@PySem.wpAny_of_eq
def wQ:=@PySem.typeLookup_type
def wR:=@PySem.Value.isStrOf_shape
def wU:=@PySem.W.kitx_list
def wV:=@PySem.F.args_tuple_add_2
def wW:=@Nat.le_of_lt_succ
def wX:=@List.pairwise_map
def wY:=@PySem.F.plainAttrs_list
def wZ:=@PySem.F.entry_tuple_add
def yc:=@List.pairwise_singleton
def yd:=@List.map_id
def ye:=@List.getElem?_cons_zero
def yf:=@PySem.W.KasT.kasWp_bind
def yg:=@Int.eq_ofNat_of_zero_le
def yh:=@Bool.not_true
def yj:=@PySem.wpAny_pyIter_tuple
def ym:=@PySem.Obj.data_mapFields
def yo:=@List.flatMap_def
def yp:=@List.ext_getElem
def yq:=@PySem.isSubtype_type
def yr:=@PySem.F.slot_tuple_add
def yt:=@List.take_of_length_le
def yu:=@PySem.wpAny_typeNameOf_keyiter
def yw:=@PySem.wpAny_storeSet_of
def yx:=@not_or
def yz:=@PySem.Value.isInt_shape
def yC:=@PySem.F.slot_dict_get
def yD:=@Nat.add_zero
def yE:=@List.map_append
def yF:=@List.forIn_cons
def yG:=@List.cons.injEq
def yH:=@PySem.F.slot_list_getattribute
def yI:=@PySem.F.plain_list_iadd
def yJ:=@Array.mem_toList_iff
def yK:=@PySem.wpAny_forIn_list
def yL:=@PyProof.Rows.F.entry_set_update_loop
def yM:=@List.isEmpty_eq_false_iff_exists_mem
def yN:=@PySem.wpAny_isOneOf_keyiter
def yO:=@PySem.wpAny_execs_nil
def yP:=@PySem.codeAny_mono
def yQ:=@PySem.PassesOwn.never
def yR:=@Nat.lt_of_le_of_lt
def yS:=@List.zip_cons_cons
def yU:=@List.mem_filterMap
def yV:=@List.map_drop
def yW:=@List.filterMap_map
def yX:=@PySem.F.slot_zip_next
def yZ:=@PySem.F.slot_int_rmul
def xf:=@Bool.or_false
def xg:=@Bool.and_true
def xm:=@PySem.wpAny_load
def xn:=@PySem.wpAny_updateSeq_pair
def xq:=@PySem.W.kitx_dict
def xr:=@Nat.lt_trichotomy
def xu:=@List.take_sublist
def xx:=@List.nodup_append
def xF:=@PySem.Heap.get?_none_of_le
def xG:=@PySem.Calls.evalArgs_plain
def xH:=@PySem.wpAny_setField
def xJ:=@PySem.wpAny_runValue
def xK:=@PyProof.Rows.tupleItemsOf_
def xM:=@PyProof.Rows.callWith_builtin1
def xN:=@Nat.mul_comm
def xO:=@Nat.lt_or_ge
def xP:=@List.any_map
def xQ:=@PySem.wpAny_throw
def xR:=@Nat.succ_ne_self
def xT:=@Nat.mod_eq_of_lt
def xU:=@Nat.le_add_right
def xV:=@List.reverse_nil
def xW:=@List.mem_reverse
def xX:=@List.drop_length
def xY:=@PySem.Heap.get?_update_ne
def xZ:=@PySem.wpAny_standAt
def uc:=@PySem.wpAny_onRaise
def ud:=@PySem.tupleKind_room_in1
def ue:=@PySem.putSet_of
def uf:=@Nat.pow_add
def ug:=@List.zipIdx_nil
def uh:=@PySem.F.args_tuple_mul_2
def ul:=@Array.getD_eq_getD_getElem?
def um:=@Option.ne_none_iff_exists'
def uo:=@PySem.wpAny_pyIter_slot
def uq:=@PySem.typeIs_int
def ur:=@PySem.Walks.list
def ut:=@List.findIdx?_eq_none_iff
def uv:=@List.drop_zero
def uw:=@PySem.F.entry_tuple_mul
def ux:=@Bool.not_false
def uz:=@PySem.concat_meets
def uA:=@PyProof.Rows.boot_sorted
def uB:=@Nat.not_lt
def uC:=@List.length_erase_of_mem
def uD:=@PySem.wpAny_askSetting
def uE:=@PySem.noFill_tuple_add
def uG:=@eq_false
def uH:=@and_true
def uJ:=@PySem.F.args_dict_get_3
def uK:=@List.map_take
def uL:=@List.length_eq_zero_iff
def uN:=@List.eraseIdx_cons_succ
def uO:=@List.cons.inj
def uQ:=@Classical.axiomOfChoice
def uR:=@PySem.W.cellsFrom_some
def uT:=@PySem.F.entry_dict_get
def uU:=@List.length_pos_of_mem
def uV:=@PySem.F.args_tuple_iterator_next_1
def uW:=@Array.toList_filterMap
def uX:=@PySem.wpAny_specialOf
def uY:=@Nat.sub_self
def uZ:=@Nat.lt_trans
def u0:=@List.pairwise_flatMap
def u5:=@PySem.F.entry_tuple_iterator_next
def u6:=@Array.getElem?_toList
def u9:=@Nat.not_succ_le_self
def ph:=@List.mem_erase_of_ne
def pA:=@PySem.Calls.Name_function_global
def pB:=@Array.getElem_toList
def pC:=@PySem.wpAny_newTuple
def pD:=@PySem.wpAny_binaryOp_repeat_ref
def pF:=@PySem.isSubtype_stop
def pG:=@List.take_succ_cons
def pH:=@List.length_flatMap
def pI:=@List.filter_sublist
def pJ:=@List.filter_eq_self
def pK:=@Int.toNat_of_nonneg
def pL:=@Bool.or_eq_true_iff
def pM:=@PySem.W.kitx_tuple
def pN:=@Nat.pos_of_ne_zero
def pO:=@PySem.AutoSeq1.sub_tuple_tuple
def pP:=@Array.find?_toList
local macro_rules|`(⋯)=>`(by decide +kernel)
local macro_rules|`(∅)=>`(by omega)
namespace ML
open PySem PySem.W PyProof.Rows
inductive Cn where
 | int (i:Int) | str (x:Æ) | tup (l:List Cn)
noncomputable def oJ(h:Ò)(v:Ä):Option (Array Ä):=match v with
 | .ref a=>(h.get? a).bind λo=>match o.cls with
  | .type t=>if t="tuple" then (match o.data with | .seq its _=>if o.dict.isNone then À its else Á | _=>Á) else Á
  | _=>Á
 | _=>Á
noncomputable def isI(i:Int)(v:Ä):Bool:=match v with | .int j _=>i==j | _=>Â
noncomputable def CU(x:Æ)(v:Ä):Bool:=match v with | .str y _=>x==y | _=>Â
noncomputable def eV{α β:Type}(p:α->β->Bool):List α->List β->Bool
 | [],[]=>Ã
 | a::l,b::r=>p a b&&eV p l r
 | _,_=>Â
noncomputable def eY(h:Ò):Nat->Cn->Ä->Bool
 | 0,_,_=>Â
 | n+1,w,v=>match w with
  | .int i=>isI i v
  | .str x=>CU x v
  | .tup l=>(oJ h v).any λits=>decide (its.size<=sizeLine)&&eV (eY h n) l its.toList
noncomputable def dictAt(h:Ò)(v:Ä):Option (Array ā):=match v with
 | .ref a=>(h.get? a).bind λo=>match o.cls with
  | .type t=>if t="dict" then (match o.data with | .dict es _=>if o.dict.isNone&&o.slots.isEmpty&&a != ã then À es else Á | _=>Á) else Á
  | _=>Á
 | _=>Á
noncomputable def Wo(h:Ò)(l:List (Æ×Cn))(v:Option Ä):Bool×List Int:=match v.bind (dictAt h) with
 | some es=>(eV (λp (e:ā)=>CU p.1 e.key&&eY h 9 p.2 e.val) l es.toList,es.toList.map (·.hash))
 | none=>(Â,[])
noncomputable def VD(cons:List (Æ×Cn))(bins:List Æ)(h:Ò):Bool:=h.isNs Ü&&cons.all (λp=>(h.nsMap Ü p.1).any λv=>eY h 9 p.2 v)&&bins.all λx=>(h.nsMap Ü x).isNone
noncomputable def VJ(tabs:List (Æ×List (Æ×Cn)))(h:Ò):List (Bool×List Int):=tabs.map λp=>Wo h p.2 (h.nsMap Ü p.1)
noncomputable def K6(tabs:List (Æ×List (Æ×Cn)))(w:Ñ):List (Bool×List Int):=tabs.map λp=>(Ã,p.2.map λk=>š w.params k.1)
noncomputable def Jt(cons:List (Æ×Cn))(tabs:List (Æ×List (Æ×Cn)))(bins:List Æ):PySem.W.Hook:=
 ⟨Bool×List (Bool×List Int),λs=>(VD cons bins s.heap,VJ tabs s.heap),λw=>(Ã,K6 tabs w),
  λw h=>∃h₀:Ò,(∀b o,h₀.get? b=À o->h.get? b=À o)/\VD cons bins h₀=Ã/\VJ tabs h₀=K6 tabs w,
  λw s e=>⟨s.heap,λ_ _ z=>z,jt Prod.fst e,jt Prod.snd e⟩,λw h h' ⟨h₀,a,b⟩ k=>⟨h₀,λ_ _ z=>k _ _ (a _ _ z),b⟩⟩
def XO{p q:Í}{loose:List Æ}{Xt:Å->Bool}{α:Type}{Yf:Å->α}{Ya:Ñ->α}{N:Nat}{g0:Bool}(row:String)
  (hf:∀w:Ñ,(ź ũ p (w.withFollow row Â) N).map (λs=>(Ż q loose (ē p.main.body) Xt g0 s,Yf s))=À (Į q loose,Ya (w.withFollow row Â)))
  (ht:∀w:Ñ,(ź ũ p (w.withFollow row Ã) N).map (λs=>(Ż q loose (ē p.main.body) Xt g0 s,Yf s))=À (Į q loose,Ya (w.withFollow row Ã))):LeftO p q loose Xt Yf Ya N g0:=
 byRow2 row (P:=λw=>(ź ũ p w N).map (λs=>(Ż q loose (ē p.main.body) Xt g0 s,Yf s))=À (Į q loose,Ya w)) hf ht
noncomputable def Yi(tb:String->Option ò)(p:Í)(w:Ñ)(AY:Nat)(ann:Option Ä):Nat->SharedT->Thread->Option SharedT
 | 0,_,_=>Á
 | n+1,s,t=>match through t with
  | true=>À s
  | false=>match stepOk AY ann t with
   | false=>Á
   | true=>match stepT (denote tb) p w s t with
    | some (s',t')=>Yi tb p w AY ann n s' t'
    | none=>Á
def Wa{tb:String->Option ò}{p:Í}{w:Ñ}{AY:Nat}{ann:Option Ä}(n:Nat):∀{s s':SharedT} {t:Thread},Yi tb p w AY ann n s t=À s'->topRun tb p w AY ann n s.abs t=À s'.abs:=by
 induction n with
 | zero=>intro _ _ _ h;cases h
 | succ n ih=>
  intro s s' t h;unfold Yi at h;unfold topRun;cases he:through t with
  | true=>rw[he] at h;cases h;rfl
  | false=>
   rw[he] at h;cases hk:stepOk AY ann t with
   | false=>rw[hk] at h;cases h
   | true=>
    rw[hk] at h;cases hs:stepT (denote tb) p w s t with
    | none=>rw[hs] at h;cases h
    | some r=>rw[hs] at h;rw[stepT_spec hs];exact ih h
noncomputable def treeOf:List ö->Nat->BT->BT
 | [],_,t=>t
 | o::l,n,t=>treeOf l (n+1) (t.ins n o)
noncomputable def YR(H:Ò)(d:Drawn)(k:Nat)(os:Ĵ):SharedT:=⟨treeOf H.objs.toList 0 .nil,H.objs.size,H.life,Array.mk [],d,k,os⟩
noncomputable def Ys(p q:Í)(loose:List Æ)(H:Ò)(d4:Å):=
 (staticsOk (ē p.main.body) H d4.heap&&namesBound p d4.heap&&gensDone d4&&laidKept H d4.heap,Ż q loose (ē p.main.body) (λs=>xlAt q [] s&&recOk [] s) Ã d4)
noncomputable def Ks{α:Type}(p q:Í)(loose:List Æ)(obs:Å->α)(H:Ò)(d:Drawn)(k:Nat)(w:Ñ)(os:Ĵ):=
 (Yi ũ p w H.objs.size (H.nsMap Ü "__annotations__") 8000 (YR H d k os) (topStub p)).map λs=>(Ys p q loose H s.abs,obs s.abs)
theorem Bv:@Ks=@Ks:=rfl
lay_quick Ks
name_quick runBQ for Ks by Bv
theorem boot_abs(P:Params)(os:Ĵ):(YR (boot_heap P) boot_drawn boot_toks os).abs=⟨boot_heap P,Array.mk [],boot_drawn,boot_toks,os⟩:=by kernel_rfl
theorem UU(P:Params):((boot_heap P).isNs Ü&&(Array.mk []:Array ō).size==0)=Ã:=by kernel_rfl
def UQ{p q:Í}{loose:List Æ}{h:Hook}(row:String)(e:opening p=plainProg p.main.scope.names)(f:∀s,fenceModules? p s=À s)
  (hf:∀(w:Ñ) (os:Ĵ),PySem.W.Fast.runBQ p q loose h.obs (boot_heap (w.withFollow row Â).params) boot_drawn boot_toks (w.withFollow row Â) os=À ((Ã,Į q loose),h.val (w.withFollow row Â)))
  (ht:∀(w:Ñ) (os:Ĵ),PySem.W.Fast.runBQ p q loose h.obs (boot_heap (w.withFollow row Ã).params) boot_drawn boot_toks (w.withFollow row Ã) os=À ((Ã,Į q loose),h.val (w.withFollow row Ã))) :
  LeftO p q loose (λs=>xlAt q [] s&&recOk [] s) h.obs h.val 8000:=by
 have k:∀(b:Bool) (w:Ñ),(∀os:Ĵ,PySem.W.Fast.runBQ p q loose h.obs (boot_heap (w.withFollow row b).params) boot_drawn boot_toks (w.withFollow row b) os=À ((Ã,Į q loose),h.val (w.withFollow row b)))->(ź ũ p (w.withFollow row b) 8000).map (λs=>(Ż q loose (ē p.main.body) (λs=>xlAt q [] s&&recOk [] s) Ã s,h.obs s))=À (Į q loose,h.val (w.withFollow row b)):=λb w r=>by
  rw[<-PySem.W.Fast.runBQ_eq] at r;generalize w.withFollow row b=w at r ⊢;obtain⟨⟨H,g,d,k,os⟩,hs,hv⟩:=zq.mp (boot_open (N:=8000) e rfl f w);erw[Prod.mk.injEq] at hv;obtain⟨rfl,rfl,rfl,rfl⟩:=hv;obtain⟨s,h1,h2⟩:=zq.mp (r os);have h3:=Wa _ h1;rw[boot_abs] at h3;erw[Ys,Prod.mk.injEq] at h2;obtain⟨⟨h4,h5⟩,h6⟩:=h2;unfold ź topFrom;rw[hs];erw[jM];rw[UU];erw[h3,jM];rw[h4];exact jt À (Prod.ext h5 h6)
 exact XO row (λw=>k Â w (hf w)) λw=>k Ã w (ht w)
end ML
namespace K40
open PySem PySem.W PyProof.Rows ML
def pw:Í:=PySem.Challenge.pw_shelfwork_k40_clashes
def isNm(x:String):Î->Bool | .Name y ..=>y==x | _=>Â
def drops:Č->Bool
 | .Assign [t] ..=>isNm "FORMS" t||isNm "__name__" t
 | _=>Â
def q:Í:={ pw with main:={ pw.main with body:=pw.main.body.filter λs=>!drops s } }
def consC:List (Æ×Cn):=[]
def tabsC:List (Æ×List (Æ×Cn)):=[("FORMS",[("number",(.tup [.int 2,.int 2])),("name",(.tup [.int 2,.int 2])),("read",(.tup [.int 2,.int 2])),("write",(.tup [.int 3,.int 2])),("add",(.tup [.int 3,.int 1])),("less",(.tup [.int 3,.int 1])),("then",(.tup [.int 3,.int 1])),("if",(.tup [.int 4,.int 1])),("loop",(.tup [.int 3,.int 1])),("let",(.tup [.int 4,.int 2])),("own",(.tup [.int 4,.int 2])),("say",(.tup [.int 2,.int 1])),("ask",(.tup [.int 1,.int 1])),("do",(.tup [.int 2,.int 2])),("call",(.tup [.int 4,.int 2]))])]
def Fb:List Æ:=["any","bool","dict","enumerate","int","isinstance","len","list","range","set","sorted","sum","tuple","zip"]
noncomputable def H:Hook:=Jt consC tabsC Fb
set_option maxHeartbeats 0 in
theorem said:PySem.Challenge.rw_shelfwork_k40_clashes.wellSaid=Ã:=by kernel_rfl
set_option maxHeartbeats 0 in
theorem leftF(w:Ñ)(os:Ĵ):PySem.W.Fast.runBQ pw q ["FORMS"] H.obs (boot_heap (w.withFollow "special-get-raises" Â).params) boot_drawn boot_toks (w.withFollow "special-get-raises" Â) os=À ((Ã,Į q ["FORMS"]),H.val (w.withFollow "special-get-raises" Â)):=by kernel_rfl
set_option maxHeartbeats 0 in
theorem leftT(w:Ñ)(os:Ĵ):PySem.W.Fast.runBQ pw q ["FORMS"] H.obs (boot_heap (w.withFollow "special-get-raises" Ã).params) boot_drawn boot_toks (w.withFollow "special-get-raises" Ã) os=À ((Ã,Į q ["FORMS"]),H.val (w.withFollow "special-get-raises" Ã)):=by kernel_rfl
set_option maxHeartbeats 0 in
def left:LeftO pw q ["FORMS"] (λs=>xlAt q [] s&&recOk [] s) H.obs H.val 8000:=UQ "special-get-raises" RL (λs=>RL) leftF leftT
end K40
section
namespace L2
open PySem PySem.Spec PyProof.Rows
abbrev Key:=Sum Int Æ
def gL:Key->Ä->Bool
 | .inl k,v=>Ţ k v
 | .inr x,v=>Ā x v
def FY(w:Ñ):Key->Int
 | .inl k=>hashInt k
 | .inr x=>hashStr w x
def vv:∀{k:Key} {v:Ä},gL k v=Ã->(∃i t,k=Ū i/\v=Ġ i t)\/(∃x t,k=Ě x/\v=ĕ x t)
 | .inl i,v,h=>by
  obtain⟨t,e⟩:=yz (k:=i) (v:=v) h;exact .inl ⟨i,t,rfl,e⟩
 | .inr x,v,h=>by
  obtain⟨t,e⟩:=wR (x:=x) (v:=v) h;exact .inr ⟨x,t,rfl,e⟩
def QC(i:Int)(t:Tok):gL (.inl i) (.int i t)=Ã:=by simp[gL,Ţ]
def J2(x:Æ)(t:Tok):gL (.inr x) (.str x t)=Ã:=by simp[gL,Ā]
def Ce(a b:Int):decide ((Ū a:Key)=Ū b)=(a==b):=by
 by_cases e:a=b
 .subst e;simp
 .have h:¬(Ū a:Key)=Ū b:=λq=>e (Sum.inl.inj q)
  rw[jj h];exact(jA.mpr e).symm
def DB(a b:Æ):decide ((Ě a:Key)=Ě b)=decide (a=b):=by
 by_cases e:a=b
 .subst e;simp
 .have h:¬(Ě a:Key)=Ě b:=λq=>e (Sum.inr.inj q)
  rw[jj h,jj e]
def Ds(a:Int)(b:Æ):decide ((Ū a:Key)=Ě b)=Â:=jj (λq=>nomatch q)
def Dv(a:Æ)(b:Int):decide ((Ě a:Key)=Ū b)=Â:=jj (λq=>nomatch q)
def qA(prog:Í)(w:Ñ):ù prog w Key where
 is:=gL
 hash:=FY w
 inj:=λv a b ha hb=>by
  rcases vv ha with ⟨i,t,rfl,rfl⟩ | ⟨x,t,rfl,rfl⟩
  .rcases vv hb with ⟨j,u,rfl,e⟩ | ⟨y,u,rfl,e⟩
   .injection e with e1 _;rw[e1]
   .exact nomatch e
  .rcases vv hb with ⟨j,u,rfl,e⟩ | ⟨y,u,rfl,e⟩
   .exact nomatch e
   .injection e with e1 _;rw[e1]
 byValue:=λk v h=>by
  rcases vv h with ⟨i,t,rfl,rfl⟩ | ⟨x,t,rfl,rfl⟩<;>rfl
 pyHash:=λhv h=>by
  rcases vv hv with ⟨i,t,rfl,rfl⟩ | ⟨x,t,rfl,rfl⟩
  .exact wpAny_pyHash_int h
  .exact wpAny_pyHash_str h
 eqBool:=λhu hv h=>by
  rcases vv hu with ⟨i,t,rfl,rfl⟩ | ⟨x,t,rfl,rfl⟩
  .rcases vv hv with ⟨j,u,rfl,rfl⟩ | ⟨y,u,rfl,rfl⟩
   .rw[Ce] at h;exact wpAny_eqBool_int h
   .rw[Ds] at h;exact SeqAt.EqAt.int_str i t y u _ _ _ _ h
  .rcases vv hv with ⟨j,u,rfl,rfl⟩ | ⟨y,u,rfl,rfl⟩
   .rw[Dv] at h;exact SeqAt.EqAt.str_int x t j u _ _ _ _ h
   .rw[DB] at h;exact wpAny_eqBool_str h
 «strs»:=λk x t v h=>by
  rcases vv h with ⟨i,u,rfl,e⟩ | ⟨y,u,rfl,e⟩
  .exact nomatch e
  .injection e with e1 _
   subst e1;cases v<;>rfl
def Ze(prog:Í)(w:Ñ)(i:Int)(t:Tok):(qA prog w).is (.inl i) (.int i t)=Ã:=QC i t
def Zc(prog:Í)(w:Ñ)(x:Æ)(t:Tok):(qA prog w).is (.inr x) (.str x t)=Ã:=J2 x t
end L2
namespace L2
open PySem PySem.Spec PyProof.Rows
inductive V where
 | non | bl (b:Bool) | int (i:Int) | str (x:Æ) | byt (b:Array UInt8) | flt (b:UInt64) | ref (a:È) | ty (n:String)
 deriving DecidableEq
def RelV:V->Ä->Prop
 | .non,u=>u=Ó
 | .bl b,u=>u=Œ b
 | .int i,u=>∃t,u=Ġ i t
 | .str x,u=>∃t,u=ĕ x t
 | .byt b,u=>∃t,u=Value.bytes b t
 | .flt b,u=>∃t,u=Value.float b t
 | .ref a,u=>u=Ï a
 | .ty n,u=>u=ó n
abbrev Vals:List V->List Ä->Prop:=Paired RelV
theorem Vals.length{xs:List V}{us:List Ä}(r:Vals xs us):xs.length=us.length:=Paired.length r
theorem Vals.get:∀{xs:List V} {us:List Ä} {i:Nat} {x:V},Vals xs us->xs[i]?=À x->∃u,us[i]?=À u/\RelV x u
 | _,_,_,_,.nil,e=>by simp at e
 | _,_,0,_,.cons r _,e=>by simp at e;subst e;exact⟨_,rfl,r⟩
 | _,_,i+1,x,.cons _ t,e=>by
  obtain⟨u,h1,h2⟩:=Vals.get (i:=i) (x:=x) t (by simpa using e);exact⟨u,by simpa using h1,h2⟩
theorem Vals.set{x:V}{u:Ä}(r:RelV x u):∀{xs:List V} {us:List Ä} (i:Nat),Vals xs us->Vals (xs.set i x) (us.set i u)
 | _,_,_,.nil=>.nil
 | _,_,0,.cons _ t=>.cons r t
 | _,_,i+1,.cons q t=>.cons q (Vals.set r i t)
def Vals.append{xs ys:List V}{us ws:List Ä}(h:Vals xs us)(s:Vals ys ws):Vals (xs++ys) (us++ws):=by
 induction h with
 | nil=>exact s
 | cons r t ih=>exact .cons r ih
theorem Vals.take:∀{xs:List V} {us:List Ä} (n:Nat),Vals xs us->Vals (xs.take n) (us.take n)
 | _,_,0,_=>.nil
 | _,_,_+1,.nil=>.nil
 | _,_,n+1,.cons r t=>.cons r (Vals.take n t)
theorem Vals.drop:∀{xs:List V} {us:List Ä} (n:Nat),Vals xs us->Vals (xs.drop n) (us.drop n)
 | _,_,0,r=>r
 | _,_,_+1,.nil=>.nil
 | _,_,n+1,.cons _ t=>Vals.drop n t
def RelO:Option V->Option Ä->Prop
 | some v,À u=>RelV v u
 | none,Á=>True
 | _,_=>False
def KV{κ:Type}:List (κ×V)->List (κ×Ä)->Prop:=Paired λ(p:κ×V) (q:κ×Ä)=>p.1=q.1/\RelV p.2 q.2
def kV:Key->V
 | .inl i=>.int i
 | .inr x=>.str x
inductive HO where
 | lst (xs:List V)
 | tup (xs:List V)
 | dK (cb:List (Key×V)) | dT (cb:List (List Key×V))
 | set (S:Int->Bool) (n:Nat)
 | ins (C dx:È) (fs:List (Æ×V))
 | own (x:È)
 | xd (fs:List (Æ×V))
 | met (f x:È)
 | rng (lo hi:Int)
 | frz (o:ö) (u:HO)
 | tbl (ps:Array Ä)
 | ext (φ:Ò->Prop)
abbrev Hp:=È->Option HO
def upd(H:Hp)(a:È)(o:HO):Hp:=λb=>if b=a then À o else H b
def qq{H:Hp}{a:È}{o:HO}:upd H a o a=À o:=by unfold upd;rw[zW rfl]
def kF{H:Hp}{a b:È}{o:HO}(h:b≠a):upd H a o b=H b:=by unfold upd;rw[kh h]
def DO{H:Hp}{a b:È}{o u:HO}(h:H a=À o)(h':H b=À u)(d:o≠u):a≠b:=by
 intro e;subst e;rw[h] at h';exact d (zX h')
def qf{H:Hp}{a b:È}{o:HO}(h:H a=À o)(h':H b=Á):a≠b:=by
 intro e;subst e;rw[h] at h';cases h'
def NoDi(h:Ò)(a:È):Prop:=∃o,h.get? a=À o/\o.dict=Á
def NoDi.new(h:Ò)(o:ö)(n:↥(o.dict=Á))(f:↥(o.isFreed=Â)):NoDi (h.push o) h.objs.size:=⟨o,zK _ f,n⟩
section
variable(P:Í)(w:Ñ)
def ObjOk(H:Hp)(h:Ò)(a:È):HO->Prop
 | .lst xs=>xs.length<=sizeLine/\∃(its:List Ä) (n:Nat),Vals xs its/\h.get? a=À { cls:=.type "list",data:=.seq its.toArray n }
 | .tup xs=>xs.length<=sizeLine/\∃its:List Ä,Vals xs its/\Ŏ h a its.toArray/\NoDi h a
 | .dK cb=>cb.length<=sizeLine/\(a==ã)=Â/\∃vs,KV cb vs/\h.DictOf (qA P w) a vs
 | .dT cb=>cb.length<=sizeLine/\(a==ã)=Â/\∃xs:List (List Key×È×Ä),
   Paired (λ(p:List Key×V) (q:List Key×È×Ä)=>p.1=q.1/\H q.2.1=À (.tup (p.1.map kV))/\RelV p.2 q.2.2) cb xs /\
   ∃o es ep,h.get? a=À o/\o.ExactDict/\o.data=.dict es ep/\es.toList=xs.map (entryOfKey (ġ (qA P w)))/\(xs.map (·.1)).Nodup
 | .set S n=>h.SetOf (intKind P w) a S n
 | .ins C dx fs=>H dx=À (.own a)/\fs.length<=1000/\dx≠a/\h.get? a=À (Ś C dx) /\
   ∃mA,h.Ns1 dx mA/\(∀f,RelO (fs.lookup f) (mA f))/\PySem.Within mA (fs.map (·.1))
 | .own _=>∃o,h.get? a=À o
 | .xd fs=>∃mA,h.Ns1 a mA/\∀f,RelO (fs.lookup f) (mA f)
 | .rng lo hi=>∃t u v,h.get? a=À { cls:=.type "range",data:=.fields #[.int lo t,.int hi u,.int 1 v] }
 | .frz o u=>h.get? a=À o/\ObjOk H h a u
 | .tbl ps=>h.get? a=À { cls:=.none,data:=.fields ps }
 | .met f x=>h.get? a=À (Ń (.ref f) (.ref x))
 | .ext φ=>φ h/\(∃o,h.get? a=À o)/\∀h1 h2:Ò,φ h1->(∀o,h1.get? a=À o->h2.get? a=À o)->φ h2
def HOk(H:Hp)(h:Ò):Prop:=∀a o,H a=À o->ObjOk P w H h a o
end
section
variable{P:Í}{w:Ñ}{H H':Hp}{h h':Ò}{a:È}{o:HO}
theorem ObjOk.lt(x:ObjOk P w H h a o):a<h.objs.size:=by
 cases o with
 | lst xs=>obtain⟨_,_,_,_,e⟩:=x;exact zM e
 | tup xs=>obtain⟨_,_,_,p,_⟩:=x;exact p.lt
 | dK cb=>obtain⟨_,_,_,_,o,_,_,e,_⟩:=x;exact zM e
 | dT cb=>obtain⟨_,_,_,_,o,_,_,e,_⟩:=x;exact zM e
 | set S n=>obtain⟨o,_,_,_,e,_⟩:=x;exact zM e
 | ins C dx fs=>obtain⟨_,_,_,e,_⟩:=x;exact zM e
 | own y=>obtain⟨_,e⟩:=x;exact zM e
 | xd fs=>obtain⟨_,⟨_,_,_,e,_⟩,_⟩:=x;exact zM e
 | rng lo hi=>obtain⟨_,_,_,e⟩:=x;exact zM e
 | frz ob u=>obtain⟨e,_⟩:=x;exact zM e
 | tbl ps=>exact zM (show h.get? a=À _ from x)
 | met f y=>exact zM (show h.get? a=À _ from x)
 | ext φ=>obtain⟨_,⟨_,e⟩,_⟩:=x;exact zM e
theorem Paired.mapP{α β:Type}{F G:α->β->Prop}:∀{l₁:List α} {Hu:List β},Paired F l₁ Hu->(∀a b,F a b->G a b)->Paired G l₁ Hu
 | _,_,.nil,_=>.nil
 | _,_,.cons r t,f=>.cons (f _ _ r) (Paired.mapP t f)
def ObjOk.stay(x:ObjOk P w H h a o)(k:∀b u,(b=a\/H b=À (.own a))->h.get? b=À u->h'.get? b=À u)
  (ho:∀b,H b=À (.own a)->H' b=À (.own a)) (ht:∀b xs,H b=À (.tup xs)->H' b=À (.tup xs)):ObjOk P w H' h' a o:=by
 induction o with
 | lst xs=>obtain⟨z,its,n,r,e⟩:=x;exact⟨z,its,n,r,k _ _ (.inl rfl) e⟩
 | tup xs=>obtain⟨z,its,r,⟨ob,e,c⟩,o2,e2,d2⟩:=x;exact⟨z,its,r,⟨ob,k _ _ (.inl rfl) e,c⟩,o2,k _ _ (.inl rfl) e2,d2⟩
 | dK cb=>obtain⟨z,y,vs,r,ob,es,ep,e,c⟩:=x;exact⟨z,y,vs,r,ob,es,ep,k _ _ (.inl rfl) e,c⟩
 | dT cb=>
  obtain⟨z,y,xs,r,ob,es,ep,e,c⟩:=x;exact⟨z,y,xs,Paired.mapP r λp q z=>⟨z.1,ht _ _ z.2.1,z.2.2⟩,ob,es,ep,k _ _ (.inl rfl) e,c⟩
 | set S n=>obtain⟨ob,es,ep,t,e,c⟩:=x;exact⟨ob,es,ep,t,k _ _ (.inl rfl) e,c⟩
 | ins C dx fs=>
  obtain⟨d,z,ne,e,mA,⟨od,es,ep,e2,c⟩,r⟩:=x;exact⟨ho _ d,z,ne,k _ _ (.inl rfl) e,mA,⟨od,es,ep,k _ _ (.inr d) e2,c⟩,r⟩
 | own y=>obtain⟨ob,e⟩:=x;exact⟨ob,k _ _ (.inl rfl) e⟩
 | xd fs=>obtain⟨mA,⟨od,es,ep,e,c⟩,r⟩:=x;exact⟨mA,⟨od,es,ep,k _ _ (.inl rfl) e,c⟩,r⟩
 | rng lo hi=>obtain⟨t,u,v,e⟩:=x;exact⟨t,u,v,k _ _ (.inl rfl) e⟩
 | frz ob u ih=>obtain⟨e,q⟩:=x;exact⟨k _ _ (.inl rfl) e,ih q⟩
 | tbl ps=>
  have e:h.get? a=À { cls:=.none,data:=.fields ps }:=x;show h'.get? a=À { cls:=.none,data:=.fields ps }
  exact k a _ (.inl rfl) e
 | met f y=>
  have e:h.get? a=À (Ń (.ref f) (.ref y)):=x;show h'.get? a=À (Ń (.ref f) (.ref y))
  exact k a _ (.inl rfl) e
 | ext φ=>obtain⟨p,⟨o,e⟩,st⟩:=x;exact⟨st _ _ p λo q=>k _ _ (.inl rfl) q,⟨o,k _ _ (.inl rfl) e⟩,st⟩
theorem HOk.lt(x:HOk P w H h)(e:H a=À o):a<h.objs.size:=(x a o e).lt
def HOk.fresh(x:HOk P w H h)(e:h.objs.size<=a):H a=Á:=by
 cases q:H a with
 | none=>rfl
 | some u=>exact absurd (zO (x.lt q) e) (j4 _)
def HOk.kept(x:HOk P w H h)(k:∀b u,h.get? b=À u->h'.get? b=À u):HOk P w H h':=λa o e=>
 (x a o e).stay (λb u _ q=>k b u q) (λ_ q=>q) λ_ _ q=>q
def HOk.laid(x:HOk P w H h)(k:∀b u,h.get? b=À u->h'.get? b=À u)(hp:h.objs.size<=a)(new:ObjOk P w (upd H a o) h' a o):HOk P w (upd H a o) h':=λb u e=>by
 have hn:=x.fresh hp;by_cases hb:b=a
 .subst hb;rw[qq] at e;cases e;exact new
 .rw[kF hb] at e
  exact(x b u e).stay (λc v _ q=>k c v q) (λc q=>by rw[kF (qf q hn)];exact q) λc xs q=>by rw[kF (qf q hn)];exact q
end
def Rd(H:Hp)(a:È)(u:HO):Prop:=H a=À u\/∃o,H a=À (.frz o u)
def Rd.ok{P:Í}{w:Ñ}{H:Hp}{h:Ò}{a:È}{u:HO}(r:Rd H a u)(x:HOk P w H h):ObjOk P w H h a u:=by
 rcases r with r | ⟨o,r⟩
 .exact x a u r
 .obtain⟨_,q⟩:=x a _ r
  exact q
def oq:Option HO->Prop
 | some (.lst _)=>True
 | some (.dK _)=>True
 | some (.dT _)=>True
 | some (.set _ _)=>True
 | some (.ins _ _ _)=>True
 | some (.ext _)=>True
 | _=>False
section
variable{P:Í}{w:Ñ}{H:Hp}{h h':Ò}{x e:È}{o':HO}
theorem HOk.write(ok:HOk P w H h)(mu:oq (H x))(he:e=x\/H e=À (.own x))(k:∀b u,b≠e->h.get? b=À u->h'.get? b=À u)(Hi:∃u,h'.get? e=À u)
  (new:ObjOk P w (upd H x o') h' x o'):HOk P w (upd H x o') h':=λb u q=>by
 have Hv:∀c y,H c=À (.own y)->c≠x:=λc y r z=>by subst z;rw[r] at mu;exact mu
 have La:∀c xs,H c=À (.tup xs)->c≠x:=λc xs r z=>by subst z;rw[r] at mu;exact mu
 by_cases hb:b=x
 .subst hb;rw[qq] at q;cases q;exact new
 .rw[kF hb] at q
  by_cases hbe:b=e
  .have q':H b=À (.own x):=by
    rcases he with z | z
    .exact absurd (hbe.trans z) hb
    .rw[hbe];exact z
   rw[q] at q';cases q';obtain⟨v,hv⟩:=Hi;exact⟨v,by rw[hbe];exact hv⟩
  .refine(ok b u q).stay (λc v hc r=>k c v ?_ r) (λc r=>by rw[kF (Hv c b r)];exact r) λc xs r=>by rw[kF (La c xs r)];exact r
   rcases hc with rfl | hc
   .exact hbe
   .rintro rfl
    rcases he with z | z
    .exact Hv c b hc z
    .rw[hc] at z;cases z;exact hb rfl
end
structure Un(fs ex:List È)(H H':Hp)(h h':Ò):Prop where
 keep:∀b o,h.get? b=À o->H b=Á->b∉fs->b∉ex->h'.get? b=À o
 slot:∀b o,h.get? b=À o->H b=Á->b∈fs->b∉ex->∃sl,h'.get? b=À { o with slots:=sl }
 free:∀b o,h.get? b=À o->H b=Á->b∉ex->H' b=Á
 there:∀b o,h.get? b=À o->b∉ex->∃o',h'.get? b=À o'
 tups:∀b xs,H b=À (.tup xs)->H' b=À (.tup xs)
 frzs:∀b o u,H b=À (.frz o u)->H' b=À (.frz o u)
 tbls:∀b ps,H b=À (.tbl ps)->∃more,H' b=À (.tbl (ps++more))
section
variable{fs EK ex RA:List È}{H H1 H2:Hp}{h h1 h2 h':Ò}{a x e:È}{o:HO}
def Un.any(u:Un fs ex H H1 h h1){b:È}{ob:ö}(q:h.get? b=À ob)(n:H b=Á)(hx:b∉ex):∃sl,h1.get? b=À { ob with slots:=sl }:=by
 by_cases hb:b∈fs
 .exact u.slot b ob q n hb hx
 .exact⟨ob.slots,u.keep b ob q n hb hx⟩
def Un.kept(k:∀b u,h.get? b=À u->h'.get? b=À u):Un fs ex H H h h':=
 ⟨λb ob q _ _ _=>k b ob q,λb ob q _ _ _=>⟨ob.slots,k b ob q⟩,λ_ _ _ n _=>n,λb ob q _=>⟨ob,k b ob q⟩,λ_ _ q=>q,λ_ _ _ q=>q,λ_ ps q=>⟨#[],by rw[q];simp⟩⟩
def Un.refl:Un fs ex H H h h:=Un.kept λ_ _ q=>q
def Un.laid(k:∀b u,h.get? b=À u->h'.get? b=À u)(hp:h.objs.size<=a)(hn:H a=Á):Un fs ex H (upd H a o) h h' where
 keep:=λb u q _ _ _=>k b u q
 slot:=λb u q _ _ _=>⟨u.slots,k b u q⟩
 free:=λb u q n _=>by rw[kF (zU (zO (zM q) hp))];exact n
 there:=λb u q _=>⟨u,k b u q⟩
 tups:=λb xs q=>by rw[kF (qf q hn)];exact q
 frzs:=λb u xs q=>by rw[kF (qf q hn)];exact q
 tbls:=λb ps q=>⟨#[],by rw[kF (qf q hn),q];simp⟩
def Un.write(mu:oq (H x))(he:e=x\/H e=À (.own x))(k:∀b u,b≠e->h.get? b=À u->h'.get? b=À u)(Hi:∃u,h'.get? e=À u):Un fs ex H (upd H x o) h h':=by
 have hx:∀b,H b=Á->b≠x:=λb n z=>by subst z;rw[n] at mu;exact mu
 have hb:∀b,H b=Á->b≠e:=λb n z=>by
  subst z;rcases he with r | r
  .exact hx b n r
  .rw[n] at r;cases r
 have hm:∀b u,H b=À u->¬oq (À u)->b≠x:=λb u q nm z=>by subst z;rw[q] at mu;exact nm mu
 refine⟨λb u q n _ _=>k b u (hb b n) q,λb u q n _ _=>⟨u.slots,k b u (hb b n) q⟩,λb u q n _=>by rw[kF (hx b n)];exact n,λb u q _=>?_,
  λb xs q=>by rw[kF (hm b _ q λz=>z)];exact q,λb u xs q=>by rw[kF (hm b _ q λz=>z)];exact q,λb ps q=>⟨#[],by rw[kF (hm b _ q λz=>z),q];simp⟩⟩
 by_cases hbe:b=e
 .subst hbe;exact Hi
 .exact⟨u,k b u hbe q⟩
end
def YV(h:Ò)(H:Hp):List È:=(Ô h.objs.size).filter λa=>(H a).isSome
def fN(h:Ò)(H:Hp):Ò:=PySem.W.hideAll h (YV h H)
def Qy(h:Ò)(H:Hp):(fN h H).objs.size=h.objs.size:=PySem.W.hideAll_size _ _
def V4{h:Ò}{H:Hp}{b:È}{o:ö}(e:h.get? b=À o)(n:H b=Á):(fN h H).get? b=À o:=
 PySem.W.hideAll_get _ e λhm=>by
  have q:(H b).isSome=Ã:=(zV.mp hm).2;rw[n] at q;simp at q
def Uj{h:Ò}{H:Hp}{b:È}{o:ö}(e:(fN h H).get? b=À o):h.get? b=À o/\H b=Á:=by
 have e':h.get? b=À o:=PySem.W.of_hideAll (YV h H) e;refine⟨e',?_⟩;cases q:H b with
 | none=>rfl
 | some x=>
  have hm:b∈YV h H:=zV.mpr ⟨ju.mpr (zM e'),by simp[q]⟩;have z:(fN h H).get? b=Á:=PySem.W.hideAll_none (YV h H) hm;rw[z] at e;cases e
end L2
namespace L2
open PySem PySem.Spec PyProof.Rows
structure Mod(K:Sb)(mg:Æ->Option Ä)(base:Ò):Prop where
 kin:K.In base
 glob:base.Ns Ü mg
 blt:∃mb,base.Ns builtinsNs mb/\∀x:Æ,x≠"__name__"->mb x=Õ x
 nolimit:base.NoLimit
structure Cx where
 prog:Í
 w:Ñ
 K:Sb
 mg:Æ->Option Ä
 base:Ò
 A:Ö
 N:List Æ
 s₀:Å
 H₀:Hp
 env:Env
 outer:List Env
 stack:List Env
 ex:List È
 fn:Æ->Bool
 calm:Bool
 pn:List (È×ö)
 xe:Ä->Å->Prop
def frs(l:List Env):List È:=l.filterMap (·.frame)
abbrev Cx.fs(X:Cx):List È:=frs X.outer
def Qh(sc:ê)(x:Æ):Prop:=sc.names.lookup x=À .local\/sc.names.lookup x=À .cell\/sc.names.lookup x=À .free
def Loc(sc:ê)(x:Æ):Prop:=sc.names.lookup x=À .local\/sc.names.lookup x=À .cell
def Look(env:Env)(h:Ò)(m:Æ->Option Ä)(x:Æ)(u:Ä):Prop:=
 (env.kindOf x=À .local/\m x=À u)\/((env.kindOf x=À .cell\/env.kindOf x=À .free)/\∃c,env.cells.lookup x=À c/\h.IsCell c (À u))
structure Cx.Ok(X:Cx):Prop where
 mod:Mod X.K X.mg X.base
 kind:X.env.scope.kind=.function
 glob:X.env.globals=Ü
 blt:X.env.builtins=builtinsNs
 above:X.s₀.heap.objs.size<=X.env.locals
 inj:∀x y c,X.env.cells.lookup x=À c->X.env.cells.lookup y=À c->x=y
 has:∀x,(X.env.kindOf x=À .cell\/X.env.kindOf x=À .free)->∃c,X.env.cells.lookup x=À c
 cab:∀x c,X.fn x=Ã->X.env.cells.lookup x=À c->X.s₀.heap.objs.size<=c
 hd:X.calm=Ã->X.A.handled=Á
 frames:X.A.frames=À X.stack
 stk:X.stack=X.outer\/(X.stack=X.env::X.outer/\X.env.frame=À X.env.locals)
 exf:∀b∈X.ex,b≠X.env.locals/\∀x c,X.env.cells.lookup x=À c->c≠b
 bs:∀b o,X.base.get? b=À o->X.s₀.heap.get? b=À o/\X.H₀ b=Á
 bsz:X.base.objs.size<=X.s₀.heap.objs.size
 noex:∀b o,X.base.get? b=À o->b∉X.ex
 exfs:∀b∈X.ex,b∉X.fs
 funs:X.s₀.heap.FunFrames X.base X.outer
 frf:∀b∈X.fs,X.H₀ b=Á
structure Inv(X:Cx)(ag:List (È×ö))(σ:List (Option V))(H:Hp)(s:Å):Prop where
 ok:X.Ok
 os:s.os=X.s₀.os
 bare:ń s.gens
 base:Un X.fs X.ex X.H₀ H X.s₀.heap s.heap
 loc:∃m,s.heap.Ns X.env.locals m/\∀(i:Nat) (x:Æ) (v:V),X.N[i]?=À x->σ[i]?=À (À v)->Qh X.env.scope x->∃u,RelV v u/\Look X.env s.heap m x u
 cell:∀x c,X.env.cells.lookup x=À c->∃v,s.heap.IsCell c v
 free:H X.env.locals=Á
 freeC:∀x c,X.env.cells.lookup x=À c->H c=Á
 pin:∀p∈X.pn++ag,s.heap.get? p.1=À p.2/\H p.1=Á/\p.1≠X.env.locals/\p.1∉X.fs/\∀v,p.2.data≠.cell v
 hok:HOk X.prog X.w H s.heap
 len:σ.length=X.N.length
section
variable{X:Cx}{ag:List (È×ö)}{σ:List (Option V)}{H H':Hp}{s:Å}{h':Ò}
def Cx.Ok.nofr(ok:X.Ok){b:È}{o:ö}(e:X.base.get? b=À o):b∉X.fs:=λhb=>by
 have:=(ok.funs.mem hb).1;rw[e] at this;cases this
theorem Inv.bs(I:Inv X ag σ H s):∀b o,X.base.get? b=À o->s.heap.get? b=À o/\H b=Á:=λb o e=>
 ⟨I.base.keep b o (I.ok.bs b o e).1 (I.ok.bs b o e).2 (I.ok.nofr e) (I.ok.noex b o e),I.base.free b o (I.ok.bs b o e).1 (I.ok.bs b o e).2 (I.ok.noex b o e)⟩
def Inv.bk(I:Inv X ag σ H s):∀b o,X.base.get? b=À o->s.heap.get? b=À o:=λb o e=>(I.bs b o e).1
theorem Inv.mod(I:Inv X ag σ H s):Mod X.K X.mg X.base:=I.ok.mod
def Inv.kIn(I:Inv X ag σ H s):X.K.In s.heap:=I.ok.mod.kin.keeps I.bk
theorem Inv.lt(I:Inv X ag σ H s):X.env.locals<s.heap.objs.size:=let ⟨_,hn,_⟩:=I.loc;hn.lt
def Inv.sz(I:Inv X ag σ H s):X.s₀.heap.objs.size<=s.heap.objs.size:=zz I.ok.above (qU I.lt)
def Inv.nofs(I:Inv X ag σ H s){a:È}(h:s.heap.objs.size<=a):a∉X.fs:=λhb=>by
 obtain⟨_,o,ho,_⟩:=I.ok.funs.mem hb;exact absurd (zO (zM ho) (zz I.sz h)) (j4 _)
def Inv.cne(I:Inv X ag σ H s):∀x c,X.env.cells.lookup x=À c->c≠X.env.locals:=λx c e z=>by
 obtain⟨v,o,ho,hd⟩:=I.cell x c e;obtain⟨m,⟨o',es,ep,EA,Az,_⟩,_⟩:=I.loc;rw[z,EA] at ho;cases ho;rw[Az] at hd;cases hd
theorem Inv.funs(I:Inv X ag σ H s):s.heap.FunFrames X.base X.outer:=by
 have all:∀(l:List Env),(∀b∈frs l,b∈X.fs)->X.s₀.heap.FunFrames X.base l->s.heap.FunFrames X.base l:=by
  intro l;induction l with
  | nil=>intro _ _;trivial
  | cons env r ih=>
   intro hs hl;obtain⟨hk,⟨L,o,hf,hn,ho,hd⟩,hr⟩:=hl;have hL:L∈X.fs:=hs L (by unfold frs;rw[wC,hf];exact zr);obtain⟨sl,e⟩:=I.base.slot L o ho (I.ok.frf L hL) hL λz=>I.ok.exfs L z hL
   exact⟨hk,⟨L,_,hf,hn,e,hd⟩,ih (λb hb=>hs b (by unfold frs;rw[wC,hf];exact zm _ hb)) hr⟩
 exact all X.outer (λ_ hb=>hb) I.ok.funs
theorem Inv.stack(I:Inv X ag σ H s):s.heap.FunFrames X.base X.stack:=by
 rcases I.ok.stk with e | ⟨e,hf⟩
 .rw[e];exact I.funs
 .rw[e]
  obtain⟨m,hn,_⟩:=I.loc;refine .cons (by rw[I.ok.kind];decide) hf hn ?_ I.funs;exact xF (zz I.ok.bsz I.ok.above)
def Inv.stkSub(I:Inv X ag σ H s):∀b∈frs X.stack,b∈X.env.locals::X.fs:=λb hb=>by
 rcases I.ok.stk with e | ⟨e,hf⟩
 .rw[e] at hb;exact zm _ hb
 .rw[e] at hb
  unfold frs at hb;rw[wC,hf] at hb;exact hb
def Inv.stkFree(I:Inv X ag σ H s):∀b∈frs X.stack,H b=Á:=λb hb=>by
 rcases zj.mp (I.stkSub b hb) with e | hb
 .rw[e];exact I.free
 .obtain⟨_,o,ho,_⟩:=I.ok.funs.mem hb
  exact I.base.free b o ho (I.ok.frf b hb) λz=>I.ok.exfs b z hb
def Inv.step{g':Array ō}{t':Nat}{d':Drawn}{ch:List È}(I:Inv X ag σ H s)
  (EB:∀b∈ch,(b∈X.ex\/X.s₀.heap.objs.size<=b)/\b≠X.env.locals/\(∀x c,X.env.cells.lookup x=À c->c≠b)/\∀p∈X.pn++ag,p.1≠b)
  (keep:∀b o,b≠X.env.locals->b∉X.fs->b∉ch->s.heap.get? b=À o->H b=Á->h'.get? b=À o)
  (slot:∀b o,b≠X.env.locals->b∈X.fs->b∉ch->s.heap.get? b=À o->H b=Á->∃sl,h'.get? b=À { o with slots:=sl }) (free:∀b o,b∉ch->s.heap.get? b=À o->H b=Á->H' b=Á)
  (there:∀b o,b∉ch->s.heap.get? b=À o->∃o',h'.get? b=À o')
  (tups:∀b xs,H b=À (.tup xs)->H' b=À (.tup xs)) (frzs:∀b o u,H b=À (.frz o u)->H' b=À (.frz o u)) (tbls:∀b ps,H b=À (.tbl ps)->∃more,H' b=À (.tbl (ps++more)))
  (ns:∀m,s.heap.Ns X.env.locals m->h'.Ns X.env.locals m) (hok:HOk X.prog X.w H' h') (hg:ń g') :
  Inv X ag σ H' { s with heap:=h',gens:=g',drawn:=d',toks:=t' }:=by
 have MA:∀b o,X.s₀.heap.get? b=À o->b≠X.env.locals:=λb o e=>zU (zO (zM e) I.ok.above)
 have IA:∀b o,X.s₀.heap.get? b=À o->b∉X.ex->b∉ch:=λb o e hx hb=>by
  rcases(EB b hb).1 with z | z
  .exact hx z
  .exact absurd (zO (zM e) z) (j4 _)
 have cellK:∀x c,X.env.cells.lookup x=À c->∀v,s.heap.IsCell c v->h'.IsCell c v:=λx c e v ⟨o,ho,hd⟩=>by
  have Hw:c∉ch:=λz=>(EB c z).2.2.1 x c e rfl
  by_cases hc:c∈X.fs
  .obtain⟨sl,q⟩:=slot c o (I.cne x c e) hc Hw ho (I.freeC x c e)
   exact⟨_,q,hd⟩
  .exact⟨o,keep c o (I.cne x c e) hc Hw ho (I.freeC x c e),hd⟩
 refine⟨I.ok,I.os,hg,⟨λb o e n hb hx=>?_,λb o e n hb hx=>?_,λb o e n hx=>?_,λb o e hx=>?_,λb xs e=>tups b xs (I.base.tups b xs e),λb o xs e=>frzs b o xs (I.base.frzs b o xs e),λb ps e=>?_⟩,?_,λx c e=>?_,?_,λx c e=>?_,λp hp=>?_,hok,I.len⟩
 .exact keep b o (MA b o e) hb (IA b o e hx) (I.base.keep b o e n hb hx) (I.base.free b o e n hx)
 .obtain⟨sl,e1⟩:=I.base.slot b o e n hb hx
  obtain⟨Oe,e2⟩:=slot b _ (MA b o e) hb (IA b o e hx) e1 (I.base.free b o e n hx);exact⟨Oe,e2⟩
 .obtain⟨o',e1⟩:=I.base.there b o e hx
  exact free b o' (IA b o e hx) e1 (I.base.free b o e n hx)
 .obtain⟨o',e1⟩:=I.base.there b o e hx
  exact there b o' (IA b o e hx) e1
 .obtain⟨m1,e1⟩:=I.base.tbls b ps e
  obtain⟨m2,e2⟩:=tbls b _ e1;exact⟨m1++m2,by rw[e2,Array.append_assoc]⟩
 .obtain⟨m,hn,hl⟩:=I.loc
  refine⟨m,ns m hn,λi x v e1 e2 e3=>?_⟩;obtain⟨u,r,l⟩:=hl i x v e1 e2 e3;refine⟨u,r,?_⟩;rcases l with l | ⟨k,c,e,z⟩
  .exact .inl l
  .exact .inr ⟨k,c,e,cellK x c e _ z⟩
 .obtain⟨v,z⟩:=I.cell x c e
  exact⟨v,cellK x c e v z⟩
 .obtain⟨m,⟨o,_,_,ho,_⟩,_⟩:=I.loc
  exact free _ o (λz=>(EB _ z).2.1 rfl) ho I.free
 .obtain⟨v,o,ho,hd⟩:=I.cell x c e
  exact free c o (λz=>(EB c z).2.2.1 x c e rfl) ho (I.freeC x c e)
 .obtain⟨e,n,ne,nf,d⟩:=I.pin p hp
  have Hw:p.1∉ch:=λz=>(EB p.1 z).2.2.2 p hp rfl
  exact⟨keep p.1 p.2 ne nf Hw e n,free p.1 p.2 Hw e n,ne,nf,d⟩
def Inv.un{t':Nat}(I:Inv X ag σ H s)(u:Un X.fs [] H H' s.heap h')(hok:HOk X.prog X.w H' h'):Inv X ag σ H' { s with heap:=h',toks:=t' }:=by
 obtain⟨m,⟨o,es,ep,ho,r⟩,_⟩:=id I.loc;obtain⟨sl,hL⟩:=u.any ho I.free (by simp)
 exact I.step (g':=s.gens) (d':=s.drawn) (ch:=[]) (λ_ z=>nomatch z) (λb o _ hb _ e n=>u.keep b o e n hb (by simp)) (λb o _ hb _ e n=>u.slot b o e n hb (by simp)) (λb o _ e n=>u.free b o e n (by simp)) (λb o _ e=>u.there b o e (by simp)) u.tups u.frzs u.tbls (λm' hm=>by
  obtain⟨o',es',Hx,EA,r'⟩:=hm;rw[ho] at EA;cases EA
  exact⟨_,es',Hx,hL,r'⟩) hok I.bare
def Inv.call{g':Array ō}{t':Nat}{d':Drawn}{ch:List È}(I:Inv X ag σ H s)(u:Un (frs X.stack) ch H H' s.heap h')(hok:HOk X.prog X.w H' h')(hg:ń g')
  (EB:∀b∈ch,(b∈X.ex\/X.s₀.heap.objs.size<=b)/\b≠X.env.locals/\(∀x c,X.env.cells.lookup x=À c->c≠b)/\∀p∈X.pn++ag,p.1≠b) :
  Inv X ag σ H' { s with heap:=h',gens:=g',drawn:=d',toks:=t' }:=by
 obtain⟨m,⟨o,es,ep,ho,r⟩,_⟩:=id I.loc;obtain⟨sl,hL⟩:=u.any ho I.free λz=>(EB _ z).2.1 rfl
 exact I.step (ch:=ch) EB (λb o hL hb hc e n=>u.keep b o e n (λz=>(zj.mp (I.stkSub b z)).elim hL hb) hc) (λb o _ _ hc e n=>u.any e n hc) (λb o hc e n=>u.free b o e n hc) (λb o hc e=>u.there b o e hc) u.tups u.frzs u.tbls (λm' hm=>by
  obtain⟨o',es',Hx,EA,r'⟩:=hm;rw[ho] at EA;cases EA
  exact⟨_,es',Hx,hL,r'⟩) hok hg
def Inv.turned{t':Nat}{it:È}(I:Inv X ag σ H s)(k:∀b o,b≠it->s.heap.get? b=À o->h'.get? b=À o)(hn:H it=Á)(hL:it≠X.env.locals)
  (h1:it∈X.ex\/X.s₀.heap.objs.size<=it) (h2:∀x c,X.env.cells.lookup x=À c->c≠it) (h3:∀p∈X.pn++ag,p.1≠it):Inv X ag σ H { s with heap:=h',toks:=t' }:=by
 have MB:∀b u,H b=À u->b≠it:=λb u e z=>by rw[z,hn] at e;cases e
 refine I.step (g':=s.gens) (d':=s.drawn) (ch:=[it]) (λb hb=>?_) (λb o _ _ hc e _=>k b o (λz=>hc (by simp[z])) e) (λb o _ _ hc e _=>⟨o.slots,k b o (λz=>hc (by simp[z])) e⟩) (λ_ _ _ _ n=>n)
  (λb o hc e=>⟨o,k b o (λz=>hc (by simp[z])) e⟩) (λ_ _ e=>e) (λ_ _ _ e=>e) (λb ps e=>⟨#[],by rw[e];simp⟩) (λm hm=>?_) (λb u e=>?_) I.bare
 .have e:b=it:=by simpa using hb
  subst e;exact⟨h1,hL,h2,h3⟩
 .obtain⟨o,es,ep,ho,r⟩:=hm
  exact⟨o,es,ep,k _ o (jq hL) ho,r⟩
 .refine(I.hok b u e).stay (λc v hc q=>k c v ?_ q) (λ_ q=>q) λ_ _ q=>q
  rcases hc with z | z
  .rw[z];exact MB b u e
  .exact MB c _ z
def Inv.tok(I:Inv X ag σ H s)(t:Nat):Inv X ag σ H { s with toks:=t }:=I.un (h':=s.heap) (t':=t) Un.refl I.hok
theorem Inv.kept{t':Nat}(I:Inv X ag σ H s)(k:∀b u,s.heap.get? b=À u->h'.get? b=À u):Inv X ag σ H { s with heap:=h',toks:=t' }:=I.un (Un.kept k) (I.hok.kept k)
theorem Inv.laid{a:È}{o:HO}{t':Nat}(I:Inv X ag σ H s)(k:∀b u,s.heap.get? b=À u->h'.get? b=À u)(hp:s.heap.objs.size<=a)(new:ObjOk X.prog X.w (upd H a o) h' a o) :
  Inv X ag σ (upd H a o) { s with heap:=h',toks:=t' }:=I.un (Un.laid k hp (I.hok.fresh hp)) (I.hok.laid k hp new)
theorem Inv.write{x e:È}{o:HO}{t':Nat}(I:Inv X ag σ H s)(mu:oq (H x))(he:e=x\/H e=À (.own x))(k:∀b u,b≠e->s.heap.get? b=À u->h'.get? b=À u)(Hi:∃u,h'.get? e=À u)
  (new:ObjOk X.prog X.w (upd H x o) h' x o):Inv X ag σ (upd H x o) { s with heap:=h',toks:=t' }:=I.un (Un.write mu he k Hi) (I.hok.write mu he k Hi new)
def Inv.pins_of{Fu:List (È×ö)}(I:Inv X ag σ H s)(h:∀p∈Fu,s.heap.get? p.1=À p.2/\H p.1=Á/\p.1≠X.env.locals/\p.1∉X.fs/\∀v,p.2.data≠.cell v):Inv X Fu σ H s:=
 ⟨I.ok,I.os,I.bare,I.base,I.loc,I.cell,I.free,I.freeC,λp hp=>(zA.mp hp).elim (λz=>I.pin p (vf _ z)) (h p),I.hok,I.len⟩
def rC{N:List Æ}(hN:N.Nodup){i j:Nat}{x:Æ}(a:N[i]?=À x)(b:N[j]?=À x):i=j:=by
 obtain⟨h1,e1⟩:=zJ.mp a;obtain⟨h2,e2⟩:=zJ.mp b;exact(v9 hN).mp (e1.trans e2.symm)
def nK{M:Model}{A:Ö}{E:Ä->Å->Prop}{i:Nat}{x:Æ}{v:V}{u:Ä}{Q:Unit->Å->Prop}(I:Inv X ag σ H s)(hN:X.N.Nodup)(hi:X.N[i]?=À x)(hx:Loc X.env.scope x)(r:RelV v u)
  (h:∀s',Inv X ag (σ.set i (À v)) H s'->(∃a,Ý a s.heap s'.heap/\(a=X.env.locals\/X.env.cells.lookup x=À a))->Q () s') (hf:X.fn x=Ã\/X.env.scope.names.lookup x=À .local:=by first | exact .inl rfl | exact .inr rfl | assumption):É M A (storeName X.env x u) Q E s:=by
 obtain⟨m,hn,hl⟩:=id I.loc;have Lb:(X.env.scope.kind==.class||(X.env.scope.kind==.module&&X.env.locals != X.env.globals))=Â:=by rw[I.ok.kind];rfl
 have Hy:i<σ.length:=by rw[I.len];exact(zJ.mp hi).1
 have cne:=I.cne;have tracked:∀{a:È} {h':Ò},(∃o,s.heap.get? a=À o/\H a=Á)->Ý a s.heap h'->HOk X.prog X.w H h':=λ{a h'} ha hs b ob e=>by
  obtain⟨_,_,FB⟩:=ha;refine(I.hok b ob e).stay (λc w' hc q=>(hs.2 c ?_).trans q) (λ_ q=>q) λ_ _ q=>q
  rintro rfl;rcases hc with rfl | hc
  .rw[FB] at e;cases e
  .rw[FB] at hc;cases hc
 rcases hx with hk | hk
 .refine wpAny_storeName_local hk hn (λh' Of hs=>?_) Lb
  obtain⟨oL,_,_,Og,_⟩:=id hn;refine h _ ⟨I.ok,I.os,I.bare,⟨λb o e n hb hx=>?_,λb o e n hb hx=>?_,I.base.free,λb o e hx=>?_,I.base.tups,I.base.frzs,I.base.tbls⟩,⟨_,Of,λj y v' e1 e2 e3=>?_⟩,λy c e=>?_,I.free,I.freeC,λp hp=>?_,tracked ⟨oL,Og,I.free⟩ hs,by simpa using I.len⟩ ⟨_,hs,.inl rfl⟩
  .exact(hs.2 b (zU (zO (zM e) I.ok.above))).trans (I.base.keep b o e n hb hx)
  .obtain⟨sl,e1⟩:=I.base.slot b o e n hb hx
   exact⟨sl,(hs.2 b (zU (zO (zM e) I.ok.above))).trans e1⟩
  .obtain⟨o',e1⟩:=I.base.there b o e hx
   exact⟨o',(hs.2 b (zU (zO (zM e) I.ok.above))).trans e1⟩
  .by_cases hj:j=i
   .subst hj
    rw[hi] at e1;cases e1;rw[qR Hy] at e2;cases e2;exact⟨u,r,.inl ⟨hk,by simp⟩⟩
   .rw[vg (jq hj)] at e2
    obtain⟨u',r',q⟩:=hl j y v' e1 e2 e3;refine⟨u',r',?_⟩;rcases q with ⟨k,e⟩ | ⟨k,c,e,z⟩
    .refine .inl ⟨k,?_⟩
     have:y≠x:=λe=>hj (rC hN e1 (e▸hi))
     simp[this,e]
    .exact .inr ⟨k,c,e,z.sameBut hs (cne y c e)⟩
  .obtain⟨w',z⟩:=I.cell y c e
   exact⟨w',z.sameBut hs (cne y c e)⟩
  .obtain⟨e,n,ne,nf,d⟩:=I.pin p hp
   exact⟨(hs.2 p.1 ne).trans e,n,ne,nf,d⟩
 .have Lc:X.fn x=Ã:=by
   rcases hf with z | z
   .exact z
   .rw[z] at hk;cases hk
  obtain⟨c,hc⟩:=I.ok.has x (.inl hk);obtain⟨w',z⟩:=I.cell x c hc;refine wpAny_storeName_cell I.ok.kind hk hc z (λh' Hz hs=>?_);obtain⟨oc,MC,Ld⟩:=id z;refine h { s with heap:=h' } ⟨I.ok,I.os,I.bare,⟨λb o e n hb hx=>?_,λb o e n hb hx=>?_,I.base.free,λb o e hx=>?_,I.base.tups,I.base.frzs,I.base.tbls⟩,⟨m,hn.sameBut hs (jq (cne x c hc)),λj y v' e1 e2 e3=>?_⟩,λy c' e=>?_,I.free,I.freeC,λp hp=>?_,tracked ⟨oc,MC,I.freeC x c hc⟩ hs,by simpa using I.len⟩ ⟨c,hs,.inr hc⟩
  .exact(hs.2 b (zU (zO (zM e) (I.ok.cab x c Lc hc)))).trans (I.base.keep b o e n hb hx)
  .obtain⟨sl,e1⟩:=I.base.slot b o e n hb hx
   exact⟨sl,(hs.2 b (zU (zO (zM e) (I.ok.cab x c Lc hc)))).trans e1⟩
  .obtain⟨o',e1⟩:=I.base.there b o e hx
   exact⟨o',(hs.2 b (zU (zO (zM e) (I.ok.cab x c Lc hc)))).trans e1⟩
  .by_cases hj:j=i
   .subst hj
    rw[hi] at e1;cases e1;rw[qR Hy] at e2;cases e2;exact⟨u,r,.inr ⟨.inl hk,c,hc,Hz⟩⟩
   .rw[vg (jq hj)] at e2
    obtain⟨u',r',q⟩:=hl j y v' e1 e2 e3;refine⟨u',r',?_⟩;rcases q with q | ⟨k,c',e,z'⟩
    .exact .inl q
    .refine .inr ⟨k,c',e,z'.sameBut hs ?_⟩
     rintro rfl;exact hj (rC hN e1 (I.ok.inj _ _ _ e hc▸hi))
  .by_cases hcc:c'=c
   .subst hcc;exact⟨_,Hz⟩
   .obtain⟨w2,z2⟩:=I.cell y c' e
    exact⟨w2,z2.sameBut hs hcc⟩
  .obtain⟨e,n,ne,nf,d⟩:=I.pin p hp
   refine⟨(hs.2 p.1 ?_).trans e,n,ne,nf,d⟩;intro q;rw[q,MC] at e;have q':oc=p.2:=zX e;exact d w' (by rw[<-q'];exact Ld)
def sX{M:Model}{A:Ö}{E:Ä->Å->Prop}{i:Nat}{x:Æ}{v:V}{u:Ä}{Q:Unit->Å->Prop}(I:Inv X ag σ H s)(hN:X.N.Nodup)(hi:X.N[i]?=À x)(hx:Loc X.env.scope x)(r:RelV v u)
  (h:∀s',Inv X ag (σ.set i (À v)) H s'->Q () s') (hf:X.fn x=Ã\/X.env.scope.names.lookup x=À .local:=by first | exact .inl rfl | exact .inr rfl | assumption):É M A (storeName X.env x u) Q E s:=
 nK I hN hi hx r (λs' I' _=>h s' I') hf
def Inv.call'{s':Å}{ch:List È}(I:Inv X ag σ H s)(ho:s'.os=s.os)(u:Un (frs X.stack) ch H H' s.heap s'.heap)(hok:HOk X.prog X.w H' s'.heap)(hg:ń s'.gens)
  (EB:∀b∈ch,(b∈X.ex\/X.s₀.heap.objs.size<=b)/\b≠X.env.locals/\(∀x c,X.env.cells.lookup x=À c->c≠b)/\∀p∈X.pn++ag,p.1≠b):Inv X ag σ H' s':=by
 obtain⟨h',g',d',t',o'⟩:=s';have e:o'=s.os:=ho;subst e;exact I.call (g':=g') (t':=t') (d':=d') u hok hg EB
end
abbrev XK:=Ä->Option È->Hp->Prop
abbrev St:=List (Option V)
abbrev VK:=V->Hp->Prop
abbrev TE:=St->Hp->VK->Prop
abbrev TT:=St->Hp->(Bool->Hp->Prop)->Prop
abbrev TA:=St->Hp->(List V->Hp->Prop)->Prop
structure Ends where
 nx:St->Hp->Prop
 rt:VK
 bk:St->Hp->Prop:=λ_ _=>False
 ct:St->Hp->Prop:=λ_ _=>False
abbrev TS:=Ends->St->Hp->Prop
def EP(X:Cx)(ag:List (È×ö))(σ:St)(Q:VK)(u:Ä)(s':Å):Prop:=∃v H',Inv X ag σ H' s'/\RelV v u/\Q v H'
def TP(X:Cx)(ag:List (È×ö))(σ:St)(Q:Bool->Hp->Prop)(b:Bool)(s':Å):Prop:=∃H',Inv X ag σ H' s'/\Q b H'
def AP(X:Cx)(ag:List (È×ö))(σ:St)(Q:List V->Hp->Prop)(us:List Ä)(s':Å):Prop:=∃vs H',Inv X ag σ H' s'/\Vals vs us/\Q vs H'
def SP(X:Cx)(ag:List (È×ö))(D:Ends)(f:Flow)(s':Å):Prop:=
 match f with
 | .next=>∃gy H',Inv X ag gy H' s'/\D.nx gy H'
 | .brk=>∃gy H',Inv X ag gy H' s'/\D.bk gy H'
 | .cont=>∃gy H',Inv X ag gy H' s'/\D.ct gy H'
 | .ret u=>∃v gy H',Inv X ag gy H' s'/\RelV v u/\D.rt v H'
def PE(X:Cx)(e:Î)(t:TE):Prop:=
 ∀(ag:List (È×ö)) (s:Å) (σ:St) (H:Hp) (Q:VK),Inv X ag σ H s->t σ H Q->É (Ë X.prog X.w) X.A (eval e X.env) (EP X ag σ Q) X.xe s
def PT(X:Cx)(e:Î)(t:TT):Prop:=
 ∀(ag:List (È×ö)) (s:Å) (σ:St) (H:Hp) (Q:Bool->Hp->Prop),Inv X ag σ H s->t σ H Q->É (Ë X.prog X.w) X.A (isTrue e X.env (eval e X.env)) (TP X ag σ Q) X.xe s
def PW(X:Cx)(e:Î)(t:TT):Prop:=
 ∀(whole:Sem Ä) (ag:List (È×ö)) (s:Å) (σ:St) (H:Hp) (Q:Bool->Hp->Prop),Inv X ag σ H s->t σ H Q->É (Ë X.prog X.w) X.A (isTrue e X.env whole) (TP X ag σ Q) X.xe s
def PW.pt{X:Cx}{e:Î}{t:TT}(h:PW X e t):PT X e t:=h _
def PA(X:Cx)(es:List Î)(t:TA):Prop:=
 ∀(pos:ĝ) (ag:List (È×ö)) (s:Å) (σ:St) (H:Hp) (Q:List V->Hp->Prop),Inv X ag σ H s->t σ H Q->É (Ë X.prog X.w) X.A (spliced (ß pos (Ê es X.env))) (AP X ag σ Q) X.xe s
def PS(X:Cx)(st:Č)(t:TS):Prop:=
 ∀(ag:List (È×ö)) (s:Å) (σ:St) (H:Hp) (D:Ends),Inv X ag σ H s->t D σ H->É (Ë X.prog X.w) X.A (exec st X.env) (SP X ag D) X.xe s
def PSs(X:Cx)(st:List Č)(t:TS):Prop:=
 ∀(ag:List (È×ö)) (s:Å) (σ:St) (H:Hp) (D:Ends),Inv X ag σ H s->t D σ H->É (Ë X.prog X.w) X.A (execs st X.env) (SP X ag D) X.xe s
def kC{α:Type}{t:Sem α}{Q Q':α->Å->Prop}{M:Model}{A:Ö}{E:Ä->Å->Prop}{s:Å}(h:É M A t Q E s)(hQ:∀a s,Q a s->Q' a s):É M A t Q' E s:=j8 h hQ λ_ _ x=>x
end L2
namespace L2
open PySem PySem.Spec PyProof.Rows
section
variable{X:Cx}
def Gj(i:Nat):TE:=λσ H Q=>∃v,σ[i]?=À (À v)/\Q v H
def tC(v:V):TE:=λ_ H Q=>Q v H
def Bg{i:Nat}{x:Æ}{pos:ĝ}(hN:X.N[i]?=À x)(hv:Qh X.env.scope x)(hd:⇑((x==("__debug__":Æ))=Â))(A4:⇑((x==("__classdict__":Æ))=Â)):PE X (.Name x pos) (Gj i):=by
 intro ag s σ H Q I h;obtain⟨v,e,h⟩:=h;obtain⟨m,hn,hl⟩:=I.loc;obtain⟨u,r,l⟩:=hl i x v hN e hv;have fin:EP X ag σ Q u s:=⟨v,H,I,r,h⟩;rcases l with ⟨hk,hm⟩ | ⟨hk,c,hc,AQ⟩
 .exact wpAny_Name (wpAny_loadName_local I.ok.kind hk hn hm fin) hd
 .rcases hk with hk | hk
  .exact wpAny_Name (wpAny_loadName_cell I.ok.kind hk hc AQ fin) hd
  .exact wpAny_Name (wpAny_loadName_free I.ok.kind hk hc AQ fin A4) hd
def CI{i j pos}:PE X (.Constant (.int i) j pos) (tC (.int i)):=λ_ _ _ H _ I h=>wpAny_Constant_int ⟨.int i,H,I.tok _,⟨_,rfl⟩,h⟩
def DJ{b j pos}:PE X (.Constant (.bool b) j pos) (tC (.bl b)):=λ_ _ _ H _ I h=>Constant_bool ⟨.bl b,H,I,rfl,h⟩
def BP{j pos}:PE X (.Constant .none j pos) (tC .non):=λ_ _ _ H _ I h=>Constant_none ⟨.non,H,I,rfl,h⟩
def BG{x j pos}:PE X (.Constant (.str x) j pos) (tC (.str x)):=λ_ _ _ H _ I h=>Calls.Constant_str ⟨.str x,H,I.tok _,⟨_,rfl⟩,h⟩
def Gl(X:Cx)(x:Æ):Prop:=X.env.kindOf x=À .globalImplicit
def mH{E:Ä->Å->Prop}{ag:List (È×ö)}{s:Å}{σ:St}{H:Hp}{x:Æ}{u:Ä}{pos:ĝ}{Q:Ä->Å->Prop}(I:Inv X ag σ H s)(hg:Gl X x)(hm:X.mg x=À u)(h:Q u s)
  (hd:⇑((x==("__debug__":Æ))=Â)):É (Ë X.prog X.w) X.A (eval (.Name x pos) X.env) Q E s:=
 pA I.ok.kind hg (Calls.loadGlobal_global (by rw[I.ok.glob];exact I.mod.glob.keeps I.bk) hm h) hd
def cK{E:Ä->Å->Prop}{ag:List (È×ö)}{s:Å}{σ:St}{H:Hp}{x:Æ}{u:Ä}{pos:ĝ}{Q:Ä->Å->Prop}(I:Inv X ag σ H s)(hg:Gl X x)(hm:X.mg x=Á)(hv:Õ x=À u)(h:Q u s)
  (hn:⇑(x≠"__name__")) (hd:⇑((x==("__debug__":Æ))=Â)):É (Ë X.prog X.w) X.A (eval (.Name x pos) X.env) Q E s:=by
 obtain⟨mb,h1,h2⟩:=I.mod.blt;exact pA I.ok.kind hg (Calls.loadGlobal_builtin (by rw[I.ok.glob];exact I.mod.glob.keeps I.bk) hm (by rw[I.ok.blt];exact h1.keeps I.bk) ((h2 x hn).trans hv) h) hd
def ZT{x:Æ}{v:V}{u:Ä}{pos:ĝ}(hg:Gl X x)(hm:X.mg x=À u)(r:RelV v u)(hd:⇑((x==("__debug__":Æ))=Â)):PE X (.Name x pos) (tC v):=
 λ_ _ _ H _ I h=>mH I hg hm ⟨v,H,I,r,h⟩ hd
def UH{x:Æ}{v:V}{u:Ä}{pos:ĝ}(hg:Gl X x)(hm:X.mg x=Á)(hv:Õ x=À u)(r:RelV v u)(hn:⇑(x≠"__name__"))(hd:⇑((x==("__debug__":Æ))=Â)):PE X (.Name x pos) (tC v):=
 λ_ _ _ H _ I h=>cK I hg hm hv ⟨v,H,I,r,h⟩ hn hd
variable{a b:Î}{ta tb:TE}{pos:ĝ}
def tB(t:TE):TT:=λσ H Q=>t σ H λx H1=>∃c,x=.bl c/\Q c H1
def Bb{e:Î}{t:TE}(h:PE X e t)(he:∀whole,isTrue e X.env whole=(do let v <-whole;ż e.pos;holding [v] (truthy v)):=by intro _;rfl):PT X e (tB t):=by
 intro ag s σ H Q I hw;refine isTrue_plain (kC (h ag s σ H _ I hw) ?_) (he _);rintro v s1 ⟨x,H1,I1,r1,q1⟩;obtain⟨d,rfl,q⟩:=q1;cases r1;exact vB ⟨H1,I1,q⟩
variable{tA IC:TT}{rest:List Î}
def FS(t u:TT):TT:=λσ H Q=>t σ H λc H1=>if c=Ã then u σ H1 Q else Q Â H1
def Gx(t u:TT):TT:=λσ H Q=>t σ H λc H1=>if c=Ã then Q Ã H1 else u σ H1 Q
def Gq(t:TT):TT:=λσ H Q=>t σ H λc H1=>Q (!c) H1
def pw_and1(ha:PT X a tA):PW X (.BoolOp .And [a] pos) tA:=by
 intro wh ag s σ H Q I h;refine isTrue_and (kC (ha ag s σ H Q I h) λc s1 e=>?_);cases c with
 | true=>exact isTrue_and_nil e
 | false=>exact e
def pw_or1(ha:PT X a tA):PW X (.BoolOp .Or [a] pos) tA:=by
 intro wh ag s σ H Q I h;refine isTrue_or (kC (ha ag s σ H Q I h) λc s1 e=>?_);cases c with
 | false=>exact isTrue_or_nil e
 | true=>exact e
def pw_and(ha:PT X a tA)(hb:PW X (.BoolOp .And (b::rest) pos) IC):PW X (.BoolOp .And (a::b::rest) pos) (FS tA IC):=by
 intro wh ag s σ H Q I h;refine isTrue_and (kC (ha ag s σ H _ I h) ?_);rintro c s1 ⟨H1,I1,q1⟩;cases c with
 | true=>exact hb wh ag s1 σ H1 Q I1 q1
 | false=>exact⟨H1,I1,q1⟩
def pw_or(ha:PT X a tA)(hb:PW X (.BoolOp .Or (b::rest) pos) IC):PW X (.BoolOp .Or (a::b::rest) pos) (Gx tA IC):=by
 intro wh ag s σ H Q I h;refine isTrue_or (kC (ha ag s σ H _ I h) ?_);rintro c s1 ⟨H1,I1,q1⟩;cases c with
 | true=>exact⟨H1,I1,q1⟩
 | false=>exact hb wh ag s1 σ H1 Q I1 q1
def CC(ha:PT X a tA):PT X (.UnaryOp .Not a pos) (Gq tA):=by
 intro ag s σ H Q I h;exact isTrue_not (ha ag s σ H (λc H1=>Q (!c) H1) I h)
def Fy(ta tb:TE):TE:=λσ H Q=>ta σ H λx H1=>∃c,x=.bl c/\if c=Ã then tb σ H1 Q else Q (.bl Â) H1
def FT(ta tb:TE):TE:=λσ H Q=>ta σ H λx H1=>∃c,x=.bl c/\if c=Ã then Q (.bl Ã) H1 else tb σ H1 Q
def D8(ta:TE):TE:=λσ H Q=>ta σ H λx H1=>∃c,x=.bl c/\Q (.bl (!c)) H1
def Bf{op}{t:TE}(h:PE X a t):PE X (.BoolOp op [a] pos) t:=λag s σ H Q I hw=>BoolOp_one (h ag s σ H Q I hw)
def CW(ha:PE X a ta)(hb:PE X (.BoolOp .And (b::rest) pos) tb):PE X (.BoolOp .And (a::b::rest) pos) (Fy ta tb):=by
 intro ag s σ H Q I h;refine BoolOp_and (kC (ha ag s σ H _ I h) ?_);rintro v s1 ⟨x,H1,I1,r1,q1⟩;obtain⟨c,rfl,q1⟩:=q1;cases r1;refine vB ?_;cases c with
 | true=>exact hb ag s1 σ H1 Q I1 q1
 | false=>exact⟨.bl Â,H1,I1,rfl,q1⟩
def D7(ha:PE X a ta)(hb:PE X (.BoolOp .Or (b::rest) pos) tb):PE X (.BoolOp .Or (a::b::rest) pos) (FT ta tb):=by
 intro ag s σ H Q I h;refine BoolOp_or (kC (ha ag s σ H _ I h) ?_);rintro v s1 ⟨x,H1,I1,r1,q1⟩;obtain⟨c,rfl,q1⟩:=q1;cases r1;refine vB ?_;cases c with
 | false=>exact hb ag s1 σ H1 Q I1 q1
 | true=>exact⟨.bl Ã,H1,I1,rfl,q1⟩
def CS(ha:PE X a ta):PE X (.UnaryOp .Not a pos) (D8 ta):=by
 intro ag s σ H Q I h;refine UnaryOp_ (kC (ha ag s σ H _ I h) ?_);rintro v s1 ⟨x,H1,I1,r1,q1⟩;obtain⟨c,rfl,q1⟩:=q1;cases r1;exact not_of (vB ⟨.bl (!c),H1,I1,rfl,q1⟩)
def GF(t:TT)(ta tb:TE):TE:=λσ H Q=>t σ H λc H1=>if c=Ã then ta σ H1 Q else tb σ H1 Q
def V3{c:Î}(hc:PT X c tA)(ha:PE X a ta)(hb:PE X b tb):PE X (.IfExp c a b pos) (GF tA ta tb):=by
 intro ag s σ H Q I h;refine wpAny_IfExp (kC (hc ag s σ H _ I h) ?_);rintro d s1 ⟨H1,I1,q1⟩;cases d with
 | true=>exact ha ag s1 σ H1 Q I1 q1
 | false=>exact hb ag s1 σ H1 Q I1 q1
end
end L2
namespace L2
open PySem PySem.Spec PyProof.Rows
def SqL(K:Sb)(H:Hp)(a:È)(xs:List V):Prop:=
 Rd H a (.lst xs) \/
  ∃(o:ö) (its:Array Ä) (n:Nat),K.lookup a=À o/\o.cls=.type "list" /\ o.dict=Á/\o.data=.seq its n/\its.size<=sizeLine/\Vals xs its.toList
def SqT(K:Sb)(H:Hp)(a:È)(xs:List V):Prop:=
 Rd H a (.tup xs) \/
  ∃(o:ö) (its:Array Ä) (n:Nat),K.lookup a=À o/\(o.cls=.type "tuple" /\ o.dict=Á)/\o.data=.seq its n/\its.size<=sizeLine/\Vals xs its.toList
def Gn:Ä->Option V
 | .none=>À .non
 | .bool b=>À (.bl b)
 | .int i _=>À (.int i)
 | .str x _=>À (.str x)
 | .bytes b _=>À (.byt b)
 | .float b _=>À (.flt b)
 | .ref a=>À (.ref a)
 | .type n=>À (.ty n)
 | _=>Á
theorem RelV.abs{x:V}{u:Ä}(r:RelV x u):Gn u=À x:=by
 cases x with
 | non=>cases r;rfl
 | bl _=>cases r;rfl
 | int _=>obtain⟨t,rfl⟩:=r;rfl
 | str _=>obtain⟨t,rfl⟩:=r;rfl
 | byt _=>obtain⟨t,rfl⟩:=r;rfl
 | flt _=>obtain⟨t,rfl⟩:=r;rfl
 | ref _=>cases r;rfl
 | ty _=>cases r;rfl
theorem RelV.inj{x y:V}{u:Ä}(r:RelV x u)(q:RelV y u):x=y:=zX (r.abs.symm.trans q.abs)
theorem Vals.inj{xs ys:List V}{us:List Ä}(h:Vals xs us)(q:Vals ys us):xs=ys:=by
 induction h generalizing ys with
 | nil=>cases q;rfl
 | cons r t ih=>cases q with | cons r' t'=>rw[r.inj r',ih t']
section
variable{X:Cx}{ag:List (È×ö)}{σ:St}{H:Hp}{s:Å}{a:È}{xs ys:List V}
def SqL.of{K:Sb}(h:H a=À (.lst xs)):SqL K H a xs:=.inl (.inl h)
def SqT.of{K:Sb}(h:H a=À (.tup xs)):SqT K H a xs:=.inl (.inl h)
def Inv.list(I:Inv X ag σ H s)(h:SqL X.K H a xs):∃its:List Ä,Vals xs its/\PlainL s.heap a its.toArray/\xs.length<=sizeLine:=by
 rcases h with h | ⟨o,its,n,hk,hc,hd,hs,hz,r⟩
 .obtain⟨z,its,n,r,e⟩:=h.ok I.hok
  exact⟨its,r,⟨_,n,e,rfl,rfl,rfl⟩,z⟩
 .refine⟨its.toList,r,⟨o,n,I.kIn a o hk,hc,hd,by simpa using hs⟩,?_⟩
  have e:=r.length;erw[kj] at e;omega
def Inv.tuple(I:Inv X ag σ H s)(h:SqT X.K H a xs):∃its:List Ä,Vals xs its/\Ŏ s.heap a its.toArray/\xs.length<=sizeLine:=by
 rcases h with h | ⟨o,its,n,hk,⟨hc,_⟩,hs,hz,r⟩
 .obtain⟨z,its,r,p,_⟩:=h.ok I.hok
  exact⟨its,r,p,z⟩
 .refine⟨its.toList,r,⟨o,I.kIn a o hk,hc,n,by simpa using hs⟩,?_⟩
  have e:=r.length;erw[kj] at e;omega
def Inv.list_inj(I:Inv X ag σ H s)(h:SqL X.K H a xs)(h':SqL X.K H a ys):xs=ys:=by
 obtain⟨its,r,⟨o,n,e,_,_,d⟩,_⟩:=I.list h;obtain⟨its',r',⟨o',n',e',_,_,d'⟩,_⟩:=I.list h';rw[e] at e';cases e';rw[d] at d';injection d' with d1 _;have:its=its':=by simpa using jt Array.toList d1
 subst this;exact r.inj r'
def Inv.tupleD(I:Inv X ag σ H s)(h:SqT X.K H a xs):NoDi s.heap a:=by
 rcases h with h | ⟨o,its,n,hk,⟨hc,hd⟩,hs,hz,r⟩
 .obtain⟨z,its,r,p,d⟩:=h.ok I.hok
  exact d
 .exact⟨o,I.kIn a o hk,hd⟩
def Inv.tuple_inj(I:Inv X ag σ H s)(h:SqT X.K H a xs)(h':SqT X.K H a ys):xs=ys:=by
 obtain⟨its,r,⟨o,e,_,n,d⟩,_⟩:=I.tuple h;obtain⟨its',r',⟨o',e',_,n',d'⟩,_⟩:=I.tuple h';rw[e] at e';cases e';rw[d] at d';injection d' with d1 _;have:its=its':=by simpa using jt Array.toList d1
 subst this;exact r.inj r'
end
abbrev Cx.wish(X:Cx)(E:Ä->Å->Prop):Cx:={ X with xe:=E }
abbrev Cx.nox(X:Cx):Cx:=X.wish λ_ _=>False
theorem Cx.Ok.wish{X:Cx}(ok:X.Ok)(E:Ä->Å->Prop):(X.wish E).Ok:=
 ⟨ok.mod,ok.kind,ok.glob,ok.blt,ok.above,ok.inj,ok.has,ok.cab,ok.hd,ok.frames,ok.stk,ok.exf,ok.bs,ok.bsz,ok.noex,ok.exfs,ok.funs,ok.frf⟩
def Cx.Ok.unwish{X:Cx}{E:Ä->Å->Prop}(ok:(X.wish E).Ok):X.Ok:=
 ⟨ok.mod,ok.kind,ok.glob,ok.blt,ok.above,ok.inj,ok.has,ok.cab,ok.hd,ok.frames,ok.stk,ok.exf,ok.bs,ok.bsz,ok.noex,ok.exfs,ok.funs,ok.frf⟩
section
variable{X:Cx}{ag:List (È×ö)}{σ:St}{H:Hp}{s:Å}{E:Ä->Å->Prop}
theorem Inv.wish(I:Inv X ag σ H s)(E:Ä->Å->Prop):Inv (X.wish E) ag σ H s:=⟨I.ok.wish E,I.os,I.bare,I.base,I.loc,I.cell,I.free,I.freeC,I.pin,I.hok,I.len⟩
theorem Inv.unwish(I:Inv (X.wish E) ag σ H s):Inv X ag σ H s:=⟨I.ok.unwish,I.os,I.bare,I.base,I.loc,I.cell,I.free,I.freeC,I.pin,I.hok,I.len⟩
theorem SP.unwish{D:Ends}{f:Flow}{s':Å}(h:SP (X.wish E) ag D f s'):SP X ag D f s':=by
 cases f with
 | next=>obtain⟨gy,H',I,q⟩:=h;exact⟨gy,H',I.unwish,q⟩
 | brk=>obtain⟨gy,H',I,q⟩:=h;exact⟨gy,H',I.unwish,q⟩
 | cont=>obtain⟨gy,H',I,q⟩:=h;exact⟨gy,H',I.unwish,q⟩
 | ret u=>obtain⟨v,gy,H',I,r,q⟩:=h;exact⟨v,gy,H',I.unwish,r,q⟩
theorem PSs.nox{st:List Č}{t:TS}(h:PSs X.nox st t):PSs X st t:=λag s σ H D I hw=>
 j8 (h ag s σ H D (I.wish _) hw) (λ_ _ q=>q.unwish) λ_ _ z=>Đ z
end
section
variable{X:Cx}{st:Č}{rest:List Č}{t u:TS}{e:Î}{te:TE}{pos:ĝ}
def YY:TS:=λD σ H=>D.nx σ H
def Gk(t u:TS):TS:=λD σ H=>t { D with nx:=u D } σ H
def X6:PSs X [] YY:=λ_ _ σ H _ I h=>yO ⟨σ,H,I,h⟩
def WI(h1:PS X st t)(h2:PSs X rest u):PSs X (st::rest) (Gk t u):=by
 intro ag s σ H D I h;refine wpAny_execs_cons (kC (h1 ag s σ H { D with nx:=u D } I h) λf s1 q=>?_);cases f with
 | next=>
  obtain⟨gy,H',I',q⟩:=q;exact h2 ag s1 gy H' D I' q
 | ret v=>exact q
 | brk=>exact q
 | cont=>exact q
def Y9(h1:PS X st t):PSs X [st] t:=by
 intro ag s σ H D I h;refine wpAny_execs_cons (kC (h1 ag s σ H D I h) λf s1 q=>?_);cases f with
 | next=>exact yO q
 | ret v=>exact q
 | brk=>exact q
 | cont=>exact q
def XZ:PS X (.Pass pos) YY:=λ_ _ σ H _ I h=>wpAny_Pass ⟨σ,H,I,h⟩
def Inv.quiet{ag:List (È×ö)}{σ:St}{H:Hp}{s:Å}(I:Inv X ag σ H s):interactive X.env=Â:=by simp[interactive,I.ok.kind]
def Fk(te:TE):TS:=λD σ H=>te σ H λ_ H1=>D.nx σ H1
def Xf(he:PE X e te)(hs:↥(Ă e Á pos.line X.env=pure Â)):PS X (.Expr e pos) (Fk te):=by
 intro ag s σ H D I h;exact wpAny_Expr_any (kC (he ag s σ H _ I h) λv s1 Oh=>(by obtain⟨x,H1,I1,r1,q1⟩:=Oh;exact⟨σ,H1,I1,q1⟩)) I.quiet hs
def FU(te:TE):TS:=λD σ H=>te σ H D.rt
def Du(he:PE X e te):PS X (.Return (À e) pos) (FU te):=by
 intro ag s σ H D I h;exact wpAny_Return_some (kC (he ag s σ H _ I h) λv s1 Oi=>(by obtain⟨x,H1,I1,r1,q1⟩:=Oi;exact⟨x,σ,H1,I1,r1,q1⟩))
def F8(c:TT)(t u:TS):TS:=λD σ H=>c σ H λb H1=>if b=Ã then t D σ H1 else u D σ H1
def DQ{c:Î}{a b:List Č}{tc:TT}(hc:PT X c tc)(ha:PSs X a t)(hb:PSs X b u):PS X (.If c a b pos) (F8 tc t u):=by
 intro ag s σ H D I h;refine wpAny_If (kC (hc ag s σ H _ I h) ?_);rintro d s1 ⟨H1,I1,q1⟩;cases d with
 | true=>exact ha ag s1 σ H1 D I1 q1
 | false=>exact hb ag s1 σ H1 D I1 q1
end
abbrev TG:=V->St->Hp->(St->Hp->Prop)->Prop
abbrev m9:=List V->St->Hp->(St->Hp->Prop)->Prop
def PG(X:Cx)(target:Î)(t:TG):Prop:=
 ∀(ag:List (È×ö)) (s:Å) (σ:St) (H:Hp) (v:V) (u:Ä) (Q:St->Hp->Prop),Inv X ag σ H s->RelV v u->t v σ H Q->
  É (Ë X.prog X.w) X.A (assign target X.env u) (λ_ s'=>∃gy H',Inv X ag gy H' s'/\Q gy H') X.xe s
def PGs(X:Cx)(ts:List Î)(t:m9):Prop:=
 ∀(ag:List (È×ö)) (s:Å) (σ:St) (H:Hp) (vs:List V) (us:List Ä) (Q:St->Hp->Prop),Inv X ag σ H s->Vals vs us->t vs σ H Q->
  É (Ë X.prog X.w) X.A (assignInOrder ((å ts X.env).map (·.2)) us) (λ_ s'=>∃gy H',Inv X ag gy H' s'/\Q gy H') X.xe s
abbrev Ye:=V->V->V->Hp->(Hp->Prop)->Prop
def Jv(X:Cx)(t:Ye):Prop:=
 ∀(ag:List (È×ö)) (s:Å) (σ:St) (H:Hp) (o i v:V) (ov iv u:Ä) (Q:Hp->Prop),Inv X ag σ H s->RelV o ov->RelV i iv->RelV v u->t o i v H Q->
  É (Ë X.prog X.w) X.A (Ž ov iv u) (λ_ s'=>∃H',Inv X ag σ H' s'/\Q H') X.xe s
section
variable{X:Cx}{pos:ĝ}
def YT(i:Nat):TG:=λv σ H Q=>Q (σ.set i (À v)) H
def XE{i:Nat}{x:Æ}(hN:X.N.Nodup)(hi:X.N[i]?=À x)(hx:Loc X.env.scope x)(hf:X.fn x=Ã\/X.env.scope.names.lookup x=À .local:=by first | exact .inl rfl | exact .inr rfl | assumption):PG X (.Name x pos) (YT i):=by
 intro ag s σ H v u Q I r h;exact ž (sX I hN hi hx r (λs' I'=>⟨_,H,I',h⟩) hf)
def FJ:m9:=λvs σ H Q=>vs=[]/\Q σ H
def D6(t:TG)(u:m9):m9:=λvs σ H Q=>∃v r,vs=v::r/\t v σ H λgy H'=>u r gy H' Q
def XN:PGs X [] FJ:=by
 intro ag s σ H vs us Q I r h;obtain⟨e,h⟩:=h;subst e;cases r;exact assignInOrder_nil ⟨σ,H,I,h⟩
def VY{e:Î}{es:List Î}{t:TG}{u:m9}(h1:PG X e t)(h2:PGs X es u)
  (hs:↥((å (e::es) X.env).map (·.2)=assign e X.env::(å es X.env).map (·.2))):PGs X (e::es) (D6 t u):=by
 intro ag s σ H vs us Q I r h;obtain⟨v,vr,e1,h⟩:=h;subst e1;cases r with
 | cons r rr=>
  rw[hs];refine assignInOrder_cons (kC (h1 ag s σ H _ _ _ I r h) ?_);rintro _ s1 ⟨EL,H1,I1,q1⟩;exact h2 ag s1 EL H1 _ _ Q I1 rr q1
def Gb(K:Sb)(n:Nat)(t:m9):TG:=λv σ H Q=>∃a xs,v=.ref a/\SqT K H a xs/\xs.length=n/\t xs σ H Q
def U6{es:List Î}{k:Nat}{t:m9}{n:Nat}(hc:X.calm=Ã)(h:PGs X es t)
  (hn:↥((å es X.env).length=n)) (r6:↥((å es X.env).findIdx? (·.1)=Á)):PG X (.Tuple es k pos) (Gb X.K n t):=by
 intro ag s σ H v u Q I r hw;obtain⟨a,xs,e1,hq,hl,hw⟩:=hw;subst e1;cases r;obtain⟨its,rv,ht,hz⟩:=I.tuple hq;refine assign_Tuple_tuple (I.ok.hd hc) ht (by simp[hn,<-hl,rv.length]) r6 λh' hx=>?_
 have I1:Inv X ag σ H { s with heap:=h' }:=I.kept (t':=s.toks) λb o e=>hx b o (zU (zM e)) e
 exact h ag _ σ H xs _ Q I1 (by simpa using rv) hw
def FQ(to ti:TE)(t:Ye):TG:=λv σ H Q=>to σ H λo H1=>ti σ H1 λi H2=>t o i v H2 λH3=>Q σ H3
def U8{o i:Î}{to ti:TE}{t:Ye}(ho:PE X o to)(hi:PE X i ti)(hs:Jv X t)
  (ha:∀v,assign (.Subscript o i pos) X.env v=(do
   let ov <-holding [v] (eval o X.env)
   let iv <-holding [v,ov] (eval i X.env)
   ż pos
   holding [v,ov,iv] (Ž ov iv v)
   release [v,ov,iv] []):=by intro _;rfl):PG X (.Subscript o i pos) (FQ to ti t):=by
 intro ag s σ H v u Q I r h;rw[ha];refine zc (je (kC (ho ag s σ H _ I h) ?_));rintro ov s1 ⟨x,H1,I1,r1,q1⟩;refine zc (je (kC (hi ag s1 σ H1 _ I1 q1) ?_));rintro iv s2 ⟨y,H2,I2,r2,q2⟩;refine zc (xZ (zc (je (kC (hs ag s2 σ H2 x y v ov iv u _ I2 r1 r2 r q2) ?_))));rintro _ s3 ⟨H3,I3,q3⟩;exact wpAny_release ⟨σ,H3,I3,q3⟩
def BD(te:TE)(g:TG):TS:=λD σ H=>te σ H λx H1=>g x σ H1 D.nx
def Ca{tg e:Î}{te:TE}{g:TG}(he:PE X e te)(hg:PG X tg g)(hs:↥(Ņ [tg] e pos.line X.env=pure Â))(hw:↥(ņ [tg] e X.env=pure Á))
  (h1:↥((å [tg] X.env).map (·.2)=[assign tg X.env])):PS X (.Assign [tg] e pos) (BD te g):=by
 intro ag s σ H D I h;refine wpAny_Assign_stores (kC (he ag s σ H _ I h) ?_) hs hw;rintro v s1 ⟨x,H1,I1,r1,q1⟩;rw[h1];exact kC (hg ag s1 σ H1 x v _ I1 r1 q1) λ_ s2 q=>q
def UZ{i:Nat}{x:Æ}{e:Î}{te:TE}{AK:ĝ}(hN:X.N.Nodup)(hi:X.N[i]?=À x)(hx:Loc X.env.scope x)(he:PE X e te)(hs:↥(Ă e (À (.Name x AK)) pos.line X.env=pure Â))(hf:X.fn x=Ã\/X.env.scope.names.lookup x=À .local:=by first | exact .inl rfl | exact .inr rfl | assumption) :
  PS X (.Assign [.Name x AK] e pos) (BD te (YT i)):=by
 intro ag s σ H D I h;refine wpAny_Assign_Name (kC (he ag s σ H _ I h) ?_) hs;rintro v s1 ⟨y,H1,I1,r1,q1⟩;exact sX I1 hN hi hx r1 (λs2 I2=>⟨_,H1,I2,q1⟩) hf
end
section
variable{X:Cx}{pos:ĝ}
def BJ(c:TT)(tb:TS):TS:=λD σ H=>∃W:Nat->St->Hp->Prop,(∃m,W m σ H)/\∀m σ H,W m σ H->
 c σ H λb H1=>if b=Ã then ∃N:St->Hp->Prop,(∀gy H',N gy H'->∃m',m'<m/\W m' gy H')/\tb { D with nx:=N,ct:=N,bk:=D.nx } σ H1 else D.nx σ H1
def Wt{c:Î}{body:List Č}{tc:TT}{tb:TS}(hp:ū (Ë X.prog X.w) X.A X.env X.xe)(hc:PT X c tc)(hb:PSs X body tb):PS X (.While c body [] pos) (BJ tc tb):=by
 intro ag s σ H D I h;obtain⟨W,⟨m0,w0⟩,turn⟩:=h;refine wpAny_While (codeAny_whileLoop (λn s'=>∃gy H',Inv X ag gy H' s'/\W n gy H') ?_ m0 ⟨σ,H,I,w0⟩);rintro n s1 ⟨EL,H1,I1,w1⟩;refine vh hp (kC (hc ag s1 EL H1 _ I1 (turn n EL H1 w1)) ?_);rintro b s2 ⟨H2,I2,q2⟩;cases b with
 | true=>
  obtain⟨N,hN,q2⟩:=q2;rw[zW rfl];refine vh hp (kC (hb ag s2 EL H2 _ I2 q2) λf s3 q3=>?_);cases f with
  | next=>
   obtain⟨AL,H3,I3,n3⟩:=q3;obtain⟨m',hm,w3⟩:=hN AL H3 n3;exact⟨m',hm,AL,H3,I3,w3⟩
  | cont=>
   obtain⟨AL,H3,I3,n3⟩:=q3;obtain⟨m',hm,w3⟩:=hN AL H3 n3;exact⟨m',hm,AL,H3,I3,w3⟩
  | brk=>exact q3
  | ret v=>exact q3
 | false=>
  rw[kh zR];exact yO ⟨EL,H2,I2,q2⟩
end
structure It where
 go:Nat->Hp->Prop
 yld:Nat->Hp->V->Hp->Prop
 stop:Nat->Hp->Prop
def bE(X:Cx)(ag:List (È×ö))(H:Hp)(b:È):Prop:=
 H b=Á/\b≠X.env.locals/\b∉X.fs/\(b∈X.ex\/X.s₀.heap.objs.size<=b)/\(∀x c,X.env.cells.lookup x=À c->c≠b)/\∀p∈X.pn++ag,p.1≠b
def Inv.fpOk{X:Cx}{ag:List (È×ö)}{σ:St}{H H':Hp}{s:Å}{b:È}(I:Inv X ag σ H s)(hb:s.heap.objs.size<=b)(hn:H' b=Á):bE X ag H' b:=by
 refine⟨hn,vX (zO I.lt hb),I.nofs hb,.inr (zz I.sz hb),λx c e z=>?_,λp hp z=>?_⟩
 .obtain⟨v,q⟩:=I.cell x c e
  exact absurd (zO q.lt (by rw[z];exact hb)) (j4 _)
 .exact absurd (zO (zM (I.pin p hp).1) (by rw[z];exact hb)) (j4 _)
structure Turn(P:Í)(w:Ñ)(K:Sb)(tg:Î)(J:It)(fp:List È)(it:È)(tn:Nat->Ò->Prop):Prop where
 mem:it∈fp
 obj:∀i h,tn i h->∀b∈fp,∃o,h.get? b=À o/\∀v,o.data≠.cell v
 keep:∀i h h',tn i h->(∀b∈fp,∀o,h.get? b=À o->h'.get? b=À o)->tn i h'
 item:∀(X:Cx),X.prog=P->X.w=w->X.K=K->X.calm=Ã->∀(i:Nat) (ag:List (È×ö)) (s:Å) (σ:St) (H:Hp) (E:Ä->Å->Prop),Inv X ag σ H s->(∀b∈fp,bE X ag H b)->tn i s.heap->J.go i H->
  É (Ë P w) X.A (đ (.ref it)) (λr s1=>∃u,r=À u /\
   É (Ë P w) X.A (İ tg (.ref it) u) (λ_ s2=>∃x H',Inv X ag σ H' s2/\RelV x u/\J.yld i H x H'/\tn (i+1) s2.heap/\∀b∈fp,H' b=Á) E s1) E s
 done:∀(X:Cx),X.prog=P->X.w=w->X.K=K->X.calm=Ã->∀(i:Nat) (ag:List (È×ö)) (s:Å) (σ:St) (H:Hp) (E:Ä->Å->Prop),Inv X ag σ H s->(∀b∈fp,bE X ag H b)->tn i s.heap->J.stop i H->
  É (Ë P w) X.A (đ (.ref it)) (λr s1=>r=Á/\Inv X ag σ H s1) E s
 self:∀(A:Ö) (i:Nat) (s:Å) (Q:Ä->Å->Prop) (E:Ä->Å->Prop),tn i s.heap->Q (.ref it) s->É (Ë P w) A (ı (.ref it)) Q E s
abbrev TI:=St->Hp->(It->Hp->Prop)->Prop
def PIE(X:Cx)(ag:List (È×ö))(σ:St)(tg:Î)(R:It->Hp->Prop)(Le:Ä)(s2:Å):Prop:=
 ∃(it:È) (fp:List È) (tn:Nat->Ò->Prop) (J:It) (H':Hp),Le=.ref it/\Inv X ag σ H' s2/\Turn X.prog X.w X.K tg J fp it tn/\tn 0 s2.heap/\(∀b∈fp,bE X ag H' b)/\R J H'
def PI(X:Cx)(tg iter:Î)(wi:TI):Prop:=
 ∀(ag:List (È×ö)) (s:Å) (σ:St) (H:Hp) (R:It->Hp->Prop),Inv X ag σ H s->wi σ H R->
  É (Ë X.prog X.w) X.A (eval iter X.env) (λv s1=>É (Ë X.prog X.w) X.A (ı v) (PIE X ag σ tg R) X.xe s1) X.xe s
def KH {M : Model} {A : Ö} {E : Ä -> Å -> Prop} {s : Å} {tg : Î} {it : È} {u : Ä} {o : ö} {n : String} {vs : Array Ä} {Q : Unit -> Å -> Prop} (ho : s.heap.get? it = À o) (hc : o.cls = .type n) (hd : o.data = .fields vs)
    (hn : ["enumerate", "zip", "dict_itemiterator", "dict_reverseitemiterator", "odict_iterator", "itertools.zip_longest", "itertools.pairwise"].contains n = Â) (hQ : Q () s) : É M A (İ tg (.ref it) u) Q E s := by
  unfold İ;cases tg <;> first
    | exact zg hQ
    | (cases u <;> first
        | exact zg hQ
        | (refine zc (xm ho ?_)
           rw [hc, hd];show É M A (if (["enumerate", "zip", "dict_itemiterator", "dict_reverseitemiterator", "odict_iterator", "itertools.zip_longest", "itertools.pairwise"].contains n && vs[0]? == À (rawInt _)) = Ã then _ else _) Q E s
           rw [kh (by intro h;rw [hn, vV] at h;cases h)]
           exact zg hQ))
def YF(K:Sb)(a:È):It:=
 ⟨λi H=>∃xs x,SqL K H a xs/\xs[i]?=À x,λi H x H'=>H'=H/\∀xs,SqL K H a xs->xs[i]?=À x,λi H=>∃xs,SqL K H a xs/\xs.length<=i⟩
def CK(K:Sb)(a:È):It:=
 ⟨λi H=>∃xs x,SqT K H a xs/\xs[i]?=À x,λi H x H'=>H'=H/\∀xs,SqT K H a xs->xs[i]?=À x,λi H=>∃xs,SqT K H a xs/\xs.length<=i⟩
def Yu(lo:Int)(n:Nat):It:=⟨λi _=>i<n,λi H x H'=>H'=H/\x=.int (lo+i),λi _=>n<=i⟩
def Vv{P:Í}{w:Ñ}{K:Sb}{tg:Î}(a it:È):Turn P w K tg (YF K a) [it] it (λi h=>h.IsListIter it a i) where
 mem:=by simp
 obj:=λi h st b hb=>by
  have e:b=it:=by simpa using hb
  subst e;obtain⟨o,e,c,d⟩:=st;exact⟨o,e,λv z=>by rw[d] at z;cases z⟩
 keep:=λi h h' st k=>st.at λo e=>k it (by simp) o e
 item:=by
  intro X hP hw hK hc i ag s σ H E I hf st hg;subst hP hw hK;obtain⟨xs,x,hq,hx⟩:=hg;obtain⟨its,rv,p,hz⟩:=I.list hq;obtain⟨u,hu,ru⟩:=rv.get hx;obtain⟨f0,f1,f2,f3,f4,f5⟩:=hf it (by simp);refine wpAny_pyNext_list_item st p.isList (x:=u) (by simpa using hu) λh' AH sb=>?_
  have I1:Inv X ag σ H { s with heap:=h' }:=I.turned (t':=s.toks) (λb o hb e=>(sb.2 b hb).trans e) f0 f1 f3 f4 f5;obtain⟨o,e,c,d⟩:=id AH;exact⟨u,rfl,KH (s:={ s with heap:=h' }) e c d (by decide) ⟨x,H,I1,ru,⟨rfl,λys hy=>by rw[I.list_inj hy hq];exact hx⟩,AH,λb hb=>(hf b hb).1⟩⟩
 done:=by
  intro X hP hw hK hc i ag s σ H E I hf st hg;subst hP hw hK;obtain⟨xs,hq,hx⟩:=hg;obtain⟨its,rv,p,hz⟩:=I.list hq;obtain⟨f0,f1,f2,f3,f4,f5⟩:=hf it (by simp);have hl:=rv.length;exact wpAny_pyNext_list_end (I.ok.hd hc) st p.isList (by simp;omega) λh' eb=>⟨rfl,I.turned (t':=s.toks) (λb o hb e=>eb b o hb e) f0 f1 f3 f4 f5⟩
 self:=λ_ _ _ _ _ st h=>wpAny_pyIter_listiter st h
def Km{P:Í}{w:Ñ}{K:Sb}{tg:Î}(a it:È):Turn P w K tg (CK K a) [it] it (λi h=>h.IsTupleIter it a i) where
 mem:=by simp
 obj:=λi h st b hb=>by
  have e:b=it:=by simpa using hb
  subst e;obtain⟨o,e,c,d⟩:=st;exact⟨o,e,λv z=>by rw[d] at z;cases z⟩
 keep:=λi h h' st k=>st.at λo e=>k it (by simp) o e
 item:=by
  intro X hP hw hK hc i ag s σ H E I hf st hg;subst hP hw hK;obtain⟨xs,x,hq,hx⟩:=hg;obtain⟨its,rv,p,hz⟩:=I.tuple hq;obtain⟨u,hu,ru⟩:=rv.get hx;obtain⟨f0,f1,f2,f3,f4,f5⟩:=hf it (by simp);refine wpAny_pyNext_tuple_item st (show s.heap.IsTuple a its.toArray from p) (x:=u) (by simpa using hu) λh' AH sb=>?_
  have I1:Inv X ag σ H { s with heap:=h' }:=I.turned (t':=s.toks) (λb o hb e=>(sb.2 b hb).trans e) f0 f1 f3 f4 f5;obtain⟨o,e,c,d⟩:=id AH;exact⟨u,rfl,KH (s:={ s with heap:=h' }) e c d (by decide) ⟨x,H,I1,ru,⟨rfl,λys hy=>by rw[I.tuple_inj hy hq];exact hx⟩,AH,λb hb=>(hf b hb).1⟩⟩
 done:=by
  intro X hP hw hK hc i ag s σ H E I hf st hg;subst hP hw hK;obtain⟨xs,hq,hx⟩:=hg;obtain⟨its,rv,p,hz⟩:=I.tuple hq;obtain⟨f0,f1,f2,f3,f4,f5⟩:=hf it (by simp);have hl:=rv.length;exact wpAny_pyNext_tuple_end (I.ok.hd hc) st (show s.heap.IsTuple a its.toArray from p) (by simp;omega) λh' eb=>⟨rfl,I.turned (t':=s.toks) (λb o hb e=>eb b o hb e) f0 f1 f3 f4 f5⟩
 self:=λ_ _ _ _ _ st h=>wpAny_pyIter_tupleiter st h
def Kp{P:Í}{w:Ñ}{K:Sb}{tg:Î}(it:È)(lo:Int)(n:Nat):Turn P w K tg (Yu lo n) [it] it (λi h=>IsRangeIter h it (lo+(i:Nat)*1) ((n:Int)-(i:Nat)) 1) where
 mem:=by simp
 obj:=λi h st b hb=>by
  have e:b=it:=by simpa using hb
  subst e
  exact⟨_,st,λv z=>by
   have z':Data.fields _=Data.cell v:=z
   cases z'⟩
 keep:=λi h h' st k=>k it (by simp) _ st
 item:=by
  intro X hP hw hK hc i ag s σ H E I hf st hg;subst hP hw hK;obtain⟨f0,f1,f2,f3,f4,f5⟩:=hf it (by simp);have W:=Walks.range (prog:=X.prog) (w:=X.w) (I.ok.hd hc) it lo 1 n;refine W.item i s _ _ hg st λv h' tk hv AH kk=>?_
  obtain⟨t,rfl⟩:=hv;have I1:Inv X ag σ H { s with heap:=h',toks:=tk }:=I.turned (λb o hb e=>kk b o (by simpa using hb) e) f0 f1 f3 f4 f5;refine⟨_,rfl,KH (s:={ s with heap:=h',toks:=tk }) (n:="range_iterator") AH rfl rfl (by decide) ⟨.int (lo+i),H,I1,⟨t,?_⟩,⟨rfl,rfl⟩,AH,λb hb=>(hf b hb).1⟩⟩;rw[Int.mul_one]
 done:=by
  intro X hP hw hK hc i ag s σ H E I hf st hg;subst hP hw hK;obtain⟨f0,f1,f2,f3,f4,f5⟩:=hf it (by simp);exact wpAny_pyNext_range_end (I.ok.hd hc) st (by have:n<=i:=hg;omega) λh' eb=>⟨rfl,I.turned (t':=s.toks) (λb o hb e=>eb b o hb e) f0 f1 f3 f4 f5⟩
 self:=λ_ _ _ _ _ st h=>wpAny_pyIter_rangeiter st h
end L2
namespace L2
open PySem PySem.Spec PyProof.Rows
section
variable{X:Cx}{tg:Î}
def WY{ag:List (È×ö)}{σ:St}{H:Hp}{s:Å}{R:It->Hp->Prop}{E:Ä->Å->Prop}{lo hi:Int}{t u v:Tok}{tk:Nat}(I:Inv X ag σ H s)(h1:-(2 ^ 62)<=lo)(h2:lo<2 ^ 62)(h3:-(2 ^ 62)<=hi)(h4:hi<2 ^ 62)
  (q:R (Yu lo (hi-lo).toNat) H):É (Ë X.prog X.w) X.A (ı (.ref s.heap.objs.size)) (PIE X ag σ tg R) E { s with heap:=s.heap.push { cls:=.type "range",data:=.fields #[.int lo t,.int hi u,.int 1 v] },toks:=tk }:=by
 refine wpAny_pyIter_range (IsRange.new ..) (small_one h1 h2 h3 h4) ?_;have I1:Inv X ag σ H { s with heap:=s.heap.push { cls:=.type "range",data:=.fields #[.int lo t,.int hi u,.int 1 v] },toks:=tk }:=I.kept λb o e=>zf _ e
 refine⟨(s.heap.push { cls:=.type "range",data:=.fields #[.int lo t,.int hi u,.int 1 v] }).objs.size,[(s.heap.push { cls:=.type "range",data:=.fields #[.int lo t,.int hi u,.int 1 v] }).objs.size],_,_,H,rfl,
  I1.kept (t':=tk) λb o e=>zf _ e,Kp _ lo (hi-lo).toNat,?_,λb hb=>?_,q⟩
 .have e1:lo+((0:Nat):Int)*1=lo:=by simp
  have e2:(((hi-lo).toNat:Nat):Int)-((0:Nat):Int)=Builtin.Range.rangeSize lo hi 1:=by rw[rangeSize_one];split<;>omega
  show IsRangeIter _ _ (lo+((0:Nat):Int)*1) ((((hi-lo).toNat:Nat):Int)-((0:Nat):Int)) 1
  rw[e1,e2];exact zK _ rfl
 .have e:b=(s.heap.push { cls:=.type "range",data:=.fields #[.int lo t,.int hi u,.int 1 v] }).objs.size:=by simpa using hb
  subst e;exact I1.fpOk (zG _) (I1.hok.fresh (zG _))
def DM(ta:TA):TI:=λσ H R=>ta σ H λvs H1=>∃j:Int,vs=[.int j]/\-(2 ^ 62)<=j/\j<2 ^ 62/\R (Yu 0 j.toNat) H1
def QB{a:Î}{ta:TA}{p pos:ĝ}(hg:Gl X "range")(hm:X.mg "range" = Á)(ha:PA X [a] ta)(hs:↥(Ê [a] X.env=[(Â,eval a X.env)])):PI X tg (.Call (.Name "range" p) [a] [] pos) (DM ta):=by
 intro ag s σ H R I h;refine Call_ (cK I hg hm boot_range (qm (kC (ha pos ag s σ H _ I h) ?_) hs rfl));rintro us s1 ⟨vs,H1,I1,r1,q1⟩;obtain⟨j,e,q1,q2,q⟩:=q1;subst e;cases r1 with
 | cons r rr=>
  cases rr;obtain⟨t,rfl⟩:=r;exact call_range_1 (WY I1 ∅ ∅ q1 q2 (by simpa using q))
def F4(wi:TI)(g:TG)(tb:TS):TS:=λD σ H=>wi σ H λJ H1=>∃W:Nat->Nat->St->Hp->Prop,(∃m,W 0 m σ H1)/\∀i m σ H,W i m σ H->
 (J.stop i H/\D.nx σ H)\/(J.go i H/\∃N:St->Hp->Prop,(∀gy H',N gy H'->∃m',m'<m/\W (i+1) m' gy H')/\∀x H',J.yld i H x H'->g x σ H' λA5 H2=>tb { D with nx:=N,ct:=N,bk:=D.nx } A5 H2)
def f6(fp:List È)(h:Ò):List (È×ö):=fp.filterMap λb=>(h.get? b).map λo=>(b,o)
def dy{fp:List È}{h:Ò}{b:È}{o:ö}(hb:b∈fp)(e:h.get? b=À o):(b,o)∈f6 fp h:=yU.mpr ⟨b,hb,by rw[e];rfl⟩
def Vh{fp:List È}{h:Ò}{p:È×ö}(hp:p∈f6 fp h):p.1∈fp/\h.get? p.1=À p.2:=by
 obtain⟨b,hb,e⟩:=yU.mp hp;cases q:h.get? b with
 | none=>rw[q] at e;cases e
 | some o=>
  rw[q] at e;have e':(b,o)=p:=zX e;subst e';exact⟨hb,q⟩
def Inv.pinned{ag:List (È×ö)}{σ:St}{H:Hp}{s:Å}{fp:List È}(I:Inv X ag σ H s)(hf:∀b∈fp,bE X ag H b)(ho:∀b∈fp,∃o,s.heap.get? b=À o/\∀v,o.data≠.cell v):Inv X (ag++f6 fp s.heap) σ H s:=
 I.pins_of λp hp=>(zA.mp hp).elim (λz=>I.pin p (jh _ z)) λz=>by
  obtain⟨hb,e⟩:=Vh z;obtain⟨f0,f1,f2,_⟩:=hf p.1 hb;obtain⟨o,e',d⟩:=ho p.1 hb;rw[e] at e';cases e';exact⟨e,f0,f1,f2,d⟩
def Inv.unpinned{ag pl:List (È×ö)}{σ:St}{H:Hp}{s:Å}(I:Inv X (ag++pl) σ H s):Inv X ag σ H s:=I.pins_of λp hp=>I.pin p (jh _ (vf _ hp))
def U7{iter:Î}{body:List Č}{wi:TI}{g:TG}{tb:TS}{pos:ĝ}(hp:ū (Ë X.prog X.w) X.A X.env X.xe)(hc:X.calm=Ã)(hi:PI X tg iter wi)(hg:PG X tg g)(hb:PSs X body tb)
  (hs:∀x,é iter X.env x=pure x:=by intro _;rfl):PS X (.For tg iter body [] pos) (F4 wi g tb):=by
 intro ag s σ H D I h;refine wpAny_For (kC (hi ag s σ H _ I h) λv s1 h1=>kC h1 λLe s2 h2=>?_) hs;obtain⟨it,fp,tn,J,H2,e,I2,T,Hj,f2,W,⟨m0,w0⟩,turn⟩:=h2;subst e;have GP:∀{H':Hp},(∀b∈fp,H' b=Á)->∀b∈fp,bE X ag H' b:=λhn b hb=>⟨hn b hb,(f2 b hb).2⟩
 refine codeAny_forLoop_any (λn s'=>∃i gy H',Inv X ag gy H' s'/\tn i s'.heap/\(∀b∈fp,H' b=Á)/\W i n gy H') ?_ m0 ⟨0,σ,H2,I2,Hj,λb hb=>(f2 b hb).1,w0⟩;rintro n s3 ⟨i,AL,H3,I3,HA,ID,w3⟩;rcases turn i n AL H3 w3 with ⟨stop,qn⟩ | ⟨go,N,hN,step⟩
 .refine vh hp (kC (T.done X rfl rfl rfl hc i ag s3 AL H3 X.xe I3 (GP ID) HA stop) ?_)
  rintro r s4 ⟨hr,I4⟩;subst hr;exact yO ⟨AL,H3,I4,qn⟩
 .refine vh hp (kC (T.item X rfl rfl rfl hc i ag s3 AL H3 X.xe I3 (GP ID) HA go) ?_)
  rintro r s4 ⟨u,hr,h4⟩;subst hr;refine vh hp (kC h4 ?_);rintro _ s5 ⟨x,H5,I5,r5,y5,GQ,Lf⟩;have Lg:=I5.pinned (GP Lf) (T.obj _ _ GQ);refine vh hp (kC (hg _ s5 AL H5 x u _ Lg r5 (step x H5 y5)) ?_);rintro _ s6 ⟨EC,H6,I6,q6⟩;refine vh hp (kC (hb _ s6 EC H6 _ I6 q6) λf s7 q7=>?_);have again:∀{A9:St} {H7:Hp},Inv X (ag++f6 fp s5.heap) A9 H7 s7->N A9 H7->∃m,m<n/\∃i gy H',Inv X ag gy H' s7/\tn i s7.heap/\(∀b∈fp,H' b=Á)/\W i m gy H':=λ{A9 H7} I7 n7=>by
   obtain⟨m',hm,w7⟩:=hN A9 H7 n7;refine⟨m',hm,i+1,A9,H7,I7.unpinned,T.keep _ _ _ GQ λb hb o e=>(I7.pin (b,o) (jh _ (jh _ (dy hb e)))).1,λb hb=>?_,w7⟩;obtain⟨o,e,d⟩:=T.obj _ _ GQ b hb;exact(I7.pin (b,o) (jh _ (jh _ (dy hb e)))).2.1
  cases f with
  | next=>obtain⟨A9,H7,I7,n7⟩:=q7;exact again I7 n7
  | cont=>obtain⟨A9,H7,I7,n7⟩:=q7;exact again I7 n7
  | brk=>obtain⟨A9,H7,I7,q7⟩:=q7;exact⟨A9,H7,I7.unpinned,q7⟩
  | ret v=>obtain⟨x7,A9,H7,I7,r7,q7⟩:=q7;exact⟨x7,A9,H7,I7.unpinned,r7,q7⟩
end
end L2
namespace L2
open PySem PySem.Spec PyProof.Rows
abbrev R2:=V->V->Hp->VK->Prop
def qv(X:Cx)(f:Ä->Ä->Sem Ä)(r:R2):Prop:=
 ∀(ag:List (È×ö)) (s:Å) (σ:St) (H:Hp) (x y:V) (v u:Ä) (Q:VK),Inv X ag σ H s->RelV x v->RelV y u->r x y H Q->
  É (Ë X.prog X.w) X.A (f v u) (EP X ag σ Q) X.xe s
def QZ(X:Cx)(f:Ä->Sem Ä)(r:V->Hp->VK->Prop):Prop:=
 ∀(ag:List (È×ö)) (s:Å) (σ:St) (H:Hp) (x:V) (v:Ä) (Q:VK),Inv X ag σ H s->RelV x v->r x H Q->
  É (Ë X.prog X.w) X.A (f v) (EP X ag σ Q) X.xe s
def va(X:Cx)(f:Ä)(r:List V->Hp->VK->Prop):Prop:=
 ∀(ag:List (È×ö)) (s:Å) (σ:St) (H:Hp) (xs:List V) (us:List Ä) (Q:VK),Inv X ag σ H s->Vals xs us->r xs H Q->
  É (Ë X.prog X.w) X.A (call f us) (EP X ag σ Q) X.xe s
def Qr(r:R2)(ta tb:TE):TE:=λσ H Q=>ta σ H λx H1=>tb σ H1 λy H2=>r x y H2 Q
def Gy(r:V->Hp->VK->Prop)(ta:TE):TE:=λσ H Q=>ta σ H λx H1=>r x H1 Q
def rI(C:Int->Int->Prop)(g:Int->Int->V):R2:=λx y H Q=>∃i j,x=.int i/\y=.int j/\C i j/\Q (g i j) H
def ou(g:Int->Int->V):R2:=λx y H Q=>∃i j,x=.int i/\y=.int j/\Q (g i j) H
def rU(g:Int->V):V->Hp->VK->Prop:=λx H Q=>∃i,x=.int i/\Q (g i) H
section
variable{X:Cx}{a b c:Î}{ta tb tc:TE}{pos:ĝ}
def WB(ha:PE X a ta)(hb:PE X b tb){ag:List (È×ö)}{s:Å}{σ:St}{H:Hp}{R:V->V->Hp->Prop}(I:Inv X ag σ H s)
  (h:ta σ H λx H1=>tb σ H1 λy H2=>R x y H2) {Q:Ä->Å->Prop} {f:Ä->Ä->Sem Ä}
  (hf:∀v u s2 x y H2,Inv X ag σ H2 s2->RelV x v->RelV y u->R x y H2->É (Ë X.prog X.w) X.A (f v u) Q X.xe s2) :
  É (Ë X.prog X.w) X.A (eval a X.env) (λv d4=>É (Ë X.prog X.w) X.A (eval b X.env) (λu Ac=>É (Ë X.prog X.w) X.A (f v u) Q X.xe Ac) X.xe d4) X.xe s:=by
 refine kC (ha ag s σ H _ I h) ?_;rintro v s1 ⟨x,H1,I1,r1,q1⟩;refine kC (hb ag s1 σ H1 _ I1 q1) ?_;rintro u s2 ⟨y,H2,I2,r2,q2⟩;exact hf v u s2 x y H2 I2 r1 r2 q2
def Fv{op:Operator}{r:R2}(ho:qv X (ë op) r)(ha:PE X a ta)(hb:PE X b tb):PE X (.BinOp a op b pos) (Qr r ta tb):=by
 intro ag s σ H Q I h;exact wpAny_BinOp (WB ha hb I h λv u s2 x y H2 I2 rx ry q=>ho ag s2 σ H2 x y v u Q I2 rx ry q)
def Fd{op:UnaryOp}{r:V->Hp->VK->Prop}(ho:QZ X (unaryOp op) r)(ha:PE X a ta):PE X (.UnaryOp op a pos) (Gy r ta):=by
 intro ag s σ H Q I h;exact UnaryOp_ (kC (ha ag s σ H _ I h) λv s1 Oj=>(by obtain⟨x,H1,I1,r1,q1⟩:=Oj;exact ho ag s1 σ H1 x v Q I1 r1 q1))
def Dw{f:Ä->Ä->Sem Ä}{C:Int->Int->Prop}{g:Int->Int->Int}
  (rule:∀(i j:Int) (t u:Tok) (s:Å) (Q:Ä->Å->Prop) (E:Ä->Å->Prop),C i j->Q (.int (g i j) s.toks) { s with toks:=s.toks+1 }->É (Ë X.prog X.w) X.A (f (.int i t) (.int j u)) Q E s) :
  qv X f (rI C λi j=>.int (g i j)):=by
 intro ag s σ H x y v u Q I rx ry h;obtain⟨i,j,rfl,rfl,hc,q⟩:=h;obtain⟨t,rfl⟩:=rx;obtain⟨t',rfl⟩:=ry;exact rule i j t t' s _ _ hc ⟨.int (g i j),H,I.tok _,⟨_,rfl⟩,q⟩
def Bl{f:Ä->Ä->Sem Ä}{g:Int->Int->Int}
  (rule:∀(i j:Int) (t u:Tok) (s:Å) (Q:Ä->Å->Prop) (E:Ä->Å->Prop),Q (.int (g i j) s.toks) { s with toks:=s.toks+1 }->É (Ë X.prog X.w) X.A (f (.int i t) (.int j u)) Q E s) :
  qv X f (ou λi j=>.int (g i j)):=by
 intro ag s σ H x y v u Q I rx ry h;obtain⟨i,j,rfl,rfl,q⟩:=h;obtain⟨t,rfl⟩:=rx;obtain⟨t',rfl⟩:=ry;exact rule i j t t' s _ _ ⟨.int (g i j),H,I.tok _,⟨_,rfl⟩,q⟩
def VS{f:Ä->Ä->Sem Ä}{g:Int->Int->Bool}
  (rule:∀(i j:Int) (t u:Tok) (s:Å) (Q:Ä->Å->Prop) (E:Ä->Å->Prop),Q (.bool (g i j)) s->É (Ë X.prog X.w) X.A (f (.int i t) (.int j u)) Q E s) :
  qv X f (ou λi j=>.bl (g i j)):=by
 intro ag s σ H x y v u Q I rx ry h;obtain⟨i,j,rfl,rfl,q⟩:=h;obtain⟨t,rfl⟩:=rx;obtain⟨t',rfl⟩:=ry;exact rule i j t t' s _ _ ⟨.bl (g i j),H,I,rfl,q⟩
def FZ(i j:Int):Prop:=0<j/\j<1073741824
def CMul(i j:Int):Prop:=(-(2 ^ 64)<i/\i<2 ^ 64)\/(-(2 ^ 64)<j/\j<2 ^ 64)
def CMul.ok{i j:Int}(h:CMul i j):IntMulOk i j:=by
 rcases h with ⟨h1,h2⟩ | ⟨h1,h2⟩
 .exact .of_left (intBits_le_64 h1 h2)
 .exact .of_right (intBits_le_64 h1 h2)
def Dp:qv X (ë .Add) (ou λi j=>.int (i+j)):=Bl λ_ _ _ _ _ _ _ q=>add_int q
def CT:qv X (ë .Sub) (ou λi j=>.int (i-j)):=Bl λ_ _ _ _ _ _ _ q=>sub_int q
def U2:qv X (ë .Mult) (rI CMul λi j=>.int (i*j)):=Dw λ_ _ _ _ _ _ _ hc q=>mul_int q hc.ok
def X2:qv X (ë .FloorDiv) (rI FZ λi j=>.int (i/j)):=Dw λi j _ _ _ _ _ hc q=>by
 have h1:(0:Int)<j:=hc.1;have h2:j<1073741824:=hc.2;exact floordiv_int ∅ (by rw[Int.fdiv_eq_ediv_of_nonneg i ∅];exact q) (.inl (PyProof.noPylong_small ∅))
def C6:qv X (ë .Mod) (rI (λ_ j=>0<j) λi j=>.int (i%j)):=Dw λi j _ _ _ _ _ hc q=>by
 have h1:(0:Int)<j:=hc;exact mod_int' ∅ (by rw[Int.fmod_eq_emod_of_nonneg i ∅];exact q)
def GH{f:Ä->Sem Ä}{g:Int->Int}
  (rule:∀(i:Int) (t:Tok) (s:Å) (Q:Ä->Å->Prop) (E:Ä->Å->Prop),Q (.int (g i) s.toks) { s with toks:=s.toks+1 }->É (Ë X.prog X.w) X.A (f (.int i t)) Q E s) :
  QZ X f (rU λi=>.int (g i)):=by
 intro ag s σ H x v Q I rx h;obtain⟨i,rfl,q⟩:=h;obtain⟨t,rfl⟩:=rx;exact rule i t s _ _ ⟨.int (g i),H,I.tok _,⟨_,rfl⟩,q⟩
def U9:QZ X (unaryOp .USub) (rU λi=>.int (-i)):=GH λ_ _ _ _ _ q=>neg_int q
end
def BA:V->V->Bool
 | .non,.non=>Ã | .non,.int _=>Ã | .int _,.non=>Ã | .non,.bl _=>Ã | .bl _,.non=>Ã | .non,.str _=>Ã | .str _,.non=>Ã
 | .int _,.int _=>Ã | .bl _,.bl _=>Ã | .str _,.str _=>Ã | .byt _,.byt _=>Ã
 | .int _,.str _=>Ã | .str _,.int _=>Ã | .bl _,.str _=>Ã | .str _,.bl _=>Ã
 | _,_=>Â
def GG:R2:=λx y H Q=>BA x y=Ã/\Q (.bl (decide (x=y))) H
def GD:R2:=λx y H Q=>BA x y=Ã/\Q (.bl (!decide (x=y))) H
def gY{i j:Int}:decide (V.int i=V.int j)=(i==j):=by
 rw[wF];simp
def l6{i j:Bool}:decide (V.bl i=V.bl j)=(i==j):=by
 rw[wF];simp
def gM{i j:Æ}:decide (V.str i=V.str j)=(i==j):=by
 rw[wF];simp
def Z7{i j:Array UInt8}:decide (V.byt i=V.byt j)=(i.toList==j.toList):=by
 rw[wF];cases i;cases j;simp
section
variable{X:Cx}{a b c:Î}{ta tb tc:TE}{pos:ĝ}
def kA{ag:List (È×ö)}{σ:St}{H:Hp}{s:Å}{Q:VK}{k k':Bool}(I:Inv X ag σ H s)(q:Q (.bl k) H)(e:k=k'):EP X ag σ Q (.bool k') s:=by
 subst e;exact⟨.bl k,H,I,rfl,q⟩
def JC:qv X (Ù .Eq) GG:=by
 intro ag s σ H x y v u Q I rx ry h;obtain⟨hs,q⟩:=h;cases x with
 | non=>
  cases rx;cases y with
  | non=>cases ry;exact PySem.EqNone.eq_none_none (kA I q (by simp))
  | bl j=>cases ry;exact PySem.EqNone.eq_none_bool (kA I q (by simp))
  | int j=>obtain⟨t',rfl⟩:=ry;exact PySem.EqNone.eq_none_int (kA I q (by simp))
  | str j=>obtain⟨t',rfl⟩:=ry;exact PySem.EqNone.eq_none_str (kA I q (by simp))
  | _=>exact absurd (show Â=Ã from hs) zR
 | bl i=>
  cases rx;cases y with
  | non=>cases ry;exact PySem.EqNone.eq_bool_none (kA I q (by simp))
  | bl j=>cases ry;exact eq_bool (kA I q l6)
  | str j=>obtain⟨t',rfl⟩:=ry;exact PySem.EqMixed.eq_bool_str (kA I q (by simp))
  | _=>exact absurd (show Â=Ã from hs) zR
 | int i=>
  obtain⟨t,rfl⟩:=rx;cases y with
  | non=>cases ry;exact PySem.EqNone.eq_int_none (kA I q (by simp))
  | int j=>obtain⟨t',rfl⟩:=ry;exact eq_int (kA I q gY)
  | str j=>obtain⟨t',rfl⟩:=ry;exact PySem.EqMixed.eq_int_str (kA I q (by simp))
  | _=>exact absurd (show Â=Ã from hs) zR
 | str i=>
  obtain⟨t,rfl⟩:=rx;cases y with
  | non=>cases ry;exact PySem.EqNone.eq_str_none (kA I q (by simp))
  | bl j=>cases ry;exact PySem.EqMixed.eq_str_bool (kA I q (by simp))
  | int j=>obtain⟨t',rfl⟩:=ry;exact PySem.EqMixed.eq_str_int (kA I q (by simp))
  | str j=>obtain⟨t',rfl⟩:=ry;exact eq_str (kA I q gM)
  | _=>exact absurd (show Â=Ã from hs) zR
 | byt i=>
  obtain⟨t,rfl⟩:=rx;cases y with
  | byt j=>obtain⟨t',rfl⟩:=ry;exact PySem.W.eq_bytes (kA I q Z7)
  | _=>exact absurd (show Â=Ã from hs) zR
 | _=>cases y<;>exact absurd (show Â=Ã from hs) zR
def Jr:qv X (Ù .NotEq) GD:=by
 intro ag s σ H x y v u Q I rx ry h;obtain⟨hs,q⟩:=h;cases x with
 | non=>
  cases rx;cases y with
  | non=>cases ry;exact PySem.EqNone.ne_none_none (kA I q (by simp))
  | bl j=>cases ry;exact PySem.EqNone.ne_none_bool (kA I q (by simp))
  | int j=>obtain⟨t',rfl⟩:=ry;exact PySem.EqNone.ne_none_int (kA I q (by simp))
  | str j=>obtain⟨t',rfl⟩:=ry;exact PySem.EqNone.ne_none_str (kA I q (by simp))
  | _=>exact absurd (show Â=Ã from hs) zR
 | bl i=>
  cases rx;cases y with
  | non=>cases ry;exact PySem.EqNone.ne_bool_none (kA I q (by simp))
  | bl j=>cases ry;exact ne_bool (kA I q (jt not l6))
  | str j=>obtain⟨t',rfl⟩:=ry;exact PySem.EqMixed.ne_bool_str (kA I q (by simp))
  | _=>exact absurd (show Â=Ã from hs) zR
 | int i=>
  obtain⟨t,rfl⟩:=rx;cases y with
  | non=>cases ry;exact PySem.EqNone.ne_int_none (kA I q (by simp))
  | int j=>obtain⟨t',rfl⟩:=ry;exact ne_int (kA I q (jt not gY))
  | str j=>obtain⟨t',rfl⟩:=ry;exact PySem.EqMixed.ne_int_str (kA I q (by simp))
  | _=>exact absurd (show Â=Ã from hs) zR
 | str i=>
  obtain⟨t,rfl⟩:=rx;cases y with
  | non=>cases ry;exact PySem.EqNone.ne_str_none (kA I q (by simp))
  | bl j=>cases ry;exact PySem.EqMixed.ne_str_bool (kA I q (by simp))
  | int j=>obtain⟨t',rfl⟩:=ry;exact PySem.EqMixed.ne_str_int (kA I q (by simp))
  | str j=>obtain⟨t',rfl⟩:=ry;exact ne_str (kA I q (jt not gM))
  | _=>exact absurd (show Â=Ã from hs) zR
 | byt i=>
  obtain⟨t,rfl⟩:=rx;cases y with
  | byt j=>obtain⟨t',rfl⟩:=ry;exact PySem.W.ne_bytes (kA I q (jt not Z7))
  | _=>exact absurd (show Â=Ã from hs) zR
 | _=>cases y<;>exact absurd (show Â=Ã from hs) zR
def DR:qv X (Ù .Lt) (ou λi j=>.bl (decide (i<j))):=VS λ_ _ _ _ _ _ _ q=>lt_int q
def Fj:qv X (Ù .LtE) (ou λi j=>.bl (decide (i<=j))):=VS λ_ _ _ _ _ _ _ q=>le_int q
def DT:qv X (Ù .Gt) (ou λi j=>.bl (decide (j<i))):=VS λ_ _ _ _ _ _ _ q=>gt_int q
def Vj:qv X (Ù .In) (λx y H Q=>∃i j,x=.str i/\y=.str j/\Q (.bl (!(Ģ j i 0 j.length 1).isEmpty)) H):=by
 intro ag s σ H x y v u Q I rx ry h;obtain⟨i,j,rfl,rfl,q⟩:=h;obtain⟨t,rfl⟩:=rx;obtain⟨t',rfl⟩:=ry;exact in_str (kA I q rfl)
def Bd:qv X (Ù .Is) (λx y H Q=>y=.non/\Q (.bl (decide (x=.non))) H):=by
 intro ag s σ H x y v u Q I rx ry h;obtain⟨rfl,q⟩:=h;cases ry;refine is_none_gen (kA I q ?_);cases x<;>first
  | (cases rx;rfl)
  | (obtain⟨t,rfl⟩:=rx;rfl)
def Xn:qv X (Ù .IsNot) (λx y H Q=>y=.non/\Q (.bl (!decide (x=.non))) H):=by
 intro ag s σ H x y v u Q I rx ry h;obtain⟨rfl,q⟩:=h;cases ry;refine isnot_none_gen (kA I q ?_);cases x<;>first
  | (cases rx;rfl)
  | (obtain⟨t,rfl⟩:=rx;rfl)
def sY:qv X (Ù .NotIn) (λx y H Q=>∃i j,x=.str i/\y=.str j/\Q (.bl (!(!(Ģ j i 0 j.length 1).isEmpty))) H):=by
 intro ag s σ H x y v u Q I rx ry h;obtain⟨i,j,rfl,rfl,q⟩:=h;obtain⟨t,rfl⟩:=rx;obtain⟨t',rfl⟩:=ry;exact notIn_str (kA I q rfl)
def UO{op:CmpOp}{r:R2}(ho:qv X (Ù op) r)(ha:PE X a ta)(hb:PE X b tb)(hm:ī op b=Â):PE X (.Compare a [op] [b] pos) (Qr r ta tb):=by
 intro ag s σ H Q I h;exact wpAny_Compare1 (WB ha hb I h λv u s2 x y H2 I2 rx ry q=>ho ag s2 σ H2 x y v u Q I2 rx ry q) hm
def Fh(t:TE):TT:=λσ H Q=>t σ H λx H'=>∃k,x=.bl k/\Q k H'
def XM{op:CmpOp}{r:R2}(ho:qv X (Ù op) r)(ha:PE X a ta)(hb:PE X b tb)(hm:ī op b=Â):PT X (.Compare a [op] [b] pos) (Fh (Qr r ta tb)):=by
 intro ag s σ H Q I h
 refine wpAny_isTrue_Compare1 (kC (ha ag s σ H _ I h) λv s1 ⟨x,H1,I1,r1,q1⟩=>kC (hb ag s1 σ H1 _ I1 q1) λu s2 ⟨y,H2,I2,r2,q2⟩=>
  kC (ho ag s2 σ H2 x y v u _ I2 r1 r2 q2) λc s3 ⟨z,H3,I3,r3,k,e,q3⟩=>?_) hm
 subst e;cases r3;exact vB ⟨H3,I3,q3⟩
def fc:(sizeLine:Nat)<2 ^ 63:=by rw[jL];decide
def KN:qv X (ë .Add) (λx y H Q=>∃i j,x=.str i/\y=.str j/\i.length+j.length<=sizeLine/\Q (.str (i++j)) H):=by
 intro ag s σ H x y v u Q I rx ry h;obtain⟨i,j,rfl,rfl,hz,q⟩:=h;obtain⟨t,rfl⟩:=rx;obtain⟨t',rfl⟩:=ry;exact add_str (λt' tk=>⟨.str (i++j),H,I.tok _,⟨_,rfl⟩,q⟩) hz
def vals1{x:V}{us:List Ä}(r:Vals [x] us):∃u,us=[u]/\RelV x u:=by
 cases r with
 | cons r1 r2=>cases r2;exact⟨_,rfl,r1⟩
def vals2{x y:V}{us:List Ä}(r:Vals [x,y] us):∃u w',us=[u,w']/\RelV x u/\RelV y w':=by
 cases r with
 | cons r1 r2=>
  cases r2 with
  | cons r3 r4=>cases r4;exact⟨_,_,rfl,r1,r3⟩
def nA:va X (.type "int") (λxs H Q=>(∃i,xs=[.int i]/\Q (.int i) H)\/∃k,xs=[.bl k]/\Q (.int (if k then 1 else 0)) H):=by
 intro ag s σ H xs us Q I r h;rcases h with ⟨i,rfl,q⟩ | ⟨k,rfl,q⟩
 .obtain⟨u,rfl,t,rfl⟩:=vals1 r
  exact call_int_int ⟨.int i,H,I,⟨_,rfl⟩,q⟩
 .obtain⟨u,rfl,r1⟩:=vals1 r
  cases r1;exact call_int_bool ⟨.int (if k then 1 else 0),H,I.tok _,⟨_,rfl⟩,q⟩
end
end L2
namespace L2
open PySem PySem.Spec PyProof.Rows
structure ObjM(h:Ò)(x dx C:È)(mA:Æ->Option Ä):Prop where
 obj:h.get? x=À (Ś C dx)
 ns:h.Ns1 dx mA
 ne:dx≠x
def QM{h:Ò}{dx:È}{mA:Æ->Option Ä}(n:h.Ns1 dx mA):∃od,h.get? dx=À od/\∀name,ţ name od=À (mA name):=by
 obtain⟨o,es,ep,ho,hd,hk,_,hm⟩:=n;refine⟨o,ho,λname=>?_⟩;have e:=hm name;unfold nsFind findBy at e;rw[<-pP] at e;unfold ţ;rw[hd];dsimp only;split
 .rename_i y q
  rw[q] at e;exact jt À e
 .rename_i q
  rw[q] at e;have a:es.toList.any (·.refKey)=Â:=by
   rw[List.any_eq_false];intro y hy;obtain⟨z,t,As⟩:=hk y (yJ.mp hy);simp[DictEntry.refKey,As]
  have a':¬es.toList.any (·.refKey)=Ã:=by rw[a];exact zR
  rw[kh a'];exact jt À e
def ObjM.look{h:Ò}{x dx C:È}{mA:Æ->Option Ä}(I:ObjM h x dx C mA):∃od,PySem.W.InstAt h x (Ś C dx) C (À od)/\∀name,ţ name od=À (mA name):=
 let ⟨od,ho,hl⟩:=QM I.ns
 ⟨od,⟨I.obj,rfl,rfl,ho⟩,hl⟩
section
variable{P:Í}{w:Ñ}{H H':Hp}{h h':Ò}{a C dx:È}{fs EK:List (Æ×V)}
def Xx(hok:HOk P w H h)(e:H a=À (.ins C dx fs)):∃mA,ObjM h a dx C mA/\(∀f,RelO (fs.lookup f) (mA f))/\PySem.Within mA (fs.map (·.1))/\fs.length<=1000/\H dx=À (.own a):=by
 obtain⟨d,z,ne,ob,mA,n,r,q⟩:=(show ObjOk P w H h a (.ins C dx fs) from hok a _ e);exact⟨mA,⟨ob,n,ne⟩,r,q,z,d⟩
end
structure Cls(K:Sb)(C:È):Prop where
 pg:PySem.W.plainGet K C Str.empty=Ã
 hd:PySem.W.hasDictIn K C=Ã
 po:PySem.W.plainOver K C=Ã
 sa:PySem.W.findIn K (.ref C) "__setattr__" = À (À (.builtin "object.__setattr__"))
def Cls.get{K:Sb}{C:È}(c:Cls K C)(f:Æ):PySem.W.plainGet K C f=Ã:=c.pg
section
variable{X:Cx}{ag:List (È×ö)}{σ:St}{H:Hp}{s:Å}{A:Ö}{E:Ä->Å->Prop}{Q:Ä->Å->Prop}{c:Ä}{b:Bool}
inductive TyOf(K:Sb)(H:Hp):V->Ä->Prop where
 | non:TyOf K H .non (.type "NoneType")
 | bl (x:Bool):TyOf K H (.bl x) (.type "bool")
 | int (i:Int):TyOf K H (.int i) (.type "int")
 | str (x:Æ):TyOf K H (.str x) (.type "str")
 | flt (x:UInt64):TyOf K H (.flt x) (.type "float")
 | lst {a:È} {xs:List V} (e:H a=À (.lst xs)):TyOf K H (.ref a) (.type "list")
 | frz {a:È} {o:ö} {xs:List V} (e:H a=À (.frz o (.lst xs))):TyOf K H (.ref a) (.type "list")
 | tup {a:È} {xs:List V} (e:H a=À (.tup xs)):TyOf K H (.ref a) (.type "tuple")
 | dK {a:È} {cb:List (Key×V)} (e:H a=À (.dK cb)):TyOf K H (.ref a) (.type "dict")
 | dT {a:È} {cb:List (List Key×V)} (e:H a=À (.dT cb)):TyOf K H (.ref a) (.type "dict")
 | ins {a C dx:È} {fs:List (Æ×V)} (e:H a=À (.ins C dx fs)) (cl:Cls K C) (ha:PySem.W.findIn K (.ref C) "__class__" = À (À (.builtin "object.__class__")))
   (hn:PySem.W.specialIn K (.builtin "object.__class__") "__get__" = À (À (.builtin "getset_descriptor.__get__"))) (MD:PySem.W.takesIn K (.builtin "object.__class__")=À Ã)
   (hm:PySem.W.mroIn K C (.type "object")=À Ã):TyOf K H (.ref a) (.ref C)
def QJ{x:V}{u t:Ä}(I:Inv X ag σ H s)(rx:RelV x u)(ty:TyOf X.K H x t)(e:ĸ X.K t c=À b)(h:∀tk,Q (.bool b) { s with toks:=tk }) :
  É (Ë X.prog X.w) A (call (.builtin "isinstance") [u,c]) Q E s:=by
 cases ty with
 | non=>cases (show u=Ó from rx);exact jl ſ I.kIn ø e (λz=>nomatch z) h
 | bl y=>cases (show u=Œ y from rx);exact jl PySem.W.kitx_bool I.kIn ø e (λz=>nomatch z) h
 | int i=>obtain⟨t,q⟩:=(show ∃t,u=Ġ i t from rx);cases q;exact jl PySem.W.kitx_int I.kIn ø e (λz=>nomatch z) h
 | str y=>obtain⟨t,q⟩:=(show ∃t,u=ĕ y t from rx);cases q;exact jl PySem.W.kitx_str I.kIn ø e (λz=>nomatch z) h
 | flt y=>obtain⟨t,q⟩:=(show ∃t,u=Value.float y t from rx);cases q;exact jl PySem.W.kitx_float I.kIn ø e (λz=>nomatch z) h
 | @lst a xs ea=>
  cases (show u=Ï a from rx);obtain⟨_,_,n,_,h1⟩:=(show ObjOk X.prog X.w H s.heap a (.lst xs) from I.hok a _ ea);exact jl wU I.kIn ⟨_,h1,rfl⟩ e (λz=>nomatch z) h
 | @frz a ob xs ea=>
  cases (show u=Ï a from rx);obtain⟨_,_,_,n,_,h1⟩:=(show ObjOk X.prog X.w H s.heap a (.frz ob (.lst xs)) from I.hok a _ ea);exact jl wU I.kIn ⟨_,h1,rfl⟩ e (λz=>nomatch z) h
 | @tup a xs ea=>
  cases (show u=Ï a from rx);obtain⟨_,_,_,p,_⟩:=(show ObjOk X.prog X.w H s.heap a (.tup xs) from I.hok a _ ea);obtain⟨o,h1,h2,_⟩:=p;exact jl pM I.kIn ⟨o,h1,h2⟩ e (λz=>nomatch z) h
 | @dK a cb ea=>
  cases (show u=Ï a from rx);obtain⟨_,_,vs,_,p⟩:=(show ObjOk X.prog X.w H s.heap a (.dK cb) from I.hok a _ ea);obtain⟨o,es,ep,h1,h2,_⟩:=p;exact jl xq I.kIn ⟨o,h1,h2.1⟩ e (λz=>nomatch z) h
 | @dT a cb ea=>
  cases (show u=Ï a from rx);obtain⟨_,_,xs,_,o,es,ep,h1,h2,_⟩:=(show ObjOk X.prog X.w H s.heap a (.dT cb) from I.hok a _ ea);exact jl xq I.kIn ⟨o,h1,h2.1⟩ e (λz=>nomatch z) h
 | @ins a C dx fs ea cl ha hn MD hm=>
  cases (show u=Ï a from rx);obtain⟨mA,O,_⟩:=Xx I.hok ea;obtain⟨od,J,_⟩:=O.look;exact jl (PySem.W.kitx_own (cl.get _) cl.hd ha hn MD hm) I.kIn J e (λz=>nomatch z) h
end
end L2
namespace L2
open PySem PySem.Spec PyProof.Rows
structure Room(k:Nat)(A:Ö):Prop where
 hd:A.handled=Á
 dp:A.depth+3*k+5<recursionLimit
 un:A.units+16*k+200<ď
theorem Room.deeper{k:Nat}{A:Ö}(r:Room (k+1) A)(env:Env):Room k (A.deeper env):=
 ⟨r.hd,by have:=r.dp;show A.depth+1+3*k+5<_;omega,by have:=r.un;show A.units+3+16*k+200<_;omega⟩
theorem Room.depth{k:Nat}{A:Ö}(r:Room k A):A.depth<recursionLimit:=by have:=r.dp;omega
theorem Room.units{k:Nat}{A:Ö}(r:Room k A):A.units+64<ď:=by have:=r.un;omega
def B4:TA:=λ_ H Q=>Q [] H
def DP(ta:TE)(tr:TA):TA:=λσ H Q=>ta σ H λx H1=>tr σ H1 λxs H2=>Q (x::xs) H2
section
variable{X:Cx}{e:Î}{es:List Î}{te:TE}{t:TA}{pos:ĝ}
def Vf:PA X [] B4:=λ_ _ _ _ H Q I h=>wu ⟨[],H,I,.nil,h⟩
def mT(ha:PE X e te)(hr:PA X es t)(hs:↥(Ê (e::es) X.env=(Â,eval e X.env)::Ê es X.env)):PA X (e::es) (DP te t):=by
 intro pos ag s σ H Q I h;rw[hs];show É _ _ (spliced ((Â,eval e X.env)::ß pos (Ê es X.env))) _ _ s
 refine vZ (kC (ha ag s σ H _ I h) ?_);rintro u s1 ⟨x,H1,I1,r1,q1⟩;exact kC (hr pos ag s1 σ H1 _ I1 q1) λus s2 Lh=>(by obtain⟨xs,H2,I2,r2,q2⟩:=Lh;exact⟨x::xs,H2,I2,.cons r1 r2,q2⟩)
def Gr(t:TA):TE:=λσ H Q=>t σ H λxs H1=>xs.length<=sizeLine/\∀p,H1 p=Á->Q (.ref p) (upd H1 p (.tup xs))
def Gg(t:TA):TE:=λσ H Q=>t σ H λxs H1=>xs.length<=sizeLine/\∀p,H1 p=Á->Q (.ref p) (upd H1 p (.lst xs))
def CY{x1}(h:PA X es t):PE X (.Tuple es x1 pos) (Gr t):=by
 intro ag s σ H Q I hq;refine wpAny_Tuple_spliced (kC (h pos ag s σ H _ I hq) ?_);rintro us s1 ⟨xs,H1,I1,r,z,q⟩;refine⟨by rw[<-r.length];exact z,?_⟩;have hf:H1 s1.heap.objs.size=Á:=I1.hok.fresh (zG _);refine⟨.ref s1.heap.objs.size,upd H1 s1.heap.objs.size (.tup xs),I1.laid (t':=s1.toks) (λb u e=>zf _ e) (zG _) ?_,rfl,q _ hf⟩;exact⟨z,us,r,⟨_,zK _ rfl,rfl,_,rfl⟩,.new _ _⟩
def Qd(h:PA X es t):PE X (.List es pos) (Gg t):=by
 intro ag s σ H Q I hq;refine wpAny_List_spliced (kC (h pos ag s σ H _ I hq) ?_);rintro us s1 ⟨xs,H1,I1,r,z,q⟩;refine⟨by rw[<-r.length];exact z,?_⟩;have hf:H1 s1.heap.objs.size=Á:=I1.hok.fresh (zG _);refine⟨.ref s1.heap.objs.size,upd H1 s1.heap.objs.size (.lst xs),I1.laid (t':=s1.toks) (λb u e=>zf _ e) (zG _) ?_,rfl,q _ hf⟩;exact⟨z,us,0,r,zK _ rfl⟩
end
abbrev Sp:=List V->Hp->VK->XK->Prop
abbrev fT:=List Env->Hp->Å->XK->Ä->Å->Prop
structure Env0(P:Í)(w:Ñ)(K:Sb)(mg:Æ->Option Ä)(base:Ò)(A:Ö)(outer:List Env)(s:Å)(H:Hp):Prop where
 frames:A.frames=À outer
 mod:Mod K mg base
 bs:∀b o,base.get? b=À o->s.heap.get? b=À o/\H b=Á
 bsz:base.objs.size<=s.heap.objs.size
 funs:s.heap.FunFrames base outer
 frf:∀b∈frs outer,H b=Á
 hok:HOk P w H s.heap
 bare:ń s.gens
def CE(outer:List Env)(P:Í)(w:Ñ)(H:Hp)(s:Å)(Q:VK)(u:Ä)(s':Å):Prop:=
 ∃v H',s'.os=s.os/\ń s'.gens/\Un (frs outer) [] H H' s.heap s'.heap/\HOk P w H' s'.heap/\RelV v u/\Q v H'
def CR(CX:fT)(outer:List Env)(P:Í)(w:Ñ)(H:Hp)(s:Å)(Q:VK)(E:XK)(r:Result)(s':Å):Prop:=
 match r with
 | .ok (.ret u)=>CE outer P w H s Q u s'
 | .ok _=>False
 | .error e=>CX outer H s E e s'
structure FnOk(P:Í)(w:Ñ)(K:Sb)(mg:Æ->Option Ä)(base:Ò)(CX:fT)(k:Nat)(f:È)(fd:ą)(ps:List Æ)(sp:Sp):Prop where
 len:∀vs H Q E,sp vs H Q E->vs.length=ps.length
 run:∀(A:Ö) (outer:List Env) (s:Å) (H:Hp) (args:Args) (us:List Ä) (vs:List V) (Q:VK) (E:XK),Room k A->Env0 P w K mg base A outer s H->BindsTo s fd args (ps.zip us)->Vals vs us->sp vs H Q E->
  ĵ (Ë P w) A (.call (.ref f) args) (CR CX outer P w H s Q E) s
def FnOk.imp{P:Í}{w:Ñ}{K:Sb}{mg:Æ->Option Ä}{base:Ò}{CX:fT}{k:Nat}{f:È}{fd:ą}{ps:List Æ}{sp MF:Sp}(F:FnOk P w K mg base CX k f fd ps sp)
  (h:∀vs H Q E,MF vs H Q E->sp vs H Q E):FnOk P w K mg base CX k f fd ps MF:=
 ⟨λvs H Q E q=>F.len vs H Q E (h _ _ _ _ q),λA outer s H args us vs Q E hr he hb hv hs=>F.run A outer s H args us vs Q E hr he hb hv (h _ _ _ _ hs)⟩
section
variable{X:Cx}{ag:List (È×ö)}{σ:St}{H:Hp}{s s':Å}
def Inv.env0(I:Inv X ag σ H s):Env0 X.prog X.w X.K X.mg X.base X.A X.stack s H:=
 ⟨I.ok.frames,I.ok.mod,I.bs,zz I.ok.bsz I.sz,I.stack,I.stkFree,I.hok,I.bare⟩
def Inv.after{Q:VK}{u:Ä}(I:Inv X ag σ H s)(h:CE X.stack X.prog X.w H s Q u s'):EP X ag σ Q u s':=by
 obtain⟨v,H',os,bare,un,hok,r,q⟩:=h;obtain⟨hh,g,d,t,HE⟩:=s';obtain rfl:HE=s.os:=os;exact⟨v,H',I.call (h':=hh) (g':=g) (d':=d) (t':=t) (ch:=[]) un hok bare (λb z=>absurd z (by simp)),r,q⟩
end
def YQ(sp:Sp)(ED:List V)(E:XK)(t:TA):TE:=λσ H Q=>t σ H λvs H1=>sp (vs++ED) H1 Q E
def Binds(K:Sb)(fd:ą)(ps:List Æ)(ds:List Ä):Prop:=
 ∀(s:Å) (us:List Ä),K.In s.heap->(us++ds).length=ps.length->BindsTo s fd ⟨us,[]⟩ (ps.zip (us++ds))
def Binds.all{K:Sb}{fd:ą}{ps:List Æ}(h:∀us:List Ä,us.length=ps.length->bindArgs fd ⟨us,[]⟩=pure (ps.zip us)):Binds K fd ps []:=λs us _ hl=>by
 rw[qN] at hl ⊢;exact .of_eq (h us hl)
def lT(CX:fT)(X:Cx)(E:XK):Prop:=∀(ag:List (È×ö)) (σ:St) (H:Hp) (s:Å) (e:Ä) (s':Å),Inv X ag σ H s->CX X.stack H s E e s'->X.xe e s'
section
variable{X:Cx}{CX:fT}{k:Nat}{f C:È}{fd:ą}{ps:List Æ}{sp:Sp}{ED:List V}{ds:List Ä}{E:XK}{x m:Æ}{p pos apos:ĝ}{e o:Î}{es:List Î}{ta:TE}{t:TA}
def JV{ag:List (È×ö)}{σ:St}{H:Hp}{s:Å}{Q:VK}{us:List Ä}{vs:List V}(F:FnOk X.prog X.w X.K X.mg X.base CX k f fd ps sp)(hr:Room k X.A)(hb:Binds X.K fd ps ds)(hd:Vals ED ds)(hx:lT CX X E)
  (I:Inv X ag σ H s) (r:Vals vs us) (h:sp (vs++ED) H Q E):É (Ë X.prog X.w) X.A (call (.ref f) us) (EP X ag σ Q) X.xe s:=by
 have r2:Vals (vs++ED) (us++ds):=r.append hd;have hl:(us++ds).length=ps.length:=by rw[<-r2.length];exact F.len _ _ _ _ h
 refine wpAny_call (yP (F.run X.A X.stack s H ⟨us,[]⟩ (us++ds) (vs++ED) Q E hr I.env0 (hb s us I.kIn hl) r2 h) λr s' hq=>?_);cases r with
 | error e=>exact hx ag σ H s e s' I hq
 | ok fl=>
  cases fl with
  | ret u=>exact I.after hq
  | next=>exact Đ hq
  | brk=>exact Đ hq
  | cont=>exact Đ hq
def Ul(F:FnOk X.prog X.w X.K X.mg X.base CX k f fd ps sp)(hr:Room k X.A)(hg:Gl X x)(hm:X.mg x=À (.ref f))(hk:ì X.K (.ref f)=Ã)(hb:Binds X.K fd ps ds)(hd:Vals ED ds)(hx:lT CX X E)
  (ha:PA X (e::es) t) (AA:⇑((x==("__debug__":Æ))=Â)) (he:↥(Ê (e::es) X.env=(Â,eval e X.env)::Ê es X.env)) (Ad:↥((ß pos (Ê es X.env)).any (·.1)=Â)) :
  PE X (.Call (.Name x p) (e::es) [] pos) (YQ sp ED E t):=by
 intro ag s σ H Q I h;refine ql (mH I hg hm ?_ AA);refine PySem.W.callWith_K (h₀:=X.base) I.ok.mod.kin hk (kC (ha pos ag s σ H _ I h) ?_) he Ad;rintro us s1 ⟨vs,H1,I1,r,q⟩;refine⟨I1.kIn,?_⟩;exact JV F hr hb hd hx I1 r q
def Yb(F:FnOk X.prog X.w X.K X.mg X.base CX k f fd ps sp)(hr:Room k X.A)(hg:Gl X x)(hm:X.mg x=À (.ref f))(hk:ì X.K (.ref f)=Ã)(hb:Binds X.K fd ps ds)(hd:Vals ED ds)(hx:lT CX X E)
  (AA:⇑((x==("__debug__":Æ))=Â)):PE X (.Call (.Name x p) [] [] pos) (YQ sp ED E B4):=by
 intro ag s σ H Q I h;refine ql (mH I hg hm ?_ AA);exact PySem.W.callWith_K0 I.kIn hk (JV (us:=[]) F hr hb hd hx I .nil h)
end
section
variable{X:Cx}{CX:fT}{k:Nat}{f C:È}{fd:ą}{ps ks:List Æ}{sp:Sp}{E:XK}{x m:Æ}{p pos apos Ol:ĝ}{e o:Î}{es:List Î}{RB:List Ğ}{te ta:TE}{t tk:TA}{nm:Option Æ}
variable{g:List Ä->List Ä->List Ä}{gV:List V->List V->List V}
end
structure FnScope(N P:List Æ)(sc:ê):Prop where
 kind:sc.kind=.function
 co:sc.isCoroutine=Â
 gen:sc.isGenerator=Â
 nd:N.Nodup
 pre:N.take P.length=P
 par:∀x∈P,sc.names.lookup x=À .local\/sc.names.lookup x=À .cell
 nofree:∀y∈sc.names,y.2≠.free
theorem mZ{kindOf:Æ->Option į}{x:Æ}:∀{binds:List (Æ×Ä)} {m:Æ->Option Ä},(∀v,(x,v)∉binds)->bindL kindOf binds m x=m x
 | [],_,_=>rfl
 | (n,v)::r,m,h=>by
  unfold bindL;rw[mZ λw hw=>h w (zm _ hw)];split
  .have:x≠n:=by rintro rfl;exact h v zr
   simp[this]
  .rfl
theorem nL{kindOf:Æ->Option į}{x:Æ}:∀{binds:List (Æ×Ä)} {m:Æ->Option Ä},(∀v,(x,v)∉binds)->bindC kindOf binds m x=m x
 | [],_,_=>rfl
 | (n,v)::r,m,h=>by
  unfold bindC;rw[nL λw hw=>h w (zm _ hw)];split
  .rfl
  .have:x≠n:=by rintro rfl;exact h v zr
   simp[this]
theorem nX{kindOf:Æ->Option į}{x:Æ}{v:Ä}:∀{P:List Æ} {vs:List Ä} {i:Nat} {m:Æ->Option Ä},P.Nodup->P[i]?=À x->vs[i]?=À v->kindOf x=À .local->
  bindL kindOf (P.zip vs) m x=À v
 | [],_,_,_,_,h,_,_=>by simp at h
 | _::_,[],_,_,_,_,h,_=>by simp at h
 | p::P,w::vs,0,m,nd,h1,h2,hk=>by
  simp at h1 h2;subst h1;subst h2;show bindL kindOf ((p,w)::P.zip vs) m p=_
  unfold bindL;rw[mZ λv hv=>(jJ.mp nd).1 (qu hv).1,zW hk];simp
 | p::P,w::vs,i+1,m,nd,h1,h2,hk=>by
  show bindL kindOf ((p,w)::P.zip vs) m x=_
  unfold bindL;exact nX (i:=i) (jJ.mp nd).2 (by simpa using h1) (by simpa using h2) hk
theorem nH{kindOf:Æ->Option į}{x:Æ}{v:Ä}:∀{P:List Æ} {vs:List Ä} {i:Nat} {m:Æ->Option Ä},P.Nodup->P[i]?=À x->vs[i]?=À v->kindOf x≠À .local->
  bindC kindOf (P.zip vs) m x=À v
 | [],_,_,_,_,h,_,_=>by simp at h
 | _::_,[],_,_,_,_,h,_=>by simp at h
 | p::P,w::vs,0,m,nd,h1,h2,hk=>by
  simp at h1 h2;subst h1;subst h2;show bindC kindOf ((p,w)::P.zip vs) m p=_
  unfold bindC;rw[nL λv hv=>(jJ.mp nd).1 (qu hv).1,kh hk];simp
 | p::P,w::vs,i+1,m,nd,h1,h2,hk=>by
  show bindC kindOf ((p,w)::P.zip vs) m x=_
  unfold bindC;exact nH (i:=i) (jJ.mp nd).2 (by simpa using h1) (by simpa using h2) hk
def start(N:List Æ)(vs:List V):St:=vs.map À++Ç (N.length-vs.length) Á
def gn(CX:fT)(P:Í)(w:Ñ)(K:Sb)(mg:Æ->Option Ä)(base:Ò)(N:List Æ)(qual:Æ)(scope:ê)(f:È)(cd:Ä)(A:Ö)(outer:List Env)(s:Å)(H:Hp)(E:XK):Cx where
 prog:=P
 w:=w
 K:=K
 mg:=mg
 base:=base
 A:=A.deeper (Ň qual scope s.heap.objs.size f cd)
 N:=N
 s₀:=s
 H₀:=H
 env:=Ň qual scope s.heap.objs.size f cd
 outer:=outer
 stack:=Ň qual scope s.heap.objs.size f cd::outer
 ex:=[]
 calm:=Ã
 fn:=λ_=>Ã
 pn:=[]
 xe:=λe s'=>É (Ë P w) (A.deeper (Ň qual scope s.heap.objs.size f cd)) (leaving (Ň qual scope s.heap.objs.size f cd) e) (λ_ GR=>CX outer H s E e GR) (λe' GR=>CX outer H s E e' GR) s'
def tP{sc:ê}{n:Nat}{x:Æ}(h:sc.names.lookup x=À .cell):∃c,(cellsFrom n sc.names []).lookup x=À c:=by
 have q:=uR sc.names n [] (.inl h);exact vJ.mp q
def JW{CX:fT}{P:Í}{w:Ñ}{K:Sb}{mg:Æ->Option Ä}{base:Ò}{N ps:List Æ}{qual:Æ}{scope:ê}{f:È}{cd:Ä}{A:Ö}{outer:List Env}{s s1:Å}{H:Hp}{E:XK}{us:List Ä}{vs:List V}
  (S:FnScope N ps scope) (hd:A.handled=Á) (e0:Env0 P w K mg base A outer s H) (hl:vs.length=ps.length) (r:Vals vs us)
  (x:InCallC s s.heap.objs.size (bindL (Ň qual scope s.heap.objs.size f cd).kindOf (ps.zip us) λ_=>Á) (cellsFrom (s.heap.objs.size+1) scope.names []) (bindC (Ň qual scope s.heap.objs.size f cd).kindOf (ps.zip us) λ_=>Á) s1) :
  Inv (gn CX P w K mg base N qual scope f cd A outer s H E) [] (start N vs) H s1:=by
 have Ad:ps.length<=N.length:=by have:=jt â S.pre;rw[v8] at this;omega
 obtain⟨h1,tk,rfl,hk⟩:=x.done;have HF:∀b:È,b∉(gn CX P w K mg base N qual scope f cd A outer s H E).ex:=λb z=>absurd (show b∈([]:List È) from z) (by simp)
 refine⟨⟨e0.mod,S.kind,rfl,rfl,zG _,λy z c h1 h2=>?_,λy hy=>?_,λy c _ h=>?_,λ_=>hd,Around.frames_deeper e0.frames,.inr ⟨rfl,rfl⟩,λb z=>absurd z (HF b),e0.bs,e0.bsz,λb _ _=>HF b,λb z=>absurd z (HF b),e0.funs,e0.frf⟩,
  rfl,e0.bare,Un.kept hk,⟨_,x.toInCall.ns,λi y v h1 h2 h3=>?_⟩,λy c h=>⟨_,x.cell y c h⟩,e0.hok.fresh (zG _),λy c h=>?_,λp hp=>absurd (show p∈([]:List (È×ö)) from hp) (by simp),e0.hok.kept hk,?_⟩
 .exact name_of_addr x.apart (vH h1) (vH h2)
 .have hy:scope.names.lookup y=À .cell\/scope.names.lookup y=À .free:=hy
  rcases hy with hy | hy
  .exact tP hy
  .exact absurd rfl (S.nofree _ (vH hy))
 .exact qU (x.above y c (vH h))
 .have hi:i<vs.length:=by
   unfold start at h2;by_cases hi:i<vs.length
   .exact hi
   .rw[kZ (by simpa using hi)] at h2
    rw[qO] at h2;split at h2<;>cases h2
  have ha:vs[i]?=À v:=by
   unfold start at h2;rw[zY (by simpa using hi),kW] at h2;cases e:vs[i]? with
   | none=>rw[e] at h2;cases h2
   | some a=>rw[e] at h2;cases h2;rfl
  obtain⟨u,hu,rv⟩:=r.get ha;have hp:ps[i]?=À y:=by
   rw[<-S.pre,List.getElem?_take_of_lt ∅];exact h1
  have MJ:ps.Nodup:=by rw[<-S.pre];exact S.nd.sublist (xu _ _)
  refine⟨u,rv,?_⟩;rcases S.par y (qj hp) with k | k
  .exact .inl ⟨k,nX MJ hp hu k⟩
  .obtain⟨c,e⟩:=tP (n:=s.heap.objs.size+1) k
   refine .inr ⟨.inl k,c,e,?_⟩;have q:=x.cell y c e;rw[nH MJ hp hu (by show scope.names.lookup y≠_;rw[k];decide)] at q;exact q
 .exact e0.hok.fresh (qU (x.above y c (vH h)))
 .unfold start
  show _=N.length
  rw[zL,zF,qW];omega
def DW{CX:fT}{P:Í}{w:Ñ}{K:Sb}{mg:Æ->Option Ä}{base:Ò}{k:Nat}{f:È}{name qual:Æ}{params:Arguments}{body:List Č}{scope:ê}{dV kV doc pm mN ct oc:Ä}{an od:Option È}
  {Bz:Array (Option Ä)} {N ps:List Æ} {sp:Sp} (lk:K.lookup f=À ⟨oc,od,.func (ĉ name qual params body scope dV kV doc pm an mN ct),Bz⟩) (A4:Ħ K mN qual=Ã) (S:FnScope N ps scope)
  (len:∀vs H Q E,sp vs H Q E->vs.length=ps.length)
  (Da:∀(A:Ö) (outer:List Env) (s:Å) (H:Hp) (vs:List V) (Q:VK) (E:XK),Room k (A.deeper (Ň qual scope s.heap.objs.size f mN))->sp vs H Q E->
   ∃t,PSs (gn CX P w K mg base N qual scope f mN A outer s H E) body t/\t { nx:=λ_ H'=>Q .non H',rt:=Q } (start N vs) H) :
  FnOk P w K mg base CX (k+1) f (ĉ name qual params body scope dV kV doc pm an mN ct) ps sp:=by
 refine⟨len,λA outer s H args us vs Q E hr e0 hb r Dx=>?_⟩;have hl:=len _ _ _ _ Dx;have KX:K.In s.heap:=e0.mod.kin.keeps λb o e=>(e0.bs b o e).1
 have lim:s.heap.NoLimit:=e0.mod.nolimit.keeps λb o e=>(e0.bs b o e).1
 have HG:∀y∈ps.zip us,scope.names.lookup y.1=À .local\/(scope.names.lookup y.1=À .cell/\((cellsFrom (s.heap.objs.size+1) scope.names []).lookup y.1).isSome=Ã):=λ⟨n,v⟩ hy=>by
  rcases S.par n (qu hy).1 with q | q
  .exact .inl q
  .exact .inr ⟨q,uR _ _ _ (.inl q)⟩
 refine codeAny_call_function hr.depth (KX _ _ lk) rfl S.co S.gen rfl (PySem.W.codeRec_of KX A4) (hb _ _ _ _ ?_);refine wpAny_newFunctionEnv_cells S.kind HG λenv he s1 x=>?_
 subst he;refine⟨lim.keeps x.toInCall.keep,codeAny_func ?_⟩;obtain⟨t,ht,hq⟩:=Da A outer s H vs Q E (hr.deeper _) Dx;have I:Inv (gn CX P w K mg base N qual scope f mN A outer s H E) [] (start N vs) H s1:=JW S hr.hd e0 hl r x;refine j8 (ht [] s1 (start N vs) H _ I hq) (λfl s' hs=>?_) λe s' hs=>hs
 have fin:∀{gy:St} {H':Hp} {v:V} {u:Ä},Inv (gn CX P w K mg base N qual scope f mN A outer s H E) [] gy H' s'->RelV v u->Q v H'->CE outer P w H s Q u s':=
  λ{gy H' v u} J rv q=>⟨v,H',J.os,J.bare,J.base,J.hok,rv,q⟩
 cases fl with
 | ret u=>
  obtain⟨v,gy,H',J,rv,q⟩:=hs;exact fin J rv q
 | next=>
  obtain⟨gy,H',J,q⟩:=hs;exact fin (v:=V.non) (u:=Ó) J rfl q
 | brk=>
  obtain⟨_,_,_,q⟩:=hs;exact Đ q
 | cont=>
  obtain⟨_,_,_,q⟩:=hs;exact Đ q
end L2
namespace L2
open PySem PySem.Spec PyProof.Rows
section
variable{X:Cx}{x:Æ}{p pos:ĝ}{e:Î}{es:List Î}{t:TA}{id T:String}{r:List V->Hp->VK->Prop}
def FF(r:List V->Hp->VK->Prop)(t:TA):TE:=λσ H Q=>t σ H λvs H1=>r vs H1 Q
def rB(hc:va X (.builtin id) r)(hg:Gl X x)(hm:X.mg x=Á)(hv:Õ x=À (.builtin id))(ha:PA X (e::es) t)(hn:⇑(x≠"__name__"))(AA:⇑((x==("__debug__":Æ))=Â))
  (he:↥(Ê (e::es) X.env=(Â,eval e X.env)::Ê es X.env)) (Ad:↥((ß pos (Ê es X.env)).any (·.1)=Â)):PE X (.Call (.Name x p) (e::es) [] pos) (FF r t):=by
 intro ag s σ H Q I h;refine ql (cK I hg hm hv ?_ hn AA);exact xM (kC (ha pos ag s σ H _ I h) λus s1 Om=>(by obtain⟨vs,H1,I1,r1,q1⟩:=Om;exact hc ag s1 σ H1 vs us Q I1 r1 q1)) he Ad
def QH(hc:va X (.type T) r)(hg:Gl X x)(hm:X.mg x=Á)(hv:Õ x=À (.type T))(ha:PA X (e::es) t)(hn:⇑(x≠"__name__"))(AA:⇑((x==("__debug__":Æ))=Â))
  (he:↥(Ê (e::es) X.env=(Â,eval e X.env)::Ê es X.env)) (Ad:↥((ß pos (Ê es X.env)).any (·.1)=Â)):PE X (.Call (.Name x p) (e::es) [] pos) (FF r t):=by
 intro ag s σ H Q I h;refine ql (cK I hg hm hv ?_ hn AA);exact qm (kC (ha pos ag s σ H _ I h) λus s1 Oo=>(by obtain⟨vs,H1,I1,r1,q1⟩:=Oo;exact hc ag s1 σ H1 vs us Q I1 r1 q1)) he Ad
end
end L2
namespace HT
open PySem PyProof.Rows
section
open PySem.SeqAt
open PySem.AutoSeq1 (wpAny_loadPart')
open PySem.MeetsSeq PySem.MeetsSeq2 PySem.MeetsSeq3
end
section
variable{prog:Í}{w:Ñ}{A:Ö}{E:Ä->Å->Prop}{s:Å}
def cat_tup{t b:È}{vs ws:List Ä}{Q:Ä->Å->Prop}(ht:Ŏ s.heap t vs.toArray)(hb:Ŏ s.heap b ws.toArray)(hv:vs≠[])
  (h1:ws=[]->Q (.ref t) s) (h2:ws≠[]->Q (.ref s.heap.objs.size) { s with heap:=s.heap.push { cls:=.type "tuple",data:=.seq (vs++ws).toArray } })
  (hsz:vs.length+ws.length<=sizeLine):É (Ë prog w) A (ë .Add (.ref t) (.ref b)) Q E s:=by
 obtain⟨⟨cls,dd,data,sl⟩,ho,hc,n,hd⟩:=id ht;obtain⟨⟨HH,AZ,data2,AR⟩,A6,FK,n2,hd2⟩:=id hb;simp only at hc hd FK hd2;subst hc hd FK hd2;have e:vs.toArray++ws.toArray=(vs++ws).toArray:=by simp
 by_cases hw:ws=[]
 .exact uz ⟨_,ho,rfl⟩ ⟨_,A6,rfl⟩ uE Ů yr wZ (wV _ _)
   (tuple_addW1 t b vs.toArray ws.toArray n n2 dd AZ sl AR (by simpa using hv) (by simp[hw])) ⟨ho,A6,h1 hw⟩
 .refine uz ⟨_,ho,rfl⟩ ⟨_,A6,rfl⟩ uE Ů yr wZ (wV _ _)
   (tuple_addW2 t b vs.toArray ws.toArray n n2 dd AZ sl AR (by simpa using hv) (by simpa using hw) (by rw[zQ,zQ];exact hsz)) ⟨ho,A6,?_⟩
  rw[e];exact h2 hw
def sIx(n d:Nat):Option Int->Nat
 | none=>d
 | some v=>if v<0 then (v+(n:Int)).toNat else min v.toNat n
def Dd(n d:Nat)(hd:d<=n)(o:Option Int):sIx n d o<=n:=by
 cases o with
 | none=>exact hd
 | some v=>
  show(if v<0 then (v+(n:Int)).toNat else min v.toNat n)<=n
  by_cases hv:v<0
  .rw[zW hv];omega
  .rw[kh hv];exact Nat.min_le_right _ _
def Kf(v:Int)(n d:Nat):(if v<0 then max (v+(n:Int)) 0 else min v (n:Int))=((sIx n d (À v):Nat):Int):=by
 show(if v<0 then max (v+(n:Int)) 0 else min v (n:Int))=(((if v<0 then (v+(n:Int)).toNat else min v.toNat n):Nat):Int)
 by_cases hv:v<0
 .erw[zW hv];omega
 .erw[kh hv];omega
def Jo(lo hi:Option Int)(n:Nat):ě lo hi 1 (n:Int)=(((sIx n 0 lo:Nat):Int),((sIx n n hi:Nat):Int)):=by
 have h1:¬((1:Int)<0):=by omega
 unfold ě;erw[h1,jn];refine Prod.ext ?_ ?_
 .cases lo with
  | none=>rfl
  | some v=>exact Kf v n 0
 .cases hi with
  | none=>rfl
  | some v=>exact Kf v n n
def Jk(i j:Nat):ć (i:Int) (j:Int) 1=j-i:=by
 unfold ć;have h1:(1:Int)>0:=by omega
 erw[h1,kY,Int.ediv_one];split<;>omega
def l9{v:Ä}{o:Option Int}{Q:Option Int->Å->Prop}(p:Ĺ v o)(h:Q o s):É (Ë prog w) A (Builtin.Slice.slicePartIndex v) Q E s:=by
 cases p with
 | none=>exact slicePart_none h
 | int i t=>exact slicePart_int h
def dQ{sl:È}{vl vu:Ä}{lo hi:Option Int}{n:Nat}{Q:Int×Int×Nat->Å->Prop}(hs:s.heap.IsSliceOf sl vl vu .none)(pl:Ĺ vl lo)(pu:Ĺ vu hi)
  (h:Q (((sIx n 0 lo:Nat):Int),1,sIx n n hi-sIx n 0 lo) s):É (Ë prog w) A (ĺ (.ref sl) (pure (n:Int))) Q E s:=by
 obtain⟨os,GS,Au,HI⟩:=id hs;unfold ĺ Builtin.Slice.sliceFields;refine zc (zc (jY GS HI (x:=vl) rfl (zc (jY GS HI (x:=vu) rfl (zc (jY GS HI (x:=.none) rfl (zg ?_)))))));refine zc (slicePart_none ?_);show É _ _ (if ((1:Int)==0)=Ã then _ else _) _ _ s
 rw[kh (by decide)];refine zc (l9 pl (zc (l9 pu (zc (zg ?_)))));show É _ _ (match ě lo hi 1 (n:Int) with | (lo,hi)=>pure (lo,(1:Int),ć lo hi 1)) _ _ s
 rw[Jo lo hi n];show É _ _ (pure (((sIx n 0 lo:Nat):Int),(1:Int),ć ((sIx n 0 lo:Nat):Int) ((sIx n n hi:Nat):Int) 1)) _ _ s
 rw[Jk];exact zg h
def Wf(xs:Array Ä)(i k:Nat):((Ô k).filterMap λ(m:Nat)=>xs[((i:Int)+(m:Int)*1).toNat]?).toArray=((xs.toList.drop i).take k).toArray:=by
 have e:(λ(m:Nat)=>xs[((i:Int)+(m:Int)*1).toNat]?)=λm=>xs[i+m]?:=by
  funext m
  have:((i:Int)+(m:Int)*1).toNat=i+m:=by omega
  rw[this]
 rw[e];have:=pick_run xs i k;rw[yW] at this;have e2:((λx=>xs[x]?)∘λx=>i+x)=λm=>xs[i+m]?:=rfl
 rw[e2] at this;rw[this]
def getItem_tuple_cut{t sl:È}{items:Array Ä}{vl vu:Ä}{lo hi:Option Int}{Q:Ä->Å->Prop}(ht:Ŏ s.heap t items)(hs:s.heap.IsSliceOf sl vl vu .none)(pl:Ĺ vl lo)(pu:Ĺ vu hi)
  (hw:¬(sIx items.size 0 lo=0/\sIx items.size items.size hi=items.size))
  (h:Q (.ref s.heap.objs.size) { s with heap:=s.heap.push { cls:=.type "tuple",data:=.seq ((items.toList.drop (sIx items.size 0 lo)).take (sIx items.size items.size hi-sIx items.size 0 lo)).toArray } })
  (hsz:items.size<=sizeLine):É (Ë prog w) A (œ (.ref t) (.ref sl)) Q E s:=by
 have AS:sizeOk (.seq ((items.toList.drop (sIx items.size 0 lo)).take (sIx items.size items.size hi-sIx items.size 0 lo)).toArray):=by
  show((items.toList.drop (sIx items.size 0 lo)).take (sIx items.size items.size hi-sIx items.size 0 lo)).toArray.size<=sizeLine
  rw[zQ,v8,qC,kj];omega
 have hj:sIx items.size items.size hi<=items.size:=Dd _ _ (zG _) hi;obtain⟨os,GS,Au,HI⟩:=id hs;have Li:s.TypeIs (.ref sl) "slice":=⟨os,GS,Au⟩;unfold œ;try with_reducible refine je ?_
 first | refine zc (zg ?_) | skip
 refine zc (wpAny_sequenceKey ht.typeIs (by decide) ?_)
 refine zc (jx (name:=ú "__getitem__") ht.typeIs jE
  (jo jE ht.typeIs ŭ ?_ (Ŵ _ _)))
 show É _ _ (Ļ (.ref t) >>= _) _ _ s
 refine zc (xK ht ?_);refine zc (qy Li ?_);rw[zW (by decide)];refine zc (dQ hs pl pu ?_);have Lj:¬((((sIx items.size 0 lo:Nat):Int)==0&&(1:Int)==1&&(sIx items.size items.size hi-sIx items.size 0 lo)==items.size)=Ã):=by
  intro q;rw[zy,zy] at q;have q1:((sIx items.size 0 lo:Nat):Int)=0:=eq_of_beq q.1.1;have q2:sIx items.size items.size hi-sIx items.size 0 lo=items.size:=eq_of_beq q.2;exact hw ⟨by omega,by omega⟩
 show É _ _ (if (((sIx items.size 0 lo:Nat):Int)==0&&(1:Int)==1&&(sIx items.size items.size hi-sIx items.size 0 lo)==items.size)=Ã then _ else _) _ _ s
 rw[kh Lj,Wf];first
  | exact zc (m:=í _) (jc (zg ⟨_,rfl,zg h⟩) AS)
  | exact zc (m:=í _) (jc (zc (zg (zg ⟨_,rfl,zg h⟩))) AS)
  | exact zc (zc (m:=í _) (jc (zg (zg ⟨_,rfl,zg h⟩)) AS))
  | exact zc (zc (m:=í _) (jc (zg ⟨_,rfl,zg h⟩) AS))
end
end HT
namespace L2
open PySem PySem.Spec PyProof.Rows
abbrev TO:=St->Hp->(Option Int->Hp->Prop)->Prop
def PO(X:Cx)(e:Option Î)(t:TO):Prop:=
 ∀(ag:List (È×ö)) (s:Å) (σ:St) (H:Hp) (Q:Option Int->Hp->Prop),Inv X ag σ H s->t σ H Q->
  É (Ë X.prog X.w) X.A (evalPart e X.env) (λu s'=>∃o H',Inv X ag σ H' s'/\Ĺ u o/\Q o H') X.xe s
def XX:TO:=λ_ H Q=>Q Á H
def Ff(t:TE):TO:=λσ H Q=>t σ H λx H1=>∃i,x=.int i/\Q (À i) H1
section
variable{X:Cx}{e:Î}{te:TE}{lo hi:Option Î}{tl th:TO}{pos p2:ĝ}
def Ui:PO X Á XX:=by
 intro ag s σ H Q I h;rw[evalPart_none];exact zg ⟨Á,H,I,.none,h⟩
def US(h:PE X e te):PO X (À e) (Ff te):=by
 intro ag s σ H Q I hw;rw[evalPart_some];refine kC (h ag s σ H _ I hw) ?_;rintro u s1 ⟨x,H1,I1,r1,q1⟩;obtain⟨i,rfl,q⟩:=q1;obtain⟨t,rfl⟩:=r1;exact⟨À i,H1,I1,.int i t,q⟩
def YZ(X:Cx)(r:V->Option Int->Option Int->Hp->VK->Prop):Prop:=
 ∀(ag:List (È×ö)) (s:Å) (σ:St) (H:Hp) (x:V) (v vl vu:Ä) (lo hi:Option Int) (sl:È) (Q:VK),Inv X ag σ H s->RelV x v->s.heap.IsSliceOf sl vl vu .none->Ĺ vl lo->Ĺ vu hi->r x lo hi H Q->
  ∃T id,ļ (.type T) "__getitem__" = pure (À (.builtin id))/\s.TypeIs v T/\É (Ë X.prog X.w) X.A (œ v (.ref sl)) (EP X ag σ Q) X.xe s
def Gz(r:V->Option Int->Option Int->Hp->VK->Prop)(te:TE)(tl th:TO):TE:=λσ H Q=>te σ H λx H1=>tl σ H1 λl H2=>th σ H2 λu H3=>r x l u H3 Q
def V5{r:V->Option Int->Option Int->Hp->VK->Prop}(hr:YZ X r)(he:PE X e te)(hl:PO X lo tl)(hu:PO X hi th):PE X (.Subscript e (.Slice lo hi Á p2) pos) (Gz r te tl th):=by
 intro ag s σ H Q I h;refine Subscript_ (kC (he ag s σ H _ I h) ?_);rintro v s1 ⟨x,H1,I1,r1,q1⟩;refine wpAny_Slice (kC (hl ag s1 σ H1 _ I1 q1) ?_);rintro vl s2 ⟨l,H2,I2,pl,q2⟩;refine kC (hu ag s2 σ H2 _ I2 q2) ?_;rintro vu s3 ⟨u,H3,I3,pu,q3⟩;rw[evalPart_none];refine zg ?_;have I4:Inv X ag σ H3 { s3 with heap:=s3.heap.push { cls:=.type "slice",data:=.fields #[vl,vu,.none] } }:=I3.kept (t':=s3.toks) λb ob q=>zf _ q
 obtain⟨T,id,hT,ht,hg⟩:=hr ag { s3 with heap:=s3.heap.push { cls:=.type "slice",data:=.fields #[vl,vu,.none] } } σ H3 x v vl vu l u s3.heap.objs.size Q I4 r1 (Heap.IsSliceOf.new ..) pl pu q3;show É (Ë X.prog X.w) X.A (subscriptTail e (.Slice lo hi Á p2) v (.ref s3.heap.objs.size)) (EP X ag σ Q) X.xe { s3 with heap:=s3.heap.push { cls:=.type "slice",data:=.fields #[vl,vu,.none] } }
 exact tail_any (ops:=[.ref s3.heap.objs.size,v]) ht hT hg (by with_unfolding_all rfl)
def dW(xs:List V)(lo hi:Option Int):List V:=(xs.drop (HT.sIx xs.length 0 lo)).take (HT.sIx xs.length xs.length hi-HT.sIx xs.length 0 lo)
def iB(xs:List V)(lo hi:Option Int):(dW xs lo hi).length<=xs.length:=by
 unfold dW;rw[v8,qC];omega
def FR(K:Sb):V->Option Int->Option Int->Hp->VK->Prop:=λx lo hi H Q=>∃a xs,x=.ref a/\SqT K H a xs /\
 ¬(HT.sIx xs.length 0 lo=0/\HT.sIx xs.length xs.length hi=xs.length)/\∀p,H p=Á->Q (.ref p) (upd H p (.tup (dW xs lo hi)))
def Di:YZ X (FR X.K):=by
 intro ag s σ H x v vl vu lo hi sl Q I rx hs pl pu h;obtain⟨a,xs,rfl,hx,hw,q⟩:=h;cases rx;obtain⟨its,r,ht,hz⟩:=I.tuple hx;have d6:its.toArray.size=xs.length:=by rw[zQ];exact r.length.symm
 refine⟨"tuple",_,jE.lookup,ht.typeIs,?_⟩;refine HT.getItem_tuple_cut ht hs pl pu (by rw[d6];exact hw) ?_ (by rw[d6];exact hz);rw[d6];refine⟨.ref s.heap.objs.size,_,I.laid (t':=s.toks) (o:=.tup (dW xs lo hi)) (λb ob q=>zf _ q) (zG _) ?_,rfl,q _ (I.hok.fresh (zG _))⟩;exact⟨zz (iB xs lo hi) hz,_,(r.drop (HT.sIx xs.length 0 lo)).take (HT.sIx xs.length xs.length hi-HT.sIx xs.length 0 lo),IsTup.new _ _,.new _ _⟩
def Fq(K:Sb):R2:=λx y H Q=>∃a b xs ys,x=.ref a/\y=.ref b/\SqT K H a xs/\SqT K H b ys/\xs≠[]/\xs.length+ys.length<=sizeLine /\
 (ys=[]->Q (.ref a) H)/\(ys≠[]->∀p,H p=Á->Q (.ref p) (upd H p (.tup (xs++ys))))
def Vals.nil_iff{xs:List V}{us:List Ä}(r:Vals xs us):us=[]↔xs=[]:=by
 cases r with
 | nil=>simp
 | cons _ _=>simp
def XF:qv X (ë .Add) (Fq X.K):=by
 intro ag s σ H x y v u Q I rx ry h;obtain⟨a,b,xs,ys,rfl,rfl,ha,hb,hx,hz,q1,q2⟩:=h;cases rx;cases ry;obtain⟨its,r1,p1,_⟩:=I.tuple ha;obtain⟨Al,r2,p2,_⟩:=I.tuple hb;refine HT.cat_tup p1 p2 (λz=>hx (r1.nil_iff.mp z)) (λz=>⟨.ref a,H,I,rfl,q1 (r2.nil_iff.mp z)⟩) (λz=>?_) (by rw[<-r1.length,<-r2.length];exact hz);refine⟨.ref s.heap.objs.size,_,I.laid (t':=s.toks) (o:=.tup (xs++ys)) (λb ob q=>zf _ q) (zG _) ?_,rfl,q2 (λw=>z (r2.nil_iff.mpr w)) _ (I.hok.fresh (zG _))⟩;exact⟨by rw[zL];exact hz,_,r1.append r2,IsTup.new _ _,.new _ _⟩
end
end L2
namespace L2
open PySem PySem.Spec PyProof.Rows
def yB(n:Nat)(i:Int):Option Nat:=if 0<=i then (if i<n then À i.toNat else Á) else if -(n:Int)<=i then À (i+n).toNat else Á
def atI{α:Type}(xs:List α)(i:Int):Option α:=(yB xs.length i).bind λj=>xs[j]?
def Z5{n:Nat}{i:Int}{j:Nat}(h:yB n i=À j):seqIndex? i n=À j/\j<n/\-(n:Int)<=i/\i<n:=by
 unfold yB at h;by_cases h0:0<=i
 .rw[zW h0] at h
  by_cases h1:i<n
  .rw[zW h1] at h
   have e:i.toNat=j:=zX h;exact⟨by rw[seqIndex_of h0 h1,e],by omega,by omega,h1⟩
  .rw[kh h1] at h;cases h
 .rw[kh h0] at h
  by_cases h1:-(n:Int)<=i
  .rw[zW h1] at h
   have e:(i+n).toNat=j:=zX h;exact⟨by rw[seqIndex_neg ∅ h1,e],by omega,h1,by omega⟩
  .rw[kh h1] at h;cases h
def mV{α:Type}{xs:List α}{i:Int}{v:α}(h:atI xs i=À v):∃j,seqIndex? i xs.length=À j/\xs[j]?=À v/\j<xs.length/\-(xs.length:Int)<=i/\i<xs.length:=by
 unfold atI at h;cases e:yB xs.length i with
 | none=>rw[e] at h;cases h
 | some j=>
  rw[e] at h;obtain⟨h1,h2,h3,h4⟩:=Z5 e;exact⟨j,h1,h,h2,h3,h4⟩
def fg(b:Î):Prop:=∀o i,subscripted b Â o i=operate [o,i] (œ o i)
def Ka(X:Cx)(r:R2):Prop:=
 ∀(value slice:Î) (ag:List (È×ö)) (s:Å) (σ:St) (H:Hp) (x y:V) (v u:Ä) (Q:VK),Inv X ag σ H s->RelV x v->RelV y u->r x y H Q->
  subscripted slice Â v u=operate [v,u] (œ v u)->É (Ë X.prog X.w) X.A (subscriptTail value slice v u) (EP X ag σ Q) X.xe s
def FA(X:Cx)(id:String)(r:V->List V->Hp->VK->Prop):Prop:=
 ∀(ag:List (È×ö)) (s:Å) (σ:St) (H:Hp) (x:V) (xs:List V) (v:Ä) (us:List Ä) (Q:VK),Inv X ag σ H s->RelV x v->Vals xs us->r x xs H Q->
  É (Ë X.prog X.w) X.A (call (.builtin id) (v::us)) (EP X ag σ Q) X.xe s
section
variable{X:Cx}{a b:Î}{ta tb:TE}{pos:ĝ}
def YK{r:R2}(hr:Ka X r)(ha:PE X a ta)(hb:PE X b tb)(hs:fg b):PE X (.Subscript a b pos) (Qr r ta tb):=by
 intro ag s σ H Q I h;exact Subscript_ (WB ha hb I h λv u s2 x y H2 I2 rx ry q=>hr a b ag s2 σ H2 x y v u Q I2 rx ry q (hs _ _))
def F7(K:Sb):R2:=λx y H Q=>∃p xs i v,x=.ref p/\y=.int i/\SqL K H p xs/\atI xs i=À v/\Q v H
def Gc(K:Sb):R2:=λx y H Q=>∃p xs i v,x=.ref p/\y=.int i/\SqT K H p xs/\atI xs i=À v/\Q v H
def Gp:R2:=λx y H Q=>∃z i c,x=.str z/\y=.int i/\z.length<=sizeLine/\atI z.cps.toList i=À c/\Q (.str ⟨#[c]⟩) H
def UB:Ka X (F7 X.K):=by
 intro value slice ag s σ H x y v u Q I rx ry h hs;obtain⟨p,xs,i,z,rfl,rfl,hq,he,q⟩:=h;cases rx;obtain⟨t,rfl⟩:=ry;obtain⟨its,r,pl,hz⟩:=I.list hq;obtain⟨j,h1,h2,h3,h4,h5⟩:=mV he;obtain⟨w,ew,HJ⟩:=r.get h2;have hl:=r.length;have hn:=fc;have fin:EP X ag σ Q w s:=⟨z,H,I,HJ,q⟩;by_cases h0:0<=i
 .have hj:i.toNat=j:=by
   rw[seqIndex_of h0 h5] at h1;exact zX h1
  exact item_listR pl.isList h0 ∅ (by rw[hj];simpa using ew) fin hs
 .have hj:(i+(its.toArray.size:Int)).toNat=j:=by
   rw[seqIndex_neg ∅ h4] at h1;rw[zQ,<-hl];exact zX h1
  exact Ŕ (x:=w) pl.isList.typeIs slot_list_getitem.lookup
   (wpAny_getItem_list_neg (Q:=λr s'=>r=w/\EP X ag σ Q r s') pl.isList ∅ (by rw[zQ]<;>omega) ∅ (by rw[hj];simpa using ew) ⟨rfl,fin⟩) hs
def rE:Ka X (Gc X.K):=by
 intro value slice ag s σ H x y v u Q I rx ry h hs;obtain⟨p,xs,i,z,rfl,rfl,hq,he,q⟩:=h;cases rx;obtain⟨t,rfl⟩:=ry;obtain⟨its,r,pl,hz⟩:=I.tuple hq;obtain⟨j,h1,h2,h3,h4,h5⟩:=mV he;obtain⟨w,ew,HJ⟩:=r.get h2;have hl:=r.length;have hn:=fc;have fin:EP X ag σ Q w s:=⟨z,H,I,HJ,q⟩;exact Ŕ (x:=w) pl.typeIs slot_tuple_getitem.lookup
  (getItem_tuple (j:=j) (Q:=λr s'=>r=w/\EP X ag σ Q r s') pl ∅ ∅ (by rw[zQ,<-hl];exact h1) (by simpa using ew) ⟨rfl,fin⟩) hs
def BM:Ka X Gp:=by
 intro value slice ag s σ H x y v u Q I rx ry h hs;obtain⟨z,i,c,rfl,rfl,hz,he,q⟩:=h;obtain⟨t,rfl⟩:=rx;obtain⟨t',rfl⟩:=ry;obtain⟨j,h1,h2,h3,h4,h5⟩:=mV he;have hl:z.cps.toList.length=z.length:=by simp[Str.length]
 rw[hl] at h1 h4 h5;have hn:=fc
 exact tail_any (typeIs_str s z t) slot_str_getitem.lookup (getItem_str (c:=c) (by
  have e1:decide (i < -(2 ^ 63:Int))=Â:=jj ∅;have e2:decide (i>=2 ^ 63)=Â:=jj ∅
  rw[e1,e2,xf]) (by rw[h1];simpa using h2) ⟨.str ⟨#[c]⟩,H,I.tok _,⟨_,rfl⟩,q⟩) hs
def Jq(its:List Ä)(n j:Nat)(u:Ä):Û (·.setIfInBounds j u) { cls:=.type "list",data:=.seq its.toArray n }={ cls:=.type "list",data:=.seq (its.set j u).toArray n }:=by
 simp[Û]
theorem Inv.lst{ag:List (È×ö)}{σ:St}{H:Hp}{s:Å}{p:È}{xs:List V}(I:Inv X ag σ H s)(h:H p=À (.lst xs)) :
  ∃(its:List Ä) (n:Nat),Vals xs its/\s.heap.get? p=À { cls:=.type "list",data:=.seq its.toArray n }/\xs.length<=sizeLine:=by
 obtain⟨z,its,n,r,e⟩:=I.hok p _ h;exact⟨its,n,r,e,z⟩
def Inv.lstUpd{ag:List (È×ö)}{σ:St}{H:Hp}{s:Å}{p:È}{xs ys:List V}{its its':List Ä}{n n':Nat}{f:ö->ö}(I:Inv X ag σ H s)(h:H p=À (.lst xs))
  (ho:s.heap.get? p=À { cls:=.type "list",data:=.seq its.toArray n }) (hf:f { cls:=.type "list",data:=.seq its.toArray n }={ cls:=.type "list",data:=.seq its'.toArray n' }) (r:Vals ys its') (hz:ys.length<=sizeLine) (t:Nat) :
  Inv X ag σ (upd H p (.lst ys)) { s with heap:=s.heap.update p f,toks:=t }:=by
 have e:(s.heap.update p f).get? p=À { cls:=.type "list",data:=.seq its'.toArray n' }:=by
  rw[jy f ho (by rw[hf]<;>rfl),hf]
 refine I.write (x:=p) (e:=p) (by rw[h];trivial) (.inl rfl) (λb u hb q=>(j7 _ _ (jq hb)).trans q) ⟨_,e⟩ ?_;exact⟨hz,its',n',r,e⟩
def Fp:V->V->V->Hp->(Hp->Prop)->Prop:=λo i v H Q=>∃p xs k j,o=.ref p/\i=.int k/\H p=À (.lst xs)/\yB xs.length k=À j/\Q (upd H p (.lst (xs.set j v)))
def set_list:Jv X Fp:=by
 intro ag s σ H o i v ov iv u Q I ro ri rv h;obtain⟨p,xs,k,j,rfl,rfl,hp,hj,q⟩:=h;cases ro;obtain⟨t,rfl⟩:=ri;obtain⟨its,n,r,ho,hz⟩:=I.lst hp;obtain⟨h1,h2,h3,h4⟩:=Z5 hj;have hl:=r.length;have hn:=fc;have I':Inv X ag σ (upd H p (.lst (xs.set j v))) { s with heap:=s.heap.update p (Û (·.setIfInBounds j u)) }:=
  I.lstUpd hp ho (Jq its n j u) (r.set rv j) (by rw[List.length_set];exact hz) s.toks
 by_cases h0:0<=k
 .have hk:k.toNat=j:=by
   rw[seqIndex_of h0 h4] at h1;exact zX h1
  exact PySem.W.ki_setAt ho h0 ∅ (by rw[zQ,<-hl];exact h4) (by rw[hk];exact⟨_,I',q⟩)
 .have hk:(k+(its.toArray.size:Int)).toNat=j:=by
   rw[seqIndex_neg ∅ h3] at h1;rw[zQ,<-hl];exact zX h1
  exact PySem.W.ki_setBack ho ∅ (by rw[zQ,<-hl];exact h3) ∅ (by rw[hk];exact⟨_,I',q⟩)
def pk(lo hi:Option Int)(n:Nat):(ģ lo hi Á n).1=((HT.sIx n 0 lo:Nat):Int)/\(ģ lo hi Á n).2.1=((HT.sIx n n hi:Nat):Int)/\(ģ lo hi Á n).2.2=1:=by
 refine⟨?_,?_,rfl⟩
 .cases lo with
  | none=>simp[ģ,HT.sIx]
  | some i=>
   erw[ģ,HT.sIx,Option.getD_none,show(1:Int)>0 by decide,kY];by_cases h:i<0
   .erw[h,kY]<;>omega
   .erw[h,jn]<;>omega
 .cases hi with
  | none=>simp[ģ,HT.sIx]
  | some i=>
   erw[ģ,HT.sIx,Option.getD_none,show(1:Int)>0 by decide,kY];by_cases h:i<0
   .erw[h,kY]<;>omega
   .erw[h,jn]<;>omega
theorem oI(its:List Ä)(lo hi:Option Int):slicePick its.toArray lo hi Á=((its.drop (HT.sIx its.length 0 lo)).take (HT.sIx its.length its.length hi-HT.sIx its.length 0 lo)).toArray:=by
 obtain⟨h1,h2,h3⟩:=pk lo hi its.toArray.size;unfold slicePick;rw[h1,h2,h3];erw[sliceRange_one,pick_run,zQ]<;>rfl
def Gf(K:Sb):V->Option Int->Option Int->Hp->VK->Prop:=λx lo hi H Q=>∃a xs,x=.ref a/\SqL K H a xs/\∀p,H p=Á->Q (.ref p) (upd H p (.lst (dW xs lo hi)))
def Xe:YZ X (Gf X.K):=by
 intro ag s σ H x v vl vu lo hi sl Q I rx hs pl pu h;obtain⟨a,xs,rfl,hx,q⟩:=h;cases rx;obtain⟨its,r,ht,hz⟩:=I.list hx;have d6:=r.length;refine⟨"list",_,slot_list_getitem.lookup,ht.isList.typeIs,?_⟩;refine wpAny_getItem_list_slice ht.isList hs pl pu .none (by simp) ?_ (by rw[zQ]<;>omega);rw[oI,<-d6];refine⟨.ref s.heap.objs.size,_,I.laid (t':=s.toks) (o:=.lst (dW xs lo hi)) (λb ob q=>zf _ q) (zG _) ?_,rfl,q _ (I.hok.fresh (zG _))⟩;exact⟨zz (iB xs lo hi) hz,_,0,(r.drop (HT.sIx xs.length 0 lo)).take (HT.sIx xs.length xs.length hi-HT.sIx xs.length 0 lo),zK _ rfl⟩
def gx:va X (.builtin "len") (λxs H Q=>∃p ys,xs=[.ref p]/\(SqL X.K H p ys\/SqT X.K H p ys)/\Q (.int ys.length) H):=by
 intro ag s σ H xs us Q I r h;obtain⟨p,ys,rfl,hq,q⟩:=h;obtain⟨u,rfl,rx⟩:=vals1 r;cases rx;have hn:=fc;rcases hq with hq | hq
 .obtain⟨its,r',pl,hz⟩:=I.list hq
  have d6:=r'.length;exact Calls.call_len_list pl.isList (by erw[zQ]<;>omega) ⟨.int ys.length,H,I.tok _,⟨s.toks+1,by rw[zQ,d6]⟩,q⟩
 .obtain⟨its,r',pl,hz⟩:=I.tuple hq
  have d6:=r'.length;exact len_tuple pl (by erw[zQ]<;>omega) ⟨.int ys.length,H,I.tok _,⟨s.toks+1,by rw[zQ,d6]⟩,q⟩
def tu:va X (.builtin "len") (λxs H Q=>∃z,xs=[.str z]/\z.length<=sizeLine/\Q (.int z.length) H):=by
 intro ag s σ H xs us Q I r h;obtain⟨z,rfl,hz,q⟩:=h;obtain⟨u,rfl,t,rfl⟩:=vals1 r;have hn:=fc;exact len_str ∅ ⟨.int z.length,H,I.tok _,⟨_,rfl⟩,q⟩
def sL:va X (.type "list") (λxs H Q=>∃p ys,xs=[.ref p]/\(SqL X.K H p ys\/SqT X.K H p ys)/\∀l,H l=Á->Q (.ref l) (upd H l (.lst ys))):=by
 intro ag s σ H xs us Q I r h;obtain⟨p,ys,rfl,hq,q⟩:=h;obtain⟨u,rfl,rx⟩:=vals1 r;cases rx;have fin:∀(its:List Ä),Vals ys its->ys.length<=sizeLine->∀(h':Ò) (c':Nat),(∀b o',s.heap.get? b=À o'->h'.get? b=À o')->
   h'.get? s.heap.objs.size=À { cls:=.type "list",dict:=Á,data:=.seq its.toArray c',slots:=#[] }->EP X ag σ Q (.ref s.heap.objs.size) { s with heap:=h' }:=λits r' hz h' c' kp e=>
  ⟨.ref s.heap.objs.size,_,I.laid (t':=s.toks) kp (zG _) (show ObjOk X.prog X.w _ h' _ (.lst ys) from ⟨hz,its,c',r',e⟩),rfl,q _ (I.hok.fresh (zG _))⟩
 rcases hq with hq | hq
 .obtain⟨its,r',pl,hz⟩:=I.list hq
  have d6:=r'.length;obtain⟨o,ho,hc,n,hd⟩:=pl.isList;exact call_list_seq p (.inl rfl) ho hc hd (λh' c' kp e=>fin its r' hz h' c' kp e) (by erw[zQ]<;>omega)
 .obtain⟨its,r',pl,hz⟩:=I.tuple hq
  have d6:=r'.length;obtain⟨o,ho,hc,n,hd⟩:=pl;exact call_list_seq p (.inr rfl) ho hc hd (λh' c' kp e=>fin its r' hz h' c' kp e) (by erw[zQ]<;>omega)
def fR:va X (.type "tuple") (λxs H Q=>∃p ys,xs=[.ref p]/\((SqL X.K H p ys/\∀l,H l=Á->Q (.ref l) (upd H l (.tup ys)))\/(SqT X.K H p ys/\Q (.ref p) H))):=by
 intro ag s σ H xs us Q I r h;obtain⟨p,ys,rfl,h⟩:=h;obtain⟨u,rfl,rx⟩:=vals1 r;cases rx;rcases h with ⟨hq,q⟩ | ⟨hq,q⟩
 .obtain⟨its,r',pl,hz⟩:=I.list hq
  have d6:=r'.length;refine call_tuple_list pl.isList (λh' kp=>?_) (by erw[zQ]<;>omega);have I1:Inv X ag σ H { s with heap:=h' }:=I.kept (t':=s.toks) kp;have I2:Inv X ag σ (upd H h'.objs.size (.tup ys)) { s with heap:=h'.push { cls:=.type "tuple",data:=.seq its.toArray } }:=
   I1.laid (t':=s.toks) (λb o e=>zf _ e) (zG _) (show ObjOk X.prog X.w _ _ _ (.tup ys) from ⟨hz,its,r',IsTup.new _ _,.new _ _⟩)
  exact⟨.ref h'.objs.size,_,I2,rfl,q _ (I1.hok.fresh (zG _))⟩
 .obtain⟨its,r',pl,hz⟩:=I.tuple hq
  exact call_tuple_same pl ⟨.ref p,H,I,rfl,q⟩
def Dm(K:Sb)(T:String)(x:V)(H:Hp):Prop:=match x with
 | .str _=>T="str"
 | .int _=>T="int"
 | .ref p=>(T="list" /\ ∃xs,SqL K H p xs)\/(T="tuple" /\ ∃o,K.lookup p=À o/\o.cls=.type "tuple" /\ o.dict=Á) \/
   (T="dict" /\ ((∃cb,H p=À (.dK cb))\/∃cb,H p=À (.dT cb)))\/(T="set" /\ ∃S n,H p=À (.set S n))
 | _=>False
def J4{ag:List (È×ö)}{σ:St}{H:Hp}{s:Å}{T:String}{x:V}{v:Ä}(I:Inv X ag σ H s)(r:RelV x v)(ty:Dm X.K T x H) :
  s.TypeIs v T/\∀a,v=.ref a->∃ob,s.heap.get? a=À ob/\ob.dict=Á:=by
 cases x with
 | str z=>
  obtain⟨t,rfl⟩:=r;cases (show T="str" from ty);exact⟨typeIs_str s z t,λ_ e=>nomatch e⟩
 | int i=>
  obtain⟨t,rfl⟩:=r;cases (show T="int" from ty);exact⟨uq s i t,λ_ e=>nomatch e⟩
 | ref p=>
  cases r;rcases ty with ⟨rfl,xs,hq⟩ | ⟨rfl,o,hk,hc,hd⟩ | ⟨rfl,hk⟩ | ⟨rfl,S,n,hk⟩
  .obtain⟨its,_,pl,_⟩:=I.list hq
   refine⟨pl.isList.typeIs,λa e=>?_⟩;cases e;obtain⟨o,n,e,c,hd,_⟩:=pl;exact⟨o,e,hd⟩
  .refine⟨⟨o,I.kIn p o hk,hc⟩,λa e=>?_⟩
   cases e;exact⟨o,I.kIn _ o hk,hd⟩
  .have z:∃o,s.heap.get? p=À o/\o.ExactDict:=by
    rcases hk with ⟨cb,hk⟩ | ⟨cb,hk⟩
    .obtain⟨_,_,_,_,o,_,_,e,ex,_⟩:=I.hok p _ hk
     exact⟨o,e,ex⟩
    .obtain⟨_,_,_,_,o,_,_,e,ex,_⟩:=I.hok p _ hk
     exact⟨o,e,ex⟩
   obtain⟨o,e,ex⟩:=z;refine⟨⟨o,e,ex.1⟩,λa e2=>?_⟩;cases e2;exact⟨o,e,ex.2.1⟩
  .obtain⟨o,_,_,_,e,ex,_⟩:=I.hok p _ hk
   refine⟨⟨o,e,ex.1⟩,λa e2=>?_⟩;cases e2;exact⟨o,e,ex.2.1⟩
 | _=>exact Đ ty
def Dl(K:Sb)(T:String)(r:V->List V->Hp->VK->Prop)(to:TE):TE:=λσ H Q=>to σ H λx H1=>Dm K T x H1/\r x [] H1 Q
def FD(K:Sb)(T:String)(r:V->List V->Hp->VK->Prop)(to:TE)(t:TA):TE:=λσ H Q=>to σ H λx H1=>Dm K T x H1/\t σ H1 λxs H2=>r x xs H2 Q
variable{o e:Î}{es:List Î}{to:TE}{t:TA}{name:Æ}{apos cpos:ĝ}{T id:String}{r:V->List V->Hp->VK->Prop}
def Ci(pa:PlainAttrs T)(slot:Slot T name id)(Ll:typeOf (.builtin id)=pure (.type "method_descriptor"))(hm:FA X id r)(ho:PE X o to)
  (Aa:↥(ċ o name X.env (eval o X.env)=eval o X.env)) (Ab:↥((apos.endLine==cpos.line)=Ã)):PE X (.Call (.Attribute o name apos) [] [] cpos) (Dl X.K T r to):=by
 intro ag s σ H Q I h;refine wpAny_Call_method0_late Aa Ab (kC (ho ag s σ H _ I h) ?_);rintro v s1 ⟨x,H1,I1,r1,ty,q1⟩;obtain⟨h1,h2⟩:=J4 I1 r1 ty;exact⟨T,id,pa,slot,Ll,h1,h2,wg rfl (PySem.evalArgs_none (hm ag s1 σ H1 x [] v [] Q I1 r1 .nil q1))⟩
def YH(pa:PlainAttrs T)(slot:Slot T name id)(Ll:typeOf (.builtin id)=pure (.type "method_descriptor"))(hm:FA X id r)(ho:PE X o to)(ha:PA X (e::es) t)
  (Aa:↥(ċ o name X.env (eval o X.env)=eval o X.env))
  (AM:((ß cpos (Ê (e::es) X.env)).all (λx=>!x.1)&&(ŏ cpos (Ĥ [] X.env)).all (λx=>x.1.isSome)
   && decide ((e::es).length+([]:List Ğ).length+(if ([]:List Ğ).isEmpty then 0 else 1)<30))=Ã:=by rfl)
  (Ab:↥((apos.endLine==cpos.line)=Ã)) (hs:↥(Ê (e::es) X.env=(Â,eval e X.env)::Ê es X.env)) (Ae:↥((ß cpos (Ê es X.env)).any (·.1)=Â)) :
  PE X (.Call (.Attribute o name apos) (e::es) [] cpos) (FD X.K T r to t):=by
 intro ag s σ H Q I h;refine ŕ Aa AM Ab rfl (kC (ho ag s σ H _ I h) ?_);rintro v s1 ⟨x,H1,I1,r1,ty,q1⟩;obtain⟨h1,h2⟩:=J4 I1 r1 ty;refine⟨T,id,pa,slot,Ll,h1,h2,?_⟩;have hA:=ha cpos ag s1 σ H1 _ I1 q1;rw[hs] at hA ⊢;refine wg (by show(Â||(ß cpos (Ê es X.env)).any (·.1))=Â;rw[Ae]<;>rfl) (xG ?_);exact kC hA λus s2 Lh=>(by obtain⟨vs,H2,I2,r2,q2⟩:=Lh;exact hm ag s2 σ H2 x vs v us Q I2 r1 r2 q2)
end
end L2
namespace L2
open PySem PySem.Spec PyProof.Rows
def Zp(X:Cx)(id:String)(r:V->List V->Hp->VK->Prop):Prop:=
 ∀(ag:List (È×ö)) (s:Å) (σ:St) (H:Hp) (x:V) (xs:List V) (v:Ä) (us:List Ä) (Q:VK),Inv X ag σ H s->RelV x v->Vals xs us->r x xs H Q->
  É (Ë X.prog X.w) X.A (call (.builtin id) (v::us)) (EP X ag σ Q) X.xe s
def Vals.one{x:V}{us:List Ä}(h:Vals [x] us):∃u,us=[u]/\RelV x u:=by
 cases h with | cons r t=>cases t;exact⟨_,rfl,r⟩
theorem Vals.zero:∀{us:List Ä},Vals [] us->us=[]
 | _,.nil=>rfl
theorem Vals.dropLast{xs:List V}{us:List Ä}(h:Vals xs us):Vals xs.dropLast us.dropLast:=by
 induction h with
 | nil=>exact .nil
 | cons r t ih=>
  cases t with
  | nil=>exact .nil
  | cons q t'=>exact .cons r ih
theorem Vals.rep{xs:List V}{us:List Ä}(h:Vals xs us):∀k:Nat,Vals (Ç k xs).flatten (Ç k us).flatten
 | 0=>.nil
 | k+1=>by
  rw[qt,qt,qY,qY];exact Vals.append h (Vals.rep h k)
theorem KS{α:Type}(l:List α):l.eraseIdx (l.length-1)=l.dropLast:=by
 induction l with
 | nil=>rfl
 | cons a r ih=>
  cases r with
  | nil=>rfl
  | cons b r=>
   have e:(a::b::r).length-1=((b::r).length-1)+1:=by
    have h1:(a::b::r).length=r.length+2:=rfl;have h2:(b::r).length=r.length+1:=rfl;omega
   rw[e,uN,ih];all_goals rfl
theorem foldl_rep(its:List Ä):∀(k:Nat) (acc:List Ä),
  Ľ (λx1 x2=>x1++x2) acc.toArray (Ç k its.toArray)=(acc++(Ç k its).flatten).toArray
 | 0,acc=>by simp
 | k+1,acc=>by
  have e:acc.toArray++its.toArray=(acc++its).toArray:=by simp
  have e2:(acc++its)++(Ç k its).flatten=acc++(Ç (k+1) its).flatten:=by
   rw[qt,qY,qZ]
  rw[<-e2,<-foldl_rep its k (acc++its),<-e,qt,List.foldl_cons]
section
variable{X:Cx}{ag:List (È×ö)}{σ:St}{H:Hp}{s:Å}{l b:È}{xs ys zs:List V}
def Inv.lset{its its':List Ä}{n:Nat}{f:Array Ä->Array Ä}{t':Nat}(I:Inv X ag σ H s)(hH:H l=À (.lst xs))
  (e:s.heap.get? l=À { cls:=.type "list",data:=.seq its.toArray n }) (hf:f its.toArray=its'.toArray) (hv:Vals ys its') (hz:ys.length<=sizeLine) :
  Inv X ag σ (upd H l (.lst ys)) { s with heap:=s.heap.update l (Û f),toks:=t' }:=by
 have q:=PySem.IsL.update e f;rw[hf] at q;refine I.write (x:=l) (e:=l) (by rw[hH];exact trivial) (.inl rfl) (λb' u hb hu=>(j7 s.heap (Û f) (jq hb)).trans hu) ⟨_,q⟩ ?_;exact⟨hz,its',_,hv,q⟩
def Inv.lnew{its:List Ä}{t':Nat}(I:Inv X ag σ H s)(hv:Vals ys its)(hz:ys.length<=sizeLine) :
  Inv X ag σ (upd H s.heap.objs.size (.lst ys)) { s with heap:=s.heap.push { cls:=.type "list",data:=.seq its.toArray },toks:=t' }:=
 I.laid (λ_ _ q=>zf _ q) (zG _) ⟨hz,its,0,hv,zK _ rfl⟩
theorem Inv.fresh(I:Inv X ag σ H s):H s.heap.objs.size=Á:=I.hok.fresh (zG _)
def Inv.lstM(I:Inv X ag σ H s)(hH:H l=À (.lst xs)):xs.length<=sizeLine/\∃(its:List Ä) (n:Nat),Vals xs its/\xs.length=its.length/\s.heap.get? l=À { cls:=.type "list",data:=.seq its.toArray n }:=by
 obtain⟨z,its,n,r,e⟩:=I.hok l _ hH;exact⟨z,its,n,r,r.length,e⟩
def WA{n:Nat}(h:n<=sizeLine):î n=Â:=by
 unfold î;exact jj ∅
end
section
variable{X:Cx}
def XC:V->List V->Hp->VK->Prop:=λx vs H Q=>∃l xs y,x=.ref l/\vs=[y]/\H l=À (.lst xs)/\xs.length<sizeLine/\Q .non (upd H l (.lst (xs++[y])))
def oE:Zp X "list.append" XC:=by
 intro ag s σ H x vs v us Q I rx rv h;obtain⟨l,xs,y,rfl,rfl,hH,hz,q⟩:=h;cases rx;obtain⟨u,rfl,ru⟩:=rv.one;obtain⟨z,its,n,r,hl,e⟩:=I.lstM hH;refine wj F.slot_list_append ⟨_,e,rfl⟩ F.entry_list_append (F.args_list_append_2 _ _) (PySem.list_append l its.toArray n u (by rw[zQ];omega)) ⟨e,?_⟩;refine⟨.non,_,I.lset (its':=its++[u]) hH e (by simp) (r.append (.cons ru .nil)) ?_,rfl,q⟩;rw[zL,vY];omega
def F0:V->List V->Hp->VK->Prop:=λx vs H Q=>∃l xs y,x=.ref l/\vs=[]/\H l=À (.lst xs)/\xs[xs.length-1]?=À y/\Q y (upd H l (.lst xs.dropLast))
def Cr:Zp X "list.pop" F0:=by
 intro ag s σ H x vs v us Q I rx rv h;obtain⟨l,xs,y,rfl,rfl,hH,hy,q⟩:=h;cases rx;have IE:=rv.zero;subst IE;obtain⟨z,its,n,r,hl,e⟩:=I.lstM hH;obtain⟨u,hu,ru⟩:=r.get hy;have Oq:its.toArray[its.toArray.size-1]?=À u:=by
  show its.toArray[its.length-1]?=À u
  rw[<-u6,<-hl];exact hu
 refine wj F.slot_list_pop ⟨_,e,rfl⟩ F.entry_list_pop (F.args_list_pop_1 _) (MeetsSeq.list_pop_last l its.toArray n u Oq (by rw[zQ];omega)) ⟨e,?_⟩;refine⟨y,_,I.lset (its':=its.dropLast) hH e ?_ r.dropLast ?_,ru,q⟩
 .show its.toArray.eraseIdxIfInBounds (its.toArray.size-1)=its.dropLast.toArray
  rw[zQ,List.eraseIdxIfInBounds_toArray,KS]
 .rw[List.length_dropLast]
  omega
def len_rep{α:Type}(xs:List α)(k:Nat):(Ç k xs).flatten.length=k*xs.length:=by
 induction k with
 | zero=>simp
 | succ k ih=>rw[qt,qY,zL,ih,Nat.succ_mul,Nat.add_comm]
end
end L2
namespace L2
open PySem PySem.Spec PyProof.Rows
section
variable{κ:Type}[DecidableEq κ]
def xt(cb:List (κ×V))(k:κ):Option V:=(cb.find? λkv=>decide (kv.1=k)).map (·.2)
def putK(cb:List (κ×V))(k:κ)(v:V):List (κ×V):=
 if (cb.any λkv=>decide (kv.1=k))=Ã then cb.map (λkv=>if kv.1=k then (kv.1,v) else kv) else cb++[(k,v)]
def iE{p:κ×V}{r:List (κ×V)}{k:κ}(e:p.1=k):xt (p::r) k=À p.2:=by simp[xt,jK,e]
def iU{p:κ×V}{r:List (κ×V)}{k:κ}(e:¬p.1=k):xt (p::r) k=xt r k:=by simp[xt,jK,e]
theorem tV(k:κ):∀cb:List (κ×V),(cb.any λkv=>decide (kv.1=k))=(xt cb k).isSome
 | []=>rfl
 | p::r=>by
  rw[vO];by_cases e:p.1=k
  .erw[iE e,kO e,Bool.true_or,Option.isSome_some]
  .rw[iU e,jj e,Bool.false_or];exact tV k r
def eK(cb:List (κ×V))(k:κ)(v:V):(putK cb k v).length<=cb.length+1:=by
 unfold putK;split
 .rw[zF];omega
 .rw[zL,zE,kI];omega
theorem RelO.isSome_eq{o:Option V}{u:Option Ä}(r:RelO o u):o.isSome=u.isSome:=by
 cases o with
 | none=>cases u with
  | none=>rfl
  | some _=>exact(show False from r).elim
 | some _=>cases u with
  | none=>exact(show False from r).elim
  | some _=>rfl
theorem RelO.getD{o:Option V}{u:Option Ä}{d:V}{d':Ä}(r:RelO o u)(rd:RelV d d'):RelV (o.getD d) (u.getD d'):=by
 cases o with
 | none=>cases u with
  | none=>exact rd
  | some _=>exact(show False from r).elim
 | some _=>cases u with
  | none=>exact(show False from r).elim
  | some _=>exact r
def KV.val{cb:List (κ×V)}{vs:List (κ×Ä)}(r:KV cb vs)(k:κ):RelO (xt cb k) (valueAt vs k):=by
 unfold KV at r;induction r with
 | nil=>exact ø
 | @cons p q ps qs h t ih=>
  obtain⟨h1,h2⟩:=h;by_cases e:p.1=k
  .have e':q.1=k:=h1.symm.trans e
   have b:valueAt (q::qs) k=À q.2:=by simp[valueAt,jK,e']
   rw[iE e,b];exact h2
  .have e':¬q.1=k:=λz=>e (h1.trans z)
   have b:valueAt (q::qs) k=valueAt qs k:=by simp[valueAt,jK,e']
   rw[iU e,b];exact ih
theorem KV.any{cb:List (κ×V)}{vs:List (κ×Ä)}(r:KV cb vs)(k:κ):(cb.any λkv=>decide (kv.1=k))=vs.any λkv=>decide (kv.1=k):=by
 unfold KV at r;induction r with
 | nil=>rfl
 | cons h t ih=>rw[vO,vO,ih,h.1]
def KV.repl{cb:List (κ×V)}{vs:List (κ×Ä)}(r:KV cb vs)(k:κ){y:V}{u:Ä}(ry:RelV y u) :
  KV (cb.map λkv=>if kv.1=k then (kv.1,y) else kv) (vs.map λkv=>if kv.1=k then (kv.1,u) else kv):=by
 unfold KV at r ⊢;induction r with
 | nil=>exact .nil
 | @cons p q ps qs h t ih=>
  rw[zu,zu];refine .cons ?_ ih;obtain⟨h1,h2⟩:=h;by_cases e:p.1=k
  .rw[zW e,zW (h1.symm.trans e)];exact⟨h1,ry⟩
  .rw[kh e,kh (λz=>e (h1.trans z))];exact⟨h1,h2⟩
def KV.put{cb:List (κ×V)}{vs:List (κ×Ä)}(r:KV cb vs)(k:κ){y:V}{u:Ä}(ry:RelV y u):KV (putK cb k y) (stored vs k u):=by
 unfold putK stored;rw[r.any k];by_cases e:(vs.any λkv=>decide (kv.1=k))=Ã
 .rw[zW e,zW e];exact r.repl k ry
 .rw[kh e,kh e];exact Paired.snoc r ⟨rfl,ry⟩
theorem KV.length{cb:List (κ×V)}{vs:List (κ×Ä)}(r:KV cb vs):cb.length=vs.length:=Paired.length r
end
def oN{P:Í}{w:Ñ}{k:Key}{u:Ä}(r:RelV (kV k) u):(qA P w).is k u=Ã:=by
 cases k with
 | inl i=>obtain⟨t,e⟩:=(show ∃t,u=Ġ i t from r);subst e;exact Ze P w i t
 | inr x=>obtain⟨t,e⟩:=(show ∃t,u=ĕ x t from r);subst e;exact Zc P w x t
theorem nU{P:Í}{w:Ñ}:∀{ks:List Key} {us:List Ä},Vals (ks.map kV) us->ItemsAre (qA P w) ks us
 | [],_,r=>by rw[ji] at r;cases r;exact .nil
 | k::ks,_,r=>by
  rw[zu] at r;cases r with
  | cons h t=>exact .cons (oN h) (nU t)
abbrev KT(H:Hp):List (List Key×V)->List (List Key×È×Ä)->Prop:=Paired λp q=>p.1=q.1/\H q.2.1=À (.tup (p.1.map kV))/\RelV p.2 q.2.2
def KT.val{H:Hp}{cb:List (List Key×V)}{xs:List (List Key×È×Ä)}(r:KT H cb xs)(k:List Key):RelO (xt cb k) ((atKey xs k).map (·.2)):=by
 induction r with
 | nil=>exact ø
 | @cons p q ps qs h t ih=>
  obtain⟨h1,_,h2⟩:=h;by_cases e:p.1=k
  .have e':q.1=k:=h1.symm.trans e
   have b:atKey (q::qs) k=À q.2:=by simp[atKey,jK,e']
   rw[iE e,b];exact h2
  .have e':¬q.1=k:=λz=>e (h1.trans z)
   have b:atKey (q::qs) k=atKey qs k:=by simp[atKey,jK,e']
   rw[iU e,b];exact ih
def KT.repl{H:Hp}{cb:List (List Key×V)}{xs:List (List Key×È×Ä)}(r:KT H cb xs)(k:List Key){y:V}{u:Ä}(ry:RelV y u) :
  KT H (cb.map λkv=>if kv.1=k then (kv.1,y) else kv) (xs.map (putAt k u)):=by
 induction r with
 | nil=>exact .nil
 | @cons p q ps qs h t ih=>
  rw[zu,zu];refine .cons ?_ ih;obtain⟨h1,h2,h3⟩:=h;unfold putAt;by_cases e:p.1=k
  .rw[zW e,zW (h1.symm.trans e)];exact⟨h1,h2,ry⟩
  .rw[kh e,kh (λz=>e (h1.trans z))];exact⟨h1,h2,h3⟩
def KT.put{H:Hp}{cb:List (List Key×V)}{xs:List (List Key×È×Ä)}(r:KT H cb xs)(k:List Key){b:È}{y:V}{u:Ä}(hb:H b=À (.tup (k.map kV)))(ry:RelV y u) :
  KT H (putK cb k y) (Ķ xs k b u):=by
 have e:(cb.any λkv=>decide (kv.1=k))=(atKey xs k).isSome:=by
  rw[tV,(r.val k).isSome_eq,Option.isSome_map]
 unfold putK Ķ;rw[e];by_cases q:(atKey xs k).isSome=Ã
 .rw[zW q,zW q];exact r.repl k ry
 .rw[kh q,kh q];exact Paired.snoc r ⟨rfl,hb,ry⟩
def KT.keeps{H H':Hp}{cb:List (List Key×V)}{xs:List (List Key×È×Ä)}(r:KT H cb xs)(ht:∀b ys,H b=À (.tup ys)->H' b=À (.tup ys)):KT H' cb xs:=
 Paired.mapP r λ_ _ z=>⟨z.1,ht _ _ z.2.1,z.2.2⟩
section
variable{P:Í}{w:Ñ}{H:Hp}{h:Ò}{a:È}
def Yv{u:HO}(ok:HOk P w H h)(e:Rd H a u):ObjOk P w H h a u:=e.ok ok
def lm{cb:List (Key×V)}(ok:HOk P w H h)(e:Rd H a (.dK cb)):cb.length<=sizeLine/\(a==ã)=Â/\∃vs,KV cb vs/\h.DictOf (qA P w) a vs:=
 show ObjOk P w H h a (.dK cb) from Yv ok e
def Fx{cb:List (Key×V)}(ok:HOk P w H h)(e:H a=À (.dK cb)):cb.length<=sizeLine/\(a==ã)=Â/\∃vs,KV cb vs/\h.DictOf (qA P w) a vs:=lm ok (.inl e)
def tT{ks:List Key}(ok:HOk P w H h)(e:H a=À (.tup (ks.map kV))):(ġ (qA P w)).is h ks a:=by
 obtain⟨_,its,r,⟨o,h1,h2,n,h3⟩,_⟩:=(show ObjOk P w H h a (.tup (ks.map kV)) from ok a _ e);exact⟨o,its.toArray,n,h1,h2,h3,by simpa using nU r⟩
def KP{cb:List (List Key×V)}(ok:HOk P w H h)(e:Rd H a (.dT cb)):cb.length<=sizeLine/\(a==ã)=Â /\
  ∃xs,KT H cb xs/\h.DictOfH (ġ (qA P w)) a xs:=by
 obtain⟨z,y,xs,r,o,es,ep,h1,h2,h3,h4,h5⟩:=(show ObjOk P w H h a (.dT cb) from Yv ok e);refine⟨z,y,xs,r,o,es,ep,h1,h2,h3,h4,λx hx=>?_,h5⟩;have all:∀{l:List (List Key×V)} {m:List (List Key×È×Ä)},KT H l m->∀x∈m,(ġ (qA P w)).is h x.1 x.2.1:=by
  intro l m q;induction q with
  | nil=>intro x hx;exact nomatch hx
  | @cons p q ps qs hq t ih=>
   intro x hx;rcases zj.mp hx with e | hx
   .subst e
    exact tT ok (by rw[<-hq.1];exact hq.2.1)
   .exact ih x hx
 exact all r x hx
def du{cb:List (List Key×V)}(ok:HOk P w H h)(e:H a=À (.dT cb)):cb.length<=sizeLine/\(a==ã)=Â /\
  ∃xs,KT H cb xs/\h.DictOfH (ġ (qA P w)) a xs:=KP ok (.inl e)
end
def BH(H:Hp)(a:È)(y:V)(r:Option V):Prop:=
 (∃cb k,Rd H a (.dK cb)/\y=kV k/\r=xt cb k)\/∃cb k b,Rd H a (.dT cb)/\y=.ref b/\H b=À (.tup (k.map kV))/\r=xt cb k
def FN(H:Hp)(a:È)(y v:V)(H':Hp):Prop:=
 (∃cb k,H a=À (.dK cb)/\y=kV k/\cb.length<sizeLine/\H'=upd H a (.dK (putK cb k v))) \/
 ∃cb k b,H a=À (.dT cb)/\y=.ref b/\H b=À (.tup (k.map kV))/\cb.length<sizeLine/\H'=upd H a (.dT (putK cb k v))
section
variable{X:Cx}{ag:List (È×ö)}{σ:St}{H:Hp}{s:Å}{a:È}{y v:V}{u r:Ä}{o:Option V}{A:Ö}{E:Ä->Å->Prop}
def Inv.big(I:Inv X ag σ H s):ã<s.heap.objs.size:=by
 have h:Ü<s.heap.objs.size:=(I.mod.glob.keeps I.bk).lt;exact uZ (by decide) h
def mJ{h':Ò}{t':Nat}{ob:HO}(I:Inv X ag σ H s)(mu:oq (H a))(hs:Ý a s.heap h')(he:∃q,h'.get? a=À q)(new:ObjOk X.prog X.w (upd H a ob) h' a ob) :
  Inv X ag σ (upd H a ob) { s with heap:=h',toks:=t' }:=
 I.write (x:=a) (e:=a) mu (.inl rfl) (λb q hb z=>(hs.2 b hb).trans z) he new
def sA{P:Í}{w:Ñ}{H':Hp}{h':Ò}{cb:List (Key×V)}{vs:List (Key×Ä)}(z:cb.length<=sizeLine)(hd:(a==ã)=Â)(rel:KV cb vs)(dd:h'.DictOf (qA P w) a vs) :
  ObjOk P w H' h' a (.dK cb):=⟨z,hd,vs,rel,dd⟩
def JO{H':Hp}{Q:Unit->Å->Prop}(hu:A.units+1<ď)(I:Inv X ag σ H s)(g:FN H a y v H')(ry:RelV y u)(rv:RelV v r)(h:∀s',Inv X ag σ H' s'->Q () s') :
  É (Ë X.prog X.w) A (Ž (.ref a) u r) Q E s:=by
 rcases g with ⟨cb,k,e,ey,l,eH⟩ | ⟨cb,k,b,e,ey,eb,l,eH⟩
 .subst ey eH
  obtain⟨z,hd,vs,rel,dd⟩:=Fx I.hok e;have hz:vs.length<=sizeLine:=by rw[<-rel.length];exact z
  have hl:(putK cb k v).length<=sizeLine:=by have:=eK cb k v;omega
  refine wpAny_setItem_pairs (hsz:=hz) (oN ry) dd λh' Hk hs=>h _ ?_
  have he:∃q,h'.get? a=À q:=let ⟨q,_,_,hq,_⟩:=Hk;⟨q,hq⟩;exact mJ I (by rw[e];exact ø) hs he (sA hl hd (rel.put k rv) Hk)
 .subst ey eH
  cases (show u=Ï b from ry);obtain⟨z,hd,xs,rel,dd⟩:=du I.hok e;have hz:xs.length<=sizeLine:=by rw[<-Paired.length rel];exact z
  have hl:(putK cb k v).length<=sizeLine:=by have:=eK cb k v;omega
  refine ŵ (hsz:=hz) (ud hu) (tT I.hok eb) dd λh' Hk hs=>h _ ?_
  obtain⟨q,es,ep,hq,h2,h3,h4,_,h5⟩:=Hk;refine mJ I (by rw[e];exact ø) hs ⟨q,hq⟩ ⟨hl,hd,_,(rel.put k eb rv).keeps λc ys ec=>?_,q,es,ep,hq,h2,h3,h4,h5⟩;rw[kF (DO ec e (λz=>nomatch z))];exact ec
end
def WL{P:Í}{w:Ñ}{H:Hp}(h:Ò)(hb:ã<h.objs.size):ObjOk P w H (h.push { cls:=.type "dict",data:=.dict #[] }) h.objs.size (.dK []):=
 ⟨qp _,jA.mpr (jq (zU hb)),[],.nil,Heap.DictOf.new h⟩
def De:TE:=λ_ H Q=>∀p,H p=Á->Q (.ref p) (upd H p (.dK []))
section
variable{X:Cx}{pos:ĝ}
def Wb:PE X (.Dict [] [] pos) De:=λag s σ H Q I h=>
 wpAny_Dict_empty ⟨.ref s.heap.objs.size,_,I.laid (a:=s.heap.objs.size) (o:=.dK []) (t':=s.toks) (λ_ _ q=>zf _ q) (zG _) (WL s.heap I.big),rfl,h _ (I.hok.fresh (zG _))⟩
end
def dX(cb more:List (Key×V)):List (Key×V):=more.foldl (λacc kv=>putK acc kv.1 kv.2) cb
def KV.merge:∀{more:List (Key×V)} {rs:List (Key×Ä)} {cb:List (Key×V)} {vs:List (Key×Ä)},KV more rs->KV cb vs->KV (dX cb more) (merged vs rs):=by
 intro more rs cb vs r;unfold KV at r;induction r generalizing cb vs with
 | nil=>intro q;exact q
 | @cons p q ps qs h t ih=>
  intro r0;have e:KV (putK cb p.1 p.2) (stored vs q.1 q.2):=by
   have:=r0.put p.1 h.2;rw[<-h.1];exact this
  exact ih e
theorem fS:∀(more cb:List (Key×V)),(dX cb more).length<=cb.length+more.length
 | [],cb=>by show cb.length<=cb.length+0;omega
 | p::r,cb=>by
  have h1:=fS r (putK cb p.1 p.2);have h2:=eK cb p.1 p.2;show(dX (putK cb p.1 p.2) r).length<=_
  rw[zE];omega
structure M2(X:Cx)(o:Î)(m:Æ)(apos:ĝ)(e f:Î)(cpos:ĝ):Prop where
 base:ċ o m X.env (eval o X.env)=eval o X.env
 few:((ß cpos (Ê [e,f] X.env)).all (λx=>!x.1)&&(ŏ cpos (Ĥ [] X.env)).all (λx=>x.1.isSome)
  && decide (([e,f]:List Î).length+([]:List Ğ).length+(if ([]:List Ğ).isEmpty then 0 else 1)<30))=Ã
 line:(apos.endLine==cpos.line)=Ã
 trees:ß cpos (Ê [e,f] X.env)=[(Â,eval e X.env),(Â,eval f X.env)]
def FC(H:Hp)(a:È):Prop:=(∃cb,Rd H a (.dK cb))\/∃cb,Rd H a (.dT cb)
def B0{X:Cx}{ag:List (È×ö)}{σ:St}{H:Hp}{s:Å}{a:È}(I:Inv X ag σ H s)(d:FC H a) :
  s.TypeIs (.ref a) "dict" /\ (∀b,Ï a=.ref b->∃ob,s.heap.get? b=À ob/\ob.dict=Á)/\(a==ã)=Â:=by
 rcases d with ⟨cb,e⟩ | ⟨cb,e⟩
 .obtain⟨_,hd,vs,_,dd⟩:=lm I.hok e
  refine⟨dd.typeIs,λb q=>?_,hd⟩;cases q;obtain⟨ob,_,_,h1,h2,_⟩:=dd;exact⟨ob,h1,h2.2.1⟩
 .obtain⟨_,hd,xs,_,dd⟩:=KP I.hok e
  refine⟨dd.typeIs,λb q=>?_,hd⟩;cases q;obtain⟨ob,_,_,h1,h2,_⟩:=dd;exact⟨ob,h1,h2.2.1⟩
section
variable{X:Cx}{ag:List (È×ö)}{σ:St}{H:Hp}{s:Å}{a:È}{y d:V}{u r:Ä}{o:Option V}{A:Ö}{E:Ä->Å->Prop}
def BW{Q:Ä->Å->Prop}(hu:A.units+1<ď)(I:Inv X ag σ H s)(g:BH H a y o)(ry:RelV y u)(rd:RelV d r)(h:∀w' s',Inv X ag σ H s'->RelV (o.getD d) w'->Q w' s') :
  É (Ë X.prog X.w) A (call (.builtin "dict.get") [.ref a,u,r]) Q E s:=by
 rcases g with ⟨cb,k,e,ey,l⟩ | ⟨cb,k,b,e,ey,eb,l⟩
 .subst ey
  obtain⟨z,hd,vs,rel,dd⟩:=lm I.hok e;refine call_meetsIn yC dd.typeIs uT (uJ _ _ _) (meets_dict_get_default (qA X.prog X.w) a (oN ry) hd r) ⟨_,dd.mapOf,h _ _ (I.tok _) ?_⟩;rw[l];exact(rel.val k).getD rd
 .subst ey
  cases (show u=Ï b from ry);obtain⟨z,hd,xs,rel,dd⟩:=KP I.hok e;refine call_meetsIn yC dd.typeIs uT (uJ _ _ _) (meetsH_dict_get_default (ġ (qA X.prog X.w)) a b hd r) ⟨ud hu,k,xs,tT I.hok eb,dd,h _ _ (I.tok _) ?_⟩;rw[l];exact(rel.val k).getD rd
end
def U1(td ty tx:TE):TE:=λσ H Q=>td σ H λx H1=>∃a,x=.ref a/\FC H1 a/\ty σ H1 λy H2=>tx σ H2 λz H3=>∃o,BH H3 a y o/\Q (o.getD z) H3
section
variable{X:Cx}{o e f:Î}{apos cpos:ĝ}{td ty tx:TE}
def WG(hu:X.A.units+1<ď)(ho:PE X o td)(he:PE X e ty)(hf:PE X f tx)(m:M2 X o "get" apos e f cpos):PE X (.Call (.Attribute o "get" apos) [e,f] [] cpos) (U1 td ty tx):=by
 intro ag s σ H Q I h;refine wpAny_Call_method m.base m.few m.line PySem.F.plainAttrs_dict yC PySem.F.type_dict_get (kC (ho ag s σ H _ I h) ?_);rintro u s1 ⟨x,H1,I1,rx,a,ex,d,q1⟩;subst ex;obtain rfl:u=Ï a:=rx;obtain⟨t1,t2,_⟩:=B0 I1 d;refine⟨t1,t2,?_⟩;rw[m.trees]
 refine wg rfl (xG (vZ (kC (he ag s1 σ H1 _ I1 q1) λiv s2 ⟨y,H2,I2,ry,q2⟩=>
  vZ (kC (hf ag s2 σ H2 _ I2 q2) λfv s3 ⟨z,H3,I3,rz,ov,g,q3⟩=>wu ?_))))
 exact BW hu I3 g ry rz λw' s4 I4 HJ=>⟨_,H3,I4,HJ,q3⟩
end
section
variable{X:Cx}{ag:List (È×ö)}{σ:St}{H:Hp}{s:Å}{a:È}{cb:List (Key×V)}{A:Ö}{E:Ä->Å->Prop}
def WV{Q:Ä->Å->Prop}(I:Inv X ag σ H s)(e:Rd H a (.dK cb))(h:∀p s',H p=Á->Inv X ag σ (upd H p (.dK cb)) s'->Q (.ref p) s'):É (Ë X.prog X.w) A (call (.type "dict") [.ref a]) Q E s:=by
 obtain⟨z,hd,vs,rel,dd⟩:=lm I.hok e;refine kt_call_dict hd dd (by rw[<-rel.length];exact z) λh' Hk hs=>?_
 refine h _ _ (I.hok.fresh (zG _)) (I.laid (a:=s.heap.objs.size) (o:=.dK cb) (t':=s.toks) (λb q hq=>?_) (zG _) (sA z (jA.mpr (jq (zU I.big))) rel Hk));exact(hs.2 b (zU (zM hq))).trans (zf _ hq)
end
end L2
namespace Att
open PySem PySem.W PySem.Calls PyProof.Rows
def i9{P:Params}{h:Ò}:∀(ns:List Int) (vs:List Ä),WellAll P h vs (ns.map WData.int)->IntsAre vs ns:=by
 intro ns;induction ns with
 | nil=>
  intro vs w;rw[ji] at w;cases w;exact .nil
 | cons n ns ih=>
  intro vs w;rw[zu] at w;cases w with
  | cons a b=>
   cases a;exact .cons _ _ (ih _ b)
def Qc{l:OpenLaw}{n:Nat}(hn:l.most=À n){P:Params}{h:Ò}{args:List WData}{vals:List Ä}
  (EM:l.row.toRowW.claim.pre args=Ã) (Lm:WellAll P h vals args) :
  ∃a vs ns,vals=[Ï a]/\args=[WData.list (ns.map WData.int)]/\h.get? a=À { cls:=.type "list",data:=.seq vs.toArray }/\IntsAre vs ns/\ns.length<=n:=by
 have Os:WShape.hasAll [] args [.list .int]=Ã:=(pre_splitW EM).1;have hc:l.pre.holds [] { args:=args }=Ã:=(pre_splitW EM).2;obtain⟨d,r,rfl,h1,h2⟩:=hasAllW_cons Os;obtain rfl:=hasAllW_nil h2;obtain⟨xs,rfl,h3⟩:=hasW_list h1;obtain⟨ns,rfl⟩:=items_int h3;have d6:ns.length<=n:=by
  unfold OpenLaw.pre at hc;have h4:(WTm.not (.lt (.lit (.int (n:Int))) (.len (.arg 0)))).holds [] { args:=[.list (ns.map .int)] }=Ã:=by
   have h4:=(holds_andW hc).1;rw[hn] at h4;exact h4
  have h5:=condW_of h4 (w_not (w_lt w_lit (w_len_list (w_arg rfl))));rw[zF] at h5;refine jW λq=>?_
  have q':(n:Int)<((ns.length:Nat):Int):=by omega
  first
   | (rw[kO q'] at h5;exact absurd h5 (by decide))
   | (simp at h5;omega)
 cases Lm with
 | cons w1 w2=>
  cases w2;cases w1 with
  | list ho oj=>exact⟨_,_,ns,rfl,rfl,ho,i9 ns _ oj,d6⟩
theorem QO(l:OpenLaw)(args:List WData):l.row.toRowW.claim.post args (.bool Ã) args=Ã:=
 postW_of (r:=l.row.toRowW) (X:=(Ã==Ã))
  (show WShape.has [] (.bool Ã) .bool=Ã by first | rfl | decide | simp[WShape.has,WShape.arms,WShape.armsAll])
  (show(WTm.eq .res (.lit (.bool Ã))).value [] { args:=args,res:=À (.bool Ã),after:=args }=À (.bool (Ã==Ã)) from w_eq_bool (w_res rfl) w_lit) rfl
def attach_call{l:OpenLaw}{n:Nat}{q:Í}{loose:List Æ}{XP:(Æ->Option Ä)->Ò->Prop}{YP:Ñ->Ò->Prop}{d:DefRec}
  (hn:l.most=À n) (HK:d.params.defaults=[])
  (call:∀(w:Ñ) (s₀ d4:Å) (mg mb:Æ->Option Ä) (fa:È) (o:ö) (pm cd doc:Ä) (a:È) (vs:List Ä) (ns:List Int),
   Ground q loose [] XP w s₀ mg mb d4.heap->YP w d4.heap->
   d4.heap.get? fa=À o->o.data=.func (docDef d.name d.params d.body d.scope pm cd doc)->d4.heap.CodeRec cd d.name->mg d.name=À (.ref fa)->
   d4.heap.get? a=À { cls:=.type "list",data:=.seq vs.toArray }->IntsAre vs ns->ns.length<=n->d4.gens = #[]->
   ĵ (Ë l.prog w) Ŗ (.call (.ref fa) ⟨[.ref a],[]⟩) (λr s'=>r=.ok (.ret (.bool Ã))/\OldK d4.heap s'.heap/\s'.os=d4.os/\ń s'.gens) d4) :
  WalkO q loose XP YP l.row.toRowW d [] (λf vs=>PySem.call f vs):=by
 intro w s₀ d4 mg mb G Y fa o pm cd doc dV kV ho hd A4 hD HL hg args vals as EM Ot RD Lm RE;obtain rfl:dV=.none:=Dflts.none hD HK;obtain rfl:kV=.none:=Dflts.noKw hD;obtain⟨a,vs,ns,rfl,rfl,Ar,Ea,d6⟩:=Qc hn EM Lm;refine enter_call (yP (call w s₀ d4 mg mb fa o pm cd doc a vs ns G Y ho (fd_plain hd) A4 HL Ar Ea d6 hg) λr s' hq=>?_);obtain⟨rfl,h2,h3,h4⟩:=hq;exact⟨.inl ⟨.bool Ã,.bool Ã,[],rfl,λ_=>rfl,.bool Ã,QO l _,λ_=>⟨ė,λ_ hm=>(nomatch hm)⟩⟩,h2,h3,h4⟩
end Att
namespace L2
open PySem PySem.Spec PyProof.Rows
theorem mY:∀{vs:List Ä} {ns:List Int},IntsAre vs ns->Vals (ns.map V.int) vs
 | _,_,.nil=>.nil
 | _,_,.cons n t h=>.cons ⟨t,rfl⟩ (mY h)
def Only(H:Hp):Prop:=∀b,H b=Á\/∃o xs,H b=À (.frz o (.lst xs))
def WD{P:Í}{w:Ñ}{K:Sb}{mg mb:Æ->Option Ä}{CX:fT}{k:Nat}{fa a:È}{fd:ą}{x:Æ}{sp:Sp}{d4:Å}{vs:List Ä}{ns:List Int}
  (KX:K.In d4.heap) (Ah:d4.heap.Ns Ü mg) (hb:d4.heap.Ns builtinsNs mb) (Ou:∀x:Æ,x≠"__name__"->mb x=Õ x) (Ln:d4.heap.NoLimit) (hg:d4.gens = #[])
  (ha:d4.heap.get? a=À { cls:=.type "list",data:=.seq vs.toArray }) (hi:IntsAre vs ns) (hl:ns.length<=sizeLine) (hr:Room k Ŗ)
  (F:∀base:Ò,K.In base->base.Ns Ü mg->FnOk P w K mg base CX k fa fd [x] sp) (HN:∀(s:Å) (u:Ä),BindsTo s fd ⟨[u],[]⟩ [(x,u)])
  (Dx:∀H:Hp,Only H->SqL K H a (ns.map V.int)->sp [.ref a] H (λv _=>v=.bl Ã) λ_ _ _=>False)
  (Lo:∀H e s',CX [] H d4 (λ_ _ _=>False) e s'->False) :
  ĵ (Ë P w) Ŗ (.call (.ref fa) ⟨[.ref a],[]⟩) (λr s'=>r=.ok (.ret (.bool Ã))/\OldK d4.heap s'.heap/\s'.os=d4.os/\ń s'.gens) d4:=by
 have rv:=mY hi;have A0:=hi.length;have core:∀H:Hp,Only H->SqL K H a (ns.map V.int)->HOk P w H d4.heap->(∀b,H b≠Á->b=a)->(H a≠Á->K.lookup a=Á)->
   ĵ (Ë P w) Ŗ (.call (.ref fa) ⟨[.ref a],[]⟩) (λr s'=>r=.ok (.ret (.bool Ã))/\OldK d4.heap s'.heap/\s'.os=d4.os/\ń s'.gens) d4:=by
  intro H hO hS hok hA hK;have AU:∀{b:È} {o:ö},d4.heap.get? b=À o->H b=Á->(fN d4.heap H).get? b=À o:=λe n=>V4 e n
  have HF:∀{b:È} {o:ö} {es:Array ā} {ep:Nat},d4.heap.get? b=À o->o.data=.dict es ep->H b=Á:=λ{b o es ep} e d=>by
   cases q:H b with
   | none=>rfl
   | some u=>
    have e':b=a:=hA b (by rw[q];simp);subst e';rw[ha] at e;cases e;have d':Data.seq vs.toArray _=Data.dict es ep:=d;cases d'
  have IF:∀{b:È} {m:Æ->Option Ä},d4.heap.Ns b m->(fN d4.heap H).Ns b m:=λ{b m} ⟨o,es,ep,e,d,r⟩=>⟨o,es,ep,AU e (HF e d),d,r⟩
  have MK:K.In (fN d4.heap H):=λb o e=>AU (KX b o e) (by
   cases q:H b with
   | none=>rfl
   | some u=>
    have e':b=a:=hA b (by rw[q];simp);subst e'
    rw[hK (by rw[q];simp)] at e;cases e)
  have hM:Mod K mg (fN d4.heap H):=⟨MK,IF Ah,⟨mb,IF hb,Ou⟩,let ⟨mc,h1,h2⟩:=Ln;⟨mc,IF h1,h2⟩⟩;have e0:Env0 P w K mg (fN d4.heap H) Ŗ [] d4 H:=⟨rfl,hM,λb o e=>Uj e,Nat.le_of_eq (Qy _ _),trivial,λb hb=>absurd (show b∈([]:List È) from hb) (by simp),hok,.of_eq hg⟩;refine yP ((F _ MK (IF Ah)).run Ŗ [] d4 H ⟨[.ref a],[]⟩ [.ref a] [.ref a] _ _ hr e0 (HN d4 (.ref a)) (.cons rfl .nil) (Dx H hO hS)) λr s' h=>?_
  cases r with
  | error e=>exact(Lo H e s' h).elim
  | ok fl=>
   cases fl with
   | next=>exact Đ h
   | brk=>exact Đ h
   | cont=>exact Đ h
   | ret u=>
    obtain⟨v,H',os,bare,un,Lp,r',q⟩:=h;have q':v=.bl Ã:=q;subst q';obtain rfl:u=Œ Ã:=r';refine⟨rfl,OldK.of_keep λb o e=>?_,os,bare⟩;cases q:H b with
    | none=>exact un.keep b o e q (by intro z;exact absurd (show b∈([]:List È) from z) (by simp)) (by simp)
    | some u=>
     rcases hO b with z | ⟨ob,xs,z⟩
     .rw[q] at z;cases z
     .have z2:=un.frzs b ob _ z
      obtain⟨e1,_⟩:=hok b _ z;obtain⟨e2,_⟩:=Lp b _ z2;rw[e] at e1;cases e1;exact e2
 cases hk:K.lookup a with
 | some o=>
  have e:=KX a o hk;rw[ha] at e;cases e;refine core (λ_=>Á) (λ_=>.inl rfl) (.inr ⟨_,vs.toArray,_,hk,rfl,rfl,rfl,by rw[zQ,A0];exact hl,by simpa using rv⟩) (λb u z=>by have z':(Á:Option HO)=À u:=z;cases z') (λb z=>absurd rfl z) λz=>absurd rfl z
 | none=>
  refine core (λb=>if b=a then À (.frz { cls:=.type "list",data:=.seq vs.toArray } (.lst (ns.map V.int))) else Á) (λb=>?_) (.inl (.inr ⟨{ cls:=.type "list",data:=.seq vs.toArray },zW rfl⟩)) (λb u z=>?_) (λb z=>?_) λ_=>hk
  .by_cases hb:b=a
   .exact .inr ⟨_,_,zW hb⟩
   .exact .inl (kh hb)
  .by_cases hb:b=a
   .have z':=(zW hb).symm.trans z
    cases z';subst hb;exact⟨ha,by rw[zF];exact hl,vs,_,rv,ha⟩
   .have z':=(kh hb).symm.trans z
    cases z'
  .by_cases hb:b=a
   .exact hb
   .exact absurd (kh hb) z
end L2
namespace L2
open PySem PySem.Spec PyProof.Rows
end L2
namespace L2
open PySem PySem.Spec PyProof.Rows
def xB(s:Č):Arguments:=match s with
 | .FunctionDef _ a _ _ _ _ _ _ _ _=>a
 | _=>{ posonlyargs:=[],args:=[],vararg:=Á,kwonlyargs:=[],kw_defaults:=[],kwarg:=Á,defaults:=[] }
def ve(s:Č):List Č:=match s with
 | .FunctionDef _ _ b _ _ _ _ _ _ _=>b
 | _=>[]
def kQ(s:Č):ê:=match s with
 | .FunctionDef _ _ _ _ _ _ sc _ _ _=>sc
 | _=>{ kind:=.function,names:=[],isGenerator:=Â,isCoroutine:=Â }
abbrev dH:fT:=λ_ _ _ _ _ _=>False
abbrev E0:XK:=λ_ _ _=>False
def Yo{X:Cx}:lT dH X E0:=λ_ _ _ _ _ _ _ h=>h.elim
structure Fun(K:Sb)(x qual:Æ)(st:Č)(f:È)(fd:ą):Prop where
 ex:∃(oc:Ä) (od:Option È) (kV doc pm:Ä) (an:Option È) (mN ct:Ä) (Bz:Array (Option Ä)),
  fd=ĉ x qual (xB st) (ve st) (kQ st) .none kV doc pm an mN ct/\K.lookup f=À ⟨oc,od,.func fd,Bz⟩/\Ħ K mN qual=Ã
 kp:ì K (.ref f)=Ã
section
variable{P:Í}{w:Ñ}{K:Sb}{mg:Æ->Option Ä}{base:Ò}
def Fun.ok{x qual:Æ}{st:Č}{f:È}{fd:ą}{N ps:List Æ}{k:Nat}{sp:Sp}(F:Fun K x qual st f fd)(S:FnScope N ps (kQ st))(len:∀vs H Q E,sp vs H Q E->vs.length=ps.length)
  (Da:∀(mN:Ä) (A:Ö) (outer:List Env) (s:Å) (H:Hp) (vs:List V) (Q:VK) (E:XK),Room k (A.deeper (Ň qual (kQ st) s.heap.objs.size f mN))->sp vs H Q E->
   ∃t,PSs (gn dH P w K mg base N qual (kQ st) f mN A outer s H E).nox (ve st) t/\t { nx:=λ_ H'=>Q .non H',rt:=Q } (start N vs) H):FnOk P w K mg base dH (k+1) f fd ps sp:=by
 obtain⟨oc,od,kV,doc,pm,an,mN,ct,Bz,rfl,lk,A4⟩:=F.ex;refine DW lk A4 S len λA outer s H vs Q E hr Dx=>?_
 obtain⟨t,h,q⟩:=Da mN A outer s H vs Q E hr Dx;exact⟨t,h.nox,q⟩
def Fun.binds{x qual:Æ}{st:Č}{f:È}{fd:ą}{ps:List Æ}(F:Fun K x qual st f fd)
  (h:∀(kV doc pm:Ä) (an:Option È) (mN ct:Ä) (us:List Ä),us.length=ps.length->bindArgs (ĉ x qual (xB st) (ve st) (kQ st) .none kV doc pm an mN ct) ⟨us,[]⟩=pure (ps.zip us)):Binds K fd ps []:=by
 obtain⟨oc,od,kV,doc,pm,an,mN,ct,Bz,rfl,lk,A4⟩:=F.ex;exact .all (h kV doc pm an mN ct)
def Ck{x qual:Æ}{st:Č}{f:È}{oc:Ä}{od an:Option È}{Bz:Array (Option Ä)}{kV doc pm mN ct:Ä}(l:K.lookup f=À ⟨oc,od,.func (ĉ x qual (xB st) (ve st) (kQ st) .none kV doc pm an mN ct),Bz⟩)
  (c:Ħ K mN qual=Ã) (k:ì K (.ref f)=Ã):Fun K x qual st f (ĉ x qual (xB st) (ve st) (kQ st) .none kV doc pm an mN ct):=⟨⟨oc,od,kV,doc,pm,an,mN,ct,Bz,rfl,l,c⟩,k⟩
end
end L2
end
set_option bootstrap.genMatcherCode false
set_option genSizeOf false
set_option genSizeOfSpec false
namespace ML
open PySem PySem.Spec PyProof.Rows L2
inductive W where
 | non | bl (b:Bool) | int (i:Int) | str (x:Æ) | tup (l:List W) | fls (l:List W) | ref (n:Nat) | fdc (l:List (Key×W)) | fn (a:È)
 deriving Inhabited
inductive MO where
 | lst (l:List W) | dic (l:List (Key×W)) | ins (c:Nat) (fs:List (Æ×W)) | tdc (ks:List (List Æ))
structure Cl where
 c:Nat->È
 P:Í
 w:Ñ
noncomputable def bg(P:Í)(w:Ñ)(a:È)(xs:List (List Æ×È×Ä)):Ò->Prop:=λh=>∃o es ep,h.get? a=À o/\o.ExactDict/\o.data=.dict es ep/\es.toList=xs.map (entryOfKey (ġ (strKind P w)))
abbrev MH:=List MO
abbrev M(α:Type):=MH->Option (α×MH)
abbrev En:=List (Option W)
abbrev ME:=En->M W
abbrev MT:=En->M Bool
noncomputable def bnd{α β:Type}(m:M α)(f:α->M β):M β:=λh=>match m h with
 | some (a,h')=>f a h'
 | none=>Á
def i4{α β:Type}{m:M α}{f:α->M β}{h h':MH}{a:α}(e:m h=À (a,h')):bnd m f h=f a h':=by unfold bnd;rw[e]
def kg{α β:Type}{m:M α}{f:α->M β}{h:MH}{r:β×MH}(e:bnd m f h=À r):∃a h',m h=À (a,h')/\f a h'=À r:=by
 unfold bnd at e;split at e
 .rename_i a h' e'
  exact⟨a,h',e',e⟩
 .cases e
noncomputable def SqF(K:Sb)(μ:List È)(H:Hp)(a:È)(vs:List V):Prop:=(Rd H a (.lst vs)/\a∉μ) \/
 ∃(o:ö) (its:Array Ä) (n:Nat),K.lookup a=À o/\o.cls=.type "list" /\ o.dict=Á/\o.data=.seq its n/\its.size<=sizeLine/\Vals vs its.toList
def SqF.sq{K:Sb}{μ:List È}{H:Hp}(h:SqF K μ H a vs):SqL K H a vs:=h.elim (λh=>.inl h.1) .inr
noncomputable def SqD(μ:List È)(H:Hp)(a:È)(l:List (Key×V)):Prop:=Rd H a (.dK l)/\a∉μ
section rel
variable(K:Sb)(cl:Cl)(μ:List È)(H:Hp)
mutual
inductive RW:W->V->Prop
 | non:RW .non .non
 | bl (b:Bool):RW (.bl b) (.bl b)
 | int (i:Int):RW (.int i) (.int i)
 | str (x:Æ):RW (.str x) (.str x)
 | tup {a:È} {vs:List V} {l:List W}:SqT K H a vs->RWs l vs->RW (.tup l) (.ref a)
 | ref {n:Nat} {a:È}:μ[n]?=À a->RW (.ref n) (.ref a)
 | fls {a:È} {vs:List V} {l:List W}:SqF K μ H a vs->RWs l vs->RW (.fls l) (.ref a)
 | fdc {a:È} {l:List (Key×W)} {l':List (Key×V)} {ws:List W} {vs:List V}:SqD μ H a l'->l.map (·.1)=l'.map (·.1)->ws=l.map (·.2)->vs=l'.map (·.2)->RWs ws vs->RW (.fdc l) (.ref a)
 | fn {a:È}:RW (.fn a) (.ref a)
inductive RWs:List W->List V->Prop
 | nil:RWs [] []
 | cons {w:W} {v:V} {l:List W} {vs:List V}:RW w v->RWs l vs->RWs (w::l) (v::vs)
end
noncomputable def RKs{κ:Type}(l:List (κ×W))(l':List (κ×V)):Prop:=l.map (·.1)=l'.map (·.1)/\RWs K μ H (l.map (·.2)) (l'.map (·.2))
noncomputable def OR(a:È):MO->Prop
 | .lst l=>∃vs,H a=À (.lst vs)/\RWs K μ H l vs
 | .dic l=>∃l',H a=À (.dK l')/\RKs K μ H l l'
 | .ins c fs=>∃dx EK,H a=À (.ins (cl.c c) dx EK)/\RKs K μ H fs EK
 | .tdc ks=>∃xs:List (List Æ×È×Ä),H a=À (.ext (bg cl.P cl.w a xs))/\xs.map (·.1)=ks/\ks.Nodup/\(a==ã)=Â/\RWs K μ H (ks.map λk=>.tup (k.map .str)) (xs.map λx=>.ref x.2.1)
structure HR(h:MH):Prop where
 len:μ.length=h.length
 nd:μ.Nodup
 ob:∀(n:Nat) (a:È) (o:MO),μ[n]?=À a->h[n]?=À o->OR K cl μ H a o
structure ER(ρ:En)(σ:L2.St):Prop where
 len:ρ.length=σ.length
 at_:∀(i:Nat) (w:W),ρ[i]?=À (À w)->∃v,σ[i]?=À (À v)/\RW K μ H w v
end rel
structure Ext(μ:List È)(H:Hp)(d5:List È)(H':Hp):Prop where
 pre:μ<+:d5
 fr:∀b o,H b=À o->b∉μ->H' b=À o/\b∉d5
section
variable{K:Sb}{cl:Cl}{μ d5 HP:List È}{H H' MM:Hp}{h h':MH}
def Ext.refl:Ext μ H μ H:=⟨jf _,λ_ _ e n=>⟨e,n⟩⟩
theorem Ext.trans(a:Ext μ H d5 H')(b:Ext d5 H' HP MM):Ext μ H HP MM:=
 ⟨a.pre.trans b.pre,λc o e n=>let ⟨e1,n1⟩:=a.fr c o e n;b.fr c o e1 n1⟩
def Ext.get(a:Ext μ H d5 H'){n:Nat}(e:μ[n]?=À x):d5[n]?=À x:=by
 obtain⟨r,rfl⟩:=a.pre;rw[zY (zJ.mp e).1];exact e
theorem OR.some(q:OR K cl μ H a o):∃u,H a=À u/\oq (À u):=by
 cases o with
 | lst l=>obtain⟨vs,q,_⟩:=q;exact⟨_,q,trivial⟩
 | dic l=>obtain⟨l',q,_⟩:=q;exact⟨_,q,trivial⟩
 | ins c fs=>obtain⟨dx,EK,q,_⟩:=q;exact⟨_,q,trivial⟩
 | tdc ks=>obtain⟨xs,q,_⟩:=q;exact⟨_,q,trivial⟩
def HR.mem_some(R:HR K cl μ H h)(hm:a∈μ):∃u,H a=À u/\oq (À u):=by
 obtain⟨n,hn⟩:=qH.mp hm;have hl:n<h.length:=by rw[<-R.len];exact(zJ.mp hn).1
 exact(R.ob n a h[n] hn (zP hl)).some
def HR.fresh(R:HR K cl μ H h)(e:H a=Á):a∉μ:=λhm=>by
 obtain⟨u,q,_⟩:=R.mem_some hm;rw[e] at q;cases q
def HR.notours(R:HR K cl μ H h)(e:H a=À u)(n:¬oq (À u)):a∉μ:=λhm=>by
 obtain⟨u',q,m⟩:=R.mem_some hm;rw[e] at q;cases q;exact n m
def HR.notup(R:HR K cl μ H h)(e:Rd H a (.tup xs)):a∉μ:=by
 rcases e with e | ⟨o,e⟩
 .exact R.notours e λz=>z
 .exact R.notours e λz=>z
def SqF.ext(E:Ext μ H d5 H')(e:SqF K μ H a vs):SqF K d5 H' a vs:=by
 rcases e with ⟨e | ⟨o,e⟩,n⟩ | e
 .exact .inl ⟨.inl (E.fr _ _ e n).1,(E.fr _ _ e n).2⟩
 .exact .inl ⟨.inr ⟨o,(E.fr _ _ e n).1⟩,(E.fr _ _ e n).2⟩
 .exact .inr e
def SqD.ext(E:Ext μ H d5 H')(e:SqD μ H a l):SqD d5 H' a l:=by
 obtain⟨e | ⟨o,e⟩,n⟩:=e
 .exact⟨.inl (E.fr _ _ e n).1,(E.fr _ _ e n).2⟩
 .exact⟨.inr ⟨o,(E.fr _ _ e n).1⟩,(E.fr _ _ e n).2⟩
def SqT.ext(R:HR K cl μ H h)(E:Ext μ H d5 H')(e:SqT K H a xs):SqT K H' a xs:=by
 rcases e with e | e
 .have n:=R.notup e
  rcases e with e | ⟨o,e⟩
  .exact .inl (.inl (E.fr _ _ e n).1)
  .exact .inl (.inr ⟨o,(E.fr _ _ e n).1⟩)
 .exact .inr e
theorem RW.ext(R:HR K cl μ H h)(E:Ext μ H d5 H'){w:W}(r:RW K μ H w v):RW K d5 H' w v:=
 RW.rec (motive_1:=λw v _=>RW K d5 H' w v) (motive_2:=λl vs _=>RWs K d5 H' l vs) .non .bl .int .str (λs _ r=>.tup (SqT.ext R E s) r) (λe=>.ref (E.get e)) (λs _ r=>.fls (SqF.ext E s) r) (λs k a b _ r=>.fdc (SqD.ext E s) k a b r) .fn .nil (λ_ _ a b=>.cons a b) r
theorem RWs.ext(R:HR K cl μ H h)(E:Ext μ H d5 H'){l:List W}(r:RWs K μ H l vs):RWs K d5 H' l vs:=
 RWs.rec (motive_1:=λw v _=>RW K d5 H' w v) (motive_2:=λl vs _=>RWs K d5 H' l vs) .non .bl .int .str (λs _ r=>.tup (SqT.ext R E s) r) (λe=>.ref (E.get e)) (λs _ r=>.fls (SqF.ext E s) r) (λs k a b _ r=>.fdc (SqD.ext E s) k a b r) .fn .nil (λ_ _ a b=>.cons a b) r
theorem ER.ext(R:HR K cl μ H h)(E:Ext μ H d5 H')(e:ER K μ H ρ σ):ER K d5 H' ρ σ:=
 ⟨e.len,λi w q=>let ⟨v,q1,r⟩:=e.at_ i w q;⟨v,q1,r.ext R E⟩⟩
theorem RWs.length:∀{l:List W} {vs:List V},RWs K μ H l vs->l.length=vs.length
 | _,_,.nil=>rfl
 | _,_,.cons _ t=>jt (· + 1) (RWs.length t)
theorem RWs.get:∀{l:List W} {vs:List V} {i:Nat} {w:W},RWs K μ H l vs->l[i]?=À w->∃v,vs[i]?=À v/\RW K μ H w v
 | _,_,_,_,.nil,e=>by simp at e
 | _,_,0,_,.cons r _,e=>by simp at e;subst e;exact⟨_,rfl,r⟩
 | _,_,i+1,w,.cons _ t,e=>by
  obtain⟨v,h1,h2⟩:=RWs.get (i:=i) (w:=w) t (by simpa using e);exact⟨v,by simpa using h1,h2⟩
theorem RWs.append:∀{l l':List W} {vs FM:List V},RWs K μ H l vs->RWs K μ H l' FM->RWs K μ H (l++l') (vs++FM)
 | _,_,_,_,.nil,s=>s
 | _,_,_,_,.cons r t,s=>.cons r (RWs.append t s)
theorem RWs.take:∀{l:List W} {vs:List V} (n:Nat),RWs K μ H l vs->RWs K μ H (l.take n) (vs.take n)
 | _,_,0,_=>.nil
 | _,_,_+1,.nil=>.nil
 | _,_,n+1,.cons r t=>.cons r (RWs.take n t)
theorem RWs.drop:∀{l:List W} {vs:List V} (n:Nat),RWs K μ H l vs->RWs K μ H (l.drop n) (vs.drop n)
 | _,_,0,r=>r
 | _,_,_+1,.nil=>.nil
 | _,_,n+1,.cons _ t=>RWs.drop n t
theorem RWs.set(r:RW K μ H w v):∀{l:List W} {vs:List V} (i:Nat),RWs K μ H l vs->RWs K μ H (l.set i w) (vs.set i v)
 | _,_,_,.nil=>.nil
 | _,_,0,.cons _ t=>.cons r t
 | _,_,i+1,.cons q t=>.cons q (RWs.set r i t)
theorem RWs.dropLast{l:List W}{vs:List V}(r:RWs K μ H l vs):RWs K μ H l.dropLast vs.dropLast:=by
 induction l generalizing vs with
 | nil=>cases r;exact .nil
 | cons w l ih=>cases r with | cons r t=>cases t with
  | nil=>exact .nil
  | cons a b=>exact .cons r (ih (.cons a b))
theorem RWs.rep(r:RWs K μ H l vs):∀k:Nat,RWs K μ H (Ç k l).flatten (Ç k vs).flatten
 | 0=>.nil
 | k+1=>by
  rw[qt,qt,qY,qY];exact r.append (RWs.rep r k)
theorem RWs.ints:∀ns:List Int,RWs K μ H (ns.map W.int) (ns.map V.int)
 | []=>.nil
 | n::r=>.cons (.int n) (RWs.ints r)
theorem OR.ext(R:HR K cl μ H h)(E:Ext μ H d5 H')(e:H' a=H a)(q:OR K cl μ H a o):OR K cl d5 H' a o:=by
 cases o with
 | lst l=>obtain⟨vs,q,r⟩:=q;exact⟨vs,e.trans q,r.ext R E⟩
 | dic l=>obtain⟨l',q,k,r⟩:=q;exact⟨l',e.trans q,k,r.ext R E⟩
 | ins c fs=>obtain⟨dx,EK,q,k,r⟩:=q;exact⟨dx,EK,e.trans q,k,r.ext R E⟩
 | tdc ks=>obtain⟨xs,q,k1,k2,k3,r⟩:=q;exact⟨xs,e.trans q,k1,k2,k3,r.ext R E⟩
def Ext.new(hp:H p=Á):Ext μ H (μ++[p]) (upd H p u):=
 ⟨jH _ _,λb o e n=>by
  have ne:b≠p:=qf e hp
  exact⟨by rw[kF ne];exact e,by simp[n,ne]⟩⟩
def Ext.side(hp:H p=Á):Ext μ H μ (upd H p u):=
 ⟨jf _,λb o e n=>⟨by rw[kF (qf e hp)];exact e,n⟩⟩
theorem HR.side(R:HR K cl μ H h)(hp:H p=Á):HR K cl μ (upd H p u) h:=
 have hm:=R.fresh hp;⟨R.len,R.nd,λn a o e1 e2=>OR.ext R (Ext.side hp) (kF (by rintro rfl;exact hm (qj e1))) (R.ob n a o e1 e2)⟩
theorem HR.new(R:HR K cl μ H h)(hp:H p=Á)(q:OR K cl (μ++[p]) (upd H p u) p o):HR K cl (μ++[p]) (upd H p u) (h++[o]):=by
 have hm:=R.fresh hp;refine⟨by simp[R.len],?_,λn a o' e1 e2=>?_⟩
 .rw[xx]
  exact⟨R.nd,by simp,by simp;exactλa ha=>by rintro rfl;exact hm ha⟩
 .by_cases hn:n<μ.length
  .rw[zY hn] at e1
   rw[zY (by rw[<-R.len];exact hn)] at e2;exact OR.ext R (Ext.new hp) (kF (by rintro rfl;exact hm (qj e1))) (R.ob n a o' e1 e2)
  .rw[kZ ∅] at e1
   rw[kZ (by rw[<-R.len];omega)] at e2;rw[R.len] at e1;have:n-h.length=0:=by
    by_cases z:n-h.length=0
    .exact z
    .rw[j6 (by simp;omega)] at e1;cases e1
   rw[this] at e1 e2;simp at e1 e2;subst e1;subst e2;exact q
def Ext.put{n:Nat}{a:È}(hn:μ[n]?=À a):Ext μ H μ (upd H a u):=
 ⟨jf _,λb o e m=>⟨by rw[kF (by rintro rfl;exact m (qj hn))];exact e,m⟩⟩
theorem HR.put{n:Nat}{a:È}(R:HR K cl μ H h)(hn:μ[n]?=À a)(q:OR K cl μ (upd H a u) a o):HR K cl μ (upd H a u) (h.set n o):=by
 refine⟨by simp[R.len],R.nd,λm b o' e1 e2=>?_⟩;by_cases hm:m=n
 .subst hm
  rw[hn] at e1;cases e1;rw[qR (by rw[<-R.len];exact(zJ.mp hn).1)] at e2;cases e2;exact q
 .rw[vg (jq hm)] at e2
  have ne:b≠a:=by
   rintro rfl;obtain⟨h1,EE⟩:=zJ.mp e1;obtain⟨h2,Ov⟩:=zJ.mp hn;exact hm ((v9 R.nd).mp (EE.trans Ov.symm))
  exact OR.ext R (Ext.put hn) (kF ne) (R.ob m b o' e1 e2)
end
noncomputable def KQ(K:Sb)(cl:Cl)(μ:List È)(H:Hp)(h':MH)(w:W)(Q:VK):Prop:=
 ∀d5 H' v,Ext μ H d5 H'->HR K cl d5 H' h'->RW K d5 H' w v->Q v H'
inductive tM(K:Sb)(cl:Cl)(m:ME)(σ:L2.St)(H:Hp)(Q:VK):Prop
 | mk (μ:List È) (h:MH) (ρ:En) (w:W) (h':MH) (p0:HR K cl μ H h) (p1:ER K μ H ρ σ) (p2:m ρ h=À (w,h')) (p3:KQ K cl μ H h' w Q):tM K cl m σ H Q
inductive tMT(K:Sb)(cl:Cl)(m:MT)(σ:L2.St)(H:Hp)(Q:Bool->Hp->Prop):Prop
 | mk (μ:List È) (h:MH) (ρ:En) (b:Bool) (h':MH) (p0:HR K cl μ H h) (p1:ER K μ H ρ σ) (p2:m ρ h=À (b,h')) (p3:∀d5 H',Ext μ H d5 H'->HR K cl d5 H' h'->Q b H'):tMT K cl m σ H Q
abbrev SE(X:Cx)(cl:Cl)(e:Î)(m:ME):Prop:=PE X e (tM X.K cl m)
abbrev ST(X:Cx)(cl:Cl)(e:Î)(m:MT):Prop:=PT X e (tMT X.K cl m)
def PE.wk(h:PE X e t)(w:∀σ H Q,t' σ H Q->t σ H Q):PE X e t':=λag s σ H Q I q=>h ag s σ H Q I (w σ H Q q)
def PT.wk(h:PT X e t)(w:∀σ H Q,t' σ H Q->t σ H Q):PT X e t':=λag s σ H Q I q=>h ag s σ H Q I (w σ H Q q)
def PA.wk(h:PA X e t)(w:∀σ H Q,t' σ H Q->t σ H Q):PA X e t':=λpos ag s σ H Q I q=>h pos ag s σ H Q I (w σ H Q q)
def PS.wk(h:PS X e t)(w:∀D σ H,t' D σ H->t D σ H):PS X e t':=λag s σ H D I q=>h ag s σ H D I (w D σ H q)
def PSs.wk(h:PSs X e t)(w:∀D σ H,t' D σ H->t D σ H):PSs X e t':=λag s σ H D I q=>h ag s σ H D I (w D σ H q)
noncomputable def zd(i:Nat):ME:=λρ h=>match ρ[i]? with
 | some (À w)=>À (w,h)
 | _=>Á
noncomputable def eC(w:W):ME:=λ_ h=>À (w,h)
noncomputable abbrev OJ(i:Int):ME:=eC (.int i)
noncomputable abbrev OZ(s:Æ):ME:=eC (.str s)
noncomputable def zh(f:W->W->M W)(a b:ME):ME:=λρ=>bnd (a ρ) λx=>bnd (b ρ) λy=>f x y
noncomputable def vw(f:W->M W)(a:ME):ME:=λρ=>bnd (a ρ) f
noncomputable def uu:List ME->En->M (List W)
 | [],_=>λh=>À ([],h)
 | m::r,ρ=>bnd (m ρ) λx=>bnd (uu r ρ) λxs h=>À (x::xs,h)
noncomputable def ze(f:List W->M W)(as:List ME):ME:=λρ=>bnd (uu as ρ) f
noncomputable def lJ(w:W):M Bool:=λh=>match w with
 | .bl b=>À (b,h)
 | _=>Á
noncomputable def zD(a:ME):MT:=λρ=>bnd (a ρ) lJ
noncomputable def vb(a b:MT):MT:=λρ=>bnd (a ρ) λx=>if x=Ã then b ρ else λh=>À (Â,h)
noncomputable def bq(a b:MT):MT:=λρ=>bnd (a ρ) λx=>if x=Ã then (λh=>À (Ã,h)) else b ρ
noncomputable def dC(a:MT):MT:=λρ=>bnd (a ρ) λx h=>À (!x,h)
noncomputable def x5(a b:ME):ME:=λρ=>bnd (a ρ) λx=>bnd (lJ x) λc=>if c=Ã then b ρ else λh=>À (.bl Â,h)
noncomputable def Yj(a b:ME):ME:=λρ=>bnd (a ρ) λx=>bnd (lJ x) λc=>if c=Ã then (λh=>À (.bl Ã,h)) else b ρ
noncomputable def Ku(a:ME):ME:=λρ=>bnd (a ρ) λx=>bnd (lJ x) λc h=>À (.bl (!c),h)
noncomputable def Y5(t:MT)(a b:ME):ME:=λρ=>bnd (t ρ) λc=>if c=Ã then a ρ else b ρ
inductive rM(K:Sb)(cl:Cl)(f:W->W->M W)(x:V)(y:V)(H:Hp)(Q:VK):Prop
 | mk (μ:List È) (h:MH) (wx:W) (wy:W) (w:W) (h':MH) (p0:HR K cl μ H h) (p1:RW K μ H wx x) (p2:RW K μ H wy y) (p3:f wx wy h=À (w,h')) (p4:KQ K cl μ H h' w Q):rM K cl f x y H Q
inductive rM1(K:Sb)(cl:Cl)(f:W->M W)(x:V)(H:Hp)(Q:VK):Prop
 | mk (μ:List È) (h:MH) (wx:W) (w:W) (h':MH) (p0:HR K cl μ H h) (p1:RW K μ H wx x) (p2:f wx h=À (w,h')) (p3:KQ K cl μ H h' w Q):rM1 K cl f x H Q
inductive rMs(K:Sb)(cl:Cl)(f:List W->M W)(xs:List V)(H:Hp)(Q:VK):Prop
 | mk (μ:List È) (h:MH) (ws:List W) (w:W) (h':MH) (p0:HR K cl μ H h) (p1:RWs K μ H ws xs) (p2:f ws h=À (w,h')) (p3:KQ K cl μ H h' w Q):rMs K cl f xs H Q
inductive tMA(K:Sb)(cl:Cl)(ms:List ME)(σ:L2.St)(H:Hp)(Q:List V->Hp->Prop):Prop
 | mk (μ:List È) (h:MH) (ρ:En) (ws:List W) (h':MH) (p0:HR K cl μ H h) (p1:ER K μ H ρ σ) (p2:uu ms ρ h=À (ws,h')) (p3:∀d5 H' vs,Ext μ H d5 H'->HR K cl d5 H' h'->RWs K d5 H' ws vs->Q vs H'):tMA K cl ms σ H Q
abbrev SA(X:Cx)(cl:Cl)(es:List Î)(ms:List ME):Prop:=PA X es (tMA X.K cl ms)
section
variable{X:Cx}{cl:Cl}{a b c:Î}{ma mb mc:ME}{pos:ĝ}{μ d5:List È}{H H':Hp}{h h':MH}
def KQ.pure{w:W}{v:V}{Q:VK}{K:Sb}(k:KQ K cl μ H h w Q)(R:HR K cl μ H h)(r:RW K μ H w v):Q v H:=k μ H v .refl R r
def KQ.ext{w:W}{Q:VK}{K:Sb}(E:Ext μ H d5 H')(k:KQ K cl μ H h w Q):KQ K cl d5 H' h w Q:=λhG H2 v E2 R2 r2=>k hG H2 v (E.trans E2) R2 r2
def Cc(i:Nat)(hN:↥(X.N[i]?=À x))(hv:Qh X.env.scope x:=by first | exact Or.inl rfl | exact Or.inr (Or.inl rfl) | exact Or.inr (Or.inr rfl))
  (hd:⇑((x==("__debug__":Æ))=Â)) (A4:⇑((x==("__classdict__":Æ))=Â)):SE X cl (.Name x pos) (zd i):=
 PE.wk (Bg (i:=i) hN hv hd A4) λσ H Q q0=>by
  obtain⟨μ,h,ρ,w,h',R,er,e,k⟩:=q0;unfold zd at e;split at e
  .rename_i w' q
   cases e;obtain⟨v,q1,r⟩:=er.at_ i _ q;exact⟨v,q1,k.pure R r⟩
  .cases e
def rF{w:W}{v:V}(he:PE X a (tC v))(r:∀μ H,RW X.K μ H w v):SE X cl a (eC w):=
 PE.wk he λσ H Q q0=>by
  obtain⟨μ,h,ρ,w',h',R,er,e,k⟩:=q0;cases e;exact k.pure R (r μ H)
def CN{j}:SE X cl (.Constant (.int i) j pos) (eC (.int i)):=rF CI λ_ _=>.int i
def DY{j}:SE X cl (.Constant (.bool i) j pos) (eC (.bl i)):=rF DJ λ_ _=>.bl i
def Cv{j}:SE X cl (.Constant .none j pos) (eC .non):=rF BP λ_ _=>.non
def Bq{j}:SE X cl (.Constant (.str i) j pos) (eC (.str i)):=rF BG λ_ _=>.str i
def Uy(hm:X.mg x=À u)(r:RelV v u)(rw:∀μ H,RW X.K μ H w v)(hg:↥(Gl X x))(hd:⇑((x==("__debug__":Æ))=Â)):SE X cl (.Name x pos) (eC w):=
 rF (ZT hg hm r hd) rw
def fP{K:Sb}{f:W->W->M W}(q:tM K cl (zh f ma mb) σ H Q):Qr (rM K cl f) (tM K cl ma) (tM K cl mb) σ H Q:=by
 obtain⟨μ,h,ρ,w,h',R,er,e,k⟩:=q;obtain⟨x,h1,e1,e⟩:=kg e;obtain⟨y,h2,e2,e3⟩:=kg e;exact⟨μ,h,ρ,x,h1,R,er,e1,λd3 H1 vx E1 R1 rx=>⟨d3,h1,ρ,y,h2,R1,er.ext R E1,e2,λhG H2 vy E2 R2 ry=>⟨hG,h2,x,y,w,h',R2,rx.ext R1 E2,ry,e3,k.ext (E1.trans E2)⟩⟩⟩
def DD(ho:qv X (ë op) (rM X.K cl f))(ha:SE X cl a ma)(hb:SE X cl b mb):SE X cl (.BinOp a op b pos) (zh f ma mb):=
 PE.wk (Fv ho ha hb) λσ H Q q=>fP q
def BV(ho:qv X (Ù op) (rM X.K cl f))(ha:SE X cl a ma)(hb:SE X cl b mb)(hm:ī op b=Â:=by first | exact nomark _ | rfl):SE X cl (.Compare a [op] [b] pos) (zh f ma mb):=
 PE.wk (UO ho ha hb hm) λσ H Q q=>fP q
def Fe(ho:QZ X (unaryOp op) (rM1 X.K cl f))(ha:SE X cl a ma):SE X cl (.UnaryOp op a pos) (vw f ma):=
 PE.wk (Fd ho ha) λσ H Q q0=>by
  obtain⟨μ,h,ρ,w,h',R,er,e,k⟩:=q0;obtain⟨x,h1,e1,e⟩:=kg e;exact⟨μ,h,ρ,x,h1,R,er,e1,λd3 H1 vx E1 R1 rx=>⟨d3,h1,x,w,h',R1,rx,e,k.ext E1⟩⟩
theorem RW.bl_of{K:Sb}{k:Bool}(r:RW K μ H (.bl k) v):v=.bl k:=by cases r;rfl
def lV{w:W}{b:Bool}(e:lJ w h=À (b,h')):w=.bl b/\h=h':=by
 unfold lJ at e;split at e
 .cases e;exact⟨rfl,rfl⟩
 .cases e
def m6{K:Sb}{σ:L2.St}(q:tMT K cl (zD ma) σ H Q):tM K cl ma σ H λx H1=>∃c,x=.bl c/\Q c H1:=by
 obtain⟨μ,h,ρ,b,h',R,er,e,k⟩:=q;obtain⟨x,h1,e1,e⟩:=kg e;obtain⟨rfl,rfl⟩:=lV e;exact⟨μ,h,ρ,_,h1,R,er,e1,λd3 H1 vx E1 R1 rx=>⟨b,rx.bl_of,k d3 H1 E1 R1⟩⟩
def CM(ha:SE X cl a ma)(he:∀whole,isTrue a X.env whole=(do let v <-whole;ż a.pos;holding [v] (truthy v)):=by intro _;rfl):ST X cl a (zD ma):=
 PT.wk (Bb ha he) λσ H Q q=>m6 q
def Do(ho:qv X (Ù op) (rM X.K cl f))(ha:SE X cl a ma)(hb:SE X cl b mb)(hm:ī op b=Â:=by first | exact nomark _ | rfl):ST X cl (.Compare a [op] [b] pos) (zD (zh f ma mb)):=
 PT.wk (XM ho ha hb hm) λσ H Q q=>by
  obtain⟨μ,h,ρ,w,h',R,er,e,k⟩:=m6 q;exact fP ⟨μ,h,ρ,w,h',R,er,e,k⟩
abbrev SW(X:Cx)(cl:Cl)(e:Î)(m:MT):Prop:=PW X e (tMT X.K cl m)
def PW.wk(h:PW X e t)(w:∀σ H Q,t' σ H Q->t σ H Q):PW X e t':=λwh ag s σ H Q I q=>h wh ag s σ H Q I (w σ H Q q)
variable{ta tb:MT}{rest:List Î}
def XQ(ha:ST X cl a ta):SW X cl (.BoolOp .And [a] pos) ta:=pw_and1 ha
def C8(ha:ST X cl a ta):SW X cl (.BoolOp .Or [a] pos) ta:=pw_or1 ha
def Bm(ha:ST X cl a ta)(hb:SW X cl (.BoolOp .And (b::rest) pos) tb):SW X cl (.BoolOp .And (a::b::rest) pos) (vb ta tb):=
 PW.wk (pw_and ha hb) λσ H Q q0=>by
  obtain⟨μ,h,ρ,w,h',R,er,e,k⟩:=q0;obtain⟨x,h1,e1,e⟩:=kg e;refine⟨μ,h,ρ,x,h1,R,er,e1,λd3 H1 E1 R1=>?_⟩;cases x with
  | true=>rw[zW rfl] at e ⊢;exact⟨d3,h1,ρ,w,h',R1,er.ext R E1,e,λhG H2 E2 R2=>k hG H2 (E1.trans E2) R2⟩
  | false=>rw[kh zR] at e ⊢;cases e;exact k d3 H1 E1 R1
def DS(ha:ST X cl a ta)(hb:SW X cl (.BoolOp .Or (b::rest) pos) tb):SW X cl (.BoolOp .Or (a::b::rest) pos) (bq ta tb):=
 PW.wk (pw_or ha hb) λσ H Q q0=>by
  obtain⟨μ,h,ρ,w,h',R,er,e,k⟩:=q0;obtain⟨x,h1,e1,e⟩:=kg e;refine⟨μ,h,ρ,x,h1,R,er,e1,λd3 H1 E1 R1=>?_⟩;cases x with
  | false=>rw[kh zR] at e ⊢;exact⟨d3,h1,ρ,w,h',R1,er.ext R E1,e,λhG H2 E2 R2=>k hG H2 (E1.trans E2) R2⟩
  | true=>rw[zW rfl] at e ⊢;cases e;exact k d3 H1 E1 R1
def UJ(h:SW X cl a ta):ST X cl a ta:=h.pt
def BR(ha:ST X cl a ta):ST X cl (.UnaryOp .Not a pos) (dC ta):=
 PT.wk (CC ha) λσ H Q q0=>by
  obtain⟨μ,h,ρ,w,h',R,er,e,k⟩:=q0;obtain⟨x,h1,e1,e⟩:=kg e;cases e;exact⟨μ,h,ρ,x,_,R,er,e1,λd3 H1 E1 R1=>k d3 H1 E1 R1⟩
def Cz{op}(h:SE X cl a ma):SE X cl (.BoolOp op [a] pos) ma:=Bf h
def Bi(ha:SE X cl a ma)(hb:SE X cl (.BoolOp .And (b::rest) pos) mb):SE X cl (.BoolOp .And (a::b::rest) pos) (x5 ma mb):=
 PE.wk (CW ha hb) λσ H Q q0=>by
  obtain⟨μ,h,ρ,w,h',R,er,e,k⟩:=q0;obtain⟨x,h1,e1,e⟩:=kg e;obtain⟨c,h2,e2,e⟩:=kg e;obtain⟨rfl,rfl⟩:=lV e2;refine⟨μ,h,ρ,_,h1,R,er,e1,λd3 H1 vx E1 R1 rx=>⟨c,rx.bl_of,?_⟩⟩;cases c with
  | true=>rw[zW rfl] at e ⊢;exact⟨d3,h1,ρ,w,h',R1,er.ext R E1,e,k.ext E1⟩
  | false=>rw[kh zR] at e ⊢;cases e;exact k d3 H1 _ E1 R1 (.bl Â)
def D4(ha:SE X cl a ma)(hb:SE X cl (.BoolOp .Or (b::rest) pos) mb):SE X cl (.BoolOp .Or (a::b::rest) pos) (Yj ma mb):=
 PE.wk (D7 ha hb) λσ H Q q0=>by
  obtain⟨μ,h,ρ,w,h',R,er,e,k⟩:=q0;obtain⟨x,h1,e1,e⟩:=kg e;obtain⟨c,h2,e2,e⟩:=kg e;obtain⟨rfl,rfl⟩:=lV e2;refine⟨μ,h,ρ,_,h1,R,er,e1,λd3 H1 vx E1 R1 rx=>⟨c,rx.bl_of,?_⟩⟩;cases c with
  | false=>rw[kh zR] at e ⊢;exact⟨d3,h1,ρ,w,h',R1,er.ext R E1,e,k.ext E1⟩
  | true=>rw[zW rfl] at e ⊢;cases e;exact k d3 H1 _ E1 R1 (.bl Ã)
def Bn(ha:SE X cl a ma):SE X cl (.UnaryOp .Not a pos) (Ku ma):=
 PE.wk (CS ha) λσ H Q q0=>by
  obtain⟨μ,h,ρ,w,h',R,er,e,k⟩:=q0;obtain⟨x,h1,e1,e⟩:=kg e;obtain⟨c,h2,e2,e⟩:=kg e;obtain⟨rfl,rfl⟩:=lV e2;cases e;exact⟨μ,h,ρ,_,_,R,er,e1,λd3 H1 vx E1 R1 rx=>⟨c,rx.bl_of,k d3 H1 _ E1 R1 (.bl _)⟩⟩
def DX(ht:ST X cl t ta)(ha:SE X cl a ma)(hb:SE X cl b mb):SE X cl (.IfExp t a b pos) (Y5 ta ma mb):=
 PE.wk (V3 ht ha hb) λσ H Q q0=>by
  obtain⟨μ,h,ρ,w,h',R,er,e,k⟩:=q0;obtain⟨x,h1,e1,e⟩:=kg e;refine⟨μ,h,ρ,x,h1,R,er,e1,λd3 H1 E1 R1=>?_⟩;cases x with
  | true=>rw[zW rfl] at e ⊢;exact⟨d3,h1,ρ,w,h',R1,er.ext R E1,e,k.ext E1⟩
  | false=>rw[kh zR] at e ⊢;exact⟨d3,h1,ρ,w,h',R1,er.ext R E1,e,k.ext E1⟩
variable{es:List Î}{ms:List ME}{e:Î}{m:ME}
def lX:SA X cl [] []:=PA.wk Vf λσ H Q q0=>by
 obtain⟨μ,h,ρ,ws,h',R,er,e,k⟩:=q0;cases e;exact k μ H [] .refl R .nil
def eU(ha:SE X cl e m)(hr:SA X cl es ms)(hs:↥(Ê (e::es) X.env=(Â,eval e X.env)::Ê es X.env)):SA X cl (e::es) (m::ms):=
 PA.wk (mT ha hr hs) λσ H Q q0=>by
  obtain⟨μ,h,ρ,ws,h',R,er,e,k⟩:=q0;obtain⟨x,h1,e1,e⟩:=kg e;obtain⟨xs,h2,e2,e⟩:=kg e;cases e;exact⟨μ,h,ρ,x,h1,R,er,e1,λd3 H1 vx E1 R1 rx=>⟨d3,h1,ρ,xs,_,R1,er.ext R E1,e2,λhG H2 vs E2 R2 rs=>k hG H2 _ (E1.trans E2) R2 (.cons (rx.ext R1 E2) rs)⟩⟩
noncomputable def cap:Nat:=1000000
def yv:cap<=sizeLine:=by decide
noncomputable def zv:List W->M W:=λws h=>if ws.length<=cap then À (.tup ws,h) else Á
noncomputable def kx:List W->M W:=λws h=>if ws.length<=cap then À (.fls ws,h) else Á
noncomputable def yY:List W->M W:=λws h=>if ws.length<=cap then À (.ref h.length,h++[.lst ws]) else Á
theorem KQ.tup{K:Sb}{ws:List W}{xs:List V}{Q:VK}{p:È}(k:KQ K cl μ H h (.tup ws) Q)(R:HR K cl μ H h)(rs:RWs K μ H ws xs)(hp:H p=Á):Q (.ref p) (upd H p (.tup xs)):=
 k μ _ _ (.side hp) (R.side hp) (.tup (SqT.of qq) (rs.ext R (.side hp)))
theorem KQ.lst{K:Sb}{ws:List W}{xs:List V}(k:KQ K cl μ H (h++[.lst ws]) (.ref h.length) Q)(R:HR K cl μ H h)(rs:RWs K μ H ws xs)(hp:H p=Á):Q (.ref p) (upd H p (.lst xs)):=
 k (μ++[p]) _ _ (.new hp) (R.new hp ⟨xs,qq,rs.ext R (.new hp)⟩) (.ref (by rw[<-R.len];simp))
theorem KQ.fls{K:Sb}{ws:List W}{xs:List V}{Q:VK}{p:È}(k:KQ K cl μ H h (.fls ws) Q)(R:HR K cl μ H h)(rs:RWs K μ H ws xs)(hp:H p=Á):Q (.ref p) (upd H p (.lst xs)):=
 k μ _ _ (.side hp) (R.side hp) (.fls (.inl ⟨.inl qq,R.fresh hp⟩) (rs.ext R (.side hp)))
def Cf{x1}(hs:SA X cl es ms):SE X cl (.Tuple es x1 pos) (ze zv ms):=
 PE.wk (CY hs) λσ H Q q0=>by
  obtain⟨μ,h,ρ,w,h',R,er,e,k⟩:=q0;obtain⟨ws,h1,e1,e⟩:=kg e;refine⟨μ,h,ρ,ws,h1,R,er,e1,λd3 H1 vs E1 R1 rs=>?_⟩;unfold zv at e;split at e
  .rename_i hl
   cases e;exact⟨zz (by rw[<-rs.length];exact hl) yv,λp hp=>(k.ext E1).tup R1 rs hp⟩
  .cases e
def Co(hs:SA X cl es ms):SE X cl (.List es pos) (ze kx ms):=
 PE.wk (Qd hs) λσ H Q q0=>by
  obtain⟨μ,h,ρ,w,h',R,er,e,k⟩:=q0;obtain⟨ws,h1,e1,e⟩:=kg e;refine⟨μ,h,ρ,ws,h1,R,er,e1,λd3 H1 vs E1 R1 rs=>?_⟩;unfold kx at e;split at e
  .rename_i hl
   cases e;exact⟨zz (by rw[<-rs.length];exact hl) yv,λp hp=>(k.ext E1).fls R1 rs hp⟩
  .cases e
def CG(hs:SA X cl es ms):SE X cl (.List es pos) (ze yY ms):=
 PE.wk (Qd hs) λσ H Q q0=>by
  obtain⟨μ,h,ρ,w,h',R,er,e,k⟩:=q0;obtain⟨ws,h1,e1,e⟩:=kg e;refine⟨μ,h,ρ,ws,h1,R,er,e1,λd3 H1 vs E1 R1 rs=>?_⟩;unfold yY at e;split at e
  .rename_i hl
   cases e;exact⟨zz (by rw[<-rs.length];exact hl) yv,λp hp=>(k.ext E1).lst R1 rs hp⟩
  .cases e
end
noncomputable def cf(K:Sb)(cl:Cl)(f:List W->M W):Sp:=λvs H Q _=>rMs K cl f vs H Q
mutual
noncomputable def low(m:Nat):W->Bool
 | .tup l=>lows m l
 | .fls l=>lows m l
 | .ref n=>decide (n<m)
 | .fdc l=>rW m l
 | _=>Ã
noncomputable def rW(m:Nat):List (Key×W)->Bool
 | []=>Ã
 | (_,w)::r=>low m w&&rW m r
noncomputable def lows(m:Nat):List W->Bool
 | []=>Ã
 | w::r=>low m w&&lows m r
end
open Classical in
noncomputable def gc(f:List W->M W):List W->M W:=λws h=>match f ws h with
 | some (w,h')=>if h<+:h' then (if low h.length w=Ã then À (w,h) else match w with
   | .ref n=>match h'[n]? with
    | some (.lst l)=>if lows h.length l=Ã then À (.fls l,h) else À (w,h')
    | _=>À (w,h')
   | _=>À (w,h')) else À (w,h')
 | none=>Á
def qh{h:MH}(e:f ws h=À (w,h'))(p:low h.length w=Ã)(q:h<+:h'):gc f ws h=À (w,h):=by
 unfold gc;rw[e];erw[p,q,kY]
def U3{h h':MH}(e:f ws h=À (.ref n,h'))(q:h<+:h')(hn:h.length<=n)(o:h'[n]?=À (.lst l))(p:lows h.length l=Ã):gc f ws h=À (.fls l,h):=by
 unfold gc;rw[e];have b:low h.length (.ref n)=Â:=by unfold low;simp;omega
 erw[b,q,kY,o,p,zN,jn]
theorem mP(m:Nat):∀l:List (Key×W),rW m l=lows m (l.map (·.2))
 | []=>by unfold rW lows;rfl
 | (k,w)::r=>by unfold rW;rw[mP m r];erw[zu];conv=>rhs;unfold lows
section
variable{K:Sb}{cl:Cl}{μ d5:List È}{H H':Hp}
theorem RWs.low(r:RWs K μ H l vs):lows μ.length l=Ã:=
 RWs.rec (motive_1:=λw _ _=>ML.low μ.length w=Ã) (motive_2:=λl _ _=>lows μ.length l=Ã) rfl (λ_=>rfl) (λ_=>rfl) (λ_=>rfl) (λ_ _ r=>r) (λe=>kO (zJ.mp e).1) (λ_ _ r=>r) (λ_ _ e _ _ r=>(mP ..).trans (e▸r)) rfl rfl (λ_ _ a b=>jm.mpr ⟨a,b⟩) r
def RWs.cut(pre:μ<+:d5)(p:lows μ.length l=Ã)(r:RWs K d5 H l vs):RWs K μ H l vs:=
 RWs.rec (motive_1:=λw v _=>ML.low μ.length w=Ã->RW K μ H w v) (motive_2:=λl vs _=>lows μ.length l=Ã->RWs K μ H l vs) (λ_=>.non) (λb _=>.bl b) (λb _=>.int b) (λb _=>.str b) (λs _ r p=>.tup s (r p)) (λ{n _} e p=>.ref (by
  have p:n<μ.length:=jD p;obtain⟨t,rfl⟩:=pre;rw[zY p] at e
  exact e)) (λs _ r p=>.fls (s.elim (λz=>.inl ⟨z.1,λq=>z.2 (pre.subset q)⟩) .inr) (r p)) (λs k e b _ r p=>.fdc ⟨s.1,λq=>s.2 (pre.subset q)⟩ k e b (r (e▸(mP ..).symm.trans p))) (λ_=>.fn) (λ_=>.nil) (λ_ _ a b p=>.cons (a (jm.mp p).1) (b (jm.mp p).2)) r p
theorem RW.cut(pre:μ<+:d5)(p:ML.low μ.length w=Ã)(r:RW K d5 H w v):RW K μ H w v:=by
 cases RWs.cut pre (l:=[w]) (jm.mpr ⟨p,rfl⟩) (.cons r .nil) with
 | cons r _=>exact r
theorem HR.cut(R:HR K cl μ H h)(E:Ext μ H d5 H')(R':HR K cl d5 H' h')(p:h<+:h'):HR K cl μ H' h:=by
 obtain⟨t,rfl⟩:=p;refine⟨R.len,R.nd,λn a o e1 e2=>?_⟩;have q:=R.ob n a o e1 e2;have q':=R'.ob n a o (E.get e1) (by rw[zY (zJ.mp e2).1];exact e2);cases o with
 | lst l=>obtain⟨RF,_,r0⟩:=q;obtain⟨vs,z,r⟩:=q';exact⟨vs,z,RWs.cut E.pre r0.low r⟩
 | dic l=>obtain⟨l0,_,_,r0⟩:=q;obtain⟨l',z,k,r⟩:=q';exact⟨l',z,k,RWs.cut E.pre r0.low r⟩
 | ins c fs=>obtain⟨_,RH,_,_,r0⟩:=q;obtain⟨dx,EK,z,k,r⟩:=q';exact⟨dx,EK,z,k,RWs.cut E.pre r0.low r⟩
 | tdc ks=>obtain⟨_,_,_,_,_,r0⟩:=q;obtain⟨xs,z,k1,k2,k3,r⟩:=q';exact⟨xs,z,k1,k2,k3,RWs.cut E.pre r0.low r⟩
def DU(q:cf K cl (gc f) vs H Q E):cf K cl f vs H Q E:=by
 obtain⟨μ,h,ws,w,h',R,rs,e,k⟩:=q;unfold gc at e;split at e
 .rename_i w1 h1 e1
  have plain:∀{w h'},À (w1,h1)=À (w,h')->KQ K cl μ H h' w Q->cf K cl f vs H Q E:=λq k=>by cases q;exact⟨μ,h,ws,_,_,R,rs,e1,k⟩
  split at e
  .rename_i c
   have cut:∀{d5 H'},Ext μ H d5 H'->Ext μ H μ H':=λE'=>⟨jf _,λb o e n=>⟨(E'.fr b o e n).1,n⟩⟩
   split at e
   .rename_i p
    cases e;refine⟨μ,h,ws,_,h1,R,rs,e1,λd5 H' v E' R' r'=>?_⟩;exact k μ H' v (cut E') (R.cut E' R' c) (RW.cut E'.pre (by rw[R.len];exact p) r')
   .rename_i p
    split at e
    .rename_i n
     split at e
     .rename_i l ho
      split at e
      .rename_i pl
       cases e;refine⟨μ,h,ws,_,h1,R,rs,e1,λd5 H' v E' R' r'=>?_⟩;cases r' with
       | @ref _ a hm=>
        obtain⟨FM,hv,rv⟩:=R'.ob n a _ hm ho;refine k μ H' _ (cut E') (R.cut E' R' c) (.fls (.inl ⟨.inl hv,λz=>?_⟩) (RWs.cut E'.pre (by rw[R.len];exact pl) rv));obtain⟨m,MN⟩:=qH.mp z;have h2:=E'.get MN;have lx:m<μ.length:=(zJ.mp MN).1;obtain⟨z1,z2⟩:=zJ.mp h2;obtain⟨z3,z4⟩:=zJ.mp hm;have:m=n:=(v9 R'.nd).mp (z2.trans z4.symm);subst this;refine p ?_;unfold low;rw[R.len] at lx;simpa using lx
      .exact plain e k
     .exact plain e k
    .exact plain e k
  .exact plain e k
 .cases e
end
section
variable{X:Cx}{cl:Cl}{k:Nat}{f:È}{fd:ą}{ps:List Æ}{x:Æ}{p pos:ĝ}{e:Î}{es:List Î}{g:List W->M W}{m:ME}{ms:List ME}
def d9{K:Sb}{f:List W->M W}{σ:L2.St}{H:Hp}(q:tM K cl (ze f ms) σ H Q):tMA K cl ms σ H λvs H1=>rMs K cl f vs H1 Q:=by
 obtain⟨μ,h,ρ,w,h',R,er,e,k⟩:=q;obtain⟨ws,h1,e1,e⟩:=kg e;exact⟨μ,h,ρ,ws,h1,R,er,e1,λd3 H1 vs E1 R1 rs=>⟨d3,h1,ws,w,h',R1,rs,e,k.ext E1⟩⟩
def Us(F:FnOk X.prog X.w X.K X.mg X.base dH k f fd ps (cf X.K cl g))(hr:Room k X.A)(hm:X.mg x=À (.ref f))(hk:ì X.K (.ref f)=Ã)(hb:Binds X.K fd ps [])
  (ha:SA X cl (e::es) ms) (hg:↥(Gl X x)) (AA:⇑((x==("__debug__":Æ))=Â)) (r6:↥(Ê (e::es) X.env=(Â,eval e X.env)::Ê es X.env)) (Ad:↥((ß pos (Ê es X.env)).any (·.1)=Â)):SE X cl (.Call (.Name x p) (e::es) [] pos) (ze g ms):=
 PE.wk (Ul F hr hg hm hk hb .nil Yo ha AA r6 Ad) λσ H Q q=>by
  obtain⟨μ,h,ρ,ws,h1,R,er,e1,k1⟩:=d9 q;exact⟨μ,h,ρ,ws,h1,R,er,e1,λd3 H1 vs E1 R1 rs=>by show cf X.K cl g (vs++[]) H1 Q E0;rw[qN];exact k1 d3 H1 vs E1 R1 rs⟩
def W6(F:FnOk X.prog X.w X.K X.mg X.base dH k f fd ps (cf X.K cl g))(hr:Room k X.A)(hm:X.mg x=À (.ref f))(hk:ì X.K (.ref f)=Ã)(hb:Binds X.K fd ps [])
  (hg:↥(Gl X x)) (AA:⇑((x==("__debug__":Æ))=Â)):SE X cl (.Call (.Name x p) [] [] pos) (ze g []):=
 PE.wk (Yb F hr hg hm hk hb .nil Yo AA) λσ H Q q=>by
  obtain⟨μ,h,ρ,ws,h1,R,er,e1,k1⟩:=d9 q;cases e1;exact k1 μ H [] .refl R .nil
def Wk{id:String}(hc:va X (.builtin id) (rMs X.K cl g))(hm:X.mg x=Á)(hv:Õ x=À (.builtin id))(ha:SA X cl (e::es) ms)(hg:↥(Gl X x))(hn:⇑(x≠"__name__"))(AA:⇑((x==("__debug__":Æ))=Â))(r6:↥(Ê (e::es) X.env=(Â,eval e X.env)::Ê es X.env))(Ad:↥((ß pos (Ê es X.env)).any (·.1)=Â)) :
  SE X cl (.Call (.Name x p) (e::es) [] pos) (ze g ms):=
 PE.wk (rB hc hg hm hv ha hn AA r6 Ad) λσ H Q q=>d9 q
def Q0{id:String}(hc:va X (.type id) (rMs X.K cl g))(hm:X.mg x=Á)(hv:Õ x=À (.type id))(ha:SA X cl (e::es) ms)(hg:↥(Gl X x))(hn:⇑(x≠"__name__"))(AA:⇑((x==("__debug__":Æ))=Â))(r6:↥(Ê (e::es) X.env=(Â,eval e X.env)::Ê es X.env))(Ad:↥((ß pos (Ê es X.env)).any (·.1)=Â)) :
  SE X cl (.Call (.Name x p) (e::es) [] pos) (ze g ms):=
 PE.wk (QH hc hg hm hv ha hn AA r6 Ad) λσ H Q q=>d9 q
end
end ML
namespace L2
open PySem PySem.W PyProof.Rows
section
variable{prog:Í}{w:Ñ}{A:Ö}{E:Ä->Å->Prop}
theorem nR{items:Array Ä}(hh:A.handled=Á)(Am:t≠it):∀(n i:Nat) (s:Å) (Q:List Ä->Å->Prop),s.heap.IsListIter it t i->s.heap.IsList t items->i+n<=items.size->
  (∀h' tk,h'.IsListIter it t (i+n)->h'.IsList t items->(∀b o,b≠it->s.heap.get? b=À o->h'.get? b=À o)->Q ((items.toList.drop i).take n) { s with heap:=h',toks:=tk })->É (Ë prog w) A (draw (.ref it) n) Q E s
 | 0,i,s,Q,hit,ht,_,hQ=>by
  show É _ _ (pure []) Q E s
  exact zg (by simpa using hQ s.heap s.toks hit ht λ_ _ _ e=>e)
 | n+1,i,s,Q,hit,ht,hle,hQ=>by
  have lx:i<items.size:=by omega
  show É _ _ (đ (.ref it) >>= _) Q E s
  refine zc ((ur hh it t Am items).item i s _ _ lx ⟨hit,ht⟩ λv h1 tk hv st k1=>?_);rw[show items[i]?=À items[i] by simp[lx]] at hv;cases hv;refine zc (je (nR hh Am n (i+1) _ _ st.1 st.2 ∅ λh2 Lq a1 a2 a3=>zg ?_));have hd:items.toList.drop i=items[i]::items.toList.drop (i+1):=by simp[vq,lx]
  have:=hQ h2 Lq (by rw[show i+(n+1)=i+1+n by omega];exact a1) a2 λb o ne e=>a3 b o ne (k1 b o (by simpa using ne) e)
  rw[hd,pG] at this;exact this
def tZ{s:Å}{items:Array Ä}{targets:List (Bool×(Ä->Sem Unit))}(hh:A.handled=Á)(ht:s.heap.IsList t items)
  (hn:targets.length=items.size) (HQ:targets.findIdx? (·.1)=Á)
  (h:∀h' tk,(∀b o,s.heap.get? b=À o->h'.get? b=À o)->É (Ë prog w) A (assignInOrder (targets.map (·.2)) items.toList) Q E { s with heap:=h',toks:=tk }) :
  É (Ë prog w) A (unpack (.ref t) targets) Q E s:=by
 have lx:t<s.heap.objs.size:=by obtain⟨o,ho,_⟩:=ht;exact zM ho
 unfold unpack;rw[hn,HQ];refine zc (je ?_);unfold unpackItems notIterableAtAll;refine zc (zc (uX ht.typeIs PySem.slot_list_iter.lookup (zg ?_)));erw[zN,jn];refine zc (je (vC ht ?_));refine zc (je (nR hh (zU lx) items.size 0 _ _ ⟨_,zK _ rfl,rfl,rfl⟩ (ht.push _) ∅ λh1 tk Lr Ow k1=>?_));have oj:List.take items.size (List.drop 0 items.toList)=items.toList:=by
  rw[uv];exact yt (by simp)
 rw[oj,kh (by simp)];refine zc (je ((ur hh s.heap.objs.size t (zU lx) items).done _ _ _ ⟨by simpa using Lr,Ow⟩ λh2 Lq k2=>?_));erw[Option.isSome_none,zN,jn];refine zg (h h2 Lq λb o e=>?_);have ne:=zU (zM e);exact k2 b o (by simpa using ne) (k1 b o ne (zf _ e))
end
variable{X:Cx}{pos:ĝ}
def F5(K:Sb)(n:Nat)(t:m9):TG:=λv σ H Q=>∃a xs,v=.ref a/\SqL K H a xs/\xs.length=n/\t xs σ H Q
def Cp(hc:X.calm=Ã)(h:PGs X es t)
  (hn:(å es X.env).length=n) (r6:(å es X.env).findIdx? (·.1)=Á):PG X (.Tuple es k pos) (F5 X.K n t):=by
 intro ag s σ H v u Q I r hw;obtain⟨a,xs,e1,hq,hl,hw⟩:=hw;subst e1;cases r;obtain⟨its,rv,⟨o,m,g1,g2,g3,g4⟩,hz⟩:=I.list hq;rw[assign_Tuple];refine zc (xZ (tZ (items:=its.toArray) (I.ok.hd hc) ⟨o,g1,g2,m,g4⟩ (by simp[hn,<-hl,rv.length]) r6 λh' tk hx=>?_));have I1:Inv X ag σ H { s with heap:=h',toks:=tk }:=I.kept (t':=tk) λb o e=>hx b o e
 exact h ag _ σ H xs _ Q I1 (by simpa using rv) hw
end L2
namespace ML
open PySem PySem.Spec PyProof.Rows L2
inductive Fl where
 | nx (ρ:En) | ret (w:W) | bk (ρ:En) | ct (ρ:En)
abbrev MS:=En->MH->Option (Fl×MH)
abbrev MG:=W->En->M En
noncomputable def KF(K:Sb)(cl:Cl)(μ:List È)(H:Hp)(h':MH)(fl:Fl)(D:Ends):Prop:=∀d5 H',Ext μ H d5 H'->HR K cl d5 H' h'->match fl with
 | .nx ρ=>∀σ,ER K d5 H' ρ σ->D.nx σ H'
 | .ret w=>∀v,RW K d5 H' w v->D.rt v H'
 | .bk ρ=>∀σ,ER K d5 H' ρ σ->D.bk σ H'
 | .ct ρ=>∀σ,ER K d5 H' ρ σ->D.ct σ H'
inductive tMS(K:Sb)(cl:Cl)(m:MS)(D:Ends)(σ:L2.St)(H:Hp):Prop
 | mk (μ:List È) (h:MH) (ρ:En) (fl:Fl) (h':MH) (p0:HR K cl μ H h) (p1:ER K μ H ρ σ) (p2:m ρ h=À (fl,h')) (p3:KF K cl μ H h' fl D):tMS K cl m D σ H
abbrev SS(X:Cx)(cl:Cl)(st:Č)(m:MS):Prop:=PS X st (tMS X.K cl m)
abbrev SB(X:Cx)(cl:Cl)(st:List Č)(m:MS):Prop:=PSs X st (tMS X.K cl m)
inductive tMG(K:Sb)(cl:Cl)(g:MG)(v:V)(σ:L2.St)(H:Hp)(Q:L2.St->Hp->Prop):Prop
 | mk (μ:List È) (h:MH) (ρ:En) (w:W) (ρ':En) (h':MH) (p0:HR K cl μ H h) (p1:ER K μ H ρ σ) (p2:RW K μ H w v) (p3:g w ρ h=À (ρ',h')) (p4:∀d5 H' gy,Ext μ H d5 H'->HR K cl d5 H' h'->ER K d5 H' ρ' gy->Q gy H'):tMG K cl g v σ H Q
abbrev SG(X:Cx)(cl:Cl)(e:Î)(g:MG):Prop:=PG X e (tMG X.K cl g)
def PG.wk(h:PG X e t)(w:∀v σ H Q,t' v σ H Q->t v σ H Q):PG X e t':=λag s σ H v u Q I r q=>h ag s σ H v u Q I r (w v σ H Q q)
def KF.ext{K:Sb}{cl:Cl}{μ d5:List È}{H H':Hp}(E:Ext μ H d5 H')(k:KF K cl μ H h fl D):KF K cl d5 H' h fl D:=λhG H2 E2 R2=>k hG H2 (E.trans E2) R2
theorem KF.nx{K:Sb}{cl:Cl}{μ:List È}{H:Hp}{D:Ends}(k:KF K cl μ H h (.nx ρ) D)(R:HR K cl μ H h)(er:ER K μ H ρ σ):D.nx σ H:=k μ H .refl R σ er
noncomputable def ko:MS:=λρ h=>À (.nx ρ,h)
noncomputable def zo(a b:MS):MS:=λρ h=>match a ρ h with
 | some (.nx ρ',h')=>b ρ' h'
 | r=>r
noncomputable def ya(m:ME):MS:=λρ h=>match m ρ h with
 | some (_,h')=>À (.nx ρ,h')
 | none=>Á
noncomputable def ke(m:ME):MS:=λρ h=>match m ρ h with
 | some (w,h')=>À (.ret w,h')
 | none=>Á
noncomputable def kM(t:MT)(a b:MS):MS:=λρ h=>match t ρ h with
 | some (c,h')=>if c=Ã then a ρ h' else b ρ h'
 | none=>Á
noncomputable def zC(m:ME)(g:MG):MS:=λρ h=>match m ρ h with
 | some (w,h')=>match g w ρ h' with
  | some (ρ',h2)=>À (.nx ρ',h2)
  | none=>Á
 | none=>Á
noncomputable def zl(i:Nat):MG:=λw ρ h=>if i<ρ.length then À (ρ.set i (À w),h) else Á
noncomputable def dZ:List MG->List W->En->M En
 | [],[]=>λρ h=>À (ρ,h)
 | g::gs,w::ws=>λρ=>bnd (g w ρ) λρ'=>dZ gs ws ρ'
 | _,_=>λ_ _=>Á
noncomputable def vF(gs:List MG):MG:=λw=>match w with
 | .tup ws=>dZ gs ws
 | .fls ws=>dZ gs ws
 | _=>λ_ _=>Á
section
variable{X:Cx}{cl:Cl}{st:Č}{rest:List Č}{a b:MS}{e:Î}{m:ME}{pos:ĝ}
theorem ER.set{K:Sb}{μ:List È}{H:Hp}{ρ:En}{σ:L2.St}(er:ER K μ H ρ σ)(hi:i<ρ.length)(r:RW K μ H w v):ER K μ H (ρ.set i (À w)) (σ.set i (À v)):=by
 refine⟨by simp[er.len],λj w' e=>?_⟩;by_cases hj:j=i
 .subst hj
  rw[qR hi] at e;cases e;exact⟨v,by rw[qR (by rw[<-er.len];exact hi)],r⟩
 .rw[vg (jq hj)] at e
  obtain⟨v',e',r'⟩:=er.at_ j w' e;exact⟨v',by rw[vg (jq hj)];exact e',r'⟩
def Bw:SB X cl [] ko:=PSs.wk X6 λD σ H q0=>by
 obtain⟨μ,h,ρ,fl,h',R,er,e,k⟩:=q0;cases e;exact k.nx R er
def Dh(h1:SS X cl st a):SB X cl [st] a:=Y9 h1
def Uk(h1:SS X cl st a)(h2:SB X cl rest b):SB X cl (st::rest) (zo a b):=PSs.wk (WI h1 h2) λD σ H q0=>by
 obtain⟨μ,h,ρ,fl,h',R,er,e,k⟩:=q0;unfold zo at e;split at e
 .rename_i pf h1 e1
  exact⟨μ,h,ρ,_,h1,R,er,e1,λd3 H1 E1 R1 EL Ls=>⟨d3,h1,pf,fl,h',R1,Ls,e,k.ext E1⟩⟩
 .rename_i r hr
  refine⟨μ,h,ρ,fl,h',R,er,e,λd3 H1 E1 R1=>?_⟩;have k1:=k d3 H1 E1 R1;cases fl with
  | nx pf=>exact absurd e (hr pf h')
  | ret w=>exact k1
  | bk pf=>exact k1
  | ct pf=>exact k1
def X8:SS X cl (.Pass pos) ko:=PS.wk XZ λD σ H q0=>by
 obtain⟨μ,h,ρ,fl,h',R,er,e,k⟩:=q0;cases e;exact k.nx R er
def Ur(he:SE X cl e m)(hs:↥(Ă e Á pos.line X.env=pure Â)):SS X cl (.Expr e pos) (ya m):=PS.wk (Xf he hs) λD σ H q0=>by
 obtain⟨μ,h,ρ,fl,h',R,er,e,k⟩:=q0;unfold ya at e;split at e
 .rename_i w h1 e1
  cases e;exact⟨μ,h,ρ,w,_,R,er,e1,λd3 H1 v E1 R1 _=>k d3 H1 E1 R1 σ (er.ext R E1)⟩
 .cases e
def Cg(he:SE X cl e m):SS X cl (.Return (À e) pos) (ke m):=PS.wk (Du he) λD σ H q0=>by
 obtain⟨μ,h,ρ,fl,h',R,er,e,k⟩:=q0;unfold ke at e;split at e
 .rename_i w h1 e1
  cases e;exact⟨μ,h,ρ,w,_,R,er,e1,λd3 H1 v E1 R1 r=>k d3 H1 E1 R1 v r⟩
 .cases e
def Fo(hc:ST X cl c t)(ha:SB X cl sa a)(hb:SB X cl sb b):SS X cl (.If c sa sb pos) (kM t a b):=PS.wk (DQ hc ha hb) λD σ H q0=>by
 obtain⟨μ,h,ρ,fl,h',R,er,e,k⟩:=q0;unfold kM at e;split at e
 .rename_i c h1 e1
  refine⟨μ,h,ρ,c,h1,R,er,e1,λd3 H1 E1 R1=>?_⟩;cases c with
  | true=>rw[zW rfl] at e ⊢;exact⟨d3,h1,ρ,fl,h',R1,er.ext R E1,e,k.ext E1⟩
  | false=>rw[kh zR] at e ⊢;exact⟨d3,h1,ρ,fl,h',R1,er.ext R E1,e,k.ext E1⟩
 .cases e
def Zv(i:Nat)(hN:X.N.Nodup)(hi:↥(X.N[i]?=À x))(hx:Loc X.env.scope x:=by first | exact Or.inl rfl | exact Or.inr rfl)(hf:X.fn x=Ã\/X.env.scope.names.lookup x=À .local:=by first | exact .inl rfl | exact .inr rfl | assumption):SG X cl (.Name x pos) (zl i):=
 PG.wk (XE (i:=i) hN hi hx hf) λv σ H Q q0=>by
  obtain⟨μ,h,ρ,w,ρ',h',R,er,r,e,k⟩:=q0;unfold zl at e;split at e
  .rename_i hi
   cases e;exact k μ H _ .refl R (er.set hi r)
  .cases e
inductive tMGs(K:Sb)(cl:Cl)(gs:List MG)(vs:List V)(σ:L2.St)(H:Hp)(Q:L2.St->Hp->Prop):Prop
 | mk (μ:List È) (h:MH) (ρ:En) (ws:List W) (ρ':En) (h':MH) (p0:HR K cl μ H h) (p1:ER K μ H ρ σ) (p2:RWs K μ H ws vs) (p3:dZ gs ws ρ h=À (ρ',h')) (p4:∀d5 H' gy,Ext μ H d5 H'->HR K cl d5 H' h'->ER K d5 H' ρ' gy->Q gy H'):tMGs K cl gs vs σ H Q
abbrev Vr(X:Cx)(cl:Cl)(es:List Î)(gs:List MG):Prop:=PGs X es (tMGs X.K cl gs)
def PGs.wk(h:PGs X es t)(w:∀v σ H Q,t' v σ H Q->t v σ H Q):PGs X es t':=λag s σ H v u Q I r q=>h ag s σ H v u Q I r (w v σ H Q q)
def Ug:Vr X cl [] []:=PGs.wk XN λvs σ H Q q0=>by
 obtain⟨μ,h,ρ,ws,ρ',h',R,er,rs,e,k⟩:=q0;cases rs with
 | nil=>cases e;exact⟨rfl,k μ H _ .refl R er⟩
 | cons r t=>cases e
def Wc(h1:SG X cl e g)(h2:Vr X cl es gs)
  (hs:↥((å (e::es) X.env).map (·.2)=assign e X.env::(å es X.env).map (·.2))):Vr X cl (e::es) (g::gs):=PGs.wk (VY h1 h2 hs) λvs σ H Q q0=>by
 obtain⟨μ,h,ρ,ws,ρ',h',R,er,rs,e,k⟩:=q0;cases rs with
 | nil=>cases e
 | cons r t=>
  obtain⟨pf,h1,e1,e2⟩:=kg e;exact⟨_,_,rfl,μ,h,ρ,_,pf,h1,R,er,r,e1,λd3 H1 EL E1 R1 Ls=>⟨d3,h1,pf,_,ρ',h',R1,Ls,t.ext R E1,e2,λhG H2 A5 E2 R2 Eb=>k hG H2 A5 (E1.trans E2) R2 Eb⟩⟩
def tJ:∀{gs:List MG} {l:List W} {ρ:En} {h:MH},dZ gs l ρ h=À (ρ',h')->gs.length=l.length:=by
 intro gs;induction gs with
 | nil=>intro l ρ h e;cases l with | nil=>rfl | cons=>cases e
 | cons g gs ih=>
  intro l ρ h e;cases l with
  | nil=>cases e
  | cons w l=>
   obtain⟨pf,h1,e1,e2⟩:=kg e;erw[zE];rw[ih e2]
def PG.or(h1:PG X e t1)(h2:PG X e t2)(k:∀v σ H Q,t v σ H Q->t1 v σ H Q\/t2 v σ H Q):PG X e t:=λag s σ H v u Q I r q=>(k v σ H Q q).elim (h1 ag s σ H v u Q I r) (h2 ag s σ H v u Q I r)
def Br{gs:List MG}(hc:X.calm=Ã)(hg:Vr X cl es gs)
  (hl:↥((å es X.env).length=gs.length)) (r6:↥((å es X.env).findIdx? (·.1)=Á)):SG X cl (.Tuple es n pos) (vF gs):=PG.or (U6 hc hg hl r6) (Cp hc hg hl r6) λv σ H Q q0=>by
 obtain⟨μ,h,ρ,w,ρ',h',R,er,r,e,k⟩:=q0;cases r with
 | @tup a vs l s rs=>
  have e':dZ gs l ρ h=À (ρ',h'):=e;exact .inl ⟨a,vs,rfl,s,by rw[<-rs.length];exact(tJ e').symm,μ,h,ρ,l,ρ',h',R,er,rs,e',k⟩
 | @fls a vs l s rs=>
  have e':dZ gs l ρ h=À (ρ',h'):=e;exact .inr ⟨a,vs,rfl,s.sq,by rw[<-rs.length];exact(tJ e').symm,μ,h,ρ,l,ρ',h',R,er,rs,e',k⟩
 | _=>cases e
def Q8(he:SE X cl e m)(hg:SG X cl tg g)(hs:↥(Ņ [tg] e pos.line X.env=pure Â))(hw:↥(ņ [tg] e X.env=pure Á))
  (h1:↥((å [tg] X.env).map (·.2)=[assign tg X.env])):SS X cl (.Assign [tg] e pos) (zC m g):=PS.wk (Ca he hg hs hw h1) λD σ H q0=>by
 obtain⟨μ,h,ρ,fl,h',R,er,e,k⟩:=q0;unfold zC at e;split at e
 .rename_i w h1 e1
  split at e
  .rename_i r9 h2 e2
   cases e;exact⟨μ,h,ρ,w,h1,R,er,e1,λd3 H1 v E1 R1 r=>⟨d3,h1,ρ,w,r9,_,R1,er.ext R E1,r,e2,λhG H2 A5 E2 R2 Eb=>k hG H2 (E1.trans E2) R2 A5 Eb⟩⟩
  .cases e
 .cases e
def Cb(i:Nat)(hN:X.N.Nodup)(he:SE X cl e m)(hi:↥(X.N[i]?=À x))(hx:Loc X.env.scope x:=by first | exact Or.inl rfl | exact Or.inr rfl)(hs:↥(Ă e (À (.Name x AK)) pos.line X.env=pure Â))
  (hf:X.fn x=Ã\/X.env.scope.names.lookup x=À .local:=by first | exact .inl rfl | exact .inr rfl | assumption):SS X cl (.Assign [.Name x AK] e pos) (zC m (zl i)):=PS.wk (UZ (i:=i) hN hi hx he hs hf) λD σ H q0=>by
 obtain⟨μ,h,ρ,fl,h',R,er,e,k⟩:=q0;unfold zC at e;split at e
 .rename_i w h1 e1
  split at e
  .rename_i r9 h2 e2
   cases e;refine⟨μ,h,ρ,w,h1,R,er,e1,λd3 H1 v E1 R1 r=>?_⟩;unfold zl at e2;split at e2
   .rename_i hi
    cases e2;exact k d3 H1 E1 R1 _ ((er.ext R E1).set hi r)
   .cases e2
  .cases e
 .cases e
end
noncomputable def wb(c:MT)(b:MS):Nat->MS
 | 0=>λ_ _=>Á
 | n+1=>λρ h=>match c ρ h with
  | some (Ã,h1)=>match b ρ h1 with
   | some (.nx r9,h2)=>wb c b n r9 h2
   | some (.ct r9,h2)=>wb c b n r9 h2
   | some (.bk r9,h2)=>À (.nx r9,h2)
   | some (.ret w,h2)=>À (.ret w,h2)
   | none=>Á
  | some (Â,h1)=>À (.nx ρ,h1)
  | none=>Á
theorem bP:∀{n:Nat} {ρ:En} {h:MH} {r:Fl×MH},wb c b n ρ h=À r->∀k,wb c b (n+k) ρ h=À r
 | 0,_,_,_,e,_=>by cases e
 | n+1,ρ,h,r,e,k=>by
  rw[show n+1+k=(n+k)+1 by omega];unfold wb at e ⊢;cases e1:c ρ h with
  | none=>rw[e1] at e;cases e
  | some p=>
   obtain⟨t,h1⟩:=p;rw[e1] at e;cases t with
   | false=>exact e
   | true=>
    simp only at e ⊢;cases e2:b ρ h1 with
    | none=>rw[e2] at e;cases e
    | some q=>
     obtain⟨fl,h2⟩:=q;rw[e2] at e;cases fl with
     | nx r9=>exact bP (n:=n) e k
     | ct r9=>exact bP (n:=n) e k
     | bk r9=>exact e
     | ret w=>exact e
open Classical in
noncomputable def cy(c:MT)(b:MS):MS:=λρ h=>if q:∃n r,wb c b n ρ h=À r then À q.choose_spec.choose else Á
def Qa(e:wb c b n ρ h=À r):cy c b ρ h=À r:=by
 unfold cy;have q:∃n r,wb c b n ρ h=À r:=⟨n,r,e⟩;rw[dif_pos q];have e1:=q.choose_spec.choose_spec;have e2:=bP e1 n;have e3:=bP e q.choose;rw[Nat.add_comm] at e3;rw[e2] at e3;exact e3
def QX(e:cy c b ρ h=À r):∃n,wb c b n ρ h=À r:=by
 unfold cy at e;split at e
 .rename_i q
  have e1:=q.choose_spec.choose_spec;cases e;exact⟨_,e1⟩
 .cases e
section
variable{X:Cx}{cl:Cl}{pos:ĝ}
def V0(hc:ST X cl c t)(hb:SB X cl body b)(hp:ū (Ë X.prog X.w) X.A X.env X.xe:=by exact yQ):SS X cl (.While c body [] pos) (cy t b):=PS.wk (Wt hp hc hb) λD σ H q0=>by
 obtain⟨μ,h,ρ,fl,h',R,er,e,k⟩:=q0;obtain⟨n0,e⟩:=QX e;refine⟨λn σ H=>∃μ h ρ fl h',HR X.K cl μ H h/\ER X.K μ H ρ σ/\wb t b n ρ h=À (fl,h')/\KF X.K cl μ H h' fl D,⟨n0,μ,h,ρ,fl,h',R,er,e,k⟩,?_⟩;rintro n σ H ⟨μ,h,ρ,fl,h',R,er,e,k⟩;cases n with
 | zero=>cases e
 | succ n=>
  unfold wb at e;cases e1:t ρ h with
  | none=>rw[e1] at e;cases e
  | some p=>
   obtain⟨c,h1⟩:=p;rw[e1] at e;refine⟨μ,h,ρ,c,h1,R,er,e1,λd3 H1 E1 R1=>?_⟩;cases c with
   | false=>
    rw[kh zR];cases e;exact k d3 H1 E1 R1 σ (er.ext R E1)
   | true=>
    rw[zW rfl];refine⟨λgy H'=>∃μ h ρ fl h',HR X.K cl μ H' h/\ER X.K μ H' ρ gy/\wb t b n ρ h=À (fl,h')/\KF X.K cl μ H' h' fl D,λgy H' q=>⟨n,jV n,q⟩,?_⟩;simp only at e;cases e2:b ρ h1 with
    | none=>rw[e2] at e;cases e
    | some q=>
     obtain⟨f2,h2⟩:=q;rw[e2] at e;refine⟨d3,h1,ρ,f2,h2,R1,er.ext R E1,e2,λhG H2 E2 R2=>?_⟩;cases f2 with
     | nx r9=>exactλA5 Eb=>⟨hG,h2,r9,fl,h',R2,Eb,e,k.ext (E1.trans E2)⟩
     | ct r9=>exactλA5 Eb=>⟨hG,h2,r9,fl,h',R2,Eb,e,k.ext (E1.trans E2)⟩
     | bk r9=>cases e;exactλA5 Eb=>k hG H2 (E1.trans E2) R2 A5 Eb
     | ret w=>cases e;exactλv rv=>k hG H2 (E1.trans E2) R2 v rv
end
inductive Src where
 | items (l:List W) | live (n:Nat)
noncomputable def uS(s:Src)(i:Nat)(h:MH):Option (Option W):=match s with
 | .items l=>À l[i]?
 | .live n=>match h[n]? with
  | some (.lst l)=>À l[i]?
  | _=>Á
noncomputable def JR(K:Sb)(cl:Cl)(J:It)(s:Src)(μ:List È)(H:Hp):Prop:=∀hG H2 h2,Ext μ H hG H2->HR K cl hG H2 h2->∀i,
 (∀w,uS s i h2=À (À w)->J.go i H2/\∀x H3,J.yld i H2 x H3->Ext hG H2 hG H3/\HR K cl hG H3 h2/\RW K hG H3 w x)/\(uS s i h2=À Á->J.stop i H2)
abbrev MI:=En->M Src
inductive tMI(K:Sb)(cl:Cl)(m:MI)(σ:L2.St)(H:Hp)(R:It->Hp->Prop):Prop
 | mk (μ:List È) (h:MH) (ρ:En) (src:Src) (h':MH) (p0:HR K cl μ H h) (p1:ER K μ H ρ σ) (p2:m ρ h=À (src,h')) (p3:∀d5 H' J,Ext μ H d5 H'->HR K cl d5 H' h'->JR K cl J src d5 H'->R J H'):tMI K cl m σ H R
abbrev SI(X:Cx)(cl:Cl)(tg e:Î)(m:MI):Prop:=PI X tg e (tMI X.K cl m)
def PI.wk(h:PI X tg e t)(w:∀σ H Q,t' σ H Q->t σ H Q):PI X tg e t':=λag s σ H Q I q=>h ag s σ H Q I (w σ H Q q)
def JR.ext{K:Sb}{cl:Cl}{J:It}{H:Hp}(E:Ext μ H d5 H')(j:JR K cl J s μ H):JR K cl J s d5 H':=λhG H2 h2 E2=>j hG H2 h2 (E.trans E2)
noncomputable def eG(s:Src)(g:MG)(b:MS):Nat->Nat->MS
 | 0,_=>λ_ _=>Á
 | k+1,i=>λρ h=>match uS s i h with
  | some (À w)=>match g w ρ h with
   | some (pf,h1)=>match b pf h1 with
    | some (.nx r9,h2)=>eG s g b k (i+1) r9 h2
    | some (.ct r9,h2)=>eG s g b k (i+1) r9 h2
    | some (.bk r9,h2)=>À (.nx r9,h2)
    | some (.ret w,h2)=>À (.ret w,h2)
    | none=>Á
   | none=>Á
  | some Á=>À (.nx ρ,h)
  | none=>Á
noncomputable def forL(g:MG)(b:MS):List W->MS
 | []=>λρ h=>À (.nx ρ,h)
 | w::r=>λρ h=>match g w ρ h with
  | some (pf,h1)=>match b pf h1 with
   | some (.nx r9,h2)=>forL g b r r9 h2
   | some (.ct r9,h2)=>forL g b r r9 h2
   | some (.bk r9,h2)=>À (.nx r9,h2)
   | some (.ret w,h2)=>À (.ret w,h2)
   | none=>Á
  | none=>Á
theorem fv(l:List W):∀(k i:Nat) (ρ:En) (h:MH),l.length+1<=i+k->i<=l.length->eG (.items l) g b k i ρ h=forL g b (l.drop i) ρ h
 | 0,i,ρ,h,hk,hi=>by omega
 | k+1,i,ρ,h,hk,hi=>by
  by_cases hl:i<l.length
  .rw[vq hl]
   unfold eG forL;erw[uS,zP hl];cases e1:g l[i] ρ h with
   | none=>rfl
   | some p=>
    obtain⟨pf,h1⟩:=p;simp only;cases e2:b pf h1 with
    | none=>rfl
    | some q=>
     obtain⟨fl,h2⟩:=q;cases fl with
     | nx r9=>exact fv l k (i+1) r9 h2 ∅ hl
     | ct r9=>exact fv l k (i+1) r9 h2 ∅ hl
     | bk r9=>rfl
     | ret w=>rfl
  .have A7:i=l.length:=by omega
   subst A7;rw[xX];unfold eG forL;simp[uS]
noncomputable def Q7(s:Src)(h:MH):Nat:=match s with
 | .items l=>l.length
 | .live n=>match h[n]? with
  | some (.lst l)=>l.length
  | _=>0
noncomputable def kK(mi:MI)(g:MG)(b:MS):MS:=λρ h=>match mi ρ h with
 | some (.items l,h1)=>forL g b l ρ h1
 | some (.live n,h1)=>eG (.live n) g b (Q7 (.live n) h1+1) 0 ρ h1
 | none=>Á
section
variable{X:Cx}{cl:Cl}{pos:ĝ}
def sx{K:Sb}{J:It}{src:Src}{g:MG}{b:MS}{D:Ends}{σ:L2.St}{H:Hp}(R:HR K cl μ H h)(er:ER K μ H ρ σ)(j:JR K cl J src μ H)(e:eG src g b k0 0 ρ h=À (fl,h'))
  (k:KF K cl μ H h' fl D):∃W:Nat->Nat->L2.St->Hp->Prop,(∃m,W 0 m σ H)/\∀i m σ H,W i m σ H->
   (J.stop i H/\D.nx σ H)\/(J.go i H/\∃N:L2.St->Hp->Prop,(∀gy H',N gy H'->∃m',m'<m/\W (i+1) m' gy H')/\∀x H',J.yld i H x H'->tMG K cl g x σ H' λA5 H2=>tMS K cl b { D with nx:=N,ct:=N,bk:=D.nx } A5 H2):=by
 refine⟨λi m σ H=>∃μ h ρ fl h',HR K cl μ H h/\ER K μ H ρ σ/\JR K cl J src μ H/\eG src g b m i ρ h=À (fl,h')/\KF K cl μ H h' fl D,⟨k0,μ,h,ρ,fl,h',R,er,j,e,k⟩,?_⟩;rintro i m σ H ⟨μ,h,ρ,fl,h',R,er,j,e,k⟩;cases m with
 | zero=>cases e
 | succ m=>
  unfold eG at e;obtain⟨jg,js⟩:=j μ H h .refl R i;cases es:uS src i h with
  | none=>rw[es] at e;cases e
  | some o=>
   rw[es] at e;cases o with
   | none=>
    cases e;exact .inl ⟨js es,k.nx R er⟩
   | some w=>
    obtain⟨go,yl⟩:=jg w es;simp only at e;cases e1:g w ρ h with
    | none=>rw[e1] at e;cases e
    | some p=>
     obtain⟨pf,h1⟩:=p;rw[e1] at e;simp only at e;cases e2:b pf h1 with
     | none=>rw[e2] at e;cases e
     | some q=>
      obtain⟨f2,h2⟩:=q;rw[e2] at e;refine .inr ⟨go,λgy H'=>∃μ h ρ fl h',HR K cl μ H' h/\ER K μ H' ρ gy/\JR K cl J src μ H'/\eG src g b m (i+1) ρ h=À (fl,h')/\KF K cl μ H' h' fl D,λgy H' q=>⟨m,jV m,q⟩,λx H1 y1=>?_⟩;obtain⟨E1,R1,rx⟩:=yl x H1 y1;refine⟨μ,h,ρ,w,pf,h1,R1,er.ext R E1,rx,e1,λhG H2 A5 E2 R2 Eb=>⟨hG,h1,pf,f2,h2,R2,Eb,e2,λA1 H3 E3 R3=>?_⟩⟩;have E:=E1.trans (E2.trans E3);cases f2 with
      | nx r9=>exactλAL HS=>⟨A1,h2,r9,fl,h',R3,HS,j.ext E,e,k.ext E⟩
      | ct r9=>exactλAL HS=>⟨A1,h2,r9,fl,h',R3,HS,j.ext E,e,k.ext E⟩
      | bk r9=>cases e;exactλAL HS=>k A1 H3 E R3 AL HS
      | ret w=>cases e;exactλv rv=>k A1 H3 E R3 v rv
def C3(hc:X.calm=Ã)(hi:SI X cl tg iter mi)(hg:SG X cl tg g)(hb:SB X cl body b)
  (hs:∀x,é iter X.env x=pure x:=by intro _;rfl) (hp:ū (Ë X.prog X.w) X.A X.env X.xe:=by exact yQ):SS X cl (.For tg iter body [] pos) (kK mi g b):=PS.wk (U7 hp hc hi hg hb hs) λD σ H q0=>by
 obtain⟨μ,h,ρ,fl,h',R,er,e,k⟩:=q0;unfold kK at e;split at e
 .rename_i l h1 e1
  refine⟨μ,h,ρ,.items l,h1,R,er,e1,λd3 H1 J E1 R1 j=>?_⟩;have q:=fv (g:=g) (b:=b) l (l.length+1) 0 ρ h1 ∅ ∅;rw[uv,e] at q;exact sx R1 (er.ext R E1) j q (k.ext E1)
 .rename_i n h1 e1
  exact⟨μ,h,ρ,.live n,h1,R,er,e1,λd3 H1 J E1 R1 j=>sx R1 (er.ext R E1) j e (k.ext E1)⟩
 .cases e
end
noncomputable def kS(np k:Nat)(b:MS):List W->M W:=λws h=>if ws.length=np then (match b (ws.map À++Ç k Á) h with
 | some (.ret w,h')=>À (w,h')
 | some (.nx _,h')=>À (.non,h')
 | _=>Á) else Á
section
variable{P:Í}{w:Ñ}{K:Sb}{mg:Æ->Option Ä}{base:Ò}{cl:Cl}
def si{H:Hp}{N:List Æ}{ws:List W}{vs:List V}(rs:RWs K μ H ws vs)(hk:N.length-vs.length=k):ER K μ H (ws.map À++Ç k Á) (L2.start N vs):=by
 subst hk;unfold L2.start;refine⟨by simp[rs.length],λi w e=>?_⟩;by_cases hi:i<ws.length
 .rw[zY (by simpa using hi),kW] at e
  cases e1:ws[i]? with
  | none=>rw[e1] at e;cases e
  | some w'=>
   rw[e1] at e;cases e;obtain⟨v,e2,r⟩:=rs.get e1;exact⟨v,by rw[zY (by rw[zF,<-rs.length];exact hi),kW,e2];rfl,r⟩
 .rw[kZ (by simpa using hi),qO] at e
  split at e<;>cases e
def DF{x qual:Æ}{st:Č}{f:È}{fd:ą}{N ps:List Æ}(F:Fun K x qual st f fd)(S:FnScope N ps (kQ st))(Ec:ps.length=np)(Ah:N.length-np=ns)
  (hb:∀(mN:Ä) (A:Ö) (outer:List Env) (s:Å) (H:Hp) (E:XK),Room k (A.deeper (Ň qual (kQ st) s.heap.objs.size f mN))->
   SB (gn dH P w K mg base N qual (kQ st) f mN A outer s H E).nox cl (ve st) b):FnOk P w K mg base dH (k+1) f fd ps (cf K cl (gc (kS np ns b))):=by
 have len:∀vs H Q E,cf K cl (kS np ns b) vs H Q E->vs.length=ps.length:=by
  rintro vs H Q E ⟨μ,h,ws,w,h',R,rs,e,k⟩;unfold kS at e;split at e
  .rename_i hl
   rw[Ec,<-hl,rs.length]
  .cases e
 refine FnOk.imp (sp:=cf K cl (kS np ns b)) (F.ok S len λmN A outer s H vs Q E hr Dx=>⟨_,hb mN A outer s H E hr,?_⟩) λvs H Q E q=>DU (E:=E) q
 have d6:=len _ _ _ _ Dx;obtain⟨μ,h,ws,w,h',R,rs,e,k⟩:=Dx;unfold kS at e;split at e
 .rename_i hl
  split at e
  .rename_i w1 h1 e1
   cases e;exact⟨μ,h,_,_,_,R,si rs (by rw[d6,Ec];exact Ah),e1,λd3 H1 E1 R1 v rv=>k d3 H1 v E1 R1 rv⟩
  .rename_i pf h1 e1
   cases e;exact⟨μ,h,_,_,_,R,si rs (by rw[d6,Ec];exact Ah),e1,λd3 H1 E1 R1 EL _=>k d3 H1 .non E1 R1 .non⟩
  .cases e
 .cases e
end
noncomputable def getL(h:MH):W->Option (List W)
 | .fls l=>À l
 | .ref n=>match h[n]? with
  | some (.lst l)=>À l
  | _=>Á
 | _=>Á
section
variable{K:Sb}{cl:Cl}{μ:List È}{H:Hp}{h:MH}
def wq(R:HR K cl μ H h)(r:RW K μ H w v)(e:getL h w=À l):∃a vs,v=.ref a/\SqL K H a vs/\RWs K μ H l vs:=by
 cases r with
 | @fls a vs l' s rs=>cases e;exact⟨a,vs,rfl,s.sq,rs⟩
 | @ref n a hn=>
  erw[getL] at e;split at e
  .rename_i l' ho
   cases e;obtain⟨vs,hv,rs⟩:=R.ob n a _ hn ho;exact⟨a,vs,rfl,SqL.of hv,rs⟩
  .cases e
 | _=>cases e
theorem RW.int_of(r:RW K μ H (.int i) v):v=.int i:=by cases r;rfl
theorem RW.str_of(r:RW K μ H (.str i) v):v=.str i:=by cases r;rfl
def RW.tup_of(r:RW K μ H (.tup l) v):∃a vs,v=.ref a/\SqT K H a vs/\RWs K μ H l vs:=by cases r with | @tup a vs l s rs=>exact⟨a,vs,rfl,s,rs⟩
end
noncomputable def k8(x y:W):Option W:=match x,y with
 | .int i,.int j=>À (.int (i+j))
 | .str i,.str j=>if i.length+j.length<=cap then À (.str (i++j)) else Á
 | .tup l,.tup l'=>if l.length+l'.length<=cap then À (.tup (l++l')) else Á
 | _,_=>Á
noncomputable def addW(x y:W):M W:=λh=>match k8 x y with
 | some w=>À (w,h)
 | none=>match getL h x,getL h y with
  | some l,À l'=>if l.length+l'.length<=cap then À (.fls (l++l'),h) else Á
  | _,_=>Á
section
variable{prog:Í}{w:Ñ}{A:Ö}{E:Ä->Å->Prop}{s:Å}
def VN{vs ws:List Ä}(ht:s.heap.IsList t vs.toArray)(hb:s.heap.IsList b ws.toArray)
  (h2:Q (.ref s.heap.objs.size) { s with heap:=s.heap.push { cls:=.type "list",data:=.seq (vs++ws).toArray } })
  (hsz:vs.length+ws.length<=sizeLine):É (Ë prog w) A (ë .Add (.ref t) (.ref b)) Q E s:=by
 obtain⟨⟨cls,dd,data,sl⟩,ho,hc,n,hd⟩:=id ht;obtain⟨⟨HH,AZ,data2,AR⟩,A6,FK,n2,hd2⟩:=id hb;simp only at hc hd FK hd2;subst hc hd FK hd2;have e:vs.toArray++ws.toArray=(vs++ws).toArray:=by simp
 refine uz ⟨_,ho,rfl⟩ ⟨_,A6,rfl⟩ noFill_list_add seq_list_add PySem.F.slot_list_add PySem.F.entry_list_add (PySem.F.args_list_add_2 _ _)
  (list_addW t b vs.toArray ws.toArray n n2 dd AZ sl AR (by rw[zQ,zQ];exact hsz)) ⟨ho,A6,?_⟩
 rw[e];exact h2
def VG{ws:List Ä}(ht:Ŏ s.heap t ([]:List Ä).toArray)(hb:Ŏ s.heap b ws.toArray)(h1:Q (.ref b) s) :
  É (Ë prog w) A (ë .Add (.ref t) (.ref b)) Q E s:=by
 obtain⟨⟨cls,dd,data,sl⟩,ho,hc,n,hd⟩:=id ht;obtain⟨⟨HH,AZ,data2,AR⟩,A6,FK,n2,hd2⟩:=id hb;simp only at hc hd FK hd2;subst hc hd FK hd2;exact uz ⟨_,ho,rfl⟩ ⟨_,A6,rfl⟩ uE Ů yr wZ (wV _ _)
  (tuple_addW0 t b _ ws.toArray n n2 dd AZ sl AR rfl) ⟨ho,A6,h1⟩
end
section
variable{X:Cx}{cl:Cl}
def Xl{P:List W->MH->W->MH->Prop}{H:Hp}{l l':List W}(I:Inv X ag σ H s)(rx:RelV x v)(ry:RelV y u)
  (R:HR X.K cl μ H h) (ax:RW X.K μ H wx x) (ay:RW X.K μ H wy y) (e1:getL h wx=À l) (e2:getL h wy=À l') (hl:l.length+l'.length<=cap)
  (k:∀p xs,H p=Á->RWs X.K μ H (l++l') xs->Q (.ref p) (upd H p (.lst xs))):É (Ë X.prog X.w) X.A (ë .Add v u) (EP X ag σ Q) X.xe s:=by
 obtain⟨a,vs,rfl,sa,ra⟩:=wq R ax e1;obtain⟨b,FM,rfl,sb,rb⟩:=wq R ay e2;cases rx;cases ry;obtain⟨its,r1,p1,_⟩:=I.list sa;obtain⟨Al,r2,p2,_⟩:=I.list sb;have hz:vs.length+FM.length<=sizeLine:=zz (by rw[<-ra.length,<-rb.length];exact hl) yv;refine VN p1.isList p2.isList ?_ (by rw[<-r1.length,<-r2.length];exact hz);exact⟨.ref _,_,I.lnew (t':=s.toks) (r1.append r2) (by rw[zL];exact hz),rfl,k _ _ I.fresh (ra.append rb)⟩
def Xc:qv X (ë .Add) (rM X.K cl addW):=by
 rintro ag s σ H x y v u Q I rx ry ⟨μ,h,wx,wy,w,h',R,ax,ay,e,k⟩;unfold addW at e;split at e
 .rename_i w' e'
  cases e;unfold k8 at e';split at e'
  .rename_i i j
   cases e';exact Dp ag s σ H x y v u Q I rx ry ⟨i,j,ax.int_of,ay.int_of,k.pure R (.int _)⟩
  .rename_i i j
   split at e'
   .rename_i hl
    cases e';exact KN ag s σ H x y v u Q I rx ry ⟨i,j,ax.str_of,ay.str_of,zz hl yv,k.pure R (.str _)⟩
   .cases e'
  .rename_i l l'
   split at e'
   .rename_i hl
    cases e';obtain⟨a,vs,rfl,sa,ra⟩:=ax.tup_of;obtain⟨b,FM,rfl,sb,rb⟩:=ay.tup_of;by_cases hv:vs=[]
    .subst hv
     cases ra;cases rx;cases ry;obtain⟨its,r1,p1,_⟩:=I.tuple sa;obtain⟨Al,r2,p2,_⟩:=I.tuple sb;cases r1;exact VG p1 p2 ⟨.ref b,H,I,rfl,k.pure R (.tup sb rb)⟩
    .refine XF ag s σ H _ _ v u Q I rx ry ⟨a,b,vs,FM,rfl,rfl,sa,sb,hv,zz (by rw[<-ra.length,<-rb.length];exact hl) yv,λz=>?_,λ_ p hp=>k.tup R (ra.append rb) hp⟩
     subst z;cases rb;rw[qN] at k;exact k.pure R (.tup sa ra)
   .cases e'
  .cases e'
 .split at e
  .rename_i l l' e1 e2
   split at e
   .rename_i hl
    cases e;exact Xl (P:=λ_ _ _ _=>True) I rx ry R ax ay e1 e2 hl λp xs hp rs=>k.fls R rs hp
   .cases e
  .cases e
end
noncomputable def y8(x y:W):M W:=λh=>match x,y with
 | .int i,.int j=>À (.int (i-j),h)
 | _,_=>Á
noncomputable def small(i:Int):Bool:=decide (-(2 ^ 64)<i/\i<2 ^ 64)
noncomputable def ki(x y:W):M W:=λh=>match x,y with
 | .int i,.int j=>if (small i||small j)=Ã then À (.int (i*j),h) else Á
 | .tup l,.int j=>if 0<=j/\j<=1000/\l.length<=1000 then À (.tup (Ç j.toNat l).flatten,h) else Á
 | .fls l,.int j=>if 0<=j/\j<=1000/\l.length<=1000 then À (.fls (Ç j.toNat l).flatten,h) else Á
 | _,_=>Á
noncomputable def xc(x y:W):M W:=λh=>match x,y with
 | .int i,.int j=>if 0<j then À (.int (i%j),h) else Á
 | _,_=>Á
noncomputable def aT(x y:W):M W:=λh=>match x,y with
 | .int i,.int j=>if 0<j/\j<1073741824 then À (.int (i/j),h) else Á
 | _,_=>Á
noncomputable def wf(p:Int->Int->Bool)(x y:W):M W:=λh=>match x,y with
 | .int i,.int j=>À (.bl (p i j),h)
 | _,_=>Á
noncomputable def fF(x:W):M W:=λh=>match x with
 | .int i=>À (.int (-i),h)
 | _=>Á
noncomputable def fq(b:Bool)(x y:W):M W:=λh=>match x,y with
 | .non,.non=>À (.bl b,h)
 | .tup _,.non=>À (.bl (!b),h)
 | .fls _,.non=>À (.bl (!b),h)
 | .int _,.non=>À (.bl (!b),h)
 | .str _,.non=>À (.bl (!b),h)
 | .bl _,.non=>À (.bl (!b),h)
 | .ref _,.non=>À (.bl (!b),h)
 | _,_=>Á
section
variable{X:Cx}{cl:Cl}
def UM:qv X (ë .Sub) (rM X.K cl y8):=by
 rintro ag s σ H x y v u Q I rx ry ⟨μ,h,wx,wy,w,h',R,ax,ay,e,k⟩;unfold y8 at e;split at e
 .cases e;exact CT ag s σ H x y v u Q I rx ry ⟨_,_,ax.int_of,ay.int_of,k.pure R (.int _)⟩
 .cases e
def XD:qv X (ë .Mod) (rM X.K cl xc):=by
 rintro ag s σ H x y v u Q I rx ry ⟨μ,h,wx,wy,w,h',R,ax,ay,e,k⟩;unfold xc at e;split at e
 .split at e
  .rename_i hj;cases e;exact C6 ag s σ H x y v u Q I rx ry ⟨_,_,ax.int_of,ay.int_of,hj,k.pure R (.int _)⟩
  .cases e
 .cases e
def Xy:qv X (ë .FloorDiv) (rM X.K cl aT):=by
 rintro ag s σ H x y v u Q I rx ry ⟨μ,h,wx,wy,w,h',R,ax,ay,e,k⟩;unfold aT at e;split at e
 .split at e
  .rename_i hj;cases e;exact X2 ag s σ H x y v u Q I rx ry ⟨_,_,ax.int_of,ay.int_of,hj,k.pure R (.int _)⟩
  .cases e
 .cases e
def mQ(ho:qv X (Ù op) (ou λi j=>.bl (p i j))):qv X (Ù op) (rM X.K cl (wf p)):=by
 rintro ag s σ H x y v u Q I rx ry ⟨μ,h,wx,wy,w,h',R,ax,ay,e,k⟩;unfold wf at e;split at e
 .cases e;exact ho ag s σ H x y v u Q I rx ry ⟨_,_,ax.int_of,ay.int_of,k.pure R (.bl _)⟩
 .cases e
def UW:qv X (Ù .Lt) (rM X.K cl (wf λi j=>decide (i<j))):=mQ DR
def CZ:qv X (Ù .LtE) (rM X.K cl (wf λi j=>decide (i<=j))):=mQ Fj
def BK:qv X (Ù .Gt) (rM X.K cl (wf λi j=>decide (j<i))):=mQ DT
def XS:QZ X (unaryOp .USub) (rM1 X.K cl fF):=by
 rintro ag s σ H x v Q I rx ⟨μ,h,wx,w,h',R,ax,e,k⟩;unfold fF at e;split at e
 .cases e;exact U9 ag s σ H x v Q I rx ⟨_,ax.int_of,k.pure R (.int _)⟩
 .cases e
def mq{K:Sb}{μ:List È}{H:Hp}{h h':MH}(ax:RW K μ H wx x)(ay:RW K μ H wy y)(e:fq b wx wy h=À (w,h')):h=h'/\y=.non/\w=.bl (if b then decide (x=.non) else !decide (x=.non)):=by
 unfold fq at e;split at e<;>first | (cases e;cases ax;cases ay;refine⟨rfl,rfl,?_⟩;cases b<;>simp) | cases e
def Cq:qv X (Ù .Is) (rM X.K cl (fq Ã)):=by
 rintro ag s σ H x y v u Q I rx ry ⟨μ,h,wx,wy,w,h',R,ax,ay,e,k⟩;obtain⟨rfl,hy,rfl⟩:=mq ax ay e;exact Bd ag s σ H x y v u Q I rx ry ⟨hy,k.pure R (.bl _)⟩
def Qk:qv X (Ù .IsNot) (rM X.K cl (fq Â)):=by
 rintro ag s σ H x y v u Q I rx ry ⟨μ,h,wx,wy,w,h',R,ax,ay,e,k⟩;obtain⟨rfl,hy,rfl⟩:=mq ax ay e;exact Xn ag s σ H x y v u Q I rx ry ⟨hy,k.pure R (.bl _)⟩
end
noncomputable def kL(ws:List W):M W:=λh=>match ws with
 | [.tup l]=>À (.int l.length,h)
 | [.str x]=>if x.length<=cap then À (.int x.length,h) else Á
 | [w]=>match getL h w with
  | some l=>À (.int l.length,h)
  | none=>Á
 | _=>Á
noncomputable def zt(x y:W):M W:=λh=>match x,y with
 | .tup l,.int i=>match atI l i with
  | some w=>À (w,h)
  | none=>Á
 | .str z,.int i=>if z.length<=cap then (match atI z.cps.toList i with
  | some c=>À (.str ⟨#[c]⟩,h)
  | none=>Á) else Á
 | x,.int i=>match getL h x with
  | some l=>match atI l i with
   | some w=>À (w,h)
   | none=>Á
  | none=>Á
 | _,_=>Á
noncomputable def cutW(l:List W)(lo hi:Option Int):List W:=(l.drop (HT.sIx l.length 0 lo)).take (HT.sIx l.length l.length hi-HT.sIx l.length 0 lo)
theorem RWs.atI{K:Sb}{μ:List È}{H:Hp}{l:List W}(rs:RWs K μ H l vs)(e:L2.atI l i=À w):∃v,L2.atI vs i=À v/\RW K μ H w v:=by
 unfold L2.atI at e ⊢;rw[<-rs.length];cases q:yB l.length i with
 | none=>rw[q] at e;cases e
 | some j=>
  rw[q] at e;exact rs.get e
theorem RWs.cutW{K:Sb}{μ:List È}{H:Hp}(rs:RWs K μ H l vs)(lo hi:Option Int):RWs K μ H (cutW l lo hi) (dW vs lo hi):=by
 unfold ML.cutW dW;rw[<-rs.length];exact(rs.drop _).take _
section
variable{X:Cx}{cl:Cl}{a b:Î}{ma mb:ME}{pos:ĝ}
def Q2:va X (.builtin "len") (rMs X.K cl kL):=by
 rintro ag s σ H xs us Q I rs ⟨μ,h,ws,w,h',R,ax,e,k⟩;unfold kL at e;split at e
 .rename_i l
  cases e;cases ax with | cons r t=>cases t with | nil=>
   obtain⟨a,vs,rfl,sa,ra⟩:=r.tup_of;exact gx ag s σ H _ us Q I rs ⟨a,vs,rfl,.inr sa,by rw[<-ra.length];exact k.pure R (.int _)⟩
 .rename_i z
  split at e
  .rename_i hl
   cases e;cases ax with | cons r t=>cases t with | nil=>
    cases r.str_of;exact tu ag s σ H _ us Q I rs ⟨z,rfl,zz hl yv,k.pure R (.int _)⟩
  .cases e
 .split at e
  .rename_i l el
   cases e;cases ax with | cons r t=>cases t with | nil=>
    obtain⟨a,vs,rfl,sa,ra⟩:=wq R r el;exact gx ag s σ H _ us Q I rs ⟨a,vs,rfl,.inl sa,by rw[<-ra.length];exact k.pure R (.int _)⟩
  .cases e
 .cases e
def FO:Ka X (rM X.K cl zt):=by
 rintro value slice ag s σ H x y v u Q I rx ry ⟨μ,h,wx,wy,w,h',R,ax,ay,e,k⟩ hs;unfold zt at e;split at e
 .rename_i l i
  split at e
  .rename_i w' e'
   cases e;obtain⟨a,vs,rfl,sa,ra⟩:=ax.tup_of;obtain⟨v',ev,rv⟩:=ra.atI e';exact rE value slice ag s σ H _ y v u Q I rx ry ⟨a,vs,i,v',rfl,ay.int_of,sa,ev,k.pure R rv⟩ hs
  .cases e
 .rename_i z i
  split at e
  .rename_i hl
   split at e
   .rename_i c e'
    cases e;exact BM value slice ag s σ H _ y v u Q I rx ry ⟨z,i,c,ax.str_of,ay.int_of,zz hl yv,e',k.pure R (.str _)⟩ hs
   .cases e
  .cases e
 .rename_i i MP GT
  split at e
  .rename_i l el
   split at e
   .rename_i w' e'
    cases e;obtain⟨a,vs,rfl,sa,ra⟩:=wq R ax el;obtain⟨v',ev,rv⟩:=ra.atI e';exact UB value slice ag s σ H _ y v u Q I rx ry ⟨a,vs,i,v',rfl,ay.int_of,sa,ev,k.pure R rv⟩ hs
   .cases e
  .cases e
 .cases e
def Fg(ha:SE X cl a ma)(hb:SE X cl b mb)(hs:fg b:=by exactλ_ _=>rfl):SE X cl (.Subscript a b pos) (zh zt ma mb):=
 PE.wk (YK FO ha hb hs) λσ H Q q=>fP q
end
section
variable{prog:Í}{w:Ñ}{A:Ö}{E:Ä->Å->Prop}{s:Å}
open HT in
def fV{t sl:È}{items:Array Ä}{vl vu:Ä}{lo hi:Option Int}{Q:Ä->Å->Prop}(ht:Ŏ s.heap t items)(hs:s.heap.IsSliceOf sl vl vu .none)(pl:Ĺ vl lo)(pu:Ĺ vu hi)
  (hw:sIx items.size 0 lo=0/\sIx items.size items.size hi=items.size) (h:Q (.ref t) s):É (Ë prog w) A (œ (.ref t) (.ref sl)) Q E s:=by
 obtain⟨os,GS,Au,HI⟩:=id hs;have Li:s.TypeIs (.ref sl) "slice":=⟨os,GS,Au⟩;unfold œ;try with_reducible refine je ?_
 first | refine zc (zg ?_) | skip
 refine zc (wpAny_sequenceKey ht.typeIs (by decide) ?_)
 refine zc (jx (name:=ú "__getitem__") ht.typeIs jE
  (jo jE ht.typeIs ŭ ?_ (Ŵ _ _)))
 show É _ _ (Ļ (.ref t) >>= _) _ _ s
 refine zc (xK ht ?_);refine zc (qy Li ?_);rw[zW (by decide)];refine zc (dQ hs pl pu ?_);have Lj:((((sIx items.size 0 lo:Nat):Int)==0&&(1:Int)==1&&(sIx items.size items.size hi-sIx items.size 0 lo)==items.size)=Ã):=by
  rw[hw.1,hw.2];simp
 show É _ _ (if (((sIx items.size 0 lo:Nat):Int)==0&&(1:Int)==1&&(sIx items.size items.size hi-sIx items.size 0 lo)==items.size)=Ã then _ else _) _ _ s
 rw[zW Lj];unfold ľ;refine zc (zc (qy ht.typeIs (zg ?_)));rw[zW (by decide)];first
  | exact zc (qz (zg ⟨_,rfl,zg h⟩))
  | exact zc (qz (zc (zg (zg ⟨_,rfl,zg h⟩))))
  | exact zc (zc (qz (zg ⟨_,rfl,zg h⟩)))
end
noncomputable def gG(x:W)(lo hi:Option Int):M W:=λh=>match x with
 | .tup l=>À (.tup (cutW l lo hi),h)
 | .str z=>if z.length<=cap then À (.str (Txt.slice z lo hi),h) else Á
 | x=>match getL h x with
  | some l=>À (.fls (cutW l lo hi),h)
  | none=>Á
noncomputable def bS(m:Option ME):En->M (Option Int):=λρ=>match m with
 | none=>λh=>À (Á,h)
 | some m=>bnd (m ρ) λw h=>match w with
  | .int i=>À (À i,h)
  | _=>Á
noncomputable def yT(a:ME)(lo hi:Option ME):ME:=λρ=>bnd (a ρ) λx=>bnd (bS lo ρ) λl=>bnd (bS hi ρ) λu=>gG x l u
section
variable{X:Cx}{cl:Cl}{a:Î}{ma:ME}{pos p2:ĝ}
inductive tMO(K:Sb)(cl:Cl)(m:Option ME)(σ:L2.St)(H:Hp)(Q:Option Int->Hp->Prop):Prop
 | mk (μ:List È) (h:MH) (ρ:En) (o:Option Int) (h':MH) (p0:HR K cl μ H h) (p1:ER K μ H ρ σ) (p2:bS m ρ h=À (o,h')) (p3:∀d5 H',Ext μ H d5 H'->HR K cl d5 H' h'->Q o H'):tMO K cl m σ H Q
abbrev SO(X:Cx)(cl:Cl)(e:Option Î)(m:Option ME):Prop:=PO X e (tMO X.K cl m)
def PO.wk(h:PO X e t)(w:∀σ H Q,t' σ H Q->t σ H Q):PO X e t':=λag s σ H Q I q=>h ag s σ H Q I (w σ H Q q)
def XY:SO X cl Á Á:=PO.wk Ui λσ H Q q0=>by
 obtain⟨μ,h,ρ,o,h',R,er,e,k⟩:=q0;cases e;exact k μ H .refl R
def X9(ha:SE X cl a ma):SO X cl (À a) (À ma):=PO.wk (US ha) λσ H Q q0=>by
 obtain⟨μ,h,ρ,o,h',R,er,e,k⟩:=q0;obtain⟨x,h1,e1,e⟩:=kg e;split at e
 .rename_i i
  cases e;exact⟨μ,h,ρ,_,_,R,er,e1,λd3 H1 v E1 R1 r=>⟨i,r.int_of,k d3 H1 E1 R1⟩⟩
 .cases e
def UA{ag:List (È×ö)}{s:Å}{σ:L2.St}{H:Hp}{a:È}{v vl vu:Ä}{lo hi:Option Int}{sl:È}{Q:VK}{xs:List V}(I:Inv X ag σ H s)(rx:RelV (.ref a) v)(hs:s.heap.IsSliceOf sl vl vu .none)(pl:Ĺ vl lo)(pu:Ĺ vu hi)
  (hx:SqT X.K H a xs) (q1:dW xs lo hi=xs->Q (.ref a) H) (q2:∀p,H p=Á->Q (.ref p) (upd H p (.tup (dW xs lo hi)))) :
  ∃T id,ļ (.type T) "__getitem__" = pure (À (.builtin id))/\s.TypeIs v T/\É (Ë X.prog X.w) X.A (œ v (.ref sl)) (EP X ag σ Q) X.xe s:=by
 by_cases hw:HT.sIx xs.length 0 lo=0/\HT.sIx xs.length xs.length hi=xs.length
 .cases rx
  obtain⟨its,r,ht,hz⟩:=I.tuple hx;have d6:its.toArray.size=xs.length:=by rw[zQ];exact r.length.symm
  refine⟨"tuple",_,jE.lookup,ht.typeIs,?_⟩;refine fV ht hs pl pu (by rw[d6];exact hw) ⟨.ref a,H,I,rfl,q1 ?_⟩;unfold dW;rw[hw.1,hw.2];simp
 .exact Di ag s σ H _ v vl vu lo hi sl Q I rx hs pl pu ⟨a,xs,rfl,hx,hw,q2⟩
def Fw{lo hi:Option Î}(ha:SE X cl a ma)(hl:SO X cl lo ml)(hh:SO X cl hi mh):SE X cl (.Subscript a (.Slice lo hi Á p2) pos) (yT ma ml mh):=by
 have hr:YZ X (λx lo hi H Q=>∃μ h wx w h',HR X.K cl μ H h/\RW X.K μ H wx x/\gG wx lo hi h=À (w,h')/\KQ X.K cl μ H h' w Q):=by
  rintro ag s σ H x v vl vu lo hi sl Q I rx hs pl pu ⟨μ,h,wx,w,h',R,ax,e,k⟩;unfold gG at e;split at e
  .rename_i l
   cases e;obtain⟨a,vs,rfl,sa,ra⟩:=ax.tup_of;refine UA I rx hs pl pu sa (λz=>k.pure R (.tup sa ?_)) λp hp=>k.tup R (ra.cutW lo hi) hp
   have q:=ra.cutW lo hi;rw[z] at q;exact q
  .rename_i z
   split at e
   .rename_i hl
    cases e;cases ax.str_of;obtain⟨tk,rfl⟩:=rx;refine⟨"str",_,F.slot_str_getitem.lookup,typeIs_str _ _ _,?_⟩;obtain⟨l,el⟩:∃l:Option (Int×Tok),vl=partValue l/\lo=l.map (·.1):=by
     cases pl with
     | none=>exact⟨Á,rfl,rfl⟩
     | int i t=>exact⟨À (i,t),rfl,rfl⟩
    obtain⟨u,eu⟩:∃l:Option (Int×Tok),vu=partValue l/\hi=l.map (·.1):=by
     cases pu with
     | none=>exact⟨Á,rfl,rfl⟩
     | int i t=>exact⟨À (i,t),rfl,rfl⟩
    obtain⟨rfl,rfl⟩:=el;obtain⟨rfl,rfl⟩:=eu;exact wpAny_getItem_str_slice (l:=l) (u:=u) (st:=Á) hs rfl (post_val_or_str ⟨zz (Txt.slice_le z _ _) (zz hl yv),λt' k'=>⟨.str _,H,I.tok k',⟨t',rfl⟩,k.pure R (.str _)⟩⟩)
   .cases e
  .split at e
   .rename_i l el
    cases e;obtain⟨a,vs,rfl,sa,ra⟩:=wq R ax el;exact Xe ag s σ H _ v vl vu lo hi sl Q I rx hs pl pu ⟨a,vs,rfl,sa,λp hp=>k.fls R (ra.cutW lo hi) hp⟩
   .cases e
 refine PE.wk (V5 hr ha hl hh) ?_;rintro σ H Q ⟨μ,h,ρ,w,h',R,er,e,k⟩;obtain⟨x,h1,e1,e⟩:=kg e;obtain⟨l,h2,e2,e⟩:=kg e;obtain⟨u,h3,e3,e⟩:=kg e
 exact⟨μ,h,ρ,x,h1,R,er,e1,λd3 H1 vx E1 R1 rx=>⟨d3,h1,ρ,l,h2,R1,er.ext R E1,e2,λhG H2 E2 R2=>⟨hG,h2,ρ,u,h3,R2,(er.ext R E1).ext R1 E2,e3,λA1 H3 E3 R3=>
  ⟨A1,h3,x,w,h',R3,(rx.ext R1 E2).ext R2 E3,e,k.ext (E1.trans (E2.trans E3))⟩⟩⟩⟩
end
def iY:fillsNumberSlot (.type "tuple") "mul" = pure Â:=
 PySem.fillsNumberSlot_seq (id:="tuple.__mul__") (r:=À (.builtin "tuple.__rmul__")) wI.lookup ⋯ F.slot_tuple_rmul.lookup ⋯
theorem sH:seqRepeat? (.type "tuple")=pure (À (.builtin "tuple.__mul__")):=by
 unfold seqRepeat?;rw[PySem.seqSlot_of (T:="tuple") (name:="__mul__") (id:="tuple.__mul__") wI.lookup ⋯,PySem.seqSlot_of (T:="tuple") (name:="__rmul__") (id:="tuple.__rmul__") F.slot_tuple_rmul.lookup ⋯];rfl
def eO(a:Int)(t:Tok)(l:È)(items:Array Ä)(n:Nat)(dd:Option È)(sl:Array (Option Ä)) :
  Meets (ò.«int.__rmul__» ⟨[.int a t,.ref l],[]⟩) (λ_ R s=>s.heap.get? l=À { cls:=.type "tuple",dict:=dd,data:=.seq items n,slots:=sl }/\R (.ok (.ret Value.notImplemented)) s):=
 .of_wp λprog w A R s h=>by obtain⟨hp,g,d,tk,os⟩:=s;obtain⟨hl,h⟩:=h;wp_walk;exact⟨_,rfl,h⟩
def Jm(l:È)(items:Array Ä)(n:Nat)(dd:Option È)(sl:Array (Option Ä))(x:Int)(u:Tok)(hf:¬((decide (x < -2 ^ 63)||decide (x>=2 ^ 63))=Ã))(hc:(items.isEmpty||x==1)=Ã) :
  Meets (ò.«tuple.__mul__» ⟨[.ref l,.int x u],[]⟩) (λ_ R s=>s.heap.get? l=À { cls:=.type "tuple",dict:=dd,data:=.seq items n,slots:=sl }/\R (.ok (.ret (.ref l))) s):=
 .of_wp λprog w A R s h=>by
  obtain⟨hp,g,d,tk,os⟩:=s;obtain⟨hl,h⟩:=h;have f1:=wJ;have ht:Ŏ ({ heap:=hp,gens:=g,drawn:=d,toks:=tk,os:=os }:Å).heap l items:=⟨_,hl,rfl,n,rfl⟩;wp_walk using Ĉ hl
  rw[kh hf];try dsimp only
  refine zc (xK ht ?_);try dsimp only
  rw[zW hc];unfold ľ;refine zc (zc (qy ht.typeIs (zg ?_)));rw[zW (by decide)];exact zc (qz (zg ⟨_,rfl,h⟩))
def Kj (l : È) (items : Array Ä) (n : Nat) (dd : Option È) (sl : Array (Option Ä)) (x : Int) (u : Tok) (hf : ¬ ((decide (x < -2 ^ 63) || decide (x >= 2 ^ 63)) = Ã)) (hc : ¬ (items.isEmpty || x == 1) = Ã) (h0 : ¬ (decide (x <= 0) || items.isEmpty) = Ã)
   (h1 : ¬ (items.size * x > (2 ^ 63 - 1) / 8)) (h2 : ¬ Ŀ (items.size * x) = Ã) (hz : sizeOk (Data.seq (Ľ (λx1 x2 => x1 ++ x2) #[] (Ç x.toNat items)))) :
    Meets (ò.«tuple.__mul__» ⟨[.ref l, .int x u], []⟩) (λ_ R s => s.heap.get? l = À { cls := .type "tuple", dict := dd, data := .seq items n, slots := sl } /\
      R (.ok (.ret (.ref s.heap.objs.size))) { s with heap := s.heap.push { cls := ó "tuple", data := Data.seq (Ľ (λx1 x2 => x1 ++ x2) #[] (Ç x.toNat items)) } }) :=
  .of_wp λprog w A R s h => by
    obtain ⟨hp, g, d, tk, os⟩ := s;obtain ⟨hl, h⟩ := h;have f1 := wJ;have ht : Ŏ ({ heap := hp, gens := g, drawn := d, toks := tk, os := os } : Å).heap l items := ⟨_, hl, rfl, n, rfl⟩;wp_walk using Ĉ hl
    rw [kh hf];try dsimp only
    refine zc (xK ht ?_);try dsimp only
    rw [kh hc, kh h0, kh h1, kh h2];refine zc (m := í _) (jc (zg ⟨_, rfl, h⟩) hz)
def Ki(l:È)(items:Array Ä)(n:Nat)(dd:Option È)(sl:Array (Option Ä))(x:Int)(u:Tok)(hf:¬((decide (x < -2 ^ 63)||decide (x>=2 ^ 63))=Ã))(hc:¬(items.isEmpty||x==1)=Ã)(h0:(decide (x<=0)||items.isEmpty)=Ã) :
  Meets (ò.«tuple.__mul__» ⟨[.ref l,.int x u],[]⟩) (λ_ R s=>s.heap.get? l=À { cls:=.type "tuple",dict:=dd,data:=.seq items n,slots:=sl } /\
   R (.ok (.ret (.ref s.heap.objs.size))) { s with heap:=s.heap.push { cls:=ó "tuple",data:=Data.seq #[] } }):=
 .of_wp λprog w A R s h=>by
  obtain⟨hp,g,d,tk,os⟩:=s;obtain⟨hl,h⟩:=h;have f1:=wJ;have ht:Ŏ ({ heap:=hp,gens:=g,drawn:=d,toks:=tk,os:=os }:Å).heap l items:=⟨_,hl,rfl,n,rfl⟩;wp_walk using Ĉ hl
  rw[kh hf];try dsimp only
  refine zc (xK ht ?_);try dsimp only
  rw[kh hc,zW h0];refine zc (m:=í _) (jc (zg ⟨_,rfl,h⟩) (by show 0<=sizeLine;decide))
section
variable{X:Cx}{cl:Cl}
def Um{H:Hp}{k:Int}{xs:List V}(I:Inv X ag σ H s)(rx:RelV (.ref a) v)(ry:RelV (.int k) u)(hx:SqT X.K H a xs)(h1:0<=k)(h2:k<=1000)(hz:xs.length<=1000)
  (q1:(Ç k.toNat xs).flatten=xs->Q (.ref a) H) (q2:∀p,H p=Á->Q (.ref p) (upd H p (.tup (Ç k.toNat xs).flatten))):É (Ë X.prog X.w) X.A (ë .Mult v u) (EP X ag σ Q) X.xe s:=by
 cases rx;obtain⟨t,rfl⟩:=ry;obtain⟨its,r,ht,_⟩:=I.tuple hx;have d6:=r.length;obtain⟨⟨cls,dd,data,sl⟩,e,hc,n,hd⟩:=id ht;simp only at hc hd;subst hc hd;have Ox:(sizeLine:Nat)=16777216:=jL;have Av:Ľ (λx1 x2=>x1++x2) #[] (Ç k.toNat its.toArray)=(Ç k.toNat its).flatten.toArray:=by
  have:=foldl_rep its k.toNat [];rw[kJ] at this;exact this
 have Lu:k.toNat*its.length<=1000*1000:=Nat.mul_le_mul ∅ ∅;have hf:¬((decide (k < -2 ^ 63)||decide (k>=2 ^ 63))=Ã):=by
  erw[Bool.or_eq_true,qX];omega
 have road:∀{R:Ä->Å->Prop},É (Ë X.prog X.w) X.A (call (.builtin "tuple.__mul__") [.ref a,.int k t]) R X.xe s->É (Ë X.prog X.w) X.A (ë .Mult (.ref a) (.int k t)) R X.xe s:=λEd=>
  pD (T:="tuple") (U:="int") (by decide) ⟨_,e,rfl⟩ (λs'=>uq s' k t) iY F.fills_int_mul yZ sH F.slot_int_index.lookup
   (wj yZ (uq s k t) F.entry_int_rmul (F.args_int_rmul_2 _ _) (eO k t a its.toArray n dd sl) ⟨e,rfl,⟨_,e,rfl⟩,Ed⟩)
 refine road ?_;by_cases c1:(its.toArray.isEmpty||k==1)=Ã
 .refine wj wI ⟨_,e,rfl⟩ uw (uh _ _) (Jm a its.toArray n dd sl k t hf c1) ⟨e,.ref a,H,I,rfl,q1 ?_⟩
  rcases pL.mp c1 with c | c
  .have:its=[]:=by simpa using c
   subst this;cases r;simp
  .have:k=1:=by simpa using c
   subst this;simp
 .by_cases c2:(decide (k<=0)||its.toArray.isEmpty)=Ã
  .refine wj wI ⟨_,e,rfl⟩ uw (uh _ _) (Ki a its.toArray n dd sl k t hf c1 c2) ⟨e,?_⟩
   have hk:k=0:=by
    have ne:its.toArray.isEmpty=Â:=by
     cases z:its.toArray.isEmpty with
     | false=>rfl
     | true=>exact absurd (by rw[z];rfl) c1
    rw[ne,xf] at c2;have:=jD c2;omega
   subst hk;exact⟨.ref _,_,I.laid (t':=s.toks) (o:=.tup (Ç (0:Int).toNat xs).flatten) (λb ob q=>zf _ q) (zG _) ⟨by simp,[],by simpa using Paired.nil,IsTup.new _ _,.new _ _⟩,rfl,q2 _ I.fresh⟩
  .refine wj wI ⟨_,e,rfl⟩ uw (uh _ _) (Kj a its.toArray n dd sl k t hf c1 c2 ?_ ?_ ?_) ⟨e,?_⟩
   .rw[zQ]
    have:(its.length:Int)*k<=1000*1000:=by
     have:(its.length:Int)*k=((k.toNat*its.length:Nat):Int):=by
      rw[xN];push_cast;rw[pK h1]
     omega
    omega
   .rw[zQ]
    unfold Ŀ;have:(its.length:Int)*k<=1000*1000:=by
     have:(its.length:Int)*k=((k.toNat*its.length:Nat):Int):=by
      rw[xN];push_cast;rw[pK h1]
     omega
    erw[qX];omega
   .rw[Av]
    show((Ç k.toNat its).flatten.toArray).size<=sizeLine
    rw[zQ,len_rep];omega
   .rw[Av]
    exact⟨.ref _,_,I.laid (t':=s.toks) (o:=.tup (Ç k.toNat xs).flatten) (λb ob q=>zf _ q) (zG _) ⟨by rw[len_rep,d6];omega,_,r.rep k.toNat,IsTup.new _ _,.new _ _⟩,rfl,q2 _ I.fresh⟩
def UG{H:Hp}{k:Int}{xs:List V}(I:Inv X ag σ H s)(rx:RelV (.ref a) v)(ry:RelV (.int k) u)(hx:SqL X.K H a xs)(h1:0<=k)(h2:k<=1000)(hz:xs.length<=1000)
  (q2:∀p,H p=Á->Q (.ref p) (upd H p (.lst (Ç k.toNat xs).flatten))):É (Ë X.prog X.w) X.A (ë .Mult v u) (EP X ag σ Q) X.xe s:=by
 cases rx;obtain⟨t,rfl⟩:=ry;obtain⟨its,r,⟨o,n,e,hc,hd,MQ⟩,_⟩:=I.list hx;obtain⟨cls,dd,data,sl⟩:=o;simp only at hc hd MQ;subst hc MQ;have d6:=r.length;have Ox:(sizeLine:Nat)=16777216:=jL;have Lu:its.length*k.toNat<=1000*1000:=Nat.mul_le_mul ∅ ∅;have Lv:¬(!ŀ k)=Ã:=by simp[ŀ];omega
 have Ee:¬its.toArray.size*k.toNat>(2 ^ 63-1)/8:=by rw[zQ];omega
 have Ef:¬î (its.toArray.size*k.toNat)=Ã:=by rw[zQ];simp[î,sizeLine];omega
 have Av:Ľ (λx1 x2=>x1++x2) #[] (Ç (if its.toArray.isEmpty=Ã then 0 else k.toNat) its.toArray)=(Ç k.toNat its).flatten.toArray:=by
  have f0:∀m:Nat,Ľ (λx1 x2=>x1++x2) #[] (Ç m its.toArray)=(Ç m its).flatten.toArray:=λm=>by
   have z:=foldl_rep its m [];rw[kJ] at z;exact z
  rw[f0];cases its with
  | nil=>simp
  | cons c r'=>rw[kh (by simp)]
 refine pD (T:="list") (U:="int") (by decide) ⟨_,e,rfl⟩ (λs'=>uq s' k t) noFill_list_mul F.fills_int_mul yZ repeat_list F.slot_int_index.lookup (wj yZ (uq s k t) F.entry_int_rmul (F.args_int_rmul_2 _ _) (lm_int_rmul_list_any k t a its.toArray n dd sl) ⟨e,rfl,⟨_,e,rfl⟩,wj F.slot_list_mul ⟨_,e,rfl⟩ F.entry_list_mul (F.args_list_mul_2 _ _) (lm_list_mul_any a its.toArray n dd sl k t Lv Ee Ef) ⟨e,?_⟩⟩);rw[Av];exact⟨.ref _,_,I.lnew (t':=s.toks) (r.rep k.toNat) (by rw[len_rep,d6,xN];omega),rfl,q2 _ I.fresh⟩
def XA:qv X (ë .Mult) (rM X.K cl ki):=by
 rintro ag s σ H x y v u Q I rx ry ⟨μ,h,wx,wy,w,h',R,ax,ay,e,k⟩;unfold ki at e;split at e
 .rename_i i j
  split at e
  .rename_i hj
   cases e;refine U2 ag s σ H x y v u Q I rx ry ⟨_,_,ax.int_of,ay.int_of,?_,k.pure R (.int _)⟩;unfold small at hj;rw[Bool.or_eq_true,qX,qX] at hj;exact hj
  .cases e
 .rename_i l j
  split at e
  .rename_i hj
   cases e;obtain⟨a,vs,rfl,sa,ra⟩:=ax.tup_of;cases ay.int_of;refine Um I rx ry sa hj.1 hj.2.1 (by rw[<-ra.length];exact hj.2.2) (λz=>k.pure R (.tup sa ?_)) λp hp=>k.tup R (ra.rep _) hp
   have q:=ra.rep j.toNat;rw[z] at q;exact q
  .cases e
 .rename_i l j
  split at e
  .rename_i hj
   cases e;obtain⟨a,vs,rfl,sa,ra⟩:=wq R ax (show getL _ (.fls l)=À l from rfl);cases ay.int_of;exact UG I rx ry sa hj.1 hj.2.1 (by rw[<-ra.length];exact hj.2.2) λp hp=>k.fls R (ra.rep _) hp
  .cases e
 .cases e
end
noncomputable def qk{α β:Type}(f:α->Option β):List α->Option (List β)
 | []=>À []
 | x::r=>match f x,qk f r with
  | some y,À ys=>À (y::ys)
  | _,_=>Á
noncomputable def kD:Nat->MH->W->Option PyData
 | 0,_,_=>Á
 | _+1,_,.non=>À .none
 | _+1,_,.bl b=>À (.bool b)
 | _+1,_,.int i=>À (.int i)
 | _+1,_,.str x=>if è x then À (.str x) else Á
 | n+1,h,.tup l=>(qk (kD n h) l).map .tuple
 | n+1,h,.fls l=>(qk (kD n h) l).map .list
 | n+1,h,.ref k=>match h[k]? with
  | some (.lst l)=>(qk (kD n h) l).map .list
  | _=>Á
 | _+1,_,.fdc _=>Á
 | _+1,_,.fn _=>Á
section
variable{X:Cx}{cl:Cl}{ag:List (È×ö)}{σ:L2.St}{μ:List È}{H:Hp}{s:Å}{h:MH}
def x6(I:Inv X ag σ H s)(R:HR X.K cl μ H h):∀(n:Nat) {w:W} {x:V} {v:Ä} {d:PyData},RW X.K μ H w x->RelV x v->kD n h w=À d->(∃as,Reads s.heap v d as)/\d.canLay0=Ã/\d.depth<=n:=by
 intro n;induction n with
 | zero=>intro w x v d _ _ e;cases e
 | succ n ih=>
  have all:∀{l:List W} {vs:List V} {us:List Ä} {ds:List PyData},RWs X.K μ H l vs->Vals vs us->qk (kD n h) l=À ds->(∃as,ReadsAll s.heap us ds as)/\ü ds=Ã/\ğ ds<=n:=by
   intro l;induction l with
   | nil=>intro vs us ds r t e;cases r;cases t;cases e;exact⟨⟨_,.nil⟩,by unfold ü;rfl,by unfold ğ;omega⟩
   | cons w l ihl=>
    intro vs us ds r t e;cases r with | cons r rs=>cases t with | cons t ts=>
    unfold qk at e;split at e
    .rename_i y ys e1 e2
     cases e;obtain⟨⟨as,h1⟩,h2,h3⟩:=ih r t e1;obtain⟨⟨bs,g1⟩,g2,g3⟩:=ihl rs ts e2;refine⟨⟨_,.cons h1 g1⟩,by unfold ü;rw[h2,g2];rfl,?_⟩;unfold ğ;omega
    .cases e
  have lists:∀{l:List W} {a:È} {vs:List V} {d:PyData},SqL X.K H a vs->RWs X.K μ H l vs->(qk (kD n h) l).map PyData.list=À d->(∃as,Reads s.heap (.ref a) d as)/\d.canLay0=Ã/\d.depth<=n+1:=by
   intro l a vs d sq rs e;cases e1:qk (kD n h) l with
   | none=>rw[e1] at e;cases e
   | some ds=>
    rw[e1] at e;cases e;obtain⟨its,rv,⟨o,m,h1,h2,h3,h4⟩,_⟩:=I.list sq;obtain⟨⟨as,g1⟩,g2,g3⟩:=all rs rv e1;exact⟨⟨_,.list h1 h2 h4 (by simpa using g1)⟩,by unfold č;exact g2,by unfold ħ;omega⟩
  intro w x v d r t e;cases r with
  | non=>cases e;cases t;exact⟨⟨_,.none⟩,by unfold č;rfl,by unfold ħ;omega⟩
  | bl b=>cases e;cases t;exact⟨⟨_,.bool b⟩,by unfold č;rfl,by unfold ħ;omega⟩
  | int i=>cases e;obtain⟨tk,rfl⟩:=t;exact⟨⟨_,.int i tk⟩,by unfold č;rfl,by unfold ħ;omega⟩
  | str z=>
   erw[kD] at e;split at e
   .rename_i ok
    cases e;obtain⟨tk,rfl⟩:=t;exact⟨⟨_,.str z tk⟩,by unfold č;exact ok,by unfold ħ;omega⟩
   .cases e
  | @tup a vs l sq rs=>
   erw[kD] at e;cases t;cases e1:qk (kD n h) l with
   | none=>rw[e1] at e;cases e
   | some ds=>
    rw[e1] at e;cases e;obtain⟨its,rv,⟨o,h1,h2,m,h4⟩,_⟩:=I.tuple sq;obtain⟨⟨as,g1⟩,g2,g3⟩:=all rs rv e1;exact⟨⟨_,.tuple h1 h2 h4 (by simpa using g1)⟩,by unfold č;exact g2,by unfold ħ;omega⟩
  | @fls a vs l sq rs=>cases t;erw[kD] at e;exact lists sq.sq rs e
  | fdc=>cases e
  | fn=>cases e
  | @ref k a hk=>
   cases t;erw[kD] at e;split at e
   .rename_i l ho
    obtain⟨vs,hv,rs⟩:=R.ob k a _ hk ho;exact lists (SqL.of hv) rs e
   .cases e
end
section
variable{X:Cx}{cl:Cl}{ag:List (È×ö)}{σ:L2.St}{μ:List È}{H:Hp}{s:Å}{h:MH}
def Zd(I:Inv X ag σ H s)(R:HR X.K cl μ H h)(n:Nat):∀{l:List W} {vs:List V} {us:List Ä} {ds:List PyData},RWs X.K μ H l vs->Vals vs us->qk (kD n h) l=À ds->(∃as,ReadsAll s.heap us ds as)/\ü ds=Ã:=by
 intro l;induction l with
 | nil=>intro vs us ds r t e;cases r;cases t;cases e;exact⟨⟨_,.nil⟩,by unfold ü;rfl⟩
 | cons w l ihl=>
  intro vs us ds r t e;cases r with | cons r rs=>cases t with | cons t ts=>
  unfold qk at e;split at e
  .rename_i y ys e1 e2
   cases e;obtain⟨⟨as,h1⟩,h2,h3⟩:=x6 I R n r t e1;obtain⟨⟨bs,g1⟩,g2⟩:=ihl rs ts e2;exact⟨⟨_,.cons h1 g1⟩,by unfold ü;rw[h2,g2];rfl⟩
  .cases e
end
noncomputable def deep:Nat:=60
noncomputable def ip(x y:W):Option Bool:=match x,y with
 | .str a,.str b=>À (a==b)
 | .int a,.int b=>À (a==b)
 | .bl a,.bl b=>À (a==b)
 | _,_=>Á
noncomputable def eqB(h:MH)(x y:W):Option Bool:=match ip x y with
 | some b=>À b
 | none=>match kD deep h x,kD deep h y with
  | some d,À e=>À (ä d e)
  | _,_=>Á
noncomputable def kf(neg:Bool)(x y:W):M W:=λh=>match eqB h x y with
 | some b=>À (.bl (if neg then !b else b),h)
 | none=>Á
noncomputable def qV(h:MH):W->Option (List W)
 | .tup l=>À l
 | w=>getL h w
noncomputable def DG(j i:Æ):Bool:=!(Ģ j i 0 j.length 1).isEmpty
noncomputable def inB(h:MH)(x y:W):Option Bool:=match x,y with
 | .str i,.str j=>À (DG j i)
 | x,y=>match qV h y with
  | some l=>match kD deep h x,qk (kD deep h) l with
   | some d,À ds=>À (ds.any λe=>ä e d)
   | _,_=>Á
  | none=>Á
noncomputable def vk(neg:Bool)(x y:W):M W:=λh=>match inB h x y with
 | some b=>À (.bl (if neg then !b else b),h)
 | none=>Á
section
variable{X:Cx}{cl:Cl}
def Qu(hu:X.A.units+64<ď){H:Hp}(I:Inv X ag σ H s)(rx:RelV x v)(ry:RelV y u)
  (R:HR X.K cl μ H h) (ax:RW X.K μ H wx x) (ay:RW X.K μ H wy y) (e:eqB h wx wy=À b) :
  (Q (.bl b) H->É (Ë X.prog X.w) X.A (Ù .Eq v u) (EP X ag σ Q) X.xe s)/\(Q (.bl (!b)) H->É (Ë X.prog X.w) X.A (Ù .NotEq v u) (EP X ag σ Q) X.xe s):=by
 unfold eqB at e;split at e
 .rename_i b' e'
  cases e;unfold ip at e';split at e'
  .rename_i i j
   cases e';cases ax.str_of;cases ay.str_of;exact⟨λq=>JC ag s σ H _ _ v u Q I rx ry ⟨rfl,by rw[gM];exact q⟩,λq=>Jr ag s σ H _ _ v u Q I rx ry ⟨rfl,by rw[gM];exact q⟩⟩
  .rename_i i j
   cases e';cases ax.int_of;cases ay.int_of;exact⟨λq=>JC ag s σ H _ _ v u Q I rx ry ⟨rfl,by rw[gY];exact q⟩,λq=>Jr ag s σ H _ _ v u Q I rx ry ⟨rfl,by rw[gY];exact q⟩⟩
  .rename_i i j
   cases e';cases ax.bl_of;cases ay.bl_of;exact⟨λq=>JC ag s σ H _ _ v u Q I rx ry ⟨rfl,by rw[l6];exact q⟩,λq=>Jr ag s σ H _ _ v u Q I rx ry ⟨rfl,by rw[l6];exact q⟩⟩
  .cases e'
 .split at e
  .rename_i d d' e1 e2
   cases e;obtain⟨⟨as,r1⟩,c1,d1⟩:=x6 I R deep ax rx e1;obtain⟨⟨bs,r2⟩,c2,d2⟩:=x6 I R deep ay ry e2;have hr:X.A.units+min d.depth d'.depth<ď:=by
    have:min d.depth d'.depth<=d.depth:=Nat.min_le_left _ _;unfold deep at d1;omega
   exact⟨λq=>SeqAt.compareEq_reads r1 r2 c1 c2 hr ⟨.bl _,H,I,rfl,q⟩,λq=>SeqAt.compareNe_reads r1 r2 c1 c2 hr ⟨.bl _,H,I,rfl,q⟩⟩
  .cases e
def CJ(hu:X.A.units+64<ď):qv X (Ù .Eq) (rM X.K cl (kf Â)):=by
 rintro ag s σ H x y v u Q I rx ry ⟨μ,h,wx,wy,w,h',R,ax,ay,e,k⟩;unfold kf at e;split at e
 .rename_i b eb
  cases e;exact(Qu hu I rx ry R ax ay eb).1 (k.pure R (.bl _))
 .cases e
def Cj(hu:X.A.units+64<ď):qv X (Ù .NotEq) (rM X.K cl (kf Ã)):=by
 rintro ag s σ H x y v u Q I rx ry ⟨μ,h,wx,wy,w,h',R,ax,ay,e,k⟩;unfold kf at e;split at e
 .rename_i b eb
  cases e;exact(Qu hu I rx ry R ax ay eb).2 (k.pure R (.bl _))
 .cases e
def bi{K:Sb}{μ:List È}{H:Hp}{h:MH}(R:HR K cl μ H h)(r:RW K μ H w v)(e:qV h w=À l):∃a vs,v=.ref a/\(SqL K H a vs\/SqT K H a vs)/\RWs K μ H l vs:=by
 unfold qV at e;split at e
 .cases e
  obtain⟨a,vs,rfl,sa,ra⟩:=r.tup_of;exact⟨a,vs,rfl,.inr sa,ra⟩
 .obtain⟨a,vs,rfl,sa,ra⟩:=wq R r e
  exact⟨a,vs,rfl,.inl sa,ra⟩
def J5(hu:X.A.units+64<ď){ag:List (È×ö)}{s:Å}{σ:L2.St}{H:Hp}{x y:V}{v u:Ä}(I:Inv X ag σ H s)(rx:RelV x v)(ry:RelV y u)
  (R:HR X.K cl μ H h) (ax:RW X.K μ H wx x) (ay:RW X.K μ H wy y) (e:inB h wx wy=À b) :
  (Q (.bl b) H->É (Ë X.prog X.w) X.A (Ù .In v u) (EP X ag σ Q) X.xe s)/\(Q (.bl (!b)) H->É (Ë X.prog X.w) X.A (Ù .NotIn v u) (EP X ag σ Q) X.xe s):=by
 unfold inB at e;split at e
 .rename_i i j
  cases e;exact⟨λq=>Vj ag s σ H x y v u Q I rx ry ⟨i,j,ax.str_of,ay.str_of,q⟩,λq=>sY ag s σ H x y v u Q I rx ry ⟨i,j,ax.str_of,ay.str_of,q⟩⟩
 .split at e
  .rename_i l el
   split at e
   .rename_i d ds e1 e2
    cases e;obtain⟨a,vs,rfl,sa,ra⟩:=bi R ay el;cases ry;obtain⟨⟨as,r1⟩,c1,d1⟩:=x6 I R deep ax rx e1;have big:kD (deep+1) h (.tup l)=À (.tuple ds):=by erw[kD];rw[e2];rfl
    have Oy:kD (deep+1) h (.fls l)=À (.list ds):=by erw[kD];rw[e2];rfl
    have hr:X.A.units+1+min (ğ ds) d.depth<ď:=by
     have:min (ğ ds) d.depth<=d.depth:=Nat.min_le_right _ _;unfold deep at d1;omega
    rcases sa with sa | sa
    .obtain⟨its,rv,⟨o,m,h1,h2,h3,h4⟩,_⟩:=I.list sa
     obtain⟨⟨RI,g1⟩,c2⟩:=Zd I R deep ra rv e2;have r2:Reads s.heap (.ref a) (.list ds) _:=.list h1 h2 h4 (by simpa using g1);exact⟨λq=>SeqAt.in_list_reads r2 r1 c2 c1 hr ⟨.bl _,H,I,rfl,q⟩,λq=>SeqAt.notIn_list_reads r2 r1 c2 c1 hr ⟨.bl _,H,I,rfl,q⟩⟩
    .obtain⟨⟨bs,r2⟩,c2,_⟩:=x6 I R (deep+1) (.tup sa ra) rfl big
     have GU:ü ds=Ã:=by unfold č at c2;exact c2
     exact⟨λq=>SeqAt.in_tuple_reads r2 r1 GU c1 hr ⟨.bl _,H,I,rfl,q⟩,λq=>SeqAt.notIn_tuple_reads r2 r1 GU c1 hr ⟨.bl _,H,I,rfl,q⟩⟩
   .cases e
  .cases e
def Dz(hu:X.A.units+64<ď):qv X (Ù .In) (rM X.K cl (vk Â)):=by
 rintro ag s σ H x y v u Q I rx ry ⟨μ,h,wx,wy,w,h',R,ax,ay,e,k⟩;unfold vk at e;split at e
 .rename_i b eb
  cases e;exact(J5 hu I rx ry R ax ay eb).1 (k.pure R (.bl _))
 .cases e
def QA(hu:X.A.units+64<ď):qv X (Ù .NotIn) (rM X.K cl (vk Ã)):=by
 rintro ag s σ H x y v u Q I rx ry ⟨μ,h,wx,wy,w,h',R,ax,ay,e,k⟩;unfold vk at e;split at e
 .rename_i b eb
  cases e;exact(J5 hu I rx ry R ax ay eb).2 (k.pure R (.bl _))
 .cases e
end
inductive Ty where
 | int | str | bool | tuple | list | dict
 deriving DecidableEq
noncomputable def Ty.name:Ty->String
 | .int=>"int" | .str=>"str" | .bool=>"bool" | .tuple=>"tuple" | .list=>"list" | .dict=>"dict"
noncomputable def ik(h:MH):W->Option Ty
 | .bl _=>À .bool
 | .int _=>À .int
 | .str _=>À .str
 | .tup _=>À .tuple
 | .fls _=>À .list
 | .ref n=>match h[n]? with
  | some (.lst _)=>À .list
  | some (.dic _)=>À .dict
  | _=>Á
 | .fdc _=>À .dict
 | .fn _=>Á
 | .non=>Á
noncomputable def tj(T:Ty)(x:W)(h:MH):Option Bool:=match x with
 | .non=>À Â
 | x=>match ik h x with
  | some t=>À (decide (t=T)||(decide (t=.bool)&&decide (T=.int)))
  | none=>Á
noncomputable def isW(T:Ty)(x:W):M W:=λh=>match tj T x h with
 | some b=>À (.bl b,h)
 | none=>Á
def JL(K:Sb):∀(t T:Ty),ĸ K (.type t.name) (.type T.name)=À (decide (t=T)||(decide (t=.bool)&&decide (T=.int))):=by
 intro t T;cases t<;>cases T<;>kernel_rfl
def VW(K:Sb):∀(T:Ty),ĸ K (.type "NoneType") (.type T.name)=À Â:=by
 intro T;cases T<;>kernel_rfl
section
variable{X:Cx}{cl:Cl}{a:Î}{ma:ME}{pos p p2:ĝ}
def Vi(T:Ty):va X (.builtin "isinstance") (λxs H Q=>∃x,xs=[x,.ty T.name]/\rM1 X.K cl (isW T) x H Q):=by
 rintro ag s σ H xs us Q I rs ⟨x,rfl,μ,h,wx,w,h',R,ax,e,k⟩;obtain⟨u,u2,rfl,ru,GV⟩:=vals2 rs;obtain rfl:u2=.type T.name:=GV;unfold isW at e;split at e
 .rename_i b eb
  cases e;have q:Q (.bl b) H:=k.pure R (.bl _);have fin:∀tk,EP X ag σ Q (.bool b) { s with toks:=tk }:=λtk=>⟨.bl b,H,I.tok tk,rfl,q⟩
  have go:∀{t:Ty},ik h wx=À t->ĸ X.K (.type t.name) (.type T.name)=À b:=λ{t} e1=>by
   rw[JL];unfold tj at eb;split at eb
   .cases e1
   .rw[e1] at eb;exact eb
  cases ax with
  | non=>
   cases eb;cases ru;exact jl ſ I.kIn ø (VW X.K T) (λz=>nomatch z) fin
  | bl y=>cases ru;exact jl PySem.W.kitx_bool I.kIn ø (go (t:=.bool) rfl) (λz=>nomatch z) fin
  | int i=>obtain⟨t,rfl⟩:=ru;exact jl PySem.W.kitx_int I.kIn ø (go (t:=.int) rfl) (λz=>nomatch z) fin
  | str y=>obtain⟨t,rfl⟩:=ru;exact jl PySem.W.kitx_str I.kIn ø (go (t:=.str) rfl) (λz=>nomatch z) fin
  | @tup a vs l sa ra=>
   cases ru;obtain⟨its,_,⟨o,h1,h2,_⟩,_⟩:=I.tuple sa;exact jl pM I.kIn ⟨o,h1,h2⟩ (go (t:=.tuple) rfl) (λz=>nomatch z) fin
  | @fls a vs l sa ra=>
   cases ru;obtain⟨its,_,⟨o,n,h1,h2,_⟩,_⟩:=I.list sa.sq;exact jl wU I.kIn ⟨o,h1,h2⟩ (go (t:=.list) rfl) (λz=>nomatch z) fin
  | @fdc a l l' ws vs sa kk e1 e2 ra=>
   cases ru;have g:=go (t:=.dict) rfl;obtain⟨_,_,FM,_,dd⟩:=lm I.hok sa.1;obtain⟨o,es,ep,h1,h2,_⟩:=dd;exact jl xq I.kIn ⟨o,h1,h2.1⟩ g (λz=>nomatch z) fin
  | @fn a=>
   erw[tj,ik] at eb;cases eb
  | @ref n a hn=>
   cases ru;cases et:ik h (.ref n) with
   | none=>erw[tj,et] at eb;cases eb
   | some t=>
    have g:=go et;erw[ik] at et;split at et
    .rename_i l ho
     cases et;obtain⟨vs,hv,_⟩:=R.ob n a _ hn ho;obtain⟨its,_,⟨o,n,h1,h2,_⟩,_⟩:=I.list (SqL.of hv);exact jl wU I.kIn ⟨o,h1,h2⟩ g (λz=>nomatch z) fin
    .rename_i l ho
     cases et;obtain⟨l',hv,_⟩:=R.ob n a _ hn ho;exact QJ (x:=.ref a) I rfl (.dK hv) g fin
    .cases et
 .cases e
def CO(T:Ty)(ha:SE X cl a ma)(hi:X.mg "isinstance" = Á)(ht:X.mg y=Á)(hv:Õ y=À (.type T.name))(hg:↥(Gl X "isinstance"))(Lw:↥(Gl X y))
  (hn:⇑(y≠"__name__")) (AA:⇑((y==("__debug__":Æ))=Â))
  (GW:↥(Ê [a,.Name y p2] X.env=(Â,eval a X.env)::Ê [.Name y p2] X.env)) (Eg:↥(Ê [.Name y p2] X.env=(Â,eval (.Name y p2) X.env)::Ê [] X.env))
  (Ad:↥((ß pos (Ê [.Name y p2] X.env)).any (·.1)=Â)):SE X cl (.Call (.Name "isinstance" p) [a,.Name y p2] [] pos) (vw (isW T) ma):=
 PE.wk (rB (Vi (cl:=cl) T) hg hi PyProof.Rows.boot_isinstance (mT ha (mT (UH Lw ht hv (show RelV (.ty T.name) (.type T.name) from rfl) hn AA) Vf Eg) GW) (by decide) (by decide) GW Ad) λσ H Q q0=>by
  obtain⟨μ,h,ρ,w,h',R,er,e,k⟩:=q0;obtain⟨x,h1,e1,e⟩:=kg e;exact⟨μ,h,ρ,x,h1,R,er,e1,λd3 H1 vx E1 R1 rx=>⟨vx,rfl,d3,h1,x,w,h',R1,rx,e,k.ext E1⟩⟩
noncomputable def iV(ws:List W):M W:=λh=>match ws with
 | [.int i]=>À (.int i,h)
 | [.bl b]=>À (.int (if b then 1 else 0),h)
 | _=>Á
noncomputable def c8(ws:List W):M W:=λh=>match ws with
 | [.tup l]=>À (.tup l,h)
 | [w]=>match getL h w with
  | some l=>À (.tup l,h)
  | none=>Á
 | _=>Á
noncomputable def KU(ws:List W):M W:=λh=>match ws with
 | [w]=>match qV h w with
  | some l=>À (.fls l,h)
  | none=>Á
 | _=>Á
def QL:va X (.type "int") (rMs X.K cl iV):=by
 rintro ag s σ H xs us Q I rs ⟨μ,h,ws,w,h',R,ax,e,k⟩;unfold iV at e;split at e
 .cases e
  cases ax with | cons r t=>cases t with | nil=>
   cases r.int_of;exact nA ag s σ H _ us Q I rs (.inl ⟨_,rfl,k.pure R (.int _)⟩)
 .cases e
  cases ax with | cons r t=>cases t with | nil=>
   cases r.bl_of;exact nA ag s σ H _ us Q I rs (.inr ⟨_,rfl,k.pure R (.int _)⟩)
 .cases e
def t6:va X (.type "tuple") (rMs X.K cl c8):=by
 rintro ag s σ H xs us Q I rs ⟨μ,h,ws,w,h',R,ax,e,k⟩;unfold c8 at e;split at e
 .rename_i l
  cases e;cases ax with | cons r t=>cases t with | nil=>
   obtain⟨a,vs,rfl,sa,ra⟩:=r.tup_of;exact fR ag s σ H _ us Q I rs ⟨a,vs,rfl,.inr ⟨sa,k.pure R (.tup sa ra)⟩⟩
 .split at e
  .rename_i l el
   cases e;cases ax with | cons r t=>cases t with | nil=>
    obtain⟨a,vs,rfl,sa,ra⟩:=wq R r el;exact fR ag s σ H _ us Q I rs ⟨a,vs,rfl,.inl ⟨sa,λp hp=>k.tup R ra hp⟩⟩
  .cases e
 .cases e
def Jl:va X (.type "list") (rMs X.K cl KU):=by
 rintro ag s σ H xs us Q I rs ⟨μ,h,ws,w,h',R,ax,e,k⟩;unfold KU at e;split at e
 .split at e
  .rename_i l el
   cases e;cases ax with | cons r t=>cases t with | nil=>
    obtain⟨a,vs,rfl,sa,ra⟩:=bi R r el;exact sL ag s σ H _ us Q I rs ⟨a,vs,rfl,sa,λp hp=>k.fls R ra hp⟩
  .cases e
 .cases e
end
noncomputable def j3(x:W)(ws:List W):M W:=λh=>match x,ws with
 | .ref n,[y]=>match h[n]? with
  | some (.lst l)=>if l.length<cap then À (.non,h.set n (.lst (l++[y]))) else Á
  | _=>Á
 | _,_=>Á
noncomputable def vS(x:W)(ws:List W):M W:=λh=>match x,ws with
 | .ref n,[y]=>match h[n]?,qV h y with
  | some (.lst l),À l'=>if l.length+l'.length<=cap then À (.non,h.set n (.lst (l++l'))) else Á
  | _,_=>Á
 | _,_=>Á
noncomputable def iJ(x:W)(ws:List W):M W:=λh=>match x,ws with
 | .ref n,[]=>match h[n]? with
  | some (.lst l)=>match l[l.length-1]? with
   | some y=>À (y,h.set n (.lst l.dropLast))
   | none=>Á
  | _=>Á
 | _,_=>Á
noncomputable def kH(f:W->List W->M W)(o:ME)(ms:List ME):ME:=λρ=>bnd (o ρ) λx h=>if (getL h x).isSome=Ã then bnd (uu ms ρ) (λws=>f x ws) h else Á
section
variable{X:Cx}{cl:Cl}{o e:Î}{es:List Î}{mo:ME}{ms:List ME}{apos cpos:ĝ}{f:W->List W->M W}
inductive rMm(K:Sb)(cl:Cl)(f:W->List W->M W)(x:V)(xs:List V)(H:Hp)(Q:VK):Prop
 | mk (μ:List È) (h:MH) (wx:W) (ws:List W) (w:W) (h':MH) (p0:HR K cl μ H h) (p1:RW K μ H wx x) (p2:RWs K μ H ws xs) (p3:f wx ws h=À (w,h')) (p4:KQ K cl μ H h' w Q):rMm K cl f x xs H Q
def mX{H:Hp}(q:tM X.K cl (kH f mo ms) σ H Q):FD X.K "list" (rMm X.K cl f) (tM X.K cl mo) (tMA X.K cl ms) σ H Q:=by
 obtain⟨μ,h,ρ,w,h',R,er,e,k⟩:=q;obtain⟨x,h1,e1,e⟩:=kg e;split at e
 .rename_i hl
  obtain⟨ws,h2,e2,e⟩:=kg e;refine⟨μ,h,ρ,x,h1,R,er,e1,λd3 H1 vx E1 R1 rx=>?_⟩;obtain⟨l,hl⟩:=vJ.mp hl;obtain⟨a,vs,rfl,sa,ra⟩:=wq R1 rx hl;exact⟨.inl ⟨rfl,vs,sa⟩,d3,h1,ρ,ws,h2,R1,er.ext R E1,e2,λhG H2 xs E2 R2 rs=>⟨hG,h2,x,ws,w,h',R2,rx.ext R1 E2,rs,e,k.ext (E1.trans E2)⟩⟩
 .cases e
def K8{H:Hp}(q:tM X.K cl (kH f mo []) σ H Q):Dl X.K "list" (rMm X.K cl f) (tM X.K cl mo) σ H Q:=by
 obtain⟨μ,h,ρ,w,h',R,er,e,k⟩:=q;obtain⟨x,h1,e1,e⟩:=kg e;split at e
 .rename_i hl
  obtain⟨ws,h2,e2,e⟩:=kg e;cases e2;refine⟨μ,h,ρ,x,h1,R,er,e1,λd3 H1 vx E1 R1 rx=>?_⟩;obtain⟨l,hl⟩:=vJ.mp hl;obtain⟨a,vs,rfl,sa,ra⟩:=wq R1 rx hl;exact⟨.inl ⟨rfl,vs,sa⟩,d3,h1,x,[],w,h',R1,rx,.nil,e,k.ext E1⟩
 .cases e
theorem KQ.put{K:Sb}{μ:List È}{H:Hp}{h:MH}{n:Nat}{a:È}(k:KQ K cl μ H (h.set n (.lst l)) w Q)(R:HR K cl μ H h)(hn:μ[n]?=À a)(rs:RWs K μ H l vs)(r:RW K μ H w v):Q v (upd H a (.lst vs)):=
 k μ _ v (.put hn) (R.put hn ⟨vs,qq,rs.ext R (.put hn)⟩) (r.ext R (.put hn))
def Je:Zp X "list.append" (rMm X.K cl j3):=by
 rintro ag s σ H x xs v us Q I rx rs ⟨μ,h,wx,ws,w,h',R,ax,as,e,k⟩;unfold j3 at e;split at e
 .rename_i n y
  split at e
  .rename_i l ho
   split at e
   .rename_i hl
    cases e;cases ax with | @ref _ a hn=>
    cases as with | cons r t=>cases t with | nil=>
    obtain⟨vs,hv,rl⟩:=R.ob n a _ hn ho;exact oE ag s σ H _ _ v us Q I rx rs ⟨a,vs,_,rfl,rfl,hv,zO (by rw[<-rl.length];exact hl) yv,k.put R hn (rl.append (.cons r .nil)) .non⟩
   .cases e
  .cases e
 .cases e
def Uq:Zp X "list.pop" (rMm X.K cl iJ):=by
 rintro ag s σ H x xs v us Q I rx rs ⟨μ,h,wx,ws,w,h',R,ax,as,e,k⟩;unfold iJ at e;split at e
 .rename_i n
  split at e
  .rename_i l ho
   split at e
   .rename_i y hy
    cases e;cases ax with | @ref _ a hn=>
    cases as;obtain⟨vs,hv,rl⟩:=R.ob n a _ hn ho;obtain⟨v',ev,rv⟩:=rl.get hy;exact Cr ag s σ H _ _ v us Q I rx rs ⟨a,vs,v',rfl,rfl,hv,by rw[<-rl.length];exact ev,k.put R hn rl.dropLast rv⟩
   .cases e
  .cases e
 .cases e
def sg(T:String)(hT:T="list" \/ T="tuple")(l:È)(items:Array Ä)(n:Nat)(b:È)(Ai:Array Ä)(n2:Nat)(AZ:Option È)(AR:Array (Option Ä))(RJ:¬(!items.isEmpty&&î (items.size+Ai.size))=Ã)(Lx:items.size<=sizeLine)(Eg:items.size+Ai.size<=sizeLine+1) :
  Meets (ò.«list.extend» ⟨[.ref l,.ref b],[]⟩) (λ_ R s=>s.heap.get? l=À { cls:=.type "list",dict:=Á,data:=.seq items n,slots:=#[] }/\s.heap.get? b=À { cls:=.type T,dict:=AZ,data:=.seq Ai n2,slots:=AR }/\R (.ok (.ret Ó)) { s with heap:=s.heap.update l (Û λx=>x++Ai),toks:=s.toks }):=by
 rcases hT with rfl | rfl
 .exact .of_wp λprog w A R s h=>by
   obtain⟨hp,g,d,tk,os⟩:=s;obtain⟨hl,hb,h⟩:=h;have f1:=wJ;have f2:=pO;have f3:=AutoSeq1.sub_list_list;have f4:=AutoSeq1.sub_tuple_list;have f5:=AutoSeq1.sub_list_tuple;have Lz:(items++Ai).size<=sizeLine+1:=by rw[Array.size_append];exact Eg
   wp_walk using (vW hl rfl (hz:=Lx) (_hz':=Lz)),Ĉ hl,Ĉ hb;exact⟨_,rfl,h⟩
 .exact .of_wp λprog w A R s h=>by
   obtain⟨hp,g,d,tk,os⟩:=s;obtain⟨hl,hb,h⟩:=h;have f1:=wJ;have f2:=pO;have f3:=AutoSeq1.sub_list_list;have f4:=AutoSeq1.sub_tuple_list;have f5:=AutoSeq1.sub_list_tuple;have Lz:(items++Ai).size<=sizeLine+1:=by rw[Array.size_append];exact Eg
   wp_walk using (vW hl rfl (hz:=Lx) (_hz':=Lz)),Ĉ hl,Ĉ hb;exact⟨_,rfl,h⟩
def K9{H:Hp}{xs zs:List V}(I:Inv X ag σ H s)(rx:RelV (.ref l) v)(ru:RelV (.ref b) u)(hH:H l=À (.lst xs))(hB:SqL X.K H b zs\/SqT X.K H b zs)(hz:xs.length+zs.length<=sizeLine)
  (q:Q .non (upd H l (.lst (xs++zs)))):É (Ë X.prog X.w) X.A (call (.builtin "list.extend") [v,u]) (EP X ag σ Q) X.xe s:=by
 cases rx;cases ru;obtain⟨z,its,n,r,hl,e⟩:=I.lstM hH;have go:∀{T:String} {Al:List Ä} {n2:Nat} {AZ:Option È} {AR:Array (Option Ä)},(T="list" \/ T="tuple")->Vals zs Al->s.heap.get? b=À { cls:=.type T,dict:=AZ,data:=.seq Al.toArray n2,slots:=AR }->
   É (Ë X.prog X.w) X.A (call (.builtin "list.extend") [.ref l,.ref b]) (EP X ag σ Q) X.xe s:=by
  intro T Al n2 AZ AR hT r2 e2;have MR:=r2.length;have hsz:its.toArray.size+Al.toArray.size<=sizeLine:=by rw[zQ,zQ];omega
  have Ef:¬(!its.toArray.isEmpty&&î (its.toArray.size+Al.toArray.size))=Ã:=by
   rw[WA hsz,Bool.and_false];exact zR
  refine wj F.slot_list_extend ⟨_,e,rfl⟩ F.entry_list_extend (F.args_list_extend_2 _ _) (sg T hT l its.toArray n b Al.toArray n2 AZ AR Ef (by rw[zQ];omega) ∅) ⟨e,e2,?_⟩;refine⟨.non,_,I.lset (its':=its++Al) hH e (by simp) (r.append r2) ?_,rfl,q⟩;rw[zL];omega
 rcases hB with hB | hB
 .obtain⟨Al,r2,⟨⟨c2,d2,Oz,AR⟩,n2,h1,h2,h3,h4⟩,_⟩:=I.list hB
  simp only at h2 h4;subst h2 h4;exact go (.inl rfl) r2 h1
 .obtain⟨Al,r2,⟨⟨c2,d2,Oz,AR⟩,h1,h2,n2,h4⟩,_⟩:=I.tuple hB
  simp only at h2 h4;subst h2 h4;exact go (.inr rfl) r2 h1
def KA:Zp X "list.extend" (rMm X.K cl vS):=by
 rintro ag s σ H x xs v us Q I rx rs ⟨μ,h,wx,ws,w,h',R,ax,as,e,k⟩;unfold vS at e;split at e
 .rename_i n y
  split at e
  .rename_i l l' ho el
   split at e
   .rename_i hl
    cases e;cases ax with | @ref _ a hn=>
    cases as with | cons r t=>cases t with | nil=>
    obtain⟨vs,hv,rl⟩:=R.ob n a _ hn ho;obtain⟨b,zs,rfl,sb,rb⟩:=bi R r el;obtain⟨u,rfl,ru⟩:=rs.one;exact K9 I rx ru hv sb (zz (by rw[<-rl.length,<-rb.length];exact hl) yv) (k.put R hn (rl.append rb) .non)
   .cases e
  .cases e
 .cases e
def Va(ho:SE X cl o mo)(ha:SA X cl (e::es) ms)(Aa:↥(ċ o "append" X.env (eval o X.env)=eval o X.env))
  (AM:((ß cpos (Ê (e::es) X.env)).all (λx=>!x.1)&&(ŏ cpos (Ĥ [] X.env)).all (λx=>x.1.isSome)
   && decide ((e::es).length+([]:List Ğ).length+(if ([]:List Ğ).isEmpty then 0 else 1)<30))=Ã:=by rfl)
  (Ab:↥((apos.endLine==cpos.line)=Ã)) (hs:↥(Ê (e::es) X.env=(Â,eval e X.env)::Ê es X.env)) (Ae:↥((ß cpos (Ê es X.env)).any (·.1)=Â)) :
  SE X cl (.Call (.Attribute o "append" apos) (e::es) [] cpos) (kH j3 mo ms):=
 PE.wk (YH wY PySem.F.slot_list_append PySem.F.type_list_append Je ho ha Aa AM Ab hs Ae) λσ H Q q=>mX q
def JU(ho:SE X cl o mo)(ha:SA X cl (e::es) ms)(Aa:↥(ċ o "extend" X.env (eval o X.env)=eval o X.env))
  (AM:((ß cpos (Ê (e::es) X.env)).all (λx=>!x.1)&&(ŏ cpos (Ĥ [] X.env)).all (λx=>x.1.isSome)
   && decide ((e::es).length+([]:List Ğ).length+(if ([]:List Ğ).isEmpty then 0 else 1)<30))=Ã:=by rfl)
  (Ab:↥((apos.endLine==cpos.line)=Ã)) (hs:↥(Ê (e::es) X.env=(Â,eval e X.env)::Ê es X.env)) (Ae:↥((ß cpos (Ê es X.env)).any (·.1)=Â)) :
  SE X cl (.Call (.Attribute o "extend" apos) (e::es) [] cpos) (kH vS mo ms):=
 PE.wk (YH wY PySem.F.slot_list_extend PySem.F.type_list_extend KA ho ha Aa AM Ab hs Ae) λσ H Q q=>mX q
def Dj(ho:SE X cl o mo)(Aa:↥(ċ o "pop" X.env (eval o X.env)=eval o X.env))(Ab:↥((apos.endLine==cpos.line)=Ã)) :
  SE X cl (.Call (.Attribute o "pop" apos) [] [] cpos) (kH iJ mo []):=
 PE.wk (Ci wY PySem.F.slot_list_pop PySem.F.type_list_pop Uq ho Aa Ab) λσ H Q q=>K8 q
end
noncomputable def srcOf(x:W):M Src:=λh=>match x with
 | .tup l=>À (.items l,h)
 | .fls l=>À (.items l,h)
 | .ref n=>match h[n]? with
  | some (.lst _)=>À (.live n,h)
  | _=>Á
 | _=>Á
noncomputable def kc(m:ME):MI:=λρ=>bnd (m ρ) srcOf
noncomputable def upto(n:Nat):List W:=(_root_.List.range n).map λ(i:Nat)=>W.int (i:Int)
noncomputable def gA(ws:List W):M Src:=λh=>match ws with
 | [.int j]=>if -(2 ^ 62)<=j/\j<2 ^ 62 then À (.items (upto j.toNat),h) else Á
 | _=>Á
noncomputable def yb(ms:List ME):MI:=λρ=>bnd (uu ms ρ) gA
section
variable{X:Cx}{cl:Cl}{tg e:Î}{m:ME}{ms:List ME}{p pos:ĝ}
def Dy(hl:PE X e tl):PI X tg e (λσ H R=>tl σ H λx H1=>∃a,x=.ref a/\(((∃xs,SqL X.K H1 a xs)/\R (YF X.K a) H1)\/((∃xs,SqT X.K H1 a xs)/\R (CK X.K a) H1))):=by
 intro ag s σ H R I h;refine kC (hl ag s σ H _ I h) ?_;rintro v s1 ⟨x,H1,I1,r1,q1⟩;obtain⟨a,e,q1⟩:=q1;subst e;cases r1;rcases q1 with ⟨⟨xs,hq⟩,q⟩ | ⟨⟨xs,hq⟩,q⟩
 .obtain⟨its,rv,p,hz⟩:=I1.list hq
  refine vC p.isList ?_;refine⟨s1.heap.objs.size,[s1.heap.objs.size],_,_,H1,rfl,I1.kept (t':=s1.toks) λb o e=>zf _ e,Vv a _,⟨_,zK _ rfl,rfl,rfl⟩,λb hb=>?_,q⟩;have e:b=s1.heap.objs.size:=by simpa using hb
  subst e;exact I1.fpOk (zG _) (I1.hok.fresh (zG _))
 .obtain⟨its,rv,p,hz⟩:=I1.tuple hq
  refine yj (show s1.heap.IsTuple a its.toArray from p) ?_;refine⟨s1.heap.objs.size,[s1.heap.objs.size],_,_,H1,rfl,I1.kept (t':=s1.toks) λb o e=>zf _ e,Km a _,⟨_,zK _ rfl,rfl,rfl⟩,λb hb=>?_,q⟩;have e:b=s1.heap.objs.size:=by simpa using hb
  subst e;exact I1.fpOk (zG _) (I1.hok.fresh (zG _))
def Bu{K:Sb}{μ:List È}{H:Hp}{h:MH}(R:HR K cl μ H h)(sa:SqT K H a vs)(ra:RWs K μ H l vs):JR K cl (CK K a) (.items l) μ H:=by
 intro hG H2 h2 E2 R2 i;have GX:=SqT.ext R E2 sa;have Hl:=ra.ext R E2;refine⟨λw ew=>?_,λes=>?_⟩
 .have Ag:l[i]?=À w:=zX ew
  obtain⟨v,ev,rv⟩:=Hl.get Ag;refine⟨⟨vs,v,GX,ev⟩,λx H3 y=>?_⟩;obtain⟨rfl,y⟩:=y;have:=y vs GX;rw[ev] at this;cases this;exact⟨.refl,R2,rv⟩
 .have es':l[i]?=Á:=zX es
  exact⟨vs,GX,by rw[<-ra.length];exact j5.mp es'⟩
def B9{K:Sb}{μ:List È}{H:Hp}{h:MH}(R:HR K cl μ H h)(sa:SqF K μ H a vs)(ra:RWs K μ H l vs):JR K cl (YF K a) (.items l) μ H:=by
 intro hG H2 h2 E2 R2 i;have GX:=(SqF.ext E2 sa).sq;have Hl:=ra.ext R E2;refine⟨λw ew=>?_,λes=>?_⟩
 .have Ag:l[i]?=À w:=zX ew
  obtain⟨v,ev,rv⟩:=Hl.get Ag;refine⟨⟨vs,v,GX,ev⟩,λx H3 y=>?_⟩;obtain⟨rfl,y⟩:=y;have:=y vs GX;rw[ev] at this;cases this;exact⟨.refl,R2,rv⟩
 .have es':l[i]?=Á:=zX es
  exact⟨vs,GX,by rw[<-ra.length];exact j5.mp es'⟩
def Uz{K:Sb}{μ:List È}{H:Hp}(hn:μ[n]?=À a):JR K cl (YF K a) (.live n) μ H:=by
 intro hG H2 h2 E2 R2 i;have GT:=E2.get hn;refine⟨λw ew=>?_,λes=>?_⟩
 .unfold uS at ew
  dsimp only at ew;split at ew
  .rename_i l ho
   have Ag:l[i]?=À w:=zX ew;obtain⟨vs,hv,ra⟩:=R2.ob n a _ GT ho;obtain⟨v,ev,rv⟩:=ra.get Ag;refine⟨⟨vs,v,SqL.of hv,ev⟩,λx H3 y=>?_⟩;obtain⟨rfl,y⟩:=y;have:=y vs (SqL.of hv);rw[ev] at this;cases this;exact⟨.refl,R2,rv⟩
  .cases ew
 .unfold uS at es
  dsimp only at es;split at es
  .rename_i l ho
   have es':l[i]?=Á:=zX es;obtain⟨vs,hv,ra⟩:=R2.ob n a _ GT ho;exact⟨vs,SqL.of hv,by rw[<-ra.length];exact j5.mp es'⟩
  .cases es
def C5(he:SE X cl e m):SI X cl tg e (kc m):=PI.wk (Dy he) λσ H Q q0=>by
 obtain⟨μ,h,ρ,src,h',R,er,e,k⟩:=q0;obtain⟨x,h1,e1,e⟩:=kg e;refine⟨μ,h,ρ,x,h1,R,er,e1,λd3 H1 v E1 R1 r=>?_⟩;unfold srcOf at e;split at e
 .cases e
  obtain⟨a,vs,rfl,sa,ra⟩:=r.tup_of;exact⟨a,rfl,.inr ⟨⟨vs,sa⟩,k d3 H1 _ E1 R1 (Bu R1 sa ra)⟩⟩
 .cases e
  cases r with | @fls a vs l sa ra=>
  exact⟨a,rfl,.inl ⟨⟨vs,sa.sq⟩,k d3 H1 _ E1 R1 (B9 R1 sa ra)⟩⟩
 .rename_i n
  split at e
  .rename_i l ho
   cases e;cases r with | @ref _ a hn=>
   obtain⟨vs,hv,ra⟩:=R1.ob n a _ hn ho;exact⟨a,rfl,.inl ⟨⟨vs,SqL.of hv⟩,k d3 H1 _ E1 R1 (Uz hn)⟩⟩
  .cases e
 .cases e
def Dt{K:Sb}{μ:List È}{H:Hp}:JR K cl (Yu 0 n) (.items (upto n)) μ H:=by
 intro hG H2 h2 E2 R2 i;refine⟨λw ew=>?_,λes=>?_⟩
 .have Ag:(upto n)[i]?=À w:=zX ew
  unfold upto at Ag;rw[kW] at Ag;by_cases hi:i<n
  .rw[List.getElem?_range hi] at Ag
   cases Ag;refine⟨hi,λx H3 y=>?_⟩;obtain⟨rfl,rfl⟩:=y;exact⟨.refl,R2,by rw[Int.zero_add];exact .int _⟩
  .rw[j6 (by simpa using hi)] at Ag
   cases Ag
 .have es':(upto n)[i]?=Á:=zX es
  have:=j5.mp es';unfold upto at this;rw[zF,vU] at this;exact this
def Dc(hm:X.mg "range" = Á)(ha:SA X cl [e] ms)(hg:↥(Gl X "range"))(hs:↥(Ê [e] X.env=[(Â,eval e X.env)])):SI X cl tg (.Call (.Name "range" p) [e] [] pos) (yb ms):=
 PI.wk (QB hg hm ha hs) λσ H Q q0=>by
  obtain⟨μ,h,ρ,src,h',R,er,e,k⟩:=q0;obtain⟨ws,h1,e1,e⟩:=kg e;refine⟨μ,h,ρ,ws,h1,R,er,e1,λd3 H1 vs E1 R1 rs=>?_⟩;unfold gA at e;split at e
  .rename_i j
   split at e
   .rename_i hj
    cases e;cases rs with | cons r t=>cases t with | nil=>
    cases r.int_of;exact⟨j,rfl,hj.1,hj.2,k d3 H1 _ E1 R1 Dt⟩
   .cases e
  .cases e
end
noncomputable def gj(sc scope:ê):ê:={ scope with names:=scope.names.map λ(n,k)=>if (k==.free&&sc.kind==.function&&sc.names.lookup n==À .cell) then (n,.cell) else (n,k) }
noncomputable def fZ(sc:ê)(x:Æ):Bool:=sc.names.lookup x==À .cell||sc.names.lookup x==À .free
noncomputable def af(sc:ê)(N:List Æ)(scope:ê)(N':List Æ)(nl:Nat)(ks:List Nat):Bool:=
 scope.kind==.function&&scope.names.all (λy=>y.2 != .cell)&&scope.names.all (λy=>y.2 != .local||scope.names.lookup y.1==À .local)
 && N'.length==nl+ks.length&&scope.names.all (λy=>y.2 != .free||fZ sc y.1)
 && (Ô ks.length).all λj=>match ks[j]?,N'[nl+j]? with
  | some k,À x=>N[k]?==À x&&fZ sc x&&fZ (gj sc scope) x
  | _,_=>Â
structure CompOk(sc:ê)(N:List Æ)(scope:ê)(N':List Æ)(nl:Nat)(ks:List Nat):Prop where
 kind:scope.kind=.function
 ncell:∀y∈scope.names,y.2≠.cell
 names:∀y∈scope.names,y.2=.local->scope.names.lookup y.1=À .local
 len:N'.length=nl+ks.length
 fall:∀y∈scope.names,y.2=.free->fZ sc y.1=Ã
 fr:∀j k,ks[j]?=À k->∃x,N[k]?=À x/\N'[nl+j]?=À x/\fZ sc x=Ã/\fZ (gj sc scope) x=Ã
def c9(h:af sc N scope N' nl ks=Ã):CompOk sc N scope N' nl ks:=by
 unfold af at h;erw[zy] at h;obtain⟨⟨⟨⟨⟨h1,h2⟩,h3⟩,h4⟩,h5⟩,h6⟩:=h;refine⟨by simpa using h1,λy hy=>?_,λy hy e=>?_,by simpa using h4,λy hy e=>?_,λj k e=>?_⟩
 .have:=zZ.mp h2 y hy;simpa using this
 .have:=zZ.mp h3 y hy;simpa[e] using this
 .have:=zZ.mp h5 y hy;simpa[e] using this
 .have hj:j<ks.length:=(zJ.mp e).1
  have:=zZ.mp h6 j (ju.mpr hj);rw[e] at this;cases e2:N'[nl+j]? with
  | none=>rw[e2] at this;simp at this
  | some x=>
   rw[e2] at this;erw[zy] at this;exact⟨x,by simpa using this.1.1,rfl,this.1.2,this.2⟩
def f9{sc:ê}(h:fZ sc x=Ã):sc.names.lookup x=À .cell\/sc.names.lookup x=À .free:=by
 unfold fZ at h;rcases pL.mp h with h | h
 .exact .inl (by simpa using h)
 .exact .inr (by simpa using h)
noncomputable def vT(X:Cx)(scope:ê)(cs:List (Æ×È))(C:È)(N:List Æ)(s₀:Å)(H₀:Hp)(ex:List È):Cx:=
 { X with N:=N,s₀:=s₀,H₀:=H₀,env:=compEnvC scope cs C X.env,outer:=X.stack,ex:=ex,fn:=λ_=>Â,pn:=[],xe:=λ_ _=>False }
def KI{env:Env}(names:List (Æ×į))(h:∀y∈names,y.2=.free->∃c,env.cells.lookup y.1=À c):∀EN:List (Æ×È),(∀x c,EN.lookup x=À c->env.cells.lookup x=À c)->
  ∃cs,(forIn names EN λ(x:Æ×į) (r:List (Æ×È))=>if (x.2==Ĭ)=Ã then do
    let a <-cellOf env x.1
    pure (Ĕ ((x.1,a)::r)) else pure (Ĕ r):Sem (List (Æ×È)))=pure cs/\(∀x c,cs.lookup x=À c->env.cells.lookup x=À c)/\(∀y∈names,y.2=.free->∃c,cs.lookup y.1=À c)/\∀x c,EN.lookup x=À c->∃c',cs.lookup x=À c':=by
 induction names with
 | nil=>intro EN h0;exact⟨EN,by simp,h0,λy hy=>by simp at hy,λx c e=>⟨c,e⟩⟩
 | cons y r ih=>
  intro EN h0;have hr:∀z∈r,z.2=.free->∃c,env.cells.lookup z.1=À c:=λz hz=>h z (zm _ hz)
  by_cases hy:(y.2==Ĭ)=Ã
  .obtain⟨c,hc⟩:=h y zr (by simpa using hy)
   have h1:∀x c',((y.1,c)::EN).lookup x=À c'->env.cells.lookup x=À c':=λx c' e=>by
    rw[qd] at e;split at e
    .rename_i q
     have:x=y.1:=by simpa using q
     subst this;rw[<-e];exact hc
    .exact h0 x c' e
   obtain⟨cs,e1,e2,e3,e4⟩:=ih hr ((y.1,c)::EN) h1;have GK:∃c',cs.lookup y.1=À c':=e4 y.1 c (by rw[qd];simp);refine⟨cs,?_,e2,λz hz e=>?_,λx c' e=>?_⟩
   .rw[yF,zW hy]
    have:cellOf env y.1=pure c:=by unfold cellOf;rw[hc]
    rw[this];erw[pure_bind];exact e1
   .rcases zj.mp hz with rfl | hz
    .exact GK
    .exact e3 z hz e
   .by_cases q:x=y.1
    .subst q;exact GK
    .refine e4 x c' ?_
     rw[qd];have:(x==y.1)=Â:=by simpa using q
     rw[this];exact e
  .obtain⟨cs,e1,e2,e3,e4⟩:=ih hr EN h0
   refine⟨cs,?_,e2,λz hz e=>?_,e4⟩
   .rw[yF,kh hy]
    erw[pure_bind];exact e1
   .rcases zj.mp hz with rfl | hz
    .exact absurd (by simpa using e) hy
    .exact e3 z hz e
theorem oH{env:Env}{scope:ê}(h:∀y∈scope.names,y.2=.free->∃c,env.cells.lookup y.1=À c) :
  ∃cs,closureFor scope env=pure cs/\(∀x c,cs.lookup x=À c->env.cells.lookup x=À c)/\(∀y∈scope.names,y.2=.free->∃c,cs.lookup y.1=À c):=by
 obtain⟨cs,e1,e2,e3,_⟩:=KI scope.names h [] (λx c e=>by simp at e);refine⟨cs,?_,e2,e3⟩
 have q:closureFor scope env=((forIn scope.names ([]:List (Æ×È)) λ(x:Æ×į) (r:List (Æ×È))=>if (x.2==Ĭ)=Ã then do
    let a <-cellOf env x.1
    pure (Ĕ ((x.1,a)::r)) else pure (Ĕ r):Sem (List (Æ×È))) >>= λcs=>pure cs):=rfl
 rw[q,e1];rfl
section
variable{X:Cx}{ag:List (È×ö)}{σ:L2.St}{H:Hp}{s:Å}
def sE{scope:ê}(nc:∀y∈scope.names,y.2≠.cell)(h:fZ (gj sc scope) x=Ã):∃y∈scope.names,y.1=x/\y.2=.free:=by
 have go:∀l:List (Æ×į),(∀y∈l,y.2≠.cell)->∀k:į,(k=.cell\/k=.free)->(l.map λ(n,k)=>if (k==Ĭ&&sc.kind==ScopeKind.function&&sc.names.lookup n==À ň) then (n,ň) else (n,k)).lookup x=À k->∃y∈l,y.1=x/\y.2=.free:=by
  intro l;induction l with
  | nil=>intro _ k _ e;simp at e
  | cons y r ih=>
   obtain⟨n,k0⟩:=y;intro nc k hk e;rw[zu,qd] at e;have HU:(if (k0==Ĭ&&sc.kind==ScopeKind.function&&sc.names.lookup n==À ň)=Ã then (n,ň) else (n,k0)).1=n:=by split<;>rfl
   by_cases q:x=n
   .refine⟨(n,k0),zr,q.symm,?_⟩
    have:(x==n)=Ã:=by simpa using q
    erw[HU,this] at e;split at e
    .rename_i c
     erw[zy] at c;simpa using c.1.1
    .have e':k0=k:=by simpa using e
     rcases hk with rfl | rfl
     .exact absurd e' (nc (n,k0) zr)
     .exact e'
   .have:(x==n)=Â:=by simpa using q
    erw[HU,this] at e;obtain⟨y,hy,e1,e2⟩:=ih (λy hy=>nc y (zm _ hy)) k hk e;exact⟨y,zm _ hy,e1,e2⟩
 rcases f9 h with h | h
 .exact go scope.names nc _ (.inl rfl) h
 .exact go scope.names nc _ (.inr rfl) h
def B1{scope:ê}{cs:List (Æ×È)}(I:Inv X ag σ H s)(Af:X.env.scope=sc)(ok:CompOk sc N scope N' nl ks)
  (Au:∀x c,cs.lookup x=À c->X.env.cells.lookup x=À c) (oj:∀y∈scope.names,y.2=.free->∃c,cs.lookup y.1=À c) (hC:s.heap.objs.size<=C) (hex:∀b∈ex,bE X ag H b) (GY:∀b∈ex,b<s.heap.objs.size):(vT X scope cs C N' s H ex).Ok:=by
 subst Af;refine⟨I.ok.mod,ok.kind,I.ok.glob,I.ok.blt,hC,λx y c h1 h2=>I.ok.inj x y c (Au x c h1) (Au y c h2),λx hx=>?_,λx c h=>?_,I.ok.hd,I.ok.frames,.inl rfl,λb hb=>?_,I.bs,zz I.ok.bsz I.sz,λb o e hb=>?_,λb hb z=>?_,I.stack,I.stkFree⟩
 .have hc:fZ (gj X.env.scope scope) x=Ã:=by
   unfold fZ;rcases hx with hx | hx
   .rw[show(gj X.env.scope scope).names.lookup x=À .cell from hx];rfl
   .rw[show(gj X.env.scope scope).names.lookup x=À .free from hx];rfl
  obtain⟨y,hy,rfl,e⟩:=sE ok.ncell hc;exact oj y hy e
 .cases h
 .obtain⟨h0,h1,h2,h3,h4,h5⟩:=hex b hb
  exact⟨λz=>absurd (zO (GY b hb) (z▸hC)) (j4 _),λx c e=>h4 x c (Au x c e)⟩
 .obtain⟨h0,h1,h2,h3,h4,h5⟩:=hex b hb
  rcases h3 with h3 | h3
  .exact I.ok.noex b o e h3
  .exact absurd (zO (zM e) (zz I.ok.bsz h3)) (j4 _)
 .obtain⟨h0,h1,h2,h3,h4,h5⟩:=hex b hb
  rcases zj.mp (I.stkSub b z) with e | e
  .exact h1 e
  .exact h2 e
end
section
variable{prog:Í}{w:Ñ}{A:Ö}{R:Result->Å->Prop}{s:Å}
noncomputable def ZC(ifs:List Î)(env:Env):Sem Bool:=forIn ifs Ã λc r=>if r=Ã then do let ok <-isTrue c env (eval c env);pure (Ĕ ok) else pure (Ĕ r)
def sP{env:Env}(I:Nat->Å->Prop)
  (turn:∀n s,I n s->É (Ë prog w) A (đ it) (λr d4=>match r with
   | none=>R (.ok .next) d4
   | some v=>É (Ë prog w) A (İ target it v) (λ_ GL=>É (Ë prog w) A (assign target env v) (λ_ Ac=>
     É (Ë prog w) A (ZC ifs env) (λok Eh=>
      if ok=Ã then É (Ë prog w) A (eval elt env) (λx EO=>
       É (Ë prog w) A (call (.builtin "list.append") [acc,x]) (λ_ HV=>∃m,m<n/\I m HV) (λ_ _=>False) EO) (λ_ _=>False) Eh
      else ∃m,m<n/\I m Eh) (λ_ _=>False) Ac) (λ_ _=>False) GL) (λ_ _=>False) d4) (λ_ _=>False) s)
  (n:Nat) (h:I n s) :
  ĵ (Ë prog w) A (.compLoop (.ListComp elt [⟨target,iter,ifs,0⟩] scope pos) 0 it acc env) R s:=by
 refine codeAny_loop rfl I (λn s hI=>?_) n h;show É _ A ((compTurn (.ListComp elt [⟨target,iter,ifs,0⟩] scope pos) 0 it acc env).onRaise (λx=>do noteFrame x env;theTreesLotGoes x)) _ _ s
 refine wpAny_noted ?_;rw[compTurn_list];refine zc (xZ (zc (j8 (turn n s hI) (λr d4 h₁=>?_) λ_ _ h'=>h'.elim)));cases r with
 | none=>exact zg h₁
 | some v=>
  refine zc (j8 h₁ (λ_ GL HW=>?_) λ_ _ h'=>h'.elim);refine zc (j8 HW (λ_ Ac GZ=>zc (j8 GZ (λok Eh HX=>?_) λ_ _ h'=>h'.elim)) λ_ _ h'=>h'.elim);cases ok with
  | false=>exact zg ⟨rfl,HX⟩
  | true=>
   exact zc (zc (j8 HX (λx EO LA=>zc (j8 LA (λ_ HV LB=>zg (zg ⟨rfl,LB⟩)) λ_ _ h'=>h'.elim)) λ_ _ h'=>h'.elim))
end
noncomputable def gD(X:Cx)(cl:Cl)(ifs:List Î)(t:MT):Prop:=∀(ag:List (È×ö)) (s:Å) (σ:L2.St) (H:Hp) (Q:Bool->Hp->Prop),Inv X ag σ H s->tMT X.K cl t σ H Q->É (Ë X.prog X.w) X.A (ZC ifs X.env) (TP X ag σ Q) X.xe s
noncomputable def vn:MT:=λ_ h=>À (Ã,h)
section
variable{X:Cx}{cl:Cl}{c:Î}{t:MT}
def Xv:gD X cl [] vn:=λag s σ H Q I q0=>by
 obtain⟨μ,h,ρ,b,h',R,er,e,k⟩:=q0;cases e;exact wpAny_tests_nil ⟨H,I,k μ H .refl R⟩
def Xu(h:ST X cl c t):gD X cl [c] t:=λag s σ H Q I q=>wpAny_tests_one (h ag s σ H Q I q)
end
noncomputable def blank(nl:Nat)(ρ:En):En:=Ç nl Á++ρ.drop nl
noncomputable def u4(src:Src)(nl:Nat)(g:MG)(t:MT)(m:ME)(n0:Nat):Nat->Nat->En->MH->Option MH
 | 0,_,_,_=>Á
 | k+1,i,ρ,h=>match uS src i h with
  | none=>Á
  | some Á=>À h
  | some (À w)=>match g w ρ h with
   | none=>Á
   | some (pf,h1)=>match t pf h1 with
    | none=>Á
    | some (Â,h2)=>u4 src nl g t m n0 k (i+1) (blank nl pf) h2
    | some (Ã,h2)=>match m pf h2 with
     | none=>Á
     | some (y,h3)=>match h3[n0]? with
      | some (.lst acc)=>if acc.length<cap then u4 src nl g t m n0 k (i+1) (blank nl pf) (h3.set n0 (.lst (acc++[y]))) else Á
      | _=>Á
noncomputable def y0(nl:Nat)(g:MG)(t:MT)(m:ME)(n0:Nat):List W->En->MH->Option MH
 | [],_,h=>À h
 | w::r,ρ,h=>match g w ρ h with
   | none=>Á
   | some (pf,h1)=>match t pf h1 with
    | none=>Á
    | some (Â,h2)=>y0 nl g t m n0 r (blank nl pf) h2
    | some (Ã,h2)=>match m pf h2 with
     | none=>Á
     | some (y,h3)=>match h3[n0]? with
      | some (.lst acc)=>if acc.length<cap then y0 nl g t m n0 r (blank nl pf) (h3.set n0 (.lst (acc++[y]))) else Á
      | _=>Á
theorem eS(l:List W):∀(k i:Nat) (ρ:En) (h:MH),l.length+1<=i+k->i<=l.length->u4 (.items l) nl g t m n0 k i ρ h=y0 nl g t m n0 (l.drop i) ρ h
 | 0,i,ρ,h,hk,hi=>by omega
 | k+1,i,ρ,h,hk,hi=>by
  by_cases hl:i<l.length
  .rw[vq hl]
   unfold u4 y0;erw[uS,zP hl];cases e1:g l[i] ρ h with
   | none=>rfl
   | some p=>
    obtain⟨pf,h1⟩:=p;simp only;cases e2:t pf h1 with
    | none=>rfl
    | some q=>
     obtain⟨b,h2⟩:=q;cases b with
     | false=>exact eS l k (i+1) _ h2 ∅ hl
     | true=>
      simp only;cases e3:m pf h2 with
      | none=>rfl
      | some q3=>
       obtain⟨y,h3⟩:=q3;simp only;split
       .split
        .exact eS l k (i+1) _ _ ∅ hl
        .rfl
       .rfl
  .have A7:i=l.length:=by omega
   subst A7;rw[xX];unfold u4 y0;simp[uS]
noncomputable def dn(mi:MI)(nl:Nat)(ks:List Nat)(g:MG)(t:MT)(m:ME):En->MH->Option (Nat×MH×MH):=λρ h=>match mi ρ h with
 | none=>Á
 | some (.items l,h1)=>match y0 nl g t m h1.length l (Ç nl Á++ks.map λk=>(ρ[k]?).join) (h1++[.lst []]) with
  | some h2=>À (h1.length,h1,h2)
  | none=>Á
 | some (.live n,h1)=>match u4 (.live n) nl g t m h1.length (Q7 (.live n) h1+1) 0 (Ç nl Á++ks.map λk=>(ρ[k]?).join) (h1++[.lst []]) with
  | some h2=>À (h1.length,h1,h2)
  | none=>Á
noncomputable def x8(mi:MI)(nl:Nat)(ks:List Nat)(g:MG)(t:MT)(m:ME):ME:=λρ h=>match dn mi nl ks g t m ρ h with
 | some (n,_,h2)=>À (.ref n,h2)
 | none=>Á
open Classical in
noncomputable def kq(mi:MI)(nl:Nat)(ks:List Nat)(g:MG)(t:MT)(m:ME):ME:=λρ h=>match dn mi nl ks g t m ρ h with
 | some (n,h1,h2)=>match h2[n]? with
  | some (.lst l)=>if h1<+:h2/\lows h1.length l=Ã then À (.fls l,h1) else Á
  | _=>Á
 | none=>Á
theorem ER.blank{K:Sb}{μ:List È}{H:Hp}{ρ:En}(er:ER K μ H ρ σ)(hl:nl<=ρ.length):ER K μ H (ML.blank nl ρ) σ:=by
 unfold ML.blank;refine⟨by simp;rw[<-er.len];omega,λi w e=>?_⟩;by_cases hi:i<nl
 .rw[zY (by simpa using hi),qO] at e
  split at e<;>cases e
 .rw[kZ (by simpa using hi),qW,List.getElem?_drop] at e
  exact er.at_ i w (by rw[<-e];congr 1;omega)
section
variable{X:Cx}{cl:Cl}{ag:List (È×ö)}{σ:L2.St}
noncomputable def σC(nl:Nat)(ks:List Nat)(σ:L2.St):L2.St:=Ç nl Á++ks.map λk=>(σ[k]?).join
noncomputable def ρC(nl:Nat)(ks:List Nat)(ρ:En):En:=Ç nl Á++ks.map λk=>(ρ[k]?).join
def GJ{K:Sb}{μ:List È}{H:Hp}(er:ER K μ H ρ σ):ER K μ H (ρC nl ks ρ) (σC nl ks σ):=by
 unfold ρC σC;refine⟨by simp,λi w e=>?_⟩;by_cases hi:i<nl
 .rw[zY (by simpa using hi),qO] at e
  split at e<;>cases e
 .rw[kZ (by simpa using hi),qW,kW] at e
  rw[kZ (by simpa using hi),qW,kW];cases e1:ks[i-nl]? with
  | none=>rw[e1] at e;cases e
  | some k=>
   rw[e1] at e;have e2:(ρ[k]?).join=À w:=zX e;have e3:ρ[k]?=À (À w):=by
    cases q:ρ[k]? with
    | none=>rw[q] at e2;cases e2
    | some o=>rw[q] at e2;cases o with
     | none=>cases e2
     | some z=>cases e2;rfl
   obtain⟨v,ev,r⟩:=er.at_ k w e3;exact⟨v,by simp[ev],r⟩
def J6{scope:ê}{cs:List (Æ×È)}{H:Hp}{s:Å}{h₁:Ò}(I:Inv X ag σ H s)(Af:X.env.scope=sc)(hN:X.N=N)(ok:CompOk sc N scope N' nl ks)
  (Au:∀x c,cs.lookup x=À c->X.env.cells.lookup x=À c) (oj:∀y∈scope.names,y.2=.free->∃c,cs.lookup y.1=À c) (hex:∀b∈ex,bE X ag H b) (GY:∀b∈ex,b<s.heap.objs.size)
   (Ah:h₁.Ns (s.heap.objs.size+1) m0) (old:∀b o,s.heap.get? b=À o->h₁.get? b=À o) (hD:h₁.get? s.heap.objs.size=À { cls:=.type "list",data:=.seq ([]:List Ä).toArray }) :
  Inv (vT X scope cs (s.heap.objs.size+1) N' s H ex) [] (σC nl ks σ) (upd H s.heap.objs.size (.lst [])) { s with heap:=h₁,toks:=tk }:=by
 have HY:H s.heap.objs.size=Á:=I.hok.fresh (zG _);have IG:∀{b:È} {o:ö},s.heap.get? b=À o->b≠s.heap.objs.size:=λe=>zU (zM e)
 refine⟨B1 I Af ok Au oj (qT _) hex GY,rfl,I.bare,Un.laid old (zG _) HY,⟨m0,Ah,λi x v e1 e2 e3=>?_⟩,λx c e=>?_,?_,λx c e=>?_,λp hp=>absurd (show p∈([]:List (È×ö)) from hp) (by simp),I.hok.laid old (zG _) ⟨by simp,[],_,.nil,hD⟩,?_⟩
 .have EE:N'[i]?=À x:=e1
  unfold σC at e2;by_cases hi:i<nl
  .rw[zY (by simpa using hi),qO] at e2
   split at e2<;>cases e2
  .rw[kZ (by simpa using hi),qW,kW] at e2
   cases q1:ks[i-nl]? with
   | none=>rw[q1] at e2;cases e2
   | some k=>
    rw[q1] at e2;have q2:(σ[k]?).join=À v:=zX e2;have q3:σ[k]?=À (À v):=by
     cases q:σ[k]? with
     | none=>rw[q] at q2;cases q2
     | some o=>rw[q] at q2;cases o with
      | none=>cases q2
      | some z=>cases q2;rfl
    obtain⟨x',OA,MU,MV,MW⟩:=ok.fr (i-nl) k q1;have:x'=x:=by
     rw[show nl+(i-nl)=i by omega,EE] at MU;exact(zX MU).symm
    subst this;subst Af;obtain⟨m,hn,hl⟩:=I.loc;have OC:Qh X.env.scope x':=by rcases f9 MV with z | z;exact .inr (.inl z);exact .inr (.inr z)
    obtain⟨u,ru,lk⟩:=hl k x' v (by rw[hN];exact OA) q3 OC;refine⟨u,ru,?_⟩;rcases lk with ⟨z,_⟩ | ⟨_,c,hc,ic⟩
    .rcases f9 MV with y | y<;>(rw[show X.env.kindOf x'=X.env.scope.names.lookup x' from rfl,y] at z;cases z)
    .refine .inr ⟨f9 MW,?_⟩
     obtain⟨y,hy,rfl,OD⟩:=sE ok.ncell MW;obtain⟨c',Hz⟩:=oj y hy OD;have:=Au _ _ Hz;rw[hc] at this;cases this;obtain⟨o,ho,hd⟩:=ic;exact⟨c,Hz,o,old _ _ ho,hd⟩
 .obtain⟨v,o,ho,hd⟩:=I.cell x c (Au x c e)
  exact⟨v,o,old _ _ ho,hd⟩
 .show(upd H s.heap.objs.size (.lst [])) (s.heap.objs.size+1)=Á
  rw[kF (xR _)];exact I.hok.fresh (qT _)
 .obtain⟨v,o,ho,hd⟩:=I.cell x c (Au x c e)
  rw[kF (IG ho)];exact I.freeC x c (Au x c e)
 .show(σC nl ks σ).length=N'.length
  unfold σC;rw[ok.len];simp
def Qj{elt tg iter:Î}{ifs:List Î}{scope sc:ê}{pos:ĝ}{N N':List Æ}{nl:Nat}{ks:List Nat}{cs:List (Æ×È)}{J:It}{it:È}{fp:List È}{tn:Nat->Ò->Prop}{g:MG}{t:MT}{m:ME}{src:Src}{k0:Nat}
  {H2:Hp} {s2:Å} {μ:List È} {h h':MH} {ρ:En} {RR:Ä->È->Result->Å->Prop} {E:Ä->Å->Prop}
  (hc:X.calm=Ã) (Af:X.env.scope=sc) (hN:X.N=N) (ok:CompOk sc N scope N' nl ks)
  (hg:∀cs C s₀ H₀ ex,SG (vT X scope cs C N' s₀ H₀ ex) cl tg g) (ht:∀cs C s₀ H₀ ex,gD (vT X scope cs C N' s₀ H₀ ex) cl ifs t) (he:∀cs C s₀ H₀ ex,SE (vT X scope cs C N' s₀ H₀ ex) cl elt m)
  (I2:Inv X ag σ H2 s2) (T:Turn X.prog X.w X.K tg J fp it tn) (Hj:tn 0 s2.heap) (f2:∀b∈fp,bE X ag H2 b)
  (Au:∀x c,cs.lookup x=À c->X.env.cells.lookup x=À c) (oj:∀y∈scope.names,y.2=.free->∃c,cs.lookup y.1=À c)
  (R2:HR X.K cl μ H2 h) (er:ER X.K μ H2 ρ σ) (j:JR X.K cl J src μ H2) (e:u4 src nl g t m h.length k0 0 (ρC nl ks ρ) (h++[.lst []])=À h')
  (OE:∀D C s' H' d5 m',D≠C->s'.heap.Ns C m'->Inv X ag σ H' s'->H' C=Á->s2.heap.objs.size<=C->Ext μ H2 d5 H'->HR X.K cl d5 H' h'->d5[h.length]?=À D->RR (.ref D) C (.ok .next) s') :
  É (Ë X.prog X.w) X.A (newList []) (λacc Eh=>É (Ë X.prog X.w) X.A (newFunctionEnv scope X.env.globals cs [] X.env.qual Á .none (À X.env)) (λHZ EO=>
   ĵ (Ë X.prog X.w) X.A (.compStart (.ListComp elt [⟨tg,iter,ifs,0⟩] scope pos) 0 (.ref it) acc { HZ with scope:=relabel scope X.env }) (RR acc HZ.locals) EO) E Eh) E s2:=by
 refine jc (wpAny_newFunctionEnv ok.ncell (by intro y hy;simp at hy) (λh₁ Aw Ao=>?_) ok.kind);dsimp only at Aw Ao ⊢;generalize hP:s2.heap.push { cls:=.type "list",dict:=Á,data:=.seq ([]:List Ä).toArray }=P at Aw Ao ⊢;have hC:P.objs.size=s2.heap.objs.size+1:=by rw[<-hP,jQ]
 rw[hC] at Aw Ao ⊢;have old:∀b o,s2.heap.get? b=À o->h₁.get? b=À o:=λb o e=>Ao.extBut b o (zU (jF (zM e))) (zf _ (hP▸zf _ e))
 have hD:h₁.get? s2.heap.objs.size=À { cls:=.type "list",data:=.seq ([]:List Ä).toArray }:=Ao.extBut _ _ (zU (jV _)) (zf _ (hP▸zK _ rfl));have GY:∀b∈fp,b<s2.heap.objs.size:=λb hb=>by
  obtain⟨o,ho,_⟩:=T.obj 0 _ Hj b hb;exact zM ho
 have LC:H2 s2.heap.objs.size=Á:=I2.hok.fresh (zG _);have I3:=J6 (X:=X) (tk:=s2.toks+([]:List (Æ×Ä)).length) I2 Af hN ok Au oj f2 GY Aw old hD;have HA:tn 0 h₁:=T.keep 0 _ _ Hj λb _ o e=>old b o e
 have ID:∀b∈fp,(upd H2 s2.heap.objs.size (.lst [])) b=Á:=λb hb=>by
  rw[kF (zU (GY b hb))];exact(f2 b hb).1
 have LD:∀{H:Hp},(∀b∈fp,H b=Á)->∀b∈fp,bE (vT X scope cs (s2.heap.objs.size+1) N' s2 H2 fp) [] H b:=λhn b hb=>by
  obtain⟨g0,g1,g2,g3,g4,g5⟩:=f2 b hb;refine⟨hn b hb,zU (jF (GY b hb)),λz=>?_,.inl hb,λx c e=>g4 x c (Au x c e),λp hp=>absurd (show p∈([]:List (È×ö)) from hp) (by simp)⟩;rcases zj.mp (I2.stkSub b z) with q | q
  .exact g1 q
  .exact g2 q
 have loop:∀s:Å,s={ s2 with heap:=h₁,toks:=s2.toks+([]:List (Æ×Ä)).length }->
   ĵ (Ë X.prog X.w) X.A (.compLoop (.ListComp elt [⟨tg,iter,ifs,0⟩] scope pos) 0 (.ref it) (.ref s2.heap.objs.size) (compEnvC scope cs (s2.heap.objs.size+1) X.env)) (RR (.ref s2.heap.objs.size) (s2.heap.objs.size+1)) s:=by
  rintro s rfl
  refine sP (λn s=>∃i gy H ρ' d5 hh,Inv (vT X scope cs (s2.heap.objs.size+1) N' s2 H2 fp) [] gy H s/\tn i s.heap/\(∀b∈fp,H b=Á)/\HR X.K cl d5 H hh/\ER X.K d5 H ρ' gy/\Ext μ H2 d5 H/\nl<=ρ'.length/\d5[h.length]?=À s2.heap.objs.size /\
   u4 src nl g t m h.length n i ρ' hh=À h') ?_ k0 ?_
  .rintro n s ⟨i,gy,H,ρ',d5,hh,I,st,fr,R,IH,E',hl,hm,e⟩
   cases n with
   | zero=>cases e
   | succ n=>
    unfold u4 at e;obtain⟨jg,js⟩:=j d5 H hh E' R i;cases es:uS src i hh with
    | none=>rw[es] at e;cases e
    | some o=>
     rw[es] at e;cases o with
     | none=>
      cases e;refine kC (T.done (vT X scope cs (s2.heap.objs.size+1) N' s2 H2 fp) rfl rfl rfl hc i [] s gy H _ I (LD fr) st (js es)) ?_;rintro r s1 ⟨hr,I1⟩;subst hr;obtain⟨m1,MP,_⟩:=I1.loc;refine OE _ _ s1 H d5 m1 (zU (jV _)) MP ?_ I1.free (qT _) E' R hm;exact I2.call' I1.os I1.base I1.hok I1.bare λb hb=>⟨(f2 b hb).2.2.2.1,(f2 b hb).2.1,(f2 b hb).2.2.2.2.1,(f2 b hb).2.2.2.2.2⟩
     | some w=>
      obtain⟨go,yl⟩:=jg w es;simp only at e;cases e1:g w ρ' hh with
      | none=>rw[e1] at e;cases e
      | some p=>
       obtain⟨pf,h1⟩:=p;rw[e1] at e;simp only at e;refine kC (T.item (vT X scope cs (s2.heap.objs.size+1) N' s2 H2 fp) rfl rfl rfl hc i [] s gy H _ I (LD fr) st go) ?_;rintro r s1 ⟨u,hr,q1⟩;subst hr;refine kC q1 ?_;rintro _ s5 ⟨x,H5,I5,r5,y5,GQ,Lf⟩;obtain⟨E5,R5,rx⟩:=yl x H5 y5;have Lg:=I5.pinned (LD Lf) (T.obj _ _ GQ);refine kC (hg cs _ s2 H2 fp _ s5 gy H5 x u (λEC H6=>∃EF,Ext d5 H5 EF H6/\HR X.K cl EF H6 h1/\ER X.K EF H6 pf EC) Lg r5 ⟨d5,hh,ρ',w,pf,h1,R5,IH.ext R E5,rx,e1,λEF H6 EC E6 R6 Hm=>⟨EF,E6,R6,Hm⟩⟩) ?_;rintro _ s6 ⟨EC,H6,I6,EF,E6,R6,Hm⟩;have OF:nl<=pf.length:=by
        rw[Hm.len,I6.len];show nl<=N'.length
        rw[ok.len];omega
       have OG:Ext μ H2 EF H6:=E'.trans (E5.trans E6);have fin:∀{s9:Å} {H9:Hp} {II:List È} {h9:MH},Inv (vT X scope cs (s2.heap.objs.size+1) N' s2 H2 fp) ([]++f6 fp s5.heap) EC H9 s9->Ext EF H6 II H9->HR X.K cl II H9 h9->u4 src nl g t m h.length n (i+1) (ML.blank nl pf) h9=À h'->
         ∃k,k<n+1/\∃i gy H ρ' d5 hh,Inv (vT X scope cs (s2.heap.objs.size+1) N' s2 H2 fp) [] gy H s9/\tn i s9.heap/\(∀b∈fp,H b=Á)/\HR X.K cl d5 H hh/\ER X.K d5 H ρ' gy/\Ext μ H2 d5 H/\nl<=ρ'.length/\d5[h.length]?=À s2.heap.objs.size/\u4 src nl g t m h.length k i ρ' hh=À h':=by
        intro s9 H9 II h9 I9 E9 R9 e9;refine⟨n,jV n,i+1,EC,H9,ML.blank nl pf,II,h9,I9.unpinned,T.keep _ _ _ GQ λb hb o e=>(I9.pin (b,o) (jh _ (jh _ (dy hb e)))).1,λb hb=>?_,R9,(Hm.ext R6 E9).blank OF,OG.trans E9,?_,E9.get (E6.get (E5.get hm)),e9⟩
        .obtain⟨o,e,d⟩:=T.obj _ _ GQ b hb
         exact(I9.pin (b,o) (jh _ (jh _ (dy hb e)))).2.1
        .unfold ML.blank;simp
       cases e2:t pf h1 with
       | none=>rw[e2] at e;cases e
       | some p2=>
        obtain⟨bb,h2⟩:=p2;rw[e2] at e;refine kC (ht cs _ s2 H2 fp _ s6 EC H6 (λb' H7=>b'=bb/\∃G0,Ext EF H6 G0 H7/\HR X.K cl G0 H7 h2) I6 ⟨EF,h1,pf,bb,h2,R6,Hm,e2,λG0 H7 E7 R7=>⟨rfl,G0,E7,R7⟩⟩) ?_;rintro b' s7 ⟨H7,I7,Ax,G0,E7,R7⟩;subst Ax;cases b' with
        | false=>
         rw[kh zR];exact fin I7 E7 R7 e
        | true=>
         rw[zW rfl];simp only at e;cases e3:m pf h2 with
         | none=>rw[e3] at e;cases e
         | some p3=>
          obtain⟨y,h3⟩:=p3;rw[e3] at e;simp only at e;refine kC (he cs _ s2 H2 fp _ s7 EC H7 (λv H8=>∃G1,Ext G0 H7 G1 H8/\HR X.K cl G1 H8 h3/\RW X.K G1 H8 y v) I7 ⟨G0,h2,pf,y,h3,R7,Hm.ext R6 E7,e3,λG1 H8 v E8 R8 r8=>⟨G1,E8,R8,r8⟩⟩) ?_;rintro xv s8 ⟨v,H8,I8,rv,G1,E8,R8,r8⟩;split at e
          .rename_i acc ho
           split at e
           .rename_i lx
            have IJ:G1[h.length]?=À s2.heap.objs.size:=E8.get (E7.get (E6.get (E5.get hm)));obtain⟨vs,hv,ra⟩:=R8.ob _ _ _ IJ ho;refine kC (oE (X:=vT X scope cs (s2.heap.objs.size+1) N' s2 H2 fp) _ s8 EC H8 (.ref s2.heap.objs.size) [v] (.ref s2.heap.objs.size) [xv] (λ_ H9=>H9=upd H8 s2.heap.objs.size (.lst (vs++[v]))) I8 rfl (.cons rv .nil) ⟨_,vs,v,rfl,rfl,hv,zO (by rw[<-ra.length];exact lx) yv,rfl⟩) ?_;rintro _ s9 ⟨_,H9,I9,_,OH⟩;subst OH;exact fin I9 (E7.trans (E8.trans (.put IJ))) (R8.put (o:=.lst (acc++[y])) IJ ⟨vs++[v],qq,(ra.append (.cons r8 .nil)).ext R8 (.put IJ)⟩) e
           .cases e
          .cases e
  .have R3:HR X.K cl (μ++[s2.heap.objs.size]) (upd H2 s2.heap.objs.size (.lst [])) (h++[.lst []]):=R2.new LC ⟨[],qq,.nil⟩
   exact⟨0,σC nl ks σ,_,ρC nl ks ρ,_,_,I3,HA,ID,R3,(GJ er).ext R2 (.new LC),.new LC,by unfold ρC;simp,by rw[<-R2.len];simp,e⟩
 exact codeAny_compStart_list (loop _ rfl) (T.self _ 0 _ _ _ HA (loop _ rfl))
def iK{H:Hp}{h1:MH}
  (hc:X.calm=Ã) (Af:X.env.scope=sc) (hN:X.N=N) (ok:CompOk sc N scope N' nl ks) (hi:SI X cl tg iter mi)
  (hg:∀cs C s₀ H₀ ex,SG (vT X scope cs C N' s₀ H₀ ex) cl tg g) (ht:∀cs C s₀ H₀ ex,gD (vT X scope cs C N' s₀ H₀ ex) cl ifs t) (he:∀cs C s₀ H₀ ex,SE (vT X scope cs C N' s₀ H₀ ex) cl elt m)
  (I:Inv X ag σ H s) (R:HR X.K cl μ H h) (er:ER X.K μ H ρ σ) (e:dn mi nl ks g t m ρ h=À (n0,h1,h2)) (hs:∀x,é iter X.env x=pure x)
  (k:∀D C s' H' d5 m' s2 H1 d3,D≠C->s'.heap.Ns C m'->Inv X ag σ H' s'->H' C=Á->X.env.locals≠C->(∀x c,X.env.cells.lookup x=À c->c≠C)->(X.s₀.heap.objs.size<=C)->(∀p∈X.pn++ag,p.1≠C)->Inv X ag σ H1 s2->Ext μ H d3 H1->HR X.K cl d3 H1 h1->Ext d3 H1 d5 H'->HR X.K cl d5 H' h2->h1.length=n0->d5[n0]?=À D->
   compPost (Ë X.prog X.w) X.A X.xe use Q (.ref D) C (.ok .next) s') :
  É (Ë X.prog X.w) X.A (comprehension (.ListComp elt [⟨tg,iter,ifs,0⟩] scope pos) scope X.env p2 (newList []) Â (eval iter X.env) use) Q X.xe s:=by
 subst Af;have AQ:∀y∈scope.names,y.2=.free->∃c,X.env.cells.lookup y.1=À c:=λy hy e=>I.ok.has y.1 (f9 (ok.fall y hy e))
 obtain⟨cs,H0,Au,oj⟩:=oH AQ;have key:∀{src:Src} {k0:Nat},mi ρ h=À (src,h1)->u4 src nl g t m h1.length k0 0 (ρC nl ks ρ) (h1++[.lst []])=À h2->n0=h1.length->
   É (Ë X.prog X.w) X.A (comprehension (.ListComp elt [⟨tg,iter,ifs,0⟩] scope pos) scope X.env p2 (newList []) Â (eval iter X.env) use) Q X.xe s:=by
  intro src k0 e1 e2 OI;subst OI;refine wpAny_comprehension_free (use:=use) rfl hs H0 ok.kind ok.names ?_;refine kC (hi ag s σ H (λJ H1=>∃d3,Ext μ H d3 H1/\HR X.K cl d3 H1 h1/\JR X.K cl J src d3 H1) I ⟨μ,h,ρ,src,h1,R,er,e1,λd3 H1 J E1 R1 j=>⟨d3,E1,R1,j⟩⟩) λv s1 q1=>kC q1 λLe s2 q2=>?_
  obtain⟨it,fp,tn,J,H2,rfl,I2,T,Hj,f2,hG,E2,R2,j⟩:=q2;refine Qj (RR:=λacc C=>compPost (Ë X.prog X.w) X.A X.xe use Q acc C) hc rfl hN ok hg ht he I2 T Hj f2 Au oj R2 (er.ext R E2) j e2 ?_;intro D C s' H' d5 m' IK Ah I' G2 hC E' R' hm;refine k D C s' H' d5 m' s2 H2 hG IK Ah I' G2 (zU (zO I2.lt hC)) (λx c e z=>?_) (zz I2.sz hC) (λp hp z=>?_) I2 E2 R2 E' R' rfl hm
  .obtain⟨v,o,ho,_⟩:=I2.cell x c e
   exact absurd (zO (zM ho) (z▸hC)) (j4 _)
  .exact absurd (zO (zM (I2.pin p hp).1) (z▸hC)) (j4 _)
 unfold dn at e;split at e
 .cases e
 .rename_i l IL e1
  split at e
  .rename_i Hn e2
   cases e;have q:=eS (nl:=nl) (g:=g) (t:=t) (m:=m) (n0:=h1.length) l (l.length+1) 0 (ρC nl ks ρ) (h1++[.lst []]) ∅ ∅;rw[uv] at q;exact key e1 (q.trans e2) rfl
  .cases e
 .rename_i n IL e1
  split at e
  .rename_i Hn e2
   cases e;exact key e1 e2 rfl
  .cases e
def Wn(sc:ê)(N N':List Æ)(nl:Nat)(ks:List Nat)(hc:X.calm=Ã)(ok:af sc N scope N' nl ks=Ã)(hi:SI X cl tg iter mi)
  (hg:∀cs C s₀ H₀ ex,SG (vT X scope cs C N' s₀ H₀ ex) cl tg g) (ht:∀cs C s₀ H₀ ex,gD (vT X scope cs C N' s₀ H₀ ex) cl ifs t) (he:∀cs C s₀ H₀ ex,SE (vT X scope cs C N' s₀ H₀ ex) cl elt m)
  (Af:↥(X.env.scope=sc)) (hN:↥(X.N=N)) (hs:∀x,é iter X.env x=pure x:=by intro _;rfl):SE X cl (.ListComp elt [⟨tg,iter,ifs,0⟩] scope pos) (x8 mi nl ks g t m):=by
 rintro ag s σ H Q I ⟨μ,h,ρ,w,h',R,er,e,k⟩;unfold x8 at e;split at e
 .rename_i n0 h1 h2 e1
  cases e;rw[eval_ListComp];refine iK (use:=Á) hc Af hN (c9 ok) hi hg ht he I R er e1 hs λD C s' H' d5 m' s2 H1 d3 IK Ah I' G2 hL EQ H4 Ia I2 E1 R1 E' R' hn hm=>?_
  exact⟨m',Ah,λOJ Ib=>⟨.ref D,H',I'.turned (t':=s'.toks) (λb o hb e=>(Ib.2 b hb).trans e) G2 (jq hL) (.inr H4) EQ Ia,rfl,k d5 H' _ (E1.trans E') R' (.ref hm)⟩⟩
 .cases e
def mn{K:Sb}{μ d3 d5:List È}{H H1 H':Hp}{h1 h2:MH}(k:KQ K cl μ H h1 (.fls l) Q)(E1:Ext μ H d3 H1)(R1:HR K cl d3 H1 h1)(E':Ext d3 H1 d5 H')(R':HR K cl d5 H' h2)(hn:h1.length=n0)(hm:d5[n0]?=À D)
  (ho:h2[n0]?=À (.lst l)) (pre:h1<+:h2) (lo:lows h1.length l=Ã):Q (.ref D) H':=by
 obtain⟨vs,hv,rv⟩:=R'.ob _ _ _ hm ho;have cut:Ext d3 H1 d3 H':=⟨jf _,λb o e n=>⟨(E'.fr b o e n).1,n⟩⟩;refine k d3 H' _ (E1.trans cut) (R1.cut E' R' pre) (.fls (.inl ⟨.inl hv,λz=>?_⟩) (RWs.cut E'.pre (by rw[R1.len];exact lo) rv));obtain⟨q,hq⟩:=qH.mp z;have h3:=E'.get hq;have lx:q<d3.length:=(zJ.mp hq).1;obtain⟨z1,z2⟩:=zJ.mp h3;obtain⟨z3,z4⟩:=zJ.mp hm;have:q=n0:=(v9 R'.nd).mp (z2.trans z4.symm);subst this;rw[R1.len] at lx;omega
def UD(sc:ê)(N N':List Æ)(nl:Nat)(ks:List Nat)(hc:X.calm=Ã)(ok:af sc N scope N' nl ks=Ã)(hi:SI X cl tg iter mi)
  (hg:∀cs C s₀ H₀ ex,SG (vT X scope cs C N' s₀ H₀ ex) cl tg g) (ht:∀cs C s₀ H₀ ex,gD (vT X scope cs C N' s₀ H₀ ex) cl ifs t) (he:∀cs C s₀ H₀ ex,SE (vT X scope cs C N' s₀ H₀ ex) cl elt m)
  (Af:↥(X.env.scope=sc)) (hN:↥(X.N=N)) (hs:∀x,é iter X.env x=pure x:=by intro _;rfl):SE X cl (.ListComp elt [⟨tg,iter,ifs,0⟩] scope pos) (kq mi nl ks g t m):=by
 rintro ag s σ H Q I ⟨μ,h,ρ,w,h',R,er,e,k⟩;unfold kq at e;split at e
 .rename_i n0 h1 h2 e1
  split at e
  .rename_i l ho
   split at e
   .rename_i c
    cases e;rw[eval_ListComp];refine iK (use:=Á) hc Af hN (c9 ok) hi hg ht he I R er e1 hs λD C s' H' d5 m' s2 H1 d3 IK Ah I' G2 hL EQ H4 Ia I2 E1 R1 E' R' hn hm=>?_
    exact⟨m',Ah,λOJ Ib=>⟨.ref D,H',I'.turned (t':=s'.toks) (λb o hb e=>(Ib.2 b hb).trans e) G2 (jq hL) (.inr H4) EQ Ia,rfl,mn k E1 R1 E' R' hn hm ho c.1 c.2⟩⟩
   .cases e
  .cases e
 .cases e
def lK{AB:ĝ}{H:Hp}{h1:MH}{D:Ends}
  (AI:X.N.Nodup) (A8:X.N[i]?=À x) (hx:X.env.kindOf x=À .local) (AN:Ă (.ListComp elt [⟨tg,iter,ifs,0⟩] scope pos) (À (.Name x px)) AB.line X.env=pure Ã)
  (hc:X.calm=Ã) (Af:X.env.scope=sc) (hN:X.N=N) (ok:CompOk sc N scope N' nl ks) (hi:SI X cl tg iter mi)
  (hg:∀cs C s₀ H₀ ex,SG (vT X scope cs C N' s₀ H₀ ex) cl tg g) (ht:∀cs C s₀ H₀ ex,gD (vT X scope cs C N' s₀ H₀ ex) cl ifs t) (he:∀cs C s₀ H₀ ex,SE (vT X scope cs C N' s₀ H₀ ex) cl elt m)
  (I:Inv X ag σ H s) (R:HR X.K cl μ H h) (er:ER X.K μ H ρ σ) (e:dn mi nl ks g t m ρ h=À (n0,h1,h2)) (hs:∀x,é iter X.env x=pure x)
  (k:∀A H' d5 H1 d3,Ext μ H d3 H1->HR X.K cl d3 H1 h1->Ext d3 H1 d5 H'->HR X.K cl d5 H' h2->h1.length=n0->d5[n0]?=À A->D.nx (σ.set i (À (.ref A))) H') :
  É (Ë X.prog X.w) X.A (exec (.Assign [.Name x px] (.ListComp elt [⟨tg,iter,ifs,0⟩] scope pos) AB) X.env) (SP X ag D) X.xe s:=by
 rw[exec_Assign_Name_used _ _ _ _ AN];refine zc (xZ (zc ?_));show É _ X.A (do let _ <-comprehension (.ListComp elt [⟨tg,iter,ifs,0⟩] scope pos) scope X.env _ (newList []) Â (eval iter X.env) (À (assign (.Name x px) X.env))) _ _ s
 refine zc (j8 (iK (use:=À (assign (.Name x px) X.env)) (Q:=λ_ s'=>SP X ag D .next s') hc Af hN ok hi hg ht he I R er e hs ?_) (λ_ s' hq=>zg (zg hq)) λ_ _ e=>e);intro A C s' H' d5 m' s2 H1 d3 IK Ah I' G2 hL EQ H4 Ia I2 E1 R1 E' R' hn hm;show É _ X.A (assign (.Name x px) X.env (.ref A)) _ _ _
 refine ž (nK (v:=.ref A) I' AI A8 (.inl hx) rfl (λGR OK Ib=>?_) (.inr hx));obtain⟨a,sb,ha⟩:=Ib;have OL:C≠a:=by
  rcases ha with rfl | ha
  .exact jq hL
  .exact λz=>EQ x a ha z.symm
 refine⟨m',Ah.sameBut sb OL,λh3 OM=>⟨_,H',OK.turned (t':=GR.toks) (λb o hb e=>(OM.2 b hb).trans e) G2 (jq hL) (.inr H4) EQ Ia,k A H' d5 H1 d3 E1 R1 E' R' hn hm⟩⟩
def Wg(i:Nat)(sc:ê)(N N':List Æ)(nl:Nat)(ks:List Nat){AB:ĝ}(AI:X.N.Nodup)(hc:X.calm=Ã)(ok:af sc N scope N' nl ks=Ã)(hi:SI X cl tg iter mi)
  (hg:∀cs C s₀ H₀ ex,SG (vT X scope cs C N' s₀ H₀ ex) cl tg g) (ht:∀cs C s₀ H₀ ex,gD (vT X scope cs C N' s₀ H₀ ex) cl ifs t) (he:∀cs C s₀ H₀ ex,SE (vT X scope cs C N' s₀ H₀ ex) cl elt m)
  (Af:↥(X.env.scope=sc)) (hN:↥(X.N=N)) (hs:∀x,é iter X.env x=pure x:=by intro _;rfl) (A8:↥(X.N[i]?=À x)) (hx:↥(X.env.kindOf x=À .local))
  (AN:↥(Ă (.ListComp elt [⟨tg,iter,ifs,0⟩] scope pos) (À (.Name x px)) AB.line X.env=pure Ã)):SS X cl (.Assign [.Name x px] (.ListComp elt [⟨tg,iter,ifs,0⟩] scope pos) AB) (zC (x8 mi nl ks g t m) (zl i)):=by
 rintro ag s σ H D I ⟨μ,h,ρ,fl,h',R,er,e,k⟩;unfold zC at e;split at e
 .rename_i w h2 e1
  split at e
  .rename_i r9 h3 e2
   cases e;unfold x8 at e1;split at e1
   .rename_i n0 h1 Hn e0
    cases e1;unfold zl at e2;split at e2
    .rename_i A7
     cases e2;exact lK AI A8 hx AN hc Af hN (c9 ok) hi hg ht he I R er e0 hs λA H' d5 H1 d3 E1 R1 E' R' hn hm=>k d5 H' (E1.trans E') R' _ ((er.ext R (E1.trans E')).set A7 (.ref hm))
    .cases e2
   .cases e1
  .cases e
 .cases e
def XI(i:Nat)(sc:ê)(N N':List Æ)(nl:Nat)(ks:List Nat){elt tg iter:Î}{ifs:List Î}{scope:ê}{pos AB px:ĝ}{x:Æ}(AI:X.N.Nodup)(hc:X.calm=Ã)(ok:af sc N scope N' nl ks=Ã)(hi:SI X cl tg iter mi)
  (hg:∀cs C s₀ H₀ ex,SG (vT X scope cs C N' s₀ H₀ ex) cl tg g) (ht:∀cs C s₀ H₀ ex,gD (vT X scope cs C N' s₀ H₀ ex) cl ifs t) (he:∀cs C s₀ H₀ ex,SE (vT X scope cs C N' s₀ H₀ ex) cl elt m)
  (Af:↥(X.env.scope=sc)) (hN:↥(X.N=N)) (hs:∀x,é iter X.env x=pure x:=by intro _;rfl) (A8:↥(X.N[i]?=À x)) (hx:↥(X.env.kindOf x=À .local))
  (AN:↥(Ă (.ListComp elt [⟨tg,iter,ifs,0⟩] scope pos) (À (.Name x px)) AB.line X.env=pure Ã)):SS X cl (.Assign [.Name x px] (.ListComp elt [⟨tg,iter,ifs,0⟩] scope pos) AB) (zC (kq mi nl ks g t m) (zl i)):=by
 rintro ag s σ H D I ⟨μ,h,ρ,fl,h',R,er,e,k⟩;unfold zC at e;split at e
 .rename_i w h2 e1
  split at e
  .rename_i r9 h3 e2
   cases e;unfold kq at e1;split at e1
   .rename_i n0 h1 Hn e0
    split at e1
    .rename_i l ho
     split at e1
     .rename_i c
      cases e1;unfold zl at e2;split at e2
      .rename_i A7
       cases e2;refine lK AI A8 hx AN hc Af hN (c9 ok) hi hg ht he I R er e0 hs λA H' d5 H1 d3 E1 R1 E' R' hn hm=>?_
       exact mn (Q:=λv H'=>D.nx (σ.set i (À v)) H') (λA1 H3 v E3 R3 r3=>k A1 H3 E3 R3 _ ((er.ext R E3).set A7 r3)) E1 R1 E' R' hn hm ho c.1 c.2
      .cases e2
     .cases e1
    .cases e1
   .cases e1
  .cases e
 .cases e
end
def lg{X:Cx}{ag:List (È×ö)}{σ:L2.St}{H:Hp}{s:Å}{h':Ò}{t':Nat}{fp:List È}(I:Inv X ag σ H s)(k:∀b o,b∉fp->s.heap.get? b=À o->h'.get? b=À o)(hf:∀b∈fp,bE X ag H b) :
  Inv X ag σ H { s with heap:=h',toks:=t' }:=by
 have away:∀b u,H b=À u->b∉fp:=λb u e z=>by rw[(hf b z).1] at e;cases e
 refine I.step (g':=s.gens) (d':=s.drawn) (ch:=fp) (λb hb=>⟨(hf b hb).2.2.2.1,(hf b hb).2.1,(hf b hb).2.2.2.2.1,(hf b hb).2.2.2.2.2⟩) (λb o _ _ hc e _=>k b o hc e) (λb o _ _ hc e _=>⟨o.slots,k b o hc e⟩) (λ_ _ _ _ n=>n)
  (λb o hc e=>⟨o,k b o hc e⟩) (λ_ _ e=>e) (λ_ _ _ e=>e) (λb ps e=>⟨#[],by rw[e];simp⟩) (λm hm=>?_) (λb u e=>?_) I.bare
 .obtain⟨o,es,ep,ho,r⟩:=hm
  exact⟨o,es,ep,k _ o (λz=>(hf _ z).2.1 rfl) ho,r⟩
 .refine(I.hok b u e).stay (λc v hc q=>k c v ?_ q) (λ_ q=>q) λ_ _ q=>q
  rcases hc with z | z
  .rw[z];exact away b u e
  .exact away c _ z
structure Stp(it a:È)(P:Nat->Ò->Prop)(C:Ò->List Ä->Prop):Prop where
 keep:∀{i:Nat} {h h':Ò},P i h->(∀o,h.get? it=À o->h'.get? it=À o)->P i h'
 keepC:∀{h h':Ò} {l:List Ä},C h l->(∀o,h.get? a=À o->h'.get? a=À o)->C h' l
 obj:∀{i:Nat} {h:Ò},P i h->∃o,h.get? it=À o/\∀v,o.data≠.cell v
 item:∀{prog:Í} {w:Ñ} {A:Ö} {E:Ä->Å->Prop} {s:Å} {i:Nat} {l:List Ä} {x:Ä} {Q:Ä->Å->Prop},P i s.heap->C s.heap l->l[i]?=À x->
  (∀h',P (i+1) h'->Ý it s.heap h'->Q x { s with heap:=h' })->É (Ë prog w) A (Ø (.ref it)) Q E s
 last:∀{prog:Í} {w:Ñ} {A:Ö} {E:Ä->Å->Prop} {s:Å} {i:Nat} {l:List Ä} {Q:Ä->Å->Prop},A.handled=Á->P i s.heap->C s.heap l->l[i]?=Á->
  (∀h' e,Ť it s.heap h'->(∃o,h'.get? e=À o/\o.cls=.type "StopIteration")->E (.ref e) { s with heap:=h' })->É (Ë prog w) A (Ø (.ref it)) Q E s
def Wv(it a:È):Stp it a (λi h=>h.IsListIter it a i) (λh l=>h.IsList a l.toArray) where
 keep:=λp k=>p.at λo e=>k o e
 keepC:=λp k=>p.at λo e=>k o e
 obj:=λ⟨o,e,_,d⟩=>⟨o,e,λv z=>by rw[d] at z;cases z⟩
 item:=λp c e q=>wpAny_nextOf_list_item p c (by simpa using e) q
 last:=λhh p c e q=>wpAny_nextOf_list_end hh p c (by simpa using e) q
section
variable{prog:Í}{w:Ñ}{A:Ö}{E:Ä->Å->Prop}{s:Å}
def ig{items:Array Ä}(hit:s.heap.IsTupleIter it t i)(ht:s.heap.IsTuple t items)(hx:items[i]?=À x)
  (hQ:∀h',h'.IsTupleIter it t (i+1)->Ý it s.heap h'->Q x { s with heap:=h' }):É (Ë prog w) A (Ø (.ref it)) Q E s:=by
 obtain⟨oi,gi,ci,di⟩:=id hit;obtain⟨ot,gt,_,nt,dt⟩:=ht;unfold Ø;refine zc (jx (name:=ú "__next__") hit.typeIs vL (jo vL hit.typeIs u5 ?_ (uV _)));show É _ _ (field (.ref it) 0 >>= _) _ _ s;refine zc (jY gi di (x:=.ref t) rfl ?_)
 show É _ _ (if (Ï t==Ó)=Ã then _ else _) _ _ s;rw[kh (show ¬((Ï t==Ó)=Ã) from zR)]
 show É _ _ (field (.ref it) 1 >>= _) _ _ s;refine zc (jY gi di (x:=.int i 0) rfl ?_)
 show É _ _ (seqItems? (.ref t) >>= _) _ _ s;refine zc (jO gt dt ?_)
 erw[jd,hx];refine zc (xH gi di (by simp) (zg ⟨x,rfl,zg (hQ _ ?_ (jR ..))⟩));exact⟨_,jy _ gi (ŝ (ym di _)),(Obj.cls_mapFields ..).trans ci,by rw[ym di];simp[rawInt]⟩
def iO{items:Array Ä}(hh:A.handled=Á)(hit:s.heap.IsTupleIter it t i)(ht:s.heap.IsTuple t items)(hx:items[i]?=Á)
  (hE:∀h' e,Ť it s.heap h'->(∃o,h'.get? e=À o/\o.cls=.type "StopIteration")->E (.ref e) { s with heap:=h' }):É (Ë prog w) A (Ø (.ref it)) Q E s:=by
 obtain⟨oi,gi,ci,di⟩:=id hit;obtain⟨ot,gt,_,nt,dt⟩:=ht;unfold Ø;refine zc (jx (name:=ú "__next__") hit.typeIs vL (jo vL hit.typeIs u5 ?_ (uV _)));show É _ _ (field (.ref it) 0 >>= _) _ _ s;refine zc (jY gi di (x:=.ref t) rfl ?_)
 show É _ _ (if (Ï t==Ó)=Ã then _ else _) _ _ s;rw[kh (show ¬((Ï t==Ó)=Ã) from zR)]
 show É _ _ (field (.ref it) 1 >>= _) _ _ s;refine zc (jY gi di (x:=.int i 0) rfl ?_)
 show É _ _ (seqItems? (.ref t) >>= _) _ _ s;refine zc (jO gt dt ?_)
 erw[jd,hx];refine zc (qz (zc (xH gi di (by simp) ?_)));show É _ _ (newExc (.type "StopIteration") [] >>= _) _ _ _
 refine zc ?_;erw[newExc,newTuple];refine zc (jc ?_ (by size_fits));refine zc (m:=Ĩ _ _) (wO (a:=Ó) (by first | rfl | (erw[Ĩ];rfl)) ?_);refine jc ?_ (by size_fits);erw[raiseNew];refine zc (ů ?_);first | rw[show A.in1.handled=Á from hh] | rw[hh]
 refine zc (zg (xQ ?_));exact hE _ _ (((jR ..).extBut.push _).push _) ⟨_,zK _ rfl,rfl⟩
end
def JZ(it a:È):Stp it a (λi h=>h.IsTupleIter it a i) (λh l=>h.IsTuple a l.toArray) where
 keep:=λp k=>p.at λo e=>k o e
 keepC:=λp k=>p.at λo e=>k o e
 obj:=λ⟨o,e,_,d⟩=>⟨o,e,λv z=>by rw[d] at z;cases z⟩
 item:=λp c e q=>ig p c (by simpa using e) q
 last:=λhh p c e q=>iO hh p c (by simpa using e) q
structure ZApart(z TI TO i1 i2 a1 a2:È):Prop where
 nd:[z,TI,TO,i1,i2].Nodup
 f1:a1∉[z,TI,TO,i1,i2]
 f2:a2∉[z,TI,TO,i1,i2]
noncomputable def Yp(z TI TO i1 i2:È)(P1 P2:Nat->Ò->Prop)(f0:Ä)(k1 k2:Nat)(h:Ò):Prop:=IsZip h z TI TO f0/\ŗ h TI (.ref i1) (.ref i2)/\(∃a b,ŗ h TO a b)/\P1 k1 h/\P2 k2 h
section
variable{prog:Í}{w:Ñ}{A:Ö}{E:Ä->Å->Prop}{s:Å}{z TI TO i1 i2 a1 a2:È}{P1 P2:Nat->Ò->Prop}{C1 C2:Ò->List Ä->Prop}
def VM(S1:Stp i1 a1 P1 C1)(S2:Stp i2 a2 P2 C2)(D:ZApart z TI TO i1 i2 a1 a2){l1 l2:List Ä}(st:Yp z TI TO i1 i2 P1 P2 .none k k s.heap)(c1:C1 s.heap l1)(c2:C2 s.heap l2)(hx:l1[k]?=À x)(hy:l2[k]?=À y)
  (hQ:∀h',Yp z TI TO i1 i2 P1 P2 (rawInt s.heap.objs.size) (k+1) (k+1) h'->h'.get? s.heap.objs.size=À { cls:=.type "tuple",data:=.seq #[x,y] }->(∀c o,c∉[z,TI,TO,i1,i2]->s.heap.get? c=À o->h'.get? c=À o)->Q (À (.ref s.heap.objs.size)) { s with heap:=h' }) :
  É (Ë prog w) A (đ (.ref z)) Q E s:=by
 obtain⟨hz,EG,⟨a,b,ES⟩,p1,p2⟩:=st;have n:=D.nd;erw[jJ,zj,zx,kE,yx] at n;obtain⟨⟨n1,n2,n3,n4⟩,⟨n5,n6,n7⟩,⟨n8,n9⟩,IM,_⟩:=n;have g1:=D.f1;have g2:=D.f2;erw[zj,zx,kE,yx] at g1 g2;obtain⟨LF,ON,OO,OP,OQ⟩:=g1;obtain⟨LG,OS,LH,LI,OU⟩:=g2;have hT:s.TypeIs (.ref z) "zip":=⟨_,hz,rfl⟩;unfold đ;refine zc (vD (jx (name:=ú "__next__") hT yX (jo yX hT F.entry_zip_next ?_ (F.args_zip_next_1 _))));show É _ _ (field (.ref z) 2 >>= _) _ _ _;refine zc (jY hz rfl (x:=.bool Â) rfl ?_)
 show É _ _ (field (.ref z) 3 >>= _) _ _ _;refine zc (jY hz rfl (x:=.ref TI) rfl ?_)
 refine zc (jO EG rfl ?_);show É _ _ (ï (.ref z) >>= _) _ _ _
 refine zc ?_;unfold ï;refine zc (jY hz rfl (x:=.none) rfl (zg ?_));erw[kY];refine zc (qz ?_);refine zc (jY hz rfl (x:=.ref TO) rfl ?_);refine zc (jw hz (by simp) λh1 q1 e1=>?_);replace q1:IsZip h1 z TI TO .ellipsis:=q1;refine zc ?_;erw[qb,ug,yF,List.forIn_nil];refine zc (zc (uc ?_));show É _ _ (Ø (.ref i1) >>= _) _ _ _
 refine zc (S1.item (S1.keep p1 λo e=>e1.extBut _ _ (jq n3) e) (S1.keepC c1 λo e=>e1.extBut _ _ LF e) hx λh2 r1 e2=>zg ?_);have t2:ŗ h2 TO a b:=e2.extBut _ _ n8 (e1.extBut _ _ (jq n2) ES);refine zc (jO t2 rfl ?_);refine zc (xn t2 λh3 t3 e3=>?_);replace t3:ŗ h3 TO x b:=t3
 refine zc (wpAny_letGo (zg ?_));refine zc (zc (uc ?_));show É _ _ (Ø (.ref i2) >>= _) _ _ _
 refine zc (S2.item (S2.keep p2 λo e=>e3.extBut _ _ (jq n9) (e2.extBut _ _ (jq IM) (e1.extBut _ _ (jq n4) e))) (S2.keepC c2 λo e=>e3.extBut _ _ LH (e2.extBut _ _ LI (e1.extBut _ _ LG e))) hy λh4 r2 e4=>zg ?_);have t4:ŗ h4 TO x b:=e4.extBut _ _ n9 t3;refine zc (jO t4 rfl ?_);refine zc (xn t4 λh5 t5 e5=>?_);replace t5:ŗ h5 TO x y:=t5
 refine zc (wpAny_letGo (zg (zg ?_)));refine zc (jO t5 rfl ?_);refine zc (pC ?_);have sz:h5.objs.size=s.heap.objs.size:=by rw[e5.1,e4.1,e3.1,e2.1,e1.1]
 have all:∀c o,c∉[z,TI,TO,i1,i2]->s.heap.get? c=À o->h5.get? c=À o:=λc o hc e=>by
  erw[zj,zx,kE,yx] at hc;exact e5.extBut _ _ hc.2.2.1 (e4.extBut _ _ hc.2.2.2.2 (e3.extBut _ _ hc.2.2.1 (e2.extBut _ _ hc.2.2.2.1 (e1.extBut _ _ hc.1 e))))
 have z5:IsZip h5 z TI TO .ellipsis:=e5.extBut _ _ n2 (e4.extBut _ _ n4 (e3.extBut _ _ n2 (e2.extBut _ _ n3 q1)));have OV:ŗ h5 TI (.ref i1) (.ref i2):=e5.extBut _ _ n5 (e4.extBut _ _ n7 (e3.extBut _ _ n5 (e2.extBut _ _ n6 (e1.extBut _ _ (jq n1) EG))));have u1:P1 (k+1) h5:=S1.keep r1 λo e=>e5.extBut _ _ (jq n8) (e4.extBut _ _ IM (e3.extBut _ _ (jq n8) e))
 have u2:P2 (k+1) h5:=S2.keep r2 λo e=>e5.extBut _ _ (jq n9) e
 have IP:z<h5.objs.size:=zM z5;show É _ _ (Ĝ (.ref z) (.ref h5.objs.size) >>= _) _ _ _
 refine zc ?_;unfold Ĝ;have z6:IsZip (h5.push { cls:=.type "tuple",data:=.seq #[x,y] }) z TI TO .ellipsis:=zf _ z5;refine zc (jw z6 (by simp) λh7 z7 e7=>?_);replace z7:IsZip h7 z TI TO (rawInt h5.objs.size):=z7;refine jw z7 (by simp) λh8 z8 e8=>?_
 replace z8:IsZip h8 z TI TO (rawInt h5.objs.size):=z8
 have up:∀c o,c≠z->h5.get? c=À o->h8.get? c=À o:=λc o c1 e=>e8.extBut _ _ c1 (e7.extBut _ _ c1 (zf _ e))
 have t8:h8.get? h5.objs.size=À { cls:=.type "tuple",data:=.seq #[x,y] }:=e8.extBut _ _ (vX IP) (e7.extBut _ _ (vX IP) (zK _ rfl));rw[sz] at z8 t8;refine zg ⟨_,rfl,zg ?_⟩;show Q (À (.ref h5.objs.size)) _
 rw[sz];exact hQ h8 ⟨z8,up _ _ (jq n1) OV,⟨x,y,up _ _ (jq n2) t5⟩,S1.keep u1 λo e=>up _ o (jq n3) e,S2.keep u2 λo e=>up _ o (jq n4) e⟩ t8 λc o hc e=>up c o (λq=>hc (by simp[q])) (all c o hc e)
def W8(S1:Stp i1 a1 P1 C1)(S2:Stp i2 a2 P2 C2)(D:ZApart z TI TO i1 i2 a1 a2){l1 l2:List Ä}(hh:A.handled=Á)(st:Yp z TI TO i1 i2 P1 P2 .none k k s.heap)(c1:C1 s.heap l1)(c2:C2 s.heap l2)(he:l1[k]?=Á\/l2[k]?=Á)
  (hQ:∀h',(∀c o,c∉[z,TI,TO,i1,i2]->s.heap.get? c=À o->h'.get? c=À o)->Q Á { s with heap:=h' }):É (Ë prog w) A (đ (.ref z)) Q E s:=by
 obtain⟨hz,EG,⟨a,b,ES⟩,p1,p2⟩:=st;have n:=D.nd;erw[jJ,zj,zx,kE,yx] at n;obtain⟨⟨n1,n2,n3,n4⟩,⟨n5,n6,n7⟩,⟨n8,n9⟩,IM,_⟩:=n;have g1:=D.f1;have g2:=D.f2;erw[zj,zx,kE,yx] at g1 g2;obtain⟨LF,ON,OO,OP,OQ⟩:=g1;obtain⟨LG,OS,LH,LI,OU⟩:=g2;have hT:s.TypeIs (.ref z) "zip":=⟨_,hz,rfl⟩;have stop:∀{h':Ò} {e:È},(∃o,h'.get? e=À o/\o.cls=.type "StopIteration")->(∀c o,c∉[z,TI,TO,i1,i2]->s.heap.get? c=À o->h'.get? c=À o)->
   É (Ë prog w) A (isInstance (.ref e) (.type "StopIteration") >>= λx=>if x=Ã then pure Á else throw (.ref e)) Q E { s with heap:=h' }:=λ{h' e} ⟨o,ho,hc⟩ kk=>
  zc (vQ (T:="StopIteration") (b:=Ã) ⟨o,ho,hc⟩ pF (zg (hQ _ kk)))
 unfold đ;refine zc (vD (jx (name:=ú "__next__") hT yX (jo yX hT F.entry_zip_next ?_ (F.args_zip_next_1 _))));show É _ _ (field (.ref z) 2 >>= _) _ _ _;refine zc (jY hz rfl (x:=.bool Â) rfl ?_)
 show É _ _ (field (.ref z) 3 >>= _) _ _ _;refine zc (jY hz rfl (x:=.ref TI) rfl ?_)
 refine zc (jO EG rfl ?_);show É _ _ (ï (.ref z) >>= _) _ _ _
 refine zc ?_;unfold ï;refine zc (jY hz rfl (x:=.none) rfl (zg ?_));erw[kY];refine zc (qz ?_);refine zc (jY hz rfl (x:=.ref TO) rfl ?_);refine zc (jw hz (by simp) λh1 q1 e1=>?_);replace q1:IsZip h1 z TI TO .ellipsis:=q1;refine zc ?_;erw[qb,ug,yF,List.forIn_nil];refine zc (zc (uc ?_));show É _ _ (Ø (.ref i1) >>= _) _ _ _
 have MX:=S1.keep (h':=h1) p1 λo e=>e1.extBut _ _ (jq n3) e
 have GM:=S1.keepC (h':=h1) c1 λo e=>e1.extBut _ _ LF e
 cases hx:l1[k]? with
 | none=>
  refine zc (S1.last hh MX GM hx ?_);rintro h2 e e2 ⟨oe,ge,ce⟩;have z2:IsZip h2 z TI TO .ellipsis:=e2 _ _ n3 q1;have ne:e≠z:=λq=>by subst q;rw[z2] at ge;cases ge;simp at ce
  refine jw z2 (by simp) λh3 _ e3=>?_
  refine stop ⟨oe,e3.extBut _ _ ne ge,ce⟩ λc o hc g=>?_
  erw[zj,zx,kE,yx] at hc;exact e3.extBut _ _ hc.1 (e2 _ _ hc.2.2.2.1 (e1.extBut _ _ hc.1 g))
 | some x=>
  have hy:l2[k]?=Á:=by rcases he with h | h;rw[hx] at h;cases h;exact h
  refine zc (S1.item MX GM hx λh2 r1 e2=>zg ?_);have t2:ŗ h2 TO a b:=e2.extBut _ _ n8 (e1.extBut _ _ (jq n2) ES);refine zc (jO t2 rfl ?_);refine zc (xn t2 λh3 t3 e3=>?_);refine zc (wpAny_letGo (zg ?_));refine zc (zc (uc ?_));show É _ _ (Ø (.ref i2) >>= _) _ _ _
  refine zc (S2.last hh (S2.keep p2 λo e=>e3.extBut _ _ (jq n9) (e2.extBut _ _ (jq IM) (e1.extBut _ _ (jq n4) e))) (S2.keepC c2 λo e=>e3.extBut _ _ LH (e2.extBut _ _ LI (e1.extBut _ _ LG e))) hy ?_);rintro h4 e e4 ⟨oe,ge,ce⟩;have z4:IsZip h4 z TI TO .ellipsis:=e4 _ _ n4 (e3.extBut _ _ n2 (e2.extBut _ _ n3 q1));have ne:e≠z:=λq=>by subst q;rw[z4] at ge;cases ge;simp at ce
  refine jw z4 (by simp) λh5 _ e5=>?_
  refine stop ⟨oe,e5.extBut _ _ ne ge,ce⟩ λc o hc g=>?_
  erw[zj,zx,kE,yx] at hc;exact e5.extBut _ _ hc.1 (e4 _ _ hc.2.2.2.2 (e3.extBut _ _ hc.2.2.1 (e2.extBut _ _ hc.2.2.2.1 (e1.extBut _ _ hc.1 g))))
end
noncomputable def lL(v:Ä)(o:ö)(C:Ò->Prop):Prop:=∀(prog:Í) (w:Ñ) (A:Ö) (E:Ä->Å->Prop) (s:Å) (Q:Ä->Å->Prop),C s.heap->Q (.ref s.heap.objs.size) { s with heap:=s.heap.push o }->É (Ë prog w) A (ı v) Q E s
def Wi(a:È)(l:List Ä):lL (.ref a) { cls:=.type "list_iterator",data:=.fields #[.ref a,.int 0 0] } (λh=>h.IsList a l.toArray):=λ_ _ _ _ _ _ c q=>vC c q
def QR(a:È)(l:List Ä):lL (.ref a) { cls:=.type "tuple_iterator",data:=.fields #[.ref a,.int 0 0] } (λh=>h.IsTuple a l.toArray):=λ_ _ _ _ _ _ c q=>yj c q
section
variable{v1 v2:Ä}{o1 o2:ö}{C1 C2:Ò->Prop}
abbrev YD(h:Ò)(o1:ö):Ò:=h.push o1
abbrev YM(h:Ò)(o1 o2:ö):Ò:=(YD h o1).push o2
abbrev Yg(h:Ò)(o1 o2:ö):Ò:=(YM h o1 o2).push { cls:=.type "tuple",data:=.seq #[.ref h.objs.size,.ref (YD h o1).objs.size] }
abbrev Yz(h:Ò)(o1 o2:ö):Ò:=(Yg h o1 o2).push { cls:=.type "tuple",data:=.seq #[.none,.none] }
abbrev ZY(h:Ò)(o1 o2:ö):Ò:=(Yz h o1 o2).push { cls:=.type "zip",data:=.fields #[.none,.bool Â,.bool Â,.ref (YM h o1 o2).objs.size,.ref (Yg h o1 o2).objs.size] }
def X5(r1:lL v1 o1 C1)(r2:lL v2 o2 C2) :
  Meets (ò.«zip.__new__» ⟨[.type "zip",v1,v2],[]⟩) (λ_ R s=>C1 s.heap/\C2 (s.heap.push o1)/\R (.ok (.ret (.ref (Yz s.heap o1 o2).objs.size))) { s with heap:=ZY s.heap o1 o2 }):=
 .of_wp λprog w A R s h=>by
  obtain⟨hp,g,d,tk,os⟩:=s;obtain⟨k1,k2,h⟩:=h;have LJ:=sub_zip;have q1:∀{A:Ö} {E:Ä->Å->Prop} {Q:Ä->Å->Prop},Q (.ref hp.objs.size) ⟨hp.push o1,g,d,tk,os⟩->É (Ë prog w) A (ı v1) Q E ⟨hp,g,d,tk,os⟩:=λq=>r1 prog w _ _ _ _ k1 q
  have q2:∀{A:Ö} {E:Ä->Å->Prop} {Q:Ä->Å->Prop},Q (.ref (hp.push o1).objs.size) ⟨(hp.push o1).push o2,g,d,tk,os⟩->É (Ë prog w) A (ı v2) Q E ⟨hp.push o1,g,d,tk,os⟩:=λq=>r2 prog w _ _ _ _ k2 q
  wp_walk using q1,q2
  exact⟨_,rfl,h⟩
end
section
variable{prog:Í}{w:Ñ}{A:Ö}{E:Ä->Å->Prop}{s:Å}{v1 v2:Ä}{o1 o2:ö}{C1 C2:Ò->Prop}
def VE(r1:lL v1 o1 C1)(r2:lL v2 o2 C2)(k1:C1 s.heap)(k2:C2 (s.heap.push o1))(OW:o1.isFreed=Â)(OX:o2.isFreed=Â)
  (h:∀h',IsZip h' (s.heap.objs.size+4) (s.heap.objs.size+2) (s.heap.objs.size+3) .none->ŗ h' (s.heap.objs.size+2) (.ref s.heap.objs.size) (.ref (s.heap.objs.size+1))->
   ŗ h' (s.heap.objs.size+3) .none .none->h'.get? s.heap.objs.size=À o1->h'.get? (s.heap.objs.size+1)=À o2->(∀c o,s.heap.get? c=À o->h'.get? c=À o)->Q (.ref (s.heap.objs.size+4)) { s with heap:=h' }) :
  É (Ë prog w) A (call (.type "zip") [v1,v2]) Q E s:=by
 refine callType_new F.called_zip (by decide) (F.typeCall_zip_2 _ _) (F.newCall_zip_2 _ _) (λobj=>F.args_object_init_3 obj _ _) F.entry_zip_new (X5 r1 r2) ⟨k1,k2,?_⟩;have y1:(YD s.heap o1).objs.size=s.heap.objs.size+1:=jQ ..;have y2:(YM s.heap o1 o2).objs.size=s.heap.objs.size+2:=by rw[jQ,y1]
 have y3:(Yg s.heap o1 o2).objs.size=s.heap.objs.size+3:=by rw[jQ,y2]
 have y4:(Yz s.heap o1 o2).objs.size=s.heap.objs.size+4:=by rw[jQ,y3]
 have b5:(ZY s.heap o1 o2).get? (Yz s.heap o1 o2).objs.size=À _:=zK _ rfl;have b4:(ZY s.heap o1 o2).get? (Yg s.heap o1 o2).objs.size=À _:=zf _ (zK _ rfl);have b3:(ZY s.heap o1 o2).get? (YM s.heap o1 o2).objs.size=À _:=zf _ (zf _ (zK _ rfl));have b2:(ZY s.heap o1 o2).get? (YD s.heap o1).objs.size=À _:=zf _ (zf _ (zf _ (zK _ OX)));have b1:(ZY s.heap o1 o2).get? s.heap.objs.size=À _:=zf _ (zf _ (zf _ (zf _ (zK _ OW))));show _/\_
 rw[y2,y3,y4] at b5;rw[y1,y2] at b3;rw[y3] at b4;rw[y1] at b2;rw[y4];exact⟨⟨_,b5,rfl⟩,h _ b5 b3 b4 b1 b2 λc o x=>zf _ (zf _ (zf _ (zf _ (zf _ x))))⟩
end
def eX{X:Cx}{ag:List (È×ö)}{σ:L2.St}{H:Hp}{s:Å}{h':Ò}{t':Nat}{fp:List È}{p:È}{o:HO}(I:Inv X ag σ H s)(k:∀b o,b∉fp->s.heap.get? b=À o->h'.get? b=À o)(hf:∀b∈fp,bE X ag H b)
  (hp:s.heap.objs.size<=p) (new:ObjOk X.prog X.w (upd H p o) h' p o):Inv X ag σ (upd H p o) { s with heap:=h',toks:=t' }:=by
 have hn:H p=Á:=I.hok.fresh hp;have away:∀b u,H b=À u->b∉fp:=λb u e z=>by rw[(hf b z).1] at e;cases e
 have lt:∀b u,s.heap.get? b=À u->b≠p:=λb u e=>zU (zO (zM e) hp)
 refine I.step (g':=s.gens) (d':=s.drawn) (ch:=fp) (λb hb=>⟨(hf b hb).2.2.2.1,(hf b hb).2.1,(hf b hb).2.2.2.2.1,(hf b hb).2.2.2.2.2⟩) (λb o _ _ hc e _=>k b o hc e) (λb o _ _ hc e _=>⟨o.slots,k b o hc e⟩) (λb u _ e n=>by rw[kF (lt b u e)];exact n)
  (λb o hc e=>⟨o,k b o hc e⟩) (λb xs e=>by rw[kF (qf e hn)];exact e) (λb u v e=>by rw[kF (qf e hn)];exact e) (λb ps e=>⟨#[],by rw[kF (qf e hn),e];simp⟩) (λm hm=>?_) (λb u e=>?_) I.bare
 .obtain⟨o,es,ep,ho,r⟩:=hm
  exact⟨o,es,ep,k _ o (λz=>(hf _ z).2.1 rfl) ho,r⟩
 .by_cases hb:b=p
  .subst hb;rw[qq] at e;cases e;exact new
  .rw[kF hb] at e
   refine(I.hok b u e).stay (λc v hc q=>k c v ?_ q) (λc q=>by rw[kF (qf q hn)];exact q) λc xs q=>by rw[kF (qf q hn)];exact q
   rcases hc with z | z
   .rw[z];exact away b u e
   .exact away c _ z
noncomputable def dN(K:Sb)(tp:Bool)(H:Hp)(a:È)(xs:List V):Prop:=if tp=Ã then SqT K H a xs else SqL K H a xs
noncomputable def CL(tp:Bool)(a:È)(h:Ò)(l:List Ä):Prop:=if tp=Ã then h.IsTuple a l.toArray else h.IsList a l.toArray
noncomputable def Vq(tp:Bool)(it a:È)(i:Nat)(h:Ò):Prop:=if tp=Ã then h.IsTupleIter it a i else h.IsListIter it a i
noncomputable def CQ(tp:Bool)(a:È):ö:=if tp=Ã then { cls:=.type "tuple_iterator",data:=.fields #[.ref a,.int 0 0] } else { cls:=.type "list_iterator",data:=.fields #[.ref a,.int 0 0] }
def wc(tp:Bool)(it a:È):Stp it a (Vq tp it a) (CL tp a):=by
 cases tp
 .exact Wv it a
 .exact JZ it a
def Js(tp:Bool)(a:È)(l:List Ä):lL (.ref a) (CQ tp a) (λh=>CL tp a h l):=by
 cases tp
 .exact Wi a l
 .exact QR a l
theorem iN(tp:Bool)(a:È):(CQ tp a).isFreed=Â:=by cases tp<;>rfl
def mR{h:Ò}(e:h.get? it=À (CQ tp a)):Vq tp it a 0 h:=by
 cases tp
 .exact⟨_,e,rfl,rfl⟩
 .exact⟨_,e,rfl,rfl⟩
section
variable{X:Cx}{ag:List (È×ö)}{σ:L2.St}{H:Hp}{s:Å}
def x3(I:Inv X ag σ H s)(h:dN X.K tp H a xs):∃l,Vals xs l/\CL tp a s.heap l:=by
 cases tp
 .obtain⟨its,r,p,_⟩:=I.list (show SqL X.K H a xs from h)
  exact⟨its,r,p.isList⟩
 .obtain⟨its,r,p,_⟩:=I.tuple (show SqT X.K H a xs from h)
  exact⟨its,r,p⟩
def mS(I:Inv X ag σ H s)(h:dN X.K tp H a xs)(h':dN X.K tp H a ys):xs=ys:=by
 cases tp
 .exact I.list_inj (show SqL X.K H a xs from h) h'
 .exact I.tuple_inj (show SqT X.K H a xs from h) h'
def ba(I:Inv X ag σ H s)(h:dN X.K tp H a xs)(f:bE X ag H b):a≠b:=by
 have k:∀o,X.K.lookup a=À o->a≠b:=λo e z=>by
  subst z;have eb:X.base.get? a=À o:=I.mod.kin _ _ e;rcases f.2.2.2.1 with q | q
  .exact I.ok.noex _ _ eb q
  .exact absurd (zO (zM eb) (zz I.ok.bsz q)) (j4 _)
 have r:∀u,Rd H a u->a≠b:=λu q=>by
  rcases q with q | ⟨o,q⟩<;>exact qf q f.1
 cases tp
 .rcases(show SqL X.K H a xs from h) with q | ⟨o,_,_,e,_⟩
  .exact r _ q
  .exact k o e
 .rcases(show SqT X.K H a xs from h) with q | ⟨o,_,_,e,_⟩
  .exact r _ q
  .exact k o e
end
noncomputable def Gv (K : Sb) (t1 t2 : Bool) (a1 a2 : È) : It :=
  ⟨λi H => ∃ xs ys x y, dN K t1 H a1 xs /\ dN K t2 H a2 ys /\ xs[i]? = À x /\ ys[i]? = À y,
   λi H v H' => ∃ p x y, H p = Á /\ v = .ref p /\ H' = upd H p (.tup [x, y]) /\ (∀ xs, dN K t1 H a1 xs -> xs[i]? = À x) /\ ∀ ys, dN K t2 H a2 ys -> ys[i]? = À y,
   λi H => ∃ xs ys, dN K t1 H a1 xs /\ dN K t2 H a2 ys /\ (xs.length <= i \/ ys.length <= i)⟩
def WN{P:Í}{w:Ñ}{K:Sb}{AD:List Î}{n:Nat}{AE:ĝ}(t1 t2:Bool)(z TI TO i1 i2 a1 a2:È)(nd:[z,TI,TO,i1,i2].Nodup) :
  Turn P w K (.Tuple AD n AE) (Gv K t1 t2 a1 a2) [z,TI,TO,i1,i2] z (λi h=>Yp z TI TO i1 i2 (Vq t1 i1 a1) (Vq t2 i2 a2) .none i i h) where
 mem:=by simp
 obj:=λi h st b hb=>by
  obtain⟨hz,EG,⟨a,b',ES⟩,p1,p2⟩:=st;erw[zj,zx,kE] at hb;rcases hb with rfl | rfl | rfl | rfl | rfl
  .exact⟨_,hz,λv q=>by cases q⟩
  .exact⟨_,EG,λv q=>by cases q⟩
  .exact⟨_,ES,λv q=>by cases q⟩
  .exact(wc t1 _ a1).obj p1
  .exact(wc t2 _ a2).obj p2
 keep:=λi h h' st k=>by
  obtain⟨hz,EG,⟨a,b',ES⟩,p1,p2⟩:=st;exact⟨k z (by simp) _ hz,k TI (by simp) _ EG,⟨a,b',k TO (by simp) _ ES⟩,(wc t1 i1 a1).keep p1 λo e=>k i1 (by simp) o e,(wc t2 i2 a2).keep p2 λo e=>k i2 (by simp) o e⟩
 item:=by
  intro X hP hw hK hc i ag s σ H E I hf st hg;subst hP hw hK;obtain⟨xs,ys,x,y,d1,d2,hx,hy⟩:=hg;obtain⟨l1,r1,c1⟩:=x3 I d1;obtain⟨l2,r2,c2⟩:=x3 I d2;obtain⟨u1,e1,G3⟩:=r1.get hx;obtain⟨u2,e2,GV⟩:=r2.get hy;have D:ZApart z TI TO i1 i2 a1 a2:=⟨nd,λq=>ba I d1 (hf _ q) rfl,λq=>ba I d2 (hf _ q) rfl⟩;refine VM (wc t1 i1 a1) (wc t2 i2 a2) D st c1 c2 e1 e2 λh' AH ht kp=>⟨_,rfl,?_⟩
  obtain⟨hz,EG,⟨a,b',ES⟩,p1,p2⟩:=AH;have n:=nd;erw[jJ,zj,zx,kE,yx] at n;obtain⟨⟨n1,n2,n3,n4⟩,_⟩:=n;refine wpAny_letOwnedTupleGo_zip hz λh2 OY sb=>?_
  have IP:z<s.heap.objs.size:=by obtain⟨q,_⟩:=st;exact zM q
  have MY:h2.get? s.heap.objs.size=À { cls:=.type "tuple",data:=.seq #[u1,u2] }:=sb.extBut _ _ (vX IP) ht;have I2:Inv X ag σ (upd H s.heap.objs.size (.tup [x,y])) { s with heap:=h2 }:=eX (t':=s.toks) (fp:=[z,TI,TO,i1,i2]) I (λb o hb e=>sb.extBut _ _ (λq=>hb (by simp[q])) (kp b o hb e)) hf (zG _)
   ⟨by show 2<=sizeLine;decide,[u1,u2],.cons G3 (.cons GV .nil),⟨_,MY,rfl,_,rfl⟩,⟨_,MY,rfl⟩⟩
  refine⟨.ref s.heap.objs.size,_,I2,rfl,⟨_,x,y,I.hok.fresh (zG _),rfl,rfl,λOZ q=>by rw[mS I q d1];exact hx,λRL q=>by rw[mS I q d2];exact hy⟩,?_,λb hb=>?_⟩
  .exact⟨OY,sb.extBut _ _ (jq n1) EG,⟨a,b',sb.extBut _ _ (jq n2) ES⟩,(wc t1 i1 a1).keep p1 λo e=>sb.extBut _ _ (jq n3) e,(wc t2 i2 a2).keep p2 λo e=>sb.extBut _ _ (jq n4) e⟩
  .obtain⟨o,ho,_⟩:∃o,s.heap.get? b=À o/\True:=by
    obtain⟨O0,LK,⟨a0,b0,LL⟩,Ei,O1⟩:=st;erw[zj,zx,kE] at hb;rcases hb with rfl | rfl | rfl | rfl | rfl
    .exact⟨_,O0,trivial⟩
    .exact⟨_,LK,trivial⟩
    .exact⟨_,LL,trivial⟩
    .obtain⟨o,q,_⟩:=(wc t1 _ a1).obj Ei;exact⟨o,q,trivial⟩
    .obtain⟨o,q,_⟩:=(wc t2 _ a2).obj O1;exact⟨o,q,trivial⟩
   rw[kF (zU (zM ho))];exact(hf b hb).1
 done:=by
  intro X hP hw hK hc i ag s σ H E I hf st hg;subst hP hw hK;obtain⟨xs,ys,d1,d2,he⟩:=hg;obtain⟨l1,r1,c1⟩:=x3 I d1;obtain⟨l2,r2,c2⟩:=x3 I d2;have D:ZApart z TI TO i1 i2 a1 a2:=⟨nd,λq=>ba I d1 (hf _ q) rfl,λq=>ba I d2 (hf _ q) rfl⟩;refine W8 (wc t1 i1 a1) (wc t2 i2 a2) D (I.ok.hd hc) st c1 c2 ?_ λh' kp=>⟨rfl,lg (t':=s.toks) I kp hf⟩
  rcases he with he | he
  .exact .inl (j6 (by rw[<-r1.length];exact he))
  .exact .inr (j6 (by rw[<-r2.length];exact he))
 self:=λ_ _ _ _ _ st h=>wpAny_pyIter_zip st.1 h
noncomputable def eD(h:MH)(w:W):Option (List W):=match w with
 | .tup l=>À l
 | .fls l=>À l
 | _=>Á
noncomputable def Kq(ws:List W):M Src:=λh=>match ws with
 | [x,y]=>match eD h x,eD h y with
  | some l,À l'=>À (.items ((l.zip l').map λp=>.tup [p.1,p.2]),h)
  | _,_=>Á
 | _=>Á
noncomputable def eT(ms:List ME):MI:=λρ=>bnd (uu ms ρ) Kq
section
variable{X:Cx}{cl:Cl}{AD:List Î}{n:Nat}{AE p pos:ĝ}{e1 e2:Î}{ms:List ME}
def i7{K:Sb}{μ:List È}{H:Hp}{h:MH}(r:RW K μ H w v)(e:eD h w=À l):∃tp a vs,v=.ref a/\RWs K μ H l vs/\dN K tp H a vs/\(∀hG H2 h2,HR K cl μ H h->Ext μ H hG H2->HR K cl hG H2 h2->dN K tp H2 a vs):=by
 unfold eD at e;split at e
 .cases e
  obtain⟨a,vs,rfl,sa,ra⟩:=r.tup_of;exact⟨Ã,a,vs,rfl,ra,sa,λhG H2 h2 R E R2=>SqT.ext R E sa⟩
 .cases e
  cases r with | @fls a vs l sa ra=>
  exact⟨Â,a,vs,rfl,ra,sa.sq,λhG H2 h2 R E R2=>(SqF.ext E sa).sq⟩
 .cases e
def Dk(hm:X.mg "zip" = Á)(ha:SA X cl [e1,e2] ms)(hg:↥(Gl X "zip"))(r6:↥(Ê [e1,e2] X.env=(Â,eval e1 X.env)::Ê [e2] X.env))(Ad:↥((ß pos (Ê [e2] X.env)).any (·.1)=Â)) :
  SI X cl (.Tuple AD n AE) (.Call (.Name "zip" p) [e1,e2] [] pos) (eT ms):=by
 rintro ag s σ H R I ⟨μ,h,ρ,src,h',R0,er,e,k⟩;obtain⟨ws,h1,EE,e⟩:=kg e;have hv:Õ "zip" = À (.type "zip"):=by decide +kernel
 refine ql (cK I hg hm hv ?_ (by decide) (by decide));refine qm (kC (ha pos ag s σ H (λvs H1=>∃d3,Ext μ H d3 H1/\HR X.K cl d3 H1 h1/\RWs X.K d3 H1 ws vs) I ⟨μ,h,ρ,ws,h1,R0,er,EE,λd3 H1 vs E1 R1 rs=>⟨d3,E1,R1,rs⟩⟩) ?_) r6 Ad;rintro us s1 ⟨vs,H1,I1,r1,d3,E1,R1,rs⟩;unfold Kq at e;split at e
 .rename_i x y
  split at e
  .rename_i l l' q1 q2
   cases e;cases rs with | cons rx t=>cases t with | cons ry t=>cases t with | nil=>
   obtain⟨t1,a1,xs,rfl,Ic,d1,f1⟩:=i7 (cl:=cl) rx q1;obtain⟨t2,a2,ys,rfl,Hl,d2,f2⟩:=i7 (cl:=cl) ry q2;obtain⟨u1,u2,rfl,G3,GV⟩:=vals2 r1;cases G3;cases GV;obtain⟨l1,v1,c1⟩:=x3 I1 d1;obtain⟨l2,v2,c2⟩:=x3 I1 d2;refine VE (Js t1 a1 l1) (Js t2 a2 l2) c1 ((wc t2 0 a2).keepC c2 λo e=>zf _ e) (iN t1 a1) (iN t2 a2) λh2 b5 b3 b4 b1 b2 kp=>?_
   refine wpAny_pyIter_zip b5 ?_;have nd:[s1.heap.objs.size+4,s1.heap.objs.size+2,s1.heap.objs.size+3,s1.heap.objs.size,s1.heap.objs.size+1].Nodup:=by
    erw[jJ,zj,zx,kE,yx,qJ,uH,not_false_eq_true];omega
   refine⟨_,_,_,_,H1,rfl,I1.kept (t':=s1.toks) kp,WN t1 t2 _ _ _ _ _ a1 a2 nd,⟨b5,b3,⟨_,_,b4⟩,mR b1,mR b2⟩,λb hb=>?_,k d3 H1 _ E1 R1 ?_⟩
   .have G4:s1.heap.objs.size<=b:=by
     erw[zj,zx,kE] at hb;rcases hb with rfl | rfl | rfl | rfl | rfl<;>omega
    exact I1.fpOk G4 (I1.hok.fresh G4)
   .intro hG H2 h3 E2 R2 i
    have G5:=f1 hG H2 h3 R1 E2 R2;have LM:=f2 hG H2 h3 R1 E2 R2;have G6:=Ic.ext R1 E2;have LN:=Hl.ext R1 E2;refine⟨λw ew=>?_,λes=>?_⟩
    .have Ag:((l.zip l').map λp=>W.tup [p.1,p.2])[i]?=À w:=zX ew
     rw[kW] at Ag;cases ez:(l.zip l')[i]? with
     | none=>rw[ez] at Ag;cases Ag
     | some pr=>
      rw[ez] at Ag;cases Ag;obtain⟨ea,eb⟩:=wL.mp ez;obtain⟨vx,Ie,LO⟩:=G6.get ea;obtain⟨vy,MZ,O2⟩:=LN.get eb;refine⟨⟨xs,ys,vx,vy,G5,LM,Ie,MZ⟩,λv H3 yl=>?_⟩;obtain⟨pp,x',y',hp,rfl,rfl,w1,w2⟩:=yl;have z1:=w1 xs G5;have z2:=w2 ys LM;rw[Ie] at z1;rw[MZ] at z2;cases z1;cases z2;exact⟨.side hp,R2.side hp,.tup (SqT.of qq) (.cons (LO.ext R2 (.side hp)) (.cons (O2.ext R2 (.side hp)) .nil))⟩
    .have es':((l.zip l').map λp=>W.tup [p.1,p.2])[i]?=Á:=zX es
     have hl:=j5.mp es';rw[zF,vN] at hl;refine⟨xs,ys,G5,LM,?_⟩;rw[<-Ic.length,<-Hl.length];omega
  .cases e
 .cases e
end
noncomputable def gO:List W->Option (List Bool)
 | []=>À []
 | .bl b::r=>match gO r with
  | some l=>À (b::l)
  | none=>Á
 | _=>Á
noncomputable def intsOf:List W->Option (List Int)
 | []=>À []
 | .int b::r=>match intsOf r with
  | some l=>À (b::l)
  | none=>Á
 | _=>Á
noncomputable def oM(f:List Bool->Bool)(ws:List W):M W:=λh=>match ws with
 | [w]=>match qV h w with
  | some l=>match gO l with
   | some bs=>À (.bl (f bs),h)
   | none=>Á
  | none=>Á
 | _=>Á
noncomputable def tv:List W->M W:=oM λl=>l.any id
noncomputable def bv:List Int->Int
 | []=>0
 | i::r=>i+bv r
noncomputable def gE(ws:List W):M W:=λh=>match ws with
 | [w]=>match qV h w with
  | some l=>match intsOf l with
   | some bs=>À (.int (bv bs),h)
   | none=>Á
  | none=>Á
 | _=>Á
section
variable{K:Sb}{μ:List È}{H:Hp}
def WQ{bs:List Bool}(e:gO l=À bs)(r:RWs K μ H l vs)(q:Vals vs us):us=bs.map Œ:=by
 induction l generalizing vs us bs with
 | nil=>cases r;cases q;cases e;rfl
 | cons w l ih=>
  cases r with | cons rb rr=>cases q with | cons tb tr=>cases rb with
  | bl b=>
   unfold gO at e;split at e
   .rename_i l e'
    cases e;cases tb;rw[ih e' rr tr];rfl
   .cases e
  | _=>cases e
def J9{us:List Ä}{bs:List Int}(e:intsOf l=À bs)(r:RWs K μ H l vs)(q:Vals vs us):us.length=bs.length/\∀i u,us[i]?=À u->∃t,u=Ġ (bs.getD i 0) t:=by
 induction l generalizing vs us bs with
 | nil=>cases r;cases q;cases e;exact⟨rfl,λi u e=>by simp at e⟩
 | cons w l ih=>
  cases r with | cons rb rr=>cases q with | cons tb tr=>cases rb with
  | int b=>
   unfold intsOf at e;split at e
   .rename_i l e'
    cases e;obtain⟨t,rfl⟩:=tb;obtain⟨h1,h2⟩:=ih e' rr tr;refine⟨jt (· + 1) h1,λi u e=>?_⟩;cases i with
    | zero=>cases e;exact⟨t,rfl⟩
    | succ i=>exact h2 i u e
   .cases e
  | _=>cases e
end
def tW(a b:List Int):bv (a++b)=bv a+bv b:=by
 induction a with
 | nil=>simp[bv]
 | cons x r ih=>erw[jr,bv,ih];omega
theorem preSum_eq(bs:List Int):∀n,n<=bs.length->preSum (λi=>bs.getD i 0) n=bv (bs.take n)
 | 0,_=>by simp[preSum,bv]
 | n+1,h=>by
  have ih:=preSum_eq bs n ∅;have:preSum (λi=>bs.getD i 0) (n+1)=preSum (λi=>bs.getD i 0) n+bs.getD n 0:=rfl;rw[this,ih,List.take_succ,tW];simp[zP (show n<bs.length by omega),bv]
section
variable{X:Cx}{cl:Cl}
def rO{s:Å}{H:Hp}{A:Ö}{R:Ä->Å->Prop}(I:Inv X ag σ H s)(sq:SqL X.K H a vs\/SqT X.K H a vs)(hh:A.handled=Á)
  (k:∀(us:List Ä) (it:È) (fp wr:List È) (St:Nat->Ò->Prop) (h1:Ò),Vals vs us->Walks X.prog X.w A it fp wr us.length (λi v=>us[i]?=À v) St->St 0 h1->(∀b∈fp,b<h1.objs.size)->
   (∀b∈wr,s.heap.objs.size<=b)->(∀b o,s.heap.get? b=À o->h1.get? b=À o)->R (.ref it) { s with heap:=h1 }) :
  É (Ë X.prog X.w) A (ı (.ref a)) R E s:=by
 rcases sq with sq | sq
 .obtain⟨its,rv,p,hz⟩:=I.list sq
  refine vC p.isList ?_;have lx:a<s.heap.objs.size:=by obtain⟨o,ho,_⟩:=p.isList;exact zM ho
  have W0:=ur (prog:=X.prog) (w:=X.w) hh s.heap.objs.size a (zU lx) its.toArray;have W1:Walks X.prog X.w A s.heap.objs.size [s.heap.objs.size,a] [s.heap.objs.size] its.length (λi v=>its[i]?=À v) (λi h=>h.IsListIter s.heap.objs.size a i/\h.IsList a its.toArray):=by simpa using W0
  refine k its _ _ _ _ _ rv W1 ⟨⟨_,zK _ rfl,rfl,rfl⟩,p.isList.at λo e=>zf _ e⟩ (λb hb=>?_) (λb hb=>?_) λb o e=>zf _ e
  .erw[zj,zx,kE] at hb
   erw[jQ];rcases hb with rfl | rfl
   .exact jV _
   .exact jF lx
  .erw[zj,zx,kE] at hb
   rw[hb];exact zG _
 .obtain⟨its,rv,p,hz⟩:=I.tuple sq
  refine yj (show s.heap.IsTuple a its.toArray from p) ?_;have lx:a<s.heap.objs.size:=by obtain⟨o,ho,_⟩:=id p;exact zM ho
  have p':s.heap.IsTuple a its.toArray:=p;have W0:=Walks.tuple (prog:=X.prog) (w:=X.w) hh s.heap.objs.size a (zU lx) its.toArray;have W1:Walks X.prog X.w A s.heap.objs.size [s.heap.objs.size,a] [s.heap.objs.size] its.length (λi v=>its[i]?=À v) (λi h=>h.IsTupleIter s.heap.objs.size a i/\h.IsTuple a its.toArray):=by simpa using W0
  refine k its _ _ _ _ _ rv W1 ⟨⟨_,zK _ rfl,rfl,rfl⟩,p'.at λo e=>zf _ e⟩ (λb hb=>?_) (λb hb=>?_) λb o e=>zf _ e
  .erw[zj,zx,kE] at hb
   erw[jQ];rcases hb with rfl | rfl
   .exact jV _
   .exact jF lx
  .erw[zj,zx,kE] at hb
   rw[hb];exact zG _
def lY{ag:List (È×ö)}{s:Å}{σ:L2.St}{H:Hp}{h1 h2:Ò}{tk:Nat}{wr:List È}(I:Inv X ag σ H s)(k1:∀b o,s.heap.get? b=À o->h1.get? b=À o)(hw:∀b∈wr,s.heap.objs.size<=b)(k2:∀b o,b∉wr->h1.get? b=À o->h2.get? b=À o) :
  Inv X ag σ H { s with heap:=h2,toks:=tk }:=
 I.kept (t':=tk) λb o e=>k2 b o (λz=>absurd (zM e) (uB.mpr (hw b z))) (k1 b o e)
def KR{f:List Bool->Bool}{id:String}(Ed:∀{A:Ö} {E:Ä->Å->Prop} {s:Å} {x:Ä} {Q:Ä->Å->Prop},A.handled=Á->É (Ë X.prog X.w) A.in1 (ı x) (λit Ac=>∃I fp wr n P St tr,it=.ref I/\Walks X.prog X.w A.in1 I fp wr n P St/\St 0 Ac.heap/\TruthOf X.prog X.w A.in1 P tr /\
   ∀h' tk,(∀b o,b∉wr->Ac.heap.get? b=À o->h'.get? b=À o)->Q (.bool (f ((Ô n).map tr))) { Ac with heap:=h',toks:=tk }) E s->É (Ë X.prog X.w) A (call (.builtin id) [x]) Q E s) (hc:X.calm=Ã):va X (.builtin id) (rMs X.K cl (oM f)):=by
 rintro ag s σ H xs us Q I rs ⟨μ,h,ws,w,h',R,ax,e,k⟩;unfold oM at e;split at e
 .split at e
  .rename_i l el
   split at e
   .rename_i bs eb
    cases e;cases ax with | cons r t=>cases t with | nil=>
    obtain⟨a,vs,rfl,sa,ra⟩:=bi R r el;obtain⟨u,rfl,ru⟩:=rs.one;cases ru;have hh:=I.ok.hd hc;refine Ed hh (rO (A:=X.A.in1) I sa hh λus it fp wr St h1 rv W r6 M0 LP k1=>?_);have hu:=WQ eb ra rv;subst hu;refine⟨it,fp,wr,_,_,St,λi=>bs.getD i Â,rfl,W,r6,?_,λh2 tk k2=>?_⟩
    .intro i v s Q E hP hQ
     rw[kW] at hP;cases eb:bs[i]? with
     | none=>rw[eb] at hP;cases hP
     | some b=>
      rw[eb] at hP;cases hP;have:bs.getD i Â=b:=by simp[ă,eb]
      have M3:Q (bs.getD i Â) s:=hQ;rw[this] at M3;exact vB M3
    .have e2:(Ô (bs.map Œ).length).map (λi=>bs.getD i Â)=bs:=by
      apply yp
      .simp
      .intro i h1 h2;simp at h1;simp[h1]
     rw[e2];exact⟨.bl _,H,(show Inv X ag σ H { s with heap:=h2,toks:=tk } from lY I k1 LP k2),rfl,k.pure R (.bl _)⟩
   .cases e
  .cases e
 .cases e
def JX(hc:X.calm=Ã):va X (.builtin "any") (rMs X.K cl tv):=by
 refine KR (λ{A E s x Q} hh h=>call_any_walk (j8 h (λit Ac GZ=>?_) λ_ _ e=>e)) hc;obtain⟨I,fp,wr,n,P,St,tr,rfl,W,r6,O3,hQ⟩:=GZ;refine⟨I,fp,wr,n,P,St,tr,rfl,W,r6,O3,λh' tk hk=>?_⟩;have:=hQ h' tk hk;rw[xP] at this;exact this
def Vo(hc:X.calm=Ã):va X (.builtin "sum") (rMs X.K cl gE):=by
 rintro ag s σ H xs us Q I rs ⟨μ,h,ws,w,h',R,ax,e,k⟩;unfold gE at e;split at e
 .split at e
  .rename_i l el
   split at e
   .rename_i bs eb
    cases e;cases ax with | cons r t=>cases t with | nil=>
    obtain⟨a,vs,rfl,sa,ra⟩:=bi R r el;obtain⟨u,rfl,ru⟩:=rs.one;cases ru;have hh:=I.ok.hd hc;refine call_sum_walkG (rO (A:=X.A.in1) I sa hh λus it fp wr St h1 rv W r6 M0 LP k1=>?_);obtain⟨hl,hv⟩:=J9 eb ra rv;refine⟨it,fp,wr,_,_,St,λi=>bs.getD i 0,rfl,W,r6,M0,hv,λh2 tk t' k2=>?_⟩;rw[hl,preSum_eq bs _ (zG _),List.take_length];exact⟨.int _,H,(show Inv X ag σ H { s with heap:=h2,toks:=tk } from lY I k1 LP k2),⟨t',rfl⟩,k.pure R (.int _)⟩
   .cases e
  .cases e
 .cases e
def boot_any:Õ "any" = À (.builtin "any"):=by decide +kernel
def boot_sum:Õ "sum" = À (.builtin "sum"):=by decide +kernel
def ZZ:Õ "int" = À (.type Ty.int.name):=by decide +kernel
def Ue:Õ "str" = À (.type Ty.str.name):=by decide +kernel
def Wz:Õ "bool" = À (.type Ty.bool.name):=by decide +kernel
def nu:Õ "tuple" = À (.type Ty.tuple.name):=by decide +kernel
def sJ:Õ "list" = À (.type Ty.list.name):=by decide +kernel
def sr:Õ "dict" = À (.type Ty.dict.name):=by decide +kernel
end
noncomputable abbrev gH:W->W->M W:=wf λi j=>decide (i<j)
noncomputable abbrev GE:W->W->M W:=wf λi j=>decide (i<=j)
noncomputable abbrev ni:W->W->M W:=wf λi j=>decide (j<i)
structure Glob(K:Sb)(mg:Æ->Option Ä)(x:Æ)(w:W):Prop where
 ex:∃(v:V) (u:Ä),mg x=À u/\RelV v u/\∀μ H,RW K μ H w v
def Glob.se{X:Cx}{cl:Cl}(G:Glob X.K X.mg x w)(hg:↥(Gl X x))(hd:⇑((x==("__debug__":Æ))=Â)):SE X cl (.Name x pos) (eC w):=by
 obtain⟨v,u,hm,r,rw⟩:=G.ex;exact Uy hm r rw hg hd
mutual
inductive KW(K:Sb):W->Ä->Prop
 | int {i:Int} {t:Tok}:KW K (.int i) (.int i t)
 | str {i:Æ} {t:Tok}:KW K (.str i) (.str i t)
 | fn {a:È}:KW K (.fn a) (.ref a)
 | tup {a:È} {l:List W} {o:ö} {its:Array Ä} {n:Nat}:K.lookup a=À o->(o.cls=.type "tuple" /\ o.dict=Á)->o.data=.seq its n->its.size<=sizeLine->KWs K l its.toList->KW K (.tup l) (.ref a)
inductive KWs(K:Sb):List W->List Ä->Prop
 | nil:KWs K [] []
 | cons {w:W} {v:Ä} {l:List W} {vs:List Ä}:KW K w v->KWs K l vs->KWs K (w::l) (v::vs)
end
def KWs.rw{K:Sb}{l:List W}(r:KWs K l us):∃vs,Vals vs us/\∀μ H,RWs K μ H l vs:=
 KWs.rec (motive_1:=λw u _=>∃v,RelV v u/\∀μ H,RW K μ H w v) (motive_2:=λl us _=>∃vs,Vals vs us/\∀μ H,RWs K μ H l vs) (λ{i t}=>⟨.int i,⟨t,rfl⟩,λ_ _=>.int _⟩) (λ{i t}=>⟨.str i,⟨t,rfl⟩,λ_ _=>.str _⟩) (λ{a}=>⟨.ref a,rfl,λ_ _=>.fn⟩)
  (λ{a _ _ _ _} e c d z _ q=>q.elim λ_ q=>⟨.ref a,rfl,λμ H=>.tup (.inr ⟨_,_,_,e,c,d,z,q.1⟩) (q.2 μ H)⟩) ⟨[],.nil,λ_ _=>.nil⟩ (λ_ _ p q=>p.elim λv p=>q.elim λvs q=>⟨v::vs,.cons p.1 q.1,λμ H=>.cons (p.2 μ H) (q.2 μ H)⟩) r
theorem KW.rw{K:Sb}{w:W}(r:KW K w u):∃v,RelV v u/\∀μ H,RW K μ H w v:=by
 obtain⟨vs,a,b⟩:=KWs.rw (.cons r .nil);cases a with
 | @cons v _ _ _ a _=>exact⟨v,a,λμ H=>by cases b μ H with | cons q _=>exact q⟩
def KW.glob{K:Sb}{mg:Æ->Option Ä}{x:Æ}(hm:mg x=À u)(k:KW K w u):Glob K mg x w:=by
 obtain⟨v,r1,r2⟩:=k.rw;exact⟨v,u,hm,r1,r2⟩
inductive TabRel(K:Sb):List (Æ×W)->List ā->Prop
 | nil:TabRel K [] []
 | cons {k:Æ} {t:Tok} {w:W} {hs:Int} {v:Ä} {l:List (Æ×W)} {es:List ā} {e:ā}:e.key=.str k t->KW K w e.val->TabRel K l es->TabRel K ((k,w)::l) (e::es)
structure TabOk(K:Sb)(P:Params)(mg:Æ->Option Ä)(x:Æ)(l:List (Æ×W)):Prop where
 ex:∃(a:È) (es:Array ā) (n:Nat),mg x=À (.ref a)/\K.lookup a=À ⟨.type "dict",Á,.dict es n,#[]⟩/\ś P es.toList/\(a==ã)=Â/\TabRel K l es.toList
theorem TabRel.find{K:Sb}:∀{l:List (Æ×W)} {es:List ā},TabRel K l es->match l.lookup k with
  | some w=>∃v,(es.find? λe=>Ā k e.key).map (·.val)=À v/\KW K w v
  | none=>(es.find? λe=>Ā k e.key).map (·.val)=Á
 | _,_,.nil=>rfl
 | _,_,.cons (k:=k') (l:=l) (es:=es) (e:=e) hk r t=>by
  have ih:=TabRel.find (k:=k) t;rw[qd];by_cases q:k=k'
  .subst q
   have e1:(k==k)=Ã:=by simp
   have e2:Ā k e.key=Ã:=by rw[hk];simp[Ā]
   erw[e1,jK,e2];exact⟨_,rfl,r⟩
  .have e1:(k==k')=Â:=by simpa using q
   have e2:Ā k e.key=Â:=by rw[hk];simp[Ā];exactλz=>q z.symm
   erw[e1,jK,e2];exact ih
noncomputable def fb(l:List (Æ×W))(w:W):M W:=λh=>match w with
 | .str k=>match l.lookup k with
  | some v=>À (v,h)
  | none=>Á
 | _=>Á
section
variable{X:Cx}{cl:Cl}{a:Î}{ma:ME}{x:Æ}{l:List (Æ×W)}{p pos:ĝ}
def TabOk.at{s:Å}{H:Hp}{es:Array ā}(I:Inv X ag σ H s)(hl:X.K.lookup d=À ⟨.type "dict",Á,.dict es n,#[]⟩)(hk:ś X.w.params es.toList) :
  s.heap.MapOf (strKind X.prog X.w) d (λk=>findBy Ā es k):=PySem.W.mapOf_K I.kIn hl hk
def J8(hu:X.A.units+64<ď)(T:TabOk X.K X.w.params X.mg x l)(ha:SE X cl a ma)(hs:fg a:=by exactλ_ _=>rfl)(hg:↥(Gl X x))(hd:⇑((x==("__debug__":Æ))=Â)):SE X cl (.Subscript (.Name x p) a pos) (vw (fb l) ma):=by
 obtain⟨d,es,n,e1,e2,e3,e4,e5⟩:=T.ex;have A8:Ka X (λx y H Q=>∃k w,x=.ref d/\y=.str k/\l.lookup k=À w/\∀v,(∀μ H,RW X.K μ H w v)->Q v H):=by
  rintro value slice ag s σ H x y v u Q I rx ry ⟨k,w,rfl,rfl,el,q⟩ hs;cases rx;obtain⟨t,rfl⟩:=ry;have hm:=TabOk.at I e2 e3;have:=e5.find (k:=k);rw[el] at this;obtain⟨v0,ev,kw⟩:=this;obtain⟨v1,r1,r2⟩:=kw.rw;refine tail_any hm.typeIs slot_dict_getitem.lookup (wpAny_getItem_of (v:=v0) (strKind_is X.prog X.w k t) hm ?_ ⟨v1,H,I.tok _,r1,q v1 r2⟩) hs;unfold findBy;rw[<-pP];exact ev
 refine PE.wk (YK A8 (ZT hg e1 (show RelV (.ref d) (.ref d) from rfl) hd) ha hs) ?_;rintro σ H Q ⟨μ,h,ρ,w,h',R,er,e,k⟩;obtain⟨y,h1,f1,e⟩:=kg e;refine⟨μ,h,ρ,y,h1,R,er,f1,λd3 H1 vx E1 R1 rx=>?_⟩;unfold fb at e;split at e
 .split at e
  .rename_i k' w' el
   cases e;exact⟨_,_,rfl,rx.str_of,el,λv hv=>k d3 H1 _ E1 R1 (hv d3 H1)⟩
  .cases e
 .cases e
end
noncomputable def keyOf:W->Option Key
 | .int i=>À (.inl i)
 | .str x=>À (.inr x)
 | _=>Á
noncomputable def eI(l:List (Key×W))(k:Key):Option W:=(l.find? λkv=>decide (kv.1=k)).map (·.2)
noncomputable def iL(l:List (Key×W))(k:Key)(v:W):List (Key×W):=
 if (l.any λkv=>decide (kv.1=k))=Ã then l.map (λkv=>if kv.1=k then (kv.1,v) else kv) else l++[(k,v)]
noncomputable def x9(l more:List (Key×W)):List (Key×W):=more.foldl (λacc kv=>iL acc kv.1 kv.2) l
noncomputable def fO(h:MH):W->Option (List (Key×W))
 | .fdc l=>À l
 | .ref n=>match h[n]? with
  | some (.dic l)=>À l
  | _=>Á
 | _=>Á
inductive PR(K:Sb)(μ:List È)(H:Hp):List (Key×W)->List (Key×V)->Prop
 | nil:PR K μ H [] []
 | cons {k:Key} {w:W} {v:V} {l:List (Key×W)} {l':List (Key×V)}:RW K μ H w v->PR K μ H l l'->PR K μ H ((k,w)::l) ((k,v)::l')
section
variable{K:Sb}{cl:Cl}{μ d5:List È}{H H':Hp}{h:MH}
theorem RKs.pr:∀{l:List (Key×W)} {l':List (Key×V)},RKs K μ H l l'->PR K μ H l l'
 | [],[],_=>.nil
 | [],_::_,⟨k,_⟩=>by simp at k
 | _::_,[],⟨k,_⟩=>by simp at k
 | (k1,w)::l,(k2,v)::l',⟨k,r⟩=>by
  erw[zu,yG] at k;obtain⟨rfl,k⟩:=k;erw[zu] at r;cases r with | cons r t=>exact .cons r (RKs.pr ⟨k,t⟩)
theorem PR.rk:∀{l:List (Key×W)} {l':List (Key×V)},PR K μ H l l'->RKs K μ H l l'
 | _,_,.nil=>⟨rfl,.nil⟩
 | _,_,.cons r t=>⟨by simp[t.rk.1],.cons r t.rk.2⟩
theorem PR.len:∀{l:List (Key×W)} {l':List (Key×V)},PR K μ H l l'->l.length=l'.length
 | _,_,.nil=>rfl
 | _,_,.cons _ t=>jt (· + 1) t.len
theorem PR.val:∀{l:List (Key×W)} {l':List (Key×V)},PR K μ H l l'->match eI l k with
  | some w=>∃v,xt l' k=À v/\RW K μ H w v
  | none=>xt l' k=Á
 | _,_,.nil=>rfl
 | _,_,.cons (k:=k') (l:=l) (l':=l') (w:=w) (v:=v) r t=>by
  have ih:=PR.val (k:=k) t;by_cases q:k'=k
  .have e1:eI ((k',w)::l) k=À w:=by simp[eI,jK,q]
   rw[e1];exact⟨v,by simp[xt,jK,q],r⟩
  .have e1:eI ((k',w)::l) k=eI l k:=by simp[eI,jK,q]
   have e2:xt ((k',v)::l') k=xt l' k:=by simp[xt,jK,q]
   rw[e1,e2];exact ih
theorem PR.any:∀{l:List (Key×W)} {l':List (Key×V)},PR K μ H l l'->(l.any λkv=>decide (kv.1=k))=(l'.any λkv=>decide (kv.1=k))
 | _,_,.nil=>rfl
 | _,_,.cons _ t=>by erw[vO];rw[t.any]
theorem PR.map(r:RW K μ H w v):∀{l:List (Key×W)} {l':List (Key×V)},PR K μ H l l'->PR K μ H (l.map λkv=>if kv.1=k then (kv.1,w) else kv) (l'.map λkv=>if kv.1=k then (kv.1,v) else kv)
 | _,_,.nil=>.nil
 | _,_,.cons (k:=k') q t=>by
  erw[zu];by_cases z:k'=k
  .erw[z,kY];exact .cons r (t.map r)
  .erw[z,jn];exact .cons q (t.map r)
theorem PR.app:∀{l m:List (Key×W)} {l' m':List (Key×V)},PR K μ H l l'->PR K μ H m m'->PR K μ H (l++m) (l'++m')
 | _,_,_,_,.nil,s=>s
 | _,_,_,_,.cons r t,s=>.cons r (t.app s)
def PR.put(p:PR K μ H l l')(r:RW K μ H w v):PR K μ H (iL l k w) (putK l' k v):=by
 unfold iL putK;rw[<-p.any (k:=k)];split
 .exact p.map r
 .exact p.app (.cons r .nil)
def PR.merge{more:List (Key×W)}(q:PR K μ H more more')(p:PR K μ H l l'):PR K μ H (x9 l more) (dX l' more'):=by
 induction q generalizing l l' with
 | nil=>exact p
 | cons r t ih=>exact ih (p.put r)
theorem PR.ext(R:HR K cl μ H h)(E:Ext μ H d5 H'):∀{l:List (Key×W)} {l':List (Key×V)},PR K μ H l l'->PR K d5 H' l l'
 | _,_,.nil=>.nil
 | _,_,.cons r t=>.cons (r.ext R E) (t.ext R E)
def i5(R:HR K cl μ H h)(r:RW K μ H w v)(e:fO h w=À l):∃a l',v=.ref a/\Rd H a (.dK l')/\PR K μ H l l':=by
 cases r with
 | @fdc a l0 l' ws vs s kk e1 e2 rs=>cases e;subst e1;subst e2;exact⟨a,l',rfl,s.1,RKs.pr ⟨kk,rs⟩⟩
 | @ref n a hn=>
  erw[fO] at e;split at e
  .rename_i l' ho
   cases e;obtain⟨l2,hv,rs⟩:=R.ob n a _ hn ho;exact⟨a,l2,rfl,.inl hv,RKs.pr rs⟩
  .cases e
 | _=>cases e
theorem gd(r:RW K μ H w v)(e:keyOf w=À k):v=kV k:=by
 cases r<;>cases e<;>rfl
theorem KQ.fdc{l:List (Key×W)}{l':List (Key×V)}{Q:VK}{p:È}(k:KQ K cl μ H h (.fdc l) Q)(R:HR K cl μ H h)(pr:PR K μ H l l')(hp:H p=Á):Q (.ref p) (upd H p (.dK l')):=
 k μ _ _ (.side hp) (R.side hp) (.fdc ⟨.inl qq,R.fresh hp⟩ (pr.rk.1) rfl rfl ((pr.ext R (.side hp)).rk.2))
end
noncomputable def mB(md mk mv:ME):ME:=λρ=>bnd (md ρ) λx h=>if (fO h x).isSome=Ã then bnd (mk ρ) (λy=>bnd (mv ρ) λz h=>match fO h x,keyOf y with
  | some l,À k=>À ((eI l k).getD z,h)
  | _,_=>Á) h else Á
section
variable{X:Cx}{cl:Cl}{o a b:Î}{mo ma mb:ME}{apos cpos pos:ĝ}
def Wd(hu:X.A.units+64<ď)(ho:SE X cl o mo)(ha:SE X cl a ma)(hb:SE X cl b mb)(m:M2 X o "get" apos a b cpos:=by exact⟨rfl,rfl,rfl,rfl⟩):SE X cl (.Call (.Attribute o "get" apos) [a,b] [] cpos) (mB mo ma mb):=
 PE.wk (WG ∅ ho ha hb m) λσ H Q q0=>by
  obtain⟨μ,h,ρ,w,h',R,er,e,k⟩:=q0;obtain⟨x,h1,e1,e⟩:=kg e;split at e
  .rename_i hd
   obtain⟨y,h2,e2,e⟩:=kg e;obtain⟨z,h3,e3,e⟩:=kg e;refine⟨μ,h,ρ,x,h1,R,er,e1,λd3 H1 vx E1 R1 rx=>?_⟩;obtain⟨l0,hd⟩:=vJ.mp hd;obtain⟨d,l',rfl,rd,_⟩:=i5 R1 rx hd;refine⟨d,rfl,.inl ⟨l',rd⟩,d3,h1,ρ,y,h2,R1,er.ext R E1,e2,λhG H2 vy E2 R2 ry=>⟨hG,h2,ρ,z,h3,R2,(er.ext R E1).ext R1 E2,e3,λA1 H3 vz E3 R3 rz=>?_⟩⟩;split at e
   .rename_i l k' el ek
    cases e;obtain⟨d2,l2,ed,O4,pr⟩:=i5 R3 ((rx.ext R1 E2).ext R2 E3) el;cases ed;have hk:=gd ry ek;subst hk;refine⟨xt l2 k',.inl ⟨l2,k',O4,rfl,rfl⟩,?_⟩;have E:=E1.trans (E2.trans E3);have:=pr.val (k:=k');cases ev:eI l k' with
    | none=>rw[ev] at this k;rw[this];exact k A1 H3 _ E R3 rz
    | some w0=>rw[ev] at this k;obtain⟨v0,e0,r0⟩:=this;rw[e0];exact k A1 H3 _ E R3 r0
   .cases e
  .cases e
def XU:SE X cl (.Dict [] [] pos) (eC (.fdc [])):=
 PE.wk Wb λσ H Q q0=>by
  obtain⟨μ,h,ρ,w,h',R,er,e,k⟩:=q0;cases e;exactλp hp=>k.fdc R .nil hp
end
def WE{A:Ö}(S:Stp it a P C)(hh:A.handled=Á)(Am:a≠it)(l:List Ä) :
  Draws prog w A it [it,a] l.length (λi v=>l[i]?=À v) (λi h=>P i h/\C h l) where
 live:=λ_ _ st=>let ⟨o,ho,_⟩:=S.obj st.1;⟨o,ho⟩
 frame:=λ_ _ _ st hk=>⟨S.keep st.1 λo e=>hk it (by simp) o e,S.keepC st.2 λo e=>hk a (by simp) o e⟩
 item:=λi s Q E hi st hQ=>S.item st.1 st.2 (x:=l[i]) (by simp[hi]) λh' LQ xI=>hQ _ h' s.toks (by simp[hi]) ⟨LQ,S.keepC st.2 λo e=>xI.extBut _ _ Am e⟩ xI
 done:=λs Q E st hE=>S.last hh st.1 st.2 (by simp) hE
section
variable{prog:Í}{w:Ñ}{A:Ö}{E:Ä->Å->Prop}{s:Å}
def QF(S:Stp it a P C){l:List Ä}(hh:A.handled=Á)
  (he:IsEnum s.heap e it j old) (p:P i s.heap) (c:C s.heap l) (hx:l[i]?=Á) (hQ:∀h',Ť it s.heap h'->Q Á { s with heap:=h' }):É (Ë prog w) A (đ (.ref e)) Q E s:=by
 have hT:s.TypeIs (.ref e) "enumerate":=⟨_,he,rfl⟩;unfold đ;refine zc (vD (jx (name:=ú "__next__") hT F.slot_enumerate_next (jo F.slot_enumerate_next hT F.entry_enumerate_next ?_ (F.args_enumerate_next_1 _))));show É _ _ (field (.ref e) 2 >>= _) _ _ _;refine zc (jY he rfl (x:=.ref it) rfl ?_)
 refine zc (S.last hh p c hx λh' x O5 LR=>?_);obtain⟨o,ho,hc⟩:=LR;refine zc (vQ (T:="StopIteration") (b:=Ã) ⟨o,ho,hc⟩ pF ?_);exact zg (hQ _ O5)
end
def VR(r:lL v o C) :
  Meets (ò.«enumerate.__new__» ⟨[.type "enumerate",v],[]⟩) (λ_ R s=>C s.heap/\R (.ok (.ret (.ref (s.heap.push o).objs.size))) { s with heap:=(s.heap.push o).push { cls:=.type "enumerate",data:=.fields #[.none,.bool Â,.ref s.heap.objs.size,rawInt 0,.none,.none] } }):=
 .of_wp λprog w A R s h=>by
  obtain⟨hp,g,d,tk,os⟩:=s;obtain⟨k1,h⟩:=h;have LJ:=sub_enumerate;have q1:∀{A:Ö} {E:Ä->Å->Prop} {Q:Ä->Å->Prop},Q (.ref hp.objs.size) ⟨hp.push o,g,d,tk,os⟩->É (Ë prog w) A (ı v) Q E ⟨hp,g,d,tk,os⟩:=λq=>r prog w _ _ _ _ k1 q
  wp_walk
  refine wpAny_stack_any λst=>zg ?_
  split
  .rename_i c _ _ _ _ _
   cases (c==ó "enumerate")<;>(wp_walk using q1;exact⟨_,rfl,h⟩)
  .wp_walk using q1
   exact⟨_,rfl,h⟩
section
variable{prog:Í}{w:Ñ}{A:Ö}{E:Ä->Å->Prop}{s:Å}
def Vt{o:ö}(r:lL v o C)(k1:C s.heap)(hf:o.isFreed=Â)
  (h:∀h',IsEnum h' (s.heap.objs.size+1) s.heap.objs.size 0 .none->h'.get? s.heap.objs.size=À o->(∀c o,s.heap.get? c=À o->h'.get? c=À o)->Q (.ref (s.heap.objs.size+1)) { s with heap:=h' }) :
  É (Ë prog w) A (call (.type "enumerate") [v]) Q E s:=by
 refine callType_new F.called_enumerate (by decide) (F.typeCall_enumerate_1 _) (F.newCall_enumerate_1 _) (λobj=>F.args_object_init_2 obj _) F.entry_enumerate_new (VR r) ⟨k1,?_⟩;have hz:(s.heap.push o).objs.size=s.heap.objs.size+1:=jQ ..;have b2:((s.heap.push o).push { cls:=.type "enumerate",data:=.fields #[.none,.bool Â,.ref s.heap.objs.size,rawInt 0,.none,.none] }).get? (s.heap.push o).objs.size=À _:=zK _ rfl;have b1:((s.heap.push o).push { cls:=.type "enumerate",data:=.fields #[.none,.bool Â,.ref s.heap.objs.size,rawInt 0,.none,.none] }).get? s.heap.objs.size=À _:=zf _ (zK _ hf);show _/\_
 rw[hz] at b2 ⊢;exact⟨⟨_,b2,rfl⟩,h _ b2 b1 λc o x=>zf _ (zf _ x)⟩
end
noncomputable def GB (K : Sb) (tp : Bool) (a : È) : It :=
  ⟨λi H => ∃ xs x, dN K tp H a xs /\ xs[i]? = À x,
   λi H v H' => ∃ p x, H p = Á /\ v = .ref p /\ H' = upd H p (.tup [.int i, x]) /\ (∀ xs, dN K tp H a xs -> xs[i]? = À x),
   λi H => ∃ xs, dN K tp H a xs /\ xs.length <= i⟩
def QT{P:Í}{w:Ñ}{K:Sb}(tp:Bool)(e it a:È)(Am:e≠it) :
  Turn P w K (.Tuple AD n AE) (GB K tp a) [e,it] e (λi h=>(∃old,IsEnum h e it i old)/\Vq tp it a i h) where
 mem:=by simp
 obj:=λi h st b hb=>by
  obtain⟨⟨old,he⟩,p⟩:=st;erw[zj,zx,kE] at hb;rcases hb with rfl | rfl
  .exact⟨_,he,λv q=>by cases q⟩
  .exact(wc tp _ a).obj p
 keep:=λi h h' st k=>by
  obtain⟨⟨old,he⟩,p⟩:=st;exact⟨⟨old,k e (by simp) _ he⟩,(wc tp it a).keep p λo q=>k it (by simp) o q⟩
 item:=by
  intro X hP hw hK hc i ag s σ H E I hf st hg;subst hP hw hK;obtain⟨xs,x,d,hx⟩:=hg;obtain⟨⟨old,he⟩,p⟩:=st;obtain⟨l,r,c⟩:=x3 I d;obtain⟨u,eu,ru⟩:=r.get hx;have ae:a≠e:=ba I d (hf e (by simp));have ai:a≠it:=ba I d (hf it (by simp));refine wpAny_pyNext_enum_itemD (WE (A:=X.A.in1) (wc tp it a) (I.ok.hd hc) ai l) he ⟨p,c⟩ (zJ.mp eu).1 Am (by simp[Am,jq ae]) λx' h' tk hP ho Ej hT hsz hk=>⟨_,rfl,?_⟩
  rw[eu] at hP;cases hP;refine wpAny_letOwnedTupleGo_enum ho λh2 IQ Eg=>?_
  have elt:e<s.heap.objs.size:=zM he;have M4:h2.get? s.heap.objs.size=À { cls:=.type "tuple",data:=.seq #[.int i tk,u] }:=Eg.extBut _ _ (vX elt) hT;have I2:Inv X ag σ (upd H s.heap.objs.size (.tup [.int i,x])) { s with heap:=h2,toks:=tk+1 }:=eX (t':=tk+1) (fp:=[e,it]) I (λb o hb q=>Eg.extBut _ _ (λz=>hb (by simp[z])) (hk b o (λz=>hb (by simp[z])) (λz=>hb (by simp[z])) q)) hf (zG _)
   ⟨by show 2<=sizeLine;decide,[.int i tk,u],.cons ⟨tk,rfl⟩ (.cons ru .nil),⟨_,M4,rfl,_,rfl⟩,⟨_,M4,rfl⟩⟩
  refine⟨.ref s.heap.objs.size,_,I2,rfl,⟨_,x,I.hok.fresh (zG _),rfl,rfl,λOZ q=>by rw[mS I q d];exact hx⟩,⟨⟨_,IQ⟩,(wc tp it a).keep Ej.1 λo q=>Eg.extBut _ _ (jq Am) q⟩,λb hb=>?_⟩;obtain⟨o,q⟩:∃o,s.heap.get? b=À o:=by
   erw[zj,zx,kE] at hb;rcases hb with rfl | rfl
   .exact⟨_,he⟩
   .obtain⟨o,q,_⟩:=(wc tp _ a).obj p;exact⟨o,q⟩
  rw[kF (zU (zM q))];exact(hf b hb).1
 done:=by
  intro X hP hw hK hc i ag s σ H E I hf st hg;subst hP hw hK;obtain⟨xs,d,hx⟩:=hg;obtain⟨⟨old,he⟩,p⟩:=st;obtain⟨l,r,c⟩:=x3 I d;exact QF (wc tp it a) (I.ok.hd hc) he p c (j6 (by rw[<-r.length];exact hx)) λh' LR=>⟨rfl,lg (t':=s.toks) (fp:=[e,it]) I (λb o hb q=>LR b o (λz=>hb (by simp[z])) q) hf⟩
 self:=λ_ _ _ _ _ st h=>by obtain⟨⟨old,he⟩,_⟩:=st;exact wpAny_pyIter_enum he h
noncomputable def numbered(l:List W):List W:=l.zipIdx.map λp=>.tup [.int (p.2:Nat),p.1]
noncomputable def KD(ws:List W):M Src:=λh=>match ws with
 | [x]=>match eD h x with
  | some l=>À (.items (numbered l),h)
  | none=>Á
 | _=>Á
noncomputable def u3(ms:List ME):MI:=λρ=>bnd (uu ms ρ) KD
def dM(l:List W)(i:Nat):(numbered l)[i]?=(l[i]?).map λw=>.tup [.int (i:Nat),w]:=by
 unfold numbered;rw[kW,List.getElem?_zipIdx];cases l[i]?<;>simp
section
variable{X:Cx}{cl:Cl}{AD:List Î}{n:Nat}{AE p pos:ĝ}{e1:Î}{ms:List ME}
def Xr(hm:X.mg "enumerate" = Á)(ha:SA X cl [e1] ms)(hg:↥(Gl X "enumerate"))(r6:↥(Ê [e1] X.env=(Â,eval e1 X.env)::Ê [] X.env))(Ad:↥((ß pos (Ê [] X.env)).any (·.1)=Â)) :
  SI X cl (.Tuple AD n AE) (.Call (.Name "enumerate" p) [e1] [] pos) (u3 ms):=by
 rintro ag s σ H R I ⟨μ,h,ρ,src,h',R0,er,e,k⟩;obtain⟨ws,h1,EE,e⟩:=kg e;have hv:Õ "enumerate" = À (.type "enumerate"):=by decide +kernel
 refine ql (cK I hg hm hv ?_ (by decide) (by decide));refine qm (kC (ha pos ag s σ H (λvs H1=>∃d3,Ext μ H d3 H1/\HR X.K cl d3 H1 h1/\RWs X.K d3 H1 ws vs) I ⟨μ,h,ρ,ws,h1,R0,er,EE,λd3 H1 vs E1 R1 rs=>⟨d3,E1,R1,rs⟩⟩) ?_) r6 Ad;rintro us s1 ⟨vs,H1,I1,r1,d3,E1,R1,rs⟩;unfold KD at e;split at e
 .rename_i x
  split at e
  .rename_i l q1
   cases e;cases rs with | cons rx t=>cases t with | nil=>
   obtain⟨t1,a1,xs,rfl,Ic,d1,f1⟩:=i7 (cl:=cl) rx q1;obtain⟨u1,rfl,G3⟩:=r1.one;cases G3;obtain⟨l1,v1,c1⟩:=x3 I1 d1;refine Vt (Js t1 a1 l1) c1 (iN t1 a1) λh2 b2 b1 kp=>?_
   refine wpAny_pyIter_enum b2 ?_;refine⟨_,_,_,_,H1,rfl,I1.kept (t':=s1.toks) kp,QT t1 _ _ a1 (xR _),⟨⟨_,b2⟩,mR b1⟩,λb hb=>?_,k d3 H1 _ E1 R1 ?_⟩
   .have G4:s1.heap.objs.size<=b:=by
     erw[zj,zx,kE] at hb;rcases hb with rfl | rfl<;>omega
    exact I1.fpOk G4 (I1.hok.fresh G4)
   .intro hG H2 h3 E2 R2 i
    have G5:=f1 hG H2 h3 R1 E2 R2;have G6:=Ic.ext R1 E2;refine⟨λw ew=>?_,λes=>?_⟩
    .have Ag:(numbered l)[i]?=À w:=zX ew
     rw[dM] at Ag;cases ez:l[i]? with
     | none=>rw[ez] at Ag;cases Ag
     | some w0=>
      rw[ez] at Ag;cases Ag;obtain⟨vx,Ie,LO⟩:=G6.get ez;refine⟨⟨xs,vx,G5,Ie⟩,λv H3 yl=>?_⟩;obtain⟨pp,x',hp,rfl,rfl,w1⟩:=yl;have z1:=w1 xs G5;rw[Ie] at z1;cases z1;exact⟨.side hp,R2.side hp,.tup (SqT.of qq) (.cons (.int _) (.cons (LO.ext R2 (.side hp)) .nil))⟩
    .have es':(numbered l)[i]?=Á:=zX es
     rw[dM] at es';refine⟨xs,G5,?_⟩;rw[<-Ic.length];cases ez:l[i]? with
     | none=>exact j5.mp ez
     | some w0=>rw[ez] at es';cases es'
  .cases e
 .cases e
end
end ML
section
namespace ML
open PySem PySem.Spec PyProof.Rows L2
end ML
namespace ML
open PySem PySem.Spec PyProof.Rows L2
noncomputable def strsOf:List W->Option (List Æ)
 | []=>À []
 | .str b::r=>match strsOf r with
  | some l=>À (b::l)
  | none=>Á
 | _=>Á
end ML
end
section
namespace ML
open PySem PySem.Spec PyProof.Rows L2
noncomputable def keysOf:List (W×W)->Option (List (Key×W))
 | []=>À []
 | (x,y)::r=>match keyOf x,keysOf r with
  | some k,À l=>À ((k,y)::l)
  | _,_=>Á
noncomputable def pairsOf:List W->Option (List (W×W))
 | []=>À []
 | .tup [x,y]::r=>match pairsOf r with
  | some l=>À ((x,y)::l)
  | none=>Á
 | _=>Á
noncomputable def gP(ws:List W):M W:=λh=>match ws with
 | [w]=>match fO h w with
  | some l=>À (.fdc l,h)
  | none=>match getL h w with
   | some l=>match pairsOf l with
    | some ps=>match keysOf ps with
     | some ks=>if ks.length<=1000 then À (.fdc (x9 [] ks),h) else Á
     | none=>Á
    | none=>Á
   | none=>Á
 | _=>Á
end ML
end
namespace ML
open PySem PySem.Spec PyProof.Rows L2
def Xj(h:T="list" \/ T="tuple" \/ T="zip"):ļ (.type T) "keys" = pure Á:=by
 rcases h with rfl | rfl | rfl<;>(rw[wQ,vm];kernel_rfl)
def UP(h:T="list" \/ T="tuple" \/ T="zip"):ļ (.type T) "__getattr__" = pure Á:=by
 rcases h with rfl | rfl | rfl<;>(rw[wQ,vm];kernel_rfl)
def i6:isSubtype (.type "AttributeError") (.type "AttributeError")=pure Ã:=by rw[yq];kernel_rfl
section
variable{prog:Í}{w:Ñ}{A:Ö}{E:Ä->Å->Prop}{s:Å}
theorem UK{name:Ä}(he:s.heap.get? e=À { cls:=.type "AttributeError",data:=.fields #[v0,v1,v2,v3,v4,v5,rawInt 0,rawInt 0] })
  (hq:∀h' ob,Ť e s.heap h'->h'.get? e=À ob->ob.cls=.type "AttributeError"->Q () { s with heap:=h' }):É (Ë prog w) A (noteAttr (.ref e) o name) Q E s:=by
 have hT:s.TypeIs (.ref e) "AttributeError":=⟨_,he,rfl⟩;unfold noteAttr;refine zc ?_;unfold lacksNameAndObj;refine zc (vQ hT i6 ?_);erw[yh,zN,jn];refine zc (xm he ?_);refine zg ?_;erw[kY];refine zc (qz (zc (qy hT ?_)));show É _ _ (layMembers e 6 #[name,o]) _ _ s
 unfold layMembers;refine zc (xm he ?_);refine wpAny_update he (hq _ _ (jR ..).extBut (jy _ he ?_) ?_)
 .rfl
 .rfl
def KL{α:Type}{o:Ä}{x msg:Æ}{Q:α->Å->Prop}(hh:A.handled=Á)(hm:msg.length<=sizeLine)
  (hq:∀h' An e,(∀b ob,s.heap.get? b=À ob->h'.get? b=À ob)->(∃ob,h'.get? e=À ob/\ob.cls=.type "AttributeError")->E (.ref e) { s with heap:=h',toks:=An }):É (Ë prog w) A (raiseAttrError o x msg:Sem α) Q E s:=by
 unfold raiseAttrError;refine zc (wpAny_mkStr (zc ?_) hm);unfold newExc newTuple;refine zc (jc ?_);refine zc (m:=Ĩ _ _) (wO (a:=Ó) (by first | rfl | kernel_rfl) ?_);refine jc ?_;refine zc (wpAny_mkText (zc ?_));refine UK (zK _ rfl) λh' ob hx ho hc=>?_
 unfold raiseNew;refine zc (ů ?_);rw[hh];first
  | refine xQ ?_
  | refine zc (zg (xQ ?_))
 refine hq _ _ _ (λb O6 hb=>hx b O6 ?_ (zf _ (zf _ hb))) ⟨ob,ho,hc⟩;refine zU (zO (zM hb) ?_);simp
end
section
variable{prog:Í}{w:Ñ}{A:Ö}{E:Ä->Å->Prop}{h:Ò}{g:Array ō}{d:Drawn}{t:Nat}{os:Ĵ}{a:È}{items:Array Ä}{n:Nat}{sl:Array (Option Ä)}{dd:Option È}
noncomputable def U4(h:Ò)(g:Array ō)(d:Drawn)(os:Ĵ)(E:Ä->Å->Prop):Prop:=∀h' An e,(∀b ob,h.get? b=À ob->h'.get? b=À ob)->(∃ob,h'.get? e=À ob/\ob.cls=.type "AttributeError")->E (.ref e) ⟨h',g,d,An,os⟩
set_option maxHeartbeats 1000000 in
def Vw(hh:A.handled=Á)(hx:h.get? a=À { cls:=.type "list",dict:=Á,data:=.seq items n,slots:=sl })(hq:U4 h g d os E) :
  É (Ë prog w) A (ò.«object.__getattribute__» ⟨[.ref a,.str "keys" tk],[]⟩) Q E ⟨h,g,d,t,os⟩:=by
 have hT:(⟨h,g,d,t,os⟩:Å).TypeIs (.ref a) "list":=⟨_,hx,rfl⟩;have f4:=Xj (T:="list") (.inl rfl);repeat (any_goals (first | assumption | wp_step))
 refine KL hh ⋯ λh' An e k1 k2=>hq h' An e k1 k2
def rN(hh:A.handled=Á)(hx:h.get? a=À { cls:=.type "list",dict:=Á,data:=.seq items n,slots:=sl })(hq:U4 h g d os E):É (Ë prog w) A (getAttrBy (.ref a) (.str "keys" tk) Â) Q E ⟨h,g,d,t,os⟩:=by
 have hT:(⟨h,g,d,t,os⟩:Å).TypeIs (.ref a) "list":=⟨_,hx,rfl⟩;have f2:=yH.lookup;have f3:=yH.bind (.ref a);unfold getAttrBy;refine je (zc (qy hT (zc (wO f2 ?_))));show É _ _ (getAttrByItsOwn (.ref a) (.str "keys" tk) (.type "list") (.builtin "list.__getattribute__") Â Â) _ _ _
 unfold getAttrByItsOwn;refine zc (zg ?_);refine zc (vD ?_);refine je ?_;show É _ _ (boundAndCalled (.builtin "list.__getattribute__") (.ref a) (.str "keys" tk)) _ _ _
 unfold boundAndCalled;refine zc (wO f3 ?_);refine jo yH hT F.entry_list_ga ?_ (F.args_list_getattribute_2 _ _);refine Vw hh hx λh' An e k1 k2=>?_
 obtain⟨ob,ho,hc⟩:=k2;have O7:(⟨h',g,d,An,os⟩:Å).TypeIs (.ref e) "AttributeError":=⟨_,ho,hc⟩;show É _ _ (Ŷ (.ref a) (.str "keys" tk) (.type "list") (.ref e) Á Â Â) _ _ _
 unfold Ŷ;refine zc (vQ O7 i6 ?_);erw[kY];refine zc (wO (show hookBehind (.type "list") Á=pure Á from UP (.inl rfl)) ?_);show É _ _ (ť (.ref a) (.str "keys" tk) (.ref e) Â Â) _ _ _
 unfold ť;erw[ux,kY];exact xQ (hq h' An e k1 ⟨ob,ho,hc⟩)
def pR(hh:A.handled=Á)(hx:h.get? a=À { cls:=.type "list",dict:=Á,data:=.seq items n,slots:=sl })(hq:∀h' An,(∀b ob,h.get? b=À ob->h'.get? b=À ob)->Q Á ⟨h',g,d,An,os⟩):É (Ë prog w) A (getAttr? (.ref a) "keys") Q E ⟨h,g,d,t,os⟩:=by
 unfold getAttr? getAttrBy?;refine zc (wpAny_mkText ?_);refine zc (vD (rN hh hx λh' An e k1 k2=>?_));obtain⟨ob,ho,hc⟩:=k2;refine zc (vQ (T:="AttributeError") (b:=Ã) ⟨ob,ho,hc⟩ i6 ?_);exact zg (hq h' An k1)
end
def oa:entryFor table "dict.update.loop" = À ò.«dict.update.loop»:=entryFor_of_tree RL
def eg:plainId "dict.update.loop" = Ã:=by decide +kernel
section
variable{prog:Í}{w:Ñ}{A:Ö}{R:Result->Å->Prop}{I D:È}{fp wr:List È}{n:Nat}{P:Nat->Ä->Prop}{St:Nat->Ò->Prop}{h0:Ò}{us:List Ä}{cb:List (Key×Ä)}
noncomputable def mI(knd:KeyKind prog w Key)(h:Ò)(us:List Ä)(cb:List (Key×Ä)):Prop:=us.length=cb.length/\∀(i:Nat) (u:Ä) (kv:Key×Ä),us[i]?=À u->cb[i]?=À kv->∃T k,u=.ref T/\Ŏ h T #[k,kv.2]/\knd.is kv.1 k=Ã
def Ww(knd:KeyKind prog w Key)(W:Walks prog w A.in1 I fp wr us.length (λi v=>us[i]?=À v) St)(M5:D∉fp)(O8:h0.get? D=Á)(M6:∀b∈wr,h0.get? b=Á)(hp:mI knd h0 us cb)(hz:cb.length<=1000) :
  ∀(k i:Nat) (tk:Tok) (s:Å),us.length-i=k->i<=us.length->St i s.heap->s.heap.DictOf knd D (merged [] (cb.take i))->(∀b o,h0.get? b=À o->s.heap.get? b=À o)->
   (∀h' An,h'.DictOf knd D (merged [] cb)->(∀b o,h0.get? b=À o->h'.get? b=À o)->R (.ok (.ret .none)) { s with heap:=h',toks:=An })->
   ĵ (Ë prog w) A (.builtin "dict.update.loop" ⟨[.ref D,.ref I,.int i tk,.none],[]⟩) R s:=by
 have M7:D∉wr:=λh=>M5 (W.sub _ h)
 intro k;induction k with
 | zero=>
  intro i tk s hk hi r6 hd LS hR;obtain rfl:i=us.length:=by omega
  refine qi oa ?_;rw[jN eg _];show É _ A.in1 (đ (.ref I) >>= _) _ _ s;refine zc (W.done s _ _ r6 λh' An kk=>?_)
  show É _ A.in1 (Builtin.Dict.addKeywords D [] >>= _) _ _ _
  refine zc (zg (zg (hR h' An ?_ λb o e=>kk b o (λz=>by rw[M6 b z] at e;cases e) (LS b o e))));rw[hp.1,List.take_length] at hd;obtain⟨o,es,ep,ho,rest⟩:=hd;exact⟨o,es,ep,kk D o M7 ho,rest⟩
 | succ k ih=>
  intro i tk s hk hi r6 hd LS hR;have lx:i<us.length:=by omega
  refine qi oa ?_;rw[jN eg _];show É _ A.in1 (đ (.ref I) >>= _) _ _ s;refine zc (W.item i s _ _ lx r6 λv h' An hv Ej kk=>?_)
  have IR:i<cb.length:=by rw[<-hp.1];exact lx
  obtain⟨T,key,rfl,hT,M8⟩:=hp.2 i v cb[i] hv (zP IR);have keep:∀b o,h0.get? b=À o->h'.get? b=À o:=λb o e=>kk b o (λz=>by rw[M6 b z] at e;cases e) (LS b o e)
  have EH:Ŏ h' T #[key,cb[i].2]:=by obtain⟨o,ho,r⟩:=hT;exact⟨o,keep T o ho,r⟩
  have Az:h'.DictOf knd D (merged [] (cb.take i)):=by obtain⟨o,es,ep,ho,rest⟩:=hd;exact⟨o,es,ep,kk D o M7 ho,rest⟩
  show É _ A.in1 (holding [Ï T] _ >>= _) _ _ _
  refine zc (je (zc (wpAny_tryCatch ?_)));unfold Builtin.Dict.pairItems;refine zc (qy EH.typeIs ?_);rw[zW (by decide)];obtain⟨oT,O9,RM,nT,Pa⟩:=EH;refine zc (jO O9 Pa (zg ?_));show É _ _ (holding [key,cb[i].2] (dictSet D key cb[i].2)) _ _ _
  refine je ?_;unfold dictSet;try with_reducible refine je ?_
  refine zc (knd.pyHash M8 ?_);refine wpAny_dictSetHashed_pairs (s:={ s with heap:=h',toks:=An+1 }) M8 Az (λh2 hd2 sb=>?_) (by have:=merged_length_le ([]:List (Key×Ä)) (cb.take i);rw[v8] at this;simp at this;exact zz (zz this ∅) (show 1000<=sizeLine by decide));refine zg ⟨vG eg _,ih (i+1) _ _ ∅ lx (W.frame _ _ _ Ej λb hb o e=>?_) ?_ (λb o e=>?_) λh3 Pb Pc k3=>?_⟩
  .rw[sb.2 b (λz:b=D=>M5 (by rw[<-z];exact hb))];exact e
  .rw[merged_take_succ [] cb i cb[i] (zP IR)];exact hd2
  .rw[sb.2 b (λz:b=D=>by rw[z,O8] at e;cases e)];exact keep b o e
  .exact hR h3 Pb Pc k3
end
section
variable{prog:Í}{w:Ñ}{A:Ö}{E:Ä->Å->Prop}{s:Å}{us:List Ä}{cb:List (Key×Ä)}{l:È}{n:Nat}{sl:Array (Option Ä)}
def mE(knd:KeyKind prog w Key)(hh:A.handled=Á)(hl:s.heap.get? l=À { cls:=.type "list",dict:=Á,data:=.seq us.toArray n,slots:=sl })(hp:mI knd s.heap us cb)(hz:cb.length<=1000)
  (h:∀h' An,h'.DictOf knd s.heap.objs.size (merged [] cb)->(∀b o,s.heap.get? b=À o->h'.get? b=À o)->Q (.ref s.heap.objs.size) { s with heap:=h',toks:=An }):É (Ë prog w) A (call (.type "dict") [.ref l]) Q E s:=by
 refine callType_codes (Q₁:=λobj d4=>obj=.ref s.heap.objs.size/\d4={ s with heap:=s.heap.push { cls:=.type "dict",data:=.dict #[] } }) F.kt_called_dict (F.kt_typeCall_dict_1 _) F.entry_dict_init (kt_code_dict_new _ ⟨rfl,rfl⟩) ?_;rintro obj d4 ⟨rfl,rfl⟩;have Av:(s.heap.push { cls:=.type "dict",data:=.dict #[] }).DictOf knd s.heap.objs.size []:=Heap.DictOf.new s.heap;refine⟨Av.typeIs,F.args_dict_init_2 _ _,?_⟩;unfold ò.«dict.__init__»;refine zc ?_;unfold Builtin.Dict.selfAndRest;refine zc (Ş Av.typeIs ?_);show É _ _ (pure (s.heap.objs.size,[Ï l])) _ _ _
 refine zg ?_;show É _ _ (Builtin.Dict.updateFrom "dict.__init__" s.heap.objs.size (.ref l) [] .none) _ _ _
 unfold Builtin.Dict.updateFrom;have AV:(s.heap.push { cls:=.type "dict",data:=.dict #[] }).get? l=À _:=zf _ hl;refine zc (qy (T:="list") ⟨_,AV,rfl⟩ ?_);rw[zW (by decide)];have Pd:A.in1.in1.handled=Á:=by simpa using hh
 refine zc (pR Pd AV λh1 RN k1=>?_);erw[Option.isNone_none,kY];have MR:=k1 _ _ AV;have hL:h1.IsList l us.toArray:=⟨_,MR,rfl,n,rfl⟩;refine zc (qz ?_);refine zc (vC hL ?_);have k0:∀b o,s.heap.get? b=À o->h1.get? b=À o:=λb o e=>k1 b o (zf _ e)
 have G7:s.heap.objs.size<h1.objs.size:=by obtain⟨o,es,ep,ho,_⟩:=Av;exact zM (k1 _ _ ho)
 have Ig:l<s.heap.objs.size:=zM hl;have Pe:h1.DictOf knd s.heap.objs.size []:=by obtain⟨o,es,ep,ho,rest⟩:=Av;exact⟨o,es,ep,k1 _ _ ho,rest⟩
 have Am:l≠h1.objs.size:=zU (uZ Ig G7);have W0:=ur (prog:=prog) (w:=w) (A:=A.in1.in1) (by simpa using hh) h1.objs.size l Am us.toArray;have W1:Walks prog w A.in1.in1 h1.objs.size [h1.objs.size,l] [h1.objs.size] us.length (λi v=>us[i]?=À v) (λi h=>h.IsListIter h1.objs.size l i/\h.IsList l us.toArray):=by simpa using W0
 refine zg ⟨vG eg _,Ww (h0:=s.heap) knd W1 ?_ ?_ ?_ hp hz us.length 0 _ _ rfl (qp _) ⟨⟨_,zK _ rfl,rfl,rfl⟩,hL.at λo e=>zf _ e⟩ ?_ (λb o e=>zf _ (k0 b o e)) λh' An Az k'=>?_⟩
 .erw[zj,zx,kE,yx]
  exact⟨zU G7,vX Ig⟩
 .exact xF (zG _)
 .intro b hb
  erw[zj,zx,kE] at hb;rw[hb];exact xF (qU G7)
 .obtain⟨o,es,ep,ho,rest⟩:=Pe
  exact⟨o,es,ep,zf _ ho,rest⟩
 .exact⟨rfl,h h' An Az k'⟩
end
end ML
namespace ML
open PySem PySem.Spec PyProof.Rows L2
section
variable{X:Cx}{cl:Cl}
theorem tI{K:Sb}{μ:List È}{H:Hp}:∀{l:List W} {vs:List V} {ps:List (W×W)} {ks:List (Key×W)},RWs K μ H l vs->pairsOf l=À ps->keysOf ps=À ks->
  ∃Ap:List (Key×V),PR K μ H ks Ap/\vs.length=Ap.length/\∀(i:Nat) (v:V) (kv:Key×V),vs[i]?=À v->Ap[i]?=À kv->∃T,v=.ref T/\SqT K H T [kV kv.1,kv.2]
 | [],_,_,_,.nil,e1,e2=>by
  cases e1;cases e2;exact⟨[],.nil,rfl,λi v kv e=>by simp at e⟩
 | w::l,_,ps,ks,.cons (v:=v) r t,e1,e2=>by
  have hw:∃x y,w=.tup [x,y]:=by
   unfold pairsOf at e1;split at e1
   .rename_i hd;cases hd
   .rename_i x y r' hd;cases hd;exact⟨x,y,rfl⟩
   .cases e1
  obtain⟨x,y,rfl⟩:=hw;unfold pairsOf at e1;split at e1
  .rename_i l' e3
   cases e1;unfold keysOf at e2;split at e2
   .rename_i k lk e4 e5
    cases e2;obtain⟨Ap,p,hl,hi⟩:=tI t e3 e5;obtain⟨T,RO,rfl,sq,rr⟩:=r.tup_of;cases rr with | cons r1 rr=>cases rr with | @cons _ v2 _ _ r2 rr=>cases rr with | nil=>
    have:=gd r1 e4;subst this;refine⟨(k,v2)::Ap,.cons r2 p,by simp[hl],λi v kv ev ek=>?_⟩;cases i with
    | zero=>simp at ev ek;subst ev;subst ek;exact⟨T,rfl,sq⟩
    | succ i=>exact hi i v kv (by simpa using ev) (by simpa using ek)
   .cases e2
  .cases e1
theorem pairs_at{s:Å}{H:Hp}(I:Inv X ag σ H s):∀{vs:List V} {its:List Ä} {Ap:List (Key×V)},Vals vs its->vs.length=Ap.length->
  (∀(i:Nat) (v:V) (kv:Key×V),vs[i]?=À v->Ap[i]?=À kv->∃T,v=.ref T/\SqT X.K H T [kV kv.1,kv.2])->∃cb,KV Ap cb/\mI (qA X.prog X.w) s.heap its cb
 | _,_,[],.nil,_,_=>⟨[],.nil,rfl,λi u kv e=>by simp at e⟩
 | _,_,_::_,.nil,hl,_=>by simp at hl
 | _,_,[],.cons _ _,hl,_=>by simp at hl
 | _,_,(k,v2)::Ap,.cons (a:=v) (b:=u) r t,hl,hi=>by
  obtain⟨cb,q1,q2,q3⟩:=pairs_at I t (by simpa using hl) λi v kv e1 e2=>hi (i+1) v kv (by simpa using e1) (by simpa using e2)
  obtain⟨T,rfl,sq⟩:=hi 0 v (k,v2) (by simp) (by simp);obtain⟨RP,rv,ht,_⟩:=I.tuple sq;obtain⟨u1,u2,rfl,G3,GV⟩:=vals2 rv;cases r;refine⟨(k,u2)::cb,.cons ⟨rfl,GV⟩ q1,by simp[q2],λi u kv e1 e2=>?_⟩;cases i with
  | zero=>simp at e1 e2;subst e1;subst e2;exact⟨T,u1,rfl,ht,oN G3⟩
  | succ i=>exact q3 i u kv (by simpa using e1) (by simpa using e2)
def Ju(hc:X.calm=Ã):va X (.type "dict") (rMs X.K cl gP):=by
 rintro ag s σ H xs us Q I rs ⟨μ,h,ws,w,h',R,ax,e,k⟩;unfold gP at e;split at e
 .cases ax with | cons r t=>cases t with | nil=>
  obtain⟨u,rfl,ru⟩:=rs.one;split at e
  .rename_i l el
   cases e;obtain⟨a,l',rfl,rd,pr⟩:=i5 R r el;cases ru;exact WV I rd λp s' hp I'=>⟨.ref p,_,I',rfl,k.fdc R pr hp⟩
  .split at e
   .rename_i l el
    split at e
    .rename_i ps ep
     split at e
     .rename_i ks ek
      split at e
      .rename_i d6
       cases e;obtain⟨a,vs,rfl,sa,ra⟩:=wq R r el;cases ru;obtain⟨Ap,pr,hl,hi⟩:=tI ra ep ek;obtain⟨its,rv,⟨⟨oc,od,Pf,Bz⟩,n,g1,g2,g3,g4⟩,_⟩:=I.list sa;simp only at g2 g3 g4;subst g2 g3 g4;obtain⟨cb,q1,q2⟩:=pairs_at I rv hl hi;have IR:Ap.length=cb.length:=q1.length;refine mE (qA X.prog X.w) (I.ok.hd hc) g1 q2 (by rw[<-IR,<-pr.len];exact d6) λh2 tk dd kp=>?_
       have rel:KV (dX [] Ap) (merged [] cb):=q1.merge .nil;have hz:(dX [] Ap).length<=sizeLine:=by
        have h1:=fS Ap [];rw[kI] at h1;rw[jL];have:=pr.len;omega
       exact⟨.ref _,_,I.laid (a:=s.heap.objs.size) (o:=.dK (dX [] Ap)) (t':=tk) kp (zG _) (sA hz (jA.mpr (jq (zU I.big))) rel dd),rfl,k.fdc R (pr.merge .nil) (I.hok.fresh (zG _))⟩
      .cases e
     .cases e
    .cases e
   .cases e
 .cases e
end
end ML
section
namespace ML
open PySem PySem.Spec PyProof.Rows L2
def BZ{P:Í}{w:Ñ}{K:Sb}{mg:Æ->Option Ä}{base:Ò}{cl:Cl}{x qual:Æ}{st:Č}{N ps:List Æ}(F:Fun K x qual st f fd)(Af:kQ st=sc)(LU:ve st=bd)(S:FnScope N ps sc)(Ec:ps.length=np)(Ah:N.length-np=ns)
  (hb:∀(mN:Ä) (A:Ö) (outer:List Env) (s:Å) (H:Hp) (E:XK),Room k (A.deeper (Ň qual sc s.heap.objs.size f mN))->
   SB (gn dH P w K mg base N qual sc f mN A outer s H E).nox cl bd b):FnOk P w K mg base dH (k+1) f fd ps (cf K cl (gc (kS np ns b))):=by
 subst Af LU;exact DF F S Ec Ah hb
noncomputable def W5(sc:ê)(x:Æ):Bool:=match sc.names.lookup x with
 | some .local=>Ã
 | some .cell=>Ã
 | some .free=>Ã
 | _=>Â
noncomputable def Jc(sc:ê)(x:Æ):Bool:=match sc.names.lookup x with
 | some .local=>Ã
 | some .cell=>Ã
 | _=>Â
noncomputable def WO(sc:ê)(N:List Æ)(i:Nat)(x:Æ):Bool:=N[i]?==À x&&W5 sc x && !(x==("__debug__":Æ)) && !(x==("__classdict__":Æ))
noncomputable def setB(sc:ê)(N:List Æ)(i:Nat)(x:Æ):Bool:=N[i]?==À x&&Jc sc x
noncomputable def setC(sc:ê)(N:List Æ)(i:Nat)(x:Æ):Bool:=N[i]?==À x&&sc.names.lookup x==À .local
noncomputable def x4(sc:ê)(x:Æ):Bool:=sc.names.lookup x==À .globalImplicit && !(x==("__debug__":Æ)) && !(x==("__name__":Æ))
section
variable{X:Cx}{cl:Cl}{x:Æ}{pos AK p:ĝ}{sc:ê}{N:List Æ}{i:Nat}{e:Î}{m:ME}
def UL(h:W5 sc x=Ã):Qh sc x:=by
 unfold W5 at h;split at h
 .rename_i q;exact .inl q
 .rename_i q;exact .inr (.inl q)
 .rename_i q;exact .inr (.inr q)
 .cases h
def mG(h:Jc sc x=Ã):Loc sc x:=by
 unfold Jc at h;split at h
 .rename_i q;exact .inl q
 .rename_i q;exact .inr q
 .cases h
def v_(h:WO sc N i x=Ã)(hs:↥(X.env.scope=sc))(hN:↥(X.N=N)):SE X cl (.Name x pos) (zd i):=by
 unfold WO at h;erw[zy,ww,jZ] at h;exact Cc i (by rw[hN];exact h.1.1.1) (by rw[hs];exact UL h.1.1.2) h.1.2 h.2
def g_(h:setB sc N i x=Ã)(AI:N.Nodup)(hs:↥(X.env.scope=sc))(hN:↥(X.N=N))(hf:↥(X.fn x=Ã)):SG X cl (.Name x pos) (zl i):=by
 unfold setB at h;erw[zy,ww] at h;exact Zv i (by rw[hN];exact AI) (by rw[hN];exact h.1) (by rw[hs];exact mG h.2) (.inl hf)
def GI(h:setC sc N i x=Ã)(AI:N.Nodup)(hs:↥(X.env.scope=sc))(hN:↥(X.N=N)):SG X cl (.Name x pos) (zl i):=by
 unfold setC at h;erw[zy,ww] at h;exact Zv i (by rw[hN];exact AI) (by rw[hN];exact h.1) (by rw[hs];exact .inl h.2) (.inr (by rw[hs];exact h.2))
def s_(h:setB sc N i x=Ã)(AI:N.Nodup)(he:SE X cl e m)(hs:↥(X.env.scope=sc))(hN:↥(X.N=N))(hf:↥(X.fn x=Ã))(AN:↥(Ă e (À (.Name x AK)) pos.line X.env=pure Â)):SS X cl (.Assign [.Name x AK] e pos) (zC m (zl i)):=by
 unfold setB at h;erw[zy,ww] at h;exact Cb i (by rw[hN];exact AI) he (by rw[hN];exact h.1) (by rw[hs];exact mG h.2) AN (.inl hf)
def qS(h:x4 sc x=Ã)(hs:X.env.scope=sc):Gl X x/\(x==("__debug__":Æ))=Â/\x≠"__name__":=by
 unfold x4 at h;erw[zy,ww,jZ] at h;refine⟨?_,h.1.2,λz=>?_⟩
 .show X.env.scope.names.lookup x=_
  rw[hs];exact h.1.1
 .have:=h.2;rw[z] at this;simp at this
variable{k:Nat}{f:È}{fd:ą}{ps:List Æ}{es:List Î}{g:List W->M W}{ms:List ME}{id:String}
def c_(h:x4 sc x=Ã)(F:FnOk X.prog X.w X.K X.mg X.base dH k f fd ps (cf X.K cl g))(hr:Room k X.A)(hm:X.mg x=À (.ref f))(hk:ì X.K (.ref f)=Ã)(hb:Binds X.K fd ps [])
  (ha:SA X cl (e::es) ms) (hs:↥(X.env.scope=sc)) (r6:↥(Ê (e::es) X.env=(Â,eval e X.env)::Ê es X.env)) (Ad:↥((ß pos (Ê es X.env)).any (·.1)=Â)):SE X cl (.Call (.Name x p) (e::es) [] pos) (ze g ms):=
 Us F hr hm hk hb ha (qS h hs).1 (qS h hs).2.1 r6 Ad
def GC(h:x4 sc x=Ã)(F:FnOk X.prog X.w X.K X.mg X.base dH k f fd ps (cf X.K cl g))(hr:Room k X.A)(hm:X.mg x=À (.ref f))(hk:ì X.K (.ref f)=Ã)(hb:Binds X.K fd ps [])
 (hs:↥(X.env.scope=sc)):SE X cl (.Call (.Name x p) [] [] pos) (ze g []):=W6 F hr hm hk hb (qS h hs).1 (qS h hs).2.1
def YX(h:x4 sc x=Ã)(hc:va X (.builtin id) (rMs X.K cl g))(hm:X.mg x=Á)(hv:Õ x=À (.builtin id))(ha:SA X cl (e::es) ms)(hs:↥(X.env.scope=sc))(r6:↥(Ê (e::es) X.env=(Â,eval e X.env)::Ê es X.env))(Ad:↥((ß pos (Ê es X.env)).any (·.1)=Â)) :
 SE X cl (.Call (.Name x p) (e::es) [] pos) (ze g ms):=Wk hc hm hv ha (qS h hs).1 (qS h hs).2.2 (qS h hs).2.1 r6 Ad
def YL(h:x4 sc x=Ã)(hc:va X (.type id) (rMs X.K cl g))(hm:X.mg x=Á)(hv:Õ x=À (.type id))(ha:SA X cl (e::es) ms)(hs:↥(X.env.scope=sc))(r6:↥(Ê (e::es) X.env=(Â,eval e X.env)::Ê es X.env))(Ad:↥((ß pos (Ê es X.env)).any (·.1)=Â)) :
 SE X cl (.Call (.Name x p) (e::es) [] pos) (ze g ms):=Q0 hc hm hv ha (qS h hs).1 (qS h hs).2.2 (qS h hs).2.1 r6 Ad
def Gw(h:x4 sc x=Ã)(G:Glob X.K X.mg x w)(hs:↥(X.env.scope=sc)):SE X cl (.Name x pos) (eC w):=G.se (qS h hs).1 (qS h hs).2.1
def FV(T:Ty)(h:x4 sc "isinstance" = Ã)(h2:x4 sc y=Ã)(ha:SE X cl a ma)(hi:X.mg "isinstance" = Á)(ht:X.mg y=Á)(hv:Õ y=À (.type T.name))(hs:↥(X.env.scope=sc))
  (GW:↥(Ê [a,.Name y p2] X.env=(Â,eval a X.env)::Ê [.Name y p2] X.env)) (Eg:↥(Ê [.Name y p2] X.env=(Â,eval (.Name y p2) X.env)::Ê [] X.env))
  (Ad:↥((ß pos (Ê [.Name y p2] X.env)).any (·.1)=Â)):SE X cl (.Call (.Name "isinstance" p) [a,.Name y p2] [] pos) (vw (isW T) ma):=
 CO T ha hi ht hv (qS h hs).1 (qS h2 hs).1 (qS h2 hs).2.2 (qS h2 hs).2.1 GW Eg Ad
variable{a:Î}{ma:ME}{l:List (Æ×W)}
def GA(h:x4 sc x=Ã)(hu:X.A.units+64<ď)(T:TabOk X.K X.w.params X.mg x l)(ha:SE X cl a ma)(hs:↥(X.env.scope=sc))(hp:fg a:=by exactλ_ _=>rfl):SE X cl (.Subscript (.Name x p) a pos) (vw (fb l) ma):=J8 hu T ha hp (qS h hs).1 (qS h hs).2.1
def Gs(h:x4 sc "range" = Ã)(hm:X.mg "range" = Á)(ha:SA X cl [e] ms)(hs:↥(X.env.scope=sc))(r6:↥(Ê [e] X.env=[(Â,eval e X.env)])):SI X cl tg (.Call (.Name "range" p) [e] [] pos) (yb ms):=Dc hm ha (qS h hs).1 r6
def FL(h:x4 sc "enumerate" = Ã)(hm:X.mg "enumerate" = Á)(ha:SA X cl [e] ms)(hs:↥(X.env.scope=sc))(r6:↥(Ê [e] X.env=(Â,eval e X.env)::Ê [] X.env))(Ad:↥((ß pos (Ê [] X.env)).any (·.1)=Â)) :
 SI X cl (.Tuple AD n AE) (.Call (.Name "enumerate" p) [e] [] pos) (u3 ms):=Xr hm ha (qS h hs).1 r6 Ad
def Ga(h:x4 sc "zip" = Ã)(hm:X.mg "zip" = Á)(ha:SA X cl [e,e2] ms)(hs:↥(X.env.scope=sc))(r6:↥(Ê [e,e2] X.env=(Â,eval e X.env)::Ê [e2] X.env))(Ad:↥((ß pos (Ê [e2] X.env)).any (·.1)=Â)) :
 SI X cl (.Tuple AD n AE) (.Call (.Name "zip" p) [e,e2] [] pos) (eT ms):=Dk hm ha (qS h hs).1 r6 Ad
end
end ML
namespace ML
open PySem PySem.Spec PyProof.Rows L2
section
variable{X:Cx}{cl:Cl}{a:Î}{ma:ME}{x:Æ}{l:List (Æ×W)}{p pos:ĝ}{sc:ê}
end
end ML
end
namespace ML
open PySem PySem.Spec PyProof.Rows L2
noncomputable def sD(l:List Æ):Bool:=decide l.Nodup
def YJ{l:List Æ}(h:sD l=Ã:=by kernel_rfl):l.Nodup:=jD h
structure FTxt(K:Sb)(mg:Æ->Option Ä)(x:Æ)(st:Č)(ps:List Æ)(a:È)(d:ą):Prop where
 F:Fun K x x st a d
 B:Binds K d ps []
 m:mg x=À (.ref a)
def rY{K:Sb}{x y:Æ}{st:Č}(F:Fun K x x st f fd)
  (hb:∀(kV doc pm:Ä) (an:Option È) (mN ct:Ä) (us:List Ä),us.length=[y].length->bindArgs (ĉ x x (xB st) (ve st) (kQ st) .none kV doc pm an mN ct) ⟨us,[]⟩=pure ([y].zip us)):∀(s:Å) (v:Ä),BindsTo s fd ⟨[v],[]⟩ [(y,v)]:=by
 intro s v;obtain⟨oc,od,kV,doc,pm,an,mN,ct,Bz,rfl,lk,A4⟩:=F.ex;exact .of_eq (hb kV doc pm an mN ct [v] rfl)
noncomputable def FG(P:Í)(w:Ñ)(f:List W->M W)(K:Sb):Sp:=cf K ⟨λ_=>0,P,w⟩ f
def Cd(hf:∀ns:List Int,ns.length<=63->∃h',f [.fls (ns.map W.int)] []=À (.bl Ã,h'))(K:Sb)(H:Hp)(a:È)(ns:List Int)(hl:ns.length<=63)(hS:SqL K H a (ns.map V.int)):FG P w f K [.ref a] H (λv _=>v=.bl Ã) λ_ _ _=>False:=by
 obtain⟨h',e⟩:=hf ns hl;refine⟨[],[],[.fls (ns.map W.int)],.bl Ã,h',⟨rfl,qJ,λn a o e=>by simp at e⟩,.cons (.fls ?_ (RWs.ints ns)) .nil,e,λd5 H' v E R r=>r.bl_of⟩;rcases hS with hS | hS
 .exact .inl ⟨hS,by simp⟩
 .exact .inr hS
noncomputable def Jn(x y v:W):M W:=λh=>match x with
 | .ref n=>match h[n]? with
  | some (.dic l)=>match keyOf y with
   | some k=>if l.length<cap then À (.non,h.set n (.dic (iL l k v))) else Á
   | none=>Á
  | some (.lst l)=>match y with
   | .int i=>match yB l.length i with
    | some j=>À (.non,h.set n (.lst (l.set j v)))
    | none=>Á
   | _=>Á
  | _=>Á
 | _=>Á
section
variable{X:Cx}{cl:Cl}{o i:Î}{mo mi:ME}{pos:ĝ}
inductive rPut(K:Sb)(cl:Cl)(o:V)(i:V)(v:V)(H:Hp)(Q:Hp->Prop):Prop
 | mk (μ:List È) (h:MH) (wo:W) (wi:W) (wv:W) (w:W) (h':MH) (p0:HR K cl μ H h) (p1:RW K μ H wo o) (p2:RW K μ H wi i) (p3:RW K μ H wv v) (p4:Jn wo wi wv h=À (w,h')) (p5:∀d5 H',Ext μ H d5 H'->HR K cl d5 H' h'->Q H'):rPut K cl o i v H Q
def DV(hu:X.A.units+64<ď):Jv X (rPut X.K cl):=by
 rintro ag s σ H o i v ov iv u Q I ro ri rv ⟨μ,h,wo,wi,wv,w,h',R,ao,ai,av,e,k⟩;unfold Jn at e;split at e
 .rename_i n
  cases ao with | @ref _ p hn=>
  split at e
  .rename_i l ho
   split at e
   .rename_i kk ek
    split at e
    .rename_i hl
     cases e;obtain⟨l',hp,rk⟩:=R.ob n p _ hn ho;have pr:=RKs.pr rk;have hk:=gd ai ek;subst hk;cases ro;have Ho:l'.length<sizeLine:=by rw[<-pr.len];exact zO hl yv
     refine j8 (JO ∅ I (.inl ⟨l',kk,hp,rfl,Ho,rfl⟩) ri rv λs' I'=>?_) (λ_ _ z=>z) λ_ _ z=>z
     have E:Ext μ H μ (upd H p (.dK (putK l' kk v))):=Ext.put hn;exact⟨_,I',k μ _ E (R.put hn ⟨_,qq,((pr.put av).ext R E).rk⟩)⟩
    .cases e
   .cases e
  .rename_i l ho
   split at e
   .rename_i j
    split at e
    .rename_i j' ej
     cases e;obtain⟨vs,hp,rs⟩:=R.ob n p _ hn ho;have hi:=ai.int_of;subst hi;have E:Ext μ H μ (upd H p (.lst (vs.set j' v))):=Ext.put hn;refine set_list ag s σ H _ _ v ov iv u Q I ro ri rv ⟨p,vs,j,j',rfl,rfl,hp,by rw[<-rs.length];exact ej,k μ _ E (R.put hn ⟨_,qq,(RWs.set av _ rs).ext R E⟩)⟩
    .cases e
   .cases e
  .cases e
 .cases e
end
noncomputable def noStar:Î->Bool
 | .Starred ..=>Â
 | _=>Ã
noncomputable def lz:Î->Bool
 | .ListComp ..=>Â
 | .SetComp ..=>Â
 | .DictComp ..=>Â
 | _=>Ã
noncomputable def oR:Î->Bool
 | .Set ..=>Â
 | _=>Ã
noncomputable def Yq:Î->Bool
 | .Tuple ..=>Â
 | _=>Ã
noncomputable def gQ:Î->Bool
 | .Slice ..=>Â
 | _=>Ã
noncomputable def plainT:Î->Bool
 | .UnaryOp ..=>Â
 | .BoolOp ..=>Â
 | .IfExp ..=>Â
 | .Compare ..=>Â
 | _=>Ã
noncomputable def VB:Î->Bool
 | .Call ..=>Â
 | _=>Ã
section
variable{e tg o:Î}{es:List Î}{env:Env}{pos:ĝ}
def kN(h:noStar e=Ã):Ê (e::es) env=(Â,eval e env)::Ê es env:=by
 cases e<;>first | (cases h;done) | kernel_rfl
theorem fw:Ê [] env=[]:=by kernel_rfl
theorem eB(h:noStar e=Ã):ß pos (Ê (e::es) env)=(Â,eval e env)::ß pos (Ê es env):=by
 rw[kN h];rfl
theorem qE:∀{es:List Î},es.all noStar=Ã->(ß pos (Ê es env)).any (·.1)=Â
 | [],_=>by rw[fw];rfl
 | e::es,h=>by
  rw[jG,zy] at h;rw[eB h.1,vO,qE h.2];rfl
theorem tF:∀{es:List Î},es.all noStar=Ã->(ß pos (Ê es env)).all (λx=>!x.1)=Ã
 | [],_=>by rw[fw];rfl
 | e::es,h=>by
  rw[jG,zy] at h;rw[eB h.1,jG,tF h.2];rfl
def lG(h:es.all noStar=Ã)(hl:decide (es.length<30)=Ã):((ß pos (Ê es env)).all (λx=>!x.1)&&(ŏ pos (Ĥ [] env)).all (λx=>x.1.isSome)
   && decide (es.length+([]:List Ğ).length+(if ([]:List Ğ).isEmpty then 0 else 1)<30))=Ã:=by
 rw[tF h];have:(Ĥ [] env)=[]:=by kernel_rfl
 rw[this];simpa[ŏ] using hl
theorem dG(h:lz e=Ã):Ă e t l env=pure Â:=by
 cases e<;>first | (cases h;done) | rfl
theorem KZ(h:Yq e=Ã):ņ [.Tuple ts n p] e env=pure Á:=by
 cases e<;>first | (cases h;done) | rfl
def uj(h:noStar e=Ã):å (e::es) env=(Â,assign e env)::å es env:=by
 cases e<;>first | (cases h;done) | kernel_rfl
theorem dD:å [] env=[]:=by kernel_rfl
theorem lR:∀{es:List Î},es.all noStar=Ã->(å es env).length=es.length
 | [],_=>by rw[dD];rfl
 | e::es,h=>by
  rw[jG,zy] at h;rw[uj h.1,zE,lR h.2];rfl
theorem iD:∀{es:List Î},es.all noStar=Ã->(å es env).findIdx? (·.1)=Á
 | [],_=>by rw[dD];rfl
 | e::es,h=>by
  rw[jG,zy] at h;rw[uj h.1,List.findIdx?_cons,iD h.2];rfl
theorem cE(h:oR e=Ã):∀x,é e env x=pure x:=by
 intro x;cases e<;>first | (cases h;done) | rfl
theorem fi(h:VB o=Ã):ċ o a env whole=whole:=by
 cases o<;>first | (cases h;done) | rfl
def WH(h:plainT e=Ã):∀whole,isTrue e env whole=(do let v <-whole;ż e.pos;holding [v] (truthy v)):=by
 intro whole;cases e<;>first | (cases h;done) | kernel_rfl
theorem Y6(h:gQ e=Ã):fg e:=by
 intro o i;cases e<;>first | (cases h;done) | rfl
end
structure RC where
 sc:ê
 N:List Æ
 inC:Bool
 fns:List (Æ×(List W->M W))
 con:List (Æ×W)
 tab:List (Æ×List (Æ×W))
 bin:List Æ
 own:List Æ
 txt:List Æ
 cmp:List ((Nat×Nat)×List Æ)
noncomputable def FnAt(P:Í)(w:Ñ)(K:Sb)(mg:Æ->Option Ä)(base:Ò)(cl:Cl)(k:Nat)(x:Æ)(g:List W->M W):Prop:=
 ∃f fd ps,FnOk P w K mg base dH k f fd ps (cf K cl g)/\mg x=À (.ref f)/\ì K (.ref f)=Ã/\Binds K fd ps []
noncomputable def AllOf{α:Type}(P:Æ->α->Prop):List (Æ×α)->Prop
 | []=>True
 | (x,g)::r=>P x g/\AllOf P r
theorem AllOf.at{α:Type}{P:Æ->α->Prop}{x:Æ}{g:α}:∀{l:List (Æ×α)},AllOf P l->l.lookup x=À g->P x g
 | [],_,e=>by cases e
 | (y,g')::r,h,e=>by
  rw[qd] at e;cases q:x==y with
  | true=>rw[q] at e;cases e;rw[eq_of_beq q];exact h.1
  | false=>rw[q] at e;exact AllOf.at h.2 e
noncomputable def AllNone(mg:Æ->Option Ä):List Æ->Prop
 | []=>True
 | x::r=>mg x=Á/\AllNone mg r
theorem AllNone.at:∀{l:List Æ},AllNone mg l->x∈l->mg x=Á
 | y::r,h,e=>by
  rcases zj.mp e with rfl | e
  .exact h.1
  .exact AllNone.at h.2 e
structure BaseOk(P:Í)(w:Ñ)(K:Sb)(mg:Æ->Option Ä)(base:Ò)(cl:Cl)(k:Nat)(Γ:RC):Prop where
 fns:AllOf (FnAt P w K mg base cl k) Γ.fns
 con:AllOf (Glob K mg) Γ.con
 tab:AllOf (TabOk K w.params mg) Γ.tab
 bin:AllNone mg Γ.bin
 pw:cl.P=P/\cl.w=w
structure Fits(Γ:RC)(cl:Cl)(k:Nat)(X:Cx):Prop where
 sc:X.env.scope=Γ.sc
 N:X.N=Γ.N
 nd:X.N.Nodup
 fn:Γ.inC=Â->∀x,X.fn x=Ã
 kind:Γ.sc.kind=.function
 calm:X.calm=Ã
 pass:ū (Ë X.prog X.w) X.A X.env X.xe
 room:Room k X.A
 base:BaseOk X.prog X.w X.K X.mg X.base cl k Γ
noncomputable def tK(x:Æ):List Æ->Option Nat
 | []=>Á
 | y::r=>if y==x then À 0 else (tK x r).map (· + 1)
noncomputable def K5(Γ:RC)(x:Æ):Option ME:=match tK x Γ.N with
 | some i=>if WO Γ.sc Γ.N i x=Ã then À (zd i) else Á
 | none=>match Γ.con.lookup x with
  | some w=>if x4 Γ.sc x=Ã then À (eC w) else Á
  | none=>Á
noncomputable def oX:Const->Option ME
 | .none=>À (eC .non)
 | .bool b=>À (eC (.bl b))
 | .int i=>À (eC (.int i))
 | .str x=>À (eC (.str x))
 | _=>Á
noncomputable def Cs(mu:Bool):Operator->Option (W->W->M W)
 | .Add=>À addW
 | .Sub=>À y8
 | .Mult=>À ki
 | .Mod=>À xc
 | .FloorDiv=>À aT
 | _=>Á
noncomputable def FH:CmpOp->Option (W->W->M W)
 | .Eq=>À (kf Â)
 | .NotEq=>À (kf Ã)
 | .In=>À (vk Â)
 | .NotIn=>À (vk Ã)
 | .Lt=>À gH
 | .LtE=>À GE
 | .Gt=>À ni
 | .GtE=>Á
 | .Is=>À (fq Ã)
 | .IsNot=>À (fq Â)
noncomputable def pd(Γ:RC):Î->Option MG
 | .Name x _=>match tK x Γ.N with
  | some i=>match Γ.inC with
   | true=>if setC Γ.sc Γ.N i x=Ã then À (zl i) else Á
   | false=>if setB Γ.sc Γ.N i x=Ã then À (zl i) else Á
  | none=>Á
 | _=>Á
noncomputable def Qp(Γ:RC):Î->Option MG
 | .Tuple es _ _=>if es.all noStar=Ã then (qk (pd Γ) es).map vF else Á
 | e=>pd Γ e
noncomputable def Bk:Î->Nat
 | .Tuple es _ _=>es.length
 | _=>1
section
variable{Γ:RC}{cl:Cl}{k:Nat}{X:Cx}{x:Æ}{m:ME}{pos:ĝ}
def VL(F:Fits Γ cl k X)(h:K5 Γ x=À m):SE X cl (.Name x pos) m:=by
 unfold K5 at h;split at h
 .split at h
  .rename_i i _ q
   cases h;exact v_ q F.sc F.N
  .cases h
 .split at h
  .rename_i w e
   split at h
   .rename_i q
    cases h;exact Gw q (F.base.con.at e) F.sc
   .cases h
  .cases h
def JM(h:oX c=À m):SE X cl (.Constant c j pos) m:=by
 unfold oX at h;split at h
 .cases h;exact Cv
 .cases h;exact DY
 .cases h;exact CN
 .cases h;exact Bq
 .cases h
def BY(h:Cs mu op=À f):qv X (ë op) (rM X.K cl f):=by
 unfold Cs at h;split at h
 .cases h;exact Xc
 .cases h;exact UM
 .cases h;exact XA
 .cases h;exact XD
 .cases h;exact Xy
 .cases h
def QW(hu:X.A.units+64<ď)(h:FH op=À f):qv X (Ù op) (rM X.K cl f):=by
 cases op<;>cases h
 .exact CJ hu
 .exact Cj hu
 .exact UW
 .exact CZ
 .exact BK
 .exact Cq
 .exact Qk
 .exact Dz hu
 .exact QA hu
def Zz(F:Fits Γ cl k X)(h:pd Γ e=À g):SG X cl e g:=by
 unfold pd at h;split at h
 .rename_i x p
  split at h
  .rename_i i _
   split at h
   .split at h
    .rename_i q
     cases h;exact GI q (F.N▸F.nd) F.sc F.N
    .cases h
   .rename_i c
    split at h
    .rename_i q
     cases h;exact g_ q (F.N▸F.nd) F.sc F.N (F.fn c _)
    .cases h
  .cases h
 .cases h
def gm{α β:Type}{f:α->Option β}{x:α}{r:List α}{ys:List β}(h:qk f (x::r)=À ys):∃y zs,f x=À y/\qk f r=À zs/\ys=y::zs:=by
 unfold qk at h;split at h
 .rename_i y zs e1 e2
  cases h;exact⟨y,zs,e1,e2,rfl⟩
 .cases h
theorem Zx(F:Fits Γ cl k X):∀{es:List Î} {gs:List MG},es.all noStar=Ã->qk (pd Γ) es=À gs->Vr X cl es gs
 | [],gs,_,h=>by cases h;exact Ug
 | e::es,gs,hn,h=>by
  obtain⟨g,RQ,h1,h2,rfl⟩:=gm h;rw[jG,zy] at hn;exact Wc (Zz F h1) (Zx F hn.2 h2) (by rw[uj hn.1];rfl)
theorem rm{α β:Type}{f:α->Option β}:∀{l:List α} {ys:List β},qk f l=À ys->ys.length=l.length
 | [],ys,h=>by cases h;rfl
 | x::r,ys,h=>by
  obtain⟨y,zs,_,h2,rfl⟩:=gm h;rw[zE,zE,rm h2]
def su(F:Fits Γ cl k X)(h:Qp Γ e=À g):SG X cl e g:=by
 unfold Qp at h;split at h
 .rename_i es n p
  split at h
  .rename_i hn
   rw[zq] at h;obtain⟨gs,h1,rfl⟩:=h;exact Br F.calm (Zx F hn h1) (by rw[lR hn,rm h1]) (iD hn)
  .cases h
 .exact Zz F h
end
end ML
namespace ML
open PySem
def WX(xs:Array Nat)(j:Nat):∀(hJ lo hi:Nat),hi-lo<=hJ->lo<=hi->hi<=xs.size->(∀i (h:i<xs.size),i<lo->xs[i]<j)->(∀i (h:i<xs.size),hi<=i->j<=xs[i])->xs.toList.Pairwise (· < ·)->
  ĩ xs j hJ lo hi<=xs.size/\(∀i (h:i<xs.size),i<ĩ xs j hJ lo hi->xs[i]<j)/\∀i (h:i<xs.size),ĩ xs j hJ lo hi<=i->j<=xs[i]:=by
 intro hJ;induction hJ with
 | zero=>
  intro lo hi h1 h2 h3 h4 h5 _;have:lo=hi:=by omega
  subst this;exact⟨h3,h4,h5⟩
 | succ f ih=>
  intro lo hi h1 h2 h3 h4 h5 hp;unfold ĩ;by_cases c:lo<hi
  .rw[zW c]
   have hm:(lo+hi)/2<xs.size:=by omega
   have e:xs.getD ((lo+hi)/2) j=xs[(lo+hi)/2]:=by simp[þ,hm]
   have mono:∀a b (ha:a<xs.size) (hb:b<xs.size),a<=b->xs[a]<=xs[b]:=by
    intro a b ha hb q;rcases jU q with q | q
    .have:=vp.mp hp a b (by simpa using ha) (by simpa using hb) q
     simpa using qU this
    .subst q;exact zG _
   dsimp only;rw[e];by_cases d:xs[(lo+hi)/2]<j
   .rw[zW d]
    refine ih _ _ ∅ ∅ h3 (λi h q=>?_) h5 hp;exact yR (mono i _ h hm ∅) d
   .rw[kh d]
    refine ih _ _ ∅ ∅ ∅ h4 (λi h q=>?_) hp;exact zz (jW d) (mono _ i hm h q)
  .rw[kh c]
   have:lo=hi:=by omega
   subst this;exact⟨h3,h4,h5⟩
def u7{xs:Array Nat}(hp:xs.toList.Pairwise (· < ·)):ð xs j<=xs.size/\(∀i (h:i<xs.size),i<ð xs j->xs[i]<j)/\∀i (h:i<xs.size),ð xs j<=i->j<=xs[i]:=
 WX xs j xs.size 0 xs.size ∅ ∅ (zG _) (λi h q=>absurd q ∅) (λi h q=>absurd h ∅) hp
def below_at{xs:Array Nat}(hp:xs.toList.Pairwise (· < ·))(h:i<xs.size):ð xs xs[i]=i:=by
 obtain⟨a,b,c⟩:=u7 (j:=xs[i]) hp;rcases xr (ð xs xs[i]) i with q | q | q
 .have h1:ð xs xs[i]<xs.size:=by omega
  have h2:=c _ h1 (zG _);have h3:=vp.mp hp _ i (by simpa using h1) (by simpa using h) q;erw[pB] at h3;omega
 .exact q
 .exact absurd (b i h q) (j4 _)
structure TOk(t:Ð):Prop where
 nod:t.dummies = #[]
 up:t.place.toList.Pairwise (· < ·)
 le:∀j∈t.place.toList,j<=t.mask
 pow:∃k,3<=k/\t.mask+1=2 ^ k
 room:t.place.size<=t.mask
def mK(j:Nat):Ř #[] j=Â:=by unfold Ř;simp
def nr{t:Ð}(T:TOk t)(h:i<t.place.size):t.slot t.place[i]=.live i:=by
 unfold SetTable.slot;dsimp only;rw[below_at T.up h];simp[h]
theorem lq{t:Ð}(T:TOk t)(h:j∉t.place.toList):t.slot j=.empty:=by
 unfold SetTable.slot;dsimp only;rw[T.nod,mK];have:¬(t.place[ð t.place j]?==À j)=Ã:=by
  intro q;have q:=eq_of_beq q;obtain⟨h1,h2⟩:=Array.getElem?_eq_some_iff.mp q;exact h (by rw[<-h2];simp)
 rw[kh this];rfl
def slot_of{t:Ð}(T:TOk t)(j:Nat):(∃i,∃h:i<t.place.size,t.place[i]=j/\t.slot j=.live i)\/(j∉t.place.toList/\t.slot j=.empty):=by
 by_cases h:j∈t.place.toList
 .obtain⟨i,h1,h2⟩:=vI h
  have IL:i<t.place.size:=by simpa using h1
  have Hn:t.place[i]=j:=by simpa using h2
  exact .inl ⟨i,IL,Hn,by rw[<-Hn];exact nr T IL⟩
 .exact .inr ⟨h,lq T h⟩
theorem iP:∀(n:Nat) (l:List Nat),(∀j,j<n->j∈l)->n<=l.length
 | 0,_,_=>qp _
 | n+1,l,h=>by
  have h1:=iP n (l.erase n) λj q=>by
   have:j≠n:=by omega
   exact(ph this).mpr (h j ∅)
  rw[uC (h n ∅)] at h1;have:0<l.length:=uU (h n ∅);omega
def Jx{t:Ð}(T:TOk t):∃j,j<=t.mask/\j∉t.place.toList:=by
 by_cases q:∃j,j<=t.mask/\j∉t.place.toList
 .exact q
 .have h:=iP (t.mask+1) t.place.toList λj hj=>by
   by_cases m:j∈t.place.toList
   .exact m
   .exact absurd ⟨j,by omega,m⟩ q
  have:=T.room;simp at h;omega
def gw(x:Nat):Nat->Nat
 | 0=>x
 | m+1=>5*gw x m+1
theorem JK(x:Nat)(a:Nat):∀b,gw x (a+b)=gw (gw x a) b
 | 0=>rfl
 | b+1=>by show 5*gw x (a+b)+1=_;rw[JK x a b];rfl
theorem Q1(x:Nat):∀m,4*gw x m+1=5 ^ m*(4*x+1)
 | 0=>by simp[gw]
 | m+1=>by
  have:=Q1 x m;rw[vK,Nat.mul_right_comm,<-this];show 4*(5*gw x m+1)+1=_
  omega
def five(k:Nat):∃c,5 ^ (2 ^ k)=1+2 ^ (k+2)*(2*c+1):=by
 induction k with
 | zero=>exact⟨0,rfl⟩
 | succ k ih=>
  obtain⟨c,e⟩:=ih;refine⟨c+2 ^ k*(2*c+1)*(2*c+1),?_⟩;rw[vK 2 k,Nat.pow_mul,e];have h2:2 ^ (k+1+2)=8*2 ^ k:=by rw[uf,uf];omega
  have h3:2 ^ (k+2)=4*2 ^ k:=by rw[uf];omega
  rw[h2,h3];generalize 2 ^ k=p;grind
def WJ(x k:Nat):∃c,gw x (2 ^ k)=x+2 ^ k*(2*c+1):=by
 obtain⟨c,e⟩:=five k;have h:=Q1 x (2 ^ k);rw[e] at h;have h3:2 ^ (k+2)=4*2 ^ k:=by rw[uf];omega
 rw[h3] at h;refine⟨c+(2*c+1)*(2*x),?_⟩;generalize 2 ^ k=p at *;have e2:(1+4*p*(2*c+1))*(4*x+1)=4*(x+p*(2*(c+(2*c+1)*(2*x))+1))+1:=by grind
 omega
def B6(k:Nat):∀x y:Nat,∃m,m<2 ^ k/\gw x m%2 ^ k=y%2 ^ k:=by
 induction k with
 | zero=>intro x y;exact⟨0,by simp,by simp[Nat.mod_one]⟩
 | succ k ih=>
  intro x y;obtain⟨m,hm,e⟩:=ih x y;have hp:2 ^ (k+1)=2*2 ^ k:=by rw[vK];omega
  have pos:0<2 ^ k:=Nat.two_pow_pos k;obtain⟨c,e2⟩:=WJ (gw x m) k;rw[<-JK] at e2;rw[hp];generalize 2 ^ k=p at *;by_cases q:gw x m%(2*p)=y%(2*p)
  .exact⟨m,by omega,q⟩
  .refine⟨m+p,by omega,?_⟩
   rw[e2];have a1:gw x m=p*(gw x m/p)+gw x m%p:=(Nat.div_add_mod _ _).symm;have a2:y=p*(y/p)+y%p:=(Nat.div_add_mod _ _).symm;have r1:=wz y pos;rw[e] at a1;generalize gw x m/p=u at *;generalize y/p=v at *;generalize y%p=r at *;generalize gw x m=g at *;subst a1 a2;have par:∀n:Nat,(p*n+r)%(2*p)=p*(n%2)+r:=by
    intro n;have:p*n+r=(p*(n%2)+r)+(2*p)*(n/2):=by
     have:n=n%2+2*(n/2):=by omega
     rw[this];grind
    rw[this,Nat.add_mul_mod_self_left];apply xT
    have:n%2<2:=wz _ ∅;have:p*(n%2)<=p*1:=Nat.mul_le_mul_left _ ∅;omega
   have e3:p*u+r+p*(2*c+1)=p*(u+(2*c+1))+r:=by grind
   rw[e3,par,par];rw[par,par] at q;have:u%2≠v%2:=λz=>q (by rw[z])
   have:(u+(2*c+1))%2=v%2:=by omega
   rw[this]
def path(t:Ð)(h:Int):Nat->Ī
 | 0=>t.probeStart h
 | n+1=>t.advance (path t h n)
def lp(mask:Nat)(h:Int):Nat->Nat×Nat
 | 0=>(à h%(mask+1),à h)
 | n+1=>Ė mask (lp mask h n).1 (lp mask h n).2
theorem Q4(mask:Nat)(h:Int):∀n,(lp mask h n).2=à h/32 ^ n
 | 0=>by simp[lp]
 | n+1=>by
  show(lp mask h n).2/32=_
  rw[Q4 mask h n,Nat.div_div_eq_div_mul,vK]
def UI(h:Int):à h<2 ^ 64:=by unfold à;omega
def Xw(mask:Nat)(h:Int)(n:Nat):(lp mask h (n+13)).2=0:=by
 rw[Q4];have:=UI h;apply Nat.div_eq_of_lt
 have:32 ^ 13<=32 ^ (n+13):=qL ∅ ∅;omega
def By(mask:Nat)(h:Int)(n:Nat):(lp mask h (12+n)).1%(mask+1)=gw (lp mask h 12).1 n%(mask+1):=by
 induction n with
 | zero=>rfl
 | succ n ih=>
  show((lp mask h (12+n)).1*5+1+(lp mask h (12+n)).2/32)%(mask+1)%(mask+1)=(5*gw (lp mask h 12).1 n+1)%(mask+1)
  have z:(lp mask h (12+n)).2/32=0:=by
   have:=Xw mask h n;have e:n+13=(12+n)+1:=by omega
   rw[e] at this;exact this
  rw[z,Nat.mod_mod,yD,xN];rw[Nat.add_mod,Nat.mul_mod,ih,<-Nat.mul_mod,<-Nat.add_mod]
def DK(mask:Nat)(h:Int)(n:Nat):(lp mask h n).1<mask+1:=by
 cases n with
 | zero=>exact wz _ ∅
 | succ n=>exact wz _ ∅
def Qe(h:Int)(e:mask+1=2 ^ k)(hj:j<=mask):∃n,n<=mask+12/\(lp mask h n).1=j:=by
 obtain⟨m,hm,q⟩:=B6 k (lp mask h 12).1 j;refine⟨12+m,by omega,?_⟩;have a:=By mask h m;rw[e,q,<-e,xT (DK ..),xT ∅] at a;exact a
def B5(mask i:Nat):Þ mask i-i<=9:=by unfold Þ;split<;>omega
def atHead(t:Ð)(h:Int)(m:Nat):Ī:=⟨(lp t.mask h m).1,Þ t.mask (lp t.mask h m).1-(lp t.mask h m).1,(lp t.mask h m).1,(lp t.mask h m).2,Á⟩
theorem rT(t:Ð)(h:Int)(p:Ī):∀(r n:Nat),path t h n={ p with more:=r }->∃j,path t h (n+r)={ p with j:=j,more:=0 }
 | 0,n,e=>⟨p.j,by rw[yD,e]⟩
 | r+1,n,e=>by
  have:path t h (n+1)={ ({ p with j:=p.j+1 }:Ī) with more:=r }:=by
   show t.advance (path t h n)=_
   rw[e];unfold Ą;rw[zW (by simp)];simp
  obtain⟨j,q⟩:=rT t h { p with j:=p.j+1 } r (n+1) this;exact⟨j,by rw[show n+(r+1)=n+1+r from by omega];exact q⟩
theorem nv(t:Ð)(h:Int):∀m,∃n,n<=10*m/\path t h n=atHead t h m
 | 0=>⟨0,by omega,rfl⟩
 | m+1=>by
  obtain⟨n,hn,e⟩:=nv t h m;obtain⟨j,q⟩:=rT t h (atHead t h m) (atHead t h m).more n e;have r:=B5 t.mask (lp t.mask h m).1;refine⟨n+(Þ t.mask (lp t.mask h m).1-(lp t.mask h m).1)+1,by omega,?_⟩;show t.advance (path t h _)=_
  have q':path t h (n+(Þ t.mask (lp t.mask h m).1-(lp t.mask h m).1))=_:=q;rw[q'];unfold Ą;rw[kh (by simp)];rfl
def W4{t:Ð}(h:Int)(e:t.mask+1=2 ^ k)(hj:j<=t.mask):∃n,n<10*ñ t.mask/\(path t h n).j=j:=by
 obtain⟨m,hm,q⟩:=Qe h e hj;obtain⟨n,hn,q2⟩:=nv t h m;refine⟨n,by unfold ñ;omega,?_⟩;rw[q2];exact q
theorem fC(t:Ð)(h:Int):∀n,(path t h n).dummy=Á
 | 0=>rfl
 | n+1=>by
  show(t.advance (path t h n)).dummy=Á
  unfold Ą;split
  .exact fC t h n
  .exact fC t h n
theorem gW(t:Ð)(h:Int):∀n,(path t h n).j+(path t h n).more<=t.mask/\(path t h n).i<=t.mask
 | 0=>by
  have:à h%(t.mask+1)<t.mask+1:=wz _ ∅;show à h%(t.mask+1)+(Þ t.mask (à h%(t.mask+1))-à h%(t.mask+1))<=_/\à h%(t.mask+1)<=_
  unfold Þ;split<;>omega
 | n+1=>by
  obtain⟨a,b⟩:=gW t h n;show(t.advance (path t h n)).j+(t.advance (path t h n)).more<=_/\(t.advance (path t h n)).i<=_
  unfold Ą;split
  .rename_i c
   show(path t h n).j+1+((path t h n).more-1)<=_/\(path t h n).i<=_
   omega
  .show((Ė t.mask (path t h n).i (path t h n).perturb).1)+(Þ t.mask (Ė t.mask (path t h n).i (path t h n).perturb).1-(Ė t.mask (path t h n).i (path t h n).perturb).1)<=_/\(Ė t.mask (path t h n).i (path t h n).perturb).1<=_
   have:(Ė t.mask (path t h n).i (path t h n).perturb).1<t.mask+1:=wz _ ∅;generalize (Ė t.mask (path t h n).i (path t h n).perturb).1=q at *;unfold Þ;split<;>omega
def V8{p:Nat->Prop}:∀n,p n->∃m,m<=n/\p m/\∀k,k<m->¬p k:=by
 intro n;induction n using Nat.strongRecOn with
 | _ n ih=>
  intro h;by_cases q:∃k,k<n/\p k
  .obtain⟨k,a,b⟩:=q
   obtain⟨m,c,d,e⟩:=ih k a b;exact⟨m,by omega,d,e⟩
  .exact⟨n,zG _,h,λk hk hp=>q ⟨k,hk,hp⟩⟩
def tX{t:Ð}(T:TOk t)(h:Int):∃N,N<10*ñ t.mask/\(path t h N).j∉t.place.toList/\∀k,k<N->(path t h k).j∈t.place.toList:=by
 obtain⟨j,hj,hn⟩:=Jx T;obtain⟨k,_,e⟩:=T.pow;obtain⟨n,a,b⟩:=W4 h e hj;obtain⟨m,c,d,f⟩:=V8 (p:=λn=>(path t h n).j∉t.place.toList) n (by rw[b];exact hn)
 exact⟨m,by omega,d,λk hk=>by
  have:=f k hk;by_cases q:(path t h k).j∈t.place.toList
  .exact q
  .exact absurd q this⟩
def Yd{t:Ð}(T:TOk t)(hashAt:Nat->Int)(h:Int)(hN:(path t h N).j∉t.place.toList)(hb:∀k,k<N->(path t h k).j∈t.place.toList):∀(F n:Nat),n<=N->N-n<F->
  (∃m i,n<=m/\m<N/\t.slot (path t h m).j=.live i/\hashAt i=h/\ý t hashAt h F (path t h n)=À (.candidate (path t h m).j i (path t h (m+1)))/\∀m',n<=m'->m'<m->∀i',t.slot (path t h m').j=.live i'->hashAt i'≠h) \/
  (ý t hashAt h F (path t h n)=À (.empty (path t h N).j Á)/\∀m',n<=m'->m'<N->∀i',t.slot (path t h m').j=.live i'->hashAt i'≠h):=by
 intro F;induction F with
 | zero=>intro n _ q;omega
 | succ F ih=>
  intro n hn hF;rcases jU hn with q | q
  .obtain⟨i,hi,e1,e2⟩ | ⟨e1,_⟩:=slot_of T (path t h n).j
   .have e:ý t hashAt h (F+1) (path t h n)=if hashAt i==h then À (.candidate (path t h n).j i (t.advance (path t h n))) else ý t hashAt h F (t.advance (path t h n)):=by
     rw[ý,e2]
    by_cases c:hashAt i=h
    .refine .inl ⟨n,i,zG _,q,e2,c,?_,λm' a b=>absurd a ∅⟩
     rw[e,zW (by simpa using c)];rfl
    .rw[e,kh (by simpa using c)]
     have step:∀m',n<=m'->m'<n+1->∀i',t.slot (path t h m').j=.live i'->hashAt i'≠h:=by
      intro m' a b i' z;have:m'=n:=by omega
      subst this;rw[e2] at z;cases z;exact c
     rcases ih (n+1) q ∅ with ⟨m,i',a,b,c1,c2,c3,c4⟩ | ⟨a,b⟩
     .refine .inl ⟨m,i',by omega,b,c1,c2,c3,λm' z1 z2 Ih z3=>?_⟩
      by_cases w:m'<n+1
      .exact step m' z1 w Ih z3
      .exact c4 m' ∅ z2 Ih z3
     .refine .inr ⟨a,λm' z1 z2 Ih z3=>?_⟩
      by_cases w:m'<n+1
      .exact step m' z1 w Ih z3
      .exact b m' ∅ z2 Ih z3
   .exact absurd (hb n q) e1
  .subst q
   refine .inr ⟨?_,λm' a b=>absurd a ∅⟩;rw[ý,lq T hN,fC]
theorem aI{t t':Ð}(e:t.mask=t'.mask)(h:Int):∀n,path t h n=path t' h n
 | 0=>by show t.probeStart h=t'.probeStart h;unfold SetTable.probeStart;rw[e]
 | n+1=>by
  show t.advance (path t h n)=t'.advance (path t' h n)
  rw[aI e h n];unfold Ą;rw[e]
def On(t:Ð)(occ:Nat->Prop)(j:Nat)(h:Int):Prop:=∃n,(path t h n).j=j/\∀m,m<n->occ (path t h m).j
def On.mono{t t':Ð}(o:On t occ j h)(e:t.mask=t'.mask)(k:∀j,occ j->occ' j):On t' occ' j h:=by
 obtain⟨n,a,b⟩:=o;exact⟨n,by rw[<-aI e];exact a,λm hm=>k _ (by rw[<-aI e];exact b m hm)⟩
structure SOk(t:Ð)(es:List (Int×Ä))(R:List (Nat×(Int×Ä))):Prop where
 T:TOk t
 pl:R.map (·.1)=t.place.toList
 es:R.map (·.2)=es
 on:∀r∈R,On t (· ∈ t.place.toList) r.1 r.2.1
 few:t.place.size*5<t.mask*3
def df{α:Type}(xs:Array α){p:Nat}(hp:p<=xs.size)(x:α):(Ċ xs p x).toList=xs.toList.take p++x::xs.toList.drop p:=by
 unfold Ċ;simp[Array.toList_extract,List.extract_eq_take_drop];rw[yt (by simp)]
def fL{t:Ð}(T:TOk t)(j:Nat):(t.put j).1.place.toList=t.place.toList.take (t.put j).2++j::t.place.toList.drop (t.put j).2:=df _ (u7 T.up).1 _
def CA{t:Ð}(T:TOk t)(hj:j<=t.mask)(hn:j∉t.place.toList)(hr:t.place.size+1<=t.mask):TOk (t.put j).1:=by
 have L:=fL T j;obtain⟨b1,b2,b3⟩:=u7 (xs:=t.place) (j:=j) T.up;refine⟨?_,?_,?_,T.pow,?_⟩
 .show(if Ř t.dummies j then _ else t.dummies)=_
  rw[T.nod,mK];rfl
 .rw[L]
  have hl:∀x∈t.place.toList.take (t.put j).2,x<j:=λx hx=>by
   obtain⟨i,h1,h2⟩:=vI hx;rw[v8] at h1;rw[List.getElem_take] at h2;have:=b2 i (by simp at h1;omega) (show i<(t.put j).2 by omega);simp at h2;omega
  have hg:∀x∈t.place.toList.drop (t.put j).2,j<x:=λx hx=>by
   obtain⟨i,h1,h2⟩:=vI hx;rw[qC] at h1;rw[List.getElem_drop] at h2;have h3:(t.put j).2+i<t.place.size:=by simp at h1;omega
   have:=b3 ((t.put j).2+i) h3 (xU _ _);simp at h2;have ne:x≠j:=λz=>hn (by rw[<-z];exact jC hx)
   omega
  refine List.pairwise_append.mpr ⟨T.up.sublist (xu _ _),j9.mpr ⟨hg,T.up.sublist (List.drop_sublist _ _)⟩,λa ha b hb=>?_⟩;rcases zj.mp hb with rfl | hb
  .exact hl a ha
  .exact uZ (hl a ha) (hg b hb)
 .intro x hx
  rw[L] at hx;rcases zA.mp hx with hx | hx
  .exact T.le x (vd hx)
  .rcases zj.mp hx with rfl | hx
   .exact hj
   .exact T.le x (jC hx)
 .show(t.put j).1.place.size<=t.mask
  have:(t.put j).1.place.toList.length=t.place.toList.length+1:=by
   rw[L,zL,zE,<-Nat.add_assoc,<-zL,qD]
  simp at this;omega
def Ud{t:Ð}(T:TOk t)(j x:Nat):x∈(t.put j).1.place.toList↔x=j\/x∈t.place.toList:=by
 rw[fL T];constructor
 .intro h
  rcases zA.mp h with h | h
  .exact .inr (vd h)
  .rcases zj.mp h with h | h
   .exact .inl h
   .exact .inr (jC h)
 .rintro(rfl | h)
  .exact jh _ (zr ..)
  .rw[<-qD (t.put j).2 t.place.toList] at h
   rcases zA.mp h with h | h
   .exact vf _ h
   .exact jh _ (zm _ h)
theorem SOk.put{t:Ð}{es:Array (Int×Ä)}{R:List (Nat×(Int×Ä))}(S:SOk t es.toList R)(hN:(path t h N).j∉t.place.toList)(hb:∀k,k<N->(path t h k).j∈t.place.toList)
  (t':Ð) (hm:t'.mask=t.mask) (hp:t'.place=(t.put (path t h N).j).1.place) (hd:t'.dummies=(t.put (path t h N).j).1.dummies) (few:t'.place.size*5<t'.mask*3) :
  ∃R',SOk t' (Ċ es (t.put (path t h N).j).2 (h,x)).toList R'/\R'.Perm (((path t h N).j,(h,x))::R):=by
 have T:=S.T;have L:=fL T (path t h N).j;have hj:(path t h N).j<=t.mask:=by have:=(gW t h N).1;omega
 have hr:t.place.size+1<=t.mask:=by
  have:=S.few;obtain⟨k,a,b⟩:=T.pow;have:2 ^ 3<=2 ^ k:=qL ∅ a;omega
 have T':=CA T hj hN hr;have ET:R.length=es.size:=by have:=jt â S.es;simpa using this
 have EU:R.length=t.place.size:=by have:=jt â S.pl;simpa using this
 have Ii:(t.put (path t h N).j).2<=es.size:=by
  have:=(u7 (xs:=t.place) (j:=(path t h N).j) T.up).1;rw[<-ET,EU];exact this
 generalize hq:(t.put (path t h N).j).2=p at *;refine⟨R.take p++((path t h N).j,(h,x))::R.drop p,⟨⟨by rw[hd];exact T'.nod,by rw[hp];exact T'.up,by rw[hp,hm];exact T'.le,by rw[hm];exact T.pow,by rw[hp,hm];exact T'.room⟩,?_,?_,?_,few⟩,?_⟩
 .rw[hp,L]
  simp[uK,yV,S.pl]
 .rw[df _ Ii]
  simp[uK,yV,S.es]
 .have up:∀j,j∈t.place.toList->j∈t'.place.toList:=λj hj=>by rw[hp];exact(Ud T _ _).mpr (.inr hj)
  intro r hr;rcases zA.mp hr with hr | hr
  .exact(S.on r (vd hr)).mono hm.symm up
  .rcases zj.mp hr with rfl | hr
   .exact On.mono (t:=t) (occ:=(· ∈ t.place.toList)) ⟨N,rfl,hb⟩ hm.symm up
   .exact(S.on r (jC hr)).mono hm.symm up
 .have:R.Perm (R.take p++R.drop p):=by rw[qD]
  exact List.perm_middle.trans (ę _ this.symm)
theorem dF(t:Ð)(h:Int)(e:path t h n=atHead t h m):∀k,k<=(atHead t h m).more->path t h (n+k)=⟨(lp t.mask h m).1+k,(atHead t h m).more-k,(lp t.mask h m).1,(lp t.mask h m).2,Á⟩
 | 0,_=>by rw[yD,e];rfl
 | k+1,hk=>by
  show t.advance (path t h (n+k))=_
  rw[dF t h e k ∅];unfold Ą;rw[zW (show(atHead t h m).more-k>0 by omega)];erw[SetTable.Probe.mk.injEq,uH];omega
theorem QY(t:Ð)(h:Int)(e:path t h n=atHead t h m):path t h (n+(atHead t h m).more+1)=atHead t h (m+1):=by
 show t.advance (path t h (n+(atHead t h m).more))=_
 rw[dF t h e _ (zG _)];unfold Ą;rw[kh (by simp)];rfl
def em(owner:Array (Option Nat))(j:Nat):Bool:=(owner.getD j (À 0)).isNone
def Uu(t:Ð)(h:Int)(owner:Array (Option Nat)):∀(hJ m n:Nat),path t h n=atHead t h m->(∀k,k<n->em owner (path t h k).j=Â)->(∃d,d<hJ/\em owner (lp t.mask h (m+d)).1=Ã)->
  ∃N,Ē t.mask owner hJ (lp t.mask h m).1 (lp t.mask h m).2=À (path t h N).j/\em owner (path t h N).j=Ã/\∀k,k<N->em owner (path t h k).j=Â:=by
 intro hJ;induction hJ with
 | zero=>rintro m n _ _ ⟨d,hd,_⟩;omega
 | succ hJ ih=>
  rintro m n e hb ⟨d,hd,he⟩;have hi:(lp t.mask h m).1<=Þ t.mask (lp t.mask h m).1:=by unfold Þ;split<;>omega
  have M9:(atHead t h m).more=Þ t.mask (lp t.mask h m).1-(lp t.mask h m).1:=rfl;unfold Ē;cases q:(Ô (Þ t.mask (lp t.mask h m).1+1-(lp t.mask h m).1)).find? (λk=>(owner.getD ((lp t.mask h m).1+k) (À 0)).isNone) with
  | some k=>
   obtain⟨a,b,c⟩:=List.find?_range_eq_some.mp q;have hk:k<=(atHead t h m).more:=by have:=ju.mp b;omega
   refine⟨n+k,?_,?_,λk' Pg=>?_⟩
   .simp only[]
    rw[dF t h e k hk]
   .rw[dF t h e k hk];exact a
   .by_cases z:k'<n
    .exact hb k' z
    .have e2:k'=n+(k'-n):=by omega
     rw[e2,dF t h e (k'-n) ∅];have:=c (k'-n) ∅;unfold em;simpa using this
  | none=>
   simp only[];have all:=List.find?_range_eq_none.mp q;have hb2:∀k,k<n+(atHead t h m).more+1->em owner (path t h k).j=Â:=λk' Pg=>by
    by_cases z:k'<n
    .exact hb k' z
    .have e2:k'=n+(k'-n):=by omega
     rw[e2,dF t h e (k'-n) ∅];have:=all (k'-n) ∅;unfold em;simpa using this
   refine ih (m+1) _ (QY t h e) hb2 ?_;cases d with
   | zero=>
    have:=all 0 ∅;rw[yD] at he;unfold em at he;rw[yD,he] at this;cases this
   | succ d=>exact⟨d,by omega,by rw[show m+1+d=m+(d+1) from by omega];exact he⟩
def live(mask:Nat)(owner:Array (Option Nat)):List (Nat×Nat):=(Ô (mask+1)).filterMap λj=>(owner.getD j Á).map (j,·)
theorem pV:∀{l:List Nat},(∀x∈l,g x=f x)->l.filterMap g=l.filterMap f
 | [],_=>rfl
 | x::l,h=>by
  have e:=h x (zr ..);have r:=pV (l:=l) λy hy=>h y (zm _ hy)
  erw[wC,e,r]
theorem JI(hf:f j=Á)(hg:g j=À v)(ho:∀i,i≠j->g i=f i):∀l:List Nat,l.Nodup->j∈l->(l.filterMap g).Perm (v::l.filterMap f)
 | [],_,h=>by cases h
 | i::l,nd,h=>by
  obtain⟨n1,n2⟩:=jJ.mp nd;by_cases e:i=j
  .subst e
   rw[jP hg,qM hf];have:l.filterMap g=l.filterMap f:=by
    apply pV
    intro x hx;exact ho x λz=>n1 (z▸hx)
   rw[this]
  .have hj:j∈l:=by
    rcases zj.mp h with h | h
    .exact absurd h.symm e
    .exact h
   have ih:=JI hf hg ho l n2 hj;cases q:f i with
   | none=>rw[qM (by rw[ho i e,q]),qM q];exact ih
   | some u=>
    rw[jP (by rw[ho i e,q]),jP q];exact(ę _ ih).trans (Ŧ _ _ _)
structure LInv(t:Ð)(owner:Array (Option Nat))(D:List Int):Prop where
 sz:owner.size=t.mask+1
 perm:((live t.mask owner).map (·.2)).Perm (Ô D.length)
 on:∀j i,owner.getD j Á=À i->∃h,D[i]?=À h/\On t (λj=>em owner j=Â) j h
def mem_live{owner:Array (Option Nat)}:(j,i)∈live mask owner↔j<mask+1/\owner.getD j Á=À i:=by
 unfold live;rw[yU];constructor
 .rintro⟨j',a,b⟩
  obtain⟨i',c,d⟩:=zq.mp b;cases d;exact⟨ju.mp a,c⟩
 .rintro⟨a,b⟩
  exact⟨j,ju.mpr a,by rw[b];rfl⟩
def em_iff{owner:Array (Option Nat)}(hs:owner.size=mask+1)(hj:j<=mask):em owner j=Ã↔owner.getD j Á=Á:=by
 have:j<owner.size:=by omega
 unfold em þ;simp[this]
def QQ{t:Ð}{D:List Int}(I:LInv t owner D)(hl:D.length<=t.mask):∃j,j<=t.mask/\em owner j=Ã:=by
 by_cases q:∃j,j<=t.mask/\em owner j=Ã
 .exact q
 .have h:=iP (t.mask+1) ((live t.mask owner).map (·.1)) λj hj=>by
   have:owner.getD j Á≠Á:=λz=>q ⟨j,by omega,(em_iff I.sz ∅).mpr z⟩
   obtain⟨i,e⟩:=um.mp this;exact zp.mpr ⟨(j,i),mem_live.mpr ⟨hj,e⟩,rfl⟩
  have:=I.perm.length_eq;simp at h this;omega
def V7{t:Ð}(hp:t.mask+1=2 ^ k){owner:Array (Option Nat)}{D:List Int}(I:LInv t owner D)(hl:D.length<=t.mask)(h:Int) :
  ∃j,Ē t.mask owner (ñ t.mask) (à h%(t.mask+1)) (à h)=À j/\LInv t (owner.setIfInBounds j (À D.length)) (D++[h]):=by
 obtain⟨j0,Ph,Pi⟩:=QQ I hl;obtain⟨m0,Na,e0⟩:=Qe h hp Ph;obtain⟨N,a,b,c⟩:=Uu t h owner (ñ t.mask) 0 0 rfl (λk hk=>absurd hk ∅) ⟨m0,by unfold ñ;omega,by rw[Nat.zero_add,e0];exact Pi⟩;refine⟨(path t h N).j,a,?_⟩;have hj:(path t h N).j<=t.mask:=by have:=(gW t h N).1;omega
 have hn:=(em_iff I.sz hj).mp b;have upd:∀i,(owner.setIfInBounds (path t h N).j (À D.length)).getD i Á=if i=(path t h N).j then À D.length else owner.getD i Á:=by
  intro i;by_cases e:i=(path t h N).j
  .subst e
   have:(path t h N).j<owner.size:=by rw[I.sz];omega
   simp[þ,this]
  .rw[kh e]
   unfold þ;erw[vM];split
   .exact Array.getElem_setIfInBounds_ne _ (λz=>e z.symm)
   .rfl
 have keep:∀i,em owner i=Â->em (owner.setIfInBounds (path t h N).j (À D.length)) i=Â:=by
  intro i e;by_cases q:i<=t.mask
  .cases z:em (owner.setIfInBounds (path t h N).j (À D.length)) i with
   | false=>rfl
   | true=>
    have z2:=(em_iff (mask:=t.mask) (by rw[vM];exact I.sz) q).mp z;rw[upd] at z2;split at z2
    .cases z2
    .rw[(em_iff I.sz q).mpr z2] at e;cases e
  .unfold em þ
   rw[dif_neg (by rw[vM,I.sz];omega)];rfl
 refine⟨by rw[vM];exact I.sz,?_,?_⟩
 .have P:=JI (f:=λj=>(owner.getD j Á).map (j,·)) (g:=λj=>((owner.setIfInBounds (path t h N).j (À D.length)).getD j Á).map (j,·)) (j:=(path t h N).j) (v:=((path t h N).j,D.length)) (by rw[hn];rfl) (by rw[upd,zW rfl];rfl) (λi hi=>by rw[upd,kh hi]) (Ô (t.mask+1)) List.nodup_range (ju.mpr ∅)
  have P2:=P.map (·.2);rw[zu] at P2;rw[zL,vY,wA];exact P2.trans ((ę _ I.perm).trans (List.perm_append_comm (l₁:=[D.length])))
 .intro j i e
  rw[upd] at e;by_cases z:j=(path t h N).j
  .rw[zW z] at e
   cases e;subst z;refine⟨h,by simp,N,rfl,λm hm=>keep _ (c m hm)⟩
  .rw[kh z] at e
   obtain⟨h',e1,e2⟩:=I.on j i e;have:i<D.length:=by
    obtain⟨q,_⟩:=zJ.mp e1;exact q
   exact⟨h',by rw[zY this];exact e1,e2.mono rfl keep⟩
theorem Zl{t:Ð}(hp:t.mask+1=2 ^ k):∀(l:List Int) (owner:Array (Option Nat)) (D:List Int),LInv t owner D->D.length+l.length<=t.mask+1->
  ∃owner',(l.foldl (init:=À (owner,D.length)) λacc h=>do
   let (owner,k) <-acc
   let j <-Ē t.mask owner (ñ t.mask) (à h%(t.mask+1)) (à h)
   pure (owner.setIfInBounds j (À k),k+1))=À (owner',(D++l).length)/\LInv t owner' (D++l)
 | [],owner,D,I,_=>⟨owner,by simp,by rw[qN];exact I⟩
 | h::l,owner,D,I,hl=>by
  erw[zE] at hl;obtain⟨j,e,I'⟩:=V7 hp I ∅ h;obtain⟨o',e2,I2⟩:=Zl hp l _ _ I' (by rw[zL,vY];omega);refine⟨o',?_,by rw[qZ] at I2;exact I2⟩;rw[List.foldl_cons];have e3:D++h::l=D++[h]++l:=by simp
  rw[e3,<-e2];congr 1
  erw[Option.bind_eq_bind,jM,e,Option.pure_def,zL,vY]
def D3(t:Ð):LInv t (Ŝ (t.mask+1) Á) []:=by
 have z:∀j,(Ŝ (t.mask+1) (Á:Option Nat)).getD j Á=Á:=by
  intro j;unfold þ;split
  .simp
  .rfl
 refine⟨by simp,?_,λj i e=>by rw[z] at e;cases e⟩;have:live t.mask (Ŝ (t.mask+1) Á)=[]:=by
  unfold live;rw[List.filterMap_eq_nil_iff];intro j _;rw[z];rfl
 rw[this];exact List.Perm.nil
theorem t9(hp:mask+1=2 ^ k)(H:Array Int)(hl:H.size<=mask)(t:Ð)(ht:t.mask=mask):∃owner,SetTable.layClean mask H=À owner/\LInv t owner H.toList:=by
 subst ht;obtain⟨o,e,I⟩:=Zl hp H.toList _ [] (D3 t) (by simp;omega);refine⟨o,?_,by simpa using I⟩;unfold SetTable.layClean;rw[<-Array.foldl_toList];rw[show(([]:List Int).length)=0 from rfl] at e;rw[e];rfl
def Ut(mask:Nat)(owner:Array (Option Nat)):((live mask owner).map (·.1)).Pairwise (· < ·):=by
 unfold live;have:∀l:List Nat,l.Pairwise (· < ·)->((l.filterMap λj=>(owner.getD j Á).map (j,·)).map (·.1)).Pairwise (· < ·)/\∀x∈(l.filterMap λj=>(owner.getD j Á).map (j,·)).map (·.1),x∈l:=by
  intro l;induction l with
  | nil=>intro _;exact⟨ė,λx h=>by cases h⟩
  | cons j l ih=>
   intro h;obtain⟨h1,h2⟩:=j9.mp h;obtain⟨i1,i2⟩:=ih h2;cases q:owner.getD j Á with
   | none=>
    rw[qM (by rw[q];rfl)];exact⟨i1,λx hx=>zm _ (i2 x hx)⟩
   | some v=>
    rw[jP (b:=(j,v)) (by rw[q];rfl),zu]
    exact⟨j9.mpr ⟨λx hx=>h1 x (i2 x hx),i1⟩,λx hx=>by
     rcases zj.mp hx with rfl | hx
     .exact zr ..
     .exact zm _ (i2 x hx)⟩
 exact(this _ (qQ)).1
def filterMap_get{α:Type}(l:List α):(Ô l.length).filterMap (l[·]?)=l:=by
 induction l with
 | nil=>rfl
 | cons a l ih=>
  rw[zE,List.range_succ_eq_map,jP (b:=a) (by rfl),yW];congr 1
def Xs(hp:mask+1=2 ^ k)(hk:3<=k)(es:Array (Int×Ä))(few:es.size*5<mask*3)(finger moves:Nat)(led plain:Bool) :
  ∃t' order,Ű mask finger moves led plain (es.map (·.1))=À (t',order)/\t'.mask=mask/\t'.led=led/\t'.plain=plain/\t'.finger=finger/\t'.moves=moves/\(order.filterMap (es[·]?)).toList.Perm es.toList /\
   ∃R',SOk t' (order.filterMap (es[·]?)).toList R':=by
 let t0:Ð:={ mask,place:=#[],dummies:=#[],finger,led,moves,plain }
 obtain⟨owner,e,I⟩:=t9 hp (es.map (·.1)) (by simp;omega) t0 rfl;let lv:=live mask owner
 let t':Ð:={ mask,place:=(lv.map (·.1)).toArray,dummies:=#[],finger,led,moves,plain }
 have hI:((live mask owner).map (·.2)).Perm (Ô es.size):=by have:=I.perm;simpa using this
 have pe:((lv.map (·.2)).toArray.filterMap (es[·]?)).toList.Perm es.toList:=by
  rw[uW];have:=List.Perm.filterMap (es[·]?) hI;refine this.trans ?_;have e2:=filterMap_get es.toList;erw[kj,u6] at e2;rw[e2]
 refine⟨t',(lv.map (·.2)).toArray,?_,rfl,rfl,rfl,rfl,rfl,pe,?_⟩
 .unfold Ű
  rw[e];rfl
 .have EV:lv.length=es.size:=by have:=hI.length_eq;simpa using this
  have inr:∀p∈lv,p.2<es.size:=λp hp=>ju.mp (hI.mem_iff.mp (zp.mpr ⟨p,hp,rfl⟩))
  let R':=lv.map λp=>(p.1,es.toList.getD p.2 (0,Ó))
  have Ij:∀p∈lv,es[p.2]?=À (es.toList.getD p.2 (0,Ó)):=λp hp=>by
   have:=inr p hp;simp[ă,this]
  have Pj:∀j,j<=mask->(em owner j=Â↔j∈lv.map (·.1)):=λj hj=>by
   constructor
   .intro q
    have:owner.getD j Á≠Á:=λz=>by rw[(em_iff I.sz hj).mpr z] at q;cases q
    obtain⟨i,e⟩:=um.mp this;exact zp.mpr ⟨(j,i),mem_live.mpr ⟨by omega,e⟩,rfl⟩
   .intro q
    obtain⟨⟨j',i⟩,a,b⟩:=zp.mp q;cases b;cases z:em owner j' with
    | false=>rfl
    | true=>
     have:=(em_iff (mask:=mask) I.sz hj).mp z;rw[(mem_live.mp a).2] at this;cases this
  refine⟨R',⟨⟨rfl,?_,?_,⟨k,hk,hp⟩,?_⟩,?_,?_,?_,?_⟩⟩
  .exact Ut mask owner
  .intro j hj
   obtain⟨⟨j',i⟩,a,b⟩:=zp.mp hj;cases b;have:=(mem_live.mp a).1;show j'<=mask
   omega
  .show(lv.map (·.1)).toArray.size<=mask
   simp[EV];omega
  .show(lv.map λp=>(p.1,es.toList.getD p.2 (0,Ó))).map (·.1)=(lv.map (·.1)).toArray.toList
   simp
  .show(lv.map λp=>(p.1,es.toList.getD p.2 (0,Ó))).map (·.2)=((lv.map (·.2)).toArray.filterMap (es[·]?)).toList
   rw[uW,yW,z9];have:∀l:List (Nat×Nat),(∀p∈l,es[p.2]?=À (es.toList.getD p.2 (0,Ó)))->l.map ((λ(x:Nat×(Int×Ä))=>x.2)∘λp=>(p.1,es.toList.getD p.2 (0,Ó)))=l.filterMap ((λx=>es[x]?)∘λx=>x.2):=by
    intro l;induction l with
    | nil=>intro _;rfl
    | cons p l ih=>
     intro h;have e0:((λx=>es[x]?)∘λ(x:Nat×Nat)=>x.2) p=À (es.toList.getD p.2 (0,Ó)):=h p (zr ..);rw[jP e0,zu,ih λq hq=>h q (zm _ hq)];rfl
   exact this lv Ij
  .intro r hr
   obtain⟨⟨j,i⟩,a,b⟩:=zp.mp hr;cases b;obtain⟨h,e1,e2⟩:=I.on j i (mem_live.mp a).2;have e3:h=(es.toList.getD i (0,Ó)).1:=by
    have:=Ij _ a;have EE:(es.map (·.1))[i]?=À h:=by simpa using e1
    rw[Array.getElem?_map,this] at EE;simpa using EE.symm
   obtain⟨n,q1,q2⟩:=e2;refine⟨n,?_,λm hm=>?_⟩
   .show(path t' (es.toList.getD i (0,Ó)).1 n).j=j
    rw[<-e3,aI (t:=t') (t':=t0) rfl];exact q1
   .show(path t' (es.toList.getD i (0,Ó)).1 m).j∈(lv.map (·.1)).toArray.toList
    rw[<-e3,aI (t:=t') (t':=t0) rfl];have le:=(gW t0 h m).1;exact(Pj _ (by have:t0.mask=mask:=rfl;omega)).mp (q2 m hm)
  .show(lv.map (·.1)).toArray.size*5<mask*3
   simp[EV];exact few
theorem Z4(n:Nat):∀(hJ k:Nat),n<2 ^ (k+hJ)->∃k',k<=k'/\SetTable.sizeAbove.go n hJ (2 ^ k)=2 ^ k'/\n<2 ^ k'/\(2 ^ k'<=2*n\/k'=k)
 | 0,k,h=>⟨k,zG _,rfl,h,.inr rfl⟩
 | hJ+1,k,h=>by
  unfold SetTable.sizeAbove.go;by_cases c:2 ^ k<=n
  .rw[zW c,<-vK]
   obtain⟨k',a,b,d,e⟩:=Z4 n hJ (k+1) (by rw[show k+1+hJ=k+(hJ+1) from by omega];exact h);refine⟨k',by omega,b,d,.inl ?_⟩;rcases e with e | e
   .exact e
   .subst e;rw[vK];omega
  .rw[kh c]
   exact⟨k,zG _,rfl,by omega,.inr rfl⟩
def rG(h:n<2 ^ 60):∃k,3<=k/\ŷ n=2 ^ k/\n<2 ^ k/\(2 ^ k<=2*n\/k=3):=by
 have h2:2 ^ 60<=2 ^ (3+64):=qL ∅ ∅;obtain⟨k,a,b,c,d⟩:=Z4 n 64 3 (zO h h2);exact⟨k,a,b,c,d⟩
section
variable{prog:Í}{w:Ñ}{K:Type}[DecidableEq K]{knd:KeyKind prog w K}{A:Ö}{E:Ä->Å->Prop}{s:Å}
def JT(n:Nat)(h:Ď v=Ã):Ę n v=pure Â:=by
 cases v with
 | ref a=>simp[Ď] at h
 | _=>first | rfl | simp[Ę] | (unfold Ę;rfl)
def oC(hk:Ú knd s.heap ks a)(h:Q Â s):É (Ë prog w) A (Ę 8 (.ref a)) Q E s:=by
 have hT:=hk.typeIs;obtain⟨o,items,n,ho,_,hd,hi⟩:=hk;unfold Ę;refine zc (qy hT ?_);dsimp only;rw[if_pos (by rfl)];refine zc (zg ?_);rw[kh (by simp)];refine zc (jO ho hd ?_);dsimp only;refine ô ?_;rw[<-Ÿ];refine yK _ (λrest r s'=>r.1=Á/\s'=s/\∀v∈rest,Ď v=Ã) _ ?_ ?_ _ _ ⟨rfl,rfl,hi.byValue⟩
 .rintro v rest r s' ⟨hr,rfl,oj⟩
  rw[JT _ (oj v zr)];refine zc (zg ?_);erw[zN,jn];exact zg ⟨rfl,rfl,λu LV=>oj u (zm _ LV)⟩
 .rintro⟨r1,r2⟩ s' ⟨hr,rfl,_⟩
  simp only at hr;subst hr;exact zg h
def U0(hk:Ú knd s.heap ks x)(hl:∀v∈l,∃Ap b,v=.ref b/\Ú knd s.heap Ap b)(h:Q Â s):É (Ë prog w) A (searchCouldBeSeen (.ref x) l) Q E s:=by
 unfold searchCouldBeSeen;refine zc ?_;refine yK _ (λrest r s'=>r.1=Á/\s'=s/\∀v∈rest,∃Ap b,v=.ref b/\Ú knd s.heap Ap b) _ ?_ ?_ _ _ ⟨rfl,rfl,hl⟩
 .rintro v rest r s' ⟨hr,rfl,oj⟩
  obtain⟨Ap,b,rfl,hb⟩:=oj v zr;have fin:∀u∈rest,∃Ap b,u=.ref b/\Ú knd s'.heap Ap b:=λu hu=>oj u (zm _ hu)
  dsimp only;by_cases e:(x==b)=Ã
  .rw[zW (by simp[e])]
   exact zg ⟨rfl,rfl,fin⟩
  .rw[kh (by simp[e,Ď])]
   refine zc (ş hk ?_);erw[yh,zN,jn];refine zc (ş hb ?_);erw[yh,zN,jn];refine zc (oC hk ?_);erw[zN,jn];refine zc (oC hb ?_);erw[zN,jn];exact zg ⟨rfl,rfl,fin⟩
 .rintro⟨r1,r2⟩ s' ⟨hr,rfl,_⟩
  simp only at hr;subst hr;exact zg h
def SetT(knd:KeyKind prog w K)(h:Ò)(a:È)(L:List (List K×È)):Prop:=
 ∃o es ep t R,h.get? a=À o/\o.ExactSet/\o.data=.set es ep t/\t.mask<=8191/\t.led = !w.params.followText "set-order" /\ SOk t es.toList R/\es.toList=L.map (λp=>(Ì knd p.1,Ï p.2))/\(L.map (·.1)).Nodup/\∀p∈L,Ú knd h p.1 p.2
theorem TOk.odd{t:Ð}(T:TOk t):t.gaveWay=Â:=by
 obtain⟨k,a,b⟩:=T.pow;unfold SetTable.gaveWay;obtain⟨k,rfl⟩:∃j,k=j+1:=⟨k-1,by omega⟩;rw[vK] at b;have:t.mask%2=1:=by omega
 rw[this];rfl
theorem SOk.fits{t:Ð}{es:Array (Int×Ä)}{R:List (Nat×(Int×Ä))}(S:SOk t es.toList R):t.fits es.size=Ã:=by
 have a:=jt â S.pl;have b:=jt â S.es;erw[zF,kj] at a b;unfold ŉ ű;rw[S.T.nod];have:=S.T.room;simp;omega
theorem SOk.at{t:Ð}{es:Array (Int×Ä)}{R:List (Nat×(Int×Ä))}(S:SOk t es.toList R)(h:t.slot j=.live i):∃e,es[i]?=À e/\(j,e)∈R/\t.place[i]?=À j:=by
 obtain⟨i',hi,e1,e2⟩ | ⟨_,e2⟩:=slot_of S.T j
 .rw[e2] at h
  cases h;have a:=jt â S.pl;erw[zF,kj] at a;have hr:i<R.length:=by omega
  have p1:R[i].1=j:=by
   have:=jt (·[i]?) S.pl;simp[hr,hi] at this;rw[this];exact e1
  have p2:es[i]?=À R[i].2:=by
   have:=jt (·[i]?) S.es;simp[hr] at this;exact this.symm
  exact⟨R[i].2,p2,by rw[<-p1];exact qe hr,by rw[<-e1];simp[hi]⟩
 .rw[e2] at h;cases h
end
section
variable{prog:Í}{w:Ñ}{K:Type}[DecidableEq K]{knd:KeyKind prog w K}{A:Ö}{E:Ä->Å->Prop}{s:Å}
def Cw{α:Type}{c:Bool}{m:Sem Bool}{X Y:Sem α}{Q:α->Å->Prop}(hm:É (Ë prog w) A m (λb s'=>b=Â/\s'=s) E s)(hY:É (Ë prog w) A Y Q E s) :
  É (Ë prog w) A (if c=Ã then (do let b <-m;if b=Ã then X else Y) else Y) Q E s:=by
 cases c with
 | true=>
  rw[zW rfl];refine zc (j8 hm (λb s' h=>?_) λ_ _ h=>h);obtain⟨rfl,rfl⟩:=h;rw[kh (by simp)];exact hY
 | false=>rw[kh (by simp)];exact hY
theorem K7{L:List (List K×È)}{o:ö}{es:Array (Int×Ä)}{t:Ð}{R:List (Nat×(Int×Ä))}
  (hu:A.units<ď) (ho:s.heap.get? a=À o) (hd:o.data=.set es ep t) (S:SOk t es.toList R) (hL:es.toList=L.map (λp=>(Ì knd p.1,Ï p.2))) (hT:∀p∈L,Ú knd s.heap p.1 p.2) (hk:Ú knd s.heap k x)
  (hN:(path t (Ì knd k) N).j∉t.place.toList) (hb:∀m,m<N->(path t (Ì knd k) m).j∈t.place.toList) (lx:N<10*ñ t.mask)
  (yes:∀i,adding=Ã\/(∃p,L[i]?=À p/\p.1=k)->(∃p∈L,p.1=k)->Q (.there (if adding then Á else À i)) s):∀(hJ n:Nat) (AW:Option Ī),AW.getD (t.probeStart (Ì knd k))=path t (Ì knd k) n->n<=N->N-n<hJ->
  ((∀m i e,n<=m->m<N->t.slot (path t (Ì knd k) m).j=.live i->L[i]?=À e->e.1≠k)->Q (.free (path t (Ì knd k) N).j Â) s)->
  É (Ë prog w) A (Ŋ a (.ref x) (Ì knd k) adding hJ AW) Q E s:=by
 intro hJ;induction hJ with
 | zero=>intro n AW _ _ q;omega
 | succ hJ ih=>
  intro n AW hs hn hf no;have getL:∀{i:Nat} {e:Int×Ä},es[i]?=À e->∃p,L[i]?=À p/\e=(Ì knd p.1,Ï p.2):=by
   intro i e he;have h1:es.toList[i]?=À e:=by simpa using he
   rw[hL,kW] at h1;obtain⟨p,a1,a2⟩:=zq.mp h1;exact⟨p,a1,a2.symm⟩
  unfold Ŋ;refine zc (jT ho hd S.fits ?_);dsimp only;rw[S.T.odd];erw[zN,jn];rw[hs];generalize hF:t.probe _ (Ì knd k) (path t (Ì knd k) n)=r;have IS:ý t (λi=>(es[i]?.map (·.1)).getD 0) (Ì knd k) (10*ñ t.mask) (path t (Ì knd k) n)=r:=hF;rcases Yd S.T (λi=>(es[i]?.map (·.1)).getD 0) (Ì knd k) hN hb (10*ñ t.mask) n hn ∅ with ⟨m,i,m1,m2,sl,hh,ee,before⟩ | ⟨ee,before⟩
  .rw[ee] at IS
   subst IS;obtain⟨e,ei,er,Hx⟩:=S.at sl;obtain⟨p,pi,rfl⟩:=getL ei;have hp:=qj pi;have LW:p.1≠k->É (Ë prog w) A (Ŋ a (.ref x) (Ì knd k) adding hJ (À (path t (Ì knd k) (m+1)))) Q E s:=λne=>by
    refine ih (m+1) (À _) rfl m2 ∅ λh=>no λm' i' e' a1 a2 a3 a4=>?_
    rcases xr m' m with z | z | z
    .intro ek
     refine before m' a1 z i' a3 ?_;have h1:es.toList[i']?=À (Ì knd e'.1,Ï e'.2):=by rw[hL,kW,a4];rfl
     have h2:es[i']?=À (Ì knd e'.1,Ï e'.2):=by simpa using h1
     show(es[i']?.map (·.1)).getD 0=_
     rw[h2,ek];rfl
    .subst z
     rw[sl] at a3;cases a3;rw[pi] at a4;cases a4;exact ne
    .exact h m' i' e' z a2 a3 a4
   dsimp only;refine Cw (U0 hk (λv hv=>?_) ⟨rfl,rfl⟩) ?_
   .obtain⟨q,q1,q2⟩:=zp.mp hv
    have q3:q∈es.toList:=by
     have:=yJ.mp q1;exact yJ.mpr (Array.mem_filter.mp this).1
    rw[hL] at q3;obtain⟨p',z1,z2⟩:=zp.mp q3;subst z2;exact⟨p'.1,p'.2,q2.symm,hT p' z1⟩
   .rw[ei]
    dsimp only;refine ô (wpAny_holding (wpAny_eqBool_tuple hu (hT p hp) hk ?_));refine ô (wpAny_setState_of ho hd S.fits ?_);dsimp only;have sm:t.sameMemory t.moves t.mask=À Ã:=by unfold SetTable.sameMemory;rw[if_pos (by simp)]
    by_cases z:p.1=k
    .rw[kO z]
     cases adding with
     | true=>
      erw[Bool.and_self,kY];exact zg (yes i (.inl rfl) ⟨p,hp,z⟩)
     | false=>
      erw[vV,zN,jn,sm,kY,sl,ei];refine zc (Š ?_);refine zc (zg ?_);erw[kY];exact zg (yes i (.inr ⟨p,pi,z⟩) ⟨p,hp,z⟩)
    .rw[jj z]
     erw[Bool.and_false,zN,jn,sm,kY,sl,ei];refine zc (Š ?_);refine zc (zg ?_);erw[kY,zN,jn];exact LW z
  .rw[ee] at IS
   subst IS;dsimp only;refine Ł (no λm' i' e' a1 a2 a3 a4 ek=>?_);refine before m' a1 a2 i' a3 ?_;have h1:es.toList[i']?=À (Ì knd e'.1,Ï e'.2):=by rw[hL,kW,a4];rfl
   have h2:es[i']?=À (Ì knd e'.1,Ï e'.2):=by simpa using h1
   show(es[i']?.map (·.1)).getD 0=_
   rw[h2,ek];rfl
end
def dY{α β:Type}{f:α->β}{m l:List β}(h:m.Perm l):∀{L:List α},m=L.map f->∃L':List α,L'.Perm L/\L'.map f=l:=by
 induction h with
 | nil=>intro L e;exact⟨L,qK _,e.symm⟩
 | cons x _ ih=>
  intro L e;cases L with
  | nil=>cases e
  | cons a L=>
   cases e;obtain⟨L',p,q⟩:=ih rfl;exact⟨a::L',ę _ p,by rw[zu,q]⟩
 | swap x y l=>
  intro L e;match L,e with
  | b::a::L,e=>
   cases e;exact⟨a::b::L,Ŧ _ _ _,rfl⟩
 | trans _ _ ih1 ih2=>
  intro L e;obtain⟨L1,p1,q1⟩:=ih1 e;obtain⟨L2,p2,q2⟩:=ih2 q1.symm;exact⟨L2,p2.trans p1,q2⟩
section
variable{prog:Í}{w:Ñ}{K:Type}[DecidableEq K]{knd:KeyKind prog w K}{A:Ö}{E:Ä->Å->Prop}{s:Å}
def Uw(n:Nat)(h:Ď v=Ã):∃b,hashByValue n v=pure b:=by
 cases v with
 | ref a=>simp[Ď] at h
 | _=>cases n<;>exact⟨_,rfl⟩
def UR(hk:Ú knd s.heap ks a)(h:∀b,Q b s):É (Ë prog w) A (hashByValue 8 (.ref a)) Q E s:=by
 have hT:=hk.typeIs;obtain⟨o,items,n,ho,_,hd,hi⟩:=hk;unfold hashByValue;refine zc (uX hT F.slot_tuple_hash.lookup ?_);refine zc (jO ho hd ?_);refine zc ?_;show É _ _ (forIn items _ _) _ _ s
 rw[<-Ÿ];refine yK _ (λrest r s'=>r.1=Á/\s'=s/\∀v∈rest,Ď v=Ã) _ ?_ ?_ _ _ ⟨rfl,rfl,hi.byValue⟩
 .rintro v rest r s' ⟨hr,rfl,oj⟩
  obtain⟨b,e⟩:=Uw 7 (oj v zr);rw[e];refine zc (zg ?_);cases b with
  | true=>
   erw[yh,zN,jn];exact zg ⟨rfl,rfl,λu LV=>oj u (zm _ LV)⟩
  | false=>
   erw[ux,kY];exact zg (zg (h _))
 .rintro⟨r1,r2⟩ s' ⟨hr,rfl,_⟩
  simp only at hr;subst hr;exact zg (h _)
def pj{h:Ò}{o:ö}{es ep t}(hk:Ú knd h ks x)(ho:h.get? a=À o)(hd:o.data=.set es ep t)(sb:Ý a h h'):Ú knd h' ks x:=by
 obtain⟨o',items,n,EA,hc,Az,hi⟩:=hk;have Am:x≠a:=by
  rintro rfl;obtain rfl:o'=o:=zX (EA.symm.trans ho);rw[hd] at Az;exact nomatch Az
 exact⟨o',items,n,(sb.2 x Am).trans EA,hc,Az,hi⟩
def YE{α:Type}{m:Sem α}{v:α}{Q:α->Å->Prop}(e:m=pure v)(h:Q v s):É (Ë prog w) A m Q E s:=by rw[e];exact zg h
def lf{h:Ò}{o:ö}(ho:h.get? a=À o)(hex:o.ExactSet)(hd:o.data=.set es ep t){es':Array (Int×Ä)}{t':Ð}{L':List (List K×È)}
  (hm:t'.mask<=8191) (Aj:t'.led = !w.params.followText "set-order") (S:SOk t' es'.toList R') (hL:es'.toList=L'.map (λp=>(Ì knd p.1,Ï p.2))) (nd:(L'.map (·.1)).Nodup) (hT:∀p∈L',Ú knd h p.1 p.2) :
  (h.update a (Ć es' t')).get? a=À { o with data:=.set es' (ep+1) t' }/\SetT knd (h.update a (Ć es' t')) a L':=by
 have hg:(h.update a (Ć es' t')).get? a=À { o with data:=.set es' (ep+1) t' }:=by
  have:=jy (Ć es' t') ho (by rw[ue es' t' hd];rfl);rw[ue es' t' hd] at this;exact this
 exact⟨hg,_,es',ep+1,t',R',hg,hex,rfl,hm,Aj,S,hL,nd,λp hp=>pj (hT p hp) ho hd (jR _ _ _)⟩
def Qw{o:ö}{es:Array (Int×Ä)}{t:Ð}{L:List (List K×È)}(ho:s.heap.get? a=À o)(hex:o.ExactSet)(hd:o.data=.set es ep t)(hf:t.fits es.size=Ã)(Aj:t.led = !w.params.followText "set-order")
  (hL:es.toList=L.map (λp=>(Ì knd p.1,Ï p.2))) (nd:(L.map (·.1)).Nodup) (hT:∀p∈L,Ú knd s.heap p.1 p.2) (hw:wanted<=4000) (RS:es.size*2<=wanted) (RT:0<wanted)
  (h:∀h' L',Ý a s.heap h'->SetT knd h' a L'->L'.Perm L->(∃o es ep t,h'.get? a=À o/\o.data=.set es ep t/\wanted<=t.mask)->Q () { s with heap:=h' }):É (Ë prog w) A (setRelay a wanted) Q E s:=by
 unfold setRelay;refine zc (jT ho hd hf ?_);dsimp only;obtain⟨k,k1,k2,k3,k4⟩:=rG (n:=wanted) ∅;have le:2 ^ k<=8192:=by
  rcases k4 with k4 | k4
  .have:2 ^ k<=8000:=by omega
   omega
  .subst k4;decide
 have pos:2 ^ 3<=2 ^ k:=qL ∅ k1;rw[kh (by rw[k2,jL];omega)];obtain⟨t',order,e1,e2,e3,e4,e5,e6,pe,R',S⟩:=Xs (mask:=2 ^ k-1) (k:=k) ∅ k1 es ∅ t.finger (t.movedTo (ŷ wanted-1)) t.led t.plain;have e0:t.relaid (es.map (·.1)) wanted=À (t',order):=by
  unfold SetTable.relaid;rw[k2] at e1 ⊢;exact e1
 rw[e0];have hz:(order.filterMap (es[·]?)).size=es.size:=by rw[<-kj,pe.length_eq,kj]
 refine zc (YE (v:=(order.filterMap (es[·]?),t')) (kh (by rw[hz];simp)) ?_);dsimp only;obtain⟨L',p1,p2⟩:=dY (f:=λp:List K×È=>(Ì knd p.1,Ï p.2)) pe.symm hL;obtain⟨Pk,ST⟩:=lf (knd:=knd) ho hex hd (t':=t') (es':=order.filterMap (es[·]?)) (L':=L') ∅ (by rw[e3];exact Aj) S p2.symm ((p1.map (·.1)).nodup_iff.mpr nd) (λp hp=>hT p (p1.mem_iff.mp hp));exact yw ho hd (h _ _ (jR _ _ _) ST p1 ⟨_,_,_,t',Pk,rfl,by omega⟩) (by rw[hz,jL];omega)
theorem X1{L:List (List K×È)}(hu:A.units<ď)(hS:SetT knd s.heap a L)(hk:Ú knd s.heap k x)(hb:L.length<900)
  (h:∀added h' L',Ý a s.heap h'->SetT knd h' a L'->L'.Perm (if k∈L.map (·.1) then L else (k,x)::L)->Q added { s with heap:=h' }) :
  É (Ë prog w) A (ř a (.ref x) (Ì knd k)) Q E s:=by
 obtain⟨o,es,ep,t,R,ho,hex,hd,hm,Aj,S,hL,nd,hT⟩:=hS;have ET:es.size=L.length:=by have:=jt â hL;simpa using this
 have EU:t.place.size=L.length:=by
  have a1:=jt â S.pl;have a2:=jt â S.es;erw[zF,kj] at a1 a2;omega
 obtain⟨N,n1,n2,n3⟩:=tX S.T (Ì knd k);unfold ř;refine je ?_;show É _ _ (ŧ a (.ref x) (Ì knd k) (99999+1)) _ _ _
 unfold ŧ;refine zc (jT ho hd S.fits ?_);dsimp only;rw[show byScan (.ref x) es=Â from rfl];erw[zN,jn];have LX:s={ s with heap:=s.heap }:=by cases s;rfl
 refine zc ?_;show É _ _ (Ŋ a (.ref x) (Ì knd k) Ã 100000 Á) _ _ _
 refine K7 (knd:=knd) (L:=L) (N:=N) (k:=k) hu ho hd S hL hT hk n2 n3 n1 (λi _ there=>?_) 100000 0 Á rfl (qp _) (by unfold ñ at n1;omega) λno=>?_
 ·
  erw[kY];refine zg ?_;rw[LX];refine h _ _ L (Heap.SameBut.refl _ _) ⟨o,es,ep,t,R,ho,hex,hd,hm,Aj,S,hL,nd,hT⟩ ?_;obtain⟨p,p1,p2⟩:=there;rw[zW (zp.mpr ⟨p,p1,p2⟩)]
 ·
  have absent:k∉L.map (·.1):=by
   intro hc;obtain⟨p,p1,p2⟩:=zp.mp hc;obtain⟨i,hi,e⟩:=vI p1;have hr:i<R.length:=by have:=jt â S.pl;erw[zF,kj] at this;omega
   have Nb:i<t.place.size:=by omega
   have r1:R[i].1=t.place[i]:=by
    have:=jt (·[i]?) S.pl;simp[hr,Nb] at this;exact this
   have r2:R[i].2=(Ì knd p.1,Ï p.2):=by
    have:=jt (·[i]?) (S.es.trans hL);simp[hr,hi,e] at this;rw[this]
   obtain⟨n,a1,a2⟩:=S.on R[i] (qe hr);rw[r2,r1] at a1;rw[r2] at a2;dsimp only at a1 a2;rw[p2] at a1 a2;have nN:n<N:=by
    rcases xO n N with z | z
    .exact z
    .rcases jU z with z | z
     .exact absurd (a2 N z) n2
     .subst z
      rw[a1] at n2;exact absurd (by simp) n2
   refine no n i p (qp _) nN ?_ (by rw[zP hi,e]) p2;rw[a1];exact nr S.T Nb
  dsimp only;refine zc (jT ho hd S.fits ?_);dsimp only;have hp:(t.put (path t (Ì knd k) N).j).2<=L.length:=by
   have:=(u7 (xs:=t.place) (j:=(path t (Ì knd k) N).j) S.T.up).1;rw[EU] at this;exact this
  have pe:(L.take (t.put (path t (Ì knd k) N).j).2++(k,x)::L.drop (t.put (path t (Ì knd k) N).j).2).Perm ((k,x)::L):=by
   have:(L.take (t.put (path t (Ì knd k) N).j).2++L.drop (t.put (path t (Ì knd k) N).j).2)=L:=qD _ _;refine List.perm_middle.trans ?_;rw[this]
  have LY:(Ċ es (t.put (path t (Ì knd k) N).j).2 (Ì knd k,Ï x)).toList=(L.take (t.put (path t (Ì knd k) N).j).2++(k,x)::L.drop (t.put (path t (Ì knd k) N).j).2).map (λp=>(Ì knd p.1,Ï p.2)):=by
   rw[df _ ∅,hL];simp[uK,yV]
  have put:=λt' a1 a2 a3 a4=>S.put (h:=Ì knd k) (x:=Ï x) n2 n3 t' a1 a2 a3 a4
  have Nc:(t.put (path t (Ì knd k) N).j).1.place.size=L.length+1:=by
   have:=jt â (fL S.T (path t (Ì knd k) N).j);rw[zL,zE,<-Nat.add_assoc,<-zL,qD] at this;erw[kj] at this;omega
  generalize hL2:(L.take (t.put (path t (Ì knd k) N).j).2++(k,x)::L.drop (t.put (path t (Ì knd k) N).j).2)=L1 at *;have Nd:(L1.map (·.1)).Nodup:=((pe.map (·.1)).nodup_iff).mpr (jJ.mpr ⟨absent,nd⟩);have Nf:∀p∈L1,Ú knd s.heap p.1 p.2:=λp hp=>by
   rcases zj.mp (pe.mem_iff.mp hp) with rfl | hp
   .exact hk
   .exact hT p hp
  have Pl:L1.length=L.length+1:=by have:=pe.length_eq;simpa using this
  have fin:∀h' L',Ý a s.heap h'->SetT knd h' a L'->L'.Perm L1->Q Ã { s with heap:=h' }:=λh' L' sb ST q=>h _ h' L' sb ST (by rw[kh absent];exact q.trans pe)
  have dm:(t.put (path t (Ì knd k) N).j).1.dummies = #[]:=by
   show(if Ř t.dummies _ then _ else t.dummies)=_
   rw[S.T.nod,mK];rfl
  have tail:∀t':Ð,t'.mask=t.mask->t'.place=(t.put (path t (Ì knd k) N).j).1.place->t'.dummies=(t.put (path t (Ì knd k) N).j).1.dummies->t'.led=t.led->É (Ë prog w) A (do
    storeSet a (Ċ es (t.put (path t (Ì knd k) N).j).2 (Ì knd k,Ï x)) t'
    if (!Â&&t'.tooFull)=Ã then do
      setRelay a (õ (es.size+1))
      pure Ã
     else pure Ã) Q E s:=by
   intro t' m1 m2 m3 m4;generalize hes:Ċ es (t.put (path t (Ì knd k) N).j).2 (Ì knd k,Ï x)=Ak at *;have A2:Ak.size=L.length+1:=by have:=jt â LY;erw[kj,zF] at this;omega
   refine zc (yw ho hd ?_ (by rw[A2,jL];omega));have Hq:=jR s.heap a (Ć Ak t');have hg:(s.heap.update a (Ć Ak t')).get? a=À { o with data:=.set Ak (ep+1) t' }:=by
    have:=jy (Ć Ak t') ho (by rw[ue Ak t' hd];rfl);rw[ue Ak t' hd] at this;exact this
   by_cases full:t'.tooFull=Ã
   .rw[zW (by simp[full])]
    have gr:õ (es.size+1)=(es.size+1)*4:=by unfold õ;rw[kh ∅]
    rw[gr];refine zc (Qw (knd:=knd) (L:=L1) hg hex rfl ?_ (m4.trans Aj) LY Nd (λp hp=>pj (Nf p hp) ho hd Hq) ∅ ∅ ∅ λh' L' sb ST q _=>zg (fin h' L' (Hq.trans sb) ST q));unfold ŉ ű;rw[m2,m3,dm,Nc,m1,A2];have:=S.few;obtain⟨k',a1,b1⟩:=S.T.pow;have:2 ^ 3<=2 ^ k':=qL ∅ a1;simp;omega
   .rw[kh (by simp[full])]
    have few:t'.place.size*5<t'.mask*3:=by
     unfold SetTable.tooFull ű at full;rw[m3,dm] at full;simp at full;omega
    obtain⟨R',S',_⟩:=put t' m1 m2 m3 few;obtain⟨_,ST⟩:=lf (knd:=knd) ho hex hd (t':=t') (es':=Ak) (L':=L1) ∅ (m4.trans Aj) S' LY Nd Nf;exact zg (fin _ _ Hq ST (qK _))
  split
  .refine zc (UR hk λb=>?_)
   refine tail _ ?_ ?_ ?_ ?_<;>cases b<;>rfl
  .refine zc (zg ?_)
   exact tail _ rfl rfl rfl rfl
end
end ML
namespace ML
open PySem PySem.W PyProof.Rows
section
variable{n:Nat}{rk:Nat->Nat}{cmp:Nat->Nat->(Bool->Å->Prop)->Å->Prop}{s:Å}
def R(rk:Nat->Nat)(p:Array Nat)(i:Nat):Nat:=rk (p.getD i 0)
structure Pm(n:Nat)(p:Array Nat):Prop where
 sz:p.size=n
 pm:p.toList.Perm (Ô n)
def Pm.lt{p:Array Nat}(P:Pm n p)(h0:0<n)(i:Nat):p.getD i 0<n:=by
 by_cases h:i<p.size
 .have e:p.getD i 0=p[i]:=by simp[þ,h]
  rw[e];exact ju.mp (P.pm.mem_iff.mp (by simp))
 .have e:p.getD i 0=0:=by simp[þ,h]
  rw[e];exact h0
def Answers(n:Nat)(rk:Nat->Nat)(cmp:Nat->Nat->(Bool->Å->Prop)->Å->Prop)(s:Å):Prop:=∀i j (C:Bool->Å->Prop),i<n->j<n->C (decide (rk i<rk j)) s->cmp i j C s
theorem gZ(p:Array Nat)(hj:j<=p.size)(k:Nat):R rk (ĭ p i j) k=if i<=k/\k<j then R rk p (i+j-1-k) else R rk p k:=by
 have e:=getElem?_mirror_all (xs:=p) (i:=i) hj k;unfold R ĭ;have g:∀(q:Array Nat) (m:Nat),q.getD m 0=q[m]?.getD 0:=λq m=>ul ..
 rw[g,e,g,g];split<;>rfl
theorem Yn(p:Array Nat)(hk:k<p.size)(hl:l<=k)(m:Nat):R rk (bubble p k (k-l)) m=if m=l then R rk p k else if l<m/\m<=k then R rk p (m-1) else R rk p m:=by
 have e:=getElem?_bubble (xs:=p) hk (k-l) ∅ m;rw[show k-(k-l)=l from by omega] at e;unfold R;have g:∀(q:Array Nat) (m:Nat),q.getD m 0=q[m]?.getD 0:=λq m=>ul ..
 rw[g,e,g,g,g];split
 .rfl
 .split<;>rfl
def Pm.rev(P:Pm n p)(i j:Nat):Pm n (ĭ p i j):=⟨by unfold ĭ;rw[mirror_size];exact P.sz,(mirror_perm p i j _).toList.trans P.pm⟩
def Pm.bub(P:Pm n p)(k d:Nat):Pm n (bubble p k d):=⟨by rw[bubble_size];exact P.sz,(bubble_perm p k d).toList.trans P.pm⟩
def Up(rk:Nat->Nat)(p:Array Nat)(m:Nat):Prop:=∀i j,i<=j->j<m->R rk p i<=R rk p j
def Dn(rk:Nat->Nat)(p:Array Nat)(m:Nat):Prop:=∀i j,i<=j->j<m->R rk p j<=R rk p i
def Up.succ(u:Up rk p m)(h:0<m)(e:R rk p (m-1)<=R rk p m):Up rk p (m+1):=by
 intro i j a b;rcases jU (wW b) with q | q
 .exact u i j a q
 .subst q
  rcases jU a with z | z
  .exact zz (u i (j-1) ∅ ∅) e
  .subst z;exact zG _
def Dn.succ(u:Dn rk p m)(h:0<m)(e:R rk p m<=R rk p (m-1)):Dn rk p (m+1):=by
 intro i j a b;rcases jU (wW b) with q | q
 .exact u i j a q
 .subst q
  rcases jU a with z | z
  .exact zz e (u i (j-1) ∅ ∅)
  .subst z;exact zG _
theorem pX(hc:Answers n rk cmp s)(h0:0<n)(P:Pm n p):∀(f m:Nat),0<m->Up rk p m->m+f<=n->(∀m',m<=m'->m'<=m+f->Up rk p m'->(m'=m+f\/R rk p m'<R rk p (m'-1))->G m' s)->(kas_asc p f m).kasWp cmp G s
 | 0,m,h1,u,hf,k=>k m (zG _) ∅ u (.inl rfl)
 | f+1,m,h1,u,hf,k=>by
  refine hc _ _ _ (P.lt h0 _) (P.lt h0 _) ?_;by_cases c:rk (p.getD m 0)<rk (p.getD (m-1) 0)
  .rw[kO c];dsimp only;rw[if_pos rfl]
   exact k m (zG _) ∅ u (.inr c)
  .rw[jj c];dsimp only;rw[if_neg (by simp)]
   refine pX hc h0 P f (m+1) ∅ (u.succ h1 (jW c)) ∅ λm' a b d e=>k m' ∅ ∅ d ?_
   rcases e with e | e
   .exact .inl ∅
   .exact .inr e
theorem gR(hc:Answers n rk cmp s)(h0:0<n):∀(f:Nat) (p:Array Nat) (m q:Nat),Pm n p->q<m->Dn rk p m->(∀i,m-(q+1)<=i->i<m->R rk p i=R rk p (m-1))->m+f<=n->
  (∀p' m' q',Pm n p'->q'<m'->m<=m'->m'<=m+f->Dn rk p' m'->(∀i,m'-(q'+1)<=i->i<m'->R rk p' i=R rk p' (m'-1))->G (p',m',q') s)->(kas_desc f p m q).kasWp cmp G s
 | 0,p,m,q,P,hq,u,eq,hf,k=>k p m q P hq (zG _) ∅ u eq
 | f+1,p,m,q,P,hq,u,eq,hf,k=>by
  refine hc _ _ _ (P.lt h0 _) (P.lt h0 _) ?_;by_cases c:rk (p.getD m 0)<rk (p.getD (m-1) 0)
  .rw[kO c];dsimp only;rw[if_pos rfl]
   have c':R rk p m<R rk p (m-1):=c;by_cases z:q>0
   .rw[zW z]
    have rv:∀i,R rk (ĭ p (m-(q+1)) m) i=R rk p i:=λi=>by
     rw[gZ p (by rw[P.sz];omega)];split
     .rename_i y
      rw[eq _ ∅ ∅,eq i y.1 y.2]
     .rfl
    have u':Dn rk (ĭ p (m-(q+1)) m) (m+1):=by
     have:Dn rk (ĭ p (m-(q+1)) m) m:=λi j a b=>by rw[rv,rv];exact u i j a b
     exact this.succ ∅ (by rw[rv,rv];omega)
    refine gR hc h0 f _ (m+1) 0 (P.rev _ _) ∅ u' (λi a b=>?_) ∅ λp' m' q' a1 a2 a3 a4 a5 a6=>k p' m' q' a1 a2 ∅ ∅ a5 a6
    have:i=m+1-1:=by omega
    rw[this]
   .rw[kh z]
    refine gR hc h0 f _ (m+1) 0 P ∅ (u.succ ∅ ∅) (λi a b=>?_) ∅ λp' m' q' a1 a2 a3 a4 a5 a6=>k p' m' q' a1 a2 ∅ ∅ a5 a6
    have:i=m+1-1:=by omega
    rw[this]
  .rw[jj c];dsimp only;rw[if_neg (by simp)]
   have c':R rk p (m-1)<=R rk p m:=jW c;refine hc _ _ _ (P.lt h0 _) (P.lt h0 _) ?_;by_cases d:rk (p.getD (m-1) 0)<rk (p.getD m 0)
   .rw[kO d];dsimp only;rw[if_pos rfl]
    exact k p m q P hq (zG _) ∅ u eq
   .rw[jj d];dsimp only;rw[if_neg (by simp)]
    have d':R rk p m<=R rk p (m-1):=jW d;refine gR hc h0 f p (m+1) (q+1) P ∅ (u.succ ∅ d') (λi a b=>?_) ∅ λp' m' q' a1 a2 a3 a4 a5 a6=>k p' m' q' a1 a2 ∅ ∅ a5 a6
    rw[show m+1-1=m from by omega];rcases jU (wW b) with z | z
    .rw[eq i ∅ z];omega
    .rw[z]
def Zw(hc:Answers n rk cmp s)(h0:0<n)(P:Pm n p)(hm:0<m)(hn:m<=n)(u:Dn rk p m)(k:∀m' p',Pm n p'->m<=m'->m'<=n->Up rk p' m'->G (m',p') s):(kas_tail3 m n p).kasWp cmp G s:=by
 unfold kas_tail3;rw[yf];have u':Up rk (ĭ p 0 m) m:=λi j a b=>by
  rw[gZ p (by rw[P.sz];exact hn),gZ p (by rw[P.sz];exact hn),zW ⟨by omega,by omega⟩,zW ⟨by omega,b⟩];exact u _ _ ∅ ∅
 exact pX hc h0 (P.rev _ _) (n-m) m hm u' ∅ λm' a b c _=>k m' _ (P.rev _ _) a ∅ c
def iq(hc:Answers n rk cmp s)(h0:0<n)(P:Pm n p)(hm:0<m)(hn:m+1<=n)(u:Dn rk p (m+1))(k:∀m' p',Pm n p'->0<m'->m'<=n->Up rk p' m'->G (m',p') s):(kas_descPart m n p).kasWp cmp G s:=by
 unfold kas_descPart;rw[yf];refine gR hc h0 _ p (m+1) 0 P ∅ u (λi a b=>by rw[show i=m+1-1 from by omega]) ∅ λp' m' q' a1 a2 a3 a4 a5 a6=>?_
 dsimp only;by_cases z:q'>0
 .rw[zW z]
  have rv:∀i,R rk (ĭ p' (m'-(q'+1)) m') i=R rk p' i:=λi=>by
   rw[gZ p' (by rw[a1.sz];omega)];split
   .rename_i y
    rw[a6 _ ∅ ∅,a6 i y.1 y.2]
   .rfl
  exact Zw hc h0 (a1.rev _ _) ∅ ∅ (λi j a b=>by rw[rv,rv];exact a5 i j a b) λm2 p2 b1 b2 b3 b4=>k m2 p2 b1 ∅ b3 b4
 .rw[kh z]
  exact Zw hc h0 a1 ∅ ∅ a5 λm2 p2 b1 b2 b3 b4=>k m2 p2 b1 ∅ b3 b4
def Wp(hc:Answers n rk cmp s)(h0:0<n)(P:Pm n p)(k:∀m' p',Pm n p'->0<m'->m'<=n->Up rk p' m'->G (m',p') s):(kas_count n p).kasWp cmp G s:=by
 unfold kas_count;rw[yf];refine pX hc h0 P (n-1) 1 ∅ (λi j a b=>by rw[show i=j from by omega];exact zG _) ∅ λm a b u e=>?_
 by_cases z:m=n
 .rw[zW (by simp[z])]
  exact k m p P ∅ ∅ u
 .rw[kh (by simp[z])]
  have lt:R rk p m<R rk p (m-1):=by
   rcases e with e | e
   .omega
   .exact e
  by_cases y:m>1
  .rw[zW y]
   refine hc _ _ _ (P.lt h0 _) (P.lt h0 _) ?_;by_cases c:rk (p.getD 0 0)<rk (p.getD (m-1) 0)
   .rw[kO c];dsimp only;rw[if_pos rfl]
    exact k m p P ∅ ∅ u
   .rw[jj c];dsimp only;rw[if_neg (by simp)]
    have c':R rk p (m-1)<=R rk p 0:=jW c;have all:∀i,i<m->R rk p i=R rk p 0:=λi hi=>by
     have a1:=u 0 i ∅ hi;have a2:=u i (m-1) ∅ ∅;omega
    have rv:∀i,i<m->R rk (ĭ p 0 m) i=R rk p 0:=λi hi=>by
     rw[gZ p (by rw[P.sz];omega),zW ⟨by omega,hi⟩];exact all _ ∅
    have d:Dn rk (ĭ p 0 m) m:=λi j a1 b1=>by rw[rv i ∅,rv j b1];exact zG _
    refine iq hc h0 (P.rev 0 m) ∅ ∅ (d.succ ∅ ?_) k;rw[rv (m-1) ∅,gZ p (by rw[P.sz];omega),kh ∅];have:=all (m-1) ∅;omega
  .rw[kh y]
   have:m=1:=by omega
   subst this;refine iq hc h0 P ∅ ∅ (Dn.succ (λi j a1 b1=>by rw[show i=j from by omega];exact zG _) ∅ ∅) k
theorem iQ(hc:Answers n rk cmp s)(h0:0<n)(P:Pm n p)(u:Up rk p k):∀(f l r:Nat),l<=r->r<=k->r-l<=f->(∀i,i<l->R rk p i<=R rk p k)->(∀i,r<=i->i<k->R rk p k<R rk p i)->
  (∀l',l'<=k->(∀i,i<l'->R rk p i<=R rk p k)->(∀i,l'<=i->i<k->R rk p k<R rk p i)->G l' s)->(kas_place p k f l r).kasWp cmp G s
 | 0,l,r,a,b,c,d,e,g=>g l ∅ d (by rw[show l=r from by omega];exact e)
 | f+1,l,r,a,b,c,d,e,g=>by
  unfold kas_place;by_cases z:l>=r
  .rw[zW z]
   exact g l ∅ d (by rw[show l=r from by omega];exact e)
  .rw[kh z]
   refine hc _ _ _ (P.lt h0 _) (P.lt h0 _) ?_;by_cases y:rk (p.getD k 0)<rk (p.getD ((l+r)/2) 0)
   .rw[kO y];dsimp only;rw[if_pos rfl]
    refine iQ hc h0 P u f l _ ∅ ∅ ∅ d (λi a1 b1=>?_) g;exact zO y (u _ i a1 b1)
   .rw[jj y];dsimp only;rw[if_neg (by simp)]
    refine iQ hc h0 P u f _ r ∅ b ∅ (λi a1=>?_) e g;exact zz (u i ((l+r)/2) ∅ ∅) (jW y)
theorem Vx(hc:Answers n rk cmp s)(h0:0<n):∀(f:Nat) (p:Array Nat) (k:Nat),Pm n p->Up rk p k->k+f=n->(∀p',Pm n p'->Up rk p' n->G p' s)->(kas_bin f p k).kasWp cmp G s
 | 0,p,k,P,u,e,g=>g p P (by rw[<-e];exact u)
 | f+1,p,k,P,u,e,g=>by
  unfold kas_bin;rw[yf];refine iQ hc h0 P u k 0 k ∅ (zG _) ∅ (λi a=>by omega) (λi a b=>by omega) λl hl a b=>?_
  refine Vx hc h0 f _ (k+1) (P.bub _ _) (λi j i1 j1=>?_) ∅ g;have hk:k<p.size:=by rw[P.sz];omega
  rw[Yn p hk hl i,Yn p hk hl j];by_cases x1:i=l
  .rw[zW x1]
   by_cases y1:j=l
   .rw[zW y1];exact zG _
   .rw[kh y1,zW ⟨by omega,by omega⟩]
    exact qU (b _ ∅ ∅)
  .rw[kh x1]
   by_cases x2:l<i/\i<=k
   .rw[zW x2,kh ∅,zW ⟨by omega,by omega⟩]
    exact u _ _ ∅ ∅
   .rw[kh x2]
    by_cases y1:j=l
    .rw[zW y1];exact a i ∅
    .rw[kh y1]
     by_cases y2:l<j/\j<=k
     .rw[zW y2];exact u _ _ ∅ ∅
     .rw[kh y2];exact u _ _ i1 ∅
def Xq(hc:Answers n rk cmp s)(h0:0<n)(g:∀p,p.size=n->p.toList.Perm (Ô n)->(∀i j,i<=j->j<n->rk (p.getD i 0)<=rk (p.getD j 0))->G p s):(kas_sort n).kasWp cmp G s:=by
 unfold kas_sort;rw[yf];refine Wp hc h0 ⟨by simp,by simp⟩ λm p P a b u=>?_
 dsimp only;by_cases z:m<n
 .rw[zW z,show max m 1=m from by omega]
  exact Vx hc h0 _ p m P u ∅ λp' P' u'=>g p' P'.sz P'.pm u'
 .rw[kh z]
  have:m=n:=by omega
  subst this;exact g p P.sz P.pm u
end
def uk(x y:Æ):Bool:=decide (x.cps.toList<y.cps.toList)
def nM(x:Æ):uk x x=Â:=jj (List.lt_irrefl _)
def VX(a:uk x y=Ã)(b:uk y z=Ã):uk x z=Ã:=kO (List.lt_trans (jD a) (jD b))
def Vg(h:x≠y):uk x y=Ã\/uk y x=Ã:=by
 have Am:x.cps.toList≠y.cps.toList:=λe=>h (by cases x;cases y;simp at e;rw[e])
 by_cases a:x.cps.toList<y.cps.toList
 .exact .inl (kO a)
 .have b:y.cps.toList<=x.cps.toList:=List.not_lt.mp a
  refine .inr (kO ?_);by_cases c:y.cps.toList<x.cps.toList
  .exact c
  .exact absurd (List.le_antisymm (List.not_lt.mp c) b) Am
def jv:List Æ->List Æ->Bool
 | [],[]=>Â
 | [],_::_=>Ã
 | _::_,[]=>Â
 | x::a,y::b=>if x=y then jv a b else uk x y
theorem be:∀a,jv a a=Â
 | []=>rfl
 | x::a=>by unfold jv;rw[zW rfl];exact be a
theorem hZ:∀{a b c:List Æ},jv a b=Ã->jv b c=Ã->jv a c=Ã
 | [],[],_,h,_=>by cases h
 | [],_::_,[],_,h=>by cases h
 | [],_::_,_::_,_,_=>rfl
 | _::_,[],_,h,_=>by cases h
 | _::_,_::_,[],_,h=>by cases h
 | x::a,y::b,z::c,h1,h2=>by
  unfold jv at h1 h2 ⊢;by_cases e:x=y
  .subst e
   rw[zW rfl] at h1;by_cases f:x=z
   .rw[zW f] at h2 ⊢
    exact hZ h1 h2
   .rw[kh f] at h2 ⊢
    exact h2
  .rw[kh e] at h1
   by_cases f:y=z
   .subst f
    rw[kh e];exact h1
   .rw[kh f] at h2
    have t:=VX h1 h2;by_cases g:x=z
    .subst g;rw[nM] at t;cases t
    .rw[kh g];exact t
theorem fM:∀{a b:List Æ},a≠b->jv a b=Ã\/jv b a=Ã
 | [],[],h=>absurd rfl h
 | [],_::_,_=>.inl rfl
 | _::_,[],_=>.inr rfl
 | x::a,y::b,h=>by
  unfold jv;by_cases e:x=y
  .subst e
   rw[zW rfl,zW rfl];exact fM λz=>h (by rw[z])
  .rw[kh e,kh λz=>e z.symm]
   exact Vg e
def Qn{α:Type}{p q:α->Bool}(h:∀x,p x=Ã->q x=Ã){y:α}(hq:q y=Ã)(hp:p y=Â):∀l:List α,y∈l->(l.filter p).length<(l.filter q).length:=by
 have le:∀l:List α,(l.filter p).length<=(l.filter q).length:=by
  intro l;induction l with
  | nil=>exact zG _
  | cons x l ih=>
   rw[jB,jB];cases e:p x with
   | true=>rw[h x e];simp;exact ih
   | false=>cases q x<;>simp<;>omega
 intro l;induction l with
 | nil=>intro m;cases m
 | cons x l ih=>
  intro m;rw[jB,jB];rcases zj.mp m with rfl | m
  .rw[hq,hp];simp;have:=le l;omega
  .have:=ih m
   cases e:p x with
   | true=>rw[h x e];simp;exact this
   | false=>cases q x<;>simp<;>omega
def dh(ks:List (List Æ))(k:List Æ):Nat:=(ks.filter λx=>jv x k).length
def Zr(ha:a∈ks)(h:jv a b=Ã):dh ks a<dh ks b:=Qn (p:=λx=>jv x a) (q:=λx=>jv x b) (y:=a) (λx hx=>hZ hx h) h (be a) ks ha
def sj(ha:a∈ks)(hb:b∈ks):decide (dh ks a<dh ks b)=jv a b:=by
 cases e:jv a b with
 | true=>exact kO (Zr ha e)
 | false=>
  refine jj λh=>?_
  by_cases z:a=b
  .subst z;omega
  .rcases fM z with q | q
   .rw[e] at q;cases q
   .have:=Zr hb q;omega
def fX(k:List Æ):List (List Æ)->List (List Æ)
 | []=>[k]
 | x::l=>if k=x then x::l else if jv k x then k::x::l else x::fX k l
def kG(l:List (List Æ)):List (List Æ):=l.foldr fX []
def dg(l:List (List Æ)):Prop:=l.Pairwise λa b=>jv a b=Ã
theorem insK_mem:∀{l:List (List Æ)},x∈fX k l↔x=k\/x∈l
 | []=>by simp[fX]
 | y::l=>by
  unfold fX;by_cases e:k=y
  .subst e;simp
  .rw[kh e]
   split
   .simp
   .rw[zj,insK_mem (l:=l),zj]
    constructor
    .rintro(h | h | h)
     .exact .inr (.inl h)
     .exact .inl h
     .exact .inr (.inr h)
    .rintro(h | h | h)
     .exact .inr (.inl h)
     .exact .inl h
     .exact .inr (.inr h)
theorem ZL:∀{l:List (List Æ)},dg l->dg (fX k l)
 | [],_=>yc _ _
 | y::l,u=>by
  obtain⟨u1,u2⟩:=j9.mp u;unfold fX;by_cases e:k=y
  .rw[zW e];exact u
  .rw[kh e]
   split
   .rename_i h
    refine j9.mpr ⟨λz hz=>?_,u⟩;rcases zj.mp hz with rfl | hz
    .exact h
    .exact hZ h (u1 z hz)
   .rename_i h
    refine j9.mpr ⟨λz hz=>?_,ZL u2⟩;rcases insK_mem.mp hz with rfl | hz
    .rcases fM e with q | q
     .exact absurd q h
     .exact q
    .exact u1 z hz
theorem we:∀l,dg (kG l)
 | []=>ė
 | _::l=>ZL (we l)
theorem ssort_mem:∀{l},x∈kG l↔x∈l
 | []=>Iff.rfl
 | y::l=>by
  show x∈fX y (kG l)↔_
  rw[insK_mem,ssort_mem (l:=l),zj]
theorem xD:∀{a b:List (List Æ)},dg a->dg b->(∀x,x∈a↔x∈b)->a=b
 | [],[],_,_,_=>rfl
 | [],y::b,_,_,h=>by have:=(h y).mpr (zr ..);cases this
 | x::a,[],_,_,h=>by have:=(h x).mp (zr ..);cases this
 | x::a,y::b,ua,ub,h=>by
  obtain⟨a1,a2⟩:=j9.mp ua;obtain⟨b1,b2⟩:=j9.mp ub;have e:x=y:=by
   rcases zj.mp ((h x).mp (zr ..)) with e | m1
   .exact e
   .rcases zj.mp ((h y).mpr (zr ..)) with e | m2
    .exact e.symm
    .have:=hZ (b1 x m1) (a1 y m2)
     rw[be] at this;cases this
  subst e;congr 1
  refine xD a2 b2 λz=>⟨λm=>?_,λm=>?_⟩
  .rcases zj.mp ((h z).mp (zm _ m)) with e | m'
   .subst e;have:=a1 z m;rw[be] at this;cases this
   .exact m'
  .rcases zj.mp ((h z).mpr (zm _ m)) with e | m'
   .subst e;have:=b1 z m;rw[be] at this;cases this
   .exact m'
section
variable{prog:Í}{w:Ñ}{A:Ö}{E:Ä->Å->Prop}{s:Å}
abbrev SK(prog:Í)(w:Ñ):ù prog w Æ:=ŋ prog w
def dB(fin:Bool):List Æ->List Æ->Bool
 | x::a,y::b=>if x=y then dB fin a b else uk x y
 | _,_=>fin
theorem pZ:∀a b:List Æ,dB (decide (a.length<b.length)) a b=jv a b
 | [],[]=>rfl
 | [],_::_=>by simp[dB,jv]
 | _::_,[]=>by simp[dB,jv]
 | x::a,y::b=>by
  unfold dB jv;have:decide ((x::a).length<(y::b).length)=decide (a.length<b.length):=by simp
  rw[this,pZ a b]
def dE(prog:Í)(w:Ñ):ù prog w Nat where
 is:=λk v=>Ţ k v
 hash:=λk=>hashInt k
 inj:=λv a b h1 h2=>Int.ofNat.inj (Value.isInt_inj v _ _ h1 h2)
 byValue:=λk v h=>(intKind prog w).byValue k v h
 pyHash:=λh1 h2=>(intKind prog w).pyHash h1 h2
 eqBool:=λh1 h2 h=>(intKind prog w).eqBool h1 h2 (by rw[decide_eq_decide.mpr Int.ofNat_inj];exact h)
 «strs»:=λk x t v h=>(intKind prog w).«strs» k x t v h
def ac(n:Nat):Æ:=⟨#[n]⟩
def eW(h:ac a=ac b):a=b:=by simpa[ac] using h
def rS(a b:Nat):uk (ac a) (ac b)=decide ((a:Int)<b):=by
 have:([a]<[b])↔a<b:=⟨λh=>(by cases h with | rel h=>exact h | cons h=>cases h),λh=>List.Lex.rel h⟩;unfold uk ac;simp[this]
def Asks{α:Type}[DecidableEq α](knd:ù prog w α)(cd:α->Æ):Prop:=(∀a b,cd a=cd b->a=b)/\∀{A:Ö} {E:Ä->Å->Prop} {Q:Bool->Å->Prop} {s:Å} {a b:α} {u v:Ä},knd.is a u=Ã->knd.is b v=Ã->Q (uk (cd a) (cd b)) s->É (Ë prog w) A (oneLt' Ã u v) Q E s/\É (Ë prog w) A (oneLt' Â u v) Q E s
def Wl:Asks (SK prog w) id:=⟨λ_ _=>id,λh1 h2 q=>by
 obtain⟨t,rfl⟩:=wR h1;obtain⟨t',rfl⟩:=wR h2
 exact⟨oneLt_str q,kat_one _ _ (PyProof.Rows.lt_str q)⟩⟩
def VF:Asks (dE prog w) ac:=⟨λ_ _=>eW,λh1 h2 q=>by
 obtain⟨t,rfl⟩:=yz h1;obtain⟨t',rfl⟩:=yz h2;rw[rS] at q
 exact⟨oneLt_int q,kat_one _ _ (PyProof.Rows.lt_int q)⟩⟩
theorem nj{α:Type}[DecidableEq α]{knd:ù prog w α}{cd:α->Æ}(as:Asks knd cd){fin:Bool}{Q:Bool->Å->Prop}:∀{ka kb:List α} {xs ys:List Ä} {i:Nat},ItemsAre knd ka xs->ItemsAre knd kb ys->Q (dB fin (ka.map cd) (kb.map cd)) s->KatLex prog w A Ã fin Q (xs.zip ys) i s
 | [],kb,xs,ys,i,ha,hb,q=>by cases ha;exact kat_nil (by unfold dB at q;exact q)
 | x::ka,[],xs,ys,i,ha,hb,q=>by cases hb;rw[List.zip_nil_right];exact kat_nil (by unfold dB at q;exact q)
 | x::ka,y::kb,xs,ys,i,ha,hb,q=>by
  cases ha with
  | @cons _ u _ xs h1 ha=>
   cases hb with
   | @cons _ v _ ys h2 hb=>
    rw[yS];refine kat_cons (knd.eqBool (a:=x) (b:=y) h1 h2 ?_);rw[zu,zu] at q;unfold dB at q;by_cases e:x=y
    .rw[zW (jt cd e)] at q
     rw[kO e];exact kat_yes (nj as ha hb q)
    .rw[kh λz=>e (as.1 _ _ z)] at q
     rw[jj e];refine kat_no ?_;by_cases z:i=0
     .subst z
      exact(as.2 h1 h2 q).1
     .have:(Ã&&i==0)=Â:=by simp[z]
      rw[this];exact(as.2 h1 h2 q).2
def JY{α:Type}[DecidableEq α]{knd:ù prog w α}{cd:α->Æ}(as:Asks knd cd){ka kb:List α}{x y:È}{Q:Bool->Å->Prop}(ha:Ú knd s.heap ka x)(hb:Ú knd s.heap kb y)(q:Q (jv (ka.map cd) (kb.map cd)) s):É (Ë prog w) A (keyLt' (tuples' Ã) (.ref x) (.ref y)) Q E s:=by
 obtain⟨ox,xs,nx,e1,_,e2,i1⟩:=ha;obtain⟨oy,ys,ny,f1,_,f2,i2⟩:=hb;refine kat_lt e1 e2 f1 f2 (nj as i1 i2 ?_);have l1:=i1.length;have l2:=i2.length;have:decide (xs.size<ys.size)=decide ((ka.map cd).length<(kb.map cd).length):=by rw[zF,zF,l1,l2];simp
 rw[this,pZ];exact q
def range_getD{α:Type}(l:List α)(d:α):(Ô l.length).map (λi=>l.getD i d)=l:=by
 apply yp
 .simp
 .intro i h1 h2
  simp[ă,h2]
theorem kat_tups{α:Type}[DecidableEq α]{knd:ù prog w α}{h:Ò}:∀{L:List (List α×È)},(∀p∈L,Ú knd h p.1 p.2/\p.1≠[])->∃fs,KatTups h (L.map λp=>Ï p.2) fs/\fs.length=L.length/\∀v∈fs,∃x,knd.is x v=Ã
 | [],_=>⟨[],KatTups.nil,rfl,λv hv=>by cases hv⟩
 | p::L,hL=>by
  obtain⟨fs,a,b,c⟩:=kat_tups (L:=L) λq hq=>hL q (zm _ hq)
  obtain⟨⟨o,xs,n,e1,e2,e3,i1⟩,ne⟩:=hL p (zr ..);cases hk:p.1 with
  | nil=>exact absurd hk ne
  | cons k ks=>
   rw[hk] at i1;cases hx:xs.toList with
   | nil=>rw[hx] at i1;cases i1
   | cons v vs=>
    rw[hx] at i1;cases i1 with
    | cons h1 _=>
     refine⟨v::fs,KatTups.cons e1 e2 e3 ?_ a,by simp[b],λu hu=>?_⟩
     .have:xs.toList[0]?=À v:=by rw[hx];rfl
      simpa using this
     .rcases zj.mp hu with rfl | hu
      .exact⟨_,h1⟩
      .exact c u hu
def oh{α:Type}[DecidableEq α]{knd:ù prog w α}{T:String}{L:List (List α×È)}{Q:SortKind->Å->Prop}(h:∀p∈L,Ú knd s.heap p.1 p.2/\p.1≠[])(h2:2<=L.length)(hT:∀x v,knd.is x v=Ã->Looks (Ë prog w) s.heap (typeOf v) (.type T))(hn:(ó T != ó "tuple")=Ã)(q:Q (tuples' Ã) s):É (Ë prog w) A (keyKind' (L.map λp=>Ï p.2).toArray) Q E s:=by
 obtain⟨fs,kt,kl,kv⟩:=kat_tups h;refine kat_kind (T:=.type T) kt ∅ (λv hv=>?_) (by simp) (by rw[hn];exact q);obtain⟨x,e⟩:=kv v hv;exact hT x v e
inductive IsK(prog:Í)(w:Ñ)(h:Ò):Ordering->List Æ->Ä->Prop
 | text (x:Æ) (t:Tok):IsK prog w h .lt [x] (.str x t)
 | tup {a:È} {k:List Æ} (hk:Ú (SK prog w) h k a) (ne:k≠[]):IsK prog w h .eq k (.ref a)
 | nats {a:È} {k:List Nat} (hk:Ú (dE prog w) h k a) (ne:k≠[]):IsK prog w h .gt (k.map ac) (.ref a)
def IsK.keep{h h':Ò}(i:IsK prog w h b k v)(q:∀a o,v=.ref a->h.get? a=À o->h'.get? a=À o):IsK prog w h' b k v:=by
 cases i with
 | text x t=>exact .text x t
 | tup hk ne=>
  obtain⟨o,its,m,e1,e2,e3,e4⟩:=hk;exact .tup ⟨o,its,m,q _ _ rfl e1,e2,e3,e4⟩ ne
 | nats hk ne=>
  obtain⟨o,its,m,e1,e2,e3,e4⟩:=hk;exact .nats ⟨o,its,m,q _ _ rfl e1,e2,e3,e4⟩ ne
def kdOf(b:Ordering):SortKind:=match b with | .lt=>oneType' | _=>tuples' Ã
def BC(ha:IsK prog w s.heap b ka u)(hb:IsK prog w s.heap b kb v)(q:Q (jv ka kb) s):É (Ë prog w) A (keyLt' (kdOf b) u v) Q E s:=by
 cases ha with
 | text x t=>
  cases hb with
  | text y t'=>
   show É _ _ (keyLt' oneType' _ _) _ _ _
   rw[keyLt'_oneType];refine oneLt_str ?_;have e:jv [x] [y]=uk x y:=by
    unfold jv;split
    .rename_i z;subst z;rw[nM];rfl
    .rfl
   rw[e] at q;exact q
 | tup h1 _=>
  cases hb with
  | tup h2 _=>exact JY Wl h1 h2 (by rw[yd,yd];exact q)
 | nats h1 _=>
  cases hb with
  | nats h2 _=>exact JY VF h1 h2 q
def Ws{L:List (List Æ×Ä)}(hL:∀p∈L,IsK prog w s.heap b p.1 p.2)(h2:2<=L.length)(q:Q (kdOf b) s):É (Ë prog w) A (keyKind' (L.map (·.2)).toArray) Q E s:=by
 cases b with
 | lt=>
  refine kas_kind (T:=.type "str") (by simpa using h2) (λv hv=>?_) (by decide) (by decide) q;obtain⟨⟨k,u⟩,p1,rfl⟩:=zp.mp hv;cases hL _ p1 with
  | text x t=>exact Looks.of_pure rfl
 | eq=>
  have:∃L0:List (List Æ×È),L.map (·.2)=L0.map (λp=>Ï p.2)/\L0.length=L.length/\∀p∈L0,Ú (SK prog w) s.heap p.1 p.2/\p.1≠[]:=by
   clear h2 q;induction L with
   | nil=>exact⟨[],rfl,rfl,λp hp=>by cases hp⟩
   | cons p L ih=>
    obtain⟨L0,a1,a2,a3⟩:=ih λq hq=>hL q (zm _ hq)
    obtain⟨k,v⟩:=p;cases hL _ (zr ..) with
    | @tup a _ hk ne=>exact⟨(k,a)::L0,by simp[a1],by simp[a2],λp hp=>by
      rcases zj.mp hp with rfl | hp
      .exact⟨hk,ne⟩
      .exact a3 p hp⟩
  obtain⟨L0,a1,a2,a3⟩:=this;rw[a1];exact oh (T:="str") a3 ∅ (λx v e=>by obtain⟨t,rfl⟩:=wR e;exact Looks.of_pure rfl) (by decide) q
 | gt=>
  have:∃L0:List (List Nat×È),L.map (·.2)=L0.map (λp=>Ï p.2)/\L0.length=L.length/\∀p∈L0,Ú (dE prog w) s.heap p.1 p.2/\p.1≠[]:=by
   clear h2 q;induction L with
   | nil=>exact⟨[],rfl,rfl,λp hp=>by cases hp⟩
   | cons p L ih=>
    obtain⟨L0,a1,a2,a3⟩:=ih λq hq=>hL q (zm _ hq)
    obtain⟨k,v⟩:=p;cases hL _ (zr ..) with
    | @nats a k0 hk ne=>exact⟨(k0,a)::L0,by simp[a1],by simp[a2],λp hp=>by
      rcases zj.mp hp with rfl | hp
      .exact⟨hk,ne⟩
      .exact a3 p hp⟩
  obtain⟨L0,a1,a2,a3⟩:=this;rw[a1];exact oh (T:="int") a3 ∅ (λx v e=>by obtain⟨t,rfl⟩:=yz e;exact Looks.of_pure rfl) (by decide) q
def sort_keys{L:List (List Æ×Ä)}(Ar:s.heap.get? a=À (Ĳ "list" (L.map (·.2)).toArray n))(hL:∀p∈L,IsK prog w s.heap b p.1 p.2)(RU:L.length<64)
  (k:∀(L':List (List Æ×Ä)) (h':Ò) (n':Nat),L'.Perm L->(L'.map (·.1)).Pairwise (λx y=>jv y x=Â)->h'.get? a=À (Ĳ "list" (L'.map (·.2)).toArray n')->(∀b o,b≠a->s.heap.get? b=À o->h'.get? b=À o)->P (.done (.ret .none)) { s with heap:=h' }) :
  É (Ë prog w) A (ò.«list.sort» ⟨[.ref a],[]⟩) P E s:=by
 have A0:(L.map (·.2)).length=L.length:=by simp
 have alt:a<s.heap.objs.size:=zM Ar;rw[list_sort_plain];refine zc (listItems_at Ar rfl (zc (Ų Ar rfl ?_)));obtain⟨ep,obj1⟩:∃ep,(s.heap.update a (Û λ_=>#[])).get? a=À (Ĳ "list" #[] ep):=⟨_,get?_update_seq Ar (λ_=>#[])⟩;refine zc (seqEpoch_at obj1 rfl (zc (pC (zc (wpAny_newList (je ?_))))));let h3:Ò:=((s.heap.update a (Û λ_=>#[])).push (Ĳ "tuple" (L.map (·.2)).toArray 0)).push (Ĳ "list" #[] 0)
 show É (Ë prog w) A _ P E { s with heap:=h3 }
 have other:∀b o,b≠a->s.heap.get? b=À o->h3.get? b=À o:=λb o ne e=>by
  refine zf _ (zf _ ?_);rw[xY _ _ _ _ ne];exact e
 have Ek:h3.get? a=À (Ĳ "list" #[] ep):=zf _ (zf _ obj1)
 have tups:∀p∈L,IsK prog w h3 b p.1 p.2:=λp hp=>(hL p hp).keep λx o e1 e2=>other _ _ (λz=>by
  obtain⟨k,u⟩:=p;cases e1;cases hL _ hp with
  | tup hk _=>
   obtain⟨o,its,m,e1,e2,_⟩:=hk;rw[z,Ar] at e1;cases e1;exact absurd (Value.type.inj (show ó "list" = ó "tuple" from e2)) (by decide)
  | nats hk _=>
   obtain⟨o,its,m,e1,e2,_⟩:=hk;rw[z,Ar] at e1;cases e1
   exact absurd (Value.type.inj (show ó "list" = ó "tuple" from e2)) (by decide)) e2
 have last:∀L':List (List Æ×Ä),L'.Perm L->(L'.map (·.1)).Pairwise (λx y=>jv y x=Â)->∀h',h'=h3.update a (Û λ_=>(L'.map (·.2)).toArray)->P (.done (.ret .none)) { s with heap:=h' }:=λL' pe up h' e=>by
  obtain⟨n',on⟩:∃n',(h3.update a (Û λ_=>(L'.map (·.2)).toArray)).get? a=À (Ĳ "list" (L'.map (·.2)).toArray n'):=⟨_,get?_update_seq Ek _⟩;subst e;exact k L' _ n' pe up on λb o ne q=>by rw[xY _ _ _ _ ne];exact other b o ne q
 dsimp only;by_cases few:(L.map (·.2)).toArray.size<2
 .rw[zW few,zW few]
  refine zc (zg ?_);rw[StateT.run_pure];refine zc (zg ?_);dsimp only;have AJ:(L.map (·.1)).Pairwise (λx y=>jv y x=Â):=by
   match L,few with
   | [],_=>exact ė
   | [x],_=>exact yc _ _
   | _::_::_,few=>simp at few;omega
  refine zc (seqEpoch_at Ek rfl ?_);refine zc (Ų Ek rfl ?_ (hsz2:=?_))
  .erw[bne_self_eq_false,zN,jn]
   refine zg (last L (qK _) AJ _ ?_);show h3.update a (Û λ_=>Array.map (·.2) (Array.zip _ _))=_
   congr 2
   funext _
   apply Array.toList_inj.mp
   simp[List.map_snd_zip]
  .refine zz (m:=L.length) ?_ (by rw[jL];omega)
   show(Array.map (λx=>x.2) ((L.map (·.2)).toArray.zip (L.map (·.2)).toArray)).size<=L.length
   simp
 .rw[kh few,kh few]
  have two:2<=L.length:=by simp at few;omega
  refine zc (Ws (s:={ s with heap:=h3 }) tups two ?_)
  .have gv:∀i,i<L.length->(L.map (·.2)).getD i Ó=(L.getD i ([],.none)).2:=λi hi=>by simp[ă,hi]
   have mem:∀i,i<L.length->L.getD i ([],.none)∈L:=λi hi=>by simp[ă,hi]
   have kin:∀i,i<L.length->(L.getD i ([],.none)).1∈L.map (·.1):=λi hi=>zp.mpr ⟨_,mem i hi,rfl⟩
   refine zc (j8 (kat_run (s:={ s with heap:=h3 }) (ks:=L.map (·.2)) (vs:=L.map (·.2)) (κ:=kdOf b) (G:=λp s'=>s'={ s with heap:=h3 }/\p.toList.Perm (Ô L.length)/\∀i j,i<=j->j<L.length->dh (L.map (·.1)) (L.getD (p.getD i 0) ([],.none)).1<=dh (L.map (·.1)) (L.getD (p.getD j 0) ([],.none)).1)
    (Q:=λAH s'=>s'={ s with heap:=h3 }/\∃p:Array Nat,p.size=L.length/\arrOf AH=p.map (kas_item ((L.map (·.2)).toArray.zip (L.map (·.2)).toArray))/\failedOf AH=Á/\p.toList.Perm (Ô L.length)/\∀i j,i<=j->j<L.length->dh (L.map (·.1)) (L.getD (p.getD i 0) ([],.none)).1<=dh (L.map (·.1)) (L.getD (p.getD j 0) ([],.none)).1)
    rfl ∅ ∅ (λp AH s' a1 a2 a3 a4=>⟨a4.1,p,a1.trans A0,a2,a3,a4.2.1,a4.2.2⟩) ?_) ?_ λ_ _ e=>e)
   .rw[A0]
    refine Xq (n:=L.length) (rk:=λi=>dh (L.map (·.1)) (L.getD i ([],.none)).1) (λi j C hi hj hC=>?_) ∅ λp a1 a2 a3=>⟨rfl,a2,a3⟩
    unfold kas_ask;rw[gv i hi,gv j hj];refine BC (tups _ (mem i hi)) (tups _ (mem j hj)) ?_;rw[<-sj (kin i hi) (kin j hj)];exact hC
   .rintro⟨⟨⟩,AH⟩ s' ⟨rfl,p,Nc,har,hf,pp,up⟩
    dsimp only;have out:=kat_snds (ks:=L.map (·.2)) (vs:=L.map (·.2)) rfl har;have LZ:∀i∈p.toList,i<L.length:=λi hi=>ju.mp (pp.mem_iff.mp hi)
    have L3:(arrOf AH).map (·.2)=((p.toList.map λi=>L.getD i ([],.none)).map (·.2)).toArray:=by
     rw[out,z9];congr 1
     exact qw λi hi=>gv i (LZ i hi)
    have pe:(p.toList.map λi=>L.getD i ([],.none)).Perm L:=by
     have:=pp.map λi=>L.getD i ([],.none)
     rw[range_getD] at this;exact this
    have AJ:((p.toList.map λi=>L.getD i ([],.none)).map (·.1)).Pairwise (λx y=>jv y x=Â):=by
     rw[vp];intro i j hi hj L4;erw[zF,kj] at hi hj;have e1:∀m,(hm:m<p.size)->((p.toList.map λi=>L.getD i ([],.none)).map (·.1))[m]'(by simpa using hm)=(L.getD (p.getD m 0) ([],.none)).1:=λm hm=>by simp[þ,hm]
     rw[e1 i hi,e1 j hj];have le:=up i j ∅ ∅;have mi:p.getD i 0<L.length:=by erw[þ,hi,dite_true];exact LZ _ (by simp)
     have mj:p.getD j 0<L.length:=by erw[þ,hj,dite_true];exact LZ _ (by simp)
     rw[<-sj (kin _ mj) (kin _ mi)];exact jj ∅
    rw[L3];refine zc (seqEpoch_at Ek rfl ?_);refine zc (Ų Ek rfl ?_ (hsz2:=?_))
    .rw[hf]
     erw[bne_self_eq_false,zN,jn];exact zg (last _ pe AJ _ rfl)
    .rw[jL]
     simp;omega
end
theorem fG{α:Type}:∀(l:List α) (i:Nat) (x:α),l[i]?=À x->l.Perm (x::l.eraseIdx i)
 | [],i,x,h=>by simp at h
 | y::l,0,x,h=>by simp at h;subst h;exact qK _
 | y::l,i+1,x,h=>by
  have:=fG l i x (by simpa using h);rw[uN];exact(ę _ this).trans (Ŧ _ _ _)
theorem Zt{α:Type}(next:Nat->Nat):∀(hJ k:Nat) (left:List α) (out:Array α),left.length<=hJ->(pickOrder.go next hJ k left out).toList.Perm (out.toList++left)
 | 0,k,left,out,h=>by
  have:left=[]:=uL.mp ∅;subst this;simp[pickOrder.go]
 | hJ+1,k,left,out,h=>by
  unfold pickOrder.go;cases left with
  | nil=>simp
  | cons y l=>
   have lx:next k%(y::l).length<(y::l).length:=wz _ (by simp);obtain⟨x,hx⟩:∃x,(y::l)[next k%(y::l).length]?=À x:=⟨_,zP lx⟩;rw[hx];dsimp only
   have ih:=Zt next hJ (k+1) ((y::l).eraseIdx (next k%(y::l).length)) (out.push x) (by
    rw[ł lx];omega)
   refine ih.trans ?_;rw[Array.toList_push,qZ];exact List.Perm.append_left _ (fG _ _ _ hx).symm
def om{α:Type}(next:Nat->Nat)(xs:Array α):(Ő next xs).toList.Perm xs.toList:=by
 unfold Ő;have:=Zt next xs.size 0 xs.toList #[] (by simp);simpa using this
section
variable{prog:Í}{w:Ñ}{A:Ö}{E:Ä->Å->Prop}{s:Å}
def Bx(hn:n≠0)(h:∀i d,i<n->Q i { s with drawn:=d }):É (Ë prog w) A (choose .order n) Q E s:=by
 intro Γ p _;unfold choose;rw[Sem.wp_choose];refine⟨hn,?_⟩;rw[Sem.wp_pure];exact h _ _ (wz _ (pN hn))
theorem ZS{α:Type}:∀(n:Nat) (xs:List α) (s:Å) {Q:List α->Å->Prop},n=xs.length->(∀ys d,ys.Perm xs->Q ys { s with drawn:=d })->É (Ë prog w) A (drawOrder n xs) Q E s
 | 0,xs,s,Q,e,h=>by
  have:xs=[]:=uL.mp e.symm;subst this;unfold drawOrder;have:=h [] s.drawn (qK _);exact zg this
 | n+1,[],s,Q,e,h=>by cases e
 | n+1,x::xs,s,Q,e,h=>by
  unfold drawOrder;refine zc (Bx (by simp) λi d hi=>?_);obtain⟨y,hy⟩:∃y,(x::xs)[i]?=À y:=⟨_,zP hi⟩;rw[hy];dsimp only;refine ô (ZS n ((x::xs).eraseIdx i) _ (by rw[ł hi];simp at e ⊢;omega) λys d' pe=>zg ?_);exact h (y::ys) d' ((ę _ pe).trans (fG _ _ _ hy).symm)
def slotN:Slot "set_iterator" "__next__" "set_iterator.__next__":=.of (owner:="set_iterator") (n:="__next__") (by rw[wQ,vm];kernel_rfl) ⋯ ⋯ ⋯ (.inl ⋯) (by rw[yq];kernel_rfl)
def entryN:entryFor table "set_iterator.__next__" = À ò.«set_iterator.__next__»:=entryFor_of_tree RL
def Yy(a:Ä):argsOk "set_iterator.__next__" ⟨[a],[]⟩:=by unfold argsOk;kernel_rfl
def entryI:entryFor table "set.__iter__" = À ò.«frozenset.__iter__»:=entryFor_alias (id':="frozenset.__iter__") RL rfl ⋯ RL
def IsSI(h:Ò)(I:È)(first:Ä)(i:Nat)(a:È)(n ep:Nat):Prop:=h.get? I=À { cls:=.type "set_iterator",dict:=Á,data:=.fields #[first,.int i 0,.ref a,.int n 0,.int ep 0],slots:=#[] }
def IsSI.typeIs{first:Ä}(h:IsSI s.heap I first i a n ep):s.TypeIs (.ref I) "set_iterator":=⟨_,h,rfl⟩
def slotAt(t:Ð)(i:Nat):Nat:=if i=0 then 0 else t.place.getD (i-1) 0+1
def Jg{t:Ð}(U:t.place.toList.Pairwise (· < ·))(hi:i<=t.place.size):ð t.place (slotAt t i)=i:=by
 by_cases z:i=0
 .subst z
  show ð t.place 0=0
  obtain⟨a,b,c⟩:=u7 (xs:=t.place) (j:=0) U;by_cases y:ð t.place 0=0
  .exact y
  .have:=b 0 ∅ ∅
   omega
 .have lx:i-1<t.place.size:=by omega
  have e:slotAt t i=t.place[i-1]+1:=by unfold slotAt;rw[kh z];simp[þ,lx]
  rw[e];obtain⟨a,b,c⟩:=u7 (xs:=t.place) (j:=t.place[i-1]+1) U;have mono:=vp.mp U;rcases xr (ð t.place (t.place[i-1]+1)) i with q | q | q
  .have:=c (i-1) lx ∅
   omega
  .exact q
  .have h1:i<t.place.size:=by omega
   have:=b i h1 q;have m:=mono (i-1) i (by simpa using lx) (by simpa using h1) ∅;erw[pB] at m;omega
structure SWk(t:Ð)(es:Array (Int×Ä)):Prop where
 fits:t.fits es.size=Ã
 up:(!t.plain&&decide (es.size>1))=Â->t.place.toList.Pairwise (· < ·)
def SOk.swk{es:Array (Int×Ä)}{R:List (Nat×(Int×Ä))}(S:SOk t es.toList R):SWk t es:=⟨S.fits,λ_=>S.T.up⟩
def Md(w:Ñ)(h:Ò)(a:È)(es:Array (Int×Ä))(t:Ð)(ep:Nat)(vs:List Ä)(first:Ä)(i:Nat):Prop:=
 (w.params.followText "set-order" = Ã/\first=.int 0 0/\vs=(Ő (w.params.setOrder a ep) es).toList.map (·.2)) \/
 (w.params.followText "set-order" = Â/\(!t.plain&&decide (es.size>1))=Ã/\∃(T:È) (places:List Nat) (oT:ö) (m:Nat),first=.ref T/\h.get? T=À oT/\oT.data=.seq (places.map λj=>Ġ (j:Nat) 0).toArray m/\vs=places.map (λj=>(es.toList.getD j (0,.none)).2)/\∀j∈places,j<es.size) \/
 (w.params.followText "set-order" = Â/\(!t.plain&&decide (es.size>1))=Â/\t.led=Ã/\first=.int (slotAt t i:Nat) 0/\vs=es.toList.map (·.2))
def eE(h:Q (w.params.followText "set-order") s):É (Ë prog w) A setsByText Q E s:=by
 unfold setsByText;exact zc (uD (zg h))
def nq{oi:ö}{fs:Array Ä}(e1:s.heap.get? I=À oi)(e3:oi.data=.fields fs)(h:Q fs s):É (Ë prog w) A (fieldsOf (.ref I)) Q E s:=by
 unfold fieldsOf;refine zc (xm e1 ?_);rw[e3];exact zg h
def dP{α:Type}{c:Bool}{X Y:Sem α}{Q:α->Å->Prop}(hc:c=Â)(h:É (Ë prog w) A Y Q E s):É (Ë prog w) A (if c=Ã then X else Y) Q E s:=by
 rw[hc,kh (by simp)];exact h
def nG{o:ö}(ho:s.heap.get? a=À o)(hd:o.data=.set es ep t)(S:SWk t es)(m1:w.params.followText "set-order" = Ã)
  (q:Q (((Ő (w.params.setOrder a ep) es)[i]?).map λe=>(e.2,slot)) s):É (Ë prog w) A (setNext a slot i ep) Q E s:=by
 unfold setNext;refine zc (jT ho hd S.fits ?_);dsimp only;refine ô (eE ?_);rw[m1,if_pos rfl,if_neg (by simp)];refine zc ?_;unfold setWalk;refine zc (jT ho hd S.fits ?_);dsimp only;refine ô (eE ?_);rw[m1,if_pos rfl];exact zc (uD (zg (zg q)))
def oG{o:ö}{es:Array (Int×Ä)}{t:Ð}(ho:s.heap.get? a=À o)(hd:o.data=.set es ep t)(S:SWk t es)(m1:w.params.followText "set-order" = Â)
  (m2:(!t.plain&&decide (es.size>1))=Â) (m4:t.led=Ã) (hi:i<=es.size) (q:Q (es[i]?.map λe=>(e.2,slotAt t (i+1))) s):É (Ë prog w) A (setNext a (slotAt t i) i ep) Q E s:=by
 have EU:t.place.size=es.size:=by
  have:=S.fits;unfold ŉ at this;simp at this;exact this.1
 unfold setNext;refine zc (jT ho hd S.fits ?_);dsimp only;refine ô (eE ?_);rw[m1,if_neg (by simp)];refine dP m2 ?_;refine zc (YE (v:=()) (kh (by rw[m4];simp)) ?_);rw[Jg (S.up m2) ∅];refine zg ?_;by_cases z:i<es.size
 .have e1:es[i]?=À es[i]:=by simp[z]
  have e2:t.place[i]?=À t.place[i]:=by simp[show i<t.place.size by omega]
  rw[e1,e2];rw[e1] at q;have e3:slotAt t (i+1)=t.place[i]+1:=by unfold slotAt;rw[kh ∅];simp[þ,show i<t.place.size by omega]
  rw[e3] at q;exact q
 .have e1:es[i]?=Á:=by simp[jW z]
  rw[e1];rw[e1] at q;exact q
def l7{nx:Nat}(hi:IsSI s.heap I old i a n ep)(hP:∀h',IsSI h' I (.int nx 0) (i+1) a n ep->Ý I s.heap h'->P (.done (.ret x)) { s with heap:=h' }) :
  É (Ë prog w) A (do
   setField (Ï I) 0 (rawInt nx)
   setField (Ï I) 1 (rawInt ((i:Int)+1))
   ret x) P E s:=by
 refine zc (jw hi (by simp) λh1 g1 b1=>zc (jw g1 (by simp) λh2 g2 b2=>zg (hP h2 ?_ (b1.trans b2))));exact g2
def JS(hi:IsSI s.heap I old i a n ep)(hP:∀h',IsSI h' I old (i+1) a n ep->Ý I s.heap h'->P (.done (.ret x)) { s with heap:=h' }) :
  É (Ë prog w) A (do
   setField (Ï I) 1 (rawInt ((i:Int)+1))
   ret x) P E s:=by
 refine zc (jw hi (by simp) λh2 g2 b2=>zg (hP h2 ?_ b2));exact g2
def Md.step(md:Md w h a es t ep vs (.ref T) i)(ne:T≠I)(sb:Ý I h h'):Md w h' a es t ep vs (.ref T) (i+1):=by
 rcases md with ⟨m1,m2,m3⟩ | ⟨m1,m2,T',places,oT,m,e,t1,t2,m3,m4⟩ | ⟨m1,m2,m4,m5,m3⟩
 .cases m2
 .cases e
  exact .inr (.inl ⟨m1,m2,_,places,oT,m,rfl,(sb.2 _ ne).trans t1,t2,m3,m4⟩)
 .cases m5
def Ux{o:ö}{es:Array (Int×Ä)}{vs:List Ä}{first:Ä}(ho:s.heap.get? a=À o)(hd:o.data=.set es ep t)(S:SWk t es)
  (hi:IsSI s.heap I first i a es.size ep) (md:Md w s.heap a es t ep vs first i) (hx:vs[i]?=À x) (Am:∀T,first=.ref T->T≠I)
  (k:∀Aq h',IsSI h' I Aq (i+1) a es.size ep->Md w h' a es t ep vs Aq (i+1)->(∀T,Aq=.ref T->first=.ref T)->Ý I s.heap h'->Q (À x) { s with heap:=h' }):É (Ë prog w) A (đ (.ref I)) Q E s:=by
 unfold đ;refine zc (vD (jx (name:=ú "__next__") hi.typeIs slotN (jo slotN hi.typeIs entryN ?_ (Yy _))));unfold ò.«set_iterator.__next__»;refine zc (show É _ _ (slotArgs "__next__" 0 { pos:=[Ï I] }) _ _ _ from zg ?_);dsimp only;refine ô (nq hi rfl ?_);dsimp only;refine ô (ĳ ho hd S.fits ?_);rw[if_neg (by simp)];have lt:i<vs.length:=by
  obtain⟨q,_⟩:=zJ.mp hx;exact q
 have Po:=md;rcases md with ⟨m1,rfl,m3⟩ | ⟨m1,m2,T,places,oT,m,rfl,t1,t2,m3,m4⟩ | ⟨m1,m2,m4,rfl,m3⟩
 .dsimp only
  erw[jd];refine zc (nG (i:=i) (slot:=0) ho hd S m1 ?_);obtain⟨e,z1,rfl⟩:∃e,(Ő (w.params.setOrder a ep) es)[i]?=À e/\e.2=x:=by
   rw[m3,kW] at hx;obtain⟨e,z1,z2⟩:=zq.mp hx;exact⟨e,by simpa using z1,z2⟩
  rw[z1];dsimp only[Ź];exact l7 hi λh' g b=>⟨_,rfl,zg (k _ h' g (.inl ⟨m1,rfl,m3⟩) (λT e=>by cases e) b)⟩
 .dsimp only
  refine zc (jO t1 t2 ?_);dsimp only;erw[ĥ];obtain⟨j,z1,z2⟩:∃j,places[i]?=À j/\(es.toList.getD j (0,.none)).2=x:=by
   rw[m3,kW] at hx;obtain⟨e,z1,z2⟩:=zq.mp hx;exact⟨e,z1,z2⟩
  have Pp:=m4 j (qj z1);have e1:(places.map λj=>Ġ (j:Nat) 0).toArray[i]?=À (Ġ (j:Nat) 0):=by simp[z1]
  rw[e1];dsimp only;erw[ĥ];refine zc ?_;unfold setNextDrawn;refine zc (jT ho hd S.fits ?_);dsimp only;rw[if_neg (by simp)];have e2:es[j]?=À (es.toList.getD j (0,.none)):=by simp[ă,Pp]
  rw[e2];dsimp only;refine Ł ?_;rw[z2];exact JS hi λh' g b=>⟨_,rfl,zg (k _ h' g (Po.step (Am _ rfl) b) (λ_ e=>e) b)⟩
 .dsimp only
  erw[jd];rw[m3,zF,kj] at lt;refine zc (oG (i:=i) ho hd S m1 m2 m4 ∅ ?_);obtain⟨e,z1,rfl⟩:∃e,es[i]?=À e/\e.2=x:=by
   rw[m3,kW] at hx;obtain⟨e,z1,z2⟩:=zq.mp hx;exact⟨e,by simpa using z1,z2⟩
  rw[z1];dsimp only[Ź];exact l7 hi λh' g b=>⟨_,rfl,zg (k _ h' g (.inr (.inr ⟨m1,m2,m4,rfl,m3⟩)) (λT e=>by cases e) b)⟩
end
section
variable{prog:Í}{w:Ñ}{A A':Ö}{E:Ä->Å->Prop}{s:Å}
def hV{P:PySem.Fin->Å->Prop}{Q:Option Ä->Å->Prop}(hh:A'.handled=Á)(h:∀h',(∀b o,s.heap.get? b=À o->h'.get? b=À o)->Q Á { s with heap:=h' }) :
  É (Ë prog w) A' (do
   let e <-newExc (.type "StopIteration") []
   raiseNew e) P (λe s'=>É (Ë prog w) A (do
    let b <-isInstance e (.type "StopIteration")
    if b=Ã then pure Á else throw e) Q E s') s:=by
 refine zc ?_;erw[newExc,newTuple];refine zc (jc ?_ (by size_fits));refine zc (m:=Ĩ _ _) (wO (a:=Ó) (by first | rfl | (erw[Ĩ];rfl)) (jc ?_ (by size_fits)));erw[raiseNew];refine zc (ů ?_);rw[hh];refine zc (zg (xQ ?_));refine zc (vQ (T:="StopIteration") (b:=Ã) ⟨_,zK _ rfl,rfl⟩ pF ?_);exact zg (h _ λb o e=>zf _ (zf _ e))
def XH{I a:È}{o:ö}{es:Array (Int×Ä)}{ep:Nat}{t:Ð}{vs:List Ä}{first:Ä}{i:Nat}{Q:Option Ä->Å->Prop}(hh:A.handled=Á)(ho:s.heap.get? a=À o)(hd:o.data=.set es ep t)(S:SWk t es)
  (hi:IsSI s.heap I first i a es.size ep) (md:Md w s.heap a es t ep vs first i) (hx:i=vs.length) (hv:vs.length=es.size)
  (k:∀h',(∀b o,b≠I->s.heap.get? b=À o->h'.get? b=À o)->Q Á { s with heap:=h' }):É (Ë prog w) A (đ (.ref I)) Q E s:=by
 unfold đ;refine zc (vD (jx (name:=ú "__next__") hi.typeIs slotN (jo slotN hi.typeIs entryN ?_ (Yy _))));unfold ò.«set_iterator.__next__»;refine zc (show É _ _ (slotArgs "__next__" 0 { pos:=[Ï I] }) _ _ _ from zg ?_);dsimp only;refine ô (nq hi rfl ?_);dsimp only;refine ô (ĳ ho hd S.fits ?_);rw[if_neg (by simp)];have El:A.in1.handled=Á:=by simpa using hh
 rcases md with ⟨m1,rfl,m3⟩ | ⟨m1,m2,T,places,oT,m,rfl,t1,t2,m3,m4⟩ | ⟨m1,m2,m4,rfl,m3⟩
 .dsimp only
  erw[jd];refine zc (nG (i:=i) (slot:=0) ho hd S m1 ?_);have z1:(Ő (w.params.setOrder a ep) es)[i]?=Á:=by
   have:=(om (w.params.setOrder a ep) es).length_eq;rw[kj,kj] at this;simp;omega
  rw[z1];dsimp only[Ź];refine zc (jw hi (by simp) λh1 g1 b1=>?_);exact hV El λh' e=>k h' λb o ne q=>e b o ((b1.2 b ne).trans q)
 .dsimp only
  refine zc (jO t1 t2 ?_);dsimp only;erw[ĥ];have e1:(places.map λj=>Ġ (j:Nat) 0).toArray[i]?=Á:=by
   have:=jt â m3;rw[zF] at this;simp;omega
  rw[e1];dsimp only;refine zc (jw hi (by simp) λh1 g1 b1=>?_);refine zc (jw g1 (by simp) λh2 g2 b2=>?_);exact hV El λh' e=>k h' λb o ne q=>e b o (((b1.trans b2).2 b ne).trans q)
 .dsimp only
  erw[jd];refine zc (oG (i:=i) ho hd S m1 m2 m4 ∅ ?_);have z1:es[i]?=Á:=by simp;omega
  rw[z1];dsimp only[Ź];refine zc (jw hi (by simp) λh1 g1 b1=>?_);exact hV El λh' e=>k h' λb o ne q=>e b o ((b1.2 b ne).trans q)
def mC{α:Type}{c:Bool}{X Y:Sem α}{Q:α->Å->Prop}(hc:c=Ã)(h:É (Ë prog w) A X Q E s):É (Ë prog w) A (if c=Ã then X else Y) Q E s:=by
 rw[hc,zW rfl];exact h
def Qx:Slot "set_iterator" "__iter__" "set_iterator.__iter__":=.of (owner:="set_iterator") (n:="__iter__") (by rw[wQ,vm];kernel_rfl) ⋯ ⋯ ⋯ (.inl ⋯) (by rw[yq];kernel_rfl)
def UV:entryFor table "set_iterator.__iter__" = À ò.«dict_keyiterator.__iter__»:=entryFor_alias (id':="dict_keyiterator.__iter__") RL rfl ⋯ RL
def Bj(a:Ä):argsOk "set_iterator.__iter__" ⟨[a],[]⟩:=by unfold argsOk;kernel_rfl
def Vu(hh:A.handled=Á){es:Array (Int×Ä)}{vs:List Ä}(S:SWk t es)(hv:vs.length=es.size)(Am:a≠I)(fp:List È)(hI:I∈fp)(ha:a∈fp) :
  Walks prog w A I fp [I] vs.length (λi v=>vs[i]?=À v) (λi h=>∃o first,h.get? a=À o/\o.data=.set es ep t/\IsSI h I first i a es.size ep/\Md w h a es t ep vs first i/\∀T,first=.ref T->T≠I/\T∈fp) where
 sub:=λb hb=>by simp at hb;rw[hb];exact hI
 frame:=λi h h' st hk=>by
  obtain⟨o,first,h1,h2,h3,h4,h5⟩:=st;refine⟨o,first,hk a ha _ h1,h2,hk I hI _ h3,?_,h5⟩;rcases h4 with m | ⟨m1,m2,T,places,oT,m,e,t1,t2,m3,m4⟩ | m
  .exact .inl m
  .exact .inr (.inl ⟨m1,m2,T,places,oT,m,e,hk T (h5 T e).2 _ t1,t2,m3,m4⟩)
  .exact .inr (.inr m)
 item:=λi s Q E hi st hQ=>by
  obtain⟨o,first,h1,h2,h3,h4,h5⟩:=st;have hx:vs[i]?=À vs[i]:=by simp[hi]
  refine Ux h1 h2 S h3 h4 hx (λT e=>(h5 T e).1) λAq h' g1 g2 g3 sb=>?_
  refine hQ vs[i] h' s.toks hx ⟨o,Aq,(sb.2 a Am).trans h1,h2,g1,g2,λT e=>h5 T (g3 T e)⟩ λb o' hb e=>(sb.2 b (by simpa using hb)).trans e
 done:=λs Q E st hQ=>by
  obtain⟨o,first,h1,h2,h3,h4,h5⟩:=st;exact XH hh h1 h2 S h3 h4 rfl hv λh' e=>hQ h' s.toks λb o hb q=>e b o (by simpa using hb) q
 self:=λi s Q E st hQ=>by
  obtain⟨o,first,h1,h2,h3,h4,h5⟩:=st;refine uo h3.typeIs Qx (jo Qx h3.typeIs UV ?_ (Bj _));show É _ _ (ret (.ref I)) _ _ s
  exact zg ⟨_,rfl,"set_iterator",_,h3.typeIs,slotN.lookup,hQ⟩
def We{o:ö}{es:Array (Int×Ä)}{t:Ð}(ho:s.heap.get? a=À o)(hc:o.cls=.type "set")(hd:o.data=.set es ep t)(S:SWk t es)(Aj:t.led = !w.params.followText "set-order")(hz:es.size<=4000)
  (k:∀I first h' d vs,s.heap.objs.size<=I->IsSI h' I first 0 a es.size ep->Md w h' a es t ep vs first 0->vs.Perm (es.toList.map (·.2))->(∀T,first=.ref T->T≠I/\s.heap.objs.size<=T/\T<h'.objs.size)->(∀b o,s.heap.get? b=À o->h'.get? b=À o)->Q (.ref I) { s with heap:=h',drawn:=d }) :
  É (Ë prog w) A (ı (.ref a)) Q E s:=by
 have hT:s.TypeIs (.ref a) "set":=⟨o,ho,hc⟩;refine uo hT F.slot_set_iter (jo F.slot_set_iter hT entryI ?_ (F.args_set_iter_1 _));unfold ò.«frozenset.__iter__»;refine zc (show É _ _ (Builtin.Frozenset.slot0 "__iter__" { pos:=[Ï a] }) _ _ _ from zc (zg (zg ?_)));unfold Builtin.Frozenset.sizeOf;refine zc (zc (ĳ ho hd S.fits (zg ?_)));unfold setDrawn;refine zc (zc (jT ho hd S.fits ?_));dsimp only;refine zc (eE ?_);refine zg ?_
 have num:∀vs,Md w s.heap a es t ep vs (.int 0 0) 0->vs.Perm (es.toList.map (·.2))->É (Ë prog w) A.in1 (do
   let first <-pure (rawInt 0)
   let e <-setEpoch a
   let it <-newFields "set_iterator" [first,rawInt 0,Ï a,rawInt es.size,rawInt e]
   ret it) (λfin s'=>∃v,fin=Fin.done (Flow.ret v)/\∃T' r,s'.TypeIs v T'/\ļ (ó T') (ú "__next__")=pure (À r)/\Q v s') E s:=by
  intro vs md pe;refine zc (zg ?_);refine zc (wpAny_setEpoch_of ho hd S.fits ?_);refine zc (jc ?_);refine zg ⟨_,rfl,"set_iterator",_,⟨_,zK _ rfl,rfl⟩,slotN.lookup,?_⟩;refine k s.heap.objs.size (.int 0 0) _ s.drawn vs (zG _) (zK _ rfl) ?_ pe (λT e=>by cases e) λb o e=>zf _ e
  rcases md with m | ⟨m1,m2,T,places,oT,m,e,_⟩ | m
  .exact .inl m
  .cases e
  .exact .inr (.inr m)
 by_cases bt:w.params.followText "set-order" = Ã
 .refine dP (by rw[bt];rfl) ?_
  exact num _ (.inl ⟨bt,rfl,rfl⟩) ((om _ es).map _)
 .have bt:w.params.followText "set-order" = Â:=by simpa using bt
  by_cases dr:(!t.plain&&decide (es.size>1))=Ã
  .refine mC (show(!w.params.followText "set-order" && (!t.plain&&decide (es.size>1)))=Ã by rw[bt,dr];rfl) ?_
   refine zc (ZS es.size (Ô es.size) s (by simp) λys d pe=>?_);refine zc (pC ?_ (by rw[zF,pe.length_eq,vU,jL];omega));have A6:(s.heap.push { cls:=.type "tuple",data:=.seq (ys.map λ(i:Nat)=>rawInt (i:Int)).toArray }).get? a=À o:=zf _ ho;refine zc (wpAny_setEpoch_of (s:={ s with heap:=s.heap.push { cls:=.type "tuple",data:=.seq (ys.map λ(i:Nat)=>rawInt (i:Int)).toArray },drawn:=d }) A6 hd S.fits ?_);refine zc (jc ?_);refine zg ⟨_,rfl,"set_iterator",_,⟨_,zK _ rfl,rfl⟩,slotN.lookup,?_⟩;have sz:(s.heap.push { cls:=.type "tuple",data:=.seq (ys.map λ(i:Nat)=>rawInt (i:Int)).toArray }).objs.size=s.heap.objs.size+1:=jQ ..;refine k (s.heap.push { cls:=.type "tuple",data:=.seq (ys.map λ(i:Nat)=>rawInt (i:Int)).toArray }).objs.size (.ref s.heap.objs.size) _ d (ys.map λj=>(es.toList.getD j (0,.none)).2) (by rw[sz];omega) (zK _ rfl) ?_ ?_ (λT e=>?_) λb o e=>zf _ (zf _ e)
   .refine .inr (.inl ⟨bt,dr,s.heap.objs.size,ys,_,_,rfl,zf _ (zK _ rfl),rfl,rfl,λj hj=>?_⟩)
    exact ju.mp (pe.mem_iff.mp hj)
   .have:=pe.map λj=>(es.toList.getD j (0,Ó)).2
    refine this.trans ?_;have e2:=jt (List.map (λ(x:Int×Ä)=>x.2)) (range_getD es.toList (0,Ó));rw[z9,kj] at e2;exact List.Perm.of_eq e2
   .cases e
    refine⟨by rw[sz];exact zU (jV _),zG _,?_⟩;rw[jQ,sz];exact jF (jV _)
  .have dr:(!t.plain&&decide (es.size>1))=Â:=by simpa using dr
   refine dP (show(!w.params.followText "set-order" && (!t.plain&&decide (es.size>1)))=Â by rw[dr];simp) ?_;exact num _ (.inr (.inr ⟨bt,dr,by rw[Aj,bt];rfl,rfl,rfl⟩)) (qK _)
end
theorem Jh(t:Ð)(es:Array (Int×Ä))(h:Int)(x:Ä):(layNew t es h x).2.1.led=t.led:=by
 unfold layNew;split
 .dsimp only
  unfold SetTable.orStandIn;split<;>rfl
 .rfl
def J0(t:Ð)(es:Array (Int×Ä))(n:Nat):(ő t es n).2.1.led=t.led/\(t.plain=Â->(ő t es n).2.1.plain=Â):=by
 unfold ő;split
 .rename_i t' order e
  unfold SetTable.relaid Ű at e;obtain⟨ow,_,e⟩:=zH.mp e;cases e;dsimp only;split
  .exact⟨rfl,id⟩
  .exact⟨rfl,λ_=>rfl⟩
 .exact⟨rfl,λ_=>rfl⟩
section
variable{prog:Í}{w:Ñ}{A:Ö}{E:Ä->Å->Prop}{s:Å}
noncomputable def i8(prog:Í)(w:Ñ)(p:List Æ×Ä):Int×Ä:=((SK prog w).hash (p.1.headD ""),p.2)
def tU(prog:Í)(w:Ñ)(h:Ò)(a:È)(L:List (List Æ×Ä)):Prop:=
 ∃o es ep t,h.get? a=À o/\o.ExactSet/\o.data=.set es ep t/\t.fits es.size=Ã/\t.led = !w.params.followText "set-order" /\ (t.plain=Â\/es.size=0)/\es.toList=L.map (i8 prog w)/\(L.map (·.1)).Nodup/\∀p∈L,IsK prog w h .lt p.1 p.2
def XR{L:List (List Æ×Ä)}(e:es=L.map (i8 prog w))(hL:∀p∈L,IsK prog w h .lt p.1 p.2):ElemsOf (SK prog w) es:=by
 intro v hv;rw[e] at hv;obtain⟨⟨k,u⟩,p1,rfl⟩:=zp.mp hv;cases hL _ p1 with
 | text x t=>exact⟨⟨x,qP _ _ _ _,rfl⟩,rfl⟩
def W9{L:List (List Æ×Ä)}(hS:tU prog w s.heap a L)(hb:L.length<900)
  (h:∀added h' L',Ý a s.heap h'->tU prog w h' a L'->L'.Perm (if [x]∈L.map (·.1) then L else ([x],.str x t)::L)->Q added { s with heap:=h' }) :
  É (Ë prog w) A (ř a (.str x t) ((SK prog w).hash x)) Q E s:=by
 obtain⟨o,es,ep,tb,ho,hex,hd,hf,Aj,Ad,hL,nd,hT⟩:=id hS;have ET:es.size=L.length:=by have:=jt â hL;simpa using this
 have Ng:=XR hL hT;have Af:(ĕ x t).scannable=Ã:=rfl;have As:(SK prog w).is x (.str x t)=Ã:=qP _ _ _ _;have LX:s={ s with heap:=s.heap }:=by cases s;rfl
 have GN:∀e∈L,((SK prog w).is x (i8 prog w e).2=Ã↔e.1=[x]):=λe he=>by
  obtain⟨k,u⟩:=e;cases hT _ he with
  | text y t'=>
   constructor
   .intro q
    have:x=y:=(SK prog w).inj (.str y t') x y q (qP _ _ _ _);rw[this]
   .intro q
    cases q;exact qP _ _ _ _
 unfold ř ŧ;refine je (zc (jT ho hd hf ?_));dsimp only;rw[byScan_of Af (by unfold scanBound;omega) Ng];simp only[↓reduceIte];unfold setAddByScan;refine zc ?_;refine zc (qz ?_);refine zc (wpAny_setScan_of As ho hd hf Ng ?_);cases hr:List.findIdx? (λe=>(SK prog w).is x e.2) es.toList with
 | some j=>
  dsimp only;obtain⟨hj,Pq,_⟩:=List.findIdx?_eq_some_iff_getElem.mp hr;refine Ł (Ł ?_);rw[LX];refine h _ s.heap L (Heap.SameBut.refl a s.heap) hS ?_;obtain⟨e,e1,e2⟩:∃e∈L,i8 prog w e=es.toList[j]:=by
   have hm:=qe hj;generalize es.toList[j]=y at hm;rw[hL] at hm;exact zp.mp hm
  rw[zW (zp.mpr ⟨e,e1,(GN e e1).mp (by rw[e2];exact Pq)⟩)]
 | none=>
  dsimp only;have absent:[x]∉L.map (·.1):=by
   intro hc;obtain⟨e,e1,e2⟩:=zp.mp hc;have:=ut.mp hr (i8 prog w e) (by rw[hL];exact zp.mpr ⟨e,e1,rfl⟩);rw[(GN e e1).mpr e2] at this;cases this
  have AF:=layNew_perm tb es ((SK prog w).hash x) (.str x t);have AX:=layNew_fits tb es ((SK prog w).hash x) (.str x t);have AV:=Jh tb es ((SK prog w).hash x) (.str x t);generalize hLy:layNew tb es ((SK prog w).hash x) (.str x t)=Ly at AF AX AV ⊢;obtain⟨Ak,t1,Em,gave⟩:=Ly;dsimp only at AF AX AV ⊢;have Pr:∀(b:Bool) {d4:Å} {Q':Unit->Å->Prop},Q' () d4->É (Ë prog w) A (match b with | true=>rule "set.scan.the-table-gave-way" | false=>pure ()) Q' E d4:=
   λb d4 Q' hq=>by cases b<;>first | exact zg hq | exact qz hq
  refine zc (Pr _ ?_);have Ii:(es.push ((SK prog w).hash x,ĕ x t)).toList.Perm ((([x],ĕ x t)::L).map (i8 prog w)):=by
   rw[Array.toList_push,hL,zu];exact(List.perm_append_singleton _ _)
  have store:∀{hh:Ò} {oo:ö} {ee:Array (Int×Ä)} {pp:Nat} {tt:Ð} {es':Array (Int×Ä)} {t':Ð},hh.get? a=À oo->oo.ExactSet->oo.data=.set ee pp tt->es'.toList.Perm ((([x],ĕ x t)::L).map (i8 prog w))->t'.fits es'.size=Ã->t'.led=tb.led->t'.plain=Â->
    (hh.update a (Ć es' t')).get? a=À { oo with data:=.set es' (pp+1) t' }/\∃L',L'.Perm (([x],ĕ x t)::L)/\tU prog w (hh.update a (Ć es' t')) a L':=by
   intro hh oo ee pp tt es' t' g1 g2 g3 pe f1 f2 f3;have hg:(hh.update a (Ć es' t')).get? a=À { oo with data:=.set es' (pp+1) t' }:=by
    have:=jy (Ć es' t') g1 (by rw[ue es' t' g3];rfl);rw[ue es' t' g3] at this;exact this
   obtain⟨L',p1,p2⟩:=dY pe.symm rfl;refine⟨hg,L',p1,_,es',pp+1,t',hg,g2,rfl,f1,f2.trans Aj,.inl f3,p2.symm,((p1.map (·.1)).nodup_iff).mpr (jJ.mpr ⟨absent,nd⟩),λp hp=>?_⟩;rcases zj.mp (p1.mem_iff.mp hp) with rfl | hp
   .exact .text x t
   .obtain⟨k,u⟩:=p
    cases hT _ hp with
    | text y t'=>exact .text y t'
  have A2:Ak.size=L.length+1:=by have:=(AF.trans Ii).length_eq;simpa using this
  have fin:∀h' L',Ý a s.heap h'->tU prog w h' a L'->L'.Perm (([x],ĕ x t)::L)->Q Ã { s with heap:=h' }:=λh' L' sb ST q=>h _ h' L' sb ST (by rw[kh absent];exact q)
  have tail:∀t2:Ð,t2.fits Ak.size=Ã->t2.led=tb.led->t2.plain=Â->∀{g:Bool->Sem Unit},(∀(b:Bool) {d4:Å} {Q':Unit->Å->Prop},Q' () d4->É (Ë prog w) A (g b) Q' E d4)->∀{R:Option Bool->Å->Prop},(∀h',Q Ã { s with heap:=h' }->R (À Ã) { s with heap:=h' })->É (Ë prog w) A (do
    storeSet a Ak t2
    if (!Em&&t2.tooFull)=Ã then do
      g (ő t2 Ak (õ Ak.size)).2.2
      storeSet a (ő t2 Ak (õ Ak.size)).1 (ő t2 Ak (õ Ak.size)).2.1
      pure (À Ã)
     else pure (À Ã)) R E s:=by
   intro t2 f1 f2 f3 g hg R hR;refine zc (yw ho hd ?_ (by rw[A2,jL];omega));obtain⟨Nh,L1,p1,S1⟩:=store ho hex hd (AF.trans Ii) f1 f2 f3;have Hq:=jR s.heap a (Ć Ak t2);split
   .have hp:=relayAll_perm t2 Ak (õ Ak.size)
    have HY:=relayAll_fits t2 Ak (õ Ak.size);obtain⟨l1,l2⟩:=J0 t2 Ak (õ Ak.size);generalize ő t2 Ak (õ Ak.size)=Rl at hp HY l1 l2 ⊢;obtain⟨Pt,t3,Ni⟩:=Rl;dsimp only at hp HY l1 l2 ⊢;have Pu:Pt.size=L.length+1:=by have:=hp.length_eq;erw[Ŭ] at this;omega
    refine zc (hg _ ?_);refine zc (yw Nh rfl ?_ (by rw[Pu,jL];omega));obtain⟨_,L2,p2,S2⟩:=store Nh hex rfl (hp.trans (AF.trans Ii)) HY (l1.trans f2) (l2 f3);exact zg (hR _ (fin _ L2 (Hq.trans (jR _ a _)) S2 p2))
   .exact zg (hR _ (fin _ L1 Hq S1 p1))
  split
  .refine zc ?_
   rw[hashByValue_scannable 8 Af];refine zg ?_;refine tail _ ?_ ?_ ?_ ?_ ?_
   .exact SetTable.fits_plain_off AX
   .exact AV
   .rfl
   .intro b d4 Q' hq;cases b<;>first | exact zg hq | exact qz hq
   .intro h' q;exact zg q
  .rename_i np
   refine zc (zg ?_);simp only[↓reduceIte];refine tail _ AX AV (by simpa using np) ?_ ?_
   .intro b d4 Q' hq;cases b<;>first | exact zg hq | exact qz hq
   .intro h' q;exact zg q
def SetU(prog:Í)(w:Ñ)(h:Ò)(a:È):Ordering->List (List Æ×Ä)->Prop
 | .lt,L=>tU prog w h a L
 | .gt,_=>False
 | .eq,L=>∃L0,SetT (SK prog w) h a L0/\L=L0.map (λp=>(p.1,Ï p.2))/\∀p∈L0,p.1≠[]
def SetU.raw{h:Ò}{L:List (List Æ×Ä)}(S:SetU prog w h a b L):∃o es ep t,h.get? a=À o/\o.ExactSet/\o.data=.set es ep t/\SWk t es/\t.led = !w.params.followText "set-order" /\ es.toList.map (·.2)=L.map (·.2)/\(L.map (·.1)).Nodup/\∀p∈L,IsK prog w h b p.1 p.2:=by
 cases b with
 | lt=>
  obtain⟨o,es,ep,t,g1,g2,g3,g4,g5,g6,g7,g8,g9⟩:=S;refine⟨o,es,ep,t,g1,g2,g3,⟨g4,λq=>?_⟩,g5,by rw[g7,z9];rfl,g8,g9⟩;have sz:t.place.toList.length<=1:=by
   unfold ŉ at g4;simp at g4 q;rw[kj];rcases g6 with g6 | g6
   .have:=q g6;omega
   .omega
  match h:t.place.toList,sz with
  | [],_=>exact .nil
  | [x],_=>exact yc _ _
 | gt=>exact S.elim
 | eq=>
  obtain⟨L0,⟨o,es,ep,t,R,g1,g2,g3,g4,g5,g6,g7,g8,g9⟩,rfl,ne⟩:=S;refine⟨o,es,ep,t,g1,g2,g3,g6.swk,g5,by rw[g7,z9,z9];rfl,by rw[z9];exact g8,λp hp=>?_⟩;obtain⟨q,q1,rfl⟩:=zp.mp hp;exact .tup (g9 q q1) (ne q q1)
def SetU.kept{h h':Ò}(S:SetU prog w h a b L)(k1:∀o,h.get? a=À o->h'.get? a=À o)(k2:∀p∈L,∀x o,p.2=.ref x->h.get? x=À o->h'.get? x=À o):SetU prog w h' a b L:=by
 cases b with
 | lt=>
  obtain⟨o,es,ep,t,g1,g2,g3,g4,g5,g6,g7,g8,g9⟩:=S;exact⟨o,es,ep,t,k1 _ g1,g2,g3,g4,g5,g6,g7,g8,λp hp=>(g9 p hp).keep λx o=>k2 p hp x o⟩
 | gt=>exact S.elim
 | eq=>
  obtain⟨L0,⟨o,es,ep,t,R,h1,h2,h3,h4,h5,h6,h7,h8,h9⟩,rfl,ne⟩:=S;refine⟨L0,⟨o,es,ep,t,R,k1 _ h1,h2,h3,h4,h5,h6,h7,h8,λp hp=>?_⟩,rfl,ne⟩;obtain⟨ob,its,m,e1,e2,e3,e4⟩:=h9 p hp;exact⟨ob,its,m,k2 _ (zp.mpr ⟨p,hp,rfl⟩) _ _ rfl e1,e2,e3,e4⟩
theorem SetU.fresh{h:Ò}(hb:b≠.gt)(e:h.get? a=À { cls:=.type "set",dict:=Á,data:=.set #[] 0 (.fresh 0 0 (!w.params.followText "set-order")) }):SetU prog w h a b []:=by
 cases b with
 | lt=>exact⟨_,#[],0,_,e,⟨rfl,rfl,rfl⟩,rfl,rfl,rfl,.inr rfl,rfl,qJ,λp hp=>(by cases hp)⟩
 | gt=>exact absurd rfl hb
 | eq=>
  have T:TOk (SetTable.fresh 0 0 (!w.params.followText "set-order")):=⟨rfl,ė,λj hj=>(by cases hj),⟨3,zG _,rfl⟩,qp _⟩;have S:SOk (SetTable.fresh 0 0 (!w.params.followText "set-order")) [] []:=⟨T,rfl,rfl,λr hr=>(by cases hr),show 0*5<7*3 by decide⟩;exact⟨[],⟨_,#[],0,_,[],e,⟨rfl,rfl,rfl⟩,rfl,show 7<=8191 by decide,rfl,S,rfl,qJ,λp hp=>(by cases hp)⟩,rfl,λp hp=>(by cases hp)⟩
def XT{L:List (List Æ×Ä)}(hu:A.units<ď)(hS:SetU prog w s.heap a b L)(hk:IsK prog w s.heap b k v)(hb:L.length<900)
  (h:∀added h' tk L',Ý a s.heap h'->s.toks<=tk->SetU prog w h' a b L'->L'.Perm (if k∈L.map (·.1) then L else (k,v)::L)->Q added { s with heap:=h',toks:=tk }) :
  É (Ë prog w) A (setAdd a v) Q E s:=by
 unfold setAdd;cases hk with
 | text x t=>
  refine je (zc ((SK prog w).pyHash (k:=x) (qP _ _ _ _) ?_));exact W9 (s:={ s with toks:=s.toks+1 }) hS hb λadded h' L' sb ST pe=>h added h' _ L' sb (xU _ _) ST pe
 | nats hk ne=>exact hS.elim
 | @tup x k hk ne=>
  obtain⟨L0,S0,rfl,n0⟩:=hS;refine je (zc (wpAny_pyHash_tuple hu hk ?_));refine X1 (knd:=SK prog w) (s:={ s with toks:=s.toks+(k.length+1) }) (L:=L0) hu S0 hk (by simpa using hb) λadded h' L' sb ST pe=>?_
  have e:((L0.map λp=>(p.1,Ï p.2)).map (·.1))=L0.map (·.1):=by rw[z9];rfl
  refine h added h' _ (L'.map λp=>(p.1,Ï p.2)) sb (xU _ _) ⟨L',ST,rfl,λp hp=>?_⟩ ?_
  .have:=pe.mem_iff.mp hp
   split at this
   .exact n0 p this
   .rcases zj.mp this with rfl | this
    .exact ne
    .exact n0 p this
  .rw[e]
   refine(pe.map λp=>(p.1,Ï p.2)).trans ?_;split<;>exact qK _
end
section
variable{prog:Í}{w:Ñ}{A:Ö}{E:Ä->Å->Prop}{s:Å}
def Xp:ļ (.type "set") "__len__" = pure (À (.builtin "set.__len__")):=by rw[wQ,vm];kernel_rfl
def WR(hT:s.TypeIs (.ref a) "set")(h:Q Â s):É (Ë prog w) A (ķ (.ref a)) Q E s:=by
 unfold ķ;refine zc (uX hT Xp ?_);dsimp only;generalize hid:("set.__len__":String)=idl;rw[show splitId idl=À ("set","__len__") from by subst hid;decide +kernel];subst hid;dsimp only;refine ô (wpAny_isInstance (b:=Ã) hT (by rw[isSubtype_type];kernel_rfl) ?_);rw[kh (by decide)];refine mC ⋯ ?_;refine zc (qy hT ?_);exact zg h
def Zg{L:List (List Æ×Ä)}(hh:A.handled=Á)(hS:SetU prog w s.heap S b L)(hb:L.length<900)
  (k:∀(L':List (List Æ×Ä)) (s':Å),L'.Perm L->(∀b o,s.heap.get? b=À o->s'.heap.get? b=À o)->s'.gens=s.gens->s'.os=s.os->s.heap.objs.size<=s'.heap.objs.size->Q (L'.map (·.2)) s'):É (Ë prog w) A (collect (.ref S)) Q E s:=by
 obtain⟨o,es,ep,t,ho,hex,hd,S0,Aj,hL,nd,hT⟩:=hS.raw;have ET:es.size=L.length:=by have:=jt â hL;simpa using this
 have Nj:S<s.heap.objs.size:=zM ho;unfold collect;refine zc (xJ (qi F.entry_proto_collect ?_));rw[jN F.plain_proto_collect _];show É _ A.in1 (newList [] >>= λnl=>again (.builtin "list.__iadd__" ⟨[nl,.ref S],[]⟩)) _ _ s
 refine zc (jc ?_);refine zg ⟨vG yI _,qi F.entry_list_iadd ?_⟩;rw[jN yI _];generalize hN:s.heap.objs.size=N;show É _ A.in1 (ÿ (.ref N) (.ref S) (.ref N)) _ _ _
 let h1:Ò:=s.heap.push { cls:=.type "list",data:=.seq ([]:List Ä).toArray }
 have AG:∀b o,s.heap.get? b=À o->h1.get? b=À o:=λb o e=>zf _ e
 have A2:h1.objs.size=N+1:=by rw[<-hN];exact jQ ..
 have IT:h1.get? S=À o:=AG _ _ ho;have L5:h1.get? N=À { cls:=.type "list",data:=.seq ([]:List Ä).toArray }:=by rw[<-hN];exact zK _ rfl
 have L6:N≠S:=by rw[<-hN];exact(zU Nj).symm
 show É _ A.in1 _ _ _ { s with heap:=h1 }
 have L7:Shared.TypeIs { s with heap:=h1 } (.ref S) "set":=⟨o,IT,hex.1⟩;unfold ÿ;refine zc (qy L7 ?_);refine dP (by simp[Ō,L6]) ?_;refine zc (We (s:={ s with heap:=h1 }) IT hex.1 hd S0 Aj ∅ λI first h2 d vs gI Pv Pw Nk gT gK=>?_);refine zc (je (WR ⟨o,gK _ _ IT,hex.1⟩ ?_));refine mC ⋯ ?_;refine zc (qz ?_);refine zc ?_;show É _ A.in1 (updateSeq N (·.push .none) >>= λ_=>updateSeq N (·.pop)) _ _ _
 have Eo:h2.get? N=À { cls:=.type "list",data:=.seq ([]:List Ä).toArray }:=gK _ _ L5;refine zc (vW Eo rfl ?_);have up1:=jy (Û (·.push Ó)) Eo rfl;refine vW up1 rfl ?_;have L8:=jy (Û (·.pop)) up1 rfl;have off:∀b o,b≠N->h2.get? b=À o->((h2.update N (Û (·.push Ó))).update N (Û (·.pop))).get? b=À o:=
  λb o ne e=>(j7 _ _ (jq ne)).trans ((j7 _ _ (jq ne)).trans e)
 let fp:List È:=I::S::(match first with | .ref T=>[T] | _=>[])
 have A0:vs.length=es.size:=by have:=Nk.length_eq;simpa using this
 have L9:N+1<=I:=by rw[<-A2];exact gI
 have Px:S≠I:=λe=>by
  have:S<N:=by rw[<-hN];exact Nj
  exact absurd L9 (by rw[<-e];exact Nat.not_le.mpr (jF this))
 have nF:N∉fp:=by
  intro m;rcases zj.mp m with e | m
  .exact absurd L9 (by rw[<-e];exact u9 _)
  .rcases zj.mp m with e | m
   .exact L6 e
   .cases first with
    | ref T=>
     have e:N=T:=by simpa using m
     have:=(gT T rfl).2.1;have this:N+1<=T:=by rw[<-A2];exact this
     exact absurd this (by rw[<-e];exact u9 _)
    | _=>simp at m
 have Nl:∀T,first=.ref T->T∈fp:=λT e=>by
  subst e;exact zm _ (zm _ (by simp))
 have El:A.in1.handled=Á:=by simpa using hh
 have W:=(Vu (prog:=prog) (w:=w) (A:=A.in1) El (I:=I) (a:=S) (ep:=ep) (vs:=vs) S0 A0 Px fp (zr ..) (zm _ (zr ..))).toS;have Py:Md w ((h2.update N (Û (·.push Ó))).update N (Û (·.pop))) S es t ep vs first 0:=by
  rcases Pw with m | ⟨m1,m2,T,places,oT,m,e,t1,t2,m3,m4⟩ | m
  .exact .inl m
  .refine .inr (.inl ⟨m1,m2,T,places,oT,m,e,off _ _ (λz=>?_) t1,t2,m3,m4⟩)
   exact nF (z▸Nl T e)
  .exact .inr (.inr m)
 have nI:I≠N:=λe=>nF (by rw[<-e];exact zr ..)
 refine zg ⟨vG F.plain_extend_loop _,Ũ W (by rw[jL];omega) N nF (.ref N) vs.length 0 _ _ _ rfl (qp _) ?_ L8 (ItemsOf.nil _) λs' acc c G8 EW Ep=>?_⟩
 .exact⟨o,first,off _ _ (jq L6) (gK _ _ IT),hd,off _ _ nI Pv,Py,λT e=>⟨(gT T e).1,Nl T e⟩⟩
 .show É _ A (load N >>= _) _ _ s'
  refine zc (xm EW ?_);have Er:acc.toList=vs:=by
   apply yp
   .rw[kj];exact Ep.1
   .intro i a1 a2
    have this:vs[i]?=À acc.toList[i]:=Ep.2 i acc.toList[i] (by simp);rw[zP a2] at this;exact(zX this).symm
  have Ma:(L.map (·.2)).Perm vs:=by rw[<-hL];exact Nk.symm
  obtain⟨L',q1,q2⟩:=dY Ma rfl;refine zg ?_;show Q acc.toList s'
  rw[Er,<-q2];refine k L' s' q1 (λb ob e=>?_) G8.gens G8.os (by rw[hN];exact qU (zM EW));refine G8.heap b ob ?_ (off b ob ?_ (gK _ _ (AG _ _ e)))
  .intro m
   have lt:=zM e;rw[hN] at lt;rcases zj.mp m with z | m
   .exact zU lt z
   .have z:b=I:=by simpa using m
    exact absurd L9 (by rw[<-z];exact Nat.not_le.mpr (jF lt))
  .have lt:=zM e
   rw[hN] at lt;exact zU lt
def DN{l:List (List Æ)}(nd:l.Nodup)(h:l.Pairwise λx y=>jv y x=Â):dg l:=by
 unfold dg;refine(List.Pairwise.and h nd).imp λ{x y} q=>?_
 rcases fM q.2 with z | z
 .exact z
 .rw[q.1] at z;cases z
def Qi{L:List (List Æ×Ä)}(hb:L.length<64)(nd:(L.map (·.1)).Nodup)(tk:∀p∈L,IsK prog w s.heap b p.1 p.2)
  (hc:∀(E':Ä->Å->Prop) (Q':List Ä->Å->Prop),(∀(L':List (List Æ×Ä)) (s':Å),L'.Perm L->(∀b o,s.heap.get? b=À o->s'.heap.get? b=À o)->s'.gens=s.gens->s'.os=s.os->s.heap.objs.size<=s'.heap.objs.size->Q' (L'.map (·.2)) s')->É (Ë prog w) A.in1 (collect v) Q' E' s)
  (k:∀(D:È) (L':List (List Æ×Ä)) (n:Nat) (s':Å),L'.Perm L->L'.map (·.1)=kG (L.map (·.1))->s'.heap.get? D=À (Ĳ "list" (L'.map (·.2)).toArray n)->s.heap.objs.size<=D->(∀b o,s.heap.get? b=À o->s'.heap.get? b=À o)->s'.gens=s.gens->s'.os=s.os->Q (.ref D) s') :
  É (Ë prog w) A (call (.builtin "sorted") [v]) Q E s:=by
 refine Calls.call_function_entry kind_sorted plain_sorted entry_sorted (args_sorted1 _) ?_;unfold ò.«sorted»;refine zc (m:=checkCount "sorted" 1 1 _) (zg ?_);refine zc (hc _ _ λL1 s1 p1 k1 g1 o1 Ik=>?_);refine zc (wpAny_newList ?_ (by rw[zF,p1.length_eq,jL];omega));have Nm:(s1.heap.push (Ĳ "list" (L1.map (·.2)).toArray 0)).get? s1.heap.objs.size=À (Ĳ "list" (L1.map (·.2)).toArray 0):=zK _ rfl;have kp:∀b o,s.heap.get? b=À o->(s1.heap.push (Ĳ "list" (L1.map (·.2)).toArray 0)).get? b=À o:=λb o e=>zf _ (k1 _ _ e)
 show É _ _ _ _ _ { s1 with heap:=s1.heap.push (Ĳ "list" (L1.map (·.2)).toArray 0) }
 refine zc (je (jo slot_list_sort ⟨_,Nm,rfl⟩ entry_list_sort (sort_keys (L:=L1) Nm (λp hp=>(tk p (p1.mem_iff.mp hp)).keep λx o _ e=>kp x o e) (by rw[p1.length_eq];exact hb) λL2 h2 n2 p2 up Pz off=>⟨_,rfl,?_⟩) (args_list_sort _)));refine zg ⟨_,rfl,k _ L2 n2 _ (p2.trans p1) ?_ Pz Ik (λb o e=>off b o (λz=>?_) (kp _ _ e)) g1 o1⟩
 .have PB:(L2.map (·.1)).Nodup:=(((p2.trans p1).map (·.1)).nodup_iff).mpr nd
  refine xD (DN PB up) (we _) λx=>?_
  rw[ssort_mem];exact((p2.trans p1).map (·.1)).mem_iff
 .have lt:=zM e
  rw[z] at lt;exact absurd lt (uB.mpr Ik)
end
section
variable{prog:Í}{w:Ñ}{A:Ö}{E:Ä->Å->Prop}{s:Å}
variable{R:Result->Å->Prop}{I:È}{fp wr:List È}{G:Array ō->Array ō->Prop}{n:Nat}{P:Nat->Ä->Prop}{St:Nat->Å->Prop}
def nE(W:WalksS prog w A.in1 I fp wr G n P St)(S:È)(Il:S∉fp)(key:Nat->List Æ)(ad:Nat->Ä)(EX:∀i v,P i v->v=ad i)(hu:A.in1.units<ď)(hb:n<890)(hw:∀j,j<n->∀x,ad j=.ref x->x∉wr/\x≠S) :
  ∀(k i:Nat) (s:Å) (L:List (List Æ×Ä)),n-i=k->i<=n->St i s->SetU prog w s.heap S b L->L.length<=i->(∀x,x∈L.map (·.1)↔∃j,j<i/\key j=x)->(∀p∈L,∃j,j<i/\p=(key j,ad j))->(∀j,j<n->IsK prog w s.heap b (key j) (ad j))->
   (∀s' L',Moved (S::wr) G s s'->SetU prog w s'.heap S b L'->L'.length<=n->(∀x,x∈L'.map (·.1)↔∃j,j<n/\key j=x)->(∀p∈L',∃j,j<n/\p=(key j,ad j))->R (.ok (.ret .none)) s')->
   ĵ (Ë prog w) A (.builtin "set.update.loop" ⟨[.ref S,.ref I],[]⟩) R s:=by
 have PD:S∉wr:=λh=>Il (W.sub _ h)
 have up:∀b∈wr,b∈S::wr:=λb hb=>zm _ hb
 have stay:∀{i:Nat} {L:List (List Æ×Ä)} {s s':Å},i<=n->SetU prog w s.heap S b L->(∀p∈L,∃j,j<i/\p=(key j,ad j))->Moved wr G s s'->SetU prog w s'.heap S b L:=λhi hS hp hm=>hS.kept (λo e=>hm.heap S o PD e) λp mp x o q e=>by
  obtain⟨j,j1,rfl⟩:=hp p mp;exact hm.heap _ o (hw j ∅ x q).1 e
 have Im:∀{s s':Å},(∀j,j<n->IsK prog w s.heap b (key j) (ad j))->Moved wr G s s'->∀j,j<n->IsK prog w s'.heap b (key j) (ad j):=λhk hm j hj=>(hk j hj).keep λx o q e=>hm.heap _ _ (hw j hj x q).1 e
 intro k;induction k with
 | zero=>
  intro i s L hk hi r6 hS d6 G9 Hr As hR;obtain rfl:i=n:=by omega
  refine qi yL ?_;rw[jN vo _];show É _ A.in1 (đ (.ref I) >>= _) _ _ s;refine zc (W.done s _ _ r6 λs' hm=>?_)
  show É _ A.in1 (ret Ó) _ _ s';exact zg (hR s' L (hm.mono up) (stay hi hS Hr hm) d6 G9 Hr)
 | succ k ih=>
  intro i s L hk hi r6 hS d6 G9 Hr As hR;have lx:i<n:=by omega
  refine qi yL ?_;rw[jN vo _];show É _ A.in1 (đ (.ref I) >>= _) _ _ s;refine zc (W.item i s _ _ lx r6 λv s' hP Ej hm=>?_)
  obtain rfl:=EX i v hP;have EW:=stay hi hS Hr hm;have Nn:=Im As hm;show É _ A.in1 (holding [ad i] (setAdd S (ad i)) >>= _) _ _ s';refine zc (je ?_)
  refine XT hu EW (Nn i lx) ∅ λadded h' tk L' sb le ST pe=>?_
  have Io:L'.length<=i+1:=by
   rw[pe.length_eq];split
   .omega
   .erw[zE];omega
  have Ip:∀x,x∈L'.map (·.1)↔∃j,j<i+1/\key j=x:=λx=>by
   rw[(pe.map (·.1)).mem_iff];have st:(∃j,j<i+1/\key j=x)↔(∃j,j<i/\key j=x)\/key i=x:=by
    constructor
    .rintro⟨j,j1,j2⟩
     rcases jU (wW j1) with z | z
     .exact .inl ⟨j,z,j2⟩
     .subst z;exact .inr j2
    .rintro(⟨j,j1,j2⟩ | z)
     .exact⟨j,by omega,j2⟩
     .exact⟨i,by omega,z⟩
   rw[st,<-G9 x];split
   .rename_i c
    constructor
    .exact .inl
    .rintro(z | z)
     .exact z
     .rw[<-z];exact c
   .rw[zu,zj]
    constructor
    .rintro(z | z)
     .exact .inr z.symm
     .exact .inl z
    .rintro(z | z)
     .exact .inr z
     .exact .inl z.symm
  have Mc:∀p∈L',∃j,j<i+1/\p=(key j,ad j):=λp mp=>by
   have:=pe.mem_iff.mp mp;split at this
   .obtain⟨j,j1,j2⟩:=Hr p this
    exact⟨j,by omega,j2⟩
   .rcases zj.mp this with z | z
    .exact⟨i,by omega,z⟩
    .obtain⟨j,j1,j2⟩:=Hr p z
     exact⟨j,by omega,j2⟩
  refine zg ⟨vG vo _,ih (i+1) _ L' ∅ lx (W.frame _ s' _ _ Ej le λb hb o e=>?_) ST Io Ip Mc (λj hj=>?_) λGR L2 Me PF z1 z2 z3=>?_⟩
  .rw[sb.2 b (λh:b=S=>Il (by rw[<-h];exact hb))];exact e
  .exact(Nn j hj).keep λx o q e=>(sb.2 _ (hw j hj x q).2).trans e
  .refine hR GR L2 (Moved.trans W.gtrans ((hm.mono up).then_heap le λb o hb e=>?_) Me) PF z1 z2 z3
   rw[sb.2 b (λh:b=S=>hb (by rw[h];exact zr))];exact e
end
section
variable{prog:Í}{w:Ñ}{A:Ö}{E:Ä->Å->Prop}{s:Å}
def VP(a:Ä)(h:Q₁ (.ref s.heap.objs.size) { s with heap:=s.heap.push { cls:=.type "set",dict:=Á,data:=.set #[] 0 (.fresh 0 0 (!w.params.followText "set-order")) } }) :
  ĵ (Ë prog w) A (.call (.builtin "set.__new__") ⟨[.type "set",a],[]⟩) (wants Q₁ E) s:=by
 refine codeAny_of_tree ?_;show É _ A.in1 (checkBuiltinCall "set.__new__" ⟨[.type "set",a],[]⟩ >>= λ_=>again (.builtin "set.__new__" ⟨[.type "set",a],[]⟩)) _ _ s
 refine zc (wO (F.newCall_set_1 a) ?_);refine zg ⟨vG F.plain_set_new _,qi F.entry_set_new ?_⟩;rw[jN F.plain_set_new _];unfold ò.«set.__new__» Builtin.Frozenset.newClass;have sub:=sub_set_self;obtain⟨hp,g,d,tk,os⟩:=s;dsimp only;wp_walk;refine uD (zg ?_);dsimp only;exact jc (zg h)
def Zh:isSubtype (.type "tuple") (.type "set")=pure Â:=by rw[yq];kernel_rfl
def tE:isSubtype (.type "tuple") (.type "frozenset")=pure Â:=by rw[yq];kernel_rfl
set_option maxHeartbeats 3200000 in
def Q5{us:List Ä}{Lk:List (List Æ×Ä)}(hT:T="list" \/ T="tuple")(hl:∃o n,s.heap.get? l=À o/\o.cls=.type T/\o.data=.seq us.toArray n)(IE:us=Lk.map (·.2))(hg:b≠.gt)(hk:∀p∈Lk,IsK prog w s.heap b p.1 p.2)(hh:A.handled=Á)(hb:Lk.length<890)(hu:A.units+10<ď)
  (k:∀(L:List (List Æ×Ä)) (h':Ò) (tk:Nat),SetU prog w h' s.heap.objs.size b L->L.length<=Lk.length->(∀x,x∈L.map (·.1)↔x∈Lk.map (·.1))->(∀p∈L,p∈Lk)->(∀b o,s.heap.get? b=À o->h'.get? b=À o)->Q (.ref s.heap.objs.size) { s with heap:=h',toks:=tk }):É (Ë prog w) A (call (.type "set") [.ref l]) Q E s:=by
 obtain⟨c,tl,PH⟩:=vR.mro;have f1:=vR.made;have f2:=vR.sub;refine wpAny_call (codeAny_of_tree ?_);show É _ _ (callAny (.type "set") _) _ _ _
 refine zg ⟨Code.quiet_builtin _ ⋯,qi F.entry_type_call ?_⟩;rw[Around.under_plain (weight_type_call_type "set" [.ref l] []) rfl];have f3:=vR.notType;have f4:=vR.canCreate;have f5:=F.typeCall_set_1 (.ref l);repeat (any_goals (first | assumption | wp_step))
 refine yP (VP (.ref l) (E:=E) (Q₁:=λobj d4=>obj=.ref s.heap.objs.size/\d4={ s with heap:=s.heap.push { cls:=.type "set",dict:=Á,data:=.set #[] 0 (.fresh 0 0 (!w.params.followText "set-order")) } }) ⟨rfl,rfl⟩) λr d4 hr=>?_
 cases r with
 | error e=>exact hr
 | ok fl=>
  cases fl with
  | ret obj=>
   obtain⟨rfl,rfl⟩:=hr;generalize El:s.heap.push { cls:=.type "set",dict:=Á,data:=.set #[] 0 (.fresh 0 0 (!w.params.followText "set-order")) }=h1;have old:∀b o,s.heap.get? b=À o->h1.get? b=À o:=λb o e=>by rw[<-El];exact zf _ e
   have sz:h1.objs.size=s.heap.objs.size+1:=by rw[<-El,jQ]
   have hS:h1.get? s.heap.objs.size=À { cls:=.type "set",dict:=Á,data:=.set #[] 0 (.fresh 0 0 (!w.params.followText "set-order")) }:=by rw[<-El];exact zK _ rfl
   have L7:Shared.TypeIs { s with heap:=h1 } (.ref s.heap.objs.size) "set":=⟨_,hS,rfl⟩;have g1:=vR.init.lookup;have g2:=vR.init.bind (.ref s.heap.objs.size);repeat (any_goals (first | assumption | wp_step))
   refine yP (codeAny_call_builtin (R:=wants (λr Ac=>r=.none/\∃L h' tk,Ac={ s with heap:=h',toks:=tk }/\SetU prog w h' s.heap.objs.size b L/\L.length<=Lk.length/\(∀x,x∈L.map (·.1)↔x∈Lk.map (·.1))/\(∀p∈L,p∈Lk)/\(∀b o,s.heap.get? b=À o->h'.get? b=À o)) E) vR.init.plain F.entry_set_init (check_set_init_1 L7 ?_)) λMf Ac Es=>?_
   .obtain⟨⟨oc,od,Pf,Bz⟩,nl,Np,EQ,Nq⟩:=hl
    simp only at EQ Nq;subst EQ Nq;have Iq:=old _ _ Np;have Nr:l<s.heap.objs.size:=zM Np;have Nt:A.in1.in1.in1.handled=Á:=by simp[hh]
    have Ir:l≠h1.objs.size:=zU (by rw[sz];exact jF Nr);have Il:s.heap.objs.size∉[h1.objs.size,l]:=by
     erw[zj,zx,kE,yx];exact⟨zU (by rw[sz];exact jV _),vX Nr⟩
    have Et:us.toArray.size=Lk.length:=by rw[IE];simp
    have EY:∀j,j<us.toArray.size->Lk.getD j ([],.none)∈Lk:=λj hj=>by
     rw[Et] at hj;simp[ă,hj]
    have IU:∀j,j<us.toArray.size->∀x,(Lk.getD j ([],.none)).2=.ref x->x<s.heap.objs.size:=λj hj x e=>by
     have i:=hk _ (EY j hj);generalize Lk.getD j ([],.none)=p at i e;obtain⟨k,v⟩:=p;cases e;cases i with
     | tup q _=>obtain⟨o,its,mm,e1,_⟩:=q;exact zM e1
     | nats q _=>exact absurd rfl hg
    have hw:∀j,j<us.toArray.size->∀x,(Lk.getD j ([],.none)).2=.ref x->x∉[h1.objs.size]/\x≠s.heap.objs.size:=λj hj x e=>by
     have:=IU j hj x e;refine⟨?_,zU this⟩;erw[zj,zx,kE];exact zU (by rw[sz];exact jF this)
    have As:∀(o:ö) j,j<us.toArray.size->IsK prog w (h1.push o) b (Lk.getD j ([],.none)).1 (Lk.getD j ([],.none)).2:=λo j hj=>(hk _ (EY j hj)).keep λx ob _ e=>zf _ (old _ _ e)
    have EX:∀(i:Nat) (v:Ä),us.toArray[i]?=À v->v=(Lk.getD i ([],.none)).2:=λi v e=>by
     rw[IE,List.getElem?_toArray,kW] at e;obtain⟨p,p1,p2⟩:=zq.mp e;simp[ă,p1,<-p2]
    have Nu:A.in1.in1.in1.units<ď:=by simp;omega
    have S0:∀o,SetU prog w (h1.push o) s.heap.objs.size b []:=λo=>SetU.fresh hg (zf _ hS)
    have keys:∀x,(∃j,j<us.toArray.size/\(Lk.getD j ([],.none)).1=x)↔x∈Lk.map (·.1):=λx=>by
     constructor
     .rintro⟨j,j1,j2⟩
      exact zp.mpr ⟨_,EY j j1,j2⟩
     .intro m
      obtain⟨p,p1,p2⟩:=zp.mp m;obtain⟨j,j1,j2⟩:=vI p1;exact⟨j,by rw[Et];exact j1,by simp[ă,j1,j2,p2]⟩
    have fin:∀{o:ö} (s':Å) (L':List (List Æ×Ä)),Moved [s.heap.objs.size,h1.objs.size] (λa b=>b=a) { s with heap:=h1.push o } s'->SetU prog w s'.heap s.heap.objs.size b L'->L'.length<=us.toArray.size->(∀x,x∈L'.map (·.1)↔∃j,j<us.toArray.size/\(Lk.getD j ([],.none)).1=x)->(∀p∈L',∃j,j<us.toArray.size/\p=((Lk.getD j ([],.none)).1,(Lk.getD j ([],.none)).2))->
      ∃L h' tk,s'={ s with heap:=h',toks:=tk }/\SetU prog w h' s.heap.objs.size b L/\L.length<=Lk.length/\(∀x,x∈L.map (·.1)↔x∈Lk.map (·.1))/\(∀p∈L,p∈Lk)/\(∀b o,s.heap.get? b=À o->h'.get? b=À o):=by
     intro o s' L' hm ST ln me pa;obtain⟨h',g',d',An,HE⟩:=s';obtain rfl:g'=s.gens:=hm.gens;obtain rfl:d'=s.drawn:=hm.drawn;obtain rfl:HE=s.os:=hm.os;refine⟨L',h',An,rfl,ST,by rw[<-Et];exact ln,λx=>(me x).trans (keys x),λp mp=>?_,λb o e=>?_⟩
     .obtain⟨j,j1,j2⟩:=pa p mp
      rw[j2];exact EY j j1
     .have hb:=zM e
      exact hm.heap b o (by erw[zj,zx,kE,yx];exact⟨zU hb,zU (by rw[sz];exact jF hb)⟩) (zf _ (old _ _ e))
    rcases hT with rfl | rfl
    .have a1:=F.sub_list_set;have a2:=F.sub_list_frozenset
     have a3:(ó "list" == ó "dict")=Â:=by decide
     have AV:h1.IsList l us.toArray:=⟨_,Iq,rfl,nl,rfl⟩;unfold ò.«set.__init__» noKeywords Builtin.Frozenset.updateFrom;generalize hPI:ı=PI;wp_walk
     subst hPI;refine vC AV (zc (xJ ?_));refine nE ((ur Nt _ l Ir us.toArray).toS) s.heap.objs.size Il (λj=>(Lk.getD j ([],.none)).1) (λj=>(Lk.getD j ([],.none)).2) EX Nu (by rw[Et];exact hb) hw (us.toArray.size-0) 0 _ [] ∅ (qp _) ⟨⟨_,zK _ rfl,rfl,rfl⟩,AV.push _⟩ (S0 _) (zG _) (λx=>⟨λm=>(by cases m),λ⟨j,j1,_⟩=>absurd j1 (Nat.not_lt_zero _)⟩) (λp mp=>(by cases mp)) (As _) λs' L' hm ST ln me pa=>?_
     show É _ _ _ _ _ _
     refine zg ?_;show É _ _ (ret Ó) _ _ _
     exact zg ⟨rfl,fin s' L' hm ST ln me pa⟩
    .have a1:=Zh;have a2:=tE
     have a3:(ó "tuple" == ó "dict")=Â:=by decide
     have AV:h1.IsTuple l us.toArray:=⟨_,Iq,rfl,nl,rfl⟩;unfold ò.«set.__init__» noKeywords Builtin.Frozenset.updateFrom;generalize hPI:ı=PI;wp_walk
     subst hPI;refine yj AV (zc (xJ ?_));refine nE ((Walks.tuple Nt _ l Ir us.toArray).toS) s.heap.objs.size Il (λj=>(Lk.getD j ([],.none)).1) (λj=>(Lk.getD j ([],.none)).2) EX Nu (by rw[Et];exact hb) hw (us.toArray.size-0) 0 _ [] ∅ (qp _) ⟨⟨_,zK _ rfl,rfl,rfl⟩,AV.at λo e=>zf _ e⟩ (S0 _) (zG _) (λx=>⟨λm=>(by cases m),λ⟨j,j1,_⟩=>absurd j1 (Nat.not_lt_zero _)⟩) (λp mp=>(by cases mp)) (As _) λs' L' hm ST ln me pa=>?_
     show É _ _ _ _ _ _
     refine zg ?_;show É _ _ (ret Ó) _ _ _
     exact zg ⟨rfl,fin s' L' hm ST ln me pa⟩
   .cases Mf with
    | error e=>exact Es
    | ok fl₂=>
     cases fl₂ with
     | ret r=>
      obtain⟨rfl,L,h',tk,rfl,EW,z1,z2,z3,z4⟩:=Es;repeat (any_goals (first | assumption | wp_step))
      exact k L h' tk EW z1 z2 z3 z4
     | _=>exact Es.elim
  | _=>exact hr.elim
end
def DEs(h:Ò)(d:È)(es:Array ā)(ep:Nat):Prop:=∃o,h.get? d=À o/\o.ExactDict/\o.data=.dict es ep
section
variable{prog:Í}{w:Ñ}{A:Ö}{E:Ä->Å->Prop}{s:Å}{d it:È}{es:Array ā}{ep i:Nat}
def DEs.ty(D:DEs s.heap d es ep):s.TypeIs (.ref d) "dict":=by
 obtain⟨o,g1,g2,g3⟩:=D;exact⟨o,g1,g2.1⟩
def DEs.at{h h':Ò}(D:DEs h d es ep)(k:∀o,h.get? d=À o->h'.get? d=À o):DEs h' d es ep:=by
 obtain⟨o,g1,g2⟩:=D;exact⟨o,k _ g1,g2⟩
def Xo(ns:(d==ã)=Â)(D:DEs s.heap d es ep)(k:Q (.ref s.heap.objs.size) { s with heap:=s.heap.push { cls:=.type "dict_keyiterator",data:=.fields #[.ref d,.int 0 0,.int es.size 0,.int ep 0] } }) :
  É (Ë prog w) A (ı (.ref d)) Q E s:=by
 obtain⟨o,g1,g2,g3⟩:=id D;refine uo D.ty F.slot_dict_iter (jo F.slot_dict_iter D.ty F.entry_dict_iter ?_ (F.args_dict_iter_1 _));unfold ò.«dict.__iter__» Builtin.Dict.dictSlotNone;refine zc (zc (Ş D.ty (show É _ _ (pure (Ï d)) _ _ s from zg ?_)));show É _ _ (Builtin.Dict.showsAll d >>= λ_=>_) _ _ s
 unfold Builtin.Dict.showsAll;refine zc ?_;refine dP ns (zg ?_);refine zc (wpAny_dictEntries g1 g3 (zc (wpAny_dictEpoch g1 g3 ?_)));exact zc (jc (zg ⟨_,rfl,"dict_keyiterator",_,⟨_,zK _ rfl,rfl⟩,wM.lookup,by simpa[rawInt] using k⟩))
def ZV(hi:s.heap.IsKeyIter it d i es.size ep)(D:DEs s.heap d es ep)
  (k1:∀(lx:i<es.size) h',h'.IsKeyIter it d (i+1) es.size ep->Ý it s.heap h'->Q (À es[i].key) { s with heap:=h' })
  (hh:A.handled=Á) (k2:es.size<=i->∀h',(∀b o,b≠it->s.heap.get? b=À o->h'.get? b=À o)->Q Á { s with heap:=h' }):É (Ë prog w) A (đ (.ref it)) Q E s:=by
 obtain⟨o,ho,hc,hd⟩:=id hi;obtain⟨od,g1,g2,g3⟩:=id D;unfold đ;refine zc (vD (jx (name:=ú "__next__") hi.typeIs wM (jo wM hi.typeIs F.entry_dict_keyiterator_next ?_ (F.args_dict_keyiterator_next_1 _))));refine zc (zg (zc (zc ?_)));first | refine zc (wG hi.typeIs (zg (zc (wpAny_fieldsOf ho hd ?_)))) | refine zc (yu hi.typeIs (zg (zc (wpAny_fieldsOf ho hd ?_))))
 erw[show Builtin.Dict_items.ownsTuple "dict_keyiterator" = Â from by decide,zN,jn];refine dP (c:=(Ï d==Ó)) rfl (zc (zg (zc (wpAny_dictEntries g1 g3 ?_))));rw[kh (by simp)];refine zc (zg (zc (wpAny_dictEpoch g1 g3 ?_)));rw[kh (by simp)];refine zg ?_;by_cases lx:i<es.size
 .erw[show ¬((i:Int)<0) by omega,jn,jd,Array.getElem?_eq_getElem lx]
  refine zc ?_;first | refine zc (wG hi.typeIs (zg (zc (yN hi.typeIs ?_)))) | refine zc (yu hi.typeIs (zg (zc (yN hi.typeIs ?_))))
  show É _ _ (setField (.ref it) 1 (rawInt ((i:Int)+1)) >>= λ_=>_) _ _ s
  refine zc (xH ho hd (by simp) ?_);have A7:(s.heap.update it (Obj.mapFields (·.setIfInBounds 1 (rawInt ((i:Int)+1))))).IsKeyIter it d (i+1) es.size ep:=
   ⟨_,jy _ ho (ŝ (ym hd _)),(Obj.cls_mapFields ..).trans hc,by rw[ym hd];simp[rawInt]⟩
  refine zc (je (zc (yN (s:={ s with heap:=s.heap.update it (Obj.mapFields (·.setIfInBounds 1 (rawInt ((i:Int)+1)))) }) A7.typeIs (show É _ _ (pure es[i].key) _ _ _ from ?_))));exact zg (zg ⟨_,rfl,zg (k1 lx _ A7 (jR ..))⟩)
 .erw[show ¬((i:Int)<0) by omega,jn,jd,Array.getElem?_eq_none (jW lx)]
  refine zc ?_;first | refine zc (wG hi.typeIs (zg ?_)) | refine zc (yu hi.typeIs (zg ?_))
  refine(show É _ _ (setField (.ref it) 0 .none >>= λ_=>_) _ _ s from zc (xH ho hd (by simp) ?_));refine hV (by simpa using hh) λh' e=>k2 (jW lx) h' λb o ne q=>e b o ((j7 _ _ (jq ne)).trans q)
def WT(hh:A.handled=Á)(I d:È)(Am:d≠I)(es:Array ā)(ep:Nat):Walks prog w A I [I,d] [I] es.size (λi v=>∃h:i<es.size,v=es[i].key) (λi h=>h.IsKeyIter I d i es.size ep/\DEs h d es ep) where
 sub:=λb hb=>by simp at hb;simp[hb]
 frame:=λ_ _ _ st hk=>⟨st.1.at λo e=>hk I (by simp) o e,st.2.at λo e=>hk d (by simp) o e⟩
 item:=λi s Q E hi st hQ=>ZV st.1 st.2 (λlx h' g sb=>hQ _ h' s.toks ⟨lx,rfl⟩ ⟨g,st.2.at λo e=>(sb.2 d Am).trans e⟩ λb o hb e=>(sb.2 b (by simpa using hb)).trans e) hh λG4=>absurd hi (uB.mpr G4)
 done:=λs Q E st hQ=>ZV st.1 st.2 (λlx=>absurd lx (j4 _)) hh λ_ h' e=>hQ h' s.toks λb o hb q=>e b o (by simpa using hb) q
 self:=λ_ _ _ _ st hQ=>wpAny_pyIter_keyiter st.1 hQ
def sC(hh:A.handled=Á)(ns:(d==ã)=Â)(D:DEs s.heap d es ep)(hb:es.size<900)
  (k:∀(s':Å),(∀b o,s.heap.get? b=À o->s'.heap.get? b=À o)->s'.gens=s.gens->s'.os=s.os->s.heap.objs.size<=s'.heap.objs.size->Q (es.toList.map (·.key)) s'):É (Ë prog w) A (collect (.ref d)) Q E s:=by
 have IG:d<s.heap.objs.size:=by obtain⟨o,g1,_⟩:=D;exact zM g1
 unfold collect;refine zc (xJ (qi F.entry_proto_collect ?_));rw[jN F.plain_proto_collect _];show É _ A.in1 (newList [] >>= λnl=>again (.builtin "list.__iadd__" ⟨[nl,.ref d],[]⟩)) _ _ s
 refine zc (jc (zg ⟨vG yI _,qi F.entry_list_iadd ?_⟩));rw[jN yI _];generalize hN:s.heap.objs.size=N;show É _ A.in1 (ÿ (.ref N) (.ref d) (.ref N)) _ _ _
 let h1:Ò:=s.heap.push { cls:=.type "list",data:=.seq ([]:List Ä).toArray }
 have AG:∀b o,s.heap.get? b=À o->h1.get? b=À o:=λb o e=>zf _ e
 have A2:h1.objs.size=N+1:=by rw[<-hN];exact jQ ..
 have L5:h1.get? N=À { cls:=.type "list",data:=.seq ([]:List Ä).toArray }:=by rw[<-hN];exact zK _ rfl
 have Mg:N≠d:=by rw[<-hN];exact(zU IG).symm
 have D1:DEs h1 d es ep:=D.at λo e=>AG _ _ e
 show É _ A.in1 _ _ _ { s with heap:=h1 }
 unfold ÿ;refine zc (qy (DEs.ty (s:={ s with heap:=h1 }) D1) ?_);refine dP (by simp[Ō,Mg]) ?_;refine zc (Xo (s:={ s with heap:=h1 }) ns D1 ?_);let h2:Ò:=h1.push { cls:=.type "dict_keyiterator",data:=.fields #[.ref d,.int 0 0,.int es.size 0,.int ep 0] }
 have Eu:∀b o,h1.get? b=À o->h2.get? b=À o:=λb o e=>zf _ e
 have PJ:h2.IsKeyIter h1.objs.size d 0 es.size ep:=⟨_,zK _ rfl,rfl,rfl⟩;have D2:DEs h2 d es ep:=D1.at λo e=>Eu _ _ e
 refine zc (je (kdl_hint_dict (DEs.ty (s:={ s with heap:=h2 }) D2) ?_));refine mC ⋯ (zc (qz (zc ?_)));have Eo:h2.get? N=À { cls:=.type "list",data:=.seq ([]:List Ä).toArray }:=Eu _ _ L5;refine(show É _ A.in1 (updateSeq N (·.push .none) >>= λ_=>updateSeq N (·.pop)) _ _ { s with heap:=h2 } from zc (vW Eo rfl ?_));have up1:=jy (Û (·.push Ó)) Eo rfl;refine vW up1 rfl ?_;have L8:=jy (Û (·.pop)) up1 rfl;have off:∀b o,b≠N->h2.get? b=À o->((h2.update N (Û (·.push Ó))).update N (Û (·.pop))).get? b=À o:=λb o ne e=>(j7 _ _ (jq ne)).trans ((j7 _ _ (jq ne)).trans e)
 have El:A.in1.handled=Á:=by simpa using hh
 have dI:d≠h1.objs.size:=by rw[A2,<-hN];exact zU (jF IG)
 have nI:h1.objs.size≠N:=by rw[A2];exact xR _
 have nF:N∉[h1.objs.size,d]:=by
  erw[zj,zx,kE,yx];exact⟨nI.symm,Mg⟩
 have W:=(WT (prog:=prog) (w:=w) (A:=A.in1) El h1.objs.size d dI es ep).toS;refine zg ⟨vG F.plain_extend_loop _,Ũ W (by rw[jL];omega) N nF (.ref N) es.size 0 _ _ _ rfl (qp _) ⟨PJ.at λo e=>off _ _ nI e,D2.at λo e=>off _ _ (jq Mg) e⟩ L8 (ItemsOf.nil _) λs' acc c G8 EW Ep=>?_⟩;refine(show É _ A (load N >>= λ_=>_) _ _ s' from zc (xm EW (zg ?_)));have Er:acc.toList=es.toList.map (·.key):=by
  apply yp
  .rw[kj,zF,kj];exact Ep.1
  .intro j a1 a2
   obtain⟨_,z⟩:=Ep.2 j acc.toList[j] (by simp);rw[z];simp
 show Q acc.toList s'
 rw[Er];refine k s' (λb ob e=>G8.heap b ob (λm=>?_) (off b ob ?_ (Eu _ _ (AG _ _ e)))) G8.gens G8.os (by rw[hN];exact qU (zM EW))
 .have lt:=zM e
  rw[hN] at lt;rcases zj.mp m with z | m
  .exact zU lt z
  .have z:b=h1.objs.size:=by simpa using m
   rw[z,A2] at lt;exact absurd lt (uB.mpr (qT _))
 .have lt:=zM e
  rw[hN] at lt;exact zU lt
end
end ML
namespace ML
open PySem PySem.Spec PyProof.Rows L2
noncomputable def vc:W->Option (List Æ)
 | .tup l=>strsOf l
 | _=>Á
noncomputable def gX:List W->Option (List (List Æ))
 | []=>À []
 | w::r=>(vc w).bind λk=>(gX r).map (k::·)
noncomputable def tupS(k:List Æ):W:=.tup (k.map .str)
noncomputable def encK:Ordering->List Æ->W
 | .lt,k=>.str (k.headD "")
 | .eq,k=>tupS k
 | .gt,k=>.tup (k.map λx=>.int (x.cps.getD 0 0:Nat))
noncomputable def dj(l:List W):Option (Ordering×List (List Æ)):=match gX l with
 | some ks=>À (.eq,ks)
 | none=>(strsOf l).map λxs=>(.lt,xs.map ([·]))
noncomputable def rP:List W->Option (List Nat)
 | []=>À []
 | .int (.ofNat n)::r=>(rP r).map (n::·)
 | _=>Á
noncomputable def gN:List W->Option (List (List Nat))
 | []=>À []
 | .tup w::r=>(rP w).bind λk=>(gN r).map (k::·)
 | _=>Á
noncomputable def l8(l:List W):Option (Ordering×List (List Æ)):=match dj l with
 | some x=>À x
 | none=>(gN l).map λks=>(.gt,ks.map (·.map ac))
theorem YA:∀{l:List W} {k:List Nat},rP l=À k->l=k.map λn=>.int (n:Nat)
 | [],k,e=>by cases e;rfl
 | w::r,k,e=>by
  unfold rP at e;split at e
  .rename_i q;cases q
  .rename_i n r' q
   cases q;obtain⟨k',e1,rfl⟩:=zq.mp e;rw[YA e1];rfl
  .cases e
theorem Zo(k:List Nat):encK .gt (k.map ac)=.tup (k.map λn=>.int (n:Nat)):=by
 show W.tup ((k.map ac).map λx=>.int (x.cps.getD 0 0:Nat))=_
 rw[z9];rfl
noncomputable def wa(w:W):M W:=λh=>(qV h w).bind λl=>(dj l).bind λbk=>if bk.2.length<890/\(kG bk.2).length<64/\(∀k∈bk.2,k≠[]) then À (.fls ((kG bk.2).map (encK bk.1)),h) else Á
theorem fh:∀{l:List W} {k:List Æ},strsOf l=À k->l=k.map .str
 | [],k,e=>by cases e;rfl
 | .str b::r,k,e=>by
  unfold strsOf at e;split at e
  .rename_i l' e'
   cases e;rw[fh e'];rfl
  .cases e
 | .non::r,k,e=>by cases e
 | .bl _::r,k,e=>by cases e
 | .int _::r,k,e=>by cases e
 | .tup _::r,k,e=>by cases e
 | .fls _::r,k,e=>by cases e
 | .ref _::r,k,e=>by cases e
 | .fdc _::r,k,e=>by cases e
 | .fn _::r,k,e=>by cases e
def xl{l:List (List Æ)}(u:dg l):l.Nodup:=u.imp λ{a b} h e=>by subst e;rw[be] at h;cases h
def oz{l:List (List Æ)}(nd:l.Nodup)(h:∀x,x∈l↔x∈m):l.length=(kG m).length:=by
 have:l.Perm (kG m):=(List.perm_ext_iff_of_nodup nd (xl (we m))).mpr λx=>(h x).trans ssort_mem.symm
 exact this.length_eq
def dA(h:∀x,x∈l↔x∈m):kG l=kG m:=xD (we l) (we m) λx=>ssort_mem.trans ((h x).trans ssort_mem.symm)
section
variable{X:Cx}{ag:List (È×ö)}{σ:L2.St}{H:Hp}{s:Å}{μ:List È}
theorem l5:∀{k:List Æ} {vs:List V} {us:List Ä},RWs X.K μ H (k.map .str) vs->Vals vs us->ItemsAre (SK X.prog X.w) k us
 | [],_,_,.nil,.nil=>.nil
 | x::k,_,_,.cons r rs,.cons v vs=>by
  cases r;obtain⟨t,rfl⟩:=v;exact .cons (qP _ _ _ _) (l5 rs vs)
theorem tG:∀{k:List Nat} {vs:List V} {us:List Ä},RWs X.K μ H (k.map λn=>.int (n:Nat)) vs->Vals vs us->ItemsAre (dE X.prog X.w) k us
 | [],_,_,.nil,.nil=>.nil
 | x::k,_,_,.cons r rs,.cons v vs=>by
  cases r;obtain⟨t,rfl⟩:=v;exact .cons (by simp[dE,Ţ]) (tG rs vs)
def Xm(I:Inv X ag σ H s){k:List Nat}(r:RW X.K μ H (.tup (k.map λn=>.int (n:Nat))) (.ref a)):Ú (dE X.prog X.w) s.heap k a:=by
 cases r with
 | tup sq rs=>
  obtain⟨its,rv,⟨o,g1,g2,n,g4⟩,_⟩:=I.tuple sq;exact⟨o,its.toArray,n,g1,g2,g4,by simpa using tG rs rv⟩
def hW(I:Inv X ag σ H s)(r:RW X.K μ H (tupS k) (.ref a)):Ú (SK X.prog X.w) s.heap k a:=by
 unfold tupS at r;cases r with
 | tup sq rs=>
  obtain⟨its,rv,⟨o,g1,g2,n,g4⟩,_⟩:=I.tuple sq;exact⟨o,its.toArray,n,g1,g2,g4,by simpa using l5 rs rv⟩
theorem nD(I:Inv X ag σ H s):∀{l:List W} {vs:List V} {us:List Ä} {ks:List (List Æ)},gX l=À ks->RWs X.K μ H l vs->Vals vs us->
  ∃Lk:List (List Æ×È),us=Lk.map (λp=>Ï p.2)/\Lk.map (·.1)=ks/\∀p∈Lk,RW X.K μ H (tupS p.1) (.ref p.2)
 | [],_,_,_,e,.nil,.nil=>by cases e;exact⟨[],rfl,rfl,λp hp=>by cases hp⟩
 | w::l,_,_,_,e,.cons r rs,.cons v vs=>by
  obtain⟨k,e1,e2⟩:=zH.mp e;obtain⟨ks,e3,e4⟩:=zq.mp e2;subst e4;obtain⟨Lk,z1,z2,z3⟩:=nD I e3 rs vs;cases w with
  | tup l'=>
   have e5:=fh (show strsOf l'=À k from e1);subst e5;have r':=r;cases r with
   | @tup a _ _ sq _=>
    have v':=v;cases v
    exact⟨(k,a)::Lk,by rw[z1];rfl,by rw[zu,z2],λp hp=>by
     rcases zj.mp hp with rfl | hp
     .exact r'
     .exact z3 p hp⟩
  | _=>cases e1
def RK(X:Cx)(μ:List È)(H:Hp)(b:Ordering)(p:List Æ×Ä):Prop:=(b=.lt->∃x,p.1=[x])/\(b=.gt->∃ns:List Nat,p.1=ns.map ac)/\∃v,RW X.K μ H (encK b p.1) v/\RelV v p.2
def RK.is(I:Inv X ag σ H s){p:List Æ×Ä}(r:RK X μ H b p)(ne:p.1≠[]):IsK X.prog X.w s.heap b p.1 p.2:=by
 obtain⟨k,u⟩:=p;obtain⟨r0,rn,v,r1,r2⟩:=r;cases b with
 | gt=>
  obtain⟨ns,q⟩:=rn rfl;cases q;rw[Zo] at r1;obtain⟨a,vs,rfl,_⟩:=r1.tup_of;cases r2;exact .nats (Xm I r1) λz=>ne (by rw[z];rfl)
 | lt=>
  obtain⟨x,q⟩:=r0 rfl;cases q;cases r1;obtain⟨t,q⟩:=r2;cases (show u=.str x t from q);exact .text x t
 | eq=>
  obtain⟨a,vs,rfl,_⟩:=(show RW X.K μ H (.tup (k.map .str)) v from r1).tup_of;cases r2;exact .tup (hW I r1) ne
theorem og:∀{xs:List Æ} {vs:List V} {us:List Ä},RWs X.K μ H (xs.map .str) vs->Vals vs us->∃Lk:List (List Æ×Ä),us=Lk.map (·.2)/\Lk.map (·.1)=xs.map ([·])/\∀p∈Lk,RK X μ H .lt p
 | [],_,_,.nil,.nil=>⟨[],rfl,rfl,λp hp=>by cases hp⟩
 | x::xs,_,_,.cons r rs,.cons (b:=u) v vs=>by
  obtain⟨Lk,z1,z2,z3⟩:=og rs vs;refine⟨([x],u)::Lk,by rw[z1];rfl,by rw[zu,z2];rfl,λp hp=>?_⟩;rcases zj.mp hp with rfl | hp
  .exact⟨λ_=>⟨x,rfl⟩,λz=>(by cases z),_,r,v⟩
  .exact z3 p hp
theorem ZI:∀{l:List W} {vs:List V} {us:List Ä} {ks:List (List Nat)},gN l=À ks->RWs X.K μ H l vs->Vals vs us->∃Lk:List (List Æ×Ä),us=Lk.map (·.2)/\Lk.map (·.1)=ks.map (·.map ac)/\∀p∈Lk,RK X μ H .gt p
 | [],_,_,_,e,.nil,.nil=>by cases e;exact⟨[],rfl,rfl,λp hp=>by cases hp⟩
 | w::l,_,_,_,e,.cons r rs,.cons (b:=u) v vs=>by
  unfold gN at e;split at e
  .rename_i q;cases q
  .rename_i w' l' q
   cases q;obtain⟨k,e1,e2⟩:=zH.mp e;obtain⟨ks,e3,e4⟩:=zq.mp e2;subst e4;obtain⟨Lk,z1,z2,z3⟩:=ZI e3 rs vs;rw[YA e1,<-Zo] at r;refine⟨(k.map ac,u)::Lk,by rw[z1];rfl,by rw[zu,z2];rfl,λp hp=>?_⟩;rcases zj.mp hp with rfl | hp
   .exact⟨λz=>(by cases z),λ_=>⟨k,rfl⟩,_,r,v⟩
   .exact z3 p hp
  .cases e
def nV(I:Inv X ag σ H s){bk:Ordering×List (List Æ)}(e:dj l=À bk)(rs:RWs X.K μ H l vs)(rv:Vals vs us) :
  bk.1≠.gt/\∃Lk:List (List Æ×Ä),us=Lk.map (·.2)/\Lk.map (·.1)=bk.2/\∀p∈Lk,RK X μ H bk.1 p:=by
 unfold dj at e;split at e
 .rename_i ks ek
  cases e;obtain⟨L0,z1,z2,z3⟩:=nD I ek rs rv;refine⟨λz=>(by cases z),L0.map λp=>(p.1,.ref p.2),by rw[z1,z9];rfl,by rw[<-z2,z9];rfl,λp hp=>?_⟩;obtain⟨q,q1,rfl⟩:=zp.mp hp;exact⟨λz=>(by cases z),λz=>(by cases z),_,z3 q q1,rfl⟩
 .obtain⟨xs,ex,rfl⟩:=zq.mp e
  rw[fh ex] at rs;exact⟨λz=>(by cases z),og rs rv⟩
def Vm(I:Inv X ag σ H s){bk:Ordering×List (List Æ)}(e:l8 l=À bk)(rs:RWs X.K μ H l vs)(rv:Vals vs us) :
  ∃Lk:List (List Æ×Ä),us=Lk.map (·.2)/\Lk.map (·.1)=bk.2/\∀p∈Lk,RK X μ H bk.1 p:=by
 unfold l8 at e;split at e
 .rename_i ek
  cases e;exact(nV I ek rs rv).2
 .obtain⟨ks,ex,rfl⟩:=zq.mp e
  exact ZI ex rs rv
def C7{L:List (List Æ×Ä)}(h:∀p∈L,RK X μ H b p):∃vs,RWs X.K μ H ((L.map (·.1)).map (encK b)) vs/\Vals vs (L.map (·.2)):=by
 induction L with
 | nil=>exact⟨[],.nil,.nil⟩
 | cons p L ih=>
  obtain⟨vs,a,c⟩:=ih λq hq=>h q (zm _ hq)
  obtain⟨_,_,v,r1,r2⟩:=h p (zr ..);exact⟨v::vs,.cons r1 a,.cons r2 c⟩
def Inv.draw(I:Inv X ag σ H s):Inv X ag σ H { s with drawn:=d }:=⟨I.ok,I.os,I.bare,I.base,I.loc,I.cell,I.free,I.freeC,I.pin,I.hok,I.len⟩
def ft{cl:Cl}{L:List (List Æ×Ä)}{s2:Å}(I1:Inv X ag σ H s)(R1:HR X.K cl μ H h1)(k:KQ X.K cl μ H h1 (.fls ((kG ks).map (encK b))) Q)(me:∀y,y∈L.map (·.1)↔y∈ks)(lt:L.length<64)(nd:(L.map (·.1)).Nodup)(ne:∀k∈ks,k≠[])(rk:∀p∈L,RK X μ H b p)
  (kp:∀b o,s.heap.get? b=À o->s2.heap.get? b=À o) (PL:s.heap.objs.size<=s2.heap.objs.size) (PM:s2.gens=s.gens) (PN:s2.os=s.os) (AZ:s2.drawn=s.drawn)
  (hc:∀(E':Ä->Å->Prop) (Q':List Ä->Å->Prop),(∀(L':List (List Æ×Ä)) (s':Å),L'.Perm L->(∀b o,s2.heap.get? b=À o->s'.heap.get? b=À o)->s'.gens=s2.gens->s'.os=s2.os->s2.heap.objs.size<=s'.heap.objs.size->Q' (L'.map (·.2)) s')->É (Ë X.prog X.w) X.A.in1 (collect v) Q' E' s2) :
  É (Ë X.prog X.w) X.A (call (.builtin "sorted") [v]) (EP X ag σ Q) X.xe s2:=by
 refine Qi lt nd (λp hp=>((rk p hp).is I1 (ne _ ((me _).mp (zp.mpr ⟨p,hp,rfl⟩)))).keep λx o _ e=>kp x o e) hc λD L' n s' pe AJ ob le keep gg oo=>?_
 obtain⟨EI,g',d',t',HE⟩:=s';obtain rfl:g'=s.gens:=gg.trans PM;obtain rfl:HE=s.os:=oo.trans PN;obtain⟨vs,q1,q2⟩:=C7 (X:=X) (μ:=μ) (H:=H) (L:=L') λp hp=>rk p (pe.mem_iff.mp hp)
 have Ik:=zz PL le;have lv:vs.length=L'.length:=by rw[q2.length,zF]
 have I2:Inv X ag σ (upd H D (.lst vs)) { s with heap:=EI,toks:=t',drawn:=d' }:=Inv.draw (s:={ s with heap:=EI,toks:=t' }) (I1.laid (t':=t') (λb o e=>keep b o (kp b o e)) Ik ⟨by rw[lv,pe.length_eq,jL];omega,_,n,q2,ob⟩);refine⟨.ref D,_,I2,rfl,?_⟩;have Mh:L'.map (·.1)=kG ks:=AJ.trans (dA me);rw[Mh] at q1;exact KQ.fls k R1 q1 (I1.hok.fresh Ik)
end
section
variable{X:Cx}{cl:Cl}{a:Î}{ma:ME}{p p2 p3 pos:ĝ}
def Jy(hc:X.calm=Ã)(hu:X.A.units+64<ď)(hl:X.mg "sorted" = Á)(hs:X.mg "set" = Á)(ha:SE X cl a ma)(hg:↥(Gl X "sorted"))(Lw:↥(Gl X "set"))
  (Nv:↥(Ê [a] X.env=(Â,eval a X.env)::Ê [] X.env)) (Mi:↥((ß p3 (Ê [] X.env)).any (·.1)=Â))
  (IQ:↥(Ê [.Call (.Name "set" p2) [a] [] p3] X.env=(Â,eval (.Call (.Name "set" p2) [a] [] p3) X.env)::Ê [] X.env)) (Mj:↥((ß pos (Ê [] X.env)).any (·.1)=Â)) :
  SE X cl (.Call (.Name "sorted" p) [.Call (.Name "set" p2) [a] [] p3] [] pos) (vw wa ma):=by
 rintro ag s σ H Q I ⟨μ,h,ρ,w,h',R,er,e,k⟩;obtain⟨x,h1,e1,e⟩:=kg e;have hv:Õ "set" = À (.type "set"):=by decide +kernel
 refine ql (cK I hg hl uA ?_ (by decide) (by decide));refine xM ?_ IQ Mj;rw[IQ];show É _ _ (spliced ((Â,eval (.Call (.Name "set" p2) [a] [] p3) X.env)::ß pos (Ê [] X.env))) _ _ s
 have h0:∀{q:ĝ},ß q (Ê [] X.env)=[]:=λ{q}=>rfl
 rw[h0];refine vZ ?_;refine ql (cK I Lw hs hv ?_ (by decide) (by decide));refine qm ?_ Nv Mi;rw[Nv];show É _ _ (spliced ((Â,eval a X.env)::ß p3 (Ê [] X.env))) _ _ s
 rw[h0];refine vZ (kC (ha ag s σ H (λv H1=>∃d3,Ext μ H d3 H1/\HR X.K cl d3 H1 h1/\RW X.K d3 H1 x v) I ⟨μ,h,ρ,x,h1,R,er,e1,λd3 H1 v E1 R1 r=>⟨d3,E1,R1,r⟩⟩) ?_);rintro u s1 ⟨v,H1,I1,r1,d3,E1,R1,rv⟩;refine wu ?_;obtain⟨l,el,e⟩:=zH.mp (show(qV h1 x).bind _=À (w,h') from e);obtain⟨⟨b,ks⟩,ek,e⟩:=zH.mp e;by_cases ok:ks.length<890/\(kG ks).length<64/\(∀k∈ks,k≠[])
 .rw[zW ok] at e
  cases e;obtain⟨d,vs,rfl,sq,ra⟩:=bi R1 rv el;cases r1;have fin:∀{us:List Ä} {T:String},(T="list" \/ T="tuple")->Vals vs us->(∃o n,s1.heap.get? d=À o/\o.cls=.type T/\o.data=.seq us.toArray n)->É (Ë X.prog X.w) X.A (call (.type "set") [.ref d]) (λv Ac=>É (Ë X.prog X.w) X.A (call (.builtin "sorted") [v]) (EP X ag σ Q) X.xe Ac) X.xe s1:=by
   intro us T hT PP ho;obtain⟨hg,Lk,z1,z2,z3⟩:=nV I1 ek ra PP;have z2:Lk.map (·.1)=ks:=z2;have EV:Lk.length=ks.length:=by rw[<-z2,zF]
   refine Q5 hT ho z1 hg (λp hp=>(z3 p hp).is I1 (ok.2.2 _ (by rw[<-z2];exact zp.mpr ⟨p,hp,rfl⟩))) (I1.ok.hd hc) ∅ ∅ λL h2 tk ST ln me pa kp=>?_
   have Nw:∀y,y∈L.map (·.1)↔y∈ks:=λy=>by rw[<-z2];exact me y
   obtain⟨_,_,_,_,g0,_,_,_,_,_,nd,_⟩:=ST.raw;have lt:L.length<64:=by have:=oz nd Nw;rw[zF] at this;omega
   exact ft I1 R1 (k.ext E1) Nw lt nd ok.2.2 (λp hp=>z3 p (pa p hp)) (s2:={ s1 with heap:=h2,toks:=tk }) kp (qU (zM g0)) rfl rfl rfl λE' Q' q=>Zg (s:={ s1 with heap:=h2,toks:=tk }) (I1.ok.hd hc) ST ∅ q
  rcases sq with sq | sq
  .obtain⟨its,rv,⟨o,n,g1,g2,g3,g4⟩,_⟩:=I1.list sq
   exact j8 (fin (.inl rfl) rv ⟨o,n,g1,g2,g4⟩) (λv Ac q=>wu q) λ_ _ e=>e
  .obtain⟨its,rv,⟨o,g1,g2,n,g4⟩,_⟩:=I1.tuple sq
   exact j8 (fin (.inr rfl) rv ⟨o,n,g1,g2,g4⟩) (λv Ac q=>wu q) λ_ _ e=>e
 .rw[kh ok] at e;cases e
end
noncomputable def oP(w:W):M W:=λh=>(getL h w).bind λl=>(l8 l).bind λbk=>if bk.2.length<64/\bk.2.Nodup/\(∀k∈bk.2,k≠[]) then À (.fls ((kG bk.2).map (encK bk.1)),h) else Á
noncomputable def fW:List W->M W
 | [w]=>oP w
 | _=>λ_=>Á
section
variable{X:Cx}{cl:Cl}
def Kr:va X (.builtin "sorted") (rMs X.K cl fW):=by
 rintro ag s σ H xs us Q I rs ⟨μ,h,ws,w,h',R,ax,e,k⟩;match ws,ax,e with
 | [x],.cons r .nil,e=>
  obtain⟨l,el,e⟩:=zH.mp (show(getL h x).bind _=À (w,h') from e);obtain⟨⟨b,ks⟩,ek,e⟩:=zH.mp e;by_cases ok:ks.length<64/\ks.Nodup/\(∀k∈ks,k≠[])
  .rw[zW ok] at e
   cases e;obtain⟨d,vs,rfl,sq,ra⟩:=wq R r el;cases rs with
   | cons r1 r2=>
    cases r2;cases r1
    .obtain⟨its,rv,⟨o,n,g1,g2,g3,g4⟩,_⟩:=I.list sq
     obtain⟨Lk,z1,z2,z3⟩:=Vm I ek ra rv;have z2:Lk.map (·.1)=ks:=z2;have EV:Lk.length=ks.length:=by rw[<-z2,zF]
     have hl:s.heap.IsList d (Lk.map (·.2)).toArray:=by rw[<-z1];exact⟨o,g1,g2,n,g4⟩
     refine ft I R k (λy=>by rw[z2]) ∅ (by rw[z2];exact ok.2.1) ok.2.2 z3 (λ_ _ q=>q) (zG _) rfl rfl rfl λE' Q' q=>?_
     refine collect_list hl ?_ (by rw[zF,jL];omega);have A2:((s.heap.push (Ĳ "list" #[] 0)).update s.heap.objs.size (Û (· ++ (Lk.map (·.2)).toArray))).objs.size=s.heap.objs.size+1:=by rw[Heap.size_update,size_push']
     refine q Lk _ (qK _) (λb o e=>?_) rfl rfl (by rw[A2];exact qT _);rw[xY _ _ _ _ (zU (zM e))];exact zf _ e
  .rw[kh ok] at e;cases e
end
structure SamePW(X:Cx)(cl:Cl):Prop where
 P:cl.P=X.prog
 w:cl.w=X.w
noncomputable def ly:ME:=λ_ h=>À (.ref h.length,h++[.tdc []])
noncomputable def y6(ks:List (List Æ))(k:List Æ):List (List Æ):=if k∈ks then ks else ks++[k]
noncomputable def pY(x y v:W):M W:=λh=>match x with
 | .ref n=>match h[n]? with
  | some (.tdc ks)=>match vc y with
   | some k=>if ks.length<800 then À (.non,h.set n (.tdc (y6 ks k))) else Á
   | none=>Á
  | _=>Jn x y v h
 | _=>Á
noncomputable def oO(mo mi:ME):MG:=λv ρ=>bnd (mo ρ) λx=>bnd (mi ρ) λy=>bnd (pY x y v) λ_ h=>À (ρ,h)
noncomputable def xC(ws:List W):M W:=λh=>match ws with
 | [.ref n]=>match h[n]? with
  | some (.tdc ks)=>if ks.length<64/\(∀k∈ks,k≠[]) then À (.fls ((kG ks).map tupS),h) else Á
  | _=>fW ws h
 | _=>fW ws h
def Dr(P:Í)(w:Ñ)(h:Ò):bg P w h.objs.size [] (h.push { cls:=.type "dict",data:=.dict #[] }):=⟨_,#[],0,zK _ rfl,⟨rfl,rfl,rfl⟩,rfl,rfl⟩
def rZ:∀h1 h2:Ò,bg P w a xs h1->(∀o,h1.get? a=À o->h2.get? a=À o)->bg P w a xs h2:=λh1 h2 ⟨o,es,ep,g,r⟩ k=>⟨o,es,ep,k _ g,r⟩
def iu{xs:List (List Æ×È×Ä)}:(Ķ xs k b v).map (·.1)=y6 (xs.map (·.1)) k:=by
 unfold Ķ y6;have e:(atKey xs k).isSome=Ã↔k∈xs.map (·.1):=by
  unfold atKey;rw[Option.isSome_map,List.find?_isSome];erw[qX,zp]
 by_cases q:k∈xs.map (·.1)
 .rw[zW (e.mpr q),zW q,z9]
  refine qw λx _=>?_
  unfold æ putAt;split<;>rfl
 .rw[kh (λz=>q (e.mp z)),kh q]
  simp
def lZ{ks:List (List Æ)}(n:ks.Nodup):(y6 ks k).Nodup:=by
 unfold y6;split
 .exact n
 .rename_i q
  rw[xx];refine⟨n,by simp,?_⟩;intro a ha b hb e;rw[jz] at hb;subst hb;subst e;exact q ha
section
variable{X:Cx}{cl:Cl}{o i:Î}{mo mi:ME}{pos:ĝ}{ag:List (È×ö)}{σ:L2.St}{H:Hp}{s:Å}{μ:List È}
def KC{xs:List (List Æ×È×Ä)}(r:RWs X.K μ H ((xs.map (·.1)).map tupS) (xs.map λx=>.ref x.2.1))(rk:RW X.K μ H (tupS k) (.ref b)) :
  RWs X.K μ H ((y6 (xs.map (·.1)) k).map tupS) ((Ķ xs k b v).map λx=>.ref x.2.1):=by
 rw[<-iu (b:=b) (v:=v)];unfold Ķ;split
 .have e1:(xs.map (putAt k v)).map (·.1)=xs.map (·.1):=by
   rw[z9];refine qw λx _=>?_
   unfold æ putAt;split<;>rfl
  have e2:((xs.map (putAt k v)).map λx=>V.ref x.2.1)=xs.map λx=>V.ref x.2.1:=by
   rw[z9];refine qw λx _=>?_
   unfold æ putAt;split<;>rfl
  rw[e1,e2];exact r
 .erw[yE,zu,ji]
  exact r.append (.cons rk .nil)
def Z9:∀{ys:List (List Æ×È×Ä)},RWs X.K μ H ((ys.map (·.1)).map tupS) (ys.map λx=>.ref x.2.1)->∀x∈ys,RW X.K μ H (tupS x.1) (.ref x.2.1):=by
 intro ys;induction ys with
 | nil=>intro _ x hx;cases hx
 | cons y ys ih=>
  intro q x hx;cases q with
  | cons q1 q2=>
   rcases zj.mp hx with rfl | hx
   .exact q1
   .exact ih q2 x hx
def ZM(S:SamePW X cl)(I:Inv X ag σ H s){xs:List (List Æ×È×Ä)}(hp:H p=À (.ext (bg cl.P cl.w p xs)))(nd:(xs.map (·.1)).Nodup)(r:RWs X.K μ H ((xs.map (·.1)).map tupS) (xs.map λx=>.ref x.2.1)):s.heap.DictOfH (ġ (SK X.prog X.w)) p xs:=by
 rw[S.P,S.w] at hp;obtain⟨⟨o,es,ep,g1,g2,g3,g4⟩,_⟩:=(show ObjOk X.prog X.w H s.heap p (.ext (bg X.prog X.w p xs)) from I.hok p _ hp);refine⟨o,es,ep,g1,g2,g3,g4,λx hx=>?_,nd⟩;exact hW I (Z9 r x hx)
def DH(S:SamePW X cl)(hu:X.A.units+64<ď):Jv X (λo i v H Q=>∃μ h wo wi wv w h',HR X.K cl μ H h/\RW X.K μ H wo o/\RW X.K μ H wi i/\RW X.K μ H wv v/\pY wo wi wv h=À (w,h')/\∀d5 H',Ext μ H d5 H'->HR X.K cl d5 H' h'->Q H'):=by
 rintro ag s σ H o i v ov iv u Q I ro ri rv ⟨μ,h,wo,wi,wv,w,h',R,ao,ai,av,e,k⟩;have old:Jn wo wi wv h=À (w,h')->É (Ë X.prog X.w) X.A (Ž ov iv u) (λ_ s'=>∃H',Inv X ag σ H' s'/\Q H') X.xe s:=λe=>DV hu ag s σ H o i v ov iv u Q I ro ri rv ⟨μ,h,wo,wi,wv,w,h',R,ao,ai,av,e,k⟩
 unfold pY at e;split at e
 .rename_i n
  split at e
  .rename_i ks ho
   split at e
   .rename_i kk ek
    split at e
    .rename_i hl
     cases e;cases ao with | @ref _ p hn=>
     obtain⟨xs,hp,rfl,nd,ns,r⟩:=R.ob n p _ hn ho;have PQ:wi=tupS kk:=by
      cases wi with
      | tup l=>unfold tupS;rw[fh (show strsOf l=À kk from ek)]
      | _=>cases ek
     subst PQ;obtain⟨b,vs,rfl,sq,rs⟩:=(show RW X.K μ H (.tup (kk.map .str)) i from ai).tup_of;cases ro;cases ri;have hk:=hW I ai;have Ho:xs.length<=sizeLine:=by rw[zF] at hl;rw[jL];omega
     refine ŵ (knd:=ġ (SK X.prog X.w)) (hsz:=Ho) (ud ∅) hk (ZM S I hp nd r) λh2 dd hs=>?_
     obtain⟨o2,es,ep,g1,g2,g3,g4,_,_⟩:=dd;have E:Ext μ H μ (upd H p (.ext (bg cl.P cl.w p (Ķ xs kk b u)))):=Ext.put hn;have td:bg cl.P cl.w p (Ķ xs kk b u) h2:=by rw[S.P,S.w];exact⟨o2,es,ep,g1,g2,g3,g4⟩
     refine⟨_,mJ (ob:=.ext (bg cl.P cl.w p (Ķ xs kk b u))) I (by rw[hp];exact ø) hs ⟨o2,g1⟩ (show ObjOk X.prog X.w _ h2 p (.ext (bg cl.P cl.w p (Ķ xs kk b u))) from ⟨td,⟨o2,g1⟩,rZ⟩),k μ _ E (R.put hn ⟨_,qq,iu,lZ nd,ns,?_⟩)⟩;exact(KC r ai).ext R E
    .cases e
   .cases e
  .exact old e
 .cases e
def Uo(S:SamePW X cl)(hu:X.A.units+64<ď)(ho:SE X cl o mo)(hi:SE X cl i mi)
  (ha:∀v,assign (.Subscript o i pos) X.env v=(do
   let ov <-holding [v] (eval o X.env)
   let iv <-holding [v,ov] (eval i X.env)
   ż pos
   holding [v,ov,iv] (Ž ov iv v)
   release [v,ov,iv] [])):SG X cl (.Subscript o i pos) (oO mo mi):=
 PG.wk (U8 ho hi (DH S hu) ha) λv σ H Q ⟨μ,h,ρ,w,ρ',h',R,er,rv,e,k⟩=>by
  obtain⟨x,h1,e1,e⟩:=kg e;obtain⟨y,h2,e2,e⟩:=kg e;obtain⟨z,h3,e3,e⟩:=kg e;cases e;refine⟨μ,h,ρ,x,h1,R,er,e1,λd3 H1 vx E1 R1 rx=>⟨d3,h1,ρ,y,h2,R1,er.ext R E1,e2,λhG H2 vy E2 R2 ry=>?_⟩⟩;refine⟨hG,h2,x,y,w,z,_,R2,rx.ext R1 E2,ry,(rv.ext R E1).ext R1 E2,e3,λA1 H3 E3 R3=>?_⟩;exact k A1 H3 σ (E1.trans (E2.trans E3)) R3 (((er.ext R E1).ext R1 E2).ext R2 E3)
def X0(S:SamePW X cl):SE X cl (.Dict [] [] pos) ly:=by
 rintro ag s σ H Q I ⟨μ,h,ρ,w,h',R,er,e,k⟩;cases e;have hf:H s.heap.objs.size=Á:=I.hok.fresh (zG _);have td:bg cl.P cl.w s.heap.objs.size [] (s.heap.push { cls:=.type "dict",data:=.dict #[] }):=Dr _ _ _;refine wpAny_Dict_empty ⟨.ref s.heap.objs.size,_,I.laid (a:=s.heap.objs.size) (o:=.ext (bg cl.P cl.w s.heap.objs.size [])) (t':=s.toks) (λ_ _ q=>zf _ q) (zG _) (show ObjOk X.prog X.w _ _ _ (.ext (bg cl.P cl.w s.heap.objs.size [])) from ⟨td,⟨_,zK _ rfl⟩,rZ⟩),rfl,?_⟩;refine k _ _ _ (Ext.new hf) (R.new hf ⟨[],qq,rfl,.nil,jA.mpr (jq (zU I.big)),.nil⟩) (.ref ?_);rw[<-R.len];simp
def Zf(S:SamePW X cl)(hc:X.calm=Ã):va X (.builtin "sorted") (rMs X.K cl xC):=by
 rintro ag s σ H xs us Q I rs ⟨μ,h,ws,w,h',R,ax,e,k⟩;have old:fW ws h=À (w,h')->É (Ë X.prog X.w) X.A (call (.builtin "sorted") us) (EP X ag σ Q) X.xe s:=λe=>Kr ag s σ H xs us Q I rs ⟨μ,h,ws,w,h',R,ax,e,k⟩
 unfold xC at e;split at e
 .rename_i n
  split at e
  .rename_i ks ho
   split at e
   .rename_i ok
    cases e;cases ax with | cons a1 a2=>
    cases a2;cases a1 with | @ref _ p hn=>
    cases rs with | cons r1 r2=>
    cases r2;cases r1;obtain⟨ys,hp,rfl,nd,ns,r⟩:=R.ob n p _ hn ho;obtain⟨o,es,ep,g1,g2,g3,g4,tk,_⟩:=ZM S I hp nd r;rw[zF] at ok;have len:es.size=ys.length:=by have:=jt â g4;simpa using this
    have e1:(ys.map λx=>(x.1,Ï x.2.1)).map (·.1)=ys.map (·.1):=by rw[z9];rfl
    refine ft (b:=.eq) (L:=ys.map λx=>(x.1,Ï x.2.1)) I R k (λy=>by rw[e1]) (by rw[zF];exact ok.1) (by rw[e1];exact nd) ok.2 (λq hq=>?_) (λ_ _ q=>q) (zG _) rfl rfl rfl λE' Q' q=>sC (I.ok.hd hc) ns ⟨o,g1,g2,g3⟩ ∅ λs' k1 k2 k3 k4=>?_
    .obtain⟨x,hx,rfl⟩:=zp.mp hq
     exact⟨λz=>(by cases z),λz=>(by cases z),_,Z9 r x hx,rfl⟩
    .have:=q _ s' (qK _) k1 k2 k3 k4
     rw[z9] at this;rw[g4,z9];exact this
   .cases e
  .exact old e
 .exact old e
end
noncomputable def dc(x:W)(ws:List W):M W:=λh=>match x,ws with
 | .tup l,[.str y]=>match strsOf l with
  | some ks=>match ks.findIdx? (· == y) with
   | some i=>À (.int (i:Nat),h)
   | none=>Á
  | none=>Á
 | _,_=>Á
noncomputable def gu(f:W->List W->M W)(o:ME)(ms:List ME):ME:=λρ=>bnd (o ρ) λx h=>match x with
 | .tup _=>bnd (uu ms ρ) (λws=>f x ws) h
 | _=>Á
section
variable{prog:Í}{w:Ñ}{A:Ö}{E:Ä->Å->Prop}{s:Å}
def Q3{K:Type}[DecidableEq K]{knd:ù prog w K}{ks:List K}{vs:List Ä}(h:ItemsAre knd ks vs):ks.length=vs.length:=by
 induction h with
 | nil=>rfl
 | cons _ _ ih=>simp[ih]
def Yc{K:Type}[DecidableEq K]{knd:ù prog w K}{ks:List K}{vs:List Ä}(h:ItemsAre knd ks vs):∀(i:Nat) (h1:i<ks.length) (h2:i<vs.length),knd.is ks[i] vs[i]=Ã:=by
 induction h with
 | nil=>intro i h1;simp at h1
 | cons a _ ih=>
  intro i h1 h2;cases i with
  | zero=>exact a
  | succ i=>exact ih i (by simpa using h1) (by simpa using h2)
def Vp{its:List Ä}{ks:List Æ}(ht:Ŏ s.heap a its.toArray)(hi:ItemsAre (ŋ prog w) ks its)(hj:ks.findIdx? (· == y)=À j)
  (k:∀t',P (.done (.ret (.int (j:Nat) t'))) { s with toks:=s.toks+1 }):É (Ë prog w) A (ò.«tuple.index» ⟨[.ref a,.str y t],[]⟩) P E s:=by
 unfold ò.«tuple.index»;refine zc (show É _ _ (selfAndSome "tuple.index" "index" 1 3 ⟨[.ref a,.str y t],[]⟩) _ _ _ from zg ?_);dsimp only;refine ô (tupleItemsOf_ ht ?_);refine ô (Ł ?_);refine ô (Ł ?_);rw[Std.Legacy.Range.forIn_eq_forIn_range'];obtain⟨IV,PU,PV⟩:=qI.mp hj;have len:ks.length=its.length:=Q3 hi;refine zc (yK _ (λrest b s'=>b=(Á,())/\s'=s/\∃i,i<=j/\rest=List.range' i (its.length-i)) (λb s'=>∃t',b.1=À (.done (.ret (.int (j:Nat) t')))/\s'={ s with toks:=s.toks+1 }) ?turn ?fin _ _ ?start |> λh=>j8 h (?_) λ_ _ z=>z);rintro b s' ⟨t',e1,e2⟩
 case turn=>
  rintro x rest b s' ⟨rfl,rfl,i,A7,er⟩;have Nx:i<its.length:=by omega
  rw[show its.length-i=(its.length-i-1)+1 by omega,List.range'_succ] at er;obtain⟨rfl,rfl⟩:=uO er;have e0:its.toArray[x]?=À its[x]:=by simp[Nx]
  rw[e0];dsimp only;have hx:(ŋ prog w).is (ks[x]'∅) its[x]=Ã:=Yc hi x ∅ Nx;refine zc ((ŋ prog w).eqBool hx (qP _ _ y t) ?_);by_cases q:ks[x]'∅=y
  .rw[kO q,zW rfl]
   have xj:x=j:=by
    by_cases z:x=j
    .exact z
    .exfalso
     exact PV x ∅ (by simp[q])
   subst xj;unfold retInt;refine zc (zc (wpAny_mkInt ?_));exact zg (zg ⟨_,rfl,rfl⟩)
  .rw[jj q,kh zR]
   refine zg ⟨rfl,rfl,x+1,?_,?_⟩
   .by_cases z:x=j
    .subst z
     exact absurd (eq_of_beq PU) q
    .omega
   .congr 1
 case fin=>
  rintro b s' ⟨rfl,rfl,i,A7,er⟩;exfalso;have:(List.range' i (its.length-i)).length=0:=by rw[<-er];rfl
  rw[List.length_range'] at this;omega
 case start=>
  refine⟨rfl,rfl,0,qp _,?_⟩;simp[Std.Legacy.Range.size]
 .rw[e1,e2]
  exact zg (k t')
end
section
variable{X:Cx}{cl:Cl}{o e:Î}{es:List Î}{mo:ME}{ms:List ME}{apos cpos:ĝ}
def JN:Zp X "tuple.index" (rMm X.K cl dc):=by
 rintro ag s σ H x xs v us Q I rx rs ⟨μ,h,wx,ws,w,h',R,ax,as,e,k⟩;unfold dc at e;split at e
 .rename_i l y
  split at e
  .rename_i ks ek
   split at e
   .rename_i j hj
    cases e;have el:=fh ek;subst el;obtain⟨a,vs,rfl,sa,ra⟩:=ax.tup_of;cases rx;cases as with | cons r t=>cases t with | nil=>
    cases r.str_of;cases rs with | cons r1 r2=>
    cases r2;obtain⟨tk,rfl⟩:=r1;obtain⟨ob,items,n,g1,g2,g3,g4⟩:=hW I (show RW X.K μ H (tupS ks) (.ref a) from ax);refine jo F.slot_tuple_index ⟨ob,g1,g2⟩ F.entry_tuple_index (Vp (its:=items.toList) (by simpa using ⟨ob,g1,g2,n,g3⟩) g4 hj λt'=>⟨_,rfl,.int (j:Nat),H,I.tok _,⟨t',rfl⟩,k.pure R (.int _)⟩) (F.args_tuple_index_2 _ _)
   .cases e
  .cases e
 .cases e
def Wj(ho:SE X cl o mo)(ha:SA X cl (e::es) ms)(Aa:↥(ċ o "index" X.env (eval o X.env)=eval o X.env))
  (AM:↥(((ß cpos (Ê (e::es) X.env)).all (λx=>!x.1)&&(ŏ cpos (Ĥ [] X.env)).all (λx=>x.1.isSome)&&decide ((e::es).length+([]:List Ğ).length+(if ([]:List Ğ).isEmpty then 0 else 1)<30))=Ã))
  (Ab:↥((apos.endLine==cpos.line)=Ã)) (hs:↥(Ê (e::es) X.env=(Â,eval e X.env)::Ê es X.env)) (Ae:↥((ß cpos (Ê es X.env)).any (·.1)=Â)):SE X cl (.Call (.Attribute o "index" apos) (e::es) [] cpos) (gu dc mo ms):=by
 rintro ag s σ H Q I ⟨μ,h,ρ,w,h',R,er,q,k⟩;obtain⟨x,h1,e1,q⟩:=kg q;split at q
 .rename_i l
  obtain⟨ws,h2,e2,q⟩:=kg q;refine ŕ Aa AM Ab rfl (kC (ho ag s σ H (λv H1=>∃d3,Ext μ H d3 H1/\HR X.K cl d3 H1 h1/\RW X.K d3 H1 (.tup l) v) I ⟨μ,h,ρ,_,h1,R,er,e1,λd3 H1 v E1 R1 r=>⟨d3,E1,R1,r⟩⟩) ?_);rintro v s1 ⟨vx,H1,I1,r1,d3,E1,R1,rv⟩;obtain⟨a,vs,rfl,sa,ra⟩:=rv.tup_of;have PX:=r1;cases r1;obtain⟨its,rr,ht,hz⟩:=I1.tuple sa;have nd:=I1.tupleD sa;refine⟨"tuple","tuple.index",F.plainAttrs_tuple,F.slot_tuple_index,F.type_tuple_index,ht.typeIs,λb z=>by cases z;exact nd,?_⟩;have hA:=ha cpos ag s1 σ H1 (λxs H2=>∃hG,Ext d3 H1 hG H2/\HR X.K cl hG H2 h2/\RWs X.K hG H2 ws xs) I1 ⟨d3,h1,ρ,ws,h2,R1,er.ext R E1,e2,λhG H2 xs E2 R2 rs=>⟨hG,E2,R2,rs⟩⟩;rw[hs] at hA ⊢;refine wg (by show(Â||(ß cpos (Ê es X.env)).any (·.1))=Â;rw[Ae]<;>rfl) (xG (kC hA ?_));rintro us s2 ⟨xs,H2,I2,r2,hG,E2,R2,rs⟩;exact JN (cl:=cl) ag s2 σ H2 (.ref a) xs _ us Q I2 PX r2 ⟨hG,h2,.tup l,ws,w,h',R2,rv.ext R1 E2,rs,q,k.ext (E1.trans E2)⟩
 .cases q
end
noncomputable def ie(E:Î->Option ME)(es:List Î):Option (List ME):=if es.all noStar=Ã then qk E es else Á
noncomputable def dk(Γ:RC)(x:Æ):Bool:=Γ.bin.any (· == x)
noncomputable def tyOf(x:Æ):Option Ty:=if x=="int" then À .int else if x=="str" then À .str else if x=="bool" then À .bool else if x=="tuple" then À .tuple else if x=="list" then À .list else if x=="dict" then À .dict else Á
noncomputable def iF(mu:Bool)(x:Æ):Option (List W->M W):=
 if x=="len" then À kL else if x=="any" then À tv else if x=="sum" then À gE
 else if x=="int" then À iV else if x=="tuple" then À c8 else if x=="dict" then À gP
 else if x=="sorted" then À xC
 else if x=="list" then À KU
 else Á
noncomputable def rD:List Î->Option Î
 | [.Call (.Name y _) [a] [] _]=>if y=="set" then À a else Á
 | _=>Á
noncomputable def pT(Γ:RC):List Î->Option (Î×Ty)
 | [a,.Name y _]=>if (x4 Γ.sc y&&dk Γ y&&noStar a)=Ã then (tyOf y).map λT=>(a,T) else Á
 | _=>Á
noncomputable def tS(Γ:RC)(E:Î->Option ME)(mu:Bool)(x:Æ)(as:List Î):Option ME:=
 if x=="isinstance" then (pT Γ as).bind λp=>(E p.1).map (vw (isW p.2))
 else match as with
  | []=>Á
  | _::_=>(iF mu x).bind λg=>(ie E as).map (ze g)
noncomputable def rq(Γ:RC)(E:Î->Option ME)(mu:Bool)(x:Æ)(as:List Î):Option ME:=
 if x4 Γ.sc x=Ã then (match Γ.fns.lookup x with
  | some g=>(ie E as).map (ze g)
  | none=>if dk Γ x=Ã then (match rD as with
    | some a=>if (x=="sorted" && x4 Γ.sc "set" && dk Γ "set" && noStar a)=Ã then (E a).map (vw wa) else Á
    | none=>tS Γ E mu x as) else Á) else Á
noncomputable def Jf(E:Î->Option ME)(o:Î)(m:Æ)(apos:ĝ)(as:List Î)(pos:ĝ):Option ME:=
 if (VB o&&(apos.endLine==pos.line)&&as.all noStar&&decide (as.length<30))=Ã then (E o).bind λmo=>match as with
  | []=>if m=="pop" then À (kH iJ mo []) else Á
  | a::r=>if m=="append" then (qk E (a::r)).map (kH j3 mo)
   else if m=="extend" then (qk E (a::r)).map (kH vS mo)
   else if m=="index" then (qk E (a::r)).map (gu dc mo)
   else if m=="get" then (match r with
    | [b]=>(E a).bind λma=>(E b).map (mB mo ma)
    | _=>Á)
   else Á
 else Á
section
variable{Γ:RC}{cl:Cl}{k:Nat}{X:Cx}{x:Æ}{m:ME}{pos p:ĝ}{E:Î->Option ME}{as:List Î}{mu:Bool}
theorem cq:∀{es:List Î} {ms:List ME},(∀e m,E e=À m->SE X cl e m)->es.all noStar=Ã->qk E es=À ms->SA X cl es ms
 | [],ms,_,_,h=>by cases h;exact lX
 | e::es,ms,hE,hn,h=>by
  obtain⟨m,RV,h1,h2,rfl⟩:=gm h;rw[jG,zy] at hn;exact eU (hE _ _ h1) (cq hE hn.2 h2) (kN hn.1)
def dO{es:List Î}(hE:∀e m,E e=À m->SE X cl e m)(h:ie E es=À ms):es.all noStar=Ã/\SA X cl es ms:=by
 unfold ie at h;split at h
 .rename_i hn
  exact⟨hn,cq hE hn h⟩
 .cases h
def cc(F:Fits Γ cl k X)(h:dk Γ x=Ã):X.mg x=Á:=by
 unfold dk at h;obtain⟨y,hy,e⟩:=vA.mp h;rw[<-eq_of_beq e];exact F.base.bin.at hy
def UN{T:Ty}(h:tyOf x=À T):Õ x=À (.type T.name):=by
 unfold tyOf at h;split at h
 .rename_i q;rw[eq_of_beq q];cases h;exact ZZ
 split at h
 .rename_i q;rw[eq_of_beq q];cases h;exact Ue
 split at h
 .rename_i q;rw[eq_of_beq q];cases h;exact Wz
 split at h
 .rename_i q;rw[eq_of_beq q];cases h;exact nu
 split at h
 .rename_i q;rw[eq_of_beq q];cases h;exact sJ
 split at h
 .rename_i q;rw[eq_of_beq q];cases h;exact sr
 .cases h
def Za(F:Fits Γ cl k X)(hg:x4 Γ.sc x=Ã)(hb:dk Γ x=Ã)(h:iF mu x=À g)(hn:(e::es).all noStar=Ã)(ha:SA X cl (e::es) ms):SE X cl (.Call (.Name x p) (e::es) [] pos) (ze g ms):=by
 have hm:=cc F hb;rw[jG,zy] at hn;have h1:=kN (es:=es) (env:=X.env) hn.1;have h2:=qE (pos:=pos) (env:=X.env) hn.2;unfold iF at h;split at h
 .rename_i q;have q:=eq_of_beq q;subst q;cases h;exact YX hg Q2 hm PySem.boot_len ha F.sc h1 h2
 split at h
 .rename_i q;have q:=eq_of_beq q;subst q;cases h;exact YX hg (JX F.calm) hm ML.boot_any ha F.sc h1 h2
 split at h
 .rename_i q;have q:=eq_of_beq q;subst q;cases h;exact YX hg (Vo F.calm) hm ML.boot_sum ha F.sc h1 h2
 split at h
 .rename_i q;have q:=eq_of_beq q;subst q;cases h;exact YL hg QL hm ZZ ha F.sc h1 h2
 split at h
 .rename_i q;have q:=eq_of_beq q;subst q;cases h;exact YL hg t6 hm nu ha F.sc h1 h2
 split at h
 .rename_i q;have q:=eq_of_beq q;subst q;cases h;exact YL hg (Ju F.calm) hm sr ha F.sc h1 h2
 split at h
 .rename_i q;have q:=eq_of_beq q;subst q;cases h;exact YX hg (Zf ⟨F.base.pw.1,F.base.pw.2⟩ F.calm) hm uA ha F.sc h1 h2
 split at h
 .rename_i q;have q:=eq_of_beq q;subst q;cases h;exact YL hg Jl hm sJ ha F.sc h1 h2
 .cases h
def Vc(h:pT Γ as=À (a,T)):∃y p2,as=[a,.Name y p2]/\x4 Γ.sc y=Ã/\dk Γ y=Ã/\noStar a=Ã/\tyOf y=À T:=by
 unfold pT at h;split at h
 .rename_i a' y p2
  split at h
  .rename_i q
   rw[zq] at h;obtain⟨T',e,z⟩:=h;cases z;erw[zy] at q;exact⟨y,p2,rfl,q.1.1,q.1.2,q.2,e⟩
  .cases h
 .cases h
def QP(F:Fits Γ cl k X)(hE:∀e m,E e=À m->SE X cl e m)(hg:x4 Γ.sc x=Ã)(hb:dk Γ x=Ã)(h:tS Γ E mu x as=À m):SE X cl (.Call (.Name x p) as [] pos) m:=by
 unfold tS at h;split at h
 .rename_i q
  have q:=eq_of_beq q;subst q;rw[zH] at h;obtain⟨⟨a,T⟩,e,h⟩:=h;rw[zq] at h;obtain⟨ma,e2,rfl⟩:=h;obtain⟨y,p2,rfl,g2,b2,ns,ty⟩:=Vc e;exact FV T hg g2 (hE _ _ e2) (cc F hb) (cc F b2) (UN ty) F.sc (kN ns) (kN rfl) (qE rfl)
 .split at h
  .cases h
  .rw[zH] at h
   obtain⟨g,e,h⟩:=h;rw[zq] at h;obtain⟨ms,e2,rfl⟩:=h;obtain⟨hn,ha⟩:=dO hE e2;exact Za F hg hb e hn ha
def J3(h:rD as=À a):∃p2 p3,as=[.Call (.Name "set" p2) [a] [] p3]:=by
 unfold rD at h;split at h
 .rename_i y p2 a' p3
  split at h
  .rename_i q
   cases h;rw[eq_of_beq q];exact⟨p2,p3,rfl⟩
  .cases h
 .cases h
def QK(F:Fits Γ cl k X)(hE:∀e m,E e=À m->SE X cl e m)(h:rq Γ E mu x as=À m):SE X cl (.Call (.Name x p) as [] pos) m:=by
 unfold rq at h;split at h
 .rename_i hg
  split at h
  .rename_i g e
   rw[zq] at h;obtain⟨ms,e2,rfl⟩:=h;obtain⟨hn,ha⟩:=dO hE e2;obtain⟨f,fd,ps,fo,hm,hk,hb⟩:=F.base.fns.at e;cases as with
   | nil=>
    have:ms=[]:=by
     cases e2;rfl
    subst this;exact GC hg fo F.room hm hk hb F.sc
   | cons a r=>
    rw[jG,zy] at hn;exact c_ hg fo F.room hm hk hb ha F.sc (kN hn.1) (qE hn.2)
  .split at h
   .rename_i hb
    split at h
    .rename_i a e
     split at h
     .rename_i q
      erw[zy] at q;rw[zq] at h;obtain⟨ma,e2,rfl⟩:=h;obtain⟨p2,p3,rfl⟩:=J3 e;have hx:=eq_of_beq q.1.1.1;subst hx;exact Jy F.calm F.room.units (cc F hb) (cc F q.1.2) (hE _ _ e2) (qS hg F.sc).1 (qS q.1.1.2 F.sc).1 (kN q.2) (qE rfl) (kN rfl) (qE rfl)
     .cases h
    .exact QP F hE hg hb h
   .cases h
 .cases h
def VO(F:Fits Γ cl k X)(hE:∀e m,E e=À m->SE X cl e m)(h:Jf E o nm apos as pos=À m):SE X cl (.Call (.Attribute o nm apos) as [] pos) m:=by
 unfold Jf at h;split at h
 .rename_i q
  erw[zy] at q;obtain⟨⟨⟨q1,q2⟩,q3⟩,q4⟩:=q;rw[zH] at h;obtain⟨mo,eo,h⟩:=h;split at h
  .split at h
   .rename_i z
    rw[eq_of_beq z];cases h;exact Dj (hE _ _ eo) (fi q1) q2
   .cases h
  .rename_i a r
   have hn:=q3;rw[jG,zy] at hn;split at h
   .rename_i z
    rw[eq_of_beq z];rw[zq] at h;obtain⟨ms,e2,rfl⟩:=h;exact Va (hE _ _ eo) (cq hE q3 e2) (fi q1) (lG q3 q4) q2 (kN hn.1) (qE hn.2)
   split at h
   .rename_i z
    rw[eq_of_beq z];rw[zq] at h;obtain⟨ms,e2,rfl⟩:=h;exact JU (hE _ _ eo) (cq hE q3 e2) (fi q1) (lG q3 q4) q2 (kN hn.1) (qE hn.2)
   split at h
   .rename_i z
    rw[eq_of_beq z];rw[zq] at h;obtain⟨ms,e2,rfl⟩:=h;exact Wj (hE _ _ eo) (cq hE q3 e2) (fi q1) (lG q3 q4) q2 (kN hn.1) (qE hn.2)
   split at h
   .rename_i z
    rw[eq_of_beq z];split at h
    .rename_i b
     rw[zH] at h;obtain⟨ma,e1,h⟩:=h;rw[zq] at h;obtain⟨mb,e2,rfl⟩:=h;have hb:noStar b=Ã:=by simpa using hn.2
     exact Wd F.room.units (hE _ _ eo) (hE _ _ e1) (hE _ _ e2) ⟨fi q1,lG q3 q4,q2,by rw[eB hn.1,eB hb,fw];rfl⟩
    .cases h
   .cases h
 .cases h
end
noncomputable def isTup:Î->Bool
 | .Tuple ..=>Ã
 | _=>Â
noncomputable def rQ(Γ:RC)(E:Î->Option ME)(tg:Î)(x:Æ)(as:List Î):Option MI:=
 if (x4 Γ.sc x&&dk Γ x&&as.all noStar)=Ã then (match as with
  | [e]=>if x=="range" then (E e).map λm=>yb [m]
   else if (x=="enumerate" && isTup tg)=Ã then (E e).map λm=>u3 [m]
   else Á
  | [e,e2]=>if (x=="zip" && isTup tg)=Ã then (E e).bind λm=>(E e2).map λm2=>eT [m,m2] else Á
  | _=>Á) else Á
noncomputable def J7(Γ:RC)(E:Î->Option ME)(tg:Î):Î->Option MI
 | .Call (.Name x _) as [] _=>rQ Γ E tg x as
 | _=>Á
noncomputable def oS(Γ:RC)(E:Î->Option ME)(tg it:Î):Option MI:=match J7 Γ E tg it with
 | some m=>À m
 | none=>(E it).map kc
section
variable{Γ:RC}{cl:Cl}{k:Nat}{X:Cx}{x:Æ}{pos p:ĝ}{E:Î->Option ME}{as:List Î}{tg it:Î}{mi:MI}
def sO(h:isTup tg=Ã):∃es n tp,tg=.Tuple es n tp:=by
 unfold isTup at h;split at h
 .exact⟨_,_,_,rfl⟩
 .cases h
def Q9(F:Fits Γ cl k X)(hE:∀e m,E e=À m->SE X cl e m)(h:rQ Γ E tg x as=À mi):SI X cl tg (.Call (.Name x p) as [] pos) mi:=by
 unfold rQ at h;split at h
 .rename_i q
  erw[zy] at q;obtain⟨⟨q1,q2⟩,q3⟩:=q;split at h
  .rename_i e
   have hn:noStar e=Ã:=by simpa using q3
   split at h
   .rename_i z
    have z:=eq_of_beq z;subst z;rw[zq] at h;obtain⟨m,e1,rfl⟩:=h;exact Gs q1 (cc F q2) (eU (hE _ _ e1) lX (kN hn)) F.sc (by rw[kN hn,fw])
   split at h
   .rename_i z
    rw[zy] at z;obtain⟨es,n,tp,rfl⟩:=sO z.2;have z:=eq_of_beq z.1;subst z;rw[zq] at h;obtain⟨m,e1,rfl⟩:=h;exact FL q1 (cc F q2) (eU (hE _ _ e1) lX (kN hn)) F.sc (kN hn) (qE rfl)
   .cases h
  .rename_i e e2
   rw[jG,zy] at q3;have GT:noStar e2=Ã:=by simpa using q3.2
   split at h
   .rename_i z
    rw[zy] at z;obtain⟨es,n,tp,rfl⟩:=sO z.2;have z:=eq_of_beq z.1;subst z;rw[zH] at h;obtain⟨m,e1,h⟩:=h;rw[zq] at h;obtain⟨m2,e3,rfl⟩:=h;exact Ga q1 (cc F q2) (eU (hE _ _ e1) (eU (hE _ _ e3) lX (kN GT)) (kN q3.1)) F.sc (kN q3.1) (qE q3.2)
   .cases h
  .cases h
 .cases h
def tf(F:Fits Γ cl k X)(hE:∀e m,E e=À m->SE X cl e m)(h:oS Γ E tg it=À mi):SI X cl tg it mi:=by
 unfold oS at h;split at h
 .rename_i m e
  cases h;unfold J7 at e;split at e
  .exact Q9 F hE e
  .cases e
 .rw[zq] at h
  obtain⟨m,e1,rfl⟩:=h;exact C5 (hE _ _ e1)
end
noncomputable def sM(T:Î->Option MT):List Î->Option MT
 | []=>À vn
 | [c]=>T c
 | _=>Á
structure CompR where
 mi:MI
 nl:Nat
 ks:List Nat
 g:MG
 t:MT
 m:ME
noncomputable def RC.inner(Γ:RC)(scope:ê)(N':List Æ):RC:={ Γ with sc:=gj Γ.sc scope,N:=N',inC:=Ã }
noncomputable def JG(Γ:RC)(E:RC->Bool->Î->Option ME)(T:RC->Î->Option MT)(elt tg it:Î)(ifs:List Î)(scope:ê)(N':List Æ):Option CompR:=
 if (oR it&&sD N')=Ã then (qk (λx=>tK x Γ.N) (N'.drop (Bk tg))).bind λks=>
  if af Γ.sc Γ.N scope N' (Bk tg) ks=Ã then (oS Γ (E Γ Â) tg it).bind λmi=>(Qp (Γ.inner scope N') tg).bind λg=>(sM (T (Γ.inner scope N')) ifs).bind λt=>(E (Γ.inner scope N') Â elt).map λm=>⟨mi,Bk tg,ks,g,t,m⟩
  else Á
 else Á
noncomputable def oW(Γ:RC)(E:RC->Bool->Î->Option ME)(T:RC->Î->Option MT)(elt:Î)(gens:List ų)(scope:ê)(pos:ĝ):Option CompR:=match gens with
 | [⟨tg,it,ifs,ia⟩]=>match Γ.cmp.lookup (pos.line,pos.col) with
  | some N'=>if ia=0 then JG Γ E T elt tg it ifs scope N' else Á
  | none=>Á
 | _=>Á
section
variable{Γ:RC}{cl:Cl}{k:Nat}{X:Cx}{E:RC->Bool->Î->Option ME}{T:RC->Î->Option MT}{elt:Î}{gens:List ų}{scope:ê}{pos:ĝ}{r:CompR}
theorem Fits.inner(F:Fits Γ cl k X){N':List Æ}(hN:N'.Nodup)(hk:scope.kind=.function)(cs:List (Æ×È))(C:È)(s₀:Å)(H₀:Hp)(ex:List È):Fits (Γ.inner scope N') cl k (vT X scope cs C N' s₀ H₀ ex) where
 sc:=by
  show relabel scope X.env=gj Γ.sc scope
  rw[<-F.sc];rfl
 N:=rfl
 nd:=hN
 fn:=λh=>by cases h
 kind:=hk
 calm:=F.calm
 pass:=yQ
 room:=F.room
 base:=⟨F.base.fns,F.base.con,F.base.tab,F.base.bin,F.base.pw⟩
def Vn(hT:∀e m,t e=À m->ST X cl e m)(h:sM t ifs=À m):gD X cl ifs m:=by
 unfold sM at h;split at h
 .cases h;exact Xv
 .exact Xu (hT _ _ h)
 .cases h
structure CompG(X:Cx)(cl:Cl)(elt:Î)(gens:List ų)(scope:ê)(r:CompR):Prop where
 ex:∃tg it ifs N',gens=[⟨tg,it,ifs,0⟩]/\af X.env.scope X.N scope N' r.nl r.ks=Ã/\oR it=Ã/\SI X cl tg it r.mi/\(∀cs C s₀ H₀ ex,SG (vT X scope cs C N' s₀ H₀ ex) cl tg r.g)/\(∀cs C s₀ H₀ ex,gD (vT X scope cs C N' s₀ H₀ ex) cl ifs r.t)/\∀cs C s₀ H₀ ex,SE (vT X scope cs C N' s₀ H₀ ex) cl elt r.m
def tL(F:Fits Γ cl k X)(hE:∀Γ X,Fits Γ cl k X->∀mu e m,E Γ mu e=À m->SE X cl e m)(hT:∀Γ X,Fits Γ cl k X->∀e m,T Γ e=À m->ST X cl e m)(h:oW Γ E T elt gens scope pos=À r):CompG X cl elt gens scope r:=by
 unfold oW at h;split at h
 .rename_i tg it ifs ia
  split at h
  .rename_i N' _
   split at h
   .rename_i z
    subst z;unfold JG at h;split at h
    .rename_i q
     rw[zy] at q;rw[zH] at h;obtain⟨ks,e1,h⟩:=h;split at h
     .rename_i ok
      rw[zH] at h;obtain⟨mi,e2,h⟩:=h;rw[zH] at h;obtain⟨g,e3,h⟩:=h;rw[zH] at h;obtain⟨t,e4,h⟩:=h;rw[zq] at h;obtain⟨m,e5,rfl⟩:=h;have Fi:=λcs C s₀ H₀ ex=>F.inner (scope:=scope) (YJ q.2) (c9 ok).kind cs C s₀ H₀ ex
      exact⟨tg,it,ifs,N',rfl,by rw[F.sc,F.N];exact ok,q.1,tf F (hE _ _ F Â) e2,λcs C s₀ H₀ ex=>su (Fi cs C s₀ H₀ ex) e3,λcs C s₀ H₀ ex=>Vn (hT _ _ (Fi cs C s₀ H₀ ex)) e4,λcs C s₀ H₀ ex=>hE _ _ (Fi cs C s₀ H₀ ex) _ _ _ e5⟩
     .cases h
    .cases h
   .cases h
  .cases h
 .cases h
end
noncomputable def Kl(Γ:RC)(E:Î->Option ME)(a:Î)(op:CmpOp)(b:Î):Option ME:=if ī op b=Ã then Á else (FH op).bind λf=>(E a).bind λma=>(E b).map λmb=>zh f ma mb
noncomputable def K0(Γ:RC)(E:Î->Option ME)(a:Î)(ops:List CmpOp)(bs:List Î):Option ME:=match ops,bs with
 | [op],[b]=>Kl Γ E a op b
 | _,_=>Á
noncomputable def Jd(E:Î->Option ME):Option Î->Option (Option ME)
 | none=>À Á
 | some e=>(E e).map À
noncomputable def sU(E:Î->Option ME)(ma:ME)(lo hi st:Option Î):Option ME:=match st with
 | none=>(Jd E lo).bind λml=>(Jd E hi).map λmh=>yT ma ml mh
 | _=>Á
noncomputable def mU(Γ:RC)(E:Î->Option ME)(a b:Î):Option ME:=match a with
 | .Name x _=>if (x4 Γ.sc x&&gQ b)=Ã then (match Γ.tab.lookup x with
  | some l=>(E b).map (vw (fb l))
  | none=>Á) else Á
 | _=>Á
noncomputable def W3(Γ:RC)(E:Î->Option ME)(a b:Î):Option ME:=match mU Γ E a b with
 | some m=>À m
 | none=>(E a).bind λma=>match b with
  | .Slice lo hi st _=>sU E ma lo hi st
  | b=>(E b).map (zh zt ma)
noncomputable def mw(op:BoolOp)(E:Î->Option ME):List Î->Option ME
 | []=>Á
 | [a]=>E a
 | a::r=>(E a).bind λma=>(mw op E r).map λmb=>match op with
  | .And=>x5 ma mb
  | .Or=>Yj ma mb
noncomputable def lW(op:BoolOp)(T:Î->Option MT):List Î->Option MT
 | []=>Á
 | [a]=>T a
 | a::r=>(T a).bind λma=>(lW op T r).map λmb=>match op with
  | .And=>vb ma mb
  | .Or=>bq ma mb
noncomputable def KY(E:Î->Option ME)(mu:Bool)(ks:List (Option Î))(vs:List Î):Option ME:=match ks,vs with
 | [],[]=>À (eC (.fdc []))
 | _,_=>Á
noncomputable def mz(mu:Bool)(r:CompR):ME:=match mu with
 | true=>x8 r.mi r.nl r.ks r.g r.t r.m
 | false=>kq r.mi r.nl r.ks r.g r.t r.m
noncomputable def Jb(E:RC->Bool->Î->Option ME)(T:RC->Î->Option MT)(Γ:RC)(mu:Bool):Î->Option ME
 | .Name x _=>K5 Γ x
 | .Constant c _ _=>oX c
 | .UnaryOp .Not a _=>(E Γ Â a).map Ku
 | .UnaryOp .USub a _=>(E Γ Â a).map (vw fF)
 | .BinOp a op b _=>(Cs mu op).bind λf=>(E Γ Â a).bind λma=>(E Γ Â b).map (zh f ma)
 | .Compare a ops bs _=>K0 Γ (E Γ Â) a ops bs
 | .BoolOp op vs _=>mw op (E Γ Â) vs
 | .IfExp t a b _=>(T Γ t).bind λmt=>(E Γ Â a).bind λma=>(E Γ Â b).map (Y5 mt ma)
 | .Tuple es _ _=>(ie (E Γ Â) es).map (ze zv)
 | .List es _=>(ie (E Γ Â) es).map (match mu with
  | true=>ze yY
  | false=>ze kx)
 | .Dict ks vs _=>KY (E Γ Â) mu ks vs
 | .Subscript a b _=>W3 Γ (E Γ Â) a b
 | .Call (.Name x _) as [] _=>rq Γ (E Γ Â) mu x as
 | .Call (.Attribute o nm apos) as [] pos=>Jf (E Γ Â) o nm apos as pos
 | .ListComp elt gens scope pos=>(oW Γ E T elt gens scope pos).map (mz mu)
 | _=>Á
noncomputable def stepT(E:RC->Bool->Î->Option ME)(T:RC->Î->Option MT)(Γ:RC):Î->Option MT
 | .BoolOp op vs _=>lW op (T Γ) vs
 | .UnaryOp .Not a _=>(T Γ a).map dC
 | .Compare a ops bs _=>(K0 Γ (E Γ Â) a ops bs).map zD
 | e=>if plainT e=Ã then (E Γ Â e).map zD else Á
noncomputable def nJ:Nat->(RC->Bool->Î->Option ME)×(RC->Î->Option MT)
 | 0=>(λ_ _ _=>Á,λ_ _=>Á)
 | n+1=>(Jb (nJ n).1 (nJ n).2,stepT (nJ n).1 (nJ n).2)
section
variable{Γ:RC}{cl:Cl}{k:Nat}{X:Cx}{m:ME}{pos p:ĝ}{E:Î->Option ME}{T:Î->Option MT}{a b:Î}{mu:Bool}
def WU(F:Fits Γ cl k X)(hE:∀e m,E e=À m->SE X cl e m)(h:Kl Γ E a op b=À m):SE X cl (.Compare a [op] [b] pos) m/\ST X cl (.Compare a [op] [b] pos) (zD m):=by
 unfold Kl at h;split at h
 .cases h
 .rename_i hm
  rw[Bool.not_eq_true] at hm;rw[zH] at h;obtain⟨f,e0,h⟩:=h;rw[zH] at h;obtain⟨ma,e1,h⟩:=h;rw[zq] at h;obtain⟨mb,e2,rfl⟩:=h;exact⟨BV (QW F.room.units e0) (hE _ _ e1) (hE _ _ e2) hm,Do (QW F.room.units e0) (hE _ _ e1) (hE _ _ e2) hm⟩
def ZU{bs:List Î}(F:Fits Γ cl k X)(hE:∀e m,E e=À m->SE X cl e m)(h:K0 Γ E a ops bs=À m):SE X cl (.Compare a ops bs pos) m/\ST X cl (.Compare a ops bs pos) (zD m):=by
 unfold K0 at h;split at h
 .exact WU F hE h
 .cases h
def Kd(hE:∀e m,E e=À m->SE X cl e m)(h:Jd E o=À mo):SO X cl o mo:=by
 unfold Jd at h;split at h
 .cases h;exact XY
 .rw[zq] at h
  obtain⟨m,e1,rfl⟩:=h;exact X9 (hE _ _ e1)
def Qt{ma:ME}{lo hi st:Option Î}(hE:∀e m,E e=À m->SE X cl e m)(ha:SE X cl a ma)(h:sU E ma lo hi st=À m):SE X cl (.Subscript a (.Slice lo hi st p) pos) m:=by
 unfold sU at h;split at h
 .rw[zH] at h
  obtain⟨ml,e1,h⟩:=h;rw[zq] at h;obtain⟨mh,e2,rfl⟩:=h;exact Fw ha (Kd hE e1) (Kd hE e2)
 .cases h
def JA(F:Fits Γ cl k X)(hE:∀e m,E e=À m->SE X cl e m)(h:mU Γ E a b=À m):SE X cl (.Subscript a b pos) m:=by
 unfold mU at h;split at h
 .split at h
  .rename_i q
   rw[zy] at q;split at h
   .rename_i l e
    rw[zq] at h;obtain⟨mb,e1,rfl⟩:=h;exact GA q.1 F.room.units (F.base.tab.at e) (hE _ _ e1) F.sc (Y6 q.2)
   .cases h
  .cases h
 .cases h
def Xg(F:Fits Γ cl k X)(hE:∀e m,E e=À m->SE X cl e m)(h:W3 Γ E a b=À m):SE X cl (.Subscript a b pos) m:=by
 unfold W3 at h;split at h
 .rename_i m' e
  cases h;exact JA F hE e
 .rw[zH] at h
  obtain⟨ma,e1,h⟩:=h;split at h
  .exact Qt hE (hE _ _ e1) h
  .rename_i hb
   rw[zq] at h;obtain⟨mb,e2,rfl⟩:=h;refine Fg (hE _ _ e1) (hE _ _ e2) (Y6 ?_);cases b<;>first | rfl | exact absurd rfl (hb _ _ _ _)
theorem nP(hE:∀e m,E e=À m->SE X cl e m):∀{vs:List Î} {m:ME},mw op E vs=À m->SE X cl (.BoolOp op vs pos) m
 | [],m,h=>by cases h
 | [a],m,h=>Cz (hE _ _ h)
 | a::b::r,m,h=>by
  unfold mw at h;rw[zH] at h;obtain⟨ma,e1,h⟩:=h;rw[zq] at h;obtain⟨mb,e2,h⟩:=h;have ih:=nP hE e2;cases op with
  | And=>subst h;exact Bi (hE _ _ e1) ih
  | Or=>subst h;exact D4 (hE _ _ e1) ih
theorem nQ(hT:∀e m,T e=À m->ST X cl e m):∀{vs:List Î} {m:MT},lW op T vs=À m->SW X cl (.BoolOp op vs pos) m
 | [],m,h=>by cases h
 | [a],m,h=>by
  cases op with
  | And=>exact XQ (hT _ _ h)
  | Or=>exact C8 (hT _ _ h)
 | a::b::r,m,h=>by
  unfold lW at h;rw[zH] at h;obtain⟨ma,e1,h⟩:=h;rw[zq] at h;obtain⟨mb,e2,h⟩:=h;have ih:=nQ hT e2;cases op with
  | And=>subst h;exact Bm (hT _ _ e1) ih
  | Or=>subst h;exact DS (hT _ _ e1) ih
def W7(hE:∀e m,E e=À m->SE X cl e m)(h:KY E mu ks vs=À m):SE X cl (.Dict ks vs pos) m:=by
 unfold KY at h;split at h
 .cases h;exact XU
 .cases h
end
section
variable{Γ:RC}{cl:Cl}{k:Nat}{X:Cx}{m:ME}{pos p:ĝ}{E:RC->Bool->Î->Option ME}{T:RC->Î->Option MT}{mu:Bool}
def ng(F:Fits Γ cl k X)(g:CompG X cl elt gens scope r):SE X cl (.ListComp elt gens scope pos) (mz mu r):=by
 obtain⟨tg,it,ifs,N',rfl,ok,hs,hi,hg,ht,he⟩:=g.ex;cases mu with
 | true=>exact Wn _ _ N' r.nl r.ks F.calm ok hi hg ht he rfl rfl (cE hs)
 | false=>exact UD _ _ N' r.nl r.ks F.calm ok hi hg ht he rfl rfl (cE hs)
def Wq(hE:∀Γ X,Fits Γ cl k X->∀mu e m,E Γ mu e=À m->SE X cl e m)(hT:∀Γ X,Fits Γ cl k X->∀e m,T Γ e=À m->ST X cl e m)(F:Fits Γ cl k X)(h:Jb E T Γ mu e=À m):SE X cl e m:=by
 have PY:=hE _ _ F;have hF:=PY Â;have EH:=hT _ _ F;unfold Jb at h;cases e with
 | Name a0 a1=>
  exact VL F h
 | Constant a0 a1 a2=>
  exact JM h
 | UnaryOp a0 a1 a2=>
  cases a0 with
  | Not=>
   dsimp only at h;rw[ç] at h;obtain⟨ma,e1,rfl⟩:=h;exact Bn (hF _ _ e1)
  | USub=>
   dsimp only at h;rw[ç] at h;obtain⟨ma,e1,rfl⟩:=h;exact Fe XS (hF _ _ e1)
  | _=>cases h
 | BinOp a0 a1 a2 a3=>
  dsimp only at h;rw[û] at h;obtain⟨f,e0,h⟩:=h;rw[zH] at h;obtain⟨ma,e1,h⟩:=h;rw[zq] at h;obtain⟨mb,e2,rfl⟩:=h;exact DD (BY e0) (hF _ _ e1) (hF _ _ e2)
 | Compare a0 a1 a2 a3=>
  exact(ZU F hF h).1
 | BoolOp a0 a1 a2=>
  exact nP hF h
 | IfExp a0 a1 a2 a3=>
  dsimp only at h;rw[û] at h;obtain⟨mt,e0,h⟩:=h;rw[zH] at h;obtain⟨ma,e1,h⟩:=h;rw[zq] at h;obtain⟨mb,e2,rfl⟩:=h;exact DX (EH _ _ e0) (hF _ _ e1) (hF _ _ e2)
 | Tuple a0 a1 a2=>
  dsimp only at h;rw[ç] at h;obtain⟨ms,e1,rfl⟩:=h;exact Cf (dO hF e1).2
 | List a0 a1=>
  dsimp only at h;rw[ç] at h;obtain⟨ms,e1,h⟩:=h;cases mu with
  | true=>subst h;exact CG (dO hF e1).2
  | false=>subst h;exact Co (dO hF e1).2
 | Dict a0 a1 a2=>
  exact W7 hF h
 | Subscript a0 a1 a2=>
  exact Xg F hF h
 | Call a0 a1 a2 a3=>
  cases a0 with
  | Name b0 b1=>
   cases a2 with
   | nil=>
    exact QK F hF h
   | cons _ _=>cases h
  | Attribute b0 b1 b2=>
   cases a2 with
   | nil=>
    exact VO F hF h
   | cons _ _=>cases h
  | _=>cases h
 | ListComp a0 a1 a2 a3=>
  dsimp only at h;rw[ç] at h;obtain⟨r,e1,rfl⟩:=h;exact ng F (tL F hE hT e1)
 | _=>cases h
def WS(hE:∀Γ X,Fits Γ cl k X->∀mu e m,E Γ mu e=À m->SE X cl e m)(hT:∀Γ X,Fits Γ cl k X->∀e m,T Γ e=À m->ST X cl e m)(F:Fits Γ cl k X)(h:stepT E T Γ e=À t):ST X cl e t:=by
 have hF:=hE _ _ F Â;have EH:=hT _ _ F;unfold stepT at h;split at h
 .exact UJ (nQ EH h)
 .rw[zq] at h
  obtain⟨ma,e1,rfl⟩:=h;exact BR (EH _ _ e1)
 .rw[zq] at h
  obtain⟨ma,e1,rfl⟩:=h;exact(ZU F hF e1).2
 .split at h
  .rename_i q
   rw[zq] at h;obtain⟨ma,e1,rfl⟩:=h;exact CM (hF _ _ e1) (WH q)
  .cases h
theorem fj:∀n,(∀Γ X,Fits Γ cl k X->∀mu e m,(nJ n).1 Γ mu e=À m->SE X cl e m)/\(∀Γ X,Fits Γ cl k X->∀e m,(nJ n).2 Γ e=À m->ST X cl e m)
 | 0=>⟨λ_ _ _ _ _ _ h=>(by cases h),λ_ _ _ _ _ h=>(by cases h)⟩
 | n+1=>⟨λΓ X F mu e m h=>Wq (fj n).1 (fj n).2 F h,λΓ X F e m h=>WS (fj n).1 (fj n).2 F h⟩
end
def Be{env:Env}(h:gQ i=Ã):∀v,assign (.Subscript o i pos) env v=(do
   let ov <-holding [v] (eval o env)
   let iv <-holding [v,ov] (eval i env)
   ż pos
   holding [v,ov,iv] (Ž ov iv v)
   release [v,ov,iv] []):=by
 intro v;cases i<;>first | (cases h;done) | kernel_rfl
theorem Zb{env:Env}:ņ [.Subscript o i p] e env=pure Á:=rfl
noncomputable def oV(Γ:RC)(x:Æ):Bool:=Γ.own.any (· == x)
noncomputable def oK(Γ:RC)(x:Æ)(px:ĝ)(scope:ê)(cpos:ĝ):Bool:=Γ.sc.names.lookup x==À .local&&px.line==cpos.line && !(scope.names.any λ(n,k)=>n==x&&(k==.local||k==.cell))
noncomputable def Ja(Γ:RC)(E:RC->Bool->Î->Option ME)(T:RC->Î->Option MT)(x:Æ):Î->Option ME
 | .ListComp elt gens scope cpos=>(oW Γ E T elt gens scope cpos).map (mz (oV Γ x))
 | .Dict [] [] dp=>if Γ.txt.any (· == x)=Ã then À ly else E Γ (oV Γ x) (.Dict [] [] dp)
 | v=>if lz v=Ã then E Γ (oV Γ x) v else Á
noncomputable def Wh(Γ:RC)(E:RC->Bool->Î->Option ME)(T:RC->Î->Option MT)(tg v:Î):Option MS:=match tg with
 | .Name x _=>match tK x Γ.N with
  | some i=>if (setB Γ.sc Γ.N i x && !Γ.inC)=Ã then (Ja Γ E T x v).map λm=>zC m (zl i) else Á
  | none=>Á
 | .Subscript o i p=>if (lz v&&gQ i)=Ã then (E Γ Â v).bind λm=>(E Γ Â o).bind λmo=>(E Γ Â i).map λmi=>zC m (oO mo mi) else Á
 | .Tuple es n p=>if Yq v=Ã then (E Γ Â v).bind λm=>(Qp Γ (.Tuple es n p)).map λg=>zC m g else Á
 | _=>Á
noncomputable def Ji(E:RC->Bool->Î->Option ME)(T:RC->Î->Option MT)(B:RC->List Č->Option MS)(Γ:RC):Č->Option MS
 | .Return (À e) _=>(E Γ Â e).map ke
 | .Pass _=>À ko
 | .Expr e _=>if lz e=Ã then (E Γ Â e).map ya else Á
 | .If c a b _=>(T Γ c).bind λt=>(B Γ a).bind λma=>(B Γ b).map (kM t ma)
 | .While c body [] _=>(T Γ c).bind λt=>(B Γ body).map (cy t)
 | .For tg it body [] _=>if oR it=Ã then (oS Γ (E Γ Â) tg it).bind λmi=>(Qp Γ tg).bind λg=>(B Γ body).map (kK mi g) else Á
 | .Assign [tg] v _=>Wh Γ E T tg v
 | _=>Á
noncomputable def blk(S:Č->Option MS):List Č->Option MS
 | []=>À ko
 | [s]=>S s
 | s::r=>(S s).bind λa=>(blk S r).map (zo a)
noncomputable def cS:Nat->RC->Č->Option MS
 | 0=>λ_ _=>Á
 | n+1=>Ji (nJ 40).1 (nJ 40).2 (λΓ=>blk (cS n Γ))
noncomputable def cB(Γ:RC)(bd:List Č):Option MS:=blk (cS 12 Γ) bd
section
variable{Γ:RC}{cl:Cl}{k:Nat}{X:Cx}{pos p:ĝ}{E:RC->Bool->Î->Option ME}{T:RC->Î->Option MT}{B:RC->List Č->Option MS}{ms:MS}
theorem KG{scope:ê}{cpos px:ĝ}{env:Env}:Ă (.ListComp elt gens scope cpos) (À (.Name x px)) l env=pure (env.blockKind==.function&&env.kindOf x==À .local&&px.line==cpos.line && !(scope.names.any λ(n,k)=>n==x&&(k==.local||k==.cell))):=rfl
def VQ(hE:∀Γ X,Fits Γ cl k X->∀mu e m,E Γ mu e=À m->SE X cl e m)(hT:∀Γ X,Fits Γ cl k X->∀e m,T Γ e=À m->ST X cl e m)(F:Fits Γ cl k X)(hc:Γ.inC=Â)(hb:setB Γ.sc Γ.N i x=Ã)(h:Ja Γ E T x v=À m):SS X cl (.Assign [.Name x px] v pos) (zC m (zl i)):=by
 have AI:=F.N▸F.nd;unfold Ja at h;split at h
 .rename_i elt gens scope cpos
  rw[zq] at h;obtain⟨r,e1,rfl⟩:=h;have g:=tL F hE hT e1;have hk:X.env.blockKind=.function:=by
   unfold Env.blockKind;rw[F.sc,F.kind];rfl
  have AN:=KG (elt:=elt) (gens:=gens) (scope:=scope) (cpos:=cpos) (px:=px) (x:=x) (l:=pos.line) (env:=X.env);have he:(X.env.blockKind==.function&&X.env.kindOf x==À .local&&px.line==cpos.line && !(scope.names.any λ(n,k)=>n==x&&(k==.local||k==.cell)))=oK Γ x px scope cpos:=by
   rw[hk];unfold oK;rw[<-F.sc];rfl
  rw[he] at AN;cases q:oK Γ x px scope cpos with
  | false=>
   rw[q] at AN;exact s_ hb AI (ng F g) F.sc F.N (F.fn hc _) AN
  | true=>
   rw[q] at AN;obtain⟨tg,it,ifs,N',rfl,ok,hs,hi,hg,ht,Ny⟩:=g.ex;have hx:X.env.kindOf x=À .local:=by
    unfold oK at q;erw[zy,ww] at q;have:=q.1.1;rw[<-F.sc] at this;exact this
   have A8:X.N[i]?=À x:=by
    unfold setB at hb;erw[zy,ww] at hb;rw[F.N];exact hb.1
   unfold mz;cases oV Γ x with
   | true=>exact Wg i _ _ N' r.nl r.ks F.nd F.calm ok hi hg ht Ny rfl rfl (cE hs) A8 hx AN
   | false=>exact XI i _ _ N' r.nl r.ks F.nd F.calm ok hi hg ht Ny rfl rfl (cE hs) A8 hx AN
 .split at h
  .cases h
   exact s_ hb AI (X0 ⟨F.base.pw.1,F.base.pw.2⟩) F.sc F.N (F.fn hc _) (dG rfl)
  .exact s_ hb AI (hE _ _ F _ _ _ h) F.sc F.N (F.fn hc _) (dG rfl)
 .split at h
  .rename_i q
   exact s_ hb AI (hE _ _ F _ _ _ h) F.sc F.N (F.fn hc _) (dG q)
  .cases h
theorem Qq{env:Env}:Ă v (À (.Tuple es n p)) l env=pure Â:=by
 unfold Ă;cases v<;>rfl
def Xh(hE:∀Γ X,Fits Γ cl k X->∀mu e m,E Γ mu e=À m->SE X cl e m)(hT:∀Γ X,Fits Γ cl k X->∀e m,T Γ e=À m->ST X cl e m)(F:Fits Γ cl k X)(h:Wh Γ E T tg v=À ms):SS X cl (.Assign [tg] v pos) ms:=by
 unfold Wh at h;split at h
 .split at h
  .split at h
   .rename_i q
    rw[zy,jZ] at q;rw[zq] at h;obtain⟨m,e1,rfl⟩:=h;exact VQ hE hT F q.2 q.1 e1
   .cases h
  .cases h
 .split at h
  .rename_i q
   rw[zy] at q;rw[zH] at h;obtain⟨m,e1,h⟩:=h;rw[zH] at h;obtain⟨mo,e2,h⟩:=h;rw[zq] at h;obtain⟨mi,e3,rfl⟩:=h;exact Q8 (hE _ _ F _ _ _ e1) (Uo ⟨F.base.pw.1,F.base.pw.2⟩ F.room.units (hE _ _ F _ _ _ e2) (hE _ _ F _ _ _ e3) (Be q.2)) ((show Ņ [_] v pos.line X.env=Ă v (À _) pos.line X.env from rfl).trans (dG q.1)) Zb (by rw[uj rfl,dD];rfl)
  .cases h
 .split at h
  .rename_i q
   rw[zH] at h;obtain⟨m,e1,h⟩:=h;rw[zq] at h;obtain⟨g,e2,rfl⟩:=h;exact Q8 (hE _ _ F _ _ _ e1) (su F e2) ((show Ņ [_] v pos.line X.env=Ă v (À _) pos.line X.env from rfl).trans Qq) (KZ q) (by rw[uj rfl,dD];rfl)
  .cases h
 .cases h
def VI(hE:∀Γ X,Fits Γ cl k X->∀mu e m,E Γ mu e=À m->SE X cl e m)(hT:∀Γ X,Fits Γ cl k X->∀e m,T Γ e=À m->ST X cl e m)(hB:∀Γ X,Fits Γ cl k X->∀b m,B Γ b=À m->SB X cl b m)(F:Fits Γ cl k X){st:Č}(h:Ji E T B Γ st=À ms):SS X cl st ms:=by
 have hF:=hE _ _ F Â;have EH:=hT _ _ F;have IW:=hB _ _ F;unfold Ji at h;cases st with
 | Return a0 a1=>
  cases a0 with
  | none=>cases h
  | some b0=>
   dsimp only at h;rw[ç] at h;obtain⟨m,e1,rfl⟩:=h;exact Cg (hF _ _ e1)
 | Pass a0=>
  dsimp only at h;cases h;exact X8
 | Expr a0 a1=>
  dsimp only at h;split at h
  .rename_i q
   rw[zq] at h;obtain⟨m,e1,rfl⟩:=h;exact Ur (hF _ _ e1) (dG q)
  .cases h
 | If a0 a1 a2 a3=>
  dsimp only at h;rw[û] at h;obtain⟨t,e0,h⟩:=h;rw[zH] at h;obtain⟨ma,e1,h⟩:=h;rw[zq] at h;obtain⟨mb,e2,rfl⟩:=h;exact Fo (EH _ _ e0) (IW _ _ e1) (IW _ _ e2)
 | While a0 a1 a2 a3=>
  cases a2 with
  | cons _ _=>cases h
  | nil=>
   dsimp only at h;rw[û] at h;obtain⟨t,e0,h⟩:=h;rw[zq] at h;obtain⟨mb,e2,rfl⟩:=h;exact V0 (EH _ _ e0) (IW _ _ e2) F.pass
 | For a0 a1 a2 a3 a4=>
  cases a3 with
  | cons _ _=>cases h
  | nil=>
   dsimp only at h;split at h
   .rename_i q
    rw[zH] at h;obtain⟨mi,e0,h⟩:=h;rw[zH] at h;obtain⟨g,e1,h⟩:=h;rw[zq] at h;obtain⟨mb,e2,rfl⟩:=h;exact C3 F.calm (tf F hF e0) (su F e1) (IW _ _ e2) (cE q) F.pass
   .cases h
 | Assign a0 a1 a2=>
  cases a0 with
  | nil=>cases h
  | cons b0 b1=>
   cases b1 with
   | cons _ _=>cases h
   | nil=>
    exact Xh hE hT F h
 | _=>cases h
theorem rV(hS:∀s m,S s=À m->SS X cl s m):∀{b:List Č} {m:MS},blk S b=À m->SB X cl b m
 | [],m,h=>by cases h;exact Bw
 | [s],m,h=>Dh (hS _ _ h)
 | s::s'::r,m,h=>by
  unfold blk at h;rw[zH] at h;obtain⟨ma,e1,h⟩:=h;rw[zq] at h;obtain⟨mb,e2,rfl⟩:=h;exact Uk (hS _ _ e1) (rV hS e2)
theorem YW:∀(n:Nat) (Γ:RC) (X:Cx),Fits Γ cl k X->∀s m,cS n Γ s=À m->SS X cl s m
 | 0,_,_,_,_,_,h=>by cases h
 | n+1,Γ,X,F,s,m,h=>VI (fj 40).1 (fj 40).2 (λΓ X F b m h=>rV (YW n Γ X F) h) F h
def DZ(F:Fits Γ cl k X)(h:cB Γ bd=À ms):SB X cl bd ms:=rV (YW 12 Γ X F) h
end
def BE{P:Í}{w:Ñ}{K:Sb}{mg:Æ->Option Ä}{base:Ò}{cl:Cl}{x qual:Æ}{st:Č}{f:È}{fd:ą}{ps:List Æ}{k np ns:Nat}{b:MS}(Γ:RC){bd:List Č}(F:Fun K x qual st f fd)(Af:kQ st=Γ.sc)(LU:ve st=bd)(S:FnScope Γ.N ps Γ.sc)(Ec:ps.length=np)(Ah:Γ.N.length-np=ns)
  (hc:Γ.inC=Â) (B:BaseOk P w K mg base cl k Γ) (hb:cB Γ bd=À b):FnOk P w K mg base dH (k+1) f fd ps (cf K cl (gc (kS np ns b))):=
 BZ F Af LU S Ec Ah λmN A outer s H E hr=>DZ (k:=k) ⟨rfl,rfl,S.nd,λ_ _=>rfl,S.kind,rfl,yQ,hr,⟨B.fns,B.con,B.tab,B.bin,B.pw⟩⟩ hb
structure Def where
 x:Æ
 st:Č
 ps:List Æ
 N:List Æ
 own:List Æ
 txt:List Æ
 cmp:List ((Nat×Nat)×List Æ)
noncomputable def d7(N ps:List Æ)(sc:ê):Bool:=sc.kind==.function && !sc.isCoroutine && !sc.isGenerator&&sD N&&N.take ps.length==ps&&ps.all (Jc sc)&&sc.names.all λy=>y.2 != .free
def Jw(h:d7 N ps sc=Ã):FnScope N ps sc:=by
 unfold d7 at h;erw[zy,jZ,ww] at h;obtain⟨⟨⟨⟨⟨⟨h1,h2⟩,h3⟩,h4⟩,h5⟩,h6⟩,h7⟩:=h;exact⟨h1,h2,h3,YJ h4,h5,λx hx=>mG (zZ.mp h6 x hx),λy hy=>by simpa using zZ.mp h7 y hy⟩
noncomputable def HB(x:Æ)(st:Č)(ps:List Æ)(us:List Ä):Prop:=∀(kV doc pm:Ä) (an:Option È) (mN ct:Ä),bindArgs (ĉ x x (xB st) (ve st) (kQ st) .none kV doc pm an mN ct) ⟨us,[]⟩=pure (ps.zip us)
noncomputable def sV(x:Æ)(st:Č)(ps:List Æ):Prop:=∀us:List Ä,us.length=ps.length->HB x st ps us
section
variable{x:Æ}{st:Č}{ps:List Æ}
def y7{us:List Ä}(e:us.length=n+1):∃a r,us=a::r/\r.length=n:=by
 cases us with
 | nil=>cases e
 | cons a r=>exact⟨a,r,rfl,Nat.succ.inj e⟩
def hb1(h:∀a,HB x st ps [a])(hl:↥(ps.length=1)):sV x st ps:=λus e=>by
 obtain⟨a,r,rfl,e1⟩:=y7 (e.trans hl);rw[qg e1];exact h a
def hb2(h:∀a b,HB x st ps [a,b])(hl:↥(ps.length=2)):sV x st ps:=λus e=>by
 obtain⟨a,r,rfl,e1⟩:=y7 (e.trans hl);obtain⟨b,r,rfl,e2⟩:=y7 e1;rw[qg e2];exact h a b
def hb3(h:∀a b c,HB x st ps [a,b,c])(hl:↥(ps.length=3)):sV x st ps:=λus e=>by
 obtain⟨a,r,rfl,e1⟩:=y7 (e.trans hl);obtain⟨b,r,rfl,e2⟩:=y7 e1;obtain⟨c,r,rfl,e3⟩:=y7 e2;rw[qg e3];exact h a b c
def hb4(h:∀a b c d,HB x st ps [a,b,c,d])(hl:↥(ps.length=4)):sV x st ps:=λus e=>by
 obtain⟨a,r,rfl,e1⟩:=y7 (e.trans hl);obtain⟨b,r,rfl,e2⟩:=y7 e1;obtain⟨c,r,rfl,e3⟩:=y7 e2;obtain⟨d,r,rfl,e4⟩:=y7 e3;rw[qg e4];exact h a b c d
def hb5(h:∀a b c d f,HB x st ps [a,b,c,d,f])(hl:↥(ps.length=5)):sV x st ps:=λus e=>by
 obtain⟨a,r,rfl,e1⟩:=y7 (e.trans hl);obtain⟨b,r,rfl,e2⟩:=y7 e1;obtain⟨c,r,rfl,e3⟩:=y7 e2;obtain⟨d,r,rfl,e4⟩:=y7 e3;obtain⟨f,r,rfl,e5⟩:=y7 e4;rw[qg e5];exact h a b c d f
end
noncomputable def eF(K:Sb)(mg:Æ->Option Ä)(d:Def):Prop:=∃a fd,FTxt K mg d.x d.st d.ps a fd
noncomputable def pU(P:Def->Prop):List Def->Prop
 | []=>True
 | d::r=>P d/\pU P r
noncomputable def RC.at(Γ:RC)(d:Def):RC:=⟨kQ d.st,d.N,Â,Γ.fns,Γ.con,Γ.tab,Γ.bin,d.own,d.txt,d.cmp⟩
section
variable{P:Í}{w:Ñ}{K:Sb}{mg:Æ->Option Ä}{base:Ò}{cl:Cl}{n np ns:Nat}{Γ:RC}{d:Def}{b:MS}
def ZX(T:FTxt K mg d.x d.st d.ps a fd)(B:BaseOk P w K mg base cl n Γ)(Af:d7 d.N d.ps (kQ d.st)=Ã)(Ec:d.ps.length=np)(Ah:d.N.length-np=ns)(hb:cB (Γ.at d) (ve d.st)=À b):FnOk P w K mg base dH (n+1) a fd d.ps (cf K cl (gc (kS np ns b))):=
 BE (Γ.at d) T.F rfl rfl (Jw Af) Ec Ah rfl ⟨B.fns,B.con,B.tab,B.bin,B.pw⟩ hb
def kT(T:eF K mg d)(B:BaseOk P w K mg base cl n Γ)(Af:d7 d.N d.ps (kQ d.st)=Ã:=by kernel_rfl)(Ec:↥(d.ps.length=np))(Ah:↥(d.N.length-np=ns))(hb:cB (Γ.at d) (ve d.st)=À b:=by kernel_rfl):FnAt P w K mg base cl (n+1) d.x (gc (kS np ns b)):=by
 obtain⟨a,fd,T⟩:=T;exact⟨a,fd,d.ps,ZX T B Af Ec Ah hb,T.m,T.F.kp,T.B⟩
def kz(T:eF K mg d):FnAt P w K mg base cl 0 d.x λ_ _=>Á:=by
 obtain⟨a,fd,T⟩:=T;have no:∀vs H Q E,¬cf K cl (λ_ _=>Á) vs H Q E:=λvs H Q E ⟨μ,h,ws,w,h2,R,rs,e,k⟩=>by cases e
 exact⟨a,fd,d.ps,⟨λvs H Q E h=>absurd h (no vs H Q E),λA outer s H args us vs Q E _ _ _ _ h=>absurd h (no vs H Q E)⟩,T.m,T.F.kp,T.B⟩
end
end ML
namespace ML
open PySem PySem.Spec PyProof.Rows PySem.W L2
noncomputable def Kw(h:Ò):Sb:=(Ô h.objs.size).filterMap λa=>(h.get? a).map λo=>(a,o)
theorem Kw.lookupAux(h:Ò)(a:È):∀l:List Nat,(l.filterMap λa=>(h.get? a).map λo=>(a,o)).lookup a=if a∈l then h.get? a else Á
 | []=>by simp
 | b::l=>by
  cases q:h.get? b with
  | none=>
   rw[qM (by rw[q];rfl),Kw.lookupAux h a l];by_cases e:a=b
   .subst e;simp[q]
   .simp[e]
  | some o=>
   rw[jP (b:=(b,o)) (by rw[q];rfl),qd];by_cases e:a=b
   .subst e;simp[q]
   .have:(a==b)=Â:=by simp[e]
    rw[this];simp only[];rw[Kw.lookupAux h a l];simp[e]
theorem Kw.lookup{h:Ò}:(Kw h).lookup a=h.get? a:=by
 unfold Kw;rw[Kw.lookupAux];split
 .rfl
 .rename_i n
  cases q:h.get? a with
  | none=>rfl
  | some o=>exact absurd (ju.mpr (zM q)) n
def Kw.in(h:Ò):(Kw h).In h:=λa o e=>Kw.lookup▸e
def VZ{l:PySem.W.OpenLaw}{n k:Nat}{q:Í}{loose:List Æ}{XP:(Æ->Option Ä)->Ò->Prop}{YP:Ñ->Ò->Prop}{d:DefRec}{CX:fT}{sp:Ñ->Sb->Sp}{x:Æ}
  (hn:l.most=À n) (GT:n<=sizeLine) (HK:d.params.defaults=[]) (hr:Room k Ŗ)
  (F:∀(w:Ñ) (s₀:Å) (mg mb:Æ->Option Ä) (fa:È) (h:Ò),Ground q loose [] XP w s₀ mg mb h->YP w h->mg d.name=À (.ref fa)->
   ∃fd:ą,(∀(s:Å) (u:Ä),BindsTo s fd ⟨[u],[]⟩ [(x,u)]) /\
    ∀base:Ò,(Kw h).In base->base.Ns Ü mg->FnOk l.prog w (Kw h) mg base CX k fa fd [x] (sp w (Kw h)))
  (Dx:∀(w:Ñ) (K:Sb) (H:Hp) (a:È) (ns:List Int),ns.length<=n->Only H->SqL K H a (ns.map V.int)->sp w K [.ref a] H (λv _=>v=.bl Ã) λ_ _ _=>False)
  (Lo:∀(H:Hp) (s:Å) (e:Ä) (s':Å),CX [] H s (λ_ _ _=>False) e s'->False) :
  PySem.W.WalkO q loose XP YP l.row.toRowW d [] (λf vs=>PySem.call f vs):=by
 refine Att.attach_call hn HK λw s₀ d4 mg mb fa o pm cd doc a vs ns G Y ho hd A4 HL Ar Ea d6 hg=>?_
 obtain⟨fd,hb,hF⟩:=F w s₀ mg mb fa _ G Y HL;exact WD (Kw.in _) G.T.g G.T.b G.T.builtins G.T.nolimit hg Ar Ea (zz d6 GT) hr hF hb (λH hO hS=>Dx w _ H a ns d6 hO hS) λH e s'=>Lo H d4 e s'
def sv{q:Í}{R:WRecords}(G:Ground q loose R XP w s₀ mg mb h){d:Def}
  (hd:(defOf q d.x).map (λp=>(p.1.name,p.1.params,p.1.body,p.1.scope,p.2))=À (d.x,xB d.st,ve d.st,kQ d.st,[])) (hb:sV d.x d.st d.ps) (hf:(xB d.st).defaults=[]):eF (Kw h) mg d:=by
 obtain⟨⟨⟨n,p,b,sc,ps⟩,kw⟩,hq,e⟩:=zq.mp hd;cases e;obtain⟨a,o,pm,cd,doc,dV,kV,m,ho,PZ,hc,D⟩:=G.fn hq;obtain rfl:dV=.none:=Dflts.none D hf;obtain rfl:kV=.none:=Dflts.noKw D;have lk:(Kw h).lookup a=À ⟨o.cls,o.dict,.func (ĉ d.x d.x (xB d.st) (ve d.st) (kQ d.st) .none .none doc pm Á cd .none),o.slots⟩:=by
  rw[Kw.lookup,ho];cases o;cases PZ;rfl
 have c:Ħ (Kw h) cd d.x=Ã:=by
  obtain⟨c,o',vs,t,rfl,e1,e2,e3⟩:=hc;unfold Ħ;erw[Kw.lookup,e1];cases o';cases e2;simp only[];obtain⟨vs⟩:=vs;match vs,e3 with
  | [],e3=>cases e3
  | [_],e3=>cases e3
  | _::v::r,e3=>
   have e4:À v=À (ĕ d.x t):=by simpa using e3
   cases e4;simp
 have k:ì (Kw h) (.ref a)=Ã:=by
  unfold ì;erw[lk]
 have F:=Ck (st:=d.st) lk c k;exact⟨a,_,F,F.binds (λkV doc pm an mN ct us hl=>hb us hl kV doc pm an mN ct),m⟩
noncomputable def YC:Nat->Cn->W
 | 0,_=>.non
 | n+1,c=>match c with
  | .int i=>.int i
  | .str x=>.str x
  | .tup l=>.tup (l.map (YC n))
noncomputable def toT(l:List (Æ×Cn)):List (Æ×W):=l.map λp=>(p.1,YC 9 p.2)
def V2{h:Ò}(e:oJ h v=À its):∃a o n,v=.ref a/\h.get? a=À o/\(o.cls=.type "tuple" /\ o.dict=Á)/\o.data=.seq its n:=by
 cases v with
 | ref a=>
  obtain⟨⟨c,di,d,sl⟩,e1,e2⟩:=zH.mp e;cases c with
  | type t=>
   have e3:(if t="tuple" then (match d with | .seq its _=>if di.isNone then À its else Á | _=>Á) else Á)=À its:=e2;by_cases q:t="tuple"
   .rw[zW q] at e3
    cases d with
    | seq its' n=>
     have e4:(if di.isNone then À its' else Á)=À its:=e3;by_cases q2:di.isNone=Ã
     .rw[zW q2] at e4
      cases e4;exact⟨a,_,n,rfl,e1,⟨by rw[q],wK.mp q2⟩,rfl⟩
     .rw[kh q2] at e4;cases e4
    | _=>cases e3
   .rw[kh q] at e3;cases e3
  | _=>cases e2
 | _=>cases e
def Bp{K:Sb}{p:Cn->Ä->Bool}(hp:∀w v,p w v=Ã->KW K (f w) v)(l:List Cn):∀vs:List Ä,eV p l vs=Ã->KWs K (l.map f) vs:=by
 induction l with
 | nil=>intro vs h;cases vs with | nil=>exact .nil | cons _ _=>cases h
 | cons w l ih=>
  intro vs h;cases vs with
  | nil=>cases h
  | cons v vs=>have h2:=jm.mp h;exact .cons (hp _ _ h2.1) (ih vs h2.2)
def nC{h:Ò}{K:Sb}(hK:∀b o,h.get? b=À o->K.lookup b=À o)(n:Nat):∀w v,eY h n w v=Ã->KW K (YC n w) v:=by
 induction n with
 | zero=>intro w v e;cases e
 | succ n ih=>
  intro w v e;cases w with
  | int i=>cases v with
   | int j t=>cases eq_of_beq (show(i==j)=Ã from e);exact .int
   | _=>cases e
  | str x=>cases v with
   | str j t=>cases eq_of_beq (show(x==j)=Ã from e);exact .str
   | _=>cases e
  | tup l=>
   have e1:((oJ h v).any λits=>decide (its.size<=sizeLine)&&eV (eY h n) l its.toList)=Ã:=e;cases z:oJ h v with
   | none=>rw[z] at e1;cases e1
   | some its=>
    rw[z] at e1;obtain⟨a,o,m,rfl,e4,e5,e6⟩:=V2 z;have e7:=jm.mp e1;exact .tup (hK _ _ e4) e5 e6 (jD e7.1) (Bp ih _ _ e7.2)
def Ql{h:Ò}(e:dictAt h v=À es):∃a n,v=.ref a/\h.get? a=À ⟨.type "dict",Á,.dict es n,#[]⟩/\(a==ã)=Â:=by
 cases v with
 | ref a=>
  obtain⟨⟨c,di,d,sl⟩,e1,e2⟩:=zH.mp e;cases c with
  | type t=>
   have e3:(if t="dict" then (match d with | .dict es _=>if di.isNone&&sl.isEmpty&&a != ã then À es else Á | _=>Á) else Á)=À es:=e2;by_cases q:t="dict"
   .rw[zW q] at e3
    cases d with
    | dict es' n=>
     have e4:(if di.isNone&&sl.isEmpty&&a != ã then À es' else Á)=À es:=e3;by_cases z:(di.isNone&&sl.isEmpty&&a != ã)=Ã
     .rw[zW z] at e4
      cases e4;have z1:=jm.mp z;have z2:=jm.mp z1.1;refine⟨a,n,rfl,?_,?_⟩
      .rw[e1,q,wK.mp z2.1,Array.isEmpty_iff.mp z2.2]
      .have:=z1.2;rw[bne,jZ] at this;exact this
     .rw[kh z] at e4;cases e4
    | _=>cases e3
   .rw[kh q] at e3;cases e3
  | _=>cases e2
 | _=>cases e
def tab_of{h:Ò}{K:Sb}(hK:∀b o,h.get? b=À o->K.lookup b=À o)(l:List (Æ×Cn)):∀es:List ā,eV (λp (e:ā)=>CU p.1 e.key&&eY h 9 p.2 e.val) l es=Ã->es.map (·.hash)=l.map (λp=>š P p.1)->TabRel K (toT l) es/\ś P es:=by
 induction l with
 | nil=>intro es a b;cases es with | nil=>exact⟨.nil,trivial⟩ | cons _ _=>cases a
 | cons p l ih=>
  intro es a b;cases es with
  | nil=>cases a
  | cons e es=>
   have a1:=jm.mp a;have a2:=jm.mp a1.1;have b1:=uO b;obtain⟨r,t⟩:=ih es a1.2 b1.2;obtain⟨eh,ek,ev⟩:=e;cases ek with
   | str y t'=>
    have q:=eq_of_beq (show(p.1==y)=Ã from a2.1);subst q;exact⟨.cons (hs:=0) (v:=.none) rfl (nC hK _ _ _ a2.2) r,⟨_,_,rfl,b1.1⟩,t⟩
   | _=>cases a2.1
def Ua{h h₀:Ò}(G:h.Ns Ü mg)(k:∀b o,h₀.get? b=À o->h.get? b=À o)(hn:h₀.isNs Ü=Ã)(x:Æ):mg x=h₀.nsMap Ü x:=by
 obtain⟨o,es,ep,e1,e2,e3,e4⟩:=Heap.Ns.of_isNs hn;obtain⟨o',es',Hx,f1,f2,f3,f4⟩:=G;have:=k _ _ e1;rw[f1] at this;cases this;rw[e2] at f2;cases f2;rw[<-f4 x,<-e4 x]
theorem pQ{α β:Type}{P:Æ->α->Prop}(f:β->α):∀{l:List (Æ×β)},(∀p∈l,P p.1 (f p.2))->AllOf P (l.map λp=>(p.1,f p.2))
 | [],_=>trivial
 | (x,g)::r,h=>⟨h (x,g) (zr ..),pQ f λp m=>h p (zm _ m)⟩
theorem none_of:∀{l:List Æ},(∀x∈l,mg x=Á)->AllNone mg l
 | [],_=>trivial
 | x::r,h=>⟨h x (zr ..),none_of λp m=>h p (zm _ m)⟩
def Dq{cons:List (Æ×Cn)}{tabs:List (Æ×List (Æ×Cn))}{bins:List Æ}{w:Ñ}{h:Ò}(Y:(Jt cons tabs bins).says w h)(G:h.Ns Ü mg) :
  AllOf (Glob (Kw h) mg) (toT cons)/\AllOf (TabOk (Kw h) w.params mg) (tabs.map λp=>(p.1,toT p.2))/\AllNone mg bins:=by
 obtain⟨h₀,k,b,t⟩:=Y;have hK:∀b o,h₀.get? b=À o->(Kw h).lookup b=À o:=λb o e=>by rw[Kw.lookup];exact k _ _ e
 unfold VD at b;erw[zy,zZ] at b;obtain⟨⟨b1,b2⟩,b3⟩:=b;have M:=Ua G k b1;refine⟨pQ (YC 9) λp m=>?_,pQ toT λp m=>?_,none_of λx m=>?_⟩
 .have e:=b2 p m
  cases q:h₀.nsMap Ü p.1 with
  | none=>rw[q] at e;cases e
  | some v=>rw[q] at e;exact(nC hK _ _ _ e).glob ((M _).trans q)
 .have e:Wo h₀ p.2 (h₀.nsMap Ü p.1)=(Ã,p.2.map λk=>š w.params k.1):=by
   unfold VJ K6 at t;exact(List.map_inj_left.mp t) p m
  unfold Wo at e;cases q:h₀.nsMap Ü p.1 with
  | none=>rw[q] at e;cases e
  | some v=>
   rw[q] at e;cases z:dictAt h₀ v with
   | none=>rw[jM,z] at e;cases e
   | some es=>
    rw[jM,z] at e;have e2:=Prod.mk.inj e;obtain⟨a,n,rfl,g,f⟩:=Ql z;obtain⟨r,kl⟩:=tab_of hK (P:=w.params) p.2 es.toList e2.1 e2.2;exact⟨a,es,n,(M _).trans q,hK _ _ g,kl,f,r⟩
 .have:=b3 x m
  rw[M];exact wK.mp this
def walk_lawE{l:PySem.W.OpenLaw}{q:Í}{d:DefRec}{D:Def}{Γ:RC}{ns:Nat}{cons:List (Æ×Cn)}{tabs:List (Æ×List (Æ×Cn))}(hc:toT cons=Γ.con)(ht:(tabs.map λp=>(p.1,toT p.2))=Γ.tab)(hn:l.most=À 63)(HK:d.params.defaults=[])
  (hr:Room (room+1) Ŗ) (hx:D.x=d.name) (Ml:D.ps=[y]) (hb:sV D.x D.st D.ps) (Af:d7 D.N D.ps (kQ D.st)=Ã) (Ah:D.N.length-1=ns) (hB:cB (Γ.at D) (ve D.st)=À b) (hg:g=gc (kS 1 ns b))
  (main:∀ns:List Int,ns.length<=63->∃h',g [.fls (ns.map W.int)] []=À (.bl Ã,h'))
  (lvl:∀(w:Ñ) (K:Sb) (mg:Æ->Option Ä) (base:Ò),pU (eF K mg) ds->AllOf (Glob K mg) Γ.con->AllOf (TabOk K w.params mg) Γ.tab->AllNone mg Γ.bin->BaseOk l.prog w K mg base ⟨λ_=>0,l.prog,w⟩ room Γ)
  (F:∀(w:Ñ) (s₀:Å) (mg mb:Æ->Option Ä) (h:Ò),Ground q loose [] XP w s₀ mg mb h->eF (Kw h) mg D/\pU (eF (Kw h) mg) ds):PySem.W.WalkO q loose XP (Jt cons tabs Γ.bin).says l.row.toRowW d [] (λf vs=>PySem.call f vs):=by
 refine VZ (n:=63) (k:=room+1) (x:=y) (CX:=dH) (sp:=λw=>FG l.prog w g) hn (by decide) HK hr (λw s₀ mg mb fa h G Y HL=>?_) (λw K H a ns hl _ hS=>Cd main K H a ns hl hS) λ_ _ _ _ z=>z
 obtain⟨⟨a,fd,T⟩,h1⟩:=F w s₀ mg mb h G;obtain⟨h2,h3,h4⟩:=Dq Y G.T.g;rw[hc] at h2;rw[ht] at h3;have e:=T.m.symm.trans (hx▸HL);cases e;refine⟨fd,?_,λbase _ _=>?_⟩
 .have hb2:=λkV doc pm an mN ct us hl=>hb us hl kV doc pm an mN ct
  rw[Ml] at hb2;exact rY T.F hb2
 .have:=ZX T (lvl w _ mg base h1 h2 h3 h4) Af (np:=1) (by rw[Ml];rfl) Ah hB
  rw[Ml] at this;subst hg;exact this
end ML
namespace ML
open PySem L2
noncomputable def dt:Nat->W->Bool
 | 0,_=>Â
 | _+1,.non=>Ã
 | _+1,.bl _=>Ã
 | _+1,.int _=>Ã
 | _+1,.str x=>è x&&decide (x.length<=1000)
 | n+1,.tup l=>decide (l.length<=1000)&&l.all (dt n)
 | n+1,.fls l=>decide (l.length<=1000)&&l.all (dt n)
 | _+1,.ref _=>Â
 | _+1,.fdc _=>Â
 | _+1,.fn _=>Â
noncomputable def toD:Nat->W->PyData
 | 0,_=>.none
 | _+1,.non=>.none
 | _+1,.bl b=>.bool b
 | _+1,.int i=>.int i
 | _+1,.str x=>.str x
 | n+1,.tup l=>.tuple (l.map (toD n))
 | n+1,.fls l=>.list (l.map (toD n))
 | _+1,_=>.none
theorem qr:∀{l:List W},(∀w∈l,low m w=Ã)->lows m l=Ã
 | [],_=>by unfold lows;rfl
 | w::r,h=>by
  unfold lows;rw[h w zr,qr λw hw=>h w (zm _ hw)];rfl
theorem vE:∀{n:Nat} {w:W},dt n w=Ã->low m w=Ã
 | 0,_,h=>by cases h
 | n+1,.non,_=>by unfold low;rfl
 | n+1,.bl _,_=>by unfold low;rfl
 | n+1,.int _,_=>by unfold low;rfl
 | n+1,.str _,_=>by unfold low;rfl
 | n+1,.tup l,h=>by
  unfold dt at h;rw[zy] at h;unfold low;exact qr λw hw=>vE (zZ.mp h.2 w hw)
 | n+1,.fls l,h=>by
  unfold dt at h;rw[zy] at h;unfold low;exact qr λw hw=>vE (zZ.mp h.2 w hw)
 | n+1,.ref _,h=>by cases h
 | n+1,.fdc _,h=>by cases h
 | n+1,.fn _,h=>by cases h
theorem vi:∀{n m:Nat} {w:W},dt n w=Ã->n<=m->dt m w=Ã
 | 0,_,_,h,_=>by cases h
 | n+1,0,_,_,h=>by omega
 | n+1,m+1,.non,_,_=>rfl
 | n+1,m+1,.bl _,_,_=>rfl
 | n+1,m+1,.int _,_,_=>rfl
 | n+1,m+1,.str _,h,_=>h
 | n+1,m+1,.tup l,h,hn=>by
  unfold dt at h ⊢;rw[zy] at h ⊢;exact⟨h.1,zZ.mpr λw hw=>vi (zZ.mp h.2 w hw) ∅⟩
 | n+1,m+1,.fls l,h,hn=>by
  unfold dt at h ⊢;rw[zy] at h ⊢;exact⟨h.1,zZ.mpr λw hw=>vi (zZ.mp h.2 w hw) ∅⟩
 | n+1,m+1,.ref _,h,_=>by cases h
 | n+1,m+1,.fdc _,h,_=>by cases h
 | n+1,m+1,.fn _,h,_=>by cases h
theorem mM{α β:Type}{f:α->Option β}{g:α->β}:∀{l:List α},(∀x∈l,f x=À (g x))->qk f l=À (l.map g)
 | [],_=>rfl
 | x::r,h=>by
  unfold qk;rw[h x zr,mM λy hy=>h y (zm _ hy)];rfl
theorem yi:∀{n m:Nat} {w:W},dt n w=Ã->n<=m->kD m h w=À (toD n w)
 | 0,_,_,e,_=>by cases e
 | n+1,0,_,_,hn=>by omega
 | n+1,m+1,.non,_,_=>rfl
 | n+1,m+1,.bl _,_,_=>rfl
 | n+1,m+1,.int _,_,_=>rfl
 | n+1,m+1,.str x,e,_=>by
  unfold dt at e;rw[zy] at e;unfold kD;rw[zW e.1];rfl
 | n+1,m+1,.tup l,e,hn=>by
  unfold dt at e;rw[zy] at e;unfold kD;rw[mM λw hw=>yi (zZ.mp e.2 w hw) ∅];rfl
 | n+1,m+1,.fls l,e,hn=>by
  unfold dt at e;rw[zy] at e;unfold kD;rw[mM λw hw=>yi (zZ.mp e.2 w hw) ∅];rfl
 | n+1,m+1,.ref _,e,_=>by cases e
 | n+1,m+1,.fdc _,e,_=>by cases e
 | n+1,m+1,.fn _,e,_=>by cases e
def xk(e:f ws h=À (w,h))(d:dt n w=Ã):gc f ws h=À (w,h):=qh e (vE d) (jf _)
def CH(e:f ws h=À (w,h++t))(d:dt n w=Ã):gc f ws h=À (w,h):=qh e (vE d) (jH _ _)
noncomputable def tyB(T:Ty):W->Bool
 | .bl _=>decide (T=.bool)||decide (T=.int)
 | .int _=>decide (T=.int)
 | .str _=>decide (T=.str)
 | .tup _=>decide (T=.tuple)
 | .fls _=>decide (T=.list)
 | _=>Â
theorem rJ(d:dt n w=Ã):isW T w h=À (.bl (tyB T w),h):=by
 cases n with
 | zero=>cases d
 | succ n=>
  unfold isW tj tyB;cases w with
  | ref _=>cases d
  | fdc _=>cases d
  | fn _=>cases d
  | non=>rfl
  | bl b=>erw[ik];cases T<;>rfl
  | int b=>erw[ik];cases T<;>rfl
  | str b=>erw[ik];cases T<;>rfl
  | tup b=>erw[ik];cases T<;>rfl
  | fls b=>erw[ik];cases T<;>rfl
theorem kr(h:MH)(x y:Æ):eqB h (.str x) (.str y)=À (x==y):=rfl
theorem vj(h:MH)(x y:Int):eqB h (.int x) (.int y)=À (x==y):=rfl
theorem sT(h:MH)(x y:Bool):eqB h (.bl x) (.bl y)=À (x==y):=rfl
noncomputable def my:W->Bool
 | .tup []=>Ã
 | _=>Â
def Zs(d:dt n w=Ã)(hn:n<=60)(dl:dt m (.tup l)=Ã)(hm:m<=60):eqB h w (.tup l)=À (ä (toD n w) (toD m (.tup l))):=by
 have e1:=yi (h:=h) d (show n<=deep from hn);have e2:=yi (h:=h) dl (show m<=deep from hm);unfold eqB;have:ip w (.tup l)=Á:=by unfold ip;cases w<;>rfl
 rw[this,e1,e2]
def ZW(d:dt n w=Ã)(hn:n<=60):eqB h w (.tup [])=À (my w):=by
 rw[Zs d hn (m:=1) (by rfl) ∅];cases n with
 | zero=>cases d
 | succ n=>
  cases w with
  | ref _=>cases d
  | fdc _=>cases d
  | fn _=>cases d
  | tup l=>cases l<;>simp[toD,ä,á,my]
  | _=>simp[toD,ä,my]
noncomputable def zS(l:List Æ):W->Bool
 | .str x=>l.any (· == x)
 | _=>Â
noncomputable def zk(l:List Æ):List W:=l.map .str
def sG{l:List Æ}(d:dt n w=Ã)(hn:n<=60)(hl:l.all è=Ã)(hy:qV h y=À (zk l))(Ah:∀z,y≠.str z):inB h w y=À (zS l w):=by
 have e1:=yi (h:=h) d (show n<=deep from hn);have e2:qk (kD deep h) (zk l)=À (l.map .str):=by
  unfold zk;have:∀l:List Æ,l.all è=Ã->qk (kD deep h) (l.map .str)=À (l.map PyData.str):=by
   intro l;induction l with
   | nil=>intro _;rfl
   | cons x r ih=>
    intro hl;rw[jG,zy] at hl;erw[zu];unfold qk;have:kD deep h (.str x)=À (.str x):=by
     show kD (59+1) h (.str x)=_
     unfold kD;rw[zW hl.1]
    rw[this,ih hl.2]
  exact this l hl
 have e3:inB h w y=match qV h y with
  | some l=>match kD deep h w,qk (kD deep h) l with
   | some d,À ds=>À (ds.any λe=>ä e d)
   | _,_=>Á
  | none=>Á:=by
  unfold inB;split
  .rename_i j
   exact absurd rfl (Ah _)
  .rfl
 rw[e3,hy];erw[e1,e2];congr 1
 cases n with
 | zero=>cases d
 | succ n=>
  rw[xP];cases w with
  | ref _=>cases d
  | fdc _=>cases d
  | fn _=>cases d
  | str x=>
   unfold zS;congr 1
  | _=>simp[toD,ä,zS]
def dJ{l:List Æ}(d:dt n w=Ã)(hn:n<=60)(hl:l.all è=Ã):inB h w (.tup (zk l))=À (zS l w):=sG d hn hl rfl (λz=>nofun)
def Wu{l:List Æ}(d:dt n w=Ã)(hn:n<=60)(hl:l.all è=Ã):inB h w (.fls (zk l))=À (zS l w):=sG d hn hl rfl (λz=>nofun)
theorem fy{h:MH}(hn:h.length=n0)(p:W->Bool)(f:W->W):∀(l:List W) (acc:List W) (o:Option W),
  (∀w∈l,∀H',t (À w::caps) H'=À (p w,H'))->(∀w∈l,p w=Ã->∀H',m (À w::caps) H'=À (f w,H'))->acc.length+l.length<=cap->
  y0 1 (zl 0) t m n0 l (o::caps) (h++[.lst acc])=À (h++[.lst (acc++(l.filter p).map f)])
 | [],acc,o,_,_,_=>by simp[y0]
 | w::l,acc,o,ht,hf,hl=>by
  have ih:=λEw=>fy (caps:=caps) (t:=t) (m:=m) hn p f l Ew Á (λw hw=>ht w (zm _ hw)) (λw hw=>hf w (zm _ hw))
  have hb:blank 1 (À w::caps)=Á::caps:=by simp[blank]
  unfold y0;have hg:zl 0 w (o::caps) (h++[.lst acc])=À (À w::caps,h++[.lst acc]):=by simp[zl]
  rw[hg];simp only;rw[ht w zr];erw[zE] at hl;cases hp:p w with
  | false=>
   simp only;rw[hb,ih acc ∅];simp[jB,hp]
  | true=>
   simp only;rw[hf w zr hp];have e1:(h++[MO.lst acc])[n0]?=À (.lst acc):=by rw[<-hn];simp
   have e2:(h++[MO.lst acc]).set n0 (.lst (acc++[f w]))=h++[.lst (acc++[f w])]:=by rw[<-hn,qG _ _ (zG _)];simp
   erw[e1];rw[zW ∅,hb,e2,ih (acc++[f w]) (by rw[zL];simp;omega)];simp[jB,hp]
def xh{ks:List Nat}{ρ:En}{h:MH}{l:List W}(p:W->Bool)(f:W->W)(hm:mi ρ h=À (.items l,h))(ht:∀w∈l,∀H',t (À w::ks.map λk=>(ρ[k]?).join) H'=À (p w,H'))
  (hf:∀w∈l,p w=Ã->∀H',m (À w::ks.map λk=>(ρ[k]?).join) H'=À (f w,H')) (Ex:∀w∈l,p w=Ã->low h.length (f w)=Ã) (hl:l.length<=cap):kq mi 1 ks (zl 0) t m ρ h=À (.fls ((l.filter p).map f),h):=by
 have e:=fy (caps:=ks.map λk=>(ρ[k]?).join) (t:=t) (m:=m) (h:=h) rfl p f l [] Á ht hf (by simpa using hl);unfold kq dn;rw[hm];have er:(Ç 1 (Á:Option W)++ks.map λk=>(ρ[k]?).join)=Á::ks.map λk=>(ρ[k]?).join:=rfl
 simp only;rw[er,e];erw[kJ,kZ (zG _),uY,ye];rw[zW];refine⟨jH _ _,qr λw hw=>?_⟩;obtain⟨w',h1,rfl⟩:=zp.mp hw;obtain⟨h2,h3⟩:=zV.mp h1;exact Ex w' h2 h3
theorem iz{h:MH}(hn:h.length=n0)(p:W->W->Bool)(f:W->W->W):∀(l:List (W×W)) (acc:List W) (o1 o2:Option W),
  (∀w∈l,∀H',t (À w.1::À w.2::caps) H'=À (p w.1 w.2,H'))->(∀w∈l,p w.1 w.2=Ã->∀H',m (À w.1::À w.2::caps) H'=À (f w.1 w.2,H'))->acc.length+l.length<=cap->
  y0 2 (vF [zl 0,zl 1]) t m n0 (l.map λw=>.tup [w.1,w.2]) (o1::o2::caps) (h++[.lst acc])=À (h++[.lst (acc++(l.filter λw=>p w.1 w.2).map λw=>f w.1 w.2)])
 | [],acc,_,_,_,_,_=>by simp[y0]
 | (a,b)::l,acc,o1,o2,ht,hf,hl=>by
  have ih:=λEw=>iz (caps:=caps) (t:=t) (m:=m) hn p f l Ew Á Á (λw hw=>ht w (zm _ hw)) (λw hw=>hf w (zm _ hw))
  have hb:blank 2 (À a::À b::caps)=Á::Á::caps:=by simp[blank,Ç]
  erw[zu];unfold y0;have hg:vF [zl 0,zl 1] (.tup [a,b]) (o1::o2::caps) (h++[.lst acc])=À (À a::À b::caps,h++[.lst acc]):=by simp[vF,dZ,bnd,zl]
  rw[hg];simp only;rw[ht (a,b) zr];erw[zE] at hl;cases hp:p a b with
  | false=>
   simp only;rw[hb,ih acc ∅];simp[jB,hp]
  | true=>
   simp only;rw[hf (a,b) zr hp];have e1:(h++[MO.lst acc])[n0]?=À (.lst acc):=by rw[<-hn];simp
   have e2:(h++[MO.lst acc]).set n0 (.lst (acc++[f a b]))=h++[.lst (acc++[f a b])]:=by rw[<-hn,qG _ _ (zG _)];simp
   erw[e1];rw[zW ∅,hb,e2,ih (acc++[f a b]) (by rw[zL];simp;omega)];simp[jB,hp]
def Fc{ks:List Nat}{ρ:En}{h:MH}{l:List (W×W)}(p:W->W->Bool)(f:W->W->W)(hm:mi ρ h=À (.items (l.map λw=>.tup [w.1,w.2]),h))(ht:∀w∈l,∀H',t (À w.1::À w.2::ks.map λk=>(ρ[k]?).join) H'=À (p w.1 w.2,H'))
  (hf:∀w∈l,p w.1 w.2=Ã->∀H',m (À w.1::À w.2::ks.map λk=>(ρ[k]?).join) H'=À (f w.1 w.2,H')) (Ex:∀w∈l,p w.1 w.2=Ã->low h.length (f w.1 w.2)=Ã) (hl:l.length<=cap):kq mi 2 ks (vF [zl 0,zl 1]) t m ρ h=À (.fls ((l.filter λw=>p w.1 w.2).map λw=>f w.1 w.2),h):=by
 have e:=iz (caps:=ks.map λk=>(ρ[k]?).join) (t:=t) (m:=m) (h:=h) rfl p f l [] Á Á ht hf (by simpa using hl);unfold kq dn;rw[hm];have er:(Ç 2 (Á:Option W)++ks.map λk=>(ρ[k]?).join)=Á::Á::ks.map λk=>(ρ[k]?).join:=rfl
 simp only;rw[er,e];erw[kJ,kZ (zG _),uY,ye];rw[zW];refine⟨jH _ _,qr λw hw=>?_⟩;obtain⟨w',h1,rfl⟩:=zp.mp hw;obtain⟨h2,h3⟩:=zV.mp h1;exact Ex w' h2 h3
end ML
namespace K40
open PySem PySem.Spec PyProof.Rows L2 ML
def top(i:Nat):Č:=PySem.Challenge.pw_shelfwork_k40_clashes.main.body.getD i (.Pass ⟨0,0,0,0⟩)
def t_FORMS:List (Æ×W):=[("number",(.tup [.int 2,.int 2])),("name",(.tup [.int 2,.int 2])),("read",(.tup [.int 2,.int 2])),("write",(.tup [.int 3,.int 2])),("add",(.tup [.int 3,.int 1])),("less",(.tup [.int 3,.int 1])),("then",(.tup [.int 3,.int 1])),("if",(.tup [.int 4,.int 1])),("loop",(.tup [.int 3,.int 1])),("let",(.tup [.int 4,.int 2])),("own",(.tup [.int 4,.int 2])),("say",(.tup [.int 2,.int 1])),("ask",(.tup [.int 1,.int 1])),("do",(.tup [.int 2,.int 2])),("call",(.tup [.int 4,.int 2]))]
set_option genInjectivity false in
structure Fs where
 (bO aB aH aK bA aC bh aD aO aX au bD bC aG aJ aQ bF aa bQ az bN aN aj aV aq aW cA:List W->M W)
noncomputable def bG(F:Fs):MS:=(zo (kM (zD (zh (kf Â) (zh zt (zd 0) (OJ 0)) (OZ "call")))
 (ke (zh addW (zh zt (zd 0) (OJ 2)) (zh zt (zd 0) (OJ 3))))
 ko)
 (ke (yT (zd 0) (À (zh zt (vw (fb t_FORMS) (zh zt (zd 0) (OJ 0))) (OJ 1))) Á)))
noncomputable def ak(F:Fs):MS:=(zo (kM (zD (zh (vk Â) (zh zt (zd 1) (OJ 0)) (ze zv [OZ "read",OZ "write",OZ "do"])))
 (ke (ze kx [ze zv [zh zt (zd 1) (OJ 0),zh zt (zd 1) (OJ 1)]]))
 ko)
 (zo (kM (zD (zh (vk Â) (zh zt (zd 1) (OJ 0)) (ze zv [OZ "say",OZ "ask"])))
 (ke (ze kx [ze zv [zh zt (zd 1) (OJ 0)]]))
 ko)
 (zo (kM (zD (zh (kf Â) (zh zt (zd 1) (OJ 0)) (OZ "call")))
 (ke (kq (kc (zh zt (zd 0) (zh zt (zd 1) (OJ 1)))) 1 [] (zl 0) (zD (zh (kf Ã) (zh zt (zd 0) (OJ 0)) (OZ "do"))) (zd 0)))
 ko)
 (ke (ze kx [])))))
noncomputable def aR(F:Fs):MS:=(zo (zC (zh zt (zh zt (zd 0) (zd 2)) (OJ 1)) (zl 4))
 (ke (ze c8 [kq (eT [zd 4,zd 3]) 2 [1,2] (vF [zl 0,zl 1]) (zD (zh (vk Â) (ze zv [OZ "do",zd 0]) (zh zt (zd 2) (zd 3)))) (zd 1)])))
noncomputable def aM(F:Fs):MS:=(zo (kM (zD (zh (kf Â) (zh zt (zd 2) (OJ 0)) (OZ "call")))
 (ke (zh addW (zh zt (zd 2) (OJ 2)) (ze F.aH [zd 0,zd 1,zh zt (zd 2) (OJ 1),zh zt (zd 2) (OJ 3)])))
 ko)
 (ke (ze F.bO [zd 2])))
noncomputable def aZ(F:Fs):MS:=(ke (Y5 (zD (zh (vk Â) (zd 1) (zd 0))) (zd 0) (zh addW (zd 0) (ze zv [zd 1]))))
noncomputable def aA(F:Fs):MS:=(zo (kM (zD (zh (kf Â) (zh zt (zd 2) (OJ 0)) (OZ "own")))
 (ke (ze kx [ze zv [zh zt (zd 2) (OJ 2),zd 3],ze zv [zh zt (zd 2) (OJ 3),ze F.bA [zd 3,zh zt (zd 2) (OJ 1)]]]))
 ko)
 (ke (kq (kc (ze F.aK [zd 0,zd 1,zd 2])) 1 [3] (zl 0) vn (ze zv [zd 0,zd 1]))))
noncomputable def zT:MT:=zD (zh ni (ze kL [zd 4]) (OJ 0))
noncomputable def Zi:MS:=(kM (zD (zh (vk Ã) (zh zt (zd 6) (vw fF (OJ 1))) (zh zt (zd 5) (OJ 1))))
 (zC (eC (.bl Ã)) (oO (zd 3) (zd 6)))
 ko)
noncomputable def zB(F:Fs):MS:=(zo (zC (kH iJ (zd 4) []) (zl 5))
 (zo (kK (kc (ze F.aB [zd 1,zh zt (zd 5) (OJ 0)])) (zl 6) Zi)
 (ya (kH vS (zd 4) [ze F.aC [zd 0,zd 1,zh zt (zd 5) (OJ 0),zh zt (zd 5) (OJ 1)]]))))
noncomputable def bJ(F:Fs):MS:=zo (zC ly (zl 3)) (zo (zC (ze yY [ze zv [zd 2,ze zv []]]) (zl 4)) (zo (cy zT (zB F)) (ke (ze xC [zd 3]))))
noncomputable def bB(F:Fs):MS:=(ya (kH j3 (zd 1) [ze F.bh [zd 0,zd 1,zh zt (zd 2) (OJ 2)]]))
noncomputable def aU(F:Fs):MS:=zo (zC (ze yY []) (zl 1)) (zo (kK (kc (zd 0)) (zl 2) (bB F)) (ke (zd 1)))
noncomputable def bT(F:Fs):MS:=(ke (ze F.bh [zd 0,ze F.aD [zd 0],zd 1]))
noncomputable def aF(F:Fs):MS:=(zo (kM (zD (zh (kf Â) (zh zt (zd 0) (OJ 0)) (OZ "write")))
 (ke (Yj (zh (vk Â) (ze zv [OZ "read",zh zt (zd 0) (OJ 1)]) (zd 1)) (zh (vk Â) (zd 0) (zd 1))))
 ko)
 (zo (kM (zD (zh (kf Â) (zh zt (zd 0) (OJ 0)) (OZ "read")))
 (ke (zh (vk Â) (ze zv [OZ "write",zh zt (zd 0) (OJ 1)]) (zd 1)))
 ko)
 (ke (x5 (zh (vk Â) (zh zt (zd 0) (OJ 0)) (ze zv [OZ "say",OZ "ask"])) (zh (vk Â) (zd 0) (zd 1))))))
noncomputable def bc(F:Fs):MS:=(ke (vw wa (kq (kc (zd 0)) 1 [1] (zl 0) (zD (ze F.aX [zd 0,zd 1])) (zh zt (zd 0) (vw fF (OJ 1))))))
noncomputable def b8(F:Fs):MS:=(ke (ze F.au [ze F.aO [zd 0,zd 1],ze F.aO [zd 0,zd 2]]))
noncomputable def bY(F:Fs):MS:=(ke (zh (kf Â) (ze kL [ze F.bD [zd 0,zd 1,zd 2]]) (OJ 0)))
noncomputable def bH(F:Fs):MS:=(zo (zC (kq (kc (zd 1)) 1 [0] (zl 0) vn (ze F.aO [zd 1,zd 0])) (zl 2))
 (zo (zC (ze yY []) (zl 3))
 (zo (kK (yb [ze kL [zd 2]]) (zl 4)
 (ya (kH vS (zd 3) [kq (yb [zd 4]) 1 [4,2] (zl 0) (zD (zh ni (ze kL [ze F.au [zh zt (zd 2) (zd 0),zh zt (zd 2) (zd 1)]]) (OJ 0))) (ze zv [zd 0,zd 1])])))
 (ke (ze xC [zd 3])))))
noncomputable def bM(F:Fs):MS:=(ke (zh (kf Â) (ze kL [ze F.aG [zd 0,zd 1]]) (OJ 0)))
noncomputable def bL(F:Fs):MS:=(zo (zC (ze F.aO [zd 0,zd 1]) (zl 2))
 (zo (kM (bq (zD (zh (vk Â) (ze zv [OZ "say"]) (zd 2))) (zD (zh (vk Â) (ze zv [OZ "ask"]) (zd 2))))
 (ke (eC (.bl Â)))
 ko)
 (ke (Ku (ze tv [kq (kc (zd 2)) 1 [2] (zl 0) vn (x5 (zh (kf Â) (zh zt (zd 0) (OJ 0)) (OZ "write")) (zh (vk Â) (ze zv [OZ "read",zh zt (zd 0) (OJ 1)]) (zd 1)))])))))
noncomputable def bK(F:Fs):MS:=(zo (kM (zD (zh (kf Â) (zd 0) (ze kx [])))
 (ke (zh ki (OJ 7) (zd 1)))
 ko)
 (ke (zh addW (zh zt (zd 0) (zh xc (zd 1) (ze kL [zd 0]))) (zh ki (OJ 6553) (zh aT (zd 1) (ze kL [zd 0]))))))
noncomputable def bz(F:Fs):MS:=(zo (zC (zh xc (zh addW (zh ki (zh xc (ze F.bF [zd 0,zd 1]) (OJ 2147483563)) (OJ 69069)) (zh ki (OJ 104723) (zh addW (zd 1) (OJ 1)))) (OJ 2147483563)) (zl 3))
 (zo (zC (zh xc (zh addW (zh ki (zd 3) (zd 3)) (zh aT (zd 3) (OJ 3))) (OJ 2147483399)) (zl 3))
 (ke (zh xc (zh aT (zh xc (zh addW (zh ki (zd 3) (zd 3)) (zh aT (zd 3) (OJ 7))) (OJ 2147483647)) (OJ 11)) (zd 2)))))
noncomputable def YI(F:Fs):MS:=(zC (zd 2) (vF [zl 3,zl 4,zl 5]))
noncomputable def YO(F:Fs):MS:=(zC (ze F.aa [zd 0,zd 1,OJ 8]) (zl 6))
noncomputable def Zq(F:Fs):MS:=(kM (zD (zh gH (zd 6) (OJ 2)))
 (ke (ze zv [OZ "number",zh zt (ze kx [OJ 0,OJ 1,OJ 2,OJ 3,OJ 7,OJ 1008]) (ze F.aa [zd 0,zh addW (zd 1) (OJ 1),OJ 6])]))
 ko)
noncomputable def oZ(F:Fs):MS:=(kM (vb (zD (zh (kf Â) (zd 6) (OJ 2))) (zD (zh (kf Ã) (zd 3) (ze zv []))))
 (ke (ze zv [OZ "name",zh zt (zd 3) (ze F.aa [zd 0,zh addW (zd 1) (OJ 1),ze kL [zd 3]])]))
 ko)
noncomputable def sf(F:Fs):MS:=(kM (vb (zD (zh (kf Â) (zd 6) (OJ 3))) (zD (zh (kf Ã) (zd 5) (ze zv []))))
 (ke (ze zv [OZ "do",zh zt (zd 5) (ze F.aa [zd 0,zh addW (zd 1) (OJ 1),ze kL [zd 5]])]))
 ko)
noncomputable def JQ(F:Fs):MS:=(kM (zD (zh (kf Â) (zd 6) (OJ 4)))
 (ke (ze zv [OZ "ask"]))
 ko)
noncomputable def Vd(F:Fs):MS:=(zC (zh addW (ze zv [OZ "a",OZ "b",OZ "c",OZ "d"]) (zh ki (zd 4) (OJ 3))) (zl 7))
noncomputable def Y4(F:Fs):MS:=(ke (ze zv [OZ "read",zh zt (zd 7) (ze F.aa [zd 0,zh addW (zd 1) (OJ 1),ze kL [zd 7]])]))
noncomputable def bf(F:Fs):MS:=zo (YI F) (zo (YO F) (zo (Zq F) (zo (oZ F) (zo (sf F) (zo (JQ F) (zo (Vd F) (Y4 F)))))))
noncomputable def Vb(F:Fs):MS:=(zC (ze F.aa [zd 0,zd 1,OJ 15]) (zl 5))
noncomputable def rK(F:Fs):MS:=(kM (bq (zD (zh (kf Â) (zd 2) (OJ 0))) (zD (zh gH (zd 5) (OJ 2))))
 (ke (ze F.bQ [zd 0,zh addW (zd 1) (OJ 1),zd 3]))
 ko)
noncomputable def nO(F:Fs):MS:=(kM (vb (zD (zh gH (zd 5) (OJ 4))) (zD (zh (kf Ã) (zd 4) (ze zv []))))
 (ke (ze F.bN [zd 0,zd 1,zd 2,zd 3,zd 4]))
 ko)
noncomputable def Kc(F:Fs):MS:=(zC (ze F.az [zd 0,zh addW (zh ki (zd 1) (OJ 3)) (OJ 7),zh y8 (zd 2) (OJ 1),zd 3,zd 4]) (zl 6))
noncomputable def tD(F:Fs):MS:=(kM (zD (zh gH (zd 5) (OJ 6)))
 (zo (zC (zh addW (ze zv [OZ "a",OZ "b",OZ "c",OZ "d"]) (zh ki (zh zt (zd 3) (OJ 1)) (OJ 3))) (zl 7))
 (ke (ze zv [OZ "write",zh zt (zd 7) (ze F.aa [zd 0,zh addW (zd 1) (OJ 3),ze kL [zd 7]]),zd 6])))
 ko)
noncomputable def ZP(F:Fs):MS:=(kM (zD (zh (kf Â) (zd 5) (OJ 6)))
 (ke (ze zv [OZ "say",zd 6]))
 ko)
noncomputable def ZG(F:Fs):MS:=(kM (zD (zh (kf Â) (zd 5) (OJ 7)))
 (zo (zC (zh zt (ze kx [OZ "x",OZ "y",OZ "x1"]) (ze F.aa [zd 0,zh addW (zd 1) (OJ 3),OJ 3])) (zl 8))
 (ke (ze zv [OZ "let",zd 8,zd 6,ze F.az [zd 0,zh addW (zh ki (zd 1) (OJ 3)) (OJ 23),zh y8 (zd 2) (OJ 1),zh addW (ze zv [zh addW (zh zt (zd 3) (OJ 0)) (ze zv [zd 8])]) (yT (zd 3) (À (OJ 1)) Á),zd 4]])))
 ko)
noncomputable def ZO(F:Fs):MS:=(kM (zD (zh (kf Â) (zd 5) (OJ 8)))
 (zo (zC (zh zt (ze kx [OZ "p",OZ "q"]) (ze F.aa [zd 0,zh addW (zd 1) (OJ 3),OJ 2])) (zl 8))
 (zo (zC (ze zv [zh zt (zd 3) (OJ 0),zh addW (zh zt (zd 3) (OJ 1)) (ze zv [zd 8]),zh zt (zd 3) (OJ 2)]) (zl 9))
 (ke (ze zv [OZ "own",zd 8,zd 6,ze F.az [zd 0,zh addW (zh ki (zd 1) (OJ 3)) (OJ 23),zh y8 (zd 2) (OJ 1),zd 9,zd 4]]))))
 ko)
noncomputable def pW(F:Fs):MS:=(zC (ze F.az [zd 0,zh addW (zh ki (zd 1) (OJ 3)) (OJ 41),zh y8 (zd 2) (OJ 1),zd 3,zd 4]) (zl 10))
noncomputable def sF(F:Fs):MS:=(kM (zD (zh (kf Â) (zd 5) (OJ 9)))
 (ke (ze zv [OZ "if",zd 6,zd 10,ze F.az [zd 0,zh addW (zh ki (zd 1) (OJ 3)) (OJ 61),zh y8 (zd 2) (OJ 1),zd 3,zd 4]]))
 ko)
noncomputable def iX(F:Fs):MS:=(ke (zh addW (zh zt (ze kx [ze zv [OZ "then"],ze zv [OZ "add"],ze zv [OZ "less"],ze zv [OZ "loop"],ze zv [OZ "then"]]) (zh y8 (zd 5) (OJ 10))) (ze zv [zd 6,zd 10])))
noncomputable def aL(F:Fs):MS:=zo (Vb F) (zo (rK F) (zo (nO F) (zo (Kc F) (zo (tD F) (zo (ZP F) (zo (ZG F) (zo (ZO F) (zo (pW F) (zo (sF F) (iX F))))))))))
noncomputable def Yh(F:Fs):MS:=(zC (ze F.aa [zd 0,zh addW (zd 1) (OJ 3),ze kL [zd 4]]) (zl 5))
noncomputable def Yk(F:Fs):MS:=(zC (ze kL [zh zt (zh zt (zd 4) (zd 5)) (OJ 0)]) (zl 6))
noncomputable def Yw(F:Fs):MS:=(zC (ze yY []) (zl 7))
noncomputable def YG(F:Fs):MS:=(kK (yb [zh addW (zd 6) (ze kL [zh zt (zh zt (zd 4) (zd 5)) (OJ 1)])]) (zl 8)
 (ya (kH j3 (zd 7) [ze F.az [zd 0,zh addW (zh addW (zh ki (zd 1) (OJ 3)) (OJ 7)) (zh ki (OJ 5) (zd 8)),zh y8 (zd 2) (OJ 1),zd 3,zd 4]])))
noncomputable def YB(F:Fs):MS:=(ke (ze zv [OZ "call",zd 5,ze c8 [yT (zd 7) Á (À (zd 6))],ze c8 [yT (zd 7) (À (zd 6)) Á]]))
noncomputable def bI(F:Fs):MS:=zo (Yh F) (zo (Yk F) (zo (Yw F) (zo (YG F) (YB F))))
noncomputable def Ym(F:Fs):MS:=(zC (ze zv []) (zl 2))
noncomputable def BS(F:Fs):MS:=(kK (yb [ze F.aa [zd 0,zd 1,OJ 3]]) (zl 3)
 (zo (zC (zh zt (ze kx [ze zv [],ze zv [OZ "x"],ze zv [OZ "y",OZ "x"]]) (ze F.aa [zd 0,zh addW (zh addW (zd 1) (OJ 1)) (zh ki (OJ 5) (zd 3)),OJ 3])) (zl 4))
 (zo (zC (zh zt (ze kx [ze zv [],ze zv [OZ "f"],ze zv [OZ "f",OZ "g1"]]) (ze F.aa [zd 0,zh addW (zh addW (zd 1) (OJ 2)) (zh ki (OJ 5) (zd 3)),OJ 3])) (zl 5))
 (zo (zC (ze F.az [zd 0,zh addW (zh addW (zd 1) (OJ 20)) (zh ki (OJ 7) (zd 3)),OJ 2,ze zv [zd 4,ze zv [],zd 5],zd 2]) (zl 6))
 (zC (zh addW (zd 2) (ze zv [ze zv [zd 4,zd 5,zd 6]])) (zl 2))))))
noncomputable def DA(F:Fs):MS:=(ke (zd 2))
noncomputable def bu(F:Fs):MS:=zo (Ym F) (zo (BS F) (DA F))
noncomputable def Vs(F:Fs):MS:=(kM (zD (zh (kf Â) (zh zt (zd 1) (OJ 0)) (OZ "call")))
 (zo (zC (ze kx []) (zl 2))
 (zo (kK (kc (zh zt (zd 1) (OJ 2))) (zl 3)
 (zC (zh addW (zd 2) (ze F.aj [zd 0,zd 3])) (zl 2)))
 (zo (kK (kc (ze F.aj [zd 0,zh zt (zh zt (zd 0) (zh zt (zd 1) (OJ 1))) (OJ 2)])) (zl 4)
 (kM (zD (zh (kf Â) (zh zt (zd 4) (OJ 0)) (OZ "do")))
 (zC (zh addW (zd 2) (ze F.aj [zd 0,zh zt (zh zt (zd 1) (OJ 3)) (gu dc (zh zt (zh zt (zd 0) (zh zt (zd 1) (OJ 1))) (OJ 1)) [zh zt (zd 4) (OJ 1)])])) (zl 2))
 (zC (zh addW (zd 2) (ze kx [zd 4])) (zl 2))))
 (ke (vw wa (zd 2))))))
 ko)
noncomputable def VA(F:Fs):MS:=(zC (zh addW (zh ki (ze kx [yT (zd 1) Á (À (OJ 2))]) (ze iV [zh (vk Â) (zh zt (zd 1) (OJ 0)) (ze zv [OZ "read",OZ "write",OZ "do"])])) (zh ki (ze kx [zd 1]) (ze iV [zh (kf Â) (zd 1) (ze zv [OZ "ask"])]))) (zl 2))
noncomputable def QD(F:Fs):MS:=(zC (zh addW (zd 2) (zh ki (ze kx [ze zv [OZ "say"]]) (ze iV [zh (kf Â) (zh zt (zd 1) (OJ 0)) (OZ "say")]))) (zl 2))
noncomputable def ZK(F:Fs):MS:=(kK (u3 [zd 1]) (vF [zl 5,zl 3])
 (kM (zD (vw (isW .tuple) (zd 3)))
 (zo (zC (ze F.aj [zd 0,zd 3]) (zl 6))
 (zo (kM (vb (zD (zh (kf Â) (zh zt (zd 1) (OJ 0)) (OZ "own"))) (zD (zh (kf Â) (zd 5) (OJ 3))))
 (zC (kq (kc (zd 6)) 1 [1] (zl 0) (zD (zh (kf Ã) (yT (zd 0) (À (OJ 1)) Á) (ze zv [zh zt (zd 1) (OJ 1)]))) (zd 0)) (zl 6))
 ko)
 (zC (zh addW (zd 2) (zd 6)) (zl 2))))
 ko))
noncomputable def JJ(F:Fs):MS:=(ke (vw wa (zd 2)))
noncomputable def aY(F:Fs):MS:=zo (Vs F) (zo (VA F) (zo (QD F) (zo (ZK F) (JJ F))))
noncomputable def bj(F:Fs):MS:=(zo (zC (x8 (kc (zd 0)) 1 [1] (zl 0) (vb (zD (zh (vk Â) (zd 0) (ze zv [ze zv [OZ "say"],ze zv [OZ "ask"]]))) (zD (zh (vk Â) (zd 0) (zd 1)))) (zh zt (zd 0) (OJ 0))) (zl 2))
 (zo (kK (kc (ze zv [ze zv [zd 0,zd 1],ze zv [zd 1,zd 0]])) (vF [zl 3,zl 4])
 (kK (kc (zd 3)) (zl 5)
 (kM (vb (zD (zh (kf Â) (zh zt (zd 5) (OJ 0)) (OZ "write"))) (zD (zh (kf Ã) (kq (kc (zd 4)) 1 [5] (zl 0) (zD (zh (kf Â) (yT (zd 0) (À (OJ 1)) Á) (yT (zd 1) (À (OJ 1)) Á))) (zd 0)) (ze kx []))))
 (ya (kH j3 (zd 2) [zh zt (zd 5) (OJ 1)]))
 ko)))
 (ke (vw wa (zd 2)))))
noncomputable def w1(F:Fs):MS:=(kM (zD (zh (vk Â) (zd 3) (ze zv [OZ "number",OZ "name",OZ "ask",OZ "read"])))
 (ke (OJ 1))
 ko)
noncomputable def w2(F:Fs):MS:=(kM (zD (zh (kf Â) (zd 3) (OZ "do")))
 (ke (mB (zd 2) (zh zt (zd 1) (OJ 1)) (OJ 1)))
 ko)
noncomputable def w3(F:Fs):MS:=(kM (zD (zh (kf Â) (zd 3) (OZ "call")))
 (zo (zC (ze gP [kq (eT [zh zt (zh zt (zd 0) (zh zt (zd 1) (OJ 1))) (OJ 1),zh zt (zd 1) (OJ 3)]) 2 [0,2] (vF [zl 0,zl 1]) vn (ze zv [zd 0,ze F.aq [zd 2,zd 1,zd 3]])]) (zl 4))
 (zo (zC (ze gE [kq (kc (zh zt (zd 1) (OJ 2))) 1 [0,2] (zl 0) vn (ze F.aq [zd 1,zd 0,zd 2])]) (zl 5))
 (ke (zh addW (zh addW (OJ 1) (zd 5)) (ze F.aq [zd 0,zh zt (zh zt (zd 0) (zh zt (zd 1) (OJ 1))) (OJ 2),zd 4])))))
 ko)
noncomputable def w4(F:Fs):MS:=(zC (kq (kc (yT (zd 1) (À (OJ 1)) Á)) 1 [0,2] (zl 0) (zD (vw (isW .tuple) (zd 0))) (ze F.aq [zd 1,zd 0,zd 2])) (zl 6))
noncomputable def w5(F:Fs):MS:=(kM (zD (zh (kf Â) (zd 3) (OZ "loop")))
 (ke (zh addW (zh addW (OJ 1) (zh zt (zd 6) (OJ 0))) (zh ki (OJ 3) (zh zt (zd 6) (OJ 1)))))
 ko)
noncomputable def w6(F:Fs):MS:=(ke (zh addW (OJ 1) (ze gE [zd 6])))
noncomputable def aP(F:Fs):MS:=zo (zC (zh zt (zd 1) (OJ 0)) (zl 3)) (zo (w1 F) (zo (w2 F) (zo (w3 F) (zo (w4 F) (zo (w5 F) (w6 F))))))
noncomputable def bx(F:Fs):MS:=(zo (zC (ze F.az [zd 0,zd 1,zd 2,ze zv [ze zv [],ze zv [],ze zv []],zd 3]) (zl 4))
 (zo (kM (zD (zh ni (ze F.aq [zd 3,zd 4,eC (.fdc [])]) (OJ 80)))
 (ke (ze zv [OZ "read",zh zt (OZ "abcd") (ze F.aa [zd 0,zd 1,OJ 4])]))
 ko)
 (ke (zd 4))))
noncomputable def bU(F:Fs):MS:=(zo (zC (ze F.aN [zd 0,OJ 1]) (zl 1))
 (zo (zC (kq (yb [ze F.aa [zd 0,OJ 60,OJ 5]]) 1 [0,1] (zl 0) vn (ze F.aW [zd 1,zh addW (OJ 90) (zh ki (OJ 31) (zd 0)),OJ 2,zd 2])) (zl 2))
 (zo (zC (kq (kc (zd 2)) 1 [1] (zl 0) vn (ze F.aj [zd 1,zd 0])) (zl 3))
 (zo (zC (ze yY []) (zl 4))
 (zo (kK (u3 [zd 2]) (vF [zl 5,zl 6])
 (zo (kK (u3 [zd 2]) (vF [zl 7,zl 8])
 (zo (zC (ze F.aV [zh zt (zd 3) (zd 5),zh zt (zd 3) (zd 7)]) (zl 9))
 (zo (zC (ze F.bD [zd 1,zd 6,zd 8]) (zl 10))
 (zo (zC (ze F.bC [zd 1,zd 6,zd 8]) (zl 11))
 (zo (kM (bq (dC (zD (vw (isW .list) (zd 10)))) (bq (zD (zh (kf Ã) (zd 10) (zd 9))) (bq (dC (zD (vw (isW .bool) (zd 11)))) (zD (zh (kf Ã) (zd 11) (zh (kf Â) (zd 9) (ze kx [])))))))
 (ke (eC (.bl Â)))
 ko)
 (kM (vb (zD (zh gH (zd 5) (zd 7))) (zD (zh (kf Ã) (zd 9) (ze kx []))))
 (ya (kH j3 (zd 4) [ze zv [zd 5,zd 7]]))
 ko))))))
 (zo (zC (kq (kc (zh zt (zd 3) (zd 5))) 1 [] (zl 0) (zD (zh (kf Â) (zh zt (zd 0) (OJ 0)) (OZ "read"))) (zh zt (zd 0) (OJ 1))) (zl 12))
 (zo (zC (kq (kc (zh zt (zd 3) (zd 5))) 1 [12] (zl 0) (vb (zD (zh (kf Â) (zh zt (zd 0) (OJ 0)) (OZ "write"))) (zD (zh (vk Â) (zh zt (zd 0) (OJ 1)) (zd 1)))) (zd 0)) (zl 13))
 (zo (zC (ze F.aQ [zd 1,zd 6]) (zl 11))
 (zo (zC (x5 (zh (kf Â) (zd 13) (ze kx [])) (x5 (zh (vk Ã) (ze zv [OZ "say"]) (zh zt (zd 3) (zd 5))) (zh (vk Ã) (ze zv [OZ "ask"]) (zh zt (zd 3) (zd 5))))) (zl 14))
 (kM (bq (dC (zD (vw (isW .bool) (zd 11)))) (zD (zh (kf Ã) (zd 11) (zd 14))))
 (ke (eC (.bl Â)))
 ko)))))))
 (zo (zC (ze F.aJ [zd 1,zd 2]) (zl 11))
 (ke (x5 (zh (kf Â) (ze F.aG [zd 1,zd 2]) (zd 4)) (x5 (vw (isW .bool) (zd 11)) (zh (kf Â) (zd 11) (zh (kf Â) (zd 4) (ze kx []))))))))))))
noncomputable def step(F:Fs):Fs where
 bO:=gc (kS 1 0 (bG F))
 aB:=gc (kS 2 0 (ak F))
 aH:=gc (kS 4 1 (aR F))
 aK:=gc (kS 3 0 (aM F))
 bA:=gc (kS 2 0 (aZ F))
 aC:=gc (kS 4 0 (aA F))
 bh:=gc (kS 3 4 (bJ F))
 aD:=gc (kS 1 2 (aU F))
 aO:=gc (kS 2 0 (bT F))
 aX:=gc (kS 2 0 (aF F))
 au:=gc (kS 2 0 (bc F))
 bD:=gc (kS 3 0 (b8 F))
 bC:=gc (kS 3 0 (bY F))
 aG:=gc (kS 2 3 (bH F))
 aJ:=gc (kS 2 0 (bM F))
 aQ:=gc (kS 2 1 (bL F))
 bF:=gc (kS 2 0 (bK F))
 aa:=gc (kS 3 1 (bz F))
 bQ:=gc (kS 3 5 (bf F))
 az:=gc (kS 5 6 (aL F))
 bN:=gc (kS 5 4 (bI F))
 aN:=gc (kS 2 5 (bu F))
 aj:=gc (kS 2 5 (aY F))
 aV:=gc (kS 2 4 (bj F))
 aq:=gc (kS 3 4 (aP F))
 aW:=gc (kS 4 1 (bx F))
 cA:=gc (kS 1 14 (bU F))
noncomputable def Fs.bot:Fs:=let z:List W->M W:=λ_ _=>Á;⟨z,z,z,z,z,z,z,z,z,z,z,z,z,z,z,z,z,z,z,z,z,z,z,z,z,z,z⟩
noncomputable def lv:Nat->Fs
 | 0=>.bot
 | n+1=>step (lv n)
def fns(F:Fs):List (Æ×(List W->M W)):=[(("parts_of":Æ),F.bO),(("marks_of_itself":Æ),F.aB),(("handed_that_are_done":Æ),F.aH),(("parts_that_count":Æ),F.aK),(("with_hidden":Æ),F.bA),(("parts_with_hidden":Æ),F.aC),(("marks_by":Æ),F.bh),(("marks_of_bodies":Æ),F.aD),(("touches":Æ),F.aO),(("clashes_with":Æ),F.aX),(("clash_of_marks":Æ),F.au),(("clash":Æ),F.bD),(("may_go":Æ),F.bC),(("clashing":Æ),F.aG),(("all_may_go":Æ),F.aJ),(("goes_twice":Æ),F.aQ),(("_law_cell":Æ),F.bF),(("_law_drawn":Æ),F.aa),(("_law_leaf":Æ),F.bQ),(("_law_deed":Æ),F.az),(("_law_call":Æ),F.bN),(("_law_rules":Æ),F.aN),(("_law_marks":Æ),F.aj),(("_law_clash":Æ),F.aV),(("_law_weight":Æ),F.aq),(("_law_light":Æ),F.aW),(("law":Æ),F.cA)]
def cons:List (Æ×W):=[]
def tabs:List (Æ×List (Æ×W)):=[("FORMS",t_FORMS)]
def bins:List Æ:=["any","bool","dict","enumerate","int","isinstance","len","list","range","set","sorted","sum","tuple","zip"]
def rc(F:Fs):RC:=⟨⟨.function,[],Â,Â,[]⟩,[],Â,fns F,cons,tabs,bins,[],[],[]⟩
def cO:Def:=⟨"parts_of",top 2,["deed"],["deed"],[],[],[]⟩
def b7:Def:=⟨"marks_of_itself",top 4,["bodies","deed"],["bodies","deed"],[],[],[((14,15),["mark"])]⟩
def bR:Def:=⟨"handed_that_are_done",top 5,["rules","bodies","number","handed"],["rules","bodies","number","handed","names"],[],[],[((18,17),["name","part","bodies","number"])]⟩
def bW:Def:=⟨"parts_that_count",top 6,["rules","bodies","deed"],["rules","bodies","deed"],[],[],[]⟩
def cC:Def:=⟨"with_hidden",top 7,["hidden","shelf"],["hidden","shelf"],[],[],[]⟩
def bV:Def:=⟨"parts_with_hidden",top 8,["rules","bodies","deed","hidden"],["rules","bodies","deed","hidden"],[],[],[((28,11),["part","hidden"])]⟩
def cP:Def:=⟨"marks_by",top 9,["rules","bodies","deed"],["rules","bodies","deed","found","waiting","place","mark"],["found","waiting"],["found"],[]⟩
def bZ:Def:=⟨"marks_of_bodies",top 10,["rules"],["rules","bodies","rule"],["bodies"],[],[]⟩
def cV:Def:=⟨"touches",top 11,["rules","deed"],["rules","deed"],[],[],[]⟩
def cu:Def:=⟨"clashes_with",top 13,["mark","others"],["mark","others"],[],[],[]⟩
def cj:Def:=⟨"clash_of_marks",top 14,["one","other"],["one","other"],[],[],[((54,22),["mark","other"])]⟩
def cY:Def:=⟨"clash",top 15,["rules","one","other"],["rules","one","other"],[],[],[]⟩
def cX:Def:=⟨"may_go",top 16,["rules","one","other"],["rules","one","other"],[],[],[]⟩
def cR:Def:=⟨"clashing",top 17,["rules","deeds"],["rules","deeds","marks","pairs","other"],["pairs"],[],[((60,12),["deed","rules"]),((63,21),["one","other","marks"])]⟩
def cD:Def:=⟨"all_may_go",top 18,["rules","deeds"],["rules","deeds"],[],[],[]⟩
def cF:Def:=⟨"goes_twice",top 19,["rules","deed"],["rules","deed","marks"],[],[],[((71,19),["mark","marks"])]⟩
def cT:Def:=⟨"_law_cell",top 21,["_law_script","_law_k"],["_law_script","_law_k"],[],[],[]⟩
def cM:Def:=⟨"_law_drawn",top 22,["_law_script","_law_k","_law_many"],["_law_script","_law_k","_law_many","_law_cell_here"],[],[],[]⟩
def cN:Def:=⟨"_law_leaf",top 23,["_law_script","_law_at","_law_known"],["_law_script","_law_at","_law_known","_law_names","_law_owns","_law_handed","_law_way","_law_shelves"],[],[],[]⟩
def cQ:Def:=⟨"_law_deed",top 24,["_law_script","_law_at","_law_deep","_law_known","_law_rules_here"],["_law_script","_law_at","_law_deep","_law_known","_law_rules_here","_law_way","_law_one","_law_shelves","_law_word","_law_inner","_law_other"],[],[],[]⟩
def cU:Def:=⟨"_law_call",top 25,["_law_script","_law_at","_law_deep","_law_known","_law_rules_here"],["_law_script","_law_at","_law_deep","_law_known","_law_rules_here","_law_number","_law_size","_law_parts","_law_k"],["_law_parts"],[],[]⟩
def cH:Def:=⟨"_law_rules",top 26,["_law_script","_law_at"],["_law_script","_law_at","_law_rules_here","_law_k","_law_names","_law_handed","_law_body"],[],[],[]⟩
def cJ:Def:=⟨"_law_marks",top 29,["_law_rules_here","_law_deed_here"],["_law_rules_here","_law_deed_here","_law_found","_law_part","_law_mark","_law_at","_law_inner"],[],[],[((153,29),["_law_mark","_law_deed_here"])]⟩
def cI:Def:=⟨"_law_clash",top 30,["_law_one","_law_other"],["_law_one","_law_other","_law_found","_law_mine","_law_yours","_law_mark"],["_law_found"],[],[((157,17),["_law_mark","_law_other"]),((160,43),["_law_more","_law_mark"])]⟩
def cG:Def:=⟨"_law_weight",top 31,["_law_rules_here","_law_deed_here","_law_handed"],["_law_rules_here","_law_deed_here","_law_handed","_law_word","_law_there","_law_parts","_law_inner"],[],[],[((173,17),["_law_part","_law_rules_here","_law_handed"]),((170,26),["_law_one","_law_part","_law_rules_here","_law_handed"]),((171,25),["_law_part","_law_rules_here","_law_handed"])]⟩
def cL:Def:=⟨"_law_light",top 32,["_law_script","_law_at","_law_deep","_law_rules_here"],["_law_script","_law_at","_law_deep","_law_rules_here","_law_deed_here"],[],[],[]⟩
def cW:Def:=⟨"law",top 33,["_law_script"],["_law_script","_law_rules_here","_law_deeds","_law_marks_here","_law_couples","_law_at","_law_one","_law_to","_law_other","_law_due","_law_told","_law_said","_law_reads","_law_again","_law_is_again"],["_law_couples"],[],[((184,17),["_law_k","_law_script","_law_rules_here"]),((185,22),["_law_deed_here","_law_rules_here"]),((196,21),["_law_mark"]),((197,21),["_law_mark","_law_reads"])]⟩
def defs:List Def:=[cO,b7,bR,bW,cC,bV,cP,bZ,cV,cu,cj,cY,cX,cR,cD,cF,cT,cM,cN,cQ,cU,cH,cJ,cI,cG,cL,cW]
def lvl{P:Í}{w:Ñ}{K:Sb}{mg:Æ->Option Ä}{base:Ò}(T:pU (eF K mg) defs)(c:AllOf (Glob K mg) cons)(t:AllOf (TabOk K w.params mg) tabs)(z:AllNone mg bins):∀n,BaseOk P w K mg base ⟨λ_=>0,P,w⟩ n (rc (lv n)):=by
 obtain⟨T0,T1,T2,T3,T4,T5,T6,T7,T8,T9,Nz,NA,NB,NC,ND,NE,NF,NG,NH,NI,NJ,NK,NL,NM,NN,NO,NP,-⟩:=T;intro n;induction n with
 | zero=>exact⟨⟨kz T0,kz T1,kz T2,kz T3,kz T4,kz T5,kz T6,kz T7,kz T8,kz T9,kz Nz,kz NA,kz NB,kz NC,kz ND,kz NE,kz NF,kz NG,kz NH,kz NI,kz NJ,kz NK,kz NL,kz NM,kz NN,kz NO,kz NP,trivial⟩,c,t,z,⟨rfl,rfl⟩⟩
 | succ n ih=>exact⟨⟨kT (b:=bG _) T0 ih,kT (b:=ak _) T1 ih,kT (b:=aR _) T2 ih,kT (b:=aM _) T3 ih,kT (b:=aZ _) T4 ih,kT (b:=aA _) T5 ih,kT (b:=bJ _) T6 ih,kT (b:=aU _) T7 ih,kT (b:=bT _) T8 ih,kT (b:=aF _) T9 ih,kT (b:=bc _) Nz ih,kT (b:=b8 _) NA ih,kT (b:=bY _) NB ih,kT (b:=bH _) NC ih,kT (b:=bM _) ND ih,kT (b:=bL _) NE ih,kT (b:=bK _) NF ih,kT (b:=bz _) NG ih,kT (b:=bf _) NH ih,kT (b:=aL _) NI ih,kT (b:=bI _) NJ ih,kT (b:=bu _) NK ih,kT (b:=aY _) NL ih,kT (b:=bj _) NM ih,kT (b:=aP _) NN ih,kT (b:=bx _) NO ih,kT (b:=bU _) NP ih,trivial⟩,c,t,z,⟨rfl,rfl⟩⟩
end K40
namespace K40
open PySem L2 ML
theorem UX{α:Type}{β:Type}{c:Prop}[Decidable c]{f g:α->β}{x:α}:(if c then f else g) x=if c then f x else g x:=by split<;>rfl
local macro_rules
 |`(tactic|simp![$l,*])=>`(tactic|simp[step,kS,zo,kM,ke,ya,ko,zC,zl,vF,dZ,zd,eC,zh,vw,ze,uu,x5,Yj,Ku,Y5,zD,vb,bq,dC,lJ,bnd,kf,vk,UX,$l,*])
def Uc(l:List W)(f:W->Bool):gO (l.map λw=>.bl (f w))=À (l.map f):=by
 induction l with
 | nil=>rfl
 | cons x r ih=>erw[zu];unfold gO;rw[ih]
noncomputable def forms:List (Æ×(Int×Int)):=[("number",(2,2)),("name",(2,2)),("read",(2,2)),("write",(3,2)),("add",(3,1)),("less",(3,1)),("then",(3,1)),("if",(4,1)),("loop",(3,1)),("let",(4,2)),("own",(4,2)),("say",(2,1)),("ask",(1,1)),("do",(2,2)),("call",(4,2))]
noncomputable def fm(x:Æ):Option (Int×Int):=forms.lookup x
theorem UE:t_FORMS=forms.map λp=>(p.1,.tup [.int p.2.1,.int p.2.2]):=rfl
theorem Q6{α β:Type}(f:α->β)(x:Æ):∀l:List (Æ×α),(l.map λp=>(p.1,f p.2)).lookup x=(l.lookup x).map f
 | []=>rfl
 | (k,v)::r=>by
  erw[zu,qd];cases x==k with
  | true=>rfl
  | false=>exact Q6 f x r
def F6(x:Æ):t_FORMS.lookup x=(fm x).map λp=>W.tup [.int p.1,.int p.2]:=by
 rw[UE];exact Q6 (λp:Int×Int=>W.tup [.int p.1,.int p.2]) x forms
def kX{l:List W}(d:dt n (.tup l)=Ã):∃m,n=m+1/\l.length<=1000/\∀w∈l,dt m w=Ã:=by
 cases n with
 | zero=>cases d
 | succ m=>
  unfold dt at d;rw[zy] at d;exact⟨m,rfl,jD d.1,λw hw=>zZ.mp d.2 w hw⟩
def w9:zt (.tup (x::r)) (.int 0) h=À (x,h):=by simp[zt,atI,yB]
def yA:zt (.tup (x::y::r)) (.int 1) h=À (y,h):=by
 have:(1:Int)<(r.length:Int)+1+1:=by omega
 simp[zt,atI,yB,this]
def lQ:zt (.tup (x::y::z::r)) (.int 2) h=À (z,h):=by
 have:(2:Int)<(r.length:Int)+1+1+1:=by omega
 simp[zt,atI,yB,this]
def JH:zt (.tup (x::y::z::u::r)) (.int 3) h=À (u,h):=by
 have:(3:Int)<(r.length:Int)+1+1+1+1:=by omega
 simp[zt,atI,yB,this]
def YS{l:List W}{i:Int}(h0:0<=i)(h1:i<l.length)(e:l[i.toNat]?=À w):zt (.tup l) (.int i) h=À (w,h):=by
 have hj:i.toNat<l.length:=by omega
 have:l[i.toNat]=w:=by rw[zP hj] at e;exact zX e
 simp[zt,atI,yB,h0,h1,this]
noncomputable def zI:W->List W
 | .tup (.str x::r)=>if x=="call" then (match r with
   | [_,.tup a,.tup b]=>a++b
   | _=>[]) else (match fm x with
   | some p=>r.drop (p.2.toNat-1)
   | none=>[])
 | _=>[]
def fu{l:List W}{k:Nat}:cutW l (À (k:Int)) Á=l.drop k:=by
 unfold cutW;have e1:HT.sIx l.length 0 (À (k:Int))=min k l.length:=by
  have:¬((k:Int)<0):=by omega
  simp[HT.sIx,this]
 have e2:HT.sIx l.length l.length Á=l.length:=rfl;rw[e1,e2];have:l.drop (min k l.length)=l.drop k:=by
  by_cases h:k<=l.length
  .rw[Nat.min_eq_left h]
  .rw[Nat.min_eq_right ∅,xX,List.drop_of_length_le ∅]
 rw[this];apply yt
 rw[qC];omega
def CV{p:Int×Int}(e:fm x=À p):1<=p.2/\p.2<=4:=by
 have:∀(l:List (Æ×(Int×Int))),(l.all λq=>decide (1<=q.2.2/\q.2.2<=4))=Ã->l.lookup x=À p->1<=p.2/\p.2<=4:=by
  intro l;induction l with
  | nil=>intro _ e;cases e
  | cons q r ih=>
   obtain⟨k,v⟩:=q;intro h e;rw[jG,zy] at h;rw[qd] at e;split at e
   .cases e;exact jD h.1
   .exact ih h.2 e
 exact this forms (by decide) e
def kU(ks:List Æ):(zk ks).length=ks.length:=by simp[zk]
def cZ(d:dt (n+1) w=Ã):∀v∈zI w,dt n v=Ã:=by
 intro v hv;unfold zI at hv;split at hv
 .rename_i x r
  obtain⟨m,e,hl,hd⟩:=kX d;cases e;split at hv
  .split at hv
   .rename_i a b
    rename_i z0;cases n with
    | zero=>have:=hd (.tup a) (by simp);cases this
    | succ n=>
    obtain⟨m1,e1,la,da⟩:=kX (hd (.tup a) (by simp));obtain⟨m2,e2,lb,db⟩:=kX (hd (.tup b) (by simp));cases e1;cases e2;rcases zA.mp hv with h | h
    .exact vi (da v h) (qT _)
    .exact vi (db v h) (qT _)
   .simp at hv
  .split at hv
   .exact hd v (zm _ (jC hv))
   .simp at hv
 .simp at hv
def fB(d:dt n w=Ã):(zI w).length<=2000:=by
 unfold zI;split
 .rename_i x r
  obtain⟨m,rfl,hl,hd⟩:=kX d;split
  .split
   .rename_i a b
    obtain⟨m1,e1,la,da⟩:=kX (hd (.tup a) (by simp));obtain⟨m2,e2,lb,db⟩:=kX (hd (.tup b) (by simp));rw[zL];omega
   .simp
  .split
   .rw[qC]
    simp at hl;omega
   .simp
 .simp
def at0{α:Type}(h:List α)(o:α):(h++[o])[h.length]?=À o:=by simp
def FW{α:Type}(h:List α)(o o':α):(h++[o]).set h.length o'=h++[o']:=by rw[qG _ _ (zG _)];simp
noncomputable def up:Nat->Fs->Fs
 | 0,F=>F
 | n+1,F=>step (up n F)
def zw(e:a ρ h=À (.nx ρ',h')):zo a b ρ h=b ρ' h':=by unfold zo;rw[e]
def w8(e:a ρ h=À (.ret w,h')):zo a b ρ h=À (.ret w,h'):=by unfold zo;rw[e]
def Gh:zt (.fls (a::r)) (.int 0) h=À (a,h):=by simp[zt,getL,atI,yB]
def Gm:zt (.fls (a::b::r)) (.int 1) h=À (b,h):=by
 have:(1:Int)<(r.length:Int)+1+1:=by omega
 simp[zt,getL,atI,yB,this]
noncomputable abbrev th(x:Æ)(r:List W):W:=.tup (.str x::r)
def J1{l:List W}(hk:k<=l.length):cutW l Á (À (k:Int))=l.take k:=by
 unfold cutW;have e1:HT.sIx l.length l.length (À (k:Int))=k:=by
  have:¬((k:Int)<0):=by omega
  simp[HT.sIx,this];omega
 have e2:HT.sIx l.length 0 Á=0:=rfl;rw[e1,e2];simp
def Yl:cutW (x::r) (À 1) Á=r:=by
 have:=fu (l:=x::r) (k:=1);simpa using this
def ints_map(l:List W)(f:W->Int):intsOf (l.map λw=>.int (f w))=À (l.map f):=by
 induction l with
 | nil=>rfl
 | cons x r ih=>erw[zu];unfold intsOf;rw[ih]
def filter_true{α:Type}(l:List α):(l.filter λ_=>Ã)=l:=pJ.mpr (by simp)
def dU{l:List W}(d:dt n (.fls l)=Ã)(hn:n<=60):eqB h (.fls l) (.fls [])=À l.isEmpty:=by
 have e1:=yi (h:=h) d (show n<=deep from hn);have e2:=yi (h:=h) (show dt 1 (.fls [])=Ã from rfl) (show 1<=deep by decide);unfold eqB;erw[ip,e1,e2];congr 1
 cases n with
 | zero=>cases d
 | succ n=>
  cases l<;>simp[toD,ä,á]
noncomputable def kP(ns:List Int):W:=.fls (ns.map W.int)
theorem BX{ns:List Int}(h:ns.length<=63):dt 2 (kP ns)=Ã:=by
 unfold kP dt;rw[zy];refine⟨kO (by simp;omega),zZ.mpr λw hw=>?_⟩;obtain⟨i,_,rfl⟩:=zp.mp hw;rfl
noncomputable def bX(ns:List Int)(k:Int):Int:=if ns=[] then 7*k else ns.getD (k%ns.length).toNat 0+6553*(k/ns.length)
def Cy{ns:List Int}(hl:ns.length<=63):(step F).bF [kP ns,.int k] h=À (.int (bX ns k),h):=by
 refine xk (n:=1) ?_ rfl;have eq:=dU (h:=h) (BX hl) ∅;have sm:(small 7||small k)=Ã:=by rw[show small 7=Ã by decide];rfl
 cases ns with
 | nil=>
  have Mm:eqB h (kP []) (.fls [])=À Ã:=eq;simp![bK,kx,cap,Mm,ki,sm,bX]
 | cons n r=>
  have Mm:eqB h (kP (n::r)) (.fls [])=À Â:=eq;have hp:(0:Int)<(r.length:Int)+1:=by omega
  have hb:(r.length:Int)+1<1073741824:=by simp at hl;omega
  have Na:=wD k (show((r.length:Int)+1)≠0 by omega);have RX:=vP k hp;have d6:kL [kP (n::r)] h=À (.int ((r.length:Int)+1),h):=by simp[kL,kP,getL]
  have A8:zt (kP (n::r)) (.int (k%((r.length:Int)+1))) h=À (.int ((n::r).getD (k%((r.length:Int)+1)).toNat 0),h):=by
   have hj:(k%((r.length:Int)+1)).toNat<(n::r).length:=by simp;omega
   have e1:((n::r).map W.int)[(k%((r.length:Int)+1)).toNat]?=À (.int ((n::r).getD (k%((r.length:Int)+1)).toNat 0)):=by
    rw[kW,zP hj];erw[Option.map_some,ă,zP hj,v7]
   have e2:atI ((n::r).map W.int) (k%((r.length:Int)+1))=À (.int ((n::r).getD (k%((r.length:Int)+1)).toNat 0)):=by
    unfold atI yB;rw[zW Na,zW (by simp;omega)];exact e1
   erw[zt,kP,getL,e2]
  have P0:(small 6553||small (k/((r.length:Int)+1)))=Ã:=by rw[show small 6553=Ã by decide];rfl
  simp![bK,kx,cap,Mm,d6,xc,hp,A8,aT,hb,ki,P0,addW,k8,bX]
noncomputable def cv(ns:List Int)(k:Int):Int:=(bX ns k%2147483563*69069+104723*(k+1))%2147483563
noncomputable def b9(ns:List Int)(k:Int):Int:=(cv ns k*cv ns k+cv ns k/3)%2147483399
noncomputable def yk(ns:List Int)(k many:Int):Int:=(b9 ns k*b9 ns k+b9 ns k/7)%2147483647/11%many
def iI(h0:0<=i)(h1:i<2147483648):small i=Ã:=by
 unfold small;exact kO ⟨by omega,by omega⟩
def br{ns:List Int}(hl:ns.length<=63)(hm:0<many):(step (step F)).aa [kP ns,.int k,.int many] h=À (.int (yk ns k many),h):=by
 refine xk (n:=1) ?_ rfl;have e:=λh=>Cy (F:=F) (k:=k) (h:=h) hl
 generalize step F=G at e;have a1:0<=cv ns k/\cv ns k<2147483563:=⟨wD _ ∅,vP _ ∅⟩;have a2:0<=b9 ns k/\b9 ns k<2147483399:=⟨wD _ ∅,vP _ ∅⟩;have c0:0<=bX ns k%2147483563/\bX ns k%2147483563<2147483563:=⟨wD _ ∅,vP _ ∅⟩;have s1:(small (bX ns k%2147483563)||small 69069)=Ã:=by rw[iI c0.1 ∅];rfl
 have s2:(small 104723||small (k+1))=Ã:=by rw[show small 104723=Ã by decide];rfl
 have s3:(small (cv ns k)||small (cv ns k))=Ã:=by rw[iI a1.1 ∅];rfl
 have s4:(small (b9 ns k)||small (b9 ns k))=Ã:=by rw[iI a2.1 ∅];rfl
 have m1:∀h,ki (.int (bX ns k%2147483563)) (.int 69069) h=À (.int (bX ns k%2147483563*69069),h):=λh=>by erw[ki,s1,kY]
 have m2:∀h,ki (.int 104723) (.int (k+1)) h=À (.int (104723*(k+1)),h):=λh=>by erw[ki,s2,kY]
 have m3:∀h,ki (.int (cv ns k)) (.int (cv ns k)) h=À (.int (cv ns k*cv ns k),h):=λh=>by erw[ki,s3,kY]
 have m4:∀h,ki (.int (b9 ns k)) (.int (b9 ns k)) h=À (.int (b9 ns k*b9 ns k),h):=λh=>by erw[ki,s4,kY]
 have f1:(bX ns k%2147483563*69069+104723*(k+1))%2147483563=cv ns k:=rfl;have f2:(cv ns k*cv ns k+cv ns k/3)%2147483399=b9 ns k:=rfl;have f3:(b9 ns k*b9 ns k+b9 ns k/7)%2147483647/11%many=yk ns k many:=rfl;have b1:(zC (zh xc (zh addW (zh ki (zh xc (ze G.bF [zd 0,zd 1]) (OJ 2147483563)) (OJ 69069)) (zh ki (OJ 104723) (zh addW (zd 1) (OJ 1)))) (OJ 2147483563)) (zl 3)) [À (kP ns),À (.int k),À (.int many),Á] h=À (.nx [À (kP ns),À (.int k),À (.int many),À (.int (cv ns k))],h):=by
  simp![e,xc,m1,m2,addW,k8,f1]
 have b2:(zC (zh xc (zh addW (zh ki (zd 3) (zd 3)) (zh aT (zd 3) (OJ 3))) (OJ 2147483399)) (zl 3)) [À (kP ns),À (.int k),À (.int many),À (.int (cv ns k))] h=À (.nx [À (kP ns),À (.int k),À (.int many),À (.int (b9 ns k))],h):=by
  simp![xc,m3,aT,addW,k8,f2]
 have b3:(ke (zh xc (zh aT (zh xc (zh addW (zh ki (zd 3) (zd 3)) (zh aT (zd 3) (OJ 7))) (OJ 2147483647)) (OJ 11)) (zd 2))) [À (kP ns),À (.int k),À (.int many),À (.int (b9 ns k))] h=À (.ret (.int (yk ns k many)),h):=by
  simp![xc,m4,aT,addW,k8,hm,f3]
 have row:bz G [À (kP ns),À (.int k),À (.int many),Á] h=À (.ret (.int (yk ns k many)),h):=by
  unfold bz;rw[zw b1,zw b2,b3]
 erw[kS,zE,kI,kY,zu,ji,Ç,jr,kJ];erw[row]
def ku(hm:0<many):0<=yk ns k many/\yk ns k many<many:=⟨wD _ ∅,vP _ hm⟩
noncomputable def pl:Nat->W->Bool
 | 0,_=>Â
 | _+1,.int i=>decide (0<=i)&&decide (i<=1008)
 | _+1,.str x=>è x&&decide (x.length<=1000)
 | n+1,.tup l=>decide (l.length<=4)&&l.all (pl n)
 | _+1,_=>Â
def gf{l:List W}(d:pl n (.tup l)=Ã):∃m,n=m+1/\l.length<=4/\∀w∈l,pl m w=Ã:=by
 cases n with
 | zero=>cases d
 | succ m=>
  unfold pl at d;rw[zy] at d;exact⟨m,rfl,jD d.1,λw hw=>zZ.mp d.2 w hw⟩
def xi{l:List W}(hl:l.length<=4)(h:∀w∈l,pl n w=Ã):pl (n+1) (.tup l)=Ã:=by
 unfold pl;rw[zy];exact⟨kO hl,zZ.mpr h⟩
def du{l:List W}(hl:l.length<=1000)(h:∀w∈l,dt n w=Ã):dt (n+1) (.tup l)=Ã:=by
 unfold dt;rw[zy];exact⟨kO hl,zZ.mpr h⟩
def oY{l:List W}(hl:l.length<=1000)(h:∀w∈l,dt n w=Ã):dt (n+1) (.fls l)=Ã:=by
 unfold dt;rw[zy];exact⟨kO hl,zZ.mpr h⟩
theorem wn:∀{n:Nat} {w:W},pl n w=Ã->dt n w=Ã
 | 0,_,h=>by cases h
 | n+1,.non,h=>by cases h
 | n+1,.bl _,h=>by cases h
 | n+1,.int _,_=>rfl
 | n+1,.str _,h=>h
 | n+1,.tup l,h=>by
  obtain⟨m,e,hl,hd⟩:=gf h;cases e;exact du ∅ λw hw=>wn (hd w hw)
 | n+1,.fls _,h=>by cases h
 | n+1,.ref _,h=>by cases h
 | n+1,.fdc _,h=>by cases h
 | n+1,.fn _,h=>by cases h
theorem kR:∀{n m:Nat} {w:W},pl n w=Ã->n<=m->pl m w=Ã
 | 0,_,_,h,_=>by cases h
 | n+1,0,_,_,h=>by omega
 | n+1,m+1,.non,h,_=>by cases h
 | n+1,m+1,.bl _,h,_=>by cases h
 | n+1,m+1,.int _,h,_=>h
 | n+1,m+1,.str _,h,_=>h
 | n+1,m+1,.tup l,h,hn=>by
  obtain⟨m',e,hl,hd⟩:=gf h;cases e;exact xi hl λw hw=>kR (hd w hw) ∅
 | n+1,m+1,.fls _,h,_=>by cases h
 | n+1,m+1,.ref _,h,_=>by cases h
 | n+1,m+1,.fdc _,h,_=>by cases h
 | n+1,m+1,.fn _,h,_=>by cases h
noncomputable def six:List Æ:=["a","b","c","d","p","q"]
inductive Sh(rl:List W)(k:Nat)(H:List Æ):W->Prop
 | number (i:Int):Sh rl k H (th "number" [.int i])
 | name (v:Æ):Sh rl k H (th "name" [.str v])
 | read (v:Æ) (hv:v∈six):Sh rl k H (th "read" [.str v])
 | doo (v:Æ) (hv:v∈H):Sh rl k H (th "do" [.str v])
 | ask:Sh rl k H (th "ask" [])
 | write (v:Æ) (hv:v∈six) (a:List W):Sh rl k H (th "write" [.str v,.tup a])
 | say (a:List W):Sh rl k H (th "say" [.tup a])
 | lett (v:Æ) (a b:List W):Sh rl k H (th "let" [.str v,.tup a,.tup b])
 | own (v:Æ) (hv:v="p" \/ v="q") (a b:List W):Sh rl k H (th "own" [.str v,.tup a,.tup b])
 | add (a b:List W):Sh rl k H (th "add" [.tup a,.tup b])
 | less (a b:List W):Sh rl k H (th "less" [.tup a,.tup b])
 | thenn (a b:List W):Sh rl k H (th "then" [.tup a,.tup b])
 | loop (a b:List W):Sh rl k H (th "loop" [.tup a,.tup b])
 | iff (a b c:List W):Sh rl k H (th "if" [.tup a,.tup b,.tup c])
 | call (i:Nat) (a b:List W) (hi:i<k) (ns:List W) (hs:List Æ) (body:W) (e:rl[i]?=À (.tup [.tup ns,.tup (zk hs),body])) (lb:b.length=hs.length):Sh rl k H (th "call" [.int i,.tup a,.tup b])
inductive Pn:W->Prop
 | mk (x:Æ) (r:List W) (p:Int×Int) (hc:(x==("call":Æ))=Â) (hf:fm x=À p) (hp:r.filter (tyB .tuple)=zI (th x r)):Pn (th x r)
def Sh.split{rl:List W}{H:List Æ}(h:Sh rl k H w):Pn w\/∃(i:Nat) (a b:List W) (ns:List W) (hs:List Æ) (body:W),w=th "call" [.int i,.tup a,.tup b]/\i<k/\rl[i]?=À (.tup [.tup ns,.tup (zk hs),body]):=by
 have key:∀(x:Æ) (p:Int×Int),(x==("call":Æ))=Â->fm x=À p->∀r:List W,r.filter (tyB .tuple)=r.drop (p.2.toNat-1)->Pn (th x r):=by
  intro x p hc hf r hr;refine .mk x r p hc hf ?_;erw[zI,hc,hf,hr];rfl
 cases h with
 | number i=>exact .inl (key _ (2,2) ⋯ ⋯ _ (by simp[tyB]))
 | name v=>exact .inl (key _ (2,2) ⋯ ⋯ _ (by simp[tyB]))
 | read v hv=>exact .inl (key _ (2,2) ⋯ ⋯ _ (by simp[tyB]))
 | doo v hv=>exact .inl (key _ (2,2) ⋯ ⋯ _ (by simp[tyB]))
 | ask=>exact .inl (key _ (1,1) ⋯ ⋯ _ (by simp))
 | write v hv a=>exact .inl (key _ (3,2) ⋯ ⋯ _ (by simp[tyB]))
 | say a=>exact .inl (key _ (2,1) ⋯ ⋯ _ (by simp[tyB]))
 | lett v a b=>exact .inl (key _ (4,2) ⋯ ⋯ _ (by simp[tyB]))
 | own v hv a b=>exact .inl (key _ (4,2) ⋯ ⋯ _ (by simp[tyB]))
 | add a b=>exact .inl (key _ (3,1) ⋯ ⋯ _ (by simp[tyB]))
 | less a b=>exact .inl (key _ (3,1) ⋯ ⋯ _ (by simp[tyB]))
 | thenn a b=>exact .inl (key _ (3,1) ⋯ ⋯ _ (by simp[tyB]))
 | loop a b=>exact .inl (key _ (3,1) ⋯ ⋯ _ (by simp[tyB]))
 | iff a b c=>exact .inl (key _ (4,1) ⋯ ⋯ _ (by simp[tyB]))
 | call i a b hi ns hs body e lb=>exact .inr ⟨i,a,b,ns,hs,body,rfl,hi,e⟩
def qB(i:Int)(a b:List W):zI (th "call" [.int i,.tup a,.tup b])=a++b:=by simp[zI]
def KJ{H:List Æ}(d:dt n w=Ã)(ho:Sh rl k H w):(step F).bO [w] h=À (.tup (zI w),h):=by
 rcases ho.split with hp | ⟨i,a,b,ns,hs,body,rfl,hi,e⟩
 .obtain⟨x,r,p,t7,hp,hq⟩:=hp
  obtain⟨m,rfl,hl,hd⟩:=kX d;obtain⟨p1,p2⟩:=CV hp;obtain⟨k,hk⟩:=yg (show 0<=p.2 by omega);have e:zI (.tup (.str x::r))=(W.str x::r).drop k:=by
   erw[zI,t7,hp];rw[hk];cases k with
   | zero=>omega
   | succ k=>simp
  rw[e];refine qh (h':=h) ?_ ?_ (jf _)
  .have ek:zt (.tup [.int p.1,.int p.2]) (.int 1) h=À (.int p.2,h):=yA
   simp![bG,w9,kr,t7,yT,bS,fb,F6,hp,ek,gG];rw[hk];exact fu
  .unfold low
   exact qr λw hw=>vE (hd w (jC hw))
 .obtain⟨m,rfl,hl,hd⟩:=kX d
  obtain⟨m1,rfl,la,da⟩:=kX (hd (.tup a) (by simp));obtain⟨m2,e2,lb,db⟩:=kX (hd (.tup b) (by simp));have hc:a.length+b.length<=cap:=zz (show a.length+b.length<=2000 by omega) (by decide);rw[qB];refine qh (h':=h) ?_ ?_ (jf _)
  .simp![bG,w9,lQ,JH,kr,addW,k8,hc]
  .unfold low
   refine qr λw hw=>?_
   rcases zA.mp hw with hw | hw
   .exact vE (da w hw)
   .exact vE (db w hw)
noncomputable def okd(rl:List W)(k:Nat)(H:List Æ):Nat->W->Prop
 | 0,_=>False
 | n+1,w=>Sh rl k H w/\∀p∈zI w,okd rl k H n p
noncomputable def cnt:Nat->W->Nat
 | 0,_=>0
 | n+1,w=>1+((zI w).map (cnt n)).sum
theorem iT{H:List Æ}:∀{n m:Nat} {w:W},okd rl k H n w->n<=m->okd rl k H m w
 | 0,_,_,h,_=>by cases h
 | n+1,0,_,_,h=>by omega
 | n+1,m+1,w,h,hn=>⟨h.1,λp hp=>iT (h.2 p hp) ∅⟩
def fU{f g:W->Nat}{l:List W}(h:∀p∈l,f p=g p):(l.map f).sum=(l.map g).sum:=by rw[qw h]
theorem rj{rl:List W}{k:Nat}{H:List Æ}:∀{n m:Nat} {w:W},okd rl k H n w->n<=m->cnt m w=cnt n w
 | 0,_,_,h,_=>by cases h
 | n+1,0,_,_,h=>by omega
 | n+1,m+1,w,h,hn=>by
  unfold cnt;rw[fU λp hp=>rj (h.2 p hp) ∅]
def ZF:1<=cnt (n+1) w:=by unfold cnt;omega
def U5(hl:(zI w).length<=l)(h:∀p∈zI w,cnt n p<=B):cnt (n+1) w<=1+l*B:=by
 unfold cnt;have:∀ps:List W,(∀p∈ps,cnt n p<=B)->(ps.map (cnt n)).sum<=ps.length*B:=by
  intro ps;induction ps with
  | nil=>intro _;simp
  | cons p r ih=>
   intro hp;have h1:=hp p zr;have h2:=ih λq hq=>hp q (zm _ hq)
   erw[zu,qF,zE,Nat.add_mul];omega
 have h1:=this _ h;have h2:(zI w).length*B<=l*B:=Nat.mul_le_mul_right _ hl;omega
noncomputable def fz(l:List (Key×W)):Prop:=∀p∈l,∃v,p.2=.int v
def Xb(h:fz l):fz (iL l k (.int v)):=by
 intro p hp;unfold iL at hp;split at hp
 .obtain⟨q,hq,rfl⟩:=zp.mp hp
  split
  .exact⟨v,rfl⟩
  .exact h q hq
 .rcases zA.mp hp with z | z
  .exact h p z
  .simp at z;subst z;exact⟨v,rfl⟩
theorem nz:∀{more l:List (Key×W)},fz l->fz more->fz (x9 l more)
 | [],l,h,_=>h
 | (k,w)::r,l,h,hm=>by
  obtain⟨v,e⟩:=hm (k,w) zr;simp only at e;subst e;have:=nz (more:=r) (l:=iL l k (.int v)) (Xb h) λp hp=>hm p (zm _ hp)
  exact this
def XB(h:fz l):∃v,(eI l k).getD (.int 1)=.int v:=by
 unfold eI;cases e:l.find? λkv=>decide (kv.1=k) with
 | none=>exact⟨1,rfl⟩
 | some p=>
  obtain⟨v,hv⟩:=h p (List.mem_of_find?_eq_some e);exact⟨v,by simp[hv]⟩
structure RulesGood(rl:List W):Prop where
 g:∀i,i<rl.length->∃(ns:List W) (hs:List Æ) (body:W),rl[i]?=À (.tup [.tup ns,.tup (zk hs),body])/\dt 60 body=Ã/\okd rl i hs 3 body/\hs.length<=4
noncomputable def WOk(G:Fs)(rl:List W)(k n:Nat):Prop:=∀(Hd:List Æ) (w:W) (hd:List (Key×W)),okd rl k Hd n w->dt 60 w=Ã->fz hd->∃v:Int,∀h,G.aq [.tup rl,w,.fdc hd] h=À (.int v,h)
noncomputable def wv(G:Fs)(rl:List W)(hd:List (Key×W))(w:W):Int:=match G.aq [.tup rl,w,.fdc hd] [] with
 | some (.int v,_)=>v
 | _=>0
def WOk.at{G:Fs}(H:WOk G rl k n){hd:List (Key×W)}(o:okd rl k Hd n w)(d:dt 60 w=Ã)(q:fz hd)(h:MH):G.aq [.tup rl,w,.fdc hd] h=À (.int (wv G rl hd w),h):=by
 obtain⟨v,e⟩:=H _ w hd o d q;unfold wv;rw[e []];exact e h
noncomputable def four:List Æ:=["number","name","ask","read"]
noncomputable abbrev ρw(rl:List W)(w:W)(hd:List (Key×W))(x:Æ)(o4 o5 o6:Option W):En:=[À (.tup rl),À w,À (.fdc hd),À (.str x),o4,o5,o6]
theorem l4(F:Fs):aP F=zo (zC (zh zt (zd 1) (OJ 0)) (zl 3)) (zo (w1 F) (zo (w2 F) (zo (w3 F) (zo (w4 F) (zo (w5 F) (w6 F)))))):=rfl
def in4(d:dt n (.str x)=Ã)(hn:n<=60):inB h (.str x) (.tup [.str "number",.str "name",.str "ask",.str "read"])=À (zS four (.str x)):=dJ (l:=four) d hn ⋯
def C4{hd:List (Key×W)}(d:dt n (.str x)=Ã)(hn:n<=60)(q:zS four (.str x)=Ã):w1 F (ρw rl w hd x Á Á Á) h=À (.ret (.int 1),h):=by
 have c4:(4:Nat)<=cap:=by decide
 have e:=in4 (h:=h) d hn;rw[q] at e;simp![w1,zv,c4,e]
def oQ{hd:List (Key×W)}(d:dt n (.str x)=Ã)(hn:n<=60)(q:zS four (.str x)=Â):w1 F (ρw rl w hd x Á Á Á) h=À (.nx (ρw rl w hd x Á Á Á),h):=by
 have c4:(4:Nat)<=cap:=by decide
 have e:=in4 (h:=h) d hn;rw[q] at e;simp![w1,zv,c4,e]
def JD{hd:List (Key×W)}(q:(x==("do":Æ))=Â):w2 F (ρw rl w hd x Á Á Á) h=À (.nx (ρw rl w hd x Á Á Á),h):=by
 simp![w2,kr,q]
def YU{hd:List (Key×W)}(q:(x==("call":Æ))=Â):w3 F (ρw rl w hd x Á Á Á) h=À (.nx (ρw rl w hd x Á Á Á),h):=by
 simp![w3,kr,q]
def QG(l:List (Æ×W))(f:W->Int):pairsOf (l.map λp=>.tup [.str p.1,.int (f p.2)])=À (l.map λp=>(.str p.1,.int (f p.2))):=by
 induction l with
 | nil=>rfl
 | cons x r ih=>erw[zu];unfold pairsOf;rw[ih]
theorem WF(l:List (Æ×W))(f:W->Int):keysOf (l.map λp=>(W.str p.1,W.int (f p.2)))=À (l.map λp=>(.inr p.1,.int (f p.2))):=by
 induction l with
 | nil=>rfl
 | cons x r ih=>erw[zu];unfold keysOf;rw[ih];rfl
def rR(hs:List Æ)(b:List W):(zk hs).zip b=(hs.zip b).map λp=>(W.str p.1,p.2):=by
 induction hs generalizing b with
 | nil=>rfl
 | cons x r ih=>
  cases b with
  | nil=>rfl
  | cons y b=>erw[zk,zu,yS,zu] at ih ⊢;rw[ih]
theorem cn:∀{a b:List Æ},zk a=zk b->a=b
 | [],[],_=>rfl
 | [],y::b,h=>by simp[zk] at h
 | x::a,[],h=>by simp[zk] at h
 | x::a,y::b,h=>by
  erw[zk,zu,yG,W.str.injEq] at h;rw[h.1,cn (a:=a) (b:=b) h.2]
def Vy(e1:m ρ h=À (w,h'))(e2:g w ρ h'=À (ρ',h2)):zC m g ρ h=À (.nx ρ',h2):=by
 unfold zC;rw[e1];erw[e2]
def tR(e:m ρ h=À (w,h')):ze f [m] ρ h=f [w] h':=by
 simp[ze,uu,bnd,e]
def tY{rl:List W}(hr:RulesGood rl)(hk:k<=rl.length)(H:WOk G rl k n)(HB:∀i,i<k->WOk G rl i 3):WOk (step G) rl k (n+1):=by
 intro Hd w hd o d q;suffices hs:∃v:Int,∀h,aP G [À (.tup rl),À w,À (.fdc hd),Á,Á,Á,Á] h=À (.ret (.int v),h) by
  obtain⟨v,e⟩:=hs;refine⟨v,λh=>xk (n:=1) ?_ rfl⟩;erw[kS,zE,kI,kY,zu,ji,Ç,jr,kJ];erw[e h]
 have dp:∀v∈zI w,dt 60 v=Ã:=λv hv=>vi (cZ (n:=59) d v hv) ∅
 have lp:=fB d;have start:∀x r,w=th x r->∀h,(zC (zh zt (zd 1) (OJ 0)) (zl 3)) [À (.tup rl),À w,À (.fdc hd),Á,Á,Á,Á] h=À (.nx (ρw rl w hd x Á Á Á),h):=by
  intro x r e h;subst e;simp![w9]
 have dx:∀x r,w=th x r->dt 59 (.str x)=Ã:=by
  intro x r e;subst e;obtain⟨m,e,hl,hd⟩:=kX d;cases e;exact hd _ zr
 have leaf:∀x r,w=th x r->zS four (.str x)=Ã->∃v:Int,∀h,aP G [À (.tup rl),À w,À (.fdc hd),Á,Á,Á,Á] h=À (.ret (.int v),h):=by
  intro x r e hx;refine⟨1,λh=>?_⟩;rw[l4,zw (start x r e h),w8 (C4 (dx x r e) ∅ hx)]
 have inner:∀x r,w=th x r->r.filter (tyB .tuple)=zI w->∀h,w4 G (ρw rl w hd x Á Á Á) h=À (.nx (ρw rl w hd x Á Á (À (.fls ((zI w).map λv=>.int (wv G rl hd v))))),h):=by
  intro x r e hq h;have c:=xh (mi:=kc (yT (zd 1) (À (OJ 1)) Á)) (ks:=[0,2]) (t:=zD (vw (isW .tuple) (zd 0))) (m:=ze G.aq [zd 1,zd 0,zd 2]) (ρ:=ρw rl w hd x Á Á Á) (h:=h) (l:=r) (tyB .tuple) (λv=>.int (wv G rl hd v))
   (by subst e;simp![kc,yT,bS,gG,srcOf,Yl])
   (λv hv H'=>by
    subst e;obtain⟨m,e,hl,Az⟩:=kX d
    simp![rJ (Az v (zm _ hv))])
   (λv hv hy H'=>by
    have NQ:v∈zI w:=by rw[<-hq];exact zV.mpr ⟨hv,hy⟩
    simp![H.at (o.2 v NQ) (dp v NQ) q H'])
   (λv hv _=>by unfold low;rfl)
   (by
    subst e;obtain⟨m,e,hl,Az⟩:=kX d;have:r.length<=1000:=by simp at hl;omega
    exact zz this (by decide))
  rw[hq] at c;unfold w4 zC;rw[c];simp![]
 have other:∀x r,w=th x r->zS four (.str x)=Â->(x==("do":Æ))=Â->(x==("loop":Æ))=Â->Pn w->∃v:Int,∀h,aP G [À (.tup rl),À w,À (.fdc hd),Á,Á,Á,Á] h=À (.ret (.int v),h):=by
  intro x r e h1 h2 h3 hp;refine⟨1+bv ((zI w).map λv=>wv G rl hd v),λh=>?_⟩;cases hp with
  | mk x' r' p hc hf hq=>
   cases e;have e2:=ints_map (zI (th x r)) λv=>wv G rl hd v
   rw[l4,zw (start x r rfl h),zw (oQ (dx x r rfl) ∅ h1),zw (JD h2),zw (YU hc),zw (inner x r rfl hq h),
    zw (ρ':=ρw rl (th x r) hd x Á Á (À (.fls ((zI (th x r)).map λv=>.int (wv G rl hd v))))) (h':=h) (by simp![w5,kr,h3])]
   simp![w6,gE,qV,getL,e2,addW,k8]
 have P3:=o.1;have GO:=o.1.split;cases P3 with
 | number i=>exact leaf _ _ rfl ⋯
 | name v=>exact leaf _ _ rfl ⋯
 | read v=>exact leaf _ _ rfl ⋯
 | ask=>exact leaf _ _ rfl ⋯
 | doo v=>
  obtain⟨u,hu⟩:=XB (k:=.inr v) q;refine⟨u,λh=>?_⟩;rw[l4,zw (start _ _ rfl h),zw (oQ (dx _ _ rfl) ∅ ⋯)];refine w8 ?_;simp![w2,kr,mB,fO,yA,keyOf,hu]
 | write v a=>
  rcases GO with hp | ⟨_,_,_,_,_,_,e,_,_⟩
  .exact other _ _ rfl ⋯ ⋯ ⋯ hp
  .cases e
 | say a=>
  rcases GO with hp | ⟨_,_,_,_,_,_,e,_,_⟩
  .exact other _ _ rfl ⋯ ⋯ ⋯ hp
  .cases e
 | lett v a b=>
  rcases GO with hp | ⟨_,_,_,_,_,_,e,_,_⟩
  .exact other _ _ rfl ⋯ ⋯ ⋯ hp
  .cases e
 | own v a b=>
  rcases GO with hp | ⟨_,_,_,_,_,_,e,_,_⟩
  .exact other _ _ rfl ⋯ ⋯ ⋯ hp
  .cases e
 | add a b=>
  rcases GO with hp | ⟨_,_,_,_,_,_,e,_,_⟩
  .exact other _ _ rfl ⋯ ⋯ ⋯ hp
  .cases e
 | less a b=>
  rcases GO with hp | ⟨_,_,_,_,_,_,e,_,_⟩
  .exact other _ _ rfl ⋯ ⋯ ⋯ hp
  .cases e
 | thenn a b=>
  rcases GO with hp | ⟨_,_,_,_,_,_,e,_,_⟩
  .exact other _ _ rfl ⋯ ⋯ ⋯ hp
  .cases e
 | iff a b c=>
  rcases GO with hp | ⟨_,_,_,_,_,_,e,_,_⟩
  .exact other _ _ rfl ⋯ ⋯ ⋯ hp
  .cases e
 | loop a b=>
  have ep:zI (th "loop" [.tup a,.tup b])=[.tup a,.tup b]:=by
   simp[zI,show(("loop":Æ)=="call")=Â by decide +kernel,show fm "loop" = À (3,1) by decide +kernel]
  refine⟨1+wv G rl hd (.tup a)+3*wv G rl hd (.tup b),λh=>?_⟩;have NR:=inner _ _ rfl (by rw[ep];simp[tyB]) h;rw[ep] at NR;rw[l4,zw (start _ _ rfl h),zw (oQ (dx _ _ rfl) ∅ ⋯),zw (JD ⋯),zw (YU ⋯),zw NR];refine w8 ?_;have sm:(small 3||small (wv G rl hd (.tup b)))=Ã:=by rw[show small 3=Ã by decide];rfl
  simp![w5,kr,Gh,Gm,addW,k8,ki,sm]
 | call i a b hi ns hs body e=>
  obtain⟨RY,xI,hX,e',db,ob,P4⟩:=hr.g i ∅;have eb:hs=xI/\body=hX:=by
   rw[e] at e';injection e' with e';injection e' with e';erw[yG,W.tup.injEq,uH] at e';refine⟨?_,e'.2.2⟩;have:=e'.2.1;exact cn this
  obtain⟨rfl,rfl⟩:=eb;obtain⟨m,em,hl,Az⟩:=kX d;cases em;obtain⟨m1,e1,la,da⟩:=kX (Az (.tup a) (by simp));obtain⟨m2,e2,lb,RZ⟩:=kX (Az (.tup b) (by simp));rw[qB] at dp;have op:=o.2;rw[qB] at op;have ei:∀h,zt (.tup rl) (.int (i:Int)) h=À (.tup [.tup ns,.tup (zk hs),body],h):=λh=>YS ∅ ∅ (by simpa using e)
  have P5:fz (x9 [] ((hs.zip b).map λp=>(Ě p.1,W.int (wv G rl hd p.2)))):=by
   refine nz (λp hp=>by simp at hp) λp hp=>?_
   obtain⟨z,_,rfl⟩:=zp.mp hp;exact⟨_,rfl⟩
  refine⟨1+bv (a.map λv=>wv G rl hd v)+wv G rl (x9 [] ((hs.zip b).map λp=>(Ě p.1,W.int (wv G rl hd p.2)))) body,λh=>?_⟩;have c2:(2:Nat)<=cap:=by decide
  have P6:(hs.zip b).length<=4:=by rw[vN];omega
  have cz:=Fc (mi:=eT [zh zt (zh zt (zd 0) (zh zt (zd 1) (OJ 1))) (OJ 1),zh zt (zd 1) (OJ 3)]) (ks:=[0,2]) (t:=vn) (m:=ze zv [zd 0,ze G.aq [zd 2,zd 1,zd 3]]) (ρ:=ρw rl (th "call" [.int i,.tup a,.tup b]) hd "call" Á Á Á) (h:=h) (l:=(hs.zip b).map λp=>(W.str p.1,p.2)) (λ_ _=>Ã) (λx y=>.tup [x,.int (wv G rl hd y)])
   (by simp![eT,w9,yA,JH,ei,Kq,eD,rR])
   (λv hv H'=>rfl)
   (λv hv _ H'=>by
    obtain⟨p,hp,rfl⟩:=zp.mp hv;have hb:p.2∈b:=(qu (show(p.1,p.2)∈hs.zip b from hp)).2;have Ax:p.2∈a++b:=zA.mpr (.inr hb)
    simp![H.at (op _ Ax) (dp _ Ax) q H',zv,c2])
   (λv hv _=>by
    obtain⟨p,hp,rfl⟩:=zp.mp hv
    simp[low,lows])
   (by rw[zF];exact zz P6 (by decide))
  rw[filter_true,z9] at cz;have cs:=xh (mi:=kc (zh zt (zd 1) (OJ 2))) (ks:=[0,2]) (t:=vn) (m:=ze G.aq [zd 1,zd 0,zd 2]) (ρ:=ρw rl (th "call" [.int i,.tup a,.tup b]) hd "call" (À (.fdc (x9 [] ((hs.zip b).map λp=>(Ě p.1,W.int (wv G rl hd p.2)))))) Á Á) (h:=h) (l:=a) (λ_=>Ã) (λv=>.int (wv G rl hd v))
   (by simp![kc,lQ,srcOf])
   (λv hv H'=>rfl)
   (λv hv _ H'=>by
    have Ax:v∈a++b:=zA.mpr (.inl hv)
    simp![H.at (op _ Ax) (dp _ Ax) q H'])
   (λv hv _=>by unfold low;rfl)
   (zz la (by decide))
  rw[filter_true] at cs;have e3:=ints_map a λv=>wv G rl hd v
  have pm:=QG (hs.zip b) λv=>wv G rl hd v
  have km:=WF (hs.zip b) λv=>wv G rl hd v
  have EZ:=(HB i hi).at (hd:=x9 [] ((hs.zip b).map λp=>(Ě p.1,W.int (wv G rl hd p.2)))) ob db P5 h;have Ha:(hs.zip b).length<=1000:=by omega
  rw[l4,zw (start _ _ rfl h),zw (oQ (dx _ _ rfl) ∅ ⋯),zw (JD ⋯)];refine w8 ?_;have s1:(zC (ze gP [kq (eT [zh zt (zh zt (zd 0) (zh zt (zd 1) (OJ 1))) (OJ 1),zh zt (zd 1) (OJ 3)]) 2 [0,2] (vF [zl 0,zl 1]) vn (ze zv [zd 0,ze G.aq [zd 2,zd 1,zd 3]])]) (zl 4)) (ρw rl (th "call" [.int i,.tup a,.tup b]) hd "call" Á Á Á) h=À (.nx (ρw rl (th "call" [.int i,.tup a,.tup b]) hd "call" (À (.fdc (x9 [] ((hs.zip b).map λp=>(Ě p.1,W.int (wv G rl hd p.2)))))) Á Á),h):=by
   refine Vy ((tR cz).trans ?_) rfl;have:(List.map ((λw:W×W=>W.tup [w.fst,W.int (wv G rl hd w.snd)])∘λp:Æ×W=>(W.str p.fst,p.snd)) (hs.zip b))=(hs.zip b).map λp=>.tup [.str p.1,.int (wv G rl hd p.2)]:=rfl
   rw[this];erw[gP,fO,getL,pm,km];rw[zF,zW Ha]
  have s2:(zC (ze gE [kq (kc (zh zt (zd 1) (OJ 2))) 1 [0,2] (zl 0) vn (ze G.aq [zd 1,zd 0,zd 2])]) (zl 5)) (ρw rl (th "call" [.int i,.tup a,.tup b]) hd "call" (À (.fdc (x9 [] ((hs.zip b).map λp=>(Ě p.1,W.int (wv G rl hd p.2)))))) Á Á) h=À (.nx (ρw rl (th "call" [.int i,.tup a,.tup b]) hd "call" (À (.fdc (x9 [] ((hs.zip b).map λp=>(Ě p.1,W.int (wv G rl hd p.2)))))) (À (.int (bv (a.map λv=>wv G rl hd v)))) Á),h):=by
   refine Vy ((tR cs).trans ?_) rfl;erw[gE,qV,getL,e3]
  have t:zD (zh (kf Â) (zd 3) (OZ "call")) (ρw rl (th "call" [.int i,.tup a,.tup b]) hd "call" Á Á Á) h=À (Ã,h):=by simp![kr]
  unfold w3 kM;erw[t,kY];rw[zw s1,zw s2];simp![w9,yA,lQ,ei,EZ,addW,k8]
theorem fQ{rl:List W}(hr:RulesGood rl)(F:Fs):∀(m k n:Nat),3*k+n<=m->n<=3->k<=rl.length->WOk (up m F) rl k n
 | m,k,0,_,_,_=>by intro Hd w hd o;cases o
 | 0,k,n+1,h,_,_=>by omega
 | m+1,k,n+1,h,hn,hk=>tY hr hk (fQ hr F m k n ∅ ∅ hk) λi hi=>fQ hr F m i 3 ∅ ∅ ∅
theorem BF(F:Fs):bf F=zo (YI F) (zo (YO F) (zo (Zq F) (zo (oZ F) (zo (sf F) (zo (JQ F) (zo (Vd F) (Y4 F))))))):=rfl
noncomputable def wd(l:List Æ):Prop:=∀v∈l,pl 1 (.str v)=Ã
noncomputable abbrev kn(N O H:List Æ):W:=.tup [.tup (zk N),.tup (zk O),.tup (zk H)]
def Qo{l:List W}{i:Int}(h0:0<=i)(h1:i<l.length):∃v∈l,atI l i=À v:=by
 have hj:i.toNat<l.length:=by omega
 exact⟨l[i.toNat],qe hj,by unfold atI yB;rw[zW h0,zW h1];simp[hj]⟩
def ff{l:List W}{i:Int}(h0:0<=i)(h1:i<l.length):∃v∈l,∀h,zt (.fls l) (.int i) h=À (v,h):=by
 obtain⟨v,hv,e⟩:=Qo h0 h1;exact⟨v,hv,λh=>by simp[zt,getL,e]⟩
def rE{l:List W}{i:Int}(h0:0<=i)(h1:i<l.length):∃v∈l,∀h,zt (.tup l) (.int i) h=À (v,h):=by
 obtain⟨v,hv,e⟩:=Qo h0 h1;exact⟨v,hv,λh=>by simp[zt,e]⟩
def gS{l:List Æ}{i:Int}(h0:0<=i)(h1:i<l.length):∃v∈l,∀h,zt (.tup (zk l)) (.int i) h=À (.str v,h):=by
 obtain⟨v,hv,e⟩:=rE (l:=zk l) h0 (by rw[kU];exact h1);unfold zk at hv;obtain⟨x,hx,rfl⟩:=zp.mp hv;exact⟨x,hx,e⟩
def ZH{l:List Æ}(h:wd l)(hl:l.length<=4):pl 2 (.tup (zk l))=Ã:=by
 refine xi (by rw[kU];exact hl) λw hw=>?_
 unfold zk at hw;obtain⟨x,hx,rfl⟩:=zp.mp hw;exact h x hx
def XW{l:List Æ}(h:wd l)(hl:l.length<=1000):dt 2 (.tup (zk l))=Ã:=by
 refine du (by rw[kU];exact hl) λw hw=>?_
 unfold zk at hw;obtain⟨x,hx,rfl⟩:=zp.mp hw;exact wn (h x hx)
theorem Kx(l:List Æ):my (.tup (zk l))=l.isEmpty:=by cases l<;>rfl
def il{l:List Æ}{h:MH}(hw:wd l)(hl:l.length<=1000):eqB h (.tup (zk l)) (.tup [])=À l.isEmpty:=by
 rw[ZW (XW hw hl) ∅,Kx]
def QN{x v:W}(hx:pl 1 x=Ã)(hv:pl 1 v=Ã):pl 2 (.tup [x,v])=Ã:=xi (by simp) λw hw=>by
 erw[zj,zx,kE] at hw;rcases hw with rfl | rfl<;>assumption
def y9{x:Æ}{p:Int×Int}{r:List W}(hc:(x==("call":Æ))=Â)(hf:fm x=À p)(hr:r.drop (p.2.toNat-1)=[]):zI (th x r)=[]:=by
 simp[zI,hc,hf,hr]
noncomputable def wo(l:List Æ):Prop:=∀v∈l,v="p" \/ v="q"
def Ky{l:List Æ}(h:wo l):wd l:=λv hv=>by rcases h v hv with rfl | rfl<;>decide +kernel
noncomputable def yy(O:List Æ):List Æ:=([("a":Æ),"b","c","d"]:List Æ)++(O++(O++O))
def ZR(O:List Æ):[W.str "a",.str "b",.str "c",.str "d"]++(Ç 3 (zk O)).flatten=zk (yy O):=by
 simp[yy,zk,Ç]
def ZN{O:List Æ}(h:wd O):wd (yy O):=by
 intro v hv;unfold yy at hv;rcases zA.mp hv with z | z
 .erw[zj,zx,kE] at z
  rcases z with rfl | rfl | rfl | rfl<;>decide +kernel
 .rcases zA.mp z with z | z
  .exact h v z
  .rcases zA.mp z with z | z<;>exact h v z
def rp{O:List Æ}(h:wo O):∀v∈yy O,v∈six:=by
 intro v hv;have o:v∈O->v∈six:=λq=>by rcases h v q with rfl | rfl<;>decide +kernel
 unfold yy at hv;rcases zA.mp hv with z | z
 .have:∀x∈([("a":Æ),"b","c","d"]:List Æ),x∈six:=by decide +kernel
  exact this v z
 .rcases zA.mp z with z | z
  .exact o z
  .rcases zA.mp z with z | z<;>exact o z
def rH(O:List Æ):(yy O).length=4+3*O.length:=by simp[yy];omega
def QE{F:Fs}{ns:List Int}{a:Int}{N O H:List Æ}{rl:List W}{k:Nat}(hl:ns.length<=63)(hN:wd N)(AO:wo O)(hH:wd H)(lN:N.length<=100)(lO:O.length<=100)(lH:H.length<=100) :
  ∃w,(∀h,(step (step (step F))).bQ [kP ns,.int a,kn N O H] h=À (w,h))/\pl 2 w=Ã/\okd rl k H 1 w:=by
 have hO:=Ky AO;have e:=λ(k many:Int) (h:MH) (hm:0<many)=>br (F:=F) (k:=k) (many:=many) (h:=h) hl hm
 generalize step (step F)=G at e;suffices hs:∃w,(∀h,bf G [À (kP ns),À (.int a),À (kn N O H),Á,Á,Á,Á,Á] h=À (.ret w,h))/\pl 2 w=Ã/\okd rl k H 1 w by
  obtain⟨w,e,p,o⟩:=hs;refine⟨w,λh=>xk (n:=2) ?_ (wn p),p,o⟩;erw[kS,zE,kI,kY,zu,ji,Ç,jr,kJ];erw[e h]
 have GM:(1:Nat)<=cap:=by decide
 have GU:(2:Nat)<=cap:=by decide
 have P7:(4:Nat)<=cap:=by decide
 have P8:(6:Nat)<=cap:=by decide
 have s0:∀h,YI G [À (kP ns),À (.int a),À (kn N O H),Á,Á,Á,Á,Á] h=À (.nx [À (kP ns),À (.int a),À (kn N O H),À (.tup (zk N)),À (.tup (zk O)),À (.tup (zk H)),Á,Á],h):=λh=>by
  simp![YI]
 have s1:∀h,YO G [À (kP ns),À (.int a),À (kn N O H),À (.tup (zk N)),À (.tup (zk O)),À (.tup (zk H)),Á,Á] h=À (.nx [À (kP ns),À (.int a),À (kn N O H),À (.tup (zk N)),À (.tup (zk O)),À (.tup (zk H)),À (.int (yk ns a 8)),Á],h):=λh=>by
  simp![YO,e a 8 _ ∅]
 generalize yk ns a 8=d at s1;have row:∀h,bf G [À (kP ns),À (.int a),À (kn N O H),Á,Á,Á,Á,Á] h=zo (Zq G) (zo (oZ G) (zo (sf G) (zo (JQ G) (zo (Vd G) (Y4 G))))) [À (kP ns),À (.int a),À (kn N O H),À (.tup (zk N)),À (.tup (zk O)),À (.tup (zk H)),À (.int d),Á] h:=λh=>by
  rw[BF,zw (s0 h),zw (s1 h)]
 by_cases k2:d<2
 .obtain⟨v,hv,ev⟩:=ff (l:=[.int 0,.int 1,.int 2,.int 3,.int 7,.int 1008]) (ku (ns:=ns) (k:=a+1) (many:=6) ∅).1 (by simpa using (ku (ns:=ns) (k:=a+1) (many:=6) ∅).2)
  refine⟨th "number" [v],λh=>?_,?_,?_⟩
  .rw[row]
   refine w8 ?_;simp![Zq,wf,k2,kx,P8,addW,k8,e (a+1) 6 _ ∅,ev,zv,GU]
  .refine QN ⋯ ?_
   erw[zj,zx,kE] at hv;rcases hv with rfl | rfl | rfl | rfl | rfl | rfl<;>rfl
  .have:∃i,v=.int i:=by
    erw[zj,zx,kE] at hv;rcases hv with rfl | rfl | rfl | rfl | rfl | rfl<;>exact⟨_,rfl⟩
   obtain⟨i,rfl⟩:=this;refine⟨.number i,λp hp=>?_⟩;rw[y9 (p:=(2,2)) ⋯ ⋯ rfl] at hp;simp at hp
 have p2:∀h,Zq G [À (kP ns),À (.int a),À (kn N O H),À (.tup (zk N)),À (.tup (zk O)),À (.tup (zk H)),À (.int d),Á] h=À (.nx [À (kP ns),À (.int a),À (kn N O H),À (.tup (zk N)),À (.tup (zk O)),À (.tup (zk H)),À (.int d),Á],h):=λh=>by
  simp![Zq,wf,k2]
 have eN:=λh=>il (h:=h) hN ∅
 have eH:=λh=>il (h:=h) hH ∅
 have Iu:∀(v:Æ),v∈six->okd rl k H 1 (th "read" [.str v]):=λv P9=>⟨.read v P9,λp hp=>by
  rw[y9 (p:=(2,2)) ⋯ ⋯ rfl] at hp
  simp at hp⟩
 by_cases k3:(d==2)=Ã/\N.isEmpty=Â
 .have hp:(0:Int)<(N.length:Int):=by
   cases N with
   | nil=>simp at k3
   | cons _ _=>erw[zE];omega
  obtain⟨v,hv,ev⟩:=gS (l:=N) (ku (ns:=ns) (k:=a+1) (many:=N.length) hp).1 (ku (ns:=ns) (k:=a+1) (many:=N.length) hp).2;refine⟨th "name" [.str v],λh=>?_,?_,?_⟩
  .rw[row,zw (p2 h)]
   refine w8 ?_;simp![oZ,vj,k3.1,k3.2,eN,zv,kL,kU,addW,k8,e (a+1) N.length _ hp,ev,GU]
  .exact QN ⋯ (hN v hv)
  .refine⟨.name v,λp hp=>?_⟩
   rw[y9 (p:=(2,2)) ⋯ ⋯ rfl] at hp;simp at hp
 have p3:∀h,oZ G [À (kP ns),À (.int a),À (kn N O H),À (.tup (zk N)),À (.tup (zk O)),À (.tup (zk H)),À (.int d),Á] h=À (.nx [À (kP ns),À (.int a),À (kn N O H),À (.tup (zk N)),À (.tup (zk O)),À (.tup (zk H)),À (.int d),Á],h):=λh=>by
  cases q1:(d==2) with
  | false=>simp![oZ,vj,q1]
  | true=>
   have q2:N.isEmpty=Ã:=by
    cases q:N.isEmpty with
    | true=>rfl
    | false=>exact absurd ⟨q1,q⟩ k3
   simp![oZ,vj,q1,eN,zv,q2]
 by_cases k4:(d==3)=Ã/\H.isEmpty=Â
 .have hp:(0:Int)<(H.length:Int):=by
   cases H with
   | nil=>simp at k4
   | cons _ _=>erw[zE];omega
  obtain⟨v,hv,ev⟩:=gS (l:=H) (ku (ns:=ns) (k:=a+1) (many:=H.length) hp).1 (ku (ns:=ns) (k:=a+1) (many:=H.length) hp).2;refine⟨th "do" [.str v],λh=>?_,?_,?_⟩
  .rw[row,zw (p2 h),zw (p3 h)]
   refine w8 ?_;simp![sf,vj,k4.1,k4.2,eH,zv,kL,kU,addW,k8,e (a+1) H.length _ hp,ev,GU]
  .exact QN ⋯ (hH v hv)
  .refine⟨.doo v hv,λp hp=>?_⟩
   rw[y9 (p:=(2,2)) ⋯ ⋯ rfl] at hp;simp at hp
 have p4:∀h,sf G [À (kP ns),À (.int a),À (kn N O H),À (.tup (zk N)),À (.tup (zk O)),À (.tup (zk H)),À (.int d),Á] h=À (.nx [À (kP ns),À (.int a),À (kn N O H),À (.tup (zk N)),À (.tup (zk O)),À (.tup (zk H)),À (.int d),Á],h):=λh=>by
  cases q1:(d==3) with
  | false=>simp![sf,vj,q1]
  | true=>
   have q2:H.isEmpty=Ã:=by
    cases q:H.isEmpty with
    | true=>rfl
    | false=>exact absurd ⟨q1,q⟩ k4
   simp![sf,vj,q1,eH,zv,q2]
 cases k5:(d==4) with
 | true=>
  refine⟨th "ask" [],λh=>?_,by decide +kernel,?_⟩
  .rw[row,zw (p2 h),zw (p3 h),zw (p4 h)]
   refine w8 ?_;simp![JQ,vj,k5,zv,GM]
  .refine⟨.ask,λp hp=>?_⟩
   rw[y9 (p:=(1,1)) ⋯ ⋯ rfl] at hp;simp at hp
 | false=>
  have hp:(0:Int)<((yy O).length:Int):=by rw[rH];omega
  obtain⟨v,hv,ev⟩:=gS (l:=yy O) (ku (ns:=ns) (k:=a+1) (many:=(yy O).length) hp).1 (ku (ns:=ns) (k:=a+1) (many:=(yy O).length) hp).2;have c7:4+(Ç 3 (zk O)).flatten.length<=cap:=by
   have:(Ç 3 (zk O)).flatten.length=3*O.length:=by simp[Ç,zk];omega
   rw[this];exact zz (show 4+3*O.length<=400 by omega) (by decide)
  have Mn:(zk O).length<=1000:=by rw[kU];omega
  refine⟨th "read" [.str v],λh=>?_,QN ⋯ (ZN hO v hv),Iu v (rp AO v hv)⟩;have p6:Vd G [À (kP ns),À (.int a),À (kn N O H),À (.tup (zk N)),À (.tup (zk O)),À (.tup (zk H)),À (.int d),Á] h=À (.nx [À (kP ns),À (.int a),À (kn N O H),À (.tup (zk N)),À (.tup (zk O)),À (.tup (zk H)),À (.int d),À (.tup (zk (yy O)))],h):=by
   rw[<-ZR];have m:∀h,ki (.tup (zk O)) (.int 3) h=À (.tup (Ç 3 (zk O)).flatten,h):=λh=>by
    erw[ki];rw[zW ⟨by omega,by omega,Mn⟩];rfl
   have ad:∀h,addW (.tup [.str "a",.str "b",.str "c",.str "d"]) (.tup (Ç 3 (zk O)).flatten) h=À (.tup ([.str "a",.str "b",.str "c",.str "d"]++(Ç 3 (zk O)).flatten),h):=λh=>by
    erw[addW,k8,zE,kI];rw[zW c7]
   generalize (Ç 3 (zk O)).flatten=Z at m ad;simp![Vd,zv,P7,m,ad]
  rw[row,zw (p2 h),zw (p3 h),zw (p4 h),zw (ρ':=[À (kP ns),À (.int a),À (kn N O H),À (.tup (zk N)),À (.tup (zk O)),À (.tup (zk H)),À (.int d),Á]) (h':=h) (by simp![JQ,vj,k5]),zw p6];simp![Y4,kL,kU,addW,k8,e (a+1) (yy O).length _ hp,ev,zv,GU]
theorem C0(F:Fs):aL F=zo (Vb F) (zo (rK F) (zo (nO F) (zo (Kc F) (zo (tD F) (zo (ZP F) (zo (ZG F) (zo (ZO F) (zo (pW F) (zo (sF F) (iX F)))))))))):=rfl
noncomputable def dS(G:Fs)(ns:List Int)(rl:List W)(d:Nat):Prop:=∀(a:Int) (N O H:List Æ),wd N->wo O->wd H->N.length+d<=20->O.length+d<=20->H.length<=20->
 ∃w,(∀h,G.az [kP ns,.int a,.int (d:Int),kn N O H,.tup rl] h=À (w,h))/\pl (2+2*d) w=Ã/\okd rl rl.length H (d+1) w
noncomputable def Ve(G:Fs)(ns:List Int)(rl:List W)(d:Nat):Prop:=∀(a:Int) (N O H:List Æ),wd N->wo O->wd H->N.length+d<=20->O.length+d<=20->H.length<=20->
 ∃w,(∀h,G.bN [kP ns,.int a,.int ((d:Int)+1),kn N O H,.tup rl] h=À (w,h))/\pl (2+2*(d+1)) w=Ã/\okd rl rl.length H (d+2) w
theorem Sh.tup{rl:List W}{k:Nat}{H:List Æ}{w:W}(h:Sh rl k H w):∃l,w=.tup l:=by cases h<;>exact⟨_,rfl⟩
theorem okd.tup{rl:List W}{k n:Nat}{H:List Æ}{w:W}(h:okd rl k H n w):∃l,w=.tup l:=by
 cases n with
 | zero=>cases h
 | succ n=>exact h.1.tup
def fk{H:List Æ}{p:Int×Int}{r:List W}(sh:Sh rl k H (th x r))(hc:(x==("call":Æ))=Â)(hf:fm x=À p)(hr:∀q∈r.drop (p.2.toNat-1),okd rl k H n q):okd rl k H (n+1) (th x r):=by
 refine⟨sh,λq hq=>hr q ?_⟩;have e:zI (th x r)=r.drop (p.2.toNat-1):=by simp[zI,hc,hf]
 rw[<-e];exact hq
def Xa(h:wd l)(hv:pl 1 (.str v)=Ã):wd (l++[v]):=by
 intro u hu;rcases zA.mp hu with z | z
 .exact h u z
 .simp at z;subst z;exact hv
def Uh{l:List Æ}{v:Æ}(h:wo l)(hv:v="p" \/ v="q"):wo (l++[v]):=λu hu=>by
 rcases zA.mp hu with z | z
 .exact h u z
 .rw[jz.mp z];exact hv
def fE(l:List Æ)(v:Æ):zk l++[.str v]=zk (l++[v]):=by simp[zk]
def ar(e:t ρ h=À (Ã,h))(eA:A ρ h=À (.ret w,h')):zo (kM t A ko) b ρ h=À (.ret w,h'):=by
 refine w8 ?_;unfold kM;rw[e];erw[kY];exact eA
theorem QI(e:t ρ h=À (Â,h)):zo (kM t A ko) b ρ h=b ρ h:=by
 refine zw ?_;unfold kM;rw[e];rfl
def gC(e:t ρ h=À (Ã,h))(eA:A ρ h=À (f,h')):kM t A ko ρ h=À (f,h'):=by
 unfold kM;rw[e];erw[kY];exact eA
theorem xA(e:t ρ h=À (Â,h)):kM t A ko ρ h=À (.nx ρ,h):=by
 unfold kM;rw[e];rfl
noncomputable abbrev ρD(ns:List Int)(a:Int)(d:Int)(K:W)(rl:List W)(o5 o6 o7 o8 o9 o10:Option W):En:=[À (kP ns),À (.int a),À (.int d),À K,À (.tup rl),o5,o6,o7,o8,o9,o10]
def B8{j:Nat}{ρ:En}(e:ρ[i]?=À (À (.int d))):zD (zh gH (zd i) (eC (.int m))) ρ h=À (decide (d<m),h):=by simp![e,wf]
def gq{ρ:En}(e:ρ[i]?=À (À (.int d))):zD (zh (kf Â) (zd i) (eC (.int m))) ρ h=À (d==m,h):=by simp![e,vj]
def m3:ki (.int a) (.int 3) h=À (.int (a*3),h):=by
 have:(small a||small 3)=Ã:=by rw[show small 3=Ã by decide];simp
 erw[ki,this,kY]
def Vz{F:Fs}{ns:List Int}{rl:List W}{d:Nat}(hl:ns.length<=63)(Lu:dt 20 (.tup rl)=Ã)(hd:d+1<=5)(HD:dS (step (step (step F))) ns rl d)(HC:rl≠[]->Ve (step (step (step F))) ns rl d):dS (step (step (step (step F)))) ns rl (d+1):=by
 intro a N O H hN AO hH lN lO lH;have hO:=Ky AO;have e:=λ(k many:Int) (h:MH) (hm:0<many)=>br (F:=step F) (k:=k) (many:=many) (h:=h) hl hm
 have eL:=λ(a:Int)=>QE (F:=F) (ns:=ns) (a:=a) (N:=N) (O:=O) (H:=H) (rl:=rl) (k:=rl.length) hl hN AO hH ∅ ∅ ∅
 generalize step (step (step F))=G at e HD HC eL;have ed:((d+1:Nat):Int)=(d:Int)+1:=by omega
 rw[ed];suffices hs:∃w,(∀h,aL G (ρD ns a ((d:Int)+1) (kn N O H) rl Á Á Á Á Á Á) h=À (.ret w,h))/\pl (2+2*(d+1)) w=Ã/\okd rl rl.length H (d+1+1) w by
  obtain⟨w,e,p,o⟩:=hs;refine⟨w,λh=>xk (n:=2+2*(d+1)) ?_ (wn p),p,o⟩;erw[kS,zE,kI,kY,zu,ji,Ç,jr,kJ];have:=e h;erw[ρD] at this;erw[this]
 have c1:(1:Nat)<=cap:=by decide
 have c2:(2:Nat)<=cap:=by decide
 have c3:(3:Nat)<=cap:=by decide
 have c4:(4:Nat)<=cap:=by decide
 have c5:(5:Nat)<=cap:=by decide
 have s0:∀h,Vb G (ρD ns a ((d:Int)+1) (kn N O H) rl Á Á Á Á Á Á) h=À (.nx (ρD ns a ((d:Int)+1) (kn N O H) rl (À (.int (yk ns a 15))) Á Á Á Á Á),h):=λh=>by
  simp![Vb,e a 15 _ ∅]
 have rg:=ku (ns:=ns) (k:=a) (many:=15) ∅;generalize yk ns a 15=y at s0 rg;have row:∀h,aL G (ρD ns a ((d:Int)+1) (kn N O H) rl Á Á Á Á Á Á) h=zo (rK G) (zo (nO G) (zo (Kc G) (zo (tD G) (zo (ZP G) (zo (ZG G) (zo (ZO G) (zo (pW G) (zo (sF G) (iX G))))))))) (ρD ns a ((d:Int)+1) (kn N O H) rl (À (.int y)) Á Á Á Á Á) h:=λh=>by
  rw[C0,zw (s0 h)]
 have dz:(((d:Int)+1)==0)=Â:=by rw[jA];omega
 by_cases k1:y<2
 .obtain⟨w,ew,p,o⟩:=eL (a+1)
  refine⟨w,λh=>?_,kR p ∅,iT o ∅⟩;rw[row];refine w8 ?_;simp![rK,vj,dz,wf,k1,addW,k8,ew]
 have p1:∀h,rK G (ρD ns a ((d:Int)+1) (kn N O H) rl (À (.int y)) Á Á Á Á Á) h=À (.nx (ρD ns a ((d:Int)+1) (kn N O H) rl (À (.int y)) Á Á Á Á Á),h):=λh=>by
  simp![rK,vj,dz,wf,k1]
 have eR:=λh=>ZW (h:=h) Lu ∅
 have iR:my (.tup rl)=rl.isEmpty:=by cases rl<;>rfl
 by_cases k2:y<4/\rl≠[]
 .obtain⟨w,ew,p,o⟩:=HC k2.2 a N O H hN AO hH ∅ ∅ lH
  refine⟨w,λh=>?_,p,o⟩;have q:rl.isEmpty=Â:=by
   cases rl with
   | nil=>exact absurd rfl k2.2
   | cons _ _=>rfl
  rw[row,zw (p1 h)];refine w8 ?_;simp![nO,wf,k2.1,eR,iR,q,zv,ew]
 have p2:∀h,nO G (ρD ns a ((d:Int)+1) (kn N O H) rl (À (.int y)) Á Á Á Á Á) h=À (.nx (ρD ns a ((d:Int)+1) (kn N O H) rl (À (.int y)) Á Á Á Á Á),h):=λh=>by
  by_cases q1:y<4
  .have q:rl.isEmpty=Ã:=by
    cases rl with
    | nil=>rfl
    | cons _ _=>exact absurd ⟨q1,by simp⟩ k2
   simp![nO,wf,q1,eR,iR,q,zv]
  .simp![nO,wf,q1]
 obtain⟨w1,e1,Hs,o1⟩:=HD (a*3+7) N O H hN AO hH ∅ ∅ lH;have p3:∀h,Kc G (ρD ns a ((d:Int)+1) (kn N O H) rl (À (.int y)) Á Á Á Á Á) h=À (.nx (ρD ns a ((d:Int)+1) (kn N O H) rl (À (.int y)) (À w1) Á Á Á Á),h):=λh=>by
  simp![Kc,m3,addW,k8,y8,e1]
 have Ey:∀h,aL G (ρD ns a ((d:Int)+1) (kn N O H) rl Á Á Á Á Á Á) h=zo (tD G) (zo (ZP G) (zo (ZG G) (zo (ZO G) (zo (pW G) (zo (sF G) (iX G)))))) (ρD ns a ((d:Int)+1) (kn N O H) rl (À (.int y)) (À w1) Á Á Á Á) h:=λh=>by
  rw[row,zw (p1 h),zw (p2 h),zw (p3 h)]
 obtain⟨l1,rfl⟩:=o1.tup;have pS:∀{n:Nat} {v:Æ},pl 1 (.str v)=Ã->pl (n+1) (.str v)=Ã:=λh=>h
 by_cases k4:y<6
 .have hp:(0:Int)<((yy O).length:Int):=by rw[rH];omega
  obtain⟨v,hv,ev⟩:=gS (l:=yy O) (ku (ns:=ns) (k:=a+3) (many:=(yy O).length) hp).1 (ku (ns:=ns) (k:=a+3) (many:=(yy O).length) hp).2;have c7:4+(Ç 3 (zk O)).flatten.length<=cap:=by
   have:(Ç 3 (zk O)).flatten.length=3*O.length:=by simp[Ç,zk];omega
   rw[this];exact zz (show 4+3*O.length<=400 by omega) (by decide)
  have Mn:(zk O).length<=1000:=by rw[kU];omega
  refine⟨th "write" [.str v,.tup l1],λh=>?_,?_,?_⟩
  .rw[Ey]
   refine w8 ?_;have m:∀h,ki (.tup (zk O)) (.int 3) h=À (.tup (Ç 3 (zk O)).flatten,h):=λh=>by
    erw[ki];rw[zW ⟨by omega,by omega,Mn⟩];rfl
   have ad:∀h,addW (.tup [.str "a",.str "b",.str "c",.str "d"]) (.tup (Ç 3 (zk O)).flatten) h=À (.tup ([.str "a",.str "b",.str "c",.str "d"]++(Ç 3 (zk O)).flatten),h):=λh=>by
    erw[addW,k8,zE,kI];rw[zW c7]
   rw[ZR] at ad;generalize (Ç 3 (zk O)).flatten=Z at m ad;have a3:∀h,addW (.int a) (.int 3) h=À (.int (a+3),h):=λh=>by simp[addW,k8]
   unfold tD;refine gC ((B8 (j:=0) rfl).trans (by simp[k4])) ?_;rw[zw (ρ':=ρD ns a ((d:Int)+1) (kn N O H) rl (À (.int y)) (À (.tup l1)) (À (.tup (zk (yy O)))) Á Á Á) (h':=h) (by simp![zv,c4,yA,m,ad])];simp![kL,kU,a3,e (a+3) (yy O).length _ hp,ev,zv,c3]
  .rw[show 2+2*(d+1)=(2*d+3)+1 by omega]
   refine xi (by simp) λw hw=>?_
   erw[zj,zx,kE] at hw;rcases hw with rfl | rfl | rfl
   .exact pS ⋯
   .exact pS (ZN hO v hv)
   .exact kR Hs ∅
  .refine fk (p:=(3,2)) (.write v (rp AO v hv) l1) ⋯ ⋯ λq hq=>?_
   simp at hq;subst hq;exact o1
 have p4:∀h,tD G (ρD ns a ((d:Int)+1) (kn N O H) rl (À (.int y)) (À (.tup l1)) Á Á Á Á) h=À (.nx (ρD ns a ((d:Int)+1) (kn N O H) rl (À (.int y)) (À (.tup l1)) Á Á Á Á),h):=λh=>
  xA ((B8 (j:=0) rfl).trans (by simp[k4]))
 cases k5:(y==6) with
 | true=>
  refine⟨th "say" [.tup l1],λh=>?_,?_,?_⟩
  .rw[Ey,zw (p4 h)]
   refine ar ((gq rfl).trans (by rw[k5])) ?_;simp![zv,c2]
  .rw[show 2+2*(d+1)=(2*d+3)+1 by omega]
   refine xi (by simp) λw hw=>?_
   erw[zj,zx,kE] at hw;rcases hw with rfl | rfl
   .exact pS ⋯
   .exact kR Hs ∅
  .refine fk (p:=(2,1)) (.say l1) ⋯ ⋯ λq hq=>?_
   simp at hq;subst hq;exact o1
 | false=>
 have p5:∀h,ZP G (ρD ns a ((d:Int)+1) (kn N O H) rl (À (.int y)) (À (.tup l1)) Á Á Á Á) h=À (.nx (ρD ns a ((d:Int)+1) (kn N O H) rl (À (.int y)) (À (.tup l1)) Á Á Á Á),h):=λh=>
  xA ((gq rfl).trans (by rw[k5]))
 have a3:∀h,addW (.int a) (.int 3) h=À (.int (a+3),h):=λh=>by simp[addW,k8]
 cases k6:(y==7) with
 | true=>
  obtain⟨v',hv,ev⟩:=ff (l:=[.str "x",.str "y",.str "x1"]) (ku (ns:=ns) (k:=a+3) (many:=3) ∅).1 (by simpa using (ku (ns:=ns) (k:=a+3) (many:=3) ∅).2);have:∃v:Æ,v'=.str v/\pl 1 (.str v)=Ã:=by
   erw[zj,zx,kE] at hv;rcases hv with rfl | rfl | rfl<;>exact⟨_,rfl,by decide +kernel⟩
  obtain⟨v,rfl,pv⟩:=this;obtain⟨w2,e2,A3,o2⟩:=HD (a*3+23) (N++[v]) O H (Xa hN pv) AO hH (by simp;omega) ∅ lH;obtain⟨l2,rfl⟩:=o2.tup;have a4:∀h,addW (.tup (zk N)) (.tup [.str v]) h=À (.tup (zk (N++[v])),h):=λh=>by
   rw[<-fE];erw[addW,k8,zE,kI,kU];rw[zW (zz (show N.length+(0+1)<=100 by omega) (by decide))]
  have a5:∀h,gG (kn N O H) (À 1) Á h=À (.tup [.tup (zk O),.tup (zk H)],h):=λh=>by simp[gG,Yl]
  have a6:∀h,addW (.tup [.tup (zk (N++[v]))]) (.tup [.tup (zk O),.tup (zk H)]) h=À (kn (N++[v]) O H,h):=λh=>by
   erw[addW,k8,zE,kI];rw[zW (by decide)];rfl
  have a7:∀h,addW (.int (a*3)) (.int 23) h=À (.int (a*3+23),h):=λh=>by simp[addW,k8]
  refine⟨th "let" [.str v,.tup l1,.tup l2],λh=>?_,?_,?_⟩
  .rw[Ey,zw (p4 h),zw (p5 h)]
   refine ar ((gq rfl).trans (by rw[k6])) ?_;rw[zw (ρ':=ρD ns a ((d:Int)+1) (kn N O H) rl (À (.int y)) (À (.tup l1)) Á (À (.str v)) Á Á) (h':=h) (by simp![kx,c3,a3,e (a+3) 3 _ ∅,ev])];simp![m3,a7,y8,w9,zv,c1,c4,a4,yT,bS,a5,a6,e2]
  .rw[show 2+2*(d+1)=(2*d+3)+1 by omega]
   refine xi (by simp) λw hw=>?_
   erw[zj,zx,kE] at hw;rcases hw with rfl | rfl | rfl | rfl
   .exact pS ⋯
   .exact pS pv
   .exact kR Hs ∅
   .exact kR A3 ∅
  .refine fk (p:=(4,2)) (.lett v l1 l2) ⋯ ⋯ λq hq=>?_
   simp at hq;rcases hq with rfl | rfl
   .exact o1
   .exact o2
 | false=>
 have p6:∀h,ZG G (ρD ns a ((d:Int)+1) (kn N O H) rl (À (.int y)) (À (.tup l1)) Á Á Á Á) h=À (.nx (ρD ns a ((d:Int)+1) (kn N O H) rl (À (.int y)) (À (.tup l1)) Á Á Á Á),h):=λh=>
  xA ((gq rfl).trans (by rw[k6]))
 cases k7:(y==8) with
 | true=>
  obtain⟨v',hv,ev⟩:=ff (l:=[.str "p",.str "q"]) (ku (ns:=ns) (k:=a+3) (many:=2) ∅).1 (by simpa using (ku (ns:=ns) (k:=a+3) (many:=2) ∅).2);have:∃v:Æ,v'=.str v/\pl 1 (.str v)=Ã/\(v="p" \/ v="q"):=by
   erw[zj,zx,kE] at hv;rcases hv with rfl | rfl
   .exact⟨_,rfl,by decide +kernel,.inl rfl⟩
   .exact⟨_,rfl,by decide +kernel,.inr rfl⟩
  obtain⟨v,rfl,pv,NS⟩:=this;obtain⟨w2,e2,A3,o2⟩:=HD (a*3+23) N (O++[v]) H hN (Uh AO NS) hH ∅ (by simp;omega) lH;obtain⟨l2,rfl⟩:=o2.tup;have a4:∀h,addW (.tup (zk O)) (.tup [.str v]) h=À (.tup (zk (O++[v])),h):=λh=>by
   rw[<-fE];erw[addW,k8,zE,kI,kU];rw[zW (zz (show O.length+(0+1)<=100 by omega) (by decide))]
  have a7:∀h,addW (.int (a*3)) (.int 23) h=À (.int (a*3+23),h):=λh=>by simp[addW,k8]
  refine⟨th "own" [.str v,.tup l1,.tup l2],λh=>?_,?_,?_⟩
  .rw[Ey,zw (p4 h),zw (p5 h),zw (p6 h)]
   refine ar ((gq rfl).trans (by rw[k7])) ?_;rw[zw (ρ':=ρD ns a ((d:Int)+1) (kn N O H) rl (À (.int y)) (À (.tup l1)) Á (À (.str v)) Á Á) (h':=h) (by simp![kx,c2,a3,e (a+3) 2 _ ∅,ev])];rw[zw (ρ':=ρD ns a ((d:Int)+1) (kn N O H) rl (À (.int y)) (À (.tup l1)) Á (À (.str v)) (À (kn N (O++[v]) H)) Á) (h':=h) (by simp![zv,c1,c3,w9,yA,lQ,a4])];simp![m3,a7,y8,zv,c4,e2]
  .rw[show 2+2*(d+1)=(2*d+3)+1 by omega]
   refine xi (by simp) λw hw=>?_
   erw[zj,zx,kE] at hw;rcases hw with rfl | rfl | rfl | rfl
   .exact pS ⋯
   .exact pS pv
   .exact kR Hs ∅
   .exact kR A3 ∅
  .refine fk (p:=(4,2)) (.own v NS l1 l2) ⋯ ⋯ λq hq=>?_
   simp at hq;rcases hq with rfl | rfl
   .exact o1
   .exact o2
 | false=>
 have p7:∀h,ZO G (ρD ns a ((d:Int)+1) (kn N O H) rl (À (.int y)) (À (.tup l1)) Á Á Á Á) h=À (.nx (ρD ns a ((d:Int)+1) (kn N O H) rl (À (.int y)) (À (.tup l1)) Á Á Á Á),h):=λh=>
  xA ((gq rfl).trans (by rw[k7]))
 obtain⟨w2,e2,A3,o2⟩:=HD (a*3+41) N O H hN AO hH ∅ ∅ lH;obtain⟨l2,rfl⟩:=o2.tup;have a8:∀h,addW (.int (a*3)) (.int 41) h=À (.int (a*3+41),h):=λh=>by simp[addW,k8]
 have p8:∀h,pW G (ρD ns a ((d:Int)+1) (kn N O H) rl (À (.int y)) (À (.tup l1)) Á Á Á Á) h=À (.nx (ρD ns a ((d:Int)+1) (kn N O H) rl (À (.int y)) (À (.tup l1)) Á Á Á (À (.tup l2))),h):=λh=>by
  simp![pW,m3,a8,y8,e2]
 have Iv:∀h,aL G (ρD ns a ((d:Int)+1) (kn N O H) rl Á Á Á Á Á Á) h=zo (sF G) (iX G) (ρD ns a ((d:Int)+1) (kn N O H) rl (À (.int y)) (À (.tup l1)) Á Á Á (À (.tup l2))) h:=λh=>by
  rw[Ey,zw (p4 h),zw (p5 h),zw (p6 h),zw (p7 h),zw (p8 h)]
 cases k9:(y==9) with
 | true=>
  obtain⟨w3,e3,Ra,o3⟩:=HD (a*3+61) N O H hN AO hH ∅ ∅ lH;obtain⟨l3,rfl⟩:=o3.tup;have a9:∀h,addW (.int (a*3)) (.int 61) h=À (.int (a*3+61),h):=λh=>by simp[addW,k8]
  refine⟨th "if" [.tup l1,.tup l2,.tup l3],λh=>?_,?_,?_⟩
  .rw[Iv]
   refine ar ((gq rfl).trans (by rw[k9])) ?_;simp![m3,a9,y8,zv,c4,e3]
  .rw[show 2+2*(d+1)=(2*d+3)+1 by omega]
   refine xi (by simp) λw hw=>?_
   erw[zj,zx,kE] at hw;rcases hw with rfl | rfl | rfl | rfl
   .exact pS ⋯
   .exact kR Hs ∅
   .exact kR A3 ∅
   .exact kR Ra ∅
  .refine fk (p:=(4,1)) (.iff l1 l2 l3) ⋯ ⋯ λq hq=>?_
   simp at hq;rcases hq with rfl | rfl | rfl
   .exact o1
   .exact o2
   .exact o3
 | false=>
 have NT:0<=y-10/\y-10<5:=by
  rw[jA] at k5 k6 k7 k9;omega
 obtain⟨v',hv,ev⟩:=ff (l:=[.tup [.str "then"],.tup [.str "add"],.tup [.str "less"],.tup [.str "loop"],.tup [.str "then"]]) (i:=y-10) NT.1 (by simpa using NT.2);have:∃x:Æ,v'=.tup [.str x]/\pl 1 (.str x)=Ã/\(x==("call":Æ))=Â/\fm x=À (3,1)/\Sh rl rl.length H (th x [.tup l1,.tup l2]):=by
  erw[zj,zx,kE] at hv;rcases hv with rfl | rfl | rfl | rfl | rfl
  .exact⟨_,rfl,by decide +kernel,by decide +kernel,by decide +kernel,.thenn l1 l2⟩
  .exact⟨_,rfl,by decide +kernel,by decide +kernel,by decide +kernel,.add l1 l2⟩
  .exact⟨_,rfl,by decide +kernel,by decide +kernel,by decide +kernel,.less l1 l2⟩
  .exact⟨_,rfl,by decide +kernel,by decide +kernel,by decide +kernel,.loop l1 l2⟩
  .exact⟨_,rfl,by decide +kernel,by decide +kernel,by decide +kernel,.thenn l1 l2⟩
 obtain⟨x,rfl,px,hc,hf,sh⟩:=this;refine⟨th x [.tup l1,.tup l2],λh=>?_,?_,?_⟩
 .rw[Iv]
  unfold sF;rw[QI ((gq rfl).trans (by rw[k9]))];have Rb:∀h,addW (.tup [.str x]) (.tup [.tup l1,.tup l2]) h=À (th x [.tup l1,.tup l2],h):=λh=>by
   erw[addW,k8,zE,kI];rw[zW (by decide)];rfl
  simp![iX,zv,kx,c1,c2,c5,y8,ev,Rb]
 .rw[show 2+2*(d+1)=(2*d+3)+1 by omega]
  refine xi (by simp) λw hw=>?_
  erw[zj,zx,kE] at hw;rcases hw with rfl | rfl | rfl
  .exact pS px
  .exact kR Hs ∅
  .exact kR A3 ∅
 .refine fk (p:=(3,1)) sh hc hf λq hq=>?_
  simp at hq;rcases hq with rfl | rfl
  .exact o1
  .exact o2
def Qf{ns:List Int}(hl:ns.length<=63):dS (step (step (step (step F)))) ns rl 0:=by
 intro a N O H hN AO hH lN lO lH;have hO:=Ky AO;have e:=λ(k many:Int) (h:MH) (hm:0<many)=>br (F:=step F) (k:=k) (many:=many) (h:=h) hl hm
 obtain⟨w,ew,p,o⟩:=QE (F:=F) (ns:=ns) (a:=a+1) (N:=N) (O:=O) (H:=H) (rl:=rl) (k:=rl.length) hl hN AO hH ∅ ∅ ∅;generalize step (step (step F))=G at e ew;refine⟨w,λh=>xk (n:=2) ?_ (wn p),p,o⟩;simp![aL,Vb,rK,nO,Kc,tD,ZP,ZG,ZO,pW,sF,iX,e a 15 _ ∅,vj,addW,k8,ew]
theorem Ct(F:Fs):bI F=zo (Yh F) (zo (Yk F) (zo (Yw F) (zo (YG F) (YB F)))):=rfl
theorem B7(F:Fs):bu F=zo (Ym F) (zo (BS F) (DA F)):=rfl
structure RG(rl:List W):Prop where
 l:rl.length<=4
 g:∀i,i<rl.length->∃(N hs:List Æ) (body:W),rl[i]?=À (.tup [.tup (zk N),.tup (zk hs),body])/\N.length<=2/\hs.length<=2/\wd N/\wd hs/\pl 6 body=Ã/\okd rl i hs 3 body/\hs.Nodup
theorem RG.pl(h:RG rl):pl 8 (.tup rl)=Ã:=by
 refine xi h.l λw hw=>?_
 obtain⟨i,hi,rfl⟩:=List.mem_iff_getElem.mp hw;obtain⟨N,hs,body,e,l1,l2,w1,w2,p,o⟩:=h.g i hi;rw[zP hi] at e;injection e with e;rw[e];refine xi (by simp) λv hv=>?_
 erw[zj,zx,kE] at hv;rcases hv with rfl | rfl | rfl
 .exact kR (ZH w1 ∅) ∅
 .exact kR (ZH w2 ∅) ∅
 .exact p
def RG.good(h:RG rl):RulesGood rl:=⟨λi hi=>by
 obtain⟨N,hs,body,e,l1,l2,w1,w2,p,o⟩:=h.g i hi
 exact⟨zk N,hs,body,e,vi (wn p) ∅,o.1,by omega⟩⟩
def Sh.more{H:List Æ}(h:Sh rl k H w):Sh (rl++[r]) k H w:=by
 cases h with
 | call i a b hi ns hs body e lb=>exact .call i a b hi ns hs body (lb:=lb) (by rw[zY (zJ.mp e).1];exact e)
 | number i=>exact .number i
 | name v=>exact .name v
 | read v hv=>exact .read v hv
 | doo v hv=>exact .doo v hv
 | ask=>exact .ask
 | write v hv a=>exact .write v hv a
 | say a=>exact .say a
 | lett v a b=>exact .lett v a b
 | own v hv a b=>exact .own v hv a b
 | add a b=>exact .add a b
 | less a b=>exact .less a b
 | thenn a b=>exact .thenn a b
 | loop a b=>exact .loop a b
 | iff a b c=>exact .iff a b c
theorem iG{H:List Æ}:∀{n:Nat} {w:W},okd rl k H n w->okd (rl++[r]) k H n w
 | 0,_,h=>by cases h
 | n+1,w,h=>⟨h.1.more,λp hp=>iG (h.2 p hp)⟩
def RG.snoc{rl:List W}(h:RG rl)(hl:rl.length<=3){N hs:List Æ}(l1:N.length<=2)(l2:hs.length<=2)(w1:wd N)(w2:wd hs)(p:K40.pl 6 body=Ã)(o:okd rl rl.length hs 3 body)(Rc:hs.Nodup):RG (rl++[.tup [.tup (zk N),.tup (zk hs),body]]):=by
 refine⟨by simp;omega,λi hi=>?_⟩;by_cases c:i<rl.length
 .obtain⟨N',xI,hX,e,a1,a2,a3,a4,a5,a6⟩:=h.g i c
  exact⟨N',xI,hX,by rw[zY c];exact e,a1,a2,a3,a4,a5,iG a6.1,a6.2⟩
 .have:i=rl.length:=by simp at hi;omega
  subst this;exact⟨N,hs,body,by simp,l1,l2,w1,w2,p,iG o,Rc⟩
def m5:ki (.int 5) (.int a) h=À (.int (5*a),h):=by
 have:(small 5||small a)=Ã:=by rw[show small 5=Ã by decide];rfl
 erw[ki,this,kY]
def m7:ki (.int 7) (.int a) h=À (.int (7*a),h):=by
 have:(small 7||small a)=Ã:=by rw[show small 7=Ã by decide];rfl
 erw[ki,this,kY]
noncomputable abbrev ρC(ns:List Int)(a d:Int)(K:W)(rl:List W)(o5 o6 o7 o8:Option W):En:=[À (kP ns),À (.int a),À (.int d),À K,À (.tup rl),o5,o6,o7,o8]
theorem nY{G:Fs}{rl:List W}{N O H:List Æ}(HD:dS G ns rl d)(hN:wd N)(hO:wo O)(hH:wd H)(lN:N.length+d<=20)(lO:O.length+d<=20)(lH:H.length<=20) :
  ∀is:List Int,∃ws:List W,ws.length=is.length/\(∀w∈ws,pl (2+2*d) w=Ã/\okd rl rl.length H (d+1) w)/\∀(h0:MH) (acc:List W) (o5 o6 o8:Option W),acc.length+is.length<=1000->
   ∃o,forL (zl 8) (ya (kH j3 (zd 7) [ze G.az [zd 0,zh addW (zh addW (zh ki (zd 1) (OJ 3)) (OJ 7)) (zh ki (OJ 5) (zd 8)),zh y8 (zd 2) (OJ 1),zd 3,zd 4]])) (is.map W.int) (ρC ns a ((d:Int)+1) (kn N O H) rl o5 o6 (À (.ref h0.length)) o8) (h0++[.lst acc]) =
    À (.nx (ρC ns a ((d:Int)+1) (kn N O H) rl o5 o6 (À (.ref h0.length)) o),h0++[.lst (acc++ws)])
 | []=>⟨[],rfl,λw hw=>by simp at hw,λh0 acc o5 o6 o8 _=>⟨o8,by simp[forL]⟩⟩
 | i::is=>by
  obtain⟨ws,h1,h2,h3⟩:=nY (a:=a) HD hN hO hH lN lO lH is;obtain⟨w,ew,p,o⟩:=HD (a*3+7+5*i) N O H hN hO hH lN lO lH;refine⟨w::ws,by simp[h1],λv hv=>?_,λh0 acc o5 o6 o8 hc=>?_⟩
  .rcases zj.mp hv with rfl | z
   .exact⟨p,o⟩
   .exact h2 v z
  .erw[zE] at hc
   obtain⟨o',e⟩:=h3 h0 (acc++[w]) o5 o6 (À (.int i)) (by simp;omega);refine⟨o',?_⟩;erw[zu];unfold forL;have g:zl 8 (.int i) (ρC ns a ((d:Int)+1) (kn N O H) rl o5 o6 (À (.ref h0.length)) o8) (h0++[.lst acc])=À (ρC ns a ((d:Int)+1) (kn N O H) rl o5 o6 (À (.ref h0.length)) (À (.int i)),h0++[.lst acc]):=by simp[zl]
   rw[g];have Ee:acc.length<cap:=zO (show acc.length<1000 by omega) (by decide);have b:(ya (kH j3 (zd 7) [ze G.az [zd 0,zh addW (zh addW (zh ki (zd 1) (OJ 3)) (OJ 7)) (zh ki (OJ 5) (zd 8)),zh y8 (zd 2) (OJ 1),zd 3,zd 4]])) (ρC ns a ((d:Int)+1) (kn N O H) rl o5 o6 (À (.ref h0.length)) (À (.int i))) (h0++[.lst acc])=À (.nx (ρC ns a ((d:Int)+1) (kn N O H) rl o5 o6 (À (.ref h0.length)) (À (.int i))),h0++[.lst (acc++[w])]):=by
    simp![kH,getL,at0,j3,FW,m3,m5,addW,k8,y8,ew,Ee]
   erw[b];rw[e];simp
def m8(n:Nat):upto n=((_root_.List.range n).map λ(i:Nat)=>(i:Int)).map W.int:=by simp[upto]
def QS{ns:List Int}(hl:ns.length<=63)(Hb:RG rl)(Am:rl≠[])(HD:dS (step (step F)) ns rl d):Ve (step (step (step F))) ns rl d:=by
 intro a N O H hN hO hH lN lO lH;have e:=λ(k many:Int) (h:MH) (hm:0<many)=>br (F:=F) (k:=k) (many:=many) (h:=h) hl hm
 generalize step (step F)=G at e HD;have hp:(0:Int)<(rl.length:Int):=by
  cases rl with
  | nil=>exact absurd rfl Am
  | cons _ _=>erw[zE];omega
 have rg:=ku (ns:=ns) (k:=a+3) (many:=rl.length) hp;have er:=λh=>e (a+3) rl.length h hp
 obtain⟨j,hj⟩:=yg rg.1;rw[hj] at rg er;have IV:j<rl.length:=by omega
 obtain⟨N',xI,hX,eb,b1,b2,b3,b4,b5,b6⟩:=Hb.g j IV;have ei:∀h,zt (.tup rl) (.int (j:Int)) h=À (.tup [.tup (zk N'),.tup (zk xI),hX],h):=λh=>YS ∅ ∅ (by simpa using eb)
 obtain⟨ws,h1,h2,h3⟩:=nY (a:=a) HD hN hO hH lN lO lH ((_root_.List.range (N'.length+xI.length)).map λ(i:Nat)=>(i:Int));erw[zF,vU] at h1 h3;refine⟨th "call" [.int (j:Int),.tup (ws.take N'.length),.tup (ws.drop N'.length)],λh=>?_,?_,?_⟩
 .have pw:dt (2+2*(d+1)) (th "call" [.int (j:Int),.tup (ws.take N'.length),.tup (ws.drop N'.length)])=Ã:=by
   rw[show 2+2*(d+1)=(2*d+3)+1 by omega];refine du (by simp) λv hv=>?_
   erw[zj,zx,kE] at hv;rcases hv with rfl | rfl | rfl | rfl
   .have:dt 1 (.str "call")=Ã:=by decide +kernel
    exact vi this ∅
   .rfl
   .exact du (by simp;omega) λu hu=>vi (wn (h2 u (vd hu)).1) ∅
   .exact du (by simp;omega) λu hu=>vi (wn (h2 u (jC hu)).1) ∅
  refine CH (t:=[.lst ws]) ?_ pw;obtain⟨o,e3⟩:=h3 h [] (À (.int (j:Int))) (À (.int (N'.length:Int))) Á (by simp;omega);rw[kJ] at e3;suffices hs:bI G (ρC ns a ((d:Int)+1) (kn N O H) rl Á Á Á Á) h=À (.ret (th "call" [.int (j:Int),.tup (ws.take N'.length),.tup (ws.drop N'.length)]),h++[.lst ws]) by
   erw[kS,zE,kI,kY,zu,ji,Ç,jr,kJ];erw[ρC] at hs;erw[hs]
  have c0:(0:Nat)<=cap:=by decide
  have c4:(4:Nat)<=cap:=by decide
  have s0:Yh G (ρC ns a ((d:Int)+1) (kn N O H) rl Á Á Á Á) h=À (.nx (ρC ns a ((d:Int)+1) (kn N O H) rl (À (.int (j:Int))) Á Á Á),h):=by
   simp![Yh,addW,k8,kL,er]
  have s1:Yk G (ρC ns a ((d:Int)+1) (kn N O H) rl (À (.int (j:Int))) Á Á Á) h=À (.nx (ρC ns a ((d:Int)+1) (kn N O H) rl (À (.int (j:Int))) (À (.int (N'.length:Int))) Á Á),h):=by
   simp![Yk,ei,w9,kL,kU]
  have s2:Yw G (ρC ns a ((d:Int)+1) (kn N O H) rl (À (.int (j:Int))) (À (.int (N'.length:Int))) Á Á) h=À (.nx (ρC ns a ((d:Int)+1) (kn N O H) rl (À (.int (j:Int))) (À (.int (N'.length:Int))) (À (.ref h.length)) Á),h++[.lst []]):=by
   simp![Yw,yY,c0]
  have s3:YG G (ρC ns a ((d:Int)+1) (kn N O H) rl (À (.int (j:Int))) (À (.int (N'.length:Int))) (À (.ref h.length)) Á) (h++[.lst []])=À (.nx (ρC ns a ((d:Int)+1) (kn N O H) rl (À (.int (j:Int))) (À (.int (N'.length:Int))) (À (.ref h.length)) o),h++[.lst ws]):=by
   rw[<-e3];have ir:(yb [zh addW (zd 6) (ze kL [zh zt (zh zt (zd 4) (zd 5)) (OJ 1)])]) (ρC ns a ((d:Int)+1) (kn N O H) rl (À (.int (j:Int))) (À (.int (N'.length:Int))) (À (.ref h.length)) Á) (h++[.lst []])=À (.items (upto (N'.length+xI.length)),h++[.lst []]):=by
    have q:-(2 ^ 62:Int)<=(N'.length:Int)+(xI.length:Int)/\(N'.length:Int)+(xI.length:Int)<2 ^ 62:=by omega
    have q2:((N'.length:Int)+(xI.length:Int)).toNat=N'.length+xI.length:=by omega
    have lw:∀h,kL [.tup (zk xI)] h=À (.int (xI.length:Int),h):=λh=>by simp[kL,kU]
    have ad:∀h,addW (.int (N'.length:Int)) (.int (xI.length:Int)) h=À (.int ((N'.length:Int)+(xI.length:Int)),h):=λh=>by simp[addW,k8]
    have Mo:∀h,gA [.int ((N'.length:Int)+(xI.length:Int))] h=À (.items (upto (N'.length+xI.length)),h):=λh=>by
     unfold gA;simp only;rw[zW q,q2]
    simp![yb,ei,yA,lw,ad,Mo]
   unfold YG kK;rw[ir];simp only;rw[m8]
  have s4:YB G (ρC ns a ((d:Int)+1) (kn N O H) rl (À (.int (j:Int))) (À (.int (N'.length:Int))) (À (.ref h.length)) o) (h++[.lst ws])=À (.ret (th "call" [.int (j:Int),.tup (ws.take N'.length),.tup (ws.drop N'.length)]),h++[.lst ws]):=by
   have t1:=J1 (l:=ws) (k:=N'.length) ∅;have t2:=fu (l:=ws) (k:=N'.length);simp![YB,yT,bS,gG,getL,at0,c8,zv,c4,t1,t2]
  rw[Ct,zw s0,zw s1,zw s2,zw s3,s4]
 .rw[show 2+2*(d+1)=(2*d+3)+1 by omega]
  refine xi (by simp) λv hv=>?_
  erw[zj,zx,kE] at hv;have P4:=Hb.l;rcases hv with rfl | rfl | rfl | rfl
  .have:pl 1 (.str "call")=Ã:=by decide +kernel
   exact kR this ∅
  .have:pl 1 (.int (j:Int))=Ã:=by
    unfold pl;rw[zy];exact⟨kO ∅,kO ∅⟩
   exact kR this ∅
  .exact xi (by simp;omega) λu hu=>kR (h2 u (vd hu)).1 ∅
  .exact xi (by simp;omega) λu hu=>kR (h2 u (jC hu)).1 ∅
 .refine⟨.call j _ _ IV (zk N') xI hX eb (by rw[qC];omega),λp hp=>?_⟩
  rw[qB,qD] at hp;exact(h2 p hp).2
theorem fH{ns:List Int}(hl:ns.length<=63)(Hb:RG rl)(F:Fs):∀(d:Nat),d<=4->∀m,4+2*d<=m->dS (up m F) ns rl d
 | 0,_,m,hm=>by
  obtain⟨m',rfl⟩:∃m',m=m'+4:=⟨m-4,by omega⟩;exact Qf hl
 | d+1,hd,m,hm=>by
  obtain⟨m',rfl⟩:∃m',m=m'+4:=⟨m-4,by omega⟩;have i1:=fH hl Hb F d ∅ (m'+3) ∅;have i2:=fH hl Hb F d ∅ (m'+2) ∅;exact Vz hl (vi (wn Hb.pl) ∅) ∅ i1 λAm=>QS hl Hb Am i2
noncomputable abbrev ρR(ns:List Int)(a:Int)(rl:List W)(o3 o4 o5 o6:Option W):En:=[À (kP ns),À (.int a),À (.tup rl),o3,o4,o5,o6]
noncomputable def Y7(F:Fs):MS:=(zo (zC (zh zt (ze kx [ze zv [],ze zv [OZ "x"],ze zv [OZ "y",OZ "x"]]) (ze F.aa [zd 0,zh addW (zh addW (zd 1) (OJ 1)) (zh ki (OJ 5) (zd 3)),OJ 3])) (zl 4))
 (zo (zC (zh zt (ze kx [ze zv [],ze zv [OZ "f"],ze zv [OZ "f",OZ "g1"]]) (ze F.aa [zd 0,zh addW (zh addW (zd 1) (OJ 2)) (zh ki (OJ 5) (zd 3)),OJ 3])) (zl 5))
 (zo (zC (ze F.az [zd 0,zh addW (zh addW (zd 1) (OJ 20)) (zh ki (OJ 7) (zd 3)),OJ 2,ze zv [zd 4,ze zv [],zd 5],zd 2]) (zl 6))
 (zC (zh addW (zd 2) (ze zv [ze zv [zd 4,zd 5,zd 6]])) (zl 2)))))
theorem lD{G:Fs}(e:∀(k many:Int) (h:MH),0<many->G.aa [kP ns,.int k,.int many] h=À (.int (yk ns k many),h))(HD:∀rl,RG rl->dS G ns rl 2) :
  ∀(is:List Int) (rl:List W),RG rl->rl.length+is.length<=4->∃E4,RG E4/\E4.length=rl.length+is.length/\∀(h:MH) (o3 o4 o5 o6:Option W),∃p3 p4 p5 p6,forL (zl 3) (Y7 G) (is.map W.int) (ρR ns a rl o3 o4 o5 o6) h=À (.nx (ρR ns a E4 p3 p4 p5 p6),h)
 | [],rl,hr,_=>⟨rl,hr,by simp,λh o3 o4 o5 o6=>⟨o3,o4,o5,o6,by simp[forL]⟩⟩
 | i::is,rl,hr,hl=>by
  erw[zE] at hl;have c0:(0:Nat)<=cap:=by decide
  have c1:(1:Nat)<=cap:=by decide
  have c2:(2:Nat)<=cap:=by decide
  have c3:(3:Nat)<=cap:=by decide
  obtain⟨v1,NU,Re⟩:=ff (l:=[.tup [],.tup [.str "x"],.tup [.str "y",.str "x"]]) (ku (ns:=ns) (k:=a+1+5*i) (many:=3) ∅).1 (by simpa using (ku (ns:=ns) (k:=a+1+5*i) (many:=3) ∅).2);have:∃N:List Æ,v1=.tup (zk N)/\N.length<=2/\wd N:=by
   erw[zj,zx,kE] at NU;rcases NU with rfl | rfl | rfl
   .exact⟨[],rfl,by simp,λv hv=>by simp at hv⟩
   .exact⟨["x"],rfl,by simp,λv hv=>by erw[zj,zx,kE] at hv;subst hv;decide +kernel⟩
   .exact⟨["y","x"],rfl,by simp,λv hv=>by erw[zj,zx,kE] at hv;rcases hv with rfl | rfl<;>decide +kernel⟩
  obtain⟨N,rfl,lN,wN⟩:=this;obtain⟨v2,Mp,Rf⟩:=ff (l:=[.tup [],.tup [.str "f"],.tup [.str "f",.str "g1"]]) (ku (ns:=ns) (k:=a+2+5*i) (many:=3) ∅).1 (by simpa using (ku (ns:=ns) (k:=a+2+5*i) (many:=3) ∅).2);have:∃N:List Æ,v2=.tup (zk N)/\N.length<=2/\wd N/\N.Nodup:=by
   erw[zj,zx,kE] at Mp;rcases Mp with rfl | rfl | rfl
   .exact⟨[],rfl,by simp,λv hv=>by simp at hv,by simp⟩
   .exact⟨["f"],rfl,by simp,λv hv=>by erw[zj,zx,kE] at hv;subst hv;decide +kernel,by decide +kernel⟩
   .exact⟨["f","g1"],rfl,by simp,λv hv=>by erw[zj,zx,kE] at hv;rcases hv with rfl | rfl<;>decide +kernel,by decide +kernel⟩
  obtain⟨H,rfl,lH,wH,Rg⟩:=this;obtain⟨w,ew,pw,ow⟩:=HD rl hr (a+20+7*i) N [] H wN (λv hv=>by simp at hv) wH ∅ (by simp) ∅;obtain⟨E4,IX,Ho,ih⟩:=lD (a:=a) e HD is (rl++[.tup [.tup (zk N),.tup (zk H),w]]) (hr.snoc ∅ lN lH wN wH pw ow Rg) (by simp;omega);refine⟨E4,IX,by rw[Ho];simp;omega,λh o3 o4 o5 o6=>?_⟩;obtain⟨p3,p4,p5,p6,e6⟩:=ih h (À (.int i)) (À (.tup (zk N))) (À (.tup (zk H))) (À w);refine⟨p3,p4,p5,p6,?_⟩;erw[zu];unfold forL;have g:zl 3 (.int i) (ρR ns a rl o3 o4 o5 o6) h=À (ρR ns a rl (À (.int i)) o4 o5 o6,h):=by simp[zl]
  rw[g];have cr:rl.length+1<=cap:=zz (show rl.length+1<=10 by omega) (by decide);have a1:∀x y:Int,∀h,addW (.int x) (.int y) h=À (.int (x+y),h):=λx y h=>by simp[addW,k8]
  have a2:∀w h,addW (.tup rl) (.tup [w]) h=À (.tup (rl++[w]),h):=λw h=>by
   erw[addW,k8,zE,kI];rw[zW (by simpa using cr)]
  have Ag:∀h,G.az [kP ns,.int (a+20+7*i),.int 2,.tup [.tup (zk N),.tup [],.tup (zk H)],.tup rl] h=À (w,h):=λh=>ew h
  have b:Y7 G (ρR ns a rl (À (.int i)) o4 o5 o6) h=À (.nx (ρR ns a (rl++[.tup [.tup (zk N),.tup (zk H),w]]) (À (.int i)) (À (.tup (zk N))) (À (.tup (zk H))) (À w)),h):=by
   unfold Y7;rw[zw (ρ':=ρR ns a rl (À (.int i)) (À (.tup (zk N))) o5 o6) (h':=h) (by simp![zv,kx,c0,c1,c2,c3,a1,m5,e (a+1+5*i) 3 _ ∅,Re])];rw[zw (ρ':=ρR ns a rl (À (.int i)) (À (.tup (zk N))) (À (.tup (zk H))) o6) (h':=h) (by simp![zv,kx,c0,c1,c2,c3,a1,m5,e (a+2+5*i) 3 _ ∅,Rf])];rw[zw (ρ':=ρR ns a rl (À (.int i)) (À (.tup (zk N))) (À (.tup (zk H))) (À w)) (h':=h) (by simp![zv,c0,c3,a1,m7,Ag])];simp![zv,c1,c3,a2]
  erw[b];rw[e6]
def UT{ns:List Int}(hl:ns.length<=63)(hm:8<=m):∃rl,RG rl/\∀h,(step (up m F)).aN [kP ns,.int 1] h=À (.tup rl,h):=by
 have HD:=λrl (hr:RG rl)=>fH hl hr F 2 ∅ m ∅
 have e:∀(k many:Int) (h:MH),0<many->(up m F).aa [kP ns,.int k,.int many] h=À (.int (yk ns k many),h):=by
  obtain⟨m',rfl⟩:∃m',m=m'+2:=⟨m-2,by omega⟩;exactλk many h hm=>br (F:=up m' F) hl hm
 generalize up m F=G at e HD;have rg:=ku (ns:=ns) (k:=1) (many:=3) ∅;have e1:=λh=>e 1 3 h ∅
 obtain⟨j,hj⟩:=yg rg.1;rw[hj] at rg e1;obtain⟨E4,IX,Ho,ih⟩:=lD (a:=1) e HD ((_root_.List.range j).map λ(i:Nat)=>(i:Int)) [] ⟨by simp,λi hi=>by simp at hi⟩ (by simp;omega);refine⟨E4,IX,λh=>xk (n:=8) ?_ (wn IX.pl)⟩;obtain⟨p3,p4,p5,p6,e6⟩:=ih h Á Á Á Á;have c0:(0:Nat)<=cap:=by decide
 have s0:Ym G [À (kP ns),À (.int 1),Á,Á,Á,Á,Á] h=À (.nx (ρR ns 1 [] Á Á Á Á),h):=by
  simp![Ym,zv,c0]
 have s1:BS G (ρR ns 1 [] Á Á Á Á) h=À (.nx (ρR ns 1 E4 p3 p4 p5 p6),h):=by
  rw[<-e6];have ir:(yb [ze G.aa [zd 0,zd 1,OJ 3]]) (ρR ns 1 [] Á Á Á Á) h=À (.items (upto j),h):=by
   have q:-(2 ^ 62:Int)<=(j:Int)/\(j:Int)<2 ^ 62:=by omega
   have Mo:∀h,gA [.int (j:Int)] h=À (.items (upto j),h):=λh=>by
    unfold gA;simp only;rw[zW q,jd]
   simp![yb,e1,Mo]
  show(kK _ _ (Y7 G)) _ _=_
  unfold kK;rw[ir];simp only;rw[m8]
 have hs:bu G [À (kP ns),À (.int 1),Á,Á,Á,Á,Á] h=À (.ret (.tup E4),h):=by
  rw[B7,zw s0,zw s1];simp![DA]
 erw[kS,zE,kI,kY,zu,ji,Ç,jr,kJ];erw[hs]
def XG{ns:List Int}{rl:List W}(hl:ns.length<=63)(hm:15<=m)(hr:RG rl):∃w,pl 6 w=Ã/\okd rl rl.length [] 3 w/\∀h,(step (up m F)).aW [kP ns,.int a,.int 2,.tup rl] h=À (w,h):=by
 obtain⟨w,ew,p,o⟩:=fH hl hr F 2 ∅ m ∅ a [] [] [] (λv hv=>by simp at hv) (λv hv=>by simp at hv) (λv hv=>by simp at hv) (by simp) (by simp) (by simp);obtain⟨v,ev⟩:=fQ hr.good F m rl.length 3 (by have:=hr.l;omega) ∅ ∅ _ w [] o (vi (wn p) ∅) (λp hp=>by simp at hp);have e:∀(k many:Int) (h:MH),0<many->(up m F).aa [kP ns,.int k,.int many] h=À (.int (yk ns k many),h):=by
  obtain⟨m',rfl⟩:∃m',m=m'+2:=⟨m-2,by omega⟩;exactλk many h hm=>br (F:=up m' F) hl hm
 generalize up m F=G at e ew ev;have c0:(0:Nat)<=cap:=by decide
 have c2:(2:Nat)<=cap:=by decide
 have c3:(3:Nat)<=cap:=by decide
 have Ag:∀h,G.az [kP ns,.int a,.int 2,.tup [.tup [],.tup [],.tup []],.tup rl] h=À (w,h):=λh=>ew h
 by_cases k:80<v
 .have rg:=ku (ns:=ns) (k:=a) (many:=4) ∅
  have e1:=λh=>e a 4 h ∅
  generalize yk ns a 4=y at rg e1;have:∃c:Æ,(pl 1 (.str c)=Ã/\c∈six)/\∀h,zt (.str "abcd") (.int y) h=À (.str c,h):=by
   have hy:y=0\/y=1\/y=2\/y=3:=by omega
   have hc:(("abcd":Æ).length<=cap):=by decide +kernel
   have hx:("abcd":Æ).cps.toList=[97,98,99,100]:=by decide +kernel
   rcases hy with rfl | rfl | rfl | rfl
   .exact⟨⟨#[97]⟩,by decide +kernel,λh=>by simp[zt,hc,hx,atI,yB]⟩
   .exact⟨⟨#[98]⟩,by decide +kernel,λh=>by simp[zt,hc,hx,atI,yB]⟩
   .exact⟨⟨#[99]⟩,by decide +kernel,λh=>by simp[zt,hc,hx,atI,yB]⟩
   .exact⟨⟨#[100]⟩,by decide +kernel,λh=>by simp[zt,hc,hx,atI,yB]⟩
  obtain⟨c,⟨pc,c6⟩,ec⟩:=this;have pr:pl 2 (th "read" [.str c])=Ã:=QN ⋯ pc;refine⟨th "read" [.str c],kR pr ∅,⟨.read c c6,λq hq=>?_⟩,λh=>xk (n:=2) ?_ (wn pr)⟩
  .rw[y9 (p:=(2,2)) ⋯ ⋯ rfl] at hq
   simp at hq
  .simp![bx,zv,c0,c2,c3,Ag,ev,wf,k,e1,ec]
 .refine⟨w,p,o,λh=>xk (n:=6) ?_ (wn p)⟩
  simp![bx,zv,c0,c2,c3,Ag,ev,wf,k]
noncomputable def jI(k:List Æ):Bool:=decide (k.length<=4)&&k.all λx=>è x&&decide (x.length<=1000)
def ZE(g:jI k=Ã):dt 2 (tupS k)=Ã:=by
 unfold jI at g;rw[zy] at g;have l:=jD g.1;refine du (by simp;omega) λw hw=>?_
 obtain⟨x,hx,rfl⟩:=zp.mp hw;exact zZ.mp g.2 x hx
def Zm{ks:List (List Æ)}(hl:ks.length<=1000)(g:∀k∈ks,jI k=Ã):dt 3 (.fls (ks.map tupS))=Ã:=oY (by simpa using hl) λw hw=>by
 obtain⟨k,hk,rfl⟩:=zp.mp hw;exact ZE (g k hk)
theorem ab(k:List Æ):low m (tupS k)=Ã:=by
 unfold tupS low;exact qr λw hw=>by
  obtain⟨x,_,rfl⟩:=zp.mp hw;unfold low;rfl
def xw(ks:List (List Æ)):low m (.fls (ks.map tupS))=Ã:=by
 unfold low;exact qr λw hw=>by
  obtain⟨k,_,rfl⟩:=zp.mp hw;exact ab k
noncomputable def bw(B:List (List (List Æ))):List W:=B.map λks=>.fls (ks.map tupS)
noncomputable def jS(k:List Æ):Bool:=match k with
 | x::_=>!(x=="do")
 | []=>Ã
noncomputable def itself(B:List (List (List Æ))):W->List (List Æ)
 | .tup (.str x::r)=>if zS ["read","write","do"] (.str x) then (match r with
   | .str v::_=>[[x,v]]
   | _=>[]) else if zS ["say","ask"] (.str x) then [[x]] else if x=="call" then (match r with
   | .int i::_=>((B[i.toNat]?).getD []).filter jS
   | _=>[]) else []
 | _=>[]
def i3(d:dt n (.str x)=Ã)(hn:n<=60):inB h (.str x) (.tup [.str "read",.str "write",.str "do"])=À (zS ["read","write","do"] (.str x)):=dJ (l:=["read","write","do"]) d hn ⋯
def i2(d:dt n (.str x)=Ã)(hn:n<=60):inB h (.str x) (.tup [.str "say",.str "ask"])=À (zS ["say","ask"] (.str x)):=dJ (l:=["say","ask"]) d hn ⋯
def WW{k:List Æ}(hk:k≠[]):∀h,zt (tupS k) (.int 0) h=À (.str (k.headD ""),h):=by
 intro h;cases k with
 | nil=>exact absurd rfl hk
 | cons x r=>simp[tupS,zt,atI,yB]
def Wm{B:List (List (List Æ))}{H:List Æ}(hb:getL h bd=À (bw B))(nb:∀l,bd≠.tup l)(ns:∀z,bd≠.str z)(hB:∀ks∈B,ks.length<=60/\∀k∈ks,k≠[])(hk:k<=B.length)(d:dt 60 w=Ã)(sh:Sh rl k H w) :
  (step F).aB [bd,w] h=À (.fls ((itself B w).map tupS),h):=by
 refine qh (h':=h) ?_ (xw _) (jf _);suffices row:ak F [À bd,À w] h=À (.ret (.fls ((itself B w).map tupS)),h) by
  erw[kS,zE,kI,kY,zu,ji,Ç,jr,kJ];erw[row]
 have c0:(0:Nat)<=cap:=by decide
 have c1:(1:Nat)<=cap:=by decide
 have c2:(2:Nat)<=cap:=by decide
 have c3:(3:Nat)<=cap:=by decide
 have one:∀(x v:Æ) (r:List W),zS ["read","write","do"] (.str x)=Ã->dt 60 (th x (.str v::r))=Ã->ak F [À bd,À (th x (.str v::r))] h=À (.ret (.fls ((itself B (th x (.str v::r))).map tupS)),h):=by
  intro x v r q d;obtain⟨m,e,_,hd⟩:=kX d;cases e;have z3:=i3 (h:=h) (hd (.str x) (by simp)) ∅;rw[q] at z3;have e:itself B (th x (.str v::r))=[[x,v]]:=by erw[th,itself,q,kY]
  rw[e];simp![ak,w9,yA,z3,zv,kx,c1,c2,c3,tupS]
 have two:∀(x:Æ) (r:List W),zS ["read","write","do"] (.str x)=Â->zS ["say","ask"] (.str x)=Ã->dt 60 (th x r)=Ã->ak F [À bd,À (th x r)] h=À (.ret (.fls ((itself B (th x r)).map tupS)),h):=by
  intro x r q q2 d;obtain⟨m,e,_,hd⟩:=kX d;cases e;have z3:=i3 (h:=h) (hd (.str x) (by simp)) ∅;have z2:=i2 (h:=h) (hd (.str x) (by simp)) ∅;rw[q] at z3;rw[q2] at z2;have e:itself B (th x r)=[[x]]:=by erw[th,itself,q,q2,kY,zN,jn]
  rw[e];simp![ak,w9,z3,z2,zv,kx,c1,c2,c3,tupS]
 have non:∀(x:Æ) (r:List W),zS ["read","write","do"] (.str x)=Â->zS ["say","ask"] (.str x)=Â->(x==("call":Æ))=Â->dt 60 (th x r)=Ã->ak F [À bd,À (th x r)] h=À (.ret (.fls ((itself B (th x r)).map tupS)),h):=by
  intro x r q q2 q4 d;obtain⟨m,e,_,hd⟩:=kX d;cases e;have z3:=i3 (h:=h) (hd (.str x) (by simp)) ∅;have z2:=i2 (h:=h) (hd (.str x) (by simp)) ∅;rw[q] at z3;rw[q2] at z2;have e:itself B (th x r)=[]:=by erw[th,itself,q,q2,q4,zN,jn]
  rw[e];simp![ak,w9,z3,z2,kr,q4,zv,kx,c0,c2,c3]
 cases sh with
 | read v hv=>exact one _ v [] ⋯ d
 | doo v hv=>exact one _ v [] ⋯ d
 | write v hv a=>exact one _ v _ ⋯ d
 | ask=>exact two _ _ ⋯ ⋯ d
 | say a=>exact two _ _ ⋯ ⋯ d
 | call i a b hi ns hs body e lb=>
  obtain⟨m,em,_,hd⟩:=kX d;cases em;have z3:=i3 (h:=h) (hd (.str "call") (by simp)) ∅;have z2:=i2 (h:=h) (hd (.str "call") (by simp)) ∅;rw[show zS ["read","write","do"] (.str "call")=Â by decide +kernel] at z3;rw[show zS ["say","ask"] (.str "call")=Â by decide +kernel] at z2;have EJ:i<B.length:=by omega
  obtain⟨lk,nk⟩:=hB B[i] (qe EJ);have e:itself B (th "call" [.int (i:Int),.tup a,.tup b])=B[i].filter jS:=by
   erw[th,itself,show zS ["read","write","do"] (.str "call")=Â by decide +kernel,show zS ["say","ask"] (.str "call")=Â by decide +kernel,jk,kY,zN,jn,jd,zP EJ,v7]
  rw[e];have ei:∀{h'},getL h' bd=À (bw B)->zt bd (.int (i:Int)) h'=À (.fls (B[i].map tupS),h'):=by
   intro h' Ax;have at1:atI (bw B) (i:Int)=À (.fls (B[i].map tupS)):=by
    unfold atI yB bw;rw[zW ∅,zW (by simp;omega)];simp[EJ]
   cases bd with
   | tup l=>exact absurd rfl (nb l)
   | str z=>exact absurd rfl (ns z)
   | fls l=>unfold zt;erw[Ax,at1]
   | ref n=>unfold zt;erw[Ax,at1]
   | _=>cases Ax
  have cm:kq (kc (zh zt (zd 0) (zh zt (zd 1) (OJ 1)))) 1 [] (zl 0) (zD (zh (kf Ã) (zh zt (zd 0) (OJ 0)) (OZ "do"))) (zd 0) [À bd,À (th "call" [.int (i:Int),.tup a,.tup b])] h=À (.fls ((B[i].filter jS).map tupS),h):=by
   refine(xh (l:=B[i].map tupS) (λw=>match w with | .tup (.str x::_)=>!(x=="do") | _=>Ã) id ?_ ?_ ?_ ?_ ?_).trans ?_
   .simp![kc,yA,ei hb,srcOf]
   .intro w hw H'
    obtain⟨k,hk,rfl⟩:=zp.mp hw;cases k with
    | nil=>exact absurd rfl (nk _ hk)
    | cons x r=>
     simp![tupS,w9,kr]
   .intro w hw _ H';simp![]
   .intro w hw _
    obtain⟨k,hk,rfl⟩:=zp.mp hw;exact ab k
   .erw[zF];exact zz lk (by decide)
   .have fe:((λw=>match w with | .tup (.str x::_)=>!(x=="do") | _=>Ã)∘tupS)=jS:=funext λk=>by cases k<;>rfl
    rw[yd,qx,fe]
  simp![ak,w9,z3,z2,kr,zv,c2,c3,cm]
 | number i=>exact non _ _ ⋯ ⋯ ⋯ d
 | name v=>exact non _ _ ⋯ ⋯ ⋯ d
 | lett v a b=>exact non _ _ ⋯ ⋯ ⋯ d
 | own v hv a b=>exact non _ _ ⋯ ⋯ ⋯ d
 | add a b=>exact non _ _ ⋯ ⋯ ⋯ d
 | less a b=>exact non _ _ ⋯ ⋯ ⋯ d
 | thenn a b=>exact non _ _ ⋯ ⋯ ⋯ d
 | loop a b=>exact non _ _ ⋯ ⋯ ⋯ d
 | iff a b c=>exact non _ _ ⋯ ⋯ ⋯ d
theorem xS:∀k:List Æ,strsOf (k.map .str)=À k
 | []=>rfl
 | x::r=>by erw[zu];unfold strsOf;rw[xS r]
def ky(k:List Æ):vc (tupS k)=À k:=xS k
structure Bod(h:MH)(B:List (List (List Æ)))(bd:W):Prop where
 gl:getL h bd=À (bw B)
 nt:∀l,bd≠.tup l
 ns:∀z,bd≠.str z
def Bod.ix{B:List (List (List Æ))}(b:Bod h B bd)(hi:i<B.length):zt bd (.int (i:Int)) h=À (.fls (B[i].map tupS),h):=by
 have Ax:=b.gl;have at1:atI (bw B) (i:Int)=À (.fls (B[i].map tupS)):=by
  unfold atI yB bw;rw[zW ∅,zW (by simp;omega)];simp[hi]
 cases bd with
 | tup l=>exact absurd rfl (b.nt l)
 | str z=>exact absurd rfl (b.ns z)
 | fls l=>unfold zt;erw[Ax,at1]
 | ref n=>unfold zt;erw[Ax,at1]
 | _=>cases Ax
def Bod.more(b:Bod h B bd):Bod (h++t) B bd:=by
 refine⟨?_,b.nt,b.ns⟩;have Ax:=b.gl;cases bd with
 | fls l=>exact Ax
 | ref n=>
  have hb2:(match h[n]? with | some (.lst l)=>À l | _=>Á)=À (bw B):=Ax;show(match (h++t)[n]? with | some (.lst l)=>À l | _=>Á)=À (bw B)
  cases e:h[n]? with
  | none=>rw[e] at hb2;cases hb2
  | some o=>
   rw[zY (zJ.mp e).1,e];rw[e] at hb2;exact hb2
 | _=>cases Ax
theorem io{h:MH}(hn:h.length=n0)(p:W->W->Bool)(f:W->W->W):∀(l:List (W×W)) (acc:List W) (o1 o2:Option W),
  (∀w∈l,∀acc,t (À w.1::À w.2::caps) (h++[.lst acc])=À (p w.1 w.2,h++[.lst acc]))->(∀w∈l,p w.1 w.2=Ã->∀H',m (À w.1::À w.2::caps) H'=À (f w.1 w.2,H'))->acc.length+l.length<=cap->
  y0 2 (vF [zl 0,zl 1]) t m n0 (l.map λw=>.tup [w.1,w.2]) (o1::o2::caps) (h++[.lst acc])=À (h++[.lst (acc++(l.filter λw=>p w.1 w.2).map λw=>f w.1 w.2)])
 | [],acc,_,_,_,_,_=>by simp[y0]
 | (a,b)::l,acc,o1,o2,ht,hf,hl=>by
  have ih:=λEw=>io (caps:=caps) (t:=t) (m:=m) hn p f l Ew Á Á (λw hw=>ht w (zm _ hw)) (λw hw=>hf w (zm _ hw))
  have hb:blank 2 (À a::À b::caps)=Á::Á::caps:=by simp[blank,Ç]
  erw[zu];unfold y0;have hg:vF [zl 0,zl 1] (.tup [a,b]) (o1::o2::caps) (h++[.lst acc])=À (À a::À b::caps,h++[.lst acc]):=by simp[vF,dZ,bnd,zl]
  rw[hg];simp only;rw[ht (a,b) zr];erw[zE] at hl;cases hp:p a b with
  | false=>
   simp only;rw[hb,ih acc ∅];simp[jB,hp]
  | true=>
   simp only;rw[hf (a,b) zr hp];have e1:(h++[MO.lst acc])[n0]?=À (.lst acc):=by rw[<-hn];simp
   have e2:(h++[MO.lst acc]).set n0 (.lst (acc++[f a b]))=h++[.lst (acc++[f a b])]:=by rw[<-hn,qG _ _ (zG _)];simp
   erw[e1];rw[zW ∅,hb,e2,ih (acc++[f a b]) (by rw[zL];simp;omega)];simp[jB,hp]
def CP{ks:List Nat}{ρ:En}{h:MH}{l:List (W×W)}(p:W->W->Bool)(f:W->W->W)(hm:mi ρ h=À (.items (l.map λw=>.tup [w.1,w.2]),h))(ht:∀w∈l,∀acc,t (À w.1::À w.2::ks.map λk=>(ρ[k]?).join) (h++[.lst acc])=À (p w.1 w.2,h++[.lst acc]))
  (hf:∀w∈l,p w.1 w.2=Ã->∀H',m (À w.1::À w.2::ks.map λk=>(ρ[k]?).join) H'=À (f w.1 w.2,H')) (Ex:∀w∈l,p w.1 w.2=Ã->low h.length (f w.1 w.2)=Ã) (hl:l.length<=cap):kq mi 2 ks (vF [zl 0,zl 1]) t m ρ h=À (.fls ((l.filter λw=>p w.1 w.2).map λw=>f w.1 w.2),h):=by
 have e:=io (caps:=ks.map λk=>(ρ[k]?).join) (t:=t) (m:=m) (h:=h) rfl p f l [] Á Á ht hf (by simpa using hl);unfold kq dn;rw[hm];have er:(Ç 2 (Á:Option W)++ks.map λk=>(ρ[k]?).join)=Á::Á::ks.map λk=>(ρ[k]?).join:=rfl
 simp only;rw[er,e];erw[kJ,kZ (zG _),uY,ye];rw[zW];refine⟨jH _ _,qr λw hw=>?_⟩;obtain⟨w',h1,rfl⟩:=zp.mp hw;obtain⟨h2,h3⟩:=zV.mp h1;exact Ex w' h2 h3
theorem iM:∀(k l:List Æ),á (k.map .str) (l.map .str)=decide (k=l)
 | [],[]=>by simp[á]
 | [],_::_=>by simp[á]
 | _::_,[]=>by simp[á]
 | x::k,y::l=>by
  erw[zu,á,ä,iM k l];by_cases e:x=y
  .subst e;simp
  .have:(x==y)=Â:=jA.mpr e
   simp[this,e]
def d8{k:List Æ}(g:jI k=Ã):kD deep h (tupS k)=À (.tuple (k.map .str)):=by
 rw[yi (ZE g) (show 2<=deep by decide)];unfold tupS toD;erw[z9];congr 2
def Vl{ks:List (List Æ)}(g:∀k∈ks,jI k=Ã):qk (kD deep h) (ks.map tupS)=À (ks.map λk=>.tuple (k.map .str)):=by
 induction ks with
 | nil=>rfl
 | cons k r ih=>
  erw[zu];unfold qk;rw[d8 (g k zr),ih λq hq=>g q (zm _ hq)]
def iH{ks:List (List Æ)}(g:jI k=Ã)(gs:∀k∈ks,jI k=Ã)(hy:qV h y=À (ks.map tupS)):inB h (tupS k) y=À (ks.contains k):=by
 have e3:inB h (tupS k) y=match qV h y with
  | some l=>match kD deep h (tupS k),qk (kD deep h) l with
   | some d,À ds=>À (ds.any λe=>ä e d)
   | _,_=>Á
  | none=>Á:=by unfold inB tupS;rfl
 rw[e3,hy];erw[d8 g,Vl gs];congr 1
 rw[xP,List.contains_eq_any_beq];congr 1
 funext x
 show ä (.tuple (x.map .str)) (.tuple (k.map .str))=(k==x)
 erw[ä,iM];by_cases e:x=k
 .subst e;simp
 .have:(k==x)=Â:=jA.mpr λz=>e z.symm
  simp[this,e]
noncomputable def ja(ks:List (List Æ))(hs:List Æ)(b:List W):List W:=((hs.zip b).filter λp=>ks.contains ["do",p.1]).map (·.2)
def WC{B:List (List (List Æ))}{rl:List W}{b:List W}(Bo:Bod h B bd)(hB:∀ks∈B,∀k∈ks,jI k=Ã)(hi:i<B.length)(IY:i<rl.length)(lr:rl.length<=1000)(e:rl[i]?=À (.tup [.tup ns,.tup (zk hs),body]))(hg:∀x∈hs,jI ["do",x]=Ã)(lb:b.length<=1000)(db:∀w∈b,dt n w=Ã) :
  (step F).aH [.tup rl,bd,.int (i:Int),.tup b] h=À (.tup (ja B[i] hs b),h):=by
 have ei:∀h,zt (.tup rl) (.int (i:Int)) h=À (.tup [.tup ns,.tup (zk hs),body],h):=λh=>YS ∅ ∅ (by simpa using e)
 have ld:(ja B[i] hs b).length<=1000:=by
  unfold ja;rw[zF];refine zz (jb _ _) ?_;rw[vN];omega
 have dd:∀w∈ja B[i] hs b,dt n w=Ã:=λw hw=>by
  unfold ja at hw;obtain⟨p,hp,rfl⟩:=zp.mp hw;exact db _ (qu (zV.mp hp).1).2
 refine xk (n:=n+1) ?_ (du ld dd);have c2:(2:Nat)<=cap:=by decide
 have gB:=hB B[i] (qe hi);have cm:kq (eT [zd 4,zd 3]) 2 [1,2] (vF [zl 0,zl 1]) (zD (zh (vk Â) (ze zv [OZ "do",zd 0]) (zh zt (zd 2) (zd 3)))) (zd 1) [À (.tup rl),À bd,À (.int (i:Int)),À (.tup b),À (.tup (zk hs))] h=À (.fls (ja B[i] hs b),h):=by
  have zs:=rR hs b;refine(CP (l:=(hs.zip b).map λp=>(W.str p.1,p.2)) (λx y=>match x with | .str v=>B[i].contains ["do",v] | _=>Â) (λ_ y=>y) ?_ ?_ ?_ ?_ ?_).trans ?_
  .rw[<-zs]
   simp![eT,Kq,eD]
  .intro w hw acc
   obtain⟨p,hp,rfl⟩:=zp.mp hw;have h1:=(Bo.more (t:=[.lst acc])).ix hi;have h2:=iH (h:=h++[.lst acc]) (k:=["do",p.1]) (ks:=B[i]) (y:=.fls (B[i].map tupS)) (hg _ (qu hp).1) gB rfl;have h3:tupS ["do",p.1]=.tup [.str "do",.str p.1]:=rfl;rw[h3] at h2;rw[List.contains_eq_mem] at h2;simp![zv,c2,h1,h2]
  .intro w hw _ H';simp![]
  .intro w hw _
   obtain⟨p,hp,rfl⟩:=zp.mp hw;exact vE (db _ (qu hp).2)
  .rw[zF,vN];exact zz (show min hs.length b.length<=1000 by omega) (by decide)
  .rw[qx,z9]
   rfl
 simp![aR,ei,yA,cm,c8,getL]
noncomputable def jp(rl:List W)(B:List (List (List Æ))):W->List W
 | .tup [.str x,.int i,.tup a,.tup b]=>if x=="call" then a++ja ((B[i.toNat]?).getD []) (match rl[i.toNat]? with
   | some (.tup [_,.tup l,_])=>(strsOf l).getD []
   | _=>[]) b else zI (.tup [.str x,.int i,.tup a,.tup b])
 | w=>zI w
theorem wm(h:Pn w):jp rl B w=zI w:=by
 cases h with
 | mk x r p hc hf hp=>
  unfold jp th;split
  .rename_i x' i a b e
   cases e;rw[kh (by rw[hc];exact zR)]
  .rfl
def Xk{B:List (List (List Æ))}{rl:List W}{H:List Æ}(Bo:Bod h B bd)(hB:∀ks∈B,∀k∈ks,jI k=Ã)(hk:k<=B.length)(lr:rl.length<=1000)(hg:∀(i:Nat) (ns:List W) (hs:List Æ) (body:W),rl[i]?=À (.tup [.tup ns,.tup (zk hs),body])->∀x∈hs,jI ["do",x]=Ã)(d:dt 60 w=Ã)(sh:Sh rl k H w) :
  (step (step F)).aK [.tup rl,bd,w] h=À (.tup (jp rl B w),h):=by
 have eP:=KJ (F:=F) (h:=h) d sh;rcases sh.split with hp | ⟨i,a,b,ns,hs,body,rfl,hi,e⟩
 .rw[wm hp]
  generalize step F=G at eP;have dp:=cZ (n:=59) d;have lp:=fB d;obtain⟨x,r,p,hc,hf,hq⟩:=hp;refine qh (h':=h) ?_ ?_ (jf _)
  .simp![aM,w9,kr,hc,eP]
  .unfold low
   exact qr λw hw=>vE (dp w hw)
 .have EJ:i<B.length:=by omega
  have IY:i<rl.length:=(zJ.mp e).1;obtain⟨m,em,hl,hd⟩:=kX d;cases em;obtain⟨m1,e1,la,da⟩:=kX (hd (.tup a) (by simp));obtain⟨m2,e2,lb,db⟩:=kX (hd (.tup b) (by simp));have eH:=WC (F:=F) (n:=m2) Bo hB EJ IY lr e (hg i ns hs body e) lb db;generalize step F=G at eH;have ec:jp rl B (th "call" [.int (i:Int),.tup a,.tup b])=a++ja B[i] hs b:=by
   unfold jp th;erw[jk,kY,jd,zP EJ,v7,e];rw[show strsOf (zk hs)=À hs from xS hs];rfl
  rw[ec];have ld:(ja B[i] hs b).length<=b.length:=by
   unfold ja;rw[zF];refine zz (jb _ _) ?_;rw[vN];omega
  have ad:∀h,addW (.tup a) (.tup (ja B[i] hs b)) h=À (.tup (a++ja B[i] hs b),h):=λh=>by
   erw[addW,k8];rw[zW (zz (show a.length+(ja B[i] hs b).length<=2000 by omega) (by decide))]
  have lw:low h.length (.tup (a++ja B[i] hs b))=Ã:=by
   unfold low;refine qr λw hw=>?_
   rcases zA.mp hw with z | z
   .exact vE (da w z)
   .unfold ja at z
    obtain⟨p,hp,rfl⟩:=zp.mp z;exact vE (db _ (qu (zV.mp hp).1).2)
  generalize a++ja B[i] hs b=Z at ad lw;generalize ja B[i] hs b=Y at eH ad;refine qh (h':=h) ?_ lw (jf _);simp![aM,w9,yA,lQ,JH,kr,eH,ad]
noncomputable def hide(hid:List Æ)(v:Æ):List Æ:=if hid.any (· == v) then hid else hid++[v]
noncomputable def kd(rl:List W)(B:List (List (List Æ)))(w:W)(hid:List Æ):List (W×List Æ):=match w with
 | .tup [.str x,.str v,a,b]=>if x=="own" then [(a,hid),(b,hide hid v)] else (jp rl B w).map λp=>(p,hid)
 | w=>(jp rl B w).map λp=>(p,hid)
noncomputable def encP(p:W×List Æ):W:=.tup [p.1,.tup (zk p.2)]
def BU{hid:List Æ}(ho:hid.all è=Ã)(dv:dt 1 (.str v)=Ã)(hl:hid.length<=100):(step F).bA [.tup (zk hid),.str v] h=À (.tup (zk (hide hid v)),h):=by
 have e:=λh=>dJ (h:=h) (w:=.str v) (l:=hid) dv ∅ ho
 have e':∀h,inB h (.str v) (.tup (zk hid))=À (hid.any (· == v)):=e;have c1:(1:Nat)<=cap:=by decide
 have ad:∀h,addW (.tup (zk hid)) (.tup [.str v]) h=À (.tup (zk (hid++[v])),h):=λh=>by
  rw[<-fE];erw[addW,k8,zE,kI,kU];rw[zW (zz (show hid.length+(0+1)<=101 by omega) (by decide))]
 refine qh (h':=h) ?_ ?_ (jf _)
 .unfold hide
  cases q:hid.any (· == v) with
  | true=>simp![aZ,e',q]
  | false=>simp![aZ,e',q,zv,c1,ad]
 .exact ab _
theorem xp(hx:(x==("own":Æ))=Â):kd rl B (th x r) hid=(jp rl B (th x r)).map λp=>(p,hid):=by
 unfold kd th;split
 .rename_i x' v a b e
  cases e;rw[kh (by rw[hx];exact zR)]
 .rfl
structure HidOk(hid:List Æ):Prop where
 nd:hid.Nodup
 pq:∀v∈hid,v="p" \/ v="q"
theorem aw{α:Type}[DecidableEq α]:∀{l m:List α},l.Nodup->(∀x∈l,x∈m)->l.length<=m.length
 | [],_,_,_=>qp _
 | x::l,m,n,h=>by
  obtain⟨n1,n2⟩:=jJ.mp n;have hx:=h x zr;have ih:=aw (m:=m.erase x) n2 λy hy=>by
   have ne:y≠x:=λe=>by subst e;exact n1 hy
   exact(ph ne).mpr (h y (zm _ hy))
  rw[uC hx] at ih;have:0<m.length:=uU hx;erw[zE];omega
def HidOk.len{hid:List Æ}(h:HidOk hid):hid.length<=2:=aw (m:=[("p":Æ),"q"]) h.nd λv hv=>by rcases h.pq v hv with rfl | rfl<;>simp
theorem xy(x:Æ)(p:Int×Int)(hc:(x==("call":Æ))=Â)(hf:fm x=À p)(r:List W)(hr:r.filter (tyB .tuple)=r.drop (p.2.toNat-1)):Pn (th x r):=by
 refine .mk x r p hc hf ?_;erw[zI,hc,hf,hr];rfl
def HidOk.ok{hid:List Æ}(h:HidOk hid):hid.all è=Ã:=zZ.mpr λv hv=>by rcases h.pq v hv with rfl | rfl<;>decide +kernel
theorem HidOk.hide{hid:List Æ}(h:HidOk hid){v:Æ}(hv:v="p" \/ v="q"):HidOk (hide hid v):=by
 unfold K40.hide;split
 .exact h
 .rename_i q
  refine⟨?_,λu hu=>?_⟩
  .rw[xx]
   refine⟨h.nd,by simp,λa ha b hb e=>?_⟩;rw[jz] at hb;subst hb;subst e;exact q (vA.mpr ⟨a,ha,by simp⟩)
  .rcases zA.mp hu with z | z
   .exact h.pq u z
   .rw[jz.mp z];exact hv
def JB{b:List W}:(∀p∈ja ks hs b,p∈b)/\(ja ks hs b).length<=b.length:=by
 unfold ja;refine⟨λp hp=>?_,?_⟩
 .obtain⟨q,hq,rfl⟩:=zp.mp hp
  exact(qu (zV.mp hq).1).2
 .rw[zF]
  refine zz (jb _ _) ?_;rw[vN];omega
def mD{a b:List W}:(∀p∈jp rl B (th "call" [.int (i:Int),.tup a,.tup b]),p∈a++b)/\(jp rl B (th "call" [.int (i:Int),.tup a,.tup b])).length<=a.length+b.length:=by
 unfold jp th;erw[jk,kY]
 have:=JB (ks:=(B[(i:Int).toNat]?).getD []) (hs:=match rl[(i:Int).toNat]? with
   | some (.tup [_,.tup l,_])=>(strsOf l).getD []
   | _=>[]) (b:=b)
 refine⟨λp hp=>?_,by rw[zL];exact Nat.add_le_add_left this.2 _⟩;rcases zA.mp hp with z | z
 .exact zA.mpr (.inl z)
 .exact zA.mpr (.inr (this.1 p z))
structure Env0(rl:List W)(B:List (List (List Æ)))(k:Nat):Prop where
 lr:rl.length<=1000
 kB:k<=B.length
 len:∀ks∈B,ks.length<=60
 good:∀ks∈B,∀k∈ks,jI k=Ã
 ne:∀ks∈B,∀k∈ks,k≠[]
 hg:∀(i:Nat) (ns:List W) (hs:List Æ) (body:W),rl[i]?=À (.tup [.tup ns,.tup (zk hs),body])->∀x∈hs,jI ["do",x]=Ã
def D9{H:List Æ}(E0:Env0 rl B k)(Bo:Bod h B bd)(d:dt 60 w=Ã)(sh:Sh rl k H w)(ho:HidOk hid) :
  (step (step (step F))).aC [.tup rl,bd,w,.tup (zk hid)] h=À (.fls ((kd rl B w hid).map encP),h):=by
 have eC:=Xk (F:=F) Bo E0.good E0.kB E0.lr E0.hg d sh;have eH:=λ(v:Æ) (dv:dt 1 (.str v)=Ã) h=>BU (F:=step F) (h:=h) ho.ok dv (zz ho.len ∅)
 generalize step (step F)=G at eC eH;have Fm:∀(p:W) (hd:List Æ),low h.length p=Ã->low h.length (encP (p,hd))=Ã:=λp hd hp=>by
  unfold encP low;refine qr λw hw=>?_
  erw[zj,zx,kE] at hw;rcases hw with rfl | rfl
  .exact hp
  .exact ab _
 have c2:(2:Nat)<=cap:=by decide
 have plain:∀(x:Æ) (r:List W),w=th x r->(x==("own":Æ))=Â->(∀p∈jp rl B w,low h.length p=Ã)->(jp rl B w).length<=2000->gc (kS 4 0 (aA G)) [.tup rl,bd,w,.tup (zk hid)] h=À (.fls ((kd rl B w hid).map encP),h):=by
  intro x r ew hx lp ll;have NV:kd rl B w hid=(jp rl B w).map λp=>(p,hid):=by subst ew;exact xp hx
  refine qh (h':=h) ?_ ?_ (jf _)
  .have cm:kq (kc (ze G.aK [zd 0,zd 1,zd 2])) 1 [3] (zl 0) vn (ze zv [zd 0,zd 1]) [À (.tup rl),À bd,À w,À (.tup (zk hid))] h=À (.fls ((kd rl B w hid).map encP),h):=by
    refine(xh (l:=jp rl B w) (λ_=>Ã) (λp=>.tup [p,.tup (zk hid)]) ?_ ?_ ?_ ?_ ?_).trans ?_
    .simp![kc,eC,srcOf]
    .intro p _ H';rfl
    .intro p hp _ H';simp![zv,c2]
    .intro p hp _;exact Fm p hid (lp p hp)
    .exact zz ll (by decide)
    .rw[filter_true,NV,z9];rfl
   subst ew;generalize (kd rl B (th x r) hid).map encP=Z at cm;simp![aA,w9,kr,hx,cm]
  .rw[NV,z9]
   unfold low;refine qr λz hz=>?_
   obtain⟨p,hp,rfl⟩:=zp.mp hz;exact Fm p hid (lp p hp)
 have NW:=cZ (n:=59) d;have Mq:=fB d;show gc (kS 4 0 (aA G)) [.tup rl,bd,w,.tup (zk hid)] h=_
 have pn:∀(x:Æ) (r:List W),w=th x r->(x==("own":Æ))=Â->Pn w->gc (kS 4 0 (aA G)) [.tup rl,bd,w,.tup (zk hid)] h=À (.fls ((kd rl B w hid).map encP),h):=λx r ew hx p=>by
  refine plain x r ew hx ?_ ?_<;>rw[wm p]
  .exact λp hp=>vE (NW p hp)
  .exact Mq
 cases sh with
 | number i=>exact pn _ _ rfl ⋯ (xy _ (2,2) ⋯ ⋯ _ (by simp[tyB]))
 | name v=>exact pn _ _ rfl ⋯ (xy _ (2,2) ⋯ ⋯ _ (by simp[tyB]))
 | read v hv=>exact pn _ _ rfl ⋯ (xy _ (2,2) ⋯ ⋯ _ (by simp[tyB]))
 | doo v hv=>exact pn _ _ rfl ⋯ (xy _ (2,2) ⋯ ⋯ _ (by simp[tyB]))
 | ask=>exact pn _ _ rfl ⋯ (xy _ (1,1) ⋯ ⋯ _ (by simp))
 | write v hv a=>exact pn _ _ rfl ⋯ (xy _ (3,2) ⋯ ⋯ _ (by simp[tyB]))
 | say a=>exact pn _ _ rfl ⋯ (xy _ (2,1) ⋯ ⋯ _ (by simp[tyB]))
 | lett v a b=>exact pn _ _ rfl ⋯ (xy _ (4,2) ⋯ ⋯ _ (by simp[tyB]))
 | add a b=>exact pn _ _ rfl ⋯ (xy _ (3,1) ⋯ ⋯ _ (by simp[tyB]))
 | less a b=>exact pn _ _ rfl ⋯ (xy _ (3,1) ⋯ ⋯ _ (by simp[tyB]))
 | thenn a b=>exact pn _ _ rfl ⋯ (xy _ (3,1) ⋯ ⋯ _ (by simp[tyB]))
 | loop a b=>exact pn _ _ rfl ⋯ (xy _ (3,1) ⋯ ⋯ _ (by simp[tyB]))
 | iff a b c=>exact pn _ _ rfl ⋯ (xy _ (4,1) ⋯ ⋯ _ (by simp[tyB]))
 | call i a b hi ns hs body e lb=>
  have sub:=mD (rl:=rl) (B:=B) (i:=i) (a:=a) (b:=b);refine plain _ _ rfl ⋯ (λp hp=>?_) ?_
  .have:=sub.1 p hp
   rw[<-qB (i:Int)] at this;exact vE (NW p this)
  .have:=sub.2
   rw[qB] at Mq;rw[zL] at Mq;omega
 | own v hv a b=>
  obtain⟨m,em,hl,hd⟩:=kX d;cases em;have dv:dt 1 (.str v)=Ã:=by
   have:è v=Ã/\v.length<=1000:=by rcases hv with rfl | rfl<;>decide +kernel
   unfold dt;rw[zy];exact⟨this.1,kO this.2⟩
  have e2:=eH v dv;have ew:kd rl B (th "own" [.str v,.tup a,.tup b]) hid=[(.tup a,hid),(.tup b,hide hid v)]:=by
   erw[kd,th,jk,kY]
  rw[ew];refine qh (h':=h) ?_ ?_ (jf _)
  .generalize hide hid v=Mp at e2
   simp![aA,w9,yA,lQ,JH,kr,e2,zv,kx,c2,encP]
  .unfold low
   refine qr λz hz=>?_
   erw[zu,ji,zj,zx,kE] at hz;rcases hz with rfl | rfl
   .exact Fm _ _ (vE (hd (.tup a) (by simp)))
   .exact Fm _ _ (vE (hd (.tup b) (by simp)))
noncomputable def vt(k:List Æ):Æ:=k.getLastD ""
noncomputable def qc(hid:List Æ)(k:List Æ):Bool:=hid.any (· == vt k)
noncomputable def ui(hid:List Æ)(F:List (List Æ))(ks:List (List Æ)):List (List Æ):=ks.foldl (λF k=>if qc hid k then F else y6 F k) F
def V6:x∈y6 F k↔x∈F\/x=k:=by
 unfold y6;split
 .rename_i q
  refine⟨.inl,λh=>h.elim id λe=>by subst e;exact q⟩
 .simp
theorem mem_addAll:∀{ks F:List (List Æ)},x∈ui hid F ks↔x∈F\/(x∈ks/\qc hid x=Â)
 | [],F=>by simp[ui]
 | k::ks,F=>by
  have ih:=mem_addAll (hid:=hid) (x:=x) (ks:=ks) (F:=if qc hid k then F else y6 F k);have e:ui hid F (k::ks)=ui hid (if qc hid k then F else y6 F k) ks:=rfl;rw[e,ih];cases q:qc hid k with
  | true=>
   erw[kY,zj];constructor
   .rintro(h | ⟨h,z⟩)
    .exact .inl h
    .exact .inr ⟨.inr h,z⟩
   .rintro(h | ⟨rfl | h,z⟩)
    .exact .inl h
    .rw[q] at z;cases z
    .exact .inr ⟨h,z⟩
  | false=>
   erw[zN,jn,V6,zj];constructor
   .rintro((h | rfl) | ⟨h,z⟩)
    .exact .inl h
    .exact .inr ⟨.inl rfl,q⟩
    .exact .inr ⟨.inr h,z⟩
   .rintro(h | ⟨rfl | h,z⟩)
    .exact .inl (.inl h)
    .exact .inl (.inr rfl)
    .exact .inr ⟨h,z⟩
theorem ol:∀{ks F:List (List Æ)},F.Nodup->(ui hid F ks).Nodup
 | [],F,n=>n
 | k::ks,F,n=>by
  have e:ui hid F (k::ks)=ui hid (if qc hid k then F else y6 F k) ks:=rfl;rw[e];refine ol ?_;split
  .exact n
  .exact lZ n
theorem last_eq(x:Æ)(r:List Æ):vt (x::r)=(x::r).getLast (by simp):=by
 unfold vt;rw[List.getLastD_eq_getLast?,List.getLast?_eq_some_getLast (by simp)];rfl
def Z3(hk:k≠[]):∀h,zt (tupS k) (.int (-1)) h=À (.str (vt k),h):=by
 intro h;obtain⟨x,r,rfl⟩:∃x r,k=x::r:=by
  cases k with
  | nil=>exact absurd rfl hk
  | cons x r=>exact⟨x,r,rfl⟩
 have e4:((x::r).map W.str)[r.length]?=À (.str (vt (x::r))):=by
  rw[kW,last_eq,List.getLast_eq_getElem];simp
 have e:atI ((x::r).map W.str) (-1)=À (.str (vt (x::r))):=by
  have n:yB ((x::r).map W.str).length (-1)=À r.length:=by
   unfold yB;simp;omega
  unfold atI;rw[n];exact e4
 unfold tupS zt;erw[e]
abbrev ρm(r b d:W)(n:Nat)(o5 o6:Option W):En:=[À r,À b,À d,À (.ref n),À (.ref (n+1)),o5,o6]
theorem oD{h0:MH}(ho:HidOk hid):∀(ks F:List (List Æ)) (o6:Option W),(∀k∈ks,jI k=Ã/\k≠[])->F.length+ks.length<800->
  ∃Fn,forL (zl 6) Zi (ks.map tupS) (ρm r b d h0.length (À (encP (p,hid))) o6) (h0++[.tdc F,.lst s])=À (.nx (ρm r b d h0.length (À (encP (p,hid))) Fn),h0++[.tdc (ui hid F ks),.lst s])
 | [],F,o6,_,_=>⟨o6,by simp[forL,ui]⟩
 | k::ks,F,o6,hk,hl=>by
  obtain⟨g,ne⟩:=hk k zr;erw[zE] at hl;have hF:(if qc hid k then F else y6 F k).length<=F.length+1:=by
   split
   .omega
   .unfold y6;split
    .omega
    .simp
  obtain⟨Fn,ih⟩:=oD (r:=r) (b:=b) (d:=d) (p:=p) (h0:=h0) (s:=s) ho ks (if qc hid k then F else y6 F k) (À (tupS k)) (λq hq=>hk q (zm _ hq)) ∅;refine⟨Fn,?_⟩;have hg:zl 6 (tupS k) (ρm r b d h0.length (À (encP (p,hid))) o6) (h0++[.tdc F,.lst s])=À (ρm r b d h0.length (À (encP (p,hid))) (À (tupS k)),h0++[.tdc F,.lst s]):=by simp[zl]
  have dl:dt 1 (.str (vt k))=Ã:=by
   unfold jI at g;rw[zy] at g;obtain⟨x,q,rfl⟩:∃x q,k=x::q:=by
    cases k with
    | nil=>exact absurd rfl ne
    | cons x q=>exact⟨x,q,rfl⟩
   have hm:vt (x::q)∈x::q:=by
    rw[last_eq];exact List.getLast_mem _
   exact zZ.mp g.2 _ hm
  have li:=Z3 ne (h0++[.tdc F,.lst s]);have ii:zt (encP (p,hid)) (.int 1) (h0++[.tdc F,.lst s])=À (.tup (zk hid),h0++[.tdc F,.lst s]):=yA;have ib:inB (h0++[.tdc F,.lst s]) (.str (vt k)) (.tup (zk hid))=À (qc hid k):=dJ (w:=.str (vt k)) (l:=hid) dl ∅ ho.ok;have pt:pY (.ref h0.length) (tupS k) (.bl Ã) (h0++[.tdc F,.lst s])=À (.non,h0++[.tdc (y6 F k),.lst s]):=by
   have e1:(h0++[.tdc F,.lst s])[h0.length]?=À (.tdc F):=by simp
   have e2:(h0++([.tdc F,.lst s]:MH)).set h0.length (.tdc (y6 F k))=h0++[.tdc (y6 F k),.lst s]:=by
    rw[qG _ _ (zG _)];simp
   unfold pY;erw[e1,ky];rw[zW ∅,e2]
  have bd:Zi (ρm r b d h0.length (À (encP (p,hid))) (À (tupS k))) (h0++[.tdc F,.lst s])=À (.nx (ρm r b d h0.length (À (encP (p,hid))) (À (tupS k))),h0++[.tdc (if qc hid k then F else y6 F k),.lst s]):=by
   generalize tupS k=tk at li pt;generalize encP (p,hid)=pp at ii;cases q:qc hid k with
   | true=>
    rw[q] at ib;simp![Zi,fF,li,ii,ib]
   | false=>
    rw[q] at ib;simp![Zi,fF,li,ii,ib,oO,pt]
  erw[zu];unfold forL;rw[hg];erw[bd];exact ih
noncomputable def mk(rl:List W)(B:List (List (List Æ))):Nat->W->List (List Æ)
 | 0,_=>[]
 | n+1,w=>itself B w++(kd rl B w []).flatMap λp=>(mk rl B n p.1).filter λk=>!qc p.2 k
def QV{H:List Æ}(sh:Sh rl k H w):∀p∈jp rl B w,p∈zI w:=by
 rcases sh.split with hp | ⟨i,a,b,ns,hs,body,rfl,hi,e⟩
 .rw[wm hp];exactλp hp=>hp
 .rw[qB];exact mD.1
def de{H:List Æ}(sh:Sh rl k H w)(ho:HidOk hid):∀p∈kd rl B w hid,p.1∈zI w/\HidOk p.2:=by
 have pl:∀(x:Æ) (r:List W),w=th x r->(x==("own":Æ))=Â->∀p∈kd rl B w hid,p.1∈zI w/\HidOk p.2:=by
  intro x r e hx p hp;have e2:kd rl B w hid=(jp rl B w).map λp=>(p,hid):=by subst e;exact xp hx
  rw[e2] at hp;obtain⟨q,hq,rfl⟩:=zp.mp hp;exact⟨QV sh q hq,ho⟩
 have R4:=sh;cases sh with
 | own v hv a b=>
  intro p hp;have e:kd rl B (th "own" [.str v,.tup a,.tup b]) hid=[(.tup a,hid),(.tup b,hide hid v)]:=by
   erw[kd,th,jk,kY]
  rw[e] at hp;have ep:zI (th "own" [.str v,.tup a,.tup b])=[.tup a,.tup b]:=by
   have h1:(("own":Æ)=="call")=Â:=by decide +kernel
   have h2:fm "own" = À (4,2):=by decide +kernel
   erw[zI,h1,h2];rfl
  rw[ep];erw[zj,zx,kE] at hp;rcases hp with rfl | rfl
  .exact⟨by simp,ho⟩
  .exact⟨by simp,ho.hide hv⟩
 | _=>exact pl _ _ rfl ⋯
theorem mF(k:List Æ):qc [] k=Â:=rfl
def WM:qc (hide hid v) k=(qc hid k||qc (hide [] v) k):=by
 unfold qc hide;by_cases q:(hid.any (· == v))=Ã
 .rw[zW q]
  erw[List.any_nil,zN,jn,kJ,vO,xf];obtain⟨u,hu,e⟩:=vA.mp q;have e:=eq_of_beq e;subst e;cases z:(u==vt k) with
  | false=>simp
  | true=>
   rw[Bool.or_true];exact vA.mpr ⟨u,hu,z⟩
 .rw[kh q]
  simp[List.any_append]
def Jj{rl:List W}{B:List (List (List Æ))}{w:W}{hid:List Æ}{f:W->List (List Æ)}{x:List Æ}:(∃p∈kd rl B w hid,x∈f p.1/\qc p.2 x=Â)↔(∃p∈kd rl B w [],x∈f p.1/\qc p.2 x=Â)/\qc hid x=Â:=by
 unfold kd;split
 .rename_i y v a b
  split
  .erw[zj,zx,kE,v6,exists_eq_left,mF]
   rw[WM (hid:=hid)];cases qc hid x<;>simp
  .erw[zp]
   constructor
   .rintro⟨p,⟨q,hq,rfl⟩,h1,h2⟩
    exact⟨⟨(q,[]),⟨q,hq,rfl⟩,h1,rfl⟩,h2⟩
   .rintro⟨⟨p,⟨q,hq,rfl⟩,h1,_⟩,h2⟩
    exact⟨(q,hid),⟨q,hq,rfl⟩,h1,h2⟩
 .erw[zp]
  constructor
  .rintro⟨p,⟨q,hq,rfl⟩,h1,h2⟩
   exact⟨⟨(q,[]),⟨q,hq,rfl⟩,h1,rfl⟩,h2⟩
  .rintro⟨⟨p,⟨q,hq,rfl⟩,h1,_⟩,h2⟩
   exact⟨(q,hid),⟨q,hq,rfl⟩,h1,h2⟩
def mem_mk:x∈mk rl B (n+1) w↔x∈itself B w\/∃p∈kd rl B w [],x∈mk rl B n p.1/\qc p.2 x=Â:=by
 have e:mk rl B (n+1) w=itself B w++(kd rl B w []).flatMap λp=>(mk rl B n p.1).filter λk=>!qc p.2 k:=rfl
 rw[e,zA,jX];erw[zV,jZ]
def seen{rl:List W}{B:List (List (List Æ))}{n:Nat}{w:W}{hid:List Æ}{x:List Æ}:(x∈mk rl B (n+1) w/\qc hid x=Â)↔(x∈itself B w/\qc hid x=Â)\/∃p∈kd rl B w hid,x∈mk rl B n p.1/\qc p.2 x=Â:=by
 rw[Jj (hid:=hid) (f:=mk rl B n),mem_mk];constructor
 .rintro⟨h | h,z⟩
  .exact .inl ⟨h,z⟩
  .exact .inr ⟨h,z⟩
 .rintro(⟨h,z⟩ | ⟨h,z⟩)
  .exact⟨.inl h,z⟩
  .exact⟨.inr h,z⟩
theorem Kb{H:List Æ}:∀{n m:Nat} {w:W},okd rl k H n w->n<=m->mk rl B m w=mk rl B n w
 | 0,_,_,h,_=>by cases h
 | n+1,0,_,_,h=>by omega
 | n+1,m+1,w,h,hn=>by
  show itself B w++_=itself B w++_
  congr 1
  have:∀p∈kd rl B w [],(λp:W×List Æ=>(mk rl B m p.1).filter λk=>!qc p.2 k) p=(λp:W×List Æ=>(mk rl B n p.1).filter λk=>!qc p.2 k) p:=λp hp=>by
   have EI:=(de h.1 ⟨qJ,nofun⟩ p hp).1;show(mk rl B m p.1).filter _=(mk rl B n p.1).filter _
   rw[Kb (h.2 p.1 EI) ∅]
  rw[yo,yo,qw this]
def Jz{H:List Æ}(sh:Sh rl k H w):((kd rl B w hid).map λp=>cnt n p.1).sum<=((zI w).map (cnt n)).sum:=by
 have sub:∀{l m:List W},l.Sublist m->(l.map (cnt n)).sum<=(m.map (cnt n)).sum:=by
  intro l m s;induction s with
  | slnil=>exact zG _
  | cons a _ ih=>erw[zu,qF];omega
  | cons_cons a _ ih=>erw[zu,qF];omega
 have Mr:∀(ks:List (List Æ)) (hs:List Æ) (b:List W),(ja ks hs b).Sublist b:=by
  intro ks hs b;unfold ja;have h1:(((hs.zip b).filter λp=>ks.contains ["do",p.1]).map (·.2)).Sublist ((hs.zip b).map (·.2)):=pI.map _;have h2:((hs.zip b).map (·.2)).Sublist b:=by
   have:(hs.zip b).map (·.2)=b.take hs.length:=by
    clear h1;induction hs generalizing b with
    | nil=>simp
    | cons x hs ih=>
     cases b with
     | nil=>simp
     | cons y b=>
      erw[yS,zu,zE,pG];rw[ih b]
   rw[this];exact xu _ _
  exact h1.trans h2
 have Ms:(jp rl B w).Sublist (zI w):=by
  rcases sh.split with hp | ⟨i,a,b,ns,hs,body,rfl,hi,e⟩
  .rw[wm hp];exact List.Sublist.refl _
  .rw[qB]
   unfold jp th;erw[jk,kY];exact List.Sublist.append (List.Sublist.refl _) (Mr _ _ _)
 have pl:∀(x:Æ) (r:List W),w=th x r->(x==("own":Æ))=Â->((kd rl B w hid).map λp=>cnt n p.1).sum<=((zI w).map (cnt n)).sum:=by
  intro x r e hx;have e2:kd rl B w hid=(jp rl B w).map λp=>(p,hid):=by subst e;exact xp hx
  rw[e2,z9];exact sub Ms
 cases sh with
 | own v hv a b=>
  have e:kd rl B (th "own" [.str v,.tup a,.tup b]) hid=[(.tup a,hid),(.tup b,hide hid v)]:=by
   erw[kd,th,jk,kY]
  have ep:zI (th "own" [.str v,.tup a,.tup b])=[.tup a,.tup b]:=by
   have h1:(("own":Æ)=="call")=Â:=by decide +kernel
   have h2:fm "own" = À (4,2):=by decide +kernel
   erw[zI,h1,h2];rfl
  rw[e,ep];exact zG _
 | _=>exact pl _ _ rfl ⋯
noncomputable def uni(H:List Æ):List (List Æ):=(six.flatMap λv=>[[("read":Æ),v],["write",v]])++[[("say":Æ)],["ask"]]++H.map λv=>[("do":Æ),v]
def gJ(H:List Æ):(uni H).length=14+H.length:=by
 unfold uni;rw[zL,zL,zF];have:(six.flatMap λv=>[[("read":Æ),v],["write",v]]).length=12:=by decide +kernel
 rw[this];simp
noncomputable def lE(H:List Æ):Prop:=∀v∈H,pl 1 (.str v)=Ã
def dR{x:Æ}(h1:è x=Ã/\x.length<=1000)(h2:pl 1 (.str v)=Ã):jI [x,v]=Ã:=by
 unfold jI;rw[zy];refine⟨kO (by simp),?_⟩;erw[jG,List.all_nil,xg];rw[zy,zy];exact⟨⟨h1.1,kO h1.2⟩,h2⟩
def tQ:∀v∈six,pl 1 (.str v)=Ã:=by decide +kernel
def wl{H:List Æ}(wH:lE H):∀k∈uni H,jI k=Ã/\k≠[]:=by
 intro k hk;unfold uni at hk;rcases zA.mp hk with hk | hk
 .rcases zA.mp hk with hk | hk
  .obtain⟨v,hv,hk⟩:=jX.mp hk
   erw[zj,zx,kE] at hk;rcases hk with rfl | rfl
   .exact⟨dR ⋯ (tQ v hv),by simp⟩
   .exact⟨dR ⋯ (tQ v hv),by simp⟩
  .erw[zj,zx,kE] at hk
   rcases hk with rfl | rfl<;>exact⟨by decide +kernel,by simp⟩
 .obtain⟨v,hv,rfl⟩:=zp.mp hk
  exact⟨dR ⋯ (wH v hv),by simp⟩
noncomputable def eQ(B:List (List (List Æ)))(k:Nat)(H:List Æ):Prop:=∀(i:Nat) (ks:List (List Æ)),i<k->B[i]?=À ks->∀x∈ks,jS x=Ã->x∈uni H
def fI{H:List Æ}(hU:eQ B k H)(sh:Sh rl k H w):∀x∈itself B w,x∈uni H:=by
 have NX:∀v∈six,[("read":Æ),v]∈uni H/\[("write":Æ),v]∈uni H:=λv hv=>by
  unfold uni;constructor
  .exact zA.mpr (.inl (zA.mpr (.inl (jX.mpr ⟨v,hv,by simp⟩))))
  .exact zA.mpr (.inl (zA.mpr (.inl (jX.mpr ⟨v,hv,by simp⟩))))
 have sy:[("say":Æ)]∈uni H/\[("ask":Æ)]∈uni H:=by
  unfold uni;exact⟨zA.mpr (.inl (zA.mpr (.inr (by simp)))),zA.mpr (.inl (zA.mpr (.inr (by simp))))⟩
 intro x hx;have l3:∀y:Æ,zS ["read","write","do"] (.str y)=Ã->∀v r,itself B (th y (.str v::r))=[[y,v]]:=λy q v r=>by erw[th,itself,q,kY]
 have l0:∀y:Æ,zS ["read","write","do"] (.str y)=Â->zS ["say","ask"] (.str y)=Â->(y==("call":Æ))=Â->∀r,itself B (th y r)=[]:=λy q q2 q4 r=>by erw[th,itself,q,q2,q4,zN,jn]
 have l2:∀y:Æ,zS ["read","write","do"] (.str y)=Â->zS ["say","ask"] (.str y)=Ã->∀r,itself B (th y r)=[[y]]:=λy q q2 r=>by erw[th,itself,q,q2,kY,zN,jn]
 cases sh with
 | read v hv=>rw[l3 _ ⋯] at hx;rw[jz.mp hx];exact(NX v hv).1
 | write v hv a=>rw[l3 _ ⋯] at hx;rw[jz.mp hx];exact(NX v hv).2
 | doo v hv=>
  rw[l3 _ ⋯] at hx;rw[jz.mp hx];unfold uni;exact zA.mpr (.inr (zp.mpr ⟨v,hv,rfl⟩))
 | say a=>rw[l2 _ ⋯ ⋯] at hx;rw[jz.mp hx];exact sy.1
 | ask=>rw[l2 _ ⋯ ⋯] at hx;rw[jz.mp hx];exact sy.2
 | call i a b hi ns hs body e lb=>
  have e1:itself B (th "call" [.int (i:Int),.tup a,.tup b])=((B[i]?).getD []).filter jS:=by
   erw[th,itself,show zS ["read","write","do"] (.str "call")=Â by decide +kernel,show zS ["say","ask"] (.str "call")=Â by decide +kernel,jk,kY,zN,jn,jd]
  rw[e1] at hx;obtain⟨h1,h2⟩:=zV.mp hx;cases q:B[i]? with
  | none=>rw[q] at h1;simp at h1
  | some ks=>rw[q] at h1;exact hU i ks hi q x h1 h2
 | number i=>rw[l0 _ ⋯ ⋯ ⋯] at hx;simp at hx
 | name v=>rw[l0 _ ⋯ ⋯ ⋯] at hx;simp at hx
 | lett v a b=>rw[l0 _ ⋯ ⋯ ⋯] at hx;simp at hx
 | own v hv a b=>rw[l0 _ ⋯ ⋯ ⋯] at hx;simp at hx
 | add a b=>rw[l0 _ ⋯ ⋯ ⋯] at hx;simp at hx
 | less a b=>rw[l0 _ ⋯ ⋯ ⋯] at hx;simp at hx
 | thenn a b=>rw[l0 _ ⋯ ⋯ ⋯] at hx;simp at hx
 | loop a b=>rw[l0 _ ⋯ ⋯ ⋯] at hx;simp at hx
 | iff a b c=>rw[l0 _ ⋯ ⋯ ⋯] at hx;simp at hx
theorem BB(F:Fs):bJ F=zo (zC ly (zl 3)) (zo (zC (ze yY [ze zv [zd 2,ze zv []]]) (zl 4)) (zo (cy zT (zB F)) (ke (ze xC [zd 3])))):=rfl
def at1{α:Type}(h:List α)(o p:α):(h++[o,p])[h.length+1]?=À p:=by rw[kZ ∅];simp
def BI{α:Type}(h:List α)(o p q:α):(h++[o,p]).set (h.length+1) q=h++[o,q]:=by rw[qG _ _ ∅];simp
def Kt{G:Fs}{h0:MH}{H:List Æ}(E0:Env0 rl B k)(hU:eQ B k H)(wH:lE H)(lH:H.length<=20)(Bo:Bod h0 B bd)
  (e1:∀(w:W) (h:MH),Bod h B bd->dt 60 w=Ã->Sh rl k H w->G.aB [bd,w] h=À (.fls ((itself B w).map tupS),h))
  (e2:∀(w:W) (hid:List Æ) (h:MH),Bod h B bd->dt 60 w=Ã->Sh rl k H w->HidOk hid->G.aC [.tup rl,bd,w,.tup (zk hid)] h=À (.fls ((kd rl B w hid).map encP),h)) :
  ∀(T:Nat) (s:List (W×List Æ)) (F:List (List Æ)) (o5 o6:Option W),(∀p∈s,dt 60 p.1=Ã/\okd rl k H N p.1/\HidOk p.2)->(s.map λp=>cnt N p.1).sum<=T->T<=100000->F.Nodup->(∀x∈F,x∈uni H)->
   ∃F' p5 p6,wb zT (zB G) (T+1) (ρm (.tup rl) bd d0 h0.length o5 o6) (h0++[.tdc F,.lst (s.reverse.map encP)])=À (.nx (ρm (.tup rl) bd d0 h0.length p5 p6),h0++[.tdc F',.lst []])/\F'.Nodup/\(∀x∈F',x∈uni H)/\∀x,x∈F'↔x∈F\/∃p∈s,x∈mk rl B N p.1/\qc p.2 x=Â:=by
 intro T;induction T with
 | zero=>
  intro s F o5 o6 hs ht hT nF uF;cases s with
  | nil=>
   have t:zT (ρm (.tup rl) bd d0 h0.length o5 o6) (h0++[.tdc F,.lst []])=À (Â,h0++[.tdc F,.lst []]):=by
    simp![zT,kL,getL,at1,wf]
   refine⟨F,o5,o6,?_,nF,uF,λx=>by simp⟩;erw[xV,ji];unfold wb;rw[t]
  | cons p r=>
   exfalso;erw[zu,qF] at ht;obtain⟨_,o,_⟩:=hs p zr;cases N with
   | zero=>cases o
   | succ N=>have:=ZF (n:=N) (w:=p.1);omega
 | succ T ih=>
  intro s F o5 o6 hs ht hT nF uF;cases s with
  | nil=>
   have t:zT (ρm (.tup rl) bd d0 h0.length o5 o6) (h0++[.tdc F,.lst []])=À (Â,h0++[.tdc F,.lst []]):=by
    simp![zT,kL,getL,at1,wf]
   refine⟨F,o5,o6,?_,nF,uF,λx=>by simp⟩;erw[xV,ji];unfold wb;rw[t]
  | cons p r=>
   obtain⟨d,o,ho⟩:=hs p zr;cases N with
   | zero=>cases o
   | succ N=>
   obtain⟨w,hid⟩:=p;simp only at d o ho;have sh:=o.1;let F1:=ui hid F (itself B w)
   let s1:=(kd rl B w hid).reverse++r
   have uI:=fI hU sh;have u1:∀x∈F1,x∈uni H:=λx hx=>(mem_addAll.mp hx).elim (uF x) λz=>uI x z.1
   have GW:∀p∈s1,dt 60 p.1=Ã/\okd rl k H (N+1) p.1/\HidOk p.2:=by
    intro q hq;rcases zA.mp hq with z | z
    .obtain⟨z1,z2⟩:=de sh ho q (xW.mp z)
     exact⟨vi (cZ (n:=59) d q.1 z1) ∅,iT (o.2 q.1 z1) (qT _),z2⟩
    .exact hs q (zm _ z)
   have Mt:(s1.map λp=>cnt (N+1) p.1).sum<=T:=by
    erw[zu,qF] at ht;have e:cnt (N+1) w=1+((zI w).map (cnt (N+1))).sum:=by
     conv=>lhs;unfold cnt
     rw[fU λp hp=>(rj (o.2 p hp) (qT N)).symm]
    have:=Jz (rl:=rl) (B:=B) (hid:=hid) (n:=N+1) sh;rw[yE,List.sum_append,List.map_reverse,List.sum_reverse];omega
   have lF:F.length<=34:=zz (aw nF uF) (by rw[gJ];omega);have lI:(itself B w).length<=60:=by
    have pl:(itself B w).length<=1\/∃ks∈B,(itself B w).length<=ks.length:=by
     unfold itself;split
     .split
      .split<;>simp
      .split
       .simp
       .split
        .split
         .rename_i i _
          cases q:B[i.toNat]? with
          | none=>simp
          | some ks=>exact .inr ⟨ks,qj q,by simp[jb]⟩
         .simp
        .simp
     .simp
    rcases pl with z | ⟨ks,hk,z⟩
    .omega
    .exact zz z (E0.len ks hk)
   obtain⟨Fn,ef⟩:=oD (r:=.tup rl) (b:=bd) (d:=d0) (p:=w) (h0:=h0) (s:=r.reverse.map encP) ho (itself B w) F o6 (λx hx=>wl wH x (uI x hx)) ∅;obtain⟨F',p5,p6,ew,n1,n2,n3⟩:=ih s1 F1 (À (encP (w,hid))) Fn GW Mt ∅ (ol nF) u1;refine⟨F',p5,p6,?_,n1,n2,λx=>?_⟩
   .have hl:(0:Int)<(r.length:Int)+1:=by omega
    have t:zT (ρm (.tup rl) bd d0 h0.length o5 o6) (h0++[.tdc F,.lst (((w,hid)::r).reverse.map encP)])=À (Ã,h0++[.tdc F,.lst (((w,hid)::r).reverse.map encP)]):=by
     simp![zT,kL,getL,at1,wf,hl]
    have q1:(zC (kH iJ (zd 4) []) (zl 5)) (ρm (.tup rl) bd d0 h0.length o5 o6) (h0++[.tdc F,.lst (((w,hid)::r).reverse.map encP)])=À (.nx (ρm (.tup rl) bd d0 h0.length (À (encP (w,hid))) o6),h0++[.tdc F,.lst (r.reverse.map encP)]):=by
     simp![kH,getL,at1,iJ,BI]
    have i0:∀h,zt (encP (w,hid)) (.int 0) h=À (w,h):=λh=>w9
    have NY:∀h,zt (encP (w,hid)) (.int 1) h=À (.tup (zk hid),h):=λh=>yA
    have m1:=e1 w (h0++[.tdc F,.lst (r.reverse.map encP)]) Bo.more d sh;have q2:(kK (kc (ze G.aB [zd 1,zh zt (zd 5) (OJ 0)])) (zl 6) Zi) (ρm (.tup rl) bd d0 h0.length (À (encP (w,hid))) o6) (h0++[.tdc F,.lst (r.reverse.map encP)])=À (.nx (ρm (.tup rl) bd d0 h0.length (À (encP (w,hid))) Fn),h0++[.tdc F1,.lst (r.reverse.map encP)]):=by
     have it:(kc (ze G.aB [zd 1,zh zt (zd 5) (OJ 0)])) (ρm (.tup rl) bd d0 h0.length (À (encP (w,hid))) o6) (h0++[.tdc F,.lst (r.reverse.map encP)])=À (.items ((itself B w).map tupS),h0++[.tdc F,.lst (r.reverse.map encP)]):=by
      generalize encP (w,hid)=pp at i0;generalize (itself B w).map tupS=Z at m1;generalize h0++[.tdc F,.lst (r.reverse.map encP)]=hh at m1;simp![kc,i0,m1,srcOf]
     unfold kK;rw[it];exact ef
    have m2:=e2 w hid (h0++[.tdc F1,.lst (r.reverse.map encP)]) Bo.more d sh ho;have hc:∀l:List (W×List Æ),(∀p∈l,okd rl k H (N+1) p.1)->l.length<=(l.map λp=>cnt (N+1) p.1).sum:=by
     intro l;induction l with
     | nil=>intro _;simp
     | cons p q ihq=>
      intro hq;have h1:=ihq λz hz=>hq z (zm _ hz)
      have h2:=ZF (n:=N) (w:=p.1);erw[zu,qF,zE];omega
    have Lx:=hc s1 λp hp=>(GW p hp).2.1
    have d6:s1.length=(kd rl B w hid).length+r.length:=by show((kd rl B w hid).reverse++r).length=_;simp
    have Ee:r.length+(kd rl B w hid).length<=cap:=zz (show r.length+(kd rl B w hid).length<=100000 by omega) (by decide);have es:s1.reverse.map encP=r.reverse.map encP++(kd rl B w hid).map encP:=by
     show((kd rl B w hid).reverse++r).reverse.map encP=_
     rw[List.reverse_append,List.reverse_reverse,yE]
    have q3:(ya (kH vS (zd 4) [ze G.aC [zd 0,zd 1,zh zt (zd 5) (OJ 0),zh zt (zd 5) (OJ 1)]])) (ρm (.tup rl) bd d0 h0.length (À (encP (w,hid))) Fn) (h0++[.tdc F1,.lst (r.reverse.map encP)])=À (.nx (ρm (.tup rl) bd d0 h0.length (À (encP (w,hid))) Fn),h0++[.tdc F1,.lst (s1.reverse.map encP)]):=by
     rw[es];have ex:vS (.ref (h0.length+1)) [.fls ((kd rl B w hid).map encP)] (h0++[.tdc F1,.lst (r.reverse.map encP)])=À (.non,h0++[.tdc F1,.lst (r.reverse.map encP++(kd rl B w hid).map encP)]):=by
      erw[vS,at1,qV,getL];rw[zW (by erw[zF,List.length_reverse];exact Ee),BI]
     have gl:getL (h0++[.tdc F1,.lst (r.reverse.map encP)]) (.ref (h0.length+1))=À (r.reverse.map encP):=by erw[getL,at1]
     generalize (r.reverse.map encP++(kd rl B w hid).map encP)=R2 at ex ⊢;generalize (kd rl B w hid).map encP=Y at m2 ex;generalize h0++[.tdc F1,.lst (r.reverse.map encP)]=hh at m2 ex gl ⊢;generalize encP (w,hid)=pp at i0 NY ⊢;simp![kH,gl,i0,NY,m2,ex]
    have zb:zB G (ρm (.tup rl) bd d0 h0.length o5 o6) (h0++[.tdc F,.lst (((w,hid)::r).reverse.map encP)])=À (.nx (ρm (.tup rl) bd d0 h0.length (À (encP (w,hid))) Fn),h0++[.tdc F1,.lst (s1.reverse.map encP)]):=by
     unfold zB;rw[zw q1,zw q2,q3]
    unfold wb;rw[t];erw[zb];exact ew
   .rw[n3 x]
    have sn:=seen (rl:=rl) (B:=B) (n:=N) (w:=w) (hid:=hid) (x:=x);have pm:∀p∈kd rl B w hid,mk rl B (N+1) p.1=mk rl B N p.1:=λp hp=>Kb (o.2 p.1 (de sh ho p hp).1) (qT _)
    rw[show(x∈F1↔_) from mem_addAll];constructor
    .rintro((h | h) | ⟨p,hp,h1,h2⟩)
     .exact .inl h
     .exact .inr ⟨(w,hid),zr,sn.mpr (.inl h)⟩
     .rcases zA.mp hp with z | z
      .have z:=xW.mp z
       rw[pm p z] at h1;exact .inr ⟨(w,hid),zr,sn.mpr (.inr ⟨p,z,h1,h2⟩)⟩
      .exact .inr ⟨p,zm _ z,h1,h2⟩
    .rintro(h | ⟨p,hp,h1,h2⟩)
     .exact .inl (.inl h)
     .rcases zj.mp hp with rfl | z
      .rcases sn.mp ⟨h1,h2⟩ with z | ⟨p,hp,h3,h4⟩
       .exact .inl (.inr z)
       .rw[<-pm p hp] at h3
        exact .inr ⟨p,zA.mpr (.inl (xW.mpr hp)),h3,h4⟩
      .exact .inr ⟨p,zA.mpr (.inr z),h1,h2⟩
def s_by{H:List Æ}(E0:Env0 rl B k)(hU:eQ B k H)(wH:lE H)(lH:H.length<=20)(Bo:Bod h B bd)(d:dt 60 w=Ã)(o:okd rl k H n w)(hb:cnt n w<=100000) :
  ∃M:List (List Æ),dg M/\(∀x,x∈M↔x∈mk rl B n w)/\(∀x∈M,x∈uni H)/\M.length<=34/\(step (step (step (step F)))).bh [.tup rl,bd,w] h=À (.fls (M.map tupS),h):=by
 have e1:=λ(w:W) (h:MH) (Bo:Bod h B bd) (d:dt 60 w=Ã) (sh:Sh rl k H w)=>Wm (F:=step (step F)) (h:=h) Bo.gl Bo.nt Bo.ns (λks hk=>⟨E0.len ks hk,E0.ne ks hk⟩) E0.kB d sh
 have e2:=λ(w:W) (hid:List Æ) (h:MH) (Bo:Bod h B bd) (d:dt 60 w=Ã) (sh:Sh rl k H w) (ho:HidOk hid)=>D9 (F:=F) (h:=h) E0 Bo d sh ho
 generalize step (step (step F))=G at e1 e2;obtain⟨F',p5,p6,ew,n1,n2,n3⟩:=Kt (G:=G) (d0:=w) (h0:=h) (N:=n) E0 hU wH lH Bo e1 e2 (cnt n w) [(w,[])] [] Á Á (λp hp=>by rw[jz.mp hp];exact⟨d,o,qJ,nofun⟩) (by simp) hb qJ nofun;have lF:F'.length<=34:=zz (aw n1 n2) (by rw[gJ];omega);have ls:(kG F').length=F'.length:=(oz n1 λx=>Iff.rfl).symm;refine⟨kG F',we _,λx=>?_,λx hx=>n2 x (ssort_mem.mp hx),by omega,?_⟩
 .rw[ssort_mem,n3 x]
  simp[mF]
 have wr:=Qa ew;erw[List.reverse_cons,xV,kJ,zu,ji] at wr;have c0:(0:Nat)<=cap:=by decide
 have c1:(1:Nat)<=cap:=by decide
 have c2:(2:Nat)<=cap:=by decide
 refine qh (h':=h++[.tdc F',.lst []]) ?_ (xw _) (jH _ _);have AJ:xC [.ref h.length] (h++[.tdc F',.lst []])=À (.fls ((kG F').map tupS),h++[.tdc F',.lst []]):=by
  have e:(h++[.tdc F',.lst []])[h.length]?=À (.tdc F'):=by simp
  unfold xC;erw[e];rw[zW ⟨by omega,λx hx=>(wl wH x (n2 x hx)).2⟩]
 have row:bJ G [À (.tup rl),À bd,À w,Á,Á,Á,Á] h=À (.ret (.fls ((kG F').map tupS)),h++[.tdc F',.lst []]):=by
  rw[BB];rw[zw (ρ':=[À (.tup rl),À bd,À w,À (.ref h.length),Á,Á,Á]) (h':=h++[.tdc []]) (by simp![ly])];rw[zw (ρ':=ρm (.tup rl) bd w h.length Á Á) (h':=h++[.tdc [],.lst [encP (w,[])]]) (by simp![yY,zv,c0,c1,c2,encP,zk])];rw[zw wr];generalize (kG F').map tupS=Z at AJ;simp![AJ]
 erw[kS,zE,kI,kY,zu,ji,Ç,jr,kJ];erw[row]
def sI{B B':List (List (List Æ))}{H:List Æ}(hb:∀j,j<k->B[j]?=B'[j]?)(sh:Sh rl k H w):itself B w=itself B' w:=by
 cases sh with
 | call i a b hi ns hs body e lb=>
  have e1:∀B:List (List (List Æ)),itself B (th "call" [.int (i:Int),.tup a,.tup b])=((B[i]?).getD []).filter jS:=λB=>by
   erw[th,itself,show zS ["read","write","do"] (.str "call")=Â by decide +kernel,show zS ["say","ask"] (.str "call")=Â by decide +kernel,jk,kY,zN,jn,jd]
  rw[e1,e1,hb i hi]
 | _=>first | rfl | (unfold itself th;erw[show(("number":Æ)=="call")=Â by decide +kernel,show(("name":Æ)=="call")=Â by decide +kernel,show(("let":Æ)=="call")=Â by decide +kernel,show(("own":Æ)=="call")=Â by decide +kernel,show(("add":Æ)=="call")=Â by decide +kernel,show(("less":Æ)=="call")=Â by decide +kernel,show(("then":Æ)=="call")=Â by decide +kernel,show(("loop":Æ)=="call")=Â by decide +kernel,show(("if":Æ)=="call")=Â by decide +kernel,zN,jn])
def rf{B B':List (List (List Æ))}{H:List Æ}(hb:∀j,j<k->B[j]?=B'[j]?)(sh:Sh rl k H w):jp rl B w=jp rl B' w:=by
 rcases sh.split with hp | ⟨i,a,b,ns,hs,body,rfl,hi,e⟩
 .rw[wm hp,wm hp]
 .unfold jp th
  erw[jk,kY,jd,hb i hi]
def rL{B B':List (List (List Æ))}{H:List Æ}(hb:∀j,j<k->B[j]?=B'[j]?)(sh:Sh rl k H w):kd rl B w hid=kd rl B' w hid:=by
 have e:=rf hb sh;unfold kd;split
 .split
  .rfl
  .rw[e]
 .rw[e]
theorem fK{B B':List (List (List Æ))}{H:List Æ}(hb:∀j,j<k->B[j]?=B'[j]?):∀{n:Nat} {w:W},okd rl k H n w->mk rl B n w=mk rl B' n w
 | 0,_,h=>by cases h
 | n+1,w,h=>by
  show itself B w++_=itself B' w++_
  rw[sI hb h.1,rL hb h.1];congr 1
  have:∀p∈kd rl B' w [],(λp:W×List Æ=>(mk rl B n p.1).filter λk=>!qc p.2 k) p=(λp:W×List Æ=>(mk rl B' n p.1).filter λk=>!qc p.2 k) p:=λp hp=>by
   have EI:=(de h.1 ⟨qJ,nofun⟩ p hp).1;show(mk rl B n p.1).filter _=(mk rl B' n p.1).filter _
   rw[fK hb (h.2 p.1 EI)]
  rw[yo,yo,qw this]
structure BodsOk(rl:List W)(B:List (List (List Æ))):Prop where
 len:B.length<=rl.length
 at_:∀(i:Nat) (ks:List (List Æ)),B[i]?=À ks->∀(N hs:List Æ) (body:W),rl[i]?=À (.tup [.tup (zk N),.tup (zk hs),body])->dg ks/\ks.length<=34/\(∀x∈ks,x∈uni hs)/\∀x,x∈ks↔x∈mk rl B 3 body
def oF{H:List Æ}(h:x∈uni H)(n:jS x=Ã):x∈uni H':=by
 unfold uni at h ⊢;rcases zA.mp h with z | z
 .exact zA.mpr (.inl z)
 .obtain⟨v,_,rfl⟩:=zp.mp z
  simp[jS] at n
def BodsOk.env{B:List (List (List Æ))}(b:BodsOk rl B)(hr:RG rl):Env0 rl B B.length:=by
 have g:∀ks∈B,∃(N hs:List Æ) (body:W),wd hs/\dg ks/\ks.length<=34/\∀x∈ks,x∈uni hs:=λks hk=>by
  obtain⟨i,hi⟩:=qH.mp hk;have hl:i<rl.length:=zO (zJ.mp hi).1 b.len;obtain⟨N,hs,body,e,_,_,_,w2,_⟩:=hr.g i hl;obtain⟨q1,q2,q3,_⟩:=b.at_ i ks hi N hs body e;exact⟨N,hs,body,w2,q1,q2,q3⟩
 refine⟨zz hr.l ∅,zG _,λks hk=>?_,λks hk x hx=>?_,λks hk x hx=>?_,λi ns hs body e x hx=>?_⟩
 .obtain⟨_,_,_,_,_,q,_⟩:=g ks hk;omega
 .obtain⟨_,hs,_,w2,_,_,q⟩:=g ks hk;exact(wl w2 x (q x hx)).1
 .obtain⟨_,hs,_,w2,_,_,q⟩:=g ks hk;exact(wl w2 x (q x hx)).2
 .have hl:=(zJ.mp e).1
  obtain⟨N,xI,hX,e',_,_,_,w2,_⟩:=hr.g i hl;rw[e] at e';injection e' with e';injection e' with e';injection e' with e1 e2;injection e2 with e2 e3;injection e2 with e2;have:=cn e2;subst this;exact dR ⋯ (w2 x hx)
def BodsOk.uni{B:List (List (List Æ))}(b:BodsOk rl B)(hr:RG rl)(H:List Æ):eQ B B.length H:=by
 intro i ks hi e x hx n;have hl:i<rl.length:=zO hi b.len;obtain⟨N,hs,body,e',_⟩:=hr.g i hl;exact oF ((b.at_ i ks e N hs body e').2.2.1 x hx) n
theorem V1(F:Fs):aU F=zo (zC (ze yY []) (zl 1)) (zo (kK (kc (zd 0)) (zl 2) (bB F)) (ke (zd 1))):=rfl
def iW(p:pl n w=Ã):(zI w).length<=8/\∀q∈zI w,pl n q=Ã:=by
 cases w with
 | tup l=>
  obtain⟨m,rfl,hl,hd⟩:=gf p;unfold zI;split
  .rename_i x r e
   cases e;split
   .split
    .rename_i y a b
     obtain⟨m1,rfl,la,da⟩:=gf (hd (.tup a) (by simp));obtain⟨m2,e2,lb,db⟩:=gf (hd (.tup b) (by simp));refine⟨by rw[zL];omega,λq hq=>?_⟩;rcases zA.mp hq with z | z
     .exact kR (da q z) ∅
     .exact kR (db q z) ∅
    .exact⟨by simp,λq hq=>by simp at hq⟩
   .split
    .rename_i pp _
     refine⟨?_,λq hq=>?_⟩
     .rw[qC];erw[zE] at hl;omega
     .exact kR (hd q (zm _ (jC hq))) ∅
    .exact⟨by simp,λq hq=>by simp at hq⟩
  .exact⟨by simp,λq hq=>by simp at hq⟩
 | _=>exact⟨by simp[zI],λq hq=>by simp[zI] at hq⟩
theorem KO:∀(n:Nat) (w:W),pl m w=Ã->cnt n w<=9 ^ n
 | 0,_,_=>by unfold cnt;omega
 | n+1,w,p=>by
  have hp:=iW p;have:=U5 (n:=n) (B:=9 ^ n) (w:=w) (l:=8) hp.1 λq hq=>KO n q (hp.2 q hq)
  have h1:1<=9 ^ n:=pN (by simp);rw[vK];omega
def VC(p:pl 6 w=Ã):cnt 3 w<=100000:=zz (KO 3 w p) (by decide)
def at_of{α:Type}(h:List α)(o:α):(h++[o])[h.length]?=À o:=by simp
theorem mW{G:Fs}{rl:List W}{h0:MH}(hr:RG rl)
  (e:∀(B:List (List (List Æ))) (bd w:W) (h:MH) (k:Nat) (H:List Æ),Env0 rl B k->eQ B k H->lE H->H.length<=20->Bod h B bd->dt 60 w=Ã->okd rl k H 3 w->cnt 3 w<=100000->∃M:List (List Æ),dg M/\(∀x,x∈M↔x∈mk rl B 3 w)/\(∀x∈M,x∈uni H)/\M.length<=34/\G.bh [.tup rl,bd,w] h=À (.fls (M.map tupS),h)) :
  ∀(r:List W) (B:List (List (List Æ))) (o2:Option W),rl.drop B.length=r->BodsOk rl B->∃B' Iw,BodsOk rl B'/\B'.length=rl.length/\forL (zl 2) (bB G) r [À (.tup rl),À (.ref h0.length),o2] (h0++[.lst (bw B)])=À (.nx [À (.tup rl),À (.ref h0.length),Iw],h0++[.lst (bw B')])
 | [],B,o2,hd,b=>by
  refine⟨B,o2,b,?_,by simp[forL]⟩;have:=List.drop_eq_nil_iff.mp hd;exact Nat.le_antisymm b.len this
 | rule::r,B,o2,hd,b=>by
  have hi:B.length<rl.length:=by
   rcases xO B.length rl.length with z | z
   .exact z
   .rw[List.drop_eq_nil_of_le z] at hd;cases hd
  have Az:=vq hi;rw[hd] at Az;obtain⟨er,Rh⟩:=uO Az;obtain⟨N,hs,body,eb,l1,l2,w1,w2,pb,ob,nd⟩:=hr.g B.length hi;have Iy:rule=.tup [.tup (zk N),.tup (zk hs),body]:=by
   rw[zP hi] at eb;rw[er];exact zX eb
  have Bo:Bod (h0++[.lst (bw B)]) B (.ref h0.length):=⟨by simp[getL],λl=>nofun,λz=>nofun⟩;obtain⟨M,m1,m2,m3,m4,m5⟩:=e B (.ref h0.length) body (h0++[.lst (bw B)]) B.length hs (b.env hr) (b.uni hr hs) w2 ∅ Bo (vi (wn pb) ∅) ob (VC pb);have Ri:bw B++[.fls (M.map tupS)]=bw (B++[M]):=by unfold bw;simp
  have d6:(B++[M]).length=B.length+1:=by simp
  have agree:∀j,j<B.length->B[j]?=(B++[M])[j]?:=λj hj=>by rw[zY hj]
  have b':BodsOk rl (B++[M]):=by
   refine⟨by rw[d6];omega,λi ks ei N' xI hX e'=>?_⟩;rcases xO i B.length with z | z
   .rw[zY z] at ei
    obtain⟨q1,q2,q3,q4⟩:=b.at_ i ks ei N' xI hX e';refine⟨q1,q2,q3,λx=>?_⟩;obtain⟨N2,Eg,NZ,e2,_,_,_,_,_,o2,_⟩:=hr.g i ∅;rw[e'] at e2;have:=zX e2;injection this with this;injection this with t1 t2;injection t2 with t2 t3;injection t3 with t3;subst t3;rw[q4 x,fK (λj hj=>agree j ∅) o2]
   .have zi:i=B.length:=by
     have:=(zJ.mp ei).1;rw[d6] at this;omega
    subst zi;rw[eb] at e';have:=zX e';injection this with this;injection this with t1 t2;injection t2 with t2 t3;injection t2 with t2;injection t3 with t3;subst t3;have:=cn t2;subst this;have ek:ks=M:=by simpa using ei.symm
    subst ek;refine⟨m1,m4,m3,λx=>?_⟩;rw[m2 x,fK agree ob]
  obtain⟨B',Iw,g1,g2,g3⟩:=mW (h0:=h0) hr e r (B++[M]) (À rule) (by rw[d6];exact Rh.symm) b';refine⟨B',Iw,g1,g2,?_⟩;have hg:zl 2 rule [À (.tup rl),À (.ref h0.length),o2] (h0++[.lst (bw B)])=À ([À (.tup rl),À (.ref h0.length),À rule],h0++[.lst (bw B)]):=by simp[zl]
  have lB:(bw B).length<cap:=by
   have:(bw B).length=B.length:=by unfold bw;simp
   rw[this];have:=hr.l;exact zO (show B.length<5 by omega) (by decide)
  have ap:j3 (.ref h0.length) [.fls (M.map tupS)] (h0++[.lst (bw B)])=À (.non,h0++[.lst (bw (B++[M]))]):=by
   erw[j3,at_of];rw[zW lB,Ri];simp
  have gl:getL (h0++[.lst (bw B)]) (.ref h0.length)=À (bw B):=by erw[getL,at_of]
  have ib:∀h,zt rule (.int 2) h=À (body,h):=λh=>by rw[Iy];exact lQ
  have st:bB G [À (.tup rl),À (.ref h0.length),À rule] (h0++[.lst (bw B)])=À (.nx [À (.tup rl),À (.ref h0.length),À rule],h0++[.lst (bw (B++[M]))]):=by
   generalize h0++[.lst (bw (B++[M]))]=h2 at ap ⊢;generalize M.map tupS=Z at m5 ap;generalize h0++[.lst (bw B)]=h1 at m5 ap gl ⊢;simp![bB,kH,gl,ib,m5,ap]
  unfold forL;rw[hg];erw[st];exact g3
def sS{rl:List W}(hr:RG rl)(h:MH):∃B,BodsOk rl B/\B.length=rl.length/\(step (step (step (step (step F))))).aD [.tup rl] h=À (.fls (bw B),h):=by
 have e:=λ(B:List (List (List Æ))) (bd w:W) (h:MH) (k:Nat) (H:List Æ) (a1:Env0 rl B k) (a2:eQ B k H) (a3:lE H) (a4:H.length<=20) (a5:Bod h B bd) (a6:dt 60 w=Ã) (a7:okd rl k H 3 w) (a8:cnt 3 w<=100000)=>s_by (F:=F) a1 a2 a3 a4 a5 a6 a7 a8
 generalize step (step (step (step F)))=G at e;obtain⟨B',Iw,b1,b2,b3⟩:=mW (h0:=h) hr e rl [] Á rfl ⟨qp _,λi ks ei=>by simp at ei⟩;refine⟨B',b1,b2,?_⟩;have c0:(0:Nat)<=cap:=by decide
 have row:aU G [À (.tup rl),Á,Á] h=À (.ret (.ref h.length),h++[.lst (bw B')]):=by
  rw[V1];rw[zw (ρ':=[À (.tup rl),À (.ref h.length),Á]) (h':=h++[.lst []]) (by simp![yY,c0])];have fr:(kK (kc (zd 0)) (zl 2) (bB G)) [À (.tup rl),À (.ref h.length),Á] (h++[.lst []])=À (.nx [À (.tup rl),À (.ref h.length),Iw],h++[.lst (bw B')]):=by
   unfold kK;have it:kc (zd 0) [À (.tup rl),À (.ref h.length),Á] (h++[.lst []])=À (.items rl,h++[.lst []]):=by simp![kc,srcOf]
   rw[it];exact b3
  rw[zw fr];simp![]
 refine U3 (h':=h++[.lst (bw B')]) (n:=h.length) ?_ (jH _ _) (zG _) (at_of _ _) ?_
 .erw[kS,zE,kI,kY,zu,ji,Ç,jr,kJ]
  erw[row]
 .refine qr λw hw=>?_
  unfold bw at hw;obtain⟨ks,_,rfl⟩:=zp.mp hw;exact xw ks
def nW{B B':List (List (List Æ))}(hr:RG rl)(b:BodsOk rl B)(b':BodsOk rl B')(hl:B.length=B'.length):B=B':=by
 have key:∀i:Nat,B[i]?=B'[i]?:=by
  intro i;induction i using Nat.strongRecOn with
  | ind i ih=>
   rcases xO i B.length with z | z
   .obtain⟨N,hs,body,e,_,_,_,_,_,o,_⟩:=hr.g i (zO z b.len)
    have q:=zP z;have q':=zP (show i<B'.length by omega);obtain⟨u1,_,_,m1⟩:=b.at_ i _ q N hs body e;obtain⟨u2,_,_,m2⟩:=b'.at_ i _ q' N hs body e;rw[q,q'];congr 1
    refine xD u1 u2 λx=>?_
    rw[m1 x,m2 x,fK (λj hj=>ih j hj) o]
   .rw[j6 z,j6 ∅]
 exact List.ext_getElem? key
def Qg{rl:List W}(hr:RG rl):∃B,BodsOk rl B/\B.length=rl.length/\∀h,(step (step (step (step (step F))))).aD [.tup rl] h=À (.fls (bw B),h):=by
 obtain⟨B,b1,b2,b3⟩:=sS (F:=F) hr [];refine⟨B,b1,b2,λh=>?_⟩;obtain⟨B',c1,c2,c3⟩:=sS (F:=F) hr h;have:=nW hr b1 c1 ∅;subst this;exact c3
def nS{rl:List W}{B:List (List (List Æ))}(hr:RG rl)(b:BodsOk rl B)(bl:B.length=rl.length)(eb:∀h,(step (step (step (step (step F))))).aD [.tup rl] h=À (.fls (bw B),h))(hn:n<=5)(hm:m<=60)(p:pl m w=Ã)(o:okd rl rl.length [] n w) :
  ∃M:List (List Æ),dg M/\(∀x,x∈M↔x∈mk rl B n w)/\(∀x∈M,x∈uni [])/\M.length<=34/\∀h,(step (step (step (step (step (step F)))))).aO [.tup rl,w] h=À (.fls (M.map tupS),h):=by
 have Bo:∀h,Bod h B (.fls (bw B)):=λh=>⟨rfl,λl=>nofun,λz=>nofun⟩
 have E0:=b.env hr;have hU:=b.uni hr [];rw[bl] at E0 hU;have N0:=λh=>s_by (F:=step F) E0 hU (λv hv=>by simp at hv) (by simp) (Bo h) (vi (wn p) hm) o (zz (KO n w p) (zz (qL ∅ hn) (by decide)))
 obtain⟨M,m1,m2,m3,m4,_⟩:=N0 [];refine⟨M,m1,m2,m3,m4,λh=>?_⟩;obtain⟨M',n1,n2,n3,n4,n5⟩:=N0 h;have:M=M':=xD m1 n1 λx=>(m2 x).trans (n2 x).symm
 subst this;generalize step (step (step (step (step F))))=G at eb n5;refine qh (h':=h) ?_ (xw _) (jf _);generalize M.map tupS=Z at n5;simp![bT,eb,n5]
theorem nZ:∀ks:List (List Æ),gX (ks.map tupS)=À ks
 | []=>rfl
 | k::r=>by erw[zu,gX,ky,nZ r];rfl
theorem fY{ks:List (List Æ)}{U:List (List Æ)}(l:ks.length<890)(u:∀x∈ks,x∈U)(lu:U.length<64)(ne:∀x∈ks,x≠[]):wa (.fls (ks.map tupS)) h=À (.fls ((kG ks).map tupS),h):=by
 have e:dj (ks.map tupS)=À (.eq,ks):=by unfold dj;rw[nZ]
 unfold wa;erw[qV,getL,jM,e];have nd:(kG ks).Nodup:=xl (we ks);have:=aw nd λx hx=>u x (ssort_mem.mp hx)
 rw[zW ⟨l,by omega,ne⟩];rfl
noncomputable def sQ(G:Fs)(rl:List W)(B:List (List (List Æ)))(k n:Nat):Prop:=∀(H:List Æ) (w:W),okd rl k H n w->pl 6 w=Ã->lE H->H.length<=20->∃M:List (List Æ),dg M/\(∀x,x∈M↔x∈mk rl B n w)/\∀h,G.aj [.tup rl,w] h=À (.fls (M.map tupS),h)
theorem sR{H:List Æ}(hU:eQ B k H):∀{n:Nat} {w:W},okd rl k H n w->∀x∈mk rl B n w,x∈uni H
 | 0,_,h,_,_=>by cases h
 | n+1,w,h,x,hx=>by
  rcases mem_mk.mp hx with z | ⟨p,hp,z,_⟩
  .exact fI hU h.1 x z
  .exact sR hU (h.2 p.1 (de h.1 ⟨qJ,nofun⟩ p hp).1) x z
theorem Vk(F:Fs):aY F=zo (Vs F) (zo (VA F) (zo (QD F) (zo (ZK F) (JJ F)))):=rfl
noncomputable def ZD(F:Fs):MS:=(kM (zD (vw (isW .tuple) (zd 3)))
 (zo (zC (ze F.aj [zd 0,zd 3]) (zl 6))
 (zo (kM (vb (zD (zh (kf Â) (zh zt (zd 1) (OJ 0)) (OZ "own"))) (zD (zh (kf Â) (zd 5) (OJ 3))))
 (zC (kq (kc (zd 6)) 1 [1] (zl 0) (zD (zh (kf Ã) (yT (zd 0) (À (OJ 1)) Á) (ze zv [zh zt (zd 1) (OJ 1)]))) (zd 0)) (zl 6))
 ko)
 (zC (zh addW (zd 2) (zd 6)) (zl 2))))
 ko)
theorem B3(F:Fs):ZK F=kK (u3 [zd 1]) (vF [zl 5,zl 3]) (ZD F):=rfl
noncomputable abbrev ρl(rl:List W)(w:W)(F:List (List Æ))(o3 o4 o5 o6:Option W):En:=[À (.tup rl),À w,À (.fls (F.map tupS)),o3,o4,o5,o6]
def fD{A C:List (List Æ)}(h:MH)(hl:A.length+C.length<=1000):addW (.fls (A.map tupS)) (.fls (C.map tupS)) h=À (.fls ((A++C).map tupS),h):=by
 erw[addW,k8,getL,zF];rw[zW (zz hl (by decide)),yE]
noncomputable def eJ(w:W)(j:Nat)(k:List Æ):Bool:=match w with
 | .tup (.str x::.str v::_)=>x=="own" && (j==3&&(k.drop 1==[v]))
 | _=>Â
def gp(k:List Æ)(h:MH):gG (tupS k) (À 1) Á h=À (tupS (k.drop 1),h):=by
 unfold tupS;erw[gG];have:=fu (l:=k.map W.str) (k:=1);rw[show((1:Nat):Int)=1 from rfl] at this;rw[this,yV]
def Kh(h:MH)(gk:jI k=Ã)(gl:jI l=Ã):eqB h (tupS k) (tupS l)=À (k==l):=by
 have ef:ip (tupS k) (tupS l)=Á:=rfl;unfold eqB;rw[ef,d8 gk,d8 gl];erw[ä,iM];by_cases e:k=l
 .subst e;simp
 .have:(k==l)=Â:=jA.mpr e
  simp[this,e]
def gF{k:List Æ}(g:jI k=Ã)(n:Nat):jI (k.drop n)=Ã:=by
 unfold jI at g ⊢;rw[zy] at g ⊢;refine⟨kO (zz (by rw[qC];omega) (jD g.1)),zZ.mpr λx hx=>zZ.mp g.2 x (jC hx)⟩
theorem mL{G:Fs}{rl:List W}{w:W}{x:Æ}{r0:List W}{h:MH}{U:List (List Æ)}{f:W->List (List Æ)}(ew:w=th x r0)(dw:dt 60 w=Ã)(Hc:(x==("own":Æ))=Ã->∃v a b,r0=[.str v,a,b]/\pl 1 (.str v)=Ã)
  (gU:∀k∈U,jI k=Ã/\k≠[]) (e:∀q,tyB .tuple q=Ã->q∈r0->∃M:List (List Æ),(∀y,y∈M↔y∈f q)/\M.length<=40/\(∀y∈M,y∈U)/\∀h,G.aj [.tup rl,q] h=À (.fls (M.map tupS),h)) :
  ∀(r:List W) (i:Nat) (F:List (List Æ)) (o3 o4 o5 o6:Option W),(∀q∈r,q∈r0\/tyB .tuple q=Â)->(∀q∈r,dt 59 q=Ã)->F.length+40*r.length<=800->(∀y∈F,y∈U)->
   ∃F' p3 p5 p6,forL (vF [zl 5,zl 3]) (ZD G) ((r.zipIdx i).map λp=>.tup [.int (p.2:Nat),p.1]) (ρl rl w F o3 o4 o5 o6) h=À (.nx (ρl rl w F' p3 o4 p5 p6),h)/\F'.length<=F.length+40*r.length/\(∀y∈F',y∈U)/\∀y,y∈F'↔y∈F\/∃p∈r.zipIdx i,tyB .tuple p.1=Ã/\y∈f p.1/\eJ w p.2 y=Â
 | [],i,F,o3,o4,o5,o6,_,_,_,uF=>⟨F,o3,o5,o6,by simp[forL],by omega,uF,λy=>by simp⟩
 | q::r,i,F,o3,o4,o5,o6,hq,dq,hl,uF=>by
  erw[zE] at hl;have hg:vF [zl 5,zl 3] (.tup [.int (i:Nat),q]) (ρl rl w F o3 o4 o5 o6) h=À (ρl rl w F (À q) o4 (À (.int (i:Nat))) o6,h):=by simp[vF,dZ,bnd,zl]
  cases tq:tyB .tuple q with
  | false=>
   obtain⟨F',p3,p5,p6,g1,g2,g3,g4⟩:=mL (h:=h) ew dw Hc gU e r (i+1) F (À q) o4 (À (.int (i:Nat))) o6 (λz hz=>hq z (zm _ hz)) (λz hz=>dq z (zm _ hz)) ∅ uF;refine⟨F',p3,p5,p6,?_,by erw[zE];omega,g3,λy=>?_⟩
   .have st:ZD G (ρl rl w F (À q) o4 (À (.int (i:Nat))) o6) h=À (.nx (ρl rl w F (À q) o4 (À (.int (i:Nat))) o6),h):=by
     unfold ZD;refine xA ?_;simp![rJ (dq q zr),tq]
    erw[qb,zu];unfold forL;rw[hg];erw[st];exact g1
   .rw[g4 y]
    erw[qb,zj,v6,tq,zN,false_and,false_or]
  | true=>
   obtain⟨M,m1,m2,m3,m4⟩:=e q tq ((hq q zr).resolve_right (by rw[tq];exact Bool.noConfusion));let M1:=M.filter λk=>!eJ w i k
   have Sa:M1.length<=40:=zz (jb _ _) m2;have u1:∀y∈F++M1,y∈U:=λy hy=>(zA.mp hy).elim (uF y) λz=>m3 y (zV.mp z).1
   obtain⟨F',p3,p5,p6,g1,g2,g3,g4⟩:=mL (h:=h) ew dw Hc gU e r (i+1) (F++M1) (À q) o4 (À (.int (i:Nat))) (À (.fls (M1.map tupS))) (λz hz=>hq z (zm _ hz)) (λz hz=>dq z (zm _ hz)) (by rw[zL];omega) u1;refine⟨F',p3,p5,p6,?_,by rw[zL] at g2;erw[zE];omega,g3,λy=>?_⟩
   .have ad:=fD (A:=F) (C:=M1) h ∅
    have st:ZD G (ρl rl w F (À q) o4 (À (.int (i:Nat))) o6) h=À (.nx (ρl rl w (F++M1) (À q) o4 (À (.int (i:Nat))) (À (.fls (M1.map tupS)))),h):=by
     have ix:∀h,zt w (.int 0) h=À (.str x,h):=λh=>by rw[ew];exact w9
     have tt:zD (vw (isW .tuple) (zd 3)) (ρl rl w F (À q) o4 (À (.int (i:Nat))) o6) h=À (Ã,h):=by simp![rJ (dq q zr),tq]
     have s1:(zC (ze G.aj [zd 0,zd 3]) (zl 6)) (ρl rl w F (À q) o4 (À (.int (i:Nat))) o6) h=À (.nx (ρl rl w F (À q) o4 (À (.int (i:Nat))) (À (.fls (M.map tupS)))),h):=by
      have:=m4 h;generalize M.map tupS=Z at this;simp![this]
     have t1:zD (zh (kf Â) (zh zt (zd 1) (OJ 0)) (OZ "own")) (ρl rl w F (À q) o4 (À (.int (i:Nat))) (À (.fls (M.map tupS)))) h=À (x=="own",h):=by
      generalize M.map tupS=Z;simp![ix,kr]
     have t2:zD (zh (kf Â) (zd 5) (OJ 3)) (ρl rl w F (À q) o4 (À (.int (i:Nat))) (À (.fls (M.map tupS)))) h=À ((i:Int)==3,h):=by
      generalize M.map tupS=Z;simp![vj]
     have tc:(vb (zD (zh (kf Â) (zh zt (zd 1) (OJ 0)) (OZ "own"))) (zD (zh (kf Â) (zd 5) (OJ 3)))) (ρl rl w F (À q) o4 (À (.int (i:Nat))) (À (.fls (M.map tupS)))) h=À (x=="own" && ((i:Int)==3),h):=by
      cases qo:(x==("own":Æ)) with
      | false=>rw[qo] at t1;unfold vb bnd;rw[t1];rfl
      | true=>rw[qo] at t1;unfold vb bnd;rw[t1];exact t2.trans (by simp)
     have s2:(kM (vb (zD (zh (kf Â) (zh zt (zd 1) (OJ 0)) (OZ "own"))) (zD (zh (kf Â) (zd 5) (OJ 3))))
       (zC (kq (kc (zd 6)) 1 [1] (zl 0) (zD (zh (kf Ã) (yT (zd 0) (À (OJ 1)) Á) (ze zv [zh zt (zd 1) (OJ 1)]))) (zd 0)) (zl 6)) ko) (ρl rl w F (À q) o4 (À (.int (i:Nat))) (À (.fls (M.map tupS)))) h=À (.nx (ρl rl w F (À q) o4 (À (.int (i:Nat))) (À (.fls (M1.map tupS)))),h):=by
      cases c:(x==("own":Æ)&&((i:Int)==3)) with
      | false=>
       have e0:M1=M:=by
        refine pJ.mpr λk _=>?_
        have:eJ w i k=Â:=by
         rw[ew];unfold eJ th;split
         .rename_i x' v' r' eq
          cases eq;cases c1:(x==("own":Æ)) with
          | false=>rfl
          | true=>
           rw[c1,Bool.true_and] at c;have:(i==3)=Â:=by
            have z:¬(i:Int)=3:=by simpa using c
            exact jA.mpr ∅
           rw[this];rfl
         .rfl
        rw[this];rfl
       rw[e0];exact xA (tc.trans (by rw[c]))
      | true=>
       rw[zy] at c;obtain⟨v,a,b,er,pv⟩:=Hc c.1;have Rj:i=3:=by have:=c.2;simp at this;omega
       have lh:∀k,eJ w i k=(k.drop 1==[v]):=λk=>by
        rw[ew,er];show(x=="own" && (i==3&&(k.drop 1==[v])))=_
        rw[c.1,Rj];simp
       have gv:jI [v]=Ã:=by
        unfold jI;rw[zy];exact⟨kO (by simp),by erw[jG,List.all_nil,xg];exact pv⟩
       refine gC (tc.trans (by rw[jm.mpr c])) ?_;have GM:(1:Nat)<=cap:=by decide
       have Mu:∀h,zt w (.int 1) h=À (.str v,h):=λh=>by rw[ew,er];exact yA
       have cm:kq (kc (zd 6)) 1 [1] (zl 0) (zD (zh (kf Ã) (yT (zd 0) (À (OJ 1)) Á) (ze zv [zh zt (zd 1) (OJ 1)]))) (zd 0) (ρl rl w F (À q) o4 (À (.int (i:Nat))) (À (.fls (M.map tupS)))) h=À (.fls (M1.map tupS),h):=by
        refine(xh (l:=M.map tupS) (λz=>match vc z with | some k=>!(k.drop 1==[v]) | none=>Â) id ?_ ?_ ?_ ?_ ?_).trans ?_
        .generalize M.map tupS=Z
         simp![kc,srcOf]
        .intro z hz H'
         obtain⟨k,hk,rfl⟩:=zp.mp hz;have gk:=(gU k (m3 k hk)).1;have sk:=gp k H';have ek:=Kh H' (gF gk 1) gv;have ev:tupS [v]=.tup [.str v]:=rfl;rw[ev] at ek;erw[ky];generalize tupS (k.drop 1)=K2 at sk ek;generalize tupS k=K1 at sk;simp![yT,bS,sk,Mu,zv,GM,ek]
        .intro z hz _ H';simp![]
        .intro z hz _
         obtain⟨k,hk,rfl⟩:=zp.mp hz;exact ab k
        .rw[zF];exact zz m2 (by decide)
        .have fe:((λz=>match vc z with | some k=>!(k.drop 1==[v]) | none=>Â)∘tupS)=λk=>!eJ w i k:=funext λk=>by erw[æ,ky,lh]
         rw[yd,qx,fe]
       generalize M1.map tupS=Z1 at cm ⊢;generalize M.map tupS=Z at cm ⊢;unfold zC;rw[cm];simp[zl]
     unfold ZD;refine gC tt ?_;rw[zw s1,zw s2];erw[ρl];generalize (F++M1).map tupS=Z2 at ad ⊢;generalize M1.map tupS=Z1 at ad ⊢;generalize F.map tupS=Z0 at ad ⊢;simp![ad]
    erw[qb,zu];unfold forL;rw[hg];erw[st];exact g1
   .rw[g4 y,zA,zV,m1 y]
    erw[qb,zj,v6,tq,true_and,jZ];constructor
    .rintro((z | z) | z)
     .exact .inl z
     .exact .inr (.inl z)
     .exact .inr (.inr z)
    .rintro(z | z | z)
     .exact .inl (.inl z)
     .exact .inl (.inr z)
     .exact .inr z
def CD{r:List W}(d:dt 60 (th x r)=Ã):eqB h (th x r) (.tup [.str "ask"])=À (x=="ask" && r.isEmpty):=by
 rw[show th x r=.tup (.str x::r) from rfl] at d ⊢;rw[Zs d ∅ (m:=2) ⋯ ∅];erw[toD,zu,ji,ä,á];cases r<;>simp[á]
def pz{a:W}{b:Bool}(h:MH):ki (.fls [a]) (.int (if b then 1 else 0)) h=À (.fls (if b then [a] else []),h):=by
 cases b<;>simp[ki,Ç]
noncomputable def first(x:Æ)(r:List W):List W:=(if zS ["read","write","do"] (.str x) then [.tup (cutW (.str x::r) Á (À 2))] else [])++(if (x=="ask" && r.isEmpty) then [th x r] else [])++(if x=="say" then [.tup [.str "say"]] else [])
def WK(d:dt 60 (th x r)=Ã)(hc:(x==("call":Æ))=Â):zo (Vs G) (zo (VA G) (zo (QD G) (zo (ZK G) (JJ G)))) [À (.tup rl),À (th x r),Á,o3,o4,o5,o6] h=zo (ZK G) (JJ G) [À (.tup rl),À (th x r),À (.fls (first x r)),o3,o4,o5,o6] h:=by
 have dx:dt 59 (.str x)=Ã:=by
  obtain⟨m,e,_,hd⟩:=kX d;cases e;exact hd _ zr
 have c1:(1:Nat)<=cap:=by decide
 have c3:(3:Nat)<=cap:=by decide
 have z3:=i3 (h:=h) dx ∅;have za:=CD (h:=h) d;have s0:Vs G [À (.tup rl),À (th x r),Á,o3,o4,o5,o6] h=À (.nx [À (.tup rl),À (th x r),Á,o3,o4,o5,o6],h):=by
  refine xA ?_;simp![w9,kr,hc]
 let A:List W:=(if zS ["read","write","do"] (.str x) then [.tup (cutW (.str x::r) Á (À 2))] else [])
 let C:List W:=(if (x=="ask" && r.isEmpty) then [th x r] else [])
 let S:List W:=(if x=="say" then [.tup [.str "say"]] else [])
 have lA:A.length<=1:=by show(ite _ _ _:List W).length<=1;split<;>simp
 have lC:C.length<=1:=by show(ite _ _ _:List W).length<=1;split<;>simp
 have lS:S.length<=1:=by show(ite _ _ _:List W).length<=1;split<;>simp
 have m1:=pz (a:=.tup (cutW (.str x::r) Á (À 2))) (b:=zS ["read","write","do"] (.str x)) h;have m2:=pz (a:=th x r) (b:=(x=="ask" && r.isEmpty)) h;have m3:=pz (a:=.tup [.str "say"]) (b:=(x=="say")) h;have sl:gG (th x r) Á (À 2) h=À (.tup (cutW (.str x::r) Á (À 2)),h):=rfl;have iw:∀b:Bool,iV [.bl b] h=À (.int (if b then 1 else 0),h):=λb=>rfl
 have IU:∀(a b:List W),a.length+b.length<=1000->addW (.fls a) (.fls b) h=À (.fls (a++b),h):=λa b l=>by
  erw[addW,k8,getL];rw[zW (zz l (by decide))]
 have a1:=IU A C ∅;have a2:=IU (A++C) S (by rw[zL];omega);have s1:VA G [À (.tup rl),À (th x r),Á,o3,o4,o5,o6] h=À (.nx [À (.tup rl),À (th x r),À (.fls (A++C)),o3,o4,o5,o6],h):=by
  have iA:=iw (zS ["read","write","do"] (.str x));have iC:=iw (x=="ask" && r.isEmpty);have i0:zt (th x r) (.int 0) h=À (.str x,h):=w9;have IZ:ki (.fls [.tup (cutW (.str x::r) Á (À 2))]) (.int (if zS ["read","write","do"] (.str x) then 1 else 0)) h=À (.fls A,h):=m1;have I0:ki (.fls [th x r]) (.int (if (x=="ask" && r.isEmpty) then 1 else 0)) h=À (.fls C,h):=m2;generalize A++C=AC at a1 ⊢;generalize A=A' at IZ a1;generalize C=C' at I0 a1;generalize (if zS ["read","write","do"] (.str x) then (1:Int) else 0)=b1 at iA IZ;generalize (if (x=="ask" && r.isEmpty) then (1:Int) else 0)=b2 at iC I0;generalize W.tup (cutW (.str x::r) Á (À 2))=W2 at sl IZ;generalize zS ["read","write","do"] (.str x)=q3 at z3 iA;generalize (x=="ask" && r.isEmpty)=qa at za iC;generalize th x r=w at sl i0 za I0 ⊢;simp![VA,yT,bS,sl,i0,z3,za,iA,iC,IZ,I0,a1,zv,kx,c1,c3]
 have s2:QD G [À (.tup rl),À (th x r),À (.fls (A++C)),o3,o4,o5,o6] h=À (.nx [À (.tup rl),À (th x r),À (.fls (first x r)),o3,o4,o5,o6],h):=by
  have iS:=iw (x=="say");have i0:zt (th x r) (.int 0) h=À (.str x,h):=w9;have KB:ki (.fls [.tup [.str "say"]]) (.int (if (x=="say") then 1 else 0)) h=À (.fls S,h):=m3;have ef:A++C++S=first x r:=rfl
  rw[<-ef];generalize A++C++S=ACS at a2 ⊢;generalize A++C=AC at a2 ⊢;generalize S=S' at KB a2;generalize hb:(x==("say":Æ))=qs at iS KB;generalize (if qs=Ã then (1:Int) else 0)=b3 at iS KB;generalize th x r=w at i0 ⊢;simp![QD,i0,kr,hb,iS,KB,a2,zv,kx,c1]
 rw[zw s0,zw s1,zw s2]
def gb{H:List Æ}(sh:Sh rl k H (th x r))(hc:(x==("call":Æ))=Â):first x r=(itself B (th x r)).map tupS:=by
 generalize e:th x r=w at sh;have key:∀{y:Æ} {s:List W},th x r=th y s->x=y/\r=s:=λh=>by
  unfold th at h;injection h with h;injection h with h1 h2;injection h1 with h1;exact⟨h1,h2⟩
 have non:zS ["read","write","do"] (.str x)=Â->(x==("ask":Æ))=Â->(x==("say":Æ))=Â->(x==("call":Æ))=Â->first x r=(itself B (th x r)).map tupS:=by
  intro q1 q2 q3 q4;have q5:zS ["say","ask"] (.str x)=Â:=by
   show(["say","ask"]:List Æ).any (· == x)=Â
   erw[vO,List.any_nil,xf,Bool.or_eq_false_iff];exact⟨(BEq.comm (a:=("say":Æ)) (b:=x)).trans q3,(BEq.comm (a:=("ask":Æ)) (b:=x)).trans q2⟩
  erw[first,itself,th,q1,q2,q3,q4,q5,vV,zN,jn,qN,ji]
 have two:∀(v:Æ) (s:List W),r=.str v::s->zS ["read","write","do"] (.str x)=Ã->(x==("ask":Æ))=Â->(x==("say":Æ))=Â->first x r=(itself B (th x r)).map tupS:=by
  intro v s er q1 q2 q3;subst er;have ct:cutW (W.str x::.str v::s) Á (À 2)=[.str x,.str v]:=by
   have:=J1 (l:=W.str x::.str v::s) (k:=2) (by simp);rw[show((2:Nat):Int)=2 from rfl] at this;rw[this];rfl
  erw[first,itself,th,q1,q2,q3,ct,vV,zN,jn,kY,qN,ji,zu,tupS]
 cases sh with
 | number i=>
  obtain⟨rfl,rfl⟩:=key e;exact non ⋯ ⋯ ⋯ hc
 | name v=>
  obtain⟨rfl,rfl⟩:=key e;exact non ⋯ ⋯ ⋯ hc
 | lett v a b=>
  obtain⟨rfl,rfl⟩:=key e;exact non ⋯ ⋯ ⋯ hc
 | own v hv a b=>
  obtain⟨rfl,rfl⟩:=key e;exact non ⋯ ⋯ ⋯ hc
 | add a b=>
  obtain⟨rfl,rfl⟩:=key e;exact non ⋯ ⋯ ⋯ hc
 | less a b=>
  obtain⟨rfl,rfl⟩:=key e;exact non ⋯ ⋯ ⋯ hc
 | thenn a b=>
  obtain⟨rfl,rfl⟩:=key e;exact non ⋯ ⋯ ⋯ hc
 | loop a b=>
  obtain⟨rfl,rfl⟩:=key e;exact non ⋯ ⋯ ⋯ hc
 | iff a b c=>
  obtain⟨rfl,rfl⟩:=key e;exact non ⋯ ⋯ ⋯ hc
 | read v hv=>
  obtain⟨rfl,rfl⟩:=key e;exact two v _ rfl ⋯ ⋯ ⋯
 | doo v hv=>
  obtain⟨rfl,rfl⟩:=key e;exact two v _ rfl ⋯ ⋯ ⋯
 | write v hv a=>
  obtain⟨rfl,rfl⟩:=key e;exact two v _ rfl ⋯ ⋯ ⋯
 | ask=>
  obtain⟨rfl,rfl⟩:=key e;erw[first,itself,th,show zS ["read","write","do"] (.str "ask")=Â by decide +kernel,show zS ["say","ask"] (.str "ask")=Ã by decide +kernel,show(("ask":Æ)=="say")=Â by decide +kernel,jk,List.isEmpty_nil,xg,kY,zN,jn,qN,kJ,zu,ji,tupS]
 | say a=>
  obtain⟨rfl,rfl⟩:=key e;erw[first,itself,th,show zS ["read","write","do"] (.str "say")=Â by decide +kernel,show zS ["say","ask"] (.str "say")=Ã by decide +kernel,show(("say":Æ)=="ask")=Â by decide +kernel,jk,vV,kY,zN,jn,qN,kJ,zu,ji,tupS]
 | call i a b hi ns hs body e' lb=>
  obtain⟨rfl,rfl⟩:=key e;rw[show(("call":Æ)=="call")=Ã by decide +kernel] at hc;cases hc
def sN(h:th x r=th y s):x=y/\r=s:=by
 unfold th at h;injection h with h;injection h with h1 h2;injection h1 with h1;exact⟨h1,h2⟩
def Wy{H:List Æ}{r:List W}(sh:Sh rl k H (th x r)):r.length<=3/\((x==("own":Æ))=Ã->∃(v:Æ) (a b:List W),r=[.str v,.tup a,.tup b]/\(v="p" \/ v="q")):=by
 generalize e:th x r=w at sh;have no:∀{y:Æ},(y==("own":Æ))=Â->x=y->((x==("own":Æ))=Ã->∃(v:Æ) (a b:List W),r=[.str v,.tup a,.tup b]/\(v="p" \/ v="q")):=λh1 h2 h3=>by
  subst h2;rw[h1] at h3;cases h3
 cases sh with
 | own v hv a b=>obtain⟨rfl,rfl⟩:=sN e;exact⟨by simp,λ_=>⟨v,a,b,rfl,hv⟩⟩
 | _=>obtain⟨e1,rfl⟩:=sN e;exact⟨by simp,no ⋯ e1⟩
def Wr{H:List Æ}{v:Æ}(hv:v="p" \/ v="q"){y:List Æ}(hy:y∈uni H):(y.drop 1==[v])=qc (hide [] v) y:=by
 have e0:qc (hide [] v) y=(v==vt y):=by
  unfold qc hide;simp
 rw[e0];have two:∀a s:Æ,((List.drop 1 [a,s])==[v])=(v==vt [a,s]):=λa s=>by
  show(s==v&&Ã)=(v==s)
  rw[xg];exact BEq.comm
 unfold uni at hy;rcases zA.mp hy with hy | hy
 .rcases zA.mp hy with hy | hy
  .obtain⟨s,_,hk⟩:=jX.mp hy
   erw[zj,zx,kE] at hk;rcases hk with rfl | rfl
   .exact two _ _
   .exact two _ _
  .erw[zj,zx,kE] at hy
   rcases hy with rfl | rfl<;>rcases hv with rfl | rfl<;>decide +kernel
 .obtain⟨s,_,rfl⟩:=zp.mp hy
  exact two _ _
theorem Z8{α:Type}:∀{l:List α} {i:Nat} {p:α×Nat},p∈l.zipIdx i->p.1∈l
 | [],_,_,h=>by simp at h
 | a::l,i,p,h=>by
  rw[qb,zj] at h;rcases h with rfl | h
  .exact zr
  .exact zm _ (Z8 h)
theorem JP{α:Type}:∀{l:List α} (i:Nat) {q:α},q∈l->∃j,(q,j)∈l.zipIdx i
 | [],_,_,h=>by simp at h
 | a::l,i,q,h=>by
  rw[qb];rcases zj.mp h with rfl | h
  .exact⟨i,zr⟩
  .obtain⟨j,hj⟩:=JP (i+1) h
   exact⟨j,zm _ hj⟩
def VV{G:Fs}{rl:List W}{B:List (List (List Æ))}{k n:Nat}{H:List Æ}{r:List W}(hU:eQ B k H)(wH:lE H)(lH:H.length<=20)(HM:sQ G rl B k n)(hc:(x==("call":Æ))=Â)(hq:r.filter (tyB .tuple)=zI (th x r))(pn:Pn (th x r))(o:okd rl k H (n+1) (th x r))(p:pl 6 (th x r)=Ã) :
  ∃M:List (List Æ),dg M/\(∀y,y∈M↔y∈mk rl B (n+1) (th x r))/\∀h,(step G).aj [.tup rl,th x r] h=À (.fls (M.map tupS),h):=by
 have d:dt 60 (th x r)=Ã:=vi (wn p) ∅;obtain⟨lr,own⟩:=Wy o.1;have lU:(uni H).length<=34:=by rw[gJ];omega
 have gU:=wl wH;obtain⟨m,em,_,hd⟩:=kX d;cases em;have dp:=cZ (n:=59) d;have uP:∀q∈zI (th x r),∀y∈mk rl B n q,y∈uni H:=λq He=>sR hU (o.2 q He)
 have e:∀q,tyB .tuple q=Ã->q∈r->∃M:List (List Æ),(∀y,y∈M↔y∈mk rl B n q)/\M.length<=40/\(∀y∈M,y∈uni H)/\∀h,G.aj [.tup rl,q] h=À (.fls (M.map tupS),h):=λq tq hm=>by
  have hp:q∈zI (th x r):=by rw[<-hq];exact zV.mpr ⟨hm,tq⟩
  obtain⟨M,m1,m2,m3⟩:=HM H q (o.2 q hp) ((iW p).2 q hp) wH lH;have u:=λy (hy:y∈M)=>uP q hp y ((m2 y).mp hy)
  exact⟨M,m2,zz (aw (xl m1) u) ∅,u,m3⟩
 have uI:=fI hU o.1;have lI:(itself B (th x r)).length<=3:=by
  have:=jt â (gb (B:=B) o.1 hc);rw[zF] at this;rw[<-this];unfold first
  rw[zL,zL];have h1:∀(c:Bool) (a:W),(if c then [a] else []:List W).length<=1:=λc a=>by cases c<;>simp
  have:=h1 (zS ["read","write","do"] (.str x)) (.tup (cutW (.str x::r) Á (À 2)));have:=h1 (x=="ask" && r.isEmpty) (th x r);have:=h1 (x=="say") (.tup [.str "say"]);omega
 have loop:=λh=>mL (G:=G) (rl:=rl) (h:=h) (U:=uni H) (f:=mk rl B n) rfl d (λc=>by
  obtain⟨v,a,b,er,hv⟩:=own c;exact⟨v,_,_,er,by rcases hv with rfl | rfl<;>decide +kernel⟩) gU e (.str x::r) 0 (itself B (th x r)) Á Á Á Á (λq He=>by
   rcases zj.mp He with rfl | z
   .exact .inr rfl
   .exact .inl z) (λq He=>hd q He) (by erw[zE];omega) uI
 obtain⟨F',p3,p5,p6,_,g2,g3,g4⟩:=loop [];have mem:∀y,y∈F'↔y∈mk rl B (n+1) (th x r):=λy=>by
  rw[g4 y,mem_mk];refine or_congr Iff.rfl ?_;cases qo:(x==("own":Æ)) with
  | true=>
   obtain⟨v,a,b,er,hv⟩:=own qo;have ex:=eq_of_beq qo;subst er;subst ex;have ew:kd rl B (th "own" [.str v,.tup a,.tup b]) []=[(.tup a,[]),(.tup b,hide [] v)]:=by
    erw[kd,th,jk,kY]
   have Rk:zI (th "own" [.str v,.tup a,.tup b])=[.tup a,.tup b]:=by
    have h1:(("own":Æ)=="call")=Â:=by decide +kernel
    have h2:fm "own" = À (4,2):=by decide +kernel
    erw[zI,h1,h2];rfl
   rw[ew];erw[qb,ug,zj,zx,kE,v6,exists_eq_left,tyB,decide_true,true_and,mF,uH];have l2:eJ (th "own" [.str v,.tup a,.tup b]) (0+1+1) y=Â:=by
    show(("own":Æ)=="own" && ((0+1+1:Nat)==3&&(y.drop 1==[v])))=Â
    simp
   have l3:eJ (th "own" [.str v,.tup a,.tup b]) (0+1+1+1) y=(y.drop 1==[v]):=by
    show(("own":Æ)=="own" && ((0+1+1+1:Nat)==3&&(y.drop 1==[v])))=_
    simp
   rw[l2,l3];have uy:y∈mk rl B n (.tup b)->(y.drop 1==[v])=qc (hide [] v) y:=λhy=>Wr hv (uP (.tup b) (by rw[Rk];simp) y hy)
   constructor
   .rintro(z | z | z | z)
    .cases z.1
    .cases z.1
    .exact .inl z.1
    .exact .inr ⟨z.1,(uy z.1).symm.trans z.2⟩
   .rintro(z | z)
    .exact .inr (.inr (.inl ⟨z,rfl⟩))
    .exact .inr (.inr (.inr ⟨z.1,(uy z.1).trans z.2⟩))
  | false=>
   rw[xp qo,wm pn,<-hq];have ln:∀j,eJ (th x r) j y=Â:=λj=>by
    unfold eJ th;split
    .rename_i x' v' r' eq
     cases eq;rw[qo];rfl
    .rfl
   constructor
   .rintro⟨p,hp,t,z,_⟩
    have hm:p.1∈r:=by
     rcases zj.mp (Z8 hp) with e | e
     .rw[e] at t;cases t
     .exact e
    exact⟨(p.1,[]),zp.mpr ⟨p.1,zV.mpr ⟨hm,t⟩,rfl⟩,z,rfl⟩
   .rintro⟨p,hp,z,_⟩
    obtain⟨q,He,rfl⟩:=zp.mp hp;obtain⟨hm,tq⟩:=zV.mp He;obtain⟨j,hj⟩:=JP 0 (zm (W.str x) hm);exact⟨(q,j),hj,tq,z,ln j⟩
 refine⟨kG F',we _,λy=>ssort_mem.trans (mem y),λh=>?_⟩;obtain⟨F2,Rm,Rn,Ro,f1,f2,f3,f4⟩:=loop h;have es:kG F2=kG F':=dA λy=>(f4 y).trans (g4 y).symm
 rw[<-es];refine qh (h':=h) ?_ (xw _) (jf _);have AJ:=fY (ks:=F2) (U:=uni H) (h:=h) (by erw[zE] at f2;omega) f3 ∅ λy hy=>(gU y (f3 y hy)).2
 have row:aY G [À (.tup rl),À (th x r),Á,Á,Á,Á,Á] h=À (.ret (.fls ((kG F2).map tupS)),h):=by
  rw[Vk,WK d hc,gb (B:=B) o.1 hc];have fr:ZK G [À (.tup rl),À (th x r),À (.fls ((itself B (th x r)).map tupS)),Á,Á,Á,Á] h=À (.nx (ρl rl (th x r) F2 Rm Á Rn Ro),h):=by
   rw[B3];unfold kK;have en:ML.numbered (W.str x::r)=((W.str x::r).zipIdx 0).map λp=>.tup [.int (p.2:Nat),p.1]:=rfl
   have it:u3 [zd 1] [À (.tup rl),À (th x r),À (.fls ((itself B (th x r)).map tupS)),Á,Á,Á,Á] h=À (.items (((W.str x::r).zipIdx 0).map λp=>.tup [.int (p.2:Nat),p.1]),h):=by
    rw[<-en];generalize (itself B (th x r)).map tupS=Z;simp![u3,KD,eD,th]
   rw[it];exact f1
  rw[zw fr];generalize (kG F2).map tupS=Z at AJ ⊢;erw[ρl];generalize F2.map tupS=Y at AJ;simp![JJ,AJ]
 erw[kS,zE,kI,kY,zu,ji,Ç,jr,kJ];erw[row]
noncomputable def Kg(F:Fs):MS:=(zC (zh addW (zd 2) (ze F.aj [zd 0,zd 3])) (zl 2))
noncomputable def nB(F:Fs):MS:=(kM (zD (zh (kf Â) (zh zt (zd 4) (OJ 0)) (OZ "do")))
 (zC (zh addW (zd 2) (ze F.aj [zd 0,zh zt (zh zt (zd 1) (OJ 3)) (gu dc (zh zt (zh zt (zd 0) (zh zt (zd 1) (OJ 1))) (OJ 1)) [zh zt (zd 4) (OJ 1)])])) (zl 2))
 (zC (zh addW (zd 2) (ze kx [zd 4])) (zl 2)))
noncomputable def FI(F:Fs):MS:=(zo (zC (ze kx []) (zl 2))
 (zo (kK (kc (zh zt (zd 1) (OJ 2))) (zl 3) (Kg F))
 (zo (kK (kc (ze F.aj [zd 0,zh zt (zh zt (zd 0) (zh zt (zd 1) (OJ 1))) (OJ 2)])) (zl 4) (nB F))
 (ke (vw wa (zd 2))))))
theorem DI(F:Fs):Vs F=kM (zD (zh (kf Â) (zh zt (zd 1) (OJ 0)) (OZ "call"))) (FI F) ko:=rfl
theorem QU{G:Fs}{rl:List W}{w:W}{h:MH}{U:List (List Æ)}{f:W->List (List Æ)}{a0:List W}(e:∀q∈a0,∃M:List (List Æ),(∀y,y∈M↔y∈f q)/\M.length<=40/\(∀y∈M,y∈U)/\∀h,G.aj [.tup rl,q] h=À (.fls (M.map tupS),h)) :
  ∀(a:List W) (F:List (List Æ)) (o3 o4 o5 o6:Option W),(∀q∈a,q∈a0)->F.length+40*a.length<=800->(∀y∈F,y∈U)->∃F' p3,forL (zl 3) (Kg G) a (ρl rl w F o3 o4 o5 o6) h=À (.nx (ρl rl w F' p3 o4 o5 o6),h)/\F'.length<=F.length+40*a.length/\(∀y∈F',y∈U)/\∀y,y∈F'↔y∈F\/∃q∈a,y∈f q
 | [],F,o3,o4,o5,o6,_,_,uF=>⟨F,o3,by simp[forL],by omega,uF,λy=>by simp⟩
 | q::a,F,o3,o4,o5,o6,ha,hl,uF=>by
  erw[zE] at hl;obtain⟨M,m1,m2,m3,m4⟩:=e q (ha q zr);obtain⟨F',p3,g1,g2,g3,g4⟩:=QU (h:=h) (w:=w) e a (F++M) (À q) o4 o5 o6 (λz hz=>ha z (zm _ hz)) (by rw[zL];omega) λy hy=>(zA.mp hy).elim (uF y) (m3 y)
  refine⟨F',p3,?_,by rw[zL] at g2;erw[zE];omega,g3,λy=>?_⟩
  .have hg:zl 3 q (ρl rl w F o3 o4 o5 o6) h=À (ρl rl w F (À q) o4 o5 o6,h):=by simp[zl]
   have ad:=fD (A:=F) (C:=M) h ∅;have Ht:=m4 h;have st:Kg G (ρl rl w F (À q) o4 o5 o6) h=À (.nx (ρl rl w (F++M) (À q) o4 o5 o6),h):=by
    erw[ρl];generalize (F++M).map tupS=Z2 at ad ⊢;generalize M.map tupS=Z1 at ad Ht;generalize F.map tupS=Z0 at ad ⊢;simp![Kg,Ht,ad]
   unfold forL;rw[hg];erw[st];exact g1
  .rw[g4 y,zA,m1 y]
   erw[zj,v6];rw[or_assoc]
noncomputable def wt(κ:List Æ):Nat:=if jS κ then 1 else 40
theorem sW{G:Fs}{rl:List W}{w:W}{h:MH}{U:List (List Æ)}{f:W->List (List Æ)}{i:Int}{a b ns:List W}{hs:List Æ}{body:W}(ew:w=th "call" [.int i,.tup a,.tup b])(ei:∀h,zt (.tup rl) (.int i) h=À (.tup [.tup ns,.tup (zk hs),body],h))(lb:b.length=hs.length)
  (e:∀q∈b,∃M:List (List Æ),(∀y,y∈M↔y∈f q)/\M.length<=40/\(∀y∈M,y∈U)/\∀h,G.aj [.tup rl,q] h=À (.fls (M.map tupS),h)) :
  ∀(Mb F:List (List Æ)) (o3 o4 o5 o6:Option W),(∀κ∈Mb,(jS κ=Ã/\κ≠[]/\κ∈U)\/∃v∈hs,κ=[("do":Æ),v])->F.length+(Mb.map wt).sum<=800->(∀y∈F,y∈U)->
   ∃F' p4,forL (zl 4) (nB G) (Mb.map tupS) (ρl rl w F o3 o4 o5 o6) h=À (.nx (ρl rl w F' o3 p4 o5 o6),h)/\F'.length<=F.length+(Mb.map wt).sum/\(∀y∈F',y∈U)/\∀y,y∈F'↔y∈F\/(y∈Mb/\jS y=Ã)\/∃(v:Æ) (q:W),[("do":Æ),v]∈Mb/\(hs.findIdx? (· == v)).bind (λj=>b[j]?)=À q/\y∈f q
 | [],F,o3,o4,o5,o6,_,_,uF=>⟨F,o4,by simp[forL],by simp,uF,λy=>by simp⟩
 | κ::Mb,F,o3,o4,o5,o6,hM,hl,uF=>by
  erw[zu,qF] at hl;have hg:zl 4 (tupS κ) (ρl rl w F o3 o4 o5 o6) h=À (ρl rl w F o3 (À (tupS κ)) o5 o6,h):=by simp[zl]
  have c1:(1:Nat)<=cap:=by decide
  rcases hM κ zr with ⟨nd,ne,hu⟩ | ⟨v,hv,rfl⟩
  .have hw:wt κ=1:=by unfold wt;rw[zW nd]
   obtain⟨F',p4,g1,g2,g3,g4⟩:=sW (h:=h) ew ei lb e Mb (F++[κ]) o3 (À (tupS κ)) o5 o6 (λz hz=>hM z (zm _ hz)) (by rw[zL];simp;omega) (λy hy=>(zA.mp hy).elim (uF y) λz=>by rw[jz.mp z];exact hu);refine⟨F',p4,?_,by rw[zL] at g2;erw[zu,qF,zE,kI] at g2 ⊢;omega,g3,λy=>?_⟩
   .have ad:=fD (A:=F) (C:=[κ]) h (by simp;omega)
    have Mv:∀h,kf Â (.str (κ.headD "")) (.str "do") h=À (.bl (!jS κ),h):=λh=>by
     cases κ with
     | nil=>exact absurd rfl ne
     | cons x r=>simp[kf,kr,jS]
    have ix:=WW ne h;have st:nB G (ρl rl w F o3 (À (tupS κ)) o5 o6) h=À (.nx (ρl rl w (F++[κ]) o3 (À (tupS κ)) o5 o6),h):=by
     have tt:zD (zh (kf Â) (zh zt (zd 4) (OJ 0)) (OZ "do")) (ρl rl w F o3 (À (tupS κ)) o5 o6) h=À (Â,h):=by
      have n2:=Mv h;rw[nd] at n2;erw[ρl];generalize tupS κ=K at ix ⊢;generalize F.map tupS=Z0;generalize κ.headD "" = hd at ix n2;simp[zD,zh,bnd,zd,eC,ix,n2,lJ]
     unfold nB kM;erw[tt,zN,jn];erw[ρl];erw[zu,ji] at ad;generalize (F++[κ]).map tupS=Z2 at ad ⊢;generalize tupS κ=K at ad ⊢;generalize F.map tupS=Z0 at ad ⊢;simp![kx,c1,ad]
    erw[zu];unfold forL;rw[hg];erw[st];exact g1
   .rw[g4 y,zA,jz]
    have nk:∀v:Æ,[("do":Æ),v]≠κ:=λv q=>by rw[<-q] at nd;simp[jS] at nd
    constructor
    .rintro((z | rfl) | z | ⟨v,q,z1,z2,z3⟩)
     .exact .inl z
     .exact .inr (.inl ⟨zr,nd⟩)
     .exact .inr (.inl ⟨zm _ z.1,z.2⟩)
     .exact .inr (.inr ⟨v,q,zm _ z1,z2,z3⟩)
    .rintro(z | ⟨z,zn⟩ | ⟨v,q,z1,z2,z3⟩)
     .exact .inl (.inl z)
     .rcases zj.mp z with rfl | z
      .exact .inl (.inr rfl)
      .exact .inr (.inl ⟨z,zn⟩)
     .rcases zj.mp z1 with z1 | z1
      .exact absurd z1 (nk v)
      .exact .inr (.inr ⟨v,q,z1,z2,z3⟩)
  .have hw:wt [("do":Æ),v]=40:=by
    unfold wt jS;rw[kh (by simp)]
   obtain⟨j,hj⟩:∃j,hs.findIdx? (· == v)=À j:=by
    cases q:hs.findIdx? (· == v) with
    | some j=>exact⟨j,rfl⟩
    | none=>
     rw[ut] at q;have:=q v hv;simp at this
   have IV:j<hs.length:=by
    obtain⟨h1,_⟩:=qI.mp hj;exact h1
   have Mw:j<b.length:=by omega
   have N1:b[j]?=À b[j]:=zP Mw;obtain⟨M,m1,m2,m3,m4⟩:=e b[j] (qe Mw);obtain⟨F',p4,g1,g2,g3,g4⟩:=sW (h:=h) ew ei lb e Mb (F++M) o3 (À (tupS [("do":Æ),v])) o5 o6 (λz hz=>hM z (zm _ hz)) (by rw[zL];omega) (λy hy=>(zA.mp hy).elim (uF y) (m3 y));refine⟨F',p4,?_,by rw[zL] at g2;erw[zu,qF];omega,g3,λy=>?_⟩
   .have ad:=fD (A:=F) (C:=M) h ∅
    have Ht:=m4 h;have Rp:∀h,zt w (.int 3) h=À (.tup b,h):=λh=>by rw[ew];exact JH
    have KM:∀h,zt w (.int 1) h=À (.int i,h):=λh=>by rw[ew];exact yA
    have Mx:∀h,zt (.tup [.tup ns,.tup (zk hs),body]) (.int 1) h=À (.tup (zk hs),h):=λh=>yA
    have ib:∀h,zt (.tup b) (.int (j:Nat)) h=À (b[j],h):=λh=>by
     have at1:atI b (j:Int)=À b[j]:=by
      unfold atI yB;rw[zW ∅,zW ∅];simp[Mw]
     unfold zt;erw[at1]
    have ix:∀h,dc (.tup (zk hs)) [.str v] h=À (.int (j:Nat),h):=λh=>by
     unfold dc;erw[show strsOf (zk hs)=À hs from xS hs,hj]
    have k0:∀h,zt (tupS [("do":Æ),v]) (.int 0) h=À (.str "do",h):=λh=>w9
    have k1:∀h,zt (tupS [("do":Æ),v]) (.int 1) h=À (.str v,h):=λh=>yA
    have st:nB G (ρl rl w F o3 (À (tupS [("do":Æ),v])) o5 o6) h=À (.nx (ρl rl w (F++M) o3 (À (tupS [("do":Æ),v])) o5 o6),h):=by
     erw[ρl];generalize (F++M).map tupS=Z2 at ad ⊢;generalize M.map tupS=Z1 at ad Ht;generalize F.map tupS=Z0 at ad ⊢;generalize tupS [("do":Æ),v]=K at k0 k1 ⊢;generalize W.tup [.tup ns,.tup (zk hs),body]=R at ei Mx;generalize AN:zk hs=SW at Mx ix;generalize b[j]=q at ib Ht;simp![nB,k0,kr,Rp,KM,ei,Mx,gu,k1,ix,ib,Ht,ad]
    erw[zu];unfold forL;rw[hg];erw[st];exact g1
   .rw[g4 y,zA,m1 y]
    constructor
    .rintro((z | z) | z | ⟨v',q,z1,z2,z3⟩)
     .exact .inl z
     .exact .inr (.inr ⟨v,b[j],zr,by rw[hj];exact N1,z⟩)
     .exact .inr (.inl ⟨zm _ z.1,z.2⟩)
     .exact .inr (.inr ⟨v',q,zm _ z1,z2,z3⟩)
    .rintro(z | ⟨z,zn⟩ | ⟨v',q,z1,z2,z3⟩)
     .exact .inl (.inl z)
     .rcases zj.mp z with rfl | z
      .simp[jS] at zn
      .exact .inr (.inl ⟨z,zn⟩)
     .rcases zj.mp z1 with z1 | z1
      .have:v'=v:=by injection z1 with _ z1;injection z1
       subst this;rw[hj] at z2;have z2:b[j]?=À q:=z2;rw[N1] at z2;cases z2;exact .inl (.inr z3)
      .exact .inr (.inr ⟨v',q,z1,z2,z3⟩)
def Yr(h:κ∈uni hs)(n:jS κ=Â):∃v∈hs,κ=[("do":Æ),v]:=by
 unfold uni at h;rcases zA.mp h with h | h
 .rcases zA.mp h with h | h
  .obtain⟨s,_,hk⟩:=jX.mp h
   erw[zj,zx,kE] at hk;have r:(("read":Æ)=="do")=Â:=by decide +kernel
   have w:(("write":Æ)=="do")=Â:=by decide +kernel
   rcases hk with rfl | rfl
   .erw[jS,r] at n;cases n
   .erw[jS,w] at n;cases n
  .erw[zj,zx,kE] at h
   have r:(("say":Æ)=="do")=Â:=by decide +kernel
   have w:(("ask":Æ)=="do")=Â:=by decide +kernel
   rcases h with rfl | rfl
   .erw[jS,r] at n;cases n
   .erw[jS,w] at n;cases n
 .obtain⟨v,hv,rfl⟩:=zp.mp h
  exact⟨v,hv,rfl⟩
theorem Qv:∀M:List (List Æ),(M.map wt).sum=M.length+39*(M.filter λk=>!jS k).length
 | []=>rfl
 | k::M=>by
  have ih:=Qv M;erw[zu,qF,jB,zE];cases q:jS k with
  | true=>
   have:wt k=1:=by unfold wt;rw[zW q]
   erw[yh,zN,jn];omega
  | false=>
   have:wt k=40:=by unfold wt;rw[kh (by rw[q];exact zR)]
   erw[ux,kY,zE];omega
def ZA{hs:List Æ}{b:List W}(nd:hs.Nodup)(lb:b.length=hs.length){q:W}:(v,q)∈hs.zip b↔(hs.findIdx? (· == v)).bind (λj=>b[j]?)=À q:=by
 constructor
 .intro h
  obtain⟨j,hj⟩:=qH.mp h;rw[wL] at hj;have h1:j<hs.length:=(zJ.mp hj.1).1;have e1:hs[j]=v:=(zJ.mp hj.1).2;have f:hs.findIdx? (· == v)=À j:=by
   rw[qI];refine⟨h1,by simp[e1],λm hm=>?_⟩;have Rq:hs[m]'∅≠v:=λz=>by
    have:=(v9 nd (h₀:=by omega) (h₁:=h1)).mp (z.trans e1.symm);omega
   simpa using Rq
  rw[f];exact hj.2
 .intro h
  obtain⟨j,f,hq⟩:=zH.mp h;obtain⟨h1,h2,_⟩:=qI.mp f;have e1:hs[j]=v:=eq_of_beq h2;refine qH.mpr ⟨j,?_⟩;rw[wL];exact⟨by rw[zP h1,e1],hq⟩
def UC{rl:List W}{B:List (List (List Æ))}{H:List Æ}{b:List W}{hs:List Æ}(hr:RG rl)(bo:BodsOk rl B)(bl:B.length=rl.length)(hU:eQ B k H)(wH:lE H)(lH:H.length<=20)(HM:sQ G rl B k n)(HB:∀i,i<k->sQ G rl B i 3)(hi:i<k)(e:rl[i]?=À (.tup [.tup ns,.tup (zk hs),body]))(lb:b.length=hs.length)
  (o:okd rl k H (n+1) (th "call" [.int (i:Int),.tup a,.tup b])) (p:pl 6 (th "call" [.int (i:Int),.tup a,.tup b])=Ã) :
  ∃M:List (List Æ),dg M/\(∀y,y∈M↔y∈mk rl B (n+1) (th "call" [.int (i:Int),.tup a,.tup b]))/\∀h,(step G).aj [.tup rl,th "call" [.int (i:Int),.tup a,.tup b]] h=À (.fls (M.map tupS),h):=by
 have IY:i<rl.length:=(zJ.mp e).1;have EJ:i<B.length:=by omega
 obtain⟨N',xI,hX,e',l1,l2,w1,w2,pb,ob,nd⟩:=hr.g i IY;have ee:=e;rw[e'] at ee;have ee:=zX ee;injection ee with ee;injection ee with t1 t2;injection t1 with t1;injection t2 with t2 t3;injection t2 with t2;injection t3 with t3;have:=cn t2;subst this;subst t3;have lU:(uni H).length<=34:=by rw[gJ];omega
 have gU:=wl wH;obtain⟨q1,q2,q3,q4⟩:=bo.at_ i B[i] (zP EJ) N' xI hX e';obtain⟨Mb,b1,b2,b3⟩:=HB i hi xI hX ob pb w2 ∅;have Rr:Mb=B[i]:=xD b1 q1 λx=>(b2 x).trans (q4 x).symm
 subst Rr;have hp:=iW p;rw[qB] at hp;have op:=o.2;rw[qB] at op;have eM:∀q∈a++b,∃M:List (List Æ),(∀y,y∈M↔y∈mk rl B n q)/\M.length<=40/\(∀y∈M,y∈uni H)/\∀h,G.aj [.tup rl,q] h=À (.fls (M.map tupS),h):=λq hq=>by
  obtain⟨M,m1,m2,m3⟩:=HM H q (op q hq) (hp.2 q hq) wH lH;have u:=λy (hy:y∈M)=>sR hU (op q hq) y ((m2 y).mp hy)
  exact⟨M,m2,zz (aw (xl m1) u) ∅,u,m3⟩
 have la:a.length+b.length<=8:=by have:=hp.1;rw[zL] at this;exact this
 have ei:∀h,zt (.tup rl) (.int (i:Int)) h=À (.tup [.tup ns,.tup (zk xI),hX],h):=λh=>YS (by have:=hr.l;omega) (by have:=hr.l;omega) (by simpa using e)
 have Rt:∀κ∈B[i],(jS κ=Ã/\κ≠[]/\κ∈uni H)\/∃v∈xI,κ=[("do":Æ),v]:=λκ My=>by
  cases q:jS κ with
  | true=>exact .inl ⟨rfl,(wl w2 κ (q3 κ My)).2,oF (q3 κ My) q⟩
  | false=>exact .inr (Yr (q3 κ My) q)
 have ws:(B[i].map wt).sum<=112:=by
  rw[Qv];have:(B[i].filter λk=>!jS k).length<=(xI.map λv=>[("do":Æ),v]).length:=aw ((xl q1).sublist pI) λx hx=>by
   obtain⟨z1,z2⟩:=zV.mp hx;obtain⟨v,hv,rfl⟩:=Yr (q3 x z1) (by simpa using z2);exact zp.mpr ⟨v,hv,rfl⟩
  rw[zF] at this;omega
 have runs:=λh=>(show ∃(F2:List (List Æ)×List (List Æ)) (p3 p4:Option W),forL (zl 3) (Kg G) a (ρl rl (th "call" [.int (i:Int),.tup a,.tup b]) [] Á Á Á Á) h=À (.nx (ρl rl (th "call" [.int (i:Int),.tup a,.tup b]) F2.1 p3 Á Á Á),h)/\forL (zl 4) (nB G) (B[i].map tupS) (ρl rl (th "call" [.int (i:Int),.tup a,.tup b]) F2.1 p3 Á Á Á) h=À (.nx (ρl rl (th "call" [.int (i:Int),.tup a,.tup b]) F2.2 p3 p4 Á Á),h)/\F2.2.length<=800/\(∀y∈F2.2,y∈uni H)/\∀y,y∈F2.2↔(∃q∈a,y∈mk rl B n q)\/(y∈B[i]/\jS y=Ã)\/∃(v:Æ) (q:W),[("do":Æ),v]∈B[i]/\(xI.findIdx? (· == v)).bind (λj=>b[j]?)=À q/\y∈mk rl B n q by
  obtain⟨F1,p3,g1,g2,g3,g4⟩:=QU (G:=G) (rl:=rl) (w:=th "call" [.int (i:Int),.tup a,.tup b]) (h:=h) (U:=uni H) (f:=mk rl B n) (a0:=a) (λq hq=>eM q (zA.mpr (.inl hq))) a [] Á Á Á Á (λq hq=>hq) (by simp;omega) nofun;erw[kI] at g2;obtain⟨F2,p4,f1,f2,f3,f4⟩:=sW (G:=G) (rl:=rl) (h:=h) (U:=uni H) (f:=mk rl B n) rfl ei lb (λq hq=>eM q (zA.mpr (.inr hq))) B[i] F1 p3 Á Á Á Rt ∅ g3;refine⟨(F1,F2),p3,p4,g1,f1,by show F2.length<=800;omega,f3,λy=>?_⟩;show y∈F2↔_
  rw[f4 y,g4 y]
  simp)
 obtain⟨F2,_,_,_,_,_,_,g4⟩:=runs [];refine⟨kG F2.2,we _,λy=>?_,λh=>?_⟩
 .rw[ssort_mem,g4 y,mem_mk]
  have e1:itself B (th "call" [.int (i:Int),.tup a,.tup b])=B[i].filter jS:=by
   erw[th,itself,show zS ["read","write","do"] (.str "call")=Â by decide +kernel,show zS ["say","ask"] (.str "call")=Â by decide +kernel,jk,kY,zN,jn,jd,zP EJ,v7]
  have ec:jp rl B (th "call" [.int (i:Int),.tup a,.tup b])=a++ja B[i] xI b:=by
   unfold jp th;erw[jk,kY,jd,zP EJ,v7,e];rw[show strsOf (zk xI)=À xI from xS xI];rfl
  have ed:∀q,q∈ja B[i] xI b↔∃v:Æ,(v,q)∈xI.zip b/\[("do":Æ),v]∈B[i]:=λq=>by
   unfold ja;rw[zp];constructor
   .rintro⟨pp,EI,rfl⟩
    obtain⟨z1,z2⟩:=zV.mp EI;exact⟨pp.1,z1,by simpa using z2⟩
   .rintro⟨v,z1,z2⟩
    exact⟨(v,q),zV.mpr ⟨z1,by simpa using z2⟩,rfl⟩
  rw[e1,xp ⋯,ec];constructor
  .rintro(⟨q,hq,z⟩ | z | ⟨v,q,z1,z2,z3⟩)
   .exact .inr ⟨(q,[]),zp.mpr ⟨q,zA.mpr (.inl hq),rfl⟩,z,rfl⟩
   .exact .inl (zV.mpr z)
   .exact .inr ⟨(q,[]),zp.mpr ⟨q,zA.mpr (.inr ((ed q).mpr ⟨v,(ZA nd lb).mpr z2,z1⟩)),rfl⟩,z3,rfl⟩
  .rintro(z | ⟨pp,EI,z,_⟩)
   .exact .inr (.inl (zV.mp z))
   .obtain⟨q,hq,rfl⟩:=zp.mp EI
    rcases zA.mp hq with z1 | z1
    .exact .inl ⟨q,z1,z⟩
    .obtain⟨v,y1,y2⟩:=(ed q).mp z1
     exact .inr (.inr ⟨v,q,y2,(ZA nd lb).mp y1,z⟩)
 .obtain⟨F3,p3,p4,r1,r2,r3,r4,r5⟩:=runs h
  have es:kG F3.2=kG F2.2:=dA λy=>(r5 y).trans (g4 y).symm
  rw[<-es];have AJ:=fY (ks:=F3.2) (U:=uni H) (h:=h) ∅ r4 ∅ λy hy=>(gU y (r4 y hy)).2
  refine qh (h':=h) ?_ (xw _) (jf _);have c0:(0:Nat)<=cap:=by decide
  have N3:∀h,zt (th "call" [.int (i:Int),.tup a,.tup b]) (.int 0) h=À (.str "call",h):=λh=>w9
  have KM:∀h,zt (th "call" [.int (i:Int),.tup a,.tup b]) (.int 1) h=À (.int (i:Int),h):=λh=>yA
  have N4:∀h,zt (th "call" [.int (i:Int),.tup a,.tup b]) (.int 2) h=À (.tup a,h):=λh=>lQ
  have N5:∀h,zt (.tup [.tup ns,.tup (zk xI),hX]) (.int 2) h=À (hX,h):=λh=>lQ
  have mb:=b3 h;have row:aY G [À (.tup rl),À (th "call" [.int (i:Int),.tup a,.tup b]),Á,Á,Á,Á,Á] h=À (.ret (.fls ((kG F3.2).map tupS)),h):=by
   rw[Vk,DI];generalize th "call" [.int (i:Int),.tup a,.tup b]=w at N3 KM N4 r1 r2 ⊢;refine ar ?_ ?_
   .simp![N3,kr]
   .unfold FI
    rw[zw (ρ':=ρl rl w [] Á Á Á Á) (h':=h) (by simp![kx,c0])];have f1:(kK (kc (zh zt (zd 1) (OJ 2))) (zl 3) (Kg G)) (ρl rl w [] Á Á Á Á) h=À (.nx (ρl rl w F3.1 p3 Á Á Á),h):=by
     unfold kK;have it:(kc (zh zt (zd 1) (OJ 2))) (ρl rl w [] Á Á Á Á) h=À (.items a,h):=by simp![kc,N4,srcOf]
     rw[it];exact r1
    rw[zw f1];have f2:(kK (kc (ze G.aj [zd 0,zh zt (zh zt (zd 0) (zh zt (zd 1) (OJ 1))) (OJ 2)])) (zl 4) (nB G)) (ρl rl w F3.1 p3 Á Á Á) h=À (.nx (ρl rl w F3.2 p3 p4 Á Á),h):=by
     unfold kK;have it:(kc (ze G.aj [zd 0,zh zt (zh zt (zd 0) (zh zt (zd 1) (OJ 1))) (OJ 2)])) (ρl rl w F3.1 p3 Á Á Á) h=À (.items (B[i].map tupS),h):=by
      erw[ρl];generalize F3.1.map tupS=Z0;generalize B[i].map tupS=Z1 at mb;generalize W.tup [.tup ns,.tup (zk xI),hX]=R at ei N5;simp![kc,KM,ei,N5,mb,srcOf]
     rw[it];exact r2
    rw[zw f2];erw[ρl];generalize (kG F3.2).map tupS=Z at AJ ⊢;generalize F3.2.map tupS=Y at AJ;simp![AJ]
  erw[kS,zE,kI,kY,zu,ji,Ç,jr,kJ];erw[row]
def Xd{rl:List W}{B:List (List (List Æ))}(hr:RG rl)(bo:BodsOk rl B)(bl:B.length=rl.length)(hk:k<=rl.length)(HM:sQ G rl B k n)(HB:∀i,i<k->sQ G rl B i 3):sQ (step G) rl B k (n+1):=by
 intro H w o p wH lH;have hU:eQ B k H:=λi ks hi=>bo.uni hr H i ks ∅
 rcases o.1.split with hp | hp
 .obtain⟨x,r,pp,hc,hf,hq⟩:=hp
  exact VV hU wH lH HM hc hq (.mk x r pp hc hf hq) o p
 .have sh:=o.1
  generalize e0:w=w0 at sh;cases sh with
  | call i a b hi ns hs body e lb=>
   subst e0;exact UC hr bo bl hU wH lH HM HB hi e lb o p
  | _=>
   exfalso;obtain⟨i,a,b,ns,hs,body,e1,_⟩:=hp;have:=(sN (e0.symm.trans e1)).1;revert this;decide +kernel
theorem pE{rl:List W}{B:List (List (List Æ))}(hr:RG rl)(bo:BodsOk rl B)(bl:B.length=rl.length)(F:Fs):∀(m k n:Nat),3*k+n<=m->n<=3->k<=rl.length->sQ (up m F) rl B k n
 | m,k,0,_,_,_=>by intro H w o;cases o
 | 0,k,n+1,h,_,_=>by omega
 | m+1,k,n+1,h,hn,hk=>Xd hr bo bl hk (pE hr bo bl F m k n ∅ ∅ hk) λi hi=>pE hr bo bl F m i 3 ∅ ∅ ∅
noncomputable def hd(k:List Æ):Æ:=k.headD ""
noncomputable def sec(k:List Æ):Æ:=k.getD 1 ""
noncomputable def ah(word:Æ)(M:List (List Æ)):List Æ:=(M.filter λk=>hd k==word).map sec
def oA{H:List Æ}(h:k∈uni H):(∃a v,k=[a,v])\/k=[("say":Æ)]\/k=[("ask":Æ)]:=by
 unfold uni at h;rcases zA.mp h with h | h
 .rcases zA.mp h with h | h
  .obtain⟨s,_,hk⟩:=jX.mp h
   erw[zj,zx,kE] at hk;rcases hk with rfl | rfl<;>exact .inl ⟨_,_,rfl⟩
  .erw[zj,zx,kE] at h
   rcases h with rfl | rfl
   .exact .inr (.inl rfl)
   .exact .inr (.inr rfl)
 .obtain⟨v,_,rfl⟩:=zp.mp h
  exact .inl ⟨_,_,rfl⟩
section
variable{G:Fs}{M:List (List Æ)}{h:MH}{H:List Æ}
def mr(hk:k∈uni H)(h:MH):zt (tupS k) (.int 0) h=À (.str (hd k),h):=by
 rcases oA hk with ⟨a,v,rfl⟩ | rfl | rfl<;>exact w9
def VU{ks:List Nat}{ρ:En}(uM:∀k∈M,k∈uni H)(lM:M.length<=100)(hw:word="read" \/ word="write")(hm:mi ρ h=À (.items (M.map tupS),h))(he:∀(w:W) (H':MH),ew (À w::ks.map λk=>(ρ[k]?).join) H'=À (.str word,H')) :
  kq mi 1 ks (zl 0) (zD (zh (kf Â) (zh zt (zd 0) (OJ 0)) ew)) (zh zt (zd 0) (OJ 1)) ρ h=À (.fls (zk (ah word M)),h):=by
 refine(xh (l:=M.map tupS) (λz=>match vc z with | some k=>hd k==word | none=>Â) (λz=>match vc z with | some k=>.str (sec k) | none=>.non) hm ?_ ?_ ?_ ?_).trans ?_
 .intro z hz H'
  obtain⟨k,hk,rfl⟩:=zp.mp hz;have i0:=mr (uM k hk) H';have e1:=he (tupS k) H';erw[ky];generalize tupS k=K at i0 e1 ⊢;generalize hd k=q at i0 ⊢;generalize (ks.map λk=>(ρ[k]?).join)=caps at e1 ⊢;simp[zD,zh,bnd,zd,eC,i0,e1,kf,kr,lJ]
 .intro z hz hp H'
  obtain⟨k,hk,rfl⟩:=zp.mp hz;erw[ky] at hp ⊢;rcases oA (uM k hk) with ⟨a,v,rfl⟩ | rfl | rfl
  .have:zt (tupS [a,v]) (.int 1) H'=À (.str v,H'):=yA
   generalize tupS [a,v]=K at this ⊢;simp[zh,bnd,zd,eC,this,sec]
  .rcases hw with rfl | rfl<;>exact absurd hp ⋯
  .rcases hw with rfl | rfl<;>exact absurd hp ⋯
 .intro z hz _
  obtain⟨k,hk,rfl⟩:=zp.mp hz;erw[ky];unfold low;rfl
 .rw[zF];exact zz lM (by decide)
 .have fe:((λz=>match vc z with | some k=>hd k==word | none=>Â)∘tupS)=λk=>hd k==word:=funext λk=>by erw[æ,ky]
  rw[qx,fe,z9];unfold zk ah;rw[z9];have Iz:((λz=>match vc z with | some k=>W.str (sec k) | none=>.non)∘tupS)=(W.str∘sec):=funext λk=>by erw[æ,ky]
  rw[Iz]
end
theorem iZ(l:List Æ):low m (.fls (zk l))=Ã:=by
 unfold low;exact qr λw hw=>by
  obtain⟨x,_,rfl⟩:=zp.mp hw;unfold low;rfl
noncomputable def TOk(G:Fs)(rl:List W)(w:W)(M:List (List Æ)):Prop:=∀h,G.aO [.tup rl,w] h=À (.fls (M.map tupS),h)
noncomputable def aE(xs:List Æ):List Æ:=(kG (xs.map ([·]))).map (·.headD "")
def sZ{xs:List Æ}(h:k∈kG (xs.map ([·]))):∃x∈xs,k=[x]:=by
 obtain⟨x,hx,rfl⟩:=zp.mp (ssort_mem.mp h);exact⟨x,hx,rfl⟩
def tsort_mem:x∈aE xs↔x∈xs:=by
 unfold aE;constructor
 .intro h
  obtain⟨k,hk,rfl⟩:=zp.mp h;obtain⟨x,hx,rfl⟩:=sZ hk;exact hx
 .intro h
  exact zp.mpr ⟨[x],ssort_mem.mpr (zp.mpr ⟨x,h,rfl⟩),rfl⟩
def JE(h:∀x,x∈xs↔x∈ys):aE xs=aE ys:=by
 unfold aE;rw[dA (l:=xs.map ([·])) (m:=ys.map ([·]))];intro k;erw[zp,h]
theorem WP{xs:List Æ}:(kG (xs.map ([·]))).map (encK .lt)=zk (aE xs):=by
 unfold aE zk;rw[z9];rfl
def tO(xs:List Æ):strsOf (zk xs)=À xs:=xS xs
theorem Qb(x:Æ)(xs:List Æ):dj (zk (x::xs))=À (.lt,(x::xs).map ([·])):=by
 have e:gX (zk (x::xs))=Á:=rfl;unfold dj;rw[e,tO];rfl
def oB{xs U:List Æ}(u:∀x∈xs,x∈U):(kG (xs.map ([·]))).length<=U.length:=by
 have:=aw (l:=kG (xs.map ([·]))) (m:=U.map ([·])) (xl (we _)) λk hk=>by
  obtain⟨x,hx,rfl⟩:=sZ hk;exact zp.mpr ⟨x,u x hx,rfl⟩
 simpa using this
def gz{xs U:List Æ}(hw:qV h w=À (zk xs))(l:xs.length<890)(u:∀x∈xs,x∈U)(lu:U.length<64):wa w h=À (.fls (zk (aE xs)),h):=by
 have:=oB u;unfold wa;rw[hw,jM];cases xs with
 | nil=>rfl
 | cons x xs=>
  rw[Qb];erw[jM];rw[zW ⟨by simpa using l,by omega,λk hk=>by obtain⟨y,_,rfl⟩:=zp.mp hk;simp⟩,WP]
noncomputable def cw(k:List Æ)(M:List (List Æ)):Bool:=
 if hd k=="write" then (M.contains ["read",sec k]||M.contains k)
 else if hd k=="read" then M.contains ["write",sec k]
 else (zS ["say","ask"] (.str (hd k))&&M.contains k)
noncomputable def ij(A B:List (List Æ)):List Æ:=(A.filter λk=>cw k B).map vt
noncomputable def cl(A B:List (List Æ)):List Æ:=aE (ij A B)
structure Mks(M:List (List Æ)):Prop where
 u:∀k∈M,k∈uni []
 l:M.length<=100
 nd:M.Nodup
def Kv:lE []:=λv hv=>by simp at hv
def Mks.good{M:List (List Æ)}(m:Mks M)(h:k∈M):jI k=Ã:=(wl Kv k (m.u k h)).1
def yn(h:k∈uni []):(∃v∈six,k=[("read":Æ),v])\/(∃v∈six,k=[("write":Æ),v])\/k=[("say":Æ)]\/k=[("ask":Æ)]:=by
 unfold uni at h;rcases zA.mp h with h | h
 .rcases zA.mp h with h | h
  .obtain⟨s,hs,hk⟩:=jX.mp h
   erw[zj,zx,kE] at hk;rcases hk with rfl | rfl
   .exact .inl ⟨s,hs,rfl⟩
   .exact .inr (.inl ⟨s,hs,rfl⟩)
  .erw[zj,zx,kE] at h
   exact .inr (.inr h)
 .simp at h
def mO(hx:x="read" \/ x="write")(hv:v∈six):jI [x,v]=Ã:=by
 refine dR ?_ (tQ v hv);rcases hx with rfl | rfl<;>decide +kernel
theorem xE{M:List (List Æ)}(g:jI k=Ã)(m:Mks M):inB h (tupS k) (.fls (M.map tupS))=À (M.contains k):=iH g (λk hk=>m.good hk) rfl
def rX:(("read":Æ)="write")=False:=uG ⋯
def fJ:(("say":Æ)="write")=False:=uG ⋯
def gh:(("say":Æ)="read")=False:=uG ⋯
def fA:(("ask":Æ)="write")=False:=uG ⋯
def f7:(("ask":Æ)="read")=False:=uG ⋯
def tN:2<=cap:=by decide
def F9{M:List (List Æ)}(hk:k∈uni [])(m:Mks M):(step F).aX [tupS k,.fls (M.map tupS)] h=À (.bl (cw k M),h):=by
 have gk:=(wl Kv k hk).1;have i0:=xE (h:=h) gk m;refine xk (n:=1) ?_ rfl;rcases yn hk with ⟨v,hv,rfl⟩ | ⟨v,hv,rfl⟩ | rfl | rfl
 .have i1:=xE (h:=h) (mO (x:="write") (.inr rfl) hv) m
  have e:cw ["read",v] M=M.contains ["write",v]:=by unfold cw;rfl
  rw[e];generalize M.contains ["write",v]=c at i1 ⊢;generalize M.map tupS=Z at i1 ⊢;have j0:∀h,zt (tupS ["read",v]) (.int 0) h=À (.str "read",h):=λh=>w9
  have j1:∀h,zt (tupS ["read",v]) (.int 1) h=À (.str v,h):=λh=>yA
  have t1:W.tup [.str "write",.str v]=tupS ["write",v]:=rfl;generalize tupS ["read",v]=K at j0 j1 ⊢;simp![aF,rX,fJ,gh,fA,f7,tN,j0,j1,kr,zv,t1,i1]
 .have i1:=xE (h:=h) (mO (x:="read") (.inl rfl) hv) m
  have e:cw ["write",v] M=(M.contains ["read",v]||M.contains ["write",v]):=by unfold cw;rfl
  rw[e];generalize M.contains ["read",v]=c1 at i1 ⊢;generalize M.contains ["write",v]=c2 at i0 ⊢;generalize M.map tupS=Z at i0 i1 ⊢;have j0:∀h,zt (tupS ["write",v]) (.int 0) h=À (.str "write",h):=λh=>w9
  have j1:∀h,zt (tupS ["write",v]) (.int 1) h=À (.str v,h):=λh=>yA
  have t1:W.tup [.str "read",.str v]=tupS ["read",v]:=rfl;generalize tupS ["write",v]=K at j0 j1 i0 ⊢;cases c1<;>simp![aF,rX,fJ,gh,fA,f7,tN,j0,j1,kr,zv,t1,i1,i0]
 .have e:cw [("say":Æ)] M=M.contains [("say":Æ)]:=by unfold cw;simp[hd,zS,fJ,gh,fA,f7]
  rw[e];generalize M.contains [("say":Æ)]=c at i0 ⊢;generalize M.map tupS=Z at i0 ⊢;have j0:∀h,zt (tupS ["say"]) (.int 0) h=À (.str "say",h):=λh=>w9
  have j2:∀h,inB h (.str "say") (.tup [.str "say",.str "ask"])=À Ã:=λh=>(i2 (n:=1) ⋯ ∅).trans ⋯
  generalize tupS ["say"]=K at j0 i0 ⊢;simp![aF,rX,fJ,gh,fA,f7,tN,j0,kr,zv,j2,i0]
 .have e:cw [("ask":Æ)] M=M.contains [("ask":Æ)]:=by unfold cw;simp[hd,zS,fJ,gh,fA,f7]
  rw[e];generalize M.contains [("ask":Æ)]=c at i0 ⊢;generalize M.map tupS=Z at i0 ⊢;have j0:∀h,zt (tupS ["ask"]) (.int 0) h=À (.str "ask",h):=λh=>w9
  have j2:∀h,inB h (.str "ask") (.tup [.str "say",.str "ask"])=À Ã:=λh=>(i2 (n:=1) ⋯ ∅).trans ⋯
  generalize tupS ["ask"]=K at j0 i0 ⊢;simp![aF,rX,fJ,gh,fA,f7,tN,j0,kr,zv,j2,i0]
noncomputable def fx:List Æ:=six++[("say":Æ),"ask"]
def V9(h:k∈uni []):vt k∈fx:=by
 rcases yn h with ⟨v,hv,rfl⟩ | ⟨v,hv,rfl⟩ | rfl | rfl
 .exact vf _ hv
 .exact vf _ hv
 .exact jh _ (by simp[vt])
 .exact jh _ (by simp[vt])
def oU(a:Mks A):∀x∈ij A B,x∈fx:=λx hx=>by
 obtain⟨k,hk,rfl⟩:=zp.mp hx;exact V9 (a.u k (zV.mp hk).1)
def DC(a:Mks A):(ij A B).length<=100:=by
 unfold ij;rw[zF];exact zz (jb ..) a.l
def Ge(a:Mks A):∀x∈cl A B,x∈fx:=λx hx=>oU a x (tsort_mem.mp hx)
def Gi(a:Mks A):(cl A B).length<=8:=by
 unfold cl aE;rw[zF];exact oB (U:=fx) (oU a)
def VH:∀x∈fx,pl 1 (.str x)=Ã:=by decide +kernel
def Y0{A B:List (List Æ)}(a:Mks A)(b:Mks B):(step (step F)).au [.fls (A.map tupS),.fls (B.map tupS)] h=À (.fls (zk (cl A B)),h):=by
 have ec:=λ(k:List Æ) (hk:k∈uni []) (h:MH)=>F9 (F:=F) (h:=h) hk b
 generalize step F=G at ec;refine qh (h':=h) ?_ (iZ _) (jf _);have cm:kq (kc (zd 0)) 1 [1] (zl 0) (zD (ze G.aX [zd 0,zd 1])) (zh zt (zd 0) (vw fF (OJ 1))) [À (.fls (A.map tupS)),À (.fls (B.map tupS))] h=À (.fls (zk (ij A B)),h):=by
  refine(xh (l:=A.map tupS) (λz=>match vc z with | some k=>cw k B | none=>Â) (λz=>match vc z with | some k=>.str (vt k) | none=>.non) ?_ ?_ ?_ ?_ ?_).trans ?_
  .generalize A.map tupS=Z
   simp![kc,srcOf]
  .intro z hz H'
   obtain⟨k,hk,rfl⟩:=zp.mp hz;have e1:=ec k (a.u k hk) H';erw[ky];generalize cw k B=c at e1 ⊢;generalize B.map tupS=Z at e1 ⊢;generalize tupS k=K at e1 ⊢;simp![e1]
  .intro z hz _ H'
   obtain⟨k,hk,rfl⟩:=zp.mp hz;have i0:=Z3 (wl Kv k (a.u k hk)).2 H';erw[ky];generalize tupS k=K at i0 ⊢;generalize vt k=q at i0 ⊢;simp![fF,i0]
  .intro z hz _
   obtain⟨k,hk,rfl⟩:=zp.mp hz;erw[ky];unfold low;rfl
  .rw[zF];exact zz a.l (by decide)
  .have fe:((λz=>match vc z with | some k=>cw k B | none=>Â)∘tupS)=λk=>cw k B:=funext λk=>by erw[æ,ky]
   rw[qx,fe,z9];unfold zk ij;rw[z9];have Iz:((λz=>match vc z with | some k=>W.str (vt k) | none=>.non)∘tupS)=(W.str∘vt):=funext λk=>by erw[æ,ky]
   rw[Iz]
 have st:∀h,wa (.fls (zk (ij A B))) h=À (.fls (zk (cl A B)),h):=λh=>gz (U:=fx) rfl (yR (DC a) ∅) (oU a) (by decide)
 generalize zk (ij A B)=Y at cm st;generalize zk (cl A B)=Y2 at st ⊢;generalize A.map tupS=Z at cm;generalize B.map tupS=Z2 at cm;simp![bc,cm,st]
noncomputable def FE(G:Fs)(rl:List W)(w v:W)(A B:List (List Æ)):Prop:=∀h,G.bD [.tup rl,w,v] h=À (.fls (zk (cl A B)),h)
def Zj(a:Mks A)(b:Mks B)(ta:TOk (step (step F)) rl w A)(tb:TOk (step (step F)) rl v B):FE (step (step (step F))) rl w v A B:=by
 intro h;have e:=Y0 (F:=F) (h:=h) a b;have ta:=ta h;have tb:=tb h;generalize step (step F)=G at e ta tb;refine qh (h':=h) ?_ (iZ _) (jf _);generalize zk (cl A B)=Y at e ⊢;generalize A.map tupS=Z at ta e;generalize B.map tupS=Z2 at tb e;simp![b8,ta,tb,e]
def DE(c:FE F rl w v A B):(step F).bC [.tup rl,w,v] h=À (.bl (cl A B).isEmpty,h):=by
 have c:=c h;refine xk (n:=1) ?_ rfl;have l:∀h,kL [.fls (zk (cl A B))] h=À (.int ((cl A B).length:Int),h):=λh=>by simp[kL,qV,getL,zk]
 have e:(((cl A B).length:Int)==0)=(cl A B).isEmpty:=by cases cl A B<;>simp<;>omega
 generalize zk (cl A B)=Y at c l;rw[<-e];generalize ((cl A B).length:Int)=n at l ⊢;simp![bY,c,l,vj]
noncomputable def twice(M:List (List Æ)):Bool:=!(M.contains [("say":Æ)]||M.contains [("ask":Æ)]) && !(M.any λk=>hd k=="write" && M.contains ["read",sec k])
def Ub{M:List (List Æ)}(m:Mks M)(t:TOk F rl w M):(step F).aQ [.tup rl,w] h=À (.bl (twice M),h):=by
 have t:=t h;refine xk (n:=1) ?_ rfl;have i1:=xE (h:=h) (k:=["say"]) ⋯ m;have i2:=xE (h:=h) (k:=["ask"]) ⋯ m;have t1:W.tup [.str "say"]=tupS ["say"]:=rfl;have t2:W.tup [.str "ask"]=tupS ["ask"]:=rfl;have cm:kq (kc (zd 2)) 1 [2] (zl 0) vn (x5 (zh (kf Â) (zh zt (zd 0) (OJ 0)) (OZ "write")) (zh (vk Â) (ze zv [OZ "read",zh zt (zd 0) (OJ 1)]) (zd 1))) [À (.tup rl),À w,À (.fls (M.map tupS))] h=À (.fls ((M.map tupS).map λz=>.bl (match vc z with | some k=>hd k=="write" && M.contains ["read",sec k] | none=>Â)),h):=by
  refine(xh (l:=M.map tupS) (λ_=>Ã) (λz=>.bl (match vc z with | some k=>hd k=="write" && M.contains ["read",sec k] | none=>Â)) ?_ ?_ ?_ ?_ ?_).trans ?_
  .generalize M.map tupS=Z
   simp![kc,srcOf]
  .intro z _ H';rfl
  .intro z hz _ H'
   obtain⟨k,hk,rfl⟩:=zp.mp hz;erw[ky];have j0:=mr (m.u k hk) H';rcases yn (m.u k hk) with ⟨v,hv,rfl⟩ | ⟨v,hv,rfl⟩ | rfl | rfl
   .generalize tupS ["read",v]=K at j0 ⊢
    generalize M.map tupS=Z;have q:(hd [("read":Æ),v]=="write")=Â:=show(("read":Æ)=="write")=Â by decide +kernel
    rw[q];simp![j0,kr,hd,rX]
   .have j1:zt (tupS ["write",v]) (.int 1) H'=À (.str v,H'):=yA
    have t3:W.tup [.str "read",.str v]=tupS ["read",v]:=rfl;have i3:=xE (h:=H') (mO (x:="read") (.inl rfl) hv) m;have q:(hd [("write":Æ),v]=="write")=Ã:=show(("write":Æ)=="write")=Ã by decide +kernel
    have q2:sec [("write":Æ),v]=v:=rfl;rw[q,q2];generalize M.contains ["read",v]=c at i3 ⊢;generalize M.map tupS=Z at i3 ⊢;generalize tupS ["write",v]=K at j0 j1 ⊢;simp![j0,j1,kr,hd,zv,t3,i3,tN]
   .generalize tupS ["say"]=K at j0 ⊢
    generalize M.map tupS=Z;have q:(hd [("say":Æ)]=="write")=Â:=by decide +kernel
    rw[q];simp![j0,kr,hd,fJ]
   .generalize tupS ["ask"]=K at j0 ⊢
    generalize M.map tupS=Z;have q:(hd [("ask":Æ)]=="write")=Â:=by decide +kernel
    rw[q];simp![j0,kr,hd,fA]
  .intro z _ _;unfold low;rfl
  .rw[zF];exact zz m.l (by decide)
  .rw[filter_true]
 have al:∀h,tv [.fls ((M.map tupS).map λz=>.bl (match vc z with | some k=>hd k=="write" && M.contains ["read",sec k] | none=>Â))] h=À (.bl (M.any λk=>hd k=="write" && M.contains ["read",sec k]),h):=λh=>by
  erw[tv,oM,qV,getL,Uc];have:((M.map tupS).map λz=>(match vc z with | some k=>hd k=="write" && M.contains ["read",sec k] | none=>Â)).any id=M.any λk=>hd k=="write" && M.contains ["read",sec k]:=by
   rw[z9,xP];have fe:(id∘((λz=>match vc z with | some k=>hd k=="write" && M.contains ["read",sec k] | none=>Â)∘tupS))=λk=>hd k=="write" && M.contains ["read",sec k]:=funext λk=>by erw[æ,ky,id]
   rw[fe]
  rw[this]
 unfold twice;generalize ((M.map tupS).map λz=>W.bl (match vc z with | some k=>hd k=="write" && M.contains ["read",sec k] | none=>Â))=Y at cm al;generalize (M.any λk=>hd k=="write" && M.contains ["read",sec k])=bb at al ⊢;generalize M.contains [("say":Æ)]=c1 at i1 ⊢;generalize M.contains [("ask":Æ)]=c2 at i2 ⊢;generalize M.map tupS=Z at t i1 i2 cm;have GM:1<=cap:=by decide
 cases c1<;>cases c2<;>cases bb<;>simp![bL,t,zv,t1,t2,i1,i2,cm,al,GM,truthy]
def Cm(A B:List (List Æ))(x:Æ):Prop:=(x∈six/\(([("write":Æ),x]∈A/\([("read":Æ),x]∈B\/[("write":Æ),x]∈B))\/([("read":Æ),x]∈A/\[("write":Æ),x]∈B)))\/((x="say" \/ x="ask")/\[x]∈A/\[x]∈B)
def Xi(a:Mks A):x∈ij A B↔Cm A B x:=by
 unfold ij Cm;rw[zp];constructor
 .rintro⟨k,hk,rfl⟩
  obtain⟨h1,h2⟩:=zV.mp hk;rcases yn (a.u k h1) with ⟨v,hv,rfl⟩ | ⟨v,hv,rfl⟩ | rfl | rfl
  .refine .inl ⟨hv,.inr ⟨h1,?_⟩⟩
   have:B.contains [("write":Æ),v]=Ã:=h2;exact(show [("write":Æ),v]∈B by simpa using this)
  .refine .inl ⟨hv,.inl ⟨h1,?_⟩⟩
   have:(B.contains [("read":Æ),v]||B.contains [("write":Æ),v])=Ã:=h2;exact(show [("read":Æ),v]∈B\/[("write":Æ),v]∈B by simpa using this)
  .refine .inr ⟨.inl rfl,h1,?_⟩
   have e:cw [("say":Æ)] B=B.contains [("say":Æ)]:=by unfold cw;simp[hd,zS,fJ,gh]
   rw[e] at h2;exact(show [("say":Æ)]∈B by simpa using h2)
  .refine .inr ⟨.inr rfl,h1,?_⟩
   have e:cw [("ask":Æ)] B=B.contains [("ask":Æ)]:=by unfold cw;simp[hd,zS,fA,f7]
   rw[e] at h2;exact(show [("ask":Æ)]∈B by simpa using h2)
 .rintro(⟨hv,⟨h1,h2⟩ | ⟨h1,h2⟩⟩ | ⟨rfl | rfl,h1,h2⟩)
  .refine⟨[("write":Æ),x],zV.mpr ⟨h1,?_⟩,rfl⟩
   show(B.contains [("read":Æ),x]||B.contains [("write":Æ),x])=Ã
   simpa using h2
  .refine⟨[("read":Æ),x],zV.mpr ⟨h1,?_⟩,rfl⟩
   show B.contains [("write":Æ),x]=Ã
   simpa using h2
  .refine⟨[("say":Æ)],zV.mpr ⟨h1,?_⟩,rfl⟩
   have e:cw [("say":Æ)] B=B.contains [("say":Æ)]:=by unfold cw;simp[hd,zS,fJ,gh]
   rw[e];simpa using h2
  .refine⟨[("ask":Æ)],zV.mpr ⟨h1,?_⟩,rfl⟩
   have e:cw [("ask":Æ)] B=B.contains [("ask":Æ)]:=by unfold cw;simp[hd,zS,fA,f7]
   rw[e];simpa using h2
def YN{M:List (List Æ)}(m:Mks M)(h:[("write":Æ),x]∈M):x∈six:=by
 rcases yn (m.u _ h) with ⟨v,hv,e⟩ | ⟨v,hv,e⟩ | e | e
 .simp at e;exact absurd e.1 ⋯
 .simp at e;rw[e];exact hv
 .simp at e
 .simp at e
theorem BO{ks:List Nat}{ρ:En}{h:MH}{l:List W}(p:W->Bool)(f:W->W)(hm:mi ρ h=À (.items l,h))(ht:∀w∈l,∀H',t (À w::ks.map λk=>(ρ[k]?).join) H'=À (p w,H'))
  (hf:∀w∈l,p w=Ã->∀H',m (À w::ks.map λk=>(ρ[k]?).join) H'=À (f w,H')) (hl:l.length<=cap):x8 mi 1 ks (zl 0) t m ρ h=À (.ref h.length,h++[.lst ((l.filter p).map f)]):=by
 have e:=fy (caps:=ks.map λk=>(ρ[k]?).join) (t:=t) (m:=m) (h:=h) rfl p f l [] Á ht hf (by simpa using hl);unfold x8 dn;rw[hm];have er:(Ç 1 (Á:Option W)++ks.map λk=>(ρ[k]?).join)=Á::ks.map λk=>(ρ[k]?).join:=rfl
 simp only;rw[er,e];rfl
noncomputable def aS(A B:List (List Æ)):List Æ:=(A.filter λk=>[[("say":Æ)],["ask"]].contains k&&B.contains k).map hd
noncomputable def wB(k:List Æ)(B:List (List Æ)):Bool:=hd k=="write" && !(B.filter λm=>m.drop 1==k.drop 1).isEmpty
noncomputable def inn(A B:List (List Æ)):List Æ:=(A.filter λk=>wB k B).map sec
noncomputable def Z6:MS:=(kM (vb (zD (zh (kf Â) (zh zt (zd 5) (OJ 0)) (OZ "write"))) (zD (zh (kf Ã) (kq (kc (zd 4)) 1 [5] (zl 0) (zD (zh (kf Â) (yT (zd 0) (À (OJ 1)) Á) (yT (zd 1) (À (OJ 1)) Á))) (zd 0)) (ze kx []))))
 (ya (kH j3 (zd 2) [zh zt (zd 5) (OJ 1)]))
 ko)
theorem C9(F:Fs):bj F=(zo (zC (x8 (kc (zd 0)) 1 [1] (zl 0) (vb (zD (zh (vk Â) (zd 0) (ze zv [ze zv [OZ "say"],ze zv [OZ "ask"]]))) (zD (zh (vk Â) (zd 0) (zd 1)))) (zh zt (zd 0) (OJ 0))) (zl 2))
 (zo (kK (kc (ze zv [ze zv [zd 0,zd 1],ze zv [zd 1,zd 0]])) (vF [zl 3,zl 4]) (kK (kc (zd 3)) (zl 5) Z6)) (ke (vw wa (zd 2))))):=rfl
noncomputable abbrev ρc(A B:W)(n:Nat)(o3 o4 o5:Option W):En:=[À A,À B,À (.ref n),o3,o4,o5]
def Gu{h0:MH}{l:List W}{Y:List (List Æ)}(hn:h0.length=n)(y:Mks Y)(hk:k∈uni [])(hl:l.length<cap):Z6 (ρc a b n (À M') (À (.fls (Y.map tupS))) (À (tupS k))) (h0++[.lst l])=À (.nx (ρc a b n (À M') (À (.fls (Y.map tupS))) (À (tupS k))),h0++[.lst (l++if wB k Y then [.str (sec k)] else [])]):=by
 have gk:=wl Kv k hk;have j0:=λH=>mr hk H
 have c0:(0:Nat)<=cap:=by decide
 have cm:∀H,kq (kc (zd 4)) 1 [5] (zl 0) (zD (zh (kf Â) (yT (zd 0) (À (OJ 1)) Á) (yT (zd 1) (À (OJ 1)) Á))) (zd 0) (ρc a b n (À M') (À (.fls (Y.map tupS))) (À (tupS k))) H=À (.fls ((Y.filter λm=>m.drop 1==k.drop 1).map tupS),H):=λH=>by
  refine(xh (l:=Y.map tupS) (λz=>match vc z with | some m=>m.drop 1==k.drop 1 | none=>Â) id ?_ ?_ ?_ ?_ ?_).trans ?_
  .generalize Y.map tupS=Z
   simp![kc,srcOf]
  .intro z hz H'
   obtain⟨m,hm,rfl⟩:=zp.mp hz;erw[ky];have s1:=gp m;have s2:=gp k;have e:=λh=>Kh (k:=m.drop 1) (l:=k.drop 1) h (gF (y.good hm) 1) (gF gk.1 1)
   generalize (m.drop 1==k.drop 1)=c at e ⊢;generalize tupS (m.drop 1)=K1 at s1 e;generalize tupS (k.drop 1)=K2 at s2 e;generalize tupS m=K3 at s1 ⊢;generalize tupS k=K4 at s2 ⊢;simp![yT,bS,s1,s2,e]
  .intro z hz _ H';rfl
  .intro z hz _
   obtain⟨m,hm,rfl⟩:=zp.mp hz;exact ab m
  .rw[zF];exact zz y.l (by decide)
  .have fe:((λz=>match vc z with | some m=>m.drop 1==k.drop 1 | none=>Â)∘tupS)=λm=>m.drop 1==k.drop 1:=funext λm=>by erw[æ,ky]
   rw[qx,fe,yd]
 have en:∀H,eqB H (.fls ((Y.filter λm=>m.drop 1==k.drop 1).map tupS)) (.fls [])=À (Y.filter λm=>m.drop 1==k.drop 1).isEmpty:=λH=>by
  rw[dU (n:=3) (Zm (zz (jb ..) (zz y.l ∅)) λm hm=>y.good (zV.mp hm).1) ∅];simp
 have ap:∀v,j3 (.ref n) [v] (h0++[.lst l])=À (.non,h0++[.lst (l++[v])]):=λv=>by
  subst hn;erw[j3,at_of];rw[zW hl];simp
 have gl:getL (h0++[.lst l]) (.ref n)=À l:=by subst hn;erw[getL,at_of]
 unfold wB;generalize (Y.filter λm=>m.drop 1==k.drop 1)=Z at cm en ⊢;generalize H1q:h0++[MO.lst l]=H1 at ap gl ⊢;have j1:hd k="write"->∀H,zt (tupS k) (.int 1) H=À (.str (sec k),H):=λe H=>by
  rcases yn hk with ⟨v,hv,rfl⟩ | ⟨v,hv,rfl⟩ | rfl | rfl
  .exact yA
  .exact yA
  .exact absurd e ⋯
  .exact absurd e ⋯
 have N6:=ap (.str (sec k));generalize H2e:h0++[MO.lst (l++[W.str (sec k)])]=H2 at N6;cases e1:(hd k=="write") with
 | false=>
  have e2:∀H,eqB H (.str (hd k)) (.str "write")=À Â:=λH=>by rw[kr,e1]
  generalize W.str (hd k)=q at j0 e2;generalize Y.map tupS=Y';generalize tupS k=K at j0 ⊢;rw[vV];refine(xA ?_).trans (by simp[H1q]);simp![j0,e2]
 | true=>
  have N7:=j1 (eq_of_beq e1);have e2:∀H,eqB H (.str (hd k)) (.str "write")=À Ã:=λH=>by rw[kr,e1]
  generalize W.str (hd k)=q at j0 e2;generalize Y.map tupS=Y' at cm ⊢;generalize tupS k=K at j0 N7 cm ⊢;generalize W.fls (Z.map tupS)=Z' at cm en;cases e3:Z.isEmpty with
  | true=>
   rw[e3] at en;refine(xA ?_).trans (by simp[H1q]);simp![j0,e2,cm,kx,c0,en]
  | false=>
   rw[e3] at en;refine(gC ?_ (h':=H2) (f:=.nx (ρc a b n (À M') (À (.fls Y')) (À K))) ?_).trans (by simp[H2e])
   .simp![j0,e2,cm,kx,c0,en]
   .simp![kH,gl,N7,N6]
theorem Jp{h0:MH}{Y:List (List Æ)}(hn:h0.length=n)(y:Mks Y):∀(X:List (List Æ)) (l:List W) (o5:Option W),(∀k∈X,k∈uni [])->l.length+X.length<=900->∃p5,forL (zl 5) Z6 (X.map tupS) (ρc a b n (À m) (À (.fls (Y.map tupS))) o5) (h0++[.lst l])=À (.nx (ρc a b n (À m) (À (.fls (Y.map tupS))) p5),h0++[.lst (l++zk (inn X Y))])
 | [],l,o5,_,_=>⟨o5,by simp[forL,inn,zk]⟩
 | k::X,l,o5,u,hl=>by
  erw[zE] at hl;have st:=Gu (a:=a) (b:=b) (M':=m) hn y (u k zr) (l:=l) (zO (show l.length<901 by omega) (by decide));obtain⟨p5,g⟩:=Jp (a:=a) (b:=b) (m:=m) hn y X (l++if wB k Y then [.str (sec k)] else []) (À (tupS k)) (λk hk=>u k (zm _ hk)) (by split<;>simp<;>omega);refine⟨p5,?_⟩;have hg:zl 5 (tupS k) (ρc a b n (À m) (À (.fls (Y.map tupS))) o5) (h0++[.lst l])=À (ρc a b n (À m) (À (.fls (Y.map tupS))) (À (tupS k)),h0++[.lst l]):=by simp[zl]
  rw[zu];unfold forL;rw[hg];erw[st];rw[g];have:inn (k::X) Y=(if wB k Y then [sec k] else [])++inn X Y:=by
   unfold inn;rw[jB];split<;>simp
  rw[this];congr 4
  unfold zk;split<;>simp
def Uv:x∈aS A B↔(x="say" \/ x="ask")/\[x]∈A/\[x]∈B:=by
 unfold aS;erw[zp,zV];constructor
 .rintro⟨k,⟨h1,h2⟩,rfl⟩
  simp at h2;rcases h2 with ⟨rfl | rfl,h2⟩
  .exact⟨.inl rfl,h1,h2⟩
  .exact⟨.inr rfl,h1,h2⟩
 .rintro⟨rfl | rfl,h,h2⟩
  .exact⟨_,⟨h,by simp[h2]⟩,rfl⟩
  .exact⟨_,⟨h,by simp[h2]⟩,rfl⟩
def Ke(a:Mks A)(b:Mks B):x∈inn A B↔[("write":Æ),x]∈A/\([("read":Æ),x]∈B\/[("write":Æ),x]∈B):=by
 unfold inn wB;erw[zp,zV,zy,jZ,yM];constructor
 .rintro⟨k,⟨h1,h2,m,h3,h4⟩,rfl⟩
  rcases yn (a.u k h1) with ⟨v,hv,rfl⟩ | ⟨v,hv,rfl⟩ | rfl | rfl
  .exact absurd (show(("read":Æ)=="write")=Ã from h2) ⋯
  .refine⟨h1,?_⟩
   have h4:m.drop 1=[v]:=eq_of_beq h4;rcases yn (b.u m h3) with ⟨u,hu,rfl⟩ | ⟨u,hu,rfl⟩ | rfl | rfl
   .cases h4;exact .inl h3
   .cases h4;exact .inr h3
   .cases h4
   .cases h4
  .exact absurd (show(("say":Æ)=="write")=Ã from h2) ⋯
  .exact absurd (show(("ask":Æ)=="write")=Ã from h2) ⋯
 .rintro⟨h1,h2⟩
  refine⟨_,⟨h1,show(("write":Æ)=="write")=Ã by decide +kernel,?_⟩,rfl⟩;rcases h2 with h2 | h2
  .exact⟨_,h2,jk _⟩
  .exact⟨_,h2,jk _⟩
def ZQ(a:Mks A)(b:Mks B):aE (aS A B++inn A B++inn B A)=cl A B:=JE λx=>by
 rw[Xi a,zA,zA,Uv,Ke a b,Ke b a];unfold Cm;have h1:=λh=>YN a (x:=x) h
 have h2:=λh=>YN b (x:=x) h
 grind
def Wx{A B:List (List Æ)}(a:Mks A)(b:Mks B):(step F).aV [.fls (A.map tupS),.fls (B.map tupS)] h=À (.fls (zk (cl A B)),h):=by
 refine qh (h':=h++[.lst (zk (aS A B++inn A B++inn B A))]) ?_ (iZ _) (jH _ _);have h2:2<=cap:=by decide
 have h1:1<=cap:=by decide
 have i0:=λk hk (H:MH)=>xE (h:=H) (k:=k) (a.good hk) b
 have cm:x8 (kc (zd 0)) 1 [1] (zl 0) (vb (zD (zh (vk Â) (zd 0) (ze zv [ze zv [OZ "say"],ze zv [OZ "ask"]]))) (zD (zh (vk Â) (zd 0) (zd 1)))) (zh zt (zd 0) (OJ 0)) [À (.fls (A.map tupS)),À (.fls (B.map tupS)),Á,Á,Á,Á] h=À (.ref h.length,h++[.lst (zk (aS A B))]):=by
  refine(BO (l:=A.map tupS) (λz=>match vc z with | some k=>[[("say":Æ)],["ask"]].contains k&&B.contains k | none=>Â) (λz=>match vc z with | some k=>.str (hd k) | none=>.non) ?_ ?_ ?_ ?_).trans ?_
  .generalize A.map tupS=Z
   simp![kc,srcOf]
  .intro z hz H'
   obtain⟨k,hk,rfl⟩:=zp.mp hz;have e1:=i0 k hk H';have e2:inB H' (tupS k) (.tup [tupS ["say"],tupS ["ask"]])=À ([[("say":Æ)],["ask"]].contains k):=iH (a.good hk) ⋯ rfl;have t1:W.tup [.str "say"]=tupS ["say"]:=rfl;have t2:W.tup [.str "ask"]=tupS ["ask"]:=rfl;erw[ky];generalize [[("say":Æ)],["ask"]].contains k=c1 at e2 ⊢;generalize B.contains k=c2 at e1 ⊢;generalize B.map tupS=Z at e1 ⊢;generalize tupS k=K at e1 e2 ⊢;cases c1<;>simp![zv,t1,t2,e1,e2,h1,h2]
  .intro z hz _ H'
   obtain⟨k,hk,rfl⟩:=zp.mp hz;have j0:=mr (a.u k hk) H';erw[ky];generalize tupS k=K at j0 ⊢;simp![j0]
  .rw[zF];exact zz a.l (by decide)
  .have fe:((λz=>match vc z with | some k=>[[("say":Æ)],["ask"]].contains k&&B.contains k | none=>Â)∘tupS)=λk=>[[("say":Æ)],["ask"]].contains k&&B.contains k:=funext λk=>by erw[æ,ky]
   have Iz:((λz=>match vc z with | some k=>W.str (hd k) | none=>.non)∘tupS)=(W.str∘hd):=funext λk=>by erw[æ,ky]
   rw[qx,fe,z9,Iz];unfold zk aS;rw[z9]
 have lw:(aS A B).length<=100:=by unfold aS;rw[zF];exact zz (jb ..) a.l
 have li:∀{A B:List (List Æ)},Mks A->(inn A B).length<=100:=λa=>by unfold inn;rw[zF];exact zz (jb ..) a.l
 have la:=li a (B:=B);have lb:=li b (B:=A);obtain⟨p5,g1⟩:=Jp (a:=.fls (A.map tupS)) (b:=.fls (B.map tupS)) (m:=.fls (A.map tupS)) (h0:=h) rfl b A (zk (aS A B)) Á a.u (by have:=a.l;rw[kU];omega);obtain⟨q5,g2⟩:=Jp (a:=.fls (A.map tupS)) (b:=.fls (B.map tupS)) (m:=.fls (B.map tupS)) (h0:=h) rfl a B (zk (aS A B)++zk (inn A B)) p5 b.u (by have:=b.l;rw[zL,kU,kU];omega);have e3:zk (aS A B)++zk (inn A B)++zk (inn B A)=zk (aS A B++inn A B++inn B A):=by unfold zk;simp
 rw[e3] at g2;have st:wa (.ref h.length) (h++[.lst (zk (aS A B++inn A B++inn B A))])=À (.fls (zk (cl A B)),h++[.lst (zk (aS A B++inn A B++inn B A))]):=by
  rw[gz (U:=fx) (xs:=aS A B++inn A B++inn B A) (by erw[qV,getL,at_of]) (by rw[zL,zL];omega) (λx hx=>?_) (by decide),ZQ a b];exact oU a x (tsort_mem.mp (show x∈cl A B by rw[<-ZQ a b];exact tsort_mem.mpr hx))
 generalize zk (cl A B)=Y at st ⊢;generalize zk (aS A B++inn A B++inn B A)=Y3 at g2 st ⊢;generalize zk (aS A B)++zk (inn A B)=Y2 at g1 g2;generalize zk (aS A B)=Y1 at g1 cm;have row:bj F [À (.fls (A.map tupS)),À (.fls (B.map tupS)),Á,Á,Á,Á] h=À (.ret (.fls Y),h++[.lst Y3]):=by
  rw[C9,zw (ρ':=ρc (.fls (A.map tupS)) (.fls (B.map tupS)) h.length Á Á Á) (h':=h++[.lst Y1]) (by unfold zC;rw[cm];rfl)];rw[zw (ρ':=ρc (.fls (A.map tupS)) (.fls (B.map tupS)) h.length (À (.fls (B.map tupS))) (À (.fls (A.map tupS))) q5) (h':=h++[.lst Y3]) ?_]
  .simp![st]
  .generalize h++[MO.lst Y3]=H3 at g2 ⊢
   generalize h++[MO.lst Y2]=H2 at g1 g2 ⊢;generalize h++[MO.lst Y1]=H1 at g1 ⊢;have f1:kK (kc (zd 3)) (zl 5) Z6 (ρc (.fls (A.map tupS)) (.fls (B.map tupS)) h.length (À (.fls (A.map tupS))) (À (.fls (B.map tupS))) Á) H1=À (.nx (ρc (.fls (A.map tupS)) (.fls (B.map tupS)) h.length (À (.fls (A.map tupS))) (À (.fls (B.map tupS))) p5),H2):=g1;have f2:kK (kc (zd 3)) (zl 5) Z6 (ρc (.fls (A.map tupS)) (.fls (B.map tupS)) h.length (À (.fls (B.map tupS))) (À (.fls (A.map tupS))) p5) H2=À (.nx (ρc (.fls (A.map tupS)) (.fls (B.map tupS)) h.length (À (.fls (B.map tupS))) (À (.fls (A.map tupS))) q5),H3):=g2;generalize kK (kc (zd 3)) (zl 5) Z6=lp at f1 f2 ⊢;unfold kK;have it:kc (ze zv [ze zv [zd 0,zd 1],ze zv [zd 1,zd 0]]) (ρc (.fls (A.map tupS)) (.fls (B.map tupS)) h.length Á Á Á) H1=À (.items [.tup [.fls (A.map tupS),.fls (B.map tupS)],.tup [.fls (B.map tupS),.fls (A.map tupS)]],H1):=by
    generalize A.map tupS=Z1;generalize B.map tupS=Z2;simp![kc,srcOf,zv,h2]
   rw[it];generalize A.map tupS=Z1 at f1 f2 ⊢;generalize B.map tupS=Z2 at f1 f2 ⊢;have q1:vF [zl 3,zl 4] (.tup [.fls Z1,.fls Z2]) (ρc (.fls Z1) (.fls Z2) h.length Á Á Á) H1=À (ρc (.fls Z1) (.fls Z2) h.length (À (.fls Z1)) (À (.fls Z2)) Á,H1):=rfl;have q2:vF [zl 3,zl 4] (.tup [.fls Z2,.fls Z1]) (ρc (.fls Z1) (.fls Z2) h.length (À (.fls Z1)) (À (.fls Z2)) p5) H2=À (ρc (.fls Z1) (.fls Z2) h.length (À (.fls Z2)) (À (.fls Z1)) p5,H2):=rfl;simp only;unfold forL;rw[q1];erw[f1];unfold forL;rw[q2];erw[f2];rfl
 erw[kS,zE,kI,kY,zu,ji,Ç,jr,kJ];erw[row]
noncomputable def pr(p:Nat×Nat):W:=.tup [.int (p.1:Nat),.int (p.2:Nat)]
noncomputable def eZ(p:Nat×Nat):List Æ:=[ac p.1,ac p.2]
def Xz{q:Nat×Nat}(h:eZ p=eZ q):p=q:=by
 unfold eZ at h;erw[yG,uH] at h;exact Prod.ext (eW h.1) (eW h.2)
def cdp_lt{p q:Nat×Nat}:jv (eZ p) (eZ q)=Ã↔p.1<q.1\/(p.1=q.1/\p.2<q.2):=by
 unfold eZ;by_cases e:p.1=q.1
 .by_cases f:p.2=q.2
  .simp[jv,e,f]
  .have:ac p.2≠ac q.2:=λz=>f (eW z)
   simp[jv,e,this,rS]
 .have:ac p.1≠ac q.1:=λz=>e (eW z)
  simp[jv,this,rS,e]
theorem Qm:∀P:List (Nat×Nat),gN (P.map pr)=À (P.map λp=>[p.1,p.2])
 | []=>rfl
 | p::P=>by
  rw[zu];unfold pr gN;rw[show rP [W.int (p.1:Nat),W.int (p.2:Nat)]=À [p.1,p.2] from rfl];erw[jM];rw[show(P.map λp=>W.tup [.int (p.1:Nat),.int (p.2:Nat)])=P.map pr from rfl,Qm P];rfl
theorem VT{P C:List (Nat×Nat)}(hw:getL h w=À (P.map pr))(l:P.length<64)(nd:P.Nodup)(up:(C.map eZ).Pairwise λa b=>jv a b=Ã)(me:∀p,p∈P↔p∈C):oP w h=À (.fls (C.map pr),h):=by
 unfold oP;rw[hw,jM];have sm:kG (P.map eZ)=C.map eZ:=xD (we _) up λx=>by
  rw[ssort_mem,zp,zp];erw[me]
 cases P with
 | nil=>
  have:C=[]:=List.eq_nil_iff_forall_not_mem.mpr λp hp=>by have:=(me p).mpr hp;cases this
  subst this;rfl
 | cons p P=>
  have ek:l8 ((p::P).map pr)=À (.gt,(p::P).map eZ):=by
   have e1:dj ((p::P).map pr)=Á:=rfl;unfold l8;rw[e1,Qm];erw[Option.map_some,z9];rfl
  rw[ek,jM];have Mv:((p::P).map eZ).Nodup:=wX.mpr (nd.imp λ{a b} ne e=>ne (Xz e));rw[zW ⟨by simpa using l,Mv,λk hk=>by obtain⟨q,_,rfl⟩:=zp.mp hk;simp[eZ]⟩];simp only;rw[sm,z9];rfl
section
variable{Bs:List (List (List Æ))}
noncomputable def cx(Bs:List (List (List Æ)))(i j:Nat):Bool:=!(cl (Bs.getD i []) (Bs.getD j [])).isEmpty
noncomputable def xo(Bs:List (List (List Æ)))(j:Nat):List (Nat×Nat):=((Ô j).filter λi=>cx Bs i j).map λi=>(i,j)
noncomputable def prs(Bs:List (List (List Æ)))(n:Nat):List (Nat×Nat):=(Ô n).flatMap (xo Bs)
noncomputable def bp(Bs:List (List (List Æ)))(n i:Nat):List (Nat×Nat):=((Ô n).filter λj=>decide (i<j)&&cx Bs i j).map λj=>(i,j)
noncomputable def cps(Bs:List (List (List Æ)))(n:Nat):List (Nat×Nat):=(Ô n).flatMap (bp Bs n)
def prs_mem{p:Nat×Nat}:p∈prs Bs n↔p.1<p.2/\p.2<n/\cx Bs p.1 p.2=Ã:=by
 unfold prs xo;erw[jX,zp,zV,ju];constructor
 .rintro⟨j,hj,i,⟨hi,hc⟩,rfl⟩
  exact⟨hi,hj,hc⟩
 .rintro⟨h1,h2,h3⟩
  exact⟨p.2,h2,p.1,⟨h1,h3⟩,rfl⟩
def cps_mem{p:Nat×Nat}:p∈cps Bs n↔p.1<p.2/\p.2<n/\cx Bs p.1 p.2=Ã:=by
 unfold cps bp;erw[jX,zp,zV,ju,zy,qX];constructor
 .rintro⟨i,hi,j,⟨hj,hl,hc⟩,rfl⟩
  exact⟨hl,hj,hc⟩
 .rintro⟨h1,h2,h3⟩
  exact⟨p.1,by omega,p.2,⟨h2,h1,h3⟩,rfl⟩
def BQ(n:Nat):((cps Bs n).map eZ).Pairwise λa b=>jv a b=Ã:=by
 refine wX.mpr ?_;unfold cps;rw[u0];refine⟨λi _=>?_,qQ.imp λ{i j} L4 x hx y hy=>?_⟩
 .unfold bp
  refine wX.mpr ((qQ.filter _).imp λ{a b} h=>?_);exact cdp_lt.mpr (.inr ⟨rfl,h⟩)
 .unfold bp at hx hy
  obtain⟨a,_,rfl⟩:=zp.mp hx;obtain⟨b,_,rfl⟩:=zp.mp hy;exact cdp_lt.mpr (.inl L4)
def Bc(n:Nat):(prs Bs n).Nodup:=by
 unfold prs List.Nodup;rw[u0];refine⟨λi _=>?_,qQ.imp λ{i j} L4 x hx y hy e=>?_⟩
 .unfold xo
  refine wX.mpr ((qQ.filter _).imp λ{a b} h e=>?_);cases e;omega
 .unfold xo at hx hy
  obtain⟨a,_,rfl⟩:=zp.mp hx;obtain⟨b,_,e2⟩:=zp.mp hy;rw[<-e2] at e;cases e;omega
def X3(hn:n<=4):(prs Bs n).length<=16:=by
 have h1:∀j,(xo Bs j).length<=j:=λj=>by
  unfold xo;rw[zF];exact zz (jb ..) (by simp)
 unfold prs;rw[pH];have:=h1 0;have:=h1 1;have:=h1 2;have:=h1 3;match n,hn with
 | 0,_=>simp
 | 1,_=>simp[wA];omega
 | 2,_=>simp[wA];omega
 | 3,_=>simp[wA];omega
 | 4,_=>simp[wA];omega
end
def Kz{n:Nat}(hn:n<=1000)(h:MH):gA [.int (n:Int)] h=À (.items (upto n),h):=by
 have q:-(2 ^ 62:Int)<=(n:Int)/\(n:Int)<2 ^ 62:=by omega
 unfold gA;simp only;rw[zW q,jd]
noncomputable def Ba(F:Fs):MS:=(ya (kH vS (zd 3) [kq (yb [zd 4]) 1 [4,2] (zl 0) (zD (zh ni (ze kL [ze F.au [zh zt (zd 2) (zd 0),zh zt (zd 2) (zd 1)]]) (OJ 0))) (ze zv [zd 0,zd 1])]))
theorem BL(F:Fs):bH F=(zo (zC (kq (kc (zd 1)) 1 [0] (zl 0) vn (ze F.aO [zd 1,zd 0])) (zl 2))
 (zo (zC (ze yY []) (zl 3)) (zo (kK (yb [ze kL [zd 2]]) (zl 4) (Ba F)) (ke (ze xC [zd 3]))))):=rfl
noncomputable abbrev ρk(r d:W)(Bs:List (List (List Æ)))(n:Nat)(o4:Option W):En:=[À r,À d,À (.fls (bw Bs)),À (.ref n),o4]
theorem Qs(p:Nat×Nat):low m (pr p)=Ã:=vE (n:=2) rfl
def X7(cm:cp [a,b,c,À (.ref n),o4] H1=À (.fls Y,H1))(gl:getL H1 (.ref n)=À l)(ex:vS (.ref n) [.fls Y] H1=À (.non,H2)):ya (kH vS (zd 3) [cp]) [a,b,c,À (.ref n),o4] H1=À (.nx [a,b,c,À (.ref n),o4],H2):=by
 simp![kH,gl,cm,ex]
def FP{G:Fs}{Bs:List (List (List Æ))}{h0:MH}{P:List (Nat×Nat)}(ec:∀A∈Bs,∀B∈Bs,∀h,G.au [.fls (A.map tupS),.fls (B.map tupS)] h=À (.fls (zk (cl A B)),h))(hj:j<Bs.length)(lb:Bs.length<=4)(lp:P.length<=16) :
  Ba G (ρk r d Bs h0.length (À (.int (j:Nat)))) (h0++[.lst (P.map pr)])=À (.nx (ρk r d Bs h0.length (À (.int (j:Nat)))),h0++[.lst ((P++xo Bs j).map pr)]):=by
 have c2:2<=cap:=by decide
 have cm:∀H,kq (yb [zd 4]) 1 [4,2] (zl 0) (zD (zh ni (ze kL [ze G.au [zh zt (zd 2) (zd 0),zh zt (zd 2) (zd 1)]]) (OJ 0))) (ze zv [zd 0,zd 1]) (ρk r d Bs h0.length (À (.int (j:Nat)))) H=À (.fls ((xo Bs j).map pr),H):=λH=>by
  refine(xh (l:=upto j) (λz=>match z with | .int i=>cx Bs i.toNat j | _=>Â) (λz=>.tup [z,.int (j:Nat)]) ?_ ?_ ?_ ?_ ?_).trans ?_
  .have e:=Kz (n:=j) ∅
   unfold yb;rw[i4 (a:=[.int (j:Int)]) (h':=H) rfl];exact e H
  .intro z hz H'
   unfold upto at hz;obtain⟨i,hi,rfl⟩:=zp.mp hz;have hi:=ju.mp hi;have Bo:Bod H' Bs (.fls (bw Bs)):=⟨rfl,λl=>nofun,λz=>nofun⟩;have x1:=Bo.ix (i:=i) ∅;have x2:=Bo.ix (i:=j) hj;have e1:=ec Bs[i] (qe _) Bs[j] (qe _) H';have l:kL [.fls (zk (cl Bs[i] Bs[j]))] H'=À (.int ((cl Bs[i] Bs[j]).length:Int),H'):=by simp[kL,getL,zk]
   have Ru:cx Bs (Int.toNat (i:Nat)) j = !(cl Bs[i] Bs[j]).isEmpty:=by
    unfold cx;rw[jd];simp[ă,show i<Bs.length by omega,hj]
   have g:ni (.int ((cl Bs[i] Bs[j]).length:Int)) (.int 0) H'=À (.bl (!(cl Bs[i] Bs[j]).isEmpty),H'):=by
    cases cl Bs[i] Bs[j] with
    | nil=>rfl
    | cons x r=>
     have:(0:Int)<(r.length:Int)+1:=by omega
     simp[ni,wf,this]
   erw[Ru,ρk];generalize (!(cl Bs[i] Bs[j]).isEmpty)=c at g ⊢;generalize W.int ((cl Bs[i] Bs[j]).length:Int)=q at l g;generalize zk (cl Bs[i] Bs[j])=Y at e1 l;generalize Bs[i].map tupS=Z1 at x1 e1;generalize Bs[j].map tupS=Z2 at x2 e1;generalize bw Bs=Z at x1 x2 ⊢;simp![x1,x2,e1,l,g]
  .intro z _ _ H'
   erw[ρk];generalize bw Bs=Z;simp![zv,c2]
  .intro z hz _
   unfold upto at hz;obtain⟨i,hi,rfl⟩:=zp.mp hz;exact Qs (i,j)
  .unfold upto;rw[zF,vU];exact zz (show j<=4 by omega) (by decide)
  .unfold upto xo
   rw[qx,z9,z9];rfl
 have lj:(xo Bs j).length<=4:=by
  unfold xo;rw[zF];exact zz (jb ..) (by simp;omega)
 have ex:vS (.ref h0.length) [.fls ((xo Bs j).map pr)] (h0++[.lst (P.map pr)])=À (.non,h0++[.lst ((P++xo Bs j).map pr)]):=by
  erw[vS,at_of,qV,getL];rw[zW (by rw[zF,zF];exact zz (show _<=20 by omega) (by decide))];simp
 have gl:getL (h0++[.lst (P.map pr)]) (.ref h0.length)=À (P.map pr):=by erw[getL,at_of]
 exact X7 (cm _) gl ex
theorem Zk{G:Fs}{Bs:List (List (List Æ))}{h0:MH}(ec:∀A∈Bs,∀B∈Bs,∀h,G.au [.fls (A.map tupS),.fls (B.map tupS)] h=À (.fls (zk (cl A B)),h))(lb:Bs.length<=4):∀(js:List Nat) (P:List (Nat×Nat)) (o4:Option W),(∀j∈js,j<Bs.length)->P.length+4*js.length<=16->∃p4,forL (zl 4) (Ba G) (js.map λ(i:Nat)=>W.int (i:Int)) (ρk r d Bs h0.length o4) (h0++[.lst (P.map pr)])=À (.nx (ρk r d Bs h0.length p4),h0++[.lst ((P++js.flatMap (xo Bs)).map pr)])
 | [],P,o4,_,_=>⟨o4,by simp[forL]⟩
 | j::js,P,o4,hj,hl=>by
  erw[zE] at hl;have lj:(xo Bs j).length<=4:=by
   have:=hj j zr;unfold xo;rw[zF];exact zz (jb ..) (by simp;omega)
  have st:=FP (r:=r) (d:=d) (h0:=h0) (P:=P) ec (hj j zr) lb ∅;obtain⟨p4,g⟩:=Zk (r:=r) (d:=d) (h0:=h0) ec lb js (P++xo Bs j) (À (.int (j:Nat))) (λj h=>hj j (zm _ h)) (by rw[zL];omega);refine⟨p4,?_⟩;have hg:zl 4 (.int (j:Nat)) (ρk r d Bs h0.length o4) (h0++[.lst (P.map pr)])=À (ρk r d Bs h0.length (À (.int (j:Nat))),h0++[.lst (P.map pr)]):=by simp[zl]
  rw[zu];unfold forL;rw[hg];erw[st];rw[g,List.flatMap_cons,qZ]
def CF{lp:MI}{h:MH}(cm:cp [À r,À d,Á,Á,Á] h=À (z,h))(it:lp [À r,À d,À z,À (.ref h.length),Á] (h++[.lst []])=À (.items l,h++[.lst []]))(g:forL (zl 4) b l [À r,À d,À z,À (.ref h.length),Á] (h++[.lst []])=À (.nx [À r,À d,À z,À (.ref h.length),q4],H2))(sd:xC [.ref h.length] H2=À (.fls Y,H2)) :
  zo (zC cp (zl 2)) (zo (zC (ze yY []) (zl 3)) (zo (kK lp (zl 4) b) (ke (ze xC [zd 3])))) [À r,À d,Á,Á,Á] h=À (.ret (.fls Y),H2):=by
 have c0:(0:Nat)<=cap:=by decide
 rw[zw (ρ':=[À r,À d,À z,Á,Á]) (h':=h) (by unfold zC;rw[cm];rfl)];rw[zw (ρ':=[À r,À d,À z,À (.ref h.length),Á]) (h':=h++[.lst []]) (by simp![yY,c0])];rw[zw (ρ':=[À r,À d,À z,À (.ref h.length),q4]) (h':=H2) (by unfold kK;rw[it];exact g)];simp![sd]
def mx{ws:List W}(m:∀w∈ws,Mks (mf w))(t:∀w∈ws,TOk (step (step F)) rl w (mf w))(hl:ws.length<=4):(step (step (step F))).aG [.tup rl,.fls ws] h=À (.fls ((cps (ws.map mf) ws.length).map pr),h):=by
 have ec:∀A∈ws.map mf,∀B∈ws.map mf,∀h,(step (step F)).au [.fls (A.map tupS),.fls (B.map tupS)] h=À (.fls (zk (cl A B)),h):=λA hA B hB h=>by
  obtain⟨u,hu,rfl⟩:=zp.mp hA;obtain⟨v,hv,rfl⟩:=zp.mp hB;exact Y0 (m u hu) (m v hv)
 generalize step (step F)=G at t ec;have c0:(0:Nat)<=cap:=by decide
 have lB:(ws.map mf).length=ws.length:=zF ..;have cm:kq (kc (zd 1)) 1 [0] (zl 0) vn (ze G.aO [zd 1,zd 0]) [À (.tup rl),À (.fls ws),Á,Á,Á] h=À (.fls (bw (ws.map mf)),h):=by
  refine(xh (l:=ws) (λ_=>Ã) (λw=>.fls ((mf w).map tupS)) ?_ ?_ ?_ ?_ ?_).trans ?_
  .simp![kc,srcOf]
  .intro z _ H';rfl
  .intro z hz _ H'
   have e:=t z hz H';generalize (mf z).map tupS=Z at e ⊢;simp![e]
  .intro z _ _;exact xw _
  .exact zz hl (by decide)
  .rw[filter_true]
   unfold bw;rw[z9];rfl
 obtain⟨p4,g⟩:=Zk (r:=.tup rl) (d:=.fls ws) (Bs:=ws.map mf) (h0:=h) ec ∅ (Ô ws.length) [] Á (λj hj=>by rw[lB];exact ju.mp hj) (by simp;omega);rw[kJ] at g;have so:oP (.ref h.length) (h++[.lst ((prs (ws.map mf) ws.length).map pr)])=À (.fls ((cps (ws.map mf) ws.length).map pr),h++[.lst ((prs (ws.map mf) ws.length).map pr)]):=VT (by erw[getL,at_of]) (yR (X3 hl) ∅) (Bc _) (BQ _) λp=>prs_mem.trans cps_mem.symm
 have sd:xC [.ref h.length] (h++[.lst ((prs (ws.map mf) ws.length).map pr)])=À (.fls ((cps (ws.map mf) ws.length).map pr),h++[.lst ((prs (ws.map mf) ws.length).map pr)]):=by
  unfold xC;erw[at_of,fW];exact so
 refine qh (h':=h++[.lst ((prs (ws.map mf) ws.length).map pr)]) ?_ (by
  unfold low;exact qr λw hw=>by
   obtain⟨p,_,rfl⟩:=zp.mp hw
   exact Qs p) (jH _ _)
 have row:bH G [À (.tup rl),À (.fls ws),Á,Á,Á] h=À (.ret (.fls ((cps (ws.map mf) ws.length).map pr)),h++[.lst ((prs (ws.map mf) ws.length).map pr)]):=by
  have it:yb [ze kL [zd 2]] (ρk (.tup rl) (.fls ws) (ws.map mf) h.length Á) (h++[.lst []])=À (.items (upto ws.length),h++[.lst []]):=by
   have e:=Kz (n:=ws.length) ∅;have e2:kL [.fls (bw (ws.map mf))] (h++[.lst []])=À (.int (ws.length:Int),h++[.lst []]):=by simp[kL,getL,bw]
   have e3:uu [ze kL [zd 2]] (ρk (.tup rl) (.fls ws) (ws.map mf) h.length Á) (h++[.lst []])=À ([.int (ws.length:Int)],h++[.lst []]):=by
    erw[ρk];generalize bw (ws.map mf)=Z at e2 ⊢;generalize h++[MO.lst []]=H1 at e2 ⊢;simp![e2]
   unfold yb;rw[i4 e3];exact e _
  rw[BL];exact CF cm it g sd
 erw[kS,zE,kI,kY,zu,ji,Ç,jr,kJ];erw[row]
def D5{F:Fs}{P:List (Nat×Nat)}(c:∀h,F.aG [.tup rl,.fls ws] h=À (.fls (P.map pr),h)):(step F).aJ [.tup rl,.fls ws] h=À (.bl P.isEmpty,h):=by
 have c:=c h;refine xk (n:=1) ?_ rfl;have l:∀h,kL [.fls (P.map pr)] h=À (.int (P.length:Int),h):=λh=>by simp[kL,getL]
 have e:((P.length:Int)==0)=P.isEmpty:=by cases P<;>simp<;>omega
 generalize P.map pr=Y at c l;rw[<-e];generalize (P.length:Int)=n at l ⊢;simp![bM,c,l,vj]
def FX{rl:List W}(hr:RG rl)(p:pl 6 w=Ã)(o:okd rl rl.length [] 3 w):∃M,Mks M/\(∀m,TOk (up (m+6) F) rl w M)/\∀m,30<=m->∀h,(up m F).aj [.tup rl,w] h=À (.fls (M.map tupS),h):=by
 obtain⟨B,bo,bl,eb⟩:=Qg (F:=F) hr;obtain⟨M,m1,m2,m3,m4,m5⟩:=nS (F:=F) hr bo bl eb (n:=3) ∅ ∅ p o;refine⟨M,⟨m3,by omega,xl m1⟩,λm=>?_,λm hm=>?_⟩
 .obtain⟨B2,N8,Rv,Rw⟩:=Qg (F:=up m F) hr
  obtain rfl:B2=B:=nW hr N8 bo ∅;obtain⟨M2,q1,q2,q3,q4,q5⟩:=nS (F:=up m F) hr N8 Rv Rw (n:=3) ∅ ∅ p o;obtain rfl:M2=M:=xD q1 m1 λx=>(q2 x).trans (m2 x).symm
  exact q5
 .obtain⟨M2,q1,q2,q3⟩:=pE hr bo bl F m rl.length 3 (by have:=hr.l;omega) ∅ (zG _) [] w o p (λv hv=>by simp at hv) (by simp)
  obtain rfl:M2=M:=xD q1 m1 λx=>(q2 x).trans (m2 x).symm
  exact q3
def WZ{l:List Æ}(hl:l.length<=1000)(g:∀x∈l,pl 1 (.str x)=Ã):dt 2 (.fls (zk l))=Ã:=oY (by simpa[zk] using hl) λw hw=>by
 obtain⟨x,hx,rfl⟩:=zp.mp hw;exact wn (g x hx)
def Ko(d:dt n w=Ã)(hn:n<=60)(hf:ip w w=Á)(hr:ä (toD n w) (toD n w)=Ã):eqB h w w=À Ã:=by
 have e:=yi (h:=h) d (show n<=deep from hn);unfold eqB;rw[hf,e];erw[hr]
theorem nh:∀l:List Æ,á ((zk l).map (toD 1)) ((zk l).map (toD 1))=Ã
 | []=>rfl
 | x::l=>by
  have:=nh l;erw[zk,zu,á] at this ⊢;rw[this];simp[toD,ä]
def Yx(a:Mks A):dt 2 (.fls (zk (cl A B)))=Ã:=WZ (zz (Gi a) ∅) λx hx=>VH x (Ge a x hx)
def DL(a:Mks A)(h:MH):eqB h (.fls (zk (cl A B))) (.fls (zk (cl A B)))=À Ã:=Ko (Yx a) ∅ rfl (by erw[toD,ä];exact nh _)
theorem CB(a:Mks A)(h:MH):eqB h (.fls (zk (cl A B))) (.fls [])=À (cl A B).isEmpty:=by
 rw[dU (Yx a) ∅];cases cl A B<;>rfl
theorem Qz{P:List (Nat×Nat)}(hl:P.length<=1000):dt 3 (.fls (P.map pr))=Ã:=oY (by simpa using hl) λw hw=>by
 obtain⟨p,_,rfl⟩:=zp.mp hw;rfl
theorem Zn:∀P:List (Nat×Nat),á ((P.map pr).map (toD 2)) ((P.map pr).map (toD 2))=Ã
 | []=>rfl
 | p::P=>by
  have:=Zn P;erw[zu,á] at this ⊢;rw[this];simp[pr,toD,ä,á]
def rA{H:MH}(e:H[n]?=À (.lst l)):kD deep H (.ref n)=kD deep H (.fls l):=by
 show kD (59+1) H (.ref n)=kD (59+1) H (.fls l)
 erw[kD,e]
def Df{H:MH}{P:List (Nat×Nat)}(hl:P.length<=1000)(e:H[n]?=À (.lst (P.map pr))):eqB H (.fls (P.map pr)) (.ref n)=À Ã:=by
 have d:=yi (h:=H) (Qz hl) (show 3<=deep by decide);unfold eqB;rw[show ip (.fls (P.map pr)) (.ref n)=Á from rfl,rA e,d];erw[toD,ä];rw[Zn]
theorem XJ{H:MH}{P:List (Nat×Nat)}(hl:P.length<=1000)(e:H[n]?=À (.lst (P.map pr))):eqB H (.ref n) (.fls [])=À P.isEmpty:=by
 have q:=dU (h:=H) (Qz hl) ∅;unfold eqB at q ⊢;rw[show ip (.ref n) (.fls [])=Á from rfl,rA e];rw[show ip (.fls (P.map pr)) (.fls [])=Á from rfl] at q;rw[q];cases P<;>rfl
noncomputable def IB(F:Fs):MS:=(zo (zC (ze F.aV [zh zt (zd 3) (zd 5),zh zt (zd 3) (zd 7)]) (zl 9))
 (zo (zC (ze F.bD [zd 1,zd 6,zd 8]) (zl 10))
 (zo (zC (ze F.bC [zd 1,zd 6,zd 8]) (zl 11))
 (zo (kM (bq (dC (zD (vw (isW .list) (zd 10)))) (bq (zD (zh (kf Ã) (zd 10) (zd 9))) (bq (dC (zD (vw (isW .bool) (zd 11)))) (zD (zh (kf Ã) (zd 11) (zh (kf Â) (zd 9) (ze kx [])))))))
 (ke (eC (.bl Â)))
 ko)
 (kM (vb (zD (zh gH (zd 5) (zd 7))) (zD (zh (kf Ã) (zd 9) (ze kx []))))
 (ya (kH j3 (zd 4) [ze zv [zd 5,zd 7]]))
 ko)))))
noncomputable abbrev ρv(s r d z:W)(n:Nat)(o5 o6 o7 o8 o9 o10 o11 o12 o13 o14:Option W):En:=[À s,À r,À d,À z,À (.ref n),o5,o6,o7,o8,o9,o10,o11,o12,o13,o14]
def Bh{F:Fs}{lt:Bool}
  (xa:∀h,zt z (.int i) h=À (A,h)) (xb:∀h,zt z (.int j) h=À (B,h)) (lc:∀h,F.aV [A,B] h=À (y,h)) (ck:∀h,F.bD [r,u,v] h=À (y,h)) (mg:∀h,F.bC [r,u,v] h=À (.bl c,h)) (iy:∀h,isW .list y h=À (.bl Ã,h)) (ey:∀h,eqB h y y=À Ã) (en:∀h,eqB h y (.fls [])=À c)
  (le:∀h,gH (.int i) (.int j) h=À (.bl lt,h)) (gl:getL H1 (.ref n)=À l) (ap:j3 (.ref n) [.tup [.int i,.int j]] H1=À (.non,H2)) :
  IB F (ρv s r d z n (À (.int i)) (À u) (À (.int j)) (À v) o9 o10 o11 o12 o13 o14) H1=À (.nx (ρv s r d z n (À (.int i)) (À u) (À (.int j)) (À v) (À y) (À y) (À (.bl c)) o12 o13 o14),if (lt && !c)=Ã then H2 else H1):=by
 have c0:(0:Nat)<=cap:=by decide
 have c2:(2:Nat)<=cap:=by decide
 have ib:∀h,isW .bool (.bl c) h=À (.bl Ã,h):=λh=>rfl
 have eb:∀h,eqB h (.bl c) (.bl c)=À Ã:=λh=>by rw[sT];simp
 unfold IB;rw[zw (ρ':=ρv s r d z n (À (.int i)) (À u) (À (.int j)) (À v) (À y) o10 o11 o12 o13 o14) (h':=H1) (by simp![xa,xb,lc])];rw[zw (ρ':=ρv s r d z n (À (.int i)) (À u) (À (.int j)) (À v) (À y) (À y) o11 o12 o13 o14) (h':=H1) (by simp![ck])];rw[zw (ρ':=ρv s r d z n (À (.int i)) (À u) (À (.int j)) (À v) (À y) (À y) (À (.bl c)) o12 o13 o14) (h':=H1) (by simp![mg])];rw[zw (ρ':=ρv s r d z n (À (.int i)) (À u) (À (.int j)) (À v) (À y) (À y) (À (.bl c)) o12 o13 o14) (h':=H1) (xA (by simp![iy,ey,ib,kx,c0,en,eb]))];cases lt with
 | false=>exact xA (by simp![le])
 | true=>
  cases c with
  | true=>exact xA (by simp![le,kx,c0,en])
  | false=>exact gC (by simp![le,kx,c0,en]) (by simp![kH,gl,zv,c2,ap])
def Bt(ws:List W):numbered ws=(Ô ws.length).map λ(j:Nat)=>.tup [.int (j:Int),ws.getD j .non]:=by
 apply List.ext_getElem?
 intro i;rw[dM,kW];by_cases hi:i<ws.length
 .simp[hi,ă]
 .simp[hi]
structure Kn(G:Fs)(r z:W)(ws:List W)(Bs:List (List (List Æ))):Prop where
 hm:∀i,i<ws.length->Mks (Bs.getD i [])
 hx:∀i:Nat,i<ws.length->∀h,zt z (.int (i:Int)) h=À (.fls ((Bs.getD i []).map tupS),h)
 hc:∀i j,i<ws.length->j<ws.length->∀h,G.aV [.fls ((Bs.getD i []).map tupS),.fls ((Bs.getD j []).map tupS)] h=À (.fls (zk (cl (Bs.getD i []) (Bs.getD j []))),h)
 hk:∀i j,i<ws.length->j<ws.length->∀h,G.bD [r,ws.getD i .non,ws.getD j .non] h=À (.fls (zk (cl (Bs.getD i []) (Bs.getD j []))),h)
 hg:∀i j,i<ws.length->j<ws.length->∀h,G.bC [r,ws.getD i .non,ws.getD j .non] h=À (.bl (cl (Bs.getD i []) (Bs.getD j [])).isEmpty,h)
 ht:∀i,i<ws.length->∀h,G.aQ [r,ws.getD i .non] h=À (.bl (twice (Bs.getD i [])),h)
def BN(i j:Nat)(h:MH):gH (.int (i:Int)) (.int (j:Int)) h=À (.bl (decide (i<j)),h):=by simp[gH,wf]
theorem ZJ{ws:List W}{h0:MH}(K:Kn G r z ws Bs)(hi:i<ws.length):∀(js:List Nat) (P:List (Nat×Nat)) (o7 o8 o9 o10 o11:Option W),(∀j∈js,j<ws.length)->P.length+js.length<=900->
  ∃p7 p8 p9 Ei Ez,forL (vF [zl 7,zl 8]) (IB G) (js.map λ(j:Nat)=>.tup [.int (j:Int),ws.getD j .non]) (ρv s r d z h0.length (À (.int (i:Int))) (À (ws.getD i .non)) o7 o8 o9 o10 o11 o12 o13 o14) (h0++[.lst (P.map pr)])=À (.nx (ρv s r d z h0.length (À (.int (i:Int))) (À (ws.getD i .non)) p7 p8 p9 Ei Ez o12 o13 o14),h0++[.lst ((P++(js.filter λj=>decide (i<j)&&cx Bs i j).map λj=>(i,j)).map pr)])
 | [],P,o7,o8,o9,o10,o11,_,_=>⟨o7,o8,o9,o10,o11,by simp[forL]⟩
 | j::js,P,o7,o8,o9,o10,o11,hj,hl=>by
  erw[zE] at hl;have j1:=hj j zr;have ap:j3 (.ref h0.length) [.tup [.int (i:Int),.int (j:Int)]] (h0++[.lst (P.map pr)])=À (.non,h0++[.lst ((P++[(i,j)]).map pr)]):=by
   erw[j3,at_of];rw[zW (by rw[zF];exact zO (show _<901 by omega) (by decide))];simp[pr]
  have st:=Bh (s:=s) (d:=d) (o9:=o9) (o10:=o10) (o11:=o11) (o12:=o12) (o13:=o13) (o14:=o14) (K.hx i hi) (K.hx j j1) (K.hc i j hi j1) (K.hk i j hi j1) (K.hg i j hi j1) (λh=>rfl) (DL (K.hm i hi)) (CB (K.hm i hi)) (BN i j) (show getL (h0++[.lst (P.map pr)]) (.ref h0.length)=À (P.map pr) by erw[getL,at_of]) ap;have hh:(if (decide (i<j) && !(cl (Bs.getD i []) (Bs.getD j [])).isEmpty)=Ã then h0++[MO.lst ((P++[(i,j)]).map pr)] else h0++[.lst (P.map pr)])=h0++[.lst ((P++(if (decide (i<j)&&cx Bs i j)=Ã then [(i,j)] else [])).map pr)]:=by
   unfold cx;split<;>simp
  rw[hh] at st;obtain⟨p7,p8,p9,Ei,Ez,g⟩:=ZJ (s:=s) (d:=d) (h0:=h0) (o12:=o12) (o13:=o13) (o14:=o14) K hi js (P++if (decide (i<j)&&cx Bs i j)=Ã then [(i,j)] else []) (À (.int (j:Int))) (À (ws.getD j .non)) (À (.fls (zk (cl (Bs.getD i []) (Bs.getD j []))))) (À (.fls (zk (cl (Bs.getD i []) (Bs.getD j []))))) (À (.bl (cl (Bs.getD i []) (Bs.getD j [])).isEmpty)) (λj h=>hj j (zm _ h)) (by split<;>simp<;>omega);refine⟨p7,p8,p9,Ei,Ez,?_⟩;have hg:vF [zl 7,zl 8] (.tup [.int (j:Int),ws.getD j .non]) (ρv s r d z h0.length (À (.int (i:Int))) (À (ws.getD i .non)) o7 o8 o9 o10 o11 o12 o13 o14) (h0++[.lst (P.map pr)])=À (ρv s r d z h0.length (À (.int (i:Int))) (À (ws.getD i .non)) (À (.int (j:Int))) (À (ws.getD j .non)) o9 o10 o11 o12 o13 o14,h0++[.lst (P.map pr)]):=rfl;rw[zu];unfold forL;rw[hg];erw[st];rw[g,qZ];congr 6
  rw[jB];split<;>simp
noncomputable def Fz:ME:=(kq (kc (zh zt (zd 3) (zd 5))) 1 [] (zl 0) (zD (zh (kf Â) (zh zt (zd 0) (OJ 0)) (OZ "read"))) (zh zt (zd 0) (OJ 1)))
noncomputable def UY:ME:=(kq (kc (zh zt (zd 3) (zd 5))) 1 [12] (zl 0) (vb (zD (zh (kf Â) (zh zt (zd 0) (OJ 0)) (OZ "write"))) (zD (zh (vk Â) (zh zt (zd 0) (OJ 1)) (zd 1)))) (zd 0))
noncomputable def OT(F:Fs):MS:=(zo (zC Fz (zl 12)) (zo (zC UY (zl 13))
 (zo (zC (ze F.aQ [zd 1,zd 6]) (zl 11))
 (zo (zC (x5 (zh (kf Â) (zd 13) (ze kx [])) (x5 (zh (vk Ã) (ze zv [OZ "say"]) (zh zt (zd 3) (zd 5))) (zh (vk Ã) (ze zv [OZ "ask"]) (zh zt (zd 3) (zd 5))))) (zl 14))
 (kM (bq (dC (zD (vw (isW .bool) (zd 11)))) (zD (zh (kf Ã) (zd 11) (zd 14))))
 (ke (eC (.bl Â)))
 ko)))))
noncomputable def OB(F:Fs):MS:=zo (kK (u3 [zd 2]) (vF [zl 7,zl 8]) (IB F)) (OT F)
theorem Y8(F:Fs):bU F=(zo (zC (ze F.aN [zd 0,OJ 1]) (zl 1))
 (zo (zC (kq (yb [ze F.aa [zd 0,OJ 60,OJ 5]]) 1 [0,1] (zl 0) vn (ze F.aW [zd 1,zh addW (OJ 90) (zh ki (OJ 31) (zd 0)),OJ 2,zd 2])) (zl 2))
 (zo (zC (kq (kc (zd 2)) 1 [1] (zl 0) vn (ze F.aj [zd 1,zd 0])) (zl 3))
 (zo (zC (ze yY []) (zl 4))
 (zo (kK (u3 [zd 2]) (vF [zl 5,zl 6]) (OB F))
 (zo (zC (ze F.aJ [zd 1,zd 2]) (zl 11))
 (ke (x5 (zh (kf Â) (ze F.aG [zd 1,zd 2]) (zd 4)) (x5 (vw (isW .bool) (zd 11)) (zh (kf Â) (zd 11) (zh (kf Â) (zd 4) (ze kx [])))))))))))):=rfl
def tH{M:List (List Æ)}(m:Mks M):x∈ah "read" M↔[("read":Æ),x]∈M:=by
 unfold ah;erw[zp,zV];constructor
 .rintro⟨k,⟨h1,h2⟩,rfl⟩
  rcases yn (m.u k h1) with ⟨v,hv,rfl⟩ | ⟨v,hv,rfl⟩ | rfl | rfl
  .exact h1
  .exact absurd (show(("write":Æ)=="read")=Ã from h2) ⋯
  .exact absurd (show(("say":Æ)=="read")=Ã from h2) ⋯
  .exact absurd (show(("ask":Æ)=="read")=Ã from h2) ⋯
 .intro h
  exact⟨_,⟨h,show(("read":Æ)=="read")=Ã by decide +kernel⟩,rfl⟩
def Cu{M:List (List Æ)}(m:Mks M)(h:x∈ah "read" M):x∈six:=by
 rcases yn (m.u _ ((tH m).mp h)) with ⟨v,hv,e⟩ | ⟨v,hv,e⟩ | e | e
 .simp at e;rw[e];exact hv
 .simp at e;exact absurd e.1 ⋯
 .simp at e
 .simp at e
def JF:∀x∈six,è x=Ã/\dt 1 (.str x)=Ã:=by decide +kernel
noncomputable def Zy(A:List (List Æ)):List (List Æ):=A.filter λk=>hd k=="write" && zS (ah "read" A) (.str (sec k))
def D0{A:List (List Æ)}(a:Mks A):twice A=((Zy A).isEmpty&&(!A.contains [("say":Æ)] && !A.contains [("ask":Æ)])):=by
 have e:(A.any λk=>hd k=="write" && A.contains ["read",sec k]) = !(Zy A).isEmpty:=by
  rw[wF];unfold Zy;erw[vA,jZ,yM,zV,zy];have q:∀x:Æ,A.contains ["read",x]=Ã↔zS (ah "read" A) (.str x)=Ã:=λx=>by
   have:zS (ah "read" A) (.str x)=(ah "read" A).any (· == x):=rfl;rw[this,vA,List.contains_iff_mem];constructor
   .intro h
    exact⟨x,(tH a).mpr h,jk _⟩
   .rintro⟨y,h1,h2⟩
    rw[<-eq_of_beq h2];exact(tH a).mp h1
  erw[q]
 unfold twice;rw[e,Bool.not_not,Bool.not_or,Bool.and_comm]
def Dg{F:Fs}{R:W}{H:MH}
  (xa:∀h,zt z (.int i) h=À (A,h)) (e1:∀o11 o12 o13 o14,Fz (ρv s r d z n (À (.int i)) (À u) o7 o8 o9 o10 o11 o12 o13 o14) H=À (R,H)) (e2:∀o11 o13 o14,UY (ρv s r d z n (À (.int i)) (À u) o7 o8 o9 o10 o11 (À R) o13 o14) H=À (Y,H)) (tw:∀h,F.aQ [r,u] h=À (.bl c,h)) (ey:∀h,eqB h Y (.fls [])=À b1) (i1:∀h,inB h (tupS ["say"]) A=À b2) (i2:∀h,inB h (tupS ["ask"]) A=À b3) (hc:c=(b1&&(!b2 && !b3))) :
  OT F (ρv s r d z n (À (.int i)) (À u) o7 o8 o9 o10 o11 o12 o13 o14) H=À (.nx (ρv s r d z n (À (.int i)) (À u) o7 o8 o9 o10 (À (.bl c)) (À R) (À Y) (À (.bl c))),H):=by
 have c0:(0:Nat)<=cap:=by decide
 have c1:(1:Nat)<=cap:=by decide
 have t1:W.tup [.str "say"]=tupS ["say"]:=rfl;have t2:W.tup [.str "ask"]=tupS ["ask"]:=rfl;have ib:∀h,isW .bool (.bl c) h=À (.bl Ã,h):=λh=>rfl
 have eb:∀h,eqB h (.bl c) (.bl c)=À Ã:=λh=>by rw[sT];simp
 unfold OT;rw[zw (ρ':=ρv s r d z n (À (.int i)) (À u) o7 o8 o9 o10 o11 (À R) o13 o14) (h':=H) (by unfold zC;rw[e1];rfl)];rw[zw (ρ':=ρv s r d z n (À (.int i)) (À u) o7 o8 o9 o10 o11 (À R) (À Y) o14) (h':=H) (by unfold zC;rw[e2];rfl)];rw[zw (ρ':=ρv s r d z n (À (.int i)) (À u) o7 o8 o9 o10 (À (.bl c)) (À R) (À Y) o14) (h':=H) (by simp![tw])]
 rw[zw (ρ':=ρv s r d z n (À (.int i)) (À u) o7 o8 o9 o10 (À (.bl c)) (À R) (À Y) (À (.bl c))) (h':=H) (by
  subst hc
  cases b1<;>cases b2<;>cases b3<;>simp![kx,c0,ey,zv,c1,t1,t2,xa,i1,i2,truthy])]
 exact xA (by simp![ib,eb])
def Gd{ws:List W}{H:MH}(K:Kn G r z ws Bs)(hi:i<ws.length) :
  ∃Ez Hf Hg Hh,OT G (ρv s r d z n (À (.int (i:Int))) (À (ws.getD i .non)) o7 o8 o9 o10 o11 o12 o13 o14) H=À (.nx (ρv s r d z n (À (.int (i:Int))) (À (ws.getD i .non)) o7 o8 o9 o10 Ez Hf Hg Hh),H):=by
 have a:=K.hm i hi;have xa:=K.hx i hi;have tw:=K.ht i hi;generalize Bs.getD i []=A at a xa tw;generalize ws.getD i .non=u at tw;have it:∀o11 o12 o13 o14,kc (zh zt (zd 3) (zd 5)) (ρv s r d z n (À (.int (i:Int))) (À u) o7 o8 o9 o10 o11 o12 o13 o14) H=À (.items (A.map tupS),H):=λo11 o12 o13 o14=>by
  generalize A.map tupS=Z at xa ⊢;simp![kc,xa,srcOf]
 have ok:(ah "read" A).all è=Ã:=zZ.mpr λx hx=>(JF x (Cu a hx)).1
 refine⟨_,_,_,_,Dg (R:=.fls (zk (ah "read" A))) (Y:=.fls ((Zy A).map tupS)) xa (λo11 o12 o13 o14=>VU a.u a.l (.inl rfl) (it _ _ _ _) λw H'=>rfl) (λo11 o13 o14=>?_) tw (b1:=(Zy A).isEmpty) (λh=>?_) (λh=>xE ⋯ a) (λh=>xE ⋯ a) (D0 a)⟩
 .unfold UY
  refine(xh (l:=A.map tupS) (λy=>match vc y with | some k=>hd k=="write" && zS (ah "read" A) (.str (sec k)) | none=>Â) id (it _ _ _ _) ?_ ?_ ?_ ?_).trans ?_
  .intro y hy H'
   obtain⟨k,hk,rfl⟩:=zp.mp hy;erw[ky];have j0:=mr (a.u k hk) H';show vb _ _ [À (tupS k),À (.fls (zk (ah "read" A)))] H'=_
   cases e:(hd k=="write") with
   | false=>
    have e2:eqB H' (.str (hd k)) (.str "write")=À Â:=by rw[kr,e]
    generalize W.str (hd k)=q at j0 e2;generalize tupS k=Kk at j0 ⊢;generalize zk (ah "read" A)=Z;simp![j0,e2]
   | true=>
    have e2:eqB H' (.str (hd k)) (.str "write")=À Ã:=by rw[kr,e]
    have:∃v∈six,k=[("write":Æ),v]:=by
     rcases yn (a.u k hk) with ⟨v,hv,rfl⟩ | ⟨v,hv,rfl⟩ | rfl | rfl
     .exact absurd (show(("read":Æ)=="write")=Ã from e) ⋯
     .exact⟨v,hv,rfl⟩
     .exact absurd (show(("say":Æ)=="write")=Ã from e) ⋯
     .exact absurd (show(("ask":Æ)=="write")=Ã from e) ⋯
    obtain⟨v,hv,rfl⟩:=this;have j1:zt (tupS ["write",v]) (.int 1) H'=À (.str v,H'):=yA;have i1:inB H' (.str v) (.fls (zk (ah "read" A)))=À (zS (ah "read" A) (.str v)):=Wu (JF v hv).2 ∅ ok;rw[show sec [("write":Æ),v]=v from rfl,Bool.true_and];generalize zS (ah "read" A) (.str v)=c at i1 ⊢;generalize zk (ah "read" A)=Z at i1 ⊢;generalize W.str (hd [("write":Æ),v])=q at j0 e2;generalize tupS ["write",v]=Kk at j0 j1 ⊢;simp![j0,e2,j1,i1]
  .intro y _ _ H';rfl
  .intro y hy _
   obtain⟨k,hk,rfl⟩:=zp.mp hy;exact ab k
  .rw[zF];exact zz a.l (by decide)
  .have fe:((λy=>match vc y with | some k=>hd k=="write" && zS (ah "read" A) (.str (sec k)) | none=>Â)∘tupS)=λk=>hd k=="write" && zS (ah "read" A) (.str (sec k)):=funext λk=>by erw[æ,ky]
   rw[qx,fe,yd];rfl
 .unfold Zy
  rw[dU (n:=3) (Zm (zz (jb ..) (zz a.l ∅)) λk hk=>a.good (zV.mp hk).1) ∅];simp
theorem Zu{ws:List W}{H:MH}:u3 [zd 2] (ρv s r (.fls ws) z n o5 o6 o7 o8 o9 o10 o11 o12 o13 o14) H=À (.items ((Ô ws.length).map λ(j:Nat)=>.tup [.int (j:Int),ws.getD j .non]),H):=by
 rw[<-Bt];rfl
theorem rh{ws:List W}{h0:MH}(K:Kn G r z ws Bs)(lw:ws.length<=4):∀(is:List Nat) (P:List (Nat×Nat)) (o5 o6 o7 o8 o9 o10 o11 o12 o13 o14:Option W),(∀i∈is,i<ws.length)->P.length+4*is.length<=100->
  ∃p5 p6 p7 p8 p9 Ei Ez Hf Hg Hh,forL (vF [zl 5,zl 6]) (OB G) (is.map λ(j:Nat)=>.tup [.int (j:Int),ws.getD j .non]) (ρv s r (.fls ws) z h0.length o5 o6 o7 o8 o9 o10 o11 o12 o13 o14) (h0++[.lst (P.map pr)])=À (.nx (ρv s r (.fls ws) z h0.length p5 p6 p7 p8 p9 Ei Ez Hf Hg Hh),h0++[.lst ((P++is.flatMap (bp Bs ws.length)).map pr)])
 | [],P,o5,o6,o7,o8,o9,o10,o11,o12,o13,o14,_,_=>⟨o5,o6,o7,o8,o9,o10,o11,o12,o13,o14,by simp[forL]⟩
 | i::is,P,o5,o6,o7,o8,o9,o10,o11,o12,o13,o14,hi,hl=>by
  erw[zE] at hl;have i1:=hi i zr;have lc:(bp Bs ws.length i).length<=4:=by
   unfold bp;rw[zF];exact zz (jb ..) (by simp;omega)
  obtain⟨q7,q8,q9,Mz,Rx,g1⟩:=ZJ (s:=s) (d:=.fls ws) (h0:=h0) (o12:=o12) (o13:=o13) (o14:=o14) K i1 (Ô ws.length) P o7 o8 o9 o10 o11 (λj hj=>ju.mp hj) (by simp;omega);obtain⟨N9,Oa,Ob,Oc,g2⟩:=Gd (s:=s) (d:=.fls ws) (n:=h0.length) (H:=h0++[.lst ((P++bp Bs ws.length i).map pr)]) (o7:=q7) (o8:=q8) (o9:=q9) (o10:=Mz) (o11:=Rx) (o12:=o12) (o13:=o13) (o14:=o14) K i1;obtain⟨p5,p6,p7,p8,p9,Ei,Ez,Hf,Hg,Hh,g3⟩:=rh (s:=s) (h0:=h0) K lw is (P++bp Bs ws.length i) (À (.int (i:Int))) (À (ws.getD i .non)) q7 q8 q9 Mz N9 Oa Ob Oc (λj h=>hi j (zm _ h)) (by rw[zL];omega);refine⟨p5,p6,p7,p8,p9,Ei,Ez,Hf,Hg,Hh,?_⟩;have hg:vF [zl 5,zl 6] (.tup [.int (i:Int),ws.getD i .non]) (ρv s r (.fls ws) z h0.length o5 o6 o7 o8 o9 o10 o11 o12 o13 o14) (h0++[.lst (P.map pr)])=À (ρv s r (.fls ws) z h0.length (À (.int (i:Int))) (À (ws.getD i .non)) o7 o8 o9 o10 o11 o12 o13 o14,h0++[.lst (P.map pr)]):=rfl;have st:OB G (ρv s r (.fls ws) z h0.length (À (.int (i:Int))) (À (ws.getD i .non)) o7 o8 o9 o10 o11 o12 o13 o14) (h0++[.lst (P.map pr)])=À (.nx (ρv s r (.fls ws) z h0.length (À (.int (i:Int))) (À (ws.getD i .non)) q7 q8 q9 Mz N9 Oa Ob Oc),h0++[.lst ((P++bp Bs ws.length i).map pr)]):=by
   unfold OB;rw[zw (by unfold kK;rw[Zu];exact g1)];exact g2
  rw[zu];unfold forL;rw[hg];erw[st];rw[g3,List.flatMap_cons,qZ]
def X4{lp:MI}{F:Fs}{h:MH}{P:List (Nat×Nat)}(lP:P.length<=100)
  (e0:∀h,F.aN [s,.int 1] h=À (r,h)) (e1:c1 [À s,À r,Á,Á,Á,Á,Á,Á,Á,Á,Á,Á,Á,Á,Á] h=À (d,h)) (e2:c2 [À s,À r,À d,Á,Á,Á,Á,Á,Á,Á,Á,Á,Á,Á,Á] h=À (z,h))
  (it:lp (ρv s r d z h.length Á Á Á Á Á Á Á Á Á Á) (h++[.lst []])=À (.items l,h++[.lst []])) (g:forL (vF [zl 5,zl 6]) b l (ρv s r d z h.length Á Á Á Á Á Á Á Á Á Á) (h++[.lst []])=À (.nx (ρv s r d z h.length p5 p6 p7 p8 p9 Ei Ez Hf Hg Hh),h++[.lst (P.map pr)]))
  (am:∀h,F.aJ [r,d] h=À (.bl P.isEmpty,h)) (cg:∀h,F.aG [r,d] h=À (.fls (P.map pr),h)) :
  (zo (zC (ze F.aN [zd 0,OJ 1]) (zl 1)) (zo (zC c1 (zl 2)) (zo (zC c2 (zl 3)) (zo (zC (ze yY []) (zl 4)) (zo (kK lp (vF [zl 5,zl 6]) b)
  (zo (zC (ze F.aJ [zd 1,zd 2]) (zl 11))
  (ke (x5 (zh (kf Â) (ze F.aG [zd 1,zd 2]) (zd 4)) (x5 (vw (isW .bool) (zd 11)) (zh (kf Â) (zd 11) (zh (kf Â) (zd 4) (ze kx [])))))))))))) [À s,Á,Á,Á,Á,Á,Á,Á,Á,Á,Á,Á,Á,Á,Á] h=À (.ret (.bl Ã),h++[.lst (P.map pr)]):=by
 have c0:(0:Nat)<=cap:=by decide
 rw[zw (ρ':=[À s,À r,Á,Á,Á,Á,Á,Á,Á,Á,Á,Á,Á,Á,Á]) (h':=h) (by simp![e0])];rw[zw (ρ':=[À s,À r,À d,Á,Á,Á,Á,Á,Á,Á,Á,Á,Á,Á,Á]) (h':=h) (by unfold zC;rw[e1];rfl)];rw[zw (ρ':=[À s,À r,À d,À z,Á,Á,Á,Á,Á,Á,Á,Á,Á,Á,Á]) (h':=h) (by unfold zC;rw[e2];rfl)];rw[zw (ρ':=ρv s r d z h.length Á Á Á Á Á Á Á Á Á Á) (h':=h++[.lst []]) (by simp![yY,c0])];rw[zw (by unfold kK;rw[it];exact g)];have q1:=Df (H:=h++[.lst (P.map pr)]) (n:=h.length) ∅ (at_of _ _);have q2:=XJ (H:=h++[.lst (P.map pr)]) (n:=h.length) (P:=P) ∅ (at_of _ _);generalize h++[MO.lst (P.map pr)]=H2 at q1 q2 ⊢;generalize P.map pr=Y at q1 cg;generalize P.isEmpty=bb at q2 am;have ib:isW .bool (.bl bb) H2=À (.bl Ã,H2):=rfl;have eb:eqB H2 (.bl bb) (.bl bb)=À Ã:=by rw[sT];simp
 simp![am,cg,q1,ib,kx,c0,q2,eb,truthy]
def Ft{ns:List Int}(hl:ns.length<=63):(step (up 34 F)).cA [kP ns] h=À (.bl Ã,h):=by
 obtain⟨rl,hr,er⟩:=UT (F:=F) (ns:=ns) (m:=33) hl ∅;obtain⟨dw,hd⟩:=uQ λk:Nat=>XG (F:=F) (ns:=ns) (m:=33) (rl:=rl) (a:=90+31*(k:Int)) hl ∅ hr
 have tm:∀w:W,∃M,pl 6 w=Ã/\okd rl rl.length [] 3 w->Mks M/\(∀m,TOk (up (m+6) F) rl w M)/\∀m,30<=m->∀h,(up m F).aj [.tup rl,w] h=À (.fls (M.map tupS),h):=λw=>by
  by_cases q:pl 6 w=Ã/\okd rl rl.length [] 3 w
  .obtain⟨M,e⟩:=FX (F:=F) hr q.1 q.2
   exact⟨M,λ_=>e⟩
  .exact⟨[],λz=>absurd z q⟩
 obtain⟨mf,hm⟩:=uQ tm;have dr:=ku (ns:=ns) (k:=60) (many:=5) ∅;obtain⟨N,hN⟩:∃N:Nat,yk ns 60 5=(N:Int):=⟨(yk ns 60 5).toNat,by omega⟩;have lN:N<=4:=by omega
 have ed:∀h,(up 34 F).aa [kP ns,.int 60,.int 5] h=À (.int (N:Int),h):=λh=>by
  rw[<-hN];exact br (F:=up 32 F) hl ∅
 have Ay:∀w∈(Ô N).map dw,Mks (mf w)/\(∀m,TOk (up (m+6) F) rl w (mf w))/\∀m,30<=m->∀h,(up m F).aj [.tup rl,w] h=À (.fls ((mf w).map tupS),h):=λw hw=>by
  obtain⟨k,_,rfl⟩:=zp.mp hw;exact hm _ ⟨(hd k).1,(hd k).2.1⟩
 have el:∀(k:Nat) h,(up 34 F).aW [kP ns,.int (90+31*(k:Int)),.int 2,.tup rl] h=À (dw k,h):=λk=>(hd k).2.2
 have IH:∀h,(up 34 F).aN [kP ns,.int 1] h=À (.tup rl,h):=er;have lw:((Ô N).map dw).length=N:=by simp
 have Od:(Ô N).map dw=(upto N).map λz=>match z with | .int i=>dw i.toNat | _=>.non:=by
  unfold upto;rw[z9];rfl
 have Ry:∀k,low h.length (dw k)=Ã:=λk=>vE (wn (hd k).1)
 generalize (Ô N).map dw=ws at Ay lw Od;have at_:∀i,i<ws.length->ws.getD i .non∈ws/\(ws.map mf).getD i []=mf (ws.getD i .non):=λi hi=>by simp[ă,hi]
 have K:Kn (up 34 F) (.tup rl) (.fls (bw (ws.map mf))) ws (ws.map mf):=by
  refine⟨λi hi=>?_,λi hi h=>?_,λi j hi hj h=>?_,λi j hi hj h=>?_,λi j hi hj h=>?_,λi hi h=>?_⟩
  .rw[(at_ i hi).2];exact(Ay _ (at_ i hi).1).1
  .have Bo:Bod h (ws.map mf) (.fls (bw (ws.map mf))):=⟨rfl,λl=>nofun,λz=>nofun⟩
   have:=Bo.ix (i:=i) (by simpa using hi);rw[this];congr 4
   simp[ă,hi]
  .rw[(at_ i hi).2,(at_ j hj).2]
   exact Wx (F:=up 33 F) (Ay _ (at_ i hi).1).1 (Ay _ (at_ j hj).1).1
  .rw[(at_ i hi).2,(at_ j hj).2]
   exact Zj (F:=up 31 F) (Ay _ (at_ i hi).1).1 (Ay _ (at_ j hj).1).1 ((Ay _ (at_ i hi).1).2.1 27) ((Ay _ (at_ j hj).1).2.1 27) h
  .rw[(at_ i hi).2,(at_ j hj).2]
   exact DE (F:=up 33 F) (Zj (F:=up 30 F) (Ay _ (at_ i hi).1).1 (Ay _ (at_ j hj).1).1 ((Ay _ (at_ i hi).1).2.1 26) ((Ay _ (at_ j hj).1).2.1 26))
  .rw[(at_ i hi).2]
   exact Ub (F:=up 33 F) (Ay _ (at_ i hi).1).1 ((Ay _ (at_ i hi).1).2.1 27)
 have cg:∀h,(up 34 F).aG [.tup rl,.fls ws] h=À (.fls ((cps (ws.map mf) ws.length).map pr),h):=λh=>mx (F:=up 31 F) (λw hw=>(Ay w hw).1) (λw hw=>(Ay w hw).2.1 27) ∅
 have am:∀h,(up 34 F).aJ [.tup rl,.fls ws] h=À (.bl (cps (ws.map mf) ws.length).isEmpty,h):=λh=>D5 (F:=up 33 F) λh=>mx (F:=up 30 F) (λw hw=>(Ay w hw).1) (λw hw=>(Ay w hw).2.1 26) ∅
 have mk':∀w∈ws,∀h,(up 34 F).aj [.tup rl,w] h=À (.fls ((mf w).map tupS),h):=λw hw=>(Ay w hw).2.2 34 ∅
 generalize up 34 F=G at IH ed el K cg am mk';have lC:(cps (ws.map mf) ws.length).length<=100:=by
  have h1:∀i,(bp (ws.map mf) ws.length i).length<=4:=λi=>by
   unfold bp;rw[zF];exact zz (jb ..) (by simp;omega)
  unfold cps;rw[pH];have:∀l:List Nat,(l.map λa=>(bp (ws.map mf) ws.length a).length).sum<=4*l.length:=λl=>by
   induction l with
   | nil=>simp
   | cons a l ih=>have:=h1 a;simp;omega
  exact zz (this _) (by simp;omega)
 obtain⟨p5,p6,p7,p8,p9,Ei,Ez,Hf,Hg,Hh,g⟩:=rh (s:=kP ns) (h0:=h) K ∅ (Ô ws.length) [] Á Á Á Á Á Á Á Á Á Á (λi hi=>ju.mp hi) (by simp;omega);have c1:kq (yb [ze G.aa [zd 0,OJ 60,OJ 5]]) 1 [0,1] (zl 0) vn (ze G.aW [zd 1,zh addW (OJ 90) (zh ki (OJ 31) (zd 0)),OJ 2,zd 2]) [À (kP ns),À (.tup rl),Á,Á,Á,Á,Á,Á,Á,Á,Á,Á,Á,Á,Á] h=À (.fls ws,h):=by
  refine(xh (l:=upto N) (λ_=>Ã) (λz=>match z with | .int i=>dw i.toNat | _=>.non) ?_ ?_ ?_ ?_ ?_).trans ?_
  .have e3:uu [ze G.aa [zd 0,OJ 60,OJ 5]] [À (kP ns),À (.tup rl),Á,Á,Á,Á,Á,Á,Á,Á,Á,Á,Á,Á,Á] h=À ([.int (N:Int)],h):=by simp![ed]
   unfold yb;rw[i4 e3];exact Kz ∅ h
  .intro z _ H';rfl
  .intro z hz _ H'
   unfold upto at hz;obtain⟨k,hk,rfl⟩:=zp.mp hz;have e:=el k H';have Rz:small 31=Ã:=by decide
   have a1:∀h,ki (.int 31) (.int (k:Int)) h=À (.int (31*(k:Int)),h):=λh=>by simp[ki,Rz]
   have a2:∀h,addW (.int 90) (.int (31*(k:Int))) h=À (.int (90+31*(k:Int)),h):=λh=>by simp[addW,k8]
   have a3:(match W.int (k:Int) with | .int i=>dw i.toNat | _=>.non)=dw k:=rfl;rw[a3];generalize W.tup rl=R at e ⊢;generalize dw k=D at e ⊢;simp![a1,a2,e]
  .intro z hz _
   unfold upto at hz;obtain⟨k,hk,rfl⟩:=zp.mp hz;exact Ry k
  .unfold upto;rw[zF,vU];exact zz lN (by decide)
  .rw[filter_true,<-Od]
 have c2:kq (kc (zd 2)) 1 [1] (zl 0) vn (ze G.aj [zd 1,zd 0]) [À (kP ns),À (.tup rl),À (.fls ws),Á,Á,Á,Á,Á,Á,Á,Á,Á,Á,Á,Á] h=À (.fls (bw (ws.map mf)),h):=by
  refine(xh (l:=ws) (λ_=>Ã) (λw=>.fls ((mf w).map tupS)) ?_ ?_ ?_ ?_ ?_).trans ?_
  .simp![kc,srcOf]
  .intro z _ H';rfl
  .intro z hz _ H'
   have e:=mk' z hz H';generalize (mf z).map tupS=Z at e ⊢;simp![e]
  .intro z _ _;exact xw _
  .exact zz (show ws.length<=4 by omega) (by decide)
  .rw[filter_true]
   unfold bw;rw[z9];rfl
 refine qh (h':=h++[.lst ((cps (ws.map mf) ws.length).map pr)]) ?_ rfl (jH _ _);have row:=X4 (F:=G) lC IH c1 c2 Zu g am cg;have row:bU G [À (kP ns),Á,Á,Á,Á,Á,Á,Á,Á,Á,Á,Á,Á,Á,Á] h=À (.ret (.bl Ã),h++[.lst ((cps (ws.map mf) ws.length).map pr)]):=by
  rw[Y8];exact row
 erw[kS,zE,kI,kY,zu,ji,Ç,jr,kJ];erw[row]
theorem Yt:∀n,lv n=up n Fs.bot
 | 0=>rfl
 | n+1=>by show step (lv n)=step (up n Fs.bot);rw[Yt n]
def main(ns:List Int)(hl:ns.length<=63):∃h',(lv 200).cA [.fls (ns.map W.int)] []=À (.bl Ã,h'):=by
 refine⟨[],?_⟩;rw[Yt];exact Ft (F:=up 165 Fs.bot) hl
end K40
namespace K40
open PySem PySem.W PyProof.Rows ML
set_option maxHeartbeats 0 in
def txt{XP:(Æ->Option Ä)->Ò->Prop}{w:Ñ}{s₀:Å}{mg mb:Æ->Option Ä}{h:Ò}(G:Ground q ["FORMS"] [] XP w s₀ mg mb h):pU (eF (Kw h) mg) defs:=by
 repeat refine⟨by
  first
  | exact sv G RL (ML.hb1 λ_ _ _ _ _ _ _=>RL) rfl
  | exact sv G RL (ML.hb2 λ_ _ _ _ _ _ _ _=>RL) rfl
  | exact sv G RL (ML.hb3 λ_ _ _ _ _ _ _ _ _=>RL) rfl
  | exact sv G RL (ML.hb4 λ_ _ _ _ _ _ _ _ _ _=>RL) rfl
  | exact sv G RL (ML.hb5 λ_ _ _ _ _ _ _ _ _ _ _=>RL) rfl,?_⟩
 trivial
end K40
open PySem PySem.W PyProof.Rows ML
set_option maxRecDepth 100000 in
set_option maxHeartbeats 0 in
theorem PySem.Challenge.cw_shelfwork_k40_clashes_holds : PySem.Challenge.rw_shelfwork_k40_clashes.Holds := by
 refine holds_law K40.said λsaid=>?_
 refine holds_open (q:=K40.q) (loose:=["FORMS"]) (Xt:=λs=>xlAt K40.q [] s&&recOk [] s) (XP:=XL K40.q []) (Yf:=K40.H.obs) (Ya:=K40.H.val) (YP:=K40.H.says) (N:=8000) K40.left (Hook.of K40.H) (Hook.keeps K40.H) (λs e=>xl_of s (jm.mp e).1) XL.keeps rfl rfl rfl (λs e=>recFacts_of (jm.mp e).2) rfl said ⋯ ⟨rfl,rfl,rfl,rfl,rfl,by decide +kernel⟩ ?hw ?hc
 case hw=>w_witness2
 case hc=>
  exact ML.walk_lawE (l:=PySem.Challenge.rw_shelfwork_k40_clashes) (D:=K40.cW) (g:=(K40.lv 200).cA) (b:=K40.bU (K40.lv 199)) (Γ:=K40.rc (K40.lv 199)) (ds:=K40.defs) (y:="_law_script") (room:=199) (cons:=K40.consC) (tabs:=K40.tabsC) RL RL rfl rfl ⟨rfl,by decide,by decide⟩ rfl rfl (ML.hb1 λ_ _ _ _ _ _ _=>RL) RL rfl RL rfl K40.main (λw K mg base T c t z=>K40.lvl T c t z 199) λw s₀ mg mb h G=>⟨(K40.txt G).2.2.2.2.2.2.2.2.2.2.2.2.2.2.2.2.2.2.2.2.2.2.2.2.2.2.1,K40.txt G⟩

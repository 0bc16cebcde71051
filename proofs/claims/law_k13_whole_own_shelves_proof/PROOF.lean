import PyProof.Rows.All
import KE.KDictOf
import KE.KIsAll
import PySem.Challenge.RW_shelfwork_k13_whole_own_shelves
import KE.KItem
import KE.KRevIter
set_option compiler.extract_closed false
set_option Elab.async false
set_option linter.all false
set_option maxRecDepth 100000
set_option maxHeartbeats 1000000
open Option renaming some→À,none→Á,map_eq_some_iff→è,bind_eq_some_iff→ï
open Bool renaming false→Â,true→Ã
open PySem renaming Value→Ä,Shared→Å,Str→Ç,Addr→È,starEach→É,wpAny→Ê,Expr→Ë,model→Ì,Program→Í,sizeLine→Î,Heap→Ï,World→Ñ,compareOp→Ó,bootBuiltins→Ô,Around→Ö,mainGlobals→Ø,backTo→Ù,eval→Ú,sysModules→Ü,attributeBase→Ý,keywordEach→Þ,assignEach→ß,behindInMarks→à,foldedSetIterable→á,Scope→ã,binaryOp→ä,swapsWith→ì,Obj→î,backToKw→ô,DictEntry→ø,FuncData→ù,Builtin→û,holding→ü,Keyword→ý,wpAny_loadPart'→ÿ,pyNext→Ā,cLine→ā,Stmt→Ă,rawInt→ă,importedModules→Ĉ,Pos→Ċ,attributeErrorLeaves→č,codeAny→Ď,getattributeRaised→Ē,sliceBounds→ĕ,firstArgMember→ė,fastBuiltinOwn→Ę,typeLookup→ĝ,OsState→Ğ,NameKind→Ģ,assign→ĥ,letOwnedTupleGo→Ħ,getAttrByItsOwn→Ĩ,standAt→Ī,tupleKind→į,IsPart→Ĵ,boundAndCalled→Ļ,getItem→ľ,swapsWithSole→Ŀ,swappedStores→ŀ,pyIter→Ł,merged→ł,IsPair→ń,Operator→ŉ,call→Ŋ,callerA→ŋ,ClsRec→Ŏ,wpAny_notOrdered_dict→Ő,GenState→ő,wpAny_loadName_local→Œ,callWith→œ,field→Ŕ,treeTable→ŕ,PassesOwn→ŗ,lastMarks→Ř,getMethod→ř,valueAt→Ś,wpAny_loadName_cell→ś,seq_tuple_add→Ŝ,comprehension→ŝ,wpAny_handled→Ş,methodCallPos→ş,Comprehension→Š,findBy→Ţ,Within→Ŧ,wpAny_assign_Name→ŧ,CmpOp→Ũ,wpAny_sequenceKey→ŭ,seqIndex_neg→Ů,IsZip→Ű,wpAny_mkText→ű,PyData→Ų,getAttrBy→ų,seqIndex_of→ŵ,atKey→Ŷ,Env→ŷ,spliced→Ÿ,setItem→Ź,Params→ź,Paired→Ż,builtinsNs→ż,isTrue→Ž,wpAny_Name→ž,wpAny_load→ſ
open List renaming replicate→Æ,lookup→Ĕ,length→ģ,range→ı,foldl→ķ
open PySem.Builtin.SmallTypes renaming nextOf→Ð,ownedTupleIsFree→Õ,ownedTupleHandOut→Đ,newRecord→ĩ
open PySem.Value renaming ref→Ò,isStrOf→ç,none→ë,int→ě,str→Į,bool→İ,type→š,float→Ŵ
open PySem.W renaming keepIn→Û,emptyDict→â,findIn→é,fnOf→í,instObj→ñ,codeIn→Č,boot_heap→ę,boot_drawn→Ě,plainGet→Ĝ,openGood→ġ,KeysLit→ħ,boot_toks→ĭ,lookIn→Ĳ,kitOne→ĳ,methodObj→ļ,hasDictIn→Ľ,takerIn→ŏ,Ground→ţ,openEnds→Ť,openSeen→ť,isFn→ũ,plainOver→Ū,kitx_none→ū,kitx_bool→Ŭ
open PySem.Builtin.Tuple renaming tupleExact→å,tupleItemsOf→Ķ,tupleIsExact→ĸ,tupleTooMany→Ĺ
open PySem.Builtin.List renaming listTooLong→æ,listExtendWith→ö,listLengthHint→Ĭ,listFitsIndex→ĺ,listSameRef→ň,listItems→ō
open True renaming intro→ê
open PySem.PyData renaming canLayAll0→ð,eqv→ó,canLay0→Ą,keyHash→ċ,depthAll→đ,depth→Ė,eqvAll→Ġ,strOk→ī
open False renaming elim→ò
open PySem.Str renaming ofString→õ
open PySem.Obj renaming mapSeq→ú,mapFields→Ň,cls_mapFields→ů
open PySem.Builtin.Slice renaming slicePlaces→þ,sliceAdjust→ď,sliceApplied→ĵ
open PySem.Builtin.Dict renaming updateFrom→ą,addKeywords→Ņ,selfAndRest→ņ,pairItems→Ō
open Sum renaming inr→Ć,inl→Ŗ
open PySem.Heap renaming SameBut→ć,ExtBut→Ĥ
open ForInStep renaming yield→ĉ
open PySem.Builtin.Str renaming occurrences→ē
open PySem.NameKind renaming free→ğ,cell→Ń
def aRf(h:0=0:=by rfl):=h
def aDc(h:0=0:=by decide):=h
local macro_rules|`(↥$t)=>`(autoParam $t aRf._auto_1)
local macro_rules|`(⇑$t)=>`(autoParam $t aDc._auto_1)
local macro_rules
 |`(tactic|erw[$r,*]$[$l]?)=>do
  let a<-r.getElems.mapM λx=>let t:Lean.Term:=⟨x.raw[1]⟩;if x.raw[0].isNone then `(Lean.Parser.Tactic.simpLemma|$t:term) else `(Lean.Parser.Tactic.simpLemma|<-$t:term)
  `(tactic|simp only[$a,*]$[$l]?)
def SF{α:Sort _}{a b:α}(h:a=b:=by kernel_rfl):a=b:=h
abbrev S5:=PySem.W.Frag
def za:=@PySem.wpAny_bind
def zb:=@List.mem_cons
def zc:=@List.not_mem_nil
def zf:=@PySem.Heap.get?_push_of_some
def zg:=@è
def zj:=@Nat.le_refl
def zm:=@List.getElem?_cons_zero
def zp:=@List.length_cons
def zq:=@Bool.and_eq_true
def zr:=@PySem.wpAny_pure
def zu:=@ï
def zx:=@List.map_cons
def zy:=@List.getElem?_append_left
def zA:=@List.getElem?_cons_succ
def zB:=@PySem.Heap.lt_size
def zE:=@List.getElem?_eq_getElem
def zF:=@List.getElem?_append_right
def zG:=@List.getElem?_set_ne
def zH:=@List.getElem?_set_self
def zJ:=@List.size_toArray
def zK:=@Nat.le_trans
def zL:=@Nat.lt_of_lt_of_le
def zM:=@List.mem_cons_of_mem
def zN:=@PySem.Heap.get?_push_size
def zO:=@or_false
def zP:=@List.length_map
def zQ:=@List.length_append
def zR:=@List.prefix_refl
def zT:=@List.getElem?_eq_some_iff
def zU:=@List.mem_append
def zV:=@List.length_nil
def zW:=@Nat.ne_of_lt
def zX:=@Bool.false_ne_true
def zY:=@List.append_assoc
def zZ:=@Option.some.inj
def z9:=@if_pos
def kh:=@List.append_nil
def kj:=@List.mem_cons_self
def kE:=@if_true
def kI:=@if_neg
def kJ:=@List.nil_append
def kO:=@List.lookup_cons
def kW:=@List.all_eq_true
def kY:=@List.mem_append_right
def kZ:=@Ne.symm
def jb:=@List.getElem?_map
def jc:=@List.length_set
def jd:=@PySem.wpAny_holding
def je:=@if_false
def jf:=@List.mem_map
def jh:=@Bool.and_eq_true_iff
def ji:=@PySem.W.kia_one
def jj:=@PySem.wpAny_field
def jk:=@List.map_nil
def jl:=@List.cons_append
def jm:=@List.zip_cons_cons
def jn:=@List.prefix_append
def jo:=@PySem.wpAny_newObj_type
def jq:=@PySem.wpAny_callSpecial?_slot
def jr:=@PyProof.Rows.callWith_type1
def jt:=@Bool.false_eq_true
def ju:=@beq_eq_false_iff_ne
def jw:=@List.all_cons
def jx:=@List.mem_append_left
def jy:=@PySem.wpAny_call_entry
def jz:=@PySem.wpAny_Call_Name_kw
def jA:=@decide_eq_false
def jB:=@List.nodup_cons
def jC:=@List.mem_iff_getElem?
def jD:=@List.find?_cons
def jE:=@PyProof.Rows.slot_tuple_getitem
def jF:=@Nat.lt_irrefl
def jG:=@List.mem_of_getElem?
def jH:=@List.getElem?_eq_none_iff
def jJ:=@PySem.wpAny_seqItems
def jK:=@List.set_append_right
def jL:=@PySem.builtinLookup_eq_fast
def jM:=@List.length_eq_zero_iff
def jN:=@List.cons.injEq
def jO:=@PySem.Heap.get?_update_self
def jP:=@congrArg
def jQ:=@List.getElem?_eq_none
def jR:=@List.foldl_cons
def jT:=@PySem.wpAny_truthy_bool
def jU:=@PySem.wpAny_of_eq
def jV:=@Nat.lt_succ_self
def jW:=@List.eq_nil_of_length_eq_zero
def jX:=@decide_eq_true
def jY:=@PySem.wpAny_isInstance
def jZ:=@List.replicate_succ
def j0:=@List.length_reverse
def j4:=@PySem.wpAny_attempt
def j5:=@PySem.wpAny_typeOf
def j6:=@not_or
def j7:=@PySem.Heap.size_push
def j8:=@List.getD_eq_getElem?_getD
def j9:=@beq_iff_eq
def qb:=@Option.bind_some
def qd:=@PySem.wpAny_setField_rec
def qe:=@of_decide_eq_true
def qg:=@Option.isSome_iff_exists
def qi:=@List.length_zip
def qj:=@Int.toNat_natCast
def ql:=@Nat.ne_of_gt
def qm:=@List.getElem?_replicate
def qp:=@Int.eq_ofNat_of_zero_le
def qt:=@PySem.typeLookup_type
def qu:=@List.any_eq_true
def qw:=@PySem.F.slot_zip_next
def qx:=@PySem.Heap.SameBut.update
def qy:=@Nat.zero_le
def qz:=@List.length_replicate
def qC:=@PySem.wpAny_rule
def qD:=@PySem.wpAny_mono
def qF:=@Prod.mk.injEq
def qG:=@List.flatten_cons
def qH:=@PySem.Heap.get?_update_other
def qI:=@Bool.not_eq_true'
def qJ:=@PySem.Obj.data_mapFields
def qK:=@PySem.Calls.spliced_cons
def qL:=@List.mem_of_mem_drop
def qM:=@PySem.wpAny_passesOwn
def qN:=@Option.isNone_iff_eq_none
def qO:=@List.drop_eq_getElem_cons
def qP:=@List.length_take
def qQ:=@PySem.mem_of_lookup
def qR:=@Nat.sub_self
def qT:=@PySem.F.slot_tuple_iterator_next
def qU:=@PySem.Around.under_plainId
def qW:=@List.of_mem_zip
def qX:=@List.forIn_cons
def qY:=@Int.emod_lt_of_pos
def qZ:=@Array.find?_toList
def q8:=@List.reverse_cons
def q9:=@List.length_range
def vd:=@PySem.plainId_quiet
def vf:=@Nat.add_comm
def vg:=@List.map_map
def vh:=@List.length_drop
def vm:=@List.getElem_inj
def vo:=@PySem.wpAny_pyIter_list
def vp:=@PySem.sizeLine_eq
def vq:=@PySem.call_meets
def vA:=@PySem.Calls.spliced_nil
def vB:=@Nat.le_succ
def vC:=@List.mem_filter
def vD:=@List.map_append
def vG:=@Int.emod_nonneg
def vH:=@Bool.eq_iff_iff
def vI:=@Array.length_toList
def vJ:=@PySem.F.slot_tuple_mul
def vK:=@PySem.AutoSeq1.idx_int
def vL:=@PySem.W.callWith_K
def vM:=@Option.isSome_some
def vN:=@List.mem_singleton
def vO:=@Int.add_sub_cancel
def vP:=@PySem.Heap.get?_none_of_le
def vQ:=@List.nodup_nil
def vR:=@List.mem_of_find?_eq_some
def vU:=@PySem.wpAny_updateSeq
def vV:=@PySem.wpAny_specialOf
def vW:=@decide_eq_true_eq
def vX:=@PySem.codeAny_builtin
def vY:=@PySem.W.kitx_list
def vZ:=@PySem.F.args_tuple_add_2
def v6:=@Nat.lt_succ_of_lt
def v7:=@PySem.F.plainAttrs_list
def v8:=@PySem.F.entry_tuple_add
def v9:=@Nat.add_mul
def wg:=@List.any_cons
def wj:=@Option.join_some
def wu:=@List.filter_cons
def wz:=@PySem.wpAny_setField
def wD:=@PySem.isSubtype_type
def wF:=@PySem.F.slot_tuple_add
def wG:=@PySem.F.slot_dict_get
def wI:=@Nat.le_of_lt
def wJ:=@PySem.F.slot_list_getattribute
def wK:=@PySem.F.args_zip_next_1
def wL:=@PySem.wpAny_throw
def wM:=@Nat.mul_le_mul_right
def wQ:=@PySem.F.slot_zip_getattribute
def wU:=@List.forIn_nil
def wV:=@List.drop_zero
def wX:=@PySem.F.entry_zip_next
def wY:=@PySem.W.plainGet_of
def wZ:=@List.filterMap_cons
def yc:=@PySem.Calls.callWith_builtin
def yd:=@PySem.wpAny_execs_nil
def ye:=@PySem.PassesOwn.never
def yf:=@PySem.Obj.isFreed_of_fields
def yg:=@PySem.F.slot_int_rmul
def yh:=@PySem.wpAny_updateSeq_pair
def yj:=@PySem.W.kitx_dict
def ym:=@List.nodup_append
def yo:=@PySem.F.plain_reversed_new
def yp:=@PyProof.Rows.tupleItemsOf_
def yq:=@PySem.callType_codes
def yr:=@List.take_length
def yt:=@List.drop_length
def yu:=@PySem.wpAny_standAt
def yw:=@PySem.wpAny_pyIter_tuple
def yx:=@PySem.wpAny_onRaise
def yz:=@PySem.tupleKind_room_in1
def yC:=@Sum.inr.inj
def yD:=@Prod.mk.inj
def yE:=@Option.map_some
def yF:=@List.lookup_nil
def yG:=@PySem.F.args_tuple_mul_2
def yH:=@Array.getElem?_eq_some_iff
def yI:=@PySem.typeIs_int
def yJ:=@PySem.strKind_is
def yK:=@PySem.F.plain_extend_loop
def yL:=@List.mem_range
def yM:=@PySem.F.entry_tuple_mul
def yN:=@PySem.concat_meets
def yO:=@PySem.codeAny_mono
def yP:=@PySem.wpAny_pyIter_zip
def yQ:=@PySem.noFill_tuple_add
def yR:=@PySem.F.args_dict_get_3
def yS:=@Nat.add_sub_cancel_left
def yU:=@List.sum_cons
def yV:=@PySem.W.cellsFrom_some
def yW:=@PySem.F.entry_dict_get
def yX:=@List.take_of_length_le
def yZ:=@List.drop_of_length_le
def xf:=@PySem.F.args_tuple_iterator_next_1
def xg:=@PySem.wpAny_letGo
def xj:=@PySem.W.methodCall_KW
def xm:=@Nat.mul_comm
def xn:=@List.set_set
def xq:=@List.all_map
def xr:=@PySem.Heap.DictOf.new
def xu:=@PySem.F.entry_tuple_iterator_next
def xx:=@Array.getElem?_toList
def xF:=@PySem.Calls.Name_function_global
def xG:=@Array.mem_toList_iff
def xH:=@PySem.wpAny_dictSetHashed_pairs
def xJ:=@PySem.wpAny_binaryOp_repeat_ref
def xK:=@PySem.isSubtype_stop
def xM:=@PySem.W.callWith_K0
def xN:=@Int.toNat_of_nonneg
def xO:=@Bool.or_eq_true_iff
def xP:=@PySem.Walks.list
def xQ:=@PySem.W.kitx_tuple
def xR:=@Option.isNone_none
def xT:=@List.mem_filterMap
def xU:=@PySem.AutoSeq1.sub_tuple_tuple
def xV:=@Array.forIn_toList
local macro_rules|`(⋯)=>`(by decide +kernel)
local macro_rules|`(∅)=>`(by omega)
namespace ML
open PySem PySem.W PyProof.Rows
inductive Cn where
 | int (i:Int) | str (x:Ç) | tup (l:List Cn)
noncomputable def rZ(h:Ï)(v:Ä):Option (Array Ä):=match v with
 | .ref a=>(h.get? a).bind λo=>match o.cls with
  | .type t=>if t="tuple" then (match o.data with | .seq cb _=>if o.dict.isNone then À cb else Á | _=>Á) else Á
  | _=>Á
 | _=>Á
noncomputable def isI(i:Int)(v:Ä):Bool:=match v with | .int j _=>i==j | _=>Â
noncomputable def VI(x:Ç)(v:Ä):Bool:=match v with | .str y _=>x==y | _=>Â
noncomputable def bg{α β:Type}(p:α->β->Bool):List α->List β->Bool
 | [],[]=>Ã
 | a::l,b::r=>p a b&&bg p l r
 | _,_=>Â
noncomputable def gx(h:Ï):Nat->Cn->Ä->Bool
 | 0,_,_=>Â
 | n+1,w,v=>match w with
  | .int i=>isI i v
  | .str x=>VI x v
  | .tup l=>(rZ h v).any λcb=>decide (cb.size<=Î)&&bg (gx h n) l cb.toList
noncomputable def dictAt(h:Ï)(v:Ä):Option (Array ø):=match v with
 | .ref a=>(h.get? a).bind λo=>match o.cls with
  | .type t=>if t="dict" then (match o.data with | .dict es _=>if o.dict.isNone&&o.slots.isEmpty&&a != Ü then À es else Á | _=>Á) else Á
  | _=>Á
 | _=>Á
noncomputable def Wh(h:Ï)(l:List (Ç×Cn))(v:Option Ä):Bool×List Int:=match v.bind (dictAt h) with
 | some es=>(bg (λp (e:ø)=>VI p.1 e.key&&gx h 9 p.2 e.val) l es.toList,es.toList.map (·.hash))
 | none=>(Â,[])
noncomputable def oP(cons:List (Ç×Cn))(bins:List Ç)(h:Ï):Bool:=h.isNs Ø&&cons.all (λp=>(h.nsMap Ø p.1).any λv=>gx h 9 p.2 v)&&bins.all λx=>(h.nsMap Ø x).isNone
noncomputable def Zw(tabs:List (Ç×List (Ç×Cn)))(h:Ï):List (Bool×List Int):=tabs.map λp=>Wh h p.2 (h.nsMap Ø p.1)
noncomputable def nE(tabs:List (Ç×List (Ç×Cn)))(w:Ñ):List (Bool×List Int):=tabs.map λp=>(Ã,p.2.map λk=>ċ w.params k.1)
noncomputable def GC(cons:List (Ç×Cn))(tabs:List (Ç×List (Ç×Cn)))(bins:List Ç):PySem.W.Hook:=
 ⟨Bool×List (Bool×List Int),λs=>(oP cons bins s.heap,Zw tabs s.heap),λw=>(Ã,nE tabs w),
  λw h=>∃h₀:Ï,(∀b o,h₀.get? b=À o->h.get? b=À o)/\oP cons bins h₀=Ã/\Zw tabs h₀=nE tabs w,
  λw s e=>⟨s.heap,λ_ _ z=>z,jP Prod.fst e,jP Prod.snd e⟩,λw h h' ⟨h₀,a,b⟩ k=>⟨h₀,λ_ _ z=>k _ _ (a _ _ z),b⟩⟩
def Bd{p q:Í}{loose:List Ç}{Xt:Å->Bool}{α:Type}{Yf:Å->α}{Ya:Ñ->α}{N:Nat}{g0:Bool}(row:String)
  (hf:∀w:Ñ,(Ť ŕ p (w.withFollow row Â) N).map (λs=>(ť q loose (Ĉ p.main.body) Xt g0 s,Yf s))=À (ġ q loose,Ya (w.withFollow row Â)))
  (ht:∀w:Ñ,(Ť ŕ p (w.withFollow row Ã) N).map (λs=>(ť q loose (Ĉ p.main.body) Xt g0 s,Yf s))=À (ġ q loose,Ya (w.withFollow row Ã))):LeftO p q loose Xt Yf Ya N g0:=
 byRow2 row (P:=λw=>(Ť ŕ p w N).map (λs=>(ť q loose (Ĉ p.main.body) Xt g0 s,Yf s))=À (ġ q loose,Ya w)) hf ht
noncomputable def YD(h:Ï)(x:Ç)(v:Ä):Bool:=match v,h.nsMap Ø x with
 | .ref a,À (.ref b)=>a==b
 | _,_=>Â
noncomputable def Yn(h:Ï)(l:List (Ç×Ç))(v:Option Ä):Bool×List Int:=match v.bind (dictAt h) with
 | some es=>(bg (λp (e:ø)=>VI p.1 e.key&&YD h p.2 e.val) l es.toList,es.toList.map (·.hash))
 | none=>(Â,[])
noncomputable def Ys(ways:List (Ç×List (Ç×Ç)))(h:Ï):List (Bool×List Int):=ways.map λp=>Yn h p.2 (h.nsMap Ø p.1)
noncomputable def goodW(ways:List (Ç×List (Ç×Ç)))(w:Ñ):List (Bool×List Int):=ways.map λp=>(Ã,p.2.map λk=>ċ w.params k.1)
noncomputable def XB(cons:List (Ç×Cn))(tabs:List (Ç×List (Ç×Cn)))(bins:List Ç)(ways:List (Ç×List (Ç×Ç))):PySem.W.Hook:=
 ⟨(Bool×List (Bool×List Int))×List (Bool×List Int),λs=>((oP cons bins s.heap,Zw tabs s.heap),Ys ways s.heap),λw=>((Ã,nE tabs w),goodW ways w),
  λw h=>∃h₀:Ï,(∀b o,h₀.get? b=À o->h.get? b=À o)/\oP cons bins h₀=Ã/\Zw tabs h₀=nE tabs w/\Ys ways h₀=goodW ways w,
  λw s e=>⟨s.heap,λ_ _ z=>z,jP (·.1.1) e,jP (·.1.2) e,jP (·.2) e⟩,λw h h' ⟨h₀,a,b⟩ k=>⟨h₀,λ_ _ z=>k _ _ (a _ _ z),b⟩⟩
noncomputable def Xe(tb:String->Option û)(p:Í)(w:Ñ)(AZ:Nat)(ann:Option Ä):Nat->SharedT->Thread->Option SharedT
 | 0,_,_=>Á
 | n+1,s,t=>match through t with
  | true=>À s
  | false=>match stepOk AZ ann t with
   | false=>Á
   | true=>match stepT (denote tb) p w s t with
    | some (s',t')=>Xe tb p w AZ ann n s' t'
    | none=>Á
def Yk{tb:String->Option û}{p:Í}{w:Ñ}{AZ:Nat}{ann:Option Ä}(n:Nat):∀{s s':SharedT} {t:Thread},Xe tb p w AZ ann n s t=À s'->topRun tb p w AZ ann n s.abs t=À s'.abs:=by
 induction n with
 | zero=>intro _ _ _ h;cases h
 | succ n ih=>
  intro s s' t h;unfold Xe at h;unfold topRun;cases he:through t with
  | true=>rw[he] at h;cases h;rfl
  | false=>
   rw[he] at h;cases hk:stepOk AZ ann t with
   | false=>rw[hk] at h;cases h
   | true=>
    rw[hk] at h;cases hs:stepT (denote tb) p w s t with
    | none=>rw[hs] at h;cases h
    | some r=>rw[hs] at h;rw[stepT_spec hs];exact ih h
noncomputable def treeOf:List î->Nat->BT->BT
 | [],_,t=>t
 | o::l,n,t=>treeOf l (n+1) (t.ins n o)
noncomputable def Xs(H:Ï)(d:Drawn)(k:Nat)(os:Ğ):SharedT:=⟨treeOf H.objs.toList 0 .nil,H.objs.size,H.life,Array.mk [],d,k,os⟩
noncomputable def Xp(p q:Í)(loose:List Ç)(H:Ï)(hG:Å):=
 (staticsOk (Ĉ p.main.body) H hG.heap&&namesBound p hG.heap&&gensDone hG&&laidKept H hG.heap,ť q loose (Ĉ p.main.body) (λs=>xlAt q [] s&&recOk [] s) Ã hG)
noncomputable def JY{α:Type}(p q:Í)(loose:List Ç)(obs:Å->α)(H:Ï)(d:Drawn)(k:Nat)(w:Ñ)(os:Ğ):=
 (Xe ŕ p w H.objs.size (H.nsMap Ø "__annotations__") 8000 (Xs H d k os) (topStub p)).map λs=>(Xp p q loose H s.abs,obs s.abs)
theorem D7:@JY=@JY:=rfl
lay_quick JY
name_quick runBQ for JY by D7
theorem boot_abs(P:ź)(os:Ğ):(Xs (ę P) Ě ĭ os).abs=⟨ę P,Array.mk [],Ě,ĭ,os⟩:=by kernel_rfl
theorem BA(P:ź):((ę P).isNs Ø&&(Array.mk []:Array ő).size==0)=Ã:=by kernel_rfl
def Uw{p q:Í}{loose:List Ç}{h:Hook}(row:String)(e:opening p=plainProg p.main.scope.names)(f:∀s,fenceModules? p s=À s)
  (hf:∀(w:Ñ) (os:Ğ),PySem.W.Fast.runBQ p q loose h.obs (ę (w.withFollow row Â).params) Ě ĭ (w.withFollow row Â) os=À ((Ã,ġ q loose),h.val (w.withFollow row Â)))
  (ht:∀(w:Ñ) (os:Ğ),PySem.W.Fast.runBQ p q loose h.obs (ę (w.withFollow row Ã).params) Ě ĭ (w.withFollow row Ã) os=À ((Ã,ġ q loose),h.val (w.withFollow row Ã))) :
  LeftO p q loose (λs=>xlAt q [] s&&recOk [] s) h.obs h.val 8000:=by
 have k:∀(b:Bool) (w:Ñ),(∀os:Ğ,PySem.W.Fast.runBQ p q loose h.obs (ę (w.withFollow row b).params) Ě ĭ (w.withFollow row b) os=À ((Ã,ġ q loose),h.val (w.withFollow row b)))->(Ť ŕ p (w.withFollow row b) 8000).map (λs=>(ť q loose (Ĉ p.main.body) (λs=>xlAt q [] s&&recOk [] s) Ã s,h.obs s))=À (ġ q loose,h.val (w.withFollow row b)):=λb w r=>by
  rw[<-PySem.W.Fast.runBQ_eq] at r;generalize w.withFollow row b=w at r ⊢;obtain⟨⟨H,g,d,k,os⟩,hs,hv⟩:=zg.mp (boot_open (N:=8000) e rfl f w);erw[qF] at hv;obtain⟨rfl,rfl,rfl,rfl⟩:=hv;obtain⟨s,h1,h2⟩:=zg.mp (r os);have h3:=Yk _ h1;rw[boot_abs] at h3;erw[Xp,qF] at h2;obtain⟨⟨h4,h5⟩,h6⟩:=h2;unfold Ť topFrom;rw[hs];erw[qb];rw[BA];erw[h3,qb];rw[h4];exact jP À (Prod.ext h5 h6)
 exact Bd row (λw=>k Â w (hf w)) λw=>k Ã w (ht w)
end ML
namespace K13
open PySem PySem.W PyProof.Rows ML
def pw:Í:=PySem.Challenge.pw_shelfwork_k13_whole_own_shelves
def isNm(x:String):Ë->Bool | .Name y ..=>y==x | _=>Â
def drops:Ă->Bool
 | .Assign [t] ..=>isNm "FORMS" t||isNm "WAYS" t||isNm "__name__" t
 | _=>Â
def q:Í:={ pw with main:={ pw.main with body:=pw.main.body.filter λs=>!drops s } }
def XW:List (Ç×Cn):=[("SHELVES",(.tup [.str "a",.str "b",.str "c",.str "d"])),("MOST_WORTH",(.int 1008)),("MOST_FIGURES",(.int 3)),("MODULUS",(.int 1009)),("LOOP_MODULUS",(.int 4)),("MOST_DEEDS",(.int 60))]
def tabsC:List (Ç×List (Ç×Cn)):=[("FORMS",[("number",(.tup [.int 2,.int 2])),("name",(.tup [.int 2,.int 2])),("read",(.tup [.int 2,.int 2])),("write",(.tup [.int 3,.int 2])),("add",(.tup [.int 3,.int 1])),("less",(.tup [.int 3,.int 1])),("then",(.tup [.int 3,.int 1])),("if",(.tup [.int 4,.int 1])),("loop",(.tup [.int 3,.int 1])),("let",(.tup [.int 4,.int 2])),("own",(.tup [.int 4,.int 2])),("say",(.tup [.int 2,.int 1])),("ask",(.tup [.int 1,.int 1])),("do",(.tup [.int 2,.int 2])),("call",(.tup [.int 4,.int 2]))])]
def G3:List Ç:=["all","bool","dict","int","isinstance","len","list","range","reversed","str","sum","tuple","zip"]
def Gw:List (Ç×List (Ç×Ç)):=[("WAYS",[("number","do_number"),("name","do_name"),("read","do_read"),("write","do_write"),("add","do_add"),("less","do_less"),("then","do_then"),("if","do_if"),("loop","do_loop"),("let","do_let"),("own","do_own"),("say","do_say"),("ask","do_ask"),("do","do_handed"),("call","do_call")])]
noncomputable def H:Hook:=XB XW tabsC G3 Gw
set_option maxHeartbeats 0 in
theorem said:PySem.Challenge.rw_shelfwork_k13_whole_own_shelves.wellSaid=Ã:=by kernel_rfl
set_option maxHeartbeats 0 in
theorem leftF(w:Ñ)(os:Ğ):PySem.W.Fast.runBQ pw q ["FORMS","WAYS"] H.obs (ę (w.withFollow "special-get-raises" Â).params) Ě ĭ (w.withFollow "special-get-raises" Â) os=À ((Ã,ġ q ["FORMS","WAYS"]),H.val (w.withFollow "special-get-raises" Â)):=by kernel_rfl
set_option maxHeartbeats 0 in
theorem leftT(w:Ñ)(os:Ğ):PySem.W.Fast.runBQ pw q ["FORMS","WAYS"] H.obs (ę (w.withFollow "special-get-raises" Ã).params) Ě ĭ (w.withFollow "special-get-raises" Ã) os=À ((Ã,ġ q ["FORMS","WAYS"]),H.val (w.withFollow "special-get-raises" Ã)):=by kernel_rfl
set_option maxHeartbeats 0 in
def left:LeftO pw q ["FORMS","WAYS"] (λs=>xlAt q [] s&&recOk [] s) H.obs H.val 8000:=Uw "special-get-raises" SF (λs=>SF) leftF leftT
end K13
section
namespace L2
open PySem PySem.Spec PyProof.Rows
abbrev Key:=Sum Int Ç
def lW:Key->Ä->Bool
 | .inl k,v=>Value.isInt k v
 | .inr x,v=>ç x v
def HN(w:Ñ):Key->Int
 | .inl k=>hashInt k
 | .inr x=>hashStr w x
def we:∀{k:Key} {v:Ä},lW k v=Ã->(∃i t,k=Ŗ i/\v=ě i t)\/(∃x t,k=Ć x/\v=Į x t)
 | .inl i,v,h=>by
  obtain⟨t,e⟩:=Value.isInt_shape (k:=i) (v:=v) h;exact .inl ⟨i,t,rfl,e⟩
 | .inr x,v,h=>by
  obtain⟨t,e⟩:=Value.isStrOf_shape (x:=x) (v:=v) h;exact .inr ⟨x,t,rfl,e⟩
def Vb(i:Int)(t:Tok):lW (.inl i) (.int i t)=Ã:=by simp[lW,Value.isInt]
def Vn(x:Ç)(t:Tok):lW (.inr x) (.str x t)=Ã:=by simp[lW,ç]
def FG(a b:Int):decide ((Ŗ a:Key)=Ŗ b)=(a==b):=by
 by_cases e:a=b
 .subst e;simp
 .have h:¬(Ŗ a:Key)=Ŗ b:=λq=>e (Sum.inl.inj q)
  rw[jA h];exact(ju.mpr e).symm
def Ds(a b:Ç):decide ((Ć a:Key)=Ć b)=decide (a=b):=by
 by_cases e:a=b
 .subst e;simp
 .have h:¬(Ć a:Key)=Ć b:=λq=>e (yC q)
  rw[jA h,jA e]
def Cp(a:Int)(b:Ç):decide ((Ŗ a:Key)=Ć b)=Â:=jA (λq=>nomatch q)
def DK(a:Ç)(b:Int):decide ((Ć a:Key)=Ŗ b)=Â:=jA (λq=>nomatch q)
def qr(prog:Í)(w:Ñ):PySem.KeyKind prog w Key where
 is:=lW
 hash:=HN w
 inj:=λv a b ha hb=>by
  rcases we ha with ⟨i,t,rfl,rfl⟩ | ⟨x,t,rfl,rfl⟩
  .rcases we hb with ⟨j,u,rfl,e⟩ | ⟨y,u,rfl,e⟩
   .injection e with e1 _;rw[e1]
   .exact nomatch e
  .rcases we hb with ⟨j,u,rfl,e⟩ | ⟨y,u,rfl,e⟩
   .exact nomatch e
   .injection e with e1 _;rw[e1]
 byValue:=λk v h=>by
  rcases we h with ⟨i,t,rfl,rfl⟩ | ⟨x,t,rfl,rfl⟩<;>rfl
 pyHash:=λhv h=>by
  rcases we hv with ⟨i,t,rfl,rfl⟩ | ⟨x,t,rfl,rfl⟩
  .exact wpAny_pyHash_int h
  .exact wpAny_pyHash_str h
 eqBool:=λhu hv h=>by
  rcases we hu with ⟨i,t,rfl,rfl⟩ | ⟨x,t,rfl,rfl⟩
  .rcases we hv with ⟨j,u,rfl,rfl⟩ | ⟨y,u,rfl,rfl⟩
   .rw[FG] at h;exact wpAny_eqBool_int h
   .rw[Cp] at h;exact SeqAt.EqAt.int_str i t y u _ _ _ _ h
  .rcases we hv with ⟨j,u,rfl,rfl⟩ | ⟨y,u,rfl,rfl⟩
   .rw[DK] at h;exact SeqAt.EqAt.str_int x t j u _ _ _ _ h
   .rw[Ds] at h;exact wpAny_eqBool_str h
 «strs»:=λk x t v h=>by
  rcases we h with ⟨i,u,rfl,e⟩ | ⟨y,u,rfl,e⟩
  .exact nomatch e
  .injection e with e1 _
   subst e1;cases v<;>rfl
def ZY(prog:Í)(w:Ñ)(i:Int)(t:Tok):(qr prog w).is (.inl i) (.int i t)=Ã:=Vb i t
def ZZ(prog:Í)(w:Ñ)(x:Ç)(t:Tok):(qr prog w).is (.inr x) (.str x t)=Ã:=Vn x t
end L2
namespace L2
open PySem PySem.Spec PyProof.Rows
inductive V where
 | non | bl (b:Bool) | int (i:Int) | str (x:Ç) | byt (b:Array UInt8) | flt (b:UInt64) | ref (a:È) | ty (n:String)
 deriving DecidableEq
def RelV:V->Ä->Prop
 | .non,u=>u=ë
 | .bl b,u=>u=İ b
 | .int i,u=>∃t,u=ě i t
 | .str x,u=>∃t,u=Į x t
 | .byt b,u=>∃t,u=Value.bytes b t
 | .flt b,u=>∃t,u=Ŵ b t
 | .ref a,u=>u=Ò a
 | .ty n,u=>u=š n
abbrev Vals:List V->List Ä->Prop:=Ż RelV
theorem Vals.length{xs:List V}{us:List Ä}(r:Vals xs us):xs.length=us.length:=Paired.length r
theorem Vals.get:∀{xs:List V} {us:List Ä} {i:Nat} {x:V},Vals xs us->xs[i]?=À x->∃u,us[i]?=À u/\RelV x u
 | _,_,_,_,.nil,e=>by simp at e
 | _,_,0,_,.cons r _,e=>by simp at e;subst e;exact⟨_,rfl,r⟩
 | _,_,i+1,x,.cons _ t,e=>by
  obtain⟨u,h1,h2⟩:=Vals.get (i:=i) (x:=x) t (by simpa using e);exact⟨u,by simpa using h1,h2⟩
theorem Vals.set{x:V}{u:Ä}(r:RelV x u):∀{xs:List V} {us:List Ä} (i:Nat),Vals xs us->Vals (xs.set i x) (us.set i u)
 | _,_,_,.nil=>.nil
 | _,_,0,.cons _ t=>.cons r t
 | _,_,i+1,.cons q t=>.cons q (Vals.set r i t)
def Vals.append{xs ys:List V}{us ws:List Ä}(h:Vals xs us)(s:Vals ys ws):Vals (xs++ys) (us++ws):=by
 induction h with
 | nil=>exact s
 | cons r t ih=>exact .cons r ih
theorem Vals.take:∀{xs:List V} {us:List Ä} (n:Nat),Vals xs us->Vals (xs.take n) (us.take n)
 | _,_,0,_=>.nil
 | _,_,_+1,.nil=>.nil
 | _,_,n+1,.cons r t=>.cons r (Vals.take n t)
theorem Vals.drop:∀{xs:List V} {us:List Ä} (n:Nat),Vals xs us->Vals (xs.drop n) (us.drop n)
 | _,_,0,r=>r
 | _,_,_+1,.nil=>.nil
 | _,_,n+1,.cons _ t=>Vals.drop n t
def RelO:Option V->Option Ä->Prop
 | some v,À u=>RelV v u
 | none,Á=>True
 | _,_=>False
def KV{κ:Type}:List (κ×V)->List (κ×Ä)->Prop:=Ż λ(p:κ×V) (q:κ×Ä)=>p.1=q.1/\RelV p.2 q.2
def kV:Key->V
 | .inl i=>.int i
 | .inr x=>.str x
inductive HO where
 | lst (xs:List V)
 | tup (xs:List V)
 | dK (d6:List (Key×V)) | dT (d6:List (List Key×V))
 | set (S:Int->Bool) (n:Nat)
 | ins (C dx:È) (fs:List (Ç×V))
 | own (x:È)
 | xd (fs:List (Ç×V))
 | met (f x:È)
 | rng (lo hi:Int)
 | frz (o:î) (u:HO)
 | tbl (ps:Array Ä)
 | ext (φ:Ï->Prop)
abbrev Hp:=È->Option HO
def upd(H:Hp)(a:È)(o:HO):Hp:=λb=>if b=a then À o else H b
def qo{H:Hp}{a:È}{o:HO}:upd H a o a=À o:=by unfold upd;rw[z9 rfl]
def kQ{H:Hp}{a b:È}{o:HO}(h:b≠a):upd H a o b=H b:=by unfold upd;rw[kI h]
def GE{H:Hp}{a b:È}{o u:HO}(h:H a=À o)(h':H b=À u)(d:o≠u):a≠b:=by
 intro e;subst e;rw[h] at h';exact d (zZ h')
def qq{H:Hp}{a b:È}{o:HO}(h:H a=À o)(h':H b=Á):a≠b:=by
 intro e;subst e;rw[h] at h';cases h'
def NoDi(h:Ï)(a:È):Prop:=∃o,h.get? a=À o/\o.dict=Á
def NoDi.new(h:Ï)(o:î)(n:↥(o.dict=Á))(f:↥(o.isFreed=Â)):NoDi (h.push o) h.objs.size:=⟨o,zN _ f,n⟩
section
variable(P:Í)(w:Ñ)
def ObjOk(H:Hp)(h:Ï)(a:È):HO->Prop
 | .lst xs=>xs.length<=Î/\∃(cb:List Ä) (n:Nat),Vals xs cb/\h.get? a=À { cls:=.type "list",data:=.seq cb.toArray n }
 | .tup xs=>xs.length<=Î/\∃cb:List Ä,Vals xs cb/\IsTup h a cb.toArray/\NoDi h a
 | .dK d6=>d6.length<=Î/\(a==Ü)=Â/\∃vs,KV d6 vs/\h.DictOf (qr P w) a vs
 | .dT d6=>d6.length<=Î/\(a==Ü)=Â/\∃xs:List (List Key×È×Ä),
   Ż (λ(p:List Key×V) (q:List Key×È×Ä)=>p.1=q.1/\H q.2.1=À (.tup (p.1.map kV))/\RelV p.2 q.2.2) d6 xs /\
   ∃o es ep,h.get? a=À o/\o.ExactDict/\o.data=.dict es ep/\es.toList=xs.map (entryOfKey (į (qr P w)))/\(xs.map (·.1)).Nodup
 | .set S n=>h.SetOf (intKind P w) a S n
 | .ins C dx fs=>H dx=À (.own a)/\fs.length<=1000/\dx≠a/\h.get? a=À (ñ C dx) /\
   ∃mA,h.Ns1 dx mA/\(∀f,RelO (fs.lookup f) (mA f))/\Ŧ mA (fs.map (·.1))
 | .own _=>∃o,h.get? a=À o
 | .xd fs=>∃mA,h.Ns1 a mA/\∀f,RelO (fs.lookup f) (mA f)
 | .rng lo hi=>∃t u v,h.get? a=À { cls:=.type "range",data:=.fields #[.int lo t,.int hi u,.int 1 v] }
 | .frz o u=>h.get? a=À o/\ObjOk H h a u
 | .tbl ps=>h.get? a=À { cls:=.none,data:=.fields ps }
 | .met f x=>h.get? a=À (ļ (.ref f) (.ref x))
 | .ext φ=>φ h/\(∃o,h.get? a=À o)/\∀h1 h2:Ï,φ h1->(∀o,h1.get? a=À o->h2.get? a=À o)->φ h2
def HOk(H:Hp)(h:Ï):Prop:=∀a o,H a=À o->ObjOk P w H h a o
end
section
variable{P:Í}{w:Ñ}{H H':Hp}{h h':Ï}{a:È}{o:HO}
theorem ObjOk.lt(x:ObjOk P w H h a o):a<h.objs.size:=by
 cases o with
 | lst xs=>obtain⟨_,_,_,_,e⟩:=x;exact zB e
 | tup xs=>obtain⟨_,_,_,p,_⟩:=x;exact p.lt
 | dK d6=>obtain⟨_,_,_,_,o,_,_,e,_⟩:=x;exact zB e
 | dT d6=>obtain⟨_,_,_,_,o,_,_,e,_⟩:=x;exact zB e
 | set S n=>obtain⟨o,_,_,_,e,_⟩:=x;exact zB e
 | ins C dx fs=>obtain⟨_,_,_,e,_⟩:=x;exact zB e
 | own y=>obtain⟨_,e⟩:=x;exact zB e
 | xd fs=>obtain⟨_,⟨_,_,_,e,_⟩,_⟩:=x;exact zB e
 | rng lo hi=>obtain⟨_,_,_,e⟩:=x;exact zB e
 | frz ob u=>obtain⟨e,_⟩:=x;exact zB e
 | tbl ps=>exact zB (show h.get? a=À _ from x)
 | met f y=>exact zB (show h.get? a=À _ from x)
 | ext φ=>obtain⟨_,⟨_,e⟩,_⟩:=x;exact zB e
theorem Paired.mapP{α β:Type}{F G:α->β->Prop}:∀{LV:List α} {LW:List β},Ż F LV LW->(∀a b,F a b->G a b)->Ż G LV LW
 | _,_,.nil,_=>.nil
 | _,_,.cons r t,f=>.cons (f _ _ r) (Paired.mapP t f)
def ObjOk.stay(x:ObjOk P w H h a o)(k:∀b u,(b=a\/H b=À (.own a))->h.get? b=À u->h'.get? b=À u)
  (ho:∀b,H b=À (.own a)->H' b=À (.own a)) (ht:∀b xs,H b=À (.tup xs)->H' b=À (.tup xs)):ObjOk P w H' h' a o:=by
 induction o with
 | lst xs=>obtain⟨z,cb,n,r,e⟩:=x;exact⟨z,cb,n,r,k _ _ (.inl rfl) e⟩
 | tup xs=>obtain⟨z,cb,r,⟨ob,e,c⟩,o2,e2,d2⟩:=x;exact⟨z,cb,r,⟨ob,k _ _ (.inl rfl) e,c⟩,o2,k _ _ (.inl rfl) e2,d2⟩
 | dK d6=>obtain⟨z,y,vs,r,ob,es,ep,e,c⟩:=x;exact⟨z,y,vs,r,ob,es,ep,k _ _ (.inl rfl) e,c⟩
 | dT d6=>
  obtain⟨z,y,xs,r,ob,es,ep,e,c⟩:=x;exact⟨z,y,xs,Paired.mapP r λp q z=>⟨z.1,ht _ _ z.2.1,z.2.2⟩,ob,es,ep,k _ _ (.inl rfl) e,c⟩
 | set S n=>obtain⟨ob,es,ep,t,e,c⟩:=x;exact⟨ob,es,ep,t,k _ _ (.inl rfl) e,c⟩
 | ins C dx fs=>
  obtain⟨d,z,ne,e,mA,⟨od,es,ep,e2,c⟩,r⟩:=x;exact⟨ho _ d,z,ne,k _ _ (.inl rfl) e,mA,⟨od,es,ep,k _ _ (.inr d) e2,c⟩,r⟩
 | own y=>obtain⟨ob,e⟩:=x;exact⟨ob,k _ _ (.inl rfl) e⟩
 | xd fs=>obtain⟨mA,⟨od,es,ep,e,c⟩,r⟩:=x;exact⟨mA,⟨od,es,ep,k _ _ (.inl rfl) e,c⟩,r⟩
 | rng lo hi=>obtain⟨t,u,v,e⟩:=x;exact⟨t,u,v,k _ _ (.inl rfl) e⟩
 | frz ob u ih=>obtain⟨e,q⟩:=x;exact⟨k _ _ (.inl rfl) e,ih q⟩
 | tbl ps=>
  have e:h.get? a=À { cls:=.none,data:=.fields ps }:=x;show h'.get? a=À { cls:=.none,data:=.fields ps }
  exact k a _ (.inl rfl) e
 | met f y=>
  have e:h.get? a=À (ļ (.ref f) (.ref y)):=x;show h'.get? a=À (ļ (.ref f) (.ref y))
  exact k a _ (.inl rfl) e
 | ext φ=>obtain⟨p,⟨o,e⟩,st⟩:=x;exact⟨st _ _ p λo q=>k _ _ (.inl rfl) q,⟨o,k _ _ (.inl rfl) e⟩,st⟩
theorem HOk.lt(x:HOk P w H h)(e:H a=À o):a<h.objs.size:=(x a o e).lt
def HOk.fresh(x:HOk P w H h)(e:h.objs.size<=a):H a=Á:=by
 cases q:H a with
 | none=>rfl
 | some u=>exact absurd (zL (x.lt q) e) (jF _)
def HOk.kept(x:HOk P w H h)(k:∀b u,h.get? b=À u->h'.get? b=À u):HOk P w H h':=λa o e=>
 (x a o e).stay (λb u _ q=>k b u q) (λ_ q=>q) λ_ _ q=>q
def HOk.laid(x:HOk P w H h)(k:∀b u,h.get? b=À u->h'.get? b=À u)(hp:h.objs.size<=a)(new:ObjOk P w (upd H a o) h' a o):HOk P w (upd H a o) h':=λb u e=>by
 have hn:=x.fresh hp;by_cases hb:b=a
 .subst hb;rw[qo] at e;cases e;exact new
 .rw[kQ hb] at e
  exact(x b u e).stay (λc v _ q=>k c v q) (λc q=>by rw[kQ (qq q hn)];exact q) λc xs q=>by rw[kQ (qq q hn)];exact q
end
def Rd(H:Hp)(a:È)(u:HO):Prop:=H a=À u\/∃o,H a=À (.frz o u)
def Rd.ok{P:Í}{w:Ñ}{H:Hp}{h:Ï}{a:È}{u:HO}(r:Rd H a u)(x:HOk P w H h):ObjOk P w H h a u:=by
 rcases r with r | ⟨o,r⟩
 .exact x a u r
 .obtain⟨_,q⟩:=x a _ r
  exact q
def rP:Option HO->Prop
 | some (.lst _)=>True
 | some (.dK _)=>True
 | some (.dT _)=>True
 | some (.set _ _)=>True
 | some (.ins _ _ _)=>True
 | some (.ext _)=>True
 | _=>False
section
variable{P:Í}{w:Ñ}{H:Hp}{h h':Ï}{x e:È}{o':HO}
theorem HOk.write(ok:HOk P w H h)(mu:rP (H x))(he:e=x\/H e=À (.own x))(k:∀b u,b≠e->h.get? b=À u->h'.get? b=À u)(LJ:∃u,h'.get? e=À u)
  (new:ObjOk P w (upd H x o') h' x o'):HOk P w (upd H x o') h':=λb u q=>by
 have LX:∀c y,H c=À (.own y)->c≠x:=λc y r z=>by subst z;rw[r] at mu;exact mu
 have Nh:∀c xs,H c=À (.tup xs)->c≠x:=λc xs r z=>by subst z;rw[r] at mu;exact mu
 by_cases hb:b=x
 .subst hb;rw[qo] at q;cases q;exact new
 .rw[kQ hb] at q
  by_cases hbe:b=e
  .have q':H b=À (.own x):=by
    rcases he with z | z
    .exact absurd (hbe.trans z) hb
    .rw[hbe];exact z
   rw[q] at q';cases q';obtain⟨v,hv⟩:=LJ;exact⟨v,by rw[hbe];exact hv⟩
  .refine(ok b u q).stay (λc v hc r=>k c v ?_ r) (λc r=>by rw[kQ (LX c b r)];exact r) λc xs r=>by rw[kQ (Nh c xs r)];exact r
   rcases hc with rfl | hc
   .exact hbe
   .rintro rfl
    rcases he with z | z
    .exact LX c b hc z
    .rw[hc] at z;cases z;exact hb rfl
end
structure Un(fs ex:List È)(H H':Hp)(h h':Ï):Prop where
 keep:∀b o,h.get? b=À o->H b=Á->b∉fs->b∉ex->h'.get? b=À o
 slot:∀b o,h.get? b=À o->H b=Á->b∈fs->b∉ex->∃sl,h'.get? b=À { o with slots:=sl }
 free:∀b o,h.get? b=À o->H b=Á->b∉ex->H' b=Á
 there:∀b o,h.get? b=À o->b∉ex->∃o',h'.get? b=À o'
 tups:∀b xs,H b=À (.tup xs)->H' b=À (.tup xs)
 frzs:∀b o u,H b=À (.frz o u)->H' b=À (.frz o u)
 tbls:∀b ps,H b=À (.tbl ps)->∃more,H' b=À (.tbl (ps++more))
section
variable{fs fs' ex So:List È}{H H1 H2:Hp}{h h1 h2 h':Ï}{a x e:È}{o:HO}
def Un.any(u:Un fs ex H H1 h h1){b:È}{ob:î}(q:h.get? b=À ob)(n:H b=Á)(hx:b∉ex):∃sl,h1.get? b=À { ob with slots:=sl }:=by
 by_cases hb:b∈fs
 .exact u.slot b ob q n hb hx
 .exact⟨ob.slots,u.keep b ob q n hb hx⟩
def Un.kept(k:∀b u,h.get? b=À u->h'.get? b=À u):Un fs ex H H h h':=
 ⟨λb ob q _ _ _=>k b ob q,λb ob q _ _ _=>⟨ob.slots,k b ob q⟩,λ_ _ _ n _=>n,λb ob q _=>⟨ob,k b ob q⟩,λ_ _ q=>q,λ_ _ _ q=>q,λ_ ps q=>⟨#[],by rw[q];simp⟩⟩
def Un.refl:Un fs ex H H h h:=Un.kept λ_ _ q=>q
def Un.laid(k:∀b u,h.get? b=À u->h'.get? b=À u)(hp:h.objs.size<=a)(hn:H a=Á):Un fs ex H (upd H a o) h h' where
 keep:=λb u q _ _ _=>k b u q
 slot:=λb u q _ _ _=>⟨u.slots,k b u q⟩
 free:=λb u q n _=>by rw[kQ (zW (zL (zB q) hp))];exact n
 there:=λb u q _=>⟨u,k b u q⟩
 tups:=λb xs q=>by rw[kQ (qq q hn)];exact q
 frzs:=λb u xs q=>by rw[kQ (qq q hn)];exact q
 tbls:=λb ps q=>⟨#[],by rw[kQ (qq q hn),q];simp⟩
def Un.write(mu:rP (H x))(he:e=x\/H e=À (.own x))(k:∀b u,b≠e->h.get? b=À u->h'.get? b=À u)(LJ:∃u,h'.get? e=À u):Un fs ex H (upd H x o) h h':=by
 have hx:∀b,H b=Á->b≠x:=λb n z=>by subst z;rw[n] at mu;exact mu
 have hb:∀b,H b=Á->b≠e:=λb n z=>by
  subst z;rcases he with r | r
  .exact hx b n r
  .rw[n] at r;cases r
 have hm:∀b u,H b=À u->¬rP (À u)->b≠x:=λb u q nm z=>by subst z;rw[q] at mu;exact nm mu
 refine⟨λb u q n _ _=>k b u (hb b n) q,λb u q n _ _=>⟨u.slots,k b u (hb b n) q⟩,λb u q n _=>by rw[kQ (hx b n)];exact n,λb u q _=>?_,
  λb xs q=>by rw[kQ (hm b _ q λz=>z)];exact q,λb u xs q=>by rw[kQ (hm b _ q λz=>z)];exact q,λb ps q=>⟨#[],by rw[kQ (hm b _ q λz=>z),q];simp⟩⟩
 by_cases hbe:b=e
 .subst hbe;exact LJ
 .exact⟨u,k b u hbe q⟩
end
def X0(h:Ï)(H:Hp):List È:=(ı h.objs.size).filter λa=>(H a).isSome
def iP(h:Ï)(H:Hp):Ï:=PySem.W.hideAll h (X0 h H)
def V6(h:Ï)(H:Hp):(iP h H).objs.size=h.objs.size:=PySem.W.hideAll_size _ _
def W9{h:Ï}{H:Hp}{b:È}{o:î}(e:h.get? b=À o)(n:H b=Á):(iP h H).get? b=À o:=
 PySem.W.hideAll_get _ e λhm=>by
  have q:(H b).isSome=Ã:=(vC.mp hm).2;rw[n] at q;simp at q
def X6{h:Ï}{H:Hp}{b:È}{o:î}(e:(iP h H).get? b=À o):h.get? b=À o/\H b=Á:=by
 have e':h.get? b=À o:=PySem.W.of_hideAll (X0 h H) e;refine⟨e',?_⟩;cases q:H b with
 | none=>rfl
 | some x=>
  have hm:b∈X0 h H:=vC.mpr ⟨yL.mpr (zB e'),by simp[q]⟩;have z:(iP h H).get? b=Á:=PySem.W.hideAll_none (X0 h H) hm;rw[z] at e;cases e
end L2
namespace L2
open PySem PySem.Spec PyProof.Rows
structure Mod(K:S5)(mg:Ç->Option Ä)(base:Ï):Prop where
 kin:K.In base
 glob:base.Ns Ø mg
 blt:∃mb,base.Ns ż mb/\∀x:Ç,x≠"__name__"->mb x=Ô x
 nolimit:base.NoLimit
structure Cx where
 prog:Í
 w:Ñ
 K:S5
 mg:Ç->Option Ä
 base:Ï
 A:Ö
 N:List Ç
 s₀:Å
 H₀:Hp
 env:ŷ
 outer:List ŷ
 stack:List ŷ
 ex:List È
 fn:Ç->Bool
 calm:Bool
 pn:List (È×î)
 xe:Ä->Å->Prop
def frs(l:List ŷ):List È:=l.filterMap (·.frame)
abbrev Cx.fs(X:Cx):List È:=frs X.outer
def KI(sc:ã)(x:Ç):Prop:=sc.names.lookup x=À .local\/sc.names.lookup x=À .cell\/sc.names.lookup x=À .free
def Loc(sc:ã)(x:Ç):Prop:=sc.names.lookup x=À .local\/sc.names.lookup x=À .cell
def Look(env:ŷ)(h:Ï)(m:Ç->Option Ä)(x:Ç)(u:Ä):Prop:=
 (env.kindOf x=À .local/\m x=À u)\/((env.kindOf x=À .cell\/env.kindOf x=À .free)/\∃c,env.cells.lookup x=À c/\h.IsCell c (À u))
structure Cx.Ok(X:Cx):Prop where
 mod:Mod X.K X.mg X.base
 kind:X.env.scope.kind=.function
 glob:X.env.globals=Ø
 blt:X.env.builtins=ż
 above:X.s₀.heap.objs.size<=X.env.locals
 inj:∀x y c,X.env.cells.lookup x=À c->X.env.cells.lookup y=À c->x=y
 has:∀x,(X.env.kindOf x=À .cell\/X.env.kindOf x=À .free)->∃c,X.env.cells.lookup x=À c
 cab:∀x c,X.fn x=Ã->X.env.cells.lookup x=À c->X.s₀.heap.objs.size<=c
 hd:X.calm=Ã->X.A.handled=Á
 frames:X.A.frames=À X.stack
 stk:X.stack=X.outer\/(X.stack=X.env::X.outer/\X.env.frame=À X.env.locals)
 exf:∀b∈X.ex,b≠X.env.locals/\∀x c,X.env.cells.lookup x=À c->c≠b
 bs:∀b o,X.base.get? b=À o->X.s₀.heap.get? b=À o/\X.H₀ b=Á
 bsz:X.base.objs.size<=X.s₀.heap.objs.size
 noex:∀b o,X.base.get? b=À o->b∉X.ex
 exfs:∀b∈X.ex,b∉X.fs
 funs:X.s₀.heap.FunFrames X.base X.outer
 frf:∀b∈X.fs,X.H₀ b=Á
structure Inv(X:Cx)(ag:List (È×î))(σ:List (Option V))(H:Hp)(s:Å):Prop where
 ok:X.Ok
 os:s.os=X.s₀.os
 bare:AllBare s.gens
 base:Un X.fs X.ex X.H₀ H X.s₀.heap s.heap
 loc:∃m,s.heap.Ns X.env.locals m/\∀(i:Nat) (x:Ç) (v:V),X.N[i]?=À x->σ[i]?=À (À v)->KI X.env.scope x->∃u,RelV v u/\Look X.env s.heap m x u
 cell:∀x c,X.env.cells.lookup x=À c->∃v,s.heap.IsCell c v
 free:H X.env.locals=Á
 freeC:∀x c,X.env.cells.lookup x=À c->H c=Á
 pin:∀p∈X.pn++ag,s.heap.get? p.1=À p.2/\H p.1=Á/\p.1≠X.env.locals/\p.1∉X.fs/\∀v,p.2.data≠.cell v
 hok:HOk X.prog X.w H s.heap
 len:σ.length=X.N.length
section
variable{X:Cx}{ag:List (È×î)}{σ:List (Option V)}{H H':Hp}{s:Å}{h':Ï}
def Cx.Ok.nofr(ok:X.Ok){b:È}{o:î}(e:X.base.get? b=À o):b∉X.fs:=λhb=>by
 have:=(ok.funs.mem hb).1;rw[e] at this;cases this
theorem Inv.bs(I:Inv X ag σ H s):∀b o,X.base.get? b=À o->s.heap.get? b=À o/\H b=Á:=λb o e=>
 ⟨I.base.keep b o (I.ok.bs b o e).1 (I.ok.bs b o e).2 (I.ok.nofr e) (I.ok.noex b o e),I.base.free b o (I.ok.bs b o e).1 (I.ok.bs b o e).2 (I.ok.noex b o e)⟩
def Inv.bk(I:Inv X ag σ H s):∀b o,X.base.get? b=À o->s.heap.get? b=À o:=λb o e=>(I.bs b o e).1
theorem Inv.mod(I:Inv X ag σ H s):Mod X.K X.mg X.base:=I.ok.mod
def Inv.kIn(I:Inv X ag σ H s):X.K.In s.heap:=I.ok.mod.kin.keeps I.bk
theorem Inv.lt(I:Inv X ag σ H s):X.env.locals<s.heap.objs.size:=let ⟨_,hn,_⟩:=I.loc;hn.lt
def Inv.sz(I:Inv X ag σ H s):X.s₀.heap.objs.size<=s.heap.objs.size:=zK I.ok.above (wI I.lt)
def Inv.nofs(I:Inv X ag σ H s){a:È}(h:s.heap.objs.size<=a):a∉X.fs:=λhb=>by
 obtain⟨_,o,ho,_⟩:=I.ok.funs.mem hb;exact absurd (zL (zB ho) (zK I.sz h)) (jF _)
def Inv.cne(I:Inv X ag σ H s):∀x c,X.env.cells.lookup x=À c->c≠X.env.locals:=λx c e z=>by
 obtain⟨v,o,ho,hd⟩:=I.cell x c e;obtain⟨m,⟨o',es,ep,AM,AC,_⟩,_⟩:=I.loc;rw[z,AM] at ho;cases ho;rw[AC] at hd;cases hd
theorem Inv.funs(I:Inv X ag σ H s):s.heap.FunFrames X.base X.outer:=by
 have all:∀(l:List ŷ),(∀b∈frs l,b∈X.fs)->X.s₀.heap.FunFrames X.base l->s.heap.FunFrames X.base l:=by
  intro l;induction l with
  | nil=>intro _ _;trivial
  | cons env r ih=>
   intro hs hl;obtain⟨hk,⟨L,o,hf,hn,ho,hd⟩,hr⟩:=hl;have hL:L∈X.fs:=hs L (by unfold frs;rw[wZ,hf];exact kj);obtain⟨sl,e⟩:=I.base.slot L o ho (I.ok.frf L hL) hL λz=>I.ok.exfs L z hL
   exact⟨hk,⟨L,_,hf,hn,e,hd⟩,ih (λb hb=>hs b (by unfold frs;rw[wZ,hf];exact zM _ hb)) hr⟩
 exact all X.outer (λ_ hb=>hb) I.ok.funs
theorem Inv.stack(I:Inv X ag σ H s):s.heap.FunFrames X.base X.stack:=by
 rcases I.ok.stk with e | ⟨e,hf⟩
 .rw[e];exact I.funs
 .rw[e]
  obtain⟨m,hn,_⟩:=I.loc;refine .cons (by rw[I.ok.kind];decide) hf hn ?_ I.funs;exact vP (zK I.ok.bsz I.ok.above)
def Inv.stkSub(I:Inv X ag σ H s):∀b∈frs X.stack,b∈X.env.locals::X.fs:=λb hb=>by
 rcases I.ok.stk with e | ⟨e,hf⟩
 .rw[e] at hb;exact zM _ hb
 .rw[e] at hb
  unfold frs at hb;rw[wZ,hf] at hb;exact hb
def Inv.stkFree(I:Inv X ag σ H s):∀b∈frs X.stack,H b=Á:=λb hb=>by
 rcases zb.mp (I.stkSub b hb) with e | hb
 .rw[e];exact I.free
 .obtain⟨_,o,ho,_⟩:=I.ok.funs.mem hb
  exact I.base.free b o ho (I.ok.frf b hb) λz=>I.ok.exfs b z hb
def Inv.step{g':Array ő}{t':Nat}{d':Drawn}{ch:List È}(I:Inv X ag σ H s)
  (Es:∀b∈ch,(b∈X.ex\/X.s₀.heap.objs.size<=b)/\b≠X.env.locals/\(∀x c,X.env.cells.lookup x=À c->c≠b)/\∀p∈X.pn++ag,p.1≠b)
  (keep:∀b o,b≠X.env.locals->b∉X.fs->b∉ch->s.heap.get? b=À o->H b=Á->h'.get? b=À o)
  (slot:∀b o,b≠X.env.locals->b∈X.fs->b∉ch->s.heap.get? b=À o->H b=Á->∃sl,h'.get? b=À { o with slots:=sl }) (free:∀b o,b∉ch->s.heap.get? b=À o->H b=Á->H' b=Á)
  (there:∀b o,b∉ch->s.heap.get? b=À o->∃o',h'.get? b=À o')
  (tups:∀b xs,H b=À (.tup xs)->H' b=À (.tup xs)) (frzs:∀b o u,H b=À (.frz o u)->H' b=À (.frz o u)) (tbls:∀b ps,H b=À (.tbl ps)->∃more,H' b=À (.tbl (ps++more)))
  (ns:∀m,s.heap.Ns X.env.locals m->h'.Ns X.env.locals m) (hok:HOk X.prog X.w H' h') (hg:AllBare g') :
  Inv X ag σ H' { s with heap:=h',gens:=g',drawn:=d',toks:=t' }:=by
 have Og:∀b o,X.s₀.heap.get? b=À o->b≠X.env.locals:=λb o e=>zW (zL (zB e) I.ok.above)
 have MJ:∀b o,X.s₀.heap.get? b=À o->b∉X.ex->b∉ch:=λb o e hx hb=>by
  rcases(Es b hb).1 with z | z
  .exact hx z
  .exact absurd (zL (zB e) z) (jF _)
 have cellK:∀x c,X.env.cells.lookup x=À c->∀v,s.heap.IsCell c v->h'.IsCell c v:=λx c e v ⟨o,ho,hd⟩=>by
  have LY:c∉ch:=λz=>(Es c z).2.2.1 x c e rfl
  by_cases hc:c∈X.fs
  .obtain⟨sl,q⟩:=slot c o (I.cne x c e) hc LY ho (I.freeC x c e)
   exact⟨_,q,hd⟩
  .exact⟨o,keep c o (I.cne x c e) hc LY ho (I.freeC x c e),hd⟩
 refine⟨I.ok,I.os,hg,⟨λb o e n hb hx=>?_,λb o e n hb hx=>?_,λb o e n hx=>?_,λb o e hx=>?_,λb xs e=>tups b xs (I.base.tups b xs e),λb o xs e=>frzs b o xs (I.base.frzs b o xs e),λb ps e=>?_⟩,?_,λx c e=>?_,?_,λx c e=>?_,λp hp=>?_,hok,I.len⟩
 .exact keep b o (Og b o e) hb (MJ b o e hx) (I.base.keep b o e n hb hx) (I.base.free b o e n hx)
 .obtain⟨sl,e1⟩:=I.base.slot b o e n hb hx
  obtain⟨O4,e2⟩:=slot b _ (Og b o e) hb (MJ b o e hx) e1 (I.base.free b o e n hx);exact⟨O4,e2⟩
 .obtain⟨o',e1⟩:=I.base.there b o e hx
  exact free b o' (MJ b o e hx) e1 (I.base.free b o e n hx)
 .obtain⟨o',e1⟩:=I.base.there b o e hx
  exact there b o' (MJ b o e hx) e1
 .obtain⟨m1,e1⟩:=I.base.tbls b ps e
  obtain⟨m2,e2⟩:=tbls b _ e1;exact⟨m1++m2,by rw[e2,Array.append_assoc]⟩
 .obtain⟨m,hn,hl⟩:=I.loc
  refine⟨m,ns m hn,λi x v e1 e2 e3=>?_⟩;obtain⟨u,r,l⟩:=hl i x v e1 e2 e3;refine⟨u,r,?_⟩;rcases l with l | ⟨k,c,e,z⟩
  .exact .inl l
  .exact .inr ⟨k,c,e,cellK x c e _ z⟩
 .obtain⟨v,z⟩:=I.cell x c e
  exact⟨v,cellK x c e v z⟩
 .obtain⟨m,⟨o,_,_,ho,_⟩,_⟩:=I.loc
  exact free _ o (λz=>(Es _ z).2.1 rfl) ho I.free
 .obtain⟨v,o,ho,hd⟩:=I.cell x c e
  exact free c o (λz=>(Es c z).2.2.1 x c e rfl) ho (I.freeC x c e)
 .obtain⟨e,n,ne,nf,d⟩:=I.pin p hp
  have LY:p.1∉ch:=λz=>(Es p.1 z).2.2.2 p hp rfl
  exact⟨keep p.1 p.2 ne nf LY e n,free p.1 p.2 LY e n,ne,nf,d⟩
def Inv.un{t':Nat}(I:Inv X ag σ H s)(u:Un X.fs [] H H' s.heap h')(hok:HOk X.prog X.w H' h'):Inv X ag σ H' { s with heap:=h',toks:=t' }:=by
 obtain⟨m,⟨o,es,ep,ho,r⟩,_⟩:=id I.loc;obtain⟨sl,hL⟩:=u.any ho I.free (by simp)
 exact I.step (g':=s.gens) (d':=s.drawn) (ch:=[]) (λ_ z=>nomatch z) (λb o _ hb _ e n=>u.keep b o e n hb (by simp)) (λb o _ hb _ e n=>u.slot b o e n hb (by simp)) (λb o _ e n=>u.free b o e n (by simp)) (λb o _ e=>u.there b o e (by simp)) u.tups u.frzs u.tbls (λm' hm=>by
  obtain⟨o',AD,MK,AM,r'⟩:=hm;rw[ho] at AM;cases AM
  exact⟨_,AD,MK,hL,r'⟩) hok I.bare
def Inv.call{g':Array ő}{t':Nat}{d':Drawn}{ch:List È}(I:Inv X ag σ H s)(u:Un (frs X.stack) ch H H' s.heap h')(hok:HOk X.prog X.w H' h')(hg:AllBare g')
  (Es:∀b∈ch,(b∈X.ex\/X.s₀.heap.objs.size<=b)/\b≠X.env.locals/\(∀x c,X.env.cells.lookup x=À c->c≠b)/\∀p∈X.pn++ag,p.1≠b) :
  Inv X ag σ H' { s with heap:=h',gens:=g',drawn:=d',toks:=t' }:=by
 obtain⟨m,⟨o,es,ep,ho,r⟩,_⟩:=id I.loc;obtain⟨sl,hL⟩:=u.any ho I.free λz=>(Es _ z).2.1 rfl
 exact I.step (ch:=ch) Es (λb o hL hb hc e n=>u.keep b o e n (λz=>(zb.mp (I.stkSub b z)).elim hL hb) hc) (λb o _ _ hc e n=>u.any e n hc) (λb o hc e n=>u.free b o e n hc) (λb o hc e=>u.there b o e hc) u.tups u.frzs u.tbls (λm' hm=>by
  obtain⟨o',AD,MK,AM,r'⟩:=hm;rw[ho] at AM;cases AM
  exact⟨_,AD,MK,hL,r'⟩) hok hg
def Inv.turned{t':Nat}{it:È}(I:Inv X ag σ H s)(k:∀b o,b≠it->s.heap.get? b=À o->h'.get? b=À o)(hn:H it=Á)(hL:it≠X.env.locals)
  (h1:it∈X.ex\/X.s₀.heap.objs.size<=it) (h2:∀x c,X.env.cells.lookup x=À c->c≠it) (h3:∀p∈X.pn++ag,p.1≠it):Inv X ag σ H { s with heap:=h',toks:=t' }:=by
 have Oh:∀b u,H b=À u->b≠it:=λb u e z=>by rw[z,hn] at e;cases e
 refine I.step (g':=s.gens) (d':=s.drawn) (ch:=[it]) (λb hb=>?_) (λb o _ _ hc e _=>k b o (λz=>hc (by simp[z])) e) (λb o _ _ hc e _=>⟨o.slots,k b o (λz=>hc (by simp[z])) e⟩) (λ_ _ _ _ n=>n)
  (λb o hc e=>⟨o,k b o (λz=>hc (by simp[z])) e⟩) (λ_ _ e=>e) (λ_ _ _ e=>e) (λb ps e=>⟨#[],by rw[e];simp⟩) (λm hm=>?_) (λb u e=>?_) I.bare
 .have e:b=it:=by simpa using hb
  subst e;exact⟨h1,hL,h2,h3⟩
 .obtain⟨o,es,ep,ho,r⟩:=hm
  exact⟨o,es,ep,k _ o (kZ hL) ho,r⟩
 .refine(I.hok b u e).stay (λc v hc q=>k c v ?_ q) (λ_ q=>q) λ_ _ q=>q
  rcases hc with z | z
  .rw[z];exact Oh b u e
  .exact Oh c _ z
def Inv.tok(I:Inv X ag σ H s)(t:Nat):Inv X ag σ H { s with toks:=t }:=I.un (h':=s.heap) (t':=t) Un.refl I.hok
theorem Inv.kept{t':Nat}(I:Inv X ag σ H s)(k:∀b u,s.heap.get? b=À u->h'.get? b=À u):Inv X ag σ H { s with heap:=h',toks:=t' }:=I.un (Un.kept k) (I.hok.kept k)
theorem Inv.laid{a:È}{o:HO}{t':Nat}(I:Inv X ag σ H s)(k:∀b u,s.heap.get? b=À u->h'.get? b=À u)(hp:s.heap.objs.size<=a)(new:ObjOk X.prog X.w (upd H a o) h' a o) :
  Inv X ag σ (upd H a o) { s with heap:=h',toks:=t' }:=I.un (Un.laid k hp (I.hok.fresh hp)) (I.hok.laid k hp new)
theorem Inv.write{x e:È}{o:HO}{t':Nat}(I:Inv X ag σ H s)(mu:rP (H x))(he:e=x\/H e=À (.own x))(k:∀b u,b≠e->s.heap.get? b=À u->h'.get? b=À u)(LJ:∃u,h'.get? e=À u)
  (new:ObjOk X.prog X.w (upd H x o) h' x o):Inv X ag σ (upd H x o) { s with heap:=h',toks:=t' }:=I.un (Un.write mu he k LJ) (I.hok.write mu he k LJ new)
def Inv.pins_of{ES:List (È×î)}(I:Inv X ag σ H s)(h:∀p∈ES,s.heap.get? p.1=À p.2/\H p.1=Á/\p.1≠X.env.locals/\p.1∉X.fs/\∀v,p.2.data≠.cell v):Inv X ES σ H s:=
 ⟨I.ok,I.os,I.bare,I.base,I.loc,I.cell,I.free,I.freeC,λp hp=>(zU.mp hp).elim (λz=>I.pin p (jx _ z)) (h p),I.hok,I.len⟩
def Zi{N:List Ç}(hN:N.Nodup){i j:Nat}{x:Ç}(a:N[i]?=À x)(b:N[j]?=À x):i=j:=by
 obtain⟨h1,e1⟩:=zT.mp a;obtain⟨h2,e2⟩:=zT.mp b;exact(vm hN).mp (e1.trans e2.symm)
def pE{M:Model}{A:Ö}{E:Ä->Å->Prop}{i:Nat}{x:Ç}{v:V}{u:Ä}{Q:Unit->Å->Prop}(I:Inv X ag σ H s)(hN:X.N.Nodup)(hi:X.N[i]?=À x)(hx:Loc X.env.scope x)(r:RelV v u)
  (h:∀s',Inv X ag (σ.set i (À v)) H s'->(∃a,ć a s.heap s'.heap/\(a=X.env.locals\/X.env.cells.lookup x=À a))->Q () s') (hf:X.fn x=Ã\/X.env.scope.names.lookup x=À .local:=by first | exact .inl rfl | exact .inr rfl | assumption):Ê M A (storeName X.env x u) Q E s:=by
 obtain⟨m,hn,hl⟩:=id I.loc;have Ni:(X.env.scope.kind==.class||(X.env.scope.kind==.module&&X.env.locals != X.env.globals))=Â:=by rw[I.ok.kind];rfl
 have LZ:i<σ.length:=by rw[I.len];exact(zT.mp hi).1
 have cne:=I.cne;have tracked:∀{a:È} {h':Ï},(∃o,s.heap.get? a=À o/\H a=Á)->ć a s.heap h'->HOk X.prog X.w H h':=λ{a h'} ha hs b ob e=>by
  obtain⟨_,_,ET⟩:=ha;refine(I.hok b ob e).stay (λc w' hc q=>(hs.2 c ?_).trans q) (λ_ q=>q) λ_ _ q=>q
  rintro rfl;rcases hc with rfl | hc
  .rw[ET] at e;cases e
  .rw[ET] at hc;cases hc
 rcases hx with hk | hk
 .refine wpAny_storeName_local hk hn (λh' Nj hs=>?_) Ni
  obtain⟨oL,_,_,O5,_⟩:=id hn;refine h _ ⟨I.ok,I.os,I.bare,⟨λb o e n hb hx=>?_,λb o e n hb hx=>?_,I.base.free,λb o e hx=>?_,I.base.tups,I.base.frzs,I.base.tbls⟩,⟨_,Nj,λj y v' e1 e2 e3=>?_⟩,λy c e=>?_,I.free,I.freeC,λp hp=>?_,tracked ⟨oL,O5,I.free⟩ hs,by simpa using I.len⟩ ⟨_,hs,.inl rfl⟩
  .exact(hs.2 b (zW (zL (zB e) I.ok.above))).trans (I.base.keep b o e n hb hx)
  .obtain⟨sl,e1⟩:=I.base.slot b o e n hb hx
   exact⟨sl,(hs.2 b (zW (zL (zB e) I.ok.above))).trans e1⟩
  .obtain⟨o',e1⟩:=I.base.there b o e hx
   exact⟨o',(hs.2 b (zW (zL (zB e) I.ok.above))).trans e1⟩
  .by_cases hj:j=i
   .subst hj
    rw[hi] at e1;cases e1;rw[zH LZ] at e2;cases e2;exact⟨u,r,.inl ⟨hk,by simp⟩⟩
   .rw[zG (kZ hj)] at e2
    obtain⟨u',r',q⟩:=hl j y v' e1 e2 e3;refine⟨u',r',?_⟩;rcases q with ⟨k,e⟩ | ⟨k,c,e,z⟩
    .refine .inl ⟨k,?_⟩
     have:y≠x:=λe=>hj (Zi hN e1 (e▸hi))
     simp[this,e]
    .exact .inr ⟨k,c,e,z.sameBut hs (cne y c e)⟩
  .obtain⟨w',z⟩:=I.cell y c e
   exact⟨w',z.sameBut hs (cne y c e)⟩
  .obtain⟨e,n,ne,nf,d⟩:=I.pin p hp
   exact⟨(hs.2 p.1 ne).trans e,n,ne,nf,d⟩
 .have Nk:X.fn x=Ã:=by
   rcases hf with z | z
   .exact z
   .rw[z] at hk;cases hk
  obtain⟨c,hc⟩:=I.ok.has x (.inl hk);obtain⟨w',z⟩:=I.cell x c hc;refine wpAny_storeName_cell I.ok.kind hk hc z (λh' A0 hs=>?_);obtain⟨oc,Oi,Nl⟩:=id z;refine h { s with heap:=h' } ⟨I.ok,I.os,I.bare,⟨λb o e n hb hx=>?_,λb o e n hb hx=>?_,I.base.free,λb o e hx=>?_,I.base.tups,I.base.frzs,I.base.tbls⟩,⟨m,hn.sameBut hs (kZ (cne x c hc)),λj y v' e1 e2 e3=>?_⟩,λy c' e=>?_,I.free,I.freeC,λp hp=>?_,tracked ⟨oc,Oi,I.freeC x c hc⟩ hs,by simpa using I.len⟩ ⟨c,hs,.inr hc⟩
  .exact(hs.2 b (zW (zL (zB e) (I.ok.cab x c Nk hc)))).trans (I.base.keep b o e n hb hx)
  .obtain⟨sl,e1⟩:=I.base.slot b o e n hb hx
   exact⟨sl,(hs.2 b (zW (zL (zB e) (I.ok.cab x c Nk hc)))).trans e1⟩
  .obtain⟨o',e1⟩:=I.base.there b o e hx
   exact⟨o',(hs.2 b (zW (zL (zB e) (I.ok.cab x c Nk hc)))).trans e1⟩
  .by_cases hj:j=i
   .subst hj
    rw[hi] at e1;cases e1;rw[zH LZ] at e2;cases e2;exact⟨u,r,.inr ⟨.inl hk,c,hc,A0⟩⟩
   .rw[zG (kZ hj)] at e2
    obtain⟨u',r',q⟩:=hl j y v' e1 e2 e3;refine⟨u',r',?_⟩;rcases q with q | ⟨k,c',e,z'⟩
    .exact .inl q
    .refine .inr ⟨k,c',e,z'.sameBut hs ?_⟩
     rintro rfl;exact hj (Zi hN e1 (I.ok.inj _ _ _ e hc▸hi))
  .by_cases L5:c'=c
   .subst L5;exact⟨_,A0⟩
   .obtain⟨w2,z2⟩:=I.cell y c' e
    exact⟨w2,z2.sameBut hs L5⟩
  .obtain⟨e,n,ne,nf,d⟩:=I.pin p hp
   refine⟨(hs.2 p.1 ?_).trans e,n,ne,nf,d⟩;intro q;rw[q,Oi] at e;have q':oc=p.2:=zZ e;exact d w' (by rw[<-q'];exact Nl)
def mZ{M:Model}{A:Ö}{E:Ä->Å->Prop}{i:Nat}{x:Ç}{v:V}{u:Ä}{Q:Unit->Å->Prop}(I:Inv X ag σ H s)(hN:X.N.Nodup)(hi:X.N[i]?=À x)(hx:Loc X.env.scope x)(r:RelV v u)
  (h:∀s',Inv X ag (σ.set i (À v)) H s'->Q () s') (hf:X.fn x=Ã\/X.env.scope.names.lookup x=À .local:=by first | exact .inl rfl | exact .inr rfl | assumption):Ê M A (storeName X.env x u) Q E s:=
 pE I hN hi hx r (λs' I' _=>h s' I') hf
def Inv.call'{s':Å}{ch:List È}(I:Inv X ag σ H s)(ho:s'.os=s.os)(u:Un (frs X.stack) ch H H' s.heap s'.heap)(hok:HOk X.prog X.w H' s'.heap)(hg:AllBare s'.gens)
  (Es:∀b∈ch,(b∈X.ex\/X.s₀.heap.objs.size<=b)/\b≠X.env.locals/\(∀x c,X.env.cells.lookup x=À c->c≠b)/\∀p∈X.pn++ag,p.1≠b):Inv X ag σ H' s':=by
 obtain⟨h',g',d',t',o'⟩:=s';have e:o'=s.os:=ho;subst e;exact I.call (g':=g') (t':=t') (d':=d') u hok hg Es
end
abbrev XK:=Ä->Option È->Hp->Prop
abbrev St:=List (Option V)
abbrev VK:=V->Hp->Prop
abbrev TE:=St->Hp->VK->Prop
abbrev TT:=St->Hp->(Bool->Hp->Prop)->Prop
abbrev TA:=St->Hp->(List V->Hp->Prop)->Prop
structure Ends where
 nx:St->Hp->Prop
 rt:VK
 bk:St->Hp->Prop:=λ_ _=>False
 ct:St->Hp->Prop:=λ_ _=>False
abbrev TS:=Ends->St->Hp->Prop
def EP(X:Cx)(ag:List (È×î))(σ:St)(Q:VK)(u:Ä)(s':Å):Prop:=∃v H',Inv X ag σ H' s'/\RelV v u/\Q v H'
def TP(X:Cx)(ag:List (È×î))(σ:St)(Q:Bool->Hp->Prop)(b:Bool)(s':Å):Prop:=∃H',Inv X ag σ H' s'/\Q b H'
def AP(X:Cx)(ag:List (È×î))(σ:St)(Q:List V->Hp->Prop)(us:List Ä)(s':Å):Prop:=∃vs H',Inv X ag σ H' s'/\Vals vs us/\Q vs H'
def SP(X:Cx)(ag:List (È×î))(D:Ends)(f:Flow)(s':Å):Prop:=
 match f with
 | .next=>∃hJ H',Inv X ag hJ H' s'/\D.nx hJ H'
 | .brk=>∃hJ H',Inv X ag hJ H' s'/\D.bk hJ H'
 | .cont=>∃hJ H',Inv X ag hJ H' s'/\D.ct hJ H'
 | .ret u=>∃v hJ H',Inv X ag hJ H' s'/\RelV v u/\D.rt v H'
def PE(X:Cx)(e:Ë)(t:TE):Prop:=
 ∀(ag:List (È×î)) (s:Å) (σ:St) (H:Hp) (Q:VK),Inv X ag σ H s->t σ H Q->Ê (Ì X.prog X.w) X.A (Ú e X.env) (EP X ag σ Q) X.xe s
def PT(X:Cx)(e:Ë)(t:TT):Prop:=
 ∀(ag:List (È×î)) (s:Å) (σ:St) (H:Hp) (Q:Bool->Hp->Prop),Inv X ag σ H s->t σ H Q->Ê (Ì X.prog X.w) X.A (Ž e X.env (Ú e X.env)) (TP X ag σ Q) X.xe s
def PW(X:Cx)(e:Ë)(t:TT):Prop:=
 ∀(whole:Sem Ä) (ag:List (È×î)) (s:Å) (σ:St) (H:Hp) (Q:Bool->Hp->Prop),Inv X ag σ H s->t σ H Q->Ê (Ì X.prog X.w) X.A (Ž e X.env whole) (TP X ag σ Q) X.xe s
def PW.pt{X:Cx}{e:Ë}{t:TT}(h:PW X e t):PT X e t:=h _
def PA(X:Cx)(es:List Ë)(t:TA):Prop:=
 ∀(pos:Ċ) (ag:List (È×î)) (s:Å) (σ:St) (H:Hp) (Q:List V->Hp->Prop),Inv X ag σ H s->t σ H Q->Ê (Ì X.prog X.w) X.A (Ÿ (Ù pos (É es X.env))) (AP X ag σ Q) X.xe s
def PS(X:Cx)(st:Ă)(t:TS):Prop:=
 ∀(ag:List (È×î)) (s:Å) (σ:St) (H:Hp) (D:Ends),Inv X ag σ H s->t D σ H->Ê (Ì X.prog X.w) X.A (exec st X.env) (SP X ag D) X.xe s
def PSs(X:Cx)(st:List Ă)(t:TS):Prop:=
 ∀(ag:List (È×î)) (s:Å) (σ:St) (H:Hp) (D:Ends),Inv X ag σ H s->t D σ H->Ê (Ì X.prog X.w) X.A (execs st X.env) (SP X ag D) X.xe s
def kC{α:Type}{t:Sem α}{Q Q':α->Å->Prop}{M:Model}{A:Ö}{E:Ä->Å->Prop}{s:Å}(h:Ê M A t Q E s)(hQ:∀a s,Q a s->Q' a s):Ê M A t Q' E s:=qD h hQ λ_ _ x=>x
end L2
namespace L2
open PySem PySem.Spec PyProof.Rows
section
variable{X:Cx}
def IA(i:Nat):TE:=λσ H Q=>∃v,σ[i]?=À (À v)/\Q v H
def tC(v:V):TE:=λ_ H Q=>Q v H
def Cy{i:Nat}{x:Ç}{pos:Ċ}(hN:X.N[i]?=À x)(hv:KI X.env.scope x)(hd:⇑((x==("__debug__":Ç))=Â))(A6:⇑((x==("__classdict__":Ç))=Â)):PE X (.Name x pos) (IA i):=by
 intro ag s σ H Q I h;obtain⟨v,e,h⟩:=h;obtain⟨m,hn,hl⟩:=I.loc;obtain⟨u,r,l⟩:=hl i x v hN e hv;have fin:EP X ag σ Q u s:=⟨v,H,I,r,h⟩;rcases l with ⟨hk,hm⟩ | ⟨hk,c,hc,AE⟩
 .exact ž (Œ I.ok.kind hk hn hm fin) hd
 .rcases hk with hk | hk
  .exact ž (ś I.ok.kind hk hc AE fin) hd
  .exact ž (wpAny_loadName_free I.ok.kind hk hc AE fin A6) hd
def Cb{i j pos}:PE X (.Constant (.int i) j pos) (tC (.int i)):=λ_ _ _ H _ I h=>wpAny_Constant_int ⟨.int i,H,I.tok _,⟨_,rfl⟩,h⟩
def Gn{b j pos}:PE X (.Constant (.bool b) j pos) (tC (.bl b)):=λ_ _ _ H _ I h=>Constant_bool ⟨.bl b,H,I,rfl,h⟩
def Dj{j pos}:PE X (.Constant .none j pos) (tC .non):=λ_ _ _ H _ I h=>Constant_none ⟨.non,H,I,rfl,h⟩
def FI{x j pos}:PE X (.Constant (.str x) j pos) (tC (.str x)):=λ_ _ _ H _ I h=>Calls.Constant_str ⟨.str x,H,I.tok _,⟨_,rfl⟩,h⟩
def Gl(X:Cx)(x:Ç):Prop:=X.env.kindOf x=À .globalImplicit
def lU{E:Ä->Å->Prop}{ag:List (È×î)}{s:Å}{σ:St}{H:Hp}{x:Ç}{u:Ä}{pos:Ċ}{Q:Ä->Å->Prop}(I:Inv X ag σ H s)(hg:Gl X x)(hm:X.mg x=À u)(h:Q u s)
  (hd:⇑((x==("__debug__":Ç))=Â)):Ê (Ì X.prog X.w) X.A (Ú (.Name x pos) X.env) Q E s:=
 xF I.ok.kind hg (Calls.loadGlobal_global (by rw[I.ok.glob];exact I.mod.glob.keeps I.bk) hm h) hd
def uz{E:Ä->Å->Prop}{ag:List (È×î)}{s:Å}{σ:St}{H:Hp}{x:Ç}{u:Ä}{pos:Ċ}{Q:Ä->Å->Prop}(I:Inv X ag σ H s)(hg:Gl X x)(hm:X.mg x=Á)(hv:Ô x=À u)(h:Q u s)
  (hn:⇑(x≠"__name__")) (hd:⇑((x==("__debug__":Ç))=Â)):Ê (Ì X.prog X.w) X.A (Ú (.Name x pos) X.env) Q E s:=by
 obtain⟨mb,h1,h2⟩:=I.mod.blt;exact xF I.ok.kind hg (Calls.loadGlobal_builtin (by rw[I.ok.glob];exact I.mod.glob.keeps I.bk) hm (by rw[I.ok.blt];exact h1.keeps I.bk) ((h2 x hn).trans hv) h) hd
def mf{x:Ç}{v:V}{u:Ä}{pos:Ċ}(hg:Gl X x)(hm:X.mg x=À u)(r:RelV v u)(hd:⇑((x==("__debug__":Ç))=Â)):PE X (.Name x pos) (tC v):=
 λ_ _ _ H _ I h=>lU I hg hm ⟨v,H,I,r,h⟩ hd
def Ue{x:Ç}{v:V}{u:Ä}{pos:Ċ}(hg:Gl X x)(hm:X.mg x=Á)(hv:Ô x=À u)(r:RelV v u)(hn:⇑(x≠"__name__"))(hd:⇑((x==("__debug__":Ç))=Â)):PE X (.Name x pos) (tC v):=
 λ_ _ _ H _ I h=>uz I hg hm hv ⟨v,H,I,r,h⟩ hn hd
variable{a b:Ë}{ta tb:TE}{pos:Ċ}
def tB(t:TE):TT:=λσ H Q=>t σ H λx H1=>∃c,x=.bl c/\Q c H1
def Dr{e:Ë}{t:TE}(h:PE X e t)(he:∀whole,Ž e X.env whole=(do let v <-whole;Ī e.pos;ü [v] (truthy v)):=by intro _;rfl):PT X e (tB t):=by
 intro ag s σ H Q I hw;refine isTrue_plain (kC (h ag s σ H _ I hw) ?_) (he _);rintro v s1 ⟨x,H1,I1,r1,q1⟩;obtain⟨d,rfl,q⟩:=q1;cases r1;exact jT ⟨H1,I1,q⟩
variable{tA MM:TT}{rest:List Ë}
def Ip(t u:TT):TT:=λσ H Q=>t σ H λc H1=>if c=Ã then u σ H1 Q else Q Â H1
def IY(t u:TT):TT:=λσ H Q=>t σ H λc H1=>if c=Ã then Q Ã H1 else u σ H1 Q
def Il(t:TT):TT:=λσ H Q=>t σ H λc H1=>Q (!c) H1
def pw_and1(ha:PT X a tA):PW X (.BoolOp .And [a] pos) tA:=by
 intro wh ag s σ H Q I h;refine isTrue_and (kC (ha ag s σ H Q I h) λc s1 e=>?_);cases c with
 | true=>exact isTrue_and_nil e
 | false=>exact e
def pw_or1(ha:PT X a tA):PW X (.BoolOp .Or [a] pos) tA:=by
 intro wh ag s σ H Q I h;refine isTrue_or (kC (ha ag s σ H Q I h) λc s1 e=>?_);cases c with
 | false=>exact isTrue_or_nil e
 | true=>exact e
def pw_and(ha:PT X a tA)(hb:PW X (.BoolOp .And (b::rest) pos) MM):PW X (.BoolOp .And (a::b::rest) pos) (Ip tA MM):=by
 intro wh ag s σ H Q I h;refine isTrue_and (kC (ha ag s σ H _ I h) ?_);rintro c s1 ⟨H1,I1,q1⟩;cases c with
 | true=>exact hb wh ag s1 σ H1 Q I1 q1
 | false=>exact⟨H1,I1,q1⟩
def pw_or(ha:PT X a tA)(hb:PW X (.BoolOp .Or (b::rest) pos) MM):PW X (.BoolOp .Or (a::b::rest) pos) (IY tA MM):=by
 intro wh ag s σ H Q I h;refine isTrue_or (kC (ha ag s σ H _ I h) ?_);rintro c s1 ⟨H1,I1,q1⟩;cases c with
 | true=>exact⟨H1,I1,q1⟩
 | false=>exact hb wh ag s1 σ H1 Q I1 q1
def Cc(ha:PT X a tA):PT X (.UnaryOp .Not a pos) (Il tA):=by
 intro ag s σ H Q I h;exact isTrue_not (ha ag s σ H (λc H1=>Q (!c) H1) I h)
def Gm(ta tb:TE):TE:=λσ H Q=>ta σ H λx H1=>∃c,x=.bl c/\if c=Ã then tb σ H1 Q else Q (.bl Â) H1
def HH(ta tb:TE):TE:=λσ H Q=>ta σ H λx H1=>∃c,x=.bl c/\if c=Ã then Q (.bl Ã) H1 else tb σ H1 Q
def Gv(ta:TE):TE:=λσ H Q=>ta σ H λx H1=>∃c,x=.bl c/\Q (.bl (!c)) H1
def Ge{op}{t:TE}(h:PE X a t):PE X (.BoolOp op [a] pos) t:=λag s σ H Q I hw=>BoolOp_one (h ag s σ H Q I hw)
def CC(ha:PE X a ta)(hb:PE X (.BoolOp .And (b::rest) pos) tb):PE X (.BoolOp .And (a::b::rest) pos) (Gm ta tb):=by
 intro ag s σ H Q I h;refine BoolOp_and (kC (ha ag s σ H _ I h) ?_);rintro v s1 ⟨x,H1,I1,r1,q1⟩;obtain⟨c,rfl,q1⟩:=q1;cases r1;refine jT ?_;cases c with
 | true=>exact hb ag s1 σ H1 Q I1 q1
 | false=>exact⟨.bl Â,H1,I1,rfl,q1⟩
def Gr(ha:PE X a ta)(hb:PE X (.BoolOp .Or (b::rest) pos) tb):PE X (.BoolOp .Or (a::b::rest) pos) (HH ta tb):=by
 intro ag s σ H Q I h;refine BoolOp_or (kC (ha ag s σ H _ I h) ?_);rintro v s1 ⟨x,H1,I1,r1,q1⟩;obtain⟨c,rfl,q1⟩:=q1;cases r1;refine jT ?_;cases c with
 | false=>exact hb ag s1 σ H1 Q I1 q1
 | true=>exact⟨.bl Ã,H1,I1,rfl,q1⟩
def FY(ha:PE X a ta):PE X (.UnaryOp .Not a pos) (Gv ta):=by
 intro ag s σ H Q I h;refine UnaryOp_ (kC (ha ag s σ H _ I h) ?_);rintro v s1 ⟨x,H1,I1,r1,q1⟩;obtain⟨c,rfl,q1⟩:=q1;cases r1;exact not_of (jT ⟨.bl (!c),H1,I1,rfl,q1⟩)
def IU(t:TT)(ta tb:TE):TE:=λσ H Q=>t σ H λc H1=>if c=Ã then ta σ H1 Q else tb σ H1 Q
def Yh{c:Ë}(hc:PT X c tA)(ha:PE X a ta)(hb:PE X b tb):PE X (.IfExp c a b pos) (IU tA ta tb):=by
 intro ag s σ H Q I h;refine wpAny_IfExp (kC (hc ag s σ H _ I h) ?_);rintro d s1 ⟨H1,I1,q1⟩;cases d with
 | true=>exact ha ag s1 σ H1 Q I1 q1
 | false=>exact hb ag s1 σ H1 Q I1 q1
end
end L2
namespace L2
open PySem PySem.Spec PyProof.Rows
def SqL(K:S5)(H:Hp)(a:È)(xs:List V):Prop:=
 Rd H a (.lst xs) \/
  ∃(o:î) (cb:Array Ä) (n:Nat),K.lookup a=À o/\o.cls=.type "list" /\ o.dict=Á/\o.data=.seq cb n/\cb.size<=Î/\Vals xs cb.toList
def SqT(K:S5)(H:Hp)(a:È)(xs:List V):Prop:=
 Rd H a (.tup xs) \/
  ∃(o:î) (cb:Array Ä) (n:Nat),K.lookup a=À o/\(o.cls=.type "tuple" /\ o.dict=Á)/\o.data=.seq cb n/\cb.size<=Î/\Vals xs cb.toList
def Iv:Ä->Option V
 | .none=>À .non
 | .bool b=>À (.bl b)
 | .int i _=>À (.int i)
 | .str x _=>À (.str x)
 | .bytes b _=>À (.byt b)
 | .float b _=>À (.flt b)
 | .ref a=>À (.ref a)
 | .type n=>À (.ty n)
 | _=>Á
theorem RelV.abs{x:V}{u:Ä}(r:RelV x u):Iv u=À x:=by
 cases x with
 | non=>cases r;rfl
 | bl _=>cases r;rfl
 | int _=>obtain⟨t,rfl⟩:=r;rfl
 | str _=>obtain⟨t,rfl⟩:=r;rfl
 | byt _=>obtain⟨t,rfl⟩:=r;rfl
 | flt _=>obtain⟨t,rfl⟩:=r;rfl
 | ref _=>cases r;rfl
 | ty _=>cases r;rfl
theorem RelV.inj{x y:V}{u:Ä}(r:RelV x u)(q:RelV y u):x=y:=zZ (r.abs.symm.trans q.abs)
theorem Vals.inj{xs ys:List V}{us:List Ä}(h:Vals xs us)(q:Vals ys us):xs=ys:=by
 induction h generalizing ys with
 | nil=>cases q;rfl
 | cons r t ih=>cases q with | cons r' t'=>rw[r.inj r',ih t']
section
variable{X:Cx}{ag:List (È×î)}{σ:St}{H:Hp}{s:Å}{a:È}{xs ys:List V}
def SqL.of{K:S5}(h:H a=À (.lst xs)):SqL K H a xs:=.inl (.inl h)
def SqT.of{K:S5}(h:H a=À (.tup xs)):SqT K H a xs:=.inl (.inl h)
def Inv.list(I:Inv X ag σ H s)(h:SqL X.K H a xs):∃cb:List Ä,Vals xs cb/\PlainL s.heap a cb.toArray/\xs.length<=Î:=by
 rcases h with h | ⟨o,cb,n,hk,hc,hd,hs,hz,r⟩
 .obtain⟨z,cb,n,r,e⟩:=h.ok I.hok
  exact⟨cb,r,⟨_,n,e,rfl,rfl,rfl⟩,z⟩
 .refine⟨cb.toList,r,⟨o,n,I.kIn a o hk,hc,hd,by simpa using hs⟩,?_⟩
  have e:=r.length;erw[vI] at e;omega
def Inv.tuple(I:Inv X ag σ H s)(h:SqT X.K H a xs):∃cb:List Ä,Vals xs cb/\IsTup s.heap a cb.toArray/\xs.length<=Î:=by
 rcases h with h | ⟨o,cb,n,hk,⟨hc,_⟩,hs,hz,r⟩
 .obtain⟨z,cb,r,p,_⟩:=h.ok I.hok
  exact⟨cb,r,p,z⟩
 .refine⟨cb.toList,r,⟨o,I.kIn a o hk,hc,n,by simpa using hs⟩,?_⟩
  have e:=r.length;erw[vI] at e;omega
def Inv.list_inj(I:Inv X ag σ H s)(h:SqL X.K H a xs)(h':SqL X.K H a ys):xs=ys:=by
 obtain⟨cb,r,⟨o,n,e,_,_,d⟩,_⟩:=I.list h;obtain⟨its',r',⟨o',n',e',_,_,d'⟩,_⟩:=I.list h';rw[e] at e';cases e';rw[d] at d';injection d' with d1 _;have:cb=its':=by simpa using jP Array.toList d1
 subst this;exact r.inj r'
def Inv.tuple_inj(I:Inv X ag σ H s)(h:SqT X.K H a xs)(h':SqT X.K H a ys):xs=ys:=by
 obtain⟨cb,r,⟨o,e,_,n,d⟩,_⟩:=I.tuple h;obtain⟨its',r',⟨o',e',_,n',d'⟩,_⟩:=I.tuple h';rw[e] at e';cases e';rw[d] at d';injection d' with d1 _;have:cb=its':=by simpa using jP Array.toList d1
 subst this;exact r.inj r'
end
abbrev Cx.wish(X:Cx)(E:Ä->Å->Prop):Cx:={ X with xe:=E }
abbrev Cx.nox(X:Cx):Cx:=X.wish λ_ _=>False
theorem Cx.Ok.wish{X:Cx}(ok:X.Ok)(E:Ä->Å->Prop):(X.wish E).Ok:=
 ⟨ok.mod,ok.kind,ok.glob,ok.blt,ok.above,ok.inj,ok.has,ok.cab,ok.hd,ok.frames,ok.stk,ok.exf,ok.bs,ok.bsz,ok.noex,ok.exfs,ok.funs,ok.frf⟩
def Cx.Ok.unwish{X:Cx}{E:Ä->Å->Prop}(ok:(X.wish E).Ok):X.Ok:=
 ⟨ok.mod,ok.kind,ok.glob,ok.blt,ok.above,ok.inj,ok.has,ok.cab,ok.hd,ok.frames,ok.stk,ok.exf,ok.bs,ok.bsz,ok.noex,ok.exfs,ok.funs,ok.frf⟩
section
variable{X:Cx}{ag:List (È×î)}{σ:St}{H:Hp}{s:Å}{E:Ä->Å->Prop}
theorem Inv.wish(I:Inv X ag σ H s)(E:Ä->Å->Prop):Inv (X.wish E) ag σ H s:=⟨I.ok.wish E,I.os,I.bare,I.base,I.loc,I.cell,I.free,I.freeC,I.pin,I.hok,I.len⟩
theorem Inv.unwish(I:Inv (X.wish E) ag σ H s):Inv X ag σ H s:=⟨I.ok.unwish,I.os,I.bare,I.base,I.loc,I.cell,I.free,I.freeC,I.pin,I.hok,I.len⟩
theorem SP.unwish{D:Ends}{f:Flow}{s':Å}(h:SP (X.wish E) ag D f s'):SP X ag D f s':=by
 cases f with
 | next=>obtain⟨hJ,H',I,q⟩:=h;exact⟨hJ,H',I.unwish,q⟩
 | brk=>obtain⟨hJ,H',I,q⟩:=h;exact⟨hJ,H',I.unwish,q⟩
 | cont=>obtain⟨hJ,H',I,q⟩:=h;exact⟨hJ,H',I.unwish,q⟩
 | ret u=>obtain⟨v,hJ,H',I,r,q⟩:=h;exact⟨v,hJ,H',I.unwish,r,q⟩
theorem PSs.nox{st:List Ă}{t:TS}(h:PSs X.nox st t):PSs X st t:=λag s σ H D I hw=>
 qD (h ag s σ H D (I.wish _) hw) (λ_ _ q=>q.unwish) λ_ _ z=>ò z
end
section
variable{X:Cx}{st:Ă}{rest:List Ă}{t u:TS}{e:Ë}{te:TE}{pos:Ċ}
def XX:TS:=λD σ H=>D.nx σ H
def HW(t u:TS):TS:=λD σ H=>t { D with nx:=u D } σ H
def UG:PSs X [] XX:=λ_ _ σ H _ I h=>yd ⟨σ,H,I,h⟩
def WM(h1:PS X st t)(h2:PSs X rest u):PSs X (st::rest) (HW t u):=by
 intro ag s σ H D I h;refine wpAny_execs_cons (kC (h1 ag s σ H { D with nx:=u D } I h) λf s1 q=>?_);cases f with
 | next=>
  obtain⟨hJ,H',I',q⟩:=q;exact h2 ag s1 hJ H' D I' q
 | ret v=>exact q
 | brk=>exact q
 | cont=>exact q
def Up(h1:PS X st t):PSs X [st] t:=by
 intro ag s σ H D I h;refine wpAny_execs_cons (kC (h1 ag s σ H D I h) λf s1 q=>?_);cases f with
 | next=>exact yd q
 | ret v=>exact q
 | brk=>exact q
 | cont=>exact q
def Uc:PS X (.Pass pos) XX:=λ_ _ σ H _ I h=>wpAny_Pass ⟨σ,H,I,h⟩
def Inv.quiet{ag:List (È×î)}{σ:St}{H:Hp}{s:Å}(I:Inv X ag σ H s):interactive X.env=Â:=by simp[interactive,I.ok.kind]
def GY(te:TE):TS:=λD σ H=>te σ H λ_ H1=>D.nx σ H1
def UV(he:PE X e te)(hs:↥(ì e Á pos.line X.env=pure Â)):PS X (.Expr e pos) (GY te):=by
 intro ag s σ H D I h;exact wpAny_Expr_any (kC (he ag s σ H _ I h) λv s1 O6=>(by obtain⟨x,H1,I1,r1,q1⟩:=O6;exact⟨σ,H1,I1,q1⟩)) I.quiet hs
def Ik(te:TE):TS:=λD σ H=>te σ H D.rt
def Df(he:PE X e te):PS X (.Return (À e) pos) (Ik te):=by
 intro ag s σ H D I h;exact wpAny_Return_some (kC (he ag s σ H _ I h) λv s1 O7=>(by obtain⟨x,H1,I1,r1,q1⟩:=O7;exact⟨x,σ,H1,I1,r1,q1⟩))
def Ih(c:TT)(t u:TS):TS:=λD σ H=>c σ H λb H1=>if b=Ã then t D σ H1 else u D σ H1
def Hg{c:Ë}{a b:List Ă}{tc:TT}(hc:PT X c tc)(ha:PSs X a t)(hb:PSs X b u):PS X (.If c a b pos) (Ih tc t u):=by
 intro ag s σ H D I h;refine wpAny_If (kC (hc ag s σ H _ I h) ?_);rintro d s1 ⟨H1,I1,q1⟩;cases d with
 | true=>exact ha ag s1 σ H1 D I1 q1
 | false=>exact hb ag s1 σ H1 D I1 q1
end
abbrev TG:=V->St->Hp->(St->Hp->Prop)->Prop
abbrev pR:=List V->St->Hp->(St->Hp->Prop)->Prop
def PG(X:Cx)(target:Ë)(t:TG):Prop:=
 ∀(ag:List (È×î)) (s:Å) (σ:St) (H:Hp) (v:V) (u:Ä) (Q:St->Hp->Prop),Inv X ag σ H s->RelV v u->t v σ H Q->
  Ê (Ì X.prog X.w) X.A (ĥ target X.env u) (λ_ s'=>∃hJ H',Inv X ag hJ H' s'/\Q hJ H') X.xe s
def PGs(X:Cx)(ts:List Ë)(t:pR):Prop:=
 ∀(ag:List (È×î)) (s:Å) (σ:St) (H:Hp) (vs:List V) (us:List Ä) (Q:St->Hp->Prop),Inv X ag σ H s->Vals vs us->t vs σ H Q->
  Ê (Ì X.prog X.w) X.A (assignInOrder ((ß ts X.env).map (·.2)) us) (λ_ s'=>∃hJ H',Inv X ag hJ H' s'/\Q hJ H') X.xe s
abbrev WO:=V->V->V->Hp->(Hp->Prop)->Prop
def Wr(X:Cx)(t:WO):Prop:=
 ∀(ag:List (È×î)) (s:Å) (σ:St) (H:Hp) (o i v:V) (ov iv u:Ä) (Q:Hp->Prop),Inv X ag σ H s->RelV o ov->RelV i iv->RelV v u->t o i v H Q->
  Ê (Ì X.prog X.w) X.A (Ź ov iv u) (λ_ s'=>∃H',Inv X ag σ H' s'/\Q H') X.xe s
abbrev Xa:=V->V->Hp->VK->Prop
def Va(X:Cx)(op:ŉ)(t:Xa):Prop:=
 ∀(ag:List (È×î)) (s:Å) (σ:St) (H:Hp) (x y:V) (v u:Ä) (Q:VK),Inv X ag σ H s->RelV x v->RelV y u->t x y H Q->
  Ê (Ì X.prog X.w) X.A (inplaceOp op v u) (EP X ag σ Q) X.xe s
section
variable{X:Cx}{pos:Ċ}
def Xh(i:Nat):TG:=λv σ H Q=>Q (σ.set i (À v)) H
def X1{i:Nat}{x:Ç}(hN:X.N.Nodup)(hi:X.N[i]?=À x)(hx:Loc X.env.scope x)(hf:X.fn x=Ã\/X.env.scope.names.lookup x=À .local:=by first | exact .inl rfl | exact .inr rfl | assumption):PG X (.Name x pos) (Xh i):=by
 intro ag s σ H v u Q I r h;exact ŧ (mZ I hN hi hx r (λs' I'=>⟨_,H,I',h⟩) hf)
def HK:pR:=λvs σ H Q=>vs=[]/\Q σ H
def GA(t:TG)(u:pR):pR:=λvs σ H Q=>∃v r,vs=v::r/\t v σ H λhJ H'=>u r hJ H' Q
def UM:PGs X [] HK:=by
 intro ag s σ H vs us Q I r h;obtain⟨e,h⟩:=h;subst e;cases r;exact assignInOrder_nil ⟨σ,H,I,h⟩
def YX{e:Ë}{es:List Ë}{t:TG}{u:pR}(h1:PG X e t)(h2:PGs X es u)
  (hs:↥((ß (e::es) X.env).map (·.2)=ĥ e X.env::(ß es X.env).map (·.2))):PGs X (e::es) (GA t u):=by
 intro ag s σ H vs us Q I r h;obtain⟨v,vr,e1,h⟩:=h;subst e1;cases r with
 | cons r rr=>
  rw[hs];refine assignInOrder_cons (kC (h1 ag s σ H _ _ _ I r h) ?_);rintro _ s1 ⟨EA,H1,I1,q1⟩;exact h2 ag s1 EA H1 _ _ Q I1 rr q1
def Ic(K:S5)(n:Nat)(t:pR):TG:=λv σ H Q=>∃a xs,v=.ref a/\SqT K H a xs/\xs.length=n/\t xs σ H Q
def FH{es:List Ë}{k:Nat}{t:pR}{n:Nat}(hc:X.calm=Ã)(h:PGs X es t)
  (hn:↥((ß es X.env).length=n)) (r9:↥((ß es X.env).findIdx? (·.1)=Á)):PG X (.Tuple es k pos) (Ic X.K n t):=by
 intro ag s σ H v u Q I r hw;obtain⟨a,xs,e1,hq,hl,hw⟩:=hw;subst e1;cases r;obtain⟨cb,rv,ht,hz⟩:=I.tuple hq;refine assign_Tuple_tuple (I.ok.hd hc) ht (by simp[hn,<-hl,rv.length]) r9 λh' hx=>?_
 have I1:Inv X ag σ H { s with heap:=h' }:=I.kept (t':=s.toks) λb o e=>hx b o (zW (zB e)) e
 exact h ag _ σ H xs _ Q I1 (by simpa using rv) hw
def Ig(to ti:TE)(t:WO):TG:=λv σ H Q=>to σ H λo H1=>ti σ H1 λi H2=>t o i v H2 λH3=>Q σ H3
def Dm{o i:Ë}{to ti:TE}{t:WO}(ho:PE X o to)(hi:PE X i ti)(hs:Wr X t)
  (ha:∀v,ĥ (.Subscript o i pos) X.env v=(do
   let ov <-ü [v] (Ú o X.env)
   let iv <-ü [v,ov] (Ú i X.env)
   Ī pos
   ü [v,ov,iv] (Ź ov iv v)
   release [v,ov,iv] []):=by intro _;rfl):PG X (.Subscript o i pos) (Ig to ti t):=by
 intro ag s σ H v u Q I r h;rw[ha];refine za (jd (kC (ho ag s σ H _ I h) ?_));rintro ov s1 ⟨x,H1,I1,r1,q1⟩;refine za (jd (kC (hi ag s1 σ H1 _ I1 q1) ?_));rintro iv s2 ⟨y,H2,I2,r2,q2⟩;refine za (yu (za (jd (kC (hs ag s2 σ H2 x y v ov iv u _ I2 r1 r2 r q2) ?_))));rintro _ s3 ⟨H3,I3,q3⟩;exact wpAny_release ⟨σ,H3,I3,q3⟩
def Fc(te:TE)(g:TG):TS:=λD σ H=>te σ H λx H1=>g x σ H1 D.nx
def FW{tg e:Ë}{te:TE}{g:TG}(he:PE X e te)(hg:PG X tg g)(hs:↥(Ŀ [tg] e pos.line X.env=pure Â))(hw:↥(ŀ [tg] e X.env=pure Á))
  (h1:↥((ß [tg] X.env).map (·.2)=[ĥ tg X.env])):PS X (.Assign [tg] e pos) (Fc te g):=by
 intro ag s σ H D I h;refine wpAny_Assign_stores (kC (he ag s σ H _ I h) ?_) hs hw;rintro v s1 ⟨x,H1,I1,r1,q1⟩;rw[h1];exact kC (hg ag s1 σ H1 x v _ I1 r1 q1) λ_ s2 q=>q
def DW{i:Nat}{x:Ç}{e:Ë}{te:TE}{Ab:Ċ}(hN:X.N.Nodup)(hi:X.N[i]?=À x)(hx:Loc X.env.scope x)(he:PE X e te)(hs:↥(ì e (À (.Name x Ab)) pos.line X.env=pure Â))(hf:X.fn x=Ã\/X.env.scope.names.lookup x=À .local:=by first | exact .inl rfl | exact .inr rfl | assumption) :
  PS X (.Assign [.Name x Ab] e pos) (Fc te (Xh i)):=by
 intro ag s σ H D I h;refine wpAny_Assign_Name (kC (he ag s σ H _ I h) ?_) hs;rintro v s1 ⟨y,H1,I1,r1,q1⟩;exact mZ I1 hN hi hx r1 (λs2 I2=>⟨_,H1,I2,q1⟩) hf
def Ib(i:Nat)(te:TE)(ti:Xa):TS:=λD σ H=>∃x,σ[i]?=À (À x)/\te σ H λy H1=>ti x y H1 λz H2=>D.nx (σ.set i (À z)) H2
def Dt{i:Nat}{x:Ç}{e:Ë}{te:TE}{op:ŉ}{ti:Xa}{Ab:Ċ}(hN:X.N.Nodup)(hi:X.N[i]?=À x)(hx:Loc X.env.scope x)(he:PE X e te)(ho:Va X op ti)(hf:X.fn x=Ã\/X.env.scope.names.lookup x=À .local:=by first | exact .inl rfl | exact .inr rfl | assumption) :
  PS X (.AugAssign (.Name x Ab) op e pos) (Ib i te ti):=by
 intro ag s σ H D I h;obtain⟨v,e1,h⟩:=h;obtain⟨m,hn,hl⟩:=I.loc;have Nm:KI X.env.scope x:=by rcases hx with k | k;exact .inl k;exact .inr (.inl k)
 obtain⟨u,r,l⟩:=hl i x v hi e1 Nm;refine wpAny_AugAssign_Name ?_;have go:Ê (Ì X.prog X.w) X.A (Ú e X.env) (λw Au=>Ê (Ì X.prog X.w) X.A (inplaceOp op u w) (λr AN=>Ê (Ì X.prog X.w) X.A (storeName X.env x r) (λ_=>SP X ag D .next) X.xe AN) X.xe Au) X.xe s:=by
  refine kC (he ag s σ H _ I h) ?_;rintro w s1 ⟨y,H1,I1,r1,q1⟩;refine kC (ho ag s1 σ H1 v y u w _ I1 r r1 q1) ?_;rintro z s2 ⟨zv,H2,I2,r2,q2⟩;exact mZ I2 hN hi hx r2 (λs3 I3=>⟨_,H2,I3,q2⟩) hf
 rcases l with ⟨hk,hm⟩ | ⟨hk,c,hc,AE⟩
 .exact Œ I.ok.kind hk hn hm go
 .rcases hk with hk | hk
  .exact ś I.ok.kind hk hc AE go
  .rcases hx with k | k
   .have:X.env.scope.names.lookup x=À .free:=hk
    rw[k] at this;cases this
   .have:X.env.scope.names.lookup x=À .free:=hk
    rw[k] at this;cases this
def IZ(f:Int->Int->Int):Xa:=λx y H Q=>∃i j,x=.int i/\y=.int j/\Q (.int (f i j)) H
def DT:Va X .Add (IZ λi j=>i+j):=by
 intro ag s σ H x y v u Q I r1 r2 h;obtain⟨i,j,e1,e2,q⟩:=h;subst e1;subst e2;obtain⟨t,rfl⟩:=r1;obtain⟨t',rfl⟩:=r2;exact iadd_int ⟨.int _,H,I.tok _,⟨_,rfl⟩,q⟩
end
section
variable{X:Cx}{pos:Ċ}
def B8(c:TT)(tb:TS):TS:=λD σ H=>∃W:Nat->St->Hp->Prop,(∃m,W m σ H)/\∀m σ H,W m σ H->
 c σ H λb H1=>if b=Ã then ∃N:St->Hp->Prop,(∀hJ H',N hJ H'->∃m',m'<m/\W m' hJ H')/\tb { D with nx:=N,ct:=N,bk:=D.nx } σ H1 else D.nx σ H1
def Yc{c:Ë}{body:List Ă}{tc:TT}{tb:TS}(hp:ŗ (Ì X.prog X.w) X.A X.env X.xe)(hc:PT X c tc)(hb:PSs X body tb):PS X (.While c body [] pos) (B8 tc tb):=by
 intro ag s σ H D I h;obtain⟨W,⟨m0,w0⟩,turn⟩:=h;refine wpAny_While (codeAny_whileLoop (λn s'=>∃hJ H',Inv X ag hJ H' s'/\W n hJ H') ?_ m0 ⟨σ,H,I,w0⟩);rintro n s1 ⟨EA,H1,I1,w1⟩;refine qM hp (kC (hc ag s1 EA H1 _ I1 (turn n EA H1 w1)) ?_);rintro b s2 ⟨H2,I2,q2⟩;cases b with
 | true=>
  obtain⟨N,hN,q2⟩:=q2;rw[z9 rfl];refine qM hp (kC (hb ag s2 EA H2 _ I2 q2) λf s3 q3=>?_);cases f with
  | next=>
   obtain⟨AO,H3,I3,n3⟩:=q3;obtain⟨m',hm,w3⟩:=hN AO H3 n3;exact⟨m',hm,AO,H3,I3,w3⟩
  | cont=>
   obtain⟨AO,H3,I3,n3⟩:=q3;obtain⟨m',hm,w3⟩:=hN AO H3 n3;exact⟨m',hm,AO,H3,I3,w3⟩
  | brk=>exact q3
  | ret v=>exact q3
 | false=>
  rw[kI zX];exact yd ⟨EA,H2,I2,q2⟩
end
structure It where
 go:Nat->Hp->Prop
 yld:Nat->Hp->V->Hp->Prop
 stop:Nat->Hp->Prop
def ah(X:Cx)(ag:List (È×î))(H:Hp)(b:È):Prop:=
 H b=Á/\b≠X.env.locals/\b∉X.fs/\(b∈X.ex\/X.s₀.heap.objs.size<=b)/\(∀x c,X.env.cells.lookup x=À c->c≠b)/\∀p∈X.pn++ag,p.1≠b
def Inv.fpOk{X:Cx}{ag:List (È×î)}{σ:St}{H H':Hp}{s:Å}{b:È}(I:Inv X ag σ H s)(hb:s.heap.objs.size<=b)(hn:H' b=Á):ah X ag H' b:=by
 refine⟨hn,ql (zL I.lt hb),I.nofs hb,.inr (zK I.sz hb),λx c e z=>?_,λp hp z=>?_⟩
 .obtain⟨v,q⟩:=I.cell x c e
  exact absurd (zL q.lt (by rw[z];exact hb)) (jF _)
 .exact absurd (zL (zB (I.pin p hp).1) (by rw[z];exact hb)) (jF _)
structure Turn(P:Í)(w:Ñ)(K:S5)(tg:Ë)(J:It)(fp:List È)(it:È)(tn:Nat->Ï->Prop):Prop where
 mem:it∈fp
 obj:∀i h,tn i h->∀b∈fp,∃o,h.get? b=À o/\∀v,o.data≠.cell v
 keep:∀i h h',tn i h->(∀b∈fp,∀o,h.get? b=À o->h'.get? b=À o)->tn i h'
 item:∀(X:Cx),X.prog=P->X.w=w->X.K=K->X.calm=Ã->∀(i:Nat) (ag:List (È×î)) (s:Å) (σ:St) (H:Hp) (E:Ä->Å->Prop),Inv X ag σ H s->(∀b∈fp,ah X ag H b)->tn i s.heap->J.go i H->
  Ê (Ì P w) X.A (Ā (.ref it)) (λr s1=>∃u,r=À u /\
   Ê (Ì P w) X.A (Ħ tg (.ref it) u) (λ_ s2=>∃x H',Inv X ag σ H' s2/\RelV x u/\J.yld i H x H'/\tn (i+1) s2.heap/\∀b∈fp,H' b=Á) E s1) E s
 done:∀(X:Cx),X.prog=P->X.w=w->X.K=K->X.calm=Ã->∀(i:Nat) (ag:List (È×î)) (s:Å) (σ:St) (H:Hp) (E:Ä->Å->Prop),Inv X ag σ H s->(∀b∈fp,ah X ag H b)->tn i s.heap->J.stop i H->
  Ê (Ì P w) X.A (Ā (.ref it)) (λr s1=>r=Á/\Inv X ag σ H s1) E s
 self:∀(A:Ö) (i:Nat) (s:Å) (Q:Ä->Å->Prop) (E:Ä->Å->Prop),tn i s.heap->Q (.ref it) s->Ê (Ì P w) A (Ł (.ref it)) Q E s
abbrev TI:=St->Hp->(It->Hp->Prop)->Prop
def PIE(X:Cx)(ag:List (È×î))(σ:St)(tg:Ë)(R:It->Hp->Prop)(Nn:Ä)(s2:Å):Prop:=
 ∃(it:È) (fp:List È) (tn:Nat->Ï->Prop) (J:It) (H':Hp),Nn=.ref it/\Inv X ag σ H' s2/\Turn X.prog X.w X.K tg J fp it tn/\tn 0 s2.heap/\(∀b∈fp,ah X ag H' b)/\R J H'
def PI(X:Cx)(tg iter:Ë)(wi:TI):Prop:=
 ∀(ag:List (È×î)) (s:Å) (σ:St) (H:Hp) (R:It->Hp->Prop),Inv X ag σ H s->wi σ H R->
  Ê (Ì X.prog X.w) X.A (Ú iter X.env) (λv s1=>Ê (Ì X.prog X.w) X.A (Ł v) (PIE X ag σ tg R) X.xe s1) X.xe s
def nD {M : Model} {A : Ö} {E : Ä -> Å -> Prop} {s : Å} {tg : Ë} {it : È} {u : Ä} {o : î} {n : String} {vs : Array Ä} {Q : Unit -> Å -> Prop} (ho : s.heap.get? it = À o) (hc : o.cls = .type n) (hd : o.data = .fields vs)
    (hn : ["enumerate", "zip", "dict_itemiterator", "dict_reverseitemiterator", "odict_iterator", "itertools.zip_longest", "itertools.pairwise"].contains n = Â) (hQ : Q () s) : Ê M A (Ħ tg (.ref it) u) Q E s := by
  unfold Ħ;cases tg <;> first
    | exact zr hQ
    | (cases u <;> first
        | exact zr hQ
        | (refine za (ſ ho ?_)
           rw [hc, hd];show Ê M A (if (["enumerate", "zip", "dict_itemiterator", "dict_reverseitemiterator", "odict_iterator", "itertools.zip_longest", "itertools.pairwise"].contains n && vs[0]? == À (ă _)) = Ã then _ else _) Q E s
           rw [kI (by intro h;rw [hn, Bool.false_and] at h;cases h)]
           exact zr hQ))
def Xj(K:S5)(a:È):It:=
 ⟨λi H=>∃xs x,SqL K H a xs/\xs[i]?=À x,λi H x H'=>H'=H/\∀xs,SqL K H a xs->xs[i]?=À x,λi H=>∃xs,SqL K H a xs/\xs.length<=i⟩
def FE(K:S5)(a:È):It:=
 ⟨λi H=>∃xs x,SqT K H a xs/\xs[i]?=À x,λi H x H'=>H'=H/\∀xs,SqT K H a xs->xs[i]?=À x,λi H=>∃xs,SqT K H a xs/\xs.length<=i⟩
def Xu(lo:Int)(n:Nat):It:=⟨λi _=>i<n,λi H x H'=>H'=H/\x=.int (lo+i),λi _=>n<=i⟩
def Qd{P:Í}{w:Ñ}{K:S5}{tg:Ë}(a it:È):Turn P w K tg (Xj K a) [it] it (λi h=>h.IsListIter it a i) where
 mem:=by simp
 obj:=λi h st b hb=>by
  have e:b=it:=by simpa using hb
  subst e;obtain⟨o,e,c,d⟩:=st;exact⟨o,e,λv z=>by rw[d] at z;cases z⟩
 keep:=λi h h' st k=>st.at λo e=>k it (by simp) o e
 item:=by
  intro X hP hw hK hc i ag s σ H E I hf st hg;subst hP hw hK;obtain⟨xs,x,hq,hx⟩:=hg;obtain⟨cb,rv,p,hz⟩:=I.list hq;obtain⟨u,hu,ru⟩:=rv.get hx;obtain⟨f0,f1,f2,f3,f4,f5⟩:=hf it (by simp);refine wpAny_pyNext_list_item st p.isList (x:=u) (by simpa using hu) λh' st' sb=>?_
  have I1:Inv X ag σ H { s with heap:=h' }:=I.turned (t':=s.toks) (λb o hb e=>(sb.2 b hb).trans e) f0 f1 f3 f4 f5;obtain⟨o,e,c,d⟩:=id st';exact⟨u,rfl,nD (s:={ s with heap:=h' }) e c d (by decide) ⟨x,H,I1,ru,⟨rfl,λys hy=>by rw[I.list_inj hy hq];exact hx⟩,st',λb hb=>(hf b hb).1⟩⟩
 done:=by
  intro X hP hw hK hc i ag s σ H E I hf st hg;subst hP hw hK;obtain⟨xs,hq,hx⟩:=hg;obtain⟨cb,rv,p,hz⟩:=I.list hq;obtain⟨f0,f1,f2,f3,f4,f5⟩:=hf it (by simp);have hl:=rv.length;exact wpAny_pyNext_list_end (I.ok.hd hc) st p.isList (by simp;omega) λh' eb=>⟨rfl,I.turned (t':=s.toks) (λb o hb e=>eb b o hb e) f0 f1 f3 f4 f5⟩
 self:=λ_ _ _ _ _ st h=>wpAny_pyIter_listiter st h
def JS{P:Í}{w:Ñ}{K:S5}{tg:Ë}(a it:È):Turn P w K tg (FE K a) [it] it (λi h=>h.IsTupleIter it a i) where
 mem:=by simp
 obj:=λi h st b hb=>by
  have e:b=it:=by simpa using hb
  subst e;obtain⟨o,e,c,d⟩:=st;exact⟨o,e,λv z=>by rw[d] at z;cases z⟩
 keep:=λi h h' st k=>st.at λo e=>k it (by simp) o e
 item:=by
  intro X hP hw hK hc i ag s σ H E I hf st hg;subst hP hw hK;obtain⟨xs,x,hq,hx⟩:=hg;obtain⟨cb,rv,p,hz⟩:=I.tuple hq;obtain⟨u,hu,ru⟩:=rv.get hx;obtain⟨f0,f1,f2,f3,f4,f5⟩:=hf it (by simp);refine wpAny_pyNext_tuple_item st (show s.heap.IsTuple a cb.toArray from p) (x:=u) (by simpa using hu) λh' st' sb=>?_
  have I1:Inv X ag σ H { s with heap:=h' }:=I.turned (t':=s.toks) (λb o hb e=>(sb.2 b hb).trans e) f0 f1 f3 f4 f5;obtain⟨o,e,c,d⟩:=id st';exact⟨u,rfl,nD (s:={ s with heap:=h' }) e c d (by decide) ⟨x,H,I1,ru,⟨rfl,λys hy=>by rw[I.tuple_inj hy hq];exact hx⟩,st',λb hb=>(hf b hb).1⟩⟩
 done:=by
  intro X hP hw hK hc i ag s σ H E I hf st hg;subst hP hw hK;obtain⟨xs,hq,hx⟩:=hg;obtain⟨cb,rv,p,hz⟩:=I.tuple hq;obtain⟨f0,f1,f2,f3,f4,f5⟩:=hf it (by simp);have hl:=rv.length;exact wpAny_pyNext_tuple_end (I.ok.hd hc) st (show s.heap.IsTuple a cb.toArray from p) (by simp;omega) λh' eb=>⟨rfl,I.turned (t':=s.toks) (λb o hb e=>eb b o hb e) f0 f1 f3 f4 f5⟩
 self:=λ_ _ _ _ _ st h=>wpAny_pyIter_tupleiter st h
def K2{P:Í}{w:Ñ}{K:S5}{tg:Ë}(it:È)(lo:Int)(n:Nat):Turn P w K tg (Xu lo n) [it] it (λi h=>IsRangeIter h it (lo+(i:Nat)*1) ((n:Int)-(i:Nat)) 1) where
 mem:=by simp
 obj:=λi h st b hb=>by
  have e:b=it:=by simpa using hb
  subst e
  exact⟨_,st,λv z=>by
   have z':Data.fields _=Data.cell v:=z
   cases z'⟩
 keep:=λi h h' st k=>k it (by simp) _ st
 item:=by
  intro X hP hw hK hc i ag s σ H E I hf st hg;subst hP hw hK;obtain⟨f0,f1,f2,f3,f4,f5⟩:=hf it (by simp);have W:=Walks.range (prog:=X.prog) (w:=X.w) (I.ok.hd hc) it lo 1 n;refine W.item i s _ _ hg st λv h' tk hv st' kk=>?_
  obtain⟨t,rfl⟩:=hv;have I1:Inv X ag σ H { s with heap:=h',toks:=tk }:=I.turned (λb o hb e=>kk b o (by simpa using hb) e) f0 f1 f3 f4 f5;refine⟨_,rfl,nD (s:={ s with heap:=h',toks:=tk }) (n:="range_iterator") st' rfl rfl (by decide) ⟨.int (lo+i),H,I1,⟨t,?_⟩,⟨rfl,rfl⟩,st',λb hb=>(hf b hb).1⟩⟩;rw[Int.mul_one]
 done:=by
  intro X hP hw hK hc i ag s σ H E I hf st hg;subst hP hw hK;obtain⟨f0,f1,f2,f3,f4,f5⟩:=hf it (by simp);exact wpAny_pyNext_range_end (I.ok.hd hc) st (by have:n<=i:=hg;omega) λh' eb=>⟨rfl,I.turned (t':=s.toks) (λb o hb e=>eb b o hb e) f0 f1 f3 f4 f5⟩
 self:=λ_ _ _ _ _ st h=>wpAny_pyIter_rangeiter st h
end L2
namespace L2
open PySem PySem.Spec PyProof.Rows
section
variable{X:Cx}{tg:Ë}
def WL{ag:List (È×î)}{σ:St}{H:Hp}{s:Å}{R:It->Hp->Prop}{E:Ä->Å->Prop}{lo hi:Int}{t u v:Tok}{tk:Nat}(I:Inv X ag σ H s)(h1:-(2 ^ 62)<=lo)(h2:lo<2 ^ 62)(h3:-(2 ^ 62)<=hi)(h4:hi<2 ^ 62)
  (q:R (Xu lo (hi-lo).toNat) H):Ê (Ì X.prog X.w) X.A (Ł (.ref s.heap.objs.size)) (PIE X ag σ tg R) E { s with heap:=s.heap.push { cls:=.type "range",data:=.fields #[.int lo t,.int hi u,.int 1 v] },toks:=tk }:=by
 refine wpAny_pyIter_range (IsRange.new ..) (small_one h1 h2 h3 h4) ?_;have I1:Inv X ag σ H { s with heap:=s.heap.push { cls:=.type "range",data:=.fields #[.int lo t,.int hi u,.int 1 v] },toks:=tk }:=I.kept λb o e=>zf _ e
 refine⟨(s.heap.push { cls:=.type "range",data:=.fields #[.int lo t,.int hi u,.int 1 v] }).objs.size,[(s.heap.push { cls:=.type "range",data:=.fields #[.int lo t,.int hi u,.int 1 v] }).objs.size],_,_,H,rfl,
  I1.kept (t':=tk) λb o e=>zf _ e,K2 _ lo (hi-lo).toNat,?_,λb hb=>?_,q⟩
 .have e1:lo+((0:Nat):Int)*1=lo:=by simp
  have e2:(((hi-lo).toNat:Nat):Int)-((0:Nat):Int)=Builtin.Range.rangeSize lo hi 1:=by rw[rangeSize_one];split<;>omega
  show IsRangeIter _ _ (lo+((0:Nat):Int)*1) ((((hi-lo).toNat:Nat):Int)-((0:Nat):Int)) 1
  rw[e1,e2];exact zN _ rfl
 .have e:b=(s.heap.push { cls:=.type "range",data:=.fields #[.int lo t,.int hi u,.int 1 v] }).objs.size:=by simpa using hb
  subst e;exact I1.fpOk (zj _) (I1.hok.fresh (zj _))
def Gg(ta:TA):TI:=λσ H R=>ta σ H λvs H1=>∃j:Int,vs=[.int j]/\-(2 ^ 62)<=j/\j<2 ^ 62/\R (Xu 0 j.toNat) H1
def QI{a:Ë}{ta:TA}{p pos:Ċ}(hg:Gl X "range")(hm:X.mg "range" = Á)(ha:PA X [a] ta)(hs:↥(É [a] X.env=[(Â,Ú a X.env)])):PI X tg (.Call (.Name "range" p) [a] [] pos) (Gg ta):=by
 intro ag s σ H R I h;refine Call_ (uz I hg hm boot_range (jr (kC (ha pos ag s σ H _ I h) ?_) hs rfl));rintro us s1 ⟨vs,H1,I1,r1,q1⟩;obtain⟨j,e,q1,q2,q⟩:=q1;subst e;cases r1 with
 | cons r rr=>
  cases rr;obtain⟨t,rfl⟩:=r;exact call_range_1 (WL I1 ∅ ∅ q1 q2 (by simpa using q))
def Iz(wi:TI)(g:TG)(tb:TS):TS:=λD σ H=>wi σ H λJ H1=>∃W:Nat->Nat->St->Hp->Prop,(∃m,W 0 m σ H1)/\∀i m σ H,W i m σ H->
 (J.stop i H/\D.nx σ H)\/(J.go i H/\∃N:St->Hp->Prop,(∀hJ H',N hJ H'->∃m',m'<m/\W (i+1) m' hJ H')/\∀x H',J.yld i H x H'->g x σ H' λA7 H2=>tb { D with nx:=N,ct:=N,bk:=D.nx } A7 H2)
def li(fp:List È)(h:Ï):List (È×î):=fp.filterMap λb=>(h.get? b).map λo=>(b,o)
def cy{fp:List È}{h:Ï}{b:È}{o:î}(hb:b∈fp)(e:h.get? b=À o):(b,o)∈li fp h:=xT.mpr ⟨b,hb,by rw[e];rfl⟩
def Qc{fp:List È}{h:Ï}{p:È×î}(hp:p∈li fp h):p.1∈fp/\h.get? p.1=À p.2:=by
 obtain⟨b,hb,e⟩:=xT.mp hp;cases q:h.get? b with
 | none=>rw[q] at e;cases e
 | some o=>
  rw[q] at e;have e':(b,o)=p:=zZ e;subst e';exact⟨hb,q⟩
def Inv.pinned{ag:List (È×î)}{σ:St}{H:Hp}{s:Å}{fp:List È}(I:Inv X ag σ H s)(hf:∀b∈fp,ah X ag H b)(ho:∀b∈fp,∃o,s.heap.get? b=À o/\∀v,o.data≠.cell v):Inv X (ag++li fp s.heap) σ H s:=
 I.pins_of λp hp=>(zU.mp hp).elim (λz=>I.pin p (kY _ z)) λz=>by
  obtain⟨hb,e⟩:=Qc z;obtain⟨f0,f1,f2,_⟩:=hf p.1 hb;obtain⟨o,e',d⟩:=ho p.1 hb;rw[e] at e';cases e';exact⟨e,f0,f1,f2,d⟩
def Inv.unpinned{ag pl:List (È×î)}{σ:St}{H:Hp}{s:Å}(I:Inv X (ag++pl) σ H s):Inv X ag σ H s:=I.pins_of λp hp=>I.pin p (kY _ (jx _ hp))
def Fj{iter:Ë}{body:List Ă}{wi:TI}{g:TG}{tb:TS}{pos:Ċ}(hp:ŗ (Ì X.prog X.w) X.A X.env X.xe)(hc:X.calm=Ã)(hi:PI X tg iter wi)(hg:PG X tg g)(hb:PSs X body tb)
  (hs:∀x,á iter X.env x=pure x:=by intro _;rfl):PS X (.For tg iter body [] pos) (Iz wi g tb):=by
 intro ag s σ H D I h;refine wpAny_For (kC (hi ag s σ H _ I h) λv s1 h1=>kC h1 λNn s2 h2=>?_) hs;obtain⟨it,fp,tn,J,H2,e,I2,T,AF,f2,W,⟨m0,w0⟩,turn⟩:=h2;subst e;have FK:∀{H':Hp},(∀b∈fp,H' b=Á)->∀b∈fp,ah X ag H' b:=λhn b hb=>⟨hn b hb,(f2 b hb).2⟩
 refine codeAny_forLoop_any (λn s'=>∃i hJ H',Inv X ag hJ H' s'/\tn i s'.heap/\(∀b∈fp,H' b=Á)/\W i n hJ H') ?_ m0 ⟨0,σ,H2,I2,AF,λb hb=>(f2 b hb).1,w0⟩;rintro n s3 ⟨i,AO,H3,I3,L6,MN,w3⟩;rcases turn i n AO H3 w3 with ⟨stop,qn⟩ | ⟨go,N,hN,step⟩
 .refine qM hp (kC (T.done X rfl rfl rfl hc i ag s3 AO H3 X.xe I3 (FK MN) L6 stop) ?_)
  rintro r s4 ⟨hr,I4⟩;subst hr;exact yd ⟨AO,H3,I4,qn⟩
 .refine qM hp (kC (T.item X rfl rfl rfl hc i ag s3 AO H3 X.xe I3 (FK MN) L6 go) ?_)
  rintro r s4 ⟨u,hr,h4⟩;subst hr;refine qM hp (kC h4 ?_);rintro _ s5 ⟨x,H5,I5,r5,y5,FM,Np⟩;have Nq:=I5.pinned (FK Np) (T.obj _ _ FM);refine qM hp (kC (hg _ s5 AO H5 x u _ Nq r5 (step x H5 y5)) ?_);rintro _ s6 ⟨Et,H6,I6,q6⟩;refine qM hp (kC (hb _ s6 Et H6 _ I6 q6) λf s7 q7=>?_);have again:∀{Ee:St} {H7:Hp},Inv X (ag++li fp s5.heap) Ee H7 s7->N Ee H7->∃m,m<n/\∃i hJ H',Inv X ag hJ H' s7/\tn i s7.heap/\(∀b∈fp,H' b=Á)/\W i m hJ H':=λ{Ee H7} I7 n7=>by
   obtain⟨m',hm,w7⟩:=hN Ee H7 n7;refine⟨m',hm,i+1,Ee,H7,I7.unpinned,T.keep _ _ _ FM λb hb o e=>(I7.pin (b,o) (kY _ (kY _ (cy hb e)))).1,λb hb=>?_,w7⟩;obtain⟨o,e,d⟩:=T.obj _ _ FM b hb;exact(I7.pin (b,o) (kY _ (kY _ (cy hb e)))).2.1
  cases f with
  | next=>obtain⟨Ee,H7,I7,n7⟩:=q7;exact again I7 n7
  | cont=>obtain⟨Ee,H7,I7,n7⟩:=q7;exact again I7 n7
  | brk=>obtain⟨Ee,H7,I7,q7⟩:=q7;exact⟨Ee,H7,I7.unpinned,q7⟩
  | ret v=>obtain⟨x7,Ee,H7,I7,r7,q7⟩:=q7;exact⟨x7,Ee,H7,I7.unpinned,r7,q7⟩
end
end L2
namespace L2
open PySem PySem.Spec PyProof.Rows
abbrev R2:=V->V->Hp->VK->Prop
def jI(X:Cx)(f:Ä->Ä->Sem Ä)(r:R2):Prop:=
 ∀(ag:List (È×î)) (s:Å) (σ:St) (H:Hp) (x y:V) (v u:Ä) (Q:VK),Inv X ag σ H s->RelV x v->RelV y u->r x y H Q->
  Ê (Ì X.prog X.w) X.A (f v u) (EP X ag σ Q) X.xe s
def VC(X:Cx)(f:Ä->Sem Ä)(r:V->Hp->VK->Prop):Prop:=
 ∀(ag:List (È×î)) (s:Å) (σ:St) (H:Hp) (x:V) (v:Ä) (Q:VK),Inv X ag σ H s->RelV x v->r x H Q->
  Ê (Ì X.prog X.w) X.A (f v) (EP X ag σ Q) X.xe s
def yB(X:Cx)(f:Ä)(r:List V->Hp->VK->Prop):Prop:=
 ∀(ag:List (È×î)) (s:Å) (σ:St) (H:Hp) (xs:List V) (us:List Ä) (Q:VK),Inv X ag σ H s->Vals xs us->r xs H Q->
  Ê (Ì X.prog X.w) X.A (Ŋ f us) (EP X ag σ Q) X.xe s
def QO(r:R2)(ta tb:TE):TE:=λσ H Q=>ta σ H λx H1=>tb σ H1 λy H2=>r x y H2 Q
def La(r:V->Hp->VK->Prop)(ta:TE):TE:=λσ H Q=>ta σ H λx H1=>r x H1 Q
def rI(C:Int->Int->Prop)(g:Int->Int->V):R2:=λx y H Q=>∃i j,x=.int i/\y=.int j/\C i j/\Q (g i j) H
def rC(g:Int->Int->V):R2:=λx y H Q=>∃i j,x=.int i/\y=.int j/\Q (g i j) H
def rU(g:Int->V):V->Hp->VK->Prop:=λx H Q=>∃i,x=.int i/\Q (g i) H
section
variable{X:Cx}{a b c:Ë}{ta tb tc:TE}{pos:Ċ}
def YJ(ha:PE X a ta)(hb:PE X b tb){ag:List (È×î)}{s:Å}{σ:St}{H:Hp}{R:V->V->Hp->Prop}(I:Inv X ag σ H s)
  (h:ta σ H λx H1=>tb σ H1 λy H2=>R x y H2) {Q:Ä->Å->Prop} {f:Ä->Ä->Sem Ä}
  (hf:∀v u s2 x y H2,Inv X ag σ H2 s2->RelV x v->RelV y u->R x y H2->Ê (Ì X.prog X.w) X.A (f v u) Q X.xe s2) :
  Ê (Ì X.prog X.w) X.A (Ú a X.env) (λv hG=>Ê (Ì X.prog X.w) X.A (Ú b X.env) (λu Au=>Ê (Ì X.prog X.w) X.A (f v u) Q X.xe Au) X.xe hG) X.xe s:=by
 refine kC (ha ag s σ H _ I h) ?_;rintro v s1 ⟨x,H1,I1,r1,q1⟩;refine kC (hb ag s1 σ H1 _ I1 q1) ?_;rintro u s2 ⟨y,H2,I2,r2,q2⟩;exact hf v u s2 x y H2 I2 r1 r2 q2
def GW{op:ŉ}{r:R2}(ho:jI X (ä op) r)(ha:PE X a ta)(hb:PE X b tb):PE X (.BinOp a op b pos) (QO r ta tb):=by
 intro ag s σ H Q I h;exact wpAny_BinOp (YJ ha hb I h λv u s2 x y H2 I2 rx ry q=>ho ag s2 σ H2 x y v u Q I2 rx ry q)
def GQ{op:UnaryOp}{r:V->Hp->VK->Prop}(ho:VC X (unaryOp op) r)(ha:PE X a ta):PE X (.UnaryOp op a pos) (La r ta):=by
 intro ag s σ H Q I h;exact UnaryOp_ (kC (ha ag s σ H _ I h) λv s1 O8=>(by obtain⟨x,H1,I1,r1,q1⟩:=O8;exact ho ag s1 σ H1 x v Q I1 r1 q1))
def CS{f:Ä->Ä->Sem Ä}{C:Int->Int->Prop}{g:Int->Int->Int}
  (rule:∀(i j:Int) (t u:Tok) (s:Å) (Q:Ä->Å->Prop) (E:Ä->Å->Prop),C i j->Q (.int (g i j) s.toks) { s with toks:=s.toks+1 }->Ê (Ì X.prog X.w) X.A (f (.int i t) (.int j u)) Q E s) :
  jI X f (rI C λi j=>.int (g i j)):=by
 intro ag s σ H x y v u Q I rx ry h;obtain⟨i,j,rfl,rfl,hc,q⟩:=h;obtain⟨t,rfl⟩:=rx;obtain⟨t',rfl⟩:=ry;exact rule i j t t' s _ _ hc ⟨.int (g i j),H,I.tok _,⟨_,rfl⟩,q⟩
def Dw{f:Ä->Ä->Sem Ä}{g:Int->Int->Int}
  (rule:∀(i j:Int) (t u:Tok) (s:Å) (Q:Ä->Å->Prop) (E:Ä->Å->Prop),Q (.int (g i j) s.toks) { s with toks:=s.toks+1 }->Ê (Ì X.prog X.w) X.A (f (.int i t) (.int j u)) Q E s) :
  jI X f (rC λi j=>.int (g i j)):=by
 intro ag s σ H x y v u Q I rx ry h;obtain⟨i,j,rfl,rfl,q⟩:=h;obtain⟨t,rfl⟩:=rx;obtain⟨t',rfl⟩:=ry;exact rule i j t t' s _ _ ⟨.int (g i j),H,I.tok _,⟨_,rfl⟩,q⟩
def YB{f:Ä->Ä->Sem Ä}{g:Int->Int->Bool}
  (rule:∀(i j:Int) (t u:Tok) (s:Å) (Q:Ä->Å->Prop) (E:Ä->Å->Prop),Q (.bool (g i j)) s->Ê (Ì X.prog X.w) X.A (f (.int i t) (.int j u)) Q E s) :
  jI X f (rC λi j=>.bl (g i j)):=by
 intro ag s σ H x y v u Q I rx ry h;obtain⟨i,j,rfl,rfl,q⟩:=h;obtain⟨t,rfl⟩:=rx;obtain⟨t',rfl⟩:=ry;exact rule i j t t' s _ _ ⟨.bl (g i j),H,I,rfl,q⟩
def HL(i j:Int):Prop:=0<j/\j<1073741824
def CMul(i j:Int):Prop:=(-(2 ^ 64)<i/\i<2 ^ 64)\/(-(2 ^ 64)<j/\j<2 ^ 64)
def CMul.ok{i j:Int}(h:CMul i j):IntMulOk i j:=by
 rcases h with ⟨h1,h2⟩ | ⟨h1,h2⟩
 .exact .of_left (intBits_le_64 h1 h2)
 .exact .of_right (intBits_le_64 h1 h2)
def Dd:jI X (ä .Add) (rC λi j=>.int (i+j)):=Dw λ_ _ _ _ _ _ _ q=>add_int q
def Cv:jI X (ä .Sub) (rC λi j=>.int (i-j)):=Dw λ_ _ _ _ _ _ _ q=>sub_int q
def Ft:jI X (ä .Mult) (rI CMul λi j=>.int (i*j)):=CS λ_ _ _ _ _ _ _ hc q=>mul_int q hc.ok
def UW:jI X (ä .FloorDiv) (rI HL λi j=>.int (i/j)):=CS λi j _ _ _ _ _ hc q=>by
 have h1:(0:Int)<j:=hc.1;have h2:j<1073741824:=hc.2;exact floordiv_int ∅ (by rw[Int.fdiv_eq_ediv_of_nonneg i ∅];exact q) (.inl (PyProof.noPylong_small ∅))
def CN:jI X (ä .Mod) (rI (λ_ j=>0<j) λi j=>.int (i%j)):=CS λi j _ _ _ _ _ hc q=>by
 have h1:(0:Int)<j:=hc;exact mod_int' ∅ (by rw[Int.fmod_eq_emod_of_nonneg i ∅];exact q)
def Ld{f:Ä->Sem Ä}{g:Int->Int}
  (rule:∀(i:Int) (t:Tok) (s:Å) (Q:Ä->Å->Prop) (E:Ä->Å->Prop),Q (.int (g i) s.toks) { s with toks:=s.toks+1 }->Ê (Ì X.prog X.w) X.A (f (.int i t)) Q E s) :
  VC X f (rU λi=>.int (g i)):=by
 intro ag s σ H x v Q I rx h;obtain⟨i,rfl,q⟩:=h;obtain⟨t,rfl⟩:=rx;exact rule i t s _ _ ⟨.int (g i),H,I.tok _,⟨_,rfl⟩,q⟩
def D2:VC X (unaryOp .USub) (rU λi=>.int (-i)):=Ld λ_ _ _ _ _ q=>neg_int q
end
def Ff:V->V->Bool
 | .non,.non=>Ã | .non,.int _=>Ã | .int _,.non=>Ã | .non,.bl _=>Ã | .bl _,.non=>Ã | .non,.str _=>Ã | .str _,.non=>Ã
 | .int _,.int _=>Ã | .bl _,.bl _=>Ã | .str _,.str _=>Ã | .byt _,.byt _=>Ã
 | .int _,.str _=>Ã | .str _,.int _=>Ã | .bl _,.str _=>Ã | .str _,.bl _=>Ã
 | _,_=>Â
def II:R2:=λx y H Q=>Ff x y=Ã/\Q (.bl (decide (x=y))) H
def IW:R2:=λx y H Q=>Ff x y=Ã/\Q (.bl (!decide (x=y))) H
def lS{i j:Int}:decide (V.int i=V.int j)=(i==j):=by
 rw[vH];simp
def nv{i j:Bool}:decide (V.bl i=V.bl j)=(i==j):=by
 rw[vH];simp
def l3{i j:Ç}:decide (V.str i=V.str j)=(i==j):=by
 rw[vH];simp
def KO{i j:Array UInt8}:decide (V.byt i=V.byt j)=(i.toList==j.toList):=by
 rw[vH];cases i;cases j;simp
section
variable{X:Cx}{a b c:Ë}{ta tb tc:TE}{pos:Ċ}
def kR{ag:List (È×î)}{σ:St}{H:Hp}{s:Å}{Q:VK}{k k':Bool}(I:Inv X ag σ H s)(q:Q (.bl k) H)(e:k=k'):EP X ag σ Q (.bool k') s:=by
 subst e;exact⟨.bl k,H,I,rfl,q⟩
def Je:jI X (Ó .Eq) II:=by
 intro ag s σ H x y v u Q I rx ry h;obtain⟨hs,q⟩:=h;cases x with
 | non=>
  cases rx;cases y with
  | non=>cases ry;exact PySem.EqNone.eq_none_none (kR I q (by simp))
  | bl j=>cases ry;exact PySem.EqNone.eq_none_bool (kR I q (by simp))
  | int j=>obtain⟨t',rfl⟩:=ry;exact PySem.EqNone.eq_none_int (kR I q (by simp))
  | str j=>obtain⟨t',rfl⟩:=ry;exact PySem.EqNone.eq_none_str (kR I q (by simp))
  | _=>exact absurd (show Â=Ã from hs) zX
 | bl i=>
  cases rx;cases y with
  | non=>cases ry;exact PySem.EqNone.eq_bool_none (kR I q (by simp))
  | bl j=>cases ry;exact eq_bool (kR I q nv)
  | str j=>obtain⟨t',rfl⟩:=ry;exact PySem.EqMixed.eq_bool_str (kR I q (by simp))
  | _=>exact absurd (show Â=Ã from hs) zX
 | int i=>
  obtain⟨t,rfl⟩:=rx;cases y with
  | non=>cases ry;exact PySem.EqNone.eq_int_none (kR I q (by simp))
  | int j=>obtain⟨t',rfl⟩:=ry;exact eq_int (kR I q lS)
  | str j=>obtain⟨t',rfl⟩:=ry;exact PySem.EqMixed.eq_int_str (kR I q (by simp))
  | _=>exact absurd (show Â=Ã from hs) zX
 | str i=>
  obtain⟨t,rfl⟩:=rx;cases y with
  | non=>cases ry;exact PySem.EqNone.eq_str_none (kR I q (by simp))
  | bl j=>cases ry;exact PySem.EqMixed.eq_str_bool (kR I q (by simp))
  | int j=>obtain⟨t',rfl⟩:=ry;exact PySem.EqMixed.eq_str_int (kR I q (by simp))
  | str j=>obtain⟨t',rfl⟩:=ry;exact eq_str (kR I q l3)
  | _=>exact absurd (show Â=Ã from hs) zX
 | byt i=>
  obtain⟨t,rfl⟩:=rx;cases y with
  | byt j=>obtain⟨t',rfl⟩:=ry;exact PySem.W.eq_bytes (kR I q KO)
  | _=>exact absurd (show Â=Ã from hs) zX
 | _=>cases y<;>exact absurd (show Â=Ã from hs) zX
def JL:jI X (Ó .NotEq) IW:=by
 intro ag s σ H x y v u Q I rx ry h;obtain⟨hs,q⟩:=h;cases x with
 | non=>
  cases rx;cases y with
  | non=>cases ry;exact PySem.EqNone.ne_none_none (kR I q (by simp))
  | bl j=>cases ry;exact PySem.EqNone.ne_none_bool (kR I q (by simp))
  | int j=>obtain⟨t',rfl⟩:=ry;exact PySem.EqNone.ne_none_int (kR I q (by simp))
  | str j=>obtain⟨t',rfl⟩:=ry;exact PySem.EqNone.ne_none_str (kR I q (by simp))
  | _=>exact absurd (show Â=Ã from hs) zX
 | bl i=>
  cases rx;cases y with
  | non=>cases ry;exact PySem.EqNone.ne_bool_none (kR I q (by simp))
  | bl j=>cases ry;exact ne_bool (kR I q (jP not nv))
  | str j=>obtain⟨t',rfl⟩:=ry;exact PySem.EqMixed.ne_bool_str (kR I q (by simp))
  | _=>exact absurd (show Â=Ã from hs) zX
 | int i=>
  obtain⟨t,rfl⟩:=rx;cases y with
  | non=>cases ry;exact PySem.EqNone.ne_int_none (kR I q (by simp))
  | int j=>obtain⟨t',rfl⟩:=ry;exact ne_int (kR I q (jP not lS))
  | str j=>obtain⟨t',rfl⟩:=ry;exact PySem.EqMixed.ne_int_str (kR I q (by simp))
  | _=>exact absurd (show Â=Ã from hs) zX
 | str i=>
  obtain⟨t,rfl⟩:=rx;cases y with
  | non=>cases ry;exact PySem.EqNone.ne_str_none (kR I q (by simp))
  | bl j=>cases ry;exact PySem.EqMixed.ne_str_bool (kR I q (by simp))
  | int j=>obtain⟨t',rfl⟩:=ry;exact PySem.EqMixed.ne_str_int (kR I q (by simp))
  | str j=>obtain⟨t',rfl⟩:=ry;exact ne_str (kR I q (jP not l3))
  | _=>exact absurd (show Â=Ã from hs) zX
 | byt i=>
  obtain⟨t,rfl⟩:=rx;cases y with
  | byt j=>obtain⟨t',rfl⟩:=ry;exact PySem.W.ne_bytes (kR I q (jP not KO))
  | _=>exact absurd (show Â=Ã from hs) zX
 | _=>cases y<;>exact absurd (show Â=Ã from hs) zX
def GI:jI X (Ó .Lt) (rC λi j=>.bl (decide (i<j))):=YB λ_ _ _ _ _ _ _ q=>lt_int q
def GH:jI X (Ó .LtE) (rC λi j=>.bl (decide (i<=j))):=YB λ_ _ _ _ _ _ _ q=>le_int q
def Gz:jI X (Ó .Gt) (rC λi j=>.bl (decide (j<i))):=YB λ_ _ _ _ _ _ _ q=>gt_int q
def Ve:jI X (Ó .In) (λx y H Q=>∃i j,x=.str i/\y=.str j/\Q (.bl (!(ē j i 0 j.length 1).isEmpty)) H):=by
 intro ag s σ H x y v u Q I rx ry h;obtain⟨i,j,rfl,rfl,q⟩:=h;obtain⟨t,rfl⟩:=rx;obtain⟨t',rfl⟩:=ry;exact in_str (kR I q rfl)
def Fz:jI X (Ó .Is) (λx y H Q=>y=.non/\Q (.bl (decide (x=.non))) H):=by
 intro ag s σ H x y v u Q I rx ry h;obtain⟨rfl,q⟩:=h;cases ry;refine is_none_gen (kR I q ?_);cases x<;>first
  | (cases rx;rfl)
  | (obtain⟨t,rfl⟩:=rx;rfl)
def BP:jI X (Ó .IsNot) (λx y H Q=>y=.non/\Q (.bl (!decide (x=.non))) H):=by
 intro ag s σ H x y v u Q I rx ry h;obtain⟨rfl,q⟩:=h;cases ry;refine isnot_none_gen (kR I q ?_);cases x<;>first
  | (cases rx;rfl)
  | (obtain⟨t,rfl⟩:=rx;rfl)
def tQ:jI X (Ó .NotIn) (λx y H Q=>∃i j,x=.str i/\y=.str j/\Q (.bl (!(!(ē j i 0 j.length 1).isEmpty))) H):=by
 intro ag s σ H x y v u Q I rx ry h;obtain⟨i,j,rfl,rfl,q⟩:=h;obtain⟨t,rfl⟩:=rx;obtain⟨t',rfl⟩:=ry;exact notIn_str (kR I q rfl)
def Ka{op:Ũ}{r:R2}(ho:jI X (Ó op) r)(ha:PE X a ta)(hb:PE X b tb)(hm:à op b=Â):PE X (.Compare a [op] [b] pos) (QO r ta tb):=by
 intro ag s σ H Q I h;exact wpAny_Compare1 (YJ ha hb I h λv u s2 x y H2 I2 rx ry q=>ho ag s2 σ H2 x y v u Q I2 rx ry q) hm
def Xz(t:TE):TT:=λσ H Q=>t σ H λx H'=>∃k,x=.bl k/\Q k H'
def Ki{op:Ũ}{r:R2}(ho:jI X (Ó op) r)(ha:PE X a ta)(hb:PE X b tb)(hm:à op b=Â):PT X (.Compare a [op] [b] pos) (Xz (QO r ta tb)):=by
 intro ag s σ H Q I h
 refine wpAny_isTrue_Compare1 (kC (ha ag s σ H _ I h) λv s1 ⟨x,H1,I1,r1,q1⟩=>kC (hb ag s1 σ H1 _ I1 q1) λu s2 ⟨y,H2,I2,r2,q2⟩=>
  kC (ho ag s2 σ H2 x y v u _ I2 r1 r2 q2) λc s3 ⟨z,H3,I3,r3,k,e,q3⟩=>?_) hm
 subst e;cases r3;exact jT ⟨H3,I3,q3⟩
def sX(r r':R2)(ta tb tc:TE):TE:=λσ H Q=>ta σ H λx H1=>tb σ H1 λy H2=>r x y H2 λz H3=>∃k,z=.bl k /\
 (if k=Ã then tc σ H3 λw' H4=>r' y w' H4 Q else Q (.bl Â) H3)
def Wk{op AA:Ũ}{r r':R2}(ho:jI X (Ó op) r)(AM:jI X (Ó AA) r')(ha:PE X a ta)(hb:PE X b tb)(hc:PE X c tc)
  (hm:Ř [op,AA] [b,c]=Â:=by with_unfolding_all rfl):PE X (.Compare a [op,AA] [b,c] pos) (sX r r' ta tb tc):=by
 intro ag s σ H Q I h
 refine Compare_chain (kC (ha ag s σ H _ I h) λv s1 ⟨x,H1,I1,r1,q1⟩=>chain_link (kC (hb ag s1 σ H1 _ I1 q1) λu s2 ⟨y,H2,I2,r2,q2⟩=>
  kC (ho ag s2 σ H2 x y v u _ I2 r1 r2 q2) λd s3 ⟨z,H3,I3,r3,k,e,q3⟩=>?_)) hm
 subst e;cases r3;refine jT ?_;cases k with
 | false=>exact ite_ff ⟨.bl Â,H3,I3,rfl,q3⟩
 | true=>exact ite_tt (chain_last (kC (hc ag s3 σ H3 _ I3 q3) λw' s4 ⟨z',H4,I4,r4,q4⟩=>AM ag s4 σ H4 y z' u w' Q I4 r2 r4 q4))
def YC{op AA:Ũ}{r r':R2}(ho:jI X (Ó op) r)(AM:jI X (Ó AA) r')(ha:PE X a ta)(hb:PE X b tb)(hc:PE X c tc)
  (hm:Ř [op,AA] [b,c]=Â:=by with_unfolding_all rfl):PT X (.Compare a [op,AA] [b,c] pos) (Xz (sX r r' ta tb tc)):=by
 intro ag s σ H Q I h
 refine isTrue_chain (kC (ha ag s σ H _ I h) λv s1 ⟨x,H1,I1,r1,q1⟩=>test_link (kC (hb ag s1 σ H1 _ I1 q1) λu s2 ⟨y,H2,I2,r2,q2⟩=>
  kC (ho ag s2 σ H2 x y v u _ I2 r1 r2 q2) λd s3 ⟨z,H3,I3,r3,k,e,q3⟩=>?_)) hm
 subst e;cases r3;refine jT ?_;cases k with
 | false=>
  obtain⟨k',e',q'⟩:=q3;cases e';exact ite_ff ⟨H3,I3,q'⟩
 | true=>
  refine ite_tt (test_last (kC (hc ag s3 σ H3 _ I3 q3) ?_));rintro w' s4 ⟨z',H4,I4,r4,q4⟩;refine kC (AM ag s4 σ H4 y z' u w' _ I4 r2 r4 q4) ?_;rintro d' s5 ⟨z2,H5,I5,r5,k2,e2,q5⟩;subst e2;cases r5;exact jT ⟨H5,I5,q5⟩
def f7:(Î:Nat)<2 ^ 63:=by rw[vp];decide
def Jt:jI X (ä .Add) (λx y H Q=>∃i j,x=.str i/\y=.str j/\i.length+j.length<=Î/\Q (.str (i++j)) H):=by
 intro ag s σ H x y v u Q I rx ry h;obtain⟨i,j,rfl,rfl,hz,q⟩:=h;obtain⟨t,rfl⟩:=rx;obtain⟨t',rfl⟩:=ry;exact add_str (λt' tk=>⟨.str (i++j),H,I.tok _,⟨_,rfl⟩,q⟩) hz
def vals1{x:V}{us:List Ä}(r:Vals [x] us):∃u,us=[u]/\RelV x u:=by
 cases r with
 | cons r1 r2=>cases r2;exact⟨_,rfl,r1⟩
def vals2{x y:V}{us:List Ä}(r:Vals [x,y] us):∃u w',us=[u,w']/\RelV x u/\RelV y w':=by
 cases r with
 | cons r1 r2=>
  cases r2 with
  | cons r3 r4=>cases r4;exact⟨_,_,rfl,r1,r3⟩
end
end L2
namespace L2
open PySem PySem.Spec PyProof.Rows
structure ObjM(h:Ï)(x dx C:È)(mA:Ç->Option Ä):Prop where
 obj:h.get? x=À (ñ C dx)
 ns:h.Ns1 dx mA
 ne:dx≠x
def Vh{h:Ï}{dx:È}{mA:Ç->Option Ä}(n:h.Ns1 dx mA):∃od,h.get? dx=À od/\∀name,Ĳ name od=À (mA name):=by
 obtain⟨o,es,ep,ho,hd,hk,_,hm⟩:=n;refine⟨o,ho,λname=>?_⟩;have e:=hm name;unfold nsFind Ţ at e;rw[<-qZ] at e;unfold Ĳ;rw[hd];dsimp only;split
 .rename_i y q
  rw[q] at e;exact jP À e
 .rename_i q
  rw[q] at e;have a:es.toList.any (·.refKey)=Â:=by
   rw[List.any_eq_false];intro y hy;obtain⟨z,t,Nr⟩:=hk y (xG.mp hy);simp[DictEntry.refKey,Nr]
  have a':¬es.toList.any (·.refKey)=Ã:=by rw[a];exact zX
  rw[kI a'];exact jP À e
def ObjM.look{h:Ï}{x dx C:È}{mA:Ç->Option Ä}(I:ObjM h x dx C mA):∃od,PySem.W.InstAt h x (ñ C dx) C (À od)/\∀name,Ĳ name od=À (mA name):=
 let ⟨od,ho,hl⟩:=Vh I.ns
 ⟨od,⟨I.obj,rfl,rfl,ho⟩,hl⟩
section
variable{prog:Í}{w:Ñ}{A:Ö}{E:Ä->Å->Prop}{s:Å}{K:S5}{x dx C f:È}{mA:Ç->Option Ä}{name:Ç}{v:Ä}
def Bl{expr:Bool}{Q:Ä->Å->Prop}(X:K.In s.heap)(I:ObjM s.heap x dx C mA)(hg:Ĝ K C name=Ã)(hh:Ľ K C=Ã)
  (ha:é K (.ref C) name=À Á) (hv:mA name=À v) (MP:PySem.W.handedIn v=Ã) (h:Q v { s with toks:=s.toks+1 }) :
  Ê (Ì prog w) A (getAttr (.ref x) name expr) Q E s:=by
 obtain⟨od,J,hl⟩:=I.look;exact PySem.W.get_value X J (wY hg).1 (PySem.W.findObj_own hh ha rfl (by rw[hl,hv])) MP h
def Wb{pl:Sem Bool}{Q:Ä×List Ä->Å->Prop}(X:K.In s.heap)(I:ObjM s.heap x dx C mA)(hg:Ĝ K C name=Ã)
  (hf:é K (.ref C) name=À (À (.ref f))) (ht:ũ K (.ref f)=Ã) (hv:mA name=Á) (h:Q (.ref f,[.ref x]) s) :
  Ê (Ì prog w) A (ř (.ref x) name pl) Q E s:=by
 obtain⟨od,J,hl⟩:=I.look;exact PySem.W.method_fn X J (wY hg).1 (wY hg).2 hf (j9.mp ht) (by show(Ĳ name od).map (·.isSome)=À Â;rw[hl,hv];rfl) h
def UK{ns:List Ç}{Q:Unit->Å->Prop}(X:K.In s.heap)(I:ObjM s.heap x dx C mA)
  (hs:é K (.ref C) "__setattr__" = À (À (.builtin "object.__setattr__"))) (hp:Ū K C=Ã) (ht:ŏ K C name=À Á) (hh:Ľ K C=Ã)
  (hw:Ŧ mA ns) (hsz:ns.length<=Î)
  (h:∀h',ObjM h' x dx C (λy=>if y=name then À v else mA y)->ć dx s.heap h'->Q () { s with heap:=h',toks:=s.toks+2 }) :
  Ê (Ì prog w) A (setAttr (.ref x) name v) Q E s:=by
 obtain⟨od,J,hl⟩:=I.look;refine PySem.W.set_plain X J hs (PySem.W.osa_open (s:={ s with toks:=s.toks+1 }) (r:=Á) X J hp ht λb=>?_);obtain⟨cd,hc,AC⟩:=PySem.W.any_some hh;have hx:s.heap.get? x=À ⟨.ref C,À dx,.plain,#[]⟩:=I.obj;refine za (zr (za (za (wpAny_loadPart hx (za (PySem.W.Looks.here (s:={ s with toks:=s.toks+1 }) (PySem.W.looks_clsIn X hc) ?_))))));rw[AC];refine zr (a:=À dx) (za (zr (za ?_)));refine wpAny_nsSet1 (s:={ s with toks:=s.toks+1 }) I.ns λh' Eu EB=>?_
 obtain⟨oD,Sq,Sr,O9,Pa,Pb⟩:=Eu.count (PySem.Within.cons name v hw);refine za (wpAny_lookBehind O9 (by rw[Pa];exact pastItsLine_dict (zK Pb (by rw[zp];omega))) ?_);exact zr (h _ ⟨(EB.2 _ (kZ I.ne)).trans I.obj,Eu,I.ne⟩ EB)
def Y4{R:Result->Å->Prop}{vs:List Ä}{kw:List (Ç×Ä)}(X:K.In s.heap)(hm:PySem.W.makesIn K C=Ã)
  (hi:é K (.ref C) "__init__" = À (À (.ref f))) (hf:PySem.W.typeIn K (.ref f)=À (.type "function"))
  (h:Ď (Ì prog w) (A.under (.builtin "type.__call__" ⟨.ref C::vs,kw⟩)) (.call (.ref f) ⟨.ref (s.heap.objs.size+1)::vs,kw⟩) (PySem.W.InitBack (s.heap.objs.size+1) R)
   { s with heap:=(s.heap.push â).push (ñ C s.heap.objs.size) }) :
  Ď (Ì prog w) A (.call (.ref C) ⟨vs,kw⟩) R s:=by
 obtain⟨hh,g,d,t,os⟩:=s;exact PySem.W.make_core (PySem.W.makes_of X hm) (PySem.W.looks_findIn X hi) (λself=>PySem.W.bind_fn X self hf) (.inl rfl) h
end
def putF(f:Ç)(v:V):List (Ç×V)->List (Ç×V)
 | []=>[(f,v)]
 | (g,x)::r=>if g=f then (g,v)::r else (g,x)::putF f v r
theorem mH(f g:Ç)(v:V):∀fs:List (Ç×V),(putF f v fs).lookup g=if g=f then À v else fs.lookup g
 | []=>by
  show Ĕ g [(f,v)]=_
  by_cases h:g=f
  .have hb:(g==f)=Ã:=j9.mpr h
   erw[Ĕ,hb,z9 h]
  .have hb:(g==f)=Â:=ju.mpr h
   erw[Ĕ,hb,kI h]
 | (k,x)::r=>by
  have ih:=mH f g v r;rw[show putF f v ((k,x)::r)=(if k=f then (k,v)::r else (k,x)::putF f v r) from rfl];by_cases hk:k=f
  .rw[z9 hk]
   by_cases h:g=k
   .have hb:(g==k)=Ã:=j9.mpr h
    erw[Ĕ,hb,z9 (h.trans hk)]
   .have hb:(g==k)=Â:=ju.mpr h
    erw[Ĕ,hb,kI (λe:g=f=>h (e.trans hk.symm))]
  .rw[kI hk]
   by_cases h:g=k
   .have hb:(g==k)=Ã:=j9.mpr h
    erw[Ĕ,hb,kI (λe:g=f=>hk (h.symm.trans e))]
   .have hb:(g==k)=Â:=ju.mpr h
    erw[Ĕ,hb];exact ih
theorem lM(f:Ç)(v:V):∀fs:List (Ç×V),f∈(putF f v fs).map (·.1)/\∀g,g∈fs.map (·.1)->g∈(putF f v fs).map (·.1)
 | []=>⟨by simp[putF],λg h=>by simp at h⟩
 | (k,x)::r=>by
  obtain⟨i1,i2⟩:=lM f v r;rw[show putF f v ((k,x)::r)=(if k=f then (k,v)::r else (k,x)::putF f v r) from rfl];by_cases hk:k=f
  .rw[z9 hk]
   subst hk;exact⟨by simp,λg h=>by simpa using h⟩
  .rw[kI hk]
   refine⟨?_,λg h=>?_⟩
   .rw[zx]
    exact zM _ i1
   .rw[zx] at h ⊢
    rcases zb.mp h with e | e
    .exact zb.mpr (.inl e)
    .exact zM _ (i2 g e)
theorem mF(f:Ç)(v:V):∀fs:List (Ç×V),(putF f v fs).length<=fs.length+1
 | []=>by simp[putF]
 | (k,x)::r=>by
  have ih:=mF f v r;rw[show putF f v ((k,x)::r)=(if k=f then (k,v)::r else (k,x)::putF f v r) from rfl];by_cases hk:k=f
  .rw[z9 hk,zp,zp];omega
  .rw[kI hk,zp,zp];omega
def RelO.some_of{v:V}{o:Option Ä}(r:RelO (À v) o):∃u,o=À u/\RelV v u:=by
 cases o with
 | none=>exact(show False from r).elim
 | some u=>exact⟨u,rfl,r⟩
def RelO.none_of{o:Option Ä}(r:RelO Á o):o=Á:=by
 cases o with
 | none=>rfl
 | some u=>exact(show False from r).elim
theorem V7{v:V}{u:Ä}(r:RelV v u):PySem.W.handedIn u=Ã:=by
 cases v with
 | non=>cases (show u=ë from r);rfl
 | bl b=>cases (show u=İ b from r);rfl
 | int i=>obtain⟨t,e⟩:=(show ∃t,u=ě i t from r);cases e;rfl
 | str x=>obtain⟨t,e⟩:=(show ∃t,u=Į x t from r);cases e;rfl
 | byt b=>obtain⟨t,e⟩:=(show ∃t,u=Value.bytes b t from r);cases e;rfl
 | flt b=>obtain⟨t,e⟩:=(show ∃t,u=Ŵ b t from r);cases e;rfl
 | ref a=>cases (show u=Ò a from r);rfl
 | ty n=>cases (show u=š n from r);rfl
section
variable{P:Í}{w:Ñ}{H H':Hp}{h h':Ï}{a C dx:È}{fs fs':List (Ç×V)}
def l9(hok:HOk P w H h)(e:H a=À (.ins C dx fs)):∃mA,ObjM h a dx C mA/\(∀f,RelO (fs.lookup f) (mA f))/\Ŧ mA (fs.map (·.1))/\fs.length<=1000/\H dx=À (.own a):=by
 obtain⟨d,z,ne,ob,mA,n,r,q⟩:=(show ObjOk P w H h a (.ins C dx fs) from hok a _ e);exact⟨mA,⟨ob,n,ne⟩,r,q,z,d⟩
end
structure Cls(K:S5)(C:È):Prop where
 pg:Ĝ K C Str.empty=Ã
 hd:Ľ K C=Ã
 po:Ū K C=Ã
 sa:é K (.ref C) "__setattr__" = À (À (.builtin "object.__setattr__"))
def Cls.get{K:S5}{C:È}(c:Cls K C)(f:Ç):Ĝ K C f=Ã:=c.pg
def NoAttr(K:S5)(C:È)(f:Ç):Prop:=é K (.ref C) f=À Á
theorem NoAttr.taker{K:S5}{C:È}{f:Ç}(n:NoAttr K C f):ŏ K C f=À Á:=by
 unfold ŏ;rw[show é K (.ref C) f=À Á from n];rfl
structure Meth(K:S5)(C:È)(m:Ç)(f:È):Prop where
 at_:é K (.ref C) m=À (À (.ref f))
 fn:ũ K (.ref f)=Ã
 kp:Û K (.ref f)=Ã
section
variable{X:Cx}{ag:List (È×î)}{σ:St}{H:Hp}{s:Å}{a C dx:È}{fs:List (Ç×V)}{f:Ç}{v:V}{A:Ö}{E:Ä->Å->Prop}
def nO{b:Bool}{Q:Ä->Å->Prop}(I:Inv X ag σ H s)(e:H a=À (.ins C dx fs))(c:Cls X.K C)(n:NoAttr X.K C f)(l:fs.lookup f=À v)
  (h:∀u s',Inv X ag σ H s'->RelV v u->Q u s'):Ê (Ì X.prog X.w) A (getAttr (.ref a) f b) Q E s:=by
 obtain⟨mA,O,r,_,_,_⟩:=l9 I.hok e;obtain⟨u,hu,ru⟩:=RelO.some_of (v:=v) (o:=mA f) (by rw[<-l];exact r f);exact Bl I.kIn O (c.get f) c.hd n hu (V7 ru) (h u _ (I.tok _) ru)
def nH{m:Ç}{g:È}{pl:Sem Bool}{Q:Ä×List Ä->Å->Prop}(I:Inv X ag σ H s)(e:H a=À (.ins C dx fs))(c:Cls X.K C)(k:Meth X.K C m g)(l:fs.lookup m=Á)
  (h:Q (.ref g,[.ref a]) s):Ê (Ì X.prog X.w) A (ř (.ref a) m pl) Q E s:=by
 obtain⟨mA,O,r,_,_,_⟩:=l9 I.hok e;have hn:mA m=Á:=RelO.none_of (by rw[<-l];exact r m);exact Wb I.kIn O (c.get m) k.at_ k.fn hn h
def ol{y:V}{u:Ä}{Q:Unit->Å->Prop}(I:Inv X ag σ H s)(e:H a=À (.ins C dx fs))(c:Cls X.K C)(n:NoAttr X.K C f)(hl:fs.length<1000)(ry:RelV y u)
  (h:∀s',Inv X ag σ (upd H a (.ins C dx (putF f y fs))) s'->Q () s'):Ê (Ì X.prog X.w) A (setAttr (.ref a) f u) Q E s:=by
 obtain⟨mA,O,r,wi,_,ho⟩:=l9 I.hok e;have hz:(fs.map (·.1)).length<=Î:=by rw[zP,vp];omega
 refine UK I.kIn O c.sa c.po n.taker c.hd wi hz λh' O' sb=>h _ ?_
 have hd:∃o,h'.get? dx=À o:=let ⟨o,_,_,e',_⟩:=O'.ns;⟨o,e'⟩;refine I.write (x:=a) (e:=dx) (by rw[e];exact ê) (.inr ho) (λb q hb z=>(sb.2 b hb).trans z) hd ?_;refine⟨by rw[kQ O.ne];exact ho,?_,O.ne,O'.obj,_,O'.ns,λg=>?_,λg hg=>?_⟩
 .have:=mF f y fs;omega
 .show RelO ((putF f y fs).lookup g) (if g=f then À u else mA g)
  rw[mH];by_cases q:g=f
  .rw[z9 q,z9 q];exact ry
  .rw[kI q,kI q];exact r g
 .by_cases q:g=f
  .rw[q];exact(lM f y fs).1
  .refine(lM f y fs).2 g (wi g λz=>hg ?_)
   show(if g=f then À u else mA g)=Á
   rw[kI q];exact z
def Inv.made(I:Inv X ag σ H s):Inv X ag σ (upd (upd H s.heap.objs.size (.own (s.heap.objs.size+1))) (s.heap.objs.size+1) (.ins C s.heap.objs.size []))
  { s with heap:=(s.heap.push â).push (ñ C s.heap.objs.size) }:=by
 have e1:(s.heap.push â).get? s.heap.objs.size=À â:=zN s.heap rfl;have e2:((s.heap.push â).push (ñ C s.heap.objs.size)).get? (s.heap.objs.size+1)=À (ñ C s.heap.objs.size):=by
  have:=zN (s.heap.push â) (o:=ñ C s.heap.objs.size) rfl;rwa [j7] at this
 have e3:(s.heap.push â).Ns s.heap.objs.size (λ_=>Á):=⟨â,#[],_,e1,rfl,(λe he=>absurd he (by simp)),λ_=>rfl⟩;have I1:=I.laid (a:=s.heap.objs.size) (o:=.own (s.heap.objs.size+1)) (h':=s.heap.push â) (t':=s.toks) (λb u q=>zf _ q) (zj _) ⟨_,e1⟩;refine I1.laid (a:=s.heap.objs.size+1) (o:=.ins C s.heap.objs.size []) (t':=s.toks) (λb u q=>zf _ q) (Nat.le_of_eq (j7 _ _)) ?_;have ne:s.heap.objs.size≠s.heap.objs.size+1:=zW (jV _);refine⟨by rw[kQ ne,qo],qy _,ne,e2,λ_=>Á,(Heap.Ns1.of_empty e3).at λo q=>zf _ q,λ_=>ê,λy hy=>absurd rfl hy⟩
def UR{prog:Í}{w:Ñ}{env:ŷ}{e:Ë}{f:Ç}{pos:Ċ}{s:Å}{Q:Ä->Å->Prop}(hb:Ý e f env (Ú e env)=Ú e env)
  (h:Ê (Ì prog w) A (Ú e env) (λo hG=>Ê (Ì prog w) A (getAttr o f Ã) Q E hG) E s):Ê (Ì prog w) A (Ú (.Attribute e f pos) env) Q E s:=
 Attribute_any_ h (by rw[arm_eval_Attribute,hb])
end
def Iy(K:S5)(ta:TE)(f:Ç):TE:=λσ H Q=>ta σ H λx H1=>∃a C dx fs v,x=.ref a/\H1 a=À (.ins C dx fs)/\Cls K C/\NoAttr K C f/\fs.lookup f=À v/\Q v H1
def IF(K:S5)(ta tv:TE)(f:Ç):TS:=λD σ H=>tv σ H λy H1=>ta σ H1 λx H2=>∃a C dx fs,x=.ref a/\H2 a=À (.ins C dx fs)/\Cls K C/\NoAttr K C f/\fs.length<1000 /\
 D.nx σ (upd H2 a (.ins C dx (putF f y fs)))
def FQ(X:Cx)(op:ŉ)(rd:V->V->Hp->VK->Prop):Prop:=
 ∀(ag:List (È×î)) (s:Å) (σ:St) (H:Hp) (x y:V) (u v:Ä) (Q:VK),Inv X ag σ H s->RelV x u->RelV y v->rd x y H Q->Ê (Ì X.prog X.w) X.A (inplaceOp op u v) (EP X ag σ Q) X.xe s
def BU(K:S5)(ta tv:TE)(rd:V->V->Hp->VK->Prop)(f:Ç):TS:=λD σ H=>ta σ H λx H1=>∃a C dx fs v,x=.ref a/\H1 a=À (.ins C dx fs)/\Cls K C/\NoAttr K C f/\fs.lookup f=À v /\
 tv σ H1 λy H2=>rd v y H2 λz H3=>∃L7 fs',H3 a=À (.ins C L7 fs')/\fs'.length<1000/\D.nx σ (upd H3 a (.ins C L7 (putF f z fs')))
section
variable{X:Cx}{o e value:Ë}{f:Ç}{pos Ab A1:Ċ}{ta tv:TE}
def Cu(he:PE X e ta)(hb:Ý e f X.env (Ú e X.env)=Ú e X.env):PE X (.Attribute e f pos) (Iy X.K ta f):=by
 intro ag s σ H Q I h;refine UR hb (kC (he ag s σ H _ I h) ?_);rintro u s1 ⟨x,H1,I1,rx,a,C,dx,fs,v,ex,ea,c,n,l,q⟩;subst ex;obtain rfl:u=Ò a:=rx;exact nO I1 ea c n l λu' s2 I2 ru=>⟨v,H1,I2,ru,q⟩
def FC(ha:PE X o ta)(hv:PE X value tv)(hs:ì value (À (.Attribute o f Ab)) pos.line X.env=pure Â):PS X (.Assign [.Attribute o f Ab] value pos) (IF X.K ta tv f):=by
 intro ag s σ H D I h;refine plainObj_wpAny_Assign_Attribute (kC (hv ag s σ H _ I h) ?_) hs;rintro u s1 ⟨y,H1,I1,ry,q⟩;refine kC (ha ag s1 σ H1 _ I1 q) ?_;rintro ov s2 ⟨x,H2,I2,rx,a,C,dx,fs,ex,ea,c,n,l,q2⟩;subst ex;obtain rfl:ov=Ò a:=rx;exact ol I2 ea c n l ry λs3 I3=>⟨σ,_,I3,q2⟩
def Vs{op:ŉ}{rd:V->V->Hp->VK->Prop}(ha:PE X o ta)(hv:PE X value tv)(L8:FQ X op rd):PS X (.AugAssign (.Attribute o f A1) op value pos) (BU X.K ta tv rd f):=by
 intro ag s σ H D I h;refine wpAny_AugAssign_AttributeAny (kC (ha ag s σ H _ I h) ?_);rintro ov s1 ⟨x,H1,I1,rx,a,C,dx,fs,v,ex,ea,c,n,l,q⟩;subst ex;obtain rfl:ov=Ò a:=rx;refine nO I1 ea c n l λu s2 I2 ru=>kC (hv ag s2 σ H1 _ I2 q) ?_
 rintro w3 s3 ⟨y,H2,I3,ry,q3⟩;refine kC (L8 ag s3 σ H2 v y u w3 _ I3 ru ry q3) ?_;rintro w4 s4 ⟨z,H3,I4,rz,L7,fs',Pc,l',q4⟩;exact ol I4 Pc c n l' rz λs5 I5=>⟨σ,_,I5,q4⟩
def Ie:V->V->Hp->VK->Prop:=λx y H Q=>∃i j,x=.int i/\y=.int j/\Q (.int (i+j)) H
def FU:FQ X .Add Ie:=by
 rintro ag s σ H x y u v Q I rx ry ⟨i,j,rfl,rfl,q⟩;obtain⟨t,rfl⟩:=(show ∃t,u=ě i t from rx);obtain⟨t',rfl⟩:=(show ∃t',v=ě j t' from ry);exact PyProof.Rows.iadd_int ⟨.int (i+j),H,I.tok _,⟨_,rfl⟩,q⟩
end
section
variable{X:Cx}{ag:List (È×î)}{σ:St}{H:Hp}{s:Å}{A:Ö}{E:Ä->Å->Prop}{Q:Ä->Å->Prop}{c:Ä}{b:Bool}
inductive TyOf(K:S5)(H:Hp):V->Ä->Prop where
 | non:TyOf K H .non (.type "NoneType")
 | bl (x:Bool):TyOf K H (.bl x) (.type "bool")
 | int (i:Int):TyOf K H (.int i) (.type "int")
 | str (x:Ç):TyOf K H (.str x) (.type "str")
 | flt (x:UInt64):TyOf K H (.flt x) (.type "float")
 | lst {a:È} {xs:List V} (e:H a=À (.lst xs)):TyOf K H (.ref a) (.type "list")
 | frz {a:È} {o:î} {xs:List V} (e:H a=À (.frz o (.lst xs))):TyOf K H (.ref a) (.type "list")
 | tup {a:È} {xs:List V} (e:H a=À (.tup xs)):TyOf K H (.ref a) (.type "tuple")
 | dK {a:È} {d6:List (Key×V)} (e:H a=À (.dK d6)):TyOf K H (.ref a) (.type "dict")
 | dT {a:È} {d6:List (List Key×V)} (e:H a=À (.dT d6)):TyOf K H (.ref a) (.type "dict")
 | ins {a C dx:È} {fs:List (Ç×V)} (e:H a=À (.ins C dx fs)) (cl:Cls K C) (ha:é K (.ref C) "__class__" = À (À (.builtin "object.__class__")))
   (hn:PySem.W.specialIn K (.builtin "object.__class__") "__get__" = À (À (.builtin "getset_descriptor.__get__"))) (Oj:PySem.W.takesIn K (.builtin "object.__class__")=À Ã)
   (hm:PySem.W.mroIn K C (.type "object")=À Ã):TyOf K H (.ref a) (.ref C)
def Vo{x:V}{u t:Ä}(I:Inv X ag σ H s)(rx:RelV x u)(ty:TyOf X.K H x t)(e:ĳ X.K t c=À b)(h:∀tk,Q (.bool b) { s with toks:=tk }) :
  Ê (Ì X.prog X.w) A (Ŋ (.builtin "isinstance") [u,c]) Q E s:=by
 cases ty with
 | non=>cases (show u=ë from rx);exact ji ū I.kIn ê e (λz=>nomatch z) h
 | bl y=>cases (show u=İ y from rx);exact ji Ŭ I.kIn ê e (λz=>nomatch z) h
 | int i=>obtain⟨t,q⟩:=(show ∃t,u=ě i t from rx);cases q;exact ji PySem.W.kitx_int I.kIn ê e (λz=>nomatch z) h
 | str y=>obtain⟨t,q⟩:=(show ∃t,u=Į y t from rx);cases q;exact ji PySem.W.kitx_str I.kIn ê e (λz=>nomatch z) h
 | flt y=>obtain⟨t,q⟩:=(show ∃t,u=Ŵ y t from rx);cases q;exact ji PySem.W.kitx_float I.kIn ê e (λz=>nomatch z) h
 | @lst a xs ea=>
  cases (show u=Ò a from rx);obtain⟨_,_,n,_,h1⟩:=(show ObjOk X.prog X.w H s.heap a (.lst xs) from I.hok a _ ea);exact ji vY I.kIn ⟨_,h1,rfl⟩ e (λz=>nomatch z) h
 | @frz a ob xs ea=>
  cases (show u=Ò a from rx);obtain⟨_,_,_,n,_,h1⟩:=(show ObjOk X.prog X.w H s.heap a (.frz ob (.lst xs)) from I.hok a _ ea);exact ji vY I.kIn ⟨_,h1,rfl⟩ e (λz=>nomatch z) h
 | @tup a xs ea=>
  cases (show u=Ò a from rx);obtain⟨_,_,_,p,_⟩:=(show ObjOk X.prog X.w H s.heap a (.tup xs) from I.hok a _ ea);obtain⟨o,h1,h2,_⟩:=p;exact ji xQ I.kIn ⟨o,h1,h2⟩ e (λz=>nomatch z) h
 | @dK a d6 ea=>
  cases (show u=Ò a from rx);obtain⟨_,_,vs,_,p⟩:=(show ObjOk X.prog X.w H s.heap a (.dK d6) from I.hok a _ ea);obtain⟨o,es,ep,h1,h2,_⟩:=p;exact ji yj I.kIn ⟨o,h1,h2.1⟩ e (λz=>nomatch z) h
 | @dT a d6 ea=>
  cases (show u=Ò a from rx);obtain⟨_,_,xs,_,o,es,ep,h1,h2,_⟩:=(show ObjOk X.prog X.w H s.heap a (.dT d6) from I.hok a _ ea);exact ji yj I.kIn ⟨o,h1,h2.1⟩ e (λz=>nomatch z) h
 | @ins a C dx fs ea cl ha hn Oj hm=>
  cases (show u=Ò a from rx);obtain⟨mA,O,_⟩:=l9 I.hok ea;obtain⟨od,J,_⟩:=O.look;exact ji (PySem.W.kitx_own (cl.get _) cl.hd ha hn Oj hm) I.kIn J e (λz=>nomatch z) h
end
end L2
namespace L2
open PySem PySem.Spec PyProof.Rows
structure Room(k:Nat)(A:Ö):Prop where
 hd:A.handled=Á
 dp:A.depth+3*k+5<recursionLimit
 un:A.units+16*k+200<ā
def Room.mono{j k:Nat}{A:Ö}(r:Room k A)(h:j<=k):Room j A:=⟨r.hd,by have:=r.dp;omega,by have:=r.un;omega⟩
theorem Room.deeper{k:Nat}{A:Ö}(r:Room (k+1) A)(env:ŷ):Room k (A.deeper env):=
 ⟨r.hd,by have:=r.dp;show A.depth+1+3*k+5<_;omega,by have:=r.un;show A.units+3+16*k+200<_;omega⟩
def JP{A:Ö}{C:È}{us:List Ä}{kw:List (Ç×Ä)}:(A.under (.builtin "type.__call__" ⟨.ref C::us,kw⟩)).depth=A.depth+1:=by
 first | rfl | simp[Around.under,Code.weight,Code.isCreation,Code.isGuard,Code.isCaller,Code.frames,Code.isFrame,guardIds]
def Jy{A:Ö}{C:È}{us:List Ä}{kw:List (Ç×Ä)}:(A.under (.builtin "type.__call__" ⟨.ref C::us,kw⟩)).units=A.units+1:=by
 first | rfl | simp[Around.under,Code.cUnits,Code.frames,Code.isFrame]
def Room.make{k:Nat}{A:Ö}(r:Room (k+1) A)(C:È)(us:List Ä)(kw:List (Ç×Ä)):Room k (A.under (.builtin "type.__call__" ⟨.ref C::us,kw⟩)):=
 ⟨r.hd,by have:=r.dp;rw[JP];omega,by have:=r.un;rw[Jy];omega⟩
theorem Room.depth{k:Nat}{A:Ö}(r:Room k A):A.depth<recursionLimit:=by have:=r.dp;omega
theorem Room.units{k:Nat}{A:Ö}(r:Room k A):A.units+64<ā:=by have:=r.un;omega
def Ye:TA:=λ_ H Q=>Q [] H
def Hh(ta:TE)(tr:TA):TA:=λσ H Q=>ta σ H λx H1=>tr σ H1 λxs H2=>Q (x::xs) H2
section
variable{X:Cx}{e:Ë}{es:List Ë}{te:TE}{t:TA}{pos:Ċ}
def Qk:PA X [] Ye:=λ_ _ _ _ H Q I h=>vA ⟨[],H,I,.nil,h⟩
def oz(ha:PE X e te)(hr:PA X es t)(hs:↥(É (e::es) X.env=(Â,Ú e X.env)::É es X.env)):PA X (e::es) (Hh te t):=by
 intro pos ag s σ H Q I h;rw[hs];show Ê _ _ (Ÿ ((Â,Ú e X.env)::Ù pos (É es X.env))) _ _ s
 refine qK (kC (ha ag s σ H _ I h) ?_);rintro u s1 ⟨x,H1,I1,r1,q1⟩;exact kC (hr pos ag s1 σ H1 _ I1 q1) λus s2 Nt=>(by obtain⟨xs,H2,I2,r2,q2⟩:=Nt;exact⟨x::xs,H2,I2,.cons r1 r2,q2⟩)
def Hx(t:TA):TE:=λσ H Q=>t σ H λxs H1=>xs.length<=Î/\∀p,H1 p=Á->Q (.ref p) (upd H1 p (.tup xs))
def HE(t:TA):TE:=λσ H Q=>t σ H λxs H1=>xs.length<=Î/\∀p,H1 p=Á->Q (.ref p) (upd H1 p (.lst xs))
def CW{x1}(h:PA X es t):PE X (.Tuple es x1 pos) (Hx t):=by
 intro ag s σ H Q I hq;refine wpAny_Tuple_spliced (kC (h pos ag s σ H _ I hq) ?_);rintro us s1 ⟨xs,H1,I1,r,z,q⟩;refine⟨by rw[<-r.length];exact z,?_⟩;have hf:H1 s1.heap.objs.size=Á:=I1.hok.fresh (zj _);refine⟨.ref s1.heap.objs.size,upd H1 s1.heap.objs.size (.tup xs),I1.laid (t':=s1.toks) (λb u e=>zf _ e) (zj _) ?_,rfl,q _ hf⟩;exact⟨z,us,r,⟨_,zN _ rfl,rfl,_,rfl⟩,.new _ _⟩
def QL(h:PA X es t):PE X (.List es pos) (HE t):=by
 intro ag s σ H Q I hq;refine wpAny_List_spliced (kC (h pos ag s σ H _ I hq) ?_);rintro us s1 ⟨xs,H1,I1,r,z,q⟩;refine⟨by rw[<-r.length];exact z,?_⟩;have hf:H1 s1.heap.objs.size=Á:=I1.hok.fresh (zj _);refine⟨.ref s1.heap.objs.size,upd H1 s1.heap.objs.size (.lst xs),I1.laid (t':=s1.toks) (λb u e=>zf _ e) (zj _) ?_,rfl,q _ hf⟩;exact⟨z,us,0,r,zN _ rfl⟩
end
abbrev Sp:=List V->Hp->VK->XK->Prop
abbrev lF:=List ŷ->Hp->Å->XK->Ä->Å->Prop
structure Env0(P:Í)(w:Ñ)(K:S5)(mg:Ç->Option Ä)(base:Ï)(A:Ö)(outer:List ŷ)(s:Å)(H:Hp):Prop where
 frames:A.frames=À outer
 mod:Mod K mg base
 bs:∀b o,base.get? b=À o->s.heap.get? b=À o/\H b=Á
 bsz:base.objs.size<=s.heap.objs.size
 funs:s.heap.FunFrames base outer
 frf:∀b∈frs outer,H b=Á
 hok:HOk P w H s.heap
 bare:AllBare s.gens
def CE(outer:List ŷ)(P:Í)(w:Ñ)(H:Hp)(s:Å)(Q:VK)(u:Ä)(s':Å):Prop:=
 ∃v H',s'.os=s.os/\AllBare s'.gens/\Un (frs outer) [] H H' s.heap s'.heap/\HOk P w H' s'.heap/\RelV v u/\Q v H'
def CR(CX:lF)(outer:List ŷ)(P:Í)(w:Ñ)(H:Hp)(s:Å)(Q:VK)(E:XK)(r:Result)(s':Å):Prop:=
 match r with
 | .ok (.ret u)=>CE outer P w H s Q u s'
 | .ok _=>False
 | .error e=>CX outer H s E e s'
structure FnOk(P:Í)(w:Ñ)(K:S5)(mg:Ç->Option Ä)(base:Ï)(CX:lF)(k:Nat)(f:È)(fd:ù)(ps:List Ç)(sp:Sp):Prop where
 len:∀vs H Q E,sp vs H Q E->vs.length=ps.length
 run:∀(A:Ö) (outer:List ŷ) (s:Å) (H:Hp) (args:Args) (us:List Ä) (vs:List V) (Q:VK) (E:XK),Room k A->Env0 P w K mg base A outer s H->BindsTo s fd args (ps.zip us)->Vals vs us->sp vs H Q E->
  Ď (Ì P w) A (.call (.ref f) args) (CR CX outer P w H s Q E) s
def FnOk.imp{P:Í}{w:Ñ}{K:S5}{mg:Ç->Option Ä}{base:Ï}{CX:lF}{k:Nat}{f:È}{fd:ù}{ps:List Ç}{sp Ol:Sp}(F:FnOk P w K mg base CX k f fd ps sp)
  (h:∀vs H Q E,Ol vs H Q E->sp vs H Q E):FnOk P w K mg base CX k f fd ps Ol:=
 ⟨λvs H Q E q=>F.len vs H Q E (h _ _ _ _ q),λA outer s H args us vs Q E hr he hb hv hs=>F.run A outer s H args us vs Q E hr he hb hv (h _ _ _ _ hs)⟩
def Env0.make{P:Í}{w:Ñ}{K:S5}{mg:Ç->Option Ä}{base:Ï}{A:Ö}{outer:List ŷ}{s:Å}{H:Hp}(e:Env0 P w K mg base A outer s H)(C:È)(us:List Ä)(kw:List (Ç×Ä)) :
  Env0 P w K mg base (A.under (.builtin "type.__call__" ⟨.ref C::us,kw⟩)) outer s H:=⟨by first | exact e.frames | (simpa[Around.under,Code.envs,Code.isFrame,pushEnvs] using e.frames),e.mod,e.bs,e.bsz,e.funs,e.frf,e.hok,e.bare⟩
section
variable{X:Cx}{ag:List (È×î)}{σ:St}{H:Hp}{s s':Å}
def Inv.env0(I:Inv X ag σ H s):Env0 X.prog X.w X.K X.mg X.base X.A X.stack s H:=
 ⟨I.ok.frames,I.ok.mod,I.bs,zK I.ok.bsz I.sz,I.stack,I.stkFree,I.hok,I.bare⟩
def Inv.after{Q:VK}{u:Ä}(I:Inv X ag σ H s)(h:CE X.stack X.prog X.w H s Q u s'):EP X ag σ Q u s':=by
 obtain⟨v,H',os,bare,un,hok,r,q⟩:=h;obtain⟨hh,g,d,t,Pd⟩:=s';obtain rfl:Pd=s.os:=os;exact⟨v,H',I.call (h':=hh) (g':=g) (d':=d) (t':=t) (ch:=[]) un hok bare (λb z=>absurd z (by simp)),r,q⟩
end
def XY(sp:Sp)(Av:List V)(E:XK)(t:TA):TE:=λσ H Q=>t σ H λvs H1=>sp (vs++Av) H1 Q E
def JE(C:È)(m:Ç)(sp:Sp)(Av:List V)(E:XK)(ta:TE)(t:TA):TE:=λσ H Q=>ta σ H λx H1=>∃a dx fs,x=.ref a/\H1 a=À (.ins C dx fs)/\fs.lookup m=Á /\
 t σ H1 λvs H2=>sp (x::(vs++Av)) H2 Q E
def Y9(C:È)(sp:Sp)(Av:List V)(E:XK)(t:TA):TE:=λσ H Q=>t σ H λvs H1=>∀x dx,H1 x=Á->H1 dx=Á->dx≠x->
 sp (.ref x::(vs++Av)) (upd (upd H1 dx (.own x)) x (.ins C dx [])) (λv H2=>v=.non/\Q (.ref x) H2) E
def Binds(K:S5)(fd:ù)(ps:List Ç)(ds:List Ä):Prop:=
 ∀(s:Å) (us:List Ä),K.In s.heap->(us++ds).length=ps.length->BindsTo s fd ⟨us,[]⟩ (ps.zip (us++ds))
def Binds.all{K:S5}{fd:ù}{ps:List Ç}(h:∀us:List Ä,us.length=ps.length->bindArgs fd ⟨us,[]⟩=pure (ps.zip us)):Binds K fd ps []:=λs us _ hl=>by
 rw[kh] at hl ⊢;exact .of_eq (h us hl)
def be(CX:lF)(X:Cx)(E:XK):Prop:=∀(ag:List (È×î)) (σ:St) (H:Hp) (s:Å) (e:Ä) (s':Å),Inv X ag σ H s->CX X.stack H s E e s'->X.xe e s'
section
variable{X:Cx}{CX:lF}{k:Nat}{f C:È}{fd:ù}{ps:List Ç}{sp:Sp}{Av:List V}{ds:List Ä}{E:XK}{x m:Ç}{p pos apos:Ċ}{e o:Ë}{es:List Ë}{ta:TE}{t:TA}
def lC{ag:List (È×î)}{σ:St}{H:Hp}{s:Å}{Q:VK}{us:List Ä}{vs:List V}(F:FnOk X.prog X.w X.K X.mg X.base CX k f fd ps sp)(hr:Room k X.A)(hb:Binds X.K fd ps ds)(hd:Vals Av ds)(hx:be CX X E)
  (I:Inv X ag σ H s) (r:Vals vs us) (h:sp (vs++Av) H Q E):Ê (Ì X.prog X.w) X.A (Ŋ (.ref f) us) (EP X ag σ Q) X.xe s:=by
 have r2:Vals (vs++Av) (us++ds):=r.append hd;have hl:(us++ds).length=ps.length:=by rw[<-r2.length];exact F.len _ _ _ _ h
 refine wpAny_call (yO (F.run X.A X.stack s H ⟨us,[]⟩ (us++ds) (vs++Av) Q E hr I.env0 (hb s us I.kIn hl) r2 h) λr s' hq=>?_);cases r with
 | error e=>exact hx ag σ H s e s' I hq
 | ok fl=>
  cases fl with
  | ret u=>exact I.after hq
  | next=>exact ò hq
  | brk=>exact ò hq
  | cont=>exact ò hq
def X3(F:FnOk X.prog X.w X.K X.mg X.base CX k f fd ps sp)(hr:Room k X.A)(hg:Gl X x)(hm:X.mg x=À (.ref f))(hk:Û X.K (.ref f)=Ã)(hb:Binds X.K fd ps ds)(hd:Vals Av ds)(hx:be CX X E)
  (ha:PA X (e::es) t) (AB:⇑((x==("__debug__":Ç))=Â)) (he:↥(É (e::es) X.env=(Â,Ú e X.env)::É es X.env)) (Aa:↥((Ù pos (É es X.env)).any (·.1)=Â)) :
  PE X (.Call (.Name x p) (e::es) [] pos) (XY sp Av E t):=by
 intro ag s σ H Q I h;refine jz (lU I hg hm ?_ AB);refine vL (h₀:=X.base) I.ok.mod.kin hk (kC (ha pos ag s σ H _ I h) ?_) he Aa;rintro us s1 ⟨vs,H1,I1,r,q⟩;refine⟨I1.kIn,?_⟩;exact lC F hr hb hd hx I1 r q
def WN(F:FnOk X.prog X.w X.K X.mg X.base CX k f fd ps sp)(hr:Room k X.A)(hg:Gl X x)(hm:X.mg x=À (.ref f))(hk:Û X.K (.ref f)=Ã)(hb:Binds X.K fd ps ds)(hd:Vals Av ds)(hx:be CX X E)
  (AB:⇑((x==("__debug__":Ç))=Â)):PE X (.Call (.Name x p) [] [] pos) (XY sp Av E Ye):=by
 intro ag s σ H Q I h;refine jz (lU I hg hm ?_ AB);exact xM I.kIn hk (lC (us:=[]) F hr hb hd hx I .nil h)
def Uk{pl:Sem Bool}(he:PE X o ta)(c:Cls X.K C)(hm:Meth X.K C m f)(F:FnOk X.prog X.w X.K X.mg X.base CX k f fd ps sp)(hr:Room k X.A)(hb:Binds X.K fd ps ds)(hd:Vals Av ds)(hx:be CX X E)(ha:PA X (e::es) t)
  (r9:↥(É (e::es) X.env=(Â,Ú e X.env)::É es X.env)) (Aa:↥((Ù pos (É es X.env)).any (·.1)=Â))
  (ht:Ú (.Call (.Attribute o m apos) (e::es) [] pos) X.env=(do
   let ov <-Ú o X.env
   Ī apos.atName
   let (f,first) <-ü [ov] (ř ov m pl)
   œ pos f first (Ù pos (É (e::es) X.env)) (ô pos (Þ [] X.env))):=by rfl) :
  PE X (.Call (.Attribute o m apos) (e::es) [] pos) (JE C m sp Av E ta t):=by
 intro ag s σ H Q I h;refine xj (pl:=pl) (kC (he ag s σ H _ I h) ?_) ht;rintro u s1 ⟨x,H1,I1,rx,a,dx,fs,ex,ea,l,q⟩;subst ex;obtain rfl:u=Ò a:=rx;refine nH I1 ea c hm l ?_;refine vL (first:=[.ref a]) (h₀:=X.base) I.ok.mod.kin hm.kp (kC (ha pos ag s1 σ H1 _ I1 q) ?_) r9 Aa;rintro us s2 ⟨vs,H2,I2,r,q2⟩;refine⟨I2.kIn,?_⟩;exact lC (us:=.ref a::us) (vs:=.ref a::vs) F hr hb hd hx I2 (.cons rfl r) q2
def WU{pl:Sem Bool}(he:PE X o ta)(c:Cls X.K C)(hm:Meth X.K C m f)(F:FnOk X.prog X.w X.K X.mg X.base CX k f fd ps sp)(hr:Room k X.A)(hb:Binds X.K fd ps ds)(hd:Vals Av ds)(hx:be CX X E)
  (ht:Ú (.Call (.Attribute o m apos) [] [] pos) X.env=(do
   let ov <-Ú o X.env
   Ī apos.atName
   let (f,first) <-ü [ov] (ř ov m pl)
   œ pos f first (Ù pos (É [] X.env)) (ô pos (Þ [] X.env))):=by rfl) :
  PE X (.Call (.Attribute o m apos) [] [] pos) (JE C m sp Av E ta Ye):=by
 intro ag s σ H Q I h;refine xj (pl:=pl) (kC (he ag s σ H _ I h) ?_) ht;rintro u s1 ⟨x,H1,I1,rx,a,dx,fs,ex,ea,l,q⟩;subst ex;obtain rfl:u=Ò a:=rx;refine nH I1 ea c hm l ?_;exact xM (first:=[.ref a]) I1.kIn hm.kp (lC (us:=[.ref a]) (vs:=[.ref a]) F hr hb hd hx I1 (.cons rfl .nil) q)
structure Mk(K:S5)(C f:È):Prop where
 makes:PySem.W.makesIn K C=Ã
 init:é K (.ref C) "__init__" = À (À (.ref f))
 fn:ũ K (.ref f)=Ã
 kp:Û K (.ref C)=Ã
def WR{ag:List (È×î)}{σ:St}{H:Hp}{s:Å}{Q:VK}{us:List Ä}{vs:List V}(M:Mk X.K C f)(F:FnOk X.prog X.w X.K X.mg X.base CX k f fd ps sp)(hr:Room (k+1) X.A)(hb:Binds X.K fd ps ds)(hd:Vals Av ds)
  (hx:be CX X E) (I:Inv X ag σ H s) (r:Vals vs us)
  (h:∀x dx,H x=Á->H dx=Á->dx≠x->sp (.ref x::(vs++Av)) (upd (upd H dx (.own x)) x (.ins C dx [])) (λv H2=>v=.non/\Q (.ref x) H2) E) :
  Ê (Ì X.prog X.w) X.A (Ŋ (.ref C) us) (EP X ag σ Q) X.xe s:=by
 have hq:=h (s.heap.objs.size+1) s.heap.objs.size (I.hok.fresh (vB _)) (I.hok.fresh (zj _)) (zW (jV _));have I2:=Inv.made (C:=C) I;have r2:Vals (V.ref (s.heap.objs.size+1)::(vs++Av)) (Ò (s.heap.objs.size+1)::(us++ds)):=.cons rfl (r.append hd);have hl:(Ò (s.heap.objs.size+1)::us++ds).length=ps.length:=by
  have e:=r2.length;rw[F.len _ _ _ _ hq] at e;exact e.symm
 refine wpAny_call (Y4 (f:=f) I.kIn M.makes M.init (j9.mp M.fn) (yO (F.run _ X.stack _ _ ⟨Ò (s.heap.objs.size+1)::us,[]⟩ (Ò (s.heap.objs.size+1)::(us++ds)) _ _ E (hr.make C us [])
  (I2.env0.make C us []) (hb _ (Ò (s.heap.objs.size+1)::us) I2.kIn hl) r2 hq) λr s' GM=>?_))
 cases r with
 | error e=>exact hx ag σ _ _ e s' I2 GM
 | ok fl=>
  cases fl with
  | ret u=>
   obtain⟨v,H',I3,rv,ev,q3⟩:=I2.after GM;subst ev;exact⟨rv,⟨V.ref (s.heap.objs.size+1),H',I3,rfl,q3⟩⟩
  | next=>exact ò GM
  | brk=>exact ò GM
  | cont=>exact ò GM
def By(M:Mk X.K C f)(F:FnOk X.prog X.w X.K X.mg X.base CX k f fd ps sp)(hr:Room (k+1) X.A)(hg:Gl X x)(hm:X.mg x=À (.ref C))(hb:Binds X.K fd ps ds)(hd:Vals Av ds)(hx:be CX X E)
  (ha:PA X (e::es) t) (AB:⇑((x==("__debug__":Ç))=Â)) (he:↥(É (e::es) X.env=(Â,Ú e X.env)::É es X.env)) (Aa:↥((Ù pos (É es X.env)).any (·.1)=Â)) :
  PE X (.Call (.Name x p) (e::es) [] pos) (Y9 C sp Av E t):=by
 intro ag s σ H Q I h;refine jz (lU I hg hm ?_ AB);refine vL (h₀:=X.base) I.ok.mod.kin M.kp (kC (ha pos ag s σ H _ I h) ?_) he Aa;rintro us s1 ⟨vs,H1,I1,r,q⟩;refine⟨I1.kIn,?_⟩;exact WR M F hr hb hd hx I1 r q
end
section
variable{X:Cx}{CX:lF}{k:Nat}{f C:È}{fd:ù}{ps ks:List Ç}{sp:Sp}{E:XK}{x m:Ç}{p pos apos Pe:Ċ}{e o:Ë}{es:List Ë}{Ss:List ý}{te ta:TE}{t tk:TA}{nm:Option Ç}
variable{g:List Ä->List Ä->List Ä}{gV:List V->List V->List V}
end
structure FnScope(N P:List Ç)(sc:ã):Prop where
 kind:sc.kind=.function
 co:sc.isCoroutine=Â
 gen:sc.isGenerator=Â
 nd:N.Nodup
 pre:N.take P.length=P
 par:∀x∈P,sc.names.lookup x=À .local\/sc.names.lookup x=À .cell
 nofree:∀y∈sc.names,y.2≠.free
theorem rN{kindOf:Ç->Option Ģ}{x:Ç}:∀{binds:List (Ç×Ä)} {m:Ç->Option Ä},(∀v,(x,v)∉binds)->bindL kindOf binds m x=m x
 | [],_,_=>rfl
 | (n,v)::r,m,h=>by
  unfold bindL;rw[rN λw hw=>h w (zM _ hw)];split
  .have:x≠n:=by rintro rfl;exact h v kj
   simp[this]
  .rfl
theorem rA{kindOf:Ç->Option Ģ}{x:Ç}:∀{binds:List (Ç×Ä)} {m:Ç->Option Ä},(∀v,(x,v)∉binds)->bindC kindOf binds m x=m x
 | [],_,_=>rfl
 | (n,v)::r,m,h=>by
  unfold bindC;rw[rA λw hw=>h w (zM _ hw)];split
  .rfl
  .have:x≠n:=by rintro rfl;exact h v kj
   simp[this]
theorem rh{kindOf:Ç->Option Ģ}{x:Ç}{v:Ä}:∀{P:List Ç} {vs:List Ä} {i:Nat} {m:Ç->Option Ä},P.Nodup->P[i]?=À x->vs[i]?=À v->kindOf x=À .local->
  bindL kindOf (P.zip vs) m x=À v
 | [],_,_,_,_,h,_,_=>by simp at h
 | _::_,[],_,_,_,_,h,_=>by simp at h
 | p::P,w::vs,0,m,nd,h1,h2,hk=>by
  simp at h1 h2;subst h1;subst h2;show bindL kindOf ((p,w)::P.zip vs) m p=_
  unfold bindL;rw[rN λv hv=>(jB.mp nd).1 (qW hv).1,z9 hk];simp
 | p::P,w::vs,i+1,m,nd,h1,h2,hk=>by
  show bindL kindOf ((p,w)::P.zip vs) m x=_
  unfold bindL;exact rh (i:=i) (jB.mp nd).2 (by simpa using h1) (by simpa using h2) hk
theorem rJ{kindOf:Ç->Option Ģ}{x:Ç}{v:Ä}:∀{P:List Ç} {vs:List Ä} {i:Nat} {m:Ç->Option Ä},P.Nodup->P[i]?=À x->vs[i]?=À v->kindOf x≠À .local->
  bindC kindOf (P.zip vs) m x=À v
 | [],_,_,_,_,h,_,_=>by simp at h
 | _::_,[],_,_,_,_,h,_=>by simp at h
 | p::P,w::vs,0,m,nd,h1,h2,hk=>by
  simp at h1 h2;subst h1;subst h2;show bindC kindOf ((p,w)::P.zip vs) m p=_
  unfold bindC;rw[rA λv hv=>(jB.mp nd).1 (qW hv).1,kI hk];simp
 | p::P,w::vs,i+1,m,nd,h1,h2,hk=>by
  show bindC kindOf ((p,w)::P.zip vs) m x=_
  unfold bindC;exact rJ (i:=i) (jB.mp nd).2 (by simpa using h1) (by simpa using h2) hk
def start(N:List Ç)(vs:List V):St:=vs.map À++Æ (N.length-vs.length) Á
def lE(CX:lF)(P:Í)(w:Ñ)(K:S5)(mg:Ç->Option Ä)(base:Ï)(N:List Ç)(qual:Ç)(scope:ã)(f:È)(cd:Ä)(A:Ö)(outer:List ŷ)(s:Å)(H:Hp)(E:XK):Cx where
 prog:=P
 w:=w
 K:=K
 mg:=mg
 base:=base
 A:=A.deeper (envOfC qual scope s.heap.objs.size f cd)
 N:=N
 s₀:=s
 H₀:=H
 env:=envOfC qual scope s.heap.objs.size f cd
 outer:=outer
 stack:=envOfC qual scope s.heap.objs.size f cd::outer
 ex:=[]
 calm:=Ã
 fn:=λ_=>Ã
 pn:=[]
 xe:=λe s'=>Ê (Ì P w) (A.deeper (envOfC qual scope s.heap.objs.size f cd)) (leaving (envOfC qual scope s.heap.objs.size f cd) e) (λ_ L9=>CX outer H s E e L9) (λe' L9=>CX outer H s E e' L9) s'
def ZE{sc:ã}{n:Nat}{x:Ç}(h:sc.names.lookup x=À .cell):∃c,(cellsFrom n sc.names []).lookup x=À c:=by
 have q:=yV sc.names n [] (.inl h);exact qg.mp q
def Ql{CX:lF}{P:Í}{w:Ñ}{K:S5}{mg:Ç->Option Ä}{base:Ï}{N ps:List Ç}{qual:Ç}{scope:ã}{f:È}{cd:Ä}{A:Ö}{outer:List ŷ}{s s1:Å}{H:Hp}{E:XK}{us:List Ä}{vs:List V}
  (S:FnScope N ps scope) (hd:A.handled=Á) (e0:Env0 P w K mg base A outer s H) (hl:vs.length=ps.length) (r:Vals vs us)
  (x:InCallC s s.heap.objs.size (bindL (envOfC qual scope s.heap.objs.size f cd).kindOf (ps.zip us) λ_=>Á) (cellsFrom (s.heap.objs.size+1) scope.names []) (bindC (envOfC qual scope s.heap.objs.size f cd).kindOf (ps.zip us) λ_=>Á) s1) :
  Inv (lE CX P w K mg base N qual scope f cd A outer s H E) [] (start N vs) H s1:=by
 have Aa:ps.length<=N.length:=by have:=jP ģ S.pre;rw[qP] at this;omega
 obtain⟨h1,tk,rfl,hk⟩:=x.done;have Ma:∀b:È,b∉(lE CX P w K mg base N qual scope f cd A outer s H E).ex:=λb z=>absurd (show b∈([]:List È) from z) (by simp)
 refine⟨⟨e0.mod,S.kind,rfl,rfl,zj _,λy z c h1 h2=>?_,λy hy=>?_,λy c _ h=>?_,λ_=>hd,Around.frames_deeper e0.frames,.inr ⟨rfl,rfl⟩,λb z=>absurd z (Ma b),e0.bs,e0.bsz,λb _ _=>Ma b,λb z=>absurd z (Ma b),e0.funs,e0.frf⟩,
  rfl,e0.bare,Un.kept hk,⟨_,x.toInCall.ns,λi y v h1 h2 h3=>?_⟩,λy c h=>⟨_,x.cell y c h⟩,e0.hok.fresh (zj _),λy c h=>?_,λp hp=>absurd (show p∈([]:List (È×î)) from hp) (by simp),e0.hok.kept hk,?_⟩
 .exact name_of_addr x.apart (qQ h1) (qQ h2)
 .have hy:scope.names.lookup y=À .cell\/scope.names.lookup y=À .free:=hy
  rcases hy with hy | hy
  .exact ZE hy
  .exact absurd rfl (S.nofree _ (qQ hy))
 .exact wI (x.above y c (qQ h))
 .have hi:i<vs.length:=by
   unfold start at h2;by_cases hi:i<vs.length
   .exact hi
   .rw[zF (by simpa using hi)] at h2
    rw[qm] at h2;split at h2<;>cases h2
  have ha:vs[i]?=À v:=by
   unfold start at h2;rw[zy (by simpa using hi),jb] at h2;cases e:vs[i]? with
   | none=>rw[e] at h2;cases h2
   | some a=>rw[e] at h2;cases h2;rfl
  obtain⟨u,hu,rv⟩:=r.get ha;have hp:ps[i]?=À y:=by
   rw[<-S.pre,List.getElem?_take_of_lt ∅];exact h1
  have Om:ps.Nodup:=by rw[<-S.pre];exact S.nd.sublist (List.take_sublist _ _)
  refine⟨u,rv,?_⟩;rcases S.par y (jG hp) with k | k
  .exact .inl ⟨k,rh Om hp hu k⟩
  .obtain⟨c,e⟩:=ZE (n:=s.heap.objs.size+1) k
   refine .inr ⟨.inl k,c,e,?_⟩;have q:=x.cell y c e;rw[rJ Om hp hu (by show scope.names.lookup y≠_;rw[k];decide)] at q;exact q
 .exact e0.hok.fresh (wI (x.above y c (qQ h)))
 .unfold start
  show _=N.length
  rw[zQ,zP,qz];omega
def Gj{CX:lF}{P:Í}{w:Ñ}{K:S5}{mg:Ç->Option Ä}{base:Ï}{k:Nat}{f:È}{name qual:Ç}{params:Arguments}{body:List Ă}{scope:ã}{dV kV doc pm xI ct oc:Ä}{an od:Option È}
  {A2:Array (Option Ä)} {N ps:List Ç} {sp:Sp} (lk:K.lookup f=À ⟨oc,od,.func (í name qual params body scope dV kV doc pm an xI ct),A2⟩) (A6:Č K xI qual=Ã) (S:FnScope N ps scope)
  (len:∀vs H Q E,sp vs H Q E->vs.length=ps.length)
  (Ef:∀(A:Ö) (outer:List ŷ) (s:Å) (H:Hp) (vs:List V) (Q:VK) (E:XK),Room k (A.deeper (envOfC qual scope s.heap.objs.size f xI))->sp vs H Q E->
   ∃t,PSs (lE CX P w K mg base N qual scope f xI A outer s H E) body t/\t { nx:=λ_ H'=>Q .non H',rt:=Q } (start N vs) H) :
  FnOk P w K mg base CX (k+1) f (í name qual params body scope dV kV doc pm an xI ct) ps sp:=by
 refine⟨len,λA outer s H args us vs Q E hr e0 hb r Eg=>?_⟩;have hl:=len _ _ _ _ Eg;have KX:K.In s.heap:=e0.mod.kin.keeps λb o e=>(e0.bs b o e).1
 have lim:s.heap.NoLimit:=e0.mod.nolimit.keeps λb o e=>(e0.bs b o e).1
 have Mb:∀y∈ps.zip us,scope.names.lookup y.1=À .local\/(scope.names.lookup y.1=À .cell/\((cellsFrom (s.heap.objs.size+1) scope.names []).lookup y.1).isSome=Ã):=λ⟨n,v⟩ hy=>by
  rcases S.par n (qW hy).1 with q | q
  .exact .inl q
  .exact .inr ⟨q,yV _ _ _ (.inl q)⟩
 refine codeAny_call_function hr.depth (KX _ _ lk) rfl S.co S.gen rfl (PySem.W.codeRec_of KX A6) (hb _ _ _ _ ?_);refine wpAny_newFunctionEnv_cells S.kind Mb λenv he s1 x=>?_
 subst he;refine⟨lim.keeps x.toInCall.keep,codeAny_func ?_⟩;obtain⟨t,ht,hq⟩:=Ef A outer s H vs Q E (hr.deeper _) Eg;have I:Inv (lE CX P w K mg base N qual scope f xI A outer s H E) [] (start N vs) H s1:=Ql S hr.hd e0 hl r x;refine qD (ht [] s1 (start N vs) H _ I hq) (λfl s' hs=>?_) λe s' hs=>hs
 have fin:∀{hJ:St} {H':Hp} {v:V} {u:Ä},Inv (lE CX P w K mg base N qual scope f xI A outer s H E) [] hJ H' s'->RelV v u->Q v H'->CE outer P w H s Q u s':=
  λ{hJ H' v u} J rv q=>⟨v,H',J.os,J.bare,J.base,J.hok,rv,q⟩
 cases fl with
 | ret u=>
  obtain⟨v,hJ,H',J,rv,q⟩:=hs;exact fin J rv q
 | next=>
  obtain⟨hJ,H',J,q⟩:=hs;exact fin (v:=V.non) (u:=ë) J rfl q
 | brk=>
  obtain⟨_,_,_,q⟩:=hs;exact ò q
 | cont=>
  obtain⟨_,_,_,q⟩:=hs;exact ò q
end L2
namespace L2
open PySem PySem.Spec PyProof.Rows
section
variable{X:Cx}{x:Ç}{p pos:Ċ}{e:Ë}{es:List Ë}{t:TA}{id T:String}{r:List V->Hp->VK->Prop}
def Hr(r:List V->Hp->VK->Prop)(t:TA):TE:=λσ H Q=>t σ H λvs H1=>r vs H1 Q
def sJ(hc:yB X (.builtin id) r)(hg:Gl X x)(hm:X.mg x=Á)(hv:Ô x=À (.builtin id))(ha:PA X (e::es) t)(hn:⇑(x≠"__name__"))(AB:⇑((x==("__debug__":Ç))=Â))
  (he:↥(É (e::es) X.env=(Â,Ú e X.env)::É es X.env)) (Aa:↥((Ù pos (É es X.env)).any (·.1)=Â)):PE X (.Call (.Name x p) (e::es) [] pos) (Hr r t):=by
 intro ag s σ H Q I h;refine jz (uz I hg hm hv ?_ hn AB);exact PyProof.Rows.callWith_builtin1 (kC (ha pos ag s σ H _ I h) λus s1 Pf=>(by obtain⟨vs,H1,I1,r1,q1⟩:=Pf;exact hc ag s1 σ H1 vs us Q I1 r1 q1)) he Aa
def QT(hc:yB X (.type T) r)(hg:Gl X x)(hm:X.mg x=Á)(hv:Ô x=À (.type T))(ha:PA X (e::es) t)(hn:⇑(x≠"__name__"))(AB:⇑((x==("__debug__":Ç))=Â))
  (he:↥(É (e::es) X.env=(Â,Ú e X.env)::É es X.env)) (Aa:↥((Ù pos (É es X.env)).any (·.1)=Â)):PE X (.Call (.Name x p) (e::es) [] pos) (Hr r t):=by
 intro ag s σ H Q I h;refine jz (uz I hg hm hv ?_ hn AB);exact jr (kC (ha pos ag s σ H _ I h) λus s1 Pg=>(by obtain⟨vs,H1,I1,r1,q1⟩:=Pg;exact hc ag s1 σ H1 vs us Q I1 r1 q1)) he Aa
end
end L2
namespace HT
open PySem PyProof.Rows
section
open PySem.SeqAt
open PySem.AutoSeq1 (wpAny_loadPart')
open PySem.MeetsSeq PySem.MeetsSeq2 PySem.MeetsSeq3
end
section
variable{prog:Í}{w:Ñ}{A:Ö}{E:Ä->Å->Prop}{s:Å}
def cat_tup{t b:È}{vs ws:List Ä}{Q:Ä->Å->Prop}(ht:IsTup s.heap t vs.toArray)(hb:IsTup s.heap b ws.toArray)(hv:vs≠[])
  (h1:ws=[]->Q (.ref t) s) (h2:ws≠[]->Q (.ref s.heap.objs.size) { s with heap:=s.heap.push { cls:=.type "tuple",data:=.seq (vs++ws).toArray } })
  (hsz:vs.length+ws.length<=Î):Ê (Ì prog w) A (ä .Add (.ref t) (.ref b)) Q E s:=by
 obtain⟨⟨cls,dd,data,sl⟩,ho,hc,n,hd⟩:=id ht;obtain⟨⟨Mc,A8,data2,AK⟩,A9,Bz,n2,hd2⟩:=id hb;simp only at hc hd Bz hd2;subst hc hd Bz hd2;have e:vs.toArray++ws.toArray=(vs++ws).toArray:=by simp
 by_cases hw:ws=[]
 .exact yN ⟨_,ho,rfl⟩ ⟨_,A9,rfl⟩ yQ Ŝ wF v8 (vZ _ _)
   (tuple_addW1 t b vs.toArray ws.toArray n n2 dd A8 sl AK (by simpa using hv) (by simp[hw])) ⟨ho,A9,h1 hw⟩
 .refine yN ⟨_,ho,rfl⟩ ⟨_,A9,rfl⟩ yQ Ŝ wF v8 (vZ _ _)
   (tuple_addW2 t b vs.toArray ws.toArray n n2 dd A8 sl AK (by simpa using hv) (by simpa using hw) (by rw[zJ,zJ];exact hsz)) ⟨ho,A9,?_⟩
  rw[e];exact h2 hw
def sIx(n d:Nat):Option Int->Nat
 | none=>d
 | some v=>if v<0 then (v+(n:Int)).toNat else min v.toNat n
def CL(n d:Nat)(hd:d<=n)(o:Option Int):sIx n d o<=n:=by
 cases o with
 | none=>exact hd
 | some v=>
  show(if v<0 then (v+(n:Int)).toNat else min v.toNat n)<=n
  by_cases hv:v<0
  .rw[z9 hv];omega
  .rw[kI hv];exact Nat.min_le_right _ _
def Z4(v:Int)(n d:Nat):(if v<0 then max (v+(n:Int)) 0 else min v (n:Int))=((sIx n d (À v):Nat):Int):=by
 show(if v<0 then max (v+(n:Int)) 0 else min v (n:Int))=(((if v<0 then (v+(n:Int)).toNat else min v.toNat n):Nat):Int)
 by_cases hv:v<0
 .erw[z9 hv];omega
 .erw[kI hv];omega
def Jz(lo hi:Option Int)(n:Nat):ď lo hi 1 (n:Int)=(((sIx n 0 lo:Nat):Int),((sIx n n hi:Nat):Int)):=by
 have h1:¬((1:Int)<0):=by omega
 unfold ď;erw[h1,je];refine Prod.ext ?_ ?_
 .cases lo with
  | none=>rfl
  | some v=>exact Z4 v n 0
 .cases hi with
  | none=>rfl
  | some v=>exact Z4 v n n
def J0(i j:Nat):þ (i:Int) (j:Int) 1=j-i:=by
 unfold þ;have h1:(1:Int)>0:=by omega
 erw[h1,kE,Int.ediv_one];split<;>omega
def nP{v:Ä}{o:Option Int}{Q:Option Int->Å->Prop}(p:Ĵ v o)(h:Q o s):Ê (Ì prog w) A (Builtin.Slice.slicePartIndex v) Q E s:=by
 cases p with
 | none=>exact slicePart_none h
 | int i t=>exact slicePart_int h
def de{sl:È}{vl vu:Ä}{lo hi:Option Int}{n:Nat}{Q:Int×Int×Nat->Å->Prop}(hs:s.heap.IsSliceOf sl vl vu .none)(pl:Ĵ vl lo)(pu:Ĵ vu hi)
  (h:Q (((sIx n 0 lo:Nat):Int),1,sIx n n hi-sIx n 0 lo) s):Ê (Ì prog w) A (ĵ (.ref sl) (pure (n:Int))) Q E s:=by
 obtain⟨os,HI,AH,hds⟩:=id hs;unfold ĵ Builtin.Slice.sliceFields;refine za (za (jj HI hds (x:=vl) rfl (za (jj HI hds (x:=vu) rfl (za (jj HI hds (x:=.none) rfl (zr ?_)))))));refine za (slicePart_none ?_);show Ê _ _ (if ((1:Int)==0)=Ã then _ else _) _ _ s
 rw[kI (by decide)];refine za (nP pl (za (nP pu (za (zr ?_)))));show Ê _ _ (match ď lo hi 1 (n:Int) with | (lo,hi)=>pure (lo,(1:Int),þ lo hi 1)) _ _ s
 rw[Jz lo hi n];show Ê _ _ (pure (((sIx n 0 lo:Nat):Int),(1:Int),þ ((sIx n 0 lo:Nat):Int) ((sIx n n hi:Nat):Int) 1)) _ _ s
 rw[J0];exact zr h
def Wp(xs:Array Ä)(i k:Nat):((ı k).filterMap λ(m:Nat)=>xs[((i:Int)+(m:Int)*1).toNat]?).toArray=((xs.toList.drop i).take k).toArray:=by
 have e:(λ(m:Nat)=>xs[((i:Int)+(m:Int)*1).toNat]?)=λm=>xs[i+m]?:=by
  funext m
  have:((i:Int)+(m:Int)*1).toNat=i+m:=by omega
  rw[this]
 rw[e];have:=pick_run xs i k;rw[List.filterMap_map] at this;have e2:((λx=>xs[x]?)∘λx=>i+x)=λm=>xs[i+m]?:=rfl
 rw[e2] at this;rw[this]
def getItem_tuple_cut{t sl:È}{items:Array Ä}{vl vu:Ä}{lo hi:Option Int}{Q:Ä->Å->Prop}(ht:IsTup s.heap t items)(hs:s.heap.IsSliceOf sl vl vu .none)(pl:Ĵ vl lo)(pu:Ĵ vu hi)
  (hw:¬(sIx items.size 0 lo=0/\sIx items.size items.size hi=items.size))
  (h:Q (.ref s.heap.objs.size) { s with heap:=s.heap.push { cls:=.type "tuple",data:=.seq ((items.toList.drop (sIx items.size 0 lo)).take (sIx items.size items.size hi-sIx items.size 0 lo)).toArray } })
  (hsz:items.size<=Î):Ê (Ì prog w) A (ľ (.ref t) (.ref sl)) Q E s:=by
 have AU:sizeOk (.seq ((items.toList.drop (sIx items.size 0 lo)).take (sIx items.size items.size hi-sIx items.size 0 lo)).toArray):=by
  show((items.toList.drop (sIx items.size 0 lo)).take (sIx items.size items.size hi-sIx items.size 0 lo)).toArray.size<=Î
  rw[zJ,qP,vh,vI];omega
 have hj:sIx items.size items.size hi<=items.size:=CL _ _ (zj _) hi;obtain⟨os,HI,AH,hds⟩:=id hs;have Nu:s.TypeIs (.ref sl) "slice":=⟨os,HI,AH⟩;unfold ľ;try with_reducible refine jd ?_
 first | refine za (zr ?_) | skip
 refine za (ŭ ht.typeIs (by decide) ?_)
 refine za (jq (name:=õ "__getitem__") ht.typeIs jE
  (jy jE ht.typeIs entry_tuple_getitem ?_ (args_tuple_getitem _ _)))
 show Ê _ _ (Ķ (.ref t) >>= _) _ _ s
 refine za (yp ht ?_);refine za (j5 Nu ?_);rw[z9 (by decide)];refine za (de hs pl pu ?_);have Nv:¬((((sIx items.size 0 lo:Nat):Int)==0&&(1:Int)==1&&(sIx items.size items.size hi-sIx items.size 0 lo)==items.size)=Ã):=by
  intro q;rw[zq,zq] at q;have q1:((sIx items.size 0 lo:Nat):Int)=0:=eq_of_beq q.1.1;have q2:sIx items.size items.size hi-sIx items.size 0 lo=items.size:=eq_of_beq q.2;exact hw ⟨by omega,by omega⟩
 show Ê _ _ (if (((sIx items.size 0 lo:Nat):Int)==0&&(1:Int)==1&&(sIx items.size items.size hi-sIx items.size 0 lo)==items.size)=Ã then _ else _) _ _ s
 rw[kI Nv,Wp];first
  | exact za (m:=å _) (jo (zr ⟨_,rfl,zr h⟩) AU)
  | exact za (m:=å _) (jo (za (zr (zr ⟨_,rfl,zr h⟩))) AU)
  | exact za (za (m:=å _) (jo (zr (zr ⟨_,rfl,zr h⟩)) AU))
  | exact za (za (m:=å _) (jo (zr ⟨_,rfl,zr h⟩) AU))
end
end HT
namespace L2
open PySem PySem.Spec PyProof.Rows
abbrev TO:=St->Hp->(Option Int->Hp->Prop)->Prop
def PO(X:Cx)(e:Option Ë)(t:TO):Prop:=
 ∀(ag:List (È×î)) (s:Å) (σ:St) (H:Hp) (Q:Option Int->Hp->Prop),Inv X ag σ H s->t σ H Q->
  Ê (Ì X.prog X.w) X.A (evalPart e X.env) (λu s'=>∃o H',Inv X ag σ H' s'/\Ĵ u o/\Q o H') X.xe s
def Bn:TO:=λ_ H Q=>Q Á H
def Ha(t:TE):TO:=λσ H Q=>t σ H λx H1=>∃i,x=.int i/\Q (À i) H1
section
variable{X:Cx}{e:Ë}{te:TE}{lo hi:Option Ë}{tl th:TO}{pos p2:Ċ}
def Bw:PO X Á Bn:=by
 intro ag s σ H Q I h;rw[evalPart_none];exact zr ⟨Á,H,I,.none,h⟩
def X4(h:PE X e te):PO X (À e) (Ha te):=by
 intro ag s σ H Q I hw;rw[evalPart_some];refine kC (h ag s σ H _ I hw) ?_;rintro u s1 ⟨x,H1,I1,r1,q1⟩;obtain⟨i,rfl,q⟩:=q1;obtain⟨t,rfl⟩:=r1;exact⟨À i,H1,I1,.int i t,q⟩
def Xf(X:Cx)(r:V->Option Int->Option Int->Hp->VK->Prop):Prop:=
 ∀(ag:List (È×î)) (s:Å) (σ:St) (H:Hp) (x:V) (v vl vu:Ä) (lo hi:Option Int) (sl:È) (Q:VK),Inv X ag σ H s->RelV x v->s.heap.IsSliceOf sl vl vu .none->Ĵ vl lo->Ĵ vu hi->r x lo hi H Q->
  ∃T id,ĝ (.type T) "__getitem__" = pure (À (.builtin id))/\s.TypeIs v T/\Ê (Ì X.prog X.w) X.A (ľ v (.ref sl)) (EP X ag σ Q) X.xe s
def IV(r:V->Option Int->Option Int->Hp->VK->Prop)(te:TE)(tl th:TO):TE:=λσ H Q=>te σ H λx H1=>tl σ H1 λl H2=>th σ H2 λu H3=>r x l u H3 Q
def WJ{r:V->Option Int->Option Int->Hp->VK->Prop}(hr:Xf X r)(he:PE X e te)(hl:PO X lo tl)(hu:PO X hi th):PE X (.Subscript e (.Slice lo hi Á p2) pos) (IV r te tl th):=by
 intro ag s σ H Q I h;refine Subscript_ (kC (he ag s σ H _ I h) ?_);rintro v s1 ⟨x,H1,I1,r1,q1⟩;refine wpAny_Slice (kC (hl ag s1 σ H1 _ I1 q1) ?_);rintro vl s2 ⟨l,H2,I2,pl,q2⟩;refine kC (hu ag s2 σ H2 _ I2 q2) ?_;rintro vu s3 ⟨u,H3,I3,pu,q3⟩;rw[evalPart_none];refine zr ?_;have I4:Inv X ag σ H3 { s3 with heap:=s3.heap.push { cls:=.type "slice",data:=.fields #[vl,vu,.none] } }:=I3.kept (t':=s3.toks) λb ob q=>zf _ q
 obtain⟨T,id,hT,ht,hg⟩:=hr ag { s3 with heap:=s3.heap.push { cls:=.type "slice",data:=.fields #[vl,vu,.none] } } σ H3 x v vl vu l u s3.heap.objs.size Q I4 r1 (Heap.IsSliceOf.new ..) pl pu q3;show Ê (Ì X.prog X.w) X.A (subscriptTail e (.Slice lo hi Á p2) v (.ref s3.heap.objs.size)) (EP X ag σ Q) X.xe { s3 with heap:=s3.heap.push { cls:=.type "slice",data:=.fields #[vl,vu,.none] } }
 exact tail_any (ops:=[.ref s3.heap.objs.size,v]) ht hT hg (by with_unfolding_all rfl)
def eJ(xs:List V)(lo hi:Option Int):List V:=(xs.drop (HT.sIx xs.length 0 lo)).take (HT.sIx xs.length xs.length hi-HT.sIx xs.length 0 lo)
def mD(xs:List V)(lo hi:Option Int):(eJ xs lo hi).length<=xs.length:=by
 unfold eJ;rw[qP,vh];omega
def IG(K:S5):V->Option Int->Option Int->Hp->VK->Prop:=λx lo hi H Q=>∃a xs,x=.ref a/\SqT K H a xs /\
 ¬(HT.sIx xs.length 0 lo=0/\HT.sIx xs.length xs.length hi=xs.length)/\∀p,H p=Á->Q (.ref p) (upd H p (.tup (eJ xs lo hi)))
def C4:Xf X (IG X.K):=by
 intro ag s σ H x v vl vu lo hi sl Q I rx hs pl pu h;obtain⟨a,xs,rfl,hx,hw,q⟩:=h;cases rx;obtain⟨cb,r,ht,hz⟩:=I.tuple hx;have hX:cb.toArray.size=xs.length:=by rw[zJ];exact r.length.symm
 refine⟨"tuple",_,jE.lookup,ht.typeIs,?_⟩;refine HT.getItem_tuple_cut ht hs pl pu (by rw[hX];exact hw) ?_ (by rw[hX];exact hz);rw[hX];refine⟨.ref s.heap.objs.size,_,I.laid (t':=s.toks) (o:=.tup (eJ xs lo hi)) (λb ob q=>zf _ q) (zj _) ?_,rfl,q _ (I.hok.fresh (zj _))⟩;exact⟨zK (mD xs lo hi) hz,_,(r.drop (HT.sIx xs.length 0 lo)).take (HT.sIx xs.length xs.length hi-HT.sIx xs.length 0 lo),IsTup.new _ _,.new _ _⟩
def G8(K:S5):R2:=λx y H Q=>∃a b xs ys,x=.ref a/\y=.ref b/\SqT K H a xs/\SqT K H b ys/\xs≠[]/\xs.length+ys.length<=Î /\
 (ys=[]->Q (.ref a) H)/\(ys≠[]->∀p,H p=Á->Q (.ref p) (upd H p (.tup (xs++ys))))
def Vals.nil_iff{xs:List V}{us:List Ä}(r:Vals xs us):us=[]↔xs=[]:=by
 cases r with
 | nil=>simp
 | cons _ _=>simp
def BC:jI X (ä .Add) (G8 X.K):=by
 intro ag s σ H x y v u Q I rx ry h;obtain⟨a,b,xs,ys,rfl,rfl,ha,hb,hx,hz,q1,q2⟩:=h;cases rx;cases ry;obtain⟨cb,r1,p1,_⟩:=I.tuple ha;obtain⟨Ao,r2,p2,_⟩:=I.tuple hb;refine HT.cat_tup p1 p2 (λz=>hx (r1.nil_iff.mp z)) (λz=>⟨.ref a,H,I,rfl,q1 (r2.nil_iff.mp z)⟩) (λz=>?_) (by rw[<-r1.length,<-r2.length];exact hz);refine⟨.ref s.heap.objs.size,_,I.laid (t':=s.toks) (o:=.tup (xs++ys)) (λb ob q=>zf _ q) (zj _) ?_,rfl,q2 (λw=>z (r2.nil_iff.mpr w)) _ (I.hok.fresh (zj _))⟩;exact⟨by rw[zQ];exact hz,_,r1.append r2,IsTup.new _ _,.new _ _⟩
end
end L2
namespace L2
open PySem PySem.Spec PyProof.Rows
def xD(n:Nat)(i:Int):Option Nat:=if 0<=i then (if i<n then À i.toNat else Á) else if -(n:Int)<=i then À (i+n).toNat else Á
def atI{α:Type}(xs:List α)(i:Int):Option α:=(xD xs.length i).bind λj=>xs[j]?
def Z5{n:Nat}{i:Int}{j:Nat}(h:xD n i=À j):seqIndex? i n=À j/\j<n/\-(n:Int)<=i/\i<n:=by
 unfold xD at h;by_cases h0:0<=i
 .rw[z9 h0] at h
  by_cases h1:i<n
  .rw[z9 h1] at h
   have e:i.toNat=j:=zZ h;exact⟨by rw[ŵ h0 h1,e],by omega,by omega,h1⟩
  .rw[kI h1] at h;cases h
 .rw[kI h0] at h
  by_cases h1:-(n:Int)<=i
  .rw[z9 h1] at h
   have e:(i+n).toNat=j:=zZ h;exact⟨by rw[Ů ∅ h1,e],by omega,h1,by omega⟩
  .rw[kI h1] at h;cases h
def oX{α:Type}{xs:List α}{i:Int}{v:α}(h:atI xs i=À v):∃j,seqIndex? i xs.length=À j/\xs[j]?=À v/\j<xs.length/\-(xs.length:Int)<=i/\i<xs.length:=by
 unfold atI at h;cases e:xD xs.length i with
 | none=>rw[e] at h;cases h
 | some j=>
  rw[e] at h;obtain⟨h1,h2,h3,h4⟩:=Z5 e;exact⟨j,h1,h,h2,h3,h4⟩
def Ko{α:Type}{xs:List α}{j:Nat}{v:α}(h:xs[j]?=À v):atI xs (j:Int)=À v:=by
 have hj:j<xs.length:=(zT.mp h).1;have e:xD xs.length (j:Int)=À j:=by
  unfold xD;rw[z9 ∅,z9 ∅];simp
 unfold atI;rw[e];exact h
def WB{α:Type}(xs:List α)(v:α):atI (xs++[v]) (-1)=À v:=by
 have hl:(xs++[v]).length=xs.length+1:=by simp
 have e:xD (xs++[v]).length (-1)=À xs.length:=by
  unfold xD;rw[hl,kI (by decide),z9 ∅];congr 1
  omega
 unfold atI;rw[e];show(xs++[v])[xs.length]?=À v
 simp
def ae(b:Ë):Prop:=∀o i,subscripted b Â o i=operate [o,i] (ľ o i)
def ZP(X:Cx)(r:R2):Prop:=
 ∀(value slice:Ë) (ag:List (È×î)) (s:Å) (σ:St) (H:Hp) (x y:V) (v u:Ä) (Q:VK),Inv X ag σ H s->RelV x v->RelV y u->r x y H Q->
  subscripted slice Â v u=operate [v,u] (ľ v u)->Ê (Ì X.prog X.w) X.A (subscriptTail value slice v u) (EP X ag σ Q) X.xe s
def Hv(X:Cx)(id:String)(r:V->List V->Hp->VK->Prop):Prop:=
 ∀(ag:List (È×î)) (s:Å) (σ:St) (H:Hp) (x:V) (xs:List V) (v:Ä) (us:List Ä) (Q:VK),Inv X ag σ H s->RelV x v->Vals xs us->r x xs H Q->
  Ê (Ì X.prog X.w) X.A (Ŋ (.builtin id) (v::us)) (EP X ag σ Q) X.xe s
section
variable{X:Cx}{a b:Ë}{ta tb:TE}{pos:Ċ}
def JN{r:R2}(hr:ZP X r)(ha:PE X a ta)(hb:PE X b tb)(hs:ae b):PE X (.Subscript a b pos) (QO r ta tb):=by
 intro ag s σ H Q I h;exact Subscript_ (YJ ha hb I h λv u s2 x y H2 I2 rx ry q=>hr a b ag s2 σ H2 x y v u Q I2 rx ry q (hs _ _))
def Io(K:S5):R2:=λx y H Q=>∃p xs i v,x=.ref p/\y=.int i/\SqL K H p xs/\atI xs i=À v/\Q v H
def Hz(K:S5):R2:=λx y H Q=>∃p xs i v,x=.ref p/\y=.int i/\SqT K H p xs/\atI xs i=À v/\Q v H
def Ij:R2:=λx y H Q=>∃z i c,x=.str z/\y=.int i/\z.length<=Î/\atI z.cps.toList i=À c/\Q (.str ⟨#[c]⟩) H
def BQ:ZP X (Io X.K):=by
 intro value slice ag s σ H x y v u Q I rx ry h hs;obtain⟨p,xs,i,z,rfl,rfl,hq,he,q⟩:=h;cases rx;obtain⟨t,rfl⟩:=ry;obtain⟨cb,r,pl,hz⟩:=I.list hq;obtain⟨j,h1,h2,h3,h4,h5⟩:=oX he;obtain⟨w,ew,Eh⟩:=r.get h2;have hl:=r.length;have hn:=f7;have fin:EP X ag σ Q w s:=⟨z,H,I,Eh,q⟩;by_cases h0:0<=i
 .have hj:i.toNat=j:=by
   rw[ŵ h0 h5] at h1;exact zZ h1
  exact item_listR pl.isList h0 ∅ (by rw[hj];simpa using ew) fin hs
 .have hj:(i+(cb.toArray.size:Int)).toNat=j:=by
   rw[Ů ∅ h4] at h1;rw[zJ,<-hl];exact zZ h1
  exact subscriptTail_builtinR (x:=w) pl.isList.typeIs slot_list_getitem.lookup
   (wpAny_getItem_list_neg (Q:=λr s'=>r=w/\EP X ag σ Q r s') pl.isList ∅ (by rw[zJ]<;>omega) ∅ (by rw[hj];simpa using ew) ⟨rfl,fin⟩) hs
def ZA:ZP X (Hz X.K):=by
 intro value slice ag s σ H x y v u Q I rx ry h hs;obtain⟨p,xs,i,z,rfl,rfl,hq,he,q⟩:=h;cases rx;obtain⟨t,rfl⟩:=ry;obtain⟨cb,r,pl,hz⟩:=I.tuple hq;obtain⟨j,h1,h2,h3,h4,h5⟩:=oX he;obtain⟨w,ew,Eh⟩:=r.get h2;have hl:=r.length;have hn:=f7;have fin:EP X ag σ Q w s:=⟨z,H,I,Eh,q⟩;exact subscriptTail_builtinR (x:=w) pl.typeIs jE.lookup
  (getItem_tuple (j:=j) (Q:=λr s'=>r=w/\EP X ag σ Q r s') pl ∅ ∅ (by rw[zJ,<-hl];exact h1) (by simpa using ew) ⟨rfl,fin⟩) hs
def CY:ZP X Ij:=by
 intro value slice ag s σ H x y v u Q I rx ry h hs;obtain⟨z,i,c,rfl,rfl,hz,he,q⟩:=h;obtain⟨t,rfl⟩:=rx;obtain⟨t',rfl⟩:=ry;obtain⟨j,h1,h2,h3,h4,h5⟩:=oX he;have hl:z.cps.toList.length=z.length:=by simp[Str.length]
 rw[hl] at h1 h4 h5;have hn:=f7
 exact tail_any (typeIs_str s z t) slot_str_getitem.lookup (getItem_str (c:=c) (by
  have e1:decide (i < -(2 ^ 63:Int))=Â:=jA ∅;have e2:decide (i>=2 ^ 63)=Â:=jA ∅
  rw[e1,e2,Bool.or_false]) (by rw[h1];simpa using h2) ⟨.str ⟨#[c]⟩,H,I.tok _,⟨_,rfl⟩,q⟩) hs
def JG(cb:List Ä)(n j:Nat)(u:Ä):ú (·.setIfInBounds j u) { cls:=.type "list",data:=.seq cb.toArray n }={ cls:=.type "list",data:=.seq (cb.set j u).toArray n }:=by
 simp[ú]
theorem Inv.lst{ag:List (È×î)}{σ:St}{H:Hp}{s:Å}{p:È}{xs:List V}(I:Inv X ag σ H s)(h:H p=À (.lst xs)) :
  ∃(cb:List Ä) (n:Nat),Vals xs cb/\s.heap.get? p=À { cls:=.type "list",data:=.seq cb.toArray n }/\xs.length<=Î:=by
 obtain⟨z,cb,n,r,e⟩:=I.hok p _ h;exact⟨cb,n,r,e,z⟩
def Inv.lstUpd{ag:List (È×î)}{σ:St}{H:Hp}{s:Å}{p:È}{xs ys:List V}{cb its':List Ä}{n n':Nat}{f:î->î}(I:Inv X ag σ H s)(h:H p=À (.lst xs))
  (ho:s.heap.get? p=À { cls:=.type "list",data:=.seq cb.toArray n }) (hf:f { cls:=.type "list",data:=.seq cb.toArray n }={ cls:=.type "list",data:=.seq its'.toArray n' }) (r:Vals ys its') (hz:ys.length<=Î) (t:Nat) :
  Inv X ag σ (upd H p (.lst ys)) { s with heap:=s.heap.update p f,toks:=t }:=by
 have e:(s.heap.update p f).get? p=À { cls:=.type "list",data:=.seq its'.toArray n' }:=by
  rw[jO f ho (by rw[hf]<;>rfl),hf]
 refine I.write (x:=p) (e:=p) (by rw[h];trivial) (.inl rfl) (λb u hb q=>(qH _ _ (kZ hb)).trans q) ⟨_,e⟩ ?_;exact⟨hz,its',n',r,e⟩
def GP:V->V->V->Hp->(Hp->Prop)->Prop:=λo i v H Q=>∃p xs k j,o=.ref p/\i=.int k/\H p=À (.lst xs)/\xD xs.length k=À j/\Q (upd H p (.lst (xs.set j v)))
def set_list:Wr X GP:=by
 intro ag s σ H o i v ov iv u Q I ro ri rv h;obtain⟨p,xs,k,j,rfl,rfl,hp,hj,q⟩:=h;cases ro;obtain⟨t,rfl⟩:=ri;obtain⟨cb,n,r,ho,hz⟩:=I.lst hp;obtain⟨h1,h2,h3,h4⟩:=Z5 hj;have hl:=r.length;have hn:=f7;have I':Inv X ag σ (upd H p (.lst (xs.set j v))) { s with heap:=s.heap.update p (ú (·.setIfInBounds j u)) }:=
  I.lstUpd hp ho (JG cb n j u) (r.set rv j) (by rw[jc];exact hz) s.toks
 by_cases h0:0<=k
 .have hk:k.toNat=j:=by
   rw[ŵ h0 h4] at h1;exact zZ h1
  exact PySem.W.ki_setAt ho h0 ∅ (by rw[zJ,<-hl];exact h4) (by rw[hk];exact⟨_,I',q⟩)
 .have hk:(k+(cb.toArray.size:Int)).toNat=j:=by
   rw[Ů ∅ h3] at h1;rw[zJ,<-hl];exact zZ h1
  exact PySem.W.ki_setBack ho ∅ (by rw[zJ,<-hl];exact h3) ∅ (by rw[hk];exact⟨_,I',q⟩)
def tG(lo hi:Option Int)(n:Nat):(ĕ lo hi Á n).1=((HT.sIx n 0 lo:Nat):Int)/\(ĕ lo hi Á n).2.1=((HT.sIx n n hi:Nat):Int)/\(ĕ lo hi Á n).2.2=1:=by
 refine⟨?_,?_,rfl⟩
 .cases lo with
  | none=>simp[ĕ,HT.sIx]
  | some i=>
   erw[ĕ,HT.sIx,Option.getD_none,show(1:Int)>0 by decide,kE];by_cases h:i<0
   .erw[h,kE]<;>omega
   .erw[h,je]<;>omega
 .cases hi with
  | none=>simp[ĕ,HT.sIx]
  | some i=>
   erw[ĕ,HT.sIx,Option.getD_none,show(1:Int)>0 by decide,kE];by_cases h:i<0
   .erw[h,kE]<;>omega
   .erw[h,je]<;>omega
theorem rS(cb:List Ä)(lo hi:Option Int):slicePick cb.toArray lo hi Á=((cb.drop (HT.sIx cb.length 0 lo)).take (HT.sIx cb.length cb.length hi-HT.sIx cb.length 0 lo)).toArray:=by
 obtain⟨h1,h2,h3⟩:=tG lo hi cb.toArray.size;unfold slicePick;rw[h1,h2,h3];erw[sliceRange_one,pick_run,zJ]<;>rfl
def Iq(K:S5):V->Option Int->Option Int->Hp->VK->Prop:=λx lo hi H Q=>∃a xs,x=.ref a/\SqL K H a xs/\∀p,H p=Á->Q (.ref p) (upd H p (.lst (eJ xs lo hi)))
def Bu:Xf X (Iq X.K):=by
 intro ag s σ H x v vl vu lo hi sl Q I rx hs pl pu h;obtain⟨a,xs,rfl,hx,q⟩:=h;cases rx;obtain⟨cb,r,ht,hz⟩:=I.list hx;have hX:=r.length;refine⟨"list",_,slot_list_getitem.lookup,ht.isList.typeIs,?_⟩;refine wpAny_getItem_list_slice ht.isList hs pl pu .none (by simp) ?_ (by rw[zJ]<;>omega);rw[rS,<-hX];refine⟨.ref s.heap.objs.size,_,I.laid (t':=s.toks) (o:=.lst (eJ xs lo hi)) (λb ob q=>zf _ q) (zj _) ?_,rfl,q _ (I.hok.fresh (zj _))⟩;exact⟨zK (mD xs lo hi) hz,_,0,(r.drop (HT.sIx xs.length 0 lo)).take (HT.sIx xs.length xs.length hi-HT.sIx xs.length 0 lo),zN _ rfl⟩
def lP:yB X (.builtin "len") (λxs H Q=>∃p ys,xs=[.ref p]/\(SqL X.K H p ys\/SqT X.K H p ys)/\Q (.int ys.length) H):=by
 intro ag s σ H xs us Q I r h;obtain⟨p,ys,rfl,hq,q⟩:=h;obtain⟨u,rfl,rx⟩:=vals1 r;cases rx;have hn:=f7;rcases hq with hq | hq
 .obtain⟨cb,r',pl,hz⟩:=I.list hq
  have hX:=r'.length;exact Calls.call_len_list pl.isList (by erw[zJ]<;>omega) ⟨.int ys.length,H,I.tok _,⟨s.toks+1,by rw[zJ,hX]⟩,q⟩
 .obtain⟨cb,r',pl,hz⟩:=I.tuple hq
  have hX:=r'.length;exact len_tuple pl (by erw[zJ]<;>omega) ⟨.int ys.length,H,I.tok _,⟨s.toks+1,by rw[zJ,hX]⟩,q⟩
def tK:yB X (.builtin "len") (λxs H Q=>∃z,xs=[.str z]/\z.length<=Î/\Q (.int z.length) H):=by
 intro ag s σ H xs us Q I r h;obtain⟨z,rfl,hz,q⟩:=h;obtain⟨u,rfl,t,rfl⟩:=vals1 r;have hn:=f7;exact len_str ∅ ⟨.int z.length,H,I.tok _,⟨_,rfl⟩,q⟩
def sN:yB X (.type "list") (λxs H Q=>∃p ys,xs=[.ref p]/\(SqL X.K H p ys\/SqT X.K H p ys)/\∀l,H l=Á->Q (.ref l) (upd H l (.lst ys))):=by
 intro ag s σ H xs us Q I r h;obtain⟨p,ys,rfl,hq,q⟩:=h;obtain⟨u,rfl,rx⟩:=vals1 r;cases rx;have fin:∀(cb:List Ä),Vals ys cb->ys.length<=Î->∀(h':Ï) (c':Nat),(∀b o',s.heap.get? b=À o'->h'.get? b=À o')->
   h'.get? s.heap.objs.size=À { cls:=.type "list",dict:=Á,data:=.seq cb.toArray c',slots:=#[] }->EP X ag σ Q (.ref s.heap.objs.size) { s with heap:=h' }:=λcb r' hz h' c' kp e=>
  ⟨.ref s.heap.objs.size,_,I.laid (t':=s.toks) kp (zj _) (show ObjOk X.prog X.w _ h' _ (.lst ys) from ⟨hz,cb,c',r',e⟩),rfl,q _ (I.hok.fresh (zj _))⟩
 rcases hq with hq | hq
 .obtain⟨cb,r',pl,hz⟩:=I.list hq
  have hX:=r'.length;obtain⟨o,ho,hc,n,hd⟩:=pl.isList;exact call_list_seq p (.inl rfl) ho hc hd (λh' c' kp e=>fin cb r' hz h' c' kp e) (by erw[zJ]<;>omega)
 .obtain⟨cb,r',pl,hz⟩:=I.tuple hq
  have hX:=r'.length;obtain⟨o,ho,hc,n,hd⟩:=pl;exact call_list_seq p (.inr rfl) ho hc hd (λh' c' kp e=>fin cb r' hz h' c' kp e) (by erw[zJ]<;>omega)
def i5:yB X (.type "tuple") (λxs H Q=>∃p ys,xs=[.ref p]/\((SqL X.K H p ys/\∀l,H l=Á->Q (.ref l) (upd H l (.tup ys)))\/(SqT X.K H p ys/\Q (.ref p) H))):=by
 intro ag s σ H xs us Q I r h;obtain⟨p,ys,rfl,h⟩:=h;obtain⟨u,rfl,rx⟩:=vals1 r;cases rx;rcases h with ⟨hq,q⟩ | ⟨hq,q⟩
 .obtain⟨cb,r',pl,hz⟩:=I.list hq
  have hX:=r'.length;refine call_tuple_list pl.isList (λh' kp=>?_) (by erw[zJ]<;>omega);have I1:Inv X ag σ H { s with heap:=h' }:=I.kept (t':=s.toks) kp;have I2:Inv X ag σ (upd H h'.objs.size (.tup ys)) { s with heap:=h'.push { cls:=.type "tuple",data:=.seq cb.toArray } }:=
   I1.laid (t':=s.toks) (λb o e=>zf _ e) (zj _) (show ObjOk X.prog X.w _ _ _ (.tup ys) from ⟨hz,cb,r',IsTup.new _ _,.new _ _⟩)
  exact⟨.ref h'.objs.size,_,I2,rfl,q _ (I1.hok.fresh (zj _))⟩
 .obtain⟨cb,r',pl,hz⟩:=I.tuple hq
  exact call_tuple_same pl ⟨.ref p,H,I,rfl,q⟩
def CU(K:S5)(T:String)(x:V)(H:Hp):Prop:=match x with
 | .str _=>T="str"
 | .int _=>T="int"
 | .ref p=>(T="list" /\ ∃xs,SqL K H p xs)\/(T="tuple" /\ ∃o,K.lookup p=À o/\o.cls=.type "tuple" /\ o.dict=Á) \/
   (T="dict" /\ ((∃d6,H p=À (.dK d6))\/∃d6,H p=À (.dT d6)))\/(T="set" /\ ∃S n,H p=À (.set S n))
 | _=>False
def Qa{ag:List (È×î)}{σ:St}{H:Hp}{s:Å}{T:String}{x:V}{v:Ä}(I:Inv X ag σ H s)(r:RelV x v)(ty:CU X.K T x H) :
  s.TypeIs v T/\∀a,v=.ref a->∃ob,s.heap.get? a=À ob/\ob.dict=Á:=by
 cases x with
 | str z=>
  obtain⟨t,rfl⟩:=r;cases (show T="str" from ty);exact⟨typeIs_str s z t,λ_ e=>nomatch e⟩
 | int i=>
  obtain⟨t,rfl⟩:=r;cases (show T="int" from ty);exact⟨yI s i t,λ_ e=>nomatch e⟩
 | ref p=>
  cases r;rcases ty with ⟨rfl,xs,hq⟩ | ⟨rfl,o,hk,hc,hd⟩ | ⟨rfl,hk⟩ | ⟨rfl,S,n,hk⟩
  .obtain⟨cb,_,pl,_⟩:=I.list hq
   refine⟨pl.isList.typeIs,λa e=>?_⟩;cases e;obtain⟨o,n,e,c,hd,_⟩:=pl;exact⟨o,e,hd⟩
  .refine⟨⟨o,I.kIn p o hk,hc⟩,λa e=>?_⟩
   cases e;exact⟨o,I.kIn _ o hk,hd⟩
  .have z:∃o,s.heap.get? p=À o/\o.ExactDict:=by
    rcases hk with ⟨d6,hk⟩ | ⟨d6,hk⟩
    .obtain⟨_,_,_,_,o,_,_,e,ex,_⟩:=I.hok p _ hk
     exact⟨o,e,ex⟩
    .obtain⟨_,_,_,_,o,_,_,e,ex,_⟩:=I.hok p _ hk
     exact⟨o,e,ex⟩
   obtain⟨o,e,ex⟩:=z;refine⟨⟨o,e,ex.1⟩,λa e2=>?_⟩;cases e2;exact⟨o,e,ex.2.1⟩
  .obtain⟨o,_,_,_,e,ex,_⟩:=I.hok p _ hk
   refine⟨⟨o,e,ex.1⟩,λa e2=>?_⟩;cases e2;exact⟨o,e,ex.2.1⟩
 | _=>exact ò ty
def C9(K:S5)(T:String)(r:V->List V->Hp->VK->Prop)(to:TE):TE:=λσ H Q=>to σ H λx H1=>CU K T x H1/\r x [] H1 Q
def Hk(K:S5)(T:String)(r:V->List V->Hp->VK->Prop)(to:TE)(t:TA):TE:=λσ H Q=>to σ H λx H1=>CU K T x H1/\t σ H1 λxs H2=>r x xs H2 Q
variable{o e:Ë}{es:List Ë}{to:TE}{t:TA}{name:Ç}{apos cpos:Ċ}{T id:String}{r:V->List V->Hp->VK->Prop}
def Dk(pa:PlainAttrs T)(slot:Slot T name id)(Nw:typeOf (.builtin id)=pure (.type "method_descriptor"))(hm:Hv X id r)(ho:PE X o to)
  (Aj:↥(Ý o name X.env (Ú o X.env)=Ú o X.env)) (xa:↥((apos.endLine==cpos.line)=Ã)):PE X (.Call (.Attribute o name apos) [] [] cpos) (C9 X.K T r to):=by
 intro ag s σ H Q I h;refine wpAny_Call_method0_late Aj xa (kC (ho ag s σ H _ I h) ?_);rintro v s1 ⟨x,H1,I1,r1,ty,q1⟩;obtain⟨h1,h2⟩:=Qa I1 r1 ty;exact⟨T,id,pa,slot,Nw,h1,h2,yc rfl (PySem.evalArgs_none (hm ag s1 σ H1 x [] v [] Q I1 r1 .nil q1))⟩
def Xg(pa:PlainAttrs T)(slot:Slot T name id)(Nw:typeOf (.builtin id)=pure (.type "method_descriptor"))(hm:Hv X id r)(ho:PE X o to)(ha:PA X (e::es) t)
  (Aj:↥(Ý o name X.env (Ú o X.env)=Ú o X.env))
  (Aq:((Ù cpos (É (e::es) X.env)).all (λx=>!x.1)&&(ô cpos (Þ [] X.env)).all (λx=>x.1.isSome)
   && decide ((e::es).length+([]:List ý).length+(if ([]:List ý).isEmpty then 0 else 1)<30))=Ã:=by rfl)
  (xa:↥((apos.endLine==cpos.line)=Ã)) (hs:↥(É (e::es) X.env=(Â,Ú e X.env)::É es X.env)) (Aw:↥((Ù cpos (É es X.env)).any (·.1)=Â)) :
  PE X (.Call (.Attribute o name apos) (e::es) [] cpos) (Hk X.K T r to t):=by
 intro ag s σ H Q I h;refine wpAny_Call_method_late Aj Aq xa rfl (kC (ho ag s σ H _ I h) ?_);rintro v s1 ⟨x,H1,I1,r1,ty,q1⟩;obtain⟨h1,h2⟩:=Qa I1 r1 ty;refine⟨T,id,pa,slot,Nw,h1,h2,?_⟩;have hA:=ha cpos ag s1 σ H1 _ I1 q1;rw[hs] at hA ⊢;refine yc (by show(Â||(Ù cpos (É es X.env)).any (·.1))=Â;rw[Aw]<;>rfl) (Calls.evalArgs_plain ?_);exact kC hA λus s2 Nt=>(by obtain⟨vs,H2,I2,r2,q2⟩:=Nt;exact hm ag s2 σ H2 x vs v us Q I2 r1 r2 q2)
end
end L2
namespace L2
open PySem PySem.Spec PyProof.Rows
def J9(X:Cx)(id:String)(r:V->List V->Hp->VK->Prop):Prop:=
 ∀(ag:List (È×î)) (s:Å) (σ:St) (H:Hp) (x:V) (xs:List V) (v:Ä) (us:List Ä) (Q:VK),Inv X ag σ H s->RelV x v->Vals xs us->r x xs H Q->
  Ê (Ì X.prog X.w) X.A (Ŋ (.builtin id) (v::us)) (EP X ag σ Q) X.xe s
def Vals.one{x:V}{us:List Ä}(h:Vals [x] us):∃u,us=[u]/\RelV x u:=by
 cases h with | cons r t=>cases t;exact⟨_,rfl,r⟩
theorem Vals.zero:∀{us:List Ä},Vals [] us->us=[]
 | _,.nil=>rfl
theorem Vals.dropLast{xs:List V}{us:List Ä}(h:Vals xs us):Vals xs.dropLast us.dropLast:=by
 induction h with
 | nil=>exact .nil
 | cons r t ih=>
  cases t with
  | nil=>exact .nil
  | cons q t'=>exact .cons r ih
theorem Vals.rep{xs:List V}{us:List Ä}(h:Vals xs us):∀k:Nat,Vals (Æ k xs).flatten (Æ k us).flatten
 | 0=>.nil
 | k+1=>by
  rw[jZ,jZ,qG,qG];exact Vals.append h (Vals.rep h k)
theorem JU{α:Type}(l:List α):l.eraseIdx (l.length-1)=l.dropLast:=by
 induction l with
 | nil=>rfl
 | cons a r ih=>
  cases r with
  | nil=>rfl
  | cons b r=>
   have e:(a::b::r).length-1=((b::r).length-1)+1:=by
    have h1:(a::b::r).length=r.length+2:=rfl;have h2:(b::r).length=r.length+1:=rfl;omega
   rw[e,List.eraseIdx_cons_succ,ih];all_goals rfl
theorem foldl_rep(cb:List Ä):∀(k:Nat) (acc:List Ä),
  ķ (λx1 x2=>x1++x2) acc.toArray (Æ k cb.toArray)=(acc++(Æ k cb).flatten).toArray
 | 0,acc=>by simp
 | k+1,acc=>by
  have e:acc.toArray++cb.toArray=(acc++cb).toArray:=by simp
  have e2:(acc++cb)++(Æ k cb).flatten=acc++(Æ (k+1) cb).flatten:=by
   rw[jZ,qG,zY]
  rw[<-e2,<-foldl_rep cb k (acc++cb),<-e,jZ,jR]
section
variable{X:Cx}{ag:List (È×î)}{σ:St}{H:Hp}{s:Å}{l b:È}{xs ys zs:List V}
def Inv.lset{cb its':List Ä}{n:Nat}{f:Array Ä->Array Ä}{t':Nat}(I:Inv X ag σ H s)(hH:H l=À (.lst xs))
  (e:s.heap.get? l=À { cls:=.type "list",data:=.seq cb.toArray n }) (hf:f cb.toArray=its'.toArray) (hv:Vals ys its') (hz:ys.length<=Î) :
  Inv X ag σ (upd H l (.lst ys)) { s with heap:=s.heap.update l (ú f),toks:=t' }:=by
 have q:=PySem.IsL.update e f;rw[hf] at q;refine I.write (x:=l) (e:=l) (by rw[hH];exact trivial) (.inl rfl) (λb' u hb hu=>(qH s.heap (ú f) (kZ hb)).trans hu) ⟨_,q⟩ ?_;exact⟨hz,its',_,hv,q⟩
def Inv.lnew{cb:List Ä}{t':Nat}(I:Inv X ag σ H s)(hv:Vals ys cb)(hz:ys.length<=Î) :
  Inv X ag σ (upd H s.heap.objs.size (.lst ys)) { s with heap:=s.heap.push { cls:=.type "list",data:=.seq cb.toArray },toks:=t' }:=
 I.laid (λ_ _ q=>zf _ q) (zj _) ⟨hz,cb,0,hv,zN _ rfl⟩
theorem Inv.fresh(I:Inv X ag σ H s):H s.heap.objs.size=Á:=I.hok.fresh (zj _)
def Inv.lstM(I:Inv X ag σ H s)(hH:H l=À (.lst xs)):xs.length<=Î/\∃(cb:List Ä) (n:Nat),Vals xs cb/\xs.length=cb.length/\s.heap.get? l=À { cls:=.type "list",data:=.seq cb.toArray n }:=by
 obtain⟨z,cb,n,r,e⟩:=I.hok l _ hH;exact⟨z,cb,n,r,r.length,e⟩
def YW{n:Nat}(h:n<=Î):æ n=Â:=by
 unfold æ;exact jA ∅
end
section
variable{X:Cx}
def UT:V->List V->Hp->VK->Prop:=λx vs H Q=>∃l xs y,x=.ref l/\vs=[y]/\H l=À (.lst xs)/\xs.length<Î/\Q .non (upd H l (.lst (xs++[y])))
def pN:J9 X "list.append" UT:=by
 intro ag s σ H x vs v us Q I rx rv h;obtain⟨l,xs,y,rfl,rfl,hH,hz,q⟩:=h;cases rx;obtain⟨u,rfl,ru⟩:=rv.one;obtain⟨z,cb,n,r,hl,e⟩:=I.lstM hH;refine vq F.slot_list_append ⟨_,e,rfl⟩ F.entry_list_append (F.args_list_append_2 _ _) (PySem.list_append l cb.toArray n u (by rw[zJ];omega)) ⟨e,?_⟩;refine⟨.non,_,I.lset (its':=cb++[u]) hH e (by simp) (r.append (.cons ru .nil)) ?_,rfl,q⟩;rw[zQ,List.length_singleton];omega
def IB:V->List V->Hp->VK->Prop:=λx vs H Q=>∃l xs y,x=.ref l/\vs=[]/\H l=À (.lst xs)/\xs[xs.length-1]?=À y/\Q y (upd H l (.lst xs.dropLast))
def DF:J9 X "list.pop" IB:=by
 intro ag s σ H x vs v us Q I rx rv h;obtain⟨l,xs,y,rfl,rfl,hH,hy,q⟩:=h;cases rx;have Ph:=rv.zero;subst Ph;obtain⟨z,cb,n,r,hl,e⟩:=I.lstM hH;obtain⟨u,hu,ru⟩:=r.get hy;have Pi:cb.toArray[cb.toArray.size-1]?=À u:=by
  show cb.toArray[cb.length-1]?=À u
  rw[<-xx,<-hl];exact hu
 refine vq F.slot_list_pop ⟨_,e,rfl⟩ F.entry_list_pop (F.args_list_pop_1 _) (MeetsSeq.list_pop_last l cb.toArray n u Pi (by rw[zJ];omega)) ⟨e,?_⟩;refine⟨y,_,I.lset (its':=cb.dropLast) hH e ?_ r.dropLast ?_,ru,q⟩
 .show cb.toArray.eraseIdxIfInBounds (cb.toArray.size-1)=cb.dropLast.toArray
  rw[zJ,List.eraseIdxIfInBounds_toArray,JU]
 .rw[List.length_dropLast]
  omega
def len_rep{α:Type}(xs:List α)(k:Nat):(Æ k xs).flatten.length=k*xs.length:=by
 induction k with
 | zero=>simp
 | succ k ih=>rw[jZ,qG,zQ,ih,Nat.succ_mul,vf]
end
end L2
namespace L2
open PySem PySem.Spec PyProof.Rows
section
variable{κ:Type}[DecidableEq κ]
def ut(d6:List (κ×V))(k:κ):Option V:=(d6.find? λkv=>decide (kv.1=k)).map (·.2)
def putK(d6:List (κ×V))(k:κ)(v:V):List (κ×V):=
 if (d6.any λkv=>decide (kv.1=k))=Ã then d6.map (λkv=>if kv.1=k then (kv.1,v) else kv) else d6++[(k,v)]
def ng{p:κ×V}{r:List (κ×V)}{k:κ}(e:p.1=k):ut (p::r) k=À p.2:=by simp[ut,jD,e]
def mY{p:κ×V}{r:List (κ×V)}{k:κ}(e:¬p.1=k):ut (p::r) k=ut r k:=by simp[ut,jD,e]
theorem t7(k:κ):∀d6:List (κ×V),(d6.any λkv=>decide (kv.1=k))=(ut d6 k).isSome
 | []=>rfl
 | p::r=>by
  rw[wg];by_cases e:p.1=k
  .erw[ng e,jX e,Bool.true_or,vM]
  .rw[mY e,jA e,Bool.false_or];exact t7 k r
def fz(d6:List (κ×V))(k:κ)(v:V):(putK d6 k v).length<=d6.length+1:=by
 unfold putK;split
 .rw[zP];omega
 .rw[zQ,zp,zV];omega
theorem RelO.isSome_eq{o:Option V}{u:Option Ä}(r:RelO o u):o.isSome=u.isSome:=by
 cases o with
 | none=>cases u with
  | none=>rfl
  | some _=>exact(show False from r).elim
 | some _=>cases u with
  | none=>exact(show False from r).elim
  | some _=>rfl
theorem RelO.getD{o:Option V}{u:Option Ä}{d:V}{d':Ä}(r:RelO o u)(rd:RelV d d'):RelV (o.getD d) (u.getD d'):=by
 cases o with
 | none=>cases u with
  | none=>exact rd
  | some _=>exact(show False from r).elim
 | some _=>cases u with
  | none=>exact(show False from r).elim
  | some _=>exact r
def KV.val{d6:List (κ×V)}{vs:List (κ×Ä)}(r:KV d6 vs)(k:κ):RelO (ut d6 k) (Ś vs k):=by
 unfold KV at r;induction r with
 | nil=>exact ê
 | @cons p q ps qs h t ih=>
  obtain⟨h1,h2⟩:=h;by_cases e:p.1=k
  .have e':q.1=k:=h1.symm.trans e
   have b:Ś (q::qs) k=À q.2:=by simp[Ś,jD,e']
   rw[ng e,b];exact h2
  .have e':¬q.1=k:=λz=>e (h1.trans z)
   have b:Ś (q::qs) k=Ś qs k:=by simp[Ś,jD,e']
   rw[mY e,b];exact ih
theorem KV.any{d6:List (κ×V)}{vs:List (κ×Ä)}(r:KV d6 vs)(k:κ):(d6.any λkv=>decide (kv.1=k))=vs.any λkv=>decide (kv.1=k):=by
 unfold KV at r;induction r with
 | nil=>rfl
 | cons h t ih=>rw[wg,wg,ih,h.1]
def KV.repl{d6:List (κ×V)}{vs:List (κ×Ä)}(r:KV d6 vs)(k:κ){y:V}{u:Ä}(ry:RelV y u) :
  KV (d6.map λkv=>if kv.1=k then (kv.1,y) else kv) (vs.map λkv=>if kv.1=k then (kv.1,u) else kv):=by
 unfold KV at r ⊢;induction r with
 | nil=>exact .nil
 | @cons p q ps qs h t ih=>
  rw[zx,zx];refine .cons ?_ ih;obtain⟨h1,h2⟩:=h;by_cases e:p.1=k
  .rw[z9 e,z9 (h1.symm.trans e)];exact⟨h1,ry⟩
  .rw[kI e,kI (λz=>e (h1.trans z))];exact⟨h1,h2⟩
def KV.put{d6:List (κ×V)}{vs:List (κ×Ä)}(r:KV d6 vs)(k:κ){y:V}{u:Ä}(ry:RelV y u):KV (putK d6 k y) (stored vs k u):=by
 unfold putK stored;rw[r.any k];by_cases e:(vs.any λkv=>decide (kv.1=k))=Ã
 .rw[z9 e,z9 e];exact r.repl k ry
 .rw[kI e,kI e];exact Paired.snoc r ⟨rfl,ry⟩
theorem KV.length{d6:List (κ×V)}{vs:List (κ×Ä)}(r:KV d6 vs):d6.length=vs.length:=Paired.length r
end
def mq{P:Í}{w:Ñ}{k:Key}{u:Ä}(r:RelV (kV k) u):(qr P w).is k u=Ã:=by
 cases k with
 | inl i=>obtain⟨t,e⟩:=(show ∃t,u=ě i t from r);subst e;exact ZY P w i t
 | inr x=>obtain⟨t,e⟩:=(show ∃t,u=Į x t from r);subst e;exact ZZ P w x t
theorem rL{P:Í}{w:Ñ}:∀{ks:List Key} {us:List Ä},Vals (ks.map kV) us->ItemsAre (qr P w) ks us
 | [],_,r=>by rw[jk] at r;cases r;exact .nil
 | k::ks,_,r=>by
  rw[zx] at r;cases r with
  | cons h t=>exact .cons (mq h) (rL t)
abbrev KT(H:Hp):List (List Key×V)->List (List Key×È×Ä)->Prop:=Ż λp q=>p.1=q.1/\H q.2.1=À (.tup (p.1.map kV))/\RelV p.2 q.2.2
def KT.val{H:Hp}{d6:List (List Key×V)}{xs:List (List Key×È×Ä)}(r:KT H d6 xs)(k:List Key):RelO (ut d6 k) ((Ŷ xs k).map (·.2)):=by
 induction r with
 | nil=>exact ê
 | @cons p q ps qs h t ih=>
  obtain⟨h1,_,h2⟩:=h;by_cases e:p.1=k
  .have e':q.1=k:=h1.symm.trans e
   have b:Ŷ (q::qs) k=À q.2:=by simp[Ŷ,jD,e']
   rw[ng e,b];exact h2
  .have e':¬q.1=k:=λz=>e (h1.trans z)
   have b:Ŷ (q::qs) k=Ŷ qs k:=by simp[Ŷ,jD,e']
   rw[mY e,b];exact ih
def KT.repl{H:Hp}{d6:List (List Key×V)}{xs:List (List Key×È×Ä)}(r:KT H d6 xs)(k:List Key){y:V}{u:Ä}(ry:RelV y u) :
  KT H (d6.map λkv=>if kv.1=k then (kv.1,y) else kv) (xs.map (putAt k u)):=by
 induction r with
 | nil=>exact .nil
 | @cons p q ps qs h t ih=>
  rw[zx,zx];refine .cons ?_ ih;obtain⟨h1,h2,h3⟩:=h;unfold putAt;by_cases e:p.1=k
  .rw[z9 e,z9 (h1.symm.trans e)];exact⟨h1,h2,ry⟩
  .rw[kI e,kI (λz=>e (h1.trans z))];exact⟨h1,h2,h3⟩
def KT.put{H:Hp}{d6:List (List Key×V)}{xs:List (List Key×È×Ä)}(r:KT H d6 xs)(k:List Key){b:È}{y:V}{u:Ä}(hb:H b=À (.tup (k.map kV)))(ry:RelV y u) :
  KT H (putK d6 k y) (storedH xs k b u):=by
 have e:(d6.any λkv=>decide (kv.1=k))=(Ŷ xs k).isSome:=by
  rw[t7,(r.val k).isSome_eq,Option.isSome_map]
 unfold putK storedH;rw[e];by_cases q:(Ŷ xs k).isSome=Ã
 .rw[z9 q,z9 q];exact r.repl k ry
 .rw[kI q,kI q];exact Paired.snoc r ⟨rfl,hb,ry⟩
def KT.keeps{H H':Hp}{d6:List (List Key×V)}{xs:List (List Key×È×Ä)}(r:KT H d6 xs)(ht:∀b ys,H b=À (.tup ys)->H' b=À (.tup ys)):KT H' d6 xs:=
 Paired.mapP r λ_ _ z=>⟨z.1,ht _ _ z.2.1,z.2.2⟩
section
variable{P:Í}{w:Ñ}{H:Hp}{h:Ï}{a:È}
def XU{u:HO}(ok:HOk P w H h)(e:Rd H a u):ObjOk P w H h a u:=e.ok ok
def iX{d6:List (Key×V)}(ok:HOk P w H h)(e:Rd H a (.dK d6)):d6.length<=Î/\(a==Ü)=Â/\∃vs,KV d6 vs/\h.DictOf (qr P w) a vs:=
 show ObjOk P w H h a (.dK d6) from XU ok e
def Hc{d6:List (Key×V)}(ok:HOk P w H h)(e:H a=À (.dK d6)):d6.length<=Î/\(a==Ü)=Â/\∃vs,KV d6 vs/\h.DictOf (qr P w) a vs:=iX ok (.inl e)
def nF{ks:List Key}(ok:HOk P w H h)(e:H a=À (.tup (ks.map kV))):(į (qr P w)).is h ks a:=by
 obtain⟨_,cb,r,⟨o,h1,h2,n,h3⟩,_⟩:=(show ObjOk P w H h a (.tup (ks.map kV)) from ok a _ e);exact⟨o,cb.toArray,n,h1,h2,h3,by simpa using rL r⟩
def ox{d6:List (List Key×V)}(ok:HOk P w H h)(e:Rd H a (.dT d6)):d6.length<=Î/\(a==Ü)=Â /\
  ∃xs,KT H d6 xs/\h.DictOfH (į (qr P w)) a xs:=by
 obtain⟨z,y,xs,r,o,es,ep,h1,h2,h3,h4,h5⟩:=(show ObjOk P w H h a (.dT d6) from XU ok e);refine⟨z,y,xs,r,o,es,ep,h1,h2,h3,h4,λx hx=>?_,h5⟩;have all:∀{l:List (List Key×V)} {m:List (List Key×È×Ä)},KT H l m->∀x∈m,(į (qr P w)).is h x.1 x.2.1:=by
  intro l m q;induction q with
  | nil=>intro x hx;exact nomatch hx
  | @cons p q ps qs hq t ih=>
   intro x hx;rcases zb.mp hx with e | hx
   .subst e
    exact nF ok (by rw[<-hq.1];exact hq.2.1)
   .exact ih x hx
 exact all r x hx
def ff{d6:List (List Key×V)}(ok:HOk P w H h)(e:H a=À (.dT d6)):d6.length<=Î/\(a==Ü)=Â /\
  ∃xs,KT H d6 xs/\h.DictOfH (į (qr P w)) a xs:=ox ok (.inl e)
end
def tP(H:Hp)(a:È)(y:V)(r:Option V):Prop:=
 (∃d6 k,Rd H a (.dK d6)/\y=kV k/\r=ut d6 k)\/∃d6 k b,Rd H a (.dT d6)/\y=.ref b/\H b=À (.tup (k.map kV))/\r=ut d6 k
def ID(H:Hp)(a:È)(y v:V)(H':Hp):Prop:=
 (∃d6 k,H a=À (.dK d6)/\y=kV k/\d6.length<Î/\H'=upd H a (.dK (putK d6 k v))) \/
 ∃d6 k b,H a=À (.dT d6)/\y=.ref b/\H b=À (.tup (k.map kV))/\d6.length<Î/\H'=upd H a (.dT (putK d6 k v))
section
variable{X:Cx}{ag:List (È×î)}{σ:St}{H:Hp}{s:Å}{a:È}{y v:V}{u r:Ä}{o:Option V}{A:Ö}{E:Ä->Å->Prop}
def Inv.big(I:Inv X ag σ H s):Ü<s.heap.objs.size:=by
 have h:Ø<s.heap.objs.size:=(I.mod.glob.keeps I.bk).lt;exact Nat.lt_trans (by decide) h
def Vz{Q:Ä->Å->Prop}(hu:A.units+1<ā)(I:Inv X ag σ H s)(g:tP H a y (À v))(ry:RelV y u)(h:∀w' s',Inv X ag σ H s'->RelV v w'->Q w' s') :
  Ê (Ì X.prog X.w) A (ľ (.ref a) u) Q E s:=by
 rcases g with ⟨d6,k,e,ey,l⟩ | ⟨d6,k,b,e,ey,eb,l⟩
 .subst ey
  obtain⟨z,hd,vs,rel,dd⟩:=iX I.hok e;obtain⟨w',hw,Eh⟩:=RelO.some_of (v:=v) (o:=Ś vs k) (by rw[l];exact rel.val k);exact wpAny_getItem_of (mq ry) dd.mapOf hw (h w' _ (I.tok _) Eh)
 .subst ey
  cases (show u=Ò b from ry);obtain⟨z,hd,xs,rel,dd⟩:=ox I.hok e;obtain⟨w',hw,Eh⟩:=RelO.some_of (v:=v) (o:=(Ŷ xs k).map (·.2)) (by rw[l];exact rel.val k);obtain⟨p,hp,Pj⟩:=zg.mp hw;refine wpAny_getItem_heap (yz hu) (nF I.hok eb) dd hp ?_;rw[Pj];exact h w' _ (I.tok _) Eh
def Km{h':Ï}{t':Nat}{ob:HO}(I:Inv X ag σ H s)(mu:rP (H a))(hs:ć a s.heap h')(he:∃q,h'.get? a=À q)(new:ObjOk X.prog X.w (upd H a ob) h' a ob) :
  Inv X ag σ (upd H a ob) { s with heap:=h',toks:=t' }:=
 I.write (x:=a) (e:=a) mu (.inl rfl) (λb q hb z=>(hs.2 b hb).trans z) he new
def nK{P:Í}{w:Ñ}{H':Hp}{h':Ï}{d6:List (Key×V)}{vs:List (Key×Ä)}(z:d6.length<=Î)(hd:(a==Ü)=Â)(rel:KV d6 vs)(dd:h'.DictOf (qr P w) a vs) :
  ObjOk P w H' h' a (.dK d6):=⟨z,hd,vs,rel,dd⟩
def Vp{H':Hp}{Q:Unit->Å->Prop}(hu:A.units+1<ā)(I:Inv X ag σ H s)(g:ID H a y v H')(ry:RelV y u)(rv:RelV v r)(h:∀s',Inv X ag σ H' s'->Q () s') :
  Ê (Ì X.prog X.w) A (Ź (.ref a) u r) Q E s:=by
 rcases g with ⟨d6,k,e,ey,l,eH⟩ | ⟨d6,k,b,e,ey,eb,l,eH⟩
 .subst ey eH
  obtain⟨z,hd,vs,rel,dd⟩:=Hc I.hok e;have hz:vs.length<=Î:=by rw[<-rel.length];exact z
  have hl:(putK d6 k v).length<=Î:=by have:=fz d6 k v;omega
  refine wpAny_setItem_pairs (hsz:=hz) (mq ry) dd λh' LK hs=>h _ ?_
  have he:∃q,h'.get? a=À q:=let ⟨q,_,_,hq,_⟩:=LK;⟨q,hq⟩;exact Km I (by rw[e];exact ê) hs he (nK hl hd (rel.put k rv) LK)
 .subst ey eH
  cases (show u=Ò b from ry);obtain⟨z,hd,xs,rel,dd⟩:=ff I.hok e;have hz:xs.length<=Î:=by rw[<-Paired.length rel];exact z
  have hl:(putK d6 k v).length<=Î:=by have:=fz d6 k v;omega
  refine wpAny_setItem_heap (hsz:=hz) (yz hu) (nF I.hok eb) dd λh' LK hs=>h _ ?_
  obtain⟨q,es,ep,hq,h2,h3,h4,_,h5⟩:=LK;refine Km I (by rw[e];exact ê) hs ⟨q,hq⟩ ⟨hl,hd,_,(rel.put k eb rv).keeps λc ys ec=>?_,q,es,ep,hq,h2,h3,h4,h5⟩;rw[kQ (GE ec e (λz=>nomatch z))];exact ec
end
def Z1{X:Cx}{ag:List (È×î)}{σ:St}{H:Hp}{s:Å}{a:È}{y:V}{o:Option V}(I:Inv X ag σ H s)(g:tP H a y o):s.TypeIs (.ref a) "dict":=by
 rcases g with ⟨d6,k,e,_,_⟩ | ⟨d6,k,b,e,_,_,_⟩
 .obtain⟨_,_,vs,_,dd⟩:=iX I.hok e
  exact dd.typeIs
 .obtain⟨_,_,xs,_,dd⟩:=ox I.hok e
  exact dd.typeIs
def Wn{P:Í}{w:Ñ}{H:Hp}(h:Ï)(hb:Ü<h.objs.size):ObjOk P w H (h.push { cls:=.type "dict",data:=.dict #[] }) h.objs.size (.dK []):=
 ⟨qy _,ju.mpr (kZ (zW hb)),[],.nil,xr h⟩
def Fq:TE:=λ_ H Q=>∀p,H p=Á->Q (.ref p) (upd H p (.dK []))
section
variable{X:Cx}{pos:Ċ}
def YE:PE X (.Dict [] [] pos) Fq:=λag s σ H Q I h=>
 wpAny_Dict_empty ⟨.ref s.heap.objs.size,_,I.laid (a:=s.heap.objs.size) (o:=.dK []) (t':=s.toks) (λ_ _ q=>zf _ q) (zj _) (Wn s.heap I.big),rfl,h _ (I.hok.fresh (zj _))⟩
end
def uF(d6 more:List (Key×V)):List (Key×V):=more.foldl (λacc kv=>putK acc kv.1 kv.2) d6
def KV.merge:∀{more:List (Key×V)} {rs:List (Key×Ä)} {d6:List (Key×V)} {vs:List (Key×Ä)},KV more rs->KV d6 vs->KV (uF d6 more) (ł vs rs):=by
 intro more rs d6 vs r;unfold KV at r;induction r generalizing d6 vs with
 | nil=>intro q;exact q
 | @cons p q ps qs h t ih=>
  intro r0;have e:KV (putK d6 p.1 p.2) (stored vs q.1 q.2):=by
   have:=r0.put p.1 h.2;rw[<-h.1];exact this
  exact ih e
theorem b6:∀(more d6:List (Key×V)),(uF d6 more).length<=d6.length+more.length
 | [],d6=>by show d6.length<=d6.length+0;omega
 | p::r,d6=>by
  have h1:=b6 r (putK d6 p.1 p.2);have h2:=fz d6 p.1 p.2;show(uF (putK d6 p.1 p.2) r).length<=_
  rw[zp];omega
structure M2(X:Cx)(o:Ë)(m:Ç)(apos:Ċ)(e f:Ë)(cpos:Ċ):Prop where
 base:Ý o m X.env (Ú o X.env)=Ú o X.env
 few:((Ù cpos (É [e,f] X.env)).all (λx=>!x.1)&&(ô cpos (Þ [] X.env)).all (λx=>x.1.isSome)
  && decide (([e,f]:List Ë).length+([]:List ý).length+(if ([]:List ý).isEmpty then 0 else 1)<30))=Ã
 line:(apos.endLine==cpos.line)=Ã
 trees:Ù cpos (É [e,f] X.env)=[(Â,Ú e X.env),(Â,Ú f X.env)]
def Ho(H:Hp)(a:È):Prop:=(∃d6,Rd H a (.dK d6))\/∃d6,Rd H a (.dT d6)
def Cz{X:Cx}{ag:List (È×î)}{σ:St}{H:Hp}{s:Å}{a:È}(I:Inv X ag σ H s)(d:Ho H a) :
  s.TypeIs (.ref a) "dict" /\ (∀b,Ò a=.ref b->∃ob,s.heap.get? b=À ob/\ob.dict=Á)/\(a==Ü)=Â:=by
 rcases d with ⟨d6,e⟩ | ⟨d6,e⟩
 .obtain⟨_,hd,vs,_,dd⟩:=iX I.hok e
  refine⟨dd.typeIs,λb q=>?_,hd⟩;cases q;obtain⟨ob,_,_,h1,h2,_⟩:=dd;exact⟨ob,h1,h2.2.1⟩
 .obtain⟨_,hd,xs,_,dd⟩:=ox I.hok e
  refine⟨dd.typeIs,λb q=>?_,hd⟩;cases q;obtain⟨ob,_,_,h1,h2,_⟩:=dd;exact⟨ob,h1,h2.2.1⟩
section
variable{X:Cx}{ag:List (È×î)}{σ:St}{H:Hp}{s:Å}{a:È}{y d:V}{u r:Ä}{o:Option V}{A:Ö}{E:Ä->Å->Prop}
def Cr{Q:Ä->Å->Prop}(hu:A.units+1<ā)(I:Inv X ag σ H s)(g:tP H a y o)(ry:RelV y u)(rd:RelV d r)(h:∀w' s',Inv X ag σ H s'->RelV (o.getD d) w'->Q w' s') :
  Ê (Ì X.prog X.w) A (Ŋ (.builtin "dict.get") [.ref a,u,r]) Q E s:=by
 rcases g with ⟨d6,k,e,ey,l⟩ | ⟨d6,k,b,e,ey,eb,l⟩
 .subst ey
  obtain⟨z,hd,vs,rel,dd⟩:=iX I.hok e;refine call_meetsIn wG dd.typeIs yW (yR _ _ _) (meets_dict_get_default (qr X.prog X.w) a (mq ry) hd r) ⟨_,dd.mapOf,h _ _ (I.tok _) ?_⟩;rw[l];exact(rel.val k).getD rd
 .subst ey
  cases (show u=Ò b from ry);obtain⟨z,hd,xs,rel,dd⟩:=ox I.hok e;refine call_meetsIn wG dd.typeIs yW (yR _ _ _) (meetsH_dict_get_default (į (qr X.prog X.w)) a b hd r) ⟨yz hu,k,xs,nF I.hok eb,dd,h _ _ (I.tok _) ?_⟩;rw[l];exact(rel.val k).getD rd
end
def FD(td ty tx:TE):TE:=λσ H Q=>td σ H λx H1=>∃a,x=.ref a/\Ho H1 a/\ty σ H1 λy H2=>tx σ H2 λz H3=>∃o,tP H3 a y o/\Q (o.getD z) H3
section
variable{X:Cx}{o e f:Ë}{apos cpos:Ċ}{td ty tx:TE}
def Wc(hu:X.A.units+1<ā)(ho:PE X o td)(he:PE X e ty)(hf:PE X f tx)(m:M2 X o "get" apos e f cpos):PE X (.Call (.Attribute o "get" apos) [e,f] [] cpos) (FD td ty tx):=by
 intro ag s σ H Q I h;refine wpAny_Call_method m.base m.few m.line PySem.F.plainAttrs_dict wG PySem.F.type_dict_get (kC (ho ag s σ H _ I h) ?_);rintro u s1 ⟨x,H1,I1,rx,a,ex,d,q1⟩;subst ex;obtain rfl:u=Ò a:=rx;obtain⟨t1,t2,_⟩:=Cz I1 d;refine⟨t1,t2,?_⟩;rw[m.trees]
 refine yc rfl (Calls.evalArgs_plain (qK (kC (he ag s1 σ H1 _ I1 q1) λiv s2 ⟨y,H2,I2,ry,q2⟩=>
  qK (kC (hf ag s2 σ H2 _ I2 q2) λfv s3 ⟨z,H3,I3,rz,ov,g,q3⟩=>vA ?_))))
 exact Cr hu I3 g ry rz λw' s4 I4 Eh=>⟨_,H3,I4,Eh,q3⟩
end
section
variable{X:Cx}{ag:List (È×î)}{σ:St}{H:Hp}{s:Å}{a:È}{d6:List (Key×V)}{A:Ö}{E:Ä->Å->Prop}
def ZD{Q:Ä->Å->Prop}(I:Inv X ag σ H s)(e:Rd H a (.dK d6))(h:∀p s',H p=Á->Inv X ag σ (upd H p (.dK d6)) s'->Q (.ref p) s'):Ê (Ì X.prog X.w) A (Ŋ (.type "dict") [.ref a]) Q E s:=by
 obtain⟨z,hd,vs,rel,dd⟩:=iX I.hok e;refine kt_call_dict hd dd (by rw[<-rel.length];exact z) λh' LK hs=>?_
 refine h _ _ (I.hok.fresh (zj _)) (I.laid (a:=s.heap.objs.size) (o:=.dK d6) (t':=s.toks) (λb q hq=>?_) (zj _) (nK z (ju.mpr (kZ (zW I.big))) rel LK));exact(hs.2 b (zW (zB hq))).trans (zf _ hq)
end
end L2
namespace Att
open PySem PySem.W PySem.Calls PyProof.Rows
def oo{P:ź}{h:Ï}:∀(ns:List Int) (vs:List Ä),WellAll P h vs (ns.map WData.int)->IntsAre vs ns:=by
 intro ns;induction ns with
 | nil=>
  intro vs w;rw[jk] at w;cases w;exact .nil
 | cons n ns ih=>
  intro vs w;rw[zx] at w;cases w with
  | cons a b=>
   cases a;exact .cons _ _ (ih _ b)
def QH{l:OpenLaw}{n:Nat}(hn:l.most=À n){P:ź}{h:Ï}{args:List WData}{vals:List Ä}
  (EC:l.row.toRowW.claim.pre args=Ã) (Nx:WellAll P h vals args) :
  ∃a vs ns,vals=[Ò a]/\args=[WData.list (ns.map WData.int)]/\h.get? a=À { cls:=.type "list",data:=.seq vs.toArray }/\IntsAre vs ns/\ns.length<=n:=by
 have Pk:WShape.hasAll [] args [.list .int]=Ã:=(pre_splitW EC).1;have hc:l.pre.holds [] { args:=args }=Ã:=(pre_splitW EC).2;obtain⟨d,r,rfl,h1,h2⟩:=hasAllW_cons Pk;obtain rfl:=hasAllW_nil h2;obtain⟨xs,rfl,h3⟩:=hasW_list h1;obtain⟨ns,rfl⟩:=items_int h3;have hX:ns.length<=n:=by
  unfold OpenLaw.pre at hc;have h4:(WTm.not (.lt (.lit (.int (n:Int))) (.len (.arg 0)))).holds [] { args:=[.list (ns.map .int)] }=Ã:=by
   have h4:=(holds_andW hc).1;rw[hn] at h4;exact h4
  have h5:=condW_of h4 (w_not (w_lt w_lit (w_len_list (w_arg rfl))));rw[zP] at h5;refine Nat.le_of_not_lt λq=>?_
  have q':(n:Int)<((ns.length:Nat):Int):=by omega
  first
   | (rw[jX q'] at h5;exact absurd h5 (by decide))
   | (simp at h5;omega)
 cases Nx with
 | cons w1 w2=>
  cases w2;cases w1 with
  | list ho Ar=>exact⟨_,_,ns,rfl,rfl,ho,oo ns _ Ar,hX⟩
theorem VJ(l:OpenLaw)(args:List WData):l.row.toRowW.claim.post args (.bool Ã) args=Ã:=
 postW_of (r:=l.row.toRowW) (X:=(Ã==Ã))
  (show WShape.has [] (.bool Ã) .bool=Ã by first | rfl | decide | simp[WShape.has,WShape.arms,WShape.armsAll])
  (show(WTm.eq .res (.lit (.bool Ã))).value [] { args:=args,res:=À (.bool Ã),after:=args }=À (.bool (Ã==Ã)) from w_eq_bool (w_res rfl) w_lit) rfl
def attach_call{l:OpenLaw}{n:Nat}{q:Í}{loose:List Ç}{XP:(Ç->Option Ä)->Ï->Prop}{YP:Ñ->Ï->Prop}{d:DefRec}
  (hn:l.most=À n) (Md:d.params.defaults=[])
  (Ŋ:∀(w:Ñ) (s₀ hG:Å) (mg mb:Ç->Option Ä) (fa:È) (o:î) (pm cd doc:Ä) (a:È) (vs:List Ä) (ns:List Int),
   ţ q loose [] XP w s₀ mg mb hG.heap->YP w hG.heap->
   hG.heap.get? fa=À o->o.data=.func (docDef d.name d.params d.body d.scope pm cd doc)->hG.heap.CodeRec cd d.name->mg d.name=À (.ref fa)->
   hG.heap.get? a=À { cls:=.type "list",data:=.seq vs.toArray }->IntsAre vs ns->ns.length<=n->hG.gens = #[]->
   Ď (Ì l.prog w) ŋ (.call (.ref fa) ⟨[.ref a],[]⟩) (λr s'=>r=.ok (.ret (.bool Ã))/\OldK hG.heap s'.heap/\s'.os=hG.os/\AllBare s'.gens) hG) :
  WalkO q loose XP YP l.row.toRowW d [] (λf vs=>PySem.call f vs):=by
 intro w s₀ hG mg mb G Y fa o pm cd doc dV kV ho hd A6 hD Me hg args vals as EC Pl Su Nx Sw;obtain rfl:dV=.none:=Dflts.none hD Md;obtain rfl:kV=.none:=Dflts.noKw hD;obtain⟨a,vs,ns,rfl,rfl,IH,Ei,hX⟩:=QH hn EC Nx;refine enter_call (yO (Ŋ w s₀ hG mg mb fa o pm cd doc a vs ns G Y ho (fd_plain hd) A6 Me IH Ei hX hg) λr s' hq=>?_);obtain⟨rfl,h2,h3,h4⟩:=hq;exact⟨.inl ⟨.bool Ã,.bool Ã,[],rfl,λ_=>rfl,.bool Ã,VJ l _,λ_=>⟨List.Pairwise.nil,λ_ hm=>(nomatch hm)⟩⟩,h2,h3,h4⟩
end Att
namespace L2
open PySem PySem.Spec PyProof.Rows
theorem rQ:∀{vs:List Ä} {ns:List Int},IntsAre vs ns->Vals (ns.map V.int) vs
 | _,_,.nil=>.nil
 | _,_,.cons n t h=>.cons ⟨t,rfl⟩ (rQ h)
def Only(H:Hp):Prop:=∀b,H b=Á\/∃o xs,H b=À (.frz o (.lst xs))
def Yp{P:Í}{w:Ñ}{K:S5}{mg mb:Ç->Option Ä}{CX:lF}{k:Nat}{fa a:È}{fd:ù}{x:Ç}{sp:Sp}{hG:Å}{vs:List Ä}{ns:List Int}
  (KX:K.In hG.heap) (Ah:hG.heap.Ns Ø mg) (hb:hG.heap.Ns ż mb) (Pm:∀x:Ç,x≠"__name__"->mb x=Ô x) (Ny:hG.heap.NoLimit) (hg:hG.gens = #[])
  (ha:hG.heap.get? a=À { cls:=.type "list",data:=.seq vs.toArray }) (hi:IntsAre vs ns) (hl:ns.length<=Î) (hr:Room k ŋ)
  (F:∀base:Ï,K.In base->base.Ns Ø mg->FnOk P w K mg base CX k fa fd [x] sp) (Mf:∀(s:Å) (u:Ä),BindsTo s fd ⟨[u],[]⟩ [(x,u)])
  (Eg:∀H:Hp,Only H->SqL K H a (ns.map V.int)->sp [.ref a] H (λv _=>v=.bl Ã) λ_ _ _=>False)
  (Nz:∀H e s',CX [] H hG (λ_ _ _=>False) e s'->False) :
  Ď (Ì P w) ŋ (.call (.ref fa) ⟨[.ref a],[]⟩) (λr s'=>r=.ok (.ret (.bool Ã))/\OldK hG.heap s'.heap/\s'.os=hG.os/\AllBare s'.gens) hG:=by
 have rv:=rQ hi;have NA:=hi.length;have core:∀H:Hp,Only H->SqL K H a (ns.map V.int)->HOk P w H hG.heap->(∀b,H b≠Á->b=a)->(H a≠Á->K.lookup a=Á)->
   Ď (Ì P w) ŋ (.call (.ref fa) ⟨[.ref a],[]⟩) (λr s'=>r=.ok (.ret (.bool Ã))/\OldK hG.heap s'.heap/\s'.os=hG.os/\AllBare s'.gens) hG:=by
  intro H hO hS hok hA hK;have AV:∀{b:È} {o:î},hG.heap.get? b=À o->H b=Á->(iP hG.heap H).get? b=À o:=λe n=>W9 e n
  have Ma:∀{b:È} {o:î} {es:Array ø} {ep:Nat},hG.heap.get? b=À o->o.data=.dict es ep->H b=Á:=λ{b o es ep} e d=>by
   cases q:H b with
   | none=>rfl
   | some u=>
    have e':b=a:=hA b (by rw[q];simp);subst e';rw[ha] at e;cases e;have d':Data.seq vs.toArray _=Data.dict es ep:=d;cases d'
  have MQ:∀{b:È} {m:Ç->Option Ä},hG.heap.Ns b m->(iP hG.heap H).Ns b m:=λ{b m} ⟨o,es,ep,e,d,r⟩=>⟨o,es,ep,AV e (Ma e d),d,r⟩
  have On:K.In (iP hG.heap H):=λb o e=>AV (KX b o e) (by
   cases q:H b with
   | none=>rfl
   | some u=>
    have e':b=a:=hA b (by rw[q];simp);subst e'
    rw[hK (by rw[q];simp)] at e;cases e)
  have hM:Mod K mg (iP hG.heap H):=⟨On,MQ Ah,⟨mb,MQ hb,Pm⟩,let ⟨mc,h1,h2⟩:=Ny;⟨mc,MQ h1,h2⟩⟩;have e0:Env0 P w K mg (iP hG.heap H) ŋ [] hG H:=⟨rfl,hM,λb o e=>X6 e,Nat.le_of_eq (V6 _ _),trivial,λb hb=>absurd (show b∈([]:List È) from hb) (by simp),hok,.of_eq hg⟩;refine yO ((F _ On (MQ Ah)).run ŋ [] hG H ⟨[.ref a],[]⟩ [.ref a] [.ref a] _ _ hr e0 (Mf hG (.ref a)) (.cons rfl .nil) (Eg H hO hS)) λr s' h=>?_
  cases r with
  | error e=>exact(Nz H e s' h).elim
  | ok fl=>
   cases fl with
   | next=>exact ò h
   | brk=>exact ò h
   | cont=>exact ò h
   | ret u=>
    obtain⟨v,H',os,bare,un,NB,r',q⟩:=h;have q':v=.bl Ã:=q;subst q';obtain rfl:u=İ Ã:=r';refine⟨rfl,OldK.of_keep λb o e=>?_,os,bare⟩;cases q:H b with
    | none=>exact un.keep b o e q (by intro z;exact absurd (show b∈([]:List È) from z) (by simp)) (by simp)
    | some u=>
     rcases hO b with z | ⟨ob,xs,z⟩
     .rw[q] at z;cases z
     .have z2:=un.frzs b ob _ z
      obtain⟨e1,_⟩:=hok b _ z;obtain⟨e2,_⟩:=NB b _ z2;rw[e] at e1;cases e1;exact e2
 cases hk:K.lookup a with
 | some o=>
  have e:=KX a o hk;rw[ha] at e;cases e;refine core (λ_=>Á) (λ_=>.inl rfl) (.inr ⟨_,vs.toArray,_,hk,rfl,rfl,rfl,by rw[zJ,NA];exact hl,by simpa using rv⟩) (λb u z=>by have z':(Á:Option HO)=À u:=z;cases z') (λb z=>absurd rfl z) λz=>absurd rfl z
 | none=>
  refine core (λb=>if b=a then À (.frz { cls:=.type "list",data:=.seq vs.toArray } (.lst (ns.map V.int))) else Á) (λb=>?_) (.inl (.inr ⟨{ cls:=.type "list",data:=.seq vs.toArray },z9 rfl⟩)) (λb u z=>?_) (λb z=>?_) λ_=>hk
  .by_cases hb:b=a
   .exact .inr ⟨_,_,z9 hb⟩
   .exact .inl (kI hb)
  .by_cases hb:b=a
   .have z':=(z9 hb).symm.trans z
    cases z';subst hb;exact⟨ha,by rw[zP];exact hl,vs,_,rv,ha⟩
   .have z':=(kI hb).symm.trans z
    cases z'
  .by_cases hb:b=a
   .exact hb
   .exact absurd (kI hb) z
end L2
namespace L2
open PySem PySem.Spec PyProof.Rows
end L2
namespace L2
open PySem PySem.Spec PyProof.Rows
def qB(s:Ă):Arguments:=match s with
 | .FunctionDef _ a _ _ _ _ _ _ _ _=>a
 | _=>{ posonlyargs:=[],args:=[],vararg:=Á,kwonlyargs:=[],kw_defaults:=[],kwarg:=Á,defaults:=[] }
def kX(s:Ă):List Ă:=match s with
 | .FunctionDef _ _ b _ _ _ _ _ _ _=>b
 | _=>[]
def kF(s:Ă):ã:=match s with
 | .FunctionDef _ _ _ _ _ _ sc _ _ _=>sc
 | _=>{ kind:=.function,names:=[],isGenerator:=Â,isCoroutine:=Â }
abbrev uE:lF:=λ_ _ _ _ _ _=>False
abbrev E0:XK:=λ_ _ _=>False
def me{X:Cx}:be uE X E0:=λ_ _ _ _ _ _ _ h=>h.elim
structure Fun(K:S5)(x qual:Ç)(st:Ă)(f:È)(fd:ù):Prop where
 ex:∃(oc:Ä) (od:Option È) (kV doc pm:Ä) (an:Option È) (xI ct:Ä) (A2:Array (Option Ä)),
  fd=í x qual (qB st) (kX st) (kF st) .none kV doc pm an xI ct/\K.lookup f=À ⟨oc,od,.func fd,A2⟩/\Č K xI qual=Ã
 kp:Û K (.ref f)=Ã
section
variable{P:Í}{w:Ñ}{K:S5}{mg:Ç->Option Ä}{base:Ï}
def Fun.ok{x qual:Ç}{st:Ă}{f:È}{fd:ù}{N ps:List Ç}{k:Nat}{sp:Sp}(F:Fun K x qual st f fd)(S:FnScope N ps (kF st))(len:∀vs H Q E,sp vs H Q E->vs.length=ps.length)
  (Ef:∀(xI:Ä) (A:Ö) (outer:List ŷ) (s:Å) (H:Hp) (vs:List V) (Q:VK) (E:XK),Room k (A.deeper (envOfC qual (kF st) s.heap.objs.size f xI))->sp vs H Q E->
   ∃t,PSs (lE uE P w K mg base N qual (kF st) f xI A outer s H E).nox (kX st) t/\t { nx:=λ_ H'=>Q .non H',rt:=Q } (start N vs) H):FnOk P w K mg base uE (k+1) f fd ps sp:=by
 obtain⟨oc,od,kV,doc,pm,an,xI,ct,A2,rfl,lk,A6⟩:=F.ex;refine Gj lk A6 S len λA outer s H vs Q E hr Eg=>?_
 obtain⟨t,h,q⟩:=Ef xI A outer s H vs Q E hr Eg;exact⟨t,h.nox,q⟩
def Fun.binds{x qual:Ç}{st:Ă}{f:È}{fd:ù}{ps:List Ç}(F:Fun K x qual st f fd)
  (h:∀(kV doc pm:Ä) (an:Option È) (xI ct:Ä) (us:List Ä),us.length=ps.length->bindArgs (í x qual (qB st) (kX st) (kF st) .none kV doc pm an xI ct) ⟨us,[]⟩=pure (ps.zip us)):Binds K fd ps []:=by
 obtain⟨oc,od,kV,doc,pm,an,xI,ct,A2,rfl,lk,A6⟩:=F.ex;exact .all (h kV doc pm an xI ct)
def Dy{x qual:Ç}{st:Ă}{f:È}{oc:Ä}{od an:Option È}{A2:Array (Option Ä)}{kV doc pm xI ct:Ä}(l:K.lookup f=À ⟨oc,od,.func (í x qual (qB st) (kX st) (kF st) .none kV doc pm an xI ct),A2⟩)
  (c:Č K xI qual=Ã) (k:Û K (.ref f)=Ã):Fun K x qual st f (í x qual (qB st) (kX st) (kF st) .none kV doc pm an xI ct):=⟨⟨oc,od,kV,doc,pm,an,xI,ct,A2,rfl,l,c⟩,k⟩
end
end L2
end
set_option bootstrap.genMatcherCode false
set_option genSizeOf false
set_option genSizeOfSpec false
namespace L2
open PySem PySem.W PyProof.Rows
section
variable{prog:Í}{w:Ñ}{A:Ö}{E:Ä->Å->Prop}
theorem rj{items:Array Ä}(hh:A.handled=Á)(AW:t≠it):∀(n i:Nat) (s:Å) (Q:List Ä->Å->Prop),s.heap.IsListIter it t i->s.heap.IsList t items->i+n<=items.size->
  (∀h' tk,h'.IsListIter it t (i+n)->h'.IsList t items->(∀b o,b≠it->s.heap.get? b=À o->h'.get? b=À o)->Q ((items.toList.drop i).take n) { s with heap:=h',toks:=tk })->Ê (Ì prog w) A (draw (.ref it) n) Q E s
 | 0,i,s,Q,hit,ht,_,hQ=>by
  show Ê _ _ (pure []) Q E s
  exact zr (by simpa using hQ s.heap s.toks hit ht λ_ _ _ e=>e)
 | n+1,i,s,Q,hit,ht,hle,hQ=>by
  have Al:i<items.size:=by omega
  show Ê _ _ (Ā (.ref it) >>= _) Q E s
  refine za ((xP hh it t AW items).item i s _ _ Al ⟨hit,ht⟩ λv h1 tk hv st k1=>?_);rw[show items[i]?=À items[i] by simp[Al]] at hv;cases hv;refine za (jd (rj hh AW n (i+1) _ _ st.1 st.2 ∅ λh2 NC a1 a2 a3=>zr ?_));have hd:items.toList.drop i=items[i]::items.toList.drop (i+1):=by simp[qO,Al]
  have:=hQ h2 NC (by rw[show i+(n+1)=i+1+n by omega];exact a1) a2 λb o ne e=>a3 b o ne (k1 b o (by simpa using ne) e)
  rw[hd,List.take_succ_cons] at this;exact this
def Z2{s:Å}{items:Array Ä}{targets:List (Bool×(Ä->Sem Unit))}(hh:A.handled=Á)(ht:s.heap.IsList t items)
  (hn:targets.length=items.size) (Mg:targets.findIdx? (·.1)=Á)
  (h:∀h' tk,(∀b o,s.heap.get? b=À o->h'.get? b=À o)->Ê (Ì prog w) A (assignInOrder (targets.map (·.2)) items.toList) Q E { s with heap:=h',toks:=tk }) :
  Ê (Ì prog w) A (unpack (.ref t) targets) Q E s:=by
 have Al:t<s.heap.objs.size:=by obtain⟨o,ho,_⟩:=ht;exact zB ho
 unfold unpack;rw[hn,Mg];refine za (jd ?_);unfold unpackItems notIterableAtAll;refine za (za (vV ht.typeIs PySem.slot_list_iter.lookup (zr ?_)));erw[jt,je];refine za (jd (vo ht ?_));refine za (jd (rj hh (zW Al) items.size 0 _ _ ⟨_,zN _ rfl,rfl,rfl⟩ (ht.push _) ∅ λh1 tk ND Po k1=>?_));have Ar:List.take items.size (List.drop 0 items.toList)=items.toList:=by
  rw[wV];exact yX (by simp)
 rw[Ar,kI (by simp)];refine za (jd ((xP hh s.heap.objs.size t (zW Al) items).done _ _ _ ⟨by simpa using ND,Po⟩ λh2 NC k2=>?_));erw[Option.isSome_none,jt,je];refine zr (h h2 NC λb o e=>?_);have ne:=zW (zB e);exact k2 b o (by simpa using ne) (k1 b o ne (zf _ e))
end
variable{X:Cx}{pos:Ċ}
def IC(K:S5)(n:Nat)(t:pR):TG:=λv σ H Q=>∃a xs,v=.ref a/\SqL K H a xs/\xs.length=n/\t xs σ H Q
def Cg(hc:X.calm=Ã)(h:PGs X es t)
  (hn:(ß es X.env).length=n) (r9:(ß es X.env).findIdx? (·.1)=Á):PG X (.Tuple es k pos) (IC X.K n t):=by
 intro ag s σ H v u Q I r hw;obtain⟨a,xs,e1,hq,hl,hw⟩:=hw;subst e1;cases r;obtain⟨cb,rv,⟨o,m,g1,g2,g3,g4⟩,hz⟩:=I.list hq;rw[assign_Tuple];refine za (yu (Z2 (items:=cb.toArray) (I.ok.hd hc) ⟨o,g1,g2,m,g4⟩ (by simp[hn,<-hl,rv.length]) r9 λh' tk hx=>?_));have I1:Inv X ag σ H { s with heap:=h',toks:=tk }:=I.kept (t':=tk) λb o e=>hx b o e
 exact h ag _ σ H xs _ Q I1 (by simpa using rv) hw
end L2
namespace ML
open PySem PySem.Spec PyProof.Rows L2
inductive W where
 | non | bl (b:Bool) | int (i:Int) | str (x:Ç) | tup (l:List W) | fls (l:List W) | ref (n:Nat) | fdc (l:List (Key×W)) | fn (a:È)
 deriving Inhabited
inductive MO where
 | lst (l:List W) | dic (l:List (Key×W)) | ins (c:Nat) (fs:List (Ç×W)) | tdc (ks:List (List Ç))
structure Cl where
 c:Nat->È
 P:Í
 w:Ñ
noncomputable def Id(P:Í)(w:Ñ)(a:È)(xs:List (List Ç×È×Ä)):Ï->Prop:=λh=>∃o es ep,h.get? a=À o/\o.ExactDict/\o.data=.dict es ep/\es.toList=xs.map (entryOfKey (į (strKind P w)))
abbrev MH:=List MO
abbrev M(α:Type):=MH->Option (α×MH)
abbrev En:=List (Option W)
abbrev ME:=En->M W
abbrev MT:=En->M Bool
noncomputable def bnd{α β:Type}(m:M α)(f:α->M β):M β:=λh=>match m h with
 | some (a,h')=>f a h'
 | none=>Á
def W2{α β:Type}{m:M α}{f:α->M β}{h h':MH}{a:α}(e:m h=À (a,h')):bnd m f h=f a h':=by unfold bnd;rw[e]
def ke{α β:Type}{m:M α}{f:α->M β}{h:MH}{r:β×MH}(e:bnd m f h=À r):∃a h',m h=À (a,h')/\f a h'=À r:=by
 unfold bnd at e;split at e
 .rename_i a h' e'
  exact⟨a,h',e',e⟩
 .cases e
noncomputable def SqF(K:S5)(μ:List È)(H:Hp)(a:È)(vs:List V):Prop:=(Rd H a (.lst vs)/\a∉μ) \/
 ∃(o:î) (cb:Array Ä) (n:Nat),K.lookup a=À o/\o.cls=.type "list" /\ o.dict=Á/\o.data=.seq cb n/\cb.size<=Î/\Vals vs cb.toList
def SqF.sq{K:S5}{μ:List È}{H:Hp}(h:SqF K μ H a vs):SqL K H a vs:=h.elim (λh=>.inl h.1) .inr
noncomputable def SqD(μ:List È)(H:Hp)(a:È)(l:List (Key×V)):Prop:=Rd H a (.dK l)/\a∉μ
section rel
variable(K:S5)(cl:Cl)(μ:List È)(H:Hp)
mutual
inductive RW:W->V->Prop
 | non:RW .non .non
 | bl (b:Bool):RW (.bl b) (.bl b)
 | int (i:Int):RW (.int i) (.int i)
 | str (x:Ç):RW (.str x) (.str x)
 | tup {a:È} {vs:List V} {l:List W}:SqT K H a vs->RWs l vs->RW (.tup l) (.ref a)
 | ref {n:Nat} {a:È}:μ[n]?=À a->RW (.ref n) (.ref a)
 | fls {a:È} {vs:List V} {l:List W}:SqF K μ H a vs->RWs l vs->RW (.fls l) (.ref a)
 | fdc {a:È} {l:List (Key×W)} {l':List (Key×V)} {ws:List W} {vs:List V}:SqD μ H a l'->l.map (·.1)=l'.map (·.1)->ws=l.map (·.2)->vs=l'.map (·.2)->RWs ws vs->RW (.fdc l) (.ref a)
 | fn {a:È}:RW (.fn a) (.ref a)
inductive RWs:List W->List V->Prop
 | nil:RWs [] []
 | cons {w:W} {v:V} {l:List W} {vs:List V}:RW w v->RWs l vs->RWs (w::l) (v::vs)
end
noncomputable def RKs{κ:Type}(l:List (κ×W))(l':List (κ×V)):Prop:=l.map (·.1)=l'.map (·.1)/\RWs K μ H (l.map (·.2)) (l'.map (·.2))
noncomputable def OR(a:È):MO->Prop
 | .lst l=>∃vs,H a=À (.lst vs)/\RWs K μ H l vs
 | .dic l=>∃l',H a=À (.dK l')/\RKs K μ H l l'
 | .ins c fs=>∃dx fs',H a=À (.ins (cl.c c) dx fs')/\RKs K μ H fs fs'
 | .tdc ks=>∃xs:List (List Ç×È×Ä),H a=À (.ext (Id cl.P cl.w a xs))/\xs.map (·.1)=ks/\ks.Nodup/\(a==Ü)=Â/\RWs K μ H (ks.map λk=>.tup (k.map .str)) (xs.map λx=>.ref x.2.1)
structure HR(h:MH):Prop where
 len:μ.length=h.length
 nd:μ.Nodup
 ob:∀(n:Nat) (a:È) (o:MO),μ[n]?=À a->h[n]?=À o->OR K cl μ H a o
structure ER(ρ:En)(σ:L2.St):Prop where
 len:ρ.length=σ.length
 at_:∀(i:Nat) (w:W),ρ[i]?=À (À w)->∃v,σ[i]?=À (À v)/\RW K μ H w v
end rel
structure Ext(μ:List È)(H:Hp)(gy:List È)(H':Hp):Prop where
 pre:μ<+:gy
 fr:∀b o,H b=À o->b∉μ->H' b=À o/\b∉gy
section
variable{K:S5}{cl:Cl}{μ gy Mh:List È}{H H' EU:Hp}{h h':MH}
def Ext.refl:Ext μ H μ H:=⟨zR _,λ_ _ e n=>⟨e,n⟩⟩
theorem Ext.trans(a:Ext μ H gy H')(b:Ext gy H' Mh EU):Ext μ H Mh EU:=
 ⟨a.pre.trans b.pre,λc o e n=>let ⟨e1,n1⟩:=a.fr c o e n;b.fr c o e1 n1⟩
def Ext.get(a:Ext μ H gy H'){n:Nat}(e:μ[n]?=À x):gy[n]?=À x:=by
 obtain⟨r,rfl⟩:=a.pre;rw[zy (zT.mp e).1];exact e
theorem OR.some(q:OR K cl μ H a o):∃u,H a=À u/\rP (À u):=by
 cases o with
 | lst l=>obtain⟨vs,q,_⟩:=q;exact⟨_,q,trivial⟩
 | dic l=>obtain⟨l',q,_⟩:=q;exact⟨_,q,trivial⟩
 | ins c fs=>obtain⟨dx,fs',q,_⟩:=q;exact⟨_,q,trivial⟩
 | tdc ks=>obtain⟨xs,q,_⟩:=q;exact⟨_,q,trivial⟩
def HR.mem_some(R:HR K cl μ H h)(hm:a∈μ):∃u,H a=À u/\rP (À u):=by
 obtain⟨n,hn⟩:=jC.mp hm;have hl:n<h.length:=by rw[<-R.len];exact(zT.mp hn).1
 exact(R.ob n a h[n] hn (zE hl)).some
def HR.fresh(R:HR K cl μ H h)(e:H a=Á):a∉μ:=λhm=>by
 obtain⟨u,q,_⟩:=R.mem_some hm;rw[e] at q;cases q
def HR.notours(R:HR K cl μ H h)(e:H a=À u)(n:¬rP (À u)):a∉μ:=λhm=>by
 obtain⟨u',q,m⟩:=R.mem_some hm;rw[e] at q;cases q;exact n m
def HR.notup(R:HR K cl μ H h)(e:Rd H a (.tup xs)):a∉μ:=by
 rcases e with e | ⟨o,e⟩
 .exact R.notours e λz=>z
 .exact R.notours e λz=>z
def SqF.ext(E:Ext μ H gy H')(e:SqF K μ H a vs):SqF K gy H' a vs:=by
 rcases e with ⟨e | ⟨o,e⟩,n⟩ | e
 .exact .inl ⟨.inl (E.fr _ _ e n).1,(E.fr _ _ e n).2⟩
 .exact .inl ⟨.inr ⟨o,(E.fr _ _ e n).1⟩,(E.fr _ _ e n).2⟩
 .exact .inr e
def SqD.ext(E:Ext μ H gy H')(e:SqD μ H a l):SqD gy H' a l:=by
 obtain⟨e | ⟨o,e⟩,n⟩:=e
 .exact⟨.inl (E.fr _ _ e n).1,(E.fr _ _ e n).2⟩
 .exact⟨.inr ⟨o,(E.fr _ _ e n).1⟩,(E.fr _ _ e n).2⟩
def SqT.ext(R:HR K cl μ H h)(E:Ext μ H gy H')(e:SqT K H a xs):SqT K H' a xs:=by
 rcases e with e | e
 .have n:=R.notup e
  rcases e with e | ⟨o,e⟩
  .exact .inl (.inl (E.fr _ _ e n).1)
  .exact .inl (.inr ⟨o,(E.fr _ _ e n).1⟩)
 .exact .inr e
theorem RW.ext(R:HR K cl μ H h)(E:Ext μ H gy H'){w:W}(r:RW K μ H w v):RW K gy H' w v:=
 RW.rec (motive_1:=λw v _=>RW K gy H' w v) (motive_2:=λl vs _=>RWs K gy H' l vs) .non .bl .int .str (λs _ r=>.tup (SqT.ext R E s) r) (λe=>.ref (E.get e)) (λs _ r=>.fls (SqF.ext E s) r) (λs k a b _ r=>.fdc (SqD.ext E s) k a b r) .fn .nil (λ_ _ a b=>.cons a b) r
theorem RWs.ext(R:HR K cl μ H h)(E:Ext μ H gy H'){l:List W}(r:RWs K μ H l vs):RWs K gy H' l vs:=
 RWs.rec (motive_1:=λw v _=>RW K gy H' w v) (motive_2:=λl vs _=>RWs K gy H' l vs) .non .bl .int .str (λs _ r=>.tup (SqT.ext R E s) r) (λe=>.ref (E.get e)) (λs _ r=>.fls (SqF.ext E s) r) (λs k a b _ r=>.fdc (SqD.ext E s) k a b r) .fn .nil (λ_ _ a b=>.cons a b) r
theorem ER.ext(R:HR K cl μ H h)(E:Ext μ H gy H')(e:ER K μ H ρ σ):ER K gy H' ρ σ:=
 ⟨e.len,λi w q=>let ⟨v,q1,r⟩:=e.at_ i w q;⟨v,q1,r.ext R E⟩⟩
theorem RWs.length:∀{l:List W} {vs:List V},RWs K μ H l vs->l.length=vs.length
 | _,_,.nil=>rfl
 | _,_,.cons _ t=>jP (· + 1) (RWs.length t)
theorem RWs.get:∀{l:List W} {vs:List V} {i:Nat} {w:W},RWs K μ H l vs->l[i]?=À w->∃v,vs[i]?=À v/\RW K μ H w v
 | _,_,_,_,.nil,e=>by simp at e
 | _,_,0,_,.cons r _,e=>by simp at e;subst e;exact⟨_,rfl,r⟩
 | _,_,i+1,w,.cons _ t,e=>by
  obtain⟨v,h1,h2⟩:=RWs.get (i:=i) (w:=w) t (by simpa using e);exact⟨v,by simpa using h1,h2⟩
theorem RWs.append:∀{l l':List W} {vs AG:List V},RWs K μ H l vs->RWs K μ H l' AG->RWs K μ H (l++l') (vs++AG)
 | _,_,_,_,.nil,s=>s
 | _,_,_,_,.cons r t,s=>.cons r (RWs.append t s)
theorem RWs.take:∀{l:List W} {vs:List V} (n:Nat),RWs K μ H l vs->RWs K μ H (l.take n) (vs.take n)
 | _,_,0,_=>.nil
 | _,_,_+1,.nil=>.nil
 | _,_,n+1,.cons r t=>.cons r (RWs.take n t)
theorem RWs.drop:∀{l:List W} {vs:List V} (n:Nat),RWs K μ H l vs->RWs K μ H (l.drop n) (vs.drop n)
 | _,_,0,r=>r
 | _,_,_+1,.nil=>.nil
 | _,_,n+1,.cons _ t=>RWs.drop n t
theorem RWs.set(r:RW K μ H w v):∀{l:List W} {vs:List V} (i:Nat),RWs K μ H l vs->RWs K μ H (l.set i w) (vs.set i v)
 | _,_,_,.nil=>.nil
 | _,_,0,.cons _ t=>.cons r t
 | _,_,i+1,.cons q t=>.cons q (RWs.set r i t)
theorem RWs.dropLast{l:List W}{vs:List V}(r:RWs K μ H l vs):RWs K μ H l.dropLast vs.dropLast:=by
 induction l generalizing vs with
 | nil=>cases r;exact .nil
 | cons w l ih=>cases r with | cons r t=>cases t with
  | nil=>exact .nil
  | cons a b=>exact .cons r (ih (.cons a b))
theorem RWs.rep(r:RWs K μ H l vs):∀k:Nat,RWs K μ H (Æ k l).flatten (Æ k vs).flatten
 | 0=>.nil
 | k+1=>by
  rw[jZ,jZ,qG,qG];exact r.append (RWs.rep r k)
theorem RWs.ints:∀ns:List Int,RWs K μ H (ns.map W.int) (ns.map V.int)
 | []=>.nil
 | n::r=>.cons (.int n) (RWs.ints r)
theorem OR.ext(R:HR K cl μ H h)(E:Ext μ H gy H')(e:H' a=H a)(q:OR K cl μ H a o):OR K cl gy H' a o:=by
 cases o with
 | lst l=>obtain⟨vs,q,r⟩:=q;exact⟨vs,e.trans q,r.ext R E⟩
 | dic l=>obtain⟨l',q,k,r⟩:=q;exact⟨l',e.trans q,k,r.ext R E⟩
 | ins c fs=>obtain⟨dx,fs',q,k,r⟩:=q;exact⟨dx,fs',e.trans q,k,r.ext R E⟩
 | tdc ks=>obtain⟨xs,q,k1,k2,k3,r⟩:=q;exact⟨xs,e.trans q,k1,k2,k3,r.ext R E⟩
def Ext.new(hp:H p=Á):Ext μ H (μ++[p]) (upd H p u):=
 ⟨jn _ _,λb o e n=>by
  have ne:b≠p:=qq e hp
  exact⟨by rw[kQ ne];exact e,by simp[n,ne]⟩⟩
def Ext.side(hp:H p=Á):Ext μ H μ (upd H p u):=
 ⟨zR _,λb o e n=>⟨by rw[kQ (qq e hp)];exact e,n⟩⟩
theorem HR.side(R:HR K cl μ H h)(hp:H p=Á):HR K cl μ (upd H p u) h:=
 have hm:=R.fresh hp;⟨R.len,R.nd,λn a o e1 e2=>OR.ext R (Ext.side hp) (kQ (by rintro rfl;exact hm (jG e1))) (R.ob n a o e1 e2)⟩
theorem HR.new(R:HR K cl μ H h)(hp:H p=Á)(q:OR K cl (μ++[p]) (upd H p u) p o):HR K cl (μ++[p]) (upd H p u) (h++[o]):=by
 have hm:=R.fresh hp;refine⟨by simp[R.len],?_,λn a o' e1 e2=>?_⟩
 .rw[ym]
  exact⟨R.nd,by simp,by simp;exactλa ha=>by rintro rfl;exact hm ha⟩
 .by_cases hn:n<μ.length
  .rw[zy hn] at e1
   rw[zy (by rw[<-R.len];exact hn)] at e2;exact OR.ext R (Ext.new hp) (kQ (by rintro rfl;exact hm (jG e1))) (R.ob n a o' e1 e2)
  .rw[zF ∅] at e1
   rw[zF (by rw[<-R.len];omega)] at e2;rw[R.len] at e1;have:n-h.length=0:=by
    by_cases z:n-h.length=0
    .exact z
    .rw[jQ (by simp;omega)] at e1;cases e1
   rw[this] at e1 e2;simp at e1 e2;subst e1;subst e2;exact q
def Ext.put{n:Nat}{a:È}(hn:μ[n]?=À a):Ext μ H μ (upd H a u):=
 ⟨zR _,λb o e m=>⟨by rw[kQ (by rintro rfl;exact m (jG hn))];exact e,m⟩⟩
theorem HR.put{n:Nat}{a:È}(R:HR K cl μ H h)(hn:μ[n]?=À a)(q:OR K cl μ (upd H a u) a o):HR K cl μ (upd H a u) (h.set n o):=by
 refine⟨by simp[R.len],R.nd,λm b o' e1 e2=>?_⟩;by_cases hm:m=n
 .subst hm
  rw[hn] at e1;cases e1;rw[zH (by rw[<-R.len];exact(zT.mp hn).1)] at e2;cases e2;exact q
 .rw[zG (kZ hm)] at e2
  have ne:b≠a:=by
   rintro rfl;obtain⟨h1,A3⟩:=zT.mp e1;obtain⟨h2,Pp⟩:=zT.mp hn;exact hm ((vm R.nd).mp (A3.trans Pp.symm))
  exact OR.ext R (Ext.put hn) (kQ ne) (R.ob m b o' e1 e2)
end
noncomputable def KQ(K:S5)(cl:Cl)(μ:List È)(H:Hp)(h':MH)(w:W)(Q:VK):Prop:=
 ∀gy H' v,Ext μ H gy H'->HR K cl gy H' h'->RW K gy H' w v->Q v H'
inductive tM(K:S5)(cl:Cl)(m:ME)(σ:L2.St)(H:Hp)(Q:VK):Prop
 | mk (μ:List È) (h:MH) (ρ:En) (w:W) (h':MH) (p0:HR K cl μ H h) (p1:ER K μ H ρ σ) (p2:m ρ h=À (w,h')) (p3:KQ K cl μ H h' w Q):tM K cl m σ H Q
inductive tMT(K:S5)(cl:Cl)(m:MT)(σ:L2.St)(H:Hp)(Q:Bool->Hp->Prop):Prop
 | mk (μ:List È) (h:MH) (ρ:En) (b:Bool) (h':MH) (p0:HR K cl μ H h) (p1:ER K μ H ρ σ) (p2:m ρ h=À (b,h')) (p3:∀gy H',Ext μ H gy H'->HR K cl gy H' h'->Q b H'):tMT K cl m σ H Q
abbrev SE(X:Cx)(cl:Cl)(e:Ë)(m:ME):Prop:=PE X e (tM X.K cl m)
abbrev ST(X:Cx)(cl:Cl)(e:Ë)(m:MT):Prop:=PT X e (tMT X.K cl m)
def PE.wk(h:PE X e t)(w:∀σ H Q,t' σ H Q->t σ H Q):PE X e t':=λag s σ H Q I q=>h ag s σ H Q I (w σ H Q q)
def PT.wk(h:PT X e t)(w:∀σ H Q,t' σ H Q->t σ H Q):PT X e t':=λag s σ H Q I q=>h ag s σ H Q I (w σ H Q q)
def PA.wk(h:PA X e t)(w:∀σ H Q,t' σ H Q->t σ H Q):PA X e t':=λpos ag s σ H Q I q=>h pos ag s σ H Q I (w σ H Q q)
def PS.wk(h:PS X e t)(w:∀D σ H,t' D σ H->t D σ H):PS X e t':=λag s σ H D I q=>h ag s σ H D I (w D σ H q)
def PSs.wk(h:PSs X e t)(w:∀D σ H,t' D σ H->t D σ H):PSs X e t':=λag s σ H D I q=>h ag s σ H D I (w D σ H q)
noncomputable def ze(i:Nat):ME:=λρ h=>match ρ[i]? with
 | some (À w)=>À (w,h)
 | _=>Á
noncomputable def eC(w:W):ME:=λ_ h=>À (w,h)
noncomputable abbrev PL(i:Int):ME:=eC (.int i)
noncomputable abbrev SD(s:Ç):ME:=eC (.str s)
noncomputable def zi(f:W->W->M W)(a b:ME):ME:=λρ=>bnd (a ρ) λx=>bnd (b ρ) λy=>f x y
noncomputable def vt(f:W->M W)(a:ME):ME:=λρ=>bnd (a ρ) f
noncomputable def ko:List ME->En->M (List W)
 | [],_=>λh=>À ([],h)
 | m::r,ρ=>bnd (m ρ) λx=>bnd (ko r ρ) λxs h=>À (x::xs,h)
noncomputable def zh(f:List W->M W)(as:List ME):ME:=λρ=>bnd (ko as ρ) f
noncomputable def lg(w:W):M Bool:=λh=>match w with
 | .bl b=>À (b,h)
 | _=>Á
noncomputable def kb(a:ME):MT:=λρ=>bnd (a ρ) lg
noncomputable def eT(a b:MT):MT:=λρ=>bnd (a ρ) λx=>if x=Ã then b ρ else λh=>À (Â,h)
noncomputable def ub(a b:MT):MT:=λρ=>bnd (a ρ) λx=>if x=Ã then (λh=>À (Ã,h)) else b ρ
noncomputable def yA(a:MT):MT:=λρ=>bnd (a ρ) λx h=>À (!x,h)
noncomputable def b9(a b:ME):ME:=λρ=>bnd (a ρ) λx=>bnd (lg x) λc=>if c=Ã then b ρ else λh=>À (.bl Â,h)
noncomputable def XJ(a b:ME):ME:=λρ=>bnd (a ρ) λx=>bnd (lg x) λc=>if c=Ã then (λh=>À (.bl Ã,h)) else b ρ
noncomputable def Yb(a:ME):ME:=λρ=>bnd (a ρ) λx=>bnd (lg x) λc h=>À (.bl (!c),h)
noncomputable def KS(t:MT)(a b:ME):ME:=λρ=>bnd (t ρ) λc=>if c=Ã then a ρ else b ρ
noncomputable def ug(f g:W->W->M W)(a b c:ME):ME:=λρ=>bnd (a ρ) λx=>bnd (b ρ) λy=>bnd (f x y) λz=>bnd (lg z) λk=>if k=Ã then bnd (c ρ) λu=>g y u else λh=>À (.bl Â,h)
inductive rM(K:S5)(cl:Cl)(f:W->W->M W)(x:V)(y:V)(H:Hp)(Q:VK):Prop
 | mk (μ:List È) (h:MH) (wx:W) (wy:W) (w:W) (h':MH) (p0:HR K cl μ H h) (p1:RW K μ H wx x) (p2:RW K μ H wy y) (p3:f wx wy h=À (w,h')) (p4:KQ K cl μ H h' w Q):rM K cl f x y H Q
inductive rM1(K:S5)(cl:Cl)(f:W->M W)(x:V)(H:Hp)(Q:VK):Prop
 | mk (μ:List È) (h:MH) (wx:W) (w:W) (h':MH) (p0:HR K cl μ H h) (p1:RW K μ H wx x) (p2:f wx h=À (w,h')) (p3:KQ K cl μ H h' w Q):rM1 K cl f x H Q
inductive rMs(K:S5)(cl:Cl)(f:List W->M W)(xs:List V)(H:Hp)(Q:VK):Prop
 | mk (μ:List È) (h:MH) (ws:List W) (w:W) (h':MH) (p0:HR K cl μ H h) (p1:RWs K μ H ws xs) (p2:f ws h=À (w,h')) (p3:KQ K cl μ H h' w Q):rMs K cl f xs H Q
inductive tMA(K:S5)(cl:Cl)(ms:List ME)(σ:L2.St)(H:Hp)(Q:List V->Hp->Prop):Prop
 | mk (μ:List È) (h:MH) (ρ:En) (ws:List W) (h':MH) (p0:HR K cl μ H h) (p1:ER K μ H ρ σ) (p2:ko ms ρ h=À (ws,h')) (p3:∀gy H' vs,Ext μ H gy H'->HR K cl gy H' h'->RWs K gy H' ws vs->Q vs H'):tMA K cl ms σ H Q
abbrev SA(X:Cx)(cl:Cl)(es:List Ë)(ms:List ME):Prop:=PA X es (tMA X.K cl ms)
section
variable{X:Cx}{cl:Cl}{a b c:Ë}{ma mb mc:ME}{pos:Ċ}{μ gy:List È}{H H':Hp}{h h':MH}
def KQ.pure{w:W}{v:V}{Q:VK}{K:S5}(k:KQ K cl μ H h w Q)(R:HR K cl μ H h)(r:RW K μ H w v):Q v H:=k μ H v .refl R r
def KQ.ext{w:W}{Q:VK}{K:S5}(E:Ext μ H gy H')(k:KQ K cl μ H h w Q):KQ K cl gy H' h w Q:=λhY H2 v E2 R2 r2=>k hY H2 v (E.trans E2) R2 r2
def FO(i:Nat)(hN:↥(X.N[i]?=À x))(hv:KI X.env.scope x:=by first | exact Or.inl rfl | exact Or.inr (Or.inl rfl) | exact Or.inr (Or.inr rfl))
  (hd:⇑((x==("__debug__":Ç))=Â)) (A6:⇑((x==("__classdict__":Ç))=Â)):SE X cl (.Name x pos) (ze i):=
 PE.wk (Cy (i:=i) hN hv hd A6) λσ H Q q0=>by
  obtain⟨μ,h,ρ,w,h',R,er,e,k⟩:=q0;unfold ze at e;split at e
  .rename_i w' q
   cases e;obtain⟨v,q1,r⟩:=er.at_ i _ q;exact⟨v,q1,k.pure R r⟩
  .cases e
def tI{w:W}{v:V}(he:PE X a (tC v))(r:∀μ H,RW X.K μ H w v):SE X cl a (eC w):=
 PE.wk he λσ H Q q0=>by
  obtain⟨μ,h,ρ,w',h',R,er,e,k⟩:=q0;cases e;exact k.pure R (r μ H)
def CV{i:Int}{j}:SE X cl (.Constant (.int i) j pos) (eC (.int i)):=tI Cb λ_ _=>.int i
def GJ{i:Bool}{j}:SE X cl (.Constant (.bool i) j pos) (eC (.bl i)):=tI Gn λ_ _=>.bl i
def F3{j}:SE X cl (.Constant .none j pos) (eC .non):=tI Dj λ_ _=>.non
def Ck{i:Ç}{j}:SE X cl (.Constant (.str i) j pos) (eC (.str i)):=tI FI λ_ _=>.str i
def BL(hm:X.mg x=À u)(r:RelV v u)(rw:∀μ H,RW X.K μ H w v)(hg:↥(Gl X x))(hd:⇑((x==("__debug__":Ç))=Â)):SE X cl (.Name x pos) (eC w):=
 tI (mf hg hm r hd) rw
def dP{K:S5}{f:W->W->M W}(q:tM K cl (zi f ma mb) σ H Q):QO (rM K cl f) (tM K cl ma) (tM K cl mb) σ H Q:=by
 obtain⟨μ,h,ρ,w,h',R,er,e,k⟩:=q;obtain⟨x,h1,e1,e⟩:=ke e;obtain⟨y,h2,e2,e3⟩:=ke e;exact⟨μ,h,ρ,x,h1,R,er,e1,λen H1 vx E1 R1 rx=>⟨en,h1,ρ,y,h2,R1,er.ext R E1,e2,λhY H2 vy E2 R2 ry=>⟨hY,h2,x,y,w,h',R2,rx.ext R1 E2,ry,e3,k.ext (E1.trans E2)⟩⟩⟩
def GR{f:W->W->M W}(ho:jI X (ä op) (rM X.K cl f))(ha:SE X cl a ma)(hb:SE X cl b mb):SE X cl (.BinOp a op b pos) (zi f ma mb):=
 PE.wk (GW ho ha hb) λσ H Q q=>dP q
def Fd{f:W->W->M W}(ho:jI X (Ó op) (rM X.K cl f))(ha:SE X cl a ma)(hb:SE X cl b mb)(hm:à op b=Â:=by first | exact nomark _ | rfl):SE X cl (.Compare a [op] [b] pos) (zi f ma mb):=
 PE.wk (Ka ho ha hb hm) λσ H Q q=>dP q
def Gi{f:W->M W}(ho:VC X (unaryOp op) (rM1 X.K cl f))(ha:SE X cl a ma):SE X cl (.UnaryOp op a pos) (vt f ma):=
 PE.wk (GQ ho ha) λσ H Q q0=>by
  obtain⟨μ,h,ρ,w,h',R,er,e,k⟩:=q0;obtain⟨x,h1,e1,e⟩:=ke e;exact⟨μ,h,ρ,x,h1,R,er,e1,λen H1 vx E1 R1 rx=>⟨en,h1,x,w,h',R1,rx,e,k.ext E1⟩⟩
theorem RW.bl_of{K:S5}{k:Bool}(r:RW K μ H (.bl k) v):v=.bl k:=by cases r;rfl
def lB{w:W}{b:Bool}(e:lg w h=À (b,h')):w=.bl b/\h=h':=by
 unfold lg at e;split at e
 .cases e;exact⟨rfl,rfl⟩
 .cases e
def fq{K:S5}{σ:L2.St}(q:tMT K cl (kb ma) σ H Q):tM K cl ma σ H λx H1=>∃c,x=.bl c/\Q c H1:=by
 obtain⟨μ,h,ρ,b,h',R,er,e,k⟩:=q;obtain⟨x,h1,e1,e⟩:=ke e;obtain⟨rfl,rfl⟩:=lB e;exact⟨μ,h,ρ,_,h1,R,er,e1,λen H1 vx E1 R1 rx=>⟨b,rx.bl_of,k en H1 E1 R1⟩⟩
def Dh(ha:SE X cl a ma)(he:∀whole,Ž a X.env whole=(do let v <-whole;Ī a.pos;ü [v] (truthy v)):=by intro _;rfl):ST X cl a (kb ma):=
 PT.wk (Dr ha he) λσ H Q q=>fq q
def F2{f:W->W->M W}(ho:jI X (Ó op) (rM X.K cl f))(ha:SE X cl a ma)(hb:SE X cl b mb)(hm:à op b=Â:=by first | exact nomark _ | rfl):ST X cl (.Compare a [op] [b] pos) (kb (zi f ma mb)):=
 PT.wk (Ki ho ha hb hm) λσ H Q q=>by
  obtain⟨μ,h,ρ,w,h',R,er,e,k⟩:=fq q;exact dP ⟨μ,h,ρ,w,h',R,er,e,k⟩
def nR{K:S5}{f g:W->W->M W}(q:tM K cl (ug f g ma mb mc) σ H Q):sX (rM K cl f) (rM K cl g) (tM K cl ma) (tM K cl mb) (tM K cl mc) σ H Q:=by
 obtain⟨μ,h,ρ,w,h',R,er,e,k⟩:=q;obtain⟨x,h1,e1,e⟩:=ke e;obtain⟨y,h2,e2,e⟩:=ke e;obtain⟨z,h3,e3,e⟩:=ke e;obtain⟨c,h4,e4,e⟩:=ke e;obtain⟨rfl,rfl⟩:=lB e4;refine⟨μ,h,ρ,x,h1,R,er,e1,λen H1 vx E1 R1 rx=>⟨en,h1,ρ,y,h2,R1,er.ext R E1,e2,λhY H2 vy E2 R2 ry=>⟨hY,h2,x,y,_,h3,R2,rx.ext R1 E2,ry,e3,λAy H3 vz E3 R3 rz=>⟨c,rz.bl_of,?_⟩⟩⟩⟩;cases c with
 | true=>
  rw[z9 rfl] at e ⊢;obtain⟨u,h5,e5,e6⟩:=ke e;exact⟨Ay,h3,ρ,u,h5,R3,((er.ext R E1).ext R1 E2).ext R2 E3,e5,λPq H4 vu E4 R4 ru=>⟨Pq,h5,y,u,w,h',R4,(ry.ext R2 E3).ext R3 E4,ru,e6,k.ext (E1.trans (E2.trans (E3.trans E4)))⟩⟩
 | false=>
  rw[kI zX] at e ⊢;cases e;exact k Ay H3 _ (E1.trans (E2.trans E3)) R3 (.bl Â)
def Yv{f:W->W->M W}(ho:jI X (Ó op) (rM X.K cl f))(AM:jI X (Ó AA) (rM X.K cl g))(ha:SE X cl a ma)(hb:SE X cl b mb)(hc:SE X cl c mc)
  (hm:Ř [op,AA] [b,c]=Â:=by with_unfolding_all rfl):SE X cl (.Compare a [op,AA] [b,c] pos) (ug f g ma mb mc):=
 PE.wk (Wk ho AM ha hb hc hm) λσ H Q q=>nR q
def WH{f:W->W->M W}(ho:jI X (Ó op) (rM X.K cl f))(AM:jI X (Ó AA) (rM X.K cl g))(ha:SE X cl a ma)(hb:SE X cl b mb)(hc:SE X cl c mc)
  (hm:Ř [op,AA] [b,c]=Â:=by with_unfolding_all rfl):ST X cl (.Compare a [op,AA] [b,c] pos) (kb (ug f g ma mb mc)):=
 PT.wk (YC ho AM ha hb hc hm) λσ H Q q=>by
  obtain⟨μ,h,ρ,w,h',R,er,e,k⟩:=fq q;exact nR ⟨μ,h,ρ,w,h',R,er,e,k⟩
abbrev SW(X:Cx)(cl:Cl)(e:Ë)(m:MT):Prop:=PW X e (tMT X.K cl m)
def PW.wk(h:PW X e t)(w:∀σ H Q,t' σ H Q->t σ H Q):PW X e t':=λwh ag s σ H Q I q=>h wh ag s σ H Q I (w σ H Q q)
variable{ta tb:MT}{rest:List Ë}
def BI(ha:ST X cl a ta):SW X cl (.BoolOp .And [a] pos) ta:=pw_and1 ha
def Gc(ha:ST X cl a ta):SW X cl (.BoolOp .Or [a] pos) ta:=pw_or1 ha
def Ce(ha:ST X cl a ta)(hb:SW X cl (.BoolOp .And (b::rest) pos) tb):SW X cl (.BoolOp .And (a::b::rest) pos) (eT ta tb):=
 PW.wk (pw_and ha hb) λσ H Q q0=>by
  obtain⟨μ,h,ρ,w,h',R,er,e,k⟩:=q0;obtain⟨x,h1,e1,e⟩:=ke e;refine⟨μ,h,ρ,x,h1,R,er,e1,λen H1 E1 R1=>?_⟩;cases x with
  | true=>rw[z9 rfl] at e ⊢;exact⟨en,h1,ρ,w,h',R1,er.ext R E1,e,λhY H2 E2 R2=>k hY H2 (E1.trans E2) R2⟩
  | false=>rw[kI zX] at e ⊢;cases e;exact k en H1 E1 R1
def G2(ha:ST X cl a ta)(hb:SW X cl (.BoolOp .Or (b::rest) pos) tb):SW X cl (.BoolOp .Or (a::b::rest) pos) (ub ta tb):=
 PW.wk (pw_or ha hb) λσ H Q q0=>by
  obtain⟨μ,h,ρ,w,h',R,er,e,k⟩:=q0;obtain⟨x,h1,e1,e⟩:=ke e;refine⟨μ,h,ρ,x,h1,R,er,e1,λen H1 E1 R1=>?_⟩;cases x with
  | false=>rw[kI zX] at e ⊢;exact⟨en,h1,ρ,w,h',R1,er.ext R E1,e,λhY H2 E2 R2=>k hY H2 (E1.trans E2) R2⟩
  | true=>rw[z9 rfl] at e ⊢;cases e;exact k en H1 E1 R1
def BR(h:SW X cl a ta):ST X cl a ta:=h.pt
def CK(ha:ST X cl a ta):ST X cl (.UnaryOp .Not a pos) (yA ta):=
 PT.wk (Cc ha) λσ H Q q0=>by
  obtain⟨μ,h,ρ,w,h',R,er,e,k⟩:=q0;obtain⟨x,h1,e1,e⟩:=ke e;cases e;exact⟨μ,h,ρ,x,_,R,er,e1,λen H1 E1 R1=>k en H1 E1 R1⟩
def CM{op}(h:SE X cl a ma):SE X cl (.BoolOp op [a] pos) ma:=Ge h
def F9(ha:SE X cl a ma)(hb:SE X cl (.BoolOp .And (b::rest) pos) mb):SE X cl (.BoolOp .And (a::b::rest) pos) (b9 ma mb):=
 PE.wk (CC ha hb) λσ H Q q0=>by
  obtain⟨μ,h,ρ,w,h',R,er,e,k⟩:=q0;obtain⟨x,h1,e1,e⟩:=ke e;obtain⟨c,h2,e2,e⟩:=ke e;obtain⟨rfl,rfl⟩:=lB e2;refine⟨μ,h,ρ,_,h1,R,er,e1,λen H1 vx E1 R1 rx=>⟨c,rx.bl_of,?_⟩⟩;cases c with
  | true=>rw[z9 rfl] at e ⊢;exact⟨en,h1,ρ,w,h',R1,er.ext R E1,e,k.ext E1⟩
  | false=>rw[kI zX] at e ⊢;cases e;exact k en H1 _ E1 R1 (.bl Â)
def GS(ha:SE X cl a ma)(hb:SE X cl (.BoolOp .Or (b::rest) pos) mb):SE X cl (.BoolOp .Or (a::b::rest) pos) (XJ ma mb):=
 PE.wk (Gr ha hb) λσ H Q q0=>by
  obtain⟨μ,h,ρ,w,h',R,er,e,k⟩:=q0;obtain⟨x,h1,e1,e⟩:=ke e;obtain⟨c,h2,e2,e⟩:=ke e;obtain⟨rfl,rfl⟩:=lB e2;refine⟨μ,h,ρ,_,h1,R,er,e1,λen H1 vx E1 R1 rx=>⟨c,rx.bl_of,?_⟩⟩;cases c with
  | false=>rw[kI zX] at e ⊢;exact⟨en,h1,ρ,w,h',R1,er.ext R E1,e,k.ext E1⟩
  | true=>rw[z9 rfl] at e ⊢;cases e;exact k en H1 _ E1 R1 (.bl Ã)
def Dq(ha:SE X cl a ma):SE X cl (.UnaryOp .Not a pos) (Yb ma):=
 PE.wk (FY ha) λσ H Q q0=>by
  obtain⟨μ,h,ρ,w,h',R,er,e,k⟩:=q0;obtain⟨x,h1,e1,e⟩:=ke e;obtain⟨c,h2,e2,e⟩:=ke e;obtain⟨rfl,rfl⟩:=lB e2;cases e;exact⟨μ,h,ρ,_,_,R,er,e1,λen H1 vx E1 R1 rx=>⟨c,rx.bl_of,k en H1 _ E1 R1 (.bl _)⟩⟩
def GX(ht:ST X cl t ta)(ha:SE X cl a ma)(hb:SE X cl b mb):SE X cl (.IfExp t a b pos) (KS ta ma mb):=
 PE.wk (Yh ht ha hb) λσ H Q q0=>by
  obtain⟨μ,h,ρ,w,h',R,er,e,k⟩:=q0;obtain⟨x,h1,e1,e⟩:=ke e;refine⟨μ,h,ρ,x,h1,R,er,e1,λen H1 E1 R1=>?_⟩;cases x with
  | true=>rw[z9 rfl] at e ⊢;exact⟨en,h1,ρ,w,h',R1,er.ext R E1,e,k.ext E1⟩
  | false=>rw[kI zX] at e ⊢;exact⟨en,h1,ρ,w,h',R1,er.ext R E1,e,k.ext E1⟩
variable{es:List Ë}{ms:List ME}{e:Ë}{m:ME}
def lD:SA X cl [] []:=PA.wk Qk λσ H Q q0=>by
 obtain⟨μ,h,ρ,ws,h',R,er,e,k⟩:=q0;cases e;exact k μ H [] .refl R .nil
def ab(ha:SE X cl e m)(hr:SA X cl es ms)(hs:↥(É (e::es) X.env=(Â,Ú e X.env)::É es X.env)):SA X cl (e::es) (m::ms):=
 PA.wk (oz ha hr hs) λσ H Q q0=>by
  obtain⟨μ,h,ρ,ws,h',R,er,e,k⟩:=q0;obtain⟨x,h1,e1,e⟩:=ke e;obtain⟨xs,h2,e2,e⟩:=ke e;cases e;exact⟨μ,h,ρ,x,h1,R,er,e1,λen H1 vx E1 R1 rx=>⟨en,h1,ρ,xs,_,R1,er.ext R E1,e2,λhY H2 vs E2 R2 rs=>k hY H2 _ (E1.trans E2) R2 (.cons (rx.ext R1 E2) rs)⟩⟩
noncomputable def cap:Nat:=16000000
def xW:cap<=Î:=by decide
noncomputable def zt:List W->M W:=λws h=>if ws.length<=cap then À (.tup ws,h) else Á
noncomputable def vS:List W->M W:=λws h=>if ws.length<=cap then À (.fls ws,h) else Á
noncomputable def xE:List W->M W:=λws h=>if ws.length<=cap then À (.ref h.length,h++[.lst ws]) else Á
theorem KQ.tup{K:S5}{ws:List W}{xs:List V}{Q:VK}{p:È}(k:KQ K cl μ H h (.tup ws) Q)(R:HR K cl μ H h)(rs:RWs K μ H ws xs)(hp:H p=Á):Q (.ref p) (upd H p (.tup xs)):=
 k μ _ _ (.side hp) (R.side hp) (.tup (SqT.of qo) (rs.ext R (.side hp)))
theorem KQ.lst{K:S5}{ws:List W}{xs:List V}(k:KQ K cl μ H (h++[.lst ws]) (.ref h.length) Q)(R:HR K cl μ H h)(rs:RWs K μ H ws xs)(hp:H p=Á):Q (.ref p) (upd H p (.lst xs)):=
 k (μ++[p]) _ _ (.new hp) (R.new hp ⟨xs,qo,rs.ext R (.new hp)⟩) (.ref (by rw[<-R.len];simp))
theorem KQ.fls{K:S5}{ws:List W}{xs:List V}{Q:VK}{p:È}(k:KQ K cl μ H h (.fls ws) Q)(R:HR K cl μ H h)(rs:RWs K μ H ws xs)(hp:H p=Á):Q (.ref p) (upd H p (.lst xs)):=
 k μ _ _ (.side hp) (R.side hp) (.fls (.inl ⟨.inl qo,R.fresh hp⟩) (rs.ext R (.side hp)))
def Gb{x1}(hs:SA X cl es ms):SE X cl (.Tuple es x1 pos) (zh zt ms):=
 PE.wk (CW hs) λσ H Q q0=>by
  obtain⟨μ,h,ρ,w,h',R,er,e,k⟩:=q0;obtain⟨ws,h1,e1,e⟩:=ke e;refine⟨μ,h,ρ,ws,h1,R,er,e1,λen H1 vs E1 R1 rs=>?_⟩;unfold zt at e;split at e
  .rename_i hl
   cases e;exact⟨zK (by rw[<-rs.length];exact hl) xW,λp hp=>(k.ext E1).tup R1 rs hp⟩
  .cases e
def FP(hs:SA X cl es ms):SE X cl (.List es pos) (zh vS ms):=
 PE.wk (QL hs) λσ H Q q0=>by
  obtain⟨μ,h,ρ,w,h',R,er,e,k⟩:=q0;obtain⟨ws,h1,e1,e⟩:=ke e;refine⟨μ,h,ρ,ws,h1,R,er,e1,λen H1 vs E1 R1 rs=>?_⟩;unfold vS at e;split at e
  .rename_i hl
   cases e;exact⟨zK (by rw[<-rs.length];exact hl) xW,λp hp=>(k.ext E1).fls R1 rs hp⟩
  .cases e
def CF(hs:SA X cl es ms):SE X cl (.List es pos) (zh xE ms):=
 PE.wk (QL hs) λσ H Q q0=>by
  obtain⟨μ,h,ρ,w,h',R,er,e,k⟩:=q0;obtain⟨ws,h1,e1,e⟩:=ke e;refine⟨μ,h,ρ,ws,h1,R,er,e1,λen H1 vs E1 R1 rs=>?_⟩;unfold xE at e;split at e
  .rename_i hl
   cases e;exact⟨zK (by rw[<-rs.length];exact hl) xW,λp hp=>(k.ext E1).lst R1 rs hp⟩
  .cases e
end
noncomputable def xy(K:S5)(cl:Cl)(f:List W->M W):Sp:=λvs H Q _=>rMs K cl f vs H Q
mutual
noncomputable def low(m:Nat):W->Bool
 | .tup l=>lows m l
 | .fls l=>lows m l
 | .ref n=>decide (n<m)
 | .fdc l=>oN m l
 | _=>Ã
noncomputable def oN(m:Nat):List (Key×W)->Bool
 | []=>Ã
 | (_,w)::r=>low m w&&oN m r
noncomputable def lows(m:Nat):List W->Bool
 | []=>Ã
 | w::r=>low m w&&lows m r
end
open Classical in
noncomputable def gc(f:List W->M W):List W->M W:=λws h=>match f ws h with
 | some (w,h')=>if h<+:h'/\w≠.non then (if low h.length w=Ã then À (w,h) else match w with
   | .ref n=>match h'[n]? with
    | some (.lst l)=>if lows h.length l=Ã then À (.fls l,h) else À (w,h')
    | _=>À (w,h')
   | _=>À (w,h')) else À (w,h')
 | none=>Á
def xS{f:List W->M W}{h:MH}(e:f ws h=À (w,h'))(p:low h.length w=Ã)(q:h<+:h')(n:w≠.non\/h'=h:=by first | exact .inr rfl | exact .inl nofun):gc f ws h=À (w,h):=by
 unfold gc;rw[e];by_cases z:w=.non
 .have:=n.resolve_left (λy=>y z)
  subst this;erw[z,ne_eq,not_true_eq_false,and_false,je]
 .have c:h<+:h'/\w≠.non:=⟨q,z⟩
  simp only;rw[z9 c,z9 p]
def CO{f:List W->M W}{h h':MH}(e:f ws h=À (.ref n,h'))(q:h<+:h')(hn:h.length<=n)(o:h'[n]?=À (.lst l))(p:lows h.length l=Ã):gc f ws h=À (.fls l,h):=by
 unfold gc;rw[e];have b:low h.length (.ref n)=Â:=by unfold low;simp;omega
 have c:h<+:h'/\W.ref n≠.non:=⟨q,nofun⟩;simp only;rw[z9 c];erw[b,kE,o,p,jt,je]
theorem oC(m:Nat):∀l:List (Key×W),oN m l=lows m (l.map (·.2))
 | []=>by unfold oN lows;rfl
 | (k,w)::r=>by unfold oN;rw[oC m r];erw[zx];conv=>rhs;unfold lows
section
variable{K:S5}{cl:Cl}{μ gy:List È}{H H':Hp}
theorem RWs.low(r:RWs K μ H l vs):lows μ.length l=Ã:=
 RWs.rec (motive_1:=λw _ _=>ML.low μ.length w=Ã) (motive_2:=λl _ _=>lows μ.length l=Ã) rfl (λ_=>rfl) (λ_=>rfl) (λ_=>rfl) (λ_ _ r=>r) (λe=>jX (zT.mp e).1) (λ_ _ r=>r) (λ_ _ e _ _ r=>(oC ..).trans (e▸r)) rfl rfl (λ_ _ a b=>jh.mpr ⟨a,b⟩) r
def RWs.cut(pre:μ<+:gy)(p:lows μ.length l=Ã)(r:RWs K gy H l vs):RWs K μ H l vs:=
 RWs.rec (motive_1:=λw v _=>ML.low μ.length w=Ã->RW K μ H w v) (motive_2:=λl vs _=>lows μ.length l=Ã->RWs K μ H l vs) (λ_=>.non) (λb _=>.bl b) (λb _=>.int b) (λb _=>.str b) (λs _ r p=>.tup s (r p)) (λ{n _} e p=>.ref (by
  have p:n<μ.length:=qe p;obtain⟨t,rfl⟩:=pre;rw[zy p] at e
  exact e)) (λs _ r p=>.fls (s.elim (λz=>.inl ⟨z.1,λq=>z.2 (pre.subset q)⟩) .inr) (r p)) (λs k e b _ r p=>.fdc ⟨s.1,λq=>s.2 (pre.subset q)⟩ k e b (r (e▸(oC ..).symm.trans p))) (λ_=>.fn) (λ_=>.nil) (λ_ _ a b p=>.cons (a (jh.mp p).1) (b (jh.mp p).2)) r p
theorem RW.cut(pre:μ<+:gy)(p:ML.low μ.length w=Ã)(r:RW K gy H w v):RW K μ H w v:=by
 cases RWs.cut pre (l:=[w]) (jh.mpr ⟨p,rfl⟩) (.cons r .nil) with
 | cons r _=>exact r
theorem HR.cut(R:HR K cl μ H h)(E:Ext μ H gy H')(R':HR K cl gy H' h')(p:h<+:h'):HR K cl μ H' h:=by
 obtain⟨t,rfl⟩:=p;refine⟨R.len,R.nd,λn a o e1 e2=>?_⟩;have q:=R.ob n a o e1 e2;have q':=R'.ob n a o (E.get e1) (by rw[zy (zT.mp e2).1];exact e2);cases o with
 | lst l=>obtain⟨Sx,_,r0⟩:=q;obtain⟨vs,z,r⟩:=q';exact⟨vs,z,RWs.cut E.pre r0.low r⟩
 | dic l=>obtain⟨l0,_,_,r0⟩:=q;obtain⟨l',z,k,r⟩:=q';exact⟨l',z,k,RWs.cut E.pre r0.low r⟩
 | ins c fs=>obtain⟨_,Sy,_,_,r0⟩:=q;obtain⟨dx,fs',z,k,r⟩:=q';exact⟨dx,fs',z,k,RWs.cut E.pre r0.low r⟩
 | tdc ks=>obtain⟨_,_,_,_,_,r0⟩:=q;obtain⟨xs,z,k1,k2,k3,r⟩:=q';exact⟨xs,z,k1,k2,k3,RWs.cut E.pre r0.low r⟩
def Gk{f:List W->M W}(q:xy K cl (gc f) vs H Q E):xy K cl f vs H Q E:=by
 obtain⟨μ,h,ws,w,h',R,rs,e,k⟩:=q;unfold gc at e;split at e
 .rename_i w1 h1 e1
  have plain:∀{w h'},À (w1,h1)=À (w,h')->KQ K cl μ H h' w Q->xy K cl f vs H Q E:=λq k=>by cases q;exact⟨μ,h,ws,_,_,R,rs,e1,k⟩
  split at e
  .rename_i c
   replace c:=c.1
   have cut:∀{gy H'},Ext μ H gy H'->Ext μ H μ H':=λE'=>⟨zR _,λb o e n=>⟨(E'.fr b o e n).1,n⟩⟩
   split at e
   .rename_i p
    cases e;refine⟨μ,h,ws,_,h1,R,rs,e1,λgy H' v E' R' r'=>?_⟩;exact k μ H' v (cut E') (R.cut E' R' c) (RW.cut E'.pre (by rw[R.len];exact p) r')
   .rename_i p
    split at e
    .rename_i n
     split at e
     .rename_i l ho
      split at e
      .rename_i pl
       cases e;refine⟨μ,h,ws,_,h1,R,rs,e1,λgy H' v E' R' r'=>?_⟩;cases r' with
       | @ref _ a hm=>
        obtain⟨AG,hv,rv⟩:=R'.ob n a _ hm ho;refine k μ H' _ (cut E') (R.cut E' R' c) (.fls (.inl ⟨.inl hv,λz=>?_⟩) (RWs.cut E'.pre (by rw[R.len];exact pl) rv));obtain⟨m,Oo⟩:=jC.mp z;have h2:=E'.get Oo;have Al:m<μ.length:=(zT.mp Oo).1;obtain⟨z1,z2⟩:=zT.mp h2;obtain⟨z3,z4⟩:=zT.mp hm;have:m=n:=(vm R'.nd).mp (z2.trans z4.symm);subst this;refine p ?_;unfold low;rw[R.len] at Al;simpa using Al
      .exact plain e k
     .exact plain e k
    .exact plain e k
  .exact plain e k
 .cases e
end
section
variable{X:Cx}{cl:Cl}{k:Nat}{f:È}{fd:ù}{ps:List Ç}{x:Ç}{p pos:Ċ}{e:Ë}{es:List Ë}{g:List W->M W}{m:ME}{ms:List ME}
def fb{K:S5}{f:List W->M W}{σ:L2.St}{H:Hp}(q:tM K cl (zh f ms) σ H Q):tMA K cl ms σ H λvs H1=>rMs K cl f vs H1 Q:=by
 obtain⟨μ,h,ρ,w,h',R,er,e,k⟩:=q;obtain⟨ws,h1,e1,e⟩:=ke e;exact⟨μ,h,ρ,ws,h1,R,er,e1,λen H1 vs E1 R1 rs=>⟨en,h1,ws,w,h',R1,rs,e,k.ext E1⟩⟩
def Bo(F:FnOk X.prog X.w X.K X.mg X.base uE k f fd ps (xy X.K cl g))(hr:Room k X.A)(hm:X.mg x=À (.ref f))(hk:Û X.K (.ref f)=Ã)(hb:Binds X.K fd ps [])
  (ha:SA X cl (e::es) ms) (hg:↥(Gl X x)) (AB:⇑((x==("__debug__":Ç))=Â)) (r9:↥(É (e::es) X.env=(Â,Ú e X.env)::É es X.env)) (Aa:↥((Ù pos (É es X.env)).any (·.1)=Â)):SE X cl (.Call (.Name x p) (e::es) [] pos) (zh g ms):=
 PE.wk (X3 F hr hg hm hk hb .nil me ha AB r9 Aa) λσ H Q q=>by
  obtain⟨μ,h,ρ,ws,h1,R,er,e1,k1⟩:=fb q;exact⟨μ,h,ρ,ws,h1,R,er,e1,λen H1 vs E1 R1 rs=>by show xy X.K cl g (vs++[]) H1 Q E0;rw[kh];exact k1 en H1 vs E1 R1 rs⟩
def Yt(F:FnOk X.prog X.w X.K X.mg X.base uE k f fd ps (xy X.K cl g))(hr:Room k X.A)(hm:X.mg x=À (.ref f))(hk:Û X.K (.ref f)=Ã)(hb:Binds X.K fd ps [])
  (hg:↥(Gl X x)) (AB:⇑((x==("__debug__":Ç))=Â)):SE X cl (.Call (.Name x p) [] [] pos) (zh g []):=
 PE.wk (WN F hr hg hm hk hb .nil me AB) λσ H Q q=>by
  obtain⟨μ,h,ρ,ws,h1,R,er,e1,k1⟩:=fb q;cases e1;exact k1 μ H [] .refl R .nil
def Yq{id:String}(hc:yB X (.builtin id) (rMs X.K cl g))(hm:X.mg x=Á)(hv:Ô x=À (.builtin id))(ha:SA X cl (e::es) ms)(hg:↥(Gl X x))(hn:⇑(x≠"__name__"))(AB:⇑((x==("__debug__":Ç))=Â))(r9:↥(É (e::es) X.env=(Â,Ú e X.env)::É es X.env))(Aa:↥((Ù pos (É es X.env)).any (·.1)=Â)) :
  SE X cl (.Call (.Name x p) (e::es) [] pos) (zh g ms):=
 PE.wk (sJ hc hg hm hv ha hn AB r9 Aa) λσ H Q q=>fb q
def QK{id:String}(hc:yB X (.type id) (rMs X.K cl g))(hm:X.mg x=Á)(hv:Ô x=À (.type id))(ha:SA X cl (e::es) ms)(hg:↥(Gl X x))(hn:⇑(x≠"__name__"))(AB:⇑((x==("__debug__":Ç))=Â))(r9:↥(É (e::es) X.env=(Â,Ú e X.env)::É es X.env))(Aa:↥((Ù pos (É es X.env)).any (·.1)=Â)) :
  SE X cl (.Call (.Name x p) (e::es) [] pos) (zh g ms):=
 PE.wk (QT hc hg hm hv ha hn AB r9 Aa) λσ H Q q=>fb q
end
inductive Fl where
 | nx (ρ:En) | ret (w:W) | bk (ρ:En) | ct (ρ:En)
abbrev MS:=En->MH->Option (Fl×MH)
abbrev MG:=W->En->M En
noncomputable def KF(K:S5)(cl:Cl)(μ:List È)(H:Hp)(h':MH)(fl:Fl)(D:Ends):Prop:=∀gy H',Ext μ H gy H'->HR K cl gy H' h'->match fl with
 | .nx ρ=>∀σ,ER K gy H' ρ σ->D.nx σ H'
 | .ret w=>∀v,RW K gy H' w v->D.rt v H'
 | .bk ρ=>∀σ,ER K gy H' ρ σ->D.bk σ H'
 | .ct ρ=>∀σ,ER K gy H' ρ σ->D.ct σ H'
inductive tMS(K:S5)(cl:Cl)(m:MS)(D:Ends)(σ:L2.St)(H:Hp):Prop
 | mk (μ:List È) (h:MH) (ρ:En) (fl:Fl) (h':MH) (p0:HR K cl μ H h) (p1:ER K μ H ρ σ) (p2:m ρ h=À (fl,h')) (p3:KF K cl μ H h' fl D):tMS K cl m D σ H
abbrev SS(X:Cx)(cl:Cl)(st:Ă)(m:MS):Prop:=PS X st (tMS X.K cl m)
abbrev SB(X:Cx)(cl:Cl)(st:List Ă)(m:MS):Prop:=PSs X st (tMS X.K cl m)
inductive tMG(K:S5)(cl:Cl)(g:MG)(v:V)(σ:L2.St)(H:Hp)(Q:L2.St->Hp->Prop):Prop
 | mk (μ:List È) (h:MH) (ρ:En) (w:W) (ρ':En) (h':MH) (p0:HR K cl μ H h) (p1:ER K μ H ρ σ) (p2:RW K μ H w v) (p3:g w ρ h=À (ρ',h')) (p4:∀gy H' hJ,Ext μ H gy H'->HR K cl gy H' h'->ER K gy H' ρ' hJ->Q hJ H'):tMG K cl g v σ H Q
abbrev SG(X:Cx)(cl:Cl)(e:Ë)(g:MG):Prop:=PG X e (tMG X.K cl g)
def PG.wk(h:PG X e t)(w:∀v σ H Q,t' v σ H Q->t v σ H Q):PG X e t':=λag s σ H v u Q I r q=>h ag s σ H v u Q I r (w v σ H Q q)
def KF.ext{K:S5}{cl:Cl}{μ gy:List È}{H H':Hp}{D:Ends}(E:Ext μ H gy H')(k:KF K cl μ H h fl D):KF K cl gy H' h fl D:=λhY H2 E2 R2=>k hY H2 (E.trans E2) R2
theorem KF.nx{K:S5}{cl:Cl}{μ:List È}{H:Hp}{D:Ends}(k:KF K cl μ H h (.nx ρ) D)(R:HR K cl μ H h)(er:ER K μ H ρ σ):D.nx σ H:=k μ H .refl R σ er
noncomputable def kz:MS:=λρ h=>À (.nx ρ,h)
noncomputable def zk(a b:MS):MS:=λρ h=>match a ρ h with
 | some (.nx ρ',h')=>b ρ' h'
 | r=>r
noncomputable def ky(m:ME):MS:=λρ h=>match m ρ h with
 | some (_,h')=>À (.nx ρ,h')
 | none=>Á
noncomputable def ka(m:ME):MS:=λρ h=>match m ρ h with
 | some (w,h')=>À (.ret w,h')
 | none=>Á
noncomputable def kP(t:MT)(a b:MS):MS:=λρ h=>match t ρ h with
 | some (c,h')=>if c=Ã then a ρ h' else b ρ h'
 | none=>Á
noncomputable def zI(m:ME)(g:MG):MS:=λρ h=>match m ρ h with
 | some (w,h')=>match g w ρ h' with
  | some (ρ',h2)=>À (.nx ρ',h2)
  | none=>Á
 | none=>Á
noncomputable def zD(i:Nat):MG:=λw ρ h=>if i<ρ.length then À (ρ.set i (À w),h) else Á
noncomputable def fI:List MG->List W->En->M En
 | [],[]=>λρ h=>À (ρ,h)
 | g::gs,w::ws=>λρ=>bnd (g w ρ) λρ'=>fI gs ws ρ'
 | _,_=>λ_ _=>Á
noncomputable def eD(gs:List MG):MG:=λw=>match w with
 | .tup ws=>fI gs ws
 | .fls ws=>fI gs ws
 | _=>λ_ _=>Á
noncomputable def mS(i:Nat)(f:W->W->M W)(m:ME):MS:=λρ h=>match ρ[i]? with
 | some (À x)=>match m ρ h with
  | some (y,h1)=>match f x y h1 with
   | some (z,h2)=>if i<ρ.length then À (.nx (ρ.set i (À z)),h2) else Á
   | none=>Á
  | none=>Á
 | _=>Á
section
variable{X:Cx}{cl:Cl}{st:Ă}{rest:List Ă}{a b:MS}{e:Ë}{m:ME}{pos:Ċ}
theorem ER.set{K:S5}{μ:List È}{H:Hp}{ρ:En}{σ:L2.St}{i:Nat}(er:ER K μ H ρ σ)(hi:i<ρ.length)(r:RW K μ H w v):ER K μ H (ρ.set i (À w)) (σ.set i (À v)):=by
 refine⟨by simp[er.len],λj w' e=>?_⟩;by_cases hj:j=i
 .subst hj
  rw[zH hi] at e;cases e;exact⟨v,by rw[zH (by rw[<-er.len];exact hi)],r⟩
 .rw[zG (kZ hj)] at e
  obtain⟨v',e',r'⟩:=er.at_ j w' e;exact⟨v',by rw[zG (kZ hj)];exact e',r'⟩
def Fe:SB X cl [] kz:=PSs.wk UG λD σ H q0=>by
 obtain⟨μ,h,ρ,fl,h',R,er,e,k⟩:=q0;cases e;exact k.nx R er
def DL(h1:SS X cl st a):SB X cl [st] a:=Up h1
def U0(h1:SS X cl st a)(h2:SB X cl rest b):SB X cl (st::rest) (zk a b):=PSs.wk (WM h1 h2) λD σ H q0=>by
 obtain⟨μ,h,ρ,fl,h',R,er,e,k⟩:=q0;unfold zk at e;split at e
 .rename_i ρ1 h1 e1
  exact⟨μ,h,ρ,_,h1,R,er,e1,λen H1 E1 R1 EA NE=>⟨en,h1,ρ1,fl,h',R1,NE,e,k.ext E1⟩⟩
 .rename_i r hr
  refine⟨μ,h,ρ,fl,h',R,er,e,λen H1 E1 R1=>?_⟩;have k1:=k en H1 E1 R1;cases fl with
  | nx ρ1=>exact absurd e (hr ρ1 h')
  | ret w=>exact k1
  | bk ρ1=>exact k1
  | ct ρ1=>exact k1
def BJ:SS X cl (.Pass pos) kz:=PS.wk Uc λD σ H q0=>by
 obtain⟨μ,h,ρ,fl,h',R,er,e,k⟩:=q0;cases e;exact k.nx R er
def Bi(he:SE X cl e m)(hs:↥(ì e Á pos.line X.env=pure Â)):SS X cl (.Expr e pos) (ky m):=PS.wk (UV he hs) λD σ H q0=>by
 obtain⟨μ,h,ρ,fl,h',R,er,e,k⟩:=q0;unfold ky at e;split at e
 .rename_i w h1 e1
  cases e;exact⟨μ,h,ρ,w,_,R,er,e1,λen H1 v E1 R1 _=>k en H1 E1 R1 σ (er.ext R E1)⟩
 .cases e
def FS(he:SE X cl e m):SS X cl (.Return (À e) pos) (ka m):=PS.wk (Df he) λD σ H q0=>by
 obtain⟨μ,h,ρ,fl,h',R,er,e,k⟩:=q0;unfold ka at e;split at e
 .rename_i w h1 e1
  cases e;exact⟨μ,h,ρ,w,_,R,er,e1,λen H1 v E1 R1 r=>k en H1 E1 R1 v r⟩
 .cases e
def GN{c:Ë}(hc:ST X cl c t)(ha:SB X cl sa a)(hb:SB X cl sb b):SS X cl (.If c sa sb pos) (kP t a b):=PS.wk (Hg hc ha hb) λD σ H q0=>by
 obtain⟨μ,h,ρ,fl,h',R,er,e,k⟩:=q0;unfold kP at e;split at e
 .rename_i c h1 e1
  refine⟨μ,h,ρ,c,h1,R,er,e1,λen H1 E1 R1=>?_⟩;cases c with
  | true=>rw[z9 rfl] at e ⊢;exact⟨en,h1,ρ,fl,h',R1,er.ext R E1,e,k.ext E1⟩
  | false=>rw[kI zX] at e ⊢;exact⟨en,h1,ρ,fl,h',R1,er.ext R E1,e,k.ext E1⟩
 .cases e
def Kp(i:Nat)(hN:X.N.Nodup)(hi:↥(X.N[i]?=À x))(hx:Loc X.env.scope x:=by first | exact Or.inl rfl | exact Or.inr rfl)(hf:X.fn x=Ã\/X.env.scope.names.lookup x=À .local:=by first | exact .inl rfl | exact .inr rfl | assumption):SG X cl (.Name x pos) (zD i):=
 PG.wk (X1 (i:=i) hN hi hx hf) λv σ H Q q0=>by
  obtain⟨μ,h,ρ,w,ρ',h',R,er,r,e,k⟩:=q0;unfold zD at e;split at e
  .rename_i hi
   cases e;exact k μ H _ .refl R (er.set hi r)
  .cases e
inductive tMGs(K:S5)(cl:Cl)(gs:List MG)(vs:List V)(σ:L2.St)(H:Hp)(Q:L2.St->Hp->Prop):Prop
 | mk (μ:List È) (h:MH) (ρ:En) (ws:List W) (ρ':En) (h':MH) (p0:HR K cl μ H h) (p1:ER K μ H ρ σ) (p2:RWs K μ H ws vs) (p3:fI gs ws ρ h=À (ρ',h')) (p4:∀gy H' hJ,Ext μ H gy H'->HR K cl gy H' h'->ER K gy H' ρ' hJ->Q hJ H'):tMGs K cl gs vs σ H Q
abbrev Vq(X:Cx)(cl:Cl)(es:List Ë)(gs:List MG):Prop:=PGs X es (tMGs X.K cl gs)
def PGs.wk(h:PGs X es t)(w:∀v σ H Q,t' v σ H Q->t v σ H Q):PGs X es t':=λag s σ H v u Q I r q=>h ag s σ H v u Q I r (w v σ H Q q)
def Ur:Vq X cl [] []:=PGs.wk UM λvs σ H Q q0=>by
 obtain⟨μ,h,ρ,ws,ρ',h',R,er,rs,e,k⟩:=q0;cases rs with
 | nil=>cases e;exact⟨rfl,k μ H _ .refl R er⟩
 | cons r t=>cases e
def Yd(h1:SG X cl e g)(h2:Vq X cl es gs)
  (hs:↥((ß (e::es) X.env).map (·.2)=ĥ e X.env::(ß es X.env).map (·.2))):Vq X cl (e::es) (g::gs):=PGs.wk (YX h1 h2 hs) λvs σ H Q q0=>by
 obtain⟨μ,h,ρ,ws,ρ',h',R,er,rs,e,k⟩:=q0;cases rs with
 | nil=>cases e
 | cons r t=>
  obtain⟨ρ1,h1,e1,e2⟩:=ke e;exact⟨_,_,rfl,μ,h,ρ,_,ρ1,h1,R,er,r,e1,λen H1 EA E1 R1 NE=>⟨en,h1,ρ1,_,ρ',h',R1,NE,t.ext R E1,e2,λhY H2 A7 E2 R2 Da=>k hY H2 A7 (E1.trans E2) R2 Da⟩⟩
def Za:∀{gs:List MG} {l:List W} {ρ:En} {h:MH},fI gs l ρ h=À (ρ',h')->gs.length=l.length:=by
 intro gs;induction gs with
 | nil=>intro l ρ h e;cases l with | nil=>rfl | cons=>cases e
 | cons g gs ih=>
  intro l ρ h e;cases l with
  | nil=>cases e
  | cons w l=>
   obtain⟨ρ1,h1,e1,e2⟩:=ke e;erw[zp];rw[ih e2]
def PG.or(h1:PG X e t1)(h2:PG X e t2)(k:∀v σ H Q,t v σ H Q->t1 v σ H Q\/t2 v σ H Q):PG X e t:=λag s σ H v u Q I r q=>(k v σ H Q q).elim (h1 ag s σ H v u Q I r) (h2 ag s σ H v u Q I r)
def Ga{gs:List MG}(hc:X.calm=Ã)(hg:Vq X cl es gs)
  (hl:↥((ß es X.env).length=gs.length)) (r9:↥((ß es X.env).findIdx? (·.1)=Á)):SG X cl (.Tuple es n pos) (eD gs):=PG.or (FH hc hg hl r9) (Cg hc hg hl r9) λv σ H Q q0=>by
 obtain⟨μ,h,ρ,w,ρ',h',R,er,r,e,k⟩:=q0;cases r with
 | @tup a vs l s rs=>
  have e':fI gs l ρ h=À (ρ',h'):=e;exact .inl ⟨a,vs,rfl,s,by rw[<-rs.length];exact(Za e').symm,μ,h,ρ,l,ρ',h',R,er,rs,e',k⟩
 | @fls a vs l s rs=>
  have e':fI gs l ρ h=À (ρ',h'):=e;exact .inr ⟨a,vs,rfl,s.sq,by rw[<-rs.length];exact(Za e').symm,μ,h,ρ,l,ρ',h',R,er,rs,e',k⟩
 | _=>cases e
def J6(he:SE X cl e m)(hg:SG X cl tg g)(hs:↥(Ŀ [tg] e pos.line X.env=pure Â))(hw:↥(ŀ [tg] e X.env=pure Á))
  (h1:↥((ß [tg] X.env).map (·.2)=[ĥ tg X.env])):SS X cl (.Assign [tg] e pos) (zI m g):=PS.wk (FW he hg hs hw h1) λD σ H q0=>by
 obtain⟨μ,h,ρ,fl,h',R,er,e,k⟩:=q0;unfold zI at e;split at e
 .rename_i w h1 e1
  split at e
  .rename_i ρ2 h2 e2
   cases e;exact⟨μ,h,ρ,w,h1,R,er,e1,λen H1 v E1 R1 r=>⟨en,h1,ρ,w,ρ2,_,R1,er.ext R E1,r,e2,λhY H2 A7 E2 R2 Da=>k hY H2 (E1.trans E2) R2 A7 Da⟩⟩
  .cases e
 .cases e
def FJ(i:Nat)(hN:X.N.Nodup)(he:SE X cl e m)(hi:↥(X.N[i]?=À x))(hx:Loc X.env.scope x:=by first | exact Or.inl rfl | exact Or.inr rfl)(hs:↥(ì e (À (.Name x Ab)) pos.line X.env=pure Â))
  (hf:X.fn x=Ã\/X.env.scope.names.lookup x=À .local:=by first | exact .inl rfl | exact .inr rfl | assumption):SS X cl (.Assign [.Name x Ab] e pos) (zI m (zD i)):=PS.wk (DW (i:=i) hN hi hx he hs hf) λD σ H q0=>by
 obtain⟨μ,h,ρ,fl,h',R,er,e,k⟩:=q0;unfold zI at e;split at e
 .rename_i w h1 e1
  split at e
  .rename_i ρ2 h2 e2
   cases e;refine⟨μ,h,ρ,w,h1,R,er,e1,λen H1 v E1 R1 r=>?_⟩;unfold zD at e2;split at e2
   .rename_i hi
    cases e2;exact k en H1 E1 R1 _ ((er.ext R E1).set hi r)
   .cases e2
  .cases e
 .cases e
def C6(i:Nat){f:W->W->M W}(hN:X.N.Nodup)(ho:Va X op (rM X.K cl f))(he:SE X cl e m)(hi:↥(X.N[i]?=À x))(hx:Loc X.env.scope x:=by first | exact Or.inl rfl | exact Or.inr rfl)
  (hf:X.fn x=Ã\/X.env.scope.names.lookup x=À .local:=by first | exact .inl rfl | exact .inr rfl | assumption):SS X cl (.AugAssign (.Name x Ab) op e pos) (mS i f m):=PS.wk (Dt (i:=i) hN hi hx he ho hf) λD σ H q0=>by
 obtain⟨μ,h,ρ,fl,h',R,er,e,k⟩:=q0;unfold mS at e;split at e
 .rename_i w0 e0
  split at e
  .rename_i y h1 e1
   split at e
   .rename_i z h2 e2
    split at e
    .rename_i hi
     cases e;obtain⟨v0,q0,r0⟩:=er.at_ i w0 e0;exact⟨v0,q0,μ,h,ρ,y,h1,R,er,e1,λen H1 vy E1 R1 ry=>⟨en,h1,w0,y,z,_,R1,r0.ext R E1,ry,e2,λhY H2 vz E2 R2 rz=>k hY H2 (E1.trans E2) R2 _ (((er.ext R E1).ext R1 E2).set hi rz)⟩⟩
    .cases e
   .cases e
  .cases e
 .cases e
end
noncomputable def ja(c:MT)(b:MS):Nat->MS
 | 0=>λ_ _=>Á
 | n+1=>λρ h=>match c ρ h with
  | some (Ã,h1)=>match b ρ h1 with
   | some (.nx ρ2,h2)=>ja c b n ρ2 h2
   | some (.ct ρ2,h2)=>ja c b n ρ2 h2
   | some (.bk ρ2,h2)=>À (.nx ρ2,h2)
   | some (.ret w,h2)=>À (.ret w,h2)
   | none=>Á
  | some (Â,h1)=>À (.nx ρ,h1)
  | none=>Á
theorem aI{c:MT}:∀{n:Nat} {ρ:En} {h:MH} {r:Fl×MH},ja c b n ρ h=À r->∀k,ja c b (n+k) ρ h=À r
 | 0,_,_,_,e,_=>by cases e
 | n+1,ρ,h,r,e,k=>by
  rw[show n+1+k=(n+k)+1 by omega];unfold ja at e ⊢;cases e1:c ρ h with
  | none=>rw[e1] at e;cases e
  | some p=>
   obtain⟨t,h1⟩:=p;rw[e1] at e;cases t with
   | false=>exact e
   | true=>
    simp only at e ⊢;cases e2:b ρ h1 with
    | none=>rw[e2] at e;cases e
    | some q=>
     obtain⟨fl,h2⟩:=q;rw[e2] at e;cases fl with
     | nx ρ2=>exact aI (n:=n) e k
     | ct ρ2=>exact aI (n:=n) e k
     | bk ρ2=>exact e
     | ret w=>exact e
open Classical in
noncomputable def uf(c:MT)(b:MS):MS:=λρ h=>if q:∃n r,ja c b n ρ h=À r then À q.choose_spec.choose else Á
def uT{c:MT}(e:ja c b n ρ h=À r):uf c b ρ h=À r:=by
 unfold uf;have q:∃n r,ja c b n ρ h=À r:=⟨n,r,e⟩;rw[dif_pos q];have e1:=q.choose_spec.choose_spec;have e2:=aI e1 n;have e3:=aI e q.choose;rw[vf] at e3;rw[e2] at e3;exact e3
def VB{c:MT}(e:uf c b ρ h=À r):∃n,ja c b n ρ h=À r:=by
 unfold uf at e;split at e
 .rename_i q
  have e1:=q.choose_spec.choose_spec;cases e;exact⟨_,e1⟩
 .cases e
section
variable{X:Cx}{cl:Cl}{pos:Ċ}
def Yi{c:Ë}(hc:ST X cl c t)(hb:SB X cl body b)(hp:ŗ (Ì X.prog X.w) X.A X.env X.xe:=by exact ye):SS X cl (.While c body [] pos) (uf t b):=PS.wk (Yc hp hc hb) λD σ H q0=>by
 obtain⟨μ,h,ρ,fl,h',R,er,e,k⟩:=q0;obtain⟨n0,e⟩:=VB e;refine⟨λn σ H=>∃μ h ρ fl h',HR X.K cl μ H h/\ER X.K μ H ρ σ/\ja t b n ρ h=À (fl,h')/\KF X.K cl μ H h' fl D,⟨n0,μ,h,ρ,fl,h',R,er,e,k⟩,?_⟩;rintro n σ H ⟨μ,h,ρ,fl,h',R,er,e,k⟩;cases n with
 | zero=>cases e
 | succ n=>
  unfold ja at e;cases e1:t ρ h with
  | none=>rw[e1] at e;cases e
  | some p=>
   obtain⟨c,h1⟩:=p;rw[e1] at e;refine⟨μ,h,ρ,c,h1,R,er,e1,λen H1 E1 R1=>?_⟩;cases c with
   | false=>
    rw[kI zX];cases e;exact k en H1 E1 R1 σ (er.ext R E1)
   | true=>
    rw[z9 rfl];refine⟨λhJ H'=>∃μ h ρ fl h',HR X.K cl μ H' h/\ER X.K μ H' ρ hJ/\ja t b n ρ h=À (fl,h')/\KF X.K cl μ H' h' fl D,λhJ H' q=>⟨n,jV n,q⟩,?_⟩;simp only at e;cases e2:b ρ h1 with
    | none=>rw[e2] at e;cases e
    | some q=>
     obtain⟨f2,h2⟩:=q;rw[e2] at e;refine⟨en,h1,ρ,f2,h2,R1,er.ext R E1,e2,λhY H2 E2 R2=>?_⟩;cases f2 with
     | nx ρ2=>exactλA7 Da=>⟨hY,h2,ρ2,fl,h',R2,Da,e,k.ext (E1.trans E2)⟩
     | ct ρ2=>exactλA7 Da=>⟨hY,h2,ρ2,fl,h',R2,Da,e,k.ext (E1.trans E2)⟩
     | bk ρ2=>cases e;exactλA7 Da=>k hY H2 (E1.trans E2) R2 A7 Da
     | ret w=>cases e;exactλv rv=>k hY H2 (E1.trans E2) R2 v rv
end
inductive Src where
 | items (l:List W) | live (n:Nat)
noncomputable def x6(s:Src)(i:Nat)(h:MH):Option (Option W):=match s with
 | .items l=>À l[i]?
 | .live n=>match h[n]? with
  | some (.lst l)=>À l[i]?
  | _=>Á
noncomputable def JR(K:S5)(cl:Cl)(J:It)(s:Src)(μ:List È)(H:Hp):Prop:=∀hY H2 h2,Ext μ H hY H2->HR K cl hY H2 h2->∀i,
 (∀w,x6 s i h2=À (À w)->J.go i H2/\∀x H3,J.yld i H2 x H3->Ext hY H2 hY H3/\HR K cl hY H3 h2/\RW K hY H3 w x)/\(x6 s i h2=À Á->J.stop i H2)
abbrev MI:=En->M Src
inductive tMI(K:S5)(cl:Cl)(m:MI)(σ:L2.St)(H:Hp)(R:It->Hp->Prop):Prop
 | mk (μ:List È) (h:MH) (ρ:En) (src:Src) (h':MH) (p0:HR K cl μ H h) (p1:ER K μ H ρ σ) (p2:m ρ h=À (src,h')) (p3:∀gy H' J,Ext μ H gy H'->HR K cl gy H' h'->JR K cl J src gy H'->R J H'):tMI K cl m σ H R
abbrev SI(X:Cx)(cl:Cl)(tg e:Ë)(m:MI):Prop:=PI X tg e (tMI X.K cl m)
def PI.wk(h:PI X tg e t)(w:∀σ H Q,t' σ H Q->t σ H Q):PI X tg e t':=λag s σ H Q I q=>h ag s σ H Q I (w σ H Q q)
def JR.ext{K:S5}{cl:Cl}{J:It}{H:Hp}(E:Ext μ H gy H')(j:JR K cl J s μ H):JR K cl J s gy H':=λhY H2 h2 E2=>j hY H2 h2 (E.trans E2)
noncomputable def u6(s:Src)(g:MG)(b:MS):Nat->Nat->MS
 | 0,_=>λ_ _=>Á
 | k+1,i=>λρ h=>match x6 s i h with
  | some (À w)=>match g w ρ h with
   | some (ρ1,h1)=>match b ρ1 h1 with
    | some (.nx ρ2,h2)=>u6 s g b k (i+1) ρ2 h2
    | some (.ct ρ2,h2)=>u6 s g b k (i+1) ρ2 h2
    | some (.bk ρ2,h2)=>À (.nx ρ2,h2)
    | some (.ret w,h2)=>À (.ret w,h2)
    | none=>Á
   | none=>Á
  | some Á=>À (.nx ρ,h)
  | none=>Á
noncomputable def forL(g:MG)(b:MS):List W->MS
 | []=>λρ h=>À (.nx ρ,h)
 | w::r=>λρ h=>match g w ρ h with
  | some (ρ1,h1)=>match b ρ1 h1 with
   | some (.nx ρ2,h2)=>forL g b r ρ2 h2
   | some (.ct ρ2,h2)=>forL g b r ρ2 h2
   | some (.bk ρ2,h2)=>À (.nx ρ2,h2)
   | some (.ret w,h2)=>À (.ret w,h2)
   | none=>Á
  | none=>Á
theorem ij(l:List W):∀(k i:Nat) (ρ:En) (h:MH),l.length+1<=i+k->i<=l.length->u6 (.items l) g b k i ρ h=forL g b (l.drop i) ρ h
 | 0,i,ρ,h,hk,hi=>by omega
 | k+1,i,ρ,h,hk,hi=>by
  by_cases hl:i<l.length
  .rw[qO hl]
   unfold u6 forL;erw[x6,zE hl];cases e1:g l[i] ρ h with
   | none=>rfl
   | some p=>
    obtain⟨ρ1,h1⟩:=p;simp only;cases e2:b ρ1 h1 with
    | none=>rfl
    | some q=>
     obtain⟨fl,h2⟩:=q;cases fl with
     | nx ρ2=>exact ij l k (i+1) ρ2 h2 ∅ hl
     | ct ρ2=>exact ij l k (i+1) ρ2 h2 ∅ hl
     | bk ρ2=>rfl
     | ret w=>rfl
  .have ED:i=l.length:=by omega
   subst ED;rw[yt];unfold u6 forL;simp[x6]
noncomputable def gS(s:Src)(h:MH):Nat:=match s with
 | .items l=>l.length
 | .live n=>match h[n]? with
  | some (.lst l)=>l.length
  | _=>0
noncomputable def uk(mi:MI)(g:MG)(b:MS):MS:=λρ h=>match mi ρ h with
 | some (.items l,h1)=>forL g b l ρ h1
 | some (.live n,h1)=>u6 (.live n) g b (gS (.live n) h1+1) 0 ρ h1
 | none=>Á
section
variable{X:Cx}{cl:Cl}{pos:Ċ}
def t9{K:S5}{J:It}{src:Src}{g:MG}{b:MS}{D:Ends}{σ:L2.St}{H:Hp}{k0:Nat}(R:HR K cl μ H h)(er:ER K μ H ρ σ)(j:JR K cl J src μ H)(e:u6 src g b k0 0 ρ h=À (fl,h'))
  (k:KF K cl μ H h' fl D):∃W:Nat->Nat->L2.St->Hp->Prop,(∃m,W 0 m σ H)/\∀i m σ H,W i m σ H->
   (J.stop i H/\D.nx σ H)\/(J.go i H/\∃N:L2.St->Hp->Prop,(∀hJ H',N hJ H'->∃m',m'<m/\W (i+1) m' hJ H')/\∀x H',J.yld i H x H'->tMG K cl g x σ H' λA7 H2=>tMS K cl b { D with nx:=N,ct:=N,bk:=D.nx } A7 H2):=by
 refine⟨λi m σ H=>∃μ h ρ fl h',HR K cl μ H h/\ER K μ H ρ σ/\JR K cl J src μ H/\u6 src g b m i ρ h=À (fl,h')/\KF K cl μ H h' fl D,⟨k0,μ,h,ρ,fl,h',R,er,j,e,k⟩,?_⟩;rintro i m σ H ⟨μ,h,ρ,fl,h',R,er,j,e,k⟩;cases m with
 | zero=>cases e
 | succ m=>
  unfold u6 at e;obtain⟨jg,js⟩:=j μ H h .refl R i;cases es:x6 src i h with
  | none=>rw[es] at e;cases e
  | some o=>
   rw[es] at e;cases o with
   | none=>
    cases e;exact .inl ⟨js es,k.nx R er⟩
   | some w=>
    obtain⟨go,yl⟩:=jg w es;simp only at e;cases e1:g w ρ h with
    | none=>rw[e1] at e;cases e
    | some p=>
     obtain⟨ρ1,h1⟩:=p;rw[e1] at e;simp only at e;cases e2:b ρ1 h1 with
     | none=>rw[e2] at e;cases e
     | some q=>
      obtain⟨f2,h2⟩:=q;rw[e2] at e;refine .inr ⟨go,λhJ H'=>∃μ h ρ fl h',HR K cl μ H' h/\ER K μ H' ρ hJ/\JR K cl J src μ H'/\u6 src g b m (i+1) ρ h=À (fl,h')/\KF K cl μ H' h' fl D,λhJ H' q=>⟨m,jV m,q⟩,λx H1 y1=>?_⟩;obtain⟨E1,R1,rx⟩:=yl x H1 y1;refine⟨μ,h,ρ,w,ρ1,h1,R1,er.ext R E1,rx,e1,λhY H2 A7 E2 R2 Da=>⟨hY,h1,ρ1,f2,h2,R2,Da,e2,λAy H3 E3 R3=>?_⟩⟩;have E:=E1.trans (E2.trans E3);cases f2 with
      | nx ρ2=>exactλAO Mi=>⟨Ay,h2,ρ2,fl,h',R3,Mi,j.ext E,e,k.ext E⟩
      | ct ρ2=>exactλAO Mi=>⟨Ay,h2,ρ2,fl,h',R3,Mi,j.ext E,e,k.ext E⟩
      | bk ρ2=>cases e;exactλAO Mi=>k Ay H3 E R3 AO Mi
      | ret w=>cases e;exactλv rv=>k Ay H3 E R3 v rv
def CZ(hc:X.calm=Ã)(hi:SI X cl tg iter mi)(hg:SG X cl tg g)(hb:SB X cl body b)
  (hs:∀x,á iter X.env x=pure x:=by intro _;rfl) (hp:ŗ (Ì X.prog X.w) X.A X.env X.xe:=by exact ye):SS X cl (.For tg iter body [] pos) (uk mi g b):=PS.wk (Fj hp hc hi hg hb hs) λD σ H q0=>by
 obtain⟨μ,h,ρ,fl,h',R,er,e,k⟩:=q0;unfold uk at e;split at e
 .rename_i l h1 e1
  refine⟨μ,h,ρ,.items l,h1,R,er,e1,λen H1 J E1 R1 j=>?_⟩;have q:=ij (g:=g) (b:=b) l (l.length+1) 0 ρ h1 ∅ ∅;rw[wV,e] at q;exact t9 R1 (er.ext R E1) j q (k.ext E1)
 .rename_i n h1 e1
  exact⟨μ,h,ρ,.live n,h1,R,er,e1,λen H1 J E1 R1 j=>t9 R1 (er.ext R E1) j e (k.ext E1)⟩
 .cases e
end
noncomputable def kg(np k:Nat)(b:MS):List W->M W:=λws h=>if ws.length=np then (match b (ws.map À++Æ k Á) h with
 | some (.ret w,h')=>À (w,h')
 | some (.nx _,h')=>À (.non,h')
 | _=>Á) else Á
section
variable{P:Í}{w:Ñ}{K:S5}{mg:Ç->Option Ä}{base:Ï}{cl:Cl}
def sG{H:Hp}{N:List Ç}{ws:List W}{vs:List V}(rs:RWs K μ H ws vs)(hk:N.length-vs.length=k):ER K μ H (ws.map À++Æ k Á) (L2.start N vs):=by
 subst hk;unfold L2.start;refine⟨by simp[rs.length],λi w e=>?_⟩;by_cases hi:i<ws.length
 .rw[zy (by simpa using hi),jb] at e
  cases e1:ws[i]? with
  | none=>rw[e1] at e;cases e
  | some w'=>
   rw[e1] at e;cases e;obtain⟨v,e2,r⟩:=rs.get e1;exact⟨v,by rw[zy (by rw[zP,<-rs.length];exact hi),jb,e2];rfl,r⟩
 .rw[zF (by simpa using hi),qm] at e
  split at e<;>cases e
def GK{x qual:Ç}{st:Ă}{f:È}{fd:ù}{N ps:List Ç}{np:Nat}(F:Fun K x qual st f fd)(S:FnScope N ps (kF st))(AQ:ps.length=np)(Ah:N.length-np=ns)
  (hb:∀(xI:Ä) (A:Ö) (outer:List ŷ) (s:Å) (H:Hp) (E:XK),Room k (A.deeper (envOfC qual (kF st) s.heap.objs.size f xI))->
   SB (lE uE P w K mg base N qual (kF st) f xI A outer s H E).nox cl (kX st) b):FnOk P w K mg base uE (k+1) f fd ps (xy K cl (gc (kg np ns b))):=by
 have len:∀vs H Q E,xy K cl (kg np ns b) vs H Q E->vs.length=ps.length:=by
  rintro vs H Q E ⟨μ,h,ws,w,h',R,rs,e,k⟩;unfold kg at e;split at e
  .rename_i hl
   rw[AQ,<-hl,rs.length]
  .cases e
 refine FnOk.imp (sp:=xy K cl (kg np ns b)) (F.ok S len λxI A outer s H vs Q E hr Eg=>⟨_,hb xI A outer s H E hr,?_⟩) λvs H Q E q=>Gk (E:=E) q
 have hX:=len _ _ _ _ Eg;obtain⟨μ,h,ws,w,h',R,rs,e,k⟩:=Eg;unfold kg at e;split at e
 .rename_i hl
  split at e
  .rename_i w1 h1 e1
   cases e;exact⟨μ,h,_,_,_,R,sG rs (by rw[hX,AQ];exact Ah),e1,λen H1 E1 R1 v rv=>k en H1 v E1 R1 rv⟩
  .rename_i ρ1 h1 e1
   cases e;exact⟨μ,h,_,_,_,R,sG rs (by rw[hX,AQ];exact Ah),e1,λen H1 E1 R1 EA _=>k en H1 .non E1 R1 .non⟩
  .cases e
 .cases e
end
noncomputable def getL(h:MH):W->Option (List W)
 | .fls l=>À l
 | .ref n=>match h[n]? with
  | some (.lst l)=>À l
  | _=>Á
 | _=>Á
section
variable{K:S5}{cl:Cl}{μ:List È}{H:Hp}{h:MH}
def xb(R:HR K cl μ H h)(r:RW K μ H w v)(e:getL h w=À l):∃a vs,v=.ref a/\SqL K H a vs/\RWs K μ H l vs:=by
 cases r with
 | @fls a vs l' s rs=>cases e;exact⟨a,vs,rfl,s.sq,rs⟩
 | @ref n a hn=>
  erw[getL] at e;split at e
  .rename_i l' ho
   cases e;obtain⟨vs,hv,rs⟩:=R.ob n a _ hn ho;exact⟨a,vs,rfl,SqL.of hv,rs⟩
  .cases e
 | _=>cases e
theorem RW.int_of{i:Int}(r:RW K μ H (.int i) v):v=.int i:=by cases r;rfl
theorem RW.str_of{i:Ç}(r:RW K μ H (.str i) v):v=.str i:=by cases r;rfl
def RW.tup_of(r:RW K μ H (.tup l) v):∃a vs,v=.ref a/\SqT K H a vs/\RWs K μ H l vs:=by cases r with | @tup a vs l s rs=>exact⟨a,vs,rfl,s,rs⟩
end
noncomputable def qc(x y:W):Option W:=match x,y with
 | .int i,.int j=>À (.int (i+j))
 | .str i,.str j=>if i.length+j.length<=cap then À (.str (i++j)) else Á
 | .tup l,.tup l'=>if l.length+l'.length<=cap then À (.tup (l++l')) else Á
 | _,_=>Á
noncomputable def addW(x y:W):M W:=λh=>match qc x y with
 | some w=>À (w,h)
 | none=>match getL h x,getL h y with
  | some l,À l'=>if l.length+l'.length<=cap then À (.fls (l++l'),h) else Á
  | _,_=>Á
section
variable{prog:Í}{w:Ñ}{A:Ö}{E:Ä->Å->Prop}{s:Å}
def WX{vs ws:List Ä}(ht:s.heap.IsList t vs.toArray)(hb:s.heap.IsList b ws.toArray)
  (h2:Q (.ref s.heap.objs.size) { s with heap:=s.heap.push { cls:=.type "list",data:=.seq (vs++ws).toArray } })
  (hsz:vs.length+ws.length<=Î):Ê (Ì prog w) A (ä .Add (.ref t) (.ref b)) Q E s:=by
 obtain⟨⟨cls,dd,data,sl⟩,ho,hc,n,hd⟩:=id ht;obtain⟨⟨Mc,A8,data2,AK⟩,A9,Bz,n2,hd2⟩:=id hb;simp only at hc hd Bz hd2;subst hc hd Bz hd2;have e:vs.toArray++ws.toArray=(vs++ws).toArray:=by simp
 refine yN ⟨_,ho,rfl⟩ ⟨_,A9,rfl⟩ noFill_list_add seq_list_add PySem.F.slot_list_add PySem.F.entry_list_add (PySem.F.args_list_add_2 _ _)
  (list_addW t b vs.toArray ws.toArray n n2 dd A8 sl AK (by rw[zJ,zJ];exact hsz)) ⟨ho,A9,?_⟩
 rw[e];exact h2
def YH{ws:List Ä}(ht:IsTup s.heap t ([]:List Ä).toArray)(hb:IsTup s.heap b ws.toArray)(h1:Q (.ref b) s) :
  Ê (Ì prog w) A (ä .Add (.ref t) (.ref b)) Q E s:=by
 obtain⟨⟨cls,dd,data,sl⟩,ho,hc,n,hd⟩:=id ht;obtain⟨⟨Mc,A8,data2,AK⟩,A9,Bz,n2,hd2⟩:=id hb;simp only at hc hd Bz hd2;subst hc hd Bz hd2;exact yN ⟨_,ho,rfl⟩ ⟨_,A9,rfl⟩ yQ Ŝ wF v8 (vZ _ _)
  (tuple_addW0 t b _ ws.toArray n n2 dd A8 sl AK rfl) ⟨ho,A9,h1⟩
end
section
variable{X:Cx}{cl:Cl}
def X8{P:List W->MH->W->MH->Prop}{H:Hp}{l l':List W}(I:Inv X ag σ H s)(rx:RelV x v)(ry:RelV y u)
  (R:HR X.K cl μ H h) (ax:RW X.K μ H wx x) (ay:RW X.K μ H wy y) (e1:getL h wx=À l) (e2:getL h wy=À l') (hl:l.length+l'.length<=cap)
  (k:∀p xs,H p=Á->RWs X.K μ H (l++l') xs->Q (.ref p) (upd H p (.lst xs))):Ê (Ì X.prog X.w) X.A (ä .Add v u) (EP X ag σ Q) X.xe s:=by
 obtain⟨a,vs,rfl,sa,ra⟩:=xb R ax e1;obtain⟨b,AG,rfl,sb,rb⟩:=xb R ay e2;cases rx;cases ry;obtain⟨cb,r1,p1,_⟩:=I.list sa;obtain⟨Ao,r2,p2,_⟩:=I.list sb;have hz:vs.length+AG.length<=Î:=zK (by rw[<-ra.length,<-rb.length];exact hl) xW;refine WX p1.isList p2.isList ?_ (by rw[<-r1.length,<-r2.length];exact hz);exact⟨.ref _,_,I.lnew (t':=s.toks) (r1.append r2) (by rw[zQ];exact hz),rfl,k _ _ I.fresh (ra.append rb)⟩
def Bb:jI X (ä .Add) (rM X.K cl addW):=by
 rintro ag s σ H x y v u Q I rx ry ⟨μ,h,wx,wy,w,h',R,ax,ay,e,k⟩;unfold addW at e;split at e
 .rename_i w' e'
  cases e;unfold qc at e';split at e'
  .rename_i i j
   cases e';exact Dd ag s σ H x y v u Q I rx ry ⟨i,j,ax.int_of,ay.int_of,k.pure R (.int _)⟩
  .rename_i i j
   split at e'
   .rename_i hl
    cases e';exact Jt ag s σ H x y v u Q I rx ry ⟨i,j,ax.str_of,ay.str_of,zK hl xW,k.pure R (.str _)⟩
   .cases e'
  .rename_i l l'
   split at e'
   .rename_i hl
    cases e';obtain⟨a,vs,rfl,sa,ra⟩:=ax.tup_of;obtain⟨b,AG,rfl,sb,rb⟩:=ay.tup_of;by_cases hv:vs=[]
    .subst hv
     cases ra;cases rx;cases ry;obtain⟨cb,r1,p1,_⟩:=I.tuple sa;obtain⟨Ao,r2,p2,_⟩:=I.tuple sb;cases r1;exact YH p1 p2 ⟨.ref b,H,I,rfl,k.pure R (.tup sb rb)⟩
    .refine BC ag s σ H _ _ v u Q I rx ry ⟨a,b,vs,AG,rfl,rfl,sa,sb,hv,zK (by rw[<-ra.length,<-rb.length];exact hl) xW,λz=>?_,λ_ p hp=>k.tup R (ra.append rb) hp⟩
     subst z;cases rb;rw[kh] at k;exact k.pure R (.tup sa ra)
   .cases e'
  .cases e'
 .split at e
  .rename_i l l' e1 e2
   split at e
   .rename_i hl
    cases e;exact X8 (P:=λ_ _ _ _=>True) I rx ry R ax ay e1 e2 hl λp xs hp rs=>k.fls R rs hp
   .cases e
  .cases e
end
noncomputable def x8(x y:W):M W:=λh=>match x,y with
 | .int i,.int j=>À (.int (i-j),h)
 | _,_=>Á
noncomputable def small(i:Int):Bool:=decide (-(2 ^ 64)<i/\i<2 ^ 64)
noncomputable def kH(x y:W):M W:=λh=>match x,y with
 | .int i,.int j=>if (small i||small j)=Ã then À (.int (i*j),h) else Á
 | .tup l,.int j=>if 0<=j/\j<=1000/\l.length<=1000 then À (.tup (Æ j.toNat l).flatten,h) else Á
 | .fls l,.int j=>if 0<=j/\j<=1000000/\l.length<=10 then À (.fls (Æ j.toNat l).flatten,h) else Á
 | _,_=>Á
noncomputable def y7(x y:W):M W:=λh=>match x,y with
 | .int i,.int j=>if 0<j then À (.int (i%j),h) else Á
 | _,_=>Á
noncomputable def af(x y:W):M W:=λh=>match x,y with
 | .int i,.int j=>if 0<j/\j<1073741824 then À (.int (i/j),h) else Á
 | _,_=>Á
noncomputable def vv(p:Int->Int->Bool)(x y:W):M W:=λh=>match x,y with
 | .int i,.int j=>À (.bl (p i j),h)
 | _,_=>Á
noncomputable def lj(x:W):M W:=λh=>match x with
 | .int i=>À (.int (-i),h)
 | _=>Á
noncomputable def y8(b:Bool)(x y:W):M W:=λh=>match x,y with
 | .non,.non=>À (.bl b,h)
 | .tup _,.non=>À (.bl (!b),h)
 | .fls _,.non=>À (.bl (!b),h)
 | .int _,.non=>À (.bl (!b),h)
 | .str _,.non=>À (.bl (!b),h)
 | .bl _,.non=>À (.bl (!b),h)
 | .ref _,.non=>À (.bl (!b),h)
 | _,_=>Á
section
variable{X:Cx}{cl:Cl}
def Um:jI X (ä .Sub) (rM X.K cl x8):=by
 rintro ag s σ H x y v u Q I rx ry ⟨μ,h,wx,wy,w,h',R,ax,ay,e,k⟩;unfold x8 at e;split at e
 .cases e;exact Cv ag s σ H x y v u Q I rx ry ⟨_,_,ax.int_of,ay.int_of,k.pure R (.int _)⟩
 .cases e
def BM:jI X (ä .Mod) (rM X.K cl y7):=by
 rintro ag s σ H x y v u Q I rx ry ⟨μ,h,wx,wy,w,h',R,ax,ay,e,k⟩;unfold y7 at e;split at e
 .split at e
  .rename_i hj;cases e;exact CN ag s σ H x y v u Q I rx ry ⟨_,_,ax.int_of,ay.int_of,hj,k.pure R (.int _)⟩
  .cases e
 .cases e
def UA:jI X (ä .FloorDiv) (rM X.K cl af):=by
 rintro ag s σ H x y v u Q I rx ry ⟨μ,h,wx,wy,w,h',R,ax,ay,e,k⟩;unfold af at e;split at e
 .split at e
  .rename_i hj;cases e;exact UW ag s σ H x y v u Q I rx ry ⟨_,_,ax.int_of,ay.int_of,hj,k.pure R (.int _)⟩
  .cases e
 .cases e
def oZ(ho:jI X (Ó op) (rC λi j=>.bl (p i j))):jI X (Ó op) (rM X.K cl (vv p)):=by
 rintro ag s σ H x y v u Q I rx ry ⟨μ,h,wx,wy,w,h',R,ax,ay,e,k⟩;unfold vv at e;split at e
 .cases e;exact ho ag s σ H x y v u Q I rx ry ⟨_,_,ax.int_of,ay.int_of,k.pure R (.bl _)⟩
 .cases e
def CG:jI X (Ó .Lt) (rM X.K cl (vv λi j=>decide (i<j))):=oZ GI
def CA:jI X (Ó .LtE) (rM X.K cl (vv λi j=>decide (i<=j))):=oZ GH
def D4:jI X (Ó .Gt) (rM X.K cl (vv λi j=>decide (j<i))):=oZ Gz
def UB:VC X (unaryOp .USub) (rM1 X.K cl lj):=by
 rintro ag s σ H x v Q I rx ⟨μ,h,wx,w,h',R,ax,e,k⟩;unfold lj at e;split at e
 .cases e;exact D2 ag s σ H x v Q I rx ⟨_,ax.int_of,k.pure R (.int _)⟩
 .cases e
def U1:Va X .Add (rM X.K cl (λx y=>match x,y with | .int i,.int j=>λh=>À (.int (i+j),h) | _,_=>λ_=>Á)):=by
 rintro ag s σ H x y v u Q I rx ry ⟨μ,h,wx,wy,w,h',R,ax,ay,e,k⟩;try dsimp only at e
 split at e
 .cases e;exact DT ag s σ H x y v u Q I rx ry ⟨_,_,ax.int_of,ay.int_of,k.pure R (.int _)⟩
 .cases e
def nW{K:S5}{μ:List È}{H:Hp}{h h':MH}(ax:RW K μ H wx x)(ay:RW K μ H wy y)(e:y8 b wx wy h=À (w,h')):h=h'/\y=.non/\w=.bl (if b then decide (x=.non) else !decide (x=.non)):=by
 unfold y8 at e;split at e<;>first | (cases e;cases ax;cases ay;refine⟨rfl,rfl,?_⟩;cases b<;>simp) | cases e
def Fb:jI X (Ó .Is) (rM X.K cl (y8 Ã)):=by
 rintro ag s σ H x y v u Q I rx ry ⟨μ,h,wx,wy,w,h',R,ax,ay,e,k⟩;obtain⟨rfl,hy,rfl⟩:=nW ax ay e;exact Fz ag s σ H x y v u Q I rx ry ⟨hy,k.pure R (.bl _)⟩
def VW:jI X (Ó .IsNot) (rM X.K cl (y8 Â)):=by
 rintro ag s σ H x y v u Q I rx ry ⟨μ,h,wx,wy,w,h',R,ax,ay,e,k⟩;obtain⟨rfl,hy,rfl⟩:=nW ax ay e;exact BP ag s σ H x y v u Q I rx ry ⟨hy,k.pure R (.bl _)⟩
end
noncomputable def kN(ws:List W):M W:=λh=>match ws with
 | [.tup l]=>À (.int l.length,h)
 | [.str x]=>if x.length<=cap then À (.int x.length,h) else Á
 | [w]=>match getL h w with
  | some l=>À (.int l.length,h)
  | none=>Á
 | _=>Á
noncomputable def zC(x y:W):M W:=λh=>match x,y with
 | .tup l,.int i=>match atI l i with
  | some w=>À (w,h)
  | none=>Á
 | .str z,.int i=>if z.length<=cap then (match atI z.cps.toList i with
  | some c=>À (.str ⟨#[c]⟩,h)
  | none=>Á) else Á
 | x,.int i=>match getL h x with
  | some l=>match atI l i with
   | some w=>À (w,h)
   | none=>Á
  | none=>Á
 | _,_=>Á
noncomputable def cutW(l:List W)(lo hi:Option Int):List W:=(l.drop (HT.sIx l.length 0 lo)).take (HT.sIx l.length l.length hi-HT.sIx l.length 0 lo)
theorem RWs.atI{K:S5}{μ:List È}{H:Hp}{l:List W}{i:Int}(rs:RWs K μ H l vs)(e:L2.atI l i=À w):∃v,L2.atI vs i=À v/\RW K μ H w v:=by
 unfold L2.atI at e ⊢;rw[<-rs.length];cases q:xD l.length i with
 | none=>rw[q] at e;cases e
 | some j=>
  rw[q] at e;exact rs.get e
theorem RWs.cutW{K:S5}{μ:List È}{H:Hp}(rs:RWs K μ H l vs)(lo hi:Option Int):RWs K μ H (cutW l lo hi) (eJ vs lo hi):=by
 unfold ML.cutW eJ;rw[<-rs.length];exact(rs.drop _).take _
section
variable{X:Cx}{cl:Cl}{a b:Ë}{ma mb:ME}{pos:Ċ}
def VN:yB X (.builtin "len") (rMs X.K cl kN):=by
 rintro ag s σ H xs us Q I rs ⟨μ,h,ws,w,h',R,ax,e,k⟩;unfold kN at e;split at e
 .rename_i l
  cases e;cases ax with | cons r t=>cases t with | nil=>
   obtain⟨a,vs,rfl,sa,ra⟩:=r.tup_of;exact lP ag s σ H _ us Q I rs ⟨a,vs,rfl,.inr sa,by rw[<-ra.length];exact k.pure R (.int _)⟩
 .rename_i z
  split at e
  .rename_i hl
   cases e;cases ax with | cons r t=>cases t with | nil=>
    cases r.str_of;exact tK ag s σ H _ us Q I rs ⟨z,rfl,zK hl xW,k.pure R (.int _)⟩
  .cases e
 .split at e
  .rename_i l el
   cases e;cases ax with | cons r t=>cases t with | nil=>
    obtain⟨a,vs,rfl,sa,ra⟩:=xb R r el;exact lP ag s σ H _ us Q I rs ⟨a,vs,rfl,.inl sa,by rw[<-ra.length];exact k.pure R (.int _)⟩
  .cases e
 .cases e
def HQ:ZP X (rM X.K cl zC):=by
 rintro value slice ag s σ H x y v u Q I rx ry ⟨μ,h,wx,wy,w,h',R,ax,ay,e,k⟩ hs;unfold zC at e;split at e
 .rename_i l i
  split at e
  .rename_i w' e'
   cases e;obtain⟨a,vs,rfl,sa,ra⟩:=ax.tup_of;obtain⟨v',ev,rv⟩:=ra.atI e';exact ZA value slice ag s σ H _ y v u Q I rx ry ⟨a,vs,i,v',rfl,ay.int_of,sa,ev,k.pure R rv⟩ hs
  .cases e
 .rename_i z i
  split at e
  .rename_i hl
   split at e
   .rename_i c e'
    cases e;exact CY value slice ag s σ H _ y v u Q I rx ry ⟨z,i,c,ax.str_of,ay.int_of,zK hl xW,e',k.pure R (.str _)⟩ hs
   .cases e
  .cases e
 .rename_i i Oq Eu
  split at e
  .rename_i l el
   split at e
   .rename_i w' e'
    cases e;obtain⟨a,vs,rfl,sa,ra⟩:=xb R ax el;obtain⟨v',ev,rv⟩:=ra.atI e';exact BQ value slice ag s σ H _ y v u Q I rx ry ⟨a,vs,i,v',rfl,ay.int_of,sa,ev,k.pure R rv⟩ hs
   .cases e
  .cases e
 .cases e
def Gh(ha:SE X cl a ma)(hb:SE X cl b mb)(hs:ae b:=by exactλ_ _=>rfl):SE X cl (.Subscript a b pos) (zi zC ma mb):=
 PE.wk (JN HQ ha hb hs) λσ H Q q=>dP q
end
section
variable{prog:Í}{w:Ñ}{A:Ö}{E:Ä->Å->Prop}{s:Å}
open HT in
def i7{t sl:È}{items:Array Ä}{vl vu:Ä}{lo hi:Option Int}{Q:Ä->Å->Prop}(ht:IsTup s.heap t items)(hs:s.heap.IsSliceOf sl vl vu .none)(pl:Ĵ vl lo)(pu:Ĵ vu hi)
  (hw:sIx items.size 0 lo=0/\sIx items.size items.size hi=items.size) (h:Q (.ref t) s):Ê (Ì prog w) A (ľ (.ref t) (.ref sl)) Q E s:=by
 obtain⟨os,HI,AH,hds⟩:=id hs;have Nu:s.TypeIs (.ref sl) "slice":=⟨os,HI,AH⟩;unfold ľ;try with_reducible refine jd ?_
 first | refine za (zr ?_) | skip
 refine za (ŭ ht.typeIs (by decide) ?_)
 refine za (jq (name:=õ "__getitem__") ht.typeIs jE
  (jy jE ht.typeIs entry_tuple_getitem ?_ (args_tuple_getitem _ _)))
 show Ê _ _ (Ķ (.ref t) >>= _) _ _ s
 refine za (yp ht ?_);refine za (j5 Nu ?_);rw[z9 (by decide)];refine za (de hs pl pu ?_);have Nv:((((sIx items.size 0 lo:Nat):Int)==0&&(1:Int)==1&&(sIx items.size items.size hi-sIx items.size 0 lo)==items.size)=Ã):=by
  rw[hw.1,hw.2];simp
 show Ê _ _ (if (((sIx items.size 0 lo:Nat):Int)==0&&(1:Int)==1&&(sIx items.size items.size hi-sIx items.size 0 lo)==items.size)=Ã then _ else _) _ _ s
 rw[z9 Nv];unfold ĸ;refine za (za (j5 ht.typeIs (zr ?_)));rw[z9 (by decide)];first
  | exact za (qC (zr ⟨_,rfl,zr h⟩))
  | exact za (qC (za (zr (zr ⟨_,rfl,zr h⟩))))
  | exact za (za (qC (zr ⟨_,rfl,zr h⟩)))
end
noncomputable def nz(x:W)(lo hi:Option Int):M W:=λh=>match x with
 | .tup l=>À (.tup (cutW l lo hi),h)
 | .str z=>if z.length<=cap then À (.str (Txt.slice z lo hi),h) else Á
 | x=>match getL h x with
  | some l=>À (.fls (cutW l lo hi),h)
  | none=>Á
noncomputable def fe(m:Option ME):En->M (Option Int):=λρ=>match m with
 | none=>λh=>À (Á,h)
 | some m=>bnd (m ρ) λw h=>match w with
  | .int i=>À (À i,h)
  | _=>Á
noncomputable def u5(a:ME)(lo hi:Option ME):ME:=λρ=>bnd (a ρ) λx=>bnd (fe lo ρ) λl=>bnd (fe hi ρ) λu=>nz x l u
section
variable{X:Cx}{cl:Cl}{a:Ë}{ma:ME}{pos p2:Ċ}
inductive tMO(K:S5)(cl:Cl)(m:Option ME)(σ:L2.St)(H:Hp)(Q:Option Int->Hp->Prop):Prop
 | mk (μ:List È) (h:MH) (ρ:En) (o:Option Int) (h':MH) (p0:HR K cl μ H h) (p1:ER K μ H ρ σ) (p2:fe m ρ h=À (o,h')) (p3:∀gy H',Ext μ H gy H'->HR K cl gy H' h'->Q o H'):tMO K cl m σ H Q
abbrev SO(X:Cx)(cl:Cl)(e:Option Ë)(m:Option ME):Prop:=PO X e (tMO X.K cl m)
def PO.wk(h:PO X e t)(w:∀σ H Q,t' σ H Q->t σ H Q):PO X e t':=λag s σ H Q I q=>h ag s σ H Q I (w σ H Q q)
def UI:SO X cl Á Á:=PO.wk Bw λσ H Q q0=>by
 obtain⟨μ,h,ρ,o,h',R,er,e,k⟩:=q0;cases e;exact k μ H .refl R
def Bc(ha:SE X cl a ma):SO X cl (À a) (À ma):=PO.wk (X4 ha) λσ H Q q0=>by
 obtain⟨μ,h,ρ,o,h',R,er,e,k⟩:=q0;obtain⟨x,h1,e1,e⟩:=ke e;split at e
 .rename_i i
  cases e;exact⟨μ,h,ρ,_,_,R,er,e1,λen H1 v E1 R1 r=>⟨i,r.int_of,k en H1 E1 R1⟩⟩
 .cases e
def UD{ag:List (È×î)}{s:Å}{σ:L2.St}{H:Hp}{a:È}{v vl vu:Ä}{lo hi:Option Int}{sl:È}{Q:VK}{xs:List V}(I:Inv X ag σ H s)(rx:RelV (.ref a) v)(hs:s.heap.IsSliceOf sl vl vu .none)(pl:Ĵ vl lo)(pu:Ĵ vu hi)
  (hx:SqT X.K H a xs) (q1:eJ xs lo hi=xs->Q (.ref a) H) (q2:∀p,H p=Á->Q (.ref p) (upd H p (.tup (eJ xs lo hi)))) :
  ∃T id,ĝ (.type T) "__getitem__" = pure (À (.builtin id))/\s.TypeIs v T/\Ê (Ì X.prog X.w) X.A (ľ v (.ref sl)) (EP X ag σ Q) X.xe s:=by
 by_cases hw:HT.sIx xs.length 0 lo=0/\HT.sIx xs.length xs.length hi=xs.length
 .cases rx
  obtain⟨cb,r,ht,hz⟩:=I.tuple hx;have hX:cb.toArray.size=xs.length:=by rw[zJ];exact r.length.symm
  refine⟨"tuple",_,jE.lookup,ht.typeIs,?_⟩;refine i7 ht hs pl pu (by rw[hX];exact hw) ⟨.ref a,H,I,rfl,q1 ?_⟩;unfold eJ;rw[hw.1,hw.2];simp
 .exact C4 ag s σ H _ v vl vu lo hi sl Q I rx hs pl pu ⟨a,xs,rfl,hx,hw,q2⟩
def Hi{lo hi:Option Ë}(ha:SE X cl a ma)(hl:SO X cl lo ml)(hh:SO X cl hi mh):SE X cl (.Subscript a (.Slice lo hi Á p2) pos) (u5 ma ml mh):=by
 have hr:Xf X (λx lo hi H Q=>∃μ h wx w h',HR X.K cl μ H h/\RW X.K μ H wx x/\nz wx lo hi h=À (w,h')/\KQ X.K cl μ H h' w Q):=by
  rintro ag s σ H x v vl vu lo hi sl Q I rx hs pl pu ⟨μ,h,wx,w,h',R,ax,e,k⟩;unfold nz at e;split at e
  .rename_i l
   cases e;obtain⟨a,vs,rfl,sa,ra⟩:=ax.tup_of;refine UD I rx hs pl pu sa (λz=>k.pure R (.tup sa ?_)) λp hp=>k.tup R (ra.cutW lo hi) hp
   have q:=ra.cutW lo hi;rw[z] at q;exact q
  .rename_i z
   split at e
   .rename_i hl
    cases e;cases ax.str_of;obtain⟨tk,rfl⟩:=rx;refine⟨"str",_,F.slot_str_getitem.lookup,typeIs_str _ _ _,?_⟩;obtain⟨l,el⟩:∃l:Option (Int×Tok),vl=partValue l/\lo=l.map (·.1):=by
     cases pl with
     | none=>exact⟨Á,rfl,rfl⟩
     | int i t=>exact⟨À (i,t),rfl,rfl⟩
    obtain⟨u,eu⟩:∃l:Option (Int×Tok),vu=partValue l/\hi=l.map (·.1):=by
     cases pu with
     | none=>exact⟨Á,rfl,rfl⟩
     | int i t=>exact⟨À (i,t),rfl,rfl⟩
    obtain⟨rfl,rfl⟩:=el;obtain⟨rfl,rfl⟩:=eu;exact wpAny_getItem_str_slice (l:=l) (u:=u) (st:=Á) hs rfl (post_val_or_str ⟨zK (Txt.slice_le z _ _) (zK hl xW),λt' k'=>⟨.str _,H,I.tok k',⟨t',rfl⟩,k.pure R (.str _)⟩⟩)
   .cases e
  .split at e
   .rename_i l el
    cases e;obtain⟨a,vs,rfl,sa,ra⟩:=xb R ax el;exact Bu ag s σ H _ v vl vu lo hi sl Q I rx hs pl pu ⟨a,vs,rfl,sa,λp hp=>k.fls R (ra.cutW lo hi) hp⟩
   .cases e
 refine PE.wk (WJ hr ha hl hh) ?_;rintro σ H Q ⟨μ,h,ρ,w,h',R,er,e,k⟩;obtain⟨x,h1,e1,e⟩:=ke e;obtain⟨l,h2,e2,e⟩:=ke e;obtain⟨u,h3,e3,e⟩:=ke e
 exact⟨μ,h,ρ,x,h1,R,er,e1,λen H1 vx E1 R1 rx=>⟨en,h1,ρ,l,h2,R1,er.ext R E1,e2,λhY H2 E2 R2=>⟨hY,h2,ρ,u,h3,R2,(er.ext R E1).ext R1 E2,e3,λAy H3 E3 R3=>
  ⟨Ay,h3,x,w,h',R3,(rx.ext R1 E2).ext R2 E3,e,k.ext (E1.trans (E2.trans E3))⟩⟩⟩⟩
end
def mU:fillsNumberSlot (.type "tuple") "mul" = pure Â:=
 PySem.fillsNumberSlot_seq (id:="tuple.__mul__") (r:=À (.builtin "tuple.__rmul__")) vJ.lookup ⋯ F.slot_tuple_rmul.lookup ⋯
theorem Zo:seqRepeat? (.type "tuple")=pure (À (.builtin "tuple.__mul__")):=by
 unfold seqRepeat?;rw[PySem.seqSlot_of (T:="tuple") (name:="__mul__") (id:="tuple.__mul__") vJ.lookup ⋯,PySem.seqSlot_of (T:="tuple") (name:="__rmul__") (id:="tuple.__rmul__") F.slot_tuple_rmul.lookup ⋯];rfl
def fw(a:Int)(t:Tok)(l:È)(items:Array Ä)(n:Nat)(dd:Option È)(sl:Array (Option Ä)) :
  Meets (û.«int.__rmul__» ⟨[.int a t,.ref l],[]⟩) (λ_ R s=>s.heap.get? l=À { cls:=.type "tuple",dict:=dd,data:=.seq items n,slots:=sl }/\R (.ok (.ret Value.notImplemented)) s):=
 .of_wp λprog w A R s h=>by obtain⟨hp,g,d,tk,os⟩:=s;obtain⟨hl,h⟩:=h;wp_walk;exact⟨_,rfl,h⟩
def J5(l:È)(items:Array Ä)(n:Nat)(dd:Option È)(sl:Array (Option Ä))(x:Int)(u:Tok)(hf:¬((decide (x < -2 ^ 63)||decide (x>=2 ^ 63))=Ã))(hc:(items.isEmpty||x==1)=Ã) :
  Meets (û.«tuple.__mul__» ⟨[.ref l,.int x u],[]⟩) (λ_ R s=>s.heap.get? l=À { cls:=.type "tuple",dict:=dd,data:=.seq items n,slots:=sl }/\R (.ok (.ret (.ref l))) s):=
 .of_wp λprog w A R s h=>by
  obtain⟨hp,g,d,tk,os⟩:=s;obtain⟨hl,h⟩:=h;have f1:=vK;have ht:IsTup ({ heap:=hp,gens:=g,drawn:=d,toks:=tk,os:=os }:Å).heap l items:=⟨_,hl,rfl,n,rfl⟩;wp_walk using ÿ hl
  rw[kI hf];try dsimp only
  refine za (yp ht ?_);try dsimp only
  rw[z9 hc];unfold ĸ;refine za (za (j5 ht.typeIs (zr ?_)));rw[z9 (by decide)];exact za (qC (zr ⟨_,rfl,h⟩))
def J3 (l : È) (items : Array Ä) (n : Nat) (dd : Option È) (sl : Array (Option Ä)) (x : Int) (u : Tok) (hf : ¬ ((decide (x < -2 ^ 63) || decide (x >= 2 ^ 63)) = Ã)) (hc : ¬ (items.isEmpty || x == 1) = Ã) (h0 : ¬ (decide (x <= 0) || items.isEmpty) = Ã)
   (h1 : ¬ (items.size * x > (2 ^ 63 - 1) / 8)) (h2 : ¬ Ĺ (items.size * x) = Ã) (hz : sizeOk (Data.seq (ķ (λx1 x2 => x1 ++ x2) #[] (Æ x.toNat items)))) :
    Meets (û.«tuple.__mul__» ⟨[.ref l, .int x u], []⟩) (λ_ R s => s.heap.get? l = À { cls := .type "tuple", dict := dd, data := .seq items n, slots := sl } /\
      R (.ok (.ret (.ref s.heap.objs.size))) { s with heap := s.heap.push { cls := š "tuple", data := Data.seq (ķ (λx1 x2 => x1 ++ x2) #[] (Æ x.toNat items)) } }) :=
  .of_wp λprog w A R s h => by
    obtain ⟨hp, g, d, tk, os⟩ := s;obtain ⟨hl, h⟩ := h;have f1 := vK;have ht : IsTup ({ heap := hp, gens := g, drawn := d, toks := tk, os := os } : Å).heap l items := ⟨_, hl, rfl, n, rfl⟩;wp_walk using ÿ hl
    rw [kI hf];try dsimp only
    refine za (yp ht ?_);try dsimp only
    rw [kI hc, kI h0, kI h1, kI h2];refine za (m := å _) (jo (zr ⟨_, rfl, h⟩) hz)
def JM(l:È)(items:Array Ä)(n:Nat)(dd:Option È)(sl:Array (Option Ä))(x:Int)(u:Tok)(hf:¬((decide (x < -2 ^ 63)||decide (x>=2 ^ 63))=Ã))(hc:¬(items.isEmpty||x==1)=Ã)(h0:(decide (x<=0)||items.isEmpty)=Ã) :
  Meets (û.«tuple.__mul__» ⟨[.ref l,.int x u],[]⟩) (λ_ R s=>s.heap.get? l=À { cls:=.type "tuple",dict:=dd,data:=.seq items n,slots:=sl } /\
   R (.ok (.ret (.ref s.heap.objs.size))) { s with heap:=s.heap.push { cls:=š "tuple",data:=Data.seq #[] } }):=
 .of_wp λprog w A R s h=>by
  obtain⟨hp,g,d,tk,os⟩:=s;obtain⟨hl,h⟩:=h;have f1:=vK;have ht:IsTup ({ heap:=hp,gens:=g,drawn:=d,toks:=tk,os:=os }:Å).heap l items:=⟨_,hl,rfl,n,rfl⟩;wp_walk using ÿ hl
  rw[kI hf];try dsimp only
  refine za (yp ht ?_);try dsimp only
  rw[kI hc,z9 h0];refine za (m:=å _) (jo (zr ⟨_,rfl,h⟩) (by show 0<=Î;decide))
section
variable{X:Cx}{cl:Cl}
def BG{H:Hp}{k:Int}{xs:List V}(I:Inv X ag σ H s)(rx:RelV (.ref a) v)(ry:RelV (.int k) u)(hx:SqT X.K H a xs)(h1:0<=k)(h2:k<=1000)(hz:xs.length<=1000)
  (q1:(Æ k.toNat xs).flatten=xs->Q (.ref a) H) (q2:∀p,H p=Á->Q (.ref p) (upd H p (.tup (Æ k.toNat xs).flatten))):Ê (Ì X.prog X.w) X.A (ä .Mult v u) (EP X ag σ Q) X.xe s:=by
 cases rx;obtain⟨t,rfl⟩:=ry;obtain⟨cb,r,ht,_⟩:=I.tuple hx;have hX:=r.length;obtain⟨⟨cls,dd,data,sl⟩,e,hc,n,hd⟩:=id ht;simp only at hc hd;subst hc hd;have Pr:(Î:Nat)=16777216:=vp;have Am:ķ (λx1 x2=>x1++x2) #[] (Æ k.toNat cb.toArray)=(Æ k.toNat cb).flatten.toArray:=by
  have:=foldl_rep cb k.toNat [];rw[kJ] at this;exact this
 have MR:k.toNat*cb.length<=1000*1000:=Nat.mul_le_mul ∅ ∅;have hf:¬((decide (k < -2 ^ 63)||decide (k>=2 ^ 63))=Ã):=by
  erw[Bool.or_eq_true,vW];omega
 have road:∀{R:Ä->Å->Prop},Ê (Ì X.prog X.w) X.A (Ŋ (.builtin "tuple.__mul__") [.ref a,.int k t]) R X.xe s->Ê (Ì X.prog X.w) X.A (ä .Mult (.ref a) (.int k t)) R X.xe s:=λEj=>
  xJ (T:="tuple") (U:="int") (by decide) ⟨_,e,rfl⟩ (λs'=>yI s' k t) mU F.fills_int_mul yg Zo F.slot_int_index.lookup
   (vq yg (yI s k t) F.entry_int_rmul (F.args_int_rmul_2 _ _) (fw k t a cb.toArray n dd sl) ⟨e,rfl,⟨_,e,rfl⟩,Ej⟩)
 refine road ?_;by_cases c1:(cb.toArray.isEmpty||k==1)=Ã
 .refine vq vJ ⟨_,e,rfl⟩ yM (yG _ _) (J5 a cb.toArray n dd sl k t hf c1) ⟨e,.ref a,H,I,rfl,q1 ?_⟩
  rcases xO.mp c1 with c | c
  .have:cb=[]:=by simpa using c
   subst this;cases r;simp
  .have:k=1:=by simpa using c
   subst this;simp
 .by_cases c2:(decide (k<=0)||cb.toArray.isEmpty)=Ã
  .refine vq vJ ⟨_,e,rfl⟩ yM (yG _ _) (JM a cb.toArray n dd sl k t hf c1 c2) ⟨e,?_⟩
   have hk:k=0:=by
    have ne:cb.toArray.isEmpty=Â:=by
     cases z:cb.toArray.isEmpty with
     | false=>rfl
     | true=>exact absurd (by rw[z];rfl) c1
    rw[ne,Bool.or_false] at c2;have:=qe c2;omega
   subst hk;exact⟨.ref _,_,I.laid (t':=s.toks) (o:=.tup (Æ (0:Int).toNat xs).flatten) (λb ob q=>zf _ q) (zj _) ⟨by simp,[],by simpa using Paired.nil,IsTup.new _ _,.new _ _⟩,rfl,q2 _ I.fresh⟩
  .refine vq vJ ⟨_,e,rfl⟩ yM (yG _ _) (J3 a cb.toArray n dd sl k t hf c1 c2 ?_ ?_ ?_) ⟨e,?_⟩
   .rw[zJ]
    have:(cb.length:Int)*k<=1000*1000:=by
     have:(cb.length:Int)*k=((k.toNat*cb.length:Nat):Int):=by
      rw[xm];push_cast;rw[xN h1]
     omega
    omega
   .rw[zJ]
    unfold Ĺ;have:(cb.length:Int)*k<=1000*1000:=by
     have:(cb.length:Int)*k=((k.toNat*cb.length:Nat):Int):=by
      rw[xm];push_cast;rw[xN h1]
     omega
    erw[vW];omega
   .rw[Am]
    show((Æ k.toNat cb).flatten.toArray).size<=Î
    rw[zJ,len_rep];omega
   .rw[Am]
    exact⟨.ref _,_,I.laid (t':=s.toks) (o:=.tup (Æ k.toNat xs).flatten) (λb ob q=>zf _ q) (zj _) ⟨by rw[len_rep,hX];omega,_,r.rep k.toNat,IsTup.new _ _,.new _ _⟩,rfl,q2 _ I.fresh⟩
def BK{H:Hp}{k:Int}{xs:List V}(I:Inv X ag σ H s)(rx:RelV (.ref a) v)(ry:RelV (.int k) u)(hx:SqL X.K H a xs)(h1:0<=k)(h2:k<=1000000)(hz:xs.length<=10)
  (q2:∀p,H p=Á->Q (.ref p) (upd H p (.lst (Æ k.toNat xs).flatten))):Ê (Ì X.prog X.w) X.A (ä .Mult v u) (EP X ag σ Q) X.xe s:=by
 cases rx;obtain⟨t,rfl⟩:=ry;obtain⟨cb,r,⟨o,n,e,hc,hd,Os⟩,_⟩:=I.list hx;obtain⟨cls,dd,data,sl⟩:=o;simp only at hc hd Os;subst hc Os;have hX:=r.length;have Pr:(Î:Nat)=16777216:=vp;have MR:cb.length*k.toNat<=10*1000000:=Nat.mul_le_mul ∅ ∅;have KB:¬(!ĺ k)=Ã:=by simp[ĺ];omega
 have Ek:¬cb.toArray.size*k.toNat>(2 ^ 63-1)/8:=by rw[zJ];omega
 have El:¬æ (cb.toArray.size*k.toNat)=Ã:=by rw[zJ];simp[æ,Î];omega
 have Am:ķ (λx1 x2=>x1++x2) #[] (Æ (if cb.toArray.isEmpty=Ã then 0 else k.toNat) cb.toArray)=(Æ k.toNat cb).flatten.toArray:=by
  have f0:∀m:Nat,ķ (λx1 x2=>x1++x2) #[] (Æ m cb.toArray)=(Æ m cb).flatten.toArray:=λm=>by
   have z:=foldl_rep cb m [];rw[kJ] at z;exact z
  rw[f0];cases cb with
  | nil=>simp
  | cons c r'=>rw[kI (by simp)]
 refine xJ (T:="list") (U:="int") (by decide) ⟨_,e,rfl⟩ (λs'=>yI s' k t) noFill_list_mul F.fills_int_mul yg repeat_list F.slot_int_index.lookup (vq yg (yI s k t) F.entry_int_rmul (F.args_int_rmul_2 _ _) (lm_int_rmul_list_any k t a cb.toArray n dd sl) ⟨e,rfl,⟨_,e,rfl⟩,vq F.slot_list_mul ⟨_,e,rfl⟩ F.entry_list_mul (F.args_list_mul_2 _ _) (lm_list_mul_any a cb.toArray n dd sl k t KB Ek El) ⟨e,?_⟩⟩);rw[Am];exact⟨.ref _,_,I.lnew (t':=s.toks) (r.rep k.toNat) (by rw[len_rep,hX,xm];omega),rfl,q2 _ I.fresh⟩
def Bh:jI X (ä .Mult) (rM X.K cl kH):=by
 rintro ag s σ H x y v u Q I rx ry ⟨μ,h,wx,wy,w,h',R,ax,ay,e,k⟩;unfold kH at e;split at e
 .rename_i i j
  split at e
  .rename_i hj
   cases e;refine Ft ag s σ H x y v u Q I rx ry ⟨_,_,ax.int_of,ay.int_of,?_,k.pure R (.int _)⟩;unfold small at hj;rw[Bool.or_eq_true,vW,vW] at hj;exact hj
  .cases e
 .rename_i l j
  split at e
  .rename_i hj
   cases e;obtain⟨a,vs,rfl,sa,ra⟩:=ax.tup_of;cases ay.int_of;refine BG I rx ry sa hj.1 hj.2.1 (by rw[<-ra.length];exact hj.2.2) (λz=>k.pure R (.tup sa ?_)) λp hp=>k.tup R (ra.rep _) hp
   have q:=ra.rep j.toNat;rw[z] at q;exact q
  .cases e
 .rename_i l j
  split at e
  .rename_i hj
   cases e;obtain⟨a,vs,rfl,sa,ra⟩:=xb R ax (show getL _ (.fls l)=À l from rfl);cases ay.int_of;exact BK I rx ry sa hj.1 hj.2.1 (by rw[<-ra.length];exact hj.2.2) λp hp=>k.fls R (ra.rep _) hp
  .cases e
 .cases e
end
noncomputable def va{α β:Type}(f:α->Option β):List α->Option (List β)
 | []=>À []
 | x::r=>match f x,va f r with
  | some y,À ys=>À (y::ys)
  | _,_=>Á
noncomputable def kT:Nat->MH->W->Option Ų
 | 0,_,_=>Á
 | _+1,_,.non=>À .none
 | _+1,_,.bl b=>À (.bool b)
 | _+1,_,.int i=>À (.int i)
 | _+1,_,.str x=>if ī x then À (.str x) else Á
 | n+1,h,.tup l=>(va (kT n h) l).map .tuple
 | n+1,h,.fls l=>(va (kT n h) l).map .list
 | n+1,h,.ref k=>match h[k]? with
  | some (.lst l)=>(va (kT n h) l).map .list
  | _=>Á
 | _+1,_,.fdc _=>Á
 | _+1,_,.fn _=>Á
section
variable{X:Cx}{cl:Cl}{ag:List (È×î)}{σ:L2.St}{μ:List È}{H:Hp}{s:Å}{h:MH}
def uB(I:Inv X ag σ H s)(R:HR X.K cl μ H h):∀(n:Nat) {w:W} {x:V} {v:Ä} {d:Ų},RW X.K μ H w x->RelV x v->kT n h w=À d->(∃as,Reads s.heap v d as)/\d.canLay0=Ã/\d.depth<=n:=by
 intro n;induction n with
 | zero=>intro w x v d _ _ e;cases e
 | succ n ih=>
  have all:∀{l:List W} {vs:List V} {us:List Ä} {ds:List Ų},RWs X.K μ H l vs->Vals vs us->va (kT n h) l=À ds->(∃as,ReadsAll s.heap us ds as)/\ð ds=Ã/\đ ds<=n:=by
   intro l;induction l with
   | nil=>intro vs us ds r t e;cases r;cases t;cases e;exact⟨⟨_,.nil⟩,by unfold ð;rfl,by unfold đ;omega⟩
   | cons w l ihl=>
    intro vs us ds r t e;cases r with | cons r rs=>cases t with | cons t ts=>
    unfold va at e;split at e
    .rename_i y ys e1 e2
     cases e;obtain⟨⟨as,h1⟩,h2,h3⟩:=ih r t e1;obtain⟨⟨bs,g1⟩,g2,g3⟩:=ihl rs ts e2;refine⟨⟨_,.cons h1 g1⟩,by unfold ð;rw[h2,g2];rfl,?_⟩;unfold đ;omega
    .cases e
  have lists:∀{l:List W} {a:È} {vs:List V} {d:Ų},SqL X.K H a vs->RWs X.K μ H l vs->(va (kT n h) l).map PyData.list=À d->(∃as,Reads s.heap (.ref a) d as)/\d.canLay0=Ã/\d.depth<=n+1:=by
   intro l a vs d sq rs e;cases e1:va (kT n h) l with
   | none=>rw[e1] at e;cases e
   | some ds=>
    rw[e1] at e;cases e;obtain⟨cb,rv,⟨o,m,h1,h2,h3,h4⟩,_⟩:=I.list sq;obtain⟨⟨as,g1⟩,g2,g3⟩:=all rs rv e1;exact⟨⟨_,.list h1 h2 h4 (by simpa using g1)⟩,by unfold Ą;exact g2,by unfold Ė;omega⟩
  intro w x v d r t e;cases r with
  | non=>cases e;cases t;exact⟨⟨_,.none⟩,by unfold Ą;rfl,by unfold Ė;omega⟩
  | bl b=>cases e;cases t;exact⟨⟨_,.bool b⟩,by unfold Ą;rfl,by unfold Ė;omega⟩
  | int i=>cases e;obtain⟨tk,rfl⟩:=t;exact⟨⟨_,.int i tk⟩,by unfold Ą;rfl,by unfold Ė;omega⟩
  | str z=>
   erw[kT] at e;split at e
   .rename_i ok
    cases e;obtain⟨tk,rfl⟩:=t;exact⟨⟨_,.str z tk⟩,by unfold Ą;exact ok,by unfold Ė;omega⟩
   .cases e
  | @tup a vs l sq rs=>
   erw[kT] at e;cases t;cases e1:va (kT n h) l with
   | none=>rw[e1] at e;cases e
   | some ds=>
    rw[e1] at e;cases e;obtain⟨cb,rv,⟨o,h1,h2,m,h4⟩,_⟩:=I.tuple sq;obtain⟨⟨as,g1⟩,g2,g3⟩:=all rs rv e1;exact⟨⟨_,.tuple h1 h2 h4 (by simpa using g1)⟩,by unfold Ą;exact g2,by unfold Ė;omega⟩
  | @fls a vs l sq rs=>cases t;erw[kT] at e;exact lists sq.sq rs e
  | fdc=>cases e
  | fn=>cases e
  | @ref k a hk=>
   cases t;erw[kT] at e;split at e
   .rename_i l ho
    obtain⟨vs,hv,rs⟩:=R.ob k a _ hk ho;exact lists (SqL.of hv) rs e
   .cases e
end
section
variable{X:Cx}{cl:Cl}{ag:List (È×î)}{σ:L2.St}{μ:List È}{H:Hp}{s:Å}{h:MH}
def ZX(I:Inv X ag σ H s)(R:HR X.K cl μ H h)(n:Nat):∀{l:List W} {vs:List V} {us:List Ä} {ds:List Ų},RWs X.K μ H l vs->Vals vs us->va (kT n h) l=À ds->(∃as,ReadsAll s.heap us ds as)/\ð ds=Ã:=by
 intro l;induction l with
 | nil=>intro vs us ds r t e;cases r;cases t;cases e;exact⟨⟨_,.nil⟩,by unfold ð;rfl⟩
 | cons w l ihl=>
  intro vs us ds r t e;cases r with | cons r rs=>cases t with | cons t ts=>
  unfold va at e;split at e
  .rename_i y ys e1 e2
   cases e;obtain⟨⟨as,h1⟩,h2,h3⟩:=uB I R n r t e1;obtain⟨⟨bs,g1⟩,g2⟩:=ihl rs ts e2;exact⟨⟨_,.cons h1 g1⟩,by unfold ð;rw[h2,g2];rfl⟩
  .cases e
end
noncomputable def deep:Nat:=60
noncomputable def pQ(x y:W):Option Bool:=match x,y with
 | .str a,.str b=>À (a==b)
 | .int a,.int b=>À (a==b)
 | .bl a,.bl b=>À (a==b)
 | _,_=>Á
noncomputable def eqB(h:MH)(x y:W):Option Bool:=match pQ x y with
 | some b=>À b
 | none=>match kT deep h x,kT deep h y with
  | some d,À e=>À (ó d e)
  | _,_=>Á
noncomputable def jv(neg:Bool)(x y:W):M W:=λh=>match eqB h x y with
 | some b=>À (.bl (if neg then !b else b),h)
 | none=>Á
noncomputable def xB(h:MH):W->Option (List W)
 | .tup l=>À l
 | w=>getL h w
noncomputable def GO(j i:Ç):Bool:=!(ē j i 0 j.length 1).isEmpty
noncomputable def inB(h:MH)(x y:W):Option Bool:=match x,y with
 | .str i,.str j=>À (GO j i)
 | x,y=>match xB h y with
  | some l=>match kT deep h x,va (kT deep h) l with
   | some d,À ds=>À (ds.any λe=>ó e d)
   | _,_=>Á
  | none=>Á
noncomputable def uc(neg:Bool)(x y:W):M W:=λh=>match inB h x y with
 | some b=>À (.bl (if neg then !b else b),h)
 | none=>Á
section
variable{X:Cx}{cl:Cl}
def QU(hu:X.A.units+64<ā){H:Hp}(I:Inv X ag σ H s)(rx:RelV x v)(ry:RelV y u)
  (R:HR X.K cl μ H h) (ax:RW X.K μ H wx x) (ay:RW X.K μ H wy y) (e:eqB h wx wy=À b) :
  (Q (.bl b) H->Ê (Ì X.prog X.w) X.A (Ó .Eq v u) (EP X ag σ Q) X.xe s)/\(Q (.bl (!b)) H->Ê (Ì X.prog X.w) X.A (Ó .NotEq v u) (EP X ag σ Q) X.xe s):=by
 unfold eqB at e;split at e
 .rename_i b' e'
  cases e;unfold pQ at e';split at e'
  .rename_i i j
   cases e';cases ax.str_of;cases ay.str_of;exact⟨λq=>Je ag s σ H _ _ v u Q I rx ry ⟨rfl,by rw[l3];exact q⟩,λq=>JL ag s σ H _ _ v u Q I rx ry ⟨rfl,by rw[l3];exact q⟩⟩
  .rename_i i j
   cases e';cases ax.int_of;cases ay.int_of;exact⟨λq=>Je ag s σ H _ _ v u Q I rx ry ⟨rfl,by rw[lS];exact q⟩,λq=>JL ag s σ H _ _ v u Q I rx ry ⟨rfl,by rw[lS];exact q⟩⟩
  .rename_i i j
   cases e';cases ax.bl_of;cases ay.bl_of;exact⟨λq=>Je ag s σ H _ _ v u Q I rx ry ⟨rfl,by rw[nv];exact q⟩,λq=>JL ag s σ H _ _ v u Q I rx ry ⟨rfl,by rw[nv];exact q⟩⟩
  .cases e'
 .split at e
  .rename_i d d' e1 e2
   cases e;obtain⟨⟨as,r1⟩,c1,d1⟩:=uB I R deep ax rx e1;obtain⟨⟨bs,r2⟩,c2,d2⟩:=uB I R deep ay ry e2;have hr:X.A.units+min d.depth d'.depth<ā:=by
    have:min d.depth d'.depth<=d.depth:=Nat.min_le_left _ _;unfold deep at d1;omega
   exact⟨λq=>SeqAt.compareEq_reads r1 r2 c1 c2 hr ⟨.bl _,H,I,rfl,q⟩,λq=>SeqAt.compareNe_reads r1 r2 c1 c2 hr ⟨.bl _,H,I,rfl,q⟩⟩
  .cases e
def De(hu:X.A.units+64<ā):jI X (Ó .Eq) (rM X.K cl (jv Â)):=by
 rintro ag s σ H x y v u Q I rx ry ⟨μ,h,wx,wy,w,h',R,ax,ay,e,k⟩;unfold jv at e;split at e
 .rename_i b eb
  cases e;exact(QU hu I rx ry R ax ay eb).1 (k.pure R (.bl _))
 .cases e
def Fw(hu:X.A.units+64<ā):jI X (Ó .NotEq) (rM X.K cl (jv Ã)):=by
 rintro ag s σ H x y v u Q I rx ry ⟨μ,h,wx,wy,w,h',R,ax,ay,e,k⟩;unfold jv at e;split at e
 .rename_i b eb
  cases e;exact(QU hu I rx ry R ax ay eb).2 (k.pure R (.bl _))
 .cases e
def dn{K:S5}{μ:List È}{H:Hp}{h:MH}(R:HR K cl μ H h)(r:RW K μ H w v)(e:xB h w=À l):∃a vs,v=.ref a/\(SqL K H a vs\/SqT K H a vs)/\RWs K μ H l vs:=by
 unfold xB at e;split at e
 .cases e
  obtain⟨a,vs,rfl,sa,ra⟩:=r.tup_of;exact⟨a,vs,rfl,.inr sa,ra⟩
 .obtain⟨a,vs,rfl,sa,ra⟩:=xb R r e
  exact⟨a,vs,rfl,.inl sa,ra⟩
def VU(hu:X.A.units+64<ā){ag:List (È×î)}{s:Å}{σ:L2.St}{H:Hp}{x y:V}{v u:Ä}(I:Inv X ag σ H s)(rx:RelV x v)(ry:RelV y u)
  (R:HR X.K cl μ H h) (ax:RW X.K μ H wx x) (ay:RW X.K μ H wy y) (e:inB h wx wy=À b) :
  (Q (.bl b) H->Ê (Ì X.prog X.w) X.A (Ó .In v u) (EP X ag σ Q) X.xe s)/\(Q (.bl (!b)) H->Ê (Ì X.prog X.w) X.A (Ó .NotIn v u) (EP X ag σ Q) X.xe s):=by
 unfold inB at e;split at e
 .rename_i i j
  cases e;exact⟨λq=>Ve ag s σ H x y v u Q I rx ry ⟨i,j,ax.str_of,ay.str_of,q⟩,λq=>tQ ag s σ H x y v u Q I rx ry ⟨i,j,ax.str_of,ay.str_of,q⟩⟩
 .split at e
  .rename_i l el
   split at e
   .rename_i d ds e1 e2
    cases e;obtain⟨a,vs,rfl,sa,ra⟩:=dn R ay el;cases ry;obtain⟨⟨as,r1⟩,c1,d1⟩:=uB I R deep ax rx e1;have big:kT (deep+1) h (.tup l)=À (.tuple ds):=by erw[kT];rw[e2];rfl
    have Pt:kT (deep+1) h (.fls l)=À (.list ds):=by erw[kT];rw[e2];rfl
    have hr:X.A.units+1+min (đ ds) d.depth<ā:=by
     have:min (đ ds) d.depth<=d.depth:=Nat.min_le_right _ _;unfold deep at d1;omega
    rcases sa with sa | sa
    .obtain⟨cb,rv,⟨o,m,h1,h2,h3,h4⟩,_⟩:=I.list sa
     obtain⟨⟨Sz,g1⟩,c2⟩:=ZX I R deep ra rv e2;have r2:Reads s.heap (.ref a) (.list ds) _:=.list h1 h2 h4 (by simpa using g1);exact⟨λq=>SeqAt.in_list_reads r2 r1 c2 c1 hr ⟨.bl _,H,I,rfl,q⟩,λq=>SeqAt.notIn_list_reads r2 r1 c2 c1 hr ⟨.bl _,H,I,rfl,q⟩⟩
    .obtain⟨⟨bs,r2⟩,c2,_⟩:=uB I R (deep+1) (.tup sa ra) rfl big
     have KM:ð ds=Ã:=by unfold Ą at c2;exact c2
     exact⟨λq=>SeqAt.in_tuple_reads r2 r1 KM c1 hr ⟨.bl _,H,I,rfl,q⟩,λq=>SeqAt.notIn_tuple_reads r2 r1 KM c1 hr ⟨.bl _,H,I,rfl,q⟩⟩
   .cases e
  .cases e
def Dl(hu:X.A.units+64<ā):jI X (Ó .In) (rM X.K cl (uc Â)):=by
 rintro ag s σ H x y v u Q I rx ry ⟨μ,h,wx,wy,w,h',R,ax,ay,e,k⟩;unfold uc at e;split at e
 .rename_i b eb
  cases e;exact(VU hu I rx ry R ax ay eb).1 (k.pure R (.bl _))
 .cases e
def VT(hu:X.A.units+64<ā):jI X (Ó .NotIn) (rM X.K cl (uc Ã)):=by
 rintro ag s σ H x y v u Q I rx ry ⟨μ,h,wx,wy,w,h',R,ax,ay,e,k⟩;unfold uc at e;split at e
 .rename_i b eb
  cases e;exact(VU hu I rx ry R ax ay eb).2 (k.pure R (.bl _))
 .cases e
end
inductive Ty where
 | int | str | bool | tuple | list | dict
 deriving DecidableEq
noncomputable def Ty.name:Ty->String
 | .int=>"int" | .str=>"str" | .bool=>"bool" | .tuple=>"tuple" | .list=>"list" | .dict=>"dict"
noncomputable def mJ(h:MH):W->Option Ty
 | .bl _=>À .bool
 | .int _=>À .int
 | .str _=>À .str
 | .tup _=>À .tuple
 | .fls _=>À .list
 | .ref n=>match h[n]? with
  | some (.lst _)=>À .list
  | some (.dic _)=>À .dict
  | _=>Á
 | .fdc _=>À .dict
 | .fn _=>Á
 | .non=>Á
noncomputable def sT(T:Ty)(x:W)(h:MH):Option Bool:=match x with
 | .non=>À Â
 | x=>match mJ h x with
  | some t=>À (decide (t=T)||(decide (t=.bool)&&decide (T=.int)))
  | none=>Á
noncomputable def isW(T:Ty)(x:W):M W:=λh=>match sT T x h with
 | some b=>À (.bl b,h)
 | none=>Á
def VR(K:S5):∀(t T:Ty),ĳ K (.type t.name) (.type T.name)=À (decide (t=T)||(decide (t=.bool)&&decide (T=.int))):=by
 intro t T;cases t<;>cases T<;>kernel_rfl
def Yu(K:S5):∀(T:Ty),ĳ K (.type "NoneType") (.type T.name)=À Â:=by
 intro T;cases T<;>kernel_rfl
section
variable{X:Cx}{cl:Cl}{a:Ë}{ma:ME}{pos p p2:Ċ}
def Qr(T:Ty):yB X (.builtin "isinstance") (λxs H Q=>∃x,xs=[x,.ty T.name]/\rM1 X.K cl (isW T) x H Q):=by
 rintro ag s σ H xs us Q I rs ⟨x,rfl,μ,h,wx,w,h',R,ax,e,k⟩;obtain⟨u,u2,rfl,ru,EE⟩:=vals2 rs;obtain rfl:u2=.type T.name:=EE;unfold isW at e;split at e
 .rename_i b eb
  cases e;have q:Q (.bl b) H:=k.pure R (.bl _);have fin:∀tk,EP X ag σ Q (.bool b) { s with toks:=tk }:=λtk=>⟨.bl b,H,I.tok tk,rfl,q⟩
  have go:∀{t:Ty},mJ h wx=À t->ĳ X.K (.type t.name) (.type T.name)=À b:=λ{t} e1=>by
   rw[VR];unfold sT at eb;split at eb
   .cases e1
   .rw[e1] at eb;exact eb
  cases ax with
  | non=>
   cases eb;cases ru;exact ji ū I.kIn ê (Yu X.K T) (λz=>nomatch z) fin
  | bl y=>cases ru;exact ji Ŭ I.kIn ê (go (t:=.bool) rfl) (λz=>nomatch z) fin
  | int i=>obtain⟨t,rfl⟩:=ru;exact ji PySem.W.kitx_int I.kIn ê (go (t:=.int) rfl) (λz=>nomatch z) fin
  | str y=>obtain⟨t,rfl⟩:=ru;exact ji PySem.W.kitx_str I.kIn ê (go (t:=.str) rfl) (λz=>nomatch z) fin
  | @tup a vs l sa ra=>
   cases ru;obtain⟨cb,_,⟨o,h1,h2,_⟩,_⟩:=I.tuple sa;exact ji xQ I.kIn ⟨o,h1,h2⟩ (go (t:=.tuple) rfl) (λz=>nomatch z) fin
  | @fls a vs l sa ra=>
   cases ru;obtain⟨cb,_,⟨o,n,h1,h2,_⟩,_⟩:=I.list sa.sq;exact ji vY I.kIn ⟨o,h1,h2⟩ (go (t:=.list) rfl) (λz=>nomatch z) fin
  | @fdc a l l' ws vs sa kk e1 e2 ra=>
   cases ru;have g:=go (t:=.dict) rfl;obtain⟨_,_,AG,_,dd⟩:=iX I.hok sa.1;obtain⟨o,es,ep,h1,h2,_⟩:=dd;exact ji yj I.kIn ⟨o,h1,h2.1⟩ g (λz=>nomatch z) fin
  | @fn a=>
   erw[sT,mJ] at eb;cases eb
  | @ref n a hn=>
   cases ru;cases et:mJ h (.ref n) with
   | none=>erw[sT,et] at eb;cases eb
   | some t=>
    have g:=go et;erw[mJ] at et;split at et
    .rename_i l ho
     cases et;obtain⟨vs,hv,_⟩:=R.ob n a _ hn ho;obtain⟨cb,_,⟨o,n,h1,h2,_⟩,_⟩:=I.list (SqL.of hv);exact ji vY I.kIn ⟨o,h1,h2⟩ g (λz=>nomatch z) fin
    .rename_i l ho
     cases et;obtain⟨l',hv,_⟩:=R.ob n a _ hn ho;exact Vo (x:=.ref a) I rfl (.dK hv) g fin
    .cases et
 .cases e
def C5(T:Ty)(ha:SE X cl a ma)(hi:X.mg "isinstance" = Á)(ht:X.mg y=Á)(hv:Ô y=À (.type T.name))(hg:↥(Gl X "isinstance"))(Mj:↥(Gl X y))
  (hn:⇑(y≠"__name__")) (AB:⇑((y==("__debug__":Ç))=Â))
  (MU:↥(É [a,.Name y p2] X.env=(Â,Ú a X.env)::É [.Name y p2] X.env)) (EB:↥(É [.Name y p2] X.env=(Â,Ú (.Name y p2) X.env)::É [] X.env))
  (Aa:↥((Ù pos (É [.Name y p2] X.env)).any (·.1)=Â)):SE X cl (.Call (.Name "isinstance" p) [a,.Name y p2] [] pos) (vt (isW T) ma):=
 PE.wk (sJ (Qr (cl:=cl) T) hg hi PyProof.Rows.boot_isinstance (oz ha (oz (Ue Mj ht hv (show RelV (.ty T.name) (.type T.name) from rfl) hn AB) Qk EB) MU) (by decide) (by decide) MU Aa) λσ H Q q0=>by
  obtain⟨μ,h,ρ,w,h',R,er,e,k⟩:=q0;obtain⟨x,h1,e1,e⟩:=ke e;exact⟨μ,h,ρ,x,h1,R,er,e1,λen H1 vx E1 R1 rx=>⟨vx,rfl,en,h1,x,w,h',R1,rx,e,k.ext E1⟩⟩
noncomputable def uA(ws:List W):M W:=λh=>match ws with
 | [.tup l]=>À (.tup l,h)
 | [w]=>match getL h w with
  | some l=>À (.tup l,h)
  | none=>Á
 | _=>Á
noncomputable def iE(ws:List W):M W:=λh=>match ws with
 | [w]=>match xB h w with
  | some l=>À (.fls l,h)
  | none=>Á
 | _=>Á
def ZW:yB X (.type "tuple") (rMs X.K cl uA):=by
 rintro ag s σ H xs us Q I rs ⟨μ,h,ws,w,h',R,ax,e,k⟩;unfold uA at e;split at e
 .rename_i l
  cases e;cases ax with | cons r t=>cases t with | nil=>
   obtain⟨a,vs,rfl,sa,ra⟩:=r.tup_of;exact i5 ag s σ H _ us Q I rs ⟨a,vs,rfl,.inr ⟨sa,k.pure R (.tup sa ra)⟩⟩
 .split at e
  .rename_i l el
   cases e;cases ax with | cons r t=>cases t with | nil=>
    obtain⟨a,vs,rfl,sa,ra⟩:=xb R r el;exact i5 ag s σ H _ us Q I rs ⟨a,vs,rfl,.inl ⟨sa,λp hp=>k.tup R ra hp⟩⟩
  .cases e
 .cases e
def Jk:yB X (.type "list") (rMs X.K cl iE):=by
 rintro ag s σ H xs us Q I rs ⟨μ,h,ws,w,h',R,ax,e,k⟩;unfold iE at e;split at e
 .split at e
  .rename_i l el
   cases e;cases ax with | cons r t=>cases t with | nil=>
    obtain⟨a,vs,rfl,sa,ra⟩:=dn R r el;exact sN ag s σ H _ us Q I rs ⟨a,vs,rfl,sa,λp hp=>k.fls R ra hp⟩
  .cases e
 .cases e
end
noncomputable def qh(x:W)(ws:List W):M W:=λh=>match x,ws with
 | .ref n,[y]=>match h[n]? with
  | some (.lst l)=>if l.length<cap then À (.non,h.set n (.lst (l++[y]))) else Á
  | _=>Á
 | _,_=>Á
noncomputable def ui(x:W)(ws:List W):M W:=λh=>match x,ws with
 | .ref n,[y]=>match h[n]?,xB h y with
  | some (.lst l),À l'=>if l.length+l'.length<=cap then À (.non,h.set n (.lst (l++l'))) else Á
  | _,_=>Á
 | _,_=>Á
noncomputable def ur(x:W)(ws:List W):M W:=λh=>match x,ws with
 | .ref n,[]=>match h[n]? with
  | some (.lst l)=>match l[l.length-1]? with
   | some y=>À (y,h.set n (.lst l.dropLast))
   | none=>Á
  | _=>Á
 | _,_=>Á
noncomputable def kD(f:W->List W->M W)(o:ME)(ms:List ME):ME:=λρ=>bnd (o ρ) λx h=>if (getL h x).isSome=Ã then bnd (ko ms ρ) (λws=>f x ws) h else Á
section
variable{X:Cx}{cl:Cl}{o e:Ë}{es:List Ë}{mo:ME}{ms:List ME}{apos cpos:Ċ}{f:W->List W->M W}
inductive rMm(K:S5)(cl:Cl)(f:W->List W->M W)(x:V)(xs:List V)(H:Hp)(Q:VK):Prop
 | mk (μ:List È) (h:MH) (wx:W) (ws:List W) (w:W) (h':MH) (p0:HR K cl μ H h) (p1:RW K μ H wx x) (p2:RWs K μ H ws xs) (p3:f wx ws h=À (w,h')) (p4:KQ K cl μ H h' w Q):rMm K cl f x xs H Q
def pI{H:Hp}(q:tM X.K cl (kD f mo ms) σ H Q):Hk X.K "list" (rMm X.K cl f) (tM X.K cl mo) (tMA X.K cl ms) σ H Q:=by
 obtain⟨μ,h,ρ,w,h',R,er,e,k⟩:=q;obtain⟨x,h1,e1,e⟩:=ke e;split at e
 .rename_i hl
  obtain⟨ws,h2,e2,e⟩:=ke e;refine⟨μ,h,ρ,x,h1,R,er,e1,λen H1 vx E1 R1 rx=>?_⟩;obtain⟨l,hl⟩:=qg.mp hl;obtain⟨a,vs,rfl,sa,ra⟩:=xb R1 rx hl;exact⟨.inl ⟨rfl,vs,sa⟩,en,h1,ρ,ws,h2,R1,er.ext R E1,e2,λhY H2 xs E2 R2 rs=>⟨hY,h2,x,ws,w,h',R2,rx.ext R1 E2,rs,e,k.ext (E1.trans E2)⟩⟩
 .cases e
def K3{H:Hp}(q:tM X.K cl (kD f mo []) σ H Q):C9 X.K "list" (rMm X.K cl f) (tM X.K cl mo) σ H Q:=by
 obtain⟨μ,h,ρ,w,h',R,er,e,k⟩:=q;obtain⟨x,h1,e1,e⟩:=ke e;split at e
 .rename_i hl
  obtain⟨ws,h2,e2,e⟩:=ke e;cases e2;refine⟨μ,h,ρ,x,h1,R,er,e1,λen H1 vx E1 R1 rx=>?_⟩;obtain⟨l,hl⟩:=qg.mp hl;obtain⟨a,vs,rfl,sa,ra⟩:=xb R1 rx hl;exact⟨.inl ⟨rfl,vs,sa⟩,en,h1,x,[],w,h',R1,rx,.nil,e,k.ext E1⟩
 .cases e
theorem KQ.put{K:S5}{μ:List È}{H:Hp}{h:MH}{n:Nat}{a:È}(k:KQ K cl μ H (h.set n (.lst l)) w Q)(R:HR K cl μ H h)(hn:μ[n]?=À a)(rs:RWs K μ H l vs)(r:RW K μ H w v):Q v (upd H a (.lst vs)):=
 k μ _ v (.put hn) (R.put hn ⟨vs,qo,rs.ext R (.put hn)⟩) (r.ext R (.put hn))
def JK:J9 X "list.append" (rMm X.K cl qh):=by
 rintro ag s σ H x xs v us Q I rx rs ⟨μ,h,wx,ws,w,h',R,ax,as,e,k⟩;unfold qh at e;split at e
 .rename_i n y
  split at e
  .rename_i l ho
   split at e
   .rename_i hl
    cases e;cases ax with | @ref _ a hn=>
    cases as with | cons r t=>cases t with | nil=>
    obtain⟨vs,hv,rl⟩:=R.ob n a _ hn ho;exact pN ag s σ H _ _ v us Q I rx rs ⟨a,vs,_,rfl,rfl,hv,zL (by rw[<-rl.length];exact hl) xW,k.put R hn (rl.append (.cons r .nil)) .non⟩
   .cases e
  .cases e
 .cases e
def Bv:J9 X "list.pop" (rMm X.K cl ur):=by
 rintro ag s σ H x xs v us Q I rx rs ⟨μ,h,wx,ws,w,h',R,ax,as,e,k⟩;unfold ur at e;split at e
 .rename_i n
  split at e
  .rename_i l ho
   split at e
   .rename_i y hy
    cases e;cases ax with | @ref _ a hn=>
    cases as;obtain⟨vs,hv,rl⟩:=R.ob n a _ hn ho;obtain⟨v',ev,rv⟩:=rl.get hy;exact DF ag s σ H _ _ v us Q I rx rs ⟨a,vs,v',rfl,rfl,hv,by rw[<-rl.length];exact ev,k.put R hn rl.dropLast rv⟩
   .cases e
  .cases e
 .cases e
def Zy(T:String)(hT:T="list" \/ T="tuple")(l:È)(items:Array Ä)(n:Nat)(b:È)(An:Array Ä)(n2:Nat)(A8:Option È)(AK:Array (Option Ä))(SC:¬(!items.isEmpty&&æ (items.size+An.size))=Ã)(Em:items.size<=Î)(EB:items.size+An.size<=Î+1) :
  Meets (û.«list.extend» ⟨[.ref l,.ref b],[]⟩) (λ_ R s=>s.heap.get? l=À { cls:=.type "list",dict:=Á,data:=.seq items n,slots:=#[] }/\s.heap.get? b=À { cls:=.type T,dict:=A8,data:=.seq An n2,slots:=AK }/\R (.ok (.ret ë)) { s with heap:=s.heap.update l (ú λx=>x++An),toks:=s.toks }):=by
 rcases hT with rfl | rfl
 .exact .of_wp λprog w A R s h=>by
   obtain⟨hp,g,d,tk,os⟩:=s;obtain⟨hl,hb,h⟩:=h;have f1:=vK;have f2:=xU;have f3:=AutoSeq1.sub_list_list;have f4:=AutoSeq1.sub_tuple_list;have f5:=AutoSeq1.sub_list_tuple;have A4:(items++An).size<=Î+1:=by rw[Array.size_append];exact EB
   wp_walk using (vU hl rfl (hz:=Em) (_hz':=A4)),ÿ hl,ÿ hb;exact⟨_,rfl,h⟩
 .exact .of_wp λprog w A R s h=>by
   obtain⟨hp,g,d,tk,os⟩:=s;obtain⟨hl,hb,h⟩:=h;have f1:=vK;have f2:=xU;have f3:=AutoSeq1.sub_list_list;have f4:=AutoSeq1.sub_tuple_list;have f5:=AutoSeq1.sub_list_tuple;have A4:(items++An).size<=Î+1:=by rw[Array.size_append];exact EB
   wp_walk using (vU hl rfl (hz:=Em) (_hz':=A4)),ÿ hl,ÿ hb;exact⟨_,rfl,h⟩
def Jm{H:Hp}{xs zs:List V}(I:Inv X ag σ H s)(rx:RelV (.ref l) v)(ru:RelV (.ref b) u)(hH:H l=À (.lst xs))(hB:SqL X.K H b zs\/SqT X.K H b zs)(hz:xs.length+zs.length<=Î)
  (q:Q .non (upd H l (.lst (xs++zs)))):Ê (Ì X.prog X.w) X.A (Ŋ (.builtin "list.extend") [v,u]) (EP X ag σ Q) X.xe s:=by
 cases rx;cases ru;obtain⟨z,cb,n,r,hl,e⟩:=I.lstM hH;have go:∀{T:String} {Ao:List Ä} {n2:Nat} {A8:Option È} {AK:Array (Option Ä)},(T="list" \/ T="tuple")->Vals zs Ao->s.heap.get? b=À { cls:=.type T,dict:=A8,data:=.seq Ao.toArray n2,slots:=AK }->
   Ê (Ì X.prog X.w) X.A (Ŋ (.builtin "list.extend") [.ref l,.ref b]) (EP X ag σ Q) X.xe s:=by
  intro T Ao n2 A8 AK hT r2 e2;have Ot:=r2.length;have hsz:cb.toArray.size+Ao.toArray.size<=Î:=by rw[zJ,zJ];omega
  have El:¬(!cb.toArray.isEmpty&&æ (cb.toArray.size+Ao.toArray.size))=Ã:=by
   rw[YW hsz,Bool.and_false];exact zX
  refine vq F.slot_list_extend ⟨_,e,rfl⟩ F.entry_list_extend (F.args_list_extend_2 _ _) (Zy T hT l cb.toArray n b Ao.toArray n2 A8 AK El (by rw[zJ];omega) ∅) ⟨e,e2,?_⟩;refine⟨.non,_,I.lset (its':=cb++Ao) hH e (by simp) (r.append r2) ?_,rfl,q⟩;rw[zQ];omega
 rcases hB with hB | hB
 .obtain⟨Ao,r2,⟨⟨c2,d2,Pu,AK⟩,n2,h1,h2,h3,h4⟩,_⟩:=I.list hB
  simp only at h2 h4;subst h2 h4;exact go (.inl rfl) r2 h1
 .obtain⟨Ao,r2,⟨⟨c2,d2,Pu,AK⟩,h1,h2,n2,h4⟩,_⟩:=I.tuple hB
  simp only at h2 h4;subst h2 h4;exact go (.inr rfl) r2 h1
def Jb:J9 X "list.extend" (rMm X.K cl ui):=by
 rintro ag s σ H x xs v us Q I rx rs ⟨μ,h,wx,ws,w,h',R,ax,as,e,k⟩;unfold ui at e;split at e
 .rename_i n y
  split at e
  .rename_i l l' ho el
   split at e
   .rename_i hl
    cases e;cases ax with | @ref _ a hn=>
    cases as with | cons r t=>cases t with | nil=>
    obtain⟨vs,hv,rl⟩:=R.ob n a _ hn ho;obtain⟨b,zs,rfl,sb,rb⟩:=dn R r el;obtain⟨u,rfl,ru⟩:=rs.one;exact Jm I rx ru hv sb (zK (by rw[<-rl.length,<-rb.length];exact hl) xW) (k.put R hn (rl.append rb) .non)
   .cases e
  .cases e
 .cases e
def Qx(ho:SE X cl o mo)(ha:SA X cl (e::es) ms)(Aj:↥(Ý o "append" X.env (Ú o X.env)=Ú o X.env))
  (Aq:((Ù cpos (É (e::es) X.env)).all (λx=>!x.1)&&(ô cpos (Þ [] X.env)).all (λx=>x.1.isSome)
   && decide ((e::es).length+([]:List ý).length+(if ([]:List ý).isEmpty then 0 else 1)<30))=Ã:=by rfl)
  (xa:↥((apos.endLine==cpos.line)=Ã)) (hs:↥(É (e::es) X.env=(Â,Ú e X.env)::É es X.env)) (Aw:↥((Ù cpos (É es X.env)).any (·.1)=Â)) :
  SE X cl (.Call (.Attribute o "append" apos) (e::es) [] cpos) (kD qh mo ms):=
 PE.wk (Xg v7 PySem.F.slot_list_append PySem.F.type_list_append JK ho ha Aj Aq xa hs Aw) λσ H Q q=>pI q
def Vx(ho:SE X cl o mo)(ha:SA X cl (e::es) ms)(Aj:↥(Ý o "extend" X.env (Ú o X.env)=Ú o X.env))
  (Aq:((Ù cpos (É (e::es) X.env)).all (λx=>!x.1)&&(ô cpos (Þ [] X.env)).all (λx=>x.1.isSome)
   && decide ((e::es).length+([]:List ý).length+(if ([]:List ý).isEmpty then 0 else 1)<30))=Ã:=by rfl)
  (xa:↥((apos.endLine==cpos.line)=Ã)) (hs:↥(É (e::es) X.env=(Â,Ú e X.env)::É es X.env)) (Aw:↥((Ù cpos (É es X.env)).any (·.1)=Â)) :
  SE X cl (.Call (.Attribute o "extend" apos) (e::es) [] cpos) (kD ui mo ms):=
 PE.wk (Xg v7 PySem.F.slot_list_extend PySem.F.type_list_extend Jb ho ha Aj Aq xa hs Aw) λσ H Q q=>pI q
def DE(ho:SE X cl o mo)(Aj:↥(Ý o "pop" X.env (Ú o X.env)=Ú o X.env))(xa:↥((apos.endLine==cpos.line)=Ã)) :
  SE X cl (.Call (.Attribute o "pop" apos) [] [] cpos) (kD ur mo []):=
 PE.wk (Dk v7 PySem.F.slot_list_pop PySem.F.type_list_pop Bv ho Aj xa) λσ H Q q=>K3 q
end
noncomputable def srcOf(x:W):M Src:=λh=>match x with
 | .tup l=>À (.items l,h)
 | .fls l=>À (.items l,h)
 | .ref n=>match h[n]? with
  | some (.lst _)=>À (.live n,h)
  | _=>Á
 | _=>Á
noncomputable def vk(m:ME):MI:=λρ=>bnd (m ρ) srcOf
noncomputable def upto(n:Nat):List W:=(_root_.List.range n).map λ(i:Nat)=>W.int (i:Int)
noncomputable def bX(ws:List W):M Src:=λh=>match ws with
 | [.int j]=>if -(2 ^ 62)<=j/\j<2 ^ 62 then À (.items (upto j.toNat),h) else Á
 | _=>Á
noncomputable def vj(ms:List ME):MI:=λρ=>bnd (ko ms ρ) bX
section
variable{X:Cx}{cl:Cl}{tg e:Ë}{m:ME}{ms:List ME}{p pos:Ċ}
def CB(hl:PE X e tl):PI X tg e (λσ H R=>tl σ H λx H1=>∃a,x=.ref a/\(((∃xs,SqL X.K H1 a xs)/\R (Xj X.K a) H1)\/((∃xs,SqT X.K H1 a xs)/\R (FE X.K a) H1))):=by
 intro ag s σ H R I h;refine kC (hl ag s σ H _ I h) ?_;rintro v s1 ⟨x,H1,I1,r1,q1⟩;obtain⟨a,e,q1⟩:=q1;subst e;cases r1;rcases q1 with ⟨⟨xs,hq⟩,q⟩ | ⟨⟨xs,hq⟩,q⟩
 .obtain⟨cb,rv,p,hz⟩:=I1.list hq
  refine vo p.isList ?_;refine⟨s1.heap.objs.size,[s1.heap.objs.size],_,_,H1,rfl,I1.kept (t':=s1.toks) λb o e=>zf _ e,Qd a _,⟨_,zN _ rfl,rfl,rfl⟩,λb hb=>?_,q⟩;have e:b=s1.heap.objs.size:=by simpa using hb
  subst e;exact I1.fpOk (zj _) (I1.hok.fresh (zj _))
 .obtain⟨cb,rv,p,hz⟩:=I1.tuple hq
  refine yw (show s1.heap.IsTuple a cb.toArray from p) ?_;refine⟨s1.heap.objs.size,[s1.heap.objs.size],_,_,H1,rfl,I1.kept (t':=s1.toks) λb o e=>zf _ e,JS a _,⟨_,zN _ rfl,rfl,rfl⟩,λb hb=>?_,q⟩;have e:b=s1.heap.objs.size:=by simpa using hb
  subst e;exact I1.fpOk (zj _) (I1.hok.fresh (zj _))
def B7{K:S5}{μ:List È}{H:Hp}{h:MH}(R:HR K cl μ H h)(sa:SqT K H a vs)(ra:RWs K μ H l vs):JR K cl (FE K a) (.items l) μ H:=by
 intro hY H2 h2 E2 R2 i;have Eo:=SqT.ext R E2 sa;have Ew:=ra.ext R E2;refine⟨λw ew=>?_,λes=>?_⟩
 .have Ae:l[i]?=À w:=zZ ew
  obtain⟨v,ev,rv⟩:=Ew.get Ae;refine⟨⟨vs,v,Eo,ev⟩,λx H3 y=>?_⟩;obtain⟨rfl,y⟩:=y;have:=y vs Eo;rw[ev] at this;cases this;exact⟨.refl,R2,rv⟩
 .have AD:l[i]?=Á:=zZ es
  exact⟨vs,Eo,by rw[<-ra.length];exact jH.mp AD⟩
def D6{K:S5}{μ:List È}{H:Hp}{h:MH}(R:HR K cl μ H h)(sa:SqF K μ H a vs)(ra:RWs K μ H l vs):JR K cl (Xj K a) (.items l) μ H:=by
 intro hY H2 h2 E2 R2 i;have Eo:=(SqF.ext E2 sa).sq;have Ew:=ra.ext R E2;refine⟨λw ew=>?_,λes=>?_⟩
 .have Ae:l[i]?=À w:=zZ ew
  obtain⟨v,ev,rv⟩:=Ew.get Ae;refine⟨⟨vs,v,Eo,ev⟩,λx H3 y=>?_⟩;obtain⟨rfl,y⟩:=y;have:=y vs Eo;rw[ev] at this;cases this;exact⟨.refl,R2,rv⟩
 .have AD:l[i]?=Á:=zZ es
  exact⟨vs,Eo,by rw[<-ra.length];exact jH.mp AD⟩
def UZ{K:S5}{μ:List È}{H:Hp}(hn:μ[n]?=À a):JR K cl (Xj K a) (.live n) μ H:=by
 intro hY H2 h2 E2 R2 i;have Eu:=E2.get hn;refine⟨λw ew=>?_,λes=>?_⟩
 .unfold x6 at ew
  dsimp only at ew;split at ew
  .rename_i l ho
   have Ae:l[i]?=À w:=zZ ew;obtain⟨vs,hv,ra⟩:=R2.ob n a _ Eu ho;obtain⟨v,ev,rv⟩:=ra.get Ae;refine⟨⟨vs,v,SqL.of hv,ev⟩,λx H3 y=>?_⟩;obtain⟨rfl,y⟩:=y;have:=y vs (SqL.of hv);rw[ev] at this;cases this;exact⟨.refl,R2,rv⟩
  .cases ew
 .unfold x6 at es
  dsimp only at es;split at es
  .rename_i l ho
   have AD:l[i]?=Á:=zZ es;obtain⟨vs,hv,ra⟩:=R2.ob n a _ Eu ho;exact⟨vs,SqL.of hv,by rw[<-ra.length];exact jH.mp AD⟩
  .cases es
def FA(he:SE X cl e m):SI X cl tg e (vk m):=PI.wk (CB he) λσ H Q q0=>by
 obtain⟨μ,h,ρ,src,h',R,er,e,k⟩:=q0;obtain⟨x,h1,e1,e⟩:=ke e;refine⟨μ,h,ρ,x,h1,R,er,e1,λen H1 v E1 R1 r=>?_⟩;unfold srcOf at e;split at e
 .cases e
  obtain⟨a,vs,rfl,sa,ra⟩:=r.tup_of;exact⟨a,rfl,.inr ⟨⟨vs,sa⟩,k en H1 _ E1 R1 (B7 R1 sa ra)⟩⟩
 .cases e
  cases r with | @fls a vs l sa ra=>
  exact⟨a,rfl,.inl ⟨⟨vs,sa.sq⟩,k en H1 _ E1 R1 (D6 R1 sa ra)⟩⟩
 .rename_i n
  split at e
  .rename_i l ho
   cases e;cases r with | @ref _ a hn=>
   obtain⟨vs,hv,ra⟩:=R1.ob n a _ hn ho;exact⟨a,rfl,.inl ⟨⟨vs,SqL.of hv⟩,k en H1 _ E1 R1 (UZ hn)⟩⟩
  .cases e
 .cases e
def Du{K:S5}{μ:List È}{H:Hp}:JR K cl (Xu 0 n) (.items (upto n)) μ H:=by
 intro hY H2 h2 E2 R2 i;refine⟨λw ew=>?_,λes=>?_⟩
 .have Ae:(upto n)[i]?=À w:=zZ ew
  unfold upto at Ae;rw[jb] at Ae;by_cases hi:i<n
  .rw[List.getElem?_range hi] at Ae
   cases Ae;refine⟨hi,λx H3 y=>?_⟩;obtain⟨rfl,rfl⟩:=y;exact⟨.refl,R2,by rw[Int.zero_add];exact .int _⟩
  .rw[jQ (by simpa using hi)] at Ae
   cases Ae
 .have AD:(upto n)[i]?=Á:=zZ es
  have:=jH.mp AD;unfold upto at this;rw[zP,q9] at this;exact this
def DY(hm:X.mg "range" = Á)(ha:SA X cl [e] ms)(hg:↥(Gl X "range"))(hs:↥(É [e] X.env=[(Â,Ú e X.env)])):SI X cl tg (.Call (.Name "range" p) [e] [] pos) (vj ms):=
 PI.wk (QI hg hm ha hs) λσ H Q q0=>by
  obtain⟨μ,h,ρ,src,h',R,er,e,k⟩:=q0;obtain⟨ws,h1,e1,e⟩:=ke e;refine⟨μ,h,ρ,ws,h1,R,er,e1,λen H1 vs E1 R1 rs=>?_⟩;unfold bX at e;split at e
  .rename_i j
   split at e
   .rename_i hj
    cases e;cases rs with | cons r t=>cases t with | nil=>
    cases r.int_of;exact⟨j,rfl,hj.1,hj.2,k en H1 _ E1 R1 Du⟩
   .cases e
  .cases e
end
noncomputable def lR(sc scope:ã):ã:={ scope with names:=scope.names.map λ(n,k)=>if (k==.free&&sc.kind==.function&&sc.names.lookup n==À .cell) then (n,.cell) else (n,k) }
noncomputable def lm(sc:ã)(x:Ç):Bool:=sc.names.lookup x==À .cell||sc.names.lookup x==À .free
noncomputable def uV(sc:ã)(N:List Ç)(scope:ã)(N':List Ç)(nl:Nat)(ks:List Nat):Bool:=
 scope.kind==.function&&scope.names.all (λy=>y.2 != .cell)&&scope.names.all (λy=>y.2 != .local||scope.names.lookup y.1==À .local)
 && N'.length==nl+ks.length&&scope.names.all (λy=>y.2 != .free||lm sc y.1)
 && (ı ks.length).all λj=>match ks[j]?,N'[nl+j]? with
  | some k,À x=>N[k]?==À x&&lm sc x&&lm (lR sc scope) x
  | _,_=>Â
structure CompOk(sc:ã)(N:List Ç)(scope:ã)(N':List Ç)(nl:Nat)(ks:List Nat):Prop where
 kind:scope.kind=.function
 ncell:∀y∈scope.names,y.2≠.cell
 names:∀y∈scope.names,y.2=.local->scope.names.lookup y.1=À .local
 len:N'.length=nl+ks.length
 fall:∀y∈scope.names,y.2=.free->lm sc y.1=Ã
 fr:∀j k,ks[j]?=À k->∃x,N[k]?=À x/\N'[nl+j]?=À x/\lm sc x=Ã/\lm (lR sc scope) x=Ã
def bE(h:uV sc N scope N' nl ks=Ã):CompOk sc N scope N' nl ks:=by
 unfold uV at h;erw[zq] at h;obtain⟨⟨⟨⟨⟨h1,h2⟩,h3⟩,h4⟩,h5⟩,h6⟩:=h;refine⟨by simpa using h1,λy hy=>?_,λy hy e=>?_,by simpa using h4,λy hy e=>?_,λj k e=>?_⟩
 .have:=kW.mp h2 y hy;simpa using this
 .have:=kW.mp h3 y hy;simpa[e] using this
 .have:=kW.mp h5 y hy;simpa[e] using this
 .have hj:j<ks.length:=(zT.mp e).1
  have:=kW.mp h6 j (yL.mpr hj);rw[e] at this;cases e2:N'[nl+j]? with
  | none=>rw[e2] at this;simp at this
  | some x=>
   rw[e2] at this;erw[zq] at this;exact⟨x,by simpa using this.1.1,rfl,this.1.2,this.2⟩
def ly{sc:ã}(h:lm sc x=Ã):sc.names.lookup x=À .cell\/sc.names.lookup x=À .free:=by
 unfold lm at h;rcases xO.mp h with h | h
 .exact .inl (by simpa using h)
 .exact .inr (by simpa using h)
noncomputable def w9(X:Cx)(scope:ã)(cs:List (Ç×È))(C:È)(N:List Ç)(s₀:Å)(H₀:Hp)(ex:List È):Cx:=
 { X with N:=N,s₀:=s₀,H₀:=H₀,env:=compEnvC scope cs C X.env,outer:=X.stack,ex:=ex,fn:=λ_=>Â,pn:=[],xe:=λ_ _=>False }
def JD{env:ŷ}(names:List (Ç×Ģ))(h:∀y∈names,y.2=.free->∃c,env.cells.lookup y.1=À c):∀EF:List (Ç×È),(∀x c,EF.lookup x=À c->env.cells.lookup x=À c)->
  ∃cs,(forIn names EF λ(x:Ç×Ģ) (r:List (Ç×È))=>if (x.2==ğ)=Ã then do
    let a <-cellOf env x.1
    pure (ĉ ((x.1,a)::r)) else pure (ĉ r):Sem (List (Ç×È)))=pure cs/\(∀x c,cs.lookup x=À c->env.cells.lookup x=À c)/\(∀y∈names,y.2=.free->∃c,cs.lookup y.1=À c)/\∀x c,EF.lookup x=À c->∃c',cs.lookup x=À c':=by
 induction names with
 | nil=>intro EF h0;exact⟨EF,by simp,h0,λy hy=>by simp at hy,λx c e=>⟨c,e⟩⟩
 | cons y r ih=>
  intro EF h0;have hr:∀z∈r,z.2=.free->∃c,env.cells.lookup z.1=À c:=λz hz=>h z (zM _ hz)
  by_cases hy:(y.2==ğ)=Ã
  .obtain⟨c,hc⟩:=h y kj (by simpa using hy)
   have h1:∀x c',((y.1,c)::EF).lookup x=À c'->env.cells.lookup x=À c':=λx c' e=>by
    rw[kO] at e;split at e
    .rename_i q
     have:x=y.1:=by simpa using q
     subst this;rw[<-e];exact hc
    .exact h0 x c' e
   obtain⟨cs,e1,e2,e3,e4⟩:=ih hr ((y.1,c)::EF) h1;have EV:∃c',cs.lookup y.1=À c':=e4 y.1 c (by rw[kO];simp);refine⟨cs,?_,e2,λz hz e=>?_,λx c' e=>?_⟩
   .rw[qX,z9 hy]
    have:cellOf env y.1=pure c:=by unfold cellOf;rw[hc]
    rw[this];erw[pure_bind];exact e1
   .rcases zb.mp hz with rfl | hz
    .exact EV
    .exact e3 z hz e
   .by_cases q:x=y.1
    .subst q;exact EV
    .refine e4 x c' ?_
     rw[kO];have:(x==y.1)=Â:=by simpa using q
     rw[this];exact e
  .obtain⟨cs,e1,e2,e3,e4⟩:=ih hr EF h0
   refine⟨cs,?_,e2,λz hz e=>?_,e4⟩
   .rw[qX,kI hy]
    erw[pure_bind];exact e1
   .rcases zb.mp hz with rfl | hz
    .exact absurd (by simpa using e) hy
    .exact e3 z hz e
theorem rT{env:ŷ}{scope:ã}(h:∀y∈scope.names,y.2=.free->∃c,env.cells.lookup y.1=À c) :
  ∃cs,closureFor scope env=pure cs/\(∀x c,cs.lookup x=À c->env.cells.lookup x=À c)/\(∀y∈scope.names,y.2=.free->∃c,cs.lookup y.1=À c):=by
 obtain⟨cs,e1,e2,e3,_⟩:=JD scope.names h [] (λx c e=>by simp at e);refine⟨cs,?_,e2,e3⟩
 have q:closureFor scope env=((forIn scope.names ([]:List (Ç×È)) λ(x:Ç×Ģ) (r:List (Ç×È))=>if (x.2==ğ)=Ã then do
    let a <-cellOf env x.1
    pure (ĉ ((x.1,a)::r)) else pure (ĉ r):Sem (List (Ç×È))) >>= λcs=>pure cs):=rfl
 rw[q,e1];rfl
section
variable{X:Cx}{ag:List (È×î)}{σ:L2.St}{H:Hp}{s:Å}
def sH{scope:ã}(nc:∀y∈scope.names,y.2≠.cell)(h:lm (lR sc scope) x=Ã):∃y∈scope.names,y.1=x/\y.2=.free:=by
 have go:∀l:List (Ç×Ģ),(∀y∈l,y.2≠.cell)->∀k:Ģ,(k=.cell\/k=.free)->(l.map λ(n,k)=>if (k==ğ&&sc.kind==ScopeKind.function&&sc.names.lookup n==À Ń) then (n,Ń) else (n,k)).lookup x=À k->∃y∈l,y.1=x/\y.2=.free:=by
  intro l;induction l with
  | nil=>intro _ k _ e;simp at e
  | cons y r ih=>
   obtain⟨n,k0⟩:=y;intro nc k hk e;rw[zx,kO] at e;have Ml:(if (k0==ğ&&sc.kind==ScopeKind.function&&sc.names.lookup n==À Ń)=Ã then (n,Ń) else (n,k0)).1=n:=by split<;>rfl
   by_cases q:x=n
   .refine⟨(n,k0),kj,q.symm,?_⟩
    have:(x==n)=Ã:=by simpa using q
    erw[Ml,this] at e;split at e
    .rename_i c
     erw[zq] at c;simpa using c.1.1
    .have e':k0=k:=by simpa using e
     rcases hk with rfl | rfl
     .exact absurd e' (nc (n,k0) kj)
     .exact e'
   .have:(x==n)=Â:=by simpa using q
    erw[Ml,this] at e;obtain⟨y,hy,e1,e2⟩:=ih (λy hy=>nc y (zM _ hy)) k hk e;exact⟨y,zM _ hy,e1,e2⟩
 rcases ly h with h | h
 .exact go scope.names nc _ (.inl rfl) h
 .exact go scope.names nc _ (.inr rfl) h
def CT{scope:ã}{cs:List (Ç×È)}(I:Inv X ag σ H s)(Ag:X.env.scope=sc)(ok:CompOk sc N scope N' nl ks)
  (AH:∀x c,cs.lookup x=À c->X.env.cells.lookup x=À c) (Ar:∀y∈scope.names,y.2=.free->∃c,cs.lookup y.1=À c) (hC:s.heap.objs.size<=C) (hex:∀b∈ex,ah X ag H b) (Lm:∀b∈ex,b<s.heap.objs.size):(w9 X scope cs C N' s H ex).Ok:=by
 subst Ag;refine⟨I.ok.mod,ok.kind,I.ok.glob,I.ok.blt,hC,λx y c h1 h2=>I.ok.inj x y c (AH x c h1) (AH y c h2),λx hx=>?_,λx c h=>?_,I.ok.hd,I.ok.frames,.inl rfl,λb hb=>?_,I.bs,zK I.ok.bsz I.sz,λb o e hb=>?_,λb hb z=>?_,I.stack,I.stkFree⟩
 .have hc:lm (lR X.env.scope scope) x=Ã:=by
   unfold lm;rcases hx with hx | hx
   .rw[show(lR X.env.scope scope).names.lookup x=À .cell from hx];rfl
   .rw[show(lR X.env.scope scope).names.lookup x=À .free from hx];rfl
  obtain⟨y,hy,rfl,e⟩:=sH ok.ncell hc;exact Ar y hy e
 .cases h
 .obtain⟨h0,h1,h2,h3,h4,h5⟩:=hex b hb
  exact⟨λz=>absurd (zL (Lm b hb) (z▸hC)) (jF _),λx c e=>h4 x c (AH x c e)⟩
 .obtain⟨h0,h1,h2,h3,h4,h5⟩:=hex b hb
  rcases h3 with h3 | h3
  .exact I.ok.noex b o e h3
  .exact absurd (zL (zB e) (zK I.ok.bsz h3)) (jF _)
 .obtain⟨h0,h1,h2,h3,h4,h5⟩:=hex b hb
  rcases zb.mp (I.stkSub b z) with e | e
  .exact h1 e
  .exact h2 e
end
section
variable{prog:Í}{w:Ñ}{A:Ö}{R:Result->Å->Prop}{s:Å}
noncomputable def KD(ifs:List Ë)(env:ŷ):Sem Bool:=forIn ifs Ã λc r=>if r=Ã then do let ok <-Ž c env (Ú c env);pure (ĉ ok) else pure (ĉ r)
def sY(I:Nat->Å->Prop)
  (turn:∀n s,I n s->Ê (Ì prog w) A (Ā it) (λr hG=>match r with
   | none=>R (.ok .next) hG
   | some v=>Ê (Ì prog w) A (Ħ target it v) (λ_ EW=>Ê (Ì prog w) A (ĥ target env v) (λ_ Au=>
     Ê (Ì prog w) A (KD ifs env) (λok AN=>
      if ok=Ã then Ê (Ì prog w) A (Ú elt env) (λx EG=>
       Ê (Ì prog w) A (Ŋ (.builtin "list.append") [acc,x]) (λ_ Mm=>∃m,m<n/\I m Mm) (λ_ _=>False) EG) (λ_ _=>False) AN
      else ∃m,m<n/\I m AN) (λ_ _=>False) Au) (λ_ _=>False) EW) (λ_ _=>False) hG) (λ_ _=>False) s)
  (n:Nat) (h:I n s) :
  Ď (Ì prog w) A (.compLoop (.ListComp elt [⟨target,iter,ifs,0⟩] scope pos) 0 it acc env) R s:=by
 refine codeAny_loop rfl I (λn s hI=>?_) n h;show Ê _ A ((compTurn (.ListComp elt [⟨target,iter,ifs,0⟩] scope pos) 0 it acc env).onRaise (λx=>do noteFrame x env;theTreesLotGoes x)) _ _ s
 refine wpAny_noted ?_;rw[compTurn_list];refine za (yu (za (qD (turn n s hI) (λr hG As=>?_) λ_ _ h'=>h'.elim)));cases r with
 | none=>exact zr As
 | some v=>
  refine za (qD As (λ_ EW Mn=>?_) λ_ _ h'=>h'.elim);refine za (qD Mn (λ_ Au Ln=>za (qD Ln (λok AN Mo=>?_) λ_ _ h'=>h'.elim)) λ_ _ h'=>h'.elim);cases ok with
  | false=>exact zr ⟨rfl,Mo⟩
  | true=>
   exact za (za (qD Mo (λx EG NF=>za (qD NF (λ_ Mm NG=>zr (zr ⟨rfl,NG⟩)) λ_ _ h'=>h'.elim)) λ_ _ h'=>h'.elim))
end
noncomputable def lQ(X:Cx)(cl:Cl)(ifs:List Ë)(t:MT):Prop:=∀(ag:List (È×î)) (s:Å) (σ:L2.St) (H:Hp) (Q:Bool->Hp->Prop),Inv X ag σ H s->tMT X.K cl t σ H Q->Ê (Ì X.prog X.w) X.A (KD ifs X.env) (TP X ag σ Q) X.xe s
noncomputable def kL:MT:=λ_ h=>À (Ã,h)
section
variable{X:Cx}{cl:Cl}{c:Ë}{t:MT}
def U4:lQ X cl [] kL:=λag s σ H Q I q0=>by
 obtain⟨μ,h,ρ,b,h',R,er,e,k⟩:=q0;cases e;exact wpAny_tests_nil ⟨H,I,k μ H .refl R⟩
def UU(h:ST X cl c t):lQ X cl [c] t:=λag s σ H Q I q=>wpAny_tests_one (h ag s σ H Q I q)
end
noncomputable def blank(nl:Nat)(ρ:En):En:=Æ nl Á++ρ.drop nl
noncomputable def xZ(src:Src)(nl:Nat)(g:MG)(t:MT)(m:ME)(n0:Nat):Nat->Nat->En->MH->Option MH
 | 0,_,_,_=>Á
 | k+1,i,ρ,h=>match x6 src i h with
  | none=>Á
  | some Á=>À h
  | some (À w)=>match g w ρ h with
   | none=>Á
   | some (ρ1,h1)=>match t ρ1 h1 with
    | none=>Á
    | some (Â,h2)=>xZ src nl g t m n0 k (i+1) (blank nl ρ1) h2
    | some (Ã,h2)=>match m ρ1 h2 with
     | none=>Á
     | some (y,h3)=>match h3[n0]? with
      | some (.lst acc)=>if acc.length<cap then xZ src nl g t m n0 k (i+1) (blank nl ρ1) (h3.set n0 (.lst (acc++[y]))) else Á
      | _=>Á
noncomputable def vi(nl:Nat)(g:MG)(t:MT)(m:ME)(n0:Nat):List W->En->MH->Option MH
 | [],_,h=>À h
 | w::r,ρ,h=>match g w ρ h with
   | none=>Á
   | some (ρ1,h1)=>match t ρ1 h1 with
    | none=>Á
    | some (Â,h2)=>vi nl g t m n0 r (blank nl ρ1) h2
    | some (Ã,h2)=>match m ρ1 h2 with
     | none=>Á
     | some (y,h3)=>match h3[n0]? with
      | some (.lst acc)=>if acc.length<cap then vi nl g t m n0 r (blank nl ρ1) (h3.set n0 (.lst (acc++[y]))) else Á
      | _=>Á
theorem fF(l:List W):∀(k i:Nat) (ρ:En) (h:MH),l.length+1<=i+k->i<=l.length->xZ (.items l) nl g t m n0 k i ρ h=vi nl g t m n0 (l.drop i) ρ h
 | 0,i,ρ,h,hk,hi=>by omega
 | k+1,i,ρ,h,hk,hi=>by
  by_cases hl:i<l.length
  .rw[qO hl]
   unfold xZ vi;erw[x6,zE hl];cases e1:g l[i] ρ h with
   | none=>rfl
   | some p=>
    obtain⟨ρ1,h1⟩:=p;simp only;cases e2:t ρ1 h1 with
    | none=>rfl
    | some q=>
     obtain⟨b,h2⟩:=q;cases b with
     | false=>exact fF l k (i+1) _ h2 ∅ hl
     | true=>
      simp only;cases e3:m ρ1 h2 with
      | none=>rfl
      | some q3=>
       obtain⟨y,h3⟩:=q3;simp only;split
       .split
        .exact fF l k (i+1) _ _ ∅ hl
        .rfl
       .rfl
  .have ED:i=l.length:=by omega
   subst ED;rw[yt];unfold xZ vi;simp[x6]
noncomputable def aE(mi:MI)(nl:Nat)(ks:List Nat)(g:MG)(t:MT)(m:ME):En->MH->Option (Nat×MH×MH):=λρ h=>match mi ρ h with
 | none=>Á
 | some (.items l,h1)=>match vi nl g t m h1.length l (Æ nl Á++ks.map λk=>(ρ[k]?).join) (h1++[.lst []]) with
  | some h2=>À (h1.length,h1,h2)
  | none=>Á
 | some (.live n,h1)=>match xZ (.live n) nl g t m h1.length (gS (.live n) h1+1) 0 (Æ nl Á++ks.map λk=>(ρ[k]?).join) (h1++[.lst []]) with
  | some h2=>À (h1.length,h1,h2)
  | none=>Á
noncomputable def ue(mi:MI)(nl:Nat)(ks:List Nat)(g:MG)(t:MT)(m:ME):ME:=λρ h=>match aE mi nl ks g t m ρ h with
 | some (n,_,h2)=>À (.ref n,h2)
 | none=>Á
open Classical in
noncomputable def j1(mi:MI)(nl:Nat)(ks:List Nat)(g:MG)(t:MT)(m:ME):ME:=λρ h=>match aE mi nl ks g t m ρ h with
 | some (n,h1,h2)=>match h2[n]? with
  | some (.lst l)=>if h1<+:h2/\lows h1.length l=Ã then À (.fls l,h1) else Á
  | _=>Á
 | none=>Á
theorem ER.blank{K:S5}{μ:List È}{H:Hp}{ρ:En}(er:ER K μ H ρ σ)(hl:nl<=ρ.length):ER K μ H (ML.blank nl ρ) σ:=by
 unfold ML.blank;refine⟨by simp;rw[<-er.len];omega,λi w e=>?_⟩;by_cases hi:i<nl
 .rw[zy (by simpa using hi),qm] at e
  split at e<;>cases e
 .rw[zF (by simpa using hi),qz,List.getElem?_drop] at e
  exact er.at_ i w (by rw[<-e];congr 1;omega)
section
variable{X:Cx}{cl:Cl}{ag:List (È×î)}{σ:L2.St}
noncomputable def σC(nl:Nat)(ks:List Nat)(σ:L2.St):L2.St:=Æ nl Á++ks.map λk=>(σ[k]?).join
noncomputable def ρC(nl:Nat)(ks:List Nat)(ρ:En):En:=Æ nl Á++ks.map λk=>(ρ[k]?).join
def IO{K:S5}{μ:List È}{H:Hp}(er:ER K μ H ρ σ):ER K μ H (ρC nl ks ρ) (σC nl ks σ):=by
 unfold ρC σC;refine⟨by simp,λi w e=>?_⟩;by_cases hi:i<nl
 .rw[zy (by simpa using hi),qm] at e
  split at e<;>cases e
 .rw[zF (by simpa using hi),qz,jb] at e
  rw[zF (by simpa using hi),qz,jb];cases e1:ks[i-nl]? with
  | none=>rw[e1] at e;cases e
  | some k=>
   rw[e1] at e;have e2:(ρ[k]?).join=À w:=zZ e;have e3:ρ[k]?=À (À w):=by
    cases q:ρ[k]? with
    | none=>rw[q] at e2;cases e2
    | some o=>rw[q] at e2;cases o with
     | none=>cases e2
     | some z=>cases e2;rfl
   obtain⟨v,ev,r⟩:=er.at_ k w e3;exact⟨v,by simp[ev],r⟩
def Qm{scope:ã}{cs:List (Ç×È)}{H:Hp}{s:Å}{As:Ï}(I:Inv X ag σ H s)(Ag:X.env.scope=sc)(hN:X.N=N)(ok:CompOk sc N scope N' nl ks)
  (AH:∀x c,cs.lookup x=À c->X.env.cells.lookup x=À c) (Ar:∀y∈scope.names,y.2=.free->∃c,cs.lookup y.1=À c) (hex:∀b∈ex,ah X ag H b) (Lm:∀b∈ex,b<s.heap.objs.size)
   (Ah:As.Ns (s.heap.objs.size+1) m0) (old:∀b o,s.heap.get? b=À o->As.get? b=À o) (hD:As.get? s.heap.objs.size=À { cls:=.type "list",data:=.seq ([]:List Ä).toArray }) :
  Inv (w9 X scope cs (s.heap.objs.size+1) N' s H ex) [] (σC nl ks σ) (upd H s.heap.objs.size (.lst [])) { s with heap:=As,toks:=tk }:=by
 have Pv:H s.heap.objs.size=Á:=I.hok.fresh (zj _);have Pw:∀{b:È} {o:î},s.heap.get? b=À o->b≠s.heap.objs.size:=λe=>zW (zB e)
 refine⟨CT I Ag ok AH Ar (vB _) hex Lm,rfl,I.bare,Un.laid old (zj _) Pv,⟨m0,Ah,λi x v e1 e2 e3=>?_⟩,λx c e=>?_,?_,λx c e=>?_,λp hp=>absurd (show p∈([]:List (È×î)) from hp) (by simp),I.hok.laid old (zj _) ⟨by simp,[],_,.nil,hD⟩,?_⟩
 .have A3:N'[i]?=À x:=e1
  unfold σC at e2;by_cases hi:i<nl
  .rw[zy (by simpa using hi),qm] at e2
   split at e2<;>cases e2
  .rw[zF (by simpa using hi),qz,jb] at e2
   cases q1:ks[i-nl]? with
   | none=>rw[q1] at e2;cases e2
   | some k=>
    rw[q1] at e2;have q2:(σ[k]?).join=À v:=zZ e2;have q3:σ[k]?=À (À v):=by
     cases q:σ[k]? with
     | none=>rw[q] at q2;cases q2
     | some o=>rw[q] at q2;cases o with
      | none=>cases q2
      | some z=>cases q2;rfl
    obtain⟨x',Px,Ou,Ov,Ow⟩:=ok.fr (i-nl) k q1;have:x'=x:=by
     rw[show nl+(i-nl)=i by omega,A3] at Ou;exact(zZ Ou).symm
    subst this;subst Ag;obtain⟨m,hn,hl⟩:=I.loc;have Nm:KI X.env.scope x':=by rcases ly Ov with z | z;exact .inr (.inl z);exact .inr (.inr z)
    obtain⟨u,ru,lk⟩:=hl k x' v (by rw[hN];exact Px) q3 Nm;refine⟨u,ru,?_⟩;rcases lk with ⟨z,_⟩ | ⟨_,c,hc,ic⟩
    .rcases ly Ov with y | y<;>(rw[show X.env.kindOf x'=X.env.scope.names.lookup x' from rfl,y] at z;cases z)
    .refine .inr ⟨ly Ow,?_⟩
     obtain⟨y,hy,rfl,Py⟩:=sH ok.ncell Ow;obtain⟨c',A0⟩:=Ar y hy Py;have:=AH _ _ A0;rw[hc] at this;cases this;obtain⟨o,ho,hd⟩:=ic;exact⟨c,A0,o,old _ _ ho,hd⟩
 .obtain⟨v,o,ho,hd⟩:=I.cell x c (AH x c e)
  exact⟨v,o,old _ _ ho,hd⟩
 .show(upd H s.heap.objs.size (.lst [])) (s.heap.objs.size+1)=Á
  rw[kQ (Nat.succ_ne_self _)];exact I.hok.fresh (vB _)
 .obtain⟨v,o,ho,hd⟩:=I.cell x c (AH x c e)
  rw[kQ (Pw ho)];exact I.freeC x c (AH x c e)
 .show(σC nl ks σ).length=N'.length
  unfold σC;rw[ok.len];simp
def QF{elt tg iter:Ë}{ifs:List Ë}{scope sc:ã}{pos:Ċ}{N N':List Ç}{nl:Nat}{ks:List Nat}{cs:List (Ç×È)}{J:It}{it:È}{fp:List È}{tn:Nat->Ï->Prop}{g:MG}{t:MT}{m:ME}{src:Src}{k0:Nat}
  {H2:Hp} {s2:Å} {μ:List È} {h h':MH} {ρ:En} {RR:Ä->È->Result->Å->Prop} {E:Ä->Å->Prop}
  (hc:X.calm=Ã) (Ag:X.env.scope=sc) (hN:X.N=N) (ok:CompOk sc N scope N' nl ks)
  (hg:∀cs C s₀ H₀ ex,SG (w9 X scope cs C N' s₀ H₀ ex) cl tg g) (ht:∀cs C s₀ H₀ ex,lQ (w9 X scope cs C N' s₀ H₀ ex) cl ifs t) (he:∀cs C s₀ H₀ ex,SE (w9 X scope cs C N' s₀ H₀ ex) cl elt m)
  (I2:Inv X ag σ H2 s2) (T:Turn X.prog X.w X.K tg J fp it tn) (AF:tn 0 s2.heap) (f2:∀b∈fp,ah X ag H2 b)
  (AH:∀x c,cs.lookup x=À c->X.env.cells.lookup x=À c) (Ar:∀y∈scope.names,y.2=.free->∃c,cs.lookup y.1=À c)
  (R2:HR X.K cl μ H2 h) (er:ER X.K μ H2 ρ σ) (j:JR X.K cl J src μ H2) (e:xZ src nl g t m h.length k0 0 (ρC nl ks ρ) (h++[.lst []])=À h')
  (Pz:∀D C s' H' gy m',D≠C->s'.heap.Ns C m'->Inv X ag σ H' s'->H' C=Á->s2.heap.objs.size<=C->Ext μ H2 gy H'->HR X.K cl gy H' h'->gy[h.length]?=À D->RR (.ref D) C (.ok .next) s') :
  Ê (Ì X.prog X.w) X.A (newList []) (λacc AN=>Ê (Ì X.prog X.w) X.A (newFunctionEnv scope X.env.globals cs [] X.env.qual Á .none (À X.env)) (λMp EG=>
   Ď (Ì X.prog X.w) X.A (.compStart (.ListComp elt [⟨tg,iter,ifs,0⟩] scope pos) 0 (.ref it) acc { Mp with scope:=relabel scope X.env }) (RR acc Mp.locals) EG) E AN) E s2:=by
 refine jo (wpAny_newFunctionEnv ok.ncell (by intro y hy;simp at hy) (λAs AI Ax=>?_) ok.kind);dsimp only at AI Ax ⊢;generalize hP:s2.heap.push { cls:=.type "list",dict:=Á,data:=.seq ([]:List Ä).toArray }=P at AI Ax ⊢;have hC:P.objs.size=s2.heap.objs.size+1:=by rw[<-hP,j7]
 rw[hC] at AI Ax ⊢;have old:∀b o,s2.heap.get? b=À o->As.get? b=À o:=λb o e=>Ax.extBut b o (zW (v6 (zB e))) (zf _ (hP▸zf _ e))
 have hD:As.get? s2.heap.objs.size=À { cls:=.type "list",data:=.seq ([]:List Ä).toArray }:=Ax.extBut _ _ (zW (jV _)) (zf _ (hP▸zN _ rfl));have Lm:∀b∈fp,b<s2.heap.objs.size:=λb hb=>by
  obtain⟨o,ho,_⟩:=T.obj 0 _ AF b hb;exact zB ho
 have NH:H2 s2.heap.objs.size=Á:=I2.hok.fresh (zj _);have I3:=Qm (X:=X) (tk:=s2.toks+([]:List (Ç×Ä)).length) I2 Ag hN ok AH Ar f2 Lm AI old hD;have L6:tn 0 As:=T.keep 0 _ _ AF λb _ o e=>old b o e
 have MN:∀b∈fp,(upd H2 s2.heap.objs.size (.lst [])) b=Á:=λb hb=>by
  rw[kQ (zW (Lm b hb))];exact(f2 b hb).1
 have NI:∀{H:Hp},(∀b∈fp,H b=Á)->∀b∈fp,ah (w9 X scope cs (s2.heap.objs.size+1) N' s2 H2 fp) [] H b:=λhn b hb=>by
  obtain⟨g0,g1,g2,g3,g4,g5⟩:=f2 b hb;refine⟨hn b hb,zW (v6 (Lm b hb)),λz=>?_,.inl hb,λx c e=>g4 x c (AH x c e),λp hp=>absurd (show p∈([]:List (È×î)) from hp) (by simp)⟩;rcases zb.mp (I2.stkSub b z) with q | q
  .exact g1 q
  .exact g2 q
 have loop:∀s:Å,s={ s2 with heap:=As,toks:=s2.toks+([]:List (Ç×Ä)).length }->
   Ď (Ì X.prog X.w) X.A (.compLoop (.ListComp elt [⟨tg,iter,ifs,0⟩] scope pos) 0 (.ref it) (.ref s2.heap.objs.size) (compEnvC scope cs (s2.heap.objs.size+1) X.env)) (RR (.ref s2.heap.objs.size) (s2.heap.objs.size+1)) s:=by
  rintro s rfl
  refine sY (λn s=>∃i hJ H ρ' gy hh,Inv (w9 X scope cs (s2.heap.objs.size+1) N' s2 H2 fp) [] hJ H s/\tn i s.heap/\(∀b∈fp,H b=Á)/\HR X.K cl gy H hh/\ER X.K gy H ρ' hJ/\Ext μ H2 gy H/\nl<=ρ'.length/\gy[h.length]?=À s2.heap.objs.size /\
   xZ src nl g t m h.length n i ρ' hh=À h') ?_ k0 ?_
  .rintro n s ⟨i,hJ,H,ρ',gy,hh,I,st,fr,R,PB,E',hl,hm,e⟩
   cases n with
   | zero=>cases e
   | succ n=>
    unfold xZ at e;obtain⟨jg,js⟩:=j gy H hh E' R i;cases es:x6 src i hh with
    | none=>rw[es] at e;cases e
    | some o=>
     rw[es] at e;cases o with
     | none=>
      cases e;refine kC (T.done (w9 X scope cs (s2.heap.objs.size+1) N' s2 H2 fp) rfl rfl rfl hc i [] s hJ H _ I (NI fr) st (js es)) ?_;rintro r s1 ⟨hr,I1⟩;subst hr;obtain⟨m1,Oq,_⟩:=I1.loc;refine Pz _ _ s1 H gy m1 (zW (jV _)) Oq ?_ I1.free (vB _) E' R hm;exact I2.call' I1.os I1.base I1.hok I1.bare λb hb=>⟨(f2 b hb).2.2.2.1,(f2 b hb).2.1,(f2 b hb).2.2.2.2.1,(f2 b hb).2.2.2.2.2⟩
     | some w=>
      obtain⟨go,yl⟩:=jg w es;simp only at e;cases e1:g w ρ' hh with
      | none=>rw[e1] at e;cases e
      | some p=>
       obtain⟨ρ1,h1⟩:=p;rw[e1] at e;simp only at e;refine kC (T.item (w9 X scope cs (s2.heap.objs.size+1) N' s2 H2 fp) rfl rfl rfl hc i [] s hJ H _ I (NI fr) st go) ?_;rintro r s1 ⟨u,hr,q1⟩;subst hr;refine kC q1 ?_;rintro _ s5 ⟨x,H5,I5,r5,y5,FM,Np⟩;obtain⟨E5,R5,rx⟩:=yl x H5 y5;have Nq:=I5.pinned (NI Np) (T.obj _ _ FM);refine kC (hg cs _ s2 H2 fp _ s5 hJ H5 x u (λEt H6=>∃Ex,Ext gy H5 Ex H6/\HR X.K cl Ex H6 h1/\ER X.K Ex H6 ρ1 Et) Nq r5 ⟨gy,hh,ρ',w,ρ1,h1,R5,PB.ext R E5,rx,e1,λEx H6 Et E6 R6 LL=>⟨Ex,E6,R6,LL⟩⟩) ?_;rintro _ s6 ⟨Et,H6,I6,Ex,E6,R6,LL⟩;have PD:nl<=ρ1.length:=by
        rw[LL.len,I6.len];show nl<=N'.length
        rw[ok.len];omega
       have PF:Ext μ H2 Ex H6:=E'.trans (E5.trans E6);have fin:∀{s9:Å} {H9:Hp} {MV:List È} {h9:MH},Inv (w9 X scope cs (s2.heap.objs.size+1) N' s2 H2 fp) ([]++li fp s5.heap) Et H9 s9->Ext Ex H6 MV H9->HR X.K cl MV H9 h9->xZ src nl g t m h.length n (i+1) (ML.blank nl ρ1) h9=À h'->
         ∃k,k<n+1/\∃i hJ H ρ' gy hh,Inv (w9 X scope cs (s2.heap.objs.size+1) N' s2 H2 fp) [] hJ H s9/\tn i s9.heap/\(∀b∈fp,H b=Á)/\HR X.K cl gy H hh/\ER X.K gy H ρ' hJ/\Ext μ H2 gy H/\nl<=ρ'.length/\gy[h.length]?=À s2.heap.objs.size/\xZ src nl g t m h.length k i ρ' hh=À h':=by
        intro s9 H9 MV h9 I9 E9 R9 e9;refine⟨n,jV n,i+1,Et,H9,ML.blank nl ρ1,MV,h9,I9.unpinned,T.keep _ _ _ FM λb hb o e=>(I9.pin (b,o) (kY _ (kY _ (cy hb e)))).1,λb hb=>?_,R9,(LL.ext R6 E9).blank PD,PF.trans E9,?_,E9.get (E6.get (E5.get hm)),e9⟩
        .obtain⟨o,e,d⟩:=T.obj _ _ FM b hb
         exact(I9.pin (b,o) (kY _ (kY _ (cy hb e)))).2.1
        .unfold ML.blank;simp
       cases e2:t ρ1 h1 with
       | none=>rw[e2] at e;cases e
       | some p2=>
        obtain⟨bb,h2⟩:=p2;rw[e2] at e;refine kC (ht cs _ s2 H2 fp _ s6 Et H6 (λb' H7=>b'=bb/\∃Lo,Ext Ex H6 Lo H7/\HR X.K cl Lo H7 h2) I6 ⟨Ex,h1,ρ1,bb,h2,R6,LL,e2,λLo H7 E7 R7=>⟨rfl,Lo,E7,R7⟩⟩) ?_;rintro b' s7 ⟨H7,I7,Lq,Lo,E7,R7⟩;subst Lq;cases b' with
        | false=>
         rw[kI zX];exact fin I7 E7 R7 e
        | true=>
         rw[z9 rfl];simp only at e;cases e3:m ρ1 h2 with
         | none=>rw[e3] at e;cases e
         | some p3=>
          obtain⟨y,h3⟩:=p3;rw[e3] at e;simp only at e;refine kC (he cs _ s2 H2 fp _ s7 Et H7 (λv H8=>∃Lr,Ext Lo H7 Lr H8/\HR X.K cl Lr H8 h3/\RW X.K Lr H8 y v) I7 ⟨Lo,h2,ρ1,y,h3,R7,LL.ext R6 E7,e3,λLr H8 v E8 R8 r8=>⟨Lr,E8,R8,r8⟩⟩) ?_;rintro xv s8 ⟨v,H8,I8,rv,Lr,E8,R8,r8⟩;split at e
          .rename_i acc ho
           split at e
           .rename_i Al
            have MW:Lr[h.length]?=À s2.heap.objs.size:=E8.get (E7.get (E6.get (E5.get hm)));obtain⟨vs,hv,ra⟩:=R8.ob _ _ _ MW ho;refine kC (pN (X:=w9 X scope cs (s2.heap.objs.size+1) N' s2 H2 fp) _ s8 Et H8 (.ref s2.heap.objs.size) [v] (.ref s2.heap.objs.size) [xv] (λ_ H9=>H9=upd H8 s2.heap.objs.size (.lst (vs++[v]))) I8 rfl (.cons rv .nil) ⟨_,vs,v,rfl,rfl,hv,zL (by rw[<-ra.length];exact Al) xW,rfl⟩) ?_;rintro _ s9 ⟨_,H9,I9,_,PH⟩;subst PH;exact fin I9 (E7.trans (E8.trans (.put MW))) (R8.put (o:=.lst (acc++[y])) MW ⟨vs++[v],qo,(ra.append (.cons r8 .nil)).ext R8 (.put MW)⟩) e
           .cases e
          .cases e
  .have R3:HR X.K cl (μ++[s2.heap.objs.size]) (upd H2 s2.heap.objs.size (.lst [])) (h++[.lst []]):=R2.new NH ⟨[],qo,.nil⟩
   exact⟨0,σC nl ks σ,_,ρC nl ks ρ,_,_,I3,L6,MN,R3,(IO er).ext R2 (.new NH),.new NH,by unfold ρC;simp,by rw[<-R2.len];simp,e⟩
 exact codeAny_compStart_list (loop _ rfl) (T.self _ 0 _ _ _ L6 (loop _ rfl))
def nh{H:Hp}{h1:MH}
  (hc:X.calm=Ã) (Ag:X.env.scope=sc) (hN:X.N=N) (ok:CompOk sc N scope N' nl ks) (hi:SI X cl tg iter mi)
  (hg:∀cs C s₀ H₀ ex,SG (w9 X scope cs C N' s₀ H₀ ex) cl tg g) (ht:∀cs C s₀ H₀ ex,lQ (w9 X scope cs C N' s₀ H₀ ex) cl ifs t) (he:∀cs C s₀ H₀ ex,SE (w9 X scope cs C N' s₀ H₀ ex) cl elt m)
  (I:Inv X ag σ H s) (R:HR X.K cl μ H h) (er:ER X.K μ H ρ σ) (e:aE mi nl ks g t m ρ h=À (n0,h1,h2)) (hs:∀x,á iter X.env x=pure x)
  (k:∀D C s' H' gy m' s2 H1 en,D≠C->s'.heap.Ns C m'->Inv X ag σ H' s'->H' C=Á->X.env.locals≠C->(∀x c,X.env.cells.lookup x=À c->c≠C)->(X.s₀.heap.objs.size<=C)->(∀p∈X.pn++ag,p.1≠C)->Inv X ag σ H1 s2->Ext μ H en H1->HR X.K cl en H1 h1->Ext en H1 gy H'->HR X.K cl gy H' h2->h1.length=n0->gy[n0]?=À D->
   compPost (Ì X.prog X.w) X.A X.xe use Q (.ref D) C (.ok .next) s') :
  Ê (Ì X.prog X.w) X.A (ŝ (.ListComp elt [⟨tg,iter,ifs,0⟩] scope pos) scope X.env p2 (newList []) Â (Ú iter X.env) use) Q X.xe s:=by
 subst Ag;have AE:∀y∈scope.names,y.2=.free->∃c,X.env.cells.lookup y.1=À c:=λy hy e=>I.ok.has y.1 (ly (ok.fall y hy e))
 obtain⟨cs,Mq,AH,Ar⟩:=rT AE;have key:∀{src:Src} {k0:Nat},mi ρ h=À (src,h1)->xZ src nl g t m h1.length k0 0 (ρC nl ks ρ) (h1++[.lst []])=À h2->n0=h1.length->
   Ê (Ì X.prog X.w) X.A (ŝ (.ListComp elt [⟨tg,iter,ifs,0⟩] scope pos) scope X.env p2 (newList []) Â (Ú iter X.env) use) Q X.xe s:=by
  intro src k0 e1 e2 Ox;subst Ox;refine wpAny_comprehension_free (use:=use) rfl hs Mq ok.kind ok.names ?_;refine kC (hi ag s σ H (λJ H1=>∃en,Ext μ H en H1/\HR X.K cl en H1 h1/\JR X.K cl J src en H1) I ⟨μ,h,ρ,src,h1,R,er,e1,λen H1 J E1 R1 j=>⟨en,E1,R1,j⟩⟩) λv s1 q1=>kC q1 λNn s2 q2=>?_
  obtain⟨it,fp,tn,J,H2,rfl,I2,T,AF,f2,hY,E2,R2,j⟩:=q2;refine QF (RR:=λacc C=>compPost (Ì X.prog X.w) X.A X.xe use Q acc C) hc rfl hN ok hg ht he I2 T AF f2 AH Ar R2 (er.ext R E2) j e2 ?_;intro D C s' H' gy m' MX Ah I' Ls hC E' R' hm;refine k D C s' H' gy m' s2 H2 hY MX Ah I' Ls (zW (zL I2.lt hC)) (λx c e z=>?_) (zK I2.sz hC) (λp hp z=>?_) I2 E2 R2 E' R' rfl hm
  .obtain⟨v,o,ho,_⟩:=I2.cell x c e
   exact absurd (zL (zB ho) (z▸hC)) (jF _)
  .exact absurd (zL (zB (I2.pin p hp).1) (z▸hC)) (jF _)
 unfold aE at e;split at e
 .cases e
 .rename_i l PJ e1
  split at e
  .rename_i NJ e2
   cases e;have q:=fF (nl:=nl) (g:=g) (t:=t) (m:=m) (n0:=h1.length) l (l.length+1) 0 (ρC nl ks ρ) (h1++[.lst []]) ∅ ∅;rw[wV] at q;exact key e1 (q.trans e2) rfl
  .cases e
 .rename_i n PJ e1
  split at e
  .rename_i NJ e2
   cases e;exact key e1 e2 rfl
  .cases e
def WQ(sc:ã)(N N':List Ç)(nl:Nat)(ks:List Nat)(hc:X.calm=Ã)(ok:uV sc N scope N' nl ks=Ã)(hi:SI X cl tg iter mi)
  (hg:∀cs C s₀ H₀ ex,SG (w9 X scope cs C N' s₀ H₀ ex) cl tg g) (ht:∀cs C s₀ H₀ ex,lQ (w9 X scope cs C N' s₀ H₀ ex) cl ifs t) (he:∀cs C s₀ H₀ ex,SE (w9 X scope cs C N' s₀ H₀ ex) cl elt m)
  (Ag:↥(X.env.scope=sc)) (hN:↥(X.N=N)) (hs:∀x,á iter X.env x=pure x:=by intro _;rfl):SE X cl (.ListComp elt [⟨tg,iter,ifs,0⟩] scope pos) (ue mi nl ks g t m):=by
 rintro ag s σ H Q I ⟨μ,h,ρ,w,h',R,er,e,k⟩;unfold ue at e;split at e
 .rename_i n0 h1 h2 e1
  cases e;rw[eval_ListComp];refine nh (use:=Á) hc Ag hN (bE ok) hi hg ht he I R er e1 hs λD C s' H' gy m' s2 H1 en MX Ah I' Ls hL LM Mr Ms I2 E1 R1 E' R' hn hm=>?_
  exact⟨m',Ah,λPL Mt=>⟨.ref D,H',I'.turned (t':=s'.toks) (λb o hb e=>(Mt.2 b hb).trans e) Ls (kZ hL) (.inr Mr) LM Ms,rfl,k gy H' _ (E1.trans E') R' (.ref hm)⟩⟩
 .cases e
def nB{K:S5}{μ en gy:List È}{H H1 H':Hp}{h1 h2:MH}{D:È}(k:KQ K cl μ H h1 (.fls l) Q)(E1:Ext μ H en H1)(R1:HR K cl en H1 h1)(E':Ext en H1 gy H')(R':HR K cl gy H' h2)(hn:h1.length=n0)(hm:gy[n0]?=À D)
  (ho:h2[n0]?=À (.lst l)) (pre:h1<+:h2) (lo:lows h1.length l=Ã):Q (.ref D) H':=by
 obtain⟨vs,hv,rv⟩:=R'.ob _ _ _ hm ho;have cut:Ext en H1 en H':=⟨zR _,λb o e n=>⟨(E'.fr b o e n).1,n⟩⟩;refine k en H' _ (E1.trans cut) (R1.cut E' R' pre) (.fls (.inl ⟨.inl hv,λz=>?_⟩) (RWs.cut E'.pre (by rw[R1.len];exact lo) rv));obtain⟨q,hq⟩:=jC.mp z;have h3:=E'.get hq;have Al:q<en.length:=(zT.mp hq).1;obtain⟨z1,z2⟩:=zT.mp h3;obtain⟨z3,z4⟩:=zT.mp hm;have:q=n0:=(vm R'.nd).mp (z2.trans z4.symm);subst this;rw[R1.len] at Al;omega
def U8(sc:ã)(N N':List Ç)(nl:Nat)(ks:List Nat)(hc:X.calm=Ã)(ok:uV sc N scope N' nl ks=Ã)(hi:SI X cl tg iter mi)
  (hg:∀cs C s₀ H₀ ex,SG (w9 X scope cs C N' s₀ H₀ ex) cl tg g) (ht:∀cs C s₀ H₀ ex,lQ (w9 X scope cs C N' s₀ H₀ ex) cl ifs t) (he:∀cs C s₀ H₀ ex,SE (w9 X scope cs C N' s₀ H₀ ex) cl elt m)
  (Ag:↥(X.env.scope=sc)) (hN:↥(X.N=N)) (hs:∀x,á iter X.env x=pure x:=by intro _;rfl):SE X cl (.ListComp elt [⟨tg,iter,ifs,0⟩] scope pos) (j1 mi nl ks g t m):=by
 rintro ag s σ H Q I ⟨μ,h,ρ,w,h',R,er,e,k⟩;unfold j1 at e;split at e
 .rename_i n0 h1 h2 e1
  split at e
  .rename_i l ho
   split at e
   .rename_i c
    cases e;rw[eval_ListComp];refine nh (use:=Á) hc Ag hN (bE ok) hi hg ht he I R er e1 hs λD C s' H' gy m' s2 H1 en MX Ah I' Ls hL LM Mr Ms I2 E1 R1 E' R' hn hm=>?_
    exact⟨m',Ah,λPL Mt=>⟨.ref D,H',I'.turned (t':=s'.toks) (λb o hb e=>(Mt.2 b hb).trans e) Ls (kZ hL) (.inr Mr) LM Ms,rfl,nB k E1 R1 E' R' hn hm ho c.1 c.2⟩⟩
   .cases e
  .cases e
 .cases e
def nA{AJ:Ċ}{H:Hp}{h1:MH}{i:Nat}{D:Ends}
  (AL:X.N.Nodup) (Dx:X.N[i]?=À x) (hx:X.env.kindOf x=À .local) (AX:ì (.ListComp elt [⟨tg,iter,ifs,0⟩] scope pos) (À (.Name x px)) AJ.line X.env=pure Ã)
  (hc:X.calm=Ã) (Ag:X.env.scope=sc) (hN:X.N=N) (ok:CompOk sc N scope N' nl ks) (hi:SI X cl tg iter mi)
  (hg:∀cs C s₀ H₀ ex,SG (w9 X scope cs C N' s₀ H₀ ex) cl tg g) (ht:∀cs C s₀ H₀ ex,lQ (w9 X scope cs C N' s₀ H₀ ex) cl ifs t) (he:∀cs C s₀ H₀ ex,SE (w9 X scope cs C N' s₀ H₀ ex) cl elt m)
  (I:Inv X ag σ H s) (R:HR X.K cl μ H h) (er:ER X.K μ H ρ σ) (e:aE mi nl ks g t m ρ h=À (n0,h1,h2)) (hs:∀x,á iter X.env x=pure x)
  (k:∀A H' gy H1 en,Ext μ H en H1->HR X.K cl en H1 h1->Ext en H1 gy H'->HR X.K cl gy H' h2->h1.length=n0->gy[n0]?=À A->D.nx (σ.set i (À (.ref A))) H') :
  Ê (Ì X.prog X.w) X.A (exec (.Assign [.Name x px] (.ListComp elt [⟨tg,iter,ifs,0⟩] scope pos) AJ) X.env) (SP X ag D) X.xe s:=by
 rw[exec_Assign_Name_used _ _ _ _ AX];refine za (yu (za ?_));show Ê _ X.A (do let _ <-ŝ (.ListComp elt [⟨tg,iter,ifs,0⟩] scope pos) scope X.env _ (newList []) Â (Ú iter X.env) (À (ĥ (.Name x px) X.env))) _ _ s
 refine za (qD (nh (use:=À (ĥ (.Name x px) X.env)) (Q:=λ_ s'=>SP X ag D .next s') hc Ag hN ok hi hg ht he I R er e hs ?_) (λ_ s' hq=>zr (zr hq)) λ_ _ e=>e);intro A C s' H' gy m' s2 H1 en MX Ah I' Ls hL LM Mr Ms I2 E1 R1 E' R' hn hm;show Ê _ X.A (ĥ (.Name x px) X.env (.ref A)) _ _ _
 refine ŧ (pE (v:=.ref A) I' AL Dx (.inl hx) rfl (λL9 PM Mt=>?_) (.inr hx));obtain⟨a,sb,ha⟩:=Mt;have PN:C≠a:=by
  rcases ha with rfl | ha
  .exact kZ hL
  .exact λz=>LM x a ha z.symm
 refine⟨m',Ah.sameBut sb PN,λh3 PP=>⟨_,H',PM.turned (t':=L9.toks) (λb o hb e=>(PP.2 b hb).trans e) Ls (kZ hL) (.inr Mr) LM Ms,k A H' gy H1 en E1 R1 E' R' hn hm⟩⟩
def YY(i:Nat)(sc:ã)(N N':List Ç)(nl:Nat)(ks:List Nat){AJ:Ċ}(AL:X.N.Nodup)(hc:X.calm=Ã)(ok:uV sc N scope N' nl ks=Ã)(hi:SI X cl tg iter mi)
  (hg:∀cs C s₀ H₀ ex,SG (w9 X scope cs C N' s₀ H₀ ex) cl tg g) (ht:∀cs C s₀ H₀ ex,lQ (w9 X scope cs C N' s₀ H₀ ex) cl ifs t) (he:∀cs C s₀ H₀ ex,SE (w9 X scope cs C N' s₀ H₀ ex) cl elt m)
  (Ag:↥(X.env.scope=sc)) (hN:↥(X.N=N)) (hs:∀x,á iter X.env x=pure x:=by intro _;rfl) (Dx:↥(X.N[i]?=À x)) (hx:↥(X.env.kindOf x=À .local))
  (AX:↥(ì (.ListComp elt [⟨tg,iter,ifs,0⟩] scope pos) (À (.Name x px)) AJ.line X.env=pure Ã)):SS X cl (.Assign [.Name x px] (.ListComp elt [⟨tg,iter,ifs,0⟩] scope pos) AJ) (zI (ue mi nl ks g t m) (zD i)):=by
 rintro ag s σ H D I ⟨μ,h,ρ,fl,h',R,er,e,k⟩;unfold zI at e;split at e
 .rename_i w h2 e1
  split at e
  .rename_i ρ2 h3 e2
   cases e;unfold ue at e1;split at e1
   .rename_i n0 h1 NJ e0
    cases e1;unfold zD at e2;split at e2
    .rename_i ED
     cases e2;exact nA AL Dx hx AX hc Ag hN (bE ok) hi hg ht he I R er e0 hs λA H' gy H1 en E1 R1 E' R' hn hm=>k gy H' (E1.trans E') R' _ ((er.ext R (E1.trans E')).set ED (.ref hm))
    .cases e2
   .cases e1
  .cases e
 .cases e
def B0(i:Nat)(sc:ã)(N N':List Ç)(nl:Nat)(ks:List Nat){elt tg iter:Ë}{ifs:List Ë}{scope:ã}{pos AJ px:Ċ}{x:Ç}(AL:X.N.Nodup)(hc:X.calm=Ã)(ok:uV sc N scope N' nl ks=Ã)(hi:SI X cl tg iter mi)
  (hg:∀cs C s₀ H₀ ex,SG (w9 X scope cs C N' s₀ H₀ ex) cl tg g) (ht:∀cs C s₀ H₀ ex,lQ (w9 X scope cs C N' s₀ H₀ ex) cl ifs t) (he:∀cs C s₀ H₀ ex,SE (w9 X scope cs C N' s₀ H₀ ex) cl elt m)
  (Ag:↥(X.env.scope=sc)) (hN:↥(X.N=N)) (hs:∀x,á iter X.env x=pure x:=by intro _;rfl) (Dx:↥(X.N[i]?=À x)) (hx:↥(X.env.kindOf x=À .local))
  (AX:↥(ì (.ListComp elt [⟨tg,iter,ifs,0⟩] scope pos) (À (.Name x px)) AJ.line X.env=pure Ã)):SS X cl (.Assign [.Name x px] (.ListComp elt [⟨tg,iter,ifs,0⟩] scope pos) AJ) (zI (j1 mi nl ks g t m) (zD i)):=by
 rintro ag s σ H D I ⟨μ,h,ρ,fl,h',R,er,e,k⟩;unfold zI at e;split at e
 .rename_i w h2 e1
  split at e
  .rename_i ρ2 h3 e2
   cases e;unfold j1 at e1;split at e1
   .rename_i n0 h1 NJ e0
    split at e1
    .rename_i l ho
     split at e1
     .rename_i c
      cases e1;unfold zD at e2;split at e2
      .rename_i ED
       cases e2;refine nA AL Dx hx AX hc Ag hN (bE ok) hi hg ht he I R er e0 hs λA H' gy H1 en E1 R1 E' R' hn hm=>?_
       exact nB (Q:=λv H'=>D.nx (σ.set i (À v)) H') (λAy H3 v E3 R3 r3=>k Ay H3 E3 R3 _ ((er.ext R E3).set ED r3)) E1 R1 E' R' hn hm ho c.1 c.2
      .cases e2
     .cases e1
    .cases e1
   .cases e1
  .cases e
 .cases e
end
def Js{X:Cx}{ag:List (È×î)}{σ:L2.St}{H:Hp}{s:Å}{h':Ï}{t':Nat}{fp:List È}(I:Inv X ag σ H s)(k:∀b o,b∉fp->s.heap.get? b=À o->h'.get? b=À o)(hf:∀b∈fp,ah X ag H b) :
  Inv X ag σ H { s with heap:=h',toks:=t' }:=by
 have away:∀b u,H b=À u->b∉fp:=λb u e z=>by rw[(hf b z).1] at e;cases e
 refine I.step (g':=s.gens) (d':=s.drawn) (ch:=fp) (λb hb=>⟨(hf b hb).2.2.2.1,(hf b hb).2.1,(hf b hb).2.2.2.2.1,(hf b hb).2.2.2.2.2⟩) (λb o _ _ hc e _=>k b o hc e) (λb o _ _ hc e _=>⟨o.slots,k b o hc e⟩) (λ_ _ _ _ n=>n)
  (λb o hc e=>⟨o,k b o hc e⟩) (λ_ _ e=>e) (λ_ _ _ e=>e) (λb ps e=>⟨#[],by rw[e];simp⟩) (λm hm=>?_) (λb u e=>?_) I.bare
 .obtain⟨o,es,ep,ho,r⟩:=hm
  exact⟨o,es,ep,k _ o (λz=>(hf _ z).2.1 rfl) ho,r⟩
 .refine(I.hok b u e).stay (λc v hc q=>k c v ?_ q) (λ_ q=>q) λ_ _ q=>q
  rcases hc with z | z
  .rw[z];exact away b u e
  .exact away c _ z
structure vb(it a:È)(P:Nat->Ï->Prop)(C:Ï->List Ä->Prop):Prop where
 keep:∀{i:Nat} {h h':Ï},P i h->(∀o,h.get? it=À o->h'.get? it=À o)->P i h'
 keepC:∀{h h':Ï} {l:List Ä},C h l->(∀o,h.get? a=À o->h'.get? a=À o)->C h' l
 obj:∀{i:Nat} {h:Ï},P i h->∃o,h.get? it=À o/\∀v,o.data≠.cell v
 item:∀{prog:Í} {w:Ñ} {A:Ö} {E:Ä->Å->Prop} {s:Å} {i:Nat} {l:List Ä} {x:Ä} {Q:Ä->Å->Prop},P i s.heap->C s.heap l->l[i]?=À x->
  (∀h',P (i+1) h'->ć it s.heap h'->Q x { s with heap:=h' })->Ê (Ì prog w) A (Ð (.ref it)) Q E s
 last:∀{prog:Í} {w:Ñ} {A:Ö} {E:Ä->Å->Prop} {s:Å} {i:Nat} {l:List Ä} {Q:Ä->Å->Prop},A.handled=Á->P i s.heap->C s.heap l->l[i]?=Á->
  (∀h' e,Ĥ it s.heap h'->(∃o,h'.get? e=À o/\o.cls=.type "StopIteration")->E (.ref e) { s with heap:=h' })->Ê (Ì prog w) A (Ð (.ref it)) Q E s
def Ws(it a:È):vb it a (λi h=>h.IsListIter it a i) (λh l=>h.IsList a l.toArray) where
 keep:=λp k=>p.at λo e=>k o e
 keepC:=λp k=>p.at λo e=>k o e
 obj:=λ⟨o,e,_,d⟩=>⟨o,e,λv z=>by rw[d] at z;cases z⟩
 item:=λp c e q=>wpAny_nextOf_list_item p c (by simpa using e) q
 last:=λhh p c e q=>wpAny_nextOf_list_end hh p c (by simpa using e) q
section
variable{prog:Í}{w:Ñ}{A:Ö}{E:Ä->Å->Prop}{s:Å}
def mB{i:Nat}{items:Array Ä}(hit:s.heap.IsTupleIter it t i)(ht:s.heap.IsTuple t items)(hx:items[i]?=À x)
  (hQ:∀h',h'.IsTupleIter it t (i+1)->ć it s.heap h'->Q x { s with heap:=h' }):Ê (Ì prog w) A (Ð (.ref it)) Q E s:=by
 obtain⟨oi,gi,ci,di⟩:=id hit;obtain⟨ot,gt,_,nt,dt⟩:=ht;unfold Ð;refine za (jq (name:=õ "__next__") hit.typeIs qT (jy qT hit.typeIs xu ?_ (xf _)));show Ê _ _ (Ŕ (.ref it) 0 >>= _) _ _ s;refine za (jj gi di (x:=.ref t) rfl ?_)
 show Ê _ _ (if (Ò t==ë)=Ã then _ else _) _ _ s;rw[kI (show ¬((Ò t==ë)=Ã) from zX)]
 show Ê _ _ (Ŕ (.ref it) 1 >>= _) _ _ s;refine za (jj gi di (x:=.int i 0) rfl ?_)
 show Ê _ _ (seqItems? (.ref t) >>= _) _ _ s;refine za (jJ gt dt ?_)
 erw[qj,hx];refine za (wz gi di (by simp) (zr ⟨x,rfl,zr (hQ _ ?_ (qx ..))⟩));exact⟨_,jO _ gi (yf (qJ di _)),(ů ..).trans ci,by rw[qJ di];simp[ă]⟩
def ni{i:Nat}{items:Array Ä}(hh:A.handled=Á)(hit:s.heap.IsTupleIter it t i)(ht:s.heap.IsTuple t items)(hx:items[i]?=Á)
  (hE:∀h' e,Ĥ it s.heap h'->(∃o,h'.get? e=À o/\o.cls=.type "StopIteration")->E (.ref e) { s with heap:=h' }):Ê (Ì prog w) A (Ð (.ref it)) Q E s:=by
 obtain⟨oi,gi,ci,di⟩:=id hit;obtain⟨ot,gt,_,nt,dt⟩:=ht;unfold Ð;refine za (jq (name:=õ "__next__") hit.typeIs qT (jy qT hit.typeIs xu ?_ (xf _)));show Ê _ _ (Ŕ (.ref it) 0 >>= _) _ _ s;refine za (jj gi di (x:=.ref t) rfl ?_)
 show Ê _ _ (if (Ò t==ë)=Ã then _ else _) _ _ s;rw[kI (show ¬((Ò t==ë)=Ã) from zX)]
 show Ê _ _ (Ŕ (.ref it) 1 >>= _) _ _ s;refine za (jj gi di (x:=.int i 0) rfl ?_)
 show Ê _ _ (seqItems? (.ref t) >>= _) _ _ s;refine za (jJ gt dt ?_)
 erw[qj,hx];refine za (qC (za (wz gi di (by simp) ?_)));show Ê _ _ (newExc (.type "StopIteration") [] >>= _) _ _ _
 refine za ?_;erw[newExc,newTuple];refine za (jo ?_ (by size_fits));refine za (m:=ė _ _) (jU (a:=ë) (by first | rfl | (erw[ė];rfl)) ?_);refine jo ?_ (by size_fits);erw[raiseNew];refine za (Ş ?_);first | rw[show A.in1.handled=Á from hh] | rw[hh]
 refine za (zr (wL ?_));exact hE _ _ (((qx ..).extBut.push _).push _) ⟨_,zN _ rfl,rfl⟩
end
def VD(it a:È):vb it a (λi h=>h.IsTupleIter it a i) (λh l=>h.IsTuple a l.toArray) where
 keep:=λp k=>p.at λo e=>k o e
 keepC:=λp k=>p.at λo e=>k o e
 obj:=λ⟨o,e,_,d⟩=>⟨o,e,λv z=>by rw[d] at z;cases z⟩
 item:=λp c e q=>mB p c (by simpa using e) q
 last:=λhh p c e q=>ni hh p c (by simpa using e) q
structure ZApart(z TI TO i1 i2 a1 a2:È):Prop where
 nd:[z,TI,TO,i1,i2].Nodup
 f1:a1∉[z,TI,TO,i1,i2]
 f2:a2∉[z,TI,TO,i1,i2]
noncomputable def Zl(z TI TO i1 i2:È)(P1 P2:Nat->Ï->Prop)(f0:Ä)(k1 k2:Nat)(h:Ï):Prop:=Ű h z TI TO f0/\ń h TI (.ref i1) (.ref i2)/\(∃a b,ń h TO a b)/\P1 k1 h/\P2 k2 h
section
variable{prog:Í}{w:Ñ}{A:Ö}{E:Ä->Å->Prop}{s:Å}{z TI TO i1 i2 a1 a2:È}{P1 P2:Nat->Ï->Prop}{C1 C2:Ï->List Ä->Prop}
def tJ(S1:vb i1 a1 P1 C1)(S2:vb i2 a2 P2 C2)(D:ZApart z TI TO i1 i2 a1 a2){l1 l2:List Ä}(st:Zl z TI TO i1 i2 P1 P2 .none k k s.heap)(c1:C1 s.heap l1)(c2:C2 s.heap l2)(hx:l1[k]?=À x)(hy:l2[k]?=À y)
  (hQ:∀h',Zl z TI TO i1 i2 P1 P2 (ă s.heap.objs.size) (k+1) (k+1) h'->h'.get? s.heap.objs.size=À { cls:=.type "tuple",data:=.seq #[x,y] }->(∀c o,c∉[z,TI,TO,i1,i2]->s.heap.get? c=À o->h'.get? c=À o)->Q (À (.ref s.heap.objs.size)) { s with heap:=h' }) :
  Ê (Ì prog w) A (Ā (.ref z)) Q E s:=by
 obtain⟨hz,AR,⟨a,b,EH⟩,p1,p2⟩:=st;have n:=D.nd;erw[jB,zb,zc,zO,j6] at n;obtain⟨⟨n1,n2,n3,n4⟩,⟨n5,n6,n7⟩,⟨n8,n9⟩,EI,_⟩:=n;have g1:=D.f1;have g2:=D.f2;erw[zb,zc,zO,j6] at g1 g2;obtain⟨NK,PQ,PU,PV,PX⟩:=g1;obtain⟨NL,PY,NM,NN,PZ⟩:=g2;have hT:s.TypeIs (.ref z) "zip":=⟨_,hz,rfl⟩;unfold Ā;refine za (j4 (jq (name:=õ "__next__") hT qw (jy qw hT wX ?_ (wK _))));show Ê _ _ (Ŕ (.ref z) 2 >>= _) _ _ _;refine za (jj hz rfl (x:=.bool Â) rfl ?_)
 show Ê _ _ (Ŕ (.ref z) 3 >>= _) _ _ _;refine za (jj hz rfl (x:=.ref TI) rfl ?_)
 refine za (jJ AR rfl ?_);show Ê _ _ (Õ (.ref z) >>= _) _ _ _
 refine za ?_;unfold Õ;refine za (jj hz rfl (x:=.none) rfl (zr ?_));erw[kE];refine za (qC ?_);refine za (jj hz rfl (x:=.ref TO) rfl ?_);refine za (qd hz (by simp) λh1 q1 e1=>?_);replace q1:Ű h1 z TI TO .ellipsis:=q1;refine za ?_;erw[List.zipIdx_cons,List.zipIdx_nil,qX,wU];refine za (za (yx ?_));show Ê _ _ (Ð (.ref i1) >>= _) _ _ _
 refine za (S1.item (S1.keep p1 λo e=>e1.extBut _ _ (kZ n3) e) (S1.keepC c1 λo e=>e1.extBut _ _ NK e) hx λh2 r1 e2=>zr ?_);have t2:ń h2 TO a b:=e2.extBut _ _ n8 (e1.extBut _ _ (kZ n2) EH);refine za (jJ t2 rfl ?_);refine za (yh t2 λh3 t3 e3=>?_);replace t3:ń h3 TO x b:=t3
 refine za (xg (zr ?_));refine za (za (yx ?_));show Ê _ _ (Ð (.ref i2) >>= _) _ _ _
 refine za (S2.item (S2.keep p2 λo e=>e3.extBut _ _ (kZ n9) (e2.extBut _ _ (kZ EI) (e1.extBut _ _ (kZ n4) e))) (S2.keepC c2 λo e=>e3.extBut _ _ NM (e2.extBut _ _ NN (e1.extBut _ _ NL e))) hy λh4 r2 e4=>zr ?_);have t4:ń h4 TO x b:=e4.extBut _ _ n9 t3;refine za (jJ t4 rfl ?_);refine za (yh t4 λh5 t5 e5=>?_);replace t5:ń h5 TO x y:=t5
 refine za (xg (zr (zr ?_)));refine za (jJ t5 rfl ?_);refine za (wpAny_newTuple ?_);have sz:h5.objs.size=s.heap.objs.size:=by rw[e5.1,e4.1,e3.1,e2.1,e1.1]
 have all:∀c o,c∉[z,TI,TO,i1,i2]->s.heap.get? c=À o->h5.get? c=À o:=λc o hc e=>by
  erw[zb,zc,zO,j6] at hc;exact e5.extBut _ _ hc.2.2.1 (e4.extBut _ _ hc.2.2.2.2 (e3.extBut _ _ hc.2.2.1 (e2.extBut _ _ hc.2.2.2.1 (e1.extBut _ _ hc.1 e))))
 have z5:Ű h5 z TI TO .ellipsis:=e5.extBut _ _ n2 (e4.extBut _ _ n4 (e3.extBut _ _ n2 (e2.extBut _ _ n3 q1)));have P0:ń h5 TI (.ref i1) (.ref i2):=e5.extBut _ _ n5 (e4.extBut _ _ n7 (e3.extBut _ _ n5 (e2.extBut _ _ n6 (e1.extBut _ _ (kZ n1) AR))));have u1:P1 (k+1) h5:=S1.keep r1 λo e=>e5.extBut _ _ (kZ n8) (e4.extBut _ _ EI (e3.extBut _ _ (kZ n8) e))
 have u2:P2 (k+1) h5:=S2.keep r2 λo e=>e5.extBut _ _ (kZ n9) e
 have MY:z<h5.objs.size:=zB z5;show Ê _ _ (Đ (.ref z) (.ref h5.objs.size) >>= _) _ _ _
 refine za ?_;unfold Đ;have z6:Ű (h5.push { cls:=.type "tuple",data:=.seq #[x,y] }) z TI TO .ellipsis:=zf _ z5;refine za (qd z6 (by simp) λh7 z7 e7=>?_);replace z7:Ű h7 z TI TO (ă h5.objs.size):=z7;refine qd z7 (by simp) λh8 z8 e8=>?_
 replace z8:Ű h8 z TI TO (ă h5.objs.size):=z8
 have up:∀c o,c≠z->h5.get? c=À o->h8.get? c=À o:=λc o c1 e=>e8.extBut _ _ c1 (e7.extBut _ _ c1 (zf _ e))
 have t8:h8.get? h5.objs.size=À { cls:=.type "tuple",data:=.seq #[x,y] }:=e8.extBut _ _ (ql MY) (e7.extBut _ _ (ql MY) (zN _ rfl));rw[sz] at z8 t8;refine zr ⟨_,rfl,zr ?_⟩;show Q (À (.ref h5.objs.size)) _
 rw[sz];exact hQ h8 ⟨z8,up _ _ (kZ n1) P0,⟨x,y,up _ _ (kZ n2) t5⟩,S1.keep u1 λo e=>up _ o (kZ n3) e,S2.keep u2 λo e=>up _ o (kZ n4) e⟩ t8 λc o hc e=>up c o (λq=>hc (by simp[q])) (all c o hc e)
def ZL(S1:vb i1 a1 P1 C1)(S2:vb i2 a2 P2 C2)(D:ZApart z TI TO i1 i2 a1 a2){l1 l2:List Ä}(hh:A.handled=Á)(st:Zl z TI TO i1 i2 P1 P2 .none k k s.heap)(c1:C1 s.heap l1)(c2:C2 s.heap l2)(he:l1[k]?=Á\/l2[k]?=Á)
  (hQ:∀h',(∀c o,c∉[z,TI,TO,i1,i2]->s.heap.get? c=À o->h'.get? c=À o)->Q Á { s with heap:=h' }):Ê (Ì prog w) A (Ā (.ref z)) Q E s:=by
 obtain⟨hz,AR,⟨a,b,EH⟩,p1,p2⟩:=st;have n:=D.nd;erw[jB,zb,zc,zO,j6] at n;obtain⟨⟨n1,n2,n3,n4⟩,⟨n5,n6,n7⟩,⟨n8,n9⟩,EI,_⟩:=n;have g1:=D.f1;have g2:=D.f2;erw[zb,zc,zO,j6] at g1 g2;obtain⟨NK,PQ,PU,PV,PX⟩:=g1;obtain⟨NL,PY,NM,NN,PZ⟩:=g2;have hT:s.TypeIs (.ref z) "zip":=⟨_,hz,rfl⟩;have stop:∀{h':Ï} {e:È},(∃o,h'.get? e=À o/\o.cls=.type "StopIteration")->(∀c o,c∉[z,TI,TO,i1,i2]->s.heap.get? c=À o->h'.get? c=À o)->
   Ê (Ì prog w) A (isInstance (.ref e) (.type "StopIteration") >>= λx=>if x=Ã then pure Á else throw (.ref e)) Q E { s with heap:=h' }:=λ{h' e} ⟨o,ho,hc⟩ kk=>
  za (jY (T:="StopIteration") (b:=Ã) ⟨o,ho,hc⟩ xK (zr (hQ _ kk)))
 unfold Ā;refine za (j4 (jq (name:=õ "__next__") hT qw (jy qw hT wX ?_ (wK _))));show Ê _ _ (Ŕ (.ref z) 2 >>= _) _ _ _;refine za (jj hz rfl (x:=.bool Â) rfl ?_)
 show Ê _ _ (Ŕ (.ref z) 3 >>= _) _ _ _;refine za (jj hz rfl (x:=.ref TI) rfl ?_)
 refine za (jJ AR rfl ?_);show Ê _ _ (Õ (.ref z) >>= _) _ _ _
 refine za ?_;unfold Õ;refine za (jj hz rfl (x:=.none) rfl (zr ?_));erw[kE];refine za (qC ?_);refine za (jj hz rfl (x:=.ref TO) rfl ?_);refine za (qd hz (by simp) λh1 q1 e1=>?_);replace q1:Ű h1 z TI TO .ellipsis:=q1;refine za ?_;erw[List.zipIdx_cons,List.zipIdx_nil,qX,wU];refine za (za (yx ?_));show Ê _ _ (Ð (.ref i1) >>= _) _ _ _
 have Mu:=S1.keep (h':=h1) p1 λo e=>e1.extBut _ _ (kZ n3) e
 have LN:=S1.keepC (h':=h1) c1 λo e=>e1.extBut _ _ NK e
 cases hx:l1[k]? with
 | none=>
  refine za (S1.last hh Mu LN hx ?_);rintro h2 e e2 ⟨oe,ge,ce⟩;have z2:Ű h2 z TI TO .ellipsis:=e2 _ _ n3 q1;have ne:e≠z:=λq=>by subst q;rw[z2] at ge;cases ge;simp at ce
  refine qd z2 (by simp) λh3 _ e3=>?_
  refine stop ⟨oe,e3.extBut _ _ ne ge,ce⟩ λc o hc g=>?_
  erw[zb,zc,zO,j6] at hc;exact e3.extBut _ _ hc.1 (e2 _ _ hc.2.2.2.1 (e1.extBut _ _ hc.1 g))
 | some x=>
  have hy:l2[k]?=Á:=by rcases he with h | h;rw[hx] at h;cases h;exact h
  refine za (S1.item Mu LN hx λh2 r1 e2=>zr ?_);have t2:ń h2 TO a b:=e2.extBut _ _ n8 (e1.extBut _ _ (kZ n2) EH);refine za (jJ t2 rfl ?_);refine za (yh t2 λh3 t3 e3=>?_);refine za (xg (zr ?_));refine za (za (yx ?_));show Ê _ _ (Ð (.ref i2) >>= _) _ _ _
  refine za (S2.last hh (S2.keep p2 λo e=>e3.extBut _ _ (kZ n9) (e2.extBut _ _ (kZ EI) (e1.extBut _ _ (kZ n4) e))) (S2.keepC c2 λo e=>e3.extBut _ _ NM (e2.extBut _ _ NN (e1.extBut _ _ NL e))) hy ?_);rintro h4 e e4 ⟨oe,ge,ce⟩;have z4:Ű h4 z TI TO .ellipsis:=e4 _ _ n4 (e3.extBut _ _ n2 (e2.extBut _ _ n3 q1));have ne:e≠z:=λq=>by subst q;rw[z4] at ge;cases ge;simp at ce
  refine qd z4 (by simp) λh5 _ e5=>?_
  refine stop ⟨oe,e5.extBut _ _ ne ge,ce⟩ λc o hc g=>?_
  erw[zb,zc,zO,j6] at hc;exact e5.extBut _ _ hc.1 (e4 _ _ hc.2.2.2.2 (e3.extBut _ _ hc.2.2.1 (e2.extBut _ _ hc.2.2.2.1 (e1.extBut _ _ hc.1 g))))
end
noncomputable def tw(v:Ä)(o:î)(C:Ï->Prop):Prop:=∀(prog:Í) (w:Ñ) (A:Ö) (E:Ä->Å->Prop) (s:Å) (Q:Ä->Å->Prop),C s.heap->Q (.ref s.heap.objs.size) { s with heap:=s.heap.push o }->Ê (Ì prog w) A (Ł v) Q E s
def YZ(a:È)(l:List Ä):tw (.ref a) { cls:=.type "list_iterator",data:=.fields #[.ref a,.int 0 0] } (λh=>h.IsList a l.toArray):=λ_ _ _ _ _ _ c q=>vo c q
def V5(a:È)(l:List Ä):tw (.ref a) { cls:=.type "tuple_iterator",data:=.fields #[.ref a,.int 0 0] } (λh=>h.IsTuple a l.toArray):=λ_ _ _ _ _ _ c q=>yw c q
section
variable{v1 v2:Ä}{o1 o2:î}{C1 C2:Ï->Prop}
abbrev Y6(h:Ï)(o1:î):Ï:=h.push o1
abbrev Xr(h:Ï)(o1 o2:î):Ï:=(Y6 h o1).push o2
abbrev Xw(h:Ï)(o1 o2:î):Ï:=(Xr h o1 o2).push { cls:=.type "tuple",data:=.seq #[.ref h.objs.size,.ref (Y6 h o1).objs.size] }
abbrev Xo(h:Ï)(o1 o2:î):Ï:=(Xw h o1 o2).push { cls:=.type "tuple",data:=.seq #[.none,.none] }
abbrev KP(h:Ï)(o1 o2:î):Ï:=(Xo h o1 o2).push { cls:=.type "zip",data:=.fields #[.none,.bool Â,.bool Â,.ref (Xr h o1 o2).objs.size,.ref (Xw h o1 o2).objs.size] }
def X5(r1:tw v1 o1 C1)(r2:tw v2 o2 C2) :
  Meets (û.«zip.__new__» ⟨[.type "zip",v1,v2],[]⟩) (λ_ R s=>C1 s.heap/\C2 (s.heap.push o1)/\R (.ok (.ret (.ref (Xo s.heap o1 o2).objs.size))) { s with heap:=KP s.heap o1 o2 }):=
 .of_wp λprog w A R s h=>by
  obtain⟨hp,g,d,tk,os⟩:=s;obtain⟨k1,k2,h⟩:=h;have P3:=sub_zip;have q1:∀{A:Ö} {E:Ä->Å->Prop} {Q:Ä->Å->Prop},Q (.ref hp.objs.size) ⟨hp.push o1,g,d,tk,os⟩->Ê (Ì prog w) A (Ł v1) Q E ⟨hp,g,d,tk,os⟩:=λq=>r1 prog w _ _ _ _ k1 q
  have q2:∀{A:Ö} {E:Ä->Å->Prop} {Q:Ä->Å->Prop},Q (.ref (hp.push o1).objs.size) ⟨(hp.push o1).push o2,g,d,tk,os⟩->Ê (Ì prog w) A (Ł v2) Q E ⟨hp.push o1,g,d,tk,os⟩:=λq=>r2 prog w _ _ _ _ k2 q
  wp_walk using q1,q2
  exact⟨_,rfl,h⟩
end
section
variable{prog:Í}{w:Ñ}{A:Ö}{E:Ä->Å->Prop}{s:Å}{v1 v2:Ä}{o1 o2:î}{C1 C2:Ï->Prop}
def ZM(r1:tw v1 o1 C1)(r2:tw v2 o2 C2)(k1:C1 s.heap)(k2:C2 (s.heap.push o1))(P4:o1.isFreed=Â)(P5:o2.isFreed=Â)
  (h:∀h',Ű h' (s.heap.objs.size+4) (s.heap.objs.size+2) (s.heap.objs.size+3) .none->ń h' (s.heap.objs.size+2) (.ref s.heap.objs.size) (.ref (s.heap.objs.size+1))->
   ń h' (s.heap.objs.size+3) .none .none->h'.get? s.heap.objs.size=À o1->h'.get? (s.heap.objs.size+1)=À o2->(∀c o,s.heap.get? c=À o->h'.get? c=À o)->Q (.ref (s.heap.objs.size+4)) { s with heap:=h' }) :
  Ê (Ì prog w) A (Ŋ (.type "zip") [v1,v2]) Q E s:=by
 refine callType_new F.called_zip (by decide) (F.typeCall_zip_2 _ _) (F.newCall_zip_2 _ _) (λobj=>F.args_object_init_3 obj _ _) F.entry_zip_new (X5 r1 r2) ⟨k1,k2,?_⟩;have y1:(Y6 s.heap o1).objs.size=s.heap.objs.size+1:=j7 ..;have y2:(Xr s.heap o1 o2).objs.size=s.heap.objs.size+2:=by rw[j7,y1]
 have y3:(Xw s.heap o1 o2).objs.size=s.heap.objs.size+3:=by rw[j7,y2]
 have y4:(Xo s.heap o1 o2).objs.size=s.heap.objs.size+4:=by rw[j7,y3]
 have b5:(KP s.heap o1 o2).get? (Xo s.heap o1 o2).objs.size=À _:=zN _ rfl;have b4:(KP s.heap o1 o2).get? (Xw s.heap o1 o2).objs.size=À _:=zf _ (zN _ rfl);have b3:(KP s.heap o1 o2).get? (Xr s.heap o1 o2).objs.size=À _:=zf _ (zf _ (zN _ rfl));have b2:(KP s.heap o1 o2).get? (Y6 s.heap o1).objs.size=À _:=zf _ (zf _ (zf _ (zN _ P5)));have b1:(KP s.heap o1 o2).get? s.heap.objs.size=À _:=zf _ (zf _ (zf _ (zf _ (zN _ P4))));show _/\_
 rw[y2,y3,y4] at b5;rw[y1,y2] at b3;rw[y3] at b4;rw[y1] at b2;rw[y4];exact⟨⟨_,b5,rfl⟩,h _ b5 b3 b4 b1 b2 λc o x=>zf _ (zf _ (zf _ (zf _ (zf _ x))))⟩
end
def oO{X:Cx}{ag:List (È×î)}{σ:L2.St}{H:Hp}{s:Å}{h':Ï}{t':Nat}{fp:List È}{p:È}{o:HO}(I:Inv X ag σ H s)(k:∀b o,b∉fp->s.heap.get? b=À o->h'.get? b=À o)(hf:∀b∈fp,ah X ag H b)
  (hp:s.heap.objs.size<=p) (new:ObjOk X.prog X.w (upd H p o) h' p o):Inv X ag σ (upd H p o) { s with heap:=h',toks:=t' }:=by
 have hn:H p=Á:=I.hok.fresh hp;have away:∀b u,H b=À u->b∉fp:=λb u e z=>by rw[(hf b z).1] at e;cases e
 have lt:∀b u,s.heap.get? b=À u->b≠p:=λb u e=>zW (zL (zB e) hp)
 refine I.step (g':=s.gens) (d':=s.drawn) (ch:=fp) (λb hb=>⟨(hf b hb).2.2.2.1,(hf b hb).2.1,(hf b hb).2.2.2.2.1,(hf b hb).2.2.2.2.2⟩) (λb o _ _ hc e _=>k b o hc e) (λb o _ _ hc e _=>⟨o.slots,k b o hc e⟩) (λb u _ e n=>by rw[kQ (lt b u e)];exact n)
  (λb o hc e=>⟨o,k b o hc e⟩) (λb xs e=>by rw[kQ (qq e hn)];exact e) (λb u v e=>by rw[kQ (qq e hn)];exact e) (λb ps e=>⟨#[],by rw[kQ (qq e hn),e];simp⟩) (λm hm=>?_) (λb u e=>?_) I.bare
 .obtain⟨o,es,ep,ho,r⟩:=hm
  exact⟨o,es,ep,k _ o (λz=>(hf _ z).2.1 rfl) ho,r⟩
 .by_cases hb:b=p
  .subst hb;rw[qo] at e;cases e;exact new
  .rw[kQ hb] at e
   refine(I.hok b u e).stay (λc v hc q=>k c v ?_ q) (λc q=>by rw[kQ (qq q hn)];exact q) λc xs q=>by rw[kQ (qq q hn)];exact q
   rcases hc with z | z
   .rw[z];exact away b u e
   .exact away c _ z
noncomputable def i3(K:S5)(tp:Bool)(H:Hp)(a:È)(xs:List V):Prop:=if tp=Ã then SqT K H a xs else SqL K H a xs
noncomputable def Qj(tp:Bool)(a:È)(h:Ï)(l:List Ä):Prop:=if tp=Ã then h.IsTuple a l.toArray else h.IsList a l.toArray
noncomputable def Xi(tp:Bool)(it a:È)(i:Nat)(h:Ï):Prop:=if tp=Ã then h.IsTupleIter it a i else h.IsListIter it a i
noncomputable def Ca(tp:Bool)(a:È):î:=if tp=Ã then { cls:=.type "tuple_iterator",data:=.fields #[.ref a,.int 0 0] } else { cls:=.type "list_iterator",data:=.fields #[.ref a,.int 0 0] }
def xC(tp:Bool)(it a:È):vb it a (Xi tp it a) (Qj tp a):=by
 cases tp
 .exact Ws it a
 .exact VD it a
def rY(tp:Bool)(a:È)(l:List Ä):tw (.ref a) (Ca tp a) (λh=>Qj tp a h l):=by
 cases tp
 .exact YZ a l
 .exact V5 a l
theorem iL(tp:Bool)(a:È):(Ca tp a).isFreed=Â:=by cases tp<;>rfl
def lV{h:Ï}(e:h.get? it=À (Ca tp a)):Xi tp it a 0 h:=by
 cases tp
 .exact⟨_,e,rfl,rfl⟩
 .exact⟨_,e,rfl,rfl⟩
section
variable{X:Cx}{ag:List (È×î)}{σ:L2.St}{H:Hp}{s:Å}
def uW(I:Inv X ag σ H s)(h:i3 X.K tp H a xs):∃l,Vals xs l/\Qj tp a s.heap l:=by
 cases tp
 .obtain⟨cb,r,p,_⟩:=I.list (show SqL X.K H a xs from h)
  exact⟨cb,r,p.isList⟩
 .obtain⟨cb,r,p,_⟩:=I.tuple (show SqT X.K H a xs from h)
  exact⟨cb,r,p⟩
def Z9(I:Inv X ag σ H s)(h:i3 X.K tp H a xs)(h':i3 X.K tp H a ys):xs=ys:=by
 cases tp
 .exact I.list_inj (show SqL X.K H a xs from h) h'
 .exact I.tuple_inj (show SqT X.K H a xs from h) h'
def hZ(I:Inv X ag σ H s)(h:i3 X.K tp H a xs)(f:ah X ag H b):a≠b:=by
 have k:∀o,X.K.lookup a=À o->a≠b:=λo e z=>by
  subst z;have eb:X.base.get? a=À o:=I.mod.kin _ _ e;rcases f.2.2.2.1 with q | q
  .exact I.ok.noex _ _ eb q
  .exact absurd (zL (zB eb) (zK I.ok.bsz q)) (jF _)
 have r:∀u,Rd H a u->a≠b:=λu q=>by
  rcases q with q | ⟨o,q⟩<;>exact qq q f.1
 cases tp
 .rcases(show SqL X.K H a xs from h) with q | ⟨o,_,_,e,_⟩
  .exact r _ q
  .exact k o e
 .rcases(show SqT X.K H a xs from h) with q | ⟨o,_,_,e,_⟩
  .exact r _ q
  .exact k o e
end
noncomputable def Lc (K : S5) (t1 t2 : Bool) (a1 a2 : È) : It :=
  ⟨λi H => ∃ xs ys x y, i3 K t1 H a1 xs /\ i3 K t2 H a2 ys /\ xs[i]? = À x /\ ys[i]? = À y,
   λi H v H' => ∃ p x y, H p = Á /\ v = .ref p /\ H' = upd H p (.tup [x, y]) /\ (∀ xs, i3 K t1 H a1 xs -> xs[i]? = À x) /\ ∀ ys, i3 K t2 H a2 ys -> ys[i]? = À y,
   λi H => ∃ xs ys, i3 K t1 H a1 xs /\ i3 K t2 H a2 ys /\ (xs.length <= i \/ ys.length <= i)⟩
def YM{P:Í}{w:Ñ}{K:S5}{EJ:List Ë}{n:Nat}{A1:Ċ}(t1 t2:Bool)(z TI TO i1 i2 a1 a2:È)(nd:[z,TI,TO,i1,i2].Nodup) :
  Turn P w K (.Tuple EJ n A1) (Lc K t1 t2 a1 a2) [z,TI,TO,i1,i2] z (λi h=>Zl z TI TO i1 i2 (Xi t1 i1 a1) (Xi t2 i2 a2) .none i i h) where
 mem:=by simp
 obj:=λi h st b hb=>by
  obtain⟨hz,AR,⟨a,b',EH⟩,p1,p2⟩:=st;erw[zb,zc,zO] at hb;rcases hb with rfl | rfl | rfl | rfl | rfl
  .exact⟨_,hz,λv q=>by cases q⟩
  .exact⟨_,AR,λv q=>by cases q⟩
  .exact⟨_,EH,λv q=>by cases q⟩
  .exact(xC t1 _ a1).obj p1
  .exact(xC t2 _ a2).obj p2
 keep:=λi h h' st k=>by
  obtain⟨hz,AR,⟨a,b',EH⟩,p1,p2⟩:=st;exact⟨k z (by simp) _ hz,k TI (by simp) _ AR,⟨a,b',k TO (by simp) _ EH⟩,(xC t1 i1 a1).keep p1 λo e=>k i1 (by simp) o e,(xC t2 i2 a2).keep p2 λo e=>k i2 (by simp) o e⟩
 item:=by
  intro X hP hw hK hc i ag s σ H E I hf st hg;subst hP hw hK;obtain⟨xs,ys,x,y,d1,d2,hx,hy⟩:=hg;obtain⟨l1,r1,c1⟩:=uW I d1;obtain⟨l2,r2,c2⟩:=uW I d2;obtain⟨u1,e1,Lu⟩:=r1.get hx;obtain⟨u2,e2,EE⟩:=r2.get hy;have D:ZApart z TI TO i1 i2 a1 a2:=⟨nd,λq=>hZ I d1 (hf _ q) rfl,λq=>hZ I d2 (hf _ q) rfl⟩;refine tJ (xC t1 i1 a1) (xC t2 i2 a2) D st c1 c2 e1 e2 λh' st' ht kp=>⟨_,rfl,?_⟩
  obtain⟨hz,AR,⟨a,b',EH⟩,p1,p2⟩:=st';have n:=nd;erw[jB,zb,zc,zO,j6] at n;obtain⟨⟨n1,n2,n3,n4⟩,_⟩:=n;refine wpAny_letOwnedTupleGo_zip hz λh2 P6 sb=>?_
  have MY:z<s.heap.objs.size:=by obtain⟨q,_⟩:=st;exact zB q
  have Oy:h2.get? s.heap.objs.size=À { cls:=.type "tuple",data:=.seq #[u1,u2] }:=sb.extBut _ _ (ql MY) ht;have I2:Inv X ag σ (upd H s.heap.objs.size (.tup [x,y])) { s with heap:=h2 }:=oO (t':=s.toks) (fp:=[z,TI,TO,i1,i2]) I (λb o hb e=>sb.extBut _ _ (λq=>hb (by simp[q])) (kp b o hb e)) hf (zj _)
   ⟨by show 2<=Î;decide,[u1,u2],.cons Lu (.cons EE .nil),⟨_,Oy,rfl,_,rfl⟩,⟨_,Oy,rfl⟩⟩
  refine⟨.ref s.heap.objs.size,_,I2,rfl,⟨_,x,y,I.hok.fresh (zj _),rfl,rfl,λSD q=>by rw[Z9 I q d1];exact hx,λSF q=>by rw[Z9 I q d2];exact hy⟩,?_,λb hb=>?_⟩
  .exact⟨P6,sb.extBut _ _ (kZ n1) AR,⟨a,b',sb.extBut _ _ (kZ n2) EH⟩,(xC t1 i1 a1).keep p1 λo e=>sb.extBut _ _ (kZ n3) e,(xC t2 i2 a2).keep p2 λo e=>sb.extBut _ _ (kZ n4) e⟩
  .obtain⟨o,ho,_⟩:∃o,s.heap.get? b=À o/\True:=by
    obtain⟨P7,NO,⟨a0,b0,NP⟩,P8,P9⟩:=st;erw[zb,zc,zO] at hb;rcases hb with rfl | rfl | rfl | rfl | rfl
    .exact⟨_,P7,trivial⟩
    .exact⟨_,NO,trivial⟩
    .exact⟨_,NP,trivial⟩
    .obtain⟨o,q,_⟩:=(xC t1 _ a1).obj P8;exact⟨o,q,trivial⟩
    .obtain⟨o,q,_⟩:=(xC t2 _ a2).obj P9;exact⟨o,q,trivial⟩
   rw[kQ (zW (zB ho))];exact(hf b hb).1
 done:=by
  intro X hP hw hK hc i ag s σ H E I hf st hg;subst hP hw hK;obtain⟨xs,ys,d1,d2,he⟩:=hg;obtain⟨l1,r1,c1⟩:=uW I d1;obtain⟨l2,r2,c2⟩:=uW I d2;have D:ZApart z TI TO i1 i2 a1 a2:=⟨nd,λq=>hZ I d1 (hf _ q) rfl,λq=>hZ I d2 (hf _ q) rfl⟩;refine ZL (xC t1 i1 a1) (xC t2 i2 a2) D (I.ok.hd hc) st c1 c2 ?_ λh' kp=>⟨rfl,Js (t':=s.toks) I kp hf⟩
  rcases he with he | he
  .exact .inl (jQ (by rw[<-r1.length];exact he))
  .exact .inr (jQ (by rw[<-r2.length];exact he))
 self:=λ_ _ _ _ _ st h=>yP st.1 h
noncomputable def aw(h:MH)(w:W):Option (List W):=match w with
 | .tup l=>À l
 | .fls l=>À l
 | _=>Á
noncomputable def Zx(ws:List W):M Src:=λh=>match ws with
 | [x,y]=>match aw h x,aw h y with
  | some l,À l'=>À (.items ((l.zip l').map λp=>.tup [p.1,p.2]),h)
  | _,_=>Á
 | _=>Á
noncomputable def fE(ms:List ME):MI:=λρ=>bnd (ko ms ρ) Zx
section
variable{X:Cx}{cl:Cl}{EJ:List Ë}{n:Nat}{A1 p pos:Ċ}{e1 e2:Ë}{ms:List ME}
def hW{K:S5}{μ:List È}{H:Hp}{h:MH}(r:RW K μ H w v)(e:aw h w=À l):∃tp a vs,v=.ref a/\RWs K μ H l vs/\i3 K tp H a vs/\(∀hY H2 h2,HR K cl μ H h->Ext μ H hY H2->HR K cl hY H2 h2->i3 K tp H2 a vs):=by
 unfold aw at e;split at e
 .cases e
  obtain⟨a,vs,rfl,sa,ra⟩:=r.tup_of;exact⟨Ã,a,vs,rfl,ra,sa,λhY H2 h2 R E R2=>SqT.ext R E sa⟩
 .cases e
  cases r with | @fls a vs l sa ra=>
  exact⟨Â,a,vs,rfl,ra,sa.sq,λhY H2 h2 R E R2=>(SqF.ext E sa).sq⟩
 .cases e
def DC(hm:X.mg "zip" = Á)(ha:SA X cl [e1,e2] ms)(hg:↥(Gl X "zip"))(r9:↥(É [e1,e2] X.env=(Â,Ú e1 X.env)::É [e2] X.env))(Aa:↥((Ù pos (É [e2] X.env)).any (·.1)=Â)) :
  SI X cl (.Tuple EJ n A1) (.Call (.Name "zip" p) [e1,e2] [] pos) (fE ms):=by
 rintro ag s σ H R I ⟨μ,h,ρ,src,h',R0,er,e,k⟩;obtain⟨ws,h1,A3,e⟩:=ke e;have hv:Ô "zip" = À (.type "zip"):=by decide +kernel
 refine jz (uz I hg hm hv ?_ (by decide) (by decide));refine jr (kC (ha pos ag s σ H (λvs H1=>∃en,Ext μ H en H1/\HR X.K cl en H1 h1/\RWs X.K en H1 ws vs) I ⟨μ,h,ρ,ws,h1,R0,er,A3,λen H1 vs E1 R1 rs=>⟨en,E1,R1,rs⟩⟩) ?_) r9 Aa;rintro us s1 ⟨vs,H1,I1,r1,en,E1,R1,rs⟩;unfold Zx at e;split at e
 .rename_i x y
  split at e
  .rename_i l l' q1 q2
   cases e;cases rs with | cons rx t=>cases t with | cons ry t=>cases t with | nil=>
   obtain⟨t1,a1,xs,rfl,MZ,d1,f1⟩:=hW (cl:=cl) rx q1;obtain⟨t2,a2,ys,rfl,Ew,d2,f2⟩:=hW (cl:=cl) ry q2;obtain⟨u1,u2,rfl,Lu,EE⟩:=vals2 r1;cases Lu;cases EE;obtain⟨l1,v1,c1⟩:=uW I1 d1;obtain⟨l2,v2,c2⟩:=uW I1 d2;refine ZM (rY t1 a1 l1) (rY t2 a2 l2) c1 ((xC t2 0 a2).keepC c2 λo e=>zf _ e) (iL t1 a1) (iL t2 a2) λh2 b5 b3 b4 b1 b2 kp=>?_
   refine yP b5 ?_;have nd:[s1.heap.objs.size+4,s1.heap.objs.size+2,s1.heap.objs.size+3,s1.heap.objs.size,s1.heap.objs.size+1].Nodup:=by
    erw[jB,zb,zc,zO,j6,vQ,and_true,not_false_eq_true];omega
   refine⟨_,_,_,_,H1,rfl,I1.kept (t':=s1.toks) kp,YM t1 t2 _ _ _ _ _ a1 a2 nd,⟨b5,b3,⟨_,_,b4⟩,lV b1,lV b2⟩,λb hb=>?_,k en H1 _ E1 R1 ?_⟩
   .have Oz:s1.heap.objs.size<=b:=by
     erw[zb,zc,zO] at hb;rcases hb with rfl | rfl | rfl | rfl | rfl<;>omega
    exact I1.fpOk Oz (I1.hok.fresh Oz)
   .intro hY H2 h3 E2 R2 i
    have NQ:=f1 hY H2 h3 R1 E2 R2;have NR:=f2 hY H2 h3 R1 E2 R2;have NS:=MZ.ext R1 E2;have NT:=Ew.ext R1 E2;refine⟨λw ew=>?_,λes=>?_⟩
    .have Ae:((l.zip l').map λp=>W.tup [p.1,p.2])[i]?=À w:=zZ ew
     rw[jb] at Ae;cases ez:(l.zip l')[i]? with
     | none=>rw[ez] at Ae;cases Ae
     | some pr=>
      rw[ez] at Ae;cases Ae;obtain⟨ea,eb⟩:=List.getElem?_zip_eq_some.mp ez;obtain⟨vx,OA,Rc⟩:=NS.get ea;obtain⟨vy,OB,Re⟩:=NT.get eb;refine⟨⟨xs,ys,vx,vy,NQ,NR,OA,OB⟩,λv H3 yl=>?_⟩;obtain⟨pp,x',y',hp,rfl,rfl,w1,w2⟩:=yl;have z1:=w1 xs NQ;have z2:=w2 ys NR;rw[OA] at z1;rw[OB] at z2;cases z1;cases z2;exact⟨.side hp,R2.side hp,.tup (SqT.of qo) (.cons (Rc.ext R2 (.side hp)) (.cons (Re.ext R2 (.side hp)) .nil))⟩
    .have AD:((l.zip l').map λp=>W.tup [p.1,p.2])[i]?=Á:=zZ es
     have hl:=jH.mp AD;rw[zP,qi] at hl;refine⟨xs,ys,NQ,NR,?_⟩;rw[<-MZ.length,<-Ew.length];omega
  .cases e
 .cases e
end
noncomputable def si:List W->Option (List Bool)
 | []=>À []
 | .bl b::r=>match si r with
  | some l=>À (b::l)
  | none=>Á
 | _=>Á
noncomputable def intsOf:List W->Option (List Int)
 | []=>À []
 | .int b::r=>match intsOf r with
  | some l=>À (b::l)
  | none=>Á
 | _=>Á
noncomputable def Jc(f:List Bool->Bool)(ws:List W):M W:=λh=>match ws with
 | [w]=>match xB h w with
  | some l=>match si l with
   | some bs=>À (.bl (f bs),h)
   | none=>Á
  | none=>Á
 | _=>Á
noncomputable def Yg:List W->M W:=Jc λl=>l.all id
noncomputable def u7:List Int->Int
 | []=>0
 | i::r=>i+u7 r
noncomputable def i9(ws:List W):M W:=λh=>match ws with
 | [w]=>match xB h w with
  | some l=>match intsOf l with
   | some bs=>À (.int (u7 bs),h)
   | none=>Á
  | none=>Á
 | _=>Á
section
variable{K:S5}{μ:List È}{H:Hp}
def Wo{us:List Ä}{bs:List Bool}(e:si l=À bs)(r:RWs K μ H l vs)(q:Vals vs us):us=bs.map İ:=by
 induction l generalizing vs us bs with
 | nil=>cases r;cases q;cases e;rfl
 | cons w l ih=>
  cases r with | cons rb rr=>cases q with | cons tb tr=>cases rb with
  | bl b=>
   unfold si at e;split at e
   .rename_i l e'
    cases e;cases tb;rw[ih e' rr tr];rfl
   .cases e
  | _=>cases e
def Vm{us:List Ä}{bs:List Int}(e:intsOf l=À bs)(r:RWs K μ H l vs)(q:Vals vs us):us.length=bs.length/\∀i u,us[i]?=À u->∃t,u=ě (bs.getD i 0) t:=by
 induction l generalizing vs us bs with
 | nil=>cases r;cases q;cases e;exact⟨rfl,λi u e=>by simp at e⟩
 | cons w l ih=>
  cases r with | cons rb rr=>cases q with | cons tb tr=>cases rb with
  | int b=>
   unfold intsOf at e;split at e
   .rename_i l e'
    cases e;obtain⟨t,rfl⟩:=tb;obtain⟨h1,h2⟩:=ih e' rr tr;refine⟨jP (· + 1) h1,λi u e=>?_⟩;cases i with
    | zero=>cases e;exact⟨t,rfl⟩
    | succ i=>exact h2 i u e
   .cases e
  | _=>cases e
end
def ZU(a b:List Int):u7 (a++b)=u7 a+u7 b:=by
 induction a with
 | nil=>simp[u7]
 | cons x r ih=>erw[jl,u7,ih];omega
theorem preSum_eq(bs:List Int):∀n,n<=bs.length->preSum (λi=>bs.getD i 0) n=u7 (bs.take n)
 | 0,_=>by simp[preSum,u7]
 | n+1,h=>by
  have ih:=preSum_eq bs n ∅;have:preSum (λi=>bs.getD i 0) (n+1)=preSum (λi=>bs.getD i 0) n+bs.getD n 0:=rfl;rw[this,ih,List.take_succ,ZU];simp[zE (show n<bs.length by omega),u7]
section
variable{X:Cx}{cl:Cl}
def sC{s:Å}{H:Hp}{A:Ö}(I:Inv X ag σ H s)(sq:SqL X.K H a vs\/SqT X.K H a vs)(hh:A.handled=Á)
  (k:∀(us:List Ä) (it:È) (fp wr:List È) (St:Nat->Ï->Prop) (h1:Ï),Vals vs us->Walks X.prog X.w A it fp wr us.length (λi v=>us[i]?=À v) St->St 0 h1->(∀b∈fp,b<h1.objs.size)->
   (∀b∈wr,s.heap.objs.size<=b)->(∀b o,s.heap.get? b=À o->h1.get? b=À o)->R (.ref it) { s with heap:=h1 }) :
  Ê (Ì X.prog X.w) A (Ł (.ref a)) R E s:=by
 rcases sq with sq | sq
 .obtain⟨cb,rv,p,hz⟩:=I.list sq
  refine vo p.isList ?_;have Al:a<s.heap.objs.size:=by obtain⟨o,ho,_⟩:=p.isList;exact zB ho
  have W0:=xP (prog:=X.prog) (w:=X.w) hh s.heap.objs.size a (zW Al) cb.toArray;have W1:Walks X.prog X.w A s.heap.objs.size [s.heap.objs.size,a] [s.heap.objs.size] cb.length (λi v=>cb[i]?=À v) (λi h=>h.IsListIter s.heap.objs.size a i/\h.IsList a cb.toArray):=by simpa using W0
  refine k cb _ _ _ _ _ rv W1 ⟨⟨_,zN _ rfl,rfl,rfl⟩,p.isList.at λo e=>zf _ e⟩ (λb hb=>?_) (λb hb=>?_) λb o e=>zf _ e
  .erw[zb,zc,zO] at hb
   erw[j7];rcases hb with rfl | rfl
   .exact jV _
   .exact v6 Al
  .erw[zb,zc,zO] at hb
   rw[hb];exact zj _
 .obtain⟨cb,rv,p,hz⟩:=I.tuple sq
  refine yw (show s.heap.IsTuple a cb.toArray from p) ?_;have Al:a<s.heap.objs.size:=by obtain⟨o,ho,_⟩:=id p;exact zB ho
  have p':s.heap.IsTuple a cb.toArray:=p;have W0:=Walks.tuple (prog:=X.prog) (w:=X.w) hh s.heap.objs.size a (zW Al) cb.toArray;have W1:Walks X.prog X.w A s.heap.objs.size [s.heap.objs.size,a] [s.heap.objs.size] cb.length (λi v=>cb[i]?=À v) (λi h=>h.IsTupleIter s.heap.objs.size a i/\h.IsTuple a cb.toArray):=by simpa using W0
  refine k cb _ _ _ _ _ rv W1 ⟨⟨_,zN _ rfl,rfl,rfl⟩,p'.at λo e=>zf _ e⟩ (λb hb=>?_) (λb hb=>?_) λb o e=>zf _ e
  .erw[zb,zc,zO] at hb
   erw[j7];rcases hb with rfl | rfl
   .exact jV _
   .exact v6 Al
  .erw[zb,zc,zO] at hb
   rw[hb];exact zj _
def nC{ag:List (È×î)}{s:Å}{σ:L2.St}{H:Hp}{h1 h2:Ï}{tk:Nat}{wr:List È}(I:Inv X ag σ H s)(k1:∀b o,s.heap.get? b=À o->h1.get? b=À o)(hw:∀b∈wr,s.heap.objs.size<=b)(k2:∀b o,b∉wr->h1.get? b=À o->h2.get? b=À o) :
  Inv X ag σ H { s with heap:=h2,toks:=tk }:=
 I.kept (t':=tk) λb o e=>k2 b o (λz=>absurd (zB e) (Nat.not_lt.mpr (hw b z))) (k1 b o e)
def Jw{f:List Bool->Bool}{id:String}(Ej:∀{A:Ö} {E:Ä->Å->Prop} {s:Å} {x:Ä} {Q:Ä->Å->Prop},A.handled=Á->Ê (Ì X.prog X.w) A.in1 (Ł x) (λit Au=>∃I fp wr n P St tr,it=.ref I/\Walks X.prog X.w A.in1 I fp wr n P St/\St 0 Au.heap/\TruthOf X.prog X.w A.in1 P tr /\
   ∀h' tk,(∀b o,b∉wr->Au.heap.get? b=À o->h'.get? b=À o)->Q (.bool (f ((ı n).map tr))) { Au with heap:=h',toks:=tk }) E s->Ê (Ì X.prog X.w) A (Ŋ (.builtin id) [x]) Q E s) (hc:X.calm=Ã):yB X (.builtin id) (rMs X.K cl (Jc f)):=by
 rintro ag s σ H xs us Q I rs ⟨μ,h,ws,w,h',R,ax,e,k⟩;unfold Jc at e;split at e
 .split at e
  .rename_i l el
   split at e
   .rename_i bs eb
    cases e;cases ax with | cons r t=>cases t with | nil=>
    obtain⟨a,vs,rfl,sa,ra⟩:=dn R r el;obtain⟨u,rfl,ru⟩:=rs.one;cases ru;have hh:=I.ok.hd hc;refine Ej hh (sC (A:=X.A.in1) I sa hh λus it fp wr St h1 rv W r9 OC NU k1=>?_);have hu:=Wo eb ra rv;subst hu;refine⟨it,fp,wr,_,_,St,λi=>bs.getD i Â,rfl,W,r9,?_,λh2 tk k2=>?_⟩
    .intro i v s Q E hP hQ
     rw[jb] at hP;cases eb:bs[i]? with
     | none=>rw[eb] at hP;cases hP
     | some b=>
      rw[eb] at hP;cases hP;have:bs.getD i Â=b:=by simp[List.getD,eb]
      have OD:Q (bs.getD i Â) s:=hQ;rw[this] at OD;exact jT OD
    .have e2:(ı (bs.map İ).length).map (λi=>bs.getD i Â)=bs:=by
      apply List.ext_getElem
      .simp
      .intro i h1 h2;simp at h1;simp[h1]
     rw[e2];exact⟨.bl _,H,(show Inv X ag σ H { s with heap:=h2,toks:=tk } from nC I k1 NU k2),rfl,k.pure R (.bl _)⟩
   .cases e
  .cases e
 .cases e
def QJ(hc:X.calm=Ã):yB X (.builtin "all") (rMs X.K cl Yg):=by
 refine Jw (λ{A E s x Q} hh h=>call_all_walk (qD h (λit Au Ln=>?_) λ_ _ e=>e)) hc;obtain⟨I,fp,wr,n,P,St,tr,rfl,W,r9,Rf,hQ⟩:=Ln;refine⟨I,fp,wr,n,P,St,tr,rfl,W,r9,Rf,λh' tk hk=>?_⟩;have:=hQ h' tk hk;rw[xq] at this;exact this
def V4(hc:X.calm=Ã):yB X (.builtin "sum") (rMs X.K cl i9):=by
 rintro ag s σ H xs us Q I rs ⟨μ,h,ws,w,h',R,ax,e,k⟩;unfold i9 at e;split at e
 .split at e
  .rename_i l el
   split at e
   .rename_i bs eb
    cases e;cases ax with | cons r t=>cases t with | nil=>
    obtain⟨a,vs,rfl,sa,ra⟩:=dn R r el;obtain⟨u,rfl,ru⟩:=rs.one;cases ru;have hh:=I.ok.hd hc;refine call_sum_walkG (sC (A:=X.A.in1) I sa hh λus it fp wr St h1 rv W r9 OC NU k1=>?_);obtain⟨hl,hv⟩:=Vm eb ra rv;refine⟨it,fp,wr,_,_,St,λi=>bs.getD i 0,rfl,W,r9,OC,hv,λh2 tk t' k2=>?_⟩;rw[hl,preSum_eq bs _ (zj _),yr];exact⟨.int _,H,(show Inv X ag σ H { s with heap:=h2,toks:=tk } from nC I k1 NU k2),⟨t',rfl⟩,k.pure R (.int _)⟩
   .cases e
  .cases e
 .cases e
def boot_all:Ô "all" = À (.builtin "all"):=by decide +kernel
def boot_sum:Ô "sum" = À (.builtin "sum"):=by decide +kernel
def UX:Ô "int" = À (.type Ty.int.name):=by decide +kernel
def Uq:Ô "str" = À (.type Ty.str.name):=by decide +kernel
def WF:Ô "bool" = À (.type Ty.bool.name):=by decide +kernel
def pS:Ô "tuple" = À (.type Ty.tuple.name):=by decide +kernel
def Zs:Ô "list" = À (.type Ty.list.name):=by decide +kernel
def mW:Ô "dict" = À (.type Ty.dict.name):=by decide +kernel
end
noncomputable abbrev i4:W->W->M W:=vv λi j=>decide (i<j)
noncomputable abbrev om:W->W->M W:=vv λi j=>decide (i<=j)
noncomputable abbrev pJ:W->W->M W:=vv λi j=>decide (j<i)
noncomputable abbrev fx:W->W->M W:=λx y=>match x,y with | .int i,.int j=>λh=>À (.int (i+j),h) | _,_=>λ_=>Á
noncomputable def Hn(x:Ç):It:=
 ⟨λi _=>i<x.cps.size,λi H v H'=>H'=H/\∃c,x.cps[i]?=À c/\v=.str ⟨#[c]⟩,λi _=>x.cps.size<=i⟩
section
variable{P:Í}{w:Ñ}{K:S5}{tg:Ë}
def VX{T:String}(hn:["enumerate","zip","dict_itemiterator","dict_reverseitemiterator","odict_iterator","itertools.zip_longest","itertools.pairwise"].contains T=Â)(it:È)(x:Ç)(t:Tok)
  (W:∀A:Ö,A.handled=Á->Walks P w A it [it] [it] x.cps.size (SignAt x) (λi h=>h.IsStrIter it T x t i))
  (sf:∀(A:Ö) (i:Nat) (s:Å) (Q:Ä->Å->Prop) (E:Ä->Å->Prop),s.heap.IsStrIter it T x t i->Q (.ref it) s->Ê (Ì P w) A (Ł (.ref it)) Q E s) :
  Turn P w K tg (Hn x) [it] it (λi h=>i<=x.cps.size/\h.IsStrIter it T x t i) where
 mem:=by simp
 obj:=λi h st b hb=>by
  have e:b=it:=by simpa using hb
  subst e;obtain⟨_,o,e,c,d⟩:=st;exact⟨o,e,λv z=>by rw[d] at z;cases z⟩
 keep:=λi h h' st k=>by
  obtain⟨hi,o,e,c,d⟩:=st;exact⟨hi,o,k it (by simp) o e,c,d⟩
 item:=by
  intro X hP hw hK hc i ag s σ H E I hf st hg;subst hP hw hK;obtain⟨f0,f1,f2,f3,f4,f5⟩:=hf it (by simp);refine(W X.A (I.ok.hd hc)).item i s _ _ hg st.2 λv h' tk hv st' kk=>?_
  obtain⟨c,u,Rh,rfl⟩:=hv;have I1:Inv X ag σ H { s with heap:=h',toks:=tk }:=I.turned (t':=tk) (λb o hb e=>kk b o (by simpa using hb) e) f0 f1 f3 f4 f5;obtain⟨o,e,cc,d⟩:=id st';exact⟨_,rfl,nD (s:={ s with heap:=h',toks:=tk }) e cc d hn ⟨.str ⟨#[c]⟩,H,I1,⟨u,rfl⟩,⟨rfl,c,Rh,rfl⟩,⟨hg,st'⟩,λb hb=>(hf b hb).1⟩⟩
 done:=by
  intro X hP hw hK hc i ag s σ H E I hf st hg;subst hP hw hK;obtain⟨f0,f1,f2,f3,f4,f5⟩:=hf it (by simp);have hi:i=x.cps.size:=Nat.le_antisymm st.1 hg;have AF:=st.2;rw[hi] at AF;exact(W X.A (I.ok.hd hc)).done s _ _ AF λh' tk kk=>⟨rfl,I.turned (t':=tk) (λb o hb e=>kk b o (by simpa using hb) e) f0 f1 f3 f4 f5⟩
 self:=λA i s Q E st h=>sf A i s Q E st.2 h
end
noncomputable def signs(x:Ç):List W:=x.cps.toList.map λc=>.str ⟨#[c]⟩
noncomputable def JV(m:ME):MI:=λρ=>bnd (m ρ) λw h=>match w with
 | .str x=>À (.items (signs x),h)
 | _=>Á
section
variable{X:Cx}{cl:Cl}{tg e:Ë}{m:ME}
def Ud{K:S5}{μ:List È}{H:Hp}:JR K cl (Hn x) (.items (signs x)) μ H:=by
 intro hY H2 h2 E2 R2 i;refine⟨λw ew=>?_,λes=>?_⟩
 .have Ae:(signs x)[i]?=À w:=zZ ew
  unfold signs at Ae;rw[jb] at Ae;cases ec:x.cps.toList[i]? with
  | none=>rw[ec] at Ae;cases Ae
  | some c=>
   rw[ec] at Ae;cases Ae;have OE:x.cps[i]?=À c:=by rw[<-xx];exact ec
   refine⟨(yH.mp OE).1,λv H3 y=>?_⟩;obtain⟨rfl,c',A0,rfl⟩:=y;rw[OE] at A0;cases A0;exact⟨.refl,R2,.str _⟩
 .have AD:(signs x)[i]?=Á:=zZ es
  have:=jH.mp AD;unfold signs at this;rw[zP,vI] at this;exact this
def Fo(he:SE X cl e m):SI X cl tg e (JV m):=by
 rintro ag s σ H R I ⟨μ,h,ρ,src,h',R0,er,e,k⟩;obtain⟨x,h1,e1,e⟩:=ke e;refine kC (he ag s σ H (λv H1=>∃en,Ext μ H en H1/\HR X.K cl en H1 h1/\RW X.K en H1 x v) I ⟨μ,h,ρ,x,h1,R0,er,e1,λen H1 v E1 R1 r=>⟨en,E1,R1,r⟩⟩) ?_;rintro u s1 ⟨v,H1,I1,r1,en,E1,R1,rv⟩;cases x with
 | str z=>
  cases e;cases rv.str_of;obtain⟨tk,rfl⟩:=r1;have fin:∀{o:î} {T:String},["enumerate","zip","dict_itemiterator","dict_reverseitemiterator","odict_iterator","itertools.zip_longest","itertools.pairwise"].contains T=Â->(∀A:Ö,A.handled=Á->Walks X.prog X.w A s1.heap.objs.size [s1.heap.objs.size] [s1.heap.objs.size] z.cps.size (SignAt z) (λi h=>h.IsStrIter s1.heap.objs.size T z tk i))->
    (∀(A:Ö) (i:Nat) (s:Å) (Q:Ä->Å->Prop) (E:Ä->Å->Prop),s.heap.IsStrIter s1.heap.objs.size T z tk i->Q (.ref s1.heap.objs.size) s->Ê (Ì X.prog X.w) A (Ł (.ref s1.heap.objs.size)) Q E s)->
    (s1.heap.push o).IsStrIter s1.heap.objs.size T z tk 0->PIE X ag σ tg R (.ref s1.heap.objs.size) { s1 with heap:=s1.heap.push o }:=λ{o T} hn W sf st=>
   ⟨_,[s1.heap.objs.size],_,_,H1,rfl,I1.kept (t':=s1.toks) λb o e=>zf _ e,VX hn _ z tk W sf,⟨qy _,st⟩,λb hb=>by
    have e:b=s1.heap.objs.size:=by simpa using hb
    subst e
    exact I1.fpOk (zj _) (I1.hok.fresh (zj _)),k en H1 _ E1 R1 Ud⟩
  cases ha:z.cps.all (· < 128)
  .exact wpAny_pyIter_wide ha (fin (T:="str_iterator") (by decide) (λA' hA=>Walks.strWide hA _ z tk) (λA i s Q E st q=>wpAny_pyIter_striter_wide st q) ⟨_,zN _ rfl,rfl,rfl⟩)
  .exact wpAny_pyIter_ascii ha (fin (T:="str_ascii_iterator") (by decide) (λA' hA=>Walks.strAscii hA _ z tk) (λA i s Q E st q=>wpAny_pyIter_striter_ascii st q) ⟨_,zN _ rfl,rfl,rfl⟩)
 | _=>cases e
end
structure Glob(K:S5)(mg:Ç->Option Ä)(x:Ç)(w:W):Prop where
 ex:∃(v:V) (u:Ä),mg x=À u/\RelV v u/\∀μ H,RW K μ H w v
def Glob.se{X:Cx}(G:Glob X.K X.mg x w)(hg:↥(Gl X x))(hd:⇑((x==("__debug__":Ç))=Â)):SE X cl (.Name x pos) (eC w):=by
 obtain⟨v,u,hm,r,rw⟩:=G.ex;exact BL hm r rw hg hd
mutual
inductive KW(K:S5):W->Ä->Prop
 | int {i:Int} {t:Tok}:KW K (.int i) (.int i t)
 | str {i:Ç} {t:Tok}:KW K (.str i) (.str i t)
 | fn {a:È}:KW K (.fn a) (.ref a)
 | tup {a:È} {l:List W} {o:î} {cb:Array Ä} {n:Nat}:K.lookup a=À o->(o.cls=.type "tuple" /\ o.dict=Á)->o.data=.seq cb n->cb.size<=Î->KWs K l cb.toList->KW K (.tup l) (.ref a)
inductive KWs(K:S5):List W->List Ä->Prop
 | nil:KWs K [] []
 | cons {w:W} {v:Ä} {l:List W} {vs:List Ä}:KW K w v->KWs K l vs->KWs K (w::l) (v::vs)
end
def KWs.rw{K:S5}{l:List W}{us:List Ä}(r:KWs K l us):∃vs,Vals vs us/\∀μ H,RWs K μ H l vs:=
 KWs.rec (motive_1:=λw u _=>∃v,RelV v u/\∀μ H,RW K μ H w v) (motive_2:=λl us _=>∃vs,Vals vs us/\∀μ H,RWs K μ H l vs) (λ{i t}=>⟨.int i,⟨t,rfl⟩,λ_ _=>.int _⟩) (λ{i t}=>⟨.str i,⟨t,rfl⟩,λ_ _=>.str _⟩) (λ{a}=>⟨.ref a,rfl,λ_ _=>.fn⟩)
  (λ{a _ _ _ _} e c d z _ q=>q.elim λ_ q=>⟨.ref a,rfl,λμ H=>.tup (.inr ⟨_,_,_,e,c,d,z,q.1⟩) (q.2 μ H)⟩) ⟨[],.nil,λ_ _=>.nil⟩ (λ_ _ p q=>p.elim λv p=>q.elim λvs q=>⟨v::vs,.cons p.1 q.1,λμ H=>.cons (p.2 μ H) (q.2 μ H)⟩) r
theorem KW.rw{K:S5}{w:W}(r:KW K w u):∃v,RelV v u/\∀μ H,RW K μ H w v:=by
 obtain⟨vs,a,b⟩:=KWs.rw (.cons r .nil);cases a with
 | @cons v _ _ _ a _=>exact⟨v,a,λμ H=>by cases b μ H with | cons q _=>exact q⟩
def KW.glob{K:S5}{mg:Ç->Option Ä}{x:Ç}(hm:mg x=À u)(k:KW K w u):Glob K mg x w:=by
 obtain⟨v,r1,r2⟩:=k.rw;exact⟨v,u,hm,r1,r2⟩
inductive TabRel(K:S5):List (Ç×W)->List ø->Prop
 | nil:TabRel K [] []
 | cons {k:Ç} {t:Tok} {w:W} {hs:Int} {v:Ä} {l:List (Ç×W)} {es:List ø} {e:ø}:e.key=.str k t->KW K w e.val->TabRel K l es->TabRel K ((k,w)::l) (e::es)
structure TabOk(K:S5)(P:ź)(mg:Ç->Option Ä)(x:Ç)(l:List (Ç×W)):Prop where
 ex:∃(a:È) (es:Array ø) (n:Nat),mg x=À (.ref a)/\K.lookup a=À ⟨.type "dict",Á,.dict es n,#[]⟩/\ħ P es.toList/\(a==Ü)=Â/\TabRel K l es.toList
theorem TabRel.find{K:S5}:∀{l:List (Ç×W)} {es:List ø},TabRel K l es->match l.lookup k with
  | some w=>∃v,(es.find? λe=>ç k e.key).map (·.val)=À v/\KW K w v
  | none=>(es.find? λe=>ç k e.key).map (·.val)=Á
 | _,_,.nil=>rfl
 | _,_,.cons (k:=k') (l:=l) (es:=es) (e:=e) hk r t=>by
  have ih:=TabRel.find (k:=k) t;rw[kO];by_cases q:k=k'
  .subst q
   have e1:(k==k)=Ã:=by simp
   have e2:ç k e.key=Ã:=by rw[hk];simp[ç]
   erw[e1,jD,e2];exact⟨_,rfl,r⟩
  .have e1:(k==k')=Â:=by simpa using q
   have e2:ç k e.key=Â:=by rw[hk];simp[ç];exactλz=>q z.symm
   erw[e1,jD,e2];exact ih
noncomputable def tabIn(neg:Bool)(l:List (Ç×W))(w:W):M W:=λh=>match w with
 | .str k=>À (.bl (if neg then !(l.lookup k).isSome else (l.lookup k).isSome),h)
 | _=>Á
noncomputable def bi(l:List (Ç×W))(w:W):M W:=λh=>match w with
 | .str k=>match l.lookup k with
  | some v=>À (v,h)
  | none=>Á
 | _=>Á
section
variable{X:Cx}{cl:Cl}{a:Ë}{ma:ME}{x:Ç}{l:List (Ç×W)}{p pos:Ċ}
def TabOk.at{s:Å}{H:Hp}{es:Array ø}(I:Inv X ag σ H s)(hl:X.K.lookup d=À ⟨.type "dict",Á,.dict es n,#[]⟩)(hk:ħ X.w.params es.toList) :
  s.heap.MapOf (strKind X.prog X.w) d (λk=>Ţ ç es k):=PySem.W.mapOf_K I.kIn hl hk
def Qb{op:Ũ}(neg:Bool)(ho:∀{A:Ö} {E:Ä->Å->Prop} {s:Å} {d:È} {f:Ç->Option Ä} {k:Ç} {t:Tok} {Q:Ä->Å->Prop},(d==Ü)=Â->s.heap.MapOf (strKind X.prog X.w) d f->Q (.bool (if neg then !(f k).isSome else (f k).isSome)) { s with toks:=s.toks+1 }->Ê (Ì X.prog X.w) A (Ó op (.str k t) (.ref d)) Q E s)
  (T:TabOk X.K X.w.params X.mg x l) (ha:SE X cl a ma) (hm:à op (.Name x p)=Â) (hg:Gl X x) (hd:(x==("__debug__":Ç))=Â):SE X cl (.Compare a [op] [.Name x p] pos) (vt (tabIn neg l) ma):=by
 obtain⟨d,es,n,e1,e2,e3,e4,e5⟩:=T.ex;have L8:jI X (Ó op) (λx y H Q=>∃k,x=.str k/\y=.ref d/\Q (.bl (if neg then !(l.lookup k).isSome else (l.lookup k).isSome)) H):=by
  rintro ag s σ H x y v u Q I rx ry ⟨k,rfl,rfl,q⟩;obtain⟨t,rfl⟩:=rx;cases ry;refine ho e4 (TabOk.at I e2 e3) ?_;have fk:(Ţ ç es k).isSome=(l.lookup k).isSome:=by
   have:=e5.find (k:=k);unfold Ţ;rw[<-qZ];cases ek:l.lookup k with
   | none=>rw[ek] at this;rw[this];rfl
   | some w=>rw[ek] at this;obtain⟨v,e,_⟩:=this;rw[e];rfl
  rw[fk];exact⟨.bl _,H,I.tok _,rfl,q⟩
 refine PE.wk (Ka L8 ha (mf hg e1 (show RelV (.ref d) (.ref d) from rfl) hd) hm) ?_;rintro σ H Q ⟨μ,h,ρ,w,h',R,er,e,k⟩;obtain⟨y,h1,f1,e⟩:=ke e;refine⟨μ,h,ρ,y,h1,R,er,f1,λen H1 vx E1 R1 rx=>?_⟩;unfold tabIn at e;split at e
 .cases e
  exact⟨_,rx.str_of,rfl,k en H1 _ E1 R1 (.bl _)⟩
 .cases e
def Wz(hu:X.A.units+64<ā)(T:TabOk X.K X.w.params X.mg x l)(ha:SE X cl a ma)(hm:à .In (.Name x p)=Â:=by first | exact nomark _ | rfl)(hg:↥(Gl X x))(hd:⇑((x==("__debug__":Ç))=Â)):SE X cl (.Compare a [.In] [.Name x p] pos) (vt (tabIn Â l) ma):=
 Qb Â (λ{A E s d f k t Q} h1 h2 h3=>wpAny_in_of (yJ X.prog X.w k t) h1 h2 h3) T ha hm hg hd
def Qh(hu:X.A.units+64<ā)(T:TabOk X.K X.w.params X.mg x l)(ha:SE X cl a ma)(hm:à .NotIn (.Name x p)=Â:=by first | exact nomark _ | rfl)(hg:↥(Gl X x))(hd:⇑((x==("__debug__":Ç))=Â)):SE X cl (.Compare a [.NotIn] [.Name x p] pos) (vt (tabIn Ã l) ma):=
 Qb Ã (λ{A E s d f k t Q} h1 h2 h3=>wpAny_notIn_of (yJ X.prog X.w k t) h1 h2 h3) T ha hm hg hd
def pL(hu:X.A.units+64<ā)(T:TabOk X.K X.w.params X.mg x l)(ha:SE X cl a ma)(hs:ae a:=by exactλ_ _=>rfl)(hg:↥(Gl X x))(hd:⇑((x==("__debug__":Ç))=Â)):SE X cl (.Subscript (.Name x p) a pos) (vt (bi l) ma):=by
 obtain⟨d,es,n,e1,e2,e3,e4,e5⟩:=T.ex;have Dx:ZP X (λx y H Q=>∃k w,x=.ref d/\y=.str k/\l.lookup k=À w/\∀v,(∀μ H,RW X.K μ H w v)->Q v H):=by
  rintro value slice ag s σ H x y v u Q I rx ry ⟨k,w,rfl,rfl,el,q⟩ hs;cases rx;obtain⟨t,rfl⟩:=ry;have hm:=TabOk.at I e2 e3;have:=e5.find (k:=k);rw[el] at this;obtain⟨v0,ev,kw⟩:=this;obtain⟨v1,r1,r2⟩:=kw.rw;refine tail_any hm.typeIs slot_dict_getitem.lookup (wpAny_getItem_of (v:=v0) (yJ X.prog X.w k t) hm ?_ ⟨v1,H,I.tok _,r1,q v1 r2⟩) hs;unfold Ţ;rw[<-qZ];exact ev
 refine PE.wk (JN Dx (mf hg e1 (show RelV (.ref d) (.ref d) from rfl) hd) ha hs) ?_;rintro σ H Q ⟨μ,h,ρ,w,h',R,er,e,k⟩;obtain⟨y,h1,f1,e⟩:=ke e;refine⟨μ,h,ρ,y,h1,R,er,f1,λen H1 vx E1 R1 rx=>?_⟩;unfold bi at e;split at e
 .split at e
  .rename_i k' w' el
   cases e;exact⟨_,_,rfl,rx.str_of,el,λv hv=>k en H1 _ E1 R1 (hv en H1)⟩
  .cases e
 .cases e
end
noncomputable def keyOf:W->Option Key
 | .int i=>À (.inl i)
 | .str x=>À (.inr x)
 | _=>Á
noncomputable def vF(l:List (Key×W))(k:Key):Option W:=(l.find? λkv=>decide (kv.1=k)).map (·.2)
noncomputable def j2(l:List (Key×W))(k:Key)(v:W):List (Key×W):=
 if (l.any λkv=>decide (kv.1=k))=Ã then l.map (λkv=>if kv.1=k then (kv.1,v) else kv) else l++[(k,v)]
noncomputable def qv(l more:List (Key×W)):List (Key×W):=more.foldl (λacc kv=>j2 acc kv.1 kv.2) l
noncomputable def xA(h:MH):W->Option (List (Key×W))
 | .fdc l=>À l
 | .ref n=>match h[n]? with
  | some (.dic l)=>À l
  | _=>Á
 | _=>Á
inductive PR(K:S5)(μ:List È)(H:Hp):List (Key×W)->List (Key×V)->Prop
 | nil:PR K μ H [] []
 | cons {k:Key} {w:W} {v:V} {l:List (Key×W)} {l':List (Key×V)}:RW K μ H w v->PR K μ H l l'->PR K μ H ((k,w)::l) ((k,v)::l')
section
variable{K:S5}{cl:Cl}{μ gy:List È}{H H':Hp}{h:MH}
theorem RKs.pr:∀{l:List (Key×W)} {l':List (Key×V)},RKs K μ H l l'->PR K μ H l l'
 | [],[],_=>.nil
 | [],_::_,⟨k,_⟩=>by simp at k
 | _::_,[],⟨k,_⟩=>by simp at k
 | (k1,w)::l,(k2,v)::l',⟨k,r⟩=>by
  erw[zx,jN] at k;obtain⟨rfl,k⟩:=k;erw[zx] at r;cases r with | cons r t=>exact .cons r (RKs.pr ⟨k,t⟩)
theorem PR.rk:∀{l:List (Key×W)} {l':List (Key×V)},PR K μ H l l'->RKs K μ H l l'
 | _,_,.nil=>⟨rfl,.nil⟩
 | _,_,.cons r t=>⟨by simp[t.rk.1],.cons r t.rk.2⟩
theorem PR.len:∀{l:List (Key×W)} {l':List (Key×V)},PR K μ H l l'->l.length=l'.length
 | _,_,.nil=>rfl
 | _,_,.cons _ t=>jP (· + 1) t.len
theorem PR.val:∀{l:List (Key×W)} {l':List (Key×V)},PR K μ H l l'->match vF l k with
  | some w=>∃v,ut l' k=À v/\RW K μ H w v
  | none=>ut l' k=Á
 | _,_,.nil=>rfl
 | _,_,.cons (k:=k') (l:=l) (l':=l') (w:=w) (v:=v) r t=>by
  have ih:=PR.val (k:=k) t;by_cases q:k'=k
  .have e1:vF ((k',w)::l) k=À w:=by simp[vF,jD,q]
   rw[e1];exact⟨v,by simp[ut,jD,q],r⟩
  .have e1:vF ((k',w)::l) k=vF l k:=by simp[vF,jD,q]
   have e2:ut ((k',v)::l') k=ut l' k:=by simp[ut,jD,q]
   rw[e1,e2];exact ih
theorem PR.any:∀{l:List (Key×W)} {l':List (Key×V)},PR K μ H l l'->(l.any λkv=>decide (kv.1=k))=(l'.any λkv=>decide (kv.1=k))
 | _,_,.nil=>rfl
 | _,_,.cons _ t=>by erw[wg];rw[t.any]
theorem PR.map(r:RW K μ H w v):∀{l:List (Key×W)} {l':List (Key×V)},PR K μ H l l'->PR K μ H (l.map λkv=>if kv.1=k then (kv.1,w) else kv) (l'.map λkv=>if kv.1=k then (kv.1,v) else kv)
 | _,_,.nil=>.nil
 | _,_,.cons (k:=k') q t=>by
  erw[zx];by_cases z:k'=k
  .erw[z,kE];exact .cons r (t.map r)
  .erw[z,je];exact .cons q (t.map r)
theorem PR.app:∀{l m:List (Key×W)} {l' m':List (Key×V)},PR K μ H l l'->PR K μ H m m'->PR K μ H (l++m) (l'++m')
 | _,_,_,_,.nil,s=>s
 | _,_,_,_,.cons r t,s=>.cons r (t.app s)
def PR.put(p:PR K μ H l l')(r:RW K μ H w v):PR K μ H (j2 l k w) (putK l' k v):=by
 unfold j2 putK;rw[<-p.any (k:=k)];split
 .exact p.map r
 .exact p.app (.cons r .nil)
def PR.merge{more:List (Key×W)}(q:PR K μ H more more')(p:PR K μ H l l'):PR K μ H (qv l more) (uF l' more'):=by
 induction q generalizing l l' with
 | nil=>exact p
 | cons r t ih=>exact ih (p.put r)
theorem PR.ext(R:HR K cl μ H h)(E:Ext μ H gy H'):∀{l:List (Key×W)} {l':List (Key×V)},PR K μ H l l'->PR K gy H' l l'
 | _,_,.nil=>.nil
 | _,_,.cons r t=>.cons (r.ext R E) (t.ext R E)
def eM(R:HR K cl μ H h)(r:RW K μ H w v)(e:xA h w=À l):∃a l',v=.ref a/\Rd H a (.dK l')/\PR K μ H l l':=by
 cases r with
 | @fdc a l0 l' ws vs s kk e1 e2 rs=>cases e;subst e1;subst e2;exact⟨a,l',rfl,s.1,RKs.pr ⟨kk,rs⟩⟩
 | @ref n a hn=>
  erw[xA] at e;split at e
  .rename_i l' ho
   cases e;obtain⟨l2,hv,rs⟩:=R.ob n a _ hn ho;exact⟨a,l2,rfl,.inl hv,RKs.pr rs⟩
  .cases e
 | _=>cases e
theorem bv(r:RW K μ H w v)(e:keyOf w=À k):v=kV k:=by
 cases r<;>cases e<;>rfl
theorem KQ.fdc{l:List (Key×W)}{l':List (Key×V)}{Q:VK}{p:È}(k:KQ K cl μ H h (.fdc l) Q)(R:HR K cl μ H h)(pr:PR K μ H l l')(hp:H p=Á):Q (.ref p) (upd H p (.dK l')):=
 k μ _ _ (.side hp) (R.side hp) (.fdc ⟨.inl qo,R.fresh hp⟩ (pr.rk.1) rfl rfl ((pr.ext R (.side hp)).rk.2))
end
noncomputable def oh(md mk mv:ME):ME:=λρ=>bnd (md ρ) λx h=>if (xA h x).isSome=Ã then bnd (mk ρ) (λy=>bnd (mv ρ) λz h=>match xA h x,keyOf y with
  | some l,À k=>À ((vF l k).getD z,h)
  | _,_=>Á) h else Á
section
variable{X:Cx}{cl:Cl}{o a b:Ë}{mo ma mb:ME}{apos cpos pos:Ċ}
def Wv(hu:X.A.units+64<ā)(ho:SE X cl o mo)(ha:SE X cl a ma)(hb:SE X cl b mb)(m:M2 X o "get" apos a b cpos:=by exact⟨rfl,rfl,rfl,rfl⟩):SE X cl (.Call (.Attribute o "get" apos) [a,b] [] cpos) (oh mo ma mb):=
 PE.wk (Wc ∅ ho ha hb m) λσ H Q q0=>by
  obtain⟨μ,h,ρ,w,h',R,er,e,k⟩:=q0;obtain⟨x,h1,e1,e⟩:=ke e;split at e
  .rename_i hd
   obtain⟨y,h2,e2,e⟩:=ke e;obtain⟨z,h3,e3,e⟩:=ke e;refine⟨μ,h,ρ,x,h1,R,er,e1,λen H1 vx E1 R1 rx=>?_⟩;obtain⟨l0,hd⟩:=qg.mp hd;obtain⟨d,l',rfl,rd,_⟩:=eM R1 rx hd;refine⟨d,rfl,.inl ⟨l',rd⟩,en,h1,ρ,y,h2,R1,er.ext R E1,e2,λhY H2 vy E2 R2 ry=>⟨hY,h2,ρ,z,h3,R2,(er.ext R E1).ext R1 E2,e3,λAy H3 vz E3 R3 rz=>?_⟩⟩;split at e
   .rename_i l k' el ek
    cases e;obtain⟨d2,l2,ed,Ri,pr⟩:=eM R3 ((rx.ext R1 E2).ext R2 E3) el;cases ed;have hk:=bv ry ek;subst hk;refine⟨ut l2 k',.inl ⟨l2,k',Ri,rfl,rfl⟩,?_⟩;have E:=E1.trans (E2.trans E3);have:=pr.val (k:=k');cases ev:vF l k' with
    | none=>rw[ev] at this k;rw[this];exact k Ay H3 _ E R3 rz
    | some w0=>rw[ev] at this k;obtain⟨v0,e0,r0⟩:=this;rw[e0];exact k Ay H3 _ E R3 r0
   .cases e
  .cases e
def Ua:SE X cl (.Dict [] [] pos) (eC (.fdc [])):=
 PE.wk YE λσ H Q q0=>by
  obtain⟨μ,h,ρ,w,h',R,er,e,k⟩:=q0;cases e;exactλp hp=>k.fdc R .nil hp
end
end ML
section
namespace ML
open PySem PySem.Spec PyProof.Rows L2
end ML
namespace ML
open PySem PySem.Spec PyProof.Rows L2
end ML
end
section
namespace ML
open PySem PySem.Spec PyProof.Rows L2
noncomputable def keysOf:List (W×W)->Option (List (Key×W))
 | []=>À []
 | (x,y)::r=>match keyOf x,keysOf r with
  | some k,À l=>À ((k,y)::l)
  | _,_=>Á
noncomputable def pairsOf:List W->Option (List (W×W))
 | []=>À []
 | .tup [x,y]::r=>match pairsOf r with
  | some l=>À ((x,y)::l)
  | none=>Á
 | _=>Á
noncomputable def l7(ws:List W):M W:=λh=>match ws with
 | [w]=>match xA h w with
  | some l=>À (.fdc l,h)
  | none=>match getL h w with
   | some l=>match pairsOf l with
    | some ps=>match keysOf ps with
     | some ks=>if ks.length<=1000 then À (.fdc (qv [] ks),h) else Á
     | none=>Á
    | none=>Á
   | none=>Á
 | _=>Á
end ML
end
namespace ML
open PySem PySem.Spec PyProof.Rows L2
def Kc{T:String}(h:T="list" \/ T="tuple" \/ T="zip"):ĝ (.type T) "keys" = pure Á:=by
 rcases h with rfl | rfl | rfl<;>(rw[qt,jL];kernel_rfl)
def Kg{T:String}(h:T="list" \/ T="tuple" \/ T="zip"):ĝ (.type T) "__getattr__" = pure Á:=by
 rcases h with rfl | rfl | rfl<;>(rw[qt,jL];kernel_rfl)
def dr:isSubtype (.type "AttributeError") (.type "AttributeError")=pure Ã:=by rw[wD];kernel_rfl
section
variable{prog:Í}{w:Ñ}{A:Ö}{E:Ä->Å->Prop}{s:Å}
theorem Uv{name:Ä}(he:s.heap.get? e=À { cls:=.type "AttributeError",data:=.fields #[v0,v1,v2,v3,v4,v5,ă 0,ă 0] })
  (hq:∀h' ob,Ĥ e s.heap h'->h'.get? e=À ob->ob.cls=.type "AttributeError"->Q () { s with heap:=h' }):Ê (Ì prog w) A (noteAttr (.ref e) o name) Q E s:=by
 have hT:s.TypeIs (.ref e) "AttributeError":=⟨_,he,rfl⟩;unfold noteAttr;refine za ?_;unfold lacksNameAndObj;refine za (jY hT dr ?_);erw[Bool.not_true,jt,je];refine za (ſ he ?_);refine zr ?_;erw[kE];refine za (qC (za (j5 hT ?_)));show Ê _ _ (layMembers e 6 #[name,o]) _ _ s
 unfold layMembers;refine za (ſ he ?_);refine wpAny_update he (hq _ _ (qx ..).extBut (jO _ he ?_) ?_)
 .rfl
 .rfl
def oy{α:Type}{o:Ä}{x msg:Ç}{Q:α->Å->Prop}(hh:A.handled=Á)(hm:msg.length<=Î)
  (hq:∀h' Ad e,(∀b ob,s.heap.get? b=À ob->h'.get? b=À ob)->(∃ob,h'.get? e=À ob/\ob.cls=.type "AttributeError")->E (.ref e) { s with heap:=h',toks:=Ad }):Ê (Ì prog w) A (raiseAttrError o x msg:Sem α) Q E s:=by
 unfold raiseAttrError;refine za (wpAny_mkStr (za ?_) hm);unfold newExc newTuple;refine za (jo ?_);refine za (m:=ė _ _) (jU (a:=ë) (by first | rfl | kernel_rfl) ?_);refine jo ?_;refine za (ű (za ?_));refine Uv (zN _ rfl) λh' ob hx ho hc=>?_
 unfold raiseNew;refine za (Ş ?_);rw[hh];first
  | refine wL ?_
  | refine za (zr (wL ?_))
 refine hq _ _ _ (λb Rj hb=>hx b Rj ?_ (zf _ (zf _ hb))) ⟨ob,ho,hc⟩;refine zW (zL (zB hb) ?_);simp
end
section
variable{prog:Í}{w:Ñ}{A:Ö}{E:Ä->Å->Prop}{h:Ï}{g:Array ő}{d:Drawn}{t:Nat}{os:Ğ}{a:È}{items:Array Ä}{n:Nat}{sl:Array (Option Ä)}{dd:Option È}
noncomputable def Jn(h:Ï)(g:Array ő)(d:Drawn)(os:Ğ)(E:Ä->Å->Prop):Prop:=∀h' Ad e,(∀b ob,h.get? b=À ob->h'.get? b=À ob)->(∃ob,h'.get? e=À ob/\ob.cls=.type "AttributeError")->E (.ref e) ⟨h',g,d,Ad,os⟩
set_option maxHeartbeats 1000000 in
def Qz(hh:A.handled=Á)(hx:h.get? a=À { cls:=.type "list",dict:=Á,data:=.seq items n,slots:=sl })(hq:Jn h g d os E) :
  Ê (Ì prog w) A (û.«object.__getattribute__» ⟨[.ref a,.str "keys" tk],[]⟩) Q E ⟨h,g,d,t,os⟩:=by
 have hT:(⟨h,g,d,t,os⟩:Å).TypeIs (.ref a) "list":=⟨_,hx,rfl⟩;have f4:=Kc (T:="list") (.inl rfl);repeat (any_goals (first | assumption | wp_step))
 refine oy hh ⋯ λh' Ad e k1 k2=>hq h' Ad e k1 k2
def tE(hh:A.handled=Á)(hx:h.get? a=À { cls:=.type "list",dict:=Á,data:=.seq items n,slots:=sl })(hq:Jn h g d os E):Ê (Ì prog w) A (ų (.ref a) (.str "keys" tk) Â) Q E ⟨h,g,d,t,os⟩:=by
 have hT:(⟨h,g,d,t,os⟩:Å).TypeIs (.ref a) "list":=⟨_,hx,rfl⟩;have f2:=wJ.lookup;have f3:=wJ.bind (.ref a);unfold ų;refine jd (za (j5 hT (za (jU f2 ?_))));show Ê _ _ (Ĩ (.ref a) (.str "keys" tk) (.type "list") (.builtin "list.__getattribute__") Â Â) _ _ _
 unfold Ĩ;refine za (zr ?_);refine za (j4 ?_);refine jd ?_;show Ê _ _ (Ļ (.builtin "list.__getattribute__") (.ref a) (.str "keys" tk)) _ _ _
 unfold Ļ;refine za (jU f3 ?_);refine jy wJ hT F.entry_list_ga ?_ (F.args_list_getattribute_2 _ _);refine Qz hh hx λh' Ad e k1 k2=>?_
 obtain⟨ob,ho,hc⟩:=k2;have NV:(⟨h',g,d,Ad,os⟩:Å).TypeIs (.ref e) "AttributeError":=⟨_,ho,hc⟩;show Ê _ _ (Ē (.ref a) (.str "keys" tk) (.type "list") (.ref e) Á Â Â) _ _ _
 unfold Ē;refine za (jY NV dr ?_);erw[kE];refine za (jU (show hookBehind (.type "list") Á=pure Á from Kg (.inl rfl)) ?_);show Ê _ _ (č (.ref a) (.str "keys" tk) (.ref e) Â Â) _ _ _
 unfold č;erw[Bool.not_false,kE];exact wL (hq h' Ad e k1 ⟨ob,ho,hc⟩)
def ZK(hh:A.handled=Á)(hx:h.get? a=À { cls:=.type "list",dict:=Á,data:=.seq items n,slots:=sl })(hq:∀h' Ad,(∀b ob,h.get? b=À ob->h'.get? b=À ob)->Q Á ⟨h',g,d,Ad,os⟩):Ê (Ì prog w) A (getAttr? (.ref a) "keys") Q E ⟨h,g,d,t,os⟩:=by
 unfold getAttr? getAttrBy?;refine za (ű ?_);refine za (j4 (tE hh hx λh' Ad e k1 k2=>?_));obtain⟨ob,ho,hc⟩:=k2;refine za (jY (T:="AttributeError") (b:=Ã) ⟨ob,ho,hc⟩ dr ?_);exact zr (hq h' Ad k1)
end
def eP:entryFor table "dict.update.loop" = À û.«dict.update.loop»:=entryFor_of_tree SF
def xX:plainId "dict.update.loop" = Ã:=by decide +kernel
section
variable{prog:Í}{w:Ñ}{A:Ö}{R:Result->Å->Prop}{I D:È}{fp wr:List È}{n:Nat}{P:Nat->Ä->Prop}{St:Nat->Ï->Prop}{h0:Ï}{us:List Ä}{d6:List (Key×Ä)}
noncomputable def pb(knd:KeyKind prog w Key)(h:Ï)(us:List Ä)(d6:List (Key×Ä)):Prop:=us.length=d6.length/\∀(i:Nat) (u:Ä) (kv:Key×Ä),us[i]?=À u->d6[i]?=À kv->∃T k,u=.ref T/\IsTup h T #[k,kv.2]/\knd.is kv.1 k=Ã
def YU(knd:KeyKind prog w Key)(W:Walks prog w A.in1 I fp wr us.length (λi v=>us[i]?=À v) St)(LO:D∉fp)(Mv:h0.get? D=Á)(Lv:∀b∈wr,h0.get? b=Á)(hp:pb knd h0 us d6)(hz:d6.length<=1000) :
  ∀(k i:Nat) (tk:Tok) (s:Å),us.length-i=k->i<=us.length->St i s.heap->s.heap.DictOf knd D (ł [] (d6.take i))->(∀b o,h0.get? b=À o->s.heap.get? b=À o)->
   (∀h' Ad,h'.DictOf knd D (ł [] d6)->(∀b o,h0.get? b=À o->h'.get? b=À o)->R (.ok (.ret .none)) { s with heap:=h',toks:=Ad })->
   Ď (Ì prog w) A (.builtin "dict.update.loop" ⟨[.ref D,.ref I,.int i tk,.none],[]⟩) R s:=by
 have OF:D∉wr:=λh=>LO (W.sub _ h)
 intro k;induction k with
 | zero=>
  intro i tk s hk hi r9 hd Ep hR;obtain rfl:i=us.length:=by omega
  refine vX eP ?_;rw[qU xX _];show Ê _ A.in1 (Ā (.ref I) >>= _) _ _ s;refine za (W.done s _ _ r9 λh' Ad kk=>?_)
  show Ê _ A.in1 (Ņ D [] >>= _) _ _ _
  refine za (zr (zr (hR h' Ad ?_ λb o e=>kk b o (λz=>by rw[Lv b z] at e;cases e) (Ep b o e))));rw[hp.1,yr] at hd;obtain⟨o,es,ep,ho,rest⟩:=hd;exact⟨o,es,ep,kk D o OF ho,rest⟩
 | succ k ih=>
  intro i tk s hk hi r9 hd Ep hR;have Al:i<us.length:=by omega
  refine vX eP ?_;rw[qU xX _];show Ê _ A.in1 (Ā (.ref I) >>= _) _ _ s;refine za (W.item i s _ _ Al r9 λv h' Ad hv Lw kk=>?_)
  have LP:i<d6.length:=by rw[<-hp.1];exact Al
  obtain⟨T,key,rfl,hT,Mw⟩:=hp.2 i v d6[i] hv (zE LP);have keep:∀b o,h0.get? b=À o->h'.get? b=À o:=λb o e=>kk b o (λz=>by rw[Lv b z] at e;cases e) (Ep b o e)
  have Ec:IsTup h' T #[key,d6[i].2]:=by obtain⟨o,ho,r⟩:=hT;exact⟨o,keep T o ho,r⟩
  have AC:h'.DictOf knd D (ł [] (d6.take i)):=by obtain⟨o,es,ep,ho,rest⟩:=hd;exact⟨o,es,ep,kk D o OF ho,rest⟩
  show Ê _ A.in1 (ü [Ò T] _ >>= _) _ _ _
  refine za (jd (za (wpAny_tryCatch ?_)));unfold Ō;refine za (j5 Ec.typeIs ?_);rw[z9 (by decide)];obtain⟨oT,Rk,SJ,nT,Rl⟩:=Ec;refine za (jJ Rk Rl (zr ?_));show Ê _ _ (ü [key,d6[i].2] (dictSet D key d6[i].2)) _ _ _
  refine jd ?_;unfold dictSet;try with_reducible refine jd ?_
  refine za (knd.pyHash Mw ?_);refine xH (s:={ s with heap:=h',toks:=Ad+1 }) Mw AC (λh2 hd2 sb=>?_) (by have:=merged_length_le ([]:List (Key×Ä)) (d6.take i);rw[qP] at this;simp at this;exact zK (zK this ∅) (show 1000<=Î by decide));refine zr ⟨vd xX _,ih (i+1) _ _ ∅ Al (W.frame _ _ _ Lw λb hb o e=>?_) ?_ (λb o e=>?_) λh3 NW NX k3=>?_⟩
  .rw[sb.2 b (λz:b=D=>LO (by rw[<-z];exact hb))];exact e
  .rw[merged_take_succ [] d6 i d6[i] (zE LP)];exact hd2
  .rw[sb.2 b (λz:b=D=>by rw[z,Mv] at e;cases e)];exact keep b o e
  .exact hR h3 NW NX k3
end
section
variable{prog:Í}{w:Ñ}{A:Ö}{E:Ä->Å->Prop}{s:Å}{us:List Ä}{d6:List (Key×Ä)}{l:È}{n:Nat}{sl:Array (Option Ä)}
def oQ(knd:KeyKind prog w Key)(hh:A.handled=Á)(hl:s.heap.get? l=À { cls:=.type "list",dict:=Á,data:=.seq us.toArray n,slots:=sl })(hp:pb knd s.heap us d6)(hz:d6.length<=1000)
  (h:∀h' Ad,h'.DictOf knd s.heap.objs.size (ł [] d6)->(∀b o,s.heap.get? b=À o->h'.get? b=À o)->Q (.ref s.heap.objs.size) { s with heap:=h',toks:=Ad }):Ê (Ì prog w) A (Ŋ (.type "dict") [.ref l]) Q E s:=by
 refine yq (Q₁:=λobj hG=>obj=.ref s.heap.objs.size/\hG={ s with heap:=s.heap.push { cls:=.type "dict",data:=.dict #[] } }) F.kt_called_dict (F.kt_typeCall_dict_1 _) F.entry_dict_init (kt_code_dict_new _ ⟨rfl,rfl⟩) ?_;rintro obj hG ⟨rfl,rfl⟩;have Am:(s.heap.push { cls:=.type "dict",data:=.dict #[] }).DictOf knd s.heap.objs.size []:=xr s.heap;refine⟨Am.typeIs,F.args_dict_init_2 _ _,?_⟩;unfold û.«dict.__init__»;refine za ?_;unfold ņ;refine za (Ő Am.typeIs ?_);show Ê _ _ (pure (s.heap.objs.size,[Ò l])) _ _ _
 refine zr ?_;show Ê _ _ (ą "dict.__init__" s.heap.objs.size (.ref l) [] .none) _ _ _
 unfold ą;have EK:(s.heap.push { cls:=.type "dict",data:=.dict #[] }).get? l=À _:=zf _ hl;refine za (j5 (T:="list") ⟨_,EK,rfl⟩ ?_);rw[z9 (by decide)];have NY:A.in1.in1.handled=Á:=by simpa using hh
 refine za (ZK NY EK λh1 Ro k1=>?_);erw[xR,kE];have Ot:=k1 _ _ EK;have hL:h1.IsList l us.toArray:=⟨_,Ot,rfl,n,rfl⟩;refine za (qC ?_);refine za (vo hL ?_);have k0:∀b o,s.heap.get? b=À o->h1.get? b=À o:=λb o e=>k1 b o (zf _ e)
 have Lx:s.heap.objs.size<h1.objs.size:=by obtain⟨o,es,ep,ho,_⟩:=Am;exact zB (k1 _ _ ho)
 have Mx:l<s.heap.objs.size:=zB hl;have NZ:h1.DictOf knd s.heap.objs.size []:=by obtain⟨o,es,ep,ho,rest⟩:=Am;exact⟨o,es,ep,k1 _ _ ho,rest⟩
 have AW:l≠h1.objs.size:=zW (Nat.lt_trans Mx Lx);have W0:=xP (prog:=prog) (w:=w) (A:=A.in1.in1) (by simpa using hh) h1.objs.size l AW us.toArray;have W1:Walks prog w A.in1.in1 h1.objs.size [h1.objs.size,l] [h1.objs.size] us.length (λi v=>us[i]?=À v) (λi h=>h.IsListIter h1.objs.size l i/\h.IsList l us.toArray):=by simpa using W0
 refine zr ⟨vd xX _,YU (h0:=s.heap) knd W1 ?_ ?_ ?_ hp hz us.length 0 _ _ rfl (qy _) ⟨⟨_,zN _ rfl,rfl,rfl⟩,hL.at λo e=>zf _ e⟩ ?_ (λb o e=>zf _ (k0 b o e)) λh' Ad AC k'=>?_⟩
 .erw[zb,zc,zO,j6]
  exact⟨zW Lx,ql Mx⟩
 .exact vP (zj _)
 .intro b hb
  erw[zb,zc,zO] at hb;rw[hb];exact vP (wI Lx)
 .obtain⟨o,es,ep,ho,rest⟩:=NZ
  exact⟨o,es,ep,zf _ ho,rest⟩
 .exact⟨rfl,h h' Ad AC k'⟩
end
end ML
namespace ML
open PySem PySem.Spec PyProof.Rows L2
section
variable{X:Cx}{cl:Cl}
theorem sL{K:S5}{μ:List È}{H:Hp}:∀{l:List W} {vs:List V} {ps:List (W×W)} {ks:List (Key×W)},RWs K μ H l vs->pairsOf l=À ps->keysOf ps=À ks->
  ∃Ai:List (Key×V),PR K μ H ks Ai/\vs.length=Ai.length/\∀(i:Nat) (v:V) (kv:Key×V),vs[i]?=À v->Ai[i]?=À kv->∃T,v=.ref T/\SqT K H T [kV kv.1,kv.2]
 | [],_,_,_,.nil,e1,e2=>by
  cases e1;cases e2;exact⟨[],.nil,rfl,λi v kv e=>by simp at e⟩
 | w::l,_,ps,ks,.cons (v:=v) r t,e1,e2=>by
  have hw:∃x y,w=.tup [x,y]:=by
   unfold pairsOf at e1;split at e1
   .rename_i hd;cases hd
   .rename_i x y r' hd;cases hd;exact⟨x,y,rfl⟩
   .cases e1
  obtain⟨x,y,rfl⟩:=hw;unfold pairsOf at e1;split at e1
  .rename_i l' e3
   cases e1;unfold keysOf at e2;split at e2
   .rename_i k lk e4 e5
    cases e2;obtain⟨Ai,p,hl,hi⟩:=sL t e3 e5;obtain⟨T,SK,rfl,sq,rr⟩:=r.tup_of;cases rr with | cons r1 rr=>cases rr with | @cons _ v2 _ _ r2 rr=>cases rr with | nil=>
    have:=bv r1 e4;subst this;refine⟨(k,v2)::Ai,.cons r2 p,by simp[hl],λi v kv ev ek=>?_⟩;cases i with
    | zero=>simp at ev ek;subst ev;subst ek;exact⟨T,rfl,sq⟩
    | succ i=>exact hi i v kv (by simpa using ev) (by simpa using ek)
   .cases e2
  .cases e1
theorem pairs_at{s:Å}{H:Hp}(I:Inv X ag σ H s):∀{vs:List V} {cb:List Ä} {Ai:List (Key×V)},Vals vs cb->vs.length=Ai.length->
  (∀(i:Nat) (v:V) (kv:Key×V),vs[i]?=À v->Ai[i]?=À kv->∃T,v=.ref T/\SqT X.K H T [kV kv.1,kv.2])->∃d6,KV Ai d6/\pb (qr X.prog X.w) s.heap cb d6
 | _,_,[],.nil,_,_=>⟨[],.nil,rfl,λi u kv e=>by simp at e⟩
 | _,_,_::_,.nil,hl,_=>by simp at hl
 | _,_,[],.cons _ _,hl,_=>by simp at hl
 | _,_,(k,v2)::Ai,.cons (a:=v) (b:=u) r t,hl,hi=>by
  obtain⟨d6,q1,q2,q3⟩:=pairs_at I t (by simpa using hl) λi v kv e1 e2=>hi (i+1) v kv (by simpa using e1) (by simpa using e2)
  obtain⟨T,rfl,sq⟩:=hi 0 v (k,v2) (by simp) (by simp);obtain⟨SL,rv,ht,_⟩:=I.tuple sq;obtain⟨u1,u2,rfl,Lu,EE⟩:=vals2 rv;cases r;refine⟨(k,u2)::d6,.cons ⟨rfl,EE⟩ q1,by simp[q2],λi u kv e1 e2=>?_⟩;cases i with
  | zero=>simp at e1 e2;subst e1;subst e2;exact⟨T,u1,rfl,ht,mq Lu⟩
  | succ i=>exact q3 i u kv (by simpa using e1) (by simpa using e2)
def JO(hc:X.calm=Ã):yB X (.type "dict") (rMs X.K cl l7):=by
 rintro ag s σ H xs us Q I rs ⟨μ,h,ws,w,h',R,ax,e,k⟩;unfold l7 at e;split at e
 .cases ax with | cons r t=>cases t with | nil=>
  obtain⟨u,rfl,ru⟩:=rs.one;split at e
  .rename_i l el
   cases e;obtain⟨a,l',rfl,rd,pr⟩:=eM R r el;cases ru;exact ZD I rd λp s' hp I'=>⟨.ref p,_,I',rfl,k.fdc R pr hp⟩
  .split at e
   .rename_i l el
    split at e
    .rename_i ps ep
     split at e
     .rename_i ks ek
      split at e
      .rename_i hX
       cases e;obtain⟨a,vs,rfl,sa,ra⟩:=xb R r el;cases ru;obtain⟨Ai,pr,hl,hi⟩:=sL ra ep ek;obtain⟨cb,rv,⟨⟨oc,od,OG,A2⟩,n,g1,g2,g3,g4⟩,_⟩:=I.list sa;simp only at g2 g3 g4;subst g2 g3 g4;obtain⟨d6,q1,q2⟩:=pairs_at I rv hl hi;have LP:Ai.length=d6.length:=q1.length;refine oQ (qr X.prog X.w) (I.ok.hd hc) g1 q2 (by rw[<-LP,<-pr.len];exact hX) λh2 tk dd kp=>?_
       have rel:KV (uF [] Ai) (ł [] d6):=q1.merge .nil;have hz:(uF [] Ai).length<=Î:=by
        have h1:=b6 Ai [];rw[zV] at h1;rw[vp];have:=pr.len;omega
       exact⟨.ref _,_,I.laid (a:=s.heap.objs.size) (o:=.dK (uF [] Ai)) (t':=tk) kp (zj _) (nK hz (ju.mpr (kZ (zW I.big))) rel dd),rfl,k.fdc R (pr.merge .nil) (I.hok.fresh (zj _))⟩
      .cases e
     .cases e
    .cases e
   .cases e
 .cases e
end
end ML
section
namespace ML
open PySem PySem.Spec PyProof.Rows L2
def B9{P:Í}{w:Ñ}{K:S5}{mg:Ç->Option Ä}{base:Ï}{cl:Cl}{x qual:Ç}{st:Ă}{f:È}{N ps:List Ç}{np:Nat}(F:Fun K x qual st f fd)(Ag:kF st=sc)(N0:kX st=bd)(S:FnScope N ps sc)(AQ:ps.length=np)(Ah:N.length-np=ns)
  (hb:∀(xI:Ä) (A:Ö) (outer:List ŷ) (s:Å) (H:Hp) (E:XK),Room k (A.deeper (envOfC qual sc s.heap.objs.size f xI))->
   SB (lE uE P w K mg base N qual sc f xI A outer s H E).nox cl bd b):FnOk P w K mg base uE (k+1) f fd ps (xy K cl (gc (kg np ns b))):=by
 subst Ag N0;exact GK F S AQ Ah hb
noncomputable def Yy(sc:ã)(x:Ç):Bool:=match sc.names.lookup x with
 | some .local=>Ã
 | some .cell=>Ã
 | some .free=>Ã
 | _=>Â
noncomputable def K4(sc:ã)(x:Ç):Bool:=match sc.names.lookup x with
 | some .local=>Ã
 | some .cell=>Ã
 | _=>Â
noncomputable def WK(sc:ã)(N:List Ç)(i:Nat)(x:Ç):Bool:=N[i]?==À x&&Yy sc x && !(x==("__debug__":Ç)) && !(x==("__classdict__":Ç))
noncomputable def setB(sc:ã)(N:List Ç)(i:Nat)(x:Ç):Bool:=N[i]?==À x&&K4 sc x
noncomputable def setC(sc:ã)(N:List Ç)(i:Nat)(x:Ç):Bool:=N[i]?==À x&&sc.names.lookup x==À .local
noncomputable def xp(sc:ã)(x:Ç):Bool:=sc.names.lookup x==À .globalImplicit && !(x==("__debug__":Ç)) && !(x==("__name__":Ç))
section
variable{X:Cx}{cl:Cl}{x:Ç}{pos Ab p:Ċ}{sc:ã}{N:List Ç}{i:Nat}{e:Ë}{m:ME}
def U2(h:Yy sc x=Ã):KI sc x:=by
 unfold Yy at h;split at h
 .rename_i q;exact .inl q
 .rename_i q;exact .inr (.inl q)
 .rename_i q;exact .inr (.inr q)
 .cases h
def l5(h:K4 sc x=Ã):Loc sc x:=by
 unfold K4 at h;split at h
 .rename_i q;exact .inl q
 .rename_i q;exact .inr q
 .cases h
def v_(h:WK sc N i x=Ã)(hs:↥(X.env.scope=sc))(hN:↥(X.N=N)):SE X cl (.Name x pos) (ze i):=by
 unfold WK at h;erw[zq,j9,qI] at h;exact FO i (by rw[hN];exact h.1.1.1) (by rw[hs];exact U2 h.1.1.2) h.1.2 h.2
def g_(h:setB sc N i x=Ã)(AL:N.Nodup)(hs:↥(X.env.scope=sc))(hN:↥(X.N=N))(hf:↥(X.fn x=Ã)):SG X cl (.Name x pos) (zD i):=by
 unfold setB at h;erw[zq,j9] at h;exact Kp i (by rw[hN];exact AL) (by rw[hN];exact h.1) (by rw[hs];exact l5 h.2) (.inl hf)
def Li(h:setC sc N i x=Ã)(AL:N.Nodup)(hs:↥(X.env.scope=sc))(hN:↥(X.N=N)):SG X cl (.Name x pos) (zD i):=by
 unfold setC at h;erw[zq,j9] at h;exact Kp i (by rw[hN];exact AL) (by rw[hN];exact h.1) (by rw[hs];exact .inl h.2) (.inr (by rw[hs];exact h.2))
def s_(h:setB sc N i x=Ã)(AL:N.Nodup)(he:SE X cl e m)(hs:↥(X.env.scope=sc))(hN:↥(X.N=N))(hf:↥(X.fn x=Ã))(AX:↥(ì e (À (.Name x Ab)) pos.line X.env=pure Â)):SS X cl (.Assign [.Name x Ab] e pos) (zI m (zD i)):=by
 unfold setB at h;erw[zq,j9] at h;exact FJ i (by rw[hN];exact AL) he (by rw[hN];exact h.1) (by rw[hs];exact l5 h.2) AX (.inl hf)
def IS{f:W->W->M W}(h:setB sc N i x=Ã)(AL:N.Nodup)(ho:Va X op (rM X.K cl f))(he:SE X cl e m)(hs:↥(X.env.scope=sc))(hN:↥(X.N=N))(hf:↥(X.fn x=Ã)):SS X cl (.AugAssign (.Name x Ab) op e pos) (mS i f m):=by
 unfold setB at h;erw[zq,j9] at h;exact C6 i (by rw[hN];exact AL) ho he (by rw[hN];exact h.1) (by rw[hs];exact l5 h.2) (.inl hf)
def kU(h:xp sc x=Ã)(hs:X.env.scope=sc):Gl X x/\(x==("__debug__":Ç))=Â/\x≠"__name__":=by
 unfold xp at h;erw[zq,j9,qI] at h;refine⟨?_,h.1.2,λz=>?_⟩
 .show X.env.scope.names.lookup x=_
  rw[hs];exact h.1.1
 .have:=h.2;rw[z] at this;simp at this
variable{k:Nat}{f:È}{fd:ù}{ps:List Ç}{es:List Ë}{g:List W->M W}{ms:List ME}{id:String}
def c_(h:xp sc x=Ã)(F:FnOk X.prog X.w X.K X.mg X.base uE k f fd ps (xy X.K cl g))(hr:Room k X.A)(hm:X.mg x=À (.ref f))(hk:Û X.K (.ref f)=Ã)(hb:Binds X.K fd ps [])
  (ha:SA X cl (e::es) ms) (hs:↥(X.env.scope=sc)) (r9:↥(É (e::es) X.env=(Â,Ú e X.env)::É es X.env)) (Aa:↥((Ù pos (É es X.env)).any (·.1)=Â)):SE X cl (.Call (.Name x p) (e::es) [] pos) (zh g ms):=
 Bo F hr hm hk hb ha (kU h hs).1 (kU h hs).2.1 r9 Aa
def IN(h:xp sc x=Ã)(F:FnOk X.prog X.w X.K X.mg X.base uE k f fd ps (xy X.K cl g))(hr:Room k X.A)(hm:X.mg x=À (.ref f))(hk:Û X.K (.ref f)=Ã)(hb:Binds X.K fd ps [])
 (hs:↥(X.env.scope=sc)):SE X cl (.Call (.Name x p) [] [] pos) (zh g []):=Yt F hr hm hk hb (kU h hs).1 (kU h hs).2.1
def D8(h:xp sc x=Ã)(hc:yB X (.builtin id) (rMs X.K cl g))(hm:X.mg x=Á)(hv:Ô x=À (.builtin id))(ha:SA X cl (e::es) ms)(hs:↥(X.env.scope=sc))(r9:↥(É (e::es) X.env=(Â,Ú e X.env)::É es X.env))(Aa:↥((Ù pos (É es X.env)).any (·.1)=Â)) :
 SE X cl (.Call (.Name x p) (e::es) [] pos) (zh g ms):=Yq hc hm hv ha (kU h hs).1 (kU h hs).2.2 (kU h hs).2.1 r9 Aa
def Xl(h:xp sc x=Ã)(hc:yB X (.type id) (rMs X.K cl g))(hm:X.mg x=Á)(hv:Ô x=À (.type id))(ha:SA X cl (e::es) ms)(hs:↥(X.env.scope=sc))(r9:↥(É (e::es) X.env=(Â,Ú e X.env)::É es X.env))(Aa:↥((Ù pos (É es X.env)).any (·.1)=Â)) :
 SE X cl (.Call (.Name x p) (e::es) [] pos) (zh g ms):=QK hc hm hv ha (kU h hs).1 (kU h hs).2.2 (kU h hs).2.1 r9 Aa
def Lk(h:xp sc x=Ã)(G:Glob X.K X.mg x w)(hs:↥(X.env.scope=sc)):SE X cl (.Name x pos) (eC w):=G.se (kU h hs).1 (kU h hs).2.1
def HF(T:Ty)(h:xp sc "isinstance" = Ã)(h2:xp sc y=Ã)(ha:SE X cl a ma)(hi:X.mg "isinstance" = Á)(ht:X.mg y=Á)(hv:Ô y=À (.type T.name))(hs:↥(X.env.scope=sc))
  (MU:↥(É [a,.Name y p2] X.env=(Â,Ú a X.env)::É [.Name y p2] X.env)) (EB:↥(É [.Name y p2] X.env=(Â,Ú (.Name y p2) X.env)::É [] X.env))
  (Aa:↥((Ù pos (É [.Name y p2] X.env)).any (·.1)=Â)):SE X cl (.Call (.Name "isinstance" p) [a,.Name y p2] [] pos) (vt (isW T) ma):=
 C5 T ha hi ht hv (kU h hs).1 (kU h2 hs).1 (kU h2 hs).2.2 (kU h2 hs).2.1 MU EB Aa
variable{a:Ë}{ma:ME}{l:List (Ç×W)}
def Lf(h:xp sc x=Ã)(hu:X.A.units+64<ā)(T:TabOk X.K X.w.params X.mg x l)(ha:SE X cl a ma)(hs:↥(X.env.scope=sc))(hm:à .In (.Name x p)=Â:=by first | exact nomark _ | rfl):SE X cl (.Compare a [.In] [.Name x p] pos) (vt (tabIn Â l) ma):=Wz hu T ha hm (kU h hs).1 (kU h hs).2.1
def IP(h:xp sc x=Ã)(hu:X.A.units+64<ā)(T:TabOk X.K X.w.params X.mg x l)(ha:SE X cl a ma)(hs:↥(X.env.scope=sc))(hm:à .NotIn (.Name x p)=Â:=by first | exact nomark _ | rfl):SE X cl (.Compare a [.NotIn] [.Name x p] pos) (vt (tabIn Ã l) ma):=Qh hu T ha hm (kU h hs).1 (kU h hs).2.1
def IL(h:xp sc x=Ã)(hu:X.A.units+64<ā)(T:TabOk X.K X.w.params X.mg x l)(ha:SE X cl a ma)(hs:↥(X.env.scope=sc))(hp:ae a:=by exactλ_ _=>rfl):SE X cl (.Subscript (.Name x p) a pos) (vt (bi l) ma):=pL hu T ha hp (kU h hs).1 (kU h hs).2.1
def IE(h:xp sc "range" = Ã)(hm:X.mg "range" = Á)(ha:SA X cl [e] ms)(hs:↥(X.env.scope=sc))(r9:↥(É [e] X.env=[(Â,Ú e X.env)])):SI X cl tg (.Call (.Name "range" p) [e] [] pos) (vj ms):=DY hm ha (kU h hs).1 r9
def HJ(h:xp sc "zip" = Ã)(hm:X.mg "zip" = Á)(ha:SA X cl [e,e2] ms)(hs:↥(X.env.scope=sc))(r9:↥(É [e,e2] X.env=(Â,Ú e X.env)::É [e2] X.env))(Aa:↥((Ù pos (É [e2] X.env)).any (·.1)=Â)) :
 SI X cl (.Tuple EJ n A1) (.Call (.Name "zip" p) [e,e2] [] pos) (fE ms):=DC hm ha (kU h hs).1 r9 Aa
end
end ML
namespace ML
open PySem PySem.Spec PyProof.Rows L2
section
variable{X:Cx}{cl:Cl}{a:Ë}{ma:ME}{x:Ç}{l:List (Ç×W)}{p pos:Ċ}{sc:ã}
def QG(neg:Bool)(ho:∀{A:Ö} {E:Ä->Å->Prop} {s:Å} {d:È} {f:Ç->Option Ä} {k:Ç} {t:Tok} {Q:Ä->Å->Prop},(d==Ü)=Â->s.heap.MapOf (strKind X.prog X.w) d f->Q (.bool (if neg then !(f k).isSome else (f k).isSome)) { s with toks:=s.toks+1 }->Ê (Ì X.prog X.w) A (Ó op (.str k t) (.ref d)) Q E s)
  (T:TabOk X.K X.w.params X.mg x l) (ha:SE X cl a ma) (hm:à op (.Name x p)=Â) (hg:Gl X x) (hd:(x==("__debug__":Ç))=Â):ST X cl (.Compare a [op] [.Name x p] pos) (kb (vt (tabIn neg l) ma)):=by
 obtain⟨d,es,n,e1,e2,e3,e4,e5⟩:=T.ex;have L8:jI X (Ó op) (λx y H Q=>∃k,x=.str k/\y=.ref d/\Q (.bl (if neg then !(l.lookup k).isSome else (l.lookup k).isSome)) H):=by
  rintro ag s σ H x y v u Q I rx ry ⟨k,rfl,rfl,q⟩;obtain⟨t,rfl⟩:=rx;cases ry;refine ho e4 (TabOk.at I e2 e3) ?_;have fk:(Ţ ç es k).isSome=(l.lookup k).isSome:=by
   have:=e5.find (k:=k);unfold Ţ;rw[<-qZ];cases ek:l.lookup k with
   | none=>rw[ek] at this;rw[this];rfl
   | some w=>rw[ek] at this;obtain⟨v,e,_⟩:=this;rw[e];rfl
  rw[fk];exact⟨.bl _,H,I.tok _,rfl,q⟩
 refine PT.wk (Ki L8 ha (mf hg e1 (show RelV (.ref d) (.ref d) from rfl) hd) hm) λσ H Q q=>?_
 obtain⟨μ,h,ρ,w,h',R,er,e,k⟩:=fq q;obtain⟨y,h1,f1,e⟩:=ke e;refine⟨μ,h,ρ,y,h1,R,er,f1,λen H1 vx E1 R1 rx=>?_⟩;unfold tabIn at e;split at e
 .cases e
  exact⟨_,rx.str_of,rfl,k en H1 _ E1 R1 (.bl _)⟩
 .cases e
def Im(h:xp sc x=Ã)(hu:X.A.units+64<ā)(T:TabOk X.K X.w.params X.mg x l)(ha:SE X cl a ma)(hs:↥(X.env.scope=sc))(hm:à .In (.Name x p)=Â:=by first | exact nomark _ | rfl):ST X cl (.Compare a [.In] [.Name x p] pos) (kb (vt (tabIn Â l) ma)):=
 QG Â (λ{A E s d f k t Q} h1 h2 h3=>wpAny_in_of (yJ X.prog X.w k t) h1 h2 h3) T ha hm (kU h hs).1 (kU h hs).2.1
def HY(h:xp sc x=Ã)(hu:X.A.units+64<ā)(T:TabOk X.K X.w.params X.mg x l)(ha:SE X cl a ma)(hs:↥(X.env.scope=sc))(hm:à .NotIn (.Name x p)=Â:=by first | exact nomark _ | rfl):ST X cl (.Compare a [.NotIn] [.Name x p] pos) (kb (vt (tabIn Ã l) ma)):=
 QG Ã (λ{A E s d f k t Q} h1 h2 h3=>wpAny_notIn_of (yJ X.prog X.w k t) h1 h2 h3) T ha hm (kU h hs).1 (kU h hs).2.1
end
end ML
end
namespace ML
open PySem PySem.Spec PyProof.Rows L2
noncomputable def sU(l:List Ç):Bool:=decide l.Nodup
def Xb{l:List Ç}(h:sU l=Ã:=by kernel_rfl):l.Nodup:=qe h
noncomputable def yi(x y:W):M W:=λh=>match xA h x,keyOf y with
 | some l,À k=>match vF l k with
  | some w=>À (w,h)
  | none=>Á
 | _,_=>Á
section
variable{X:Cx}{cl:Cl}{a b:Ë}{ma mb:ME}{pos:Ċ}
def HV(hu:X.A.units+64<ā):ZP X (rM X.K cl yi):=by
 rintro value slice ag s σ H x y v u Q I rx ry ⟨μ,h,wx,wy,w,h',R,ax,ay,e,k⟩ hs;unfold yi at e;split at e
 .rename_i l kk el ek
  split at e
  .rename_i w' ev
   cases e;obtain⟨d,l',rfl,rd,pr⟩:=eM R ax el;have hk:=bv ay ek;subst hk;have hv:=pr.val (k:=kk);rw[ev] at hv;obtain⟨v0,e0,r0⟩:=hv;have g:tP H d (kV kk) (À v0):=.inl ⟨l',kk,rd,rfl,e0.symm⟩;cases rx;exact tail_any (Z1 I g) PySem.F.slot_dict_getitem.lookup (Vz ∅ I g ry λw' s3 I3 Eh=>⟨v0,H,I3,Eh,k.pure R r0⟩) hs
  .cases e
 .cases e
def CJ(hu:X.A.units+64<ā)(ha:SE X cl a ma)(hb:SE X cl b mb)(hs:ae b):SE X cl (.Subscript a b pos) (zi yi ma mb):=
 PE.wk (JN (HV hu) ha hb hs) λσ H Q q=>dP q
end
noncomputable def fy(x y v:W):M W:=λh=>match x with
 | .ref n=>match h[n]? with
  | some (.dic l)=>match keyOf y with
   | some k=>if l.length<cap then À (.non,h.set n (.dic (j2 l k v))) else Á
   | none=>Á
  | some (.lst l)=>match y with
   | .int i=>match xD l.length i with
    | some j=>À (.non,h.set n (.lst (l.set j v)))
    | none=>Á
   | _=>Á
  | _=>Á
 | _=>Á
noncomputable def bS(mo mi:ME):MG:=λv ρ=>bnd (mo ρ) λx=>bnd (mi ρ) λy=>bnd (fy x y v) λ_ h=>À (ρ,h)
section
variable{X:Cx}{cl:Cl}{o i:Ë}{mo mi:ME}{pos:Ċ}
inductive rPut(K:S5)(cl:Cl)(o:V)(i:V)(v:V)(H:Hp)(Q:Hp->Prop):Prop
 | mk (μ:List È) (h:MH) (wo:W) (wi:W) (wv:W) (w:W) (h':MH) (p0:HR K cl μ H h) (p1:RW K μ H wo o) (p2:RW K μ H wi i) (p3:RW K μ H wv v) (p4:fy wo wi wv h=À (w,h')) (p5:∀gy H',Ext μ H gy H'->HR K cl gy H' h'->Q H'):rPut K cl o i v H Q
def GD(hu:X.A.units+64<ā):Wr X (rPut X.K cl):=by
 rintro ag s σ H o i v ov iv u Q I ro ri rv ⟨μ,h,wo,wi,wv,w,h',R,ao,ai,av,e,k⟩;unfold fy at e;split at e
 .rename_i n
  cases ao with | @ref _ p hn=>
  split at e
  .rename_i l ho
   split at e
   .rename_i kk ek
    split at e
    .rename_i hl
     cases e;obtain⟨l',hp,rk⟩:=R.ob n p _ hn ho;have pr:=RKs.pr rk;have hk:=bv ai ek;subst hk;cases ro;have Rp:l'.length<Î:=by rw[<-pr.len];exact zL hl xW
     refine qD (Vp ∅ I (.inl ⟨l',kk,hp,rfl,Rp,rfl⟩) ri rv λs' I'=>?_) (λ_ _ z=>z) λ_ _ z=>z
     have E:Ext μ H μ (upd H p (.dK (putK l' kk v))):=Ext.put hn;exact⟨_,I',k μ _ E (R.put hn ⟨_,qo,((pr.put av).ext R E).rk⟩)⟩
    .cases e
   .cases e
  .rename_i l ho
   split at e
   .rename_i j
    split at e
    .rename_i j' ej
     cases e;obtain⟨vs,hp,rs⟩:=R.ob n p _ hn ho;have hi:=ai.int_of;subst hi;have E:Ext μ H μ (upd H p (.lst (vs.set j' v))):=Ext.put hn;refine set_list ag s σ H _ _ v ov iv u Q I ro ri rv ⟨p,vs,j,j',rfl,rfl,hp,by rw[<-rs.length];exact ej,k μ _ E (R.put hn ⟨_,qo,(RWs.set av _ rs).ext R E⟩)⟩
    .cases e
   .cases e
  .cases e
 .cases e
def DX(hu:X.A.units+64<ā)(ho:SE X cl o mo)(hi:SE X cl i mi)
  (ha:∀v,ĥ (.Subscript o i pos) X.env v=(do
   let ov <-ü [v] (Ú o X.env)
   let iv <-ü [v,ov] (Ú i X.env)
   Ī pos
   ü [v,ov,iv] (Ź ov iv v)
   release [v,ov,iv] []):=by intro _;rfl):SG X cl (.Subscript o i pos) (bS mo mi):=
 PG.wk (Dm ho hi (GD hu) ha) λv σ H Q q0=>by
  obtain⟨μ,h,ρ,w,ρ',h',R,er,rv,e,k⟩:=q0;obtain⟨x,h1,e1,e⟩:=ke e;obtain⟨y,h2,e2,e⟩:=ke e;obtain⟨z,h3,e3,e⟩:=ke e;cases e;refine⟨μ,h,ρ,x,h1,R,er,e1,λen H1 vx E1 R1 rx=>⟨en,h1,ρ,y,h2,R1,er.ext R E1,e2,λhY H2 vy E2 R2 ry=>?_⟩⟩;refine⟨hY,h2,x,y,w,z,_,R2,rx.ext R1 E2,ry,(rv.ext R E1).ext R1 E2,e3,λAy H3 E3 R3=>?_⟩;exact k Ay H3 σ (E1.trans (E2.trans E3)) R3 (((er.ext R E1).ext R1 E2).ext R2 E3)
end
noncomputable def qE(fl:List (Nat×List Ç))(c:Nat)(f:Ç):Bool:=fl.any λp=>p.1==c&&p.2.any (· == f)
noncomputable def fi(K:S5)(cl:Cl)(fl:List (Nat×List Ç)):Prop:=∀c f,qE fl c f=Ã->Cls K (cl.c c)/\NoAttr K (cl.c c) f
noncomputable def ul(f:Ç)(v:W):List (Ç×W)->List (Ç×W)
 | []=>[(f,v)]
 | (g,x)::r=>if g=f then (g,v)::r else (g,x)::ul f v r
noncomputable def xt(fl:List (Nat×List Ç))(f:Ç)(x:W):M W:=λh=>match x with
 | .ref n=>match h[n]? with
  | some (.ins c fs)=>if qE fl c f=Ã then (match fs.lookup f with
   | some w=>À (w,h)
   | none=>Á) else Á
  | _=>Á
 | _=>Á
noncomputable def iA(fl:List (Nat×List Ç))(f:Ç)(x v:W):M W:=λh=>match x with
 | .ref n=>match h[n]? with
  | some (.ins c fs)=>if qE fl c f=Ã then (if fs.length<1000 then À (.non,h.set n (.ins c (ul f v fs))) else Á) else Á
  | _=>Á
 | _=>Á
noncomputable def kM(fl:List (Nat×List Ç))(f:Ç)(mo:ME):ME:=λρ=>bnd (mo ρ) (xt fl f)
noncomputable def uy(fl:List (Nat×List Ç))(f:Ç)(mo:ME):MG:=λv ρ=>bnd (mo ρ) λx=>bnd (iA fl f x v) λ_ h=>À (ρ,h)
noncomputable def clsOf(x:W)(h:MH):Option Nat:=match x with
 | .ref n=>match h[n]? with
  | some (.ins c _)=>À c
  | _=>Á
 | _=>Á
noncomputable def nu(fl:List (Nat×List Ç))(f:Ç)(g:W->W->M W)(mo m:ME):MS:=λρ=>bnd (mo ρ) λx h0=>bnd (xt fl f x) (λv=>bnd (m ρ) λy=>bnd (g v y) λz h1=>if clsOf x h1=clsOf x h0 then bnd (iA fl f x z) (λ_ h=>À (.nx ρ,h)) h1 else Á) h0
section
variable{K:S5}{cl:Cl}{μ gy:List È}{H H':Hp}{h:MH}{f:Ç}
theorem RKs.look:∀{fs:List (Ç×W)} {fs':List (Ç×V)},RKs K μ H fs fs'->fs.lookup f=À w->∃v,fs'.lookup f=À v/\RW K μ H w v
 | [],_,_,e=>by cases e
 | (g,x)::fs,[],r,e=>by have:=r.1;simp at this
 | (g,x)::fs,(g',x')::fs',r,e=>by
  obtain⟨r1,r2⟩:=r;erw[zx,jN] at r1;obtain⟨rfl,r1⟩:=r1;cases r2 with | cons q t=>
  rw[kO] at e ⊢;cases z:f==g with
  | true=>rw[z] at e;cases e;exact⟨_,rfl,q⟩
  | false=>rw[z] at e;exact RKs.look ⟨r1,t⟩ e
theorem RKs.miss:∀{fs:List (Ç×W)} {fs':List (Ç×V)},RKs K μ H fs fs'->fs.lookup f=Á->fs'.lookup f=Á
 | [],[],_,_=>rfl
 | [],_::_,r,_=>by have:=r.1;simp at this
 | (g,x)::fs,[],r,e=>by have:=r.1;simp at this
 | (g,x)::fs,(g',x')::fs',r,e=>by
  obtain⟨r1,r2⟩:=r;erw[zx,jN] at r1;obtain⟨rfl,r1⟩:=r1;cases r2 with | cons q t=>
  rw[kO] at e ⊢;cases z:f==g with
  | true=>rw[z] at e;cases e
  | false=>rw[z] at e;exact RKs.miss ⟨r1,t⟩ e
def RKs.len{fs:List (Ç×W)}{fs':List (Ç×V)}(r:RKs K μ H fs fs'):fs.length=fs'.length:=by
 have:=jP ģ r.1;simpa using this
theorem RKs.putF(q:RW K μ H w v):∀{fs:List (Ç×W)} {fs':List (Ç×V)},RKs K μ H fs fs'->RKs K μ H (ul f w fs) (L2.putF f v fs')
 | [],[],_=>⟨rfl,.cons q .nil⟩
 | [],_::_,r=>by have:=r.1;simp at this
 | (g,x)::fs,[],r=>by have:=r.1;simp at this
 | (g,x)::fs,(g',x')::fs',r=>by
  obtain⟨r1,r2⟩:=r;erw[zx,jN] at r1;obtain⟨rfl,r1⟩:=r1;cases r2 with | cons p t=>
  unfold ul L2.putF;by_cases z:g=f
  .rw[z9 z,z9 z]
   exact⟨by simp[r1],.cons q t⟩
  .rw[kI z,kI z]
   have ih:=RKs.putF q (fs:=fs) (fs':=fs') ⟨r1,t⟩;exact⟨by simp[ih.1],.cons p ih.2⟩
theorem RKs.ext{κ:Type}(R:HR K cl μ H h)(E:Ext μ H gy H'){fs:List (κ×W)}{fs':List (κ×V)}(r:RKs K μ H fs fs'):RKs K gy H' fs fs':=⟨r.1,r.2.ext R E⟩
def Kd(C:fi K cl fl)(R:HR K cl μ H h)(r:RW K μ H x v)(e:xt fl f x h=À (w,h')):h'=h/\∃a c dx fs y,clsOf x h=À c/\v=.ref a/\H a=À (.ins (cl.c c) dx fs)/\Cls K (cl.c c)/\NoAttr K (cl.c c) f/\fs.lookup f=À y/\RW K μ H w y:=by
 unfold xt at e;split at e
 .rename_i n
  split at e
  .rename_i c fs ho
   split at e
   .rename_i hc
    split at e
    .rename_i w' ew
     cases e;cases r with | @ref _ a hn=>
     obtain⟨dx,fs',hH,rk⟩:=R.ob n a _ hn ho;obtain⟨y,ey,ry⟩:=rk.look ew;exact⟨rfl,a,c,dx,fs',y,by erw[clsOf,ho],rfl,hH,(C c f hc).1,(C c f hc).2,ey,ry⟩
    .cases e
   .cases e
  .cases e
 .cases e
def Z6(C:fi K cl fl)(R:HR K cl μ H h)(r:RW K μ H x v)(ry:RW K μ H u y)(e:iA fl f x u h=À (w,h')):∃a c dx fs,clsOf x h=À c/\v=.ref a/\H a=À (.ins (cl.c c) dx fs)/\Cls K (cl.c c)/\NoAttr K (cl.c c) f/\fs.length<1000/\Ext μ H μ (upd H a (.ins (cl.c c) dx (L2.putF f y fs)))/\HR K cl μ (upd H a (.ins (cl.c c) dx (L2.putF f y fs))) h':=by
 unfold iA at e;split at e
 .rename_i n
  split at e
  .rename_i c fs ho
   split at e
   .rename_i hc
    split at e
    .rename_i hl
     cases e;cases r with | @ref _ a hn=>
     obtain⟨dx,fs',hH,rk⟩:=R.ob n a _ hn ho;have E:Ext μ H μ (upd H a (.ins (cl.c c) dx (L2.putF f y fs'))):=Ext.put hn;exact⟨a,c,dx,fs',by erw[clsOf,ho],rfl,hH,(C c f hc).1,(C c f hc).2,by rw[<-rk.len];exact hl,E,R.put hn ⟨dx,_,qo,(RKs.putF ry rk).ext R E⟩⟩
    .cases e
   .cases e
  .cases e
 .cases e
end
section
variable{X:Cx}{cl:Cl}{o e:Ë}{mo m:ME}{pos Ab:Ċ}{f:Ç}{fl:List (Nat×List Ç)}
def DB(C:fi X.K cl fl)(ho:SE X cl o mo)(hb:Ý o f X.env (Ú o X.env)=Ú o X.env):SE X cl (.Attribute o f pos) (kM fl f mo):=
 PE.wk (Cu ho hb) λσ H Q q0=>by
  obtain⟨μ,h,ρ,w,h',R,er,e,k⟩:=q0;obtain⟨x,h1,e1,e⟩:=ke e;refine⟨μ,h,ρ,x,h1,R,er,e1,λen H1 vx E1 R1 rx=>?_⟩;obtain⟨rfl,a,c,dx,fs,y,-,q1,q2,q3,q4,q5,q6⟩:=Kd C R1 rx e;exact⟨a,cl.c c,dx,fs,y,q1,q2,q3,q4,q5,k en H1 _ E1 R1 q6⟩
def Cm(C:fi X.K cl fl)(he:SE X cl e m)(ho:SE X cl o mo)(hs:ì e (À (.Attribute o f Ab)) pos.line X.env=pure Â):SS X cl (.Assign [.Attribute o f Ab] e pos) (zI m (uy fl f mo)):=
 PS.wk (FC ho he hs) λD σ H q0=>by
  obtain⟨μ,h,ρ,Rq,h',R,er,e,k⟩:=q0;unfold zI at e;split at e
  .rename_i w h1 e1
   split at e
   .rename_i ρ2 h2 e2
    cases e;obtain⟨x,h3,e3,e2⟩:=ke e2;obtain⟨z,h4,e4,e2⟩:=ke e2;cases e2;refine⟨μ,h,ρ,w,h1,R,er,e1,λen H1 vy E1 R1 ry=>⟨en,h1,ρ,x,h3,R1,er.ext R E1,e3,λhY H2 vx E2 R2 rx=>?_⟩⟩;obtain⟨a,c,dx,fs,-,q1,q2,q3,q4,q5,E3,R3⟩:=Z6 C R2 rx (ry.ext R1 E2) e4;exact⟨a,cl.c c,dx,fs,q1,q2,q3,q4,q5,(k.ext (E1.trans (E2.trans E3))).nx R3 (((er.ext R E1).ext R1 E2).ext R2 E3)⟩
   .cases e
  .cases e
def Qf(C:fi X.K cl fl)(he:SE X cl e m)(ho:SE X cl o mo):SS X cl (.AugAssign (.Attribute o f Ab) .Add e pos) (nu fl f fx mo m):=
 PS.wk (Vs ho he FU) λD σ H q0=>by
  obtain⟨μ,h,ρ,Rq,h',R,er,e,k⟩:=q0;obtain⟨x,h1,e1,e⟩:=ke e;obtain⟨v,h2,e2,e⟩:=ke e;obtain⟨y,h3,e3,e⟩:=ke e;obtain⟨z,h4,e4,e⟩:=ke e;split at e
  .rename_i L5
   obtain⟨u,h5,e5,e⟩:=ke e;cases e;refine⟨μ,h,ρ,x,h1,R,er,e1,λen H1 vx E1 R1 rx=>?_⟩;obtain⟨rfl,a,c,dx,fs,v0,q0,q1,q2,q3,q4,q5,q6⟩:=Kd C R1 rx e2;refine⟨a,cl.c c,dx,fs,v0,q1,q2,q3,q4,q5,en,_,ρ,y,h3,R1,er.ext R E1,e3,λhY H2 vy E2 R2 ry=>?_⟩;unfold fx at e4;split at e4
   .rename_i i j _
    cases e4;obtain⟨a',c',L7,fs',p0,p1,p2,p3,p4,p5,E3,R3⟩:=Z6 C R2 (rx.ext R1 E2) (RW.int (i+j)) e5;rw[p0,q0] at L5;cases L5;subst q1;cases p1;exact⟨i,j,q6.int_of,ry.int_of,L7,fs',p2,p5,(k.ext (E1.trans (E2.trans E3))).nx R3 (((er.ext R E1).ext R1 E2).ext R2 E3)⟩
   .cases e4
  .cases e
end
abbrev oF:=List ((Nat×Ç)×(List W->M W))
noncomputable def ki(mt:oF)(m:Ç)(mo:ME)(ms:List ME):ME:=λρ=>bnd (mo ρ) λx h=>match x with
 | .ref n=>match h[n]? with
  | some (.ins c fs)=>match fs.lookup m,mt.lookup (c,m) with
   | none,À g=>bnd (ko ms ρ) (λws=>g (x::ws)) h
   | _,_=>Á
  | _=>Á
 | _=>Á
noncomputable def oE(P:Í)(w:Ñ)(K:S5)(mg:Ç->Option Ä)(base:Ï)(cl:Cl)(k:Nat)(c:Nat)(m:Ç)(g:List W->M W):Prop:=
 ∃f fd ps,Cls K (cl.c c)/\Meth K (cl.c c) m f/\FnOk P w K mg base uE k f fd ps (xy K cl g)/\Binds K fd ps []
section
variable{X:Cx}{cl:Cl}{k:Nat}{o e:Ë}{es:List Ë}{mo:ME}{ms:List ME}{pos apos:Ċ}{m:Ç}{mt:oF}
theorem pY{args:List Ë}(hb:Ý o m env (Ú o env)=Ú o env)(Aq:((Ù pos (É args env)).all (λx=>!x.1)&&(ô pos (Þ [] env)).all (λx=>x.1.isSome)
   && decide (args.length+([]:List ý).length+(if ([]:List ý).isEmpty then 0 else 1)<30))=Ã) (xa:(apos.endLine==pos.line)=Ã):Ú (.Call (.Attribute o m apos) args [] pos) env=(do
   let ov <-Ú o env
   Ī apos.atName
   let (f,first) <-ü [ov] (ř ov m (do return (<-importBound o env).getD Ã))
   œ pos f first (Ù pos (É args env)) (ô pos (Þ [] env))):=by
 have e1:Ú (.Call (.Attribute o m apos) args [] pos) env=(do
   let ov <-Ý o m env (Ú o env)
   Ī apos.atName
   methodCall o m apos pos env ov (args.length+([]:List ý).length) (Ù pos (É args env)) (ô pos (Þ [] env))):=by kernel_rfl
 rw[e1,hb];congr 1
 funext ov
 congr 1
 funext _
 unfold methodCall;have hk:ô pos (Þ [] env)=[]:=by kernel_rfl
 have hf:methodCallForm (args.length+([]:List ý).length) (Ù pos (É args env)) (ô pos (Þ [] env))=Ã:=by
  rw[hk] at Aq ⊢;exact Aq
 have hp:ş Ã o env apos pos=pure pos:=by
  unfold ş;rw[xa];rfl
 rw[hf];congr 1
 funext x
 obtain⟨f,first⟩:=x;show(ş Ã o env apos pos >>= λEL=>œ EL f first (Ù pos (É args env)) (ô pos (Þ [] env)))=_
 rw[hp];rfl
def tq{H:Hp}(MT:∀c g,mt.lookup (c,m)=À g->oE X.prog X.w X.K X.mg X.base cl k c m g)(q:tM X.K cl (ki mt m mo ms) σ H Q) :
  ∃c f fd ps g,Cls X.K (cl.c c)/\Meth X.K (cl.c c) m f/\FnOk X.prog X.w X.K X.mg X.base uE k f fd ps (xy X.K cl g)/\Binds X.K fd ps []/\JE (cl.c c) m (xy X.K cl g) [] E0 (tM X.K cl mo) (tMA X.K cl ms) σ H Q:=by
 obtain⟨μ,h,ρ,w,h',R,er,e,kq⟩:=q;obtain⟨x,h1,e1,e⟩:=ke e;split at e
 .rename_i n
  split at e
  .rename_i c fs ho
   split at e
   .rename_i g My hg
    obtain⟨f,fd,ps,c1,c2,F,B⟩:=MT c g hg;refine⟨c,f,fd,ps,g,c1,c2,F,B,μ,h,ρ,_,h1,R,er,e1,λen H1 vx E1 R1 rx=>?_⟩;cases rx with | @ref _ a hn=>
    obtain⟨dx,fs',hH,rk⟩:=R1.ob n a _ hn ho;obtain⟨ws,h2,e2,e⟩:=ke e;refine⟨a,dx,fs',rfl,hH,rk.miss My,en,h1,ρ,ws,h2,R1,er.ext R E1,e2,λhY H2 vs E2 R2 rs=>?_⟩;show xy X.K cl g (V.ref a::(vs++[])) H2 Q E0
    rw[kh];exact⟨hY,h2,.ref n::ws,w,h',R2,.cons (.ref (E2.get hn)) rs,e,λAy H3 v E3 R3 rv=>kq Ay H3 v (E1.trans (E2.trans E3)) R3 rv⟩
   .cases e
  .cases e
 .cases e
def Bp(MT:∀c g,mt.lookup (c,m)=À g->oE X.prog X.w X.K X.mg X.base cl k c m g)(hr:Room k X.A)(ho:SE X cl o mo)(ha:SA X cl (e::es) ms)(hb:Ý o m X.env (Ú o X.env)=Ú o X.env)
  (Aq:((Ù pos (É (e::es) X.env)).all (λx=>!x.1)&&(ô pos (Þ [] X.env)).all (λx=>x.1.isSome)&&decide ((e::es).length+([]:List ý).length+(if ([]:List ý).isEmpty then 0 else 1)<30))=Ã)
  (xa:(apos.endLine==pos.line)=Ã) (r9:É (e::es) X.env=(Â,Ú e X.env)::É es X.env) (Aa:(Ù pos (É es X.env)).any (·.1)=Â):SE X cl (.Call (.Attribute o m apos) (e::es) [] pos) (ki mt m mo ms):=by
 intro ag s σ H Q I q;obtain⟨c,f,fd,ps,g,c1,c2,F,B,q⟩:=tq MT q;exact Uk ho c1 c2 F hr B .nil me ha r9 Aa (pY hb Aq xa) ag s σ H Q I q
def YK(MT:∀c g,mt.lookup (c,m)=À g->oE X.prog X.w X.K X.mg X.base cl k c m g)(hr:Room k X.A)(ho:SE X cl o mo)(hb:Ý o m X.env (Ú o X.env)=Ú o X.env)
  (xa:(apos.endLine==pos.line)=Ã) (Aq:((Ù pos (É [] X.env)).all (λx=>!x.1)&&(ô pos (Þ [] X.env)).all (λx=>x.1.isSome)&&decide (([]:List Ë).length+([]:List ý).length+(if ([]:List ý).isEmpty then 0 else 1)<30))=Ã):SE X cl (.Call (.Attribute o m apos) [] [] pos) (ki mt m mo []):=by
 intro ag s σ H Q I q;obtain⟨c,f,fd,ps,g,c1,c2,F,B,a,b,d,x,h1,R,er,e1,k1⟩:=tq MT q;refine WU ho c1 c2 F hr B .nil me (pY hb Aq xa) ag s σ H Q I ⟨a,b,d,x,h1,R,er,e1,λen H1 vx E1 R1 rx=>?_⟩;obtain⟨a',dx,fs,q1,q2,q3,hY,h2,ρ2,ws,h3,R2,Da,e2,k2⟩:=k1 en H1 vx E1 R1 rx;cases e2;exact⟨a',dx,fs,q1,q2,q3,k2 hY H1 [] .refl R2 .nil⟩
noncomputable def uI(c:Nat)(g:List W->M W)(ms:List ME):ME:=λρ=>bnd (ko ms ρ) λws h=>match g (.ref h.length::ws) (h++[.ins c []]) with
 | some (.non,h')=>if h.length<h'.length then À (.ref h.length,h') else Á
 | _=>Á
noncomputable def tH(P:Í)(w:Ñ)(K:S5)(mg:Ç->Option Ä)(base:Ï)(cl:Cl)(k:Nat)(x:Ç)(c:Nat)(g:List W->M W):Prop:=
 ∃f fd ps,mg x=À (.ref (cl.c c))/\Mk K (cl.c c) f/\FnOk P w K mg base uE k f fd ps (xy K cl g)/\Binds K fd ps []
def W3{c:Nat}{H:Hp}(q:tM X.K cl (uI c g ms) σ H Q):Y9 (cl.c c) (xy X.K cl g) [] E0 (tMA X.K cl ms) σ H Q:=by
 obtain⟨μ,h,ρ,w,h',R,er,e,kq⟩:=q;obtain⟨ws,h1,e1,e⟩:=ke e;refine⟨μ,h,ρ,ws,h1,R,er,e1,λen H1 vs E1 R1 rs x dx hx hd AW=>?_⟩;show xy X.K cl g (V.ref x::(vs++[])) _ _ E0
 rw[kh];split at e
 .rename_i h2 e2
  split at e
  .rename_i Al
   cases e;have OH:upd H1 dx (.own x) x=Á:=by rw[kQ (kZ AW)];exact hx
   have Ea:Ext en H1 en (upd H1 dx (.own x)):=Ext.side hd;have Ra:=R1.side (u:=.own x) hd;have Eb:Ext en (upd H1 dx (.own x)) (en++[x]) (upd (upd H1 dx (.own x)) x (.ins (cl.c c) dx [])):=Ext.new OH;have Rb:HR X.K cl (en++[x]) (upd (upd H1 dx (.own x)) x (.ins (cl.c c) dx [])) (h1++[.ins c []]):=Ra.new OH ⟨dx,[],qo,rfl,.nil⟩;have hn:(en++[x])[h1.length]?=À x:=by rw[<-R1.len];simp
   refine⟨en++[x],_,.ref h1.length::ws,.non,_,Rb,.cons (.ref hn) ((rs.ext R1 Ea).ext Ra Eb),e2,λAy H3 v E3 R3 rv=>?_⟩;cases rv;exact⟨rfl,kq Ay H3 _ (E1.trans (Ea.trans (Eb.trans E3))) R3 (.ref (E3.get hn))⟩
  .cases e
 .cases e
noncomputable def F5(P:Í)(w:Ñ)(K:S5)(mg:Ç->Option Ä)(base:Ï)(cl:Cl)(k:Nat)(x:Ç)(c:Nat)(g:List W->M W):Prop:=(∀ws h,g ws h=Á)\/∃j,j+1<=k/\tH P w K mg base cl j x c g
def Ub{c:Nat}(M:F5 X.prog X.w X.K X.mg X.base cl k x c g)(hr:Room k X.A)(ha:SA X cl (e::es) ms)(hg:Gl X x)(AB:(x==("__debug__":Ç))=Â)(r9:É (e::es) X.env=(Â,Ú e X.env)::É es X.env)(Aa:(Ù pos (É es X.env)).any (·.1)=Â) :
  SE X cl (.Call (.Name x p) (e::es) [] pos) (uI c g ms):=by
 intro ag s σ H Q I q;rcases M with no | ⟨j,hj,f,fd,ps,hm,mk,F,B⟩
 .obtain⟨μ,h,ρ,w,h',R,er,e,kq⟩:=q
  obtain⟨ws,h1,e1,e⟩:=ke e;erw[no] at e;cases e
 .exact By mk F (hr.mono hj) hg hm B .nil me ha AB r9 Aa ag s σ H Q I (W3 q)
end
noncomputable def Jr(ws:List (Ç×(List W->M W)))(ma:ME)(ms:List ME):ME:=λρ=>bnd (ma ρ) λx h=>match x with
 | .str k=>match ws.lookup k with
  | some g=>bnd (ko ms ρ) g h
  | none=>Á
 | _=>Á
noncomputable def Jv(P:Í)(w:Ñ)(K:S5)(mg:Ç->Option Ä)(base:Ï)(cl:Cl)(k:Nat)(x:Ç)(ws:List (Ç×(List W->M W))):Prop:=
 ∃l,TabOk K w.params mg x l/\∀y g,ws.lookup y=À g->∃f fd ps,l.lookup y=À (.fn f)/\FnOk P w K mg base uE k f fd ps (xy K cl g)/\Û K (.ref f)=Ã/\Binds K fd ps []
section
variable{X:Cx}{cl:Cl}{k:Nat}{x:Ç}{p p2 pos:Ċ}{a e:Ë}{es:List Ë}{ma:ME}{ms:List ME}{ws:List (Ç×(List W->M W))}
theorem Wl:Ú (.Call (.Subscript (.Name x p) a p2) args [] pos) env=(do œ pos (<-Ú (.Subscript (.Name x p) a p2) env) [] (Ù pos (É args env)) (ô pos (Þ [] env))):=by kernel_rfl
def Fh(hu:X.A.units+64<ā)(T:Jv X.prog X.w X.K X.mg X.base cl k x ws)(hr:Room k X.A)(ha:SE X cl a ma)(hs:SA X cl (e::es) ms)(hp:ae a)(hg:Gl X x)(hd:(x==("__debug__":Ç))=Â)(r9:É (e::es) X.env=(Â,Ú e X.env)::É es X.env)(Aa:(Ù pos (É es X.env)).any (·.1)=Â) :
  SE X cl (.Call (.Subscript (.Name x p) a p2) (e::es) [] pos) (Jr ws ma ms):=by
 obtain⟨l,T,TW⟩:=T;intro ag s σ H Q I q;obtain⟨μ,h,ρ,w,h',R,er,e0,kq⟩:=q;obtain⟨y,h1,e1,e0⟩:=ke e0;split at e0
 .rename_i key
  split at e0
  .rename_i g eg
   obtain⟨f,fd,ps,el,F,hk,hb⟩:=TW key g eg;obtain⟨vs,h2,e2,e0⟩:=ke e0;rw[Wl];refine za (kC (pL hu T ha hp hg hd ag s σ H (λv H1=>v=.ref f/\∃en,Ext μ H en H1/\HR X.K cl en H1 h1) I ⟨μ,h,ρ,.fn f,h1,R,er,?_,λen H1 v E1 R1 rv=>?_⟩) λu s1 ⟨v,H1,I1,r1,z,en,E1,R1⟩=>?_)
   .unfold vt
    rw[W2 e1];erw[bi,el]
   .cases rv
    exact⟨rfl,en,E1,R1⟩
   .subst z
    cases r1;show Ê _ _ (œ pos (.ref f) [] _ []) _ _ _
    refine vL (h₀:=X.base) I1.ok.mod.kin hk (kC (hs pos ag s1 σ H1 (λvs H2=>xy X.K cl g (vs++[]) H2 Q E0) I1 ⟨en,h1,ρ,vs,h2,R1,er.ext R E1,e2,λhY H2 us E2 R2 rs=>?_⟩) λus s2 ⟨vs,H2,I2,r,q⟩=>⟨I2.kIn,?_⟩) r9 Aa
    .rw[kh]
     exact⟨hY,h2,vs,w,h',R2,rs,e0,λAy H3 v E3 R3 rv=>kq Ay H3 v (E1.trans (E2.trans E3)) R3 rv⟩
    .exact lC F hr hb .nil me I2 r q
  .cases e0
 .cases e0
end
end ML
namespace ML
open PySem PySem.W PySem.Spec PyProof.Rows
theorem pZ:Manifest.owners.lookup (String.ofList ['d','e','s','r','e','v','e','r'].reverse)=À Manifest.sig_reversed:=by kernel_rfl
def slot_rev_next:Slot "reversed" "__next__" "reversed.__next__":=
 .of (owner:="reversed") (n:="__next__") (by rw[qt,jL];kernel_rfl) ⋯ ⋯ ⋯
  (by first | exact .inl ⋯ | exact .inr ⋯) (by rw[wD];kernel_rfl)
def fN:entryFor table "reversed.__next__" = À û.«reversed.__next__»:=entryFor_of_tree SF
def i6(a:Ä):argsOk "reversed.__next__" ⟨[a],[]⟩:=by
 unfold argsOk;rw[signature?_of (id:="reversed.__next__") (n:=['_','_','t','x','e','n','_','_']) (o:=['d','e','s','r','e','v','e','r']) SF pZ];kernel_rfl
def i0:Slot "reversed" "__iter__" "reversed.__iter__":=
 .of (owner:="reversed") (n:="__iter__") (by rw[qt,jL];kernel_rfl) ⋯ ⋯ ⋯
  (by first | exact .inl ⋯ | exact .inr ⋯) (by rw[wD];kernel_rfl)
def rV(a:Ä):argsOk "reversed.__iter__" ⟨[a],[]⟩:=by
 unfold argsOk;rw[signature?_of (id:="reversed.__iter__") (n:=['_','_','r','e','t','i','_','_']) (o:=['d','e','s','r','e','v','e','r']) SF pZ];kernel_rfl
def oA:entryFor table "reversed.__iter__" = À û.«dict_keyiterator.__iter__»:=
 entryFor_alias (id':="dict_keyiterator.__iter__") SF (by first | rfl | decide +kernel | (unfold String.splitOn;simp +decide [String.splitOnAux])) ⋯ SF
def slot_rev_init:Slot "reversed" "__init__" "object.__init__":=
 .of (owner:="object") (n:="__init__") (by rw[qt,jL];kernel_rfl) ⋯ ⋯ ⋯
  (by first | exact .inl ⋯ | exact .inr ⋯) (by rw[wD];kernel_rfl)
def JT:TypeCalled "reversed" "reversed.__new__" "object.__init__":=
 ⟨by decide +kernel,F.create_reversed,⟨_,_,F.mro_reversed⟩,F.made_reversed,yo,F.sub_reversed_self,slot_rev_init⟩
def Vf:ĝ (.type "tuple") "__reversed__" = pure Á:=by rw[qt,jL];kernel_rfl
def Jd:isSubtype (.type "tuple") (.type "dict")=pure Â:=by rw[wD];kernel_rfl
section
variable{prog:Í}{w:Ñ}{A:Ö}{E:Ä->Å->Prop}{s:Å}
def Zc(t:È)(i:Int):î:={ cls:=.type "reversed",data:=.fields #[.ref t,ă i] }
def WD{items:Array Ä}(ht:s.heap.IsTuple t items)(hn:items.size<=Î)
  (h:∀tk,Q₁ (.ref s.heap.objs.size) { s with heap:=s.heap.push (Zc t ((items.size:Int)-1)),toks:=tk }) :
  Ď (Ì prog w) A (.call (.builtin "reversed.__new__") ⟨[.type "reversed",.ref t],[]⟩) (wants Q₁ E) s:=by
 refine codeAny_of_tree ?_;show Ê _ A.in1 (do checkBuiltinCall "reversed.__new__" ⟨[.type "reversed",.ref t],[]⟩;again (.builtin "reversed.__new__" ⟨[.type "reversed",.ref t],[]⟩)) _ _ s
 refine za (jU (F.newCall_reversed_1 _) (zr ⟨vd yo _,vX F.entry_reversed_new ?_⟩));rw[qU yo _];unfold û.«reversed.__new__»;refine za (jU (newClass_reversed _) ?_);try dsimp only
 refine za (jU (a:=()) (by first | rfl | kernel_rfl) ?_);refine za (jU (a:=()) (by first | rfl | kernel_rfl) ?_);try dsimp only
 refine za (vV ht.typeIs Vf ?_);try dsimp only
 refine za ?_;show Ê _ _ (isInstance (.ref t) (.type "dict") >>= _) _ _ _
 refine za (jY ht.typeIs Jd ?_);try dsimp only
 first | rw[kI (by decide)] | skip
 refine za (vV ht.typeIs jE.lookup ?_);try dsimp only
 rw[z9 (by decide)];refine zr ?_;show Ê _ _ (Ŋ (.builtin "len") [.ref t] >>= _) _ _ _
 have KB:(items.size:Int)<2 ^ 63:=by
  have:Î<2 ^ 62:=by decide +kernel
  omega
 refine za (len_tuple ht KB ?_);show Ê _ _ (ĩ (.type "reversed") [.ref t,ă ((items.size:Int)-1)] >>= _) _ _ _
 unfold ĩ;refine za (jo ?_ (by size_fits));exact zr (h _)
def Wy{items:Array Ä}(ht:s.heap.IsTuple t items)(hn:items.size<=Î)
  (h:∀tk,Q (.ref s.heap.objs.size) { s with heap:=s.heap.push (Zc t ((items.size:Int)-1)),toks:=tk }):Ê (Ì prog w) A (Ŋ (.type "reversed") [.ref t]) Q E s:=by
 refine yq JT (F.typeCall_reversed_1 _) F.entry_object_init (Q₁:=λobj hG=>obj=.ref s.heap.objs.size/\∃tk,hG={ s with heap:=s.heap.push (Zc t ((items.size:Int)-1)),toks:=tk }) (WD ht hn λtk=>⟨rfl,tk,rfl⟩) ?_;rintro obj hG ⟨rfl,tk,rfl⟩;have hT:Shared.TypeIs { s with heap:=s.heap.push (Zc t ((items.size:Int)-1)),toks:=tk } (.ref s.heap.objs.size) "reversed":=⟨_,zN _ rfl,rfl⟩;refine⟨hT,F.args_object_init_2 _ _,?_⟩;exact(object_init_meets (self:=.ref s.heap.objs.size) (rest:=[.ref t]) slot_rev_init.lookup F.made_reversed (by decide)) prog w A.in1 _ _ ⟨hT,rfl,h tk⟩
def IsRevT(h:Ï)(a t:È)(i:Int):Prop:=∃o,h.get? a=À o/\o.cls=.type "reversed" /\ o.data=.fields #[.ref t,ă i]
def IsRevT.typeIs{i:Int}(x:IsRevT s.heap a l i):s.TypeIs (.ref a) "reversed":=let ⟨o,ho,hc,_⟩:=x;⟨o,ho,hc⟩
def IsRevT.at{h h':Ï}{i:Int}(x:IsRevT h a l i)(e:∀o,h.get? a=À o->h'.get? a=À o):IsRevT h' a l i:=let ⟨o,ho,r⟩:=x;⟨o,e _ ho,r⟩
def V9{i:Nat}{items:Array Ä}(hit:IsRevT s.heap it l (i:Int))(hl:s.heap.IsTuple l items)(hn:items.size<=Î)(hx:items[i]?=À x)
  (hQ:∀h' tk,IsRevT h' it l ((i:Int)-1)->ć it s.heap h'->Q (À x) { s with heap:=h',toks:=tk }):Ê (Ì prog w) A (Ā (.ref it)) Q E s:=by
 obtain⟨o,ho,hc,hd⟩:=id hit;have hb:Î<2 ^ 62:=by decide +kernel
 have hi:i<items.size:=(yH.mp hx).1;unfold Ā
 refine za (j4 (jq (name:=õ "__next__") hit.typeIs slot_rev_next
  (jy slot_rev_next hit.typeIs fN ?_ (i6 _))))
 unfold û.«reversed.__next__»;refine za (jU (a:=(Ò it,[])) rfl ?_);try dsimp only
 refine za (jj ho hd (x:=.ref l) rfl ?_);refine za (jj ho hd (x:=ă (i:Int)) rfl ?_);show Ê _ _ (if (i:Int)<0 then _ else _) _ _ s
 rw[kI ∅];show Ê _ _ (specialOf (.ref l) "__getitem__" >>= _) _ _ s
 refine za (vV hl.typeIs jE.lookup ?_);try dsimp only
 rw[kI (by simp)];refine za (wpAny_mkInt ?_);refine za (j4 (getItem_tuple (j:=i) hl ∅ ∅ (by simp[seqIndex?];omega) hx ?_));try dsimp only
 refine za (jj (s:={ s with toks:=s.toks+1 }) ho hd (x:=ă (i:Int)) rfl ?_);show Ê _ _ (setField (.ref it) 1 (ă ((i:Int)-1)) >>= _) _ _ _
 refine za (wz (s:={ s with toks:=s.toks+1 }) ho hd (by simp) ?_);refine zr ⟨x,rfl,zr (hQ _ _ ?_ (qx ..))⟩
 exact⟨_,jO _ ho (yf (qJ hd _)),(ů ..).trans hc,by
  rw[qJ hd];simp⟩
def X9(hh:A.handled=Á)(hit:IsRevT s.heap it l (-1))
  (hQ:∀h',Ĥ it s.heap h'->Q Á { s with heap:=h' }):Ê (Ì prog w) A (Ā (.ref it)) Q E s:=by
 obtain⟨o,ho,hc,hd⟩:=id hit;unfold Ā
 refine za (j4 (jq (name:=õ "__next__") hit.typeIs slot_rev_next
  (jy slot_rev_next hit.typeIs fN ?_ (i6 _))))
 unfold û.«reversed.__next__»;refine za (jU (a:=(Ò it,[])) rfl ?_);try dsimp only
 refine za (jj ho hd (x:=.ref l) rfl ?_);refine za (jj ho hd (x:=ă (-1)) rfl ?_);show Ê _ _ (if (-1:Int)<0 then _ else _) _ _ s
 rw[z9 (by decide)];refine za (qC ?_);show Ê _ _ ((setField (.ref it) 1 (ă (-1)) >>= λ_=>setField (.ref it) 0 .none) >>= _) _ _ _
 refine za (za (wz ho hd (by simp) ?_));have A9:=jO (Ň λx=>x.setIfInBounds 1 (ă (-1))) ho (yf (qJ hd _));have hd2:=qJ hd (λx=>x.setIfInBounds 1 (ă (-1)));refine wz A9 hd2 (by simp) ?_;try dsimp only
 refine za ?_;show Ê _ _ (newExc (.type "StopIteration") [] >>= _) _ _ _
 refine za ?_;erw[newExc,newTuple];refine za (jo ?_ (by size_fits));refine za (m:=ė _ _) (jU (a:=ë) (by first | rfl | (erw[ė];rfl)) ?_);refine jo ?_ (by size_fits);erw[raiseNew];refine za (Ş ?_);first | rw[show A.in1.handled=Á from hh] | rw[hh]
 refine za (zr (wL ?_));refine za (jY (T:="StopIteration") (b:=Ã) ⟨_,zN _ rfl,rfl⟩ xK ?_);have x1:Ĥ it s.heap (s.heap.update it (Ň λx=>x.setIfInBounds 1 (ă (-1)))):=(qx ..).extBut;have x2:Ĥ it s.heap ((s.heap.update it (Ň λx=>x.setIfInBounds 1 (ă (-1)))).update it (Ň λx=>x.setIfInBounds 0 .none)):=λb o hb e=>(qx ..).extBut b o hb (x1 b o hb e)
 exact zr (hQ _ ((x2.push _).push _))
def Zb{i:Int}(hit:IsRevT s.heap it l i)(h:Q (.ref it) s):Ê (Ì prog w) A (Ł (.ref it)) Q E s:=by
 refine wpAny_pyIter_slot hit.typeIs i0 (jy i0 hit.typeIs oA ?_ (rV _));show Ê _ _ (ret (.ref it)) _ _ s
 exact zr ⟨_,rfl,"reversed",_,hit.typeIs,slot_rev_next.lookup,h⟩
end
end ML
namespace ML
open PySem PySem.Spec PyProof.Rows L2
noncomputable def Ht(K:S5)(a:È)(n:Nat):It:=
 ⟨λi H=>∃xs x,SqT K H a xs/\xs.length=n/\i<n/\xs[n-1-i]?=À x,λi H x H'=>H'=H/\∀xs,SqT K H a xs->xs[n-1-i]?=À x,λi H=>∃xs,SqT K H a xs/\xs.length=n/\n<=i⟩
def WZ{P:Í}{w:Ñ}{K:S5}{tg:Ë}(a it:È)(n:Nat):Turn P w K tg (Ht K a n) [it] it (λi h=>i<=n/\IsRevT h it a ((n:Int)-1-(i:Int))) where
 mem:=by simp
 obj:=λi h st b hb=>by
  have e:b=it:=by simpa using hb
  subst e;obtain⟨_,o,e,c,d⟩:=st;exact⟨o,e,λv z=>by rw[d] at z;cases z⟩
 keep:=λi h h' st k=>⟨st.1,st.2.at λo e=>k it (by simp) o e⟩
 item:=by
  intro X hP hw hK hc i ag s σ H E I hf st hg;subst hP hw hK;obtain⟨xs,x,hq,hn,hi,hx⟩:=hg;obtain⟨cb,rv,p,hz⟩:=I.tuple hq;obtain⟨u,hu,ru⟩:=rv.get hx;obtain⟨f0,f1,f2,f3,f4,f5⟩:=hf it (by simp);have e0:(n:Int)-1-(i:Int)=((n-1-i:Nat):Int):=by omega
  have AF:=st.2;rw[e0] at AF;refine V9 AF (show s.heap.IsTuple a cb.toArray from p) (by rw[zJ,<-rv.length];exact hz) (x:=u) (by simpa using hu) λh' tk st' sb=>?_
  have I1:Inv X ag σ H { s with heap:=h',toks:=tk }:=I.turned (t':=tk) (λb o hb e=>(sb.2 b hb).trans e) f0 f1 f3 f4 f5;have e1:((n-1-i:Nat):Int)-1=(n:Int)-1-((i+1:Nat):Int):=by omega
  rw[e1] at st';obtain⟨o,e,c,d⟩:=id st';exact⟨u,rfl,nD (s:={ s with heap:=h',toks:=tk }) e c d (by decide) ⟨x,H,I1,ru,⟨rfl,λys hy=>by rw[I.tuple_inj hy hq];exact hx⟩,⟨by omega,st'⟩,λb hb=>(hf b hb).1⟩⟩
 done:=by
  intro X hP hw hK hc i ag s σ H E I hf st hg;subst hP hw hK;obtain⟨xs,hq,hn,hi⟩:=hg;obtain⟨f0,f1,f2,f3,f4,f5⟩:=hf it (by simp);have e0:(n:Int)-1-(i:Int) = -1:=by have:=st.1;omega
  have AF:=st.2;rw[e0] at AF;exact X9 (I.ok.hd hc) AF λh' eb=>⟨rfl,I.turned (t':=s.toks) (λb o hb e=>eb b o hb e) f0 f1 f3 f4 f5⟩
 self:=λ_ _ _ _ _ st h=>Zb st.2 h
noncomputable def W6(ws:List W):M Src:=λh=>match ws with
 | [.tup l]=>À (.items l.reverse,h)
 | _=>Á
noncomputable def oI(ms:List ME):MI:=λρ=>bnd (ko ms ρ) W6
section
variable{X:Cx}{cl:Cl}{tg e:Ë}{p pos:Ċ}{ms:List ME}
def F4{K:S5}{μ:List È}{H:Hp}{h:MH}{vs:List V}{l:List W}(R:HR K cl μ H h)(sa:SqT K H a vs)(ra:RWs K μ H l vs):JR K cl (Ht K a vs.length) (.items l.reverse) μ H:=by
 intro hY H2 h2 E2 R2 i;have Eo:=SqT.ext R E2 sa;have Ew:=ra.ext R E2;have ll:=ra.length;refine⟨λw ew=>?_,λes=>?_⟩
 .have Ae:l.reverse[i]?=À w:=zZ ew
  have hi:i<l.length:=by
   have:=(zT.mp Ae).1;rwa [j0] at this
  rw[List.getElem?_reverse hi] at Ae;obtain⟨v,ev,rv⟩:=Ew.get Ae;rw[ll] at ev;refine⟨⟨vs,v,Eo,rfl,by omega,ev⟩,λx H3 y=>?_⟩;obtain⟨rfl,y⟩:=y;have:=y vs Eo;rw[ev] at this;cases this;exact⟨.refl,R2,rv⟩
 .have AD:l.reverse[i]?=Á:=zZ es
  have:=jH.mp AD;rw[j0] at this;exact⟨vs,Eo,rfl,by omega⟩
def F1(hm:X.mg "reversed" = Á)(ha:SA X cl [e] ms)(hg:Gl X "reversed")(r9:É [e] X.env=(Â,Ú e X.env)::É [] X.env):SI X cl tg (.Call (.Name "reversed" p) [e] [] pos) (oI ms):=by
 rintro ag s σ H R I ⟨μ,h,ρ,src,h',R0,er,e,k⟩;obtain⟨ws,h1,A3,e⟩:=ke e;have hv:Ô "reversed" = À (.type "reversed"):=by decide +kernel
 refine jz (uz I hg hm hv ?_ (by decide) (by decide));refine jr (kC (ha pos ag s σ H (λvs H1=>∃en,Ext μ H en H1/\HR X.K cl en H1 h1/\RWs X.K en H1 ws vs) I ⟨μ,h,ρ,ws,h1,R0,er,A3,λen H1 vs E1 R1 rs=>⟨en,E1,R1,rs⟩⟩) ?_) r9 SF;rintro us s1 ⟨vs,H1,I1,r1,en,E1,R1,rs⟩;unfold W6 at e;split at e
 .cases e
  cases rs with | cons rx t=>cases t with | nil=>
  obtain⟨a,xs,rfl,sa,ra⟩:=rx.tup_of;cases r1 with | cons r1 r2=>
  cases r2;cases r1;obtain⟨cb,rv,pt,hz⟩:=I1.tuple sa;have hl:cb.length=xs.length:=rv.length.symm;refine Wy (show s1.heap.IsTuple a cb.toArray from pt) (by rw[zJ,<-rv.length];exact hz) λtk=>?_
  have e0:((cb.toArray.size:Nat):Int)-1=(xs.length:Int)-1-((0:Nat):Int):=by simp[hl]
  rw[e0];have st:IsRevT (s1.heap.push (Zc a ((xs.length:Int)-1-((0:Nat):Int)))) s1.heap.objs.size a ((xs.length:Int)-1-((0:Nat):Int)):=⟨_,zN _ rfl,rfl,rfl⟩;refine Zb st ?_;refine⟨s1.heap.objs.size,[s1.heap.objs.size],_,_,H1,rfl,I1.kept (t':=tk) λb o e=>zf _ e,WZ a _ xs.length,⟨qy _,st⟩,λb hb=>?_,k en H1 _ E1 R1 (F4 R1 sa ra)⟩;have e:b=s1.heap.objs.size:=by simpa using hb
  subst e;exact I1.fpOk (zj _) (I1.hok.fresh (zj _))
 .cases e
end
noncomputable def nV(ws:List W):M W:=λh=>match ws with
 | [w]=>match xA h w with
  | some l=>À (.ref h.length,h++[.dic l])
  | none=>Á
 | _=>Á
section
variable{X:Cx}{cl:Cl}
theorem KQ.dic{K:S5}{μ:List È}{H:Hp}{h:MH}(k:KQ K cl μ H (h++[.dic l]) (.ref h.length) Q)(R:HR K cl μ H h)(pr:PR K μ H l l')(hp:H p=Á):Q (.ref p) (upd H p (.dK l')):=
 k (μ++[p]) _ _ (.new hp) (R.new hp ⟨l',qo,(pr.ext R (.new hp)).rk⟩) (.ref (by rw[<-R.len];simp))
def JX:yB X (.type "dict") (rMs X.K cl nV):=by
 rintro ag s σ H xs us Q I rs ⟨μ,h,ws,w,h',R,ax,e,k⟩;unfold nV at e;split at e
 .cases ax with | cons r t=>cases t with | nil=>
  obtain⟨u,rfl,ru⟩:=rs.one;split at e
  .rename_i l el
   cases e;obtain⟨a,l',rfl,rd,pr⟩:=eM R r el;cases ru;exact ZD I rd λp s' hp I'=>⟨.ref p,_,I',rfl,k.dic R pr hp⟩
  .cases e
 .cases e
end
def Yj{M:Model}{s:Å}(h:Q (s.heap.get? a) s):Ê M A (loadIfAlive a) Q E s:=λΓ p _=>by
 show Sem.wp M Γ (.loadIfAlive a _) _ _ _ _
 rw[Sem.wp_loadIfAlive];exact(Sem.wp_pure ..).mpr h
noncomputable def ZB(h:Ï)(z TI TO T:È)(b:Bool):Prop:=h.get? z=À { cls:=.type "zip",dict:=Á,data:=.fields #[ă T,.bool b,.bool Â,.ref TI,.ref TO],slots:=#[] }
noncomputable def JJ(z TI TO T i1 i2:È)(P1 P2:Nat->Ï->Prop)(k:Nat)(h:Ï):Prop:=(∃b,ZB h z TI TO T b)/\(∃o,h.get? T=À o)/\ń h TI (.ref i1) (.ref i2)/\P1 k h/\P2 k h
structure ZApart2(z TI T i1 i2 a1 a2:È):Prop where
 nd:[z,TI,T,i1,i2].Nodup
 f1:a1∉[z,TI,i1,i2]
 f2:a2∉[z,TI,i1,i2]
section
variable{prog:Í}{w:Ñ}{A:Ö}{E:Ä->Å->Prop}{s:Å}{z TI TO T i1 i2 a1 a2:È}{P1 P2:Nat->Ï->Prop}{C1 C2:Ï->List Ä->Prop}
def Ks(hz:ZB s.heap z TI TO T b)(ho:s.heap.get? T=À o)(hQ:∀h',ZB h' z TI TO T Ã->ć z s.heap h'->Q Â { s with heap:=h' }):Ê (Ì prog w) A (Õ (.ref z)) Q E s:=by
 unfold ZB at hz;unfold Õ;refine za (jj hz rfl (x:=ă T) rfl ?_);show Ê _ _ (loadIfAlive (T:Int).toNat >>= _) _ _ _
 rw[qj];refine za (Yj ?_);rw[ho];erw[Option.isNone_some,jt,je];refine za (jj hz rfl (x:=.bool b) rfl ?_);cases b with
 | true=>
  rw[kI (by decide)];exact zr (hQ _ hz (Heap.SameBut.refl _ _))
 | false=>
  rw[z9 (by decide)];refine za (qd hz (by simp) λh' q e=>?_);exact zr (hQ h' q e)
def Vt(S1:vb i1 a1 P1 C1)(S2:vb i2 a2 P2 C2)(D:ZApart2 z TI T i1 i2 a1 a2){l1 l2:List Ä}(st:JJ z TI TO T i1 i2 P1 P2 k s.heap)(c1:C1 s.heap l1)(c2:C2 s.heap l2)(hx:l1[k]?=À x)(hy:l2[k]?=À y)
  (hQ:∀h',JJ z TI TO T i1 i2 P1 P2 (k+1) h'->h'.get? s.heap.objs.size=À { cls:=.type "tuple",data:=.seq #[x,y] }->(∀c o,c∉[z,i1,i2]->s.heap.get? c=À o->h'.get? c=À o)->Q (À (.ref s.heap.objs.size)) { s with heap:=h' }) :
  Ê (Ì prog w) A (Ā (.ref z)) Q E s:=by
 obtain⟨⟨b,hz⟩,⟨o,ho⟩,AR,p1,p2⟩:=st;have n:=D.nd;erw[jB,zb,zc,zO,j6] at n;obtain⟨⟨n1,n2,n3,n4⟩,⟨n5,n6,n7⟩,⟨n8,n9⟩,EI,_⟩:=n;have g1:=D.f1;have g2:=D.f2;erw[zb,zc,zO,j6] at g1 g2;have A4:=hz;unfold ZB at A4;have hT:s.TypeIs (.ref z) "zip":=⟨_,A4,rfl⟩;unfold Ā;refine za (j4 (jq (name:=õ "__next__") hT qw (jy qw hT wX ?_ (wK _))));show Ê _ _ (Ŕ (.ref z) 2 >>= _) _ _ _;refine za (jj A4 rfl (x:=.bool Â) rfl ?_)
 show Ê _ _ (Ŕ (.ref z) 3 >>= _) _ _ _;refine za (jj A4 rfl (x:=.ref TI) rfl ?_)
 refine za (jJ AR rfl ?_);show Ê _ _ (Õ (.ref z) >>= _) _ _ _
 refine za (Ks hz ho λh1 q1 e1=>?_);erw[jt,je];have fa:∀{β:Type} (b0:β) (f:Ä->β->Sem (ForInStep β)),forIn #[Ò i1,Ò i2] b0 f=forIn [Ò i1,Ò i2] b0 f:=λb0 f=>by rw[<-xV]
 rw[fa];erw[qX,wU];refine za (za (za (jd ?_)));show Ê _ _ (Ð (.ref i1) >>= _) _ _ _
 refine za (S1.item (S1.keep p1 λo e=>e1.extBut _ _ (kZ n3) e) (S1.keepC c1 λo e=>e1.extBut _ _ g1.1 e) hx λh2 r1 e2=>zr (zr ?_));refine za (za (jd ?_));show Ê _ _ (Ð (.ref i2) >>= _) _ _ _
 refine za (S2.item (S2.keep p2 λo e=>e2.extBut _ _ (kZ EI) (e1.extBut _ _ (kZ n4) e)) (S2.keepC c2 λo e=>e2.extBut _ _ g2.2.2.1 (e1.extBut _ _ g2.1 e)) hy λh3 r2 e3=>zr (zr (zr ?_)));show Ê _ _ (newTuple [x,y] >>= _) _ _ _
 refine za (wpAny_newTuple ?_);have sz:h3.objs.size=s.heap.objs.size:=by rw[e3.1,e2.1,e1.1]
 have all:∀c o,c∉[z,i1,i2]->s.heap.get? c=À o->h3.get? c=À o:=λc o hc e=>by
  erw[zb,zc,zO,j6] at hc;exact e3.extBut _ _ hc.2.2 (e2.extBut _ _ hc.2.1 (e1.extBut _ _ hc.1 e))
 refine zr ⟨_,rfl,zr ?_⟩;show Q (À (.ref h3.objs.size)) _
 rw[sz];have up:∀c o,h3.get? c=À o->(h3.push { cls:=.type "tuple",data:=.seq #[x,y] }).get? c=À o:=λc o e=>zf _ e
 have tn:(h3.push { cls:=.type "tuple",data:=.seq #[x,y] }).get? h3.objs.size=À _:=zN _ rfl;rw[sz] at tn;refine hQ _ ⟨⟨Ã,?_⟩,⟨o,up _ _ (all _ _ (by erw[zb,zc,zO,j6];exact⟨kZ n2,n8,n9⟩) ho)⟩,up _ _ (all _ _ (by erw[zb,zc,zO,j6];exact⟨kZ n1,n6,n7⟩) AR),S1.keep r1 λo e=>up _ _ (e3.extBut _ _ EI e),S2.keep r2 λo e=>up _ _ e⟩ tn λc o hc e=>up _ _ (all c o hc e)
 exact up _ _ (e3.extBut _ _ n4 (e2.extBut _ _ n3 q1))
def Vu(S1:vb i1 a1 P1 C1)(S2:vb i2 a2 P2 C2)(D:ZApart2 z TI T i1 i2 a1 a2){l1 l2:List Ä}(hh:A.handled=Á)(st:JJ z TI TO T i1 i2 P1 P2 k s.heap)(c1:C1 s.heap l1)(c2:C2 s.heap l2)(he:l1[k]?=Á\/l2[k]?=Á)
  (hQ:∀h',(∀c o,c∉[z,i1,i2]->s.heap.get? c=À o->h'.get? c=À o)->Q Á { s with heap:=h' }):Ê (Ì prog w) A (Ā (.ref z)) Q E s:=by
 obtain⟨⟨b,hz⟩,⟨o,ho⟩,AR,p1,p2⟩:=st;have n:=D.nd;erw[jB,zb,zc,zO,j6] at n;obtain⟨⟨n1,n2,n3,n4⟩,⟨n5,n6,n7⟩,⟨n8,n9⟩,EI,_⟩:=n;have g1:=D.f1;have g2:=D.f2;erw[zb,zc,zO,j6] at g1 g2;have A4:=hz;unfold ZB at A4;have hT:s.TypeIs (.ref z) "zip":=⟨_,A4,rfl⟩;have stop:∀{h':Ï} {e:È},(∃o,h'.get? e=À o/\o.cls=.type "StopIteration")->(∀c o,c∉[z,i1,i2]->s.heap.get? c=À o->h'.get? c=À o)->
   Ê (Ì prog w) A (isInstance (.ref e) (.type "StopIteration") >>= λx=>if x=Ã then pure Á else throw (.ref e)) Q E { s with heap:=h' }:=λ{h' e} ⟨o,ho,hc⟩ kk=>
  za (jY (T:="StopIteration") (b:=Ã) ⟨o,ho,hc⟩ xK (zr (hQ _ kk)))
 unfold Ā;refine za (j4 (jq (name:=õ "__next__") hT qw (jy qw hT wX ?_ (wK _))));show Ê _ _ (Ŕ (.ref z) 2 >>= _) _ _ _;refine za (jj A4 rfl (x:=.bool Â) rfl ?_)
 show Ê _ _ (Ŕ (.ref z) 3 >>= _) _ _ _;refine za (jj A4 rfl (x:=.ref TI) rfl ?_)
 refine za (jJ AR rfl ?_);show Ê _ _ (Õ (.ref z) >>= _) _ _ _
 refine za (Ks hz ho λh1 q1 e1=>?_);erw[jt,je];have fa:∀{β:Type} (b0:β) (f:Ä->β->Sem (ForInStep β)),forIn #[Ò i1,Ò i2] b0 f=forIn [Ò i1,Ò i2] b0 f:=λb0 f=>by rw[<-xV]
 rw[fa];erw[qX,wU];refine za (za (za (jd ?_)));show Ê _ _ (Ð (.ref i1) >>= _) _ _ _
 have Mu:=S1.keep (h':=h1) p1 λo e=>e1.extBut _ _ (kZ n3) e
 have LN:=S1.keepC (h':=h1) c1 λo e=>e1.extBut _ _ g1.1 e
 cases hx:l1[k]? with
 | none=>
  refine za (S1.last hh Mu LN hx ?_);rintro h2 e e2 ⟨oe,ge,ce⟩;refine stop ⟨oe,ge,ce⟩ λc o hc g=>?_
  erw[zb,zc,zO,j6] at hc;exact e2 _ _ hc.2.1 (e1.extBut _ _ hc.1 g)
 | some x=>
  have hy:l2[k]?=Á:=by rcases he with h | h;rw[hx] at h;cases h;exact h
  refine za (S1.item Mu LN hx λh2 r1 e2=>zr (zr ?_));refine za (za (jd ?_));show Ê _ _ (Ð (.ref i2) >>= _) _ _ _
  refine za (S2.last hh (S2.keep p2 λo e=>e2.extBut _ _ (kZ EI) (e1.extBut _ _ (kZ n4) e)) (S2.keepC c2 λo e=>e2.extBut _ _ g2.2.2.1 (e1.extBut _ _ g2.1 e)) hy ?_);rintro h3 e e3 ⟨oe,ge,ce⟩;refine stop ⟨oe,ge,ce⟩ λc o hc g=>?_
  erw[zb,zc,zO,j6] at hc;exact e3 _ _ hc.2.2 (e2.extBut _ _ hc.2.1 (e1.extBut _ _ hc.1 g))
end
def Ze:entryFor table "zip.__getattribute__" = À û.«object.__getattribute__»:=
 entryFor_alias (id':="object.__getattribute__") SF (by first | rfl | decide +kernel) ⋯ SF
section
variable{prog:Í}{w:Ñ}{A:Ö}{E:Ä->Å->Prop}{h:Ï}{g:Array ő}{d:Drawn}{t:Nat}{os:Ğ}{a:È}{vs:Array Ä}
set_option maxHeartbeats 1000000 in
def iS(hh:A.handled=Á)(hx:h.get? a=À { cls:=.type "zip",dict:=Á,data:=.fields vs,slots:=#[] })(hq:Jn h g d os E) :
  Ê (Ì prog w) A (û.«object.__getattribute__» ⟨[.ref a,.str "keys" tk],[]⟩) Q E ⟨h,g,d,t,os⟩:=by
 have hT:(⟨h,g,d,t,os⟩:Å).TypeIs (.ref a) "zip":=⟨_,hx,rfl⟩;have f4:=Kc (T:="zip") (.inr (.inr rfl));repeat (any_goals (first | assumption | wp_step))
 refine oy hh ⋯ λh' Ad e k1 k2=>hq h' Ad e k1 k2
def Z0(hh:A.handled=Á)(hx:h.get? a=À { cls:=.type "zip",dict:=Á,data:=.fields vs,slots:=#[] })(hq:Jn h g d os E):Ê (Ì prog w) A (ų (.ref a) (.str "keys" tk) Â) Q E ⟨h,g,d,t,os⟩:=by
 have hT:(⟨h,g,d,t,os⟩:Å).TypeIs (.ref a) "zip":=⟨_,hx,rfl⟩;have f2:=wQ.lookup;have f3:=wQ.bind (.ref a);unfold ų;refine jd (za (j5 hT (za (jU f2 ?_))));show Ê _ _ (Ĩ (.ref a) (.str "keys" tk) (.type "zip") (.builtin "zip.__getattribute__") Â Â) _ _ _
 unfold Ĩ;refine za (zr ?_);refine za (j4 ?_);refine jd ?_;show Ê _ _ (Ļ (.builtin "zip.__getattribute__") (.ref a) (.str "keys" tk)) _ _ _
 unfold Ļ;refine za (jU f3 ?_);refine jy wQ hT Ze ?_ (F.args_zip_getattribute_2 _ _);refine iS hh hx λh' Ad e k1 k2=>?_
 obtain⟨ob,ho,hc⟩:=k2;have NV:(⟨h',g,d,Ad,os⟩:Å).TypeIs (.ref e) "AttributeError":=⟨_,ho,hc⟩;show Ê _ _ (Ē (.ref a) (.str "keys" tk) (.type "zip") (.ref e) Á Â Â) _ _ _
 unfold Ē;refine za (jY NV dr ?_);erw[kE];refine za (jU (show hookBehind (.type "zip") Á=pure Á from Kg (.inr (.inr rfl))) ?_);show Ê _ _ (č (.ref a) (.str "keys" tk) (.ref e) Â Â) _ _ _
 unfold č;erw[Bool.not_false,kE];exact wL (hq h' Ad e k1 ⟨ob,ho,hc⟩)
def ZV(hh:A.handled=Á)(hx:h.get? a=À { cls:=.type "zip",dict:=Á,data:=.fields vs,slots:=#[] })(hq:∀h' Ad,(∀b ob,h.get? b=À ob->h'.get? b=À ob)->Q Á ⟨h',g,d,Ad,os⟩):Ê (Ì prog w) A (getAttr? (.ref a) "keys") Q E ⟨h,g,d,t,os⟩:=by
 unfold getAttr? getAttrBy?;refine za (ű ?_);refine za (j4 (Z0 hh hx λh' Ad e k1 k2=>?_));obtain⟨ob,ho,hc⟩:=k2;refine za (jY (T:="AttributeError") (b:=Ã) ⟨ob,ho,hc⟩ dr ?_);exact zr (hq h' Ad k1)
end
section
variable{prog:Í}{w:Ñ}{A:Ö}{E:Ä->Å->Prop}{s:Å}{z TI TO i1 i2 a1 a2 D:È}{P1 P2:Nat->Ï->Prop}{C1 C2:Ï->List Ä->Prop}
noncomputable def Zan(D z TI TO i1 i2 a1 a2:È)(P1 P2:Nat->Ï->Prop)(i:Nat)(h:Ï):Prop:=(i=0/\Zl z TI TO i1 i2 P1 P2 .none 0 0 h)\/∃T,ZApart2 z TI T i1 i2 a1 a2/\T≠D/\JJ z TI TO T i1 i2 P1 P2 i h
def Zan.frame(S1:vb i1 a1 P1 C1)(S2:vb i2 a2 P2 C2){i:Nat}{h h':Ï}(hD:D∉[z,TI,TO,i1,i2])(q:Zan D z TI TO i1 i2 a1 a2 P1 P2 i h)(k:∀b o,b≠D->h.get? b=À o->h'.get? b=À o):Zan D z TI TO i1 i2 a1 a2 P1 P2 i h':=by
 erw[zb,zc,zO,j6] at hD;obtain⟨d1,d2,d3,d4,d5⟩:=hD;rcases q with ⟨rfl,r1,r2,⟨a,b,r3⟩,r4,r5⟩ | ⟨T,ap,nT,⟨b,r1⟩,⟨o,r2⟩,r3,r4,r5⟩
 .exact .inl ⟨rfl,k _ _ (kZ d1) r1,k _ _ (kZ d2) r2,⟨a,b,k _ _ (kZ d3) r3⟩,S1.keep r4 λo e=>k _ _ (kZ d4) e,S2.keep r5 λo e=>k _ _ (kZ d5) e⟩
 .exact .inr ⟨T,ap,nT,⟨b,k _ _ (kZ d1) r1⟩,⟨o,k _ _ nT r2⟩,k _ _ (kZ d2) r3,S1.keep r4 λo e=>k _ _ (kZ d4) e,S2.keep r5 λo e=>k _ _ (kZ d5) e⟩
def Yx(S1:vb i1 a1 P1 C1)(S2:vb i2 a2 P2 C2)(ap:ZApart z TI TO i1 i2 a1 a2){i:Nat}{l1 l2:List Ä}(hD:D<s.heap.objs.size)(st:Zan D z TI TO i1 i2 a1 a2 P1 P2 i s.heap)(c1:C1 s.heap l1)(c2:C2 s.heap l2)(hx:l1[i]?=À x)(hy:l2[i]?=À y)
  (hQ:∀h',Zan D z TI TO i1 i2 a1 a2 P1 P2 (i+1) h'->h'.get? s.heap.objs.size=À { cls:=.type "tuple",data:=.seq #[x,y] }->(∀c o,c∉[z,TI,TO,i1,i2]->s.heap.get? c=À o->h'.get? c=À o)->Q (À (.ref s.heap.objs.size)) { s with heap:=h' }) :
  Ê (Ì prog w) A (Ā (.ref z)) Q E s:=by
 rcases st with ⟨rfl,st⟩ | ⟨T,EX,nT,st⟩
 .have lz:=zB st.1
  have Rt:=zB st.2.1;have Ru:i1<s.heap.objs.size:=by obtain⟨o,e,_⟩:=S1.obj st.2.2.2.1;exact zB e
  have Rv:i2<s.heap.objs.size:=by obtain⟨o,e,_⟩:=S2.obj st.2.2.2.2;exact zB e
  have nd:=ap.nd;erw[jB,zb,zc,zO,j6] at nd;have f1:=ap.f1;have f2:=ap.f2;erw[zb,zc,zO,j6] at f1 f2;refine tJ S1 S2 ap st c1 c2 hx hy λh' q1 q2 q3=>hQ h' (.inr ⟨s.heap.objs.size,⟨?_,?_,?_⟩,ql hD,⟨Â,q1.1⟩,⟨_,q2⟩,q1.2.1,q1.2.2.2.1,q1.2.2.2.2⟩) q2 q3
  .erw[jB,zb,zc,zO,j6]
   exact⟨⟨nd.1.1,zW lz,nd.1.2.2.1,nd.1.2.2.2⟩,⟨zW Rt,nd.2.1.2.1,nd.2.1.2.2⟩,⟨ql Ru,ql Rv⟩,nd.2.2.2.1,not_false,vQ⟩
  .erw[zb,zc,zO,j6]
   exact⟨f1.1,f1.2.1,f1.2.2.2.1,f1.2.2.2.2⟩
  .erw[zb,zc,zO,j6]
   exact⟨f2.1,f2.2.1,f2.2.2.2.1,f2.2.2.2.2⟩
 .refine Vt S1 S2 EX st c1 c2 hx hy λh' q1 q2 q3=>hQ h' (.inr ⟨T,EX,nT,q1⟩) q2 λc o hc e=>q3 c o (λm=>hc ?_) e
  erw[zb,zc,zO] at m ⊢;rcases m with m | m | m
  .exact .inl m
  .exact .inr (.inr (.inr (.inl m)))
  .exact .inr (.inr (.inr (.inr m)))
def YV(S1:vb i1 a1 P1 C1)(S2:vb i2 a2 P2 C2)(ap:ZApart z TI TO i1 i2 a1 a2){i:Nat}{l1 l2:List Ä}(hh:A.handled=Á)(st:Zan D z TI TO i1 i2 a1 a2 P1 P2 i s.heap)(c1:C1 s.heap l1)(c2:C2 s.heap l2)(he:l1[i]?=Á\/l2[i]?=Á)
  (hQ:∀h',(∀c o,c∉[z,TI,TO,i1,i2]->s.heap.get? c=À o->h'.get? c=À o)->Q Á { s with heap:=h' }):Ê (Ì prog w) A (Ā (.ref z)) Q E s:=by
 rcases st with ⟨rfl,st⟩ | ⟨T,EX,nT,st⟩
 .exact ZL S1 S2 ap hh st c1 c2 he hQ
 .refine Vu S1 S2 EX hh st c1 c2 he λh' q=>hQ h' λc o hc e=>q c o (λm=>hc ?_) e
  erw[zb,zc,zO] at m ⊢;rcases m with m | m | m
  .exact .inl m
  .exact .inr (.inr (.inr (.inl m)))
  .exact .inr (.inr (.inr (.inr m)))
end
section
variable{prog:Í}{w:Ñ}{A:Ö}{R:Result->Å->Prop}{z TI TO i1 i2 a1 a2 D:È}{P1 P2:Nat->Ï->Prop}{C1 C2:Ï->List Ä->Prop}{h0:Ï}{l1 l2:List Ä}{d6:List (Key×Ä)}
def Wg(knd:KeyKind prog w Key)(hh:A.in1.handled=Á)(S1:vb i1 a1 P1 C1)(S2:vb i2 a2 P2 C2)(ap:ZApart z TI TO i1 i2 a1 a2)(LO:D∉[z,TI,TO,i1,i2])(Mv:h0.get? D=Á)(Lv:∀b∈[z,TI,TO,i1,i2],h0.get? b=Á)(c1:C1 h0 l1)(c2:C2 h0 l2)
  (hp:∀i,(hi:i<d6.length)->∃x,l1[i]?=À x/\knd.is d6[i].1 x=Ã/\l2[i]?=À d6[i].2) (he:l1[d6.length]?=Á\/l2[d6.length]?=Á) (hz:d6.length<=1000) :
  ∀(k i:Nat) (tk:Tok) (s:Å),d6.length-i=k->i<=d6.length->Zan D z TI TO i1 i2 a1 a2 P1 P2 i s.heap->s.heap.DictOf knd D (ł [] (d6.take i))->(∀b o,h0.get? b=À o->s.heap.get? b=À o)->
   (∀h' Ad,h'.DictOf knd D (ł [] d6)->(∀b o,h0.get? b=À o->h'.get? b=À o)->R (.ok (.ret .none)) { s with heap:=h',toks:=Ad })->
   Ď (Ì prog w) A (.builtin "dict.update.loop" ⟨[.ref D,.ref z,.int i tk,.none],[]⟩) R s:=by
 intro k;induction k with
 | zero=>
  intro i tk s hk hi r9 hd Ep hR;obtain rfl:i=d6.length:=by omega
  refine vX eP ?_;rw[qU xX _];show Ê _ A.in1 (Ā (.ref z) >>= _) _ _ s
  refine za (YV S1 S2 ap hh r9 (S1.keepC c1 λo e=>Ep _ _ e) (S2.keepC c2 λo e=>Ep _ _ e) he λh' kk=>?_);show Ê _ A.in1 (Ņ D [] >>= _) _ _ _
  refine za (zr (zr (hR h' s.toks ?_ λb o e=>kk b o (λz=>by rw[Lv b z] at e;cases e) (Ep b o e))));rw[yr] at hd;obtain⟨o,es,ep,ho,rest⟩:=hd;exact⟨o,es,ep,kk D o LO ho,rest⟩
 | succ k ih=>
  intro i tk s hk hi r9 hd Ep hR;have Al:i<d6.length:=by omega
  obtain⟨key,hx,Mw,hy⟩:=hp i Al;have Rw:D<s.heap.objs.size:=by obtain⟨o,es,ep,ho,rest⟩:=hd;exact zB ho
  refine vX eP ?_;rw[qU xX _];show Ê _ A.in1 (Ā (.ref z) >>= _) _ _ s
  refine za (Yx S1 S2 ap Rw r9 (S1.keepC c1 λo e=>Ep _ _ e) (S2.keepC c2 λo e=>Ep _ _ e) hx hy λh' Lw hT kk=>?_);have keep:∀b o,h0.get? b=À o->h'.get? b=À o:=λb o e=>kk b o (λz=>by rw[Lv b z] at e;cases e) (Ep b o e)
  have Ec:IsTup h' s.heap.objs.size #[key,d6[i].2]:=⟨_,hT,rfl,_,rfl⟩;have AC:h'.DictOf knd D (ł [] (d6.take i)):=by obtain⟨o,es,ep,ho,rest⟩:=hd;exact⟨o,es,ep,kk D o LO ho,rest⟩
  show Ê _ A.in1 (ü [Ò s.heap.objs.size] _ >>= _) _ _ _
  refine za (jd (za (wpAny_tryCatch ?_)));unfold Ō;refine za (j5 Ec.typeIs ?_);rw[z9 (by decide)];refine za (jJ hT rfl (zr ?_));show Ê _ _ (ü [key,d6[i].2] (dictSet D key d6[i].2)) _ _ _
  refine jd ?_;unfold dictSet;try with_reducible refine jd ?_
  refine za (knd.pyHash Mw ?_);refine xH (s:={ s with heap:=h',toks:=s.toks+1 }) Mw AC (λh2 hd2 sb=>?_) (by have:=merged_length_le ([]:List (Key×Ä)) (d6.take i);rw[qP] at this;simp at this;exact zK (zK this ∅) (show 1000<=Î by decide));refine zr ⟨vd xX _,ih (i+1) _ _ ∅ Al (Lw.frame S1 S2 LO λb o hb e=>?_) ?_ (λb o e=>?_) λh3 NW NX k3=>?_⟩
  .rw[sb.2 b hb];exact e
  .rw[merged_take_succ [] d6 i d6[i] (zE Al)];exact hd2
  .rw[sb.2 b (λz:b=D=>by rw[z,Mv] at e;cases e)];exact keep b o e
  .exact hR h3 NW NX k3
end
section
variable{prog:Í}{w:Ñ}{A:Ö}{E:Ä->Å->Prop}{s:Å}{z TI TO i1 i2 a1 a2:È}{P1 P2:Nat->Ï->Prop}{C1 C2:Ï->List Ä->Prop}{h0:Ï}{l1 l2:List Ä}{d6:List (Key×Ä)}
def rR(knd:KeyKind prog w Key)(hh:A.handled=Á)(S1:vb i1 a1 P1 C1)(S2:vb i2 a2 P2 C2)(ap:ZApart z TI TO i1 i2 a1 a2)(st:Zl z TI TO i1 i2 P1 P2 .none 0 0 s.heap)(k0:∀b o,h0.get? b=À o->s.heap.get? b=À o)(Lv:∀b∈[z,TI,TO,i1,i2],h0.get? b=Á)(c1:C1 h0 l1)(c2:C2 h0 l2)
  (hp:∀i,(hi:i<d6.length)->∃x,l1[i]?=À x/\knd.is d6[i].1 x=Ã/\l2[i]?=À d6[i].2) (he:l1[d6.length]?=Á\/l2[d6.length]?=Á) (hz:d6.length<=1000) 
  (h:∀h' Ad,h'.DictOf knd s.heap.objs.size (ł [] d6)->(∀b o,h0.get? b=À o->h'.get? b=À o)->Q (.ref s.heap.objs.size) { s with heap:=h',toks:=Ad }):Ê (Ì prog w) A (Ŋ (.type "dict") [.ref z]) Q E s:=by
 refine yq (Q₁:=λobj hG=>obj=.ref s.heap.objs.size/\hG={ s with heap:=s.heap.push { cls:=.type "dict",data:=.dict #[] } }) F.kt_called_dict (F.kt_typeCall_dict_1 _) F.entry_dict_init (kt_code_dict_new _ ⟨rfl,rfl⟩) ?_;rintro obj hG ⟨rfl,rfl⟩;have Am:(s.heap.push { cls:=.type "dict",data:=.dict #[] }).DictOf knd s.heap.objs.size []:=xr s.heap;refine⟨Am.typeIs,F.args_dict_init_2 _ _,?_⟩;unfold û.«dict.__init__»;refine za ?_;unfold ņ;refine za (Ő Am.typeIs ?_);show Ê _ _ (pure (s.heap.objs.size,[Ò z])) _ _ _
 refine zr ?_;show Ê _ _ (ą "dict.__init__" s.heap.objs.size (.ref z) [] .none) _ _ _
 unfold ą;have EK:(s.heap.push { cls:=.type "dict",data:=.dict #[] }).get? z=À _:=zf _ st.1;refine za (j5 (T:="zip") ⟨_,EK,rfl⟩ ?_);rw[z9 (by decide)];have NY:A.in1.in1.handled=Á:=by simpa using hh
 refine za (ZV NY EK λh1 Ro k1=>?_);erw[xR,kE];have kk:∀b o,s.heap.get? b=À o->h1.get? b=À o:=λb o e=>k1 b o (zf _ e)
 have Az:Zl z TI TO i1 i2 P1 P2 .none 0 0 h1:=by
  obtain⟨r1,r2,⟨a,b,r3⟩,r4,r5⟩:=st;exact⟨kk _ _ r1,kk _ _ r2,⟨a,b,kk _ _ r3⟩,S1.keep r4 λo e=>kk _ _ e,S2.keep r5 λo e=>kk _ _ e⟩
 refine za (qC ?_);refine za (yP Az.1 ?_);have NZ:h1.DictOf knd s.heap.objs.size []:=by obtain⟨o,es,ep,ho,rest⟩:=Am;exact⟨o,es,ep,k1 _ _ ho,rest⟩
 have lt:∀b∈[z,TI,TO,i1,i2],b<s.heap.objs.size:=λb hb=>by
  erw[zb,zc,zO] at hb;obtain⟨r1,r2,⟨a,c,r3⟩,r4,r5⟩:=st;rcases hb with rfl | rfl | rfl | rfl | rfl
  .exact zB r1
  .exact zB r2
  .exact zB r3
  .obtain⟨o,e,_⟩:=S1.obj r4;exact zB e
  .obtain⟨o,e,_⟩:=S2.obj r5;exact zB e
 have Mv:h0.get? s.heap.objs.size=Á:=by
  cases q:h0.get? s.heap.objs.size with
  | none=>rfl
  | some o=>exact absurd (zB (k0 _ _ q)) (jF _)
 refine zr ⟨vd xX _,Wg (h0:=h0) knd (by simpa using hh) S1 S2 ap (λm=>jF _ (lt _ m)) Mv Lv c1 c2 hp he hz d6.length 0 _ _ rfl (qy _) (.inl ⟨rfl,Az⟩) NZ (λb o e=>kk b o (k0 b o e)) λh' Ad AC k'=>?_⟩;exact⟨rfl,h h' Ad AC k'⟩
end
noncomputable def oU(ws:List W):M W:=λh=>match ws with
 | [x,y]=>match aw h x,aw h y with
  | some l,À l'=>match keysOf (l.zip l') with
   | some ks=>if ks.length<=1000 then À (.ref h.length,h++[.dic (qv [] ks)]) else Á
   | none=>Á
  | _,_=>Á
 | _=>Á
noncomputable def lT(ms:List ME):ME:=zh oU ms
section
variable{X:Cx}{cl:Cl}{e1 e2:Ë}{ms:List ME}{p p2 p3 pos:Ċ}
def B6{K:S5}{μ:List È}{H:Hp}{l:List W}{vs:List V}(r:RWs K μ H l vs)(r':RWs K μ H l' AG)(e:keysOf (l.zip l')=À ks) :
  ∃Ai:List (Key×V),PR K μ H ks Ai/\vs.zip AG=Ai.map λkv=>(kV kv.1,kv.2):=by
 induction l generalizing l' vs AG ks with
 | nil=>cases r;cases e;exact⟨[],.nil,rfl⟩
 | cons x l ih=>cases r with | cons r t=>cases r' with
  | nil=>cases e;exact⟨[],.nil,rfl⟩
  | cons r' t'=>
   rw[jm] at e;unfold keysOf at e;split at e
   .rename_i k lk e4 e5
    cases e;obtain⟨Ai,pr,ez⟩:=ih t t' e5;have:=bv r e4;subst this;exact⟨(k,_)::Ai,.cons r' pr,by rw[jm,ez];rfl⟩
   .cases e
end
def Qp{h:Ï}(c:Qj tp a h l):a<h.objs.size:=by
 unfold Qj at c;split at c
 .obtain⟨o,e,_⟩:=c;exact zB e
 .obtain⟨o,e,_⟩:=c;exact zB e
theorem Qw:∀{xs ys:List V} {l1 l2:List Ä} {Ai:List (Key×V)},Vals xs l1->Vals ys l2->xs.zip ys=Ai.map (λkv=>(kV kv.1,kv.2))->
  ∃d6:List (Key×Ä),KV Ai d6/\(∀i,(hi:i<d6.length)->∃x,l1[i]?=À x/\(qr P w).is d6[i].1 x=Ã/\l2[i]?=À d6[i].2)/\(l1[d6.length]?=Á\/l2[d6.length]?=Á)
 | _,_,_,_,[],.nil,_,_=>⟨[],.nil,λi hi=>by simp at hi,.inl rfl⟩
 | _,_,_,_,[],.cons _ _,.nil,_=>⟨[],.nil,λi hi=>by simp at hi,.inr rfl⟩
 | _,_,_,_,[],.cons _ _,.cons _ _,e=>by simp at e
 | _,_,_,_,_::_,.nil,_,e=>by simp at e
 | _,_,_,_,_::_,.cons _ _,.nil,e=>by simp at e
 | _,_,_,_,(k,v)::Ai,.cons (b:=u1) r t,.cons (b:=u2) r' t',e=>by
  rw[jm,zx] at e;injection e with e0 e1;injection e0 with e2 e3;subst e2 e3;obtain⟨d6,q1,q2,q3⟩:=Qw (P:=P) (w:=w) t t' e1;refine⟨(k,u2)::d6,.cons ⟨rfl,r'⟩ q1,λi hi=>?_,by simpa using q3⟩;cases i with
  | zero=>exact⟨u1,rfl,mq r,rfl⟩
  | succ i=>
   obtain⟨x,a,b,c⟩:=q2 i (by simpa using hi);exact⟨x,by simpa using a,b,by simpa using c⟩
section
variable{X:Cx}{cl:Cl}{e1 e2:Ë}{ms:List ME}{p p2 p3 pos:Ċ}
def BO(hc:X.calm=Ã)(hm:X.mg "dict" = Á)(hs:X.mg "zip" = Á)(ha:SA X cl [e1,e2] ms)(hg:Gl X "dict")(Mj:Gl X "zip")
  (r9:É [e1,e2] X.env=(Â,Ú e1 X.env)::É [e2] X.env) (Aa:(Ù p3 (É [e2] X.env)).any (·.1)=Â)
  (Ed:É [.Call (.Name "zip" p2) [e1,e2] [] p3] X.env=(Â,Ú (.Call (.Name "zip" p2) [e1,e2] [] p3) X.env)::É [] X.env) (Ly:(Ù pos (É [] X.env)).any (·.1)=Â) :
  SE X cl (.Call (.Name "dict" p) [.Call (.Name "zip" p2) [e1,e2] [] p3] [] pos) (lT ms):=by
 rintro ag s σ H Q I ⟨μ,h,ρ,w,h',R,er,e,k⟩;obtain⟨ws,h1,A3,e⟩:=ke e;have hv:Ô "zip" = À (.type "zip"):=by decide +kernel
 have LQ:Ô "dict" = À (.type "dict"):=by decide +kernel
 refine jz (uz I hg hm LQ ?_ (by decide) (by decide));refine jr ?_ Ed Ly;rw[Ed];show Ê _ _ (Ÿ ((Â,Ú (.Call (.Name "zip" p2) [e1,e2] [] p3) X.env)::Ù pos (É [] X.env))) _ _ s
 have h0:∀{q:Ċ},Ù q (É [] X.env)=[]:=λ{q}=>rfl
 rw[h0];refine qK ?_;refine jz (uz I Mj hs hv ?_ (by decide) (by decide));refine jr (kC (ha p3 ag s σ H (λvs H1=>∃en,Ext μ H en H1/\HR X.K cl en H1 h1/\RWs X.K en H1 ws vs) I ⟨μ,h,ρ,ws,h1,R,er,A3,λen H1 vs E1 R1 rs=>⟨en,E1,R1,rs⟩⟩) ?_) r9 Aa;rintro us s1 ⟨vs,H1,I1,r1,en,E1,R1,rs⟩;unfold oU at e;split at e
 .rename_i x y
  split at e
  .rename_i l l' q1 q2
   split at e
   .rename_i ks ek
    split at e
    .rename_i hX
     cases e;cases rs with | cons rx t=>cases t with | cons ry t=>cases t with | nil=>
     obtain⟨t1,a1,xs,rfl,MZ,d1,f1⟩:=hW (cl:=cl) rx q1;obtain⟨t2,a2,ys,rfl,Ew,d2,f2⟩:=hW (cl:=cl) ry q2;obtain⟨u1,u2,rfl,Lu,EE⟩:=vals2 r1;cases Lu;cases EE;obtain⟨l1,v1,c1⟩:=uW I1 d1;obtain⟨l2,v2,c2⟩:=uW I1 d2;obtain⟨Ai,pr,ez⟩:=B6 MZ Ew ek;obtain⟨d6,kv,hp,he⟩:=Qw (P:=X.prog) (w:=X.w) v1 v2 ez;have n1:=Qp c1;have n2:=Qp c2;refine ZM (rY t1 a1 l1) (rY t2 a2 l2) c1 ((xC t2 0 a2).keepC c2 λo e=>zf _ e) (iL t1 a1) (iL t2 a2) λh2 b5 b3 b4 b1 b2 kp=>?_
     have nd:[s1.heap.objs.size+4,s1.heap.objs.size+2,s1.heap.objs.size+3,s1.heap.objs.size,s1.heap.objs.size+1].Nodup:=by
      erw[jB,zb,zc,zO,j6,vQ,and_true,not_false_eq_true];omega
     have ge:∀b∈[s1.heap.objs.size+4,s1.heap.objs.size+2,s1.heap.objs.size+3,s1.heap.objs.size,s1.heap.objs.size+1],s1.heap.objs.size<=b:=λb hb=>by
      erw[zb,zc,zO] at hb;rcases hb with rfl | rfl | rfl | rfl | rfl<;>omega
     have LP:Ai.length=d6.length:=kv.length;refine vA (rR (s:={ s1 with heap:=h2 }) (h0:=s1.heap) (qr X.prog X.w) (I1.ok.hd hc) (xC t1 _ a1) (xC t2 _ a2) ⟨nd,λm=>jF _ (zL n1 (ge _ m)),λm=>jF _ (zL n2 (ge _ m))⟩ ⟨b5,b3,⟨_,_,b4⟩,lV b1,lV b2⟩ kp (λb hb=>vP (ge b hb)) c1 c2 hp he (by rw[<-LP,<-pr.len];exact hX) λh3 tk dd Rx=>?_);have rel:KV (uF [] Ai) (ł [] d6):=kv.merge .nil;have hz:(uF [] Ai).length<=Î:=by
      have h1:=b6 Ai [];rw[zV] at h1;rw[vp];have:=pr.len;omega
     have le:s1.heap.objs.size<=h2.objs.size:=zK (Nat.le_add_right _ 4) (wI (zB b5));have big:h2.objs.size≠Ü:=kZ (zW (zL I1.big le));exact⟨.ref _,_,I1.laid (a:=h2.objs.size) (o:=.dK (uF [] Ai)) (t':=tk) Rx le (nK hz (ju.mpr big) rel dd),rfl,KQ.dic (k.ext E1) R1 (pr.merge .nil) (I1.hok.fresh le)⟩
    .cases e
   .cases e
  .cases e
 .cases e
end
noncomputable def noStar:Ë->Bool
 | .Starred ..=>Â
 | _=>Ã
noncomputable def lK:Ë->Bool
 | .ListComp ..=>Â
 | .SetComp ..=>Â
 | .DictComp ..=>Â
 | _=>Ã
noncomputable def sv:Ë->Bool
 | .Set ..=>Â
 | _=>Ã
noncomputable def XR:Ë->Bool
 | .Tuple ..=>Â
 | _=>Ã
noncomputable def cK:Ë->Bool
 | .Slice ..=>Â
 | _=>Ã
noncomputable def plainT:Ë->Bool
 | .UnaryOp ..=>Â
 | .BoolOp ..=>Â
 | .IfExp ..=>Â
 | .Compare ..=>Â
 | _=>Ã
noncomputable def sW:Ë->Bool
 | .Call ..=>Â
 | _=>Ã
section
variable{e tg o:Ë}{es:List Ë}{env:ŷ}{pos:Ċ}
def kK(h:noStar e=Ã):É (e::es) env=(Â,Ú e env)::É es env:=by
 cases e<;>first | (cases h;done) | kernel_rfl
theorem ib:É [] env=[]:=by kernel_rfl
theorem ft(h:noStar e=Ã):Ù pos (É (e::es) env)=(Â,Ú e env)::Ù pos (É es env):=by
 rw[kK h];rfl
theorem qf:∀{es:List Ë},es.all noStar=Ã->(Ù pos (É es env)).any (·.1)=Â
 | [],_=>by rw[ib];rfl
 | e::es,h=>by
  rw[jw,zq] at h;rw[ft h.1,wg,qf h.2];rfl
theorem sI:∀{es:List Ë},es.all noStar=Ã->(Ù pos (É es env)).all (λx=>!x.1)=Ã
 | [],_=>by rw[ib];rfl
 | e::es,h=>by
  rw[jw,zq] at h;rw[ft h.1,jw,sI h.2];rfl
def lG(h:es.all noStar=Ã)(hl:decide (es.length<30)=Ã):((Ù pos (É es env)).all (λx=>!x.1)&&(ô pos (Þ [] env)).all (λx=>x.1.isSome)
   && decide (es.length+([]:List ý).length+(if ([]:List ý).isEmpty then 0 else 1)<30))=Ã:=by
 rw[sI h];have:(Þ [] env)=[]:=by kernel_rfl
 rw[this];simpa[ô] using hl
theorem iN(h:lK e=Ã):ì e t l env=pure Â:=by
 cases e<;>first | (cases h;done) | rfl
theorem Ji(h:XR e=Ã):ŀ [.Tuple ts n p] e env=pure Á:=by
 cases e<;>first | (cases h;done) | rfl
def uC(h:noStar e=Ã):ß (e::es) env=(Â,ĥ e env)::ß es env:=by
 cases e<;>first | (cases h;done) | kernel_rfl
theorem ck:ß [] env=[]:=by kernel_rfl
theorem nS:∀{es:List Ë},es.all noStar=Ã->(ß es env).length=es.length
 | [],_=>by rw[ck];rfl
 | e::es,h=>by
  rw[jw,zq] at h;rw[uC h.1,zp,nS h.2];rfl
theorem mI:∀{es:List Ë},es.all noStar=Ã->(ß es env).findIdx? (·.1)=Á
 | [],_=>by rw[ck];rfl
 | e::es,h=>by
  rw[jw,zq] at h;rw[uC h.1,List.findIdx?_cons,mI h.2];rfl
theorem bt(h:sv e=Ã):∀x,á e env x=pure x:=by
 intro x;cases e<;>first | (cases h;done) | rfl
theorem ar(h:sW o=Ã):Ý o a env whole=whole:=by
 cases o<;>first | (cases h;done) | rfl
def WS(h:plainT e=Ã):∀whole,Ž e env whole=(do let v <-whole;Ī e.pos;ü [v] (truthy v)):=by
 intro whole;cases e<;>first | (cases h;done) | kernel_rfl
theorem su(h:cK e=Ã):ae e:=by
 intro o i;cases e<;>first | (cases h;done) | rfl
end
structure RC where
 sc:ã
 N:List Ç
 inC:Bool
 fns:List (Ç×(List W->M W))
 con:List (Ç×W)
 tab:List (Ç×List (Ç×W))
 bin:List Ç
 own:List Ç
 txt:List Ç
 cmp:List ((Nat×Nat)×List Ç)
 dic:List Ç
 fld:List (Nat×List Ç)
 mt:oF
 mks:List (Ç×(Nat×(List W->M W)))
 mka:List (Nat×Nat)
 way:List (Ç×List (Ç×(List W->M W)))
noncomputable def FnAt(P:Í)(w:Ñ)(K:S5)(mg:Ç->Option Ä)(base:Ï)(cl:Cl)(k:Nat)(x:Ç)(g:List W->M W):Prop:=
 ∃f fd ps,FnOk P w K mg base uE k f fd ps (xy K cl g)/\mg x=À (.ref f)/\Û K (.ref f)=Ã/\Binds K fd ps []
noncomputable def AllOf{α:Type}(P:Ç->α->Prop):List (Ç×α)->Prop
 | []=>True
 | (x,g)::r=>P x g/\AllOf P r
theorem AllOf.at{α:Type}{P:Ç->α->Prop}{x:Ç}{g:α}:∀{l:List (Ç×α)},AllOf P l->l.lookup x=À g->P x g
 | [],_,e=>by cases e
 | (y,g')::r,h,e=>by
  rw[kO] at e;cases q:x==y with
  | true=>rw[q] at e;cases e;rw[eq_of_beq q];exact h.1
  | false=>rw[q] at e;exact AllOf.at h.2 e
noncomputable def AllNone(mg:Ç->Option Ä):List Ç->Prop
 | []=>True
 | x::r=>mg x=Á/\AllNone mg r
theorem AllNone.at:∀{l:List Ç},AllNone mg l->x∈l->mg x=Á
 | y::r,h,e=>by
  rcases zb.mp e with rfl | e
  .exact h.1
  .exact AllNone.at h.2 e
structure BaseOk(P:Í)(w:Ñ)(K:S5)(mg:Ç->Option Ä)(base:Ï)(cl:Cl)(k:Nat)(Γ:RC):Prop where
 fns:AllOf (FnAt P w K mg base cl k) Γ.fns
 con:AllOf (Glob K mg) Γ.con
 tab:AllOf (TabOk K w.params mg) Γ.tab
 bin:AllNone mg Γ.bin
 pw:cl.P=P/\cl.w=w
 cls:fi K cl Γ.fld
 mts:∀c m g,Γ.mt.lookup (c,m)=À g->oE P w K mg base cl k c m g
 mks:AllOf (λx p=>F5 P w K mg base cl k x p.1 p.2) Γ.mks
 way:AllOf (Jv P w K mg base cl k) Γ.way
structure Fits(Γ:RC)(cl:Cl)(k:Nat)(X:Cx):Prop where
 sc:X.env.scope=Γ.sc
 N:X.N=Γ.N
 nd:X.N.Nodup
 fn:Γ.inC=Â->∀x,X.fn x=Ã
 kind:Γ.sc.kind=.function
 calm:X.calm=Ã
 pass:ŗ (Ì X.prog X.w) X.A X.env X.xe
 room:Room k X.A
 base:BaseOk X.prog X.w X.K X.mg X.base cl k Γ
noncomputable def oH(x:Ç):List Ç->Option Nat
 | []=>Á
 | y::r=>if y==x then À 0 else (oH x r).map (· + 1)
noncomputable def JA(Γ:RC)(x:Ç):Option ME:=match oH x Γ.N with
 | some i=>if WK Γ.sc Γ.N i x=Ã then À (ze i) else Á
 | none=>match Γ.con.lookup x with
  | some w=>if xp Γ.sc x=Ã then À (eC w) else Á
  | none=>Á
noncomputable def sV:Const->Option ME
 | .none=>À (eC .non)
 | .bool b=>À (eC (.bl b))
 | .int i=>À (eC (.int i))
 | .str x=>À (eC (.str x))
 | _=>Á
noncomputable def Gd(mu:Bool):ŉ->Option (W->W->M W)
 | .Add=>À addW
 | .Sub=>À x8
 | .Mult=>À kH
 | .Mod=>À y7
 | .FloorDiv=>À af
 | _=>Á
noncomputable def XE:Ũ->Option (W->W->M W)
 | .Eq=>À (jv Â)
 | .NotEq=>À (jv Ã)
 | .In=>À (uc Â)
 | .NotIn=>À (uc Ã)
 | .Lt=>À i4
 | .LtE=>À om
 | .Gt=>À pJ
 | .GtE=>Á
 | .Is=>À (y8 Ã)
 | .IsNot=>À (y8 Â)
noncomputable def sZ(Γ:RC):Ë->Option MG
 | .Name x _=>match oH x Γ.N with
  | some i=>match Γ.inC with
   | true=>if setC Γ.sc Γ.N i x=Ã then À (zD i) else Á
   | false=>if setB Γ.sc Γ.N i x=Ã then À (zD i) else Á
  | none=>Á
 | _=>Á
noncomputable def Vj(Γ:RC):Ë->Option MG
 | .Tuple es _ _=>if es.all noStar=Ã then (va (sZ Γ) es).map eD else Á
 | e=>sZ Γ e
noncomputable def FN:Ë->Nat
 | .Tuple es _ _=>es.length
 | _=>1
section
variable{Γ:RC}{cl:Cl}{k:Nat}{X:Cx}{x:Ç}{m:ME}{pos:Ċ}
def Wx(F:Fits Γ cl k X)(h:JA Γ x=À m):SE X cl (.Name x pos) m:=by
 unfold JA at h;split at h
 .split at h
  .rename_i i _ q
   cases h;exact v_ q F.sc F.N
  .cases h
 .split at h
  .rename_i w e
   split at h
   .rename_i q
    cases h;exact Lk q (F.base.con.at e) F.sc
   .cases h
  .cases h
def QV{c:Const}(h:sV c=À m):SE X cl (.Constant c j pos) m:=by
 unfold sV at h;split at h
 .cases h;exact F3
 .cases h;exact GJ
 .cases h;exact CV
 .cases h;exact Ck
 .cases h
def Dz{f:W->W->M W}(h:Gd mu op=À f):jI X (ä op) (rM X.K cl f):=by
 unfold Gd at h;split at h
 .cases h;exact Bb
 .cases h;exact Um
 .cases h;exact Bh
 .cases h;exact BM
 .cases h;exact UA
 .cases h
def gN{f:W->W->M W}(hu:X.A.units+64<ā)(h:XE op=À f):jI X (Ó op) (rM X.K cl f):=by
 cases op<;>cases h
 .exact De hu
 .exact Fw hu
 .exact CG
 .exact CA
 .exact D4
 .exact Fb
 .exact VW
 .exact Dl hu
 .exact VT hu
def KZ(F:Fits Γ cl k X)(h:sZ Γ e=À g):SG X cl e g:=by
 unfold sZ at h;split at h
 .rename_i x p
  split at h
  .rename_i i _
   split at h
   .split at h
    .rename_i q
     cases h;exact Li q (F.N▸F.nd) F.sc F.N
    .cases h
   .rename_i c
    split at h
    .rename_i q
     cases h;exact g_ q (F.N▸F.nd) F.sc F.N (F.fn c _)
    .cases h
  .cases h
 .cases h
def lJ{α β:Type}{f:α->Option β}{x:α}{r:List α}{ys:List β}(h:va f (x::r)=À ys):∃y zs,f x=À y/\va f r=À zs/\ys=y::zs:=by
 unfold va at h;split at h
 .rename_i y zs e1 e2
  cases h;exact⟨y,zs,e1,e2,rfl⟩
 .cases h
theorem Kv(F:Fits Γ cl k X):∀{es:List Ë} {gs:List MG},es.all noStar=Ã->va (sZ Γ) es=À gs->Vq X cl es gs
 | [],gs,_,h=>by cases h;exact Ur
 | e::es,gs,hn,h=>by
  obtain⟨g,SM,h1,h2,rfl⟩:=lJ h;rw[jw,zq] at hn;exact Yd (KZ F h1) (Kv F hn.2 h2) (by rw[uC hn.1];rfl)
theorem tV{α β:Type}{f:α->Option β}:∀{l:List α} {ys:List β},va f l=À ys->ys.length=l.length
 | [],ys,h=>by cases h;rfl
 | x::r,ys,h=>by
  obtain⟨y,zs,_,h2,rfl⟩:=lJ h;rw[zp,zp,tV h2]
def sF(F:Fits Γ cl k X)(h:Vj Γ e=À g):SG X cl e g:=by
 unfold Vj at h;split at h
 .rename_i es n p
  split at h
  .rename_i hn
   rw[zg] at h;obtain⟨gs,h1,rfl⟩:=h;exact Ga F.calm (Kv F hn h1) (by rw[nS hn,tV h1]) (mI hn)
  .cases h
 .exact KZ F h
end
end ML
namespace ML
open PySem PySem.W PySem.Spec PyProof.Rows L2
section
variable{prog:Í}{w:Ñ}{A:Ö}{E:Ä->Å->Prop}{s:Å}{r l:È}{items:Array Ä}
def og{α:Type}{c:Bool}{X Y:Sem α}{Q:α->Å->Prop}(hc:c=Â)(h:Ê (Ì prog w) A Y Q E s):Ê (Ì prog w) A (if c=Ã then X else Y) Q E s:=by
 rw[hc,kI (by simp)];exact h
def B4{α:Type}{c:Bool}{X Y:Sem α}{Q:α->Å->Prop}(hc:c=Ã)(h:Ê (Ì prog w) A X Q E s):Ê (Ì prog w) A (if c=Ã then X else Y) Q E s:=by
 rw[hc,z9 rfl];exact h
def BV:ĝ (.type "list_reverseiterator") "__len__" = pure Á:=by rw[qt,jL];kernel_rfl
def Y0:ĝ (.type "list_reverseiterator") "__length_hint__" = pure (À (.builtin "list_reverseiterator.__length_hint__")):=by rw[qt,jL];kernel_rfl
def YG(hT:s.TypeIs (.ref r) "list_reverseiterator")(h:Q Â s):Ê (Ì prog w) A (Ĭ (.ref r)) Q E s:=by
 unfold Ĭ;refine za (vV hT BV ?_);dsimp only;refine og ⋯ ?_;refine og ⋯ ?_;refine wpAny_bind (wpAny_specialOf hT Y0 ?_);dsimp only;generalize hid:("list_reverseiterator.__length_hint__":String)=idl;rw[show splitId idl=À ("list_reverseiterator","__length_hint__") from by subst hid;decide +kernel];subst hid;dsimp only;refine wpAny_bind (wpAny_isInstance (b:=Ã) hT (by rw[isSubtype_type];kernel_rfl) ?_);rw[kI (by decide)];refine B4 ⋯ ?_;refine og ⋯ ?_;exact zr h
def J4(hh:A.handled=Á)(hit:s.heap.IsRevIter r l ((items.size:Int)-1))(hl:s.heap.IsList l items)(AW:l≠r)(S:È)(N1:S≠r)(OI:S≠l)(c0:Nat)(hS:s.heap.get? S=À { cls:=.type "list",data:=.seq #[] c0 })(hn:items.size<=Î)
  (hR:∀h' tk c',(∀b o,b≠S->b≠r->s.heap.get? b=À o->h'.get? b=À o)->h'.get? S=À { cls:=.type "list",dict:=Á,data:=.seq items.reverse c',slots:=#[] }->R (.ok (.ret .none)) { s with heap:=h',toks:=tk }) :
  Ê (Ì prog w) A.in1 (ö (.ref S) (.ref r) .none)
   (λfin s'=>match fin with | .done f=>R (.ok f) s' | .again c'=>c'.quiet=Ã/\Ď (Ì prog w) A c' R s') (λe s'=>R (.error e) s') s:=by
 have Ry:S∉[r,l]:=by erw[zb,zc,zO,j6];exact⟨N1,OI⟩
 have W:=Walks.listRev (prog:=prog) (w:=w) (A:=A.in1) hh r l AW items;have e0:(items.size:Int)-1-((0:Nat):Int)=(items.size:Int)-1:=by omega
 have key:∀(h:Ï) (c1:Nat),h.IsRevIter r l ((items.size:Int)-1)->h.IsList l items->(∀b o,b≠S->b≠r->s.heap.get? b=À o->h.get? b=À o)->
   h.get? S=À { cls:=.type "list",data:=.seq #[] c1 }->Ď (Ì prog w) A (.builtin "list.extend.loop" ⟨[.ref S,.ref r,.none],[]⟩) R { s with heap:=h }:=by
  intro h c1 q1 q2 hk Rz;refine codeAny_extend_loopS W.toS hn S Ry .none items.size 0 _ #[] c1 rfl (qy _) ⟨qy _,by rw[e0];exact q1,q2⟩ Rz (ItemsOf.nil _) λs' AS c' hm N2 Lz=>?_
  rw[Moved.eq_with hm];have er:AS=items.reverse:=by
   apply Array.ext
   .rw[Lz.1,Array.size_reverse]
   .intro j a1 a2
    have:items[items.size-1-j]?=À AS[j]:=Lz.2 j AS[j] (by simp[a1]);rw[Array.getElem_reverse];rw[Array.getElem?_eq_getElem (by rw[Lz.1] at a1;omega)] at this;exact(zZ this).symm
  subst er;refine hR s'.heap s'.toks c' (λb o hb hb2 e=>hm.heap b o (λLA=>?_) (hk b o hb hb2 e)) N2;rcases zb.mp LA with e' | LA
  .exact hb e'
  .exact hb2 (vN.mp LA)
 unfold ö;refine za (j5 hit.typeIs ?_);have h1:ň (.ref S) (.ref r)=Â:=by simp[ň,N1]
 refine og (by rw[h1];rfl) ?_;refine za (wpAny_pyIter_revIter hit ?_);refine za (jd (YG hit.typeIs ?_));refine wpAny_ite_split (λ_=>?_) (λ_=>zr ⟨vd yK _,key s.heap c0 hit hl (λb o _ _ e=>e) hS⟩);refine za (qC ?_);refine za ?_;show Ê _ _ (updateSeq S (·.push .none) >>= λ_=>updateSeq S (·.pop)) _ _ _
 refine za (vU hS rfl ?_);have Na:=jO (ú (·.push ë)) hS rfl;refine vU Na rfl ?_;have RA:=jO (ú (·.pop)) Na rfl;have LB:∀b o,b≠S->s.heap.get? b=À o->((s.heap.update S (ú (·.push ë))).update S (ú (·.pop))).get? b=À o:=λb o hb e=>(qH _ _ (kZ hb)).trans ((qH _ _ (kZ hb)).trans e)
 exact zr ⟨vd yK _,key _ _ (hit.at λo e=>LB _ _ (kZ N1) e) (hl.at λo e=>LB _ _ (kZ OI) e) (λb o hb _ e=>LB b o hb e) RA⟩
def Wq(hh:A.handled=Á)(hit:s.heap.IsRevIter r l ((items.size:Int)-1))(hl:s.heap.IsList l items)(AW:l≠r)(hn:items.size<=Î)
  (hQ:∀h' tk c',(∀b o,b≠r->s.heap.get? b=À o->h'.get? b=À o)->h'.get? s.heap.objs.size=À { cls:=.type "list",dict:=Á,data:=.seq items.reverse c',slots:=#[] }->Q (.ref s.heap.objs.size) { s with heap:=h',toks:=tk }) :
  Ê (Ì prog w) A (Ŋ (.type "list") [.ref r]) Q E s:=by
 have OJ:r<s.heap.objs.size:=by obtain⟨o,e,_⟩:=hit;exact zB e
 have OK:l<s.heap.objs.size:=by obtain⟨o,e,_⟩:=hl;exact zB e
 refine yq (Q₁:=λobj s1=>obj=.ref s.heap.objs.size/\s1={ s with heap:=s.heap.push { cls:=.type "list",data:=.seq #[] } }) PySem.F.called_list (PySem.F.typeCall_list_1 _) PySem.F.entry_list_init (code_list_new _ ⟨rfl,rfl⟩) λobj s1 h1=>?_
 obtain⟨rfl,rfl⟩:=h1;have hS:(s.heap.push { cls:=.type "list",data:=.seq #[] }).get? s.heap.objs.size=À { cls:=.type "list",data:=.seq #[] }:=zN _ rfl;refine⟨⟨_,hS,rfl⟩,PySem.F.args_list_init_2 _ _,?_⟩;show Ê _ _ (do let old <-ō (.ref s.heap.objs.size);Builtin.List.listUpdate (.ref s.heap.objs.size) (λ_=>#[]);letGo old.toList.reverse;ö (.ref s.heap.objs.size) (.ref r) .none) _ _ _
 refine za ?_;unfold ō;refine za (jJ hS rfl (zr ?_));show Ê _ _ (updateSeq s.heap.objs.size (λ_=>#[]) >>= λ_=>letGo (#[]:Array Ä).toList.reverse >>= λ_=>ö (.ref s.heap.objs.size) (.ref r) .none) _ _ _
 refine za (vU hS rfl ?_);have Na:=jO (ú (λ_=>(#[]:Array Ä))) hS rfl;have LB:∀b o,b≠s.heap.objs.size->s.heap.get? b=À o->((s.heap.push { cls:=.type "list",data:=.seq #[] }).update s.heap.objs.size (ú (λ_=>(#[]:Array Ä)))).get? b=À o:=
  λb o hb e=>(qH _ _ (kZ hb)).trans (zf _ e)
 refine za (xg ?_);refine J4 (A:=A.in1) hh (hit.at λo e=>LB _ _ (zW OJ) e) (hl.at λo e=>LB _ _ (zW OK) e) AW _ (ql OJ) (ql OK) _ Na hn λh' tk c' hk N2=>?_
 exact⟨rfl,hQ h' tk c' (λb o hb e=>hk b o (zW (zB e)) hb (LB b o (zW (zB e)) e)) N2⟩
end
noncomputable def oJ(w:W):M W:=λh=>(getL h w).bind λl=>if l.length<=1000 then À (.fls l.reverse,h) else Á
theorem RWs.rev{K:S5}{μ:List È}{H:Hp}:∀{l:List W} {vs:List V},RWs K μ H l vs->RWs K μ H l.reverse vs.reverse
 | _,_,.nil=>.nil
 | _,_,.cons r rs=>by
  rw[q8,q8];exact(RWs.rev rs).append (.cons r .nil)
theorem Zm:∀{vs:List V} {us:List Ä},Vals vs us->Vals vs.reverse us.reverse
 | _,_,.nil=>.nil
 | _,_,.cons r rs=>by
  rw[q8,q8];exact(Zm rs).append (.cons r .nil)
section
variable{X:Cx}{cl:Cl}{a:Ë}{ma:ME}{p p2 p3 pos:Ċ}
def Bf(hc:X.calm=Ã)(hl:X.mg "list" = Á)(hs:X.mg "reversed" = Á)(ha:SE X cl a ma)(hg:Gl X "list")(Mj:Gl X "reversed")
  (OL:É [a] X.env=(Â,Ú a X.env)::É [] X.env) (N3:(Ù p3 (É [] X.env)).any (·.1)=Â)
  (Ed:É [.Call (.Name "reversed" p2) [a] [] p3] X.env=(Â,Ú (.Call (.Name "reversed" p2) [a] [] p3) X.env)::É [] X.env) (Ly:(Ù pos (É [] X.env)).any (·.1)=Â) :
  SE X cl (.Call (.Name "list" p) [.Call (.Name "reversed" p2) [a] [] p3] [] pos) (vt oJ ma):=by
 rintro ag s σ H Q I ⟨μ,h,ρ,w,h',R,er,e,k⟩;obtain⟨x,h1,e1,e⟩:=ke e;have hv:Ô "reversed" = À (.type "reversed"):=by decide +kernel
 have LQ:Ô "list" = À (.type "list"):=by decide +kernel
 refine jz (uz I hg hl LQ ?_ (by decide) (by decide));refine jr ?_ Ed Ly;rw[Ed];show Ê _ _ (Ÿ ((Â,Ú (.Call (.Name "reversed" p2) [a] [] p3) X.env)::Ù pos (É [] X.env))) _ _ s
 have h0:∀{q:Ċ},Ù q (É [] X.env)=[]:=λ{q}=>rfl
 rw[h0];refine qK ?_;refine jz (uz I Mj hs hv ?_ (by decide) (by decide));refine jr ?_ OL N3;rw[OL];show Ê _ _ (Ÿ ((Â,Ú a X.env)::Ù p3 (É [] X.env))) _ _ s
 rw[h0];refine qK (kC (ha ag s σ H (λv H1=>∃en,Ext μ H en H1/\HR X.K cl en H1 h1/\RW X.K en H1 x v) I ⟨μ,h,ρ,x,h1,R,er,e1,λen H1 v E1 R1 r=>⟨en,E1,R1,r⟩⟩) ?_);rintro u s1 ⟨v,H1,I1,r1,en,E1,R1,rv⟩;refine vA ?_;obtain⟨l,el,e⟩:=zu.mp (show(getL h1 x).bind _=À (w,h') from e);by_cases ok:l.length<=1000
 .rw[z9 ok] at e
  cases e;obtain⟨d,vs,rfl,sq,ra⟩:=xb R1 rv el;cases r1;obtain⟨cb,N4,⟨o,n,g1,g2,g3,g4⟩,_⟩:=I1.list sq;have EK:s1.heap.IsList d cb.toArray:=⟨o,g1,g2,n,g4⟩;have lt:d<s1.heap.objs.size:=zB g1;have N5:cb.length=l.length:=by rw[<-N4.length,ra.length]
  refine call_reversed_list EK ?_;have Mz:∀b ob,s1.heap.get? b=À ob->(s1.heap.push (revObj d ((cb.toArray.size:Int)-1))).get? b=À ob:=λb ob q=>zf _ q
  refine vA (Wq (s:={ s1 with heap:=s1.heap.push (revObj d ((cb.toArray.size:Int)-1)) }) (items:=cb.toArray) (I1.ok.hd hc) ⟨_,zN _ rfl,rfl,rfl⟩ (EK.push _) (zW lt) (by simp[vp];omega) λh2 tk c' kp ob=>?_);have sz:(s1.heap.push (revObj d ((cb.toArray.size:Int)-1))).objs.size=s1.heap.objs.size+1:=j7 ..;have MA:∀b ob,s1.heap.get? b=À ob->h2.get? b=À ob:=λb ob q=>kp b ob (zW (zB q)) (Mz b ob q)
  have OM:s1.heap.objs.size<=(s1.heap.push (revObj d ((cb.toArray.size:Int)-1))).objs.size:=by rw[sz];exact vB _
  have q2:=Zm N4;refine⟨.ref _,_,I1.laid (o:=.lst vs.reverse) (t':=tk) MA OM ⟨by rw[j0,N4.length,N5,vp];omega,_,c',q2,by simpa using ob⟩,rfl,?_⟩;exact KQ.fls (k.ext E1) R1 ra.rev (I1.hok.fresh OM)
 .rw[kI ok] at e;cases e
end
end ML
namespace ML
open PySem PySem.Spec PyProof.Rows L2
noncomputable def cq(E:Ë->Option ME)(es:List Ë):Option (List ME):=if es.all noStar=Ã then va E es else Á
noncomputable def aS(Γ:RC)(x:Ç):Bool:=Γ.bin.any (· == x)
noncomputable def tyOf(x:Ç):Option Ty:=if x=="int" then À .int else if x=="str" then À .str else if x=="bool" then À .bool else if x=="tuple" then À .tuple else if x=="list" then À .list else if x=="dict" then À .dict else Á
noncomputable def mK(mu:Bool)(x:Ç):Option (List W->M W):=
 if x=="len" then À kN else if x=="all" then À Yg else if x=="sum" then À i9
 else if x=="tuple" then À uA else if x=="dict" then (match mu with
  | true=>À nV
  | false=>À l7)
 else if x=="list" then À iE
 else Á
noncomputable def tu:List Ë->Option Ë
 | [.Call (.Name y _) [a] [] _]=>if y=="reversed" then À a else Á
 | _=>Á
noncomputable def t6:List Ë->Option (Ë×Ë)
 | [.Call (.Name y _) [a,b] [] _]=>if y=="zip" then À (a,b) else Á
 | _=>Á
noncomputable def tN(Γ:RC):List Ë->Option (Ë×Ty)
 | [a,.Name y _]=>if (xp Γ.sc y&&aS Γ y&&noStar a)=Ã then (tyOf y).map λT=>(a,T) else Á
 | _=>Á
noncomputable def tR(Γ:RC)(E:Ë->Option ME)(mu:Bool)(x:Ç)(as:List Ë):Option ME:=
 if x=="isinstance" then (tN Γ as).bind λp=>(E p.1).map (vt (isW p.2))
 else match as with
  | []=>Á
  | _::_=>(mK mu x).bind λg=>(cq E as).map (zh g)
noncomputable def Zg(Γ:RC)(E:Ë->Option ME)(mu:Bool)(x:Ç)(as:List Ë):Option ME:=
 if xp Γ.sc x=Ã then (match Γ.fns.lookup x with
  | some g=>(cq E as).map (zh g)
  | none=>if aS Γ x=Ã then (match tu as with
    | some a=>if (x=="list" && xp Γ.sc "reversed" && aS Γ "reversed" && noStar a)=Ã then (E a).map (vt oJ) else Á
    | none=>(match t6 as with
     | some p=>if (x=="dict" && xp Γ.sc "zip" && aS Γ "zip" && noStar p.1&&noStar p.2)=Ã then (E p.1).bind λm=>(E p.2).map λm2=>lT [m,m2] else Á
     | none=>tR Γ E mu x as)) else (match Γ.mks.lookup x,as with
    | some p,_::_=>(cq E as).map (uI p.1 p.2)
    | _,_=>Á)) else Á
noncomputable def isOwn(Γ:RC)(m:Ç):Bool:=Γ.mt.any λp=>p.1.2==m
noncomputable def Jq(Γ:RC)(E EM:Ë->Option ME)(o:Ë)(m:Ç)(apos:Ċ)(as:List Ë)(pos:Ċ):Option ME:=
 if (sW o&&(apos.endLine==pos.line)&&as.all noStar&&decide (as.length<30))=Ã then (E o).bind λmo=>if isOwn Γ m=Ã then (va E as).map (ki Γ.mt m mo) else match as with
  | []=>if m=="pop" then À (kD ur mo []) else Á
  | a::r=>if m=="append" then (va EM (a::r)).map (kD qh mo)
   else if m=="extend" then (va E (a::r)).map (kD ui mo)
   else if m=="get" then (match r with
    | [b]=>(E a).bind λma=>(E b).map (oh mo ma)
    | _=>Á)
   else Á
 else Á
section
variable{Γ:RC}{cl:Cl}{k:Nat}{X:Cx}{x:Ç}{m:ME}{pos p:Ċ}{E:Ë->Option ME}{as:List Ë}{mu:Bool}
theorem bp:∀{es:List Ë} {ms:List ME},(∀e m,E e=À m->SE X cl e m)->es.all noStar=Ã->va E es=À ms->SA X cl es ms
 | [],ms,_,_,h=>by cases h;exact lD
 | e::es,ms,hE,hn,h=>by
  obtain⟨m,SN,h1,h2,rfl⟩:=lJ h;rw[jw,zq] at hn;exact ab (hE _ _ h1) (bp hE hn.2 h2) (kK hn.1)
def uO{es:List Ë}(hE:∀e m,E e=À m->SE X cl e m)(h:cq E es=À ms):es.all noStar=Ã/\SA X cl es ms:=by
 unfold cq at h;split at h
 .rename_i hn
  exact⟨hn,bp hE hn h⟩
 .cases h
def uG(F:Fits Γ cl k X)(h:aS Γ x=Ã):X.mg x=Á:=by
 unfold aS at h;obtain⟨y,hy,e⟩:=qu.mp h;rw[<-eq_of_beq e];exact F.base.bin.at hy
def UC{T:Ty}(h:tyOf x=À T):Ô x=À (.type T.name):=by
 unfold tyOf at h;split at h
 .rename_i q;rw[eq_of_beq q];cases h;exact UX
 split at h
 .rename_i q;rw[eq_of_beq q];cases h;exact Uq
 split at h
 .rename_i q;rw[eq_of_beq q];cases h;exact WF
 split at h
 .rename_i q;rw[eq_of_beq q];cases h;exact pS
 split at h
 .rename_i q;rw[eq_of_beq q];cases h;exact Zs
 split at h
 .rename_i q;rw[eq_of_beq q];cases h;exact mW
 .cases h
def ZR(F:Fits Γ cl k X)(hg:xp Γ.sc x=Ã)(hb:aS Γ x=Ã)(h:mK mu x=À g)(hn:(e::es).all noStar=Ã)(ha:SA X cl (e::es) ms):SE X cl (.Call (.Name x p) (e::es) [] pos) (zh g ms):=by
 have hm:=uG F hb;rw[jw,zq] at hn;have h1:=kK (es:=es) (env:=X.env) hn.1;have h2:=qf (pos:=pos) (env:=X.env) hn.2;unfold mK at h;split at h
 .rename_i q;have q:=eq_of_beq q;subst q;cases h;exact D8 hg VN hm PySem.boot_len ha F.sc h1 h2
 split at h
 .rename_i q;have q:=eq_of_beq q;subst q;cases h;exact D8 hg (QJ F.calm) hm ML.boot_all ha F.sc h1 h2
 split at h
 .rename_i q;have q:=eq_of_beq q;subst q;cases h;exact D8 hg (V4 F.calm) hm ML.boot_sum ha F.sc h1 h2
 split at h
 .rename_i q;have q:=eq_of_beq q;subst q;cases h;exact Xl hg ZW hm pS ha F.sc h1 h2
 split at h
 .rename_i q;have q:=eq_of_beq q;subst q
  split at h
  .cases h;exact Xl hg JX hm mW ha F.sc h1 h2
  .cases h;exact Xl hg (JO F.calm) hm mW ha F.sc h1 h2
 split at h
 .rename_i q;have q:=eq_of_beq q;subst q;cases h;exact Xl hg Jk hm Zs ha F.sc h1 h2
 .cases h
def VM{T:Ty}(h:tN Γ as=À (a,T)):∃y p2,as=[a,.Name y p2]/\xp Γ.sc y=Ã/\aS Γ y=Ã/\noStar a=Ã/\tyOf y=À T:=by
 unfold tN at h;split at h
 .rename_i a' y p2
  split at h
  .rename_i q
   rw[zg] at h;obtain⟨T',e,z⟩:=h;cases z;erw[zq] at q;exact⟨y,p2,rfl,q.1.1,q.1.2,q.2,e⟩
  .cases h
 .cases h
def J7(F:Fits Γ cl k X)(hE:∀e m,E e=À m->SE X cl e m)(hg:xp Γ.sc x=Ã)(hb:aS Γ x=Ã)(h:tR Γ E mu x as=À m):SE X cl (.Call (.Name x p) as [] pos) m:=by
 unfold tR at h;split at h
 .rename_i q
  have q:=eq_of_beq q;subst q;rw[zu] at h;obtain⟨⟨a,T⟩,e,h⟩:=h;rw[zg] at h;obtain⟨ma,e2,rfl⟩:=h;obtain⟨y,p2,rfl,g2,b2,ns,ty⟩:=VM e;exact HF T hg g2 (hE _ _ e2) (uG F hb) (uG F b2) (UC ty) F.sc (kK ns) (kK rfl) (qf rfl)
 .split at h
  .cases h
  .rw[zu] at h
   obtain⟨g,e,h⟩:=h;rw[zg] at h;obtain⟨ms,e2,rfl⟩:=h;obtain⟨hn,ha⟩:=uO hE e2;exact ZR F hg hb e hn ha
def VV(h:tu as=À a):∃p2 p3,as=[.Call (.Name "reversed" p2) [a] [] p3]:=by
 unfold tu at h;split at h
 .rename_i y p2 a' p3
  split at h
  .rename_i q
   cases h;rw[eq_of_beq q];exact⟨p2,p3,rfl⟩
  .cases h
 .cases h
def V3{q:Ë×Ë}(h:t6 as=À q):∃p2 p3,as=[.Call (.Name "zip" p2) [q.1,q.2] [] p3]:=by
 unfold t6 at h;split at h
 .rename_i y p2 a b p3
  split at h
  .rename_i z
   cases h;rw[eq_of_beq z];exact⟨p2,p3,rfl⟩
  .cases h
 .cases h
def VQ(F:Fits Γ cl k X)(hE:∀e m,E e=À m->SE X cl e m)(h:Zg Γ E mu x as=À m):SE X cl (.Call (.Name x p) as [] pos) m:=by
 unfold Zg at h;split at h
 .rename_i hg
  split at h
  .rename_i g e
   rw[zg] at h;obtain⟨ms,e2,rfl⟩:=h;obtain⟨hn,ha⟩:=uO hE e2;obtain⟨f,fd,ps,fo,hm,hk,hb⟩:=F.base.fns.at e;cases as with
   | nil=>
    have:ms=[]:=by
     cases e2;rfl
    subst this;exact IN hg fo F.room hm hk hb F.sc
   | cons a r=>
    rw[jw,zq] at hn;exact c_ hg fo F.room hm hk hb ha F.sc (kK hn.1) (qf hn.2)
  .split at h
   .rename_i hb
    split at h
    .rename_i a e
     split at h
     .rename_i q
      erw[zq] at q;rw[zg] at h;obtain⟨ma,e2,rfl⟩:=h;obtain⟨p2,p3,rfl⟩:=VV e;have hx:=eq_of_beq q.1.1.1;subst hx;exact Bf F.calm (uG F hb) (uG F q.1.2) (hE _ _ e2) (kU hg F.sc).1 (kU q.1.1.2 F.sc).1 (kK q.2) (qf rfl) (kK rfl) (qf rfl)
     .cases h
    .split at h
     .rename_i pr e
      split at h
      .rename_i q
       erw[zq] at q;rw[zu] at h;obtain⟨m1,e1,h⟩:=h;rw[zg] at h;obtain⟨m2,e2,rfl⟩:=h;obtain⟨p2,p3,rfl⟩:=V3 e;have hx:=eq_of_beq q.1.1.1.1;subst hx;exact BO F.calm (uG F hb) (uG F q.1.1.2) (ab (hE _ _ e1) (ab (hE _ _ e2) lD (kK q.2)) (kK q.1.2)) (kU hg F.sc).1 (kU q.1.1.1.2 F.sc).1 (kK q.1.2) (qf (by simp[q.2])) (kK rfl) (qf rfl)
      .cases h
     .exact J7 F hE hg hb h
   .split at h
    .rename_i p' a r e
     rw[zg] at h;obtain⟨ms,e2,rfl⟩:=h;obtain⟨hn,ha⟩:=uO hE e2;rw[jw,zq] at hn;exact Ub (F.base.mks.at e) F.room ha (kU hg F.sc).1 (kU hg F.sc).2.1 (kK hn.1) (qf hn.2)
    .cases h
 .cases h
def We(F:Fits Γ cl k X)(hE:∀e m,E e=À m->SE X cl e m)(hM:∀e m,EM e=À m->SE X cl e m)(h:Jq Γ E EM o nm apos as pos=À m):SE X cl (.Call (.Attribute o nm apos) as [] pos) m:=by
 unfold Jq at h;split at h
 .rename_i q
  erw[zq] at q;obtain⟨⟨⟨q1,q2⟩,q3⟩,q4⟩:=q;rw[zu] at h;obtain⟨mo,eo,h⟩:=h;split at h
  .rw[zg] at h
   obtain⟨ms,e2,rfl⟩:=h;have MT:=λc g=>F.base.mts c nm g
   have hr:=F.room;cases as with
   | nil=>cases e2;exact YK MT hr (hE _ _ eo) (ar q1) q2 (lG q3 q4)
   | cons a r=>
    have hn:=q3;rw[jw,zq] at hn;exact Bp MT hr (hE _ _ eo) (bp hE q3 e2) (ar q1) (lG q3 q4) q2 (kK hn.1) (qf hn.2)
  split at h
  .split at h
   .rename_i z
    rw[eq_of_beq z];cases h;exact DE (hE _ _ eo) (ar q1) q2
   .cases h
  .rename_i a r
   have hn:=q3;rw[jw,zq] at hn;split at h
   .rename_i z
    rw[eq_of_beq z];rw[zg] at h;obtain⟨ms,e2,rfl⟩:=h;exact Qx (hE _ _ eo) (bp hM q3 e2) (ar q1) (lG q3 q4) q2 (kK hn.1) (qf hn.2)
   split at h
   .rename_i z
    rw[eq_of_beq z];rw[zg] at h;obtain⟨ms,e2,rfl⟩:=h;exact Vx (hE _ _ eo) (bp hE q3 e2) (ar q1) (lG q3 q4) q2 (kK hn.1) (qf hn.2)
   split at h
   .rename_i z
    rw[eq_of_beq z];split at h
    .rename_i b
     rw[zu] at h;obtain⟨ma,e1,h⟩:=h;rw[zg] at h;obtain⟨mb,e2,rfl⟩:=h;have hb:noStar b=Ã:=by simpa using hn.2
     exact Wv F.room.units (hE _ _ eo) (hE _ _ e1) (hE _ _ e2) ⟨ar q1,lG q3 q4,q2,by rw[ft hn.1,ft hb,ib];rfl⟩
    .cases h
   .cases h
 .cases h
end
noncomputable def QC(Γ:RC):Ë->Bool
 | .Constant (.str _) _ _=>Ã
 | .Name x _=>Γ.txt.any (· == x)
 | _=>Â
noncomputable def XT(Γ:RC):Ë->Bool
 | .Subscript e (.Slice _ _ _ _) _=>QC Γ e
 | e=>QC Γ e
noncomputable def isTup:Ë->Bool
 | .Tuple ..=>Ã
 | _=>Â
noncomputable def sR(Γ:RC)(E:Ë->Option ME)(tg:Ë)(x:Ç)(as:List Ë):Option MI:=
 if (xp Γ.sc x&&aS Γ x&&as.all noStar)=Ã then (match as with
  | [e]=>if x=="range" then (E e).map λm=>vj [m]
   else if x=="reversed" then (E e).map λm=>oI [m]
   else Á
  | [e,e2]=>if (x=="zip" && isTup tg)=Ã then (E e).bind λm=>(E e2).map λm2=>fE [m,m2] else Á
  | _=>Á) else Á
noncomputable def Qe(Γ:RC)(E:Ë->Option ME)(tg:Ë):Ë->Option MI
 | .Call (.Name x _) as [] _=>sR Γ E tg x as
 | _=>Á
noncomputable def rW(Γ:RC)(E:Ë->Option ME)(tg it:Ë):Option MI:=match Qe Γ E tg it with
 | some m=>À m
 | none=>(E it).map λm=>match XT Γ it with
  | true=>JV m
  | false=>vk m
section
variable{Γ:RC}{cl:Cl}{k:Nat}{X:Cx}{x:Ç}{pos p:Ċ}{E:Ë->Option ME}{as:List Ë}{tg it:Ë}{mi:MI}
def YT(h:isTup tg=Ã):∃es n tp,tg=.Tuple es n tp:=by
 unfold isTup at h;split at h
 .exact⟨_,_,_,rfl⟩
 .cases h
def Qo(F:Fits Γ cl k X)(hE:∀e m,E e=À m->SE X cl e m)(h:sR Γ E tg x as=À mi):SI X cl tg (.Call (.Name x p) as [] pos) mi:=by
 unfold sR at h;split at h
 .rename_i q
  erw[zq] at q;obtain⟨⟨q1,q2⟩,q3⟩:=q;split at h
  .rename_i e
   have hn:noStar e=Ã:=by simpa using q3
   split at h
   .rename_i z
    have z:=eq_of_beq z;subst z;rw[zg] at h;obtain⟨m,e1,rfl⟩:=h;exact IE q1 (uG F q2) (ab (hE _ _ e1) lD (kK hn)) F.sc (by rw[kK hn,ib])
   split at h
   .rename_i z
    have z:=eq_of_beq z;subst z;rw[zg] at h;obtain⟨m,e1,rfl⟩:=h;exact F1 (uG F q2) (ab (hE _ _ e1) lD (kK hn)) (kU q1 F.sc).1 (kK hn)
   .cases h
  .rename_i e e2
   rw[jw,zq] at q3;have Eu:noStar e2=Ã:=by simpa using q3.2
   split at h
   .rename_i z
    rw[zq] at z;obtain⟨es,n,tp,rfl⟩:=YT z.2;have z:=eq_of_beq z.1;subst z;rw[zu] at h;obtain⟨m,e1,h⟩:=h;rw[zg] at h;obtain⟨m2,e3,rfl⟩:=h;exact HJ q1 (uG F q2) (ab (hE _ _ e1) (ab (hE _ _ e3) lD (kK Eu)) (kK q3.1)) F.sc (kK q3.1) (qf q3.2)
   .cases h
  .cases h
 .cases h
def tS(F:Fits Γ cl k X)(hE:∀e m,E e=À m->SE X cl e m)(h:rW Γ E tg it=À mi):SI X cl tg it mi:=by
 unfold rW at h;split at h
 .rename_i m e
  cases h;unfold Qe at e;split at e
  .exact Qo F hE e
  .cases e
 .rw[zg] at h
  obtain⟨m,e1,h⟩:=h;cases q:XT Γ it with
  | true=>rw[q] at h;subst h;exact Fo (hE _ _ e1)
  | false=>rw[q] at h;subst h;exact FA (hE _ _ e1)
end
noncomputable def tf(T:Ë->Option MT):List Ë->Option MT
 | []=>À kL
 | [c]=>T c
 | _=>Á
structure CompR where
 mi:MI
 nl:Nat
 ks:List Nat
 g:MG
 t:MT
 m:ME
noncomputable def RC.inner(Γ:RC)(scope:ã)(N':List Ç):RC:={ Γ with sc:=lR Γ.sc scope,N:=N',inC:=Ã }
noncomputable def Vk(Γ:RC)(E:RC->Bool->Ë->Option ME)(T:RC->Ë->Option MT)(elt tg it:Ë)(ifs:List Ë)(scope:ã)(N':List Ç):Option CompR:=
 if (sv it&&sU N')=Ã then (va (λx=>oH x Γ.N) (N'.drop (FN tg))).bind λks=>
  if uV Γ.sc Γ.N scope N' (FN tg) ks=Ã then (rW Γ (E Γ Â) tg it).bind λmi=>(Vj (Γ.inner scope N') tg).bind λg=>(tf (T (Γ.inner scope N')) ifs).bind λt=>(E (Γ.inner scope N') Â elt).map λm=>⟨mi,FN tg,ks,g,t,m⟩
  else Á
 else Á
noncomputable def sd(Γ:RC)(E:RC->Bool->Ë->Option ME)(T:RC->Ë->Option MT)(elt:Ë)(gens:List Š)(scope:ã)(pos:Ċ):Option CompR:=match gens with
 | [⟨tg,it,ifs,ia⟩]=>match Γ.cmp.lookup (pos.line,pos.col) with
  | some N'=>if ia=0 then Vk Γ E T elt tg it ifs scope N' else Á
  | none=>Á
 | _=>Á
section
variable{Γ:RC}{cl:Cl}{k:Nat}{X:Cx}{E:RC->Bool->Ë->Option ME}{T:RC->Ë->Option MT}{elt:Ë}{gens:List Š}{scope:ã}{pos:Ċ}{r:CompR}
theorem Fits.inner(F:Fits Γ cl k X){N':List Ç}(hN:N'.Nodup)(hk:scope.kind=.function)(cs:List (Ç×È))(C:È)(s₀:Å)(H₀:Hp)(ex:List È):Fits (Γ.inner scope N') cl k (w9 X scope cs C N' s₀ H₀ ex) where
 sc:=by
  show relabel scope X.env=lR Γ.sc scope
  rw[<-F.sc];rfl
 N:=rfl
 nd:=hN
 fn:=λh=>by cases h
 kind:=hk
 calm:=F.calm
 pass:=ye
 room:=F.room
 base:=⟨F.base.fns,F.base.con,F.base.tab,F.base.bin,F.base.pw,F.base.cls,F.base.mts,F.base.mks,F.base.way⟩
def Vy(hT:∀e m,t e=À m->ST X cl e m)(h:tf t ifs=À m):lQ X cl ifs m:=by
 unfold tf at h;split at h
 .cases h;exact U4
 .exact UU (hT _ _ h)
 .cases h
structure CompG(X:Cx)(cl:Cl)(elt:Ë)(gens:List Š)(scope:ã)(r:CompR):Prop where
 ex:∃tg it ifs N',gens=[⟨tg,it,ifs,0⟩]/\uV X.env.scope X.N scope N' r.nl r.ks=Ã/\sv it=Ã/\SI X cl tg it r.mi/\(∀cs C s₀ H₀ ex,SG (w9 X scope cs C N' s₀ H₀ ex) cl tg r.g)/\(∀cs C s₀ H₀ ex,lQ (w9 X scope cs C N' s₀ H₀ ex) cl ifs r.t)/\∀cs C s₀ H₀ ex,SE (w9 X scope cs C N' s₀ H₀ ex) cl elt r.m
def Zu(F:Fits Γ cl k X)(hE:∀Γ X,Fits Γ cl k X->∀mu e m,E Γ mu e=À m->SE X cl e m)(hT:∀Γ X,Fits Γ cl k X->∀e m,T Γ e=À m->ST X cl e m)(h:sd Γ E T elt gens scope pos=À r):CompG X cl elt gens scope r:=by
 unfold sd at h;split at h
 .rename_i tg it ifs ia
  split at h
  .rename_i N' _
   split at h
   .rename_i z
    subst z;unfold Vk at h;split at h
    .rename_i q
     rw[zq] at q;rw[zu] at h;obtain⟨ks,e1,h⟩:=h;split at h
     .rename_i ok
      rw[zu] at h;obtain⟨mi,e2,h⟩:=h;rw[zu] at h;obtain⟨g,e3,h⟩:=h;rw[zu] at h;obtain⟨t,e4,h⟩:=h;rw[zg] at h;obtain⟨m,e5,rfl⟩:=h;have Fi:=λcs C s₀ H₀ ex=>F.inner (scope:=scope) (Xb q.2) (bE ok).kind cs C s₀ H₀ ex
      exact⟨tg,it,ifs,N',rfl,by rw[F.sc,F.N];exact ok,q.1,tS F (hE _ _ F Â) e2,λcs C s₀ H₀ ex=>sF (Fi cs C s₀ H₀ ex) e3,λcs C s₀ H₀ ex=>Vy (hT _ _ (Fi cs C s₀ H₀ ex)) e4,λcs C s₀ H₀ ex=>hE _ _ (Fi cs C s₀ H₀ ex) _ _ _ e5⟩
     .cases h
    .cases h
   .cases h
  .cases h
 .cases h
end
noncomputable def tabOf(Γ:RC):Ũ->Ë->Option (Bool×List (Ç×W))
 | .In,.Name x _=>if xp Γ.sc x=Ã then (Γ.tab.lookup x).map λl=>(Â,l) else Á
 | .NotIn,.Name x _=>if xp Γ.sc x=Ã then (Γ.tab.lookup x).map λl=>(Ã,l) else Á
 | _,_=>Á
noncomputable def JW(Γ:RC)(E:Ë->Option ME)(a:Ë)(op:Ũ)(b:Ë):Option ME:=match tabOf Γ op b with
 | some p=>(E a).map (vt (tabIn p.1 p.2))
 | none=>if à op b=Ã then Á else (XE op).bind λf=>(E a).bind λma=>(E b).map λmb=>zi f ma mb
noncomputable def Jx(E:Ë->Option ME)(a:Ë)(op AA:Ũ)(b c:Ë):Option ME:=
 if Ř [op,AA] [b,c]=Ã then Á else (XE op).bind λf=>(XE AA).bind λg=>(E a).bind λma=>(E b).bind λmb=>(E c).map λmc=>ug f g ma mb mc
noncomputable def J1(Γ:RC)(E:Ë->Option ME)(a:Ë)(ops:List Ũ)(bs:List Ë):Option ME:=match ops,bs with
 | [op],[b]=>JW Γ E a op b
 | [op,AA],[b,c]=>Jx E a op AA b c
 | _,_=>Á
noncomputable def Jg(E:Ë->Option ME):Option Ë->Option (Option ME)
 | none=>À Á
 | some e=>(E e).map À
noncomputable def ZJ(E:Ë->Option ME)(ma:ME)(lo hi st:Option Ë):Option ME:=match st with
 | none=>(Jg E lo).bind λml=>(Jg E hi).map λmh=>u5 ma ml mh
 | _=>Á
noncomputable def oY(Γ:RC)(E:Ë->Option ME)(a b:Ë):Option ME:=match a with
 | .Name x _=>if (xp Γ.sc x&&cK b)=Ã then (match Γ.tab.lookup x with
  | some l=>(E b).map (vt (bi l))
  | none=>Á) else Á
 | _=>Á
noncomputable def XD(Γ:RC):Ë->Bool
 | .Name x _=>Γ.dic.any (· == x)
 | .Attribute _ f _=>Γ.dic.any (· == f)
 | _=>Â
noncomputable def JZ(Γ:RC)(mu:Bool)(p:Ċ):Bool:=mu||Γ.mka.any (· == (p.line,p.col))
noncomputable def Wt(Γ:RC)(E:Ë->Option ME)(a b:Ë):Option ME:=match oY Γ E a b with
 | some m=>À m
 | none=>(E a).bind λma=>match b with
  | .Slice lo hi st _=>ZJ E ma lo hi st
  | b=>(E b).map (zi (match XD Γ a with
   | true=>yi
   | false=>zC) ma)
noncomputable def ou(op:BoolOp)(E:Ë->Option ME):List Ë->Option ME
 | []=>Á
 | [a]=>E a
 | a::r=>(E a).bind λma=>(ou op E r).map λmb=>match op with
  | .And=>b9 ma mb
  | .Or=>XJ ma mb
noncomputable def oq(op:BoolOp)(T:Ë->Option MT):List Ë->Option MT
 | []=>Á
 | [a]=>T a
 | a::r=>(T a).bind λma=>(oq op T r).map λmb=>match op with
  | .And=>eT ma mb
  | .Or=>ub ma mb
noncomputable def Jh(E:Ë->Option ME)(mu:Bool)(ks:List (Option Ë))(vs:List Ë):Option ME:=match ks,vs with
 | [],[]=>À (eC (.fdc []))
 | _,_=>Á
noncomputable def YR(Γ:RC)(E:Ë->Option ME)(x:Ç)(a:Ë)(as:List Ë):Option ME:=
 if (xp Γ.sc x&&cK a)=Ã then (match Γ.way.lookup x,as with
  | some ws,_::_=>(E a).bind λma=>(cq E as).map (Jr ws ma)
  | _,_=>Á) else Á
noncomputable def nI(mu:Bool)(r:CompR):ME:=match mu with
 | true=>ue r.mi r.nl r.ks r.g r.t r.m
 | false=>j1 r.mi r.nl r.ks r.g r.t r.m
noncomputable def JB(E:RC->Bool->Ë->Option ME)(T:RC->Ë->Option MT)(Γ:RC)(mu:Bool):Ë->Option ME
 | .Name x _=>JA Γ x
 | .Constant c _ _=>sV c
 | .UnaryOp .Not a _=>(E Γ Â a).map Yb
 | .UnaryOp .USub a _=>(E Γ Â a).map (vt lj)
 | .BinOp a op b _=>(Gd mu op).bind λf=>(E Γ Â a).bind λma=>(E Γ Â b).map (zi f ma)
 | .Compare a ops bs _=>J1 Γ (E Γ Â) a ops bs
 | .BoolOp op vs _=>ou op (E Γ Â) vs
 | .IfExp t a b _=>(T Γ t).bind λmt=>(E Γ Â a).bind λma=>(E Γ Â b).map (KS mt ma)
 | .Tuple es _ _=>(cq (E Γ Â) es).map (zh zt)
 | .List es p=>match JZ Γ mu p with
  | true=>(cq (E Γ Ã) es).map (zh xE)
  | false=>(cq (E Γ Â) es).map (zh vS)
 | .Dict ks vs p=>Jh (E Γ Â) (JZ Γ mu p) ks vs
 | .Subscript a b _=>Wt Γ (E Γ Â) a b
 | .Attribute o f _=>if sW o=Ã then (E Γ Â o).map (kM Γ.fld f) else Á
 | .Call (.Subscript (.Name x _) a _) as [] _=>YR Γ (E Γ Â) x a as
 | .Call (.Name x _) as [] p=>Zg Γ (E Γ Â) (JZ Γ mu p) x as
 | .Call (.Attribute o nm apos) as [] pos=>Jq Γ (E Γ Â) (E Γ Ã) o nm apos as pos
 | .ListComp elt gens scope pos=>(sd Γ E T elt gens scope pos).map (nI (JZ Γ mu pos))
 | _=>Á
noncomputable def stepT(E:RC->Bool->Ë->Option ME)(T:RC->Ë->Option MT)(Γ:RC):Ë->Option MT
 | .BoolOp op vs _=>oq op (T Γ) vs
 | .UnaryOp .Not a _=>(T Γ a).map yA
 | .Compare a ops bs _=>(J1 Γ (E Γ Â) a ops bs).map kb
 | e=>if plainT e=Ã then (E Γ Â e).map kb else Á
noncomputable def pW:Nat->(RC->Bool->Ë->Option ME)×(RC->Ë->Option MT)
 | 0=>(λ_ _ _=>Á,λ_ _=>Á)
 | n+1=>(JB (pW n).1 (pW n).2,stepT (pW n).1 (pW n).2)
section
variable{Γ:RC}{cl:Cl}{k:Nat}{X:Cx}{m:ME}{pos p:Ċ}{E:Ë->Option ME}{T:Ë->Option MT}{a b:Ë}{mu:Bool}
def W8(F:Fits Γ cl k X)(hE:∀e m,E e=À m->SE X cl e m)(h:JW Γ E a op b=À m):SE X cl (.Compare a [op] [b] pos) m/\ST X cl (.Compare a [op] [b] pos) (kb m):=by
 unfold JW at h;split at h
 .rename_i q e
  rw[zg] at h;obtain⟨ma,e1,rfl⟩:=h;unfold tabOf at e;split at e
  .split at e
   .rename_i hg
    rw[zg] at e;obtain⟨l,e2,rfl⟩:=e;exact⟨Lf hg F.room.units (F.base.tab.at e2) (hE _ _ e1) F.sc,Im hg F.room.units (F.base.tab.at e2) (hE _ _ e1) F.sc⟩
   .cases e
  .split at e
   .rename_i hg
    rw[zg] at e;obtain⟨l,e2,rfl⟩:=e;exact⟨IP hg F.room.units (F.base.tab.at e2) (hE _ _ e1) F.sc,HY hg F.room.units (F.base.tab.at e2) (hE _ _ e1) F.sc⟩
   .cases e
  .cases e
 .split at h
  .cases h
  .rename_i hm
   rw[Bool.not_eq_true] at hm;rw[zu] at h;obtain⟨f,e0,h⟩:=h;rw[zu] at h;obtain⟨ma,e1,h⟩:=h;rw[zg] at h;obtain⟨mb,e2,rfl⟩:=h;exact⟨Fd (gN F.room.units e0) (hE _ _ e1) (hE _ _ e2) hm,F2 (gN F.room.units e0) (hE _ _ e1) (hE _ _ e2) hm⟩
def YQ{c:Ë}(F:Fits Γ cl k X)(hE:∀e m,E e=À m->SE X cl e m)(h:Jx E a op AA b c=À m):SE X cl (.Compare a [op,AA] [b,c] pos) m/\ST X cl (.Compare a [op,AA] [b,c] pos) (kb m):=by
 unfold Jx at h;split at h
 .cases h
 .rename_i hm
  rw[Bool.not_eq_true] at hm;rw[zu] at h;obtain⟨f,e0,h⟩:=h;rw[zu] at h;obtain⟨g,ON,h⟩:=h;rw[zu] at h;obtain⟨ma,e1,h⟩:=h;rw[zu] at h;obtain⟨mb,e2,h⟩:=h;rw[zg] at h;obtain⟨mc,e3,rfl⟩:=h;exact⟨Yv (gN F.room.units e0) (gN F.room.units ON) (hE _ _ e1) (hE _ _ e2) (hE _ _ e3) hm,WH (gN F.room.units e0) (gN F.room.units ON) (hE _ _ e1) (hE _ _ e2) (hE _ _ e3) hm⟩
def Ke{bs:List Ë}(F:Fits Γ cl k X)(hE:∀e m,E e=À m->SE X cl e m)(h:J1 Γ E a ops bs=À m):SE X cl (.Compare a ops bs pos) m/\ST X cl (.Compare a ops bs pos) (kb m):=by
 unfold J1 at h;split at h
 .exact W8 F hE h
 .exact YQ F hE h
 .cases h
def Z3(hE:∀e m,E e=À m->SE X cl e m)(h:Jg E o=À mo):SO X cl o mo:=by
 unfold Jg at h;split at h
 .cases h;exact UI
 .rw[zg] at h
  obtain⟨m,e1,rfl⟩:=h;exact Bc (hE _ _ e1)
def QN{ma:ME}{lo hi st:Option Ë}(hE:∀e m,E e=À m->SE X cl e m)(ha:SE X cl a ma)(h:ZJ E ma lo hi st=À m):SE X cl (.Subscript a (.Slice lo hi st p) pos) m:=by
 unfold ZJ at h;split at h
 .rw[zu] at h
  obtain⟨ml,e1,h⟩:=h;rw[zg] at h;obtain⟨mh,e2,rfl⟩:=h;exact Hi ha (Z3 hE e1) (Z3 hE e2)
 .cases h
def Jp(F:Fits Γ cl k X)(hE:∀e m,E e=À m->SE X cl e m)(h:oY Γ E a b=À m):SE X cl (.Subscript a b pos) m:=by
 unfold oY at h;split at h
 .split at h
  .rename_i q
   rw[zq] at q;split at h
   .rename_i l e
    rw[zg] at h;obtain⟨mb,e1,rfl⟩:=h;exact IL q.1 F.room.units (F.base.tab.at e) (hE _ _ e1) F.sc (su q.2)
   .cases h
  .cases h
 .cases h
def Ux(F:Fits Γ cl k X)(hE:∀e m,E e=À m->SE X cl e m)(h:Wt Γ E a b=À m):SE X cl (.Subscript a b pos) m:=by
 unfold Wt at h;split at h
 .rename_i m' e
  cases h;exact Jp F hE e
 .rw[zu] at h
  obtain⟨ma,e1,h⟩:=h;split at h
  .exact QN hE (hE _ _ e1) h
  .rename_i hb
   rw[zg] at h;obtain⟨mb,e2,h⟩:=h;have hn:cK b=Ã:=by cases b<;>first | rfl | exact absurd rfl (hb _ _ _ _)
   cases q:XD Γ a with
   | true=>rw[q] at h;subst h;exact CJ F.room.units (hE _ _ e1) (hE _ _ e2) (su hn)
   | false=>rw[q] at h;subst h;exact Gh (hE _ _ e1) (hE _ _ e2) (su hn)
theorem rF(hE:∀e m,E e=À m->SE X cl e m):∀{vs:List Ë} {m:ME},ou op E vs=À m->SE X cl (.BoolOp op vs pos) m
 | [],m,h=>by cases h
 | [a],m,h=>CM (hE _ _ h)
 | a::b::r,m,h=>by
  unfold ou at h;rw[zu] at h;obtain⟨ma,e1,h⟩:=h;rw[zg] at h;obtain⟨mb,e2,h⟩:=h;have ih:=rF hE e2;cases op with
  | And=>subst h;exact F9 (hE _ _ e1) ih
  | Or=>subst h;exact GS (hE _ _ e1) ih
theorem pM(hT:∀e m,T e=À m->ST X cl e m):∀{vs:List Ë} {m:MT},oq op T vs=À m->SW X cl (.BoolOp op vs pos) m
 | [],m,h=>by cases h
 | [a],m,h=>by
  cases op with
  | And=>exact BI (hT _ _ h)
  | Or=>exact Gc (hT _ _ h)
 | a::b::r,m,h=>by
  unfold oq at h;rw[zu] at h;obtain⟨ma,e1,h⟩:=h;rw[zg] at h;obtain⟨mb,e2,h⟩:=h;have ih:=pM hT e2;cases op with
  | And=>subst h;exact Ce (hT _ _ e1) ih
  | Or=>subst h;exact G2 (hT _ _ e1) ih
def WG(hE:∀e m,E e=À m->SE X cl e m)(h:Jh E mu ks vs=À m):SE X cl (.Dict ks vs pos) m:=by
 unfold Jh at h;split at h
 .cases h;exact Ua
 .cases h
def Bj(F:Fits Γ cl k X)(hE:∀e m,E e=À m->SE X cl e m)(h:YR Γ E x a as=À m):SE X cl (.Call (.Subscript (.Name x p) a p2) as [] pos) m:=by
 unfold YR at h;split at h
 .rename_i q
  rw[zq] at q;split at h
  .rename_i ws a1 r e0
   rw[zu] at h;obtain⟨ma,e1,h⟩:=h;rw[zg] at h;obtain⟨ms,e2,rfl⟩:=h;obtain⟨hn,ha⟩:=uO hE e2;rw[jw,zq] at hn;exact Fh F.room.units (F.base.way.at e0) F.room (hE _ _ e1) ha (su q.2) (kU q.1 F.sc).1 (kU q.1 F.sc).2.1 (kK hn.1) (qf hn.2)
  .cases h
 .cases h
end
section
variable{Γ:RC}{cl:Cl}{k:Nat}{X:Cx}{m:ME}{pos p:Ċ}{E:RC->Bool->Ë->Option ME}{T:RC->Ë->Option MT}{mu:Bool}
def pU(F:Fits Γ cl k X)(g:CompG X cl elt gens scope r):SE X cl (.ListComp elt gens scope pos) (nI mu r):=by
 obtain⟨tg,it,ifs,N',rfl,ok,hs,hi,hg,ht,he⟩:=g.ex;cases mu with
 | true=>exact WQ _ _ N' r.nl r.ks F.calm ok hi hg ht he rfl rfl (bt hs)
 | false=>exact U8 _ _ N' r.nl r.ks F.calm ok hi hg ht he rfl rfl (bt hs)
def Wi(hE:∀Γ X,Fits Γ cl k X->∀mu e m,E Γ mu e=À m->SE X cl e m)(hT:∀Γ X,Fits Γ cl k X->∀e m,T Γ e=À m->ST X cl e m)(F:Fits Γ cl k X)(h:JB E T Γ mu e=À m):SE X cl e m:=by
 have N6:=hE _ _ F;have hF:=N6 Â;have Ec:=hT _ _ F;unfold JB at h;cases e with
 | Name a0 a1=>
  exact Wx F h
 | Constant a0 a1 a2=>
  exact QV h
 | UnaryOp a0 a1 a2=>
  cases a0 with
  | Not=>
   dsimp only at h;rw[è] at h;obtain⟨ma,e1,rfl⟩:=h;exact Dq (hF _ _ e1)
  | USub=>
   dsimp only at h;rw[è] at h;obtain⟨ma,e1,rfl⟩:=h;exact Gi UB (hF _ _ e1)
  | _=>cases h
 | BinOp a0 a1 a2 a3=>
  dsimp only at h;rw[ï] at h;obtain⟨f,e0,h⟩:=h;rw[zu] at h;obtain⟨ma,e1,h⟩:=h;rw[zg] at h;obtain⟨mb,e2,rfl⟩:=h;exact GR (Dz e0) (hF _ _ e1) (hF _ _ e2)
 | Compare a0 a1 a2 a3=>
  exact(Ke F hF h).1
 | BoolOp a0 a1 a2=>
  exact rF hF h
 | IfExp a0 a1 a2 a3=>
  dsimp only at h;rw[ï] at h;obtain⟨mt,e0,h⟩:=h;rw[zu] at h;obtain⟨ma,e1,h⟩:=h;rw[zg] at h;obtain⟨mb,e2,rfl⟩:=h;exact GX (Ec _ _ e0) (hF _ _ e1) (hF _ _ e2)
 | Tuple a0 a1 a2=>
  dsimp only at h;rw[è] at h;obtain⟨ms,e1,rfl⟩:=h;exact Gb (uO hF e1).2
 | List a0 a1=>
  dsimp only at h;split at h
  .obtain⟨ms,e1,rfl⟩:=zg.mp h
   exact CF (uO (N6 Ã) e1).2
  .obtain⟨ms,e1,rfl⟩:=zg.mp h
   exact FP (uO hF e1).2
 | Dict a0 a1 a2=>
  exact WG hF h
 | Subscript a0 a1 a2=>
  exact Ux F hF h
 | Attribute a0 a1 a2=>
  dsimp only at h;split at h
  .rename_i q
   rw[zg] at h;obtain⟨mo,e1,rfl⟩:=h;exact DB F.base.cls (hF _ _ e1) (ar q)
  .cases h
 | Call a0 a1 a2 a3=>
  cases a0 with
  | Subscript b0 b1 b2=>
   cases b0 with
   | Name c0 c1=>
    cases a2 with
    | nil=>
     exact Bj F hF h
    | cons _ _=>cases h
   | _=>cases h
  | Name b0 b1=>
   cases a2 with
   | nil=>
    exact VQ F hF h
   | cons _ _=>cases h
  | Attribute b0 b1 b2=>
   cases a2 with
   | nil=>
    exact We F hF (N6 Ã) h
   | cons _ _=>cases h
  | _=>cases h
 | ListComp a0 a1 a2 a3=>
  dsimp only at h;rw[è] at h;obtain⟨r,e1,rfl⟩:=h;exact pU F (Zu F hE hT e1)
 | _=>cases h
def YI(hE:∀Γ X,Fits Γ cl k X->∀mu e m,E Γ mu e=À m->SE X cl e m)(hT:∀Γ X,Fits Γ cl k X->∀e m,T Γ e=À m->ST X cl e m)(F:Fits Γ cl k X)(h:stepT E T Γ e=À t):ST X cl e t:=by
 have hF:=hE _ _ F Â;have Ec:=hT _ _ F;unfold stepT at h;split at h
 .exact BR (pM Ec h)
 .rw[zg] at h
  obtain⟨ma,e1,rfl⟩:=h;exact CK (Ec _ _ e1)
 .rw[zg] at h
  obtain⟨ma,e1,rfl⟩:=h;exact(Ke F hF e1).2
 .split at h
  .rename_i q
   rw[zg] at h;obtain⟨ma,e1,rfl⟩:=h;exact Dh (hF _ _ e1) (WS q)
  .cases h
theorem g9:∀n,(∀Γ X,Fits Γ cl k X->∀mu e m,(pW n).1 Γ mu e=À m->SE X cl e m)/\(∀Γ X,Fits Γ cl k X->∀e m,(pW n).2 Γ e=À m->ST X cl e m)
 | 0=>⟨λ_ _ _ _ _ _ h=>(by cases h),λ_ _ _ _ _ h=>(by cases h)⟩
 | n+1=>⟨λΓ X F mu e m h=>Wi (g9 n).1 (g9 n).2 F h,λΓ X F e m h=>YI (g9 n).1 (g9 n).2 F h⟩
end
def DZ{i:Ë}(h:cK i=Ã):∀v,ĥ (.Subscript o i pos) env v=(do
   let ov <-ü [v] (Ú o env)
   let iv <-ü [v,ov] (Ú i env)
   Ī pos
   ü [v,ov,iv] (Ź ov iv v)
   release [v,ov,iv] []):=by
 intro v;cases i<;>first | (cases h;done) | kernel_rfl
theorem ZT{i:Ë}:ŀ [.Subscript o i p] e env=pure Á:=rfl
noncomputable def sy(Γ:RC)(x:Ç):Bool:=Γ.own.any (· == x)
noncomputable def sk(Γ:RC)(x:Ç)(px:Ċ)(scope:ã)(cpos:Ċ):Bool:=Γ.sc.names.lookup x==À .local&&px.line==cpos.line && !(scope.names.any λ(n,k)=>n==x&&(k==.local||k==.cell))
noncomputable def Ju(Γ:RC)(E:RC->Bool->Ë->Option ME)(T:RC->Ë->Option MT)(x:Ç):Ë->Option ME
 | .ListComp elt gens scope cpos=>(sd Γ E T elt gens scope cpos).map (nI (sy Γ x))
 | v=>if lK v=Ã then E Γ (sy Γ x) v else Á
noncomputable def WP(Γ:RC)(E:RC->Bool->Ë->Option ME)(T:RC->Ë->Option MT)(tg v:Ë):Option MS:=match tg with
 | .Name x _=>match oH x Γ.N with
  | some i=>if (setB Γ.sc Γ.N i x && !Γ.inC)=Ã then (Ju Γ E T x v).map λm=>zI m (zD i) else Á
  | none=>Á
 | .Subscript o i p=>if (lK v&&cK i)=Ã then (E Γ Â v).bind λm=>(E Γ Â o).bind λmo=>(E Γ Â i).map λmi=>zI m (bS mo mi) else Á
 | .Attribute o f _=>if lK v=Ã then (E Γ (sy Γ f) v).bind λm=>(E Γ Â o).map λmo=>zI m (uy Γ.fld f mo) else Á
 | .Tuple es n p=>if XR v=Ã then (E Γ Â v).bind λm=>(Vj Γ (.Tuple es n p)).map λg=>zI m g else Á
 | _=>Á
noncomputable def Wj(Γ:RC)(E:RC->Bool->Ë->Option ME)(tg:Ë)(op:ŉ)(v:Ë):Option MS:=match tg,op with
 | .Name x _,.Add=>match oH x Γ.N with
  | some i=>if (setB Γ.sc Γ.N i x && !Γ.inC)=Ã then (E Γ Â v).map (mS i fx) else Á
  | none=>Á
 | .Attribute o f _,.Add=>(E Γ Â o).bind λmo=>(E Γ Â v).map (nu Γ.fld f fx mo)
 | _,_=>Á
noncomputable def XN:MS:=λ_ _=>Á
def BE{X:Cx}{cl:Cl}{st:Ă}:SS X cl st XN:=by
 rintro ag s σ H D I ⟨μ,h,ρ,fl,h',R,er,e,k⟩;cases e
noncomputable def K9(E:RC->Bool->Ë->Option ME)(T:RC->Ë->Option MT)(B:RC->List Ă->Option MS)(Γ:RC):Ă->Option MS
 | .Return (À e) _=>(E Γ Â e).map ka
 | .Pass _=>À kz
 | .Raise ..=>À XN
 | .Expr e _=>if lK e=Ã then (E Γ Â e).map ky else Á
 | .If c a b _=>(T Γ c).bind λt=>(B Γ a).bind λma=>(B Γ b).map (kP t ma)
 | .While c body [] _=>(T Γ c).bind λt=>(B Γ body).map (uf t)
 | .For tg it body [] _=>if sv it=Ã then (rW Γ (E Γ Â) tg it).bind λmi=>(Vj Γ tg).bind λg=>(B Γ body).map (uk mi g) else Á
 | .Assign [tg] v _=>WP Γ E T tg v
 | .AugAssign tg op v _=>Wj Γ E tg op v
 | _=>Á
noncomputable def blk(S:Ă->Option MS):List Ă->Option MS
 | []=>À kz
 | [s]=>S s
 | s::r=>(S s).bind λa=>(blk S r).map (zk a)
noncomputable def cS:Nat->RC->Ă->Option MS
 | 0=>λ_ _=>Á
 | n+1=>K9 (pW 40).1 (pW 40).2 (λΓ=>blk (cS n Γ))
noncomputable def cB(Γ:RC)(bd:List Ă):Option MS:=blk (cS 12 Γ) bd
section
variable{Γ:RC}{cl:Cl}{k:Nat}{X:Cx}{pos p:Ċ}{E:RC->Bool->Ë->Option ME}{T:RC->Ë->Option MT}{B:RC->List Ă->Option MS}{ms:MS}
theorem K5{scope:ã}{cpos px:Ċ}{env:ŷ}:ì (.ListComp elt gens scope cpos) (À (.Name x px)) l env=pure (env.blockKind==.function&&env.kindOf x==À .local&&px.line==cpos.line && !(scope.names.any λ(n,k)=>n==x&&(k==.local||k==.cell))):=rfl
def Ym(hE:∀Γ X,Fits Γ cl k X->∀mu e m,E Γ mu e=À m->SE X cl e m)(hT:∀Γ X,Fits Γ cl k X->∀e m,T Γ e=À m->ST X cl e m)(F:Fits Γ cl k X)(hc:Γ.inC=Â){i:Nat}(hb:setB Γ.sc Γ.N i x=Ã)(h:Ju Γ E T x v=À m):SS X cl (.Assign [.Name x px] v pos) (zI m (zD i)):=by
 have AL:=F.N▸F.nd;unfold Ju at h;split at h
 .rename_i elt gens scope cpos
  rw[zg] at h;obtain⟨r,e1,rfl⟩:=h;have g:=Zu F hE hT e1;have hk:X.env.blockKind=.function:=by
   unfold Env.blockKind;rw[F.sc,F.kind];rfl
  have AX:=K5 (elt:=elt) (gens:=gens) (scope:=scope) (cpos:=cpos) (px:=px) (x:=x) (l:=pos.line) (env:=X.env);have he:(X.env.blockKind==.function&&X.env.kindOf x==À .local&&px.line==cpos.line && !(scope.names.any λ(n,k)=>n==x&&(k==.local||k==.cell)))=sk Γ x px scope cpos:=by
   rw[hk];unfold sk;rw[<-F.sc];rfl
  rw[he] at AX;cases q:sk Γ x px scope cpos with
  | false=>
   rw[q] at AX;exact s_ hb AL (pU F g) F.sc F.N (F.fn hc _) AX
  | true=>
   rw[q] at AX;obtain⟨tg,it,ifs,N',rfl,ok,hs,hi,hg,ht,OO⟩:=g.ex;have hx:X.env.kindOf x=À .local:=by
    unfold sk at q;erw[zq,j9] at q;have:=q.1.1;rw[<-F.sc] at this;exact this
   have Dx:X.N[i]?=À x:=by
    unfold setB at hb;erw[zq,j9] at hb;rw[F.N];exact hb.1
   unfold nI;cases sy Γ x with
   | true=>exact YY i _ _ N' r.nl r.ks F.nd F.calm ok hi hg ht OO rfl rfl (bt hs) Dx hx AX
   | false=>exact B0 i _ _ N' r.nl r.ks F.nd F.calm ok hi hg ht OO rfl rfl (bt hs) Dx hx AX
 .split at h
  .rename_i q
   exact s_ hb AL (hE _ _ F _ _ _ h) F.sc F.N (F.fn hc _) (iN q)
  .cases h
theorem VO:ì v (À (.Tuple es n p)) l env=pure Â:=by
 unfold ì;cases v<;>rfl
def Uo(hE:∀Γ X,Fits Γ cl k X->∀mu e m,E Γ mu e=À m->SE X cl e m)(hT:∀Γ X,Fits Γ cl k X->∀e m,T Γ e=À m->ST X cl e m)(F:Fits Γ cl k X)(h:WP Γ E T tg v=À ms):SS X cl (.Assign [tg] v pos) ms:=by
 unfold WP at h;split at h
 .split at h
  .split at h
   .rename_i q
    rw[zq,qI] at q;rw[zg] at h;obtain⟨m,e1,rfl⟩:=h;exact Ym hE hT F q.2 q.1 e1
   .cases h
  .cases h
 .split at h
  .rename_i q
   rw[zq] at q;rw[zu] at h;obtain⟨m,e1,h⟩:=h;rw[zu] at h;obtain⟨mo,e2,h⟩:=h;rw[zg] at h;obtain⟨mi,e3,rfl⟩:=h;exact J6 (hE _ _ F _ _ _ e1) (DX F.room.units (hE _ _ F _ _ _ e2) (hE _ _ F _ _ _ e3) (DZ q.2)) ((show Ŀ [_] v pos.line X.env=ì v (À _) pos.line X.env from rfl).trans (iN q.1)) ZT (by rw[uC rfl,ck];rfl)
  .cases h
 .split at h
  .rename_i q
   rw[zu] at h;obtain⟨m,e1,h⟩:=h;rw[zg] at h;obtain⟨mo,e2,rfl⟩:=h;exact Cm F.base.cls (hE _ _ F _ _ _ e1) (hE _ _ F _ _ _ e2) (iN q)
  .cases h
 .split at h
  .rename_i q
   rw[zu] at h;obtain⟨m,e1,h⟩:=h;rw[zg] at h;obtain⟨g,e2,rfl⟩:=h;exact J6 (hE _ _ F _ _ _ e1) (sF F e2) ((show Ŀ [_] v pos.line X.env=ì v (À _) pos.line X.env from rfl).trans VO) (Ji q) (by rw[uC rfl,ck];rfl)
  .cases h
 .cases h
def Ul(hE:∀Γ X,Fits Γ cl k X->∀mu e m,E Γ mu e=À m->SE X cl e m)(F:Fits Γ cl k X)(h:Wj Γ E tg op v=À ms):SS X cl (.AugAssign tg op v pos) ms:=by
 unfold Wj at h;split at h
 .split at h
  .split at h
   .rename_i q
    rw[zq,qI] at q;rw[zg] at h;obtain⟨m,e1,rfl⟩:=h;exact IS q.1 (F.N▸F.nd) U1 (hE _ _ F _ _ _ e1) F.sc F.N (F.fn q.2 _)
   .cases h
  .cases h
 .rw[zu] at h
  obtain⟨mo,e1,h⟩:=h;rw[zg] at h;obtain⟨m,e2,rfl⟩:=h;exact Qf F.base.cls (hE _ _ F _ _ _ e2) (hE _ _ F _ _ _ e1)
 .cases h
def Y1(hE:∀Γ X,Fits Γ cl k X->∀mu e m,E Γ mu e=À m->SE X cl e m)(hT:∀Γ X,Fits Γ cl k X->∀e m,T Γ e=À m->ST X cl e m)(hB:∀Γ X,Fits Γ cl k X->∀b m,B Γ b=À m->SB X cl b m)(F:Fits Γ cl k X){st:Ă}(h:K9 E T B Γ st=À ms):SS X cl st ms:=by
 have hF:=hE _ _ F Â;have Ec:=hT _ _ F;have Nb:=hB _ _ F;unfold K9 at h;cases st with
 | Return a0 a1=>
  cases a0 with
  | none=>cases h
  | some b0=>
   dsimp only at h;rw[è] at h;obtain⟨m,e1,rfl⟩:=h;exact FS (hF _ _ e1)
 | Pass a0=>
  dsimp only at h;cases h;exact BJ
 | Raise a0 a1 a2=>
  dsimp only at h;cases h;exact BE
 | Expr a0 a1=>
  dsimp only at h;split at h
  .rename_i q
   rw[zg] at h;obtain⟨m,e1,rfl⟩:=h;exact Bi (hF _ _ e1) (iN q)
  .cases h
 | If a0 a1 a2 a3=>
  dsimp only at h;rw[ï] at h;obtain⟨t,e0,h⟩:=h;rw[zu] at h;obtain⟨ma,e1,h⟩:=h;rw[zg] at h;obtain⟨mb,e2,rfl⟩:=h;exact GN (Ec _ _ e0) (Nb _ _ e1) (Nb _ _ e2)
 | While a0 a1 a2 a3=>
  cases a2 with
  | cons _ _=>cases h
  | nil=>
   dsimp only at h;rw[ï] at h;obtain⟨t,e0,h⟩:=h;rw[zg] at h;obtain⟨mb,e2,rfl⟩:=h;exact Yi (Ec _ _ e0) (Nb _ _ e2) F.pass
 | For a0 a1 a2 a3 a4=>
  cases a3 with
  | cons _ _=>cases h
  | nil=>
   dsimp only at h;split at h
   .rename_i q
    rw[zu] at h;obtain⟨mi,e0,h⟩:=h;rw[zu] at h;obtain⟨g,e1,h⟩:=h;rw[zg] at h;obtain⟨mb,e2,rfl⟩:=h;exact CZ F.calm (tS F hF e0) (sF F e1) (Nb _ _ e2) (bt q) F.pass
   .cases h
 | Assign a0 a1 a2=>
  cases a0 with
  | nil=>cases h
  | cons b0 b1=>
   cases b1 with
   | cons _ _=>cases h
   | nil=>
    exact Uo hE hT F h
 | AugAssign a0 a1 a2 a3=>
  exact Ul hE F h
 | _=>cases h
theorem sM(hS:∀s m,S s=À m->SS X cl s m):∀{b:List Ă} {m:MS},blk S b=À m->SB X cl b m
 | [],m,h=>by cases h;exact Fe
 | [s],m,h=>DL (hS _ _ h)
 | s::s'::r,m,h=>by
  unfold blk at h;rw[zu] at h;obtain⟨ma,e1,h⟩:=h;rw[zg] at h;obtain⟨mb,e2,rfl⟩:=h;exact U0 (hS _ _ e1) (sM hS e2)
theorem XZ:∀(n:Nat) (Γ:RC) (X:Cx),Fits Γ cl k X->∀s m,cS n Γ s=À m->SS X cl s m
 | 0,_,_,_,_,_,h=>by cases h
 | n+1,Γ,X,F,s,m,h=>Y1 (g9 40).1 (g9 40).2 (λΓ X F b m h=>sM (XZ n Γ X F) h) F h
def GB(F:Fits Γ cl k X)(h:cB Γ bd=À ms):SB X cl bd ms:=sM (XZ 12 Γ X F) h
end
def D0{P:Í}{w:Ñ}{K:S5}{mg:Ç->Option Ä}{base:Ï}{cl:Cl}{x qual:Ç}{st:Ă}{f:È}{fd:ù}{ps:List Ç}{k np ns:Nat}{b:MS}(Γ:RC){bd:List Ă}(F:Fun K x qual st f fd)(Ag:kF st=Γ.sc)(N0:kX st=bd)(S:FnScope Γ.N ps Γ.sc)(AQ:ps.length=np)(Ah:Γ.N.length-np=ns)
  (hc:Γ.inC=Â) (B:BaseOk P w K mg base cl k Γ) (hb:cB Γ bd=À b):FnOk P w K mg base uE (k+1) f fd ps (xy K cl (gc (kg np ns b))):=
 B9 F Ag N0 S AQ Ah λxI A outer s H E hr=>GB (k:=k) ⟨rfl,rfl,S.nd,λ_ _=>rfl,S.kind,rfl,ye,hr,B⟩ hb
structure Def where
 x:Ç
 qual:Ç
 st:Ă
 ps:List Ç
 N:List Ç
 own:List Ç
 txt:List Ç
 cmp:List ((Nat×Nat)×List Ç)
 dic:List Ç
 mka:List (Nat×Nat)
noncomputable def uM(N ps:List Ç)(sc:ã):Bool:=sc.kind==.function && !sc.isCoroutine && !sc.isGenerator&&sU N&&N.take ps.length==ps&&ps.all (K4 sc)&&sc.names.all λy=>y.2 != .free
def Jj(h:uM N ps sc=Ã):FnScope N ps sc:=by
 unfold uM at h;erw[zq,qI,j9] at h;obtain⟨⟨⟨⟨⟨⟨h1,h2⟩,h3⟩,h4⟩,h5⟩,h6⟩,h7⟩:=h;exact⟨h1,h2,h3,Xb h4,h5,λx hx=>l5 (kW.mp h6 x hx),λy hy=>by simpa using kW.mp h7 y hy⟩
noncomputable def HB(x qual:Ç)(st:Ă)(ps:List Ç)(us:List Ä):Prop:=∀(kV doc pm:Ä) (an:Option È) (xI ct:Ä),bindArgs (í x qual (qB st) (kX st) (kF st) .none kV doc pm an xI ct) ⟨us,[]⟩=pure (ps.zip us)
noncomputable def gL(x qual:Ç)(st:Ă)(ps:List Ç):Prop:=∀us:List Ä,us.length=ps.length->HB x qual st ps us
section
variable{x qual:Ç}{st:Ă}{ps:List Ç}
def x9{us:List Ä}(e:us.length=n+1):∃a r,us=a::r/\r.length=n:=by
 cases us with
 | nil=>cases e
 | cons a r=>exact⟨a,r,rfl,Nat.succ.inj e⟩
def hb1(h:∀a,HB x qual st ps [a])(hl:↥(ps.length=1)):gL x qual st ps:=λus e=>by
 obtain⟨a,r,rfl,e1⟩:=x9 (e.trans hl);rw[jW e1];exact h a
def hb2(h:∀a b,HB x qual st ps [a,b])(hl:↥(ps.length=2)):gL x qual st ps:=λus e=>by
 obtain⟨a,r,rfl,e1⟩:=x9 (e.trans hl);obtain⟨b,r,rfl,e2⟩:=x9 e1;rw[jW e2];exact h a b
def hb3(h:∀a b c,HB x qual st ps [a,b,c])(hl:↥(ps.length=3)):gL x qual st ps:=λus e=>by
 obtain⟨a,r,rfl,e1⟩:=x9 (e.trans hl);obtain⟨b,r,rfl,e2⟩:=x9 e1;obtain⟨c,r,rfl,e3⟩:=x9 e2;rw[jW e3];exact h a b c
def hb4(h:∀a b c d,HB x qual st ps [a,b,c,d])(hl:↥(ps.length=4)):gL x qual st ps:=λus e=>by
 obtain⟨a,r,rfl,e1⟩:=x9 (e.trans hl);obtain⟨b,r,rfl,e2⟩:=x9 e1;obtain⟨c,r,rfl,e3⟩:=x9 e2;obtain⟨d,r,rfl,e4⟩:=x9 e3;rw[jW e4];exact h a b c d
def hb5(h:∀a b c d f,HB x qual st ps [a,b,c,d,f])(hl:↥(ps.length=5)):gL x qual st ps:=λus e=>by
 obtain⟨a,r,rfl,e1⟩:=x9 (e.trans hl);obtain⟨b,r,rfl,e2⟩:=x9 e1;obtain⟨c,r,rfl,e3⟩:=x9 e2;obtain⟨d,r,rfl,e4⟩:=x9 e3;obtain⟨f,r,rfl,e5⟩:=x9 e4;rw[jW e5];exact h a b c d f
end
structure DTxt(K:S5)(d:Def)(a:È)(fd:ù):Prop where
 F:Fun K d.x d.qual d.st a fd
 B:Binds K fd d.ps []
noncomputable def mn(K:S5)(mg:Ç->Option Ä)(d:Def):Prop:=∃a fd,DTxt K d a fd/\mg d.x=À (.ref a)
noncomputable def uP(K:S5)(cl:Cl)(c:Nat)(d:Def):Prop:=∃a fd,DTxt K d a fd/\Meth K (cl.c c) d.x a/\Cls K (cl.c c)
noncomputable def oR(K:S5)(mg:Ç->Option Ä)(cl:Cl)(x:Ç)(c:Nat)(d:Def):Prop:=∃a fd,DTxt K d a fd/\mg x=À (.ref (cl.c c))/\Mk K (cl.c c) a
def KG{K:S5}{d:Def}(hb:gL d.x d.qual d.st d.ps){f:È}{kV:Ä}
  (l:K.lookup f=À ⟨oc,od,.func (í d.x d.qual (qB d.st) (kX d.st) (kF d.st) .none kV doc pm an xI ct),A2⟩) (c:Č K xI d.qual=Ã) (k:Û K (.ref f)=Ã):∃fd,DTxt K d f fd:=by
 have F:=Dy (st:=d.st) l c k;exact⟨_,F,F.binds λkV doc pm an xI ct us hl=>hb us hl kV doc pm an xI ct⟩
noncomputable def WI(P:Def->Prop):List Def->Prop
 | []=>True
 | d::r=>P d/\WI P r
noncomputable def RC.at(Γ:RC)(d:Def):RC:=⟨kF d.st,d.N,Â,Γ.fns,Γ.con,Γ.tab,Γ.bin,d.own,d.txt,d.cmp,d.dic,Γ.fld,Γ.mt,Γ.mks,d.mka,Γ.way⟩
section
variable{P:Í}{w:Ñ}{K:S5}{mg:Ç->Option Ä}{base:Ï}{cl:Cl}{n np ns:Nat}{Γ:RC}{d:Def}{b:MS}
def mj(T:DTxt K d a fd)(B:BaseOk P w K mg base cl n Γ)(Ag:uM d.N d.ps (kF d.st)=Ã)(AQ:d.ps.length=np)(Ah:d.N.length-np=ns)(hb:cB (Γ.at d) (kX d.st)=À b):FnOk P w K mg base uE (n+1) a fd d.ps (xy K cl (gc (kg np ns b))):=
 D0 (Γ.at d) T.F rfl rfl (Jj Ag) AQ Ah rfl ⟨B.fns,B.con,B.tab,B.bin,B.pw,B.cls,B.mts,B.mks,B.way⟩ hb
def kx(T:mn K mg d)(B:BaseOk P w K mg base cl n Γ)(Ag:uM d.N d.ps (kF d.st)=Ã:=by kernel_rfl)(AQ:↥(d.ps.length=np))(Ah:↥(d.N.length-np=ns))(hb:cB (Γ.at d) (kX d.st)=À b:=by kernel_rfl):FnAt P w K mg base cl (n+1) d.x (gc (kg np ns b)):=by
 obtain⟨a,fd,T,m⟩:=T;exact⟨a,fd,d.ps,mj T B Ag AQ Ah hb,m,T.F.kp,T.B⟩
def pC:FnOk P w K mg base uE 0 a fd ps (xy K cl λ_ _=>Á):=by
 have no:∀vs H Q E,¬xy K cl (λ_ _=>Á) vs H Q E:=λvs H Q E ⟨μ,h,ws,w,h2,R,rs,e,k⟩=>by cases e
 exact⟨λvs H Q E h=>absurd h (no vs H Q E),λA outer s H args us vs Q E _ _ _ _ h=>absurd h (no vs H Q E)⟩
def kf(T:mn K mg d):FnAt P w K mg base cl 0 d.x λ_ _=>Á:=by
 obtain⟨a,fd,T,m⟩:=T;exact⟨a,fd,d.ps,pC,m,T.F.kp,T.B⟩
def uZ{c:Nat}(T:uP K cl c d)(B:BaseOk P w K mg base cl n Γ)(Ag:uM d.N d.ps (kF d.st)=Ã:=by kernel_rfl)(AQ:↥(d.ps.length=np))(Ah:↥(d.N.length-np=ns))(hb:cB (Γ.at d) (kX d.st)=À b:=by kernel_rfl):oE P w K mg base cl (n+1) c d.x (gc (kg np ns b)):=by
 obtain⟨a,fd,T,m,kc⟩:=T;exact⟨a,fd,d.ps,kc,m,mj T B Ag AQ Ah hb,T.B⟩
def wq{c:Nat}(T:uP K cl c d):oE P w K mg base cl 0 c d.x λ_ _=>Á:=by
 obtain⟨a,fd,T,m,kc⟩:=T;exact⟨a,fd,d.ps,kc,m,pC,T.B⟩
def XH{c:Nat}(T:oR K mg cl x c d)(B:BaseOk P w K mg base cl n Γ)(Ag:uM d.N d.ps (kF d.st)=Ã:=by kernel_rfl)(AQ:↥(d.ps.length=np))(Ah:↥(d.N.length-np=ns))(hb:cB (Γ.at d) (kX d.st)=À b:=by kernel_rfl):tH P w K mg base cl (n+1) x c (gc (kg np ns b)):=by
 obtain⟨a,fd,T,m,mk⟩:=T;exact⟨a,fd,d.ps,m,mk,mj T B Ag AQ Ah hb,T.B⟩
end
section
variable{P:Í}{w:Ñ}{K:S5}{mg:Ç->Option Ä}{base:Ï}{cl:Cl}{d:Def}
def rE{c:Nat}(T:oR K mg cl x c d):tH P w K mg base cl 0 x c λ_ _=>Á:=by
 obtain⟨a,fd,T,m,mk⟩:=T;exact⟨a,fd,d.ps,m,mk,pC,T.B⟩
end
noncomputable def AllM(P:Nat->Ç->(List W->M W)->Prop):oF->Prop
 | []=>True
 | ((c,m),g)::r=>P c m g/\AllM P r
theorem AllM.at{c:Nat}:∀{l:oF},AllM P l->l.lookup (c,m)=À g->P c m g
 | [],_,e=>by cases e
 | ((c',m'),g')::r,h,e=>by
  rw[kO] at e;cases q:((c,m)==(c',m')) with
  | true=>rw[q] at e;cases e;have:=eq_of_beq q;cases this;exact h.1
  | false=>rw[q] at e;exact AllM.at h.2 e
noncomputable def Hu(g:List W->M W)(K:S5):Sp:=λvs H Q E=>∀cl,xy K cl g vs H Q E
def C8{f:List W->M W}(hf:∀ns:List Int,ns.length<=63->∃h',f [.fls (ns.map W.int)] []=À (.bl Ã,h'))(K:S5)(H:Hp)(a:È)(ns:List Int)(hl:ns.length<=63)(hS:SqL K H a (ns.map V.int)):Hu f K [.ref a] H (λv _=>v=.bl Ã) λ_ _ _=>False:=by
 intro cl;obtain⟨h',e⟩:=hf ns hl;refine⟨[],[],[.fls (ns.map W.int)],.bl Ã,h',⟨rfl,vQ,λn a o e=>by simp at e⟩,.cons (.fls ?_ (RWs.ints ns)) .nil,e,λgy H' v E R r=>r.bl_of⟩;rcases hS with hS | hS
 .exact .inl ⟨hS,by simp⟩
 .exact .inr hS
end ML
namespace ML
open PySem PySem.Spec PyProof.Rows PySem.W L2
noncomputable def Kw(h:Ï):S5:=(ı h.objs.size).filterMap λa=>(h.get? a).map λo=>(a,o)
theorem Kw.lookupAux(h:Ï)(a:È):∀l:List Nat,(l.filterMap λa=>(h.get? a).map λo=>(a,o)).lookup a=if a∈l then h.get? a else Á
 | []=>by simp
 | b::l=>by
  cases q:h.get? b with
  | none=>
   rw[List.filterMap_cons_none (by rw[q];rfl),Kw.lookupAux h a l];by_cases e:a=b
   .subst e;simp[q]
   .simp[e]
  | some o=>
   rw[List.filterMap_cons_some (b:=(b,o)) (by rw[q];rfl),kO];by_cases e:a=b
   .subst e;simp[q]
   .have:(a==b)=Â:=by simp[e]
    rw[this];simp only[];rw[Kw.lookupAux h a l];simp[e]
theorem Kw.lookup{h:Ï}:(Kw h).lookup a=h.get? a:=by
 unfold Kw;rw[Kw.lookupAux];split
 .rfl
 .rename_i n
  cases q:h.get? a with
  | none=>rfl
  | some o=>exact absurd (yL.mpr (zB q)) n
def Kw.in(h:Ï):(Kw h).In h:=λa o e=>Kw.lookup▸e
def W5{l:PySem.W.OpenLaw}{q:Í}{d:DefRec}{sp:Ñ->S5->Sp}
  (hn:l.most=À n) (Eu:n<=Î) (Md:d.params.defaults=[]) (hr:Room k ŋ)
  (F:∀(w:Ñ) (s₀:Å) (mg mb:Ç->Option Ä) (fa:È) (h:Ï),ţ q loose [] XP w s₀ mg mb h->YP w h->mg d.name=À (.ref fa)->
   ∃fd:ù,(∀(s:Å) (u:Ä),BindsTo s fd ⟨[u],[]⟩ [(x,u)]) /\
    ∀base:Ï,(Kw h).In base->base.Ns Ø mg->FnOk l.prog w (Kw h) mg base CX k fa fd [x] (sp w (Kw h)))
  (Eg:∀(w:Ñ) (K:S5) (H:Hp) (a:È) (ns:List Int),ns.length<=n->Only H->SqL K H a (ns.map V.int)->sp w K [.ref a] H (λv _=>v=.bl Ã) λ_ _ _=>False)
  (Nz:∀(H:Hp) (s:Å) (e:Ä) (s':Å),CX [] H s (λ_ _ _=>False) e s'->False) :
  PySem.W.WalkO q loose XP YP l.row.toRowW d [] (λf vs=>PySem.call f vs):=by
 refine Att.attach_call hn Md λw s₀ hG mg mb fa o pm cd doc a vs ns G Y ho hd A6 Me IH Ei hX hg=>?_
 obtain⟨fd,hb,hF⟩:=F w s₀ mg mb fa _ G Y Me;exact Yp (Kw.in _) G.T.g G.T.b G.T.builtins G.T.nolimit hg IH Ei (zK hX Eu) hr hF hb (λH hO hS=>Eg w _ H a ns hX hO hS) λH e s'=>Nz H hG e s'
def Zz{q:Í}(G:ţ q loose R XP w s₀ mg mb h){d:Def}
  (hd:(defOf q d.x).map (λp=>(p.1.name,p.1.params,p.1.body,p.1.scope,p.2))=À (d.x,qB d.st,kX d.st,kF d.st,[])) (OP:d.qual=d.x) (hb:gL d.x d.qual d.st d.ps) (hf:(qB d.st).defaults=[]):mn (Kw h) mg d:=by
 obtain⟨⟨⟨n,p,b,sc,ps⟩,kw⟩,hq,e⟩:=zg.mp hd;cases e;obtain⟨a,o,pm,cd,doc,dV,kV,m,ho,RB,hc,D⟩:=G.fn hq;obtain rfl:dV=.none:=Dflts.none D hf;obtain rfl:kV=.none:=Dflts.noKw D;have lk:(Kw h).lookup a=À ⟨o.cls,o.dict,.func (í d.x d.x (qB d.st) (kX d.st) (kF d.st) .none .none doc pm Á cd .none),o.slots⟩:=by
  rw[Kw.lookup,ho];cases o;cases RB;rfl
 have c:Č (Kw h) cd d.x=Ã:=by
  obtain⟨c,o',vs,t,rfl,e1,e2,e3⟩:=hc;unfold Č;erw[Kw.lookup,e1];cases o';cases e2;simp only[];obtain⟨vs⟩:=vs;match vs,e3 with
  | [],e3=>cases e3
  | [_],e3=>cases e3
  | _::v::r,e3=>
   have e4:À v=À (Į d.x t):=by simpa using e3
   cases e4;simp
 have k:Û (Kw h) (.ref a)=Ã:=by
  unfold Û;erw[lk]
 rw[<-OP] at c;have LS:(Kw h).lookup a=À ⟨o.cls,o.dict,.func (í d.x d.qual (qB d.st) (kX d.st) (kF d.st) .none .none doc pm Á cd .none),o.slots⟩:=by rw[lk,OP]
 obtain⟨fd,D⟩:=KG hb LS c k;exact⟨a,fd,D,m⟩
noncomputable def zo:Nat->Cn->W
 | 0,_=>.non
 | n+1,c=>match c with
  | .int i=>.int i
  | .str x=>.str x
  | .tup l=>.tup (l.map (zo n))
noncomputable def toT(l:List (Ç×Cn)):List (Ç×W):=l.map λp=>(p.1,zo 9 p.2)
def YN{h:Ï}(e:rZ h v=À cb):∃a o n,v=.ref a/\h.get? a=À o/\(o.cls=.type "tuple" /\ o.dict=Á)/\o.data=.seq cb n:=by
 cases v with
 | ref a=>
  obtain⟨⟨c,di,d,sl⟩,e1,e2⟩:=zu.mp e;cases c with
  | type t=>
   have e3:(if t="tuple" then (match d with | .seq cb _=>if di.isNone then À cb else Á | _=>Á) else Á)=À cb:=e2;by_cases q:t="tuple"
   .rw[z9 q] at e3
    cases d with
    | seq its' n=>
     have e4:(if di.isNone then À its' else Á)=À cb:=e3;by_cases q2:di.isNone=Ã
     .rw[z9 q2] at e4
      cases e4;exact⟨a,_,n,rfl,e1,⟨by rw[q],qN.mp q2⟩,rfl⟩
     .rw[kI q2] at e4;cases e4
    | _=>cases e3
   .rw[kI q] at e3;cases e3
  | _=>cases e2
 | _=>cases e
def DG{K:S5}{p:Cn->Ä->Bool}{f:Cn->W}(hp:∀w v,p w v=Ã->KW K (f w) v)(l:List Cn):∀vs:List Ä,bg p l vs=Ã->KWs K (l.map f) vs:=by
 induction l with
 | nil=>intro vs h;cases vs with | nil=>exact .nil | cons _ _=>cases h
 | cons w l ih=>
  intro vs h;cases vs with
  | nil=>cases h
  | cons v vs=>have h2:=jh.mp h;exact .cons (hp _ _ h2.1) (ih vs h2.2)
def pP{h:Ï}{K:S5}(hK:∀b o,h.get? b=À o->K.lookup b=À o)(n:Nat):∀w v,gx h n w v=Ã->KW K (zo n w) v:=by
 induction n with
 | zero=>intro w v e;cases e
 | succ n ih=>
  intro w v e;cases w with
  | int i=>cases v with
   | int j t=>cases eq_of_beq (show(i==j)=Ã from e);exact .int
   | _=>cases e
  | str x=>cases v with
   | str j t=>cases eq_of_beq (show(x==j)=Ã from e);exact .str
   | _=>cases e
  | tup l=>
   have e1:((rZ h v).any λcb=>decide (cb.size<=Î)&&bg (gx h n) l cb.toList)=Ã:=e;cases z:rZ h v with
   | none=>rw[z] at e1;cases e1
   | some cb=>
    rw[z] at e1;obtain⟨a,o,m,rfl,e4,e5,e6⟩:=YN z;have e7:=jh.mp e1;exact .tup (hK _ _ e4) e5 e6 (qe e7.1) (DG ih _ _ e7.2)
def rn{h:Ï}(e:dictAt h v=À es):∃a n,v=.ref a/\h.get? a=À ⟨.type "dict",Á,.dict es n,#[]⟩/\(a==Ü)=Â:=by
 cases v with
 | ref a=>
  obtain⟨⟨c,di,d,sl⟩,e1,e2⟩:=zu.mp e;cases c with
  | type t=>
   have e3:(if t="dict" then (match d with | .dict es _=>if di.isNone&&sl.isEmpty&&a != Ü then À es else Á | _=>Á) else Á)=À es:=e2;by_cases q:t="dict"
   .rw[z9 q] at e3
    cases d with
    | dict AD n=>
     have e4:(if di.isNone&&sl.isEmpty&&a != Ü then À AD else Á)=À es:=e3;by_cases z:(di.isNone&&sl.isEmpty&&a != Ü)=Ã
     .rw[z9 z] at e4
      cases e4;have z1:=jh.mp z;have z2:=jh.mp z1.1;refine⟨a,n,rfl,?_,?_⟩
      .rw[e1,q,qN.mp z2.1,Array.isEmpty_iff.mp z2.2]
      .have:=z1.2;rw[bne,qI] at this;exact this
     .rw[kI z] at e4;cases e4
    | _=>cases e3
   .rw[kI q] at e3;cases e3
  | _=>cases e2
 | _=>cases e
def tab_of{h:Ï}{K:S5}(hK:∀b o,h.get? b=À o->K.lookup b=À o)(l:List (Ç×Cn)):∀es:List ø,bg (λp (e:ø)=>VI p.1 e.key&&gx h 9 p.2 e.val) l es=Ã->es.map (·.hash)=l.map (λp=>ċ P p.1)->TabRel K (toT l) es/\ħ P es:=by
 induction l with
 | nil=>intro es a b;cases es with | nil=>exact⟨.nil,trivial⟩ | cons _ _=>cases a
 | cons p l ih=>
  intro es a b;cases es with
  | nil=>cases a
  | cons e es=>
   have a1:=jh.mp a;have a2:=jh.mp a1.1;have b1:=List.cons.inj b;obtain⟨r,t⟩:=ih es a1.2 b1.2;obtain⟨eh,ek,ev⟩:=e;cases ek with
   | str y t'=>
    have q:=eq_of_beq (show(p.1==y)=Ã from a2.1);subst q;exact⟨.cons (hs:=0) (v:=.none) rfl (pP hK _ _ _ a2.2) r,⟨_,_,rfl,b1.1⟩,t⟩
   | _=>cases a2.1
def K1{h h₀:Ï}(G:h.Ns Ø mg)(k:∀b o,h₀.get? b=À o->h.get? b=À o)(hn:h₀.isNs Ø=Ã)(x:Ç):mg x=h₀.nsMap Ø x:=by
 obtain⟨o,es,ep,e1,e2,e3,e4⟩:=Heap.Ns.of_isNs hn;obtain⟨o',AD,MK,f1,f2,f3,f4⟩:=G;have:=k _ _ e1;rw[f1] at this;cases this;rw[e2] at f2;cases f2;rw[<-f4 x,<-e4 x]
theorem nM{α β:Type}{P:Ç->α->Prop}(f:β->α):∀{l:List (Ç×β)},(∀p∈l,P p.1 (f p.2))->AllOf P (l.map λp=>(p.1,f p.2))
 | [],_=>trivial
 | (x,g)::r,h=>⟨h (x,g) (kj ..),nM f λp m=>h p (zM _ m)⟩
theorem none_of:∀{l:List Ç},(∀x∈l,mg x=Á)->AllNone mg l
 | [],_=>trivial
 | x::r,h=>⟨h x (kj ..),none_of λp m=>h p (zM _ m)⟩
def FX{cons:List (Ç×Cn)}{tabs:List (Ç×List (Ç×Cn))}{bins:List Ç}{w:Ñ}{h:Ï}(Y:(GC cons tabs bins).says w h)(G:h.Ns Ø mg) :
  AllOf (Glob (Kw h) mg) (toT cons)/\AllOf (TabOk (Kw h) w.params mg) (tabs.map λp=>(p.1,toT p.2))/\AllNone mg bins:=by
 obtain⟨h₀,k,b,t⟩:=Y;have hK:∀b o,h₀.get? b=À o->(Kw h).lookup b=À o:=λb o e=>by rw[Kw.lookup];exact k _ _ e
 unfold oP at b;erw[zq,kW] at b;obtain⟨⟨b1,b2⟩,b3⟩:=b;have M:=K1 G k b1;refine⟨nM (zo 9) λp m=>?_,nM toT λp m=>?_,none_of λx m=>?_⟩
 .have e:=b2 p m
  cases q:h₀.nsMap Ø p.1 with
  | none=>rw[q] at e;cases e
  | some v=>rw[q] at e;exact(pP hK _ _ _ e).glob ((M _).trans q)
 .have e:Wh h₀ p.2 (h₀.nsMap Ø p.1)=(Ã,p.2.map λk=>ċ w.params k.1):=by
   unfold Zw nE at t;exact(List.map_inj_left.mp t) p m
  unfold Wh at e;cases q:h₀.nsMap Ø p.1 with
  | none=>rw[q] at e;cases e
  | some v=>
   rw[q] at e;cases z:dictAt h₀ v with
   | none=>rw[qb,z] at e;cases e
   | some es=>
    rw[qb,z] at e;have e2:=yD e;obtain⟨a,n,rfl,g,f⟩:=rn z;obtain⟨r,kl⟩:=tab_of hK (P:=w.params) p.2 es.toList e2.1 e2.2;exact⟨a,es,n,(M _).trans q,hK _ _ g,kl,f,r⟩
 .have:=b3 x m
  rw[M];exact qN.mp this
def G0{h:Ï}(n:h.Ns N mN)(x:Ç):nsIn (Kw h) N x=À (mN x):=by
 obtain⟨⟨oc,od,OG,A2⟩,es,ep,ho,hd,hk,hf⟩:=n;cases hd;unfold nsIn;rw[Kw.lookup,ho];simp only[];rw[<-hf x];unfold nsFind Ţ;rw[<-qZ];cases q:es.toList.find? (λe=>e.key.isStr x) with
 | some e=>rfl
 | none=>
  erw[Option.map_none];rw[kI];intro z;obtain⟨e,m,r⟩:=qu.mp z;obtain⟨y,t,ek⟩:=hk e (xG.mp m);unfold DictEntry.refKey at r;rw[ek] at r;cases r
section
variable{h:Ï}{C N:È}{mN:Ç->Option Ä}
def mT(c:ClsAt h C N mN):∃nm q bs sn sub col dd k0 k1 k2 k3 k5,(Kw h).lookup C=À (excClassObj nm q C N bs [.type "object"] Ã sn sub Â col dd k0 k1 k2 k3 k5 "object.__new__"):=by
 obtain⟨nm,q,bs,sn,sub,col,dd,k0,k1,k2,k3,k5,e⟩:=c.obj;exact⟨nm,q,bs,sn,sub,col,dd,k0,k1,k2,k3,k5,by rw[Kw.lookup,e]⟩
theorem gT(c:ClsAt h C N mN)(x:Ç):findIn (Kw h) (.ref C) x=match mN x with
  | some v=>À (À v)
  | none=>À (Ę "object" x):=by
 obtain⟨nm,q,bs,sn,sub,col,dd,k0,k1,k2,k3,k5,e⟩:=mT c;unfold findIn;dsimp only;rw[e];erw[alongIn,ownIn,e,G0 c.ns x];cases mN x with
 | some v=>rfl
 | none=>
  simp only[];cases Ę "object" x<;>rfl
def DD(c:ClsAt h C N mN)(q1:mN "__setattr__" = Á)(q2:mN "__getattribute__" = Á)(q3:mN "__getattr__" = Á):Cls (Kw h) C:=by
 obtain⟨nm,q,bs,sn,sub,col,dd,k0,k1,k2,k3,k5,e⟩:=mT c;refine⟨?_,?_,?_,?_⟩
 .unfold plainGet
  rw[gT c,gT c,q2,q3];decide +kernel
 .unfold hasDictIn clsIn
  rw[e];rfl
 .unfold plainOver clsIn
  rw[e];rfl
 .rw[gT c,q1]
  decide +kernel
def V0(c:ClsAt h C N mN){f:Ç}(q:mN f=Á)(hf:Ę "object" f=Á):NoAttr (Kw h) C f:=by
 unfold NoAttr;rw[gT c,q,hf]
def Kh{f:È}{o:î}(ho:h.get? f=À o)(hd:o.data=.func fd):keepIn (Kw h) (.ref f)=Ã:=by
 unfold keepIn;obtain⟨oc,od,OG,A2⟩:=o;cases hd;erw[Kw.lookup,ho]
def G7{f:È}{o:î}(ho:h.get? f=À o)(hc:o.cls=.type "function"):isFn (Kw h) (.ref f)=Ã:=by
 unfold isFn typeIn;dsimp only;rw[Kw.lookup,ho];erw[yE,hc];decide +kernel
def W7(c:ClsAt h C N mN):makesIn (Kw h) C=Ã/\keepIn (Kw h) (.ref C)=Ã:=by
 obtain⟨nm,q,bs,sn,sub,col,dd,k0,k1,k2,k3,k5,e⟩:=mT c;have t:specialIn (Kw h) (.ref C) "__call__" = À (À (.builtin "type.__call__")):=by
  unfold specialIn typeIn;dsimp only;rw[e];show findIn (Kw h) (.type "type") "__call__" = _
  show fastLookup "type" "__call__" = _
  decide +kernel
 have i:instIn (Kw h) (.ref C) (.type "type")=À Ã:=by
  unfold instIn typeIn;dsimp only;rw[e];show subIn (Kw h) (.type "type") (.type "type")=_
  show(fastBuiltinMro "type").map (·.contains (.type "type"))=_
  decide +kernel
 refine⟨?_,?_⟩
 .unfold makesIn
  rw[e];erw[t,i];simp
 .unfold keepIn
  dsimp only;rw[e];erw[t];decide +kernel
end
def Ut{h:Ï}(hc:h.CodeRec cd x):codeIn (Kw h) cd x=Ã:=by
 obtain⟨c,o',vs,t,rfl,e1,e2,e3⟩:=hc;unfold codeIn;erw[Kw.lookup,e1];cases o';cases e2;simp only[];obtain⟨vs⟩:=vs;match vs,e3 with
 | [],e3=>cases e3
 | [_],e3=>cases e3
 | _::v::r,e3=>
  have e4:À v=À (Į x t):=by simpa using e3
  cases e4;simp
structure ClsG(h:Ï)(mg:Ç->Option Ä)(c:Ŏ)(C:È):Prop where
 m:mg c.name=À (.ref C)
 ex:∃N mN,PlainAt h c.withCmp C N mN
def Iw{q:Í}(G:ţ q loose R XP w s₀ mg mb h){c:Ŏ}(hc:c∈plainsOf q (looseW q loose)):∃C,ClsG h mg c C:=by
 obtain⟨C,N,mN,a,b⟩:=G.TE c hc;exact⟨C,a,N,mN,b⟩
theorem ClsG.cls{c:Ŏ}(g:ClsG h mg c C):Cls (Kw h) C/\∀f∈c.statics,Ę "object" f=Á->NoAttr (Kw h) C f:=by
 obtain⟨N,mN,P⟩:=g.ex;have q:∀n∈c.withCmp.quiet,mN n=Á:=P.quiet;exact⟨DD P.cls (q _ (by simp[ClsRec.quiet])) (q _ (by simp[ClsRec.quiet])) (q _ (by simp[ClsRec.quiet])),λf hf=>V0 P.cls (q f (by erw[ClsRec.quiet,ClsRec.withCmp,zU];exact .inr (.inl hf)))⟩
def ClsG.meth{c:Ŏ}(g:ClsG h mg c C){d:Def}{m:MethRec}(hm:m∈c.meths)(hd:(m.name,m.params,m.body,m.scope)=(d.x,qB d.st,kX d.st,kF d.st))(hq:c.name++"." ++ m.name=d.qual)(hb:gL d.x d.qual d.st d.ps):∃a fd,DTxt (Kw h) d a fd/\Meth (Kw h) C d.x a:=by
 obtain⟨N,mN,P⟩:=g.ex;obtain⟨f,o,pm,cd,doc,q1,q2,q3,q4,q5⟩:=P.meths m hm;have GM:c.withCmp.name++"." ++ m.name=d.qual:=hq;rw[GM] at q4 q5;obtain⟨nm,pr,bd,sc⟩:=m;cases hd;have lk:(Kw h).lookup f=À ⟨o.cls,o.dict,.func (í d.x d.qual (qB d.st) (kX d.st) (kF d.st) .none .none doc pm Á cd .none),o.slots⟩:=by
  rw[Kw.lookup,q2];cases o;cases q4;rfl
 obtain⟨fd,D⟩:=KG hb lk (Ut q5) (Kh q2 q4);exact⟨f,fd,D,by rw[gT P.cls,q1],G7 q2 q3,Kh q2 q4⟩
def ClsG.mtxt{c:Ŏ}{cl:Cl}(g:ClsG h mg c (cl.c n)){d:Def}{m:MethRec}(hm:m∈c.meths)(hd:(m.name,m.params,m.body,m.scope)=(d.x,qB d.st,kX d.st,kF d.st))(hq:c.name++"." ++ m.name=d.qual)(hb:gL d.x d.qual d.st d.ps):uP (Kw h) cl n d:=by
 obtain⟨a,fd,D,M⟩:=g.meth hm hd hq hb;exact⟨a,fd,D,M,g.cls.1⟩
def ClsG.itxt{c:Ŏ}{cl:Cl}(g:ClsG h mg c (cl.c n)){d:Def}{m:MethRec}(hm:m∈c.meths)(hd:(m.name,m.params,m.body,m.scope)=(d.x,qB d.st,kX d.st,kF d.st))(hq:c.name++"." ++ m.name=d.qual)(hb:gL d.x d.qual d.st d.ps)(hi:d.x="__init__"):oR (Kw h) mg cl c.name n d:=by
 obtain⟨a,fd,D,M⟩:=g.meth hm hd hq hb;obtain⟨N,mN,P⟩:=g.ex;obtain⟨m1,m2⟩:=W7 P.cls;exact⟨a,fd,D,g.m,m1,hi▸M.at_,M.fn,m2⟩
noncomputable def adr(mg:Ç->Option Ä)(x:Ç):È:=match mg x with
 | some (.ref a)=>a
 | _=>0
noncomputable def lu(mg:Ç->Option Ä)(l:List (Ç×Ç)):List (Ç×W):=l.map λp=>(p.1,.fn (adr mg p.2))
def DA{h₀:Ï}{mg:Ç->Option Ä}{K:S5}(M:∀x,mg x=h₀.nsMap Ø x){P:ź}:∀(l:List (Ç×Ç)) (es:List ø),bg (λp (e:ø)=>VI p.1 e.key&&YD h₀ p.2 e.val) l es=Ã->es.map (·.hash)=l.map (λp=>ċ P p.1)->TabRel K (lu mg l) es/\ħ P es:=by
 intro l;induction l with
 | nil=>intro es a b;cases es with | nil=>exact⟨.nil,trivial⟩ | cons _ _=>cases a
 | cons p l ih=>
  intro es a b;cases es with
  | nil=>cases a
  | cons e es=>
   have a1:=jh.mp a;have a2:=jh.mp a1.1;have b1:=List.cons.inj b;obtain⟨r,t⟩:=ih es a1.2 b1.2;obtain⟨eh,ek,ev⟩:=e;cases ek with
   | str y t'=>
    have q:=eq_of_beq (show(p.1==y)=Ã from a2.1);subst q;have kw:KW K (.fn (adr mg p.2)) ev:=by
     have z:=a2.2;unfold YD at z;unfold adr;rw[M];split at z
     .rename_i a0 b0 e0 e1
      simp only at e0;rw[e1];have:=eq_of_beq z;subst this;rw[show ev=.ref a0 from e0];exact .fn
     .cases z
    exact⟨.cons (hs:=0) (v:=.none) rfl kw r,⟨_,_,rfl,b1.1⟩,t⟩
   | _=>cases a2.1
def Uu{cons:List (Ç×Cn)}{tabs:List (Ç×List (Ç×Cn))}{bins:List Ç}{ways:List (Ç×List (Ç×Ç))}{w:Ñ}{h:Ï}{mg:Ç->Option Ä}(Y:(XB cons tabs bins ways).says w h)(G:h.Ns Ø mg) :
  AllOf (Glob (Kw h) mg) (toT cons)/\AllOf (TabOk (Kw h) w.params mg) (tabs.map λp=>(p.1,toT p.2))/\AllNone mg bins/\AllOf (λx l=>TabOk (Kw h) w.params mg x (lu mg l)) ways:=by
 obtain⟨h₀,k,b,t,u⟩:=Y;obtain⟨h1,h2,h3⟩:=FX (cons:=cons) (tabs:=tabs) (bins:=bins) (w:=w) (h:=h) ⟨h₀,k,b,t⟩ G;refine⟨h1,h2,h3,?_⟩;unfold oP at b;erw[zq,kW] at b;have M:=K1 G k b.1.1;have hK:∀b o,h₀.get? b=À o->(Kw h).lookup b=À o:=λb o e=>by rw[Kw.lookup];exact k _ _ e
 have key:∀p∈ways,TabOk (Kw h) w.params mg p.1 (lu mg p.2):=λp m=>by
  have e:Yn h₀ p.2 (h₀.nsMap Ø p.1)=(Ã,p.2.map λk=>ċ w.params k.1):=by
   unfold Ys goodW at u;exact(List.map_inj_left.mp u) p m
  unfold Yn at e;cases q:h₀.nsMap Ø p.1 with
  | none=>rw[q] at e;cases e
  | some v=>
   rw[q] at e;cases z:dictAt h₀ v with
   | none=>rw[qb,z] at e;cases e
   | some es=>
    rw[qb,z] at e;have e2:=yD e;obtain⟨a,n,rfl,g,f⟩:=rn z;obtain⟨r,kl⟩:=DA (K:=Kw h) M (P:=w.params) p.2 es.toList e2.1 e2.2;exact⟨a,es,n,(M _).trans q,hK _ _ g,kl,f,r⟩
 have:=nM (P:=λx l=>TabOk (Kw h) w.params mg x (lu mg l)) (id:List (Ç×Ç)->List (Ç×Ç)) (l:=ways) key;simpa using this
noncomputable def Zd(fns:List (Ç×(List W->M W))):List (Ç×Ç)->List (Ç×(List W->M W))->Prop
 | [],[]=>True
 | (k,x)::l,(k',g)::ws=>k=k'/\fns.lookup x=À g/\Zd fns l ws
 | _,_=>False
theorem sE{P:Í}{w:Ñ}{K:S5}{mg:Ç->Option Ä}{fns:List (Ç×(List W->M W))}(A:AllOf (FnAt P w K mg base cl k) fns):∀{l:List (Ç×Ç)} {ws:List (Ç×(List W->M W))},Zd fns l ws->∀y g,ws.lookup y=À g->
  ∃f fd ps,(lu mg l).lookup y=À (.fn f)/\FnOk P w K mg base uE k f fd ps (xy K cl g)/\Û K (.ref f)=Ã/\Binds K fd ps []
 | [],[],_,y,g,e=>by cases e
 | [],_::_,r,_,_,_=>by cases r
 | _::_,[],r,_,_,_=>by cases r
 | (k0,x)::l,(k1,g1)::ws,r,y,g,e=>by
  obtain⟨rfl,r2,r3⟩:=r;rw[kO] at e;show ∃f fd ps,((k0,W.fn (adr mg x))::lu mg l).lookup y=À (.fn f)/\_
  rw[kO];cases q:y==k0 with
  | true=>
   rw[q] at e;cases e;obtain⟨f,fd,ps,a,b,c,d⟩:=A.at r2;exact⟨f,fd,ps,by erw[adr,b],a,c,d⟩
  | false=>
   rw[q] at e;exact sE A r3 y g e
def V2{P:Í}{w:Ñ}{K:S5}{mg:Ç->Option Ä}{base:Ï}{cl:Cl}{fns:List (Ç×(List W->M W))}(A:AllOf (FnAt P w K mg base cl k) fns)(T:TabOk K w.params mg x (lu mg l))(r:Zd fns l ws):Jv P w K mg base cl k x ws:=⟨_,T,sE A r⟩
noncomputable def u3(q:Í)(loose:List Ç)(x:Ç):Option Ŏ:=(plainsOf q (looseW q loose)).find? (·.name==x)
def QM{q:Í}(G:ţ q loose R XP w s₀ mg mb h)(hx:(u3 q loose x).isSome=Ã):∃c C,u3 q loose x=À c/\ClsG h mg c C:=by
 obtain⟨c,hc⟩:=qg.mp hx;obtain⟨C,g⟩:=Iw G (vR hc);exact⟨c,C,hc,g⟩
def mQ{q:Í}{c:Ŏ}(hc:u3 q loose x=À c):c.name=x:=by
 have:=List.find?_some (show(plainsOf q (looseW q loose)).find? (λc=>c.name==x)=À c from hc);exact eq_of_beq this
noncomputable def so(q:Í)(loose:List Ç)(x m:Ç):Option MethRec:=(u3 q loose x).bind λc=>c.meths.find? (·.name==m)
def yk{q:Í}{c:Ŏ}{d:Def}(hc:u3 q loose x=À c)(hm:(so q loose x d.x).map (λm=>(m.name,m.params,m.body,m.scope))=À (d.x,qB d.st,kX d.st,kF d.st)):∃m∈c.meths,(m.name,m.params,m.body,m.scope)=(d.x,qB d.st,kX d.st,kF d.st):=by
 obtain⟨m,e1,e2⟩:=zg.mp hm;unfold so at e1;rw[hc,qb] at e1;exact⟨m,vR e1,e2⟩
section
variable{q:Í}{loose:List Ç}{x:Ç}{c:Ŏ}{d:Def}{h:Ï}{mg:Ç->Option Ä}{cl:Cl}{n:Nat}
def mz(g:ClsG h mg c (cl.c n))(hc:u3 q loose x=À c)(hm:(so q loose x d.x).map (λm=>(m.name,m.params,m.body,m.scope))=À (d.x,qB d.st,kX d.st,kF d.st))(hq:x++"." ++ d.x=d.qual)(hb:gL d.x d.qual d.st d.ps):uP (Kw h) cl n d:=by
 obtain⟨m,m1,m2⟩:=yk hc hm;refine g.mtxt m1 m2 ?_ hb;rw[mQ hc,(yD m2).1];exact hq
def Xy(g:ClsG h mg c (cl.c n))(hc:u3 q loose x=À c)(hm:(so q loose x d.x).map (λm=>(m.name,m.params,m.body,m.scope))=À (d.x,qB d.st,kX d.st,kF d.st))(hq:x++"." ++ d.x=d.qual)(hb:gL d.x d.qual d.st d.ps)(hi:d.x="__init__"):oR (Kw h) mg cl x n d:=by
 obtain⟨m,m1,m2⟩:=yk hc hm;have:=g.itxt m1 m2 (by rw[mQ hc,(yD m2).1];exact hq) hb hi;rwa [mQ hc] at this
def KC{fs:List Ç}(g:ClsG h mg c (cl.c n))(hc:u3 q loose x=À c)(hf:(u3 q loose x).map (λc=>fs.all λf=>c.statics.contains f&&(Ę "object" f).isNone)=À Ã):∀f∈fs,Cls (Kw h) (cl.c n)/\NoAttr (Kw h) (cl.c n) f:=by
 rw[hc,yE] at hf;intro f m;have:=kW.mp (zZ hf) f m;rw[zq] at this;exact⟨g.cls.1,g.cls.2 f (by simpa using this.1) (qN.mp this.2)⟩
def Yz{K:S5}(H:∀p∈fl,∀f∈p.2,Cls K (cl.c p.1)/\NoAttr K (cl.c p.1) f):fi K cl fl:=by
 intro c f e;unfold qE at e;obtain⟨p,m,r⟩:=qu.mp e;rw[zq] at r;obtain⟨y,my,ry⟩:=qu.mp r.2;have e1:=eq_of_beq r.1;have e2:=eq_of_beq ry;subst e1 e2;exact H p m y my
end
def walk_lawD{l:PySem.W.OpenLaw}{q:Í}{d:DefRec}{D:Def}{Γ:RC}{ns:Nat}(T:S5->Ñ->(Ç->Option Ä)->Cl->Prop)(hn:l.most=À 63)(Md:d.params.defaults=[])
  (hr:Room (room+1) ŋ) (hx:D.x=d.name) (Nc:D.ps=[y]) (hb:gL D.x D.qual D.st D.ps) (Ag:uM D.N D.ps (kF D.st)=Ã) (Ah:D.N.length-1=ns) (hB:cB (Γ.at D) (kX D.st)=À b) (hg:g=gc (kg 1 ns b))
  (main:∀ns:List Int,ns.length<=63->∃h',g [.fls (ns.map W.int)] []=À (.bl Ã,h'))
  (lvl:∀(w:Ñ) (K:S5) (mg:Ç->Option Ä) (base:Ï) (cl:Cl),T K w mg cl->BaseOk l.prog w K mg base cl room Γ)
  (F:∀(w:Ñ) (s₀:Å) (mg mb:Ç->Option Ä) (h:Ï),ţ q loose [] XP w s₀ mg mb h->YP w h->∃cl,mn (Kw h) mg D/\T (Kw h) w mg cl):PySem.W.WalkO q loose XP YP l.row.toRowW d [] (λf vs=>PySem.call f vs):=by
 refine W5 (n:=63) (k:=room+1) (x:=y) (CX:=uE) (sp:=λ_=>Hu g) hn (by decide) Md hr (λw s₀ mg mb fa h G Y Me=>?_) (λw K H a ns hl _ hS=>C8 main K H a ns hl hS) λ_ _ _ _ z=>z
 obtain⟨cl,⟨a,fd,D1,m⟩,t⟩:=F w s₀ mg mb h G Y;have e:=m.symm.trans (hx▸Me);cases e;refine⟨fd,?_,λbase _ _=>?_⟩
 .intro s v
  obtain⟨oc,od,kV,doc,pm,an,xI,ct,A2,rfl,lk,A6⟩:=D1.F.ex;have hb2:=hb [v] (by rw[Nc];rfl) kV doc pm an xI ct;rw[Nc] at hb2;exact .of_eq hb2
 .have:=mj D1 (lvl w _ mg base cl t) Ag (np:=1) (by rw[Nc];rfl) Ah hB
  rw[Nc] at this;subst hg;exact this.imp λvs H Q E z=>z cl
end ML
namespace ML
open PySem L2
noncomputable def dt:Nat->W->Bool
 | 0,_=>Â
 | _+1,.non=>Ã
 | _+1,.bl _=>Ã
 | _+1,.int _=>Ã
 | _+1,.str x=>ī x&&decide (x.length<=1000)
 | n+1,.tup l=>decide (l.length<=1000)&&l.all (dt n)
 | n+1,.fls l=>decide (l.length<=1000)&&l.all (dt n)
 | _+1,.ref _=>Â
 | _+1,.fdc _=>Â
 | _+1,.fn _=>Â
noncomputable def toD:Nat->W->Ų
 | 0,_=>.none
 | _+1,.non=>.none
 | _+1,.bl b=>.bool b
 | _+1,.int i=>.int i
 | _+1,.str x=>.str x
 | n+1,.tup l=>.tuple (l.map (toD n))
 | n+1,.fls l=>.list (l.map (toD n))
 | _+1,_=>.none
theorem xi:∀{l:List W},(∀w∈l,low m w=Ã)->lows m l=Ã
 | [],_=>by unfold lows;rfl
 | w::r,h=>by
  unfold lows;rw[h w kj,xi λw hw=>h w (zM _ hw)];rfl
theorem lA:∀{n:Nat} {w:W},dt n w=Ã->low m w=Ã
 | 0,_,h=>by cases h
 | n+1,.non,_=>by unfold low;rfl
 | n+1,.bl _,_=>by unfold low;rfl
 | n+1,.int _,_=>by unfold low;rfl
 | n+1,.str _,_=>by unfold low;rfl
 | n+1,.tup l,h=>by
  unfold dt at h;rw[zq] at h;unfold low;exact xi λw hw=>lA (kW.mp h.2 w hw)
 | n+1,.fls l,h=>by
  unfold dt at h;rw[zq] at h;unfold low;exact xi λw hw=>lA (kW.mp h.2 w hw)
 | n+1,.ref _,h=>by cases h
 | n+1,.fdc _,h=>by cases h
 | n+1,.fn _,h=>by cases h
theorem jS:∀{n m:Nat} {w:W},dt n w=Ã->n<=m->dt m w=Ã
 | 0,_,_,h,_=>by cases h
 | n+1,0,_,_,h=>by omega
 | n+1,m+1,.non,_,_=>rfl
 | n+1,m+1,.bl _,_,_=>rfl
 | n+1,m+1,.int _,_,_=>rfl
 | n+1,m+1,.str _,h,_=>h
 | n+1,m+1,.tup l,h,hn=>by
  unfold dt at h ⊢;rw[zq] at h ⊢;exact⟨h.1,kW.mpr λw hw=>jS (kW.mp h.2 w hw) ∅⟩
 | n+1,m+1,.fls l,h,hn=>by
  unfold dt at h ⊢;rw[zq] at h ⊢;exact⟨h.1,kW.mpr λw hw=>jS (kW.mp h.2 w hw) ∅⟩
 | n+1,m+1,.ref _,h,_=>by cases h
 | n+1,m+1,.fdc _,h,_=>by cases h
 | n+1,m+1,.fn _,h,_=>by cases h
theorem pe{α β:Type}{f:α->Option β}{g:α->β}:∀{l:List α},(∀x∈l,f x=À (g x))->va f l=À (l.map g)
 | [],_=>rfl
 | x::r,h=>by
  unfold va;rw[h x kj,pe λy hy=>h y (zM _ hy)];rfl
theorem uK:∀{n m:Nat} {w:W},dt n w=Ã->n<=m->kT m h w=À (toD n w)
 | 0,_,_,e,_=>by cases e
 | n+1,0,_,_,hn=>by omega
 | n+1,m+1,.non,_,_=>rfl
 | n+1,m+1,.bl _,_,_=>rfl
 | n+1,m+1,.int _,_,_=>rfl
 | n+1,m+1,.str x,e,_=>by
  unfold dt at e;rw[zq] at e;unfold kT;rw[z9 e.1];rfl
 | n+1,m+1,.tup l,e,hn=>by
  unfold dt at e;rw[zq] at e;unfold kT;rw[pe λw hw=>uK (kW.mp e.2 w hw) ∅];rfl
 | n+1,m+1,.fls l,e,hn=>by
  unfold dt at e;rw[zq] at e;unfold kT;rw[pe λw hw=>uK (kW.mp e.2 w hw) ∅];rfl
 | n+1,m+1,.ref _,e,_=>by cases e
 | n+1,m+1,.fdc _,e,_=>by cases e
 | n+1,m+1,.fn _,e,_=>by cases e
def wf{f:List W->M W}(e:f ws h=À (w,h))(d:dt n w=Ã):gc f ws h=À (w,h):=xS e (lA d) (zR _)
def Vi{f:List W->M W}(e:f ws h=À (w,h++t))(d:dt n w=Ã)(nw:w≠.non:=by nofun):gc f ws h=À (w,h):=xS e (lA d) (jn _ _) (.inl nw)
noncomputable def tyB(T:Ty):W->Bool
 | .bl _=>decide (T=.bool)||decide (T=.int)
 | .int _=>decide (T=.int)
 | .str _=>decide (T=.str)
 | .tup _=>decide (T=.tuple)
 | .fls _=>decide (T=.list)
 | _=>Â
theorem Cs{T:Ty}(d:dt n w=Ã):isW T w h=À (.bl (tyB T w),h):=by
 cases n with
 | zero=>cases d
 | succ n=>
  unfold isW sT tyB;cases w with
  | ref _=>cases d
  | fdc _=>cases d
  | fn _=>cases d
  | non=>rfl
  | bl b=>erw[mJ];cases T<;>rfl
  | int b=>erw[mJ];cases T<;>rfl
  | str b=>erw[mJ];cases T<;>rfl
  | tup b=>erw[mJ];cases T<;>rfl
  | fls b=>erw[mJ];cases T<;>rfl
theorem w8(h:MH)(x y:Ç):eqB h (.str x) (.str y)=À (x==y):=rfl
theorem yY(h:MH)(x y:Int):eqB h (.int x) (.int y)=À (x==y):=rfl
noncomputable def oa:W->Bool
 | .tup []=>Ã
 | _=>Â
def Bg(d:dt n w=Ã)(hn:n<=60)(dl:dt m (.tup l)=Ã)(hm:m<=60):eqB h w (.tup l)=À (ó (toD n w) (toD m (.tup l))):=by
 have e1:=uK (h:=h) d (show n<=deep from hn);have e2:=uK (h:=h) dl (show m<=deep from hm);unfold eqB;have:pQ w (.tup l)=Á:=by unfold pQ;cases w<;>rfl
 rw[this,e1,e2]
def Kr(d:dt n w=Ã)(hn:n<=60):eqB h w (.tup [])=À (oa w):=by
 rw[Bg d hn (m:=1) (by rfl) ∅];cases n with
 | zero=>cases d
 | succ n=>
  cases w with
  | ref _=>cases d
  | fdc _=>cases d
  | fn _=>cases d
  | tup l=>cases l<;>simp[toD,ó,Ġ,oa]
  | _=>simp[toD,ó,oa]
noncomputable def uo(l:List Ç):W->Bool
 | .str x=>l.any (· == x)
 | _=>Â
noncomputable def zS(l:List Ç):List W:=l.map .str
def YF{l:List Ç}(d:dt n w=Ã)(hn:n<=60)(hl:l.all ī=Ã)(hy:xB h y=À (zS l))(Ah:∀z,y≠.str z):inB h w y=À (uo l w):=by
 have e1:=uK (h:=h) d (show n<=deep from hn);have e2:va (kT deep h) (zS l)=À (l.map .str):=by
  unfold zS;have:∀l:List Ç,l.all ī=Ã->va (kT deep h) (l.map .str)=À (l.map PyData.str):=by
   intro l;induction l with
   | nil=>intro _;rfl
   | cons x r ih=>
    intro hl;rw[jw,zq] at hl;erw[zx];unfold va;have:kT deep h (.str x)=À (.str x):=by
     show kT (59+1) h (.str x)=_
     unfold kT;rw[z9 hl.1]
    rw[this,ih hl.2]
  exact this l hl
 have e3:inB h w y=match xB h y with
  | some l=>match kT deep h w,va (kT deep h) l with
   | some d,À ds=>À (ds.any λe=>ó e d)
   | _,_=>Á
  | none=>Á:=by
  unfold inB;split
  .rename_i j
   exact absurd rfl (Ah _)
  .rfl
 rw[e3,hy];erw[e1,e2];congr 1
 cases n with
 | zero=>cases d
 | succ n=>
  rw[List.any_map];cases w with
  | ref _=>cases d
  | fdc _=>cases d
  | fn _=>cases d
  | str x=>
   unfold uo;congr 1
  | _=>simp[toD,ó,uo]
def m9{l:List Ç}(d:dt n w=Ã)(hn:n<=60)(hl:l.all ī=Ã):inB h w (.tup (zS l))=À (uo l w):=YF d hn hl rfl (λz=>nofun)
theorem nZ{h:MH}(hn:h.length=n0)(p:W->Bool)(f:W->W):∀(l:List W) (acc:List W) (o:Option W),
  (∀w∈l,∀H',t (À w::caps) H'=À (p w,H'))->(∀w∈l,p w=Ã->∀H',m (À w::caps) H'=À (f w,H'))->acc.length+l.length<=cap->
  vi 1 (zD 0) t m n0 l (o::caps) (h++[.lst acc])=À (h++[.lst (acc++(l.filter p).map f)])
 | [],acc,o,_,_,_=>by simp[vi]
 | w::l,acc,o,ht,hf,hl=>by
  have ih:=λAS=>nZ (caps:=caps) (t:=t) (m:=m) hn p f l AS Á (λw hw=>ht w (zM _ hw)) (λw hw=>hf w (zM _ hw))
  have hb:blank 1 (À w::caps)=Á::caps:=by simp[blank]
  unfold vi;have hg:zD 0 w (o::caps) (h++[.lst acc])=À (À w::caps,h++[.lst acc]):=by simp[zD]
  rw[hg];simp only;rw[ht w kj];erw[zp] at hl;cases hp:p w with
  | false=>
   simp only;rw[hb,ih acc ∅];simp[wu,hp]
  | true=>
   simp only;rw[hf w kj hp];have e1:(h++[MO.lst acc])[n0]?=À (.lst acc):=by rw[<-hn];simp
   have e2:(h++[MO.lst acc]).set n0 (.lst (acc++[f w]))=h++[.lst (acc++[f w])]:=by rw[<-hn,jK _ _ (zj _)];simp
   erw[e1];rw[z9 ∅,hb,e2,ih (acc++[f w]) (by rw[zQ];simp;omega)];simp[wu,hp]
def fh{ks:List Nat}{ρ:En}{h:MH}{l:List W}(p:W->Bool)(f:W->W)(hm:mi ρ h=À (.items l,h))(ht:∀w∈l,∀H',t (À w::ks.map λk=>(ρ[k]?).join) H'=À (p w,H'))
  (hf:∀w∈l,p w=Ã->∀H',m (À w::ks.map λk=>(ρ[k]?).join) H'=À (f w,H')) (A5:∀w∈l,p w=Ã->low h.length (f w)=Ã) (hl:l.length<=cap):j1 mi 1 ks (zD 0) t m ρ h=À (.fls ((l.filter p).map f),h):=by
 have e:=nZ (caps:=ks.map λk=>(ρ[k]?).join) (t:=t) (m:=m) (h:=h) rfl p f l [] Á ht hf (by simpa using hl);unfold j1 aE;rw[hm];have er:(Æ 1 (Á:Option W)++ks.map λk=>(ρ[k]?).join)=Á::ks.map λk=>(ρ[k]?).join:=rfl
 simp only;rw[er,e];erw[kJ,zF (zj _),qR,zm];rw[z9];refine⟨jn _ _,xi λw hw=>?_⟩;obtain⟨w',h1,rfl⟩:=jf.mp hw;obtain⟨h2,h3⟩:=vC.mp h1;exact A5 w' h2 h3
theorem mG{h:MH}(hn:h.length=n0)(p:W->W->Bool)(f:W->W->W):∀(l:List (W×W)) (acc:List W) (o1 o2:Option W),
  (∀w∈l,∀H',t (À w.1::À w.2::caps) H'=À (p w.1 w.2,H'))->(∀w∈l,p w.1 w.2=Ã->∀H',m (À w.1::À w.2::caps) H'=À (f w.1 w.2,H'))->acc.length+l.length<=cap->
  vi 2 (eD [zD 0,zD 1]) t m n0 (l.map λw=>.tup [w.1,w.2]) (o1::o2::caps) (h++[.lst acc])=À (h++[.lst (acc++(l.filter λw=>p w.1 w.2).map λw=>f w.1 w.2)])
 | [],acc,_,_,_,_,_=>by simp[vi]
 | (a,b)::l,acc,o1,o2,ht,hf,hl=>by
  have ih:=λAS=>mG (caps:=caps) (t:=t) (m:=m) hn p f l AS Á Á (λw hw=>ht w (zM _ hw)) (λw hw=>hf w (zM _ hw))
  have hb:blank 2 (À a::À b::caps)=Á::Á::caps:=by simp[blank,Æ]
  erw[zx];unfold vi;have hg:eD [zD 0,zD 1] (.tup [a,b]) (o1::o2::caps) (h++[.lst acc])=À (À a::À b::caps,h++[.lst acc]):=by simp[eD,fI,bnd,zD]
  rw[hg];simp only;rw[ht (a,b) kj];erw[zp] at hl;cases hp:p a b with
  | false=>
   simp only;rw[hb,ih acc ∅];simp[wu,hp]
  | true=>
   simp only;rw[hf (a,b) kj hp];have e1:(h++[MO.lst acc])[n0]?=À (.lst acc):=by rw[<-hn];simp
   have e2:(h++[MO.lst acc]).set n0 (.lst (acc++[f a b]))=h++[.lst (acc++[f a b])]:=by rw[<-hn,jK _ _ (zj _)];simp
   erw[e1];rw[z9 ∅,hb,e2,ih (acc++[f a b]) (by rw[zQ];simp;omega)];simp[wu,hp]
def Hb{ks:List Nat}{ρ:En}{h:MH}{l:List (W×W)}(p:W->W->Bool)(f:W->W->W)(hm:mi ρ h=À (.items (l.map λw=>.tup [w.1,w.2]),h))(ht:∀w∈l,∀H',t (À w.1::À w.2::ks.map λk=>(ρ[k]?).join) H'=À (p w.1 w.2,H'))
  (hf:∀w∈l,p w.1 w.2=Ã->∀H',m (À w.1::À w.2::ks.map λk=>(ρ[k]?).join) H'=À (f w.1 w.2,H')) (A5:∀w∈l,p w.1 w.2=Ã->low h.length (f w.1 w.2)=Ã) (hl:l.length<=cap):j1 mi 2 ks (eD [zD 0,zD 1]) t m ρ h=À (.fls ((l.filter λw=>p w.1 w.2).map λw=>f w.1 w.2),h):=by
 have e:=mG (caps:=ks.map λk=>(ρ[k]?).join) (t:=t) (m:=m) (h:=h) rfl p f l [] Á Á ht hf (by simpa using hl);unfold j1 aE;rw[hm];have er:(Æ 2 (Á:Option W)++ks.map λk=>(ρ[k]?).join)=Á::Á::ks.map λk=>(ρ[k]?).join:=rfl
 simp only;rw[er,e];erw[kJ,zF (zj _),qR,zm];rw[z9];refine⟨jn _ _,xi λw hw=>?_⟩;obtain⟨w',h1,rfl⟩:=jf.mp hw;obtain⟨h2,h3⟩:=vC.mp h1;exact A5 w' h2 h3
end ML
namespace K13
open PySem PySem.Spec PyProof.Rows L2 ML
def top(i:Nat):Ă:=PySem.Challenge.pw_shelfwork_k13_whole_own_shelves.main.body.getD i (.Pass ⟨0,0,0,0⟩)
def inClass:Ă->Nat->Ă
 | .ClassDef _ _ _ b ..,k=>b.getD k (.Pass ⟨0,0,0,0⟩)
 | s,_=>s
def j3:W:=(.tup [.str "a",.str "b",.str "c",.str "d"])
def eK:W:=(.int 1008)
def gI:W:=(.int 3)
def lh:W:=(.int 1009)
def uu:W:=(.int 4)
def u0:W:=(.int 60)
def t_FORMS:List (Ç×W):=[("number",(.tup [.int 2,.int 2])),("name",(.tup [.int 2,.int 2])),("read",(.tup [.int 2,.int 2])),("write",(.tup [.int 3,.int 2])),("add",(.tup [.int 3,.int 1])),("less",(.tup [.int 3,.int 1])),("then",(.tup [.int 3,.int 1])),("if",(.tup [.int 4,.int 1])),("loop",(.tup [.int 3,.int 1])),("let",(.tup [.int 4,.int 2])),("own",(.tup [.int 4,.int 2])),("say",(.tup [.int 2,.int 1])),("ask",(.tup [.int 1,.int 1])),("do",(.tup [.int 2,.int 2])),("call",(.tup [.int 4,.int 2]))]
set_option genInjectivity false in
structure Fs where
 (bI aZ aR bH dB bC aX d8 bh cD au bj bR cY cG bK dJ dg dm eU dq dZ dX dN dO bQ cF bF aJ aC cH cT dG eE aG aA bx cZ cN aa dF az dw bV bO bT aj aF gh bD bZ cj aM aN aO aV bz bU bu bf cJ cV cQ eQ:List W->M W)
def kB:List (Nat×List Ç):=[(0,["rules","steps","worths","touch_ahead"]),(1,["shelves","answers","spoken","asks"])]
def mt(F:Fs):oF:=[((0,("begin":Ç)),F.bZ),((0,("bring":Ç)),F.cj),((0,("rest_ahead_of":Ç)),F.aM),((0,("go_on":Ç)),F.aN),((0,("take_step":Ç)),F.aO),((0,("do_touch":Ç)),F.aV),((0,("came_to":Ç)),F.bz),((1,("do":Ç)),F.bu),((1,("next_answer":Ç)),F.bf),((1,("store":Ç)),F.cJ),((1,("said":Ç)),F.cV)]
def qA(F:Fs):List (Ç×(List W->M W)):=[("number",F.bR),("name",F.cY),("read",F.cG),("write",F.bK),("add",F.dJ),("less",F.dg),("then",F.dm),("if",F.eU),("loop",F.dq),("let",F.dZ),("own",F.dX),("say",F.dN),("ask",F.dO),("do",F.bQ),("call",F.cF)]
noncomputable def fB(F:Fs):MS:=(zk (kP (ub (yA (kb (vt (isW .tuple) (ze 0)))) (kb (zi (jv Â) (zh kN [ze 0]) (PL 0))))
 (ka (eC (.bl Â)))
 kz)
 (zk (kP (ub (yA (kb (vt (isW .str) (zi zC (ze 0) (PL 0))))) (kb (vt (tabIn Ã t_FORMS) (zi zC (ze 0) (PL 0)))))
 (ka (eC (.bl Â)))
 kz)
 (ka (zi (jv Â) (zh kN [ze 0]) (zi zC (vt (bi t_FORMS) (zi zC (ze 0) (PL 0))) (PL 0))))))
noncomputable def dY(F:Fs):MS:=(zk (kP (kb (zi (jv Â) (zi zC (ze 0) (PL 0)) (SD "call")))
 (ka (zi addW (zi zC (ze 0) (PL 2)) (zi zC (ze 0) (PL 3))))
 kz)
 (ka (u5 (ze 0) (À (zi zC (vt (bi t_FORMS) (zi zC (ze 0) (PL 0))) (PL 1))) Á)))
noncomputable def aD(F:Fs):MS:=(zk (zI (ue (vj [ze 1]) 1 [0] (zD 0) kL (kD ur (ze 1) [])) (zD 2))
 (ka (vt oJ (ze 2))))
noncomputable def dM(F:Fs):MS:=(ka (b9 (vt (isW .int) (ze 0)) (Yb (vt (isW .bool) (ze 0)))))
noncomputable def dR(F:Fs):MS:=(ka (b9 (zh F.bH [ze 0]) (ug om om (PL 0) (ze 0) (eC eK))))
noncomputable def cR(F:Fs):MS:=(ka (zh Yg [j1 (JV (ze 0)) 1 [] (zD 0) kL (zi (uc Â) (ze 0) (SD "0123456789"))]))
noncomputable def d9(F:Fs):MS:=(zk (kP (ub (yA (kb (vt (isW .str) (ze 0)))) (yA (kb (ug om om (PL 1) (zh kN [ze 0]) (zi addW (PL 1) (eC gI))))))
 (ka (eC (.bl Â)))
 kz)
 (ka (b9 (zi (uc Â) (zi zC (ze 0) (PL 0)) (ze 1)) (zh F.bC [u5 (ze 0) (À (PL 1)) Á]))))
noncomputable def fQ(F:Fs):MS:=(ka (zh F.aX [ze 0,SD "xyz"]))
noncomputable def cC(F:Fs):MS:=(ka (zh F.aX [ze 0,SD "pq"]))
noncomputable def dh(F:Fs):MS:=(ka (zh F.aX [ze 0,SD "fg"]))
noncomputable def aB(F:Fs):MS:=(zk (kP (kb (zi (jv Â) (zi zC (ze 0) (PL 0)) (SD "call")))
 (ka (zi zC (ze 0) (PL 2)))
 kz)
 (zk (kP (kb (zi (uc Â) (zi zC (ze 0) (PL 0)) (zh zt [SD "if",SD "loop",SD "let",SD "own"])))
 (ka (u5 (zh F.aZ [ze 0]) Á (À (PL 1))))
 kz)
 (ka (zh F.aZ [ze 0]))))
noncomputable def bL(F:Fs):MS:=(zk (zI (zh nV [ze 0]) (zD 3))
 (zk (zI (ze 2) (bS (ze 3) (ze 1)))
 (ka (ze 3))))
noncomputable def eY(F:Fs):MS:=(ky (ki (mt F) "bring" (ze 0) [zi zC (ze 1) (PL 1)]))
noncomputable def fO(F:Fs):MS:=(ky (ki (mt F) "bring" (ze 0) [zi yi (ze 2) (zi zC (ze 1) (PL 1))]))
noncomputable def cW(F:Fs):MS:=(kP (kb (zi (uc Â) (zi zC (ze 1) (PL 1)) (eC j3)))
 (ky (ki (mt F) "rest_ahead_of" (ze 0) [zh zt [SD "read",zi zC (ze 1) (PL 1)]]))
 (ky (ki (mt F) "bring" (ze 0) [zi zC (zi yi (ze 2) (zi zC (ze 1) (PL 1))) (PL 0)])))
noncomputable def cM(F:Fs):MS:=(kP (kb (zi (uc Â) (zi zC (ze 1) (PL 1)) (eC j3)))
 (ky (ki (mt F) "rest_ahead_of" (ze 0) [zh zt [SD "write",zi zC (ze 1) (PL 1),zi zC (ze 3) (PL 0)]]))
 (zk (zI (zi zC (ze 3) (PL 0)) (bS (zi yi (ze 2) (zi zC (ze 1) (PL 1))) (PL 0)))
 (ky (ki (mt F) "bring" (ze 0) [zi zC (ze 3) (PL 0)]))))
noncomputable def fY(F:Fs):MS:=(ky (ki (mt F) "bring" (ze 0) [zi y7 (zi addW (zi zC (ze 3) (PL 0)) (zi zC (ze 3) (PL 1))) (eC lh)]))
noncomputable def fL(F:Fs):MS:=(ky (ki (mt F) "bring" (ze 0) [KS (kb (zi i4 (zi zC (ze 3) (PL 0)) (zi zC (ze 3) (PL 1)))) (PL 1) (PL 0)]))
noncomputable def fM(F:Fs):MS:=(ky (ki (mt F) "bring" (ze 0) [zi zC (ze 3) (PL 1)]))
noncomputable def gA(F:Fs):MS:=(ky (ki (mt F) "begin" (ze 0) [KS (kb (zi (jv Ã) (zi zC (ze 3) (PL 0)) (PL 0))) (zi zC (ze 1) (PL 2)) (zi zC (ze 1) (PL 3)),ze 2]))
noncomputable def eF(F:Fs):MS:=(zk (zI (zh zt [SD "number",PL 0]) (zD 4))
 (zk (uk (vj [zi y7 (zi zC (ze 3) (PL 0)) (eC uu)]) (zD 5)
 (zI (zh zt [SD "then",zi zC (ze 1) (PL 2),ze 4]) (zD 4)))
 (ky (ki (mt F) "begin" (ze 0) [ze 4,ze 2]))))
noncomputable def f9(F:Fs):MS:=(ky (ki (mt F) "begin" (ze 0) [zi zC (ze 1) (PL 3),zh F.bj [ze 2,zi zC (ze 1) (PL 1),zi zC (ze 3) (PL 0)]]))
noncomputable def fV(F:Fs):MS:=(ky (ki (mt F) "begin" (ze 0) [zi zC (ze 1) (PL 3),zh F.bj [ze 2,zi zC (ze 1) (PL 1),zh xE [zi zC (ze 3) (PL 0)]]]))
noncomputable def gb(F:Fs):MS:=(ky (ki (mt F) "rest_ahead_of" (ze 0) [zh zt [SD "say",zi zC (ze 3) (PL 0)]]))
noncomputable def gj(F:Fs):MS:=(ky (ki (mt F) "rest_ahead_of" (ze 0) [zh zt [SD "ask"]]))
noncomputable def du(F:Fs):MS:=(zk (zI (zi yi (ze 2) (zi zC (ze 1) (PL 1))) (zD 4))
 (ky (ki (mt F) "begin" (ze 0) [zi zC (ze 4) (PL 0),zi zC (ze 4) (PL 1)])))
noncomputable def cU(F:Fs):MS:=(zk (zI (zi zC (kM kB "rules" (ze 0)) (zi zC (ze 1) (PL 1))) (zD 4))
 (zk (zI (lT [zi zC (ze 4) (PL 0),ze 3]) (zD 5))
 (zk (uk (fE [zi zC (ze 4) (PL 1),zi zC (ze 1) (PL 3)]) (eD [zD 6,zD 7])
 (zI (zh zt [ze 7,ze 2]) (bS (ze 5) (ze 6))))
 (ky (ki (mt F) "begin" (ze 0) [zi zC (ze 4) (PL 2),ze 5])))))
noncomputable def bA(F:Fs):MS:=(zk (ky (ki (mt F) "go_on" (ze 0) []))
 (kP (kb (zi (y8 Â) (kM kB "touch_ahead" (ze 0)) (eC .non)))
 (ky (ki (mt F) "do_touch" (ze 0) [ze 1]))
 kz))
noncomputable def aK(F:Fs):MS:=(zk (zI (zh xE []) (zD 2))
 (zk (ky (ki (mt F) "go_on" (ze 0) []))
 (zk (uf (kb (zi (y8 Â) (kM kB "touch_ahead" (ze 0)) (eC .non)))
 (zk (ky (kD qh (ze 2) [ki (mt F) "do_touch" (ze 0) [ze 1]]))
 (ky (ki (mt F) "go_on" (ze 0) []))))
 (ka (ze 2)))))
noncomputable def fG(F:Fs):MS:=(zk (zI (zh F.cH [ze 0,zh vS [ze 1],ze 2,ze 3]) (zD 4))
 (ka (zh zt [zi zC (zi zC (ze 4) (PL 0)) (PL 0),zi zC (ze 4) (PL 1),zi zC (ze 4) (PL 2),zi zC (ze 4) (PL 3)])))
noncomputable def cX(F:Fs):MS:=(ka (zh F.cT [ze 0,ze 1,ze 2,ze 3,zh vS []]))
noncomputable def Vg(F:Fs):MS:=(kP (kb (ug om i4 (PL 0) (ze 7) (zh kN [ze 6])))
 (ky (zh F.bF [zi zC (ze 6) (ze 7),ze 5]))
 kz)
noncomputable def Xn(F:Fs):MS:=(ky (zh F.aJ [ze 8,ze 5]))
noncomputable def dD(F:Fs):MS:=zk (zI (uI 1 F.eQ [ze 2,ze 3]) (zD 5)) (zk (zI (ue (vk (ze 1)) 1 [0] (zD 0) kL (uI 0 F.cQ [ze 1,ze 0])) (zD 6)) (zk (uk (vk (ze 4)) (zD 7) (Vg F)) (zk (uk (vk (ze 6)) (zD 8) (Xn F)) (zk (zI (j1 (vk (ze 6)) 1 [] (zD 0) kL (ki (mt F) "came_to" (ze 0) [])) (zD 9)) (ka (zh zt [ze 9,ki (mt F) "store" (ze 5) [],ki (mt F) "said" (ze 5) [],kM kB "asks" (ze 5)]))))))
noncomputable def dU(F:Fs):MS:=(ka (XJ (zi (uc Â) (ze 0) (eC j3)) (b9 (zh F.bh [ze 0]) (zi (uc Â) (ze 0) (ze 1)))))
noncomputable def eG(F:Fs):MS:=(zk (zI (zi zC (ze 1) (PL 1)) (zD 2))
 (zk (kP (ub (yA (kb (zh F.bH [ze 2]))) (yA (kb (ug om i4 (PL 0) (ze 2) (zh kN [ze 0])))))
 (ka (eC (.bl Â)))
 kz)
 (zk (kP (ub (yA (kb (vt (isW .tuple) (zi zC (ze 1) (PL 2))))) (yA (kb (vt (isW .tuple) (zi zC (ze 1) (PL 3))))))
 (ka (eC (.bl Â)))
 kz)
 (zk (zI (zi zC (ze 0) (ze 2)) (zD 3))
 (ka (b9 (zi (jv Â) (zh kN [zi zC (ze 1) (PL 2)]) (zh kN [zi zC (ze 3) (PL 0)])) (zi (jv Â) (zh kN [zi zC (ze 1) (PL 3)]) (zh kN [zi zC (ze 3) (PL 1)]))))))))
noncomputable def aH(F:Fs):MS:=(zk (kP (yA (kb (zh F.bI [ze 1])))
 (ka (eC (.bl Â)))
 kz)
 (zk (zI (zi zC (ze 1) (PL 0)) (zD 3))
 (zk (kP (kb (zi (jv Â) (ze 3) (SD "number")))
 (ka (zh F.dB [zi zC (ze 1) (PL 1)]))
 kz)
 (zk (kP (kb (zi (jv Â) (ze 3) (SD "name")))
 (ka (b9 (zh F.d8 [zi zC (ze 1) (PL 1)]) (zi (uc Â) (zi zC (ze 1) (PL 1)) (ze 2))))
 kz)
 (zk (kP (kb (zi (jv Â) (ze 3) (SD "do")))
 (ka (b9 (zh F.cD [zi zC (ze 1) (PL 1)]) (zi (uc Â) (zi zC (ze 1) (PL 1)) (ze 2))))
 kz)
 (zk (kP (kb (zi (uc Â) (ze 3) (zh zt [SD "read",SD "write"])))
 (ka (zh F.dG [zi zC (ze 1) (PL 1),ze 2]))
 kz)
 (zk (kP (kb (zi (jv Â) (ze 3) (SD "let")))
 (ka (zh F.d8 [zi zC (ze 1) (PL 1)]))
 kz)
 (zk (kP (kb (zi (jv Â) (ze 3) (SD "own")))
 (ka (zh F.bh [zi zC (ze 1) (PL 1)]))
 kz)
 (zk (kP (kb (zi (jv Â) (ze 3) (SD "call")))
 (ka (zh F.eE [ze 0,ze 1]))
 kz)
 (ka (eC (.bl Ã))))))))))))
noncomputable def aQ(F:Fs):MS:=(zk (kP (kb (zi (uc Â) (zi zC (ze 0) (PL 0)) (zh zt [SD "let",SD "own"])))
 (ka (zh vS [zh zt [zi zC (ze 0) (PL 2),ze 1],zh zt [zi zC (ze 0) (PL 3),zi addW (ze 1) (zh zt [zi zC (ze 0) (PL 1)])]]))
 kz)
 (ka (j1 (vk (zh F.aZ [ze 0])) 1 [1] (zD 0) kL (zh zt [ze 0,ze 1]))))
noncomputable def bN(F:Fs):MS:=(zk (zI (PL 0) (zD 3))
 (zk (zI (zh xE [zh zt [ze 1,ze 2]]) (zD 4))
 (zk (uf (kb (zi pJ (zh kN [ze 4]) (PL 0)))
 (zk (zI (kD ur (ze 4) []) (zD 5))
 (zk (mS 3 fx (PL 1))
 (zk (kP (ub (kb (zi pJ (ze 3) (eC u0))) (yA (kb (zh F.aG [ze 0,zi zC (ze 5) (PL 0),zi zC (ze 5) (PL 1)]))))
 (ka (eC (.bl Â)))
 kz)
 (ky (kD ui (ze 4) [zh F.aA [zi zC (ze 5) (PL 0),zi zC (ze 5) (PL 1)]]))))))
 (ka (eC (.bl Ã))))))
noncomputable def eO(F:Fs):MS:=(ka (zh F.bx [ze 0,ze 1,zh zt []]))
noncomputable def cI(F:Fs):MS:=(zk (kP (kb (zi (jv Â) (ze 0) (zh vS [])))
 (ka (zi kH (PL 7) (ze 1)))
 kz)
 (ka (zi addW (zi zC (ze 0) (zi y7 (ze 1) (zh kN [ze 0]))) (zi kH (PL 6553) (zi af (ze 1) (zh kN [ze 0]))))))
noncomputable def bW(F:Fs):MS:=(zk (zI (zi y7 (zi addW (zi kH (zi y7 (zh F.cN [ze 0,ze 1]) (PL 2147483563)) (PL 69069)) (zi kH (PL 104723) (zi addW (ze 1) (PL 1)))) (PL 2147483563)) (zD 3))
 (zk (zI (zi y7 (zi addW (zi kH (ze 3) (ze 3)) (zi af (ze 3) (PL 3))) (PL 2147483399)) (zD 3))
 (ka (zi y7 (zi af (zi y7 (zi addW (zi kH (ze 3) (ze 3)) (zi af (ze 3) (PL 7))) (PL 2147483647)) (PL 11)) (ze 2)))))
noncomputable def Fv(F:Fs):MS:=(zI (ze 2) (eD [zD 3,zD 4,zD 5]))
noncomputable def DH(F:Fs):MS:=(zI (zh F.aa [ze 0,ze 1,PL 8]) (zD 6))
noncomputable def QS(F:Fs):MS:=(kP (kb (zi i4 (ze 6) (PL 2)))
 (ka (zh zt [SD "number",zi zC (zh vS [PL 0,PL 1,PL 2,PL 3,PL 7,PL 1008]) (zh F.aa [ze 0,zi addW (ze 1) (PL 1),PL 6])]))
 kz)
noncomputable def Zf(F:Fs):MS:=(kP (eT (kb (zi (jv Â) (ze 6) (PL 2))) (kb (zi (jv Ã) (ze 3) (zh zt []))))
 (ka (zh zt [SD "name",zi zC (ze 3) (zh F.aa [ze 0,zi addW (ze 1) (PL 1),zh kN [ze 3]])]))
 kz)
noncomputable def ZF(F:Fs):MS:=(kP (eT (kb (zi (jv Â) (ze 6) (PL 3))) (kb (zi (jv Ã) (ze 5) (zh zt []))))
 (ka (zh zt [SD "do",zi zC (ze 5) (zh F.aa [ze 0,zi addW (ze 1) (PL 1),zh kN [ze 5]])]))
 kz)
noncomputable def Xx(F:Fs):MS:=(kP (kb (zi (jv Â) (ze 6) (PL 4)))
 (ka (zh zt [SD "ask"]))
 kz)
noncomputable def Qq(F:Fs):MS:=(zI (zi addW (zh zt [SD "a",SD "b",SD "c",SD "d"]) (zi kH (ze 4) (PL 3))) (zD 7))
noncomputable def Y5(F:Fs):MS:=(ka (zh zt [SD "read",zi zC (ze 7) (zh F.aa [ze 0,zi addW (ze 1) (PL 1),zh kN [ze 7]])]))
noncomputable def bB(F:Fs):MS:=zk (Fv F) (zk (DH F) (zk (QS F) (zk (Zf F) (zk (ZF F) (zk (Xx F) (zk (Qq F) (Y5 F)))))))
noncomputable def Xv(F:Fs):MS:=(zI (zh F.aa [ze 0,ze 1,PL 15]) (zD 5))
noncomputable def QD(F:Fs):MS:=(kP (ub (kb (zi (jv Â) (ze 2) (PL 0))) (kb (zi i4 (ze 5) (PL 2))))
 (ka (zh F.dF [ze 0,zi addW (ze 1) (PL 1),ze 3]))
 kz)
noncomputable def pV(F:Fs):MS:=(kP (eT (kb (zi i4 (ze 5) (PL 4))) (kb (zi (jv Ã) (ze 4) (zh zt []))))
 (ka (zh F.dw [ze 0,ze 1,ze 2,ze 3,ze 4]))
 kz)
noncomputable def QA(F:Fs):MS:=(zI (zh F.az [ze 0,zi addW (zi kH (ze 1) (PL 3)) (PL 7),zi x8 (ze 2) (PL 1),ze 3,ze 4]) (zD 6))
noncomputable def ZI(F:Fs):MS:=(kP (kb (zi i4 (ze 5) (PL 6)))
 (zk (zI (zi addW (zh zt [SD "a",SD "b",SD "c",SD "d"]) (zi kH (zi zC (ze 3) (PL 1)) (PL 3))) (zD 7))
 (ka (zh zt [SD "write",zi zC (ze 7) (zh F.aa [ze 0,zi addW (ze 1) (PL 3),zh kN [ze 7]]),ze 6])))
 kz)
noncomputable def Kf(F:Fs):MS:=(kP (kb (zi (jv Â) (ze 5) (PL 6)))
 (ka (zh zt [SD "say",ze 6]))
 kz)
noncomputable def Kx(F:Fs):MS:=(kP (kb (zi (jv Â) (ze 5) (PL 7)))
 (zk (zI (zi zC (zh vS [SD "x",SD "y",SD "x1"]) (zh F.aa [ze 0,zi addW (ze 1) (PL 3),PL 3])) (zD 8))
 (ka (zh zt [SD "let",ze 8,ze 6,zh F.az [ze 0,zi addW (zi kH (ze 1) (PL 3)) (PL 23),zi x8 (ze 2) (PL 1),zi addW (zh zt [zi addW (zi zC (ze 3) (PL 0)) (zh zt [ze 8])]) (u5 (ze 3) (À (PL 1)) Á),ze 4]])))
 kz)
noncomputable def Kn(F:Fs):MS:=(kP (kb (zi (jv Â) (ze 5) (PL 8)))
 (zk (zI (zi zC (zh vS [SD "p",SD "q"]) (zh F.aa [ze 0,zi addW (ze 1) (PL 3),PL 2])) (zD 8))
 (zk (zI (zh zt [zi zC (ze 3) (PL 0),zi addW (zi zC (ze 3) (PL 1)) (zh zt [ze 8]),zi zC (ze 3) (PL 2)]) (zD 9))
 (ka (zh zt [SD "own",ze 8,ze 6,zh F.az [ze 0,zi addW (zi kH (ze 1) (PL 3)) (PL 23),zi x8 (ze 2) (PL 1),ze 9,ze 4]]))))
 kz)
noncomputable def Kt(F:Fs):MS:=(zI (zh F.az [ze 0,zi addW (zi kH (ze 1) (PL 3)) (PL 41),zi x8 (ze 2) (PL 1),ze 3,ze 4]) (zD 10))
noncomputable def tO(F:Fs):MS:=(kP (kb (zi (jv Â) (ze 5) (PL 9)))
 (ka (zh zt [SD "if",ze 6,ze 10,zh F.az [ze 0,zi addW (zi kH (ze 1) (PL 3)) (PL 61),zi x8 (ze 2) (PL 1),ze 3,ze 4]]))
 kz)
noncomputable def nk(F:Fs):MS:=(ka (zi addW (zi zC (zh vS [zh zt [SD "then"],zh zt [SD "add"],zh zt [SD "less"],zh zt [SD "loop"],zh zt [SD "then"]]) (zi x8 (ze 5) (PL 10))) (zh zt [ze 6,ze 10])))
noncomputable def aL(F:Fs):MS:=zk (Xv F) (zk (QD F) (zk (pV F) (zk (QA F) (zk (ZI F) (zk (Kf F) (zk (Kx F) (zk (Kn F) (zk (Kt F) (zk (tO F) (nk F))))))))))
noncomputable def XA(F:Fs):MS:=(zI (zh F.aa [ze 0,zi addW (ze 1) (PL 3),zh kN [ze 4]]) (zD 5))
noncomputable def Xd(F:Fs):MS:=(zI (zh kN [zi zC (zi zC (ze 4) (ze 5)) (PL 0)]) (zD 6))
noncomputable def Xm(F:Fs):MS:=(zI (zh xE []) (zD 7))
noncomputable def Xc(F:Fs):MS:=(uk (vj [zi addW (ze 6) (zh kN [zi zC (zi zC (ze 4) (ze 5)) (PL 1)])]) (zD 8)
 (ky (kD qh (ze 7) [zh F.az [ze 0,zi addW (zi addW (zi kH (ze 1) (PL 3)) (PL 7)) (zi kH (PL 5) (ze 8)),zi x8 (ze 2) (PL 1),ze 3,ze 4]])))
noncomputable def Xq(F:Fs):MS:=(ka (zh zt [SD "call",ze 5,zh uA [u5 (ze 7) Á (À (ze 6))],zh uA [u5 (ze 7) (À (ze 6)) Á]]))
noncomputable def cL(F:Fs):MS:=zk (XA F) (zk (Xd F) (zk (Xm F) (zk (Xc F) (Xq F))))
noncomputable def Y7(F:Fs):MS:=(zI (zh zt []) (zD 2))
noncomputable def FT(F:Fs):MS:=(uk (vj [zh F.aa [ze 0,ze 1,PL 3]]) (zD 3)
 (zk (zI (zi zC (zh vS [zh zt [],zh zt [SD "x"],zh zt [SD "y",SD "x"]]) (zh F.aa [ze 0,zi addW (zi addW (ze 1) (PL 1)) (zi kH (PL 5) (ze 3)),PL 3])) (zD 4))
 (zk (zI (zi zC (zh vS [zh zt [],zh zt [SD "f"],zh zt [SD "f",SD "g1"]]) (zh F.aa [ze 0,zi addW (zi addW (ze 1) (PL 2)) (zi kH (PL 5) (ze 3)),PL 3])) (zD 5))
 (zk (zI (zh F.az [ze 0,zi addW (zi addW (ze 1) (PL 20)) (zi kH (PL 7) (ze 3)),PL 2,zh zt [ze 4,zh zt [],ze 5],ze 2]) (zD 6))
 (zI (zi addW (ze 2) (zh zt [zh zt [ze 4,ze 5,ze 6]])) (zD 2))))))
noncomputable def FL(F:Fs):MS:=(ka (ze 2))
noncomputable def cu(F:Fs):MS:=zk (Y7 F) (zk (FT F) (FL F))
noncomputable def bY(F:Fs):MS:=(ka (zh uA [j1 (vj [PL 4]) 1 [0,1] (zD 0) kL (zh F.aa [ze 1,zi addW (ze 2) (ze 0),PL 6])]))
noncomputable def b7(F:Fs):MS:=(ka (j1 (vj [zh F.aa [ze 0,ze 1,PL 4]]) 1 [0,1] (zD 0) kL (zh F.aa [ze 1,zi addW (zi addW (ze 2) (PL 1)) (ze 0),PL 9])))
noncomputable def w1(F:Fs):MS:=(kP (kb (zi (uc Â) (ze 3) (zh zt [SD "number",SD "name",SD "ask",SD "read"])))
 (ka (PL 1))
 kz)
noncomputable def w2(F:Fs):MS:=(kP (kb (zi (jv Â) (ze 3) (SD "do")))
 (ka (oh (ze 2) (zi zC (ze 1) (PL 1)) (PL 1)))
 kz)
noncomputable def w3(F:Fs):MS:=(kP (kb (zi (jv Â) (ze 3) (SD "call")))
 (zk (zI (zh l7 [j1 (fE [zi zC (zi zC (ze 0) (zi zC (ze 1) (PL 1))) (PL 1),zi zC (ze 1) (PL 3)]) 2 [0,2] (eD [zD 0,zD 1]) kL (zh zt [ze 0,zh F.aj [ze 2,ze 1,ze 3]])]) (zD 4))
 (zk (zI (zh i9 [j1 (vk (zi zC (ze 1) (PL 2))) 1 [0,2] (zD 0) kL (zh F.aj [ze 1,ze 0,ze 2])]) (zD 5))
 (ka (zi addW (zi addW (PL 1) (ze 5)) (zh F.aj [ze 0,zi zC (zi zC (ze 0) (zi zC (ze 1) (PL 1))) (PL 2),ze 4])))))
 kz)
noncomputable def w4(F:Fs):MS:=(zI (j1 (vk (u5 (ze 1) (À (PL 1)) Á)) 1 [0,2] (zD 0) (kb (vt (isW .tuple) (ze 0))) (zh F.aj [ze 1,ze 0,ze 2])) (zD 6))
noncomputable def w5(F:Fs):MS:=(kP (kb (zi (jv Â) (ze 3) (SD "loop")))
 (ka (zi addW (zi addW (PL 1) (zi zC (ze 6) (PL 0))) (zi kH (PL 3) (zi zC (ze 6) (PL 1)))))
 kz)
noncomputable def w6(F:Fs):MS:=(ka (zi addW (PL 1) (zh i9 [ze 6])))
noncomputable def aU(F:Fs):MS:=zk (zI (zi zC (ze 1) (PL 0)) (zD 3)) (zk (w1 F) (zk (w2 F) (zk (w3 F) (zk (w4 F) (zk (w5 F) (w6 F))))))
noncomputable def cg(F:Fs):MS:=(zk (zI (zh F.az [ze 0,ze 1,ze 2,zh zt [zh zt [],zh zt [],zh zt []],ze 3]) (zD 4))
 (zk (kP (kb (zi pJ (zh F.aj [ze 3,ze 4,eC (.fdc [])]) (PL 80)))
 (ka (zh zt [SD "read",zi zC (SD "abcd") (zh F.aa [ze 0,ze 1,PL 4])]))
 kz)
 (ka (ze 4))))
noncomputable def Q0(F:Fs):MS:=(zI (zh F.bV [ze 0,PL 1]) (zD 1))
noncomputable def Q1(F:Fs):MS:=(zI (j1 (vj [PL 2]) 1 [0,1] (zD 0) kL (zh F.aF [ze 1,zi addW (PL 90) (zi kH (PL 31) (ze 0)),PL 2,ze 2])) (eD [zD 2,zD 3]))
noncomputable def Q2(F:Fs):MS:=(zI (zh F.bO [ze 0,PL 70]) (zD 4))
noncomputable def Q3(F:Fs):MS:=(zI (zh F.bT [ze 0,PL 75]) (zD 5))
noncomputable def Q4(F:Fs):MS:=(zI (zh F.aC [ze 1,ze 2,ze 4,ze 5]) (zD 6))
noncomputable def Q5(F:Fs):MS:=(zI (zh F.aC [ze 1,zh zt [SD "then",ze 2,ze 3],ze 4,ze 5]) (zD 7))
noncomputable def Q6(F:Fs):MS:=(kP (kb (zi (jv Ã) (zh F.aC [ze 1,zh zt [SD "own",SD "p",ze 2,zh zt [SD "read",SD "p"]],ze 4,ze 5]) (ze 6)))
 (ka (eC (.bl Â)))
 kz)
noncomputable def Q7(F:Fs):MS:=(kP (kb (zi (jv Ã) (zh F.aC [ze 1,zh zt [SD "own",SD "p",ze 2,ze 3],ze 4,ze 5]) (ze 7)))
 (ka (eC (.bl Â)))
 kz)
noncomputable def Q8(F:Fs):MS:=(kP (kb (zi (jv Ã) (zh F.aC [ze 1,zh zt [SD "own",SD "p",ze 2,zh zt [SD "then",zh zt [SD "write",SD "p",ze 3],zh zt [SD "read",SD "p"]]],ze 4,ze 5]) (ze 7)))
 (ka (eC (.bl Â)))
 kz)
noncomputable def Q9(F:Fs):MS:=(zI (zh zt [SD "own",SD "p",ze 2,zh zt [SD "then",zh zt [SD "own",SD "p",ze 3,zh zt [SD "read",SD "p"]],zh zt [SD "read",SD "p"]]]) (zD 8))
noncomputable def F7(F:Fs):MS:=(kP (kb (zi (jv Ã) (zh F.aC [ze 1,ze 8,ze 4,ze 5]) (zi addW (zh zt [zi zC (ze 6) (PL 0)]) (u5 (ze 7) (À (PL 1)) Á))))
 (ka (eC (.bl Â)))
 kz)
noncomputable def F0(F:Fs):MS:=(zI (zh zt [SD "own",SD "q",zh zt [SD "number",PL 0],zh zt [SD "write",SD "q",zh zt [SD "add",zh zt [SD "read",SD "q"],zh zt [SD "number",PL 1]]]]) (zD 9))
noncomputable def DR(F:Fs):MS:=(kP (kb (zi (jv Ã) (zh F.aC [ze 1,zh zt [SD "then",ze 9,zh zt [SD "add",ze 9,ze 9]],ze 4,ze 5]) (zh zt [PL 2,ze 4,zh vS [],PL 0])))
 (ka (eC (.bl Â)))
 kz)
noncomputable def Dc(F:Fs):MS:=(zI (zh zt [zh zt [],zh zt [SD "f"],zh zt [SD "own",SD "p",zh zt [SD "number",PL 5],zh zt [SD "then",zh zt [SD "do",SD "f"],zh zt [SD "read",SD "p"]]]]) (zD 10))
noncomputable def Fx(F:Fs):MS:=(zI (zh zt [ze 10]) (zD 11))
noncomputable def DJ(F:Fs):MS:=(zI (zh zt [SD "own",SD "p",zh zt [SD "number",PL 1],zh zt [SD "add",zh zt [SD "call",PL 0,zh zt [],zh zt [zh zt [SD "write",SD "p",zh zt [SD "number",PL 8]]]],zh zt [SD "read",SD "p"]]]) (zD 12))
noncomputable def F6(F:Fs):MS:=(kP (ub (yA (kb (zh F.cZ [ze 11,ze 12]))) (kb (zi (jv Ã) (zh F.aC [ze 11,ze 12,ze 4,ze 5]) (zh zt [PL 13,ze 4,zh vS [],PL 0]))))
 (ka (eC (.bl Â)))
 kz)
noncomputable def Di(F:Fs):MS:=(zI (zh zt [SD "own",SD "p",ze 2,zh zt [SD "loop",zh zt [SD "number",PL 3],zh zt [SD "write",SD "p",zh zt [SD "add",zh zt [SD "read",SD "p"],zh zt [SD "number",PL 1]]]]]) (zD 13))
noncomputable def Hl(F:Fs):MS:=(ka (zi (jv Â) (zh F.aC [ze 1,ze 13,ze 4,ze 5]) (zi addW (zh zt [PL 0]) (u5 (ze 6) (À (PL 1)) Á))))
noncomputable def dI(F:Fs):MS:=zk (Q0 F) (zk (Q1 F) (zk (Q2 F) (zk (Q3 F) (zk (Q4 F) (zk (Q5 F) (zk (Q6 F) (zk (Q7 F) (zk (Q8 F) (zk (Q9 F) (zk (F7 F) (zk (F0 F) (zk (DR F) (zk (Dc F) (zk (Fx F) (zk (DJ F) (zk (F6 F) (zk (Di F) (Hl F))))))))))))))))))
noncomputable def bJ(F:Fs):MS:=(zk (zI (ze 1) (uy kB "rules" (ze 0)))
 (zk (zI (zh xE [zh zt [eC (.bl Â),ze 2,eC (.fdc [])]]) (uy kB "steps" (ze 0)))
 (zk (zI (zh xE []) (uy kB "worths" (ze 0)))
 (zI (eC .non) (uy kB "touch_ahead" (ze 0))))))
noncomputable def cO(F:Fs):MS:=(ky (kD qh (kM kB "steps" (ze 0)) [zh zt [eC (.bl Â),ze 1,ze 2]]))
noncomputable def cP(F:Fs):MS:=(ky (kD qh (kM kB "worths" (ze 0)) [ze 1]))
noncomputable def aW(F:Fs):MS:=(zI (ze 1) (uy kB "touch_ahead" (ze 0)))
noncomputable def aY(F:Fs):MS:=(uf (eT (kb (zi pJ (zh kN [kM kB "steps" (ze 0)]) (PL 0))) (kb (zi (y8 Ã) (kM kB "touch_ahead" (ze 0)) (eC .non))))
 (zk (zI (kD ur (kM kB "steps" (ze 0)) []) (zD 1))
 (ky (ki (mt F) "take_step" (ze 0) [zi zC (ze 1) (PL 0),zi zC (ze 1) (PL 1),zi zC (ze 1) (PL 2)]))))
noncomputable def aq(F:Fs):MS:=(zk (zI (zh F.au [ze 2]) (zD 4))
 (kP (ub (kb (ze 1)) (kb (zi (jv Â) (zh kN [ze 4]) (PL 0))))
 (ky (Jr (qA F) (zi zC (ze 2) (PL 0)) [ze 0,ze 2,ze 3,zh F.aR [kM kB "worths" (ze 0),zh kN [ze 4]]]))
 (zk (ky (kD qh (kM kB "steps" (ze 0)) [zh zt [eC (.bl Ã),ze 2,ze 3]]))
 (ky (kD ui (kM kB "steps" (ze 0)) [j1 (oI [ze 4]) 1 [3] (zD 0) kL (zh zt [eC (.bl Â),ze 0,ze 1])])))))
noncomputable def bc(F:Fs):MS:=(zk (zI (ki (mt F) "do" (ze 1) [kM kB "touch_ahead" (ze 0)]) (zD 2))
 (zk (zI (eC .non) (uy kB "touch_ahead" (ze 0)))
 (zk (ky (ki (mt F) "bring" (ze 0) [zi zC (ze 2) (vt lj (PL 1))]))
 (ka (ze 2)))))
noncomputable def bM(F:Fs):MS:=(ka (zi zC (kM kB "worths" (ze 0)) (vt lj (PL 1))))
noncomputable def cA(F:Fs):MS:=(zk (zI (lT [eC j3,ze 1]) (uy kB "shelves" (ze 0)))
 (zk (zI (zh iE [ze 2]) (uy kB "answers" (ze 0)))
 (zk (zI (zh xE []) (uy kB "spoken" (ze 0)))
 (zI (PL 0) (uy kB "asks" (ze 0))))))
noncomputable def bw(F:Fs):MS:=(zk (kP (kb (zi (jv Â) (zi zC (ze 1) (PL 0)) (SD "read")))
 (ka (zh zt [SD "read",zi zC (ze 1) (PL 1),zi yi (kM kB "shelves" (ze 0)) (zi zC (ze 1) (PL 1))]))
 kz)
 (zk (kP (kb (zi (jv Â) (zi zC (ze 1) (PL 0)) (SD "write")))
 (zk (zI (zi zC (ze 1) (PL 2)) (bS (kM kB "shelves" (ze 0)) (zi zC (ze 1) (PL 1))))
 (ka (ze 1)))
 kz)
 (zk (kP (kb (zi (jv Â) (zi zC (ze 1) (PL 0)) (SD "say")))
 (zk (ky (kD qh (kM kB "spoken" (ze 0)) [zi zC (ze 1) (PL 1)]))
 (ka (ze 1)))
 kz)
 (ka (zh zt [SD "ask",ki (mt F) "next_answer" (ze 0) []])))))
noncomputable def aP(F:Fs):MS:=(zk (zI (kM kB "asks" (ze 0)) (zD 1))
 (zk (nu kB "asks" fx (ze 0) (PL 1))
 (zk (kP (kb (zi i4 (ze 1) (zh kN [kM kB "answers" (ze 0)])))
 (ka (zi zC (kM kB "answers" (ze 0)) (ze 1)))
 kz)
 (ka (PL 0)))))
noncomputable def bG(F:Fs):MS:=(ka (zh uA [j1 (vk (eC j3)) 1 [0] (zD 0) kL (zi yi (kM kB "shelves" (ze 1)) (ze 0))]))
noncomputable def b8(F:Fs):MS:=(ka (zh iE [kM kB "spoken" (ze 0)]))
noncomputable def step(F:Fs):Fs where
 bI:=gc (kg 1 0 (fB F))
 aZ:=gc (kg 1 0 (dY F))
 aR:=gc (kg 2 1 (aD F))
 bH:=gc (kg 1 0 (dM F))
 dB:=gc (kg 1 0 (dR F))
 bC:=gc (kg 1 0 (cR F))
 aX:=gc (kg 2 0 (d9 F))
 d8:=gc (kg 1 0 (fQ F))
 bh:=gc (kg 1 0 (cC F))
 cD:=gc (kg 1 0 (dh F))
 au:=gc (kg 1 0 (aB F))
 bj:=gc (kg 3 1 (bL F))
 bR:=gc (kg 4 0 (eY F))
 cY:=gc (kg 4 0 (fO F))
 cG:=gc (kg 4 0 (cW F))
 bK:=gc (kg 4 0 (cM F))
 dJ:=gc (kg 4 0 (fY F))
 dg:=gc (kg 4 0 (fL F))
 dm:=gc (kg 4 0 (fM F))
 eU:=gc (kg 4 0 (gA F))
 dq:=gc (kg 4 2 (eF F))
 dZ:=gc (kg 4 0 (f9 F))
 dX:=gc (kg 4 0 (fV F))
 dN:=gc (kg 4 0 (gb F))
 dO:=gc (kg 4 0 (gj F))
 bQ:=gc (kg 4 1 (du F))
 cF:=gc (kg 4 4 (cU F))
 bF:=gc (kg 2 0 (bA F))
 aJ:=gc (kg 2 1 (aK F))
 aC:=gc (kg 4 1 (fG F))
 cH:=gc (kg 4 0 (cX F))
 cT:=gc (kg 5 5 (dD F))
 dG:=gc (kg 2 0 (dU F))
 eE:=gc (kg 2 2 (eG F))
 aG:=gc (kg 3 1 (aH F))
 aA:=gc (kg 2 0 (aQ F))
 bx:=gc (kg 3 3 (bN F))
 cZ:=gc (kg 2 0 (eO F))
 cN:=gc (kg 2 0 (cI F))
 aa:=gc (kg 3 1 (bW F))
 dF:=gc (kg 3 5 (bB F))
 az:=gc (kg 5 6 (aL F))
 dw:=gc (kg 5 4 (cL F))
 bV:=gc (kg 2 5 (cu F))
 bO:=gc (kg 2 0 (bY F))
 bT:=gc (kg 2 0 (b7 F))
 aj:=gc (kg 3 4 (aU F))
 aF:=gc (kg 4 1 (cg F))
 gh:=gc (kg 1 13 (dI F))
 bD:=gc (kg 3 0 (bJ F))
 bZ:=gc (kg 3 0 (cO F))
 cj:=gc (kg 2 0 (cP F))
 aM:=gc (kg 2 0 (aW F))
 aN:=gc (kg 1 1 (aY F))
 aO:=gc (kg 4 1 (aq F))
 aV:=gc (kg 2 1 (bc F))
 bz:=gc (kg 1 0 (bM F))
 bU:=gc (kg 3 0 (cA F))
 bu:=gc (kg 2 0 (bw F))
 bf:=gc (kg 1 1 (aP F))
 cJ:=gc (kg 1 0 (bG F))
 cV:=gc (kg 1 0 (b8 F))
 cQ:=F.bD
 eQ:=F.bU
noncomputable def Fs.bot:Fs:=let z:List W->M W:=λ_ _=>Á;⟨z,z,z,z,z,z,z,z,z,z,z,z,z,z,z,z,z,z,z,z,z,z,z,z,z,z,z,z,z,z,z,z,z,z,z,z,z,z,z,z,z,z,z,z,z,z,z,z,z,z,z,z,z,z,z,z,z,z,z,z,z,z,z,z⟩
noncomputable def lv:Nat->Fs
 | 0=>.bot
 | n+1=>step (lv n)
def fns(F:Fs):List (Ç×(List W->M W)):=[(("has_form":Ç),F.bI),(("parts_of":Ç),F.aZ),(("taken_off":Ç),F.aR),(("is_whole":Ç),F.bH),(("is_worth":Ç),F.dB),(("is_figures":Ç),F.bC),(("is_lettered":Ç),F.aX),(("is_name":Ç),F.d8),(("is_own_shelf":Ç),F.bh),(("is_handed_name":Ç),F.cD),(("parts_run_first":Ç),F.au),(("with_known":Ç),F.bj),(("do_number":Ç),F.bR),(("do_name":Ç),F.cY),(("do_read":Ç),F.cG),(("do_write":Ç),F.bK),(("do_add":Ç),F.dJ),(("do_less":Ç),F.dg),(("do_then":Ç),F.dm),(("do_if":Ç),F.eU),(("do_loop":Ç),F.dq),(("do_let":Ç),F.dZ),(("do_own":Ç),F.dX),(("do_say":Ç),F.dN),(("do_ask":Ç),F.dO),(("do_handed":Ç),F.bQ),(("do_call":Ç),F.cF),(("one_turn":Ç),F.bF),(("touches_to_end":Ç),F.aJ),(("run":Ç),F.aC),(("run_all":Ç),F.cH),(("run_by":Ç),F.cT),(("is_shelf":Ç),F.dG),(("is_call":Ç),F.eE),(("is_deed_outside":Ç),F.aG),(("parts_with_known":Ç),F.aA),(("is_deed_where":Ç),F.bx),(("is_deed":Ç),F.cZ),(("_law_cell":Ç),F.cN),(("_law_drawn":Ç),F.aa),(("_law_leaf":Ç),F.dF),(("_law_deed":Ç),F.az),(("_law_call":Ç),F.dw),(("_law_rules":Ç),F.bV),(("_law_store":Ç),F.bO),(("_law_asked":Ç),F.bT),(("_law_weight":Ç),F.aj),(("_law_light":Ç),F.aF),(("law":Ç),F.gh)]
def cons:List (Ç×W):=[("SHELVES",j3),("MOST_WORTH",eK),("MOST_FIGURES",gI),("MODULUS",lh),("LOOP_MODULUS",uu),("MOST_DEEDS",u0)]
def tabs:List (Ç×List (Ç×W)):=[("FORMS",t_FORMS)]
def bins:List Ç:=["all","bool","dict","int","isinstance","len","list","range","reversed","str","sum","tuple","zip"]
def mks(F:Fs):List (Ç×(Nat×(List W->M W))):=[("Doing",(0,F.cQ)),("Room",(1,F.eQ))]
def ways(F:Fs):List (Ç×List (Ç×(List W->M W))):=[("WAYS",qA F)]
def rc(F:Fs):RC:=⟨⟨.function,[],Â,Â,[]⟩,[],Â,fns F,cons,tabs,bins,[],[],[],[],kB,mt F,mks F,[],ways F⟩
def df(x:Ç)(k:Nat)(ps n:List Ç)(o:List Ç:=[])(t:List Ç:=[])(c:List ((Nat×Nat)×List Ç):=[])(d:List Ç:=[])(m:List (Nat×Nat):=[]):Def:=⟨x,x,top k,ps,ps++n,o,t,c,d,m⟩
def ie:Def:=df "has_form" 3 ["thing"] []
def gZ:Def:=df "parts_of" 4 ["deed"] []
def gJ:Def:=df "taken_off" 6 ["heap","count"] ["backward"] (o:=["backward","heap"]) (c:=[((18,15),["turn","heap"])])
def gQ:Def:=df "is_whole" 11 ["thing"] []
def gP:Def:=df "is_worth" 12 ["thing"] []
def gn:Def:=df "is_figures" 13 ["text"] [] (t:=["text"]) (c:=[((29,15),["sign"])])
def fX:Def:=df "is_lettered" 14 ["thing","letters"] []
def iw:Def:=df "is_name" 15 ["thing"] []
def fU:Def:=df "is_own_shelf" 16 ["thing"] []
def fC:Def:=df "is_handed_name" 17 ["thing"] []
def eZ:Def:=df "parts_run_first" 21 ["deed"] []
def gw:Def:=df "with_known" 22 ["known","name","thing"] ["inner"] (o:=["inner"]) (d:=["known"])
def gH:Def:=df "do_number" 23 ["doing","deed","known","worths"] []
def iD:Def:=df "do_name" 24 ["doing","deed","known","worths"] [] (d:=["known"])
def iJ:Def:=df "do_read" 25 ["doing","deed","known","worths"] [] (d:=["known"])
def ig:Def:=df "do_write" 26 ["doing","deed","known","worths"] [] (d:=["known"])
def iU:Def:=df "do_add" 27 ["doing","deed","known","worths"] []
def iy:Def:=df "do_less" 28 ["doing","deed","known","worths"] []
def iH:Def:=df "do_then" 29 ["doing","deed","known","worths"] []
def iY:Def:=df "do_if" 30 ["doing","deed","known","worths"] [] (d:=["known"])
def iB:Def:=df "do_loop" 31 ["doing","deed","known","worths"] ["unrolled","turn"] (d:=["known"])
def iW:Def:=df "do_let" 32 ["doing","deed","known","worths"] [] (d:=["known"])
def iM:Def:=df "do_own" 33 ["doing","deed","known","worths"] [] (d:=["known"]) (m:=[(84,52)])
def iQ:Def:=df "do_say" 34 ["doing","deed","known","worths"] []
def iV:Def:=df "do_ask" 35 ["doing","deed","known","worths"] []
def gK:Def:=df "do_handed" 36 ["doing","deed","known","worths"] ["handed"] (d:=["known"])
def iG:Def:=df "do_call" 37 ["doing","deed","known","worths"] ["rule","inner","name","part"] (o:=["inner"]) (d:=["known"])
def ik:Def:=df "one_turn" 40 ["doing","room"] []
def fu:Def:=df "touches_to_end" 41 ["doing","room"] ["touches"] (o:=["touches"])
def iZ:Def:=df "run" 45 ["rules","deed","store","asked"] ["told"]
def iz:Def:=df "run_all" 46 ["rules","deeds","store","asked"] []
def iT:Def:=df "run_by" 47 ["rules","deeds","store","asked","turns"] ["room","doings","number","doing","worths"] (o:=["doings"]) (c:=[((191,13),["deed","rules"]),((197,13),["doing"])])
def gR:Def:=df "is_shelf" 50 ["thing","known"] [] (d:=["known"])
def iu:Def:=df "is_call" 51 ["rules","deed"] ["number","rule"]
def fc:Def:=df "is_deed_outside" 52 ["rules","thing","known"] ["word"] (d:=["known"])
def eX:Def:=df "parts_with_known" 53 ["deed","known"] [] (c:=[((233,11),["part","known"])]) (d:=["known"])
def fH:Def:=df "is_deed_where" 54 ["rules","thing","known"] ["count","waiting","place"] (o:=["waiting"]) (d:=["known"])
def iI:Def:=df "is_deed" 55 ["rules","thing"] []
def gU:Def:=df "_law_cell" 57 ["_law_script","_law_k"] []
def gF:Def:=df "_law_drawn" 58 ["_law_script","_law_k","_law_many"] ["_law_cell_here"]
def gY:Def:=df "_law_leaf" 59 ["_law_script","_law_at","_law_known"] ["_law_names","_law_owns","_law_handed","_law_way","_law_shelves"]
def gW:Def:=df "_law_deed" 60 ["_law_script","_law_at","_law_deep","_law_known","_law_rules_here"] ["_law_way","_law_one","_law_shelves","_law_word","_law_inner","_law_other"]
def g8:Def:=df "_law_call" 61 ["_law_script","_law_at","_law_deep","_law_known","_law_rules_here"] ["_law_number","_law_size","_law_parts","_law_k"] (o:=["_law_parts"])
def gD:Def:=df "_law_rules" 62 ["_law_script","_law_at"] ["_law_rules_here","_law_k","_law_names","_law_handed","_law_body"]
def gG:Def:=df "_law_store" 63 ["_law_script","_law_at"] [] (c:=[((307,17),["_law_k","_law_script","_law_at"])])
def gC:Def:=df "_law_asked" 64 ["_law_script","_law_at"] [] (c:=[((309,11),["_law_k","_law_script","_law_at"])])
def gm:Def:=df "_law_weight" 65 ["_law_rules_here","_law_deed_here","_law_handed"] ["_law_word","_law_there","_law_parts","_law_inner"] (c:=[((317,26),["_law_one","_law_part","_law_rules_here","_law_handed"]),((318,25),["_law_part","_law_rules_here","_law_handed"]),((320,17),["_law_part","_law_rules_here","_law_handed"])])
def gB:Def:=df "_law_light" 66 ["_law_script","_law_at","_law_deep","_law_rules_here"] ["_law_deed_here"]
def iK:Def:=df "law" 67 ["_law_script"] ["_law_rules_here","_law_one","_law_two","_law_store_here","_law_asked_here","_law_mine","_law_both","_law_hiding","_law_counted","_law_handing","_law_more","_law_call_here","_law_bare"] (c:=[((331,25),["_law_k","_law_script","_law_rules_here"])])
def gr:Def:=⟨"__init__","Doing.__init__",inClass (top 39) 0,["self","rules","deed"],["self","rules","deed"],["steps","worths"],[],[],[],[]⟩
def fZ:Def:=⟨"begin","Doing.begin",inClass (top 39) 1,["self","deed","known"],["self","deed","known"],[],[],[],["known"],[]⟩
def gf:Def:=⟨"bring","Doing.bring",inClass (top 39) 2,["self","brought"],["self","brought"],[],[],[],[],[]⟩
def d7:Def:=⟨"rest_ahead_of","Doing.rest_ahead_of",inClass (top 39) 3,["self","touch"],["self","touch"],[],[],[],[],[]⟩
def gk:Def:=⟨"go_on","Doing.go_on",inClass (top 39) 4,["self"],["self","step"],[],[],[],[],[]⟩
def fj:Def:=⟨"take_step","Doing.take_step",inClass (top 39) 5,["self","parts_done","deed","known"],["self","parts_done","deed","known","parts"],[],[],[((127,30),["part","known"])],["known"],[]⟩
def fD:Def:=⟨"do_touch","Doing.do_touch",inClass (top 39) 6,["self","room"],["self","room","touch"],[],[],[],[],[]⟩
def fJ:Def:=⟨"came_to","Doing.came_to",inClass (top 39) 8,["self"],["self"],[],[],[],[],[]⟩
def gM:Def:=⟨"__init__","Room.__init__",inClass (top 43) 0,["self","store","asked"],["self","store","asked"],["shelves","spoken"],[],[],["shelves"],[]⟩
def iC:Def:=⟨"do","Room.do",inClass (top 43) 1,["self","touch"],["self","touch"],[],[],[],["shelves"],[]⟩
def eV:Def:=⟨"next_answer","Room.next_answer",inClass (top 43) 2,["self"],["self","place"],[],[],[],[],[]⟩
def gq:Def:=⟨"store","Room.store",inClass (top 43) 3,["self"],["self"],[],[],[((179,21),["shelf","self"])],["shelves"],[]⟩
def gO:Def:=⟨"said","Room.said",inClass (top 43) 4,["self"],["self"],[],[],[],[],[]⟩
def defs:List Def:=[ie,gZ,gJ,gQ,gP,gn,fX,iw,fU,fC,eZ,gw,gH,iD,iJ,ig,iU,iy,iH,iY,iB,iW,iM,iQ,iV,gK,iG,ik,fu,iZ,iz,iT,gR,iu,fc,eX,fH,iI,gU,gF,gY,gW,g8,gD,gG,gC,gm,gB,iK]
def Gx:List (Ç×List (Ç×Ç)):=[("WAYS",[("number","do_number"),("name","do_name"),("read","do_read"),("write","do_write"),("add","do_add"),("less","do_less"),("then","do_then"),("if","do_if"),("loop","do_loop"),("let","do_let"),("own","do_own"),("say","do_say"),("ask","do_ask"),("do","do_handed"),("call","do_call")])]
def T(P:Í)(K:S5)(w:Ñ)(mg:Ç->Option Ä)(cl:Cl):Prop:=WI (mn K mg) defs/\AllOf (Glob K mg) cons/\AllOf (TabOk K w.params mg) tabs/\AllNone mg bins/\(cl.P=P/\cl.w=w)/\fi K cl kB/\(uP K cl 0 fZ/\uP K cl 0 gf/\uP K cl 0 d7/\uP K cl 0 gk/\uP K cl 0 fj/\uP K cl 0 fD/\uP K cl 0 fJ/\uP K cl 1 iC/\uP K cl 1 eV/\uP K cl 1 gq/\uP K cl 1 gO/\True)/\(oR K mg cl "Doing" 0 gr/\oR K mg cl "Room" 1 gM/\True)/\AllOf (λx l=>TabOk K w.params mg x (lu mg l)) Gx
def lvl{P:Í}{w:Ñ}{K:S5}{mg:Ç->Option Ä}{base:Ï}{cl:Cl}(t:T P K w mg cl):∀n,BaseOk P w K mg base cl n (rc (lv n))/\tH P w K mg base cl n "Doing" 0 (lv n).bD/\tH P w K mg base cl n "Room" 1 (lv n).bU:=by
 obtain⟨⟨T0,T1,T2,T3,T4,T5,T6,T7,T8,T9,T10,T11,T12,T13,T14,T15,T16,T17,T18,T19,T20,T21,T22,T23,T24,T25,T26,T27,T28,T29,T30,T31,T32,T33,T34,T35,T36,T37,T38,T39,T40,T41,T42,T43,T44,T45,T46,T47,T48,-⟩,c,t,z,pw,k,⟨M0,M1,M2,M3,M4,M5,M6,M7,M8,M9,M10,-⟩,⟨I0,I1,-⟩,⟨W0,-⟩⟩:=t;intro n;induction n with
 | zero=>
  have A:AllOf (FnAt P w K mg base cl 0) (fns (lv 0)):=⟨kf T0,kf T1,kf T2,kf T3,kf T4,kf T5,kf T6,kf T7,kf T8,kf T9,kf T10,kf T11,kf T12,kf T13,kf T14,kf T15,kf T16,kf T17,kf T18,kf T19,kf T20,kf T21,kf T22,kf T23,kf T24,kf T25,kf T26,kf T27,kf T28,kf T29,kf T30,kf T31,kf T32,kf T33,kf T34,kf T35,kf T36,kf T37,kf T38,kf T39,kf T40,kf T41,kf T42,kf T43,kf T44,kf T45,kf T46,kf T47,kf T48,trivial⟩;exact⟨⟨A,c,t,z,pw,k,λ_ _ _=>AllM.at (l:=mt (lv 0)) ⟨wq M0,wq M1,wq M2,wq M3,wq M4,wq M5,wq M6,wq M7,wq M8,wq M9,wq M10,trivial⟩,⟨.inl λ_ _=>rfl,.inl λ_ _=>rfl,trivial⟩,⟨V2 (fns:=fns (lv 0)) A W0 ⟨rfl,SF,rfl,SF,rfl,SF,rfl,SF,rfl,SF,rfl,SF,rfl,SF,rfl,SF,rfl,SF,rfl,SF,rfl,SF,rfl,SF,rfl,SF,rfl,SF,rfl,SF,trivial⟩,trivial⟩⟩,rE I0,rE I1⟩
 | succ n ih=>
  have A:AllOf (FnAt P w K mg base cl (n+1)) (fns (lv (n+1))):=⟨kx (b:=fB _) T0 ih.1,kx (b:=dY _) T1 ih.1,kx (b:=aD _) T2 ih.1,kx (b:=dM _) T3 ih.1,kx (b:=dR _) T4 ih.1,kx (b:=cR _) T5 ih.1,kx (b:=d9 _) T6 ih.1,kx (b:=fQ _) T7 ih.1,kx (b:=cC _) T8 ih.1,kx (b:=dh _) T9 ih.1,kx (b:=aB _) T10 ih.1,kx (b:=bL _) T11 ih.1,kx (b:=eY _) T12 ih.1,kx (b:=fO _) T13 ih.1,kx (b:=cW _) T14 ih.1,kx (b:=cM _) T15 ih.1,kx (b:=fY _) T16 ih.1,kx (b:=fL _) T17 ih.1,kx (b:=fM _) T18 ih.1,kx (b:=gA _) T19 ih.1,kx (b:=eF _) T20 ih.1,kx (b:=f9 _) T21 ih.1,kx (b:=fV _) T22 ih.1,kx (b:=gb _) T23 ih.1,kx (b:=gj _) T24 ih.1,kx (b:=du _) T25 ih.1,kx (b:=cU _) T26 ih.1,kx (b:=bA _) T27 ih.1,kx (b:=aK _) T28 ih.1,kx (b:=fG _) T29 ih.1,kx (b:=cX _) T30 ih.1,kx (b:=dD _) T31 ih.1,kx (b:=dU _) T32 ih.1,kx (b:=eG _) T33 ih.1,kx (b:=aH _) T34 ih.1,kx (b:=aQ _) T35 ih.1,kx (b:=bN _) T36 ih.1,kx (b:=eO _) T37 ih.1,kx (b:=cI _) T38 ih.1,kx (b:=bW _) T39 ih.1,kx (b:=bB _) T40 ih.1,kx (b:=aL _) T41 ih.1,kx (b:=cL _) T42 ih.1,kx (b:=cu _) T43 ih.1,kx (b:=bY _) T44 ih.1,kx (b:=b7 _) T45 ih.1,kx (b:=aU _) T46 ih.1,kx (b:=cg _) T47 ih.1,kx (b:=dI _) T48 ih.1,trivial⟩;exact⟨⟨A,c,t,z,pw,k,λ_ _ _=>AllM.at (l:=mt (lv (n+1))) ⟨uZ (b:=cO _) M0 ih.1,uZ (b:=cP _) M1 ih.1,uZ (b:=aW _) M2 ih.1,uZ (b:=aY _) M3 ih.1,uZ (b:=aq _) M4 ih.1,uZ (b:=bc _) M5 ih.1,uZ (b:=bM _) M6 ih.1,uZ (b:=bw _) M7 ih.1,uZ (b:=aP _) M8 ih.1,uZ (b:=bG _) M9 ih.1,uZ (b:=b8 _) M10 ih.1,trivial⟩,⟨.inr ⟨n,zj _,ih.2.1⟩,.inr ⟨n,zj _,ih.2.2⟩,trivial⟩,⟨V2 (fns:=fns (lv (n+1))) A W0 ⟨rfl,SF,rfl,SF,rfl,SF,rfl,SF,rfl,SF,rfl,SF,rfl,SF,rfl,SF,rfl,SF,rfl,SF,rfl,SF,rfl,SF,rfl,SF,rfl,SF,rfl,SF,trivial⟩,trivial⟩⟩,XH (b:=bJ _) I0 ih.1,XH (b:=cA _) I1 ih.1⟩
end K13
namespace K13
open PySem L2 ML
theorem Cf{α:Type}{β:Type}{c:Prop}[Decidable c]{f g:α->β}{x:α}:(if c then f else g) x=if c then f x else g x:=by split<;>rfl
local macro_rules
 |`(tactic|simp![$l,*])=>`(tactic|simp[step,kg,zk,kP,ka,ky,kz,zI,zD,eD,fI,ze,eC,zi,vt,zh,ko,KS,ug,kb,eT,ub,lg,bnd,jv,uc,Cf,$l,*])
noncomputable def forms:List (Ç×(Int×Int)):=[("number",(2,2)),("name",(2,2)),("read",(2,2)),("write",(3,2)),("add",(3,1)),("less",(3,1)),("then",(3,1)),("if",(4,1)),("loop",(3,1)),("let",(4,2)),("own",(4,2)),("say",(2,1)),("ask",(1,1)),("do",(2,2)),("call",(4,2))]
noncomputable def fm(x:Ç):Option (Int×Int):=forms.lookup x
theorem Be:t_FORMS=forms.map λp=>(p.1,.tup [.int p.2.1,.int p.2.2]):=rfl
theorem Vd{α β:Type}(f:α->β)(x:Ç):∀l:List (Ç×α),(l.map λp=>(p.1,f p.2)).lookup x=(l.lookup x).map f
 | []=>rfl
 | (k,v)::r=>by
  erw[zx,kO];cases x==k with
  | true=>rfl
  | false=>exact Vd f x r
def HS(x:Ç):t_FORMS.lookup x=(fm x).map λp=>W.tup [.int p.1,.int p.2]:=by
 rw[Be];exact Vd (λp:Int×Int=>W.tup [.int p.1,.int p.2]) x forms
def ud{l:List W}(d:dt n (.tup l)=Ã):∃m,n=m+1/\l.length<=1000/\∀w∈l,dt m w=Ã:=by
 cases n with
 | zero=>cases d
 | succ m=>
  unfold dt at d;rw[zq] at d;exact⟨m,rfl,qe d.1,λw hw=>kW.mp d.2 w hw⟩
def ux:zC (.tup (x::r)) (.int 0) h=À (x,h):=by simp[zC,atI,xD]
def xo:zC (.tup (x::y::r)) (.int 1) h=À (y,h):=by
 have:(1:Int)<(r.length:Int)+1+1:=by omega
 simp[zC,atI,xD,this]
def lf:zC (.tup (x::y::z::r)) (.int 2) h=À (z,h):=by
 have:(2:Int)<(r.length:Int)+1+1+1:=by omega
 simp[zC,atI,xD,this]
def Zk:zC (.tup (x::y::z::u::r)) (.int 3) h=À (u,h):=by
 have:(3:Int)<(r.length:Int)+1+1+1+1:=by omega
 simp[zC,atI,xD,this]
def D3{l:List W}{i:Int}(h0:0<=i)(h1:i<l.length)(e:l[i.toNat]?=À w):zC (.tup l) (.int i) h=À (w,h):=by
 have hj:i.toNat<l.length:=by omega
 have:l[i.toNat]=w:=by rw[zE hj] at e;exact zZ e
 simp[zC,atI,xD,h0,h1,this]
noncomputable def qV:W->List W
 | .tup (.str x::r)=>if x=="call" then (match r with
   | [_,.tup a,.tup b]=>a++b
   | _=>[]) else (match fm x with
   | some p=>r.drop (p.2.toNat-1)
   | none=>[])
 | _=>[]
def mR{l:List W}{k:Nat}:cutW l (À (k:Int)) Á=l.drop k:=by
 unfold cutW;have e1:HT.sIx l.length 0 (À (k:Int))=min k l.length:=by
  have:¬((k:Int)<0):=by omega
  simp[HT.sIx,this]
 have e2:HT.sIx l.length l.length Á=l.length:=rfl;rw[e1,e2];have:l.drop (min k l.length)=l.drop k:=by
  by_cases h:k<=l.length
  .rw[Nat.min_eq_left h]
  .rw[Nat.min_eq_right ∅,yt,yZ ∅]
 rw[this];apply yX
 rw[vh];omega
def DS{p:Int×Int}(e:fm x=À p):1<=p.2/\p.2<=4:=by
 have:∀(l:List (Ç×(Int×Int))),(l.all λq=>decide (1<=q.2.2/\q.2.2<=4))=Ã->l.lookup x=À p->1<=p.2/\p.2<=4:=by
  intro l;induction l with
  | nil=>intro _ e;cases e
  | cons q r ih=>
   obtain⟨k,v⟩:=q;intro h e;rw[jw,zq] at h;rw[kO] at e;split at e
   .cases e;exact qe h.1
   .exact ih h.2 e
 exact this forms (by decide) e
def vE(ks:List Ç):(zS ks).length=ks.length:=by simp[zS]
def VZ(d:dt (n+1) w=Ã):∀v∈qV w,dt n v=Ã:=by
 intro v hv;unfold qV at hv;split at hv
 .rename_i x r
  obtain⟨m,e,hl,hd⟩:=ud d;cases e;split at hv
  .split at hv
   .rename_i a b
    rename_i z0;cases n with
    | zero=>have:=hd (.tup a) (by simp);cases this
    | succ n=>
    obtain⟨m1,e1,la,da⟩:=ud (hd (.tup a) (by simp));obtain⟨m2,e2,lb,db⟩:=ud (hd (.tup b) (by simp));cases e1;cases e2;rcases zU.mp hv with h | h
    .exact jS (da v h) (vB _)
    .exact jS (db v h) (vB _)
   .simp at hv
  .split at hv
   .exact hd v (zM _ (qL hv))
   .simp at hv
 .simp at hv
def JF(d:dt n w=Ã):(qV w).length<=2000:=by
 unfold qV;split
 .rename_i x r
  obtain⟨m,rfl,hl,hd⟩:=ud d;split
  .split
   .rename_i a b
    obtain⟨m1,e1,la,da⟩:=ud (hd (.tup a) (by simp));obtain⟨m2,e2,lb,db⟩:=ud (hd (.tup b) (by simp));rw[zQ];omega
   .simp
  .split
   .rw[vh]
    simp at hl;omega
   .simp
 .simp
def at0{α:Type}(h:List α)(o:α):(h++[o])[h.length]?=À o:=by simp
def oM{α:Type}(h:List α)(o o':α):(h++[o]).set h.length o'=h++[o']:=by rw[jK _ _ (zj _)];simp
noncomputable def up:Nat->Fs->Fs
 | 0,F=>F
 | n+1,F=>step (up n F)
def zw(e:a ρ h=À (.nx ρ',h')):zk a b ρ h=b ρ' h':=by unfold zk;rw[e]
def xc(e:a ρ h=À (.ret w,h')):zk a b ρ h=À (.ret w,h'):=by unfold zk;rw[e]
def u4:zC (.fls (a::r)) (.int 0) h=À (a,h):=by simp[zC,getL,atI,xD]
def tD:zC (.fls (a::b::r)) (.int 1) h=À (b,h):=by
 have:(1:Int)<(r.length:Int)+1+1:=by omega
 simp[zC,getL,atI,xD,this]
noncomputable abbrev th(x:Ç)(r:List W):W:=.tup (.str x::r)
def Qv{l:List W}(hk:k<=l.length):cutW l Á (À (k:Int))=l.take k:=by
 unfold cutW;have e1:HT.sIx l.length l.length (À (k:Int))=k:=by
  have:¬((k:Int)<0):=by omega
  simp[HT.sIx,this];omega
 have e2:HT.sIx l.length 0 Á=0:=rfl;rw[e1,e2];simp
def XQ:cutW (x::r) (À 1) Á=r:=by
 have:=mR (l:=x::r) (k:=1);simpa using this
def ints_map(l:List W)(f:W->Int):intsOf (l.map λw=>.int (f w))=À (l.map f):=by
 induction l with
 | nil=>rfl
 | cons x r ih=>erw[zx];unfold intsOf;rw[ih]
def filter_true{α:Type}(l:List α):(l.filter λ_=>Ã)=l:=List.filter_eq_self.mpr (by simp)
def YA{l:List W}(d:dt n (.fls l)=Ã)(hn:n<=60):eqB h (.fls l) (.fls [])=À l.isEmpty:=by
 have e1:=uK (h:=h) d (show n<=deep from hn);have e2:=uK (h:=h) (show dt 1 (.fls [])=Ã from rfl) (show 1<=deep by decide);unfold eqB;erw[pQ,e1,e2];congr 1
 cases n with
 | zero=>cases d
 | succ n=>
  cases l<;>simp[toD,ó,Ġ]
noncomputable def qk(ns:List Int):W:=.fls (ns.map W.int)
theorem C3{ns:List Int}(h:ns.length<=63):dt 2 (qk ns)=Ã:=by
 unfold qk dt;rw[zq];refine⟨jX (by simp;omega),kW.mpr λw hw=>?_⟩;obtain⟨i,_,rfl⟩:=jf.mp hw;rfl
noncomputable def ba(ns:List Int)(k:Int):Int:=if ns=[] then 7*k else ns.getD (k%ns.length).toNat 0+6553*(k/ns.length)
def DO{ns:List Int}(hl:ns.length<=63):(step F).cN [qk ns,.int k] h=À (.int (ba ns k),h):=by
 refine wf (n:=1) ?_ rfl;have eq:=YA (h:=h) (C3 hl) ∅;have sm:(small 7||small k)=Ã:=by rw[show small 7=Ã by decide];rfl
 cases ns with
 | nil=>
  have N7:eqB h (qk []) (.fls [])=À Ã:=eq;simp![cI,vS,cap,N7,kH,sm,ba]
 | cons n r=>
  have N7:eqB h (qk (n::r)) (.fls [])=À Â:=eq;have hp:(0:Int)<(r.length:Int)+1:=by omega
  have hb:(r.length:Int)+1<1073741824:=by simp at hl;omega
  have RD:=vG k (show((r.length:Int)+1)≠0 by omega);have SQ:=qY k hp;have hX:kN [qk (n::r)] h=À (.int ((r.length:Int)+1),h):=by simp[kN,qk,getL]
  have Dx:zC (qk (n::r)) (.int (k%((r.length:Int)+1))) h=À (.int ((n::r).getD (k%((r.length:Int)+1)).toNat 0),h):=by
   have hj:(k%((r.length:Int)+1)).toNat<(n::r).length:=by simp;omega
   have e1:((n::r).map W.int)[(k%((r.length:Int)+1)).toNat]?=À (.int ((n::r).getD (k%((r.length:Int)+1)).toNat 0)):=by
    rw[jb,zE hj];erw[yE,List.getD,zE hj,Option.getD_some]
   have e2:atI ((n::r).map W.int) (k%((r.length:Int)+1))=À (.int ((n::r).getD (k%((r.length:Int)+1)).toNat 0)):=by
    unfold atI xD;rw[z9 RD,z9 (by simp;omega)];exact e1
   erw[zC,qk,getL,e2]
  have RE:(small 6553||small (k/((r.length:Int)+1)))=Ã:=by rw[show small 6553=Ã by decide];rfl
  simp![cI,vS,cap,N7,hX,y7,hp,Dx,af,hb,kH,RE,addW,qc,ba]
noncomputable def bP(ns:List Int)(k:Int):Int:=(ba ns k%2147483563*69069+104723*(k+1))%2147483563
noncomputable def bq(ns:List Int)(k:Int):Int:=(bP ns k*bP ns k+bP ns k/3)%2147483399
noncomputable def vw(ns:List Int)(k many:Int):Int:=(bq ns k*bq ns k+bq ns k/7)%2147483647/11%many
def nj{i:Int}(h0:0<=i)(h1:i<2147483648):small i=Ã:=by
 unfold small;exact jX ⟨by omega,by omega⟩
def uY{ns:List Int}(hl:ns.length<=63)(hm:0<many):(step (step F)).aa [qk ns,.int k,.int many] h=À (.int (vw ns k many),h):=by
 refine wf (n:=1) ?_ rfl;have e:=λh=>DO (F:=F) (k:=k) (h:=h) hl
 generalize step F=G at e;have a1:0<=bP ns k/\bP ns k<2147483563:=⟨vG _ ∅,qY _ ∅⟩;have a2:0<=bq ns k/\bq ns k<2147483399:=⟨vG _ ∅,qY _ ∅⟩;have c0:0<=ba ns k%2147483563/\ba ns k%2147483563<2147483563:=⟨vG _ ∅,qY _ ∅⟩;have s1:(small (ba ns k%2147483563)||small 69069)=Ã:=by rw[nj c0.1 ∅];rfl
 have s2:(small 104723||small (k+1))=Ã:=by rw[show small 104723=Ã by decide];rfl
 have s3:(small (bP ns k)||small (bP ns k))=Ã:=by rw[nj a1.1 ∅];rfl
 have s4:(small (bq ns k)||small (bq ns k))=Ã:=by rw[nj a2.1 ∅];rfl
 have m1:∀h,kH (.int (ba ns k%2147483563)) (.int 69069) h=À (.int (ba ns k%2147483563*69069),h):=λh=>by erw[kH,s1,kE]
 have m2:∀h,kH (.int 104723) (.int (k+1)) h=À (.int (104723*(k+1)),h):=λh=>by erw[kH,s2,kE]
 have m3:∀h,kH (.int (bP ns k)) (.int (bP ns k)) h=À (.int (bP ns k*bP ns k),h):=λh=>by erw[kH,s3,kE]
 have m4:∀h,kH (.int (bq ns k)) (.int (bq ns k)) h=À (.int (bq ns k*bq ns k),h):=λh=>by erw[kH,s4,kE]
 have f1:(ba ns k%2147483563*69069+104723*(k+1))%2147483563=bP ns k:=rfl;have f2:(bP ns k*bP ns k+bP ns k/3)%2147483399=bq ns k:=rfl;have f3:(bq ns k*bq ns k+bq ns k/7)%2147483647/11%many=vw ns k many:=rfl;have b1:(zI (zi y7 (zi addW (zi kH (zi y7 (zh G.cN [ze 0,ze 1]) (PL 2147483563)) (PL 69069)) (zi kH (PL 104723) (zi addW (ze 1) (PL 1)))) (PL 2147483563)) (zD 3)) [À (qk ns),À (.int k),À (.int many),Á] h=À (.nx [À (qk ns),À (.int k),À (.int many),À (.int (bP ns k))],h):=by
  simp![e,y7,m1,m2,addW,qc,f1]
 have b2:(zI (zi y7 (zi addW (zi kH (ze 3) (ze 3)) (zi af (ze 3) (PL 3))) (PL 2147483399)) (zD 3)) [À (qk ns),À (.int k),À (.int many),À (.int (bP ns k))] h=À (.nx [À (qk ns),À (.int k),À (.int many),À (.int (bq ns k))],h):=by
  simp![y7,m3,af,addW,qc,f2]
 have b3:(ka (zi y7 (zi af (zi y7 (zi addW (zi kH (ze 3) (ze 3)) (zi af (ze 3) (PL 7))) (PL 2147483647)) (PL 11)) (ze 2))) [À (qk ns),À (.int k),À (.int many),À (.int (bq ns k))] h=À (.ret (.int (vw ns k many)),h):=by
  simp![y7,m4,af,addW,qc,hm,f3]
 have row:bW G [À (qk ns),À (.int k),À (.int many),Á] h=À (.ret (.int (vw ns k many)),h):=by
  unfold bW;rw[zw b1,zw b2,b3]
 erw[kg,zp,zV,kE,zx,jk,Æ,jl,kJ];erw[row]
def kG(hm:0<many):0<=vw ns k many/\vw ns k many<many:=⟨vG _ ∅,qY _ hm⟩
def ff{l:List W}(hl:l.length<=1000)(h:∀w∈l,dt n w=Ã):dt (n+1) (.tup l)=Ã:=by
 unfold dt;rw[zq];exact⟨jX hl,kW.mpr h⟩
inductive Sh(rl:List W)(k:Nat)(H:List Ç):W->Prop
 | number (i:Int):Sh rl k H (th "number" [.int i])
 | name (v:Ç):Sh rl k H (th "name" [.str v])
 | read (v:Ç):Sh rl k H (th "read" [.str v])
 | doo (v:Ç) (hv:v∈H):Sh rl k H (th "do" [.str v])
 | ask:Sh rl k H (th "ask" [])
 | write (v:Ç) (a:List W):Sh rl k H (th "write" [.str v,.tup a])
 | say (a:List W):Sh rl k H (th "say" [.tup a])
 | lett (v:Ç) (a b:List W):Sh rl k H (th "let" [.str v,.tup a,.tup b])
 | own (v:Ç) (a b:List W):Sh rl k H (th "own" [.str v,.tup a,.tup b])
 | add (a b:List W):Sh rl k H (th "add" [.tup a,.tup b])
 | less (a b:List W):Sh rl k H (th "less" [.tup a,.tup b])
 | thenn (a b:List W):Sh rl k H (th "then" [.tup a,.tup b])
 | loop (a b:List W):Sh rl k H (th "loop" [.tup a,.tup b])
 | iff (a b c:List W):Sh rl k H (th "if" [.tup a,.tup b,.tup c])
 | call (i:Nat) (a b:List W) (hi:i<k) (ns:List W) (hs:List Ç) (body:W) (e:rl[i]?=À (.tup [.tup ns,.tup (zS hs),body])) (lb:b.length=hs.length):Sh rl k H (th "call" [.int i,.tup a,.tup b])
inductive Pn:W->Prop
 | mk (x:Ç) (r:List W) (p:Int×Int) (hc:(x==("call":Ç))=Â) (hf:fm x=À p) (hp:r.filter (tyB .tuple)=qV (th x r)):Pn (th x r)
def Sh.split{rl:List W}{H:List Ç}(h:Sh rl k H w):Pn w\/∃(i:Nat) (a b:List W) (ns:List W) (hs:List Ç) (body:W),w=th "call" [.int i,.tup a,.tup b]/\i<k/\rl[i]?=À (.tup [.tup ns,.tup (zS hs),body]):=by
 have key:∀(x:Ç) (p:Int×Int),(x==("call":Ç))=Â->fm x=À p->∀r:List W,r.filter (tyB .tuple)=r.drop (p.2.toNat-1)->Pn (th x r):=by
  intro x p hc hf r hr;refine .mk x r p hc hf ?_;erw[qV,hc,hf,hr];rfl
 cases h with
 | number i=>exact .inl (key _ (2,2) ⋯ ⋯ _ (by simp[tyB]))
 | name v=>exact .inl (key _ (2,2) ⋯ ⋯ _ (by simp[tyB]))
 | read v=>exact .inl (key _ (2,2) ⋯ ⋯ _ (by simp[tyB]))
 | doo v hv=>exact .inl (key _ (2,2) ⋯ ⋯ _ (by simp[tyB]))
 | ask=>exact .inl (key _ (1,1) ⋯ ⋯ _ (by simp))
 | write v a=>exact .inl (key _ (3,2) ⋯ ⋯ _ (by simp[tyB]))
 | say a=>exact .inl (key _ (2,1) ⋯ ⋯ _ (by simp[tyB]))
 | lett v a b=>exact .inl (key _ (4,2) ⋯ ⋯ _ (by simp[tyB]))
 | own v a b=>exact .inl (key _ (4,2) ⋯ ⋯ _ (by simp[tyB]))
 | add a b=>exact .inl (key _ (3,1) ⋯ ⋯ _ (by simp[tyB]))
 | less a b=>exact .inl (key _ (3,1) ⋯ ⋯ _ (by simp[tyB]))
 | thenn a b=>exact .inl (key _ (3,1) ⋯ ⋯ _ (by simp[tyB]))
 | loop a b=>exact .inl (key _ (3,1) ⋯ ⋯ _ (by simp[tyB]))
 | iff a b c=>exact .inl (key _ (4,1) ⋯ ⋯ _ (by simp[tyB]))
 | call i a b hi ns hs body e lb=>exact .inr ⟨i,a,b,ns,hs,body,rfl,hi,e⟩
def fv(i:Int)(a b:List W):qV (th "call" [.int i,.tup a,.tup b])=a++b:=by simp[qV]
noncomputable def okd(rl:List W)(k:Nat)(H:List Ç):Nat->W->Prop
 | 0,_=>False
 | n+1,w=>Sh rl k H w/\∀p∈qV w,okd rl k H n p
noncomputable def iO(l:List (Key×W)):Prop:=∀p∈l,∃v,p.2=.int v
def BF(h:iO l):iO (j2 l k (.int v)):=by
 intro p hp;unfold j2 at hp;split at hp
 .obtain⟨q,hq,rfl⟩:=jf.mp hp
  split
  .exact⟨v,rfl⟩
  .exact h q hq
 .rcases zU.mp hp with z | z
  .exact h p z
  .simp at z;subst z;exact⟨v,rfl⟩
theorem rf:∀{more l:List (Key×W)},iO l->iO more->iO (qv l more)
 | [],l,h,_=>h
 | (k,w)::r,l,h,hm=>by
  obtain⟨v,e⟩:=hm (k,w) kj;simp only at e;subst e;have:=rf (more:=r) (l:=j2 l k (.int v)) (BF h) λp hp=>hm p (zM _ hp)
  exact this
def Ba(h:iO l):∃v,(vF l k).getD (.int 1)=.int v:=by
 unfold vF;cases e:l.find? λkv=>decide (kv.1=k) with
 | none=>exact⟨1,rfl⟩
 | some p=>
  obtain⟨v,hv⟩:=h p (vR e);exact⟨v,by simp[hv]⟩
structure RulesGood(rl:List W):Prop where
 g:∀i,i<rl.length->∃(ns:List W) (hs:List Ç) (body:W),rl[i]?=À (.tup [.tup ns,.tup (zS hs),body])/\dt 60 body=Ã/\okd rl i hs 3 body/\hs.length<=4
noncomputable def WOk(G:Fs)(rl:List W)(k n:Nat):Prop:=∀(Hd:List Ç) (w:W) (hd:List (Key×W)),okd rl k Hd n w->dt 60 w=Ã->iO hd->∃v:Int,∀h,G.aj [.tup rl,w,.fdc hd] h=À (.int v,h)
noncomputable def wv(G:Fs)(rl:List W)(hd:List (Key×W))(w:W):Int:=match G.aj [.tup rl,w,.fdc hd] [] with
 | some (.int v,_)=>v
 | _=>0
def WOk.at{G:Fs}(H:WOk G rl k n)(o:okd rl k Hd n w)(d:dt 60 w=Ã)(q:iO hd)(h:MH):G.aj [.tup rl,w,.fdc hd] h=À (.int (wv G rl hd w),h):=by
 obtain⟨v,e⟩:=H _ w hd o d q;unfold wv;rw[e []];exact e h
noncomputable def four:List Ç:=["number","name","ask","read"]
noncomputable abbrev ρw(rl:List W)(w:W)(hd:List (Key×W))(x:Ç)(o4 o5 o6:Option W):En:=[À (.tup rl),À w,À (.fdc hd),À (.str x),o4,o5,o6]
theorem nJ(F:Fs):aU F=zk (zI (zi zC (ze 1) (PL 0)) (zD 3)) (zk (w1 F) (zk (w2 F) (zk (w3 F) (zk (w4 F) (zk (w5 F) (w6 F)))))):=rfl
def in4(d:dt n (.str x)=Ã)(hn:n<=60):inB h (.str x) (.tup [.str "number",.str "name",.str "ask",.str "read"])=À (uo four (.str x)):=m9 (l:=four) d hn ⋯
def Fg(d:dt n (.str x)=Ã)(hn:n<=60)(q:uo four (.str x)=Ã):w1 F (ρw rl w hd x Á Á Á) h=À (.ret (.int 1),h):=by
 have c4:(4:Nat)<=cap:=by decide
 have e:=in4 (h:=h) d hn;rw[q] at e;simp![w1,zt,c4,e]
def sx(d:dt n (.str x)=Ã)(hn:n<=60)(q:uo four (.str x)=Â):w1 F (ρw rl w hd x Á Á Á) h=À (.nx (ρw rl w hd x Á Á Á),h):=by
 have c4:(4:Nat)<=cap:=by decide
 have e:=in4 (h:=h) d hn;rw[q] at e;simp![w1,zt,c4,e]
def JQ(q:(x==("do":Ç))=Â):w2 F (ρw rl w hd x Á Á Á) h=À (.nx (ρw rl w hd x Á Á Á),h):=by
 simp![w2,w8,q]
def Xk(q:(x==("call":Ç))=Â):w3 F (ρw rl w hd x Á Á Á) h=À (.nx (ρw rl w hd x Á Á Á),h):=by
 simp![w3,w8,q]
def Vv(l:List (Ç×W))(f:W->Int):pairsOf (l.map λp=>.tup [.str p.1,.int (f p.2)])=À (l.map λp=>(.str p.1,.int (f p.2))):=by
 induction l with
 | nil=>rfl
 | cons x r ih=>erw[zx];unfold pairsOf;rw[ih]
theorem Yl(l:List (Ç×W))(f:W->Int):keysOf (l.map λp=>(W.str p.1,W.int (f p.2)))=À (l.map λp=>(.inr p.1,.int (f p.2))):=by
 induction l with
 | nil=>rfl
 | cons x r ih=>erw[zx];unfold keysOf;rw[ih];rfl
def ZG(hs:List Ç)(b:List W):(zS hs).zip b=(hs.zip b).map λp=>(W.str p.1,p.2):=by
 induction hs generalizing b with
 | nil=>rfl
 | cons x r ih=>
  cases b with
  | nil=>rfl
  | cons y b=>erw[zS,zx,jm,zx] at ih ⊢;rw[ih]
theorem rq:∀{a b:List Ç},zS a=zS b->a=b
 | [],[],_=>rfl
 | [],y::b,h=>by simp[zS] at h
 | x::a,[],h=>by simp[zS] at h
 | x::a,y::b,h=>by
  erw[zS,zx,jN,W.str.injEq] at h;rw[h.1,rq (a:=a) (b:=b) h.2]
def gX(e1:m ρ h=À (w,h'))(e2:g w ρ h'=À (ρ',h2)):zI m g ρ h=À (.nx ρ',h2):=by
 unfold zI;rw[e1];erw[e2]
def tF{f:List W->M W}(e:m ρ h=À (w,h')):zh f [m] ρ h=f [w] h':=by
 simp[zh,ko,bnd,e]
def ZS{rl:List W}(hr:RulesGood rl)(hk:k<=rl.length)(H:WOk G rl k n)(HB:∀i,i<k->WOk G rl i 3):WOk (step G) rl k (n+1):=by
 intro Hd w hd o d q;suffices hs:∃v:Int,∀h,aU G [À (.tup rl),À w,À (.fdc hd),Á,Á,Á,Á] h=À (.ret (.int v),h) by
  obtain⟨v,e⟩:=hs;refine⟨v,λh=>wf (n:=1) ?_ rfl⟩;erw[kg,zp,zV,kE,zx,jk,Æ,jl,kJ];erw[e h]
 have dp:∀v∈qV w,dt 60 v=Ã:=λv hv=>jS (VZ (n:=59) d v hv) ∅
 have lp:=JF d;have start:∀x r,w=th x r->∀h,(zI (zi zC (ze 1) (PL 0)) (zD 3)) [À (.tup rl),À w,À (.fdc hd),Á,Á,Á,Á] h=À (.nx (ρw rl w hd x Á Á Á),h):=by
  intro x r e h;subst e;simp![ux]
 have dx:∀x r,w=th x r->dt 59 (.str x)=Ã:=by
  intro x r e;subst e;obtain⟨m,e,hl,hd⟩:=ud d;cases e;exact hd _ kj
 have leaf:∀x r,w=th x r->uo four (.str x)=Ã->∃v:Int,∀h,aU G [À (.tup rl),À w,À (.fdc hd),Á,Á,Á,Á] h=À (.ret (.int v),h):=by
  intro x r e hx;refine⟨1,λh=>?_⟩;rw[nJ,zw (start x r e h),xc (Fg (dx x r e) ∅ hx)]
 have inner:∀x r,w=th x r->r.filter (tyB .tuple)=qV w->∀h,w4 G (ρw rl w hd x Á Á Á) h=À (.nx (ρw rl w hd x Á Á (À (.fls ((qV w).map λv=>.int (wv G rl hd v))))),h):=by
  intro x r e hq h;have c:=fh (mi:=vk (u5 (ze 1) (À (PL 1)) Á)) (ks:=[0,2]) (t:=kb (vt (isW .tuple) (ze 0))) (m:=zh G.aj [ze 1,ze 0,ze 2]) (ρ:=ρw rl w hd x Á Á Á) (h:=h) (l:=r) (tyB .tuple) (λv=>.int (wv G rl hd v))
   (by subst e;simp![vk,u5,fe,nz,srcOf,XQ])
   (λv hv H'=>by
    subst e;obtain⟨m,e,hl,AC⟩:=ud d
    simp![Cs (AC v (zM _ hv))])
   (λv hv hy H'=>by
    have MP:v∈qV w:=by rw[<-hq];exact vC.mpr ⟨hv,hy⟩
    simp![H.at (o.2 v MP) (dp v MP) q H'])
   (λv hv _=>by unfold low;rfl)
   (by
    subst e;obtain⟨m,e,hl,AC⟩:=ud d;have:r.length<=1000:=by simp at hl;omega
    exact zK this (by decide))
  rw[hq] at c;unfold w4 zI;rw[c];simp![]
 have other:∀x r,w=th x r->uo four (.str x)=Â->(x==("do":Ç))=Â->(x==("loop":Ç))=Â->Pn w->∃v:Int,∀h,aU G [À (.tup rl),À w,À (.fdc hd),Á,Á,Á,Á] h=À (.ret (.int v),h):=by
  intro x r e h1 h2 h3 hp;refine⟨1+u7 ((qV w).map λv=>wv G rl hd v),λh=>?_⟩;cases hp with
  | mk x' r' p hc hf hq=>
   cases e;have e2:=ints_map (qV (th x r)) λv=>wv G rl hd v
   rw[nJ,zw (start x r rfl h),zw (sx (dx x r rfl) ∅ h1),zw (JQ h2),zw (Xk hc),zw (inner x r rfl hq h),
    zw (ρ':=ρw rl (th x r) hd x Á Á (À (.fls ((qV (th x r)).map λv=>.int (wv G rl hd v))))) (h':=h) (by simp![w5,w8,h3])]
   simp![w6,i9,xB,getL,e2,addW,qc]
 have RF:=o.1;have EY:=o.1.split;cases RF with
 | number i=>exact leaf _ _ rfl ⋯
 | name v=>exact leaf _ _ rfl ⋯
 | read v=>exact leaf _ _ rfl ⋯
 | ask=>exact leaf _ _ rfl ⋯
 | doo v=>
  obtain⟨u,hu⟩:=Ba (k:=.inr v) q;refine⟨u,λh=>?_⟩;rw[nJ,zw (start _ _ rfl h),zw (sx (dx _ _ rfl) ∅ ⋯)];refine xc ?_;simp![w2,w8,oh,xA,xo,keyOf,hu]
 | write v a=>
  rcases EY with hp | ⟨_,_,_,_,_,_,e,_,_⟩
  .exact other _ _ rfl ⋯ ⋯ ⋯ hp
  .cases e
 | say a=>
  rcases EY with hp | ⟨_,_,_,_,_,_,e,_,_⟩
  .exact other _ _ rfl ⋯ ⋯ ⋯ hp
  .cases e
 | lett v a b=>
  rcases EY with hp | ⟨_,_,_,_,_,_,e,_,_⟩
  .exact other _ _ rfl ⋯ ⋯ ⋯ hp
  .cases e
 | own v a b=>
  rcases EY with hp | ⟨_,_,_,_,_,_,e,_,_⟩
  .exact other _ _ rfl ⋯ ⋯ ⋯ hp
  .cases e
 | add a b=>
  rcases EY with hp | ⟨_,_,_,_,_,_,e,_,_⟩
  .exact other _ _ rfl ⋯ ⋯ ⋯ hp
  .cases e
 | less a b=>
  rcases EY with hp | ⟨_,_,_,_,_,_,e,_,_⟩
  .exact other _ _ rfl ⋯ ⋯ ⋯ hp
  .cases e
 | thenn a b=>
  rcases EY with hp | ⟨_,_,_,_,_,_,e,_,_⟩
  .exact other _ _ rfl ⋯ ⋯ ⋯ hp
  .cases e
 | iff a b c=>
  rcases EY with hp | ⟨_,_,_,_,_,_,e,_,_⟩
  .exact other _ _ rfl ⋯ ⋯ ⋯ hp
  .cases e
 | loop a b=>
  have ep:qV (th "loop" [.tup a,.tup b])=[.tup a,.tup b]:=by
   simp[qV,show(("loop":Ç)=="call")=Â by decide +kernel,show fm "loop" = À (3,1) by decide +kernel]
  refine⟨1+wv G rl hd (.tup a)+3*wv G rl hd (.tup b),λh=>?_⟩;have OQ:=inner _ _ rfl (by rw[ep];simp[tyB]) h;rw[ep] at OQ;rw[nJ,zw (start _ _ rfl h),zw (sx (dx _ _ rfl) ∅ ⋯),zw (JQ ⋯),zw (Xk ⋯),zw OQ];refine xc ?_;have sm:(small 3||small (wv G rl hd (.tup b)))=Ã:=by rw[show small 3=Ã by decide];rfl
  simp![w5,w8,u4,tD,addW,qc,kH,sm]
 | call i a b hi ns hs body e=>
  obtain⟨SR,RH,MB,e',db,ob,SU⟩:=hr.g i ∅;have eb:hs=RH/\body=MB:=by
   rw[e] at e';injection e' with e';injection e' with e';erw[jN,W.tup.injEq,and_true] at e';refine⟨?_,e'.2.2⟩;have:=e'.2.1;exact rq this
  obtain⟨rfl,rfl⟩:=eb;obtain⟨m,em,hl,AC⟩:=ud d;cases em;obtain⟨m1,e1,la,da⟩:=ud (AC (.tup a) (by simp));obtain⟨m2,e2,lb,SX⟩:=ud (AC (.tup b) (by simp));rw[fv] at dp;have op:=o.2;rw[fv] at op;have ei:∀h,zC (.tup rl) (.int (i:Int)) h=À (.tup [.tup ns,.tup (zS hs),body],h):=λh=>D3 ∅ ∅ (by simpa using e)
  have RI:iO (qv [] ((hs.zip b).map λp=>(Ć p.1,W.int (wv G rl hd p.2)))):=by
   refine rf (λp hp=>by simp at hp) λp hp=>?_
   obtain⟨z,_,rfl⟩:=jf.mp hp;exact⟨_,rfl⟩
  refine⟨1+u7 (a.map λv=>wv G rl hd v)+wv G rl (qv [] ((hs.zip b).map λp=>(Ć p.1,W.int (wv G rl hd p.2)))) body,λh=>?_⟩;have c2:(2:Nat)<=cap:=by decide
  have RJ:(hs.zip b).length<=4:=by rw[qi];omega
  have cz:=Hb (mi:=fE [zi zC (zi zC (ze 0) (zi zC (ze 1) (PL 1))) (PL 1),zi zC (ze 1) (PL 3)]) (ks:=[0,2]) (t:=kL) (m:=zh zt [ze 0,zh G.aj [ze 2,ze 1,ze 3]]) (ρ:=ρw rl (th "call" [.int i,.tup a,.tup b]) hd "call" Á Á Á) (h:=h) (l:=(hs.zip b).map λp=>(W.str p.1,p.2)) (λ_ _=>Ã) (λx y=>.tup [x,.int (wv G rl hd y)])
   (by simp![fE,ux,xo,Zk,ei,Zx,aw,ZG])
   (λv hv H'=>rfl)
   (λv hv _ H'=>by
    obtain⟨p,hp,rfl⟩:=jf.mp hv;have hb:p.2∈b:=(qW (show(p.1,p.2)∈hs.zip b from hp)).2;have Lq:p.2∈a++b:=zU.mpr (.inr hb)
    simp![H.at (op _ Lq) (dp _ Lq) q H',zt,c2])
   (λv hv _=>by
    obtain⟨p,hp,rfl⟩:=jf.mp hv
    simp[low,lows])
   (by rw[zP];exact zK RJ (by decide))
  rw[filter_true,vg] at cz;have cs:=fh (mi:=vk (zi zC (ze 1) (PL 2))) (ks:=[0,2]) (t:=kL) (m:=zh G.aj [ze 1,ze 0,ze 2]) (ρ:=ρw rl (th "call" [.int i,.tup a,.tup b]) hd "call" (À (.fdc (qv [] ((hs.zip b).map λp=>(Ć p.1,W.int (wv G rl hd p.2)))))) Á Á) (h:=h) (l:=a) (λ_=>Ã) (λv=>.int (wv G rl hd v))
   (by simp![vk,lf,srcOf])
   (λv hv H'=>rfl)
   (λv hv _ H'=>by
    have Lq:v∈a++b:=zU.mpr (.inl hv)
    simp![H.at (op _ Lq) (dp _ Lq) q H'])
   (λv hv _=>by unfold low;rfl)
   (zK la (by decide))
  rw[filter_true] at cs;have e3:=ints_map a λv=>wv G rl hd v
  have pm:=Vv (hs.zip b) λv=>wv G rl hd v
  have km:=Yl (hs.zip b) λv=>wv G rl hd v
  have EN:=(HB i hi).at (hd:=qv [] ((hs.zip b).map λp=>(Ć p.1,W.int (wv G rl hd p.2)))) ob db RI h;have LC:(hs.zip b).length<=1000:=by omega
  rw[nJ,zw (start _ _ rfl h),zw (sx (dx _ _ rfl) ∅ ⋯),zw (JQ ⋯)];refine xc ?_;have s1:(zI (zh l7 [j1 (fE [zi zC (zi zC (ze 0) (zi zC (ze 1) (PL 1))) (PL 1),zi zC (ze 1) (PL 3)]) 2 [0,2] (eD [zD 0,zD 1]) kL (zh zt [ze 0,zh G.aj [ze 2,ze 1,ze 3]])]) (zD 4)) (ρw rl (th "call" [.int i,.tup a,.tup b]) hd "call" Á Á Á) h=À (.nx (ρw rl (th "call" [.int i,.tup a,.tup b]) hd "call" (À (.fdc (qv [] ((hs.zip b).map λp=>(Ć p.1,W.int (wv G rl hd p.2)))))) Á Á),h):=by
   refine gX ((tF cz).trans ?_) rfl;have:(List.map ((λw:W×W=>W.tup [w.fst,W.int (wv G rl hd w.snd)])∘λp:Ç×W=>(W.str p.fst,p.snd)) (hs.zip b))=(hs.zip b).map λp=>.tup [.str p.1,.int (wv G rl hd p.2)]:=rfl
   rw[this];erw[l7,xA,getL,pm,km];rw[zP,z9 LC]
  have s2:(zI (zh i9 [j1 (vk (zi zC (ze 1) (PL 2))) 1 [0,2] (zD 0) kL (zh G.aj [ze 1,ze 0,ze 2])]) (zD 5)) (ρw rl (th "call" [.int i,.tup a,.tup b]) hd "call" (À (.fdc (qv [] ((hs.zip b).map λp=>(Ć p.1,W.int (wv G rl hd p.2)))))) Á Á) h=À (.nx (ρw rl (th "call" [.int i,.tup a,.tup b]) hd "call" (À (.fdc (qv [] ((hs.zip b).map λp=>(Ć p.1,W.int (wv G rl hd p.2)))))) (À (.int (u7 (a.map λv=>wv G rl hd v)))) Á),h):=by
   refine gX ((tF cs).trans ?_) rfl;erw[i9,xB,getL,e3]
  have t:kb (zi (jv Â) (ze 3) (SD "call")) (ρw rl (th "call" [.int i,.tup a,.tup b]) hd "call" Á Á Á) h=À (Ã,h):=by simp![w8]
  unfold w3 kP;erw[t,kE];rw[zw s1,zw s2];simp![ux,xo,lf,ei,EN,addW,qc]
theorem hU{rl:List W}(hr:RulesGood rl)(F:Fs):∀(m k n:Nat),3*k+n<=m->n<=3->k<=rl.length->WOk (up m F) rl k n
 | m,k,0,_,_,_=>by intro Hd w hd o;cases o
 | 0,k,n+1,h,_,_=>by omega
 | m+1,k,n+1,h,hn,hk=>ZS hr hk (hU hr F m k n ∅ ∅ hk) λi hi=>hU hr F m i 3 ∅ ∅ ∅
inductive D where
 | number (i:Int) | name (v:Ç) | read (v:Ç) | doo (v:Ç) | ask
 | write (v:Ç) (a:D) | say (a:D) | lett (v:Ç) (a b:D) | own (v:Ç) (a b:D)
 | add (a b:D) | less (a b:D) | thenn (a b:D) | loop (a b:D) | iff (a b c:D)
 | call (i:Nat) (as bs:List D)
structure Rule where
 ns:List Ç
 hs:List Ç
 body:D
inductive Vl where
 | int (i:Int) | cell (c:Nat) | hd (d:D) (env:List (Ç×Vl))
abbrev Ev:=List (Ç×Vl)
noncomputable def lk:Ev->Ç->Option Vl
 | [],_=>Á
 | (x,v)::r,y=>if x=y then À v else lk r y
inductive Tch where
 | read (v:Ç) | write (v:Ç) (i:Int) | say (i:Int) | ask
inductive Tr(α:Type) where
 | ret (a:α) | tch (t:Tch) (k:Int->Tr α)
noncomputable def Tr.bind{α β:Type}:Tr α->(α->Tr β)->Tr β
 | .ret a,f=>f a
 | .tch t k,f=>.tch t λv=>(k v).bind f
theorem Tr.bind_assoc{α β γ:Type}(f:α->Tr β)(g:β->Tr γ):∀T:Tr α,(T.bind f).bind g=T.bind λa=>(f a).bind g
 | .ret a=>rfl
 | .tch t k=>by
  erw[Tr.bind];congr 1
  funext v
  exact Tr.bind_assoc f g (k v)
theorem Tr.bind_ret{α:Type}:∀T:Tr α,T.bind .ret=T
 | .ret a=>rfl
 | .tch t k=>by
  erw[Tr.bind];congr 1
  funext v
  exact Tr.bind_ret (k v)
abbrev Tc:=Tr (Int×List Int)
inductive SV where
 | int (i:Int) | cell (c:Nat) | fn (f:List Int->Tc)
abbrev Sv:=Ç->SV
noncomputable def SV.i:SV->Int
 | .int i=>i
 | _=>0
noncomputable def SV.c:SV->Nat
 | .cell i=>i
 | _=>0
noncomputable def SV.f:SV->List Int->Tc
 | .fn f=>f
 | _=>λcs=>.ret (0,cs)
noncomputable def us(ρ:Sv)(x:Ç)(v:SV):Sv:=λy=>if x=y then v else ρ y
noncomputable def SH:List Ç:=["a","b","c","d"]
abbrev Rn:=Nat->List Int->List (List Int->Tc)->List Int->Tc
noncomputable def rp(f:List Int->Tc):Nat->List Int->Tc
 | 0,cs=>.ret (0,cs)
 | n+1,cs=>(f cs).bind λp=>rp f n p.2
mutual
noncomputable def den(R:Rn):D->Sv->List Int->Tc
 | .number i,_,cs=>.ret (i,cs)
 | .name v,ρ,cs=>.ret ((ρ v).i,cs)
 | .read v,ρ,cs=>if v∈SH then .tch (.read v) λx=>.ret (x,cs) else .ret (cs.getD (ρ v).c 0,cs)
 | .doo v,ρ,cs=>(ρ v).f cs
 | .ask,_,cs=>.tch .ask λx=>.ret (x,cs)
 | .write v a,ρ,cs=>(den R a ρ cs).bind λp=>if v∈SH then .tch (.write v p.1) λx=>.ret (x,p.2) else .ret (p.1,p.2.set (ρ v).c p.1)
 | .say a,ρ,cs=>(den R a ρ cs).bind λp=>.tch (.say p.1) λx=>.ret (x,p.2)
 | .lett v a b,ρ,cs=>(den R a ρ cs).bind λp=>den R b (us ρ v (.int p.1)) p.2
 | .own v a b,ρ,cs=>(den R a ρ cs).bind λp=>den R b (us ρ v (.cell p.2.length)) (p.2++[p.1])
 | .add a b,ρ,cs=>(den R a ρ cs).bind λp=>(den R b ρ p.2).bind λq=>.ret ((p.1+q.1)%1009,q.2)
 | .less a b,ρ,cs=>(den R a ρ cs).bind λp=>(den R b ρ p.2).bind λq=>.ret (if p.1<q.1 then 1 else 0,q.2)
 | .thenn a b,ρ,cs=>(den R a ρ cs).bind λp=>den R b ρ p.2
 | .loop a b,ρ,cs=>(den R a ρ cs).bind λp=>rp (λcs=>den R b ρ cs) (p.1%4).toNat p.2
 | .iff a b c,ρ,cs=>(den R a ρ cs).bind λp=>if p.1=0 then den R c ρ p.2 else den R b ρ p.2
 | .call i as bs,ρ,cs=>(ef R as ρ cs).bind λp=>R i p.1 (ua R bs ρ) p.2
noncomputable def ef(R:Rn):List D->Sv->List Int->Tr (List Int×List Int)
 | [],_,cs=>.ret ([],cs)
 | d::r,ρ,cs=>(den R d ρ cs).bind λp=>(ef R r ρ p.2).bind λq=>.ret (p.1::q.1,q.2)
noncomputable def ua(R:Rn):List D->Sv->List (List Int->Tc)
 | [],_=>[]
 | d::r,ρ=>(λcs=>den R d ρ cs)::ua R r ρ
end
noncomputable def ρ0:Sv:=λ_=>.int 0
noncomputable def cρ(r:Rule)(xs:List Int)(fs:List (List Int->Tc)):Sv:=(r.hs.zip fs).foldl (λe p=>us e p.1 (.fn p.2)) ((r.ns.zip xs).foldl (λe p=>us e p.1 (.int p.2)) ρ0)
noncomputable def dk(rs:List Rule):Nat->Rn
 | 0=>λ_ _ _ cs=>.ret (0,cs)
 | k+1=>λi xs fs cs=>if i=k then (match rs[k]? with
   | some r=>den (dk rs k) r.body (cρ r xs fs) cs
   | none=>.ret (0,cs)) else dk rs k i xs fs cs
mutual
noncomputable def cost(B:Nat->Nat->Nat)(h:Nat):D->Nat
 | .number _=>1
 | .name _=>1
 | .read _=>1
 | .doo _=>1+h
 | .ask=>1
 | .write _ a=>cost B h a+2
 | .say a=>cost B h a+2
 | .lett _ a b=>cost B h a+cost B h b+2
 | .own _ a b=>cost B h a+cost B h b+2
 | .add a b=>cost B h a+cost B h b+2
 | .less a b=>cost B h a+cost B h b+2
 | .thenn a b=>cost B h a+cost B h b+2
 | .loop a b=>cost B h a+3*cost B h b+9
 | .iff a b c=>cost B h a+max (cost B h b) (cost B h c)+2
 | .call i as bs=>uJ B h as+B i (uq B h bs)+2
noncomputable def uJ(B:Nat->Nat->Nat)(h:Nat):List D->Nat
 | []=>0
 | d::r=>cost B h d+uJ B h r
noncomputable def uq(B:Nat->Nat->Nat)(h:Nat):List D->Nat
 | []=>0
 | d::r=>max (cost B h d) (uq B h r)
end
noncomputable def ya(rs:List Rule):Nat->Nat->Nat->Nat
 | 0=>λ_ _=>0
 | k+1=>λi h=>if i=k then (match rs[k]? with
   | some r=>cost (ya rs k) h r.body
   | none=>0) else ya rs k i h
theorem l6{rs:List Rule}{i:Nat}{r:Rule}(e:rs[i]?=À r):∀{K:Nat},i<K->dk rs K i=λxs fs cs=>den (dk rs i) r.body (cρ r xs fs) cs
 | 0,h=>by omega
 | K+1,h=>by
  by_cases q:i=K
  .subst q
   funext xs fs cs
   erw[dk,kE,e]
  .funext xs fs cs
   erw[dk,q,je];rw[l6 e (K:=K) ∅]
theorem dS{rs:List Rule}{i:Nat}{r:Rule}(e:rs[i]?=À r):∀{K:Nat},i<K->ya rs K i=λh=>cost (ya rs i) h r.body
 | 0,h=>by omega
 | K+1,h=>by
  by_cases q:i=K
  .subst q
   funext h
   erw[ya,kE,e]
  .funext h
   erw[ya,q,je];rw[dS e (K:=K) ∅]
abbrev vb:=Bool×D×Ev
noncomputable def D.first:D->List D
 | .write _ a=>[a]
 | .say a=>[a]
 | .lett _ a _=>[a]
 | .own _ a _=>[a]
 | .add a b=>[a,b]
 | .less a b=>[a,b]
 | .thenn a b=>[a,b]
 | .loop a _=>[a]
 | .iff a _ _=>[a]
 | .call _ as _=>as
 | _=>[]
noncomputable def uR(b:D):Nat->D
 | 0=>.number 0
 | n+1=>.thenn b (uR b n)
noncomputable def cE(r:Rule)(xs:List Int)(bs:List D)(env:Ev):Ev:=(r.hs.zip bs).foldl (λe p=>(p.1,.hd p.2 env)::e) ((r.ns.zip xs).foldl (λe p=>(p.1,.int p.2)::e) [])
inductive Res where
 | gg (p:List vb) (ws cs:List Int) | tch (t:Tch) (ws:List Int)
inductive S1(rs:List Rule):Bool->D->Ev->List Int->List Int->Res->Prop
 | number {i env ws cs}:S1 rs Â (.number i) env ws cs (.gg [] (i::ws) cs)
 | name {v i env ws cs} (h:lk env v=À (.int i)):S1 rs Â (.name v) env ws cs (.gg [] (i::ws) cs)
 | readS {v env ws cs} (h:v∈SH):S1 rs Â (.read v) env ws cs (.tch (.read v) ws)
 | readO {v c i env ws cs} (h:v∉SH) (hs:dt 1 (.str v)=Ã) (hv:lk env v=À (.cell c)) (hc:cs[c]?=À i):S1 rs Â (.read v) env ws cs (.gg [] (i::ws) cs)
 | doo {v d' Af env ws cs} (h:lk env v=À (.hd d' Af)):S1 rs Â (.doo v) env ws cs (.gg [(Â,d',Af)] ws cs)
 | ask {env ws cs}:S1 rs Â .ask env ws cs (.tch .ask ws)
 | push {d env ws cs} (h:d.first≠[]) (hl:d.first.length<=3):S1 rs Â d env ws cs (.gg (d.first.map (λa=>(Â,a,env))++[(Ã,d,env)]) ws cs)
 | writeS {v a x env ws cs} (h:v∈SH):S1 rs Ã (.write v a) env (x::ws) cs (.tch (.write v x) ws)
 | writeO {v a x c env ws cs} (h:v∉SH) (hs:dt 1 (.str v)=Ã) (hv:lk env v=À (.cell c)) (hc:c<cs.length):S1 rs Ã (.write v a) env (x::ws) cs (.gg [] (x::ws) (cs.set c x))
 | say {a x env ws cs}:S1 rs Ã (.say a) env (x::ws) cs (.tch (.say x) ws)
 | add {a b x y env ws cs}:S1 rs Ã (.add a b) env (y::x::ws) cs (.gg [] ((x+y)%1009::ws) cs)
 | less {a b x y env ws cs}:S1 rs Ã (.less a b) env (y::x::ws) cs (.gg [] ((if x<y then 1 else 0)::ws) cs)
 | thenn {a b x y env ws cs}:S1 rs Ã (.thenn a b) env (y::x::ws) cs (.gg [] (y::ws) cs)
 | iff {a b c x env ws cs}:S1 rs Ã (.iff a b c) env (x::ws) cs (.gg [(Â,if x=0 then c else b,env)] ws cs)
 | loop {a b x env ws cs}:S1 rs Ã (.loop a b) env (x::ws) cs (.gg [(Â,uR b (x%4).toNat,env)] ws cs)
 | lett {v a b x env ws cs}:S1 rs Ã (.lett v a b) env (x::ws) cs (.gg [(Â,b,(v,.int x)::env)] ws cs)
 | own {v a b x env ws cs}:S1 rs Ã (.own v a b) env (x::ws) cs (.gg [(Â,b,(v,.cell cs.length)::env)] ws (cs++[x]))
 | call {pd i as bs r xs env ws cs} (hp:pd=Ã\/as=[]) (hr:rs[i]?=À r) (hx:xs.length=as.length) (ha:as.length=r.ns.length) (hb:bs.length=r.hs.length):S1 rs pd (.call i as bs) env (xs.reverse++ws) cs (.gg [(Â,r.body,cE r xs bs env)] ws cs)
inductive Rep(rs:List Rule):List vb->List Int->List Int->Tr Int->Nat->Prop
 | done {v ws cs c}:Rep rs [] (v::ws) cs (.ret v) c
 | gg {b d env stk ws cs p ws' cs' T c} (h:S1 rs b d env ws cs (.gg p ws' cs')) (r:Rep rs (p++stk) ws' cs' T c):Rep rs ((b,d,env)::stk) ws cs T (c+1)
 | tch {b d env stk ws cs t ws' k c} (h:S1 rs b d env ws cs (.tch t ws')) (r:∀v,Rep rs stk (v::ws') cs (k v) c):Rep rs ((b,d,env)::stk) ws cs (.tch t k) (c+1)
def Rep.mono{T:Tr Int}{c:Nat}(r:Rep rs stk ws cs T c):∀{c':Nat},c<=c'->Rep rs stk ws cs T c':=by
 induction r with
 | done=>intro c' _;exact .done
 | gg h r ih=>
  intro c' hc;obtain⟨c'',rfl⟩:∃c'',c'=c''+1:=⟨c'-1,by omega⟩;exact .gg h (ih ∅)
 | tch h r ih=>
  intro c' hc;obtain⟨c'',rfl⟩:∃c'',c'=c''+1:=⟨c'-1,by omega⟩;exact .tch h λv=>ih v ∅
mutual
noncomputable def Wf(rs:List Rule)(k:Nat):D->List Ç->List Ç->List Ç->Prop
 | .number _,_,_,_=>True
 | .name v,N,_,_=>v∈N
 | .read v,_,O,_=>v∈SH\/v∈O
 | .doo v,_,_,H=>v∈H
 | .ask,_,_,_=>True
 | .write v a,N,O,H=>(v∈SH\/v∈O)/\Wf rs k a N O H
 | .say a,N,O,H=>Wf rs k a N O H
 | .lett v a b,N,O,H=>(v∉O/\v∉H/\dt 1 (.str v)=Ã/\v≠"p")/\Wf rs k a N O H/\Wf rs k b (N++[v]) O H
 | .own v a b,N,O,H=>(v∉N/\v∉H/\dt 1 (.str v)=Ã)/\Wf rs k a N O H/\Wf rs k b N (O++[v]) H
 | .add a b,N,O,H=>Wf rs k a N O H/\Wf rs k b N O H
 | .less a b,N,O,H=>Wf rs k a N O H/\Wf rs k b N O H
 | .thenn a b,N,O,H=>Wf rs k a N O H/\Wf rs k b N O H
 | .loop a b,N,O,H=>Wf rs k a N O H/\Wf rs k b N O H
 | .iff a b c,N,O,H=>Wf rs k a N O H/\Wf rs k b N O H/\Wf rs k c N O H
 | .call i as bs,N,O,H=>i<k/\(∃r,rs[i]?=À r/\as.length=r.ns.length/\bs.length=r.hs.length)/\xl rs k as N O H/\xl rs k bs N O H
noncomputable def xl(rs:List Rule)(k:Nat):List D->List Ç->List Ç->List Ç->Prop
 | [],_,_,_=>True
 | d::r,N,O,H=>Wf rs k d N O H/\xl rs k r N O H
end
structure RsOk(rs:List Rule):Prop where
 w:∀(i:Nat) (r:Rule),rs[i]?=À r->Wf rs i r.body r.ns [] r.hs
 d:∀(i:Nat) (r:Rule),rs[i]?=À r->∀v∈r.ns,v∉r.hs
 l:∀(i:Nat) (r:Rule),rs[i]?=À r->r.ns.length<=3/\r.hs.length<=3
noncomputable def Bs(rs:List Rule)(d:D)(env:Ev)(cs:List Int)(T:Tc)(c:Nat):Prop:=∀(stk:List vb) (ws:List Int) (K:Int×List Int->Tr Int) (c':Nat),(∀v cs',cs.length<=cs'.length->Rep rs stk (v::ws) cs' (K (v,cs')) c')->Rep rs ((Â,d,env)::stk) ws cs (T.bind K) (c+c')
structure EnvR(rs:List Rule)(N O H:List Ç)(env:Ev)(ρ:Sv)(h m:Nat):Prop where
 nm:∀v∈N,∃i,lk env v=À (.int i)/\ρ v=.int i
 ow:∀v∈O,∃c,lk env v=À (.cell c)/\ρ v=.cell c/\c<m/\dt 1 (.str v)=Ã
 hd:∀v∈H,∃d' Af f,lk env v=À (.hd d' Af)/\ρ v=.fn f/\∀cs,m<=cs.length->Bs rs d' Af cs (f cs) h
def EnvR.more{H:List Ç}(e:EnvR rs N O H env ρ h m)(hm:m<=m'):EnvR rs N O H env ρ h m':=
 ⟨e.nm,λv hv=>let ⟨c,a,b,d,s⟩:=e.ow v hv;⟨c,a,b,by omega,s⟩,λv hv=>let ⟨d',Af,f,a,b,q⟩:=e.hd v hv;⟨d',Af,f,a,b,λcs hc=>q cs ∅⟩⟩
theorem xk:lk ((x,v)::env) y=if x=y then À v else lk env y:=rfl
def EnvR.lett{rs:List Rule}{N O H:List Ç}{env:Ev}{ρ:Sv}{h m:Nat}{x:Ç}{i:Int}(e:EnvR rs N O H env ρ h m)(ho:x∉O)(hh:x∉H):EnvR rs (N++[x]) O H ((x,.int i)::env) (us ρ x (.int i)) h m:=by
 refine⟨λv hv=>?_,λv hv=>?_,λv hv=>?_⟩
 .by_cases q:x=v
  .exact⟨i,by rw[xk,z9 q],by unfold us;rw[z9 q]⟩
  .have:v∈N:=by
    rcases zU.mp hv with z | z
    .exact z
    .simp at z;exact absurd z.symm q
   obtain⟨j,a,b⟩:=e.nm v this;exact⟨j,by rw[xk,kI q,a],by unfold us;rw[kI q,b]⟩
 .have q:x≠v:=λz=>ho (z▸hv)
  obtain⟨c,a,b,d⟩:=e.ow v hv;exact⟨c,by rw[xk,kI q,a],by unfold us;rw[kI q,b],d⟩
 .have q:x≠v:=λz=>hh (z▸hv)
  obtain⟨d',Af,f,a,b,z⟩:=e.hd v hv;exact⟨d',Af,f,by rw[xk,kI q,a],by unfold us;rw[kI q,b],z⟩
def EnvR.own{rs:List Rule}{N O H:List Ç}{env:Ev}{ρ:Sv}{h m:Nat}{x:Ç}(e:EnvR rs N O H env ρ h m)(ho:x∉N)(hh:x∉H)(hs:dt 1 (.str x)=Ã):EnvR rs N (O++[x]) H ((x,.cell m)::env) (us ρ x (.cell m)) h (m+1):=by
 refine⟨λv hv=>?_,λv hv=>?_,λv hv=>?_⟩
 .have q:x≠v:=λz=>ho (z▸hv)
  obtain⟨c,a,b⟩:=e.nm v hv;exact⟨c,by rw[xk,kI q,a],by unfold us;rw[kI q,b]⟩
 .by_cases q:x=v
  .exact⟨m,by rw[xk,z9 q],by unfold us;rw[z9 q],by omega,q▸hs⟩
  .have:v∈O:=by
    rcases zU.mp hv with z | z
    .exact z
    .simp at z;exact absurd z.symm q
   obtain⟨j,a,b,c,s⟩:=e.ow v this;exact⟨j,by rw[xk,kI q,a],by unfold us;rw[kI q,b],by omega,s⟩
 .have q:x≠v:=λz=>hh (z▸hv)
  obtain⟨d',Af,f,a,b,z⟩:=e.hd v hv;exact⟨d',Af,f,by rw[xk,kI q,a],by unfold us;rw[kI q,b],λcs hc=>z cs ∅⟩
section
variable{rs:List Rule}{R:Rn}{B:Nat->Nat->Nat}
theorem Bs.mono{T:Tc}{c:Nat}(h:Bs rs d env cs T c)(hc:c<=c'):Bs rs d env cs T c':=λstk ws K c2 hK=>(h stk ws K c2 hK).mono ∅
def gz{d:D}{cs:List Int}{T:Tc}{f:Int×List Int->Tc}{c:Nat}(hf:d.first=[a])(ha:Bs rs a env cs T c)
  (h:∀stk ws K c' x cs',cs.length<=cs'.length->(∀v Ak,cs'.length<=Ak.length->Rep rs stk (v::ws) Ak (K (v,Ak)) c')->Rep rs ((Ã,d,env)::stk) (x::ws) cs' ((f (x,cs')).bind K) (c2+c')):Bs rs d env cs (T.bind f) (c+c2+1):=by
 intro stk ws K c' hK;rw[Tr.bind_assoc];have p:=S1.push (rs:=rs) (d:=d) (env:=env) (ws:=ws) (cs:=cs) (by rw[hf];simp) (by rw[hf];simp);rw[hf] at p;refine(Rep.gg p (ha ((Ã,d,env)::stk) ws _ (c2+c') λx cs' hc=>h stk ws K c' x cs' hc λv Ak A0=>hK v Ak ∅)).mono ∅
def nY{d a b:D}{env:Ev}{cs:List Int}{T:Tc}{U:List Int->Tc}{f:Int->Int->Int}{c c2:Nat}(hf:d.first=[a,b])(ha:Bs rs a env cs T c)(hb:∀cs',cs.length<=cs'.length->Bs rs b env cs' (U cs') c2)
  (h:∀x y ws cs,S1 rs Ã d env (y::x::ws) cs (.gg [] (f x y::ws) cs)):Bs rs d env cs (T.bind λp=>(U p.2).bind λq=>.ret (f p.1 q.1,q.2)) (c+c2+2):=by
 intro stk ws K c' hK;rw[Tr.bind_assoc];have p:=S1.push (rs:=rs) (d:=d) (env:=env) (ws:=ws) (cs:=cs) (by rw[hf];simp) (by rw[hf];simp);rw[hf] at p;refine(Rep.gg p (ha ((Â,b,env)::(Ã,d,env)::stk) ws _ (c2+(c'+1)) λx cs' hc=>?_)).mono (c:=c+(c2+(c'+1))+1) ∅;erw[Tr.bind_assoc];refine hb cs' hc ((Ã,d,env)::stk) (x::ws) _ (c'+1) λy Ak A0=>?_
 exact .gg (h x y ws Ak) (hK _ Ak ∅)
theorem VY{b:D}{env:Ev}{f:List Int->Tc}{c m:Nat}(hb:∀cs,m<=cs.length->Bs rs b env cs (f cs) c):∀(n:Nat) (cs:List Int),m<=cs.length->Bs rs (uR b n) env cs (rp f n cs) (n*(c+2)+1)
 | 0,cs,_=>λstk ws K c' hK=>(Rep.gg .number (hK 0 cs (zj _))).mono ∅
 | n+1,cs,hm=>by
  have:=nY (rs:=rs) (d:=.thenn b (uR b n)) (a:=b) (b:=uR b n) (env:=env) (cs:=cs) (T:=f cs) (U:=rp f n) (f:=λ_ y=>y) rfl (hb cs hm) (λcs' hc=>VY hb n cs' ∅) (λx y ws cs=>.thenn);have e:(rp f (n+1) cs)=((f cs).bind λp=>(rp f n p.2).bind λq=>.ret (q.1,q.2)):=by
   have:∀U:Tc,(U.bind λq=>Tr.ret (q.1,q.2))=U:=λU=>Tr.bind_ret U
   erw[this];rfl
  rw[e];refine this.mono ?_;rw[v9];omega
theorem sD:∀(l:List (Ç×Int)) {env:Ev} {ρ:Sv},EnvR rs N [] [] env ρ h m->EnvR rs (N++l.map (·.1)) [] [] (l.foldl (λe p=>(p.1,.int p.2)::e) env) (l.foldl (λe p=>us e p.1 (.int p.2)) ρ) h m
 | [],env,ρ,e=>by simpa using e
 | (x,i)::r,env,ρ,e=>by
  have:=sD r (e.lett (x:=x) (i:=i) (by simp) (by simp));rw[zY] at this;exact this
theorem Kl{env0:Ev}:∀(l:List (Ç×D×(List Int->Tc))) (H:List Ç) {env:Ev} {ρ:Sv},(∀v∈N,v∉l.map (·.1))->(∀p∈l,∀cs,m<=cs.length->Bs rs p.2.1 env0 cs (p.2.2 cs) h)->EnvR rs N [] H env ρ h m->
  EnvR rs N [] (H++l.map (·.1)) (l.foldl (λe p=>(p.1,.hd p.2.1 env0)::e) env) (l.foldl (λe p=>us e p.1 (.fn p.2.2)) ρ) h m
 | [],H,env,ρ,_,_,e=>by simpa using e
 | (x,d,f)::r,H,env,ρ,hN,hB,e=>by
  have hx:∀v∈N,v≠x:=λv hv z=>hN v hv (by simp[z])
  have e2:EnvR rs N [] (H++[x]) ((x,.hd d env0)::env) (us ρ x (.fn f)) h m:=by
   refine⟨λv hv=>?_,λv hv=>by simp at hv,λv hv=>?_⟩
   .obtain⟨i,a,b⟩:=e.nm v hv
    have q:¬x=v:=λz=>hx v hv z.symm
    exact⟨i,by rw[xk,kI q,a],by unfold us;rw[kI q,b]⟩
   .by_cases q:x=v
    .exact⟨d,env0,f,by rw[xk,z9 q],by unfold us;rw[z9 q],λcs hc=>hB (x,d,f) kj cs hc⟩
    .have:v∈H:=by
      rcases zU.mp hv with z | z
      .exact z
      .simp at z;exact absurd z.symm q
     obtain⟨d',Af,f',a,b,z⟩:=e.hd v this;exact⟨d',Af,f',by rw[xk,kI q,a],by unfold us;rw[kI q,b],z⟩
  have:=Kl r (H++[x]) (λv hv z=>hN v hv (by erw[zx];exact zM _ z)) (λp hp=>hB p (zM _ hp)) e2;rw[zY] at this;exact this
theorem mx{α β:Type}:∀{a:List α} {b:List β},a.length=b.length->(a.zip b).map (·.1)=a
 | [],[],_=>rfl
 | x::a,y::b,h=>by erw[jm,zx];rw[mx (by simpa using h)]
theorem rK{σ:Type}(f:σ->Ç×D->σ)(g:D->List Int->Tc):∀(hs:List Ç) (bs:List D) (s:σ),(hs.zip bs).foldl f s=(hs.zip (bs.map λb=>(b,g b))).foldl (λe p=>f e (p.1,p.2.1)) s
 | [],_,_=>rfl
 | _::_,[],_=>rfl
 | x::hs,b::bs,s=>by erw[jm,zx,jR];exact rK f g hs bs _
theorem pF{σ:Type}(f:σ->Ç×(List Int->Tc)->σ)(g:D->List Int->Tc):∀(hs:List Ç) (bs:List D) (s:σ),(hs.zip (bs.map g)).foldl f s=(hs.zip (bs.map λb=>(b,g b))).foldl (λe p=>f e (p.1,p.2.2)) s
 | [],_,_=>rfl
 | _::_,[],_=>rfl
 | x::hs,b::bs,s=>by erw[jm,zx,jR];exact pF f g hs bs _
theorem Zv:∀(bs:List D) (ρ:Sv),ua R bs ρ=bs.map λb cs=>den R b ρ cs
 | [],_=>by simp[ua]
 | b::bs,ρ=>by erw[ua,zx];rw[Zv bs ρ]
def YL{r:Rule}{xs:List Int}{bs:List D}(hx:xs.length=r.ns.length)(hb:bs.length=r.hs.length)(hd:∀v∈r.ns,v∉r.hs)(hB:∀b∈bs,∀cs,m<=cs.length->Bs rs b env cs (den R b ρ cs) h):EnvR rs r.ns [] r.hs (cE r xs bs env) (cρ r xs (ua R bs ρ)) h m:=by
 unfold cE cρ;rw[Zv,rK (λe p=>(p.1,Vl.hd p.2 env)::e) (λb cs=>den R b ρ cs),pF (λe p=>us e p.1 (.fn p.2)) (λb cs=>den R b ρ cs)];have e0:EnvR rs [] [] [] [] ρ0 h m:=⟨λv hv=>by simp at hv,λv hv=>by simp at hv,λv hv=>by simp at hv⟩;have e1:=sD (r.ns.zip xs) e0;rw[mx hx.symm,kJ] at e1;have zl:(r.hs.zip (bs.map λb=>(b,λcs=>den R b ρ cs))).map (·.1)=r.hs:=mx (by simp[hb])
 have e2:=Kl (env0:=env) (r.hs.zip (bs.map λb=>(b,λcs=>den R b ρ cs))) [] (by rw[zl];exact hd) (λp hp cs hc=>by
  have:=(qW (a:=p.1) (b:=p.2) hp).2;obtain⟨b,hb,e⟩:=jf.mp this;rw[<-e]
  exact hB b hb cs hc) e1
 rw[zl,kJ] at e2;exact e2
noncomputable def BodyOk(rs:List Rule)(R:Rn)(B:Nat->Nat->Nat)(k:Nat):Prop:=∀i,i<k->∀r,rs[i]?=À r->∀(env:Ev) (fs:List (List Int->Tc)) (xs:List Int) (bs:List D) (h m:Nat) (cs:List Int),EnvR rs r.ns [] r.hs (cE r xs bs env) (cρ r xs fs) h m->m<=cs.length->Bs rs r.body (cE r xs bs env) cs (R i xs fs cs) (B i h)
mutual
theorem uD{k:Nat}(HB:BodyOk rs R B k)(lx:RsOk rs):∀(d:D) {N O H:List Ç} {env:Ev} {ρ:Sv} {h m:Nat} {cs:List Int},Wf rs k d N O H->EnvR rs N O H env ρ h m->m<=cs.length->Bs rs d env cs (den R d ρ cs) (cost B h d)
 | .number i,N,O,H,env,ρ,h,m,cs,w,E,hm=>λstk ws K c' hK=>by
  erw[den,cost,Tr.bind];exact(Rep.gg .number (hK i cs (zj _))).mono ∅
 | .name v,N,O,H,env,ρ,h,m,cs,w,E,hm=>λstk ws K c' hK=>by
  erw[Wf] at w;obtain⟨i,a,b⟩:=E.nm v w;erw[den,cost,Tr.bind,b,SV.i];exact(Rep.gg (.name a) (hK i cs (zj _))).mono ∅
 | .read v,N,O,H,env,ρ,h,m,cs,w,E,hm=>λstk ws K c' hK=>by
  erw[Wf] at w;by_cases q:v∈SH
  .erw[den,cost,q,kE,Tr.bind]
   exact(Rep.tch (.readS q) λx=>hK x cs (zj _)).mono ∅
  .obtain⟨c,a,b,lt,ds⟩:=E.ow v (w.resolve_left q)
   have lt':c<cs.length:=by omega
   erw[den,cost,q,je,Tr.bind,b,SV.c];refine(Rep.gg (.readO q ds a (zE lt')) (T:=K (cs.getD c 0,cs)) (c:=c') ?_).mono ∅;rw[j8,zE lt'];exact hK _ cs (zj _)
 | .doo v,N,O,H,env,ρ,h,m,cs,w,E,hm=>λstk ws K c' hK=>by
  erw[Wf] at w;obtain⟨d',Af,f,a,b,z⟩:=E.hd v w;erw[den,cost,b,SV.f];exact(Rep.gg (.doo a) (z cs hm stk ws K c' hK)).mono ∅
 | .ask,N,O,H,env,ρ,h,m,cs,w,E,hm=>λstk ws K c' hK=>by
  erw[den,cost,Tr.bind];exact(Rep.tch .ask λx=>hK x cs (zj _)).mono ∅
 | .write v a,N,O,H,env,ρ,h,m,cs,w,E,hm=>by
  erw[Wf] at w;erw[den,cost];refine(gz (c2:=1) rfl (uD HB lx a w.2 E hm) λstk ws K c' x cs' hc hK=>?_).mono ∅;by_cases q:v∈SH
  .erw[q,kE,Tr.bind]
   exact(Rep.tch (.writeS q) λy=>hK y cs' (zj _)).mono ∅
  .obtain⟨c,a,b,lt,ds⟩:=E.ow v (w.1.resolve_left q)
   erw[q,je,Tr.bind,b,SV.c];exact(Rep.gg (.writeO q ds a ∅) (hK x _ (by rw[jc];exact zj _))).mono ∅
 | .say a,N,O,H,env,ρ,h,m,cs,w,E,hm=>by
  erw[Wf] at w;erw[den,cost];refine(gz (c2:=1) rfl (uD HB lx a w E hm) λstk ws K c' x cs' hc hK=>?_).mono ∅;erw[Tr.bind];exact(Rep.tch .say λy=>hK y cs' (zj _)).mono ∅
 | .lett v a b,N,O,H,env,ρ,h,m,cs,w,E,hm=>by
  erw[Wf] at w;erw[den,cost];refine(gz (c2:=cost B h b+1) rfl (uD HB lx a w.2.1 E hm) λstk ws K c' x cs' hc hK=>?_).mono ∅;exact(Rep.gg .lett (uD HB lx b w.2.2 (E.lett (i:=x) w.1.1 w.1.2.1) (cs:=cs') ∅ stk ws K c' hK)).mono ∅
 | .own v a b,N,O,H,env,ρ,h,m,cs,w,E,hm=>by
  erw[Wf] at w;erw[den,cost];refine(gz (c2:=cost B h b+1) rfl (uD HB lx a w.2.1 E hm) λstk ws K c' x cs' hc hK=>?_).mono ∅;exact(Rep.gg .own (uD HB lx b w.2.2 ((E.more (m':=cs'.length) ∅).own w.1.1 w.1.2.1 w.1.2.2) (cs:=cs'++[x]) (by simp) stk ws K c' λy Ak A0=>hK y Ak (by simp at A0;omega))).mono ∅
 | .add a b,N,O,H,env,ρ,h,m,cs,w,E,hm=>by
  erw[Wf] at w;erw[den,cost];exact(nY (U:=λcs=>den R b ρ cs) (f:=λx y=>(x+y)%1009) rfl (uD HB lx a w.1 E hm) (λcs' hc=>uD HB lx b w.2 E ∅) λx y ws cs=>.add).mono ∅
 | .less a b,N,O,H,env,ρ,h,m,cs,w,E,hm=>by
  erw[Wf] at w;erw[den,cost];exact(nY (U:=λcs=>den R b ρ cs) (f:=λx y=>if x<y then 1 else 0) rfl (uD HB lx a w.1 E hm) (λcs' hc=>uD HB lx b w.2 E ∅) λx y ws cs=>.less).mono ∅
 | .thenn a b,N,O,H,env,ρ,h,m,cs,w,E,hm=>by
  erw[Wf] at w;erw[den,cost];have:=(nY (U:=λcs=>den R b ρ cs) (f:=λx y=>y) rfl (uD HB lx a w.1 E hm) (λcs' hc=>uD HB lx b w.2 E ∅) λx y ws cs=>.thenn);have e:∀U:Tc,(U.bind λq=>Tr.ret (q.1,q.2))=U:=λU=>Tr.bind_ret U
  erw[e] at this;exact this.mono ∅
 | .loop a b,N,O,H,env,ρ,h,m,cs,w,E,hm=>by
  erw[Wf] at w;erw[den,cost];refine(gz (c2:=3*cost B h b+8) rfl (uD HB lx a w.1 E hm) λstk ws K c' x cs' hc hK=>?_).mono ∅;have lt:(x%4).toNat<=3:=by omega
  have u:=VY (rs:=rs) (b:=b) (env:=env) (f:=λcs=>den R b ρ cs) (m:=m) (λcs hm=>uD HB lx b w.2 E hm) (x%4).toNat cs' ∅;refine(Rep.gg .loop (u stk ws K c' hK)).mono ?_;have:=wM (cost B h b+2) lt;omega
 | .iff a b c,N,O,H,env,ρ,h,m,cs,w,E,hm=>by
  erw[Wf] at w;erw[den,cost];refine(gz (c2:=max (cost B h b) (cost B h c)+1) rfl (uD HB lx a w.1 E hm) λstk ws K c' x cs' hc hK=>?_).mono ∅;by_cases q:x=0
  .have s:=S1.iff (rs:=rs) (a:=a) (b:=b) (c:=c) (x:=x) (env:=env) (ws:=ws) (cs:=cs')
   erw[q,kE] at s ⊢;exact(Rep.gg s (uD HB lx c w.2.2 E (cs:=cs') ∅ stk ws K c' hK)).mono ∅
  .have s:=S1.iff (rs:=rs) (a:=a) (b:=b) (c:=c) (x:=x) (env:=env) (ws:=ws) (cs:=cs')
   erw[q,je] at s ⊢;exact(Rep.gg s (uD HB lx b w.2.1 E (cs:=cs') ∅ stk ws K c' hK)).mono ∅
 | .call i as bs,N,O,H,env,ρ,h,m,cs,w,E,hm=>by
  erw[Wf] at w;obtain⟨hi,⟨r,hr,la,lb⟩,wa,wb⟩:=w;intro stk ws K c' hK;erw[den,cost];rw[Tr.bind_assoc];have fin:∀pd,(pd=Ã\/as=[])->∀xs cs',xs.length=as.length->cs.length<=cs'.length->Rep rs ((pd,.call i as bs,env)::stk) (xs.reverse++ws) cs' ((R i xs (ua R bs ρ) cs').bind K) (B i (uq B h bs)+c'+1):=by
   intro pd hp xs cs' hx hc;have e:=YL (rs:=rs) (R:=R) (r:=r) (xs:=xs) (bs:=bs) (env:=env) (ρ:=ρ) (h:=uq B h bs) (m:=m) ∅ lb (lx.d i r hr) (Fy HB lx bs wb E);exact .gg (.call hp hr hx la lb) (HB i hi r hr env (ua R bs ρ) xs bs (uq B h bs) m cs' e ∅ stk ws K c' λv Ak h2=>hK v Ak ∅)
  cases has:as with
  | nil=>
   subst has;erw[ef,Tr.bind,uJ];exact(fin Â (.inr rfl) [] cs rfl (zj _)).mono ∅
  | cons a1 as1=>
   have p:=S1.push (rs:=rs) (d:=.call i as bs) (env:=env) (ws:=ws) (cs:=cs) (by erw[D.first];rw[has];simp) (by erw[D.first];have:=(lx.l i r hr).1;omega);rw[<-has];refine(Rep.gg p ?_).mono (c:=uJ B h as+(B i (uq B h bs)+c'+1)+1) ∅;erw[D.first];rw[zY];have:=Cj HB lx as wa E hm ((Ã,.call i as bs,env)::stk) ws (λp=>(R i p.1 (ua R bs ρ) p.2).bind K) (B i (uq B h bs)+c'+1) λxs cs' hx hc=>fin Ã (.inl rfl) xs cs' hx hc
   exact this
theorem Cj(HB:BodyOk rs R B k)(lx:RsOk rs):∀(l:List D) {N O H:List Ç} {env:Ev} {ρ:Sv} {h m:Nat} {cs:List Int},xl rs k l N O H->EnvR rs N O H env ρ h m->m<=cs.length->∀(stk:List vb) (ws:List Int) (K:List Int×List Int->Tr Int) (c':Nat),(∀xs cs',xs.length=l.length->cs.length<=cs'.length->Rep rs stk (xs.reverse++ws) cs' (K (xs,cs')) c')->Rep rs (l.map (λa=>(Â,a,env))++stk) ws cs ((ef R l ρ cs).bind K) (uJ B h l+c')
 | [],N,O,H,env,ρ,h,m,cs,w,E,hm=>λstk ws K c' hK=>by
  erw[ef,Tr.bind,uJ,jk,kJ];exact(hK [] cs rfl (zj _)).mono ∅
 | d::r,N,O,H,env,ρ,h,m,cs,w,E,hm=>λstk ws K c' hK=>by
  erw[xl] at w;erw[ef,uJ,zx,jl];rw[Tr.bind_assoc];refine(uD HB lx d w.1 E hm (r.map (λa=>(Â,a,env))++stk) ws _ (uJ B h r+c') λx cs' hc=>?_).mono ∅;erw[Tr.bind_assoc];refine Cj HB lx r w.2 E ∅ stk (x::ws) _ c' λxs Ak hx A0=>?_
  have:=hK (x::xs) Ak (by simp[hx]) ∅;rw[q8,zY] at this;exact this
theorem Fy(HB:BodyOk rs R B k)(lx:RsOk rs):∀(l:List D) {N O H:List Ç} {env:Ev} {ρ:Sv} {h m:Nat},xl rs k l N O H->EnvR rs N O H env ρ h m->∀b∈l,∀cs,m<=cs.length->Bs rs b env cs (den R b ρ cs) (uq B h l)
 | [],N,O,H,env,ρ,h,m,w,E=>λb hb=>by simp at hb
 | d::r,N,O,H,env,ρ,h,m,w,E=>λb hb cs hm=>by
  erw[xl] at w;erw[uq];rcases zb.mp hb with z | z
  .rw[z]
   exact(uD HB lx d w.1 E hm).mono ∅
  .exact(Fy HB lx r w.2 E b z cs hm).mono ∅
end
theorem bodies(lx:RsOk rs):∀(k:Nat) {K:Nat},k<=K->BodyOk rs (dk rs K) (ya rs K) k
 | 0,K,_=>λi hi=>by omega
 | k+1,K,hK=>by
  intro i hi r hr env fs xs bs h m cs E hm;rw[l6 hr (K:=K) ∅,dS hr (K:=K) ∅];exact uD (bodies lx i (K:=i) (zj _)) lx r.body (lx.w i r hr) E hm
termination_by k=>k
end
mutual
noncomputable def zo:D->W
 | .number i=>th "number" [.int i]
 | .name v=>th "name" [.str v]
 | .read v=>th "read" [.str v]
 | .doo v=>th "do" [.str v]
 | .ask=>th "ask" []
 | .write v a=>th "write" [.str v,zo a]
 | .say a=>th "say" [zo a]
 | .lett v a b=>th "let" [.str v,zo a,zo b]
 | .own v a b=>th "own" [.str v,zo a,zo b]
 | .add a b=>th "add" [zo a,zo b]
 | .less a b=>th "less" [zo a,zo b]
 | .thenn a b=>th "then" [zo a,zo b]
 | .loop a b=>th "loop" [zo a,zo b]
 | .iff a b c=>th "if" [zo a,zo b,zo c]
 | .call i as bs=>th "call" [.int i,.tup (kr as),.tup (kr bs)]
noncomputable def kr:List D->List W
 | []=>[]
 | d::r=>zo d::kr r
end
theorem x5:∀l:List D,kr l=l.map zo
 | []=>by simp[kr]
 | d::r=>by erw[kr,zx];rw[x5 r]
noncomputable def dE(r:Rule):W:=.tup [.tup (zS r.ns),.tup (zS r.hs),zo r.body]
noncomputable def kA(rs:List Rule):List W:=rs.map dE
mutual
theorem k8(m:Nat):∀d:D,low m (zo d)=Ã
 | .number i=>by simp[zo,low,lows]
 | .name v=>by simp[zo,low,lows]
 | .read v=>by simp[zo,low,lows]
 | .doo v=>by simp[zo,low,lows]
 | .ask=>by simp[zo,low,lows]
 | .write v a=>by simp[zo,low,lows,k8 m a]
 | .say a=>by simp[zo,low,lows,k8 m a]
 | .lett v a b=>by simp[zo,low,lows,k8 m a,k8 m b]
 | .own v a b=>by simp[zo,low,lows,k8 m a,k8 m b]
 | .add a b=>by simp[zo,low,lows,k8 m a,k8 m b]
 | .less a b=>by simp[zo,low,lows,k8 m a,k8 m b]
 | .thenn a b=>by simp[zo,low,lows,k8 m a,k8 m b]
 | .loop a b=>by simp[zo,low,lows,k8 m a,k8 m b]
 | .iff a b c=>by simp[zo,low,lows,k8 m a,k8 m b,k8 m c]
 | .call i as bs=>by simp[zo,low,lows,c9 m as,c9 m bs]
theorem c9(m:Nat):∀l:List D,lows m (kr l)=Ã
 | []=>by simp[kr,lows]
 | d::r=>by simp[kr,lows,k8 m d,c9 m r]
end
theorem ee:∀{l:List W},lows m l=Ã->∀w∈l,low m w=Ã
 | [],_,w,hw=>by simp at hw
 | x::r,h,w,hw=>by
  unfold lows at h;rw[zq] at h;rcases zb.mp hw with rfl | z
  .exact h.1
  .exact ee h.2 w z
def pT{r:List W}{p:Int×Int}{h:MH}(hc:(x==("call":Ç))=Â)(hf:fm x=À p)(hl:lows h.length r=Ã):(step F).aZ [th x r] h=À (.tup (r.drop (p.2.toNat-1)),h):=by
 obtain⟨p1,p2⟩:=DS hf;obtain⟨k,hk⟩:=qp (show 0<=p.2 by omega);have e:r.drop (p.2.toNat-1)=(W.str x::r).drop k:=by
  rw[hk];cases k with
  | zero=>omega
  | succ k=>simp
 rw[e];refine xS (h':=h) ?_ ?_ (zR _)
 .have ek:zC (.tup [.int p.1,.int p.2]) (.int 1) h=À (.int p.2,h):=xo
  simp![dY,ux,w8,hc,u5,fe,bi,HS,hf,ek,nz];rw[hk];exact mR
 .rw[<-e]
  unfold low;exact xi λw hw=>ee hl w (qL hw)
noncomputable def rX:List Ç:=["if","loop","let","own"]
def CP(d:dt 1 (.str x)=Ã):inB h (.str x) (.tup [.str "if",.str "loop",.str "let",.str "own"])=À (uo rX (.str x)):=m9 (l:=rX) d ∅ ⋯
def gE{r:List W}{p:Int×Int}{h:MH}(hc:(x==("call":Ç))=Â)(hf:fm x=À p)(hd:dt 1 (.str x)=Ã)(hi:uo rX (.str x)=Â)(hl:lows h.length r=Ã):(step (step F)).au [th x r] h=À (.tup (r.drop (p.2.toNat-1)),h):=by
 have c4:(4:Nat)<=cap:=by decide
 have e:=pT (F:=F) hc hf hl;have q:=CP (h:=h) hd;rw[hi] at q;have lw:low h.length (.tup (r.drop (p.2.toNat-1)))=Ã:=by
  unfold low;exact xi λw hw=>ee hl w (qL hw)
 generalize step F=G at e;refine gc_eq' ?_ lw;simp![aB,ux,w8,hc,zt,c4,q,e]
where
 gc_eq' {f:List W->M W} {ws:List W} {h:MH} {w:W} (e:f ws h=À (w,h)) (p:low h.length w=Ã):gc f ws h=À (w,h):=xS e p (zR _)
def pD{l:List W}{p:Int×Int}{h:MH}(hc:(x==("call":Ç))=Â)(hf:fm x=À p)(hd:dt 1 (.str x)=Ã)(hi:uo rX (.str x)=Ã)(hl:lows h.length l=Ã)(er:l.drop (p.2.toNat-1)=a::r):(step (step F)).au [th x l] h=À (.tup [a],h):=by
 have c4:(4:Nat)<=cap:=by decide
 have e:=pT (F:=F) hc hf hl;rw[er] at e;have q:=CP (h:=h) hd;rw[hi] at q;have lw:low h.length (.tup [a])=Ã:=by
  unfold low;refine xi λw hw=>ee hl w ?_
  have:a∈l.drop (p.2.toNat-1):=by rw[er];exact kj
  simp at hw;subst hw;exact qL this
 have ct:cutW (a::r) Á (À 1)=[a]:=(Qv (k:=1) (l:=a::r) (by simp)).trans rfl;generalize step F=G at e;refine xS (h':=h) ?_ lw (zR _);simp![aB,ux,w8,hc,zt,c4,q,e,u5,fe,nz,ct]
theorem f_first(F:Fs):(step F).au=gc (kg 1 0 (aB F)):=rfl
def KL:∀d:D,(step (step F)).au [zo d] h=À (.tup (kr d.first),h)
 | .number i | .name i | .read i | .doo i=>by erw[zo,D.first,kr];exact(gE (p:=(2,2)) ⋯ ⋯ ⋯ ⋯ (by simp[low,lows])).trans rfl
 | .ask=>by erw[zo,D.first,kr];exact(gE (p:=(1,1)) ⋯ ⋯ ⋯ ⋯ (by simp[low,lows])).trans rfl
 | .write v a=>by erw[zo,D.first,kr];exact(gE (p:=(3,2)) ⋯ ⋯ ⋯ ⋯ (by simp[low,lows,k8])).trans rfl
 | .say a=>by erw[zo,D.first,kr];exact(gE (p:=(2,1)) ⋯ ⋯ ⋯ ⋯ (by simp[low,lows,k8])).trans rfl
 | .lett v a b | .own v a b=>by erw[zo,D.first,kr];exact pD (p:=(4,2)) ⋯ ⋯ ⋯ ⋯ (by simp[low,lows,k8]) rfl
 | .add a b | .less a b | .thenn a b=>by erw[zo,D.first,kr];exact(gE (p:=(3,1)) ⋯ ⋯ ⋯ ⋯ (by simp[low,lows,k8])).trans rfl
 | .loop a b=>by erw[zo,D.first,kr];exact pD (p:=(3,1)) ⋯ ⋯ ⋯ ⋯ (by simp[low,lows,k8]) rfl
 | .iff a b c=>by erw[zo,D.first,kr];exact pD (p:=(4,1)) ⋯ ⋯ ⋯ ⋯ (by simp[low,lows,k8]) rfl
 | .call i as bs=>by
  erw[zo,D.first];have lw:low h.length (.tup (kr as))=Ã:=by unfold low;exact c9 _ as
  rw[f_first];refine xS (h':=h) ?_ lw (zR _);simp![aB,ux,lf,w8]
def yb{f:List W->M W}{h h':MH}{i:Nat}(e:f ws h=À (w,h'))(a:h[i]?=À o)(b:h'[i]?≠À o):gc f ws h=À (w,h'):=by
 have n:¬h<+:h':=λp=>by
  obtain⟨t,rfl⟩:=p;exact b (by rw[zy (zT.mp a).1];exact a)
 unfold gc;rw[e];erw[n,false_and,je]
def g7{f:List W->M W}(e:f ws h=À (.non,h')):gc f ws h=À (.non,h'):=by
 unfold gc;rw[e];erw[ne_eq,not_true_eq_false,and_false,je]
def aT{f:List W->M W}{h:MH}(e:f ws h=À (w,h))(p:low h.length w=Ã):gc f ws h=À (w,h):=xS e p (zR _)
noncomputable abbrev yy(rl:List W)(ns nw:Nat)(t:W):List (Ç×W):=[("rules",.tup rl),("steps",.ref ns),("worths",.ref nw),("touch_ahead",t)]
structure Dg(H:MH)(nd ns nw:Nat)(rl:List W)(st:List W)(wo:List W)(t:W):Prop where
 d:H[nd]?=À (.ins 0 (yy rl ns nw t))
 s:H[ns]?=À (.lst st)
 w:H[nw]?=À (.lst wo)
 n1:nd≠ns
 n2:nd≠nw
 n3:ns≠nw
def kd{α:Type}{l:List α}{i:Nat}{x:α}(h:l[i]?=À x):i<l.length:=(zT.mp h).1
def Dg.steps{H:MH}{wo:List W}(g:Dg H nd ns nw rl st wo t)(AF:List W):Dg (H.set ns (.lst AF)) nd ns nw rl AF wo t:=
 ⟨by rw[zG (kZ g.n1),g.d],zH (kd g.s),by rw[zG g.n3,g.w],g.n1,g.n2,g.n3⟩
def Dg.worths{H:MH}{wo:List W}(g:Dg H nd ns nw rl st wo t)(OS:List W):Dg (H.set nw (.lst OS)) nd ns nw rl st OS t:=
 ⟨by rw[zG (kZ g.n2),g.d],by rw[zG (kZ g.n3),g.s],zH (kd g.w),g.n1,g.n2,g.n3⟩
def Dg.ahead{H:MH}{wo:List W}(g:Dg H nd ns nw rl st wo t)(t2:W):Dg (H.set nd (.ins 0 (yy rl ns nw t2))) nd ns nw rl st wo t2:=
 ⟨zH (kd g.d),by rw[zG g.n1,g.s],by rw[zG g.n2,g.w],g.n1,g.n2,g.n3⟩
def f_steps:qE kB 0 "steps" = Ã:=by decide +kernel
def f_worths:qE kB 0 "worths" = Ã:=by decide +kernel
def f_rules:qE kB 0 "rules" = Ã:=by decide +kernel
def f_ahead:qE kB 0 "touch_ahead" = Ã:=by decide +kernel
def Jo(rl:List W)(ns nw:Nat)(t:W):(yy rl ns nw t).lookup ("steps":Ç)=À (.ref ns):=by
 have a:(("steps":Ç)=="rules")=Â:=by decide +kernel
 have b:(("steps":Ç)=="steps")=Ã:=by decide +kernel
 erw[kO,a,b]
def ZQ(rl:List W)(ns nw:Nat)(t:W):(yy rl ns nw t).lookup ("worths":Ç)=À (.ref nw):=by
 have a:(("worths":Ç)=="rules")=Â:=by decide +kernel
 have b:(("worths":Ç)=="steps")=Â:=by decide +kernel
 have c:(("worths":Ç)=="worths")=Ã:=by decide +kernel
 erw[kO,a,b,c]
def JC(rl:List W)(ns nw:Nat)(t:W):(yy rl ns nw t).lookup ("rules":Ç)=À (.tup rl):=by
 have a:(("rules":Ç)=="rules")=Ã:=by decide +kernel
 erw[kO,a]
def K6(rl:List W)(ns nw:Nat)(t:W):(yy rl ns nw t).lookup ("touch_ahead":Ç)=À t:=by
 have a:(("touch_ahead":Ç)=="rules")=Â:=by decide +kernel
 have b:(("touch_ahead":Ç)=="steps")=Â:=by decide +kernel
 have c:(("touch_ahead":Ç)=="worths")=Â:=by decide +kernel
 have d:(("touch_ahead":Ç)=="touch_ahead")=Ã:=by decide +kernel
 erw[kO,a,b,c,d]
section
variable{H:MH}{nd ns nw:Nat}{rl st wo:List W}{t:W}
def Dg.fS(g:Dg H nd ns nw rl st wo t):xt kB "steps" (.ref nd) H=À (.ref ns,H):=by erw[xt,g.d,f_steps,kE,Jo]
def Dg.fW(g:Dg H nd ns nw rl st wo t):xt kB "worths" (.ref nd) H=À (.ref nw,H):=by erw[xt,g.d,f_worths,kE,ZQ]
def Dg.fR(g:Dg H nd ns nw rl st wo t):xt kB "rules" (.ref nd) H=À (.tup rl,H):=by erw[xt,g.d,f_rules,kE,JC]
def Dg.fA(g:Dg H nd ns nw rl st wo t):xt kB "touch_ahead" (.ref nd) H=À (t,H):=by erw[xt,g.d,f_ahead,kE,K6]
def nU{α:Type}(l:List α)(x:α):l++[x]≠l:=λe=>by have:=jP ģ e;simp at this
def UE(g:Dg H nd ns nw rl st wo t)(hs:st.length<cap):(step F).bZ [.ref nd,d,k] H=À (.non,H.set ns (.lst (st++[.tup [.bl Â,d,k]]))):=by
 have c3:(3:Nat)<=cap:=by decide
 refine yb (i:=ns) ?_ g.s (by rw[zH (kd g.s)];intro e;injection e with e;injection e with e;exact nU _ _ e);have e1:=g.fS;have e2:=g.s;simp![cO,kM,e1,kD,getL,e2,zt,c3,qh,hs]
def U7(g:Dg H nd ns nw rl st wo t)(hs:wo.length<cap):(step F).cj [.ref nd,v] H=À (.non,H.set nw (.lst (wo++[v]))):=by
 refine yb (i:=nw) ?_ g.w (by rw[zH (kd g.w)];intro e;injection e with e;injection e with e;exact nU _ _ e);have e1:=g.fW;have e2:=g.w;simp![cP,kM,e1,kD,getL,e2,qh,hs]
def VG(rl:List W)(ns nw:Nat)(t v:W):ul "touch_ahead" v (yy rl ns nw t)=yy rl ns nw v:=by
 have a:¬(("rules":Ç)="touch_ahead"):=by decide +kernel
 have b:¬(("steps":Ç)="touch_ahead"):=by decide +kernel
 have c:¬(("worths":Ç)="touch_ahead"):=by decide +kernel
 erw[ul,a,b,c,je,kE]
def Dg.pA(g:Dg H nd ns nw rl st wo t)(v:W):iA kB "touch_ahead" (.ref nd) v H=À (.non,H.set nd (.ins 0 (yy rl ns nw v))):=by
 erw[iA,g.d,f_ahead,kE,VG];rw[z9 (by simp)]
def Gf(g:Dg H nd ns nw rl st wo t)(hv:v≠t):(step F).aM [.ref nd,v] H=À (.non,H.set nd (.ins 0 (yy rl ns nw v))):=by
 refine yb (i:=nd) ?_ g.d (by rw[zH (kd g.d)];intro e;injection e with e;injection e with _ e;erw[jN,qF] at e;exact hv e.2.2.2.1.2);have e1:=g.pA v;generalize H.set nd (.ins 0 (yy rl ns nw v))=H2 at e1 ⊢;simp![aW,uy,e1]
def D5(g:Dg H nd ns nw rl st wo t)(e:wo=wo'++[v])(hv:low H.length v=Ã):(step F).bz [.ref nd] H=À (v,H):=by
 refine aT ?_ hv;have e1:=g.fW;have e2:=g.w;have e3:L2.atI wo (-1)=À v:=by rw[e];exact WB _ _
 simp![bM,kM,e1,lj,zC,getL,e2,e3]
end
def set_same{α:Type}{l:List α}{i:Nat}{x:α}(h:l[i]?=À x):l.set i x=l:=by
 apply List.ext_getElem?
 intro j;by_cases e:i=j
 .subst e;rw[zH (kd h),h]
 .rw[zG e]
def nX{f:List W->M W}{h:MH}{i:Nat}(e:f ws h=À (w,h.set i o'))(a:h[i]?=À o)(p:low h.length w=Ã):gc f ws h=À (w,h.set i o'):=by
 by_cases q:o'=o
 .subst q
  rw[set_same a] at e ⊢;exact aT e p
 .refine yb e a ?_
  rw[zH (kd a)];intro z;injection z with z;exact q z
noncomputable abbrev uS(na np:Nat)(ans:List W)(k:Int):List (Ç×W):=[("shelves",.ref na),("answers",.fls ans),("spoken",.ref np),("asks",.int k)]
structure Rg(H:MH)(nr na np:Nat)(sh:List (Key×W))(ans sp:List W)(k:Nat):Prop where
 r:H[nr]?=À (.ins 1 (uS na np ans k))
 a:H[na]?=À (.dic sh)
 p:H[np]?=À (.lst sp)
 n1:nr≠na
 n2:nr≠np
 n3:na≠np
section
variable{H:MH}{nr na np k:Nat}{sh:List (Key×W)}{ans sp:List W}
def Rg.fS(g:Rg H nr na np sh ans sp k):xt kB "shelves" (.ref nr) H=À (.ref na,H):=by
 have f:qE kB 1 "shelves" = Ã:=by decide +kernel
 have a:(("shelves":Ç)=="shelves")=Ã:=by decide +kernel
 erw[xt,g.r,f,kE,kO,a]
def Rg.fA(g:Rg H nr na np sh ans sp k):xt kB "answers" (.ref nr) H=À (.fls ans,H):=by
 have f:qE kB 1 "answers" = Ã:=by decide +kernel
 have a:(("answers":Ç)=="shelves")=Â:=by decide +kernel
 have b:(("answers":Ç)=="answers")=Ã:=by decide +kernel
 erw[xt,g.r,f,kE,kO,a,b]
def Rg.fP(g:Rg H nr na np sh ans sp k):xt kB "spoken" (.ref nr) H=À (.ref np,H):=by
 have f:qE kB 1 "spoken" = Ã:=by decide +kernel
 have a:(("spoken":Ç)=="shelves")=Â:=by decide +kernel
 have b:(("spoken":Ç)=="answers")=Â:=by decide +kernel
 have c:(("spoken":Ç)=="spoken")=Ã:=by decide +kernel
 erw[xt,g.r,f,kE,kO,a,b,c]
def Rg.fK(g:Rg H nr na np sh ans sp k):xt kB "asks" (.ref nr) H=À (.int k,H):=by
 have f:qE kB 1 "asks" = Ã:=by decide +kernel
 have a:(("asks":Ç)=="shelves")=Â:=by decide +kernel
 have b:(("asks":Ç)=="answers")=Â:=by decide +kernel
 have c:(("asks":Ç)=="spoken")=Â:=by decide +kernel
 have d:(("asks":Ç)=="asks")=Ã:=by decide +kernel
 erw[xt,g.r,f,kE,kO,a,b,c,d]
def Rg.pK(g:Rg H nr na np sh ans sp k)(j:Int):iA kB "asks" (.ref nr) (.int j) H=À (.non,H.set nr (.ins 1 (uS na np ans j))):=by
 have f:qE kB 1 "asks" = Ã:=by decide +kernel
 have a:¬(("shelves":Ç)="asks"):=by decide +kernel
 have b:¬(("answers":Ç)="asks"):=by decide +kernel
 have c:¬(("spoken":Ç)="asks"):=by decide +kernel
 erw[iA,g.r,f,kE,ul,a,b,c,je];rw[z9 (by simp)]
def Rg.shelves(g:Rg H nr na np sh ans sp k)(OT:List (Key×W)):Rg (H.set na (.dic OT)) nr na np OT ans sp k:=
 ⟨by rw[zG (kZ g.n1),g.r],zH (kd g.a),by rw[zG g.n3,g.p],g.n1,g.n2,g.n3⟩
def Rg.spoken(g:Rg H nr na np sh ans sp k)(OU:List W):Rg (H.set np (.lst OU)) nr na np sh ans OU k:=
 ⟨by rw[zG (kZ g.n2),g.r],by rw[zG (kZ g.n3),g.a],zH (kd g.p),g.n1,g.n2,g.n3⟩
def Rg.asks(g:Rg H nr na np sh ans sp k)(j:Nat):Rg (H.set nr (.ins 1 (uS na np ans j))) nr na np sh ans sp j:=
 ⟨zH (kd g.r),by rw[zG g.n1,g.a],by rw[zG g.n2,g.p],g.n1,g.n2,g.n3⟩
def mm:(("write":Ç)=="read")=Â/\(("say":Ç)=="read")=Â/\(("say":Ç)=="write")=Â/\(("ask":Ç)=="read")=Â/\(("ask":Ç)=="write")=Â/\(("ask":Ç)=="say")=Â:=by decide +kernel
def do_read(g:Rg H nr na np sh ans sp k)(hw:vF sh (.inr v)=À w)(hl:low H.length w=Ã):(step F).bu [.ref nr,.tup [.str "read",.str v]] H=À (.tup [.str "read",.str v,w],H):=by
 have c3:(3:Nat)<=cap:=by decide
 refine aT ?_ (by unfold low lows low lows low lows;rw[hl];unfold lows;rfl);have e1:=g.fS;have e2:=g.a;simp![bw,ux,xo,w8,zt,c3,kM,e1,yi,xA,e2,keyOf,hw]
def do_write(g:Rg H nr na np sh ans sp k)(hs:sh.length<cap)(hl:low H.length w=Ã):(step F).bu [.ref nr,.tup [.str "write",.str v,w]] H=À (.tup [.str "write",.str v,w],H.set na (.dic (j2 sh (.inr v) w))):=by
 refine nX ?_ g.a (by unfold low lows low lows low lows;rw[hl];unfold lows;rfl);have e1:=g.fS;have e2:=g.a;have n:=mm.1;have n':¬(("write":Ç)="read"):=λe=>by rw[e] at n;simp at n
 simp![bw,ux,xo,lf,w8,n',bS,kM,e1,fy,e2,keyOf,hs]
end
section
variable{H:MH}{nr na np k:Nat}{sh:List (Key×W)}{ans sp:List W}
def do_say(g:Rg H nr na np sh ans sp k)(hs:sp.length<cap)(hl:low H.length v=Ã):(step F).bu [.ref nr,.tup [.str "say",v]] H=À (.tup [.str "say",v],H.set np (.lst (sp++[v]))):=by
 refine nX ?_ g.p (by unfold low lows low lows;rw[hl];unfold lows;rfl);have e1:=g.fP;have e2:=g.p;have n1:¬(("say":Ç)="read"):=λe=>by have:=mm.2.1;rw[e] at this;simp at this
 have n2:¬(("say":Ç)="write"):=λe=>by have:=mm.2.2.1;rw[e] at this;simp at this
 simp![bw,ux,xo,w8,n1,n2,kM,e1,kD,getL,e2,qh,hs]
noncomputable def cv(ans:List W)(k:Nat):W:=(ans[k]?).getD (.int 0)
def Ww(g:Rg H nr na np sh ans sp k)(hl:low H.length (cv ans k)=Ã)(hc:ans.length<=cap):(step F).bf [.ref nr] H=À (cv ans k,H.set nr (.ins 1 (uS na np ans ((k+1:Nat):Int)))):=by
 refine nX ?_ g.r hl;have e1:=g.fK;have g2:=g.asks (k+1);have e2:=g.pK ((k:Int)+1);have e3:xt kB "answers" (.ref nr) (H.set nr (.ins 1 (uS na np ans ((k:Int)+1))))=À (.fls ans,H.set nr (.ins 1 (uS na np ans ((k:Int)+1)))):=g2.fA;have c:ans.length<=cap:=zK hc (by decide);have e4:fx (.int k) (.int 1) H=À (.int ((k:Int)+1),H):=by
  simp[fx,addW,qc]
 have e6:clsOf (.ref nr) H=clsOf (.ref nr) H:=rfl;show _=À (_,H.set nr (.ins 1 (uS na np ans ((k:Int)+1))))
 generalize H.set nr (.ins 1 (uS na np ans ((k:Int)+1)))=H2 at e2 e3 ⊢;unfold cv;by_cases q:k<ans.length
 .have q':(k:Int)<(ans.length:Int):=by omega
  have e5:L2.atI ans (k:Int)=À ans[k]:=Ko (zE q);rw[zE q];simp![aP,kM,e1,nu,e4,e2,e3,kN,getL,vv,q',zC,e5]
 .have q':¬((k:Int)<(ans.length:Int)):=by omega
  rw[jQ ∅];simp![aP,kM,e1,nu,e4,e2,e3,kN,getL,vv,q']
def do_ask(g:Rg H nr na np sh ans sp k)(hl:low H.length (cv ans k)=Ã)(hc:ans.length<=cap):(step (step F)).bu [.ref nr,.tup [.str "ask"]] H=À (.tup [.str "ask",cv ans k],H.set nr (.ins 1 (uS na np ans ((k+1:Nat):Int)))):=by
 refine nX ?_ g.r (by unfold low lows low lows;rw[hl];unfold lows;rfl);have e1:=Ww (F:=F) g hl hc;have c2:(2:Nat)<=cap:=by decide
 have n1:¬(("ask":Ç)="read"):=λe=>by have:=mm.2.2.2.1;rw[e] at this;simp at this
 have n2:¬(("ask":Ç)="write"):=λe=>by have:=mm.2.2.2.2.1;rw[e] at this;simp at this
 have n3:¬(("ask":Ç)="say"):=λe=>by have:=mm.2.2.2.2.2;rw[e] at this;simp at this
 have m1:(uS na np ans (k:Int)).lookup ("next_answer":Ç)=Á:=by
  have a:(("next_answer":Ç)=="shelves")=Â:=by decide +kernel
  have b:(("next_answer":Ç)=="answers")=Â:=by decide +kernel
  have c:(("next_answer":Ç)=="spoken")=Â:=by decide +kernel
  have d:(("next_answer":Ç)=="asks")=Â:=by decide +kernel
  erw[kO,yF,a,b,c,d]
 have m2:(mt (step F)).lookup (1,("next_answer":Ç))=À (step F).bf:=by kernel_rfl
 have e2:=g.r;have em:ki (mt (step F)) "next_answer" (ze 0) [] [À (.ref nr),À (.tup [.str "ask"])] H=À (cv ans k,H.set nr (.ins 1 (uS na np ans ((k+1:Nat):Int)))):=by
  unfold ki;erw[bnd,ze,zm,e2,m1,m2,ko,e1]
 generalize H.set nr (.ins 1 (uS na np ans ((k+1:Nat):Int)))=H2 at em ⊢;generalize cv ans k=A at em ⊢;generalize step F=G at em;simp![bw,ux,w8,n1,n2,n3,zt,c2,em]
end
theorem sA(hn:nw≠n0):∀(l vs:List W) (wo acc:List W) (H:MH) (o:Option W),l.length=vs.length->H[nw]?=À (.lst (wo++vs))->H[n0]?=À (.lst acc)->acc.length+vs.length<=1000->
  vi 1 (zD 0) kL (kD ur (ze 1) []) n0 l [o,À (.ref nw)] H=À ((H.set nw (.lst wo)).set n0 (.lst (acc++vs.reverse)))
 | [],vs,wo,acc,H,o,hl,h1,h2,_=>by
  have:vs=[]:=jM.mp hl.symm;subst this;rw[kh] at h1;erw[vi,List.reverse_nil,kh];rw[set_same h1,set_same h2]
 | w::l,vs,wo,acc,H,o,hl,h1,h2,hc=>by
  rcases List.eq_nil_or_concat vs with rfl | ⟨AG,v,rfl⟩
  .cases hl
  .rw[List.concat_eq_append] at h1 hl hc ⊢
   erw[zQ,zp,zV] at hl hc;rw[<-zY] at h1;have c:acc.length<cap:=zL (show acc.length<1001 by omega) (by decide);have ep:=last_at' (wo++AG) v;have h3:(H.set nw (.lst (wo++AG)))[n0]?=À (.lst acc):=by rw[zG hn,h2]
   have ih:=sA hn l AG wo (acc++[v]) ((H.set nw (.lst (wo++AG))).set n0 (.lst (acc++[v]))) Á ∅
    (by rw[zG (kZ hn),zH (kd h1)]) (zH (by rw[jc];exact kd h2)) (by simp;omega)
   have g:zD 0 w [o,À (.ref nw)] H=À ([À w,À (.ref nw)],H):=by simp[zD]
   have m:kD ur (ze 1) [] [À w,À (.ref nw)] H=À (v,H.set nw (.lst (wo++AG))):=by
    simp[kD,ze,bnd,getL,h1,ko,ur,ep]
   unfold vi;erw[g,kL,m,h3,c,kE];show vi 1 (zD 0) kL (kD ur (ze 1) []) n0 l [Á,À (.ref nw)] _=_
   rw[ih];congr 1
   rw[List.reverse_append,zY];have s1:(((H.set nw (.lst (wo++AG))).set n0 (.lst (acc++[v]))).set nw (.lst wo)).set n0 (.lst (acc++([v]++AG.reverse)))=(H.set nw (.lst wo)).set n0 (.lst (acc++([v]++AG.reverse))):=by
    rw[List.set_comm _ _ (kZ hn),xn,xn]
   exact s1
where
 last_at' {α:Type} (l:List α) (x:α):(l++[x])[(l++[x]).length-1]?=À x:=by simp
def oV(h:∀v∈l,low m v=Ã):low m (.fls l)=Ã:=by unfold low;exact xi h
def Fk{n:Nat}{ρ:En}{H:MH}(hn:n<=1000)(hv:ze 1 ρ H=À (.int (n:Int),H)):vj [ze 1] ρ H=À (.items (upto n),H):=by
 have q:-(2 ^ 62:Int)<=(n:Int)/\(n:Int)<2 ^ 62:=by omega
 have LD:∀h,bX [.int (n:Int)] h=À (.items (upto n),h):=λh=>by
  unfold bX;simp only;rw[z9 q,qj]
 erw[vj,ko,bnd,hv,LD]
def mC{ks:List Nat}{ρ ρ0:En}{h1:MH}(e:mi ρ h=À (.items l,h1))(er:(Æ nl Á++ks.map λk=>(ρ[k]?).join)=ρ0)(ec:vi nl g t m h1.length l ρ0 (h1++[.lst []])=À h2):ue mi nl ks g t m ρ h=À (.ref h1.length,h2):=by
 subst er;unfold ue aE;rw[e];erw[ec]
def K7{H:MH}{nw n:Nat}{wo vs:List W}(h1:H[nw]?=À (.lst (wo++vs)))(hn:n=vs.length)(hl:n<=1000):ue (vj [ze 1]) 1 [0] (zD 0) kL (kD ur (ze 1) []) [À (.ref nw),À (.int (n:Int)),Á] H=À (.ref H.length,H.set nw (.lst wo)++[.lst vs.reverse]):=by
 have lt:=kd h1;have hu:(upto n).length=vs.length:=by rw[<-hn];unfold upto;rw[zP,q9]
 have hp:=sA (nw:=nw) (n0:=H.length) (zW lt) (upto n) vs wo [] (H++[.lst []]) Á hu (by rw[zy lt,h1]) List.getElem?_concat_length (by rw[zV,Nat.zero_add,<-hn];exact hl);have hh:((H++[MO.lst []]).set nw (.lst wo)).set H.length (.lst ([]++vs.reverse))=H.set nw (.lst wo)++[.lst vs.reverse]:=by
  rw[List.set_append_left _ _ lt,jK _ _ (by rw[jc];exact zj _),jc,qR,kJ];rfl
 rw[hh] at hp;exact mC (Fk hl rfl) rfl hp
def Qy{H:MH}{wo vs:List W}(hl:vs.length<=1000):oJ (.ref H.length) (H.set nw (.lst wo)++[.lst vs.reverse])=À (.fls vs,H.set nw (.lst wo)++[.lst vs.reverse]):=by
 have:getL (H.set nw (.lst wo)++[.lst vs.reverse]) (.ref H.length)=À vs.reverse:=by
  erw[getL];rw[zF (by rw[jc];exact zj _),jc,qR];rfl
 erw[oJ,this,qb,j0,List.reverse_reverse];rw[z9 hl]
def Vw{H:MH}(cm:ue (vj [ze 1]) 1 [0] (zD 0) kL (kD ur (ze 1) []) [À (.ref nw),À j,Á] H=À (.ref m,H2))(rv:oJ (.ref m) H2=À (.fls vs,H2)):kg 2 1 (aD F) [.ref nw,j] H=À (.fls vs,H2):=by
 have row:aD F [À (.ref nw),À j,Á] H=À (.ret (.fls vs),H2):=by
  unfold aD;rw[zw (ρ':=[À (.ref nw),À j,À (.ref m)]) (h':=H2) (by unfold zI;rw[cm];rfl)];erw[ka,vt,bnd,ze,zA,zm,rv]
 erw[kg,zp,zV,kE,zx,jk,Æ,jl,kJ];erw[row]
def nG{H:MH}{wo vs:List W}(h1:H[nw]?=À (.lst (wo++vs)))(hn:n=vs.length)(hl:n<=1000):kg 2 1 (aD F) [.ref nw,.int (n:Int)] H=À (.fls vs,H.set nw (.lst wo)++[.lst vs.reverse]):=
 Vw (K7 h1 hn hl) (Qy (by rw[<-hn];exact hl))
theorem f_taken(F:Fs):(step F).aR=gc (kg 2 1 (aD F)):=rfl
def U6{H:MH}{wo vs:List W}(h1:H[nw]?=À (.lst (wo++vs)))(hn:n=vs.length)(hl:n<=1000)(hv:vs≠[]):(step F).aR [.ref nw,.int (n:Int)] H=À (.fls vs,H.set nw (.lst wo)++[.lst vs.reverse]):=by
 have e0:=nG (F:=F) h1 hn hl;rw[f_taken];generalize kg 2 1 (aD F)=f at e0 ⊢;refine yb e0 h1 ?_;rw[zy (by rw[jc];exact kd h1),zH (kd h1)];intro e;injection e with e;injection e with e;have:=jP ģ e;erw[zQ] at this;exact hv (jM.mp ∅)
def WT{H:MH}{wo:List W}(h1:H[nw]?=À (.lst wo)):(step F).aR [.ref nw,.int ((0:Nat):Int)] H=À (.fls [],H):=by
 have e:=nG (F:=F) (n:=0) (vs:=[]) (wo:=wo) (by rw[kh];exact h1) rfl (qy _);rw[set_same h1] at e;rw[f_taken];generalize kg 2 1 (aD F)=f at e ⊢;exact xS e (by unfold low lows;rfl) (jn _ _)
def yk{fs:List (Ç×W)}{c:Nat}{H:MH}(ho:H[n]?=À (.ins c fs))(hl:fs.lookup m=Á)(hm:(mt F).lookup (c,m)=À g)(e1:mo ρ H0=À (.ref n,H))(e2:ko ms ρ H=À (ws,H1)):ki (mt F) m mo ms ρ H0=g (.ref n::ws) H1:=by
 unfold ki;erw[bnd,e1,ho,hl,hm,e2]
def pH(a:(m==("rules":Ç))=Â)(b:(m==("steps":Ç))=Â)(c:(m==("worths":Ç))=Â)(d:(m==("touch_ahead":Ç))=Â):(yy rl ns nw t).lookup m=Á:=by
 erw[kO,yF,a,b,c,d]
theorem YS(F:Fs):(mt F).lookup (0,("bring":Ç))=À F.cj:=by kernel_rfl
theorem WC(F:Fs):(mt F).lookup (0,("begin":Ç))=À F.bZ:=by kernel_rfl
theorem Ui(F:Fs):(mt F).lookup (0,("rest_ahead_of":Ç))=À F.aM:=by kernel_rfl
theorem UH(F:Fs):(mt F).lookup (0,("take_step":Ç))=À F.aO:=by kernel_rfl
theorem Gy(F:Fs):(mt F).lookup (0,("go_on":Ç))=À F.aN:=by kernel_rfl
theorem sO(F:Fs):(mt F).lookup (0,("do_touch":Ç))=À F.aV:=by kernel_rfl
theorem BD(F:Fs):(mt F).lookup (0,("came_to":Ç))=À F.bz:=by kernel_rfl
theorem He(F:Fs):(mt F).lookup (1,("do":Ç))=À F.bu:=by kernel_rfl
theorem WA(F:Fs):(mt F).lookup (1,("store":Ç))=À F.cJ:=by kernel_rfl
theorem B2(F:Fs):(mt F).lookup (1,("said":Ç))=À F.cV:=by kernel_rfl
def yT{np:Nat}{ws:List W}{H:MH}(hl:ws.length=np)(hr:ws.map À++Æ k Á=ρ)(e:b ρ H=À (.nx ρ',H')):kg np k b ws H=À (.non,H'):=by
 subst hr;unfold kg;rw[z9 hl,e]
def yv{np:Nat}{ws:List W}{H:MH}(hl:ws.length=np)(hr:ws.map À++Æ k Á=ρ)(e:b ρ H=À (.ret w,H')):kg np k b ws H=À (w,H'):=by
 subst hr;unfold kg;rw[z9 hl,e]
def wm(e:t ρ h=À (Ã,h))(eA:A ρ h=À (.ret w,h')):zk (kP t A kz) b ρ h=À (.ret w,h'):=by
 refine xc ?_;unfold kP;rw[e];erw[kE];exact eA
theorem Vc(e:t ρ h=À (Â,h)):zk (kP t A kz) b ρ h=b ρ h:=by
 refine zw ?_;unfold kP;rw[e];rfl
def lI{f:Fl}(e:t ρ h=À (Ã,h))(eA:A ρ h=À (f,h')):kP t A kz ρ h=À (f,h'):=by
 unfold kP;rw[e];erw[kE];exact eA
theorem x4(e:t ρ h=À (Â,h)):kP t A kz ρ h=À (.nx ρ,h):=by
 unfold kP;rw[e];rfl
def xY{f:List W->M W}(g:f ws h=À (w,h))(e:ko ms ρ h=À (ws,h))(e':zD k w ρ h=À (ρ',h)):zI (zh f ms) (zD k) ρ h=À (.nx ρ',h):=by
 unfold zI zh;erw[bnd,e,g,e']
def J2(e:t ρ h=À (Â,h))(e':u ρ h=À (Â,h)):ub t u ρ h=À (Â,h):=by
 unfold ub;erw[bnd,e,jt,je,e']
def Co(e:t ρ h=À (Â,h))(e':u ρ h=À (Ã,h)):ub t u ρ h=À (Ã,h):=by
 unfold ub;erw[bnd,e,jt,je,e']
def xw{f:List W->M W}(e:ko ms ρ h=À (ws,h))(g:f ws h=À (w,h)):ka (zh f ms) ρ h=À (.ret w,h):=by
 unfold ka zh;erw[bnd,e,g]
def sQ{i j:Nat}{ρ:En}(e:ρ[i]?=À (À (.int d))):kb (zi i4 (ze i) (eC (.int m))) ρ h=À (decide (d<m),h):=by simp![e,vv]
def eI{i:Nat}{ρ:En}(e:ρ[i]?=À (À (.int d))):kb (zi (jv Â) (ze i) (eC (.int m))) ρ h=À (d==m,h):=by simp![e,yY]
def qS{H:MH}(e:m ρ H=À (w,H')):ky m ρ H=À (.nx ρ,H'):=by unfold ky;rw[e]
section
variable{H:MH}{nd ns nw:Nat}{rl st wo:List W}{t:W}{F:Fs}
def mV(g:Dg H nd ns nw rl st wo t)(v:W):(H.set nw (.lst (wo++[v])))[nw]?≠À (.lst wo):=by
 rw[zH (kd g.w)];intro e;injection e with e;injection e with e;exact nU _ _ e
def mM(g:Dg H nd ns nw rl st wo t)(v:W):(H.set ns (.lst (st++[v])))[ns]?≠À (.lst st):=by
 rw[zH (kd g.s)];intro e;injection e with e;injection e with e;exact nU _ _ e
def lX(g:Dg H nd ns nw rl st wo t)(hw:wo.length<cap)(e1:mo ρ H=À (.ref nd,H))(e2:m ρ H=À (v,H)):ki (mt (step F)) "bring" mo [m] ρ H=À (.non,H.set nw (.lst (wo++[v]))):=by
 rw[yk g.d (pH ⋯ ⋯ ⋯ ⋯) (YS _) e1 (ws:=[v]) (H1:=H) (by erw[ko,bnd,e2])];exact U7 g hw
def tT(g:Dg H nd ns nw rl st wo t)(hv:v≠t)(e1:mo ρ H=À (.ref nd,H))(e2:m ρ H=À (v,H)):ki (mt (step F)) "rest_ahead_of" mo [m] ρ H=À (.non,H.set nd (.ins 0 (yy rl ns nw v))):=by
 rw[yk g.d (pH ⋯ ⋯ ⋯ ⋯) (Ui _) e1 (ws:=[v]) (H1:=H) (by erw[ko,bnd,e2])];exact Gf g hv
def l4{H2:MH}(g0:Dg H nd ns nw rl st wo t)(g:Dg H2 nd ns nw rl st wo t)(hw:st.length<cap)(e1:mo ρ H=À (.ref nd,H))(e2:m ρ H=À (d,H1))(e3:m2 ρ H1=À (k,H2)):ki (mt (step F)) "begin" mo [m,m2] ρ H=À (.non,H2.set ns (.lst (st++[.tup [.bl Â,d,k]]))):=by
 rw[yk g0.d (pH ⋯ ⋯ ⋯ ⋯) (WC _) e1 (ws:=[d,k]) (H1:=H2) (by erw[ko,bnd,e2,e3])];exact UE g hw
def Dg.app(g:Dg H nd ns nw rl st wo t)(X:MH):Dg (H++X) nd ns nw rl st wo t:=
 ⟨by rw[zy (kd g.d)];exact g.d,by rw[zy (kd g.s)];exact g.s,by rw[zy (kd g.w)];exact g.w,g.n1,g.n2,g.n3⟩
def gv{r:List W}(g:Dg H nd ns nw rl st wo t)(hw:wo.length<cap)(hl:r.length=3)(e:m ((W.ref nd::r).map À++Æ k Á) H=À (v,H)):gc (kg 4 k (ky (ki (mt (step F)) "bring" (ze 0) [m]))) (.ref nd::r) H=À (.non,H.set nw (.lst (wo++[v]))):=
 yb (yT (by simp[hl]) rfl (qS (lX g hw rfl e))) g.w (mV g v)
def mP(g:Dg H nd ns nw rl st wo t)(hv:v≠t):(H.set nd (.ins 0 (yy rl ns nw v)))[nd]?≠À (.ins 0 (yy rl ns nw t)):=by
 rw[zH (kd g.d)];intro e;injection e with e;injection e with _ e;erw[jN,qF] at e;exact hv e.2.2.2.1.2
def Qi{r:List W}(g:Dg H nd ns nw rl st wo t)(hv:v≠t)(hl:r.length=3)(e:m ((W.ref nd::r).map À++Æ k Á) H=À (v,H)):gc (kg 4 k (ky (ki (mt (step F)) "rest_ahead_of" (ze 0) [m]))) (.ref nd::r) H=À (.non,H.set nd (.ins 0 (yy rl ns nw v))):=
 yb (yT (by simp[hl]) rfl (qS (tT g hv rfl e))) g.d (mP g hv)
def rO(g:Dg H nd ns nw rl st wo t)(v:W):((H++X).set ns (.lst (st++[v])))[ns]?≠À (.lst st):=mM (g.app X) v
def pB{r:List W}{kn:W}(g:Dg H nd ns nw rl st wo t)(hw:st.length<cap)(hl:r.length=3)(e:m ((W.ref nd::r).map À++Æ k Á) H=À (d,H))(e2:m2 ((W.ref nd::r).map À++Æ k Á) H=À (kn,H++X)):gc (kg 4 k (ky (ki (mt (step F)) "begin" (ze 0) [m,m2]))) (.ref nd::r) H=À (.non,(H++X).set ns (.lst (st++[.tup [.bl Â,d,kn]]))):=
 yb (yT (by simp[hl]) rfl (qS (l4 g (g.app X) hw rfl e e2))) g.s (rO g _)
def do_number{i:Int}(g:Dg H nd ns nw rl st wo t)(hw:wo.length<cap):(step (step F)).bR [.ref nd,th "number" [.int i],kw,ww] H=À (.non,H.set nw (.lst (wo++[.int i]))):=
 gv g hw rfl (by simp![xo])
def do_name(g:Dg H nd ns nw rl st wo t)(hw:wo.length<cap)(hk:yi kw (.str v) H=À (w,H)):(step (step F)).cY [.ref nd,th "name" [.str v],kw,ww] H=À (.non,H.set nw (.lst (wo++[w]))):=
 gv g hw rfl (by simp![xo,hk])
def do_add(g:Dg H nd ns nw rl st wo t)(hw:wo.length<cap):(step (step F)).dJ [.ref nd,d,kw,.fls [.int x,.int y]] H=À (.non,H.set nw (.lst (wo++[.int ((x+y)%1009)]))):=
 gv g hw rfl (by simp![u4,tD,addW,qc,y7,lh])
def do_less(g:Dg H nd ns nw rl st wo t)(hw:wo.length<cap):(step (step F)).dg [.ref nd,d,kw,.fls [.int x,.int y]] H=À (.non,H.set nw (.lst (wo++[.int (if x<y then 1 else 0)]))):=
 gv g hw rfl (by
  by_cases q:x<y
  .simp![u4,tD,vv,q]
  .simp![u4,tD,vv,q])
def do_then(g:Dg H nd ns nw rl st wo t)(hw:wo.length<cap):(step (step F)).dm [.ref nd,d,kw,.fls [x,y]] H=À (.non,H.set nw (.lst (wo++[y]))):=
 gv g hw rfl (by simp![tD])
def US(g:Dg H nd ns nw rl st wo .non):(step (step F)).dN [.ref nd,d,kw,.fls [x]] H=À (.non,H.set nd (.ins 0 (yy rl ns nw (.tup [.str "say",x])))):=by
 have c2:(2:Nat)<=cap:=by decide
 exact Qi g nofun rfl (by simp![u4,zt,c2])
def Uh(g:Dg H nd ns nw rl st wo .non):(step (step F)).dO [.ref nd,d,kw,ww] H=À (.non,H.set nd (.ins 0 (yy rl ns nw (.tup [.str "ask"])))):=by
 have c1:(1:Nat)<=cap:=by decide
 exact Qi g nofun rfl (by simp![zt,c1])
def do_if{c:W}(g:Dg H nd ns nw rl st wo t)(hw:st.length<cap):(step (step F)).eU [.ref nd,th "if" [a,b,c],kw,.fls [.int x]] H=À (.non,H.set ns (.lst (st++[.tup [.bl Â,if x=0 then c else b,kw]]))):=by
 have:=pB (F:=F) (X:=[]) (k:=0) (m:=(KS (kb (zi (jv Ã) (zi zC (ze 3) (PL 0)) (PL 0))) (zi zC (ze 1) (PL 2)) (zi zC (ze 1) (PL 3)))) (m2:=ze 2) (r:=[th "if" [a,b,c],kw,.fls [.int x]]) (d:=if x=0 then c else b) (kn:=kw) g hw rfl (by
  by_cases q:x=0
  .simp![u4,lf,Zk,yY,q]
  .simp![u4,lf,Zk,yY,q]) (by simp![])
 rw[kh] at this;exact this
end
def Ja(h:v∈SH):dt 1 (.str v)=Ã:=by
 erw[SH,zb,zc,zO] at h;rcases h with rfl | rfl | rfl | rfl<;>decide +kernel
def sj{H:MH}(d:dt 1 (.str v)=Ã):inB H (.str v) j3=À (decide (v∈SH)):=by
 have e:=m9 (h:=H) (l:=SH) d ∅ ⋯;have e2:uo SH (.str v)=decide (v∈SH):=by
  unfold uo;rw[vH,qu,decide_eq_true_iff];constructor
  .rintro⟨x,hx,e⟩
   rw[<-eq_of_beq e];exact hx
  .intro h
   exact⟨v,h,beq_self_eq_true v⟩
 rw[<-e2];exact e
def Cq{f:List W->M W}{h:MH}(e:f ws h=À (.ref h.length,h++[.dic l])):gc f ws h=À (.ref h.length,h++[.dic l]):=by
 unfold gc;rw[e];have p:h<+:h++[MO.dic l]:=jn _ _;have q:low h.length (.ref h.length)=Â:=by unfold low;simp
 have c:h<+:h++[MO.dic l]/\W.ref h.length≠.non:=⟨p,nofun⟩;simp only;rw[z9 c];erw[q,jt,je,at0]
section
variable{H:MH}{nd ns nw:Nat}{rl st wo:List W}{t:W}{F:Fs}
theorem f_with(F:Fs):(step F).bj=gc (kg 3 1 (bL F)):=rfl
theorem Qu{l:List (Key×W)}(hk:xA H kw=À l)(hl:l.length<cap):(step F).bj [kw,.str v,x] H=À (.ref H.length,H++[.dic (j2 l (.inr v) x)]):=by
 rw[f_with];refine Cq (yv (ρ:=[À kw,À (.str v),À x,Á]) rfl rfl ?_);unfold bL
 rw[zw (ρ':=[À kw,À (.str v),À x,À (.ref H.length)]) (h':=H++[.dic l]) (by
  erw[zI,zh,ko,bnd,ze,zm,nV,hk,zD]
  rfl)]
 have e:fy (.ref H.length) (.str v) x (H++[.dic l])=À (.non,H++[.dic (j2 l (.inr v) x)]):=by
  erw[fy,at0,keyOf,hl,kE,oM]
 rw[zw (ρ':=[À kw,À (.str v),À x,À (.ref H.length)]) (h':=H++[.dic (j2 l (.inr v) x)]) (by
  erw[zI,ze,zm,zA,bS,bnd,e])]
 rfl
def WE(g:Dg H nd ns nw rl st wo .non)(h:v∈SH):(step (step F)).cG [.ref nd,th "read" [.str v],kw,ww] H=À (.non,H.set nd (.ins 0 (yy rl ns nw (.tup [.str "read",.str v])))):=by
 have c2:(2:Nat)<=cap:=by decide
 have e:=sj (H:=H) (Ja h);rw[jX h] at e;refine yb (yT (ρ:=[À (.ref nd),À (th "read" [.str v]),À kw,À ww]) (ρ':=[À (.ref nd),À (th "read" [.str v]),À kw,À ww]) rfl rfl ?_) g.d (mP g (v:=.tup [.str "read",.str v]) nofun);have e2:ky (ki (mt (step F)) "rest_ahead_of" (ze 0) [zh zt [SD "read",zi zC (ze 1) (PL 1)]]) [À (.ref nd),À (th "read" [.str v]),À kw,À ww] H=À (.nx _,H.set nd (.ins 0 (yy rl ns nw (.tup [.str "read",.str v])))):=qS (tT g nofun rfl (by simp![xo,zt,c2]));unfold cW;unfold kP;rw[show kb (zi (uc Â) (zi zC (ze 1) (PL 1)) (eC j3)) [À (.ref nd),À (th "read" [.str v]),À kw,À ww] H=À (Ã,H) by simp![xo,e]];exact e2
def Yo(g:Dg H nd ns nw rl st wo t)(hw:wo.length<cap)(h:v∉SH)(d:dt 1 (.str v)=Ã)(hk:yi kw (.str v) H=À (.ref n,H))(hn:H[n]?=À (.lst [w])):(step (step F)).cG [.ref nd,th "read" [.str v],kw,ww] H=À (.non,H.set nw (.lst (wo++[w]))):=by
 have e:=sj (H:=H) d;rw[jA h] at e;have ix:zC (.ref n) (.int 0) H=À (w,H):=by simp[zC,getL,hn,atI,xD]
 refine yb (yT (ρ:=[À (.ref nd),À (th "read" [.str v]),À kw,À ww]) (ρ':=[À (.ref nd),À (th "read" [.str v]),À kw,À ww]) rfl rfl ?_) g.w (mV g w);have e2:ky (ki (mt (step F)) "bring" (ze 0) [zi zC (zi yi (ze 2) (zi zC (ze 1) (PL 1))) (PL 0)]) [À (.ref nd),À (th "read" [.str v]),À kw,À ww] H=À (.nx _,H.set nw (.lst (wo++[w]))):=qS (lX g hw rfl (by simp![xo,hk,ix]));unfold cW;unfold kP;rw[show kb (zi (uc Â) (zi zC (ze 1) (PL 1)) (eC j3)) [À (.ref nd),À (th "read" [.str v]),À kw,À ww] H=À (Â,H) by simp![xo,e]];exact e2
def VF(g:Dg H nd ns nw rl st wo .non)(h:v∈SH):(step (step F)).bK [.ref nd,th "write" [.str v,a],kw,.fls [x]] H=À (.non,H.set nd (.ins 0 (yy rl ns nw (.tup [.str "write",.str v,x])))):=by
 have c3:(3:Nat)<=cap:=by decide
 have e:=sj (H:=H) (Ja h);rw[jX h] at e;refine yb (yT (ρ:=[À (.ref nd),À (th "write" [.str v,a]),À kw,À (.fls [x])]) (ρ':=[À (.ref nd),À (th "write" [.str v,a]),À kw,À (.fls [x])]) rfl rfl ?_) g.d (mP g (v:=.tup [.str "write",.str v,x]) nofun);have e2:ky (ki (mt (step F)) "rest_ahead_of" (ze 0) [zh zt [SD "write",zi zC (ze 1) (PL 1),zi zC (ze 3) (PL 0)]]) [À (.ref nd),À (th "write" [.str v,a]),À kw,À (.fls [x])] H=À (.nx _,H.set nd (.ins 0 (yy rl ns nw (.tup [.str "write",.str v,x])))):=qS (tT g nofun rfl (by simp![xo,u4,zt,c3]));unfold cM;unfold kP;rw[show kb (zi (uc Â) (zi zC (ze 1) (PL 1)) (eC j3)) [À (.ref nd),À (th "write" [.str v,a]),À kw,À (.fls [x])] H=À (Ã,H) by simp![xo,e]];exact e2
def Dg.cell(g:Dg H nd ns nw rl st wo t){n:Nat}{o:MO}(a:n≠nd)(b:n≠ns)(c:n≠nw):Dg (H.set n o) nd ns nw rl st wo t:=
 ⟨by rw[zG a,g.d],by rw[zG b,g.s],by rw[zG c,g.w],g.n1,g.n2,g.n3⟩
def QE(g:Dg H nd ns nw rl st wo t)(hw:wo.length<cap)(h:v∉SH)(d:dt 1 (.str v)=Ã)(hk:yi kw (.str v) H=À (.ref n,H))(hn:H[n]?=À (.lst [w]))(na:n≠nd)(nb:n≠ns)(nc:n≠nw):(step (step F)).bK [.ref nd,th "write" [.str v,a],kw,.fls [x]] H=À (.non,(H.set n (.lst [x])).set nw (.lst (wo++[x]))):=by
 have e:=sj (H:=H) d;rw[jA h] at e;have g2:=g.cell (o:=.lst [x]) na nb nc;have ch:((H.set n (.lst [x])).set nw (.lst (wo++[x])))[nw]?≠À (.lst wo):=mV g2 x;refine yb (yT (ρ:=[À (.ref nd),À (th "write" [.str v,a]),À kw,À (.fls [x])]) (ρ':=[À (.ref nd),À (th "write" [.str v,a]),À kw,À (.fls [x])]) rfl rfl ?_) g.w ch;have pm:fy (.ref n) (.int 0) x H=À (.non,H.set n (.lst [x])):=by simp[fy,hn,xD]
 have e2:ky (ki (mt (step F)) "bring" (ze 0) [zi zC (ze 3) (PL 0)]) [À (.ref nd),À (th "write" [.str v,a]),À kw,À (.fls [x])] (H.set n (.lst [x]))=À (.nx _,(H.set n (.lst [x])).set nw (.lst (wo++[x]))):=qS (lX g2 hw rfl (by simp![u4]));unfold cM;unfold kP;rw[show kb (zi (uc Â) (zi zC (ze 1) (PL 1)) (eC j3)) [À (.ref nd),À (th "write" [.str v,a]),À kw,À (.fls [x])] H=À (Â,H) by simp![xo,e]];erw[jt,je];rw[zw (ρ':=[À (.ref nd),À (th "write" [.str v,a]),À kw,À (.fls [x])]) (h':=H.set n (.lst [x])) (by simp![u4,bS,xo,hk,pm])];exact e2
theorem tj:∀(l:List W) (j:Nat) (o:Option W),∃o',forL (zD 5) (zI (zh zt [SD "then",zi zC (ze 1) (PL 2),ze 4]) (zD 4)) l [À d,À (th "loop" [zo a,zo b]),À kw,À ww,À (zo (uR b j)),o] H=À (.nx [À d,À (th "loop" [zo a,zo b]),À kw,À ww,À (zo (uR b (j+l.length))),o'],H)
 | [],j,o=>⟨o,rfl⟩
 | w::l,j,o=>by
  obtain⟨o',ih⟩:=tj l (j+1) (À w);refine⟨o',?_⟩;have c3:(3:Nat)<=cap:=by decide
  have e1:zD 5 w [À d,À (th "loop" [zo a,zo b]),À kw,À ww,À (zo (uR b j)),o] H=À ([À d,À (th "loop" [zo a,zo b]),À kw,À ww,À (zo (uR b j)),À w],H):=rfl;have e2:zI (zh zt [SD "then",zi zC (ze 1) (PL 2),ze 4]) (zD 4) [À d,À (th "loop" [zo a,zo b]),À kw,À ww,À (zo (uR b j)),À w] H=À (.nx [À d,À (th "loop" [zo a,zo b]),À kw,À ww,À (zo (uR b (j+1))),À w],H):=by
   erw[uR,zo];simp![lf,zt,c3]
  unfold forL;rw[e1];simp only;rw[e2];simp only;rw[ih,show j+(w::l).length=j+1+l.length by erw[zp];omega]
def do_loop(g:Dg H nd ns nw rl st wo t)(hw:st.length<cap):(step (step F)).dq [.ref nd,zo (.loop a b),kw,.fls [.int x]] H=À (.non,H.set ns (.lst (st++[.tup [.bl Â,zo (uR b (x%4).toNat),kw]]))):=by
 have c2:(2:Nat)<=cap:=by decide
 erw[zo];obtain⟨o',lr⟩:=tj (a:=a) (b:=b) (H:=H) (kw:=kw) (ww:=.fls [.int x]) (d:=.ref nd) (upto (x%4).toNat) 0 Á;have hu:(upto (x%4).toNat).length=(x%4).toNat:=by unfold upto;rw[zP,q9]
 rw[hu,Nat.zero_add] at lr;refine yb (yT (ρ:=[À (.ref nd),À (th "loop" [zo a,zo b]),À kw,À (.fls [.int x]),Á,Á]) (ρ':=[À (.ref nd),À (th "loop" [zo a,zo b]),À kw,À (.fls [.int x]),À (zo (uR b (x%4).toNat)),o']) rfl rfl ?_) g.s (mM g _);unfold eF;rw[zw (ρ':=[À (.ref nd),À (th "loop" [zo a,zo b]),À kw,À (.fls [.int x]),À (zo (uR b 0)),Á]) (h':=H) (by erw[uR,zo];simp![zt,c2])];have rg:vj [zi y7 (zi zC (ze 3) (PL 0)) (eC uu)] [À (.ref nd),À (th "loop" [zo a,zo b]),À kw,À (.fls [.int x]),À (zo (uR b 0)),Á] H=À (.items (upto (x%4).toNat),H):=by
  have q:-(2 ^ 62:Int)<=x%4/\x%4<2 ^ 62:=by omega
  erw[vj,ko,bnd,zi,ze,zA,zm,eC,u4,y7,uu,bX];erw[show(0:Int)<4 by omega,kE];rw[z9 q]
 rw[zw (ρ':=[À (.ref nd),À (th "loop" [zo a,zo b]),À kw,À (.fls [.int x]),À (zo (uR b (x%4).toNat)),o']) (h':=H) (by unfold uk;rw[rg];exact lr)];have:=l4 (F:=F) (mo:=ze 0) (m:=ze 4) (m2:=ze 2) (ρ:=[À (.ref nd),À (th "loop" [zo a,zo b]),À kw,À (.fls [.int x]),À (zo (uR b (x%4).toNat)),o']) (d:=zo (uR b (x%4).toNat)) (k:=kw) (H1:=H) (H2:=H) g g hw rfl rfl rfl;exact qS this
def do_let{l:List (Key×W)}(g:Dg H nd ns nw rl st wo t)(hw:st.length<cap)(hk:xA H kw=À l)(hl:l.length<cap):(step (step F)).dZ [.ref nd,th "let" [.str v,a,b],kw,.fls [x]] H=À (.non,(H++[.dic (j2 l (.inr v) x)]:MH).set ns (.lst (st++[.tup [.bl Â,b,.ref H.length]]))):=by
 have e:=Qu (F:=F) (v:=v) (x:=x) hk hl
 exact pB (F:=F) (k:=0) g hw rfl (by simp![Zk]) (by
  erw[zh,ko,bnd,ze,zi,eC,zx,jk,Æ,kh,zA,zm,xo,u4,e])
def do_own{l:List (Key×W)}(g:Dg H nd ns nw rl st wo t)(hw:st.length<cap)(hk:xA (H++[.lst [x]]) kw=À l)(hl:l.length<cap):(step (step F)).dX [.ref nd,th "own" [.str v,a,b],kw,.fls [x]] H=À (.non,(H++[.lst [x],.dic (j2 l (.inr v) (.ref H.length))]:MH).set ns (.lst (st++[.tup [.bl Â,b,.ref (H.length+1)]]))):=by
 have e:=Qu (F:=F) (v:=v) (x:=.ref H.length) hk hl;rw[zY,zQ] at e;have c1:(1:Nat)<=cap:=by decide
 exact pB (F:=F) (k:=0) g hw rfl (by simp![Zk]) (by
  erw[zh,ko,bnd,ze,zi,eC,zx,jk,Æ,kh,zA,zm,xo,u4,xE,zp,zV,c1,kE]
  exact e)
def do_handed(g:Dg H nd ns nw rl st wo t)(hw:st.length<cap)(hk:yi kw (.str v) H=À (.tup [d',LF],H)):(step (step F)).bQ [.ref nd,th "do" [.str v],kw,ww] H=À (.non,H.set ns (.lst (st++[.tup [.bl Â,d',LF]]))):=by
 refine yb (yT (ρ:=[À (.ref nd),À (th "do" [.str v]),À kw,À ww,Á]) (ρ':=[À (.ref nd),À (th "do" [.str v]),À kw,À ww,À (.tup [d',LF])]) rfl rfl ?_) g.s (mM g _);unfold du;rw[zw (ρ':=[À (.ref nd),À (th "do" [.str v]),À kw,À ww,À (.tup [d',LF])]) (h':=H) (by simp![xo,hk])];exact qS (l4 (F:=F) (H1:=H) g g hw rfl (by simp![ux]) (by simp![xo]))
end
def dQ{l:List (Key×W)}:(j2 l k v).length<=l.length+1:=by
 unfold j2;split
 .rw[zP];omega
 .rw[zQ];simp
noncomputable def bo(ps:List (Ç×Int)):List (Key×W):=qv [] (ps.map λp=>(.inr p.1,.int p.2))
noncomputable def cf(kw:W)(ps:List (Ç×W))(l:List (Key×W)):List (Key×W):=ps.foldl (λl p=>j2 l (.inr p.1) (.tup [p.2,kw])) l
theorem lL:∀(ps:List (Key×W)) (l:List (Key×W)),(qv l ps).length<=l.length+ps.length
 | [],l=>by simp[qv]
 | p::ps,l=>by
  have h1:=lL ps (j2 l p.1 p.2);have h2:=dQ (l:=l) (k:=p.1) (v:=p.2);have e:qv l (p::ps)=qv (j2 l p.1 p.2) ps:=rfl;rw[e,zp];omega
theorem Z8:∀(ps:List (Ç×W)) (l:List (Key×W)),(cf kw ps l).length<=l.length+ps.length
 | [],l=>by simp[cf]
 | p::ps,l=>by
  have h1:=Z8 (kw:=kw) ps (j2 l (.inr p.1) (.tup [p.2,kw]));have h2:=dQ (l:=l) (k:=.inr p.1) (v:=.tup [p.2,kw]);have e:cf kw (p::ps) l=cf kw ps (j2 l (.inr p.1) (.tup [p.2,kw])):=rfl;rw[e,zp];omega
theorem iS:∀(ns:List Ç) (xs:List Int),keysOf ((zS ns).zip (xs.map W.int))=À ((ns.zip xs).map λp=>(.inr p.1,.int p.2))
 | [],_=>by simp[zS,keysOf]
 | _::_,[]=>by simp[zS,keysOf]
 | n::ns,x::xs=>by
  have ih:=iS ns xs;erw[zS,zx,jm] at ih ⊢;unfold keysOf;rw[ih];rfl
section
variable{H:MH}{nd ns nw:Nat}{rl st wo:List W}{t:W}{F:Fs}
noncomputable abbrev ρq(nd:Nat)(d kw ww ru:W)(n:Nat)(o6 o7:Option W):En:=[À (.ref nd),À d,À kw,À ww,À ru,À (.ref n),o6,o7]
theorem tL:∀(ps:List (Ç×W)) (L:List (Key×W)) (o6 o7:Option W),L.length+ps.length<=100->∃N8 EO,forL (eD [zD 6,zD 7]) (zI (zh zt [ze 7,ze 2]) (bS (ze 5) (ze 6))) (ps.map λp=>.tup [.str p.1,p.2]) (ρq nd d kw ww ru H.length o6 o7) (H++[.dic L])=À (.nx (ρq nd d kw ww ru H.length N8 EO),H++[.dic (cf kw ps L)])
 | [],L,o6,o7,_=>⟨o6,o7,rfl⟩
 | p::ps,L,o6,o7,hl=>by
  have c2:(2:Nat)<=cap:=by decide
  have lc:L.length<cap:=zL (show L.length<101 by omega) (by decide);have pl:=dQ (l:=L) (k:=.inr p.1) (v:=.tup [p.2,kw]);erw[zp] at hl;obtain⟨N8,EO,ih⟩:=tL ps (j2 L (.inr p.1) (.tup [p.2,kw])) (À (.str p.1)) (À p.2) ∅;refine⟨N8,EO,?_⟩;have e1:eD [zD 6,zD 7] (.tup [.str p.1,p.2]) (ρq nd d kw ww ru H.length o6 o7) (H++[.dic L])=À (ρq nd d kw ww ru H.length (À (.str p.1)) (À p.2),H++[.dic L]):=by
   simp[eD,fI,zD,bnd]
  have pm:fy (.ref H.length) (.str p.1) (.tup [p.2,kw]) (H++[.dic L])=À (.non,H++[.dic (j2 L (.inr p.1) (.tup [p.2,kw]))]):=by
   erw[fy,at0,keyOf,lc,kE,oM]
  have e2:zI (zh zt [ze 7,ze 2]) (bS (ze 5) (ze 6)) (ρq nd d kw ww ru H.length (À (.str p.1)) (À p.2)) (H++[.dic L])=À (.nx (ρq nd d kw ww ru H.length (À (.str p.1)) (À p.2)),H++[.dic (j2 L (.inr p.1) (.tup [p.2,kw]))]):=by
   erw[zI,zh,ko,bnd,ze,zA,zm,zt,zp,zV,c2,kE,bS,pm]
  erw[zx];unfold forL;rw[e1];simp only;rw[e2];simp only;exact ih
theorem f_call(F:Fs):(step F).cF=gc (kg 4 4 (cU F)):=rfl
def do_call{i:Nat}{bs:List D}{r:Rule}{xs:List Int}(g:Dg H nd ns nw rl st wo t)(hw:st.length<cap)(hr:rl[i]?=À (dE r))(hx:r.ns.length<=10)(hb:r.hs.length<=10):(step (step F)).cF [.ref nd,zo (.call i as bs),kw,.fls (xs.map .int)] H=À (.non,(H++[.dic (cf kw (r.hs.zip (kr bs)) (bo (r.ns.zip xs)))]:MH).set ns (.lst (st++[.tup [.bl Â,zo r.body,.ref H.length]]))):=by
 have l0:(bo (r.ns.zip xs)).length<=10:=by
  have:=lL ((r.ns.zip xs).map λp=>(.inr p.1,.int p.2)) [];rw[zP,qi,zV] at this;unfold bo;omega
 have l1:(r.hs.zip (kr bs)).length<=10:=by rw[qi];omega
 obtain⟨o6,o7,lp⟩:=tL (nd:=nd) (H:=H) (d:=zo (.call i as bs)) (kw:=kw) (ww:=.fls (xs.map .int)) (ru:=dE r) (r.hs.zip (kr bs)) (bo (r.ns.zip xs)) Á Á ∅;erw[zo] at lp ⊢;have g2:=g.app [.dic (cf kw (r.hs.zip (kr bs)) (bo (r.ns.zip xs)))];have ei:zC (.tup rl) (.int (i:Int)) H=À (dE r,H):=D3 ∅ (by have:=kd hr;omega) (by simpa using hr);have zd:oU [.tup (zS r.ns),.fls (xs.map .int)] H=À (.ref H.length,H++[.dic (bo (r.ns.zip xs))]):=by
  have k:=iS r.ns xs;have kl:((r.ns.zip xs).map λp=>((.inr p.1:Key),W.int p.2)).length<=1000:=by rw[zP,qi];omega
  erw[oU,aw,k,kl,kE];rfl
 have zz:∀H',Zx [.tup (zS r.hs),.tup (kr bs)] H'=À (.items ((r.hs.zip (kr bs)).map λp=>.tup [.str p.1,p.2]),H'):=λH'=>by
  erw[Zx,aw,ZG,vg];rfl
 have e1:=g.fR;have r0:zC (dE r) (.int 0) H=À (.tup (zS r.ns),H):=ux;have r1:∀H',zC (dE r) (.int 1) H'=À (.tup (zS r.hs),H'):=λH'=>xo
 have r2:∀H',zC (dE r) (.int 2) H'=À (zo r.body,H'):=λH'=>lf
 rw[f_call];refine yb (yT (ρ:=[À (.ref nd),À (th "call" [.int i,.tup (kr as),.tup (kr bs)]),À kw,À (.fls (xs.map .int)),Á,Á,Á,Á]) (ρ':=ρq nd (th "call" [.int i,.tup (kr as),.tup (kr bs)]) kw (.fls (xs.map .int)) (dE r) H.length o6 o7) rfl rfl ?_) g.s (rO g _);unfold cU;rw[zw (ρ':=[À (.ref nd),À (th "call" [.int i,.tup (kr as),.tup (kr bs)]),À kw,À (.fls (xs.map .int)),À (dE r),Á,Á,Á]) (h':=H) (by simp![kM,e1,xo,ei])]
 rw[zw (ρ':=ρq nd (th "call" [.int i,.tup (kr as),.tup (kr bs)]) kw (.fls (xs.map .int)) (dE r) H.length Á Á) (h':=H++[.dic (bo (r.ns.zip xs))]) (by
  erw[zI,lT,zh,ko,bnd,ze,zi,eC,zA,zm,r0,zd,zD]
  rfl)]
 rw[zw (ρ':=ρq nd (th "call" [.int i,.tup (kr as),.tup (kr bs)]) kw (.fls (xs.map .int)) (dE r) H.length o6 o7) (h':=H++[.dic (cf kw (r.hs.zip (kr bs)) (bo (r.ns.zip xs)))]) (by
  unfold uk
  rw[show fE [zi zC (ze 4) (PL 1),zi zC (ze 1) (PL 3)] (ρq nd (th "call" [.int i,.tup (kr as),.tup (kr bs)]) kw (.fls (xs.map .int)) (dE r) H.length Á Á) (H++[.dic (bo (r.ns.zip xs))])=À (.items ((r.hs.zip (kr bs)).map λp=>.tup [.str p.1,p.2]),H++[.dic (bo (r.ns.zip xs))]) by
   erw[fE,ko,bnd,ze,zi,eC,zA,zm,r1,Zk,zz]]
  exact lp)]
 exact qS (l4 (F:=F) (H1:=H++[.dic (cf kw (r.hs.zip (kr bs)) (bo (r.ns.zip xs)))]) (H2:=H++[.dic (cf kw (r.hs.zip (kr bs)) (bo (r.ns.zip xs)))]) g2 g2 hw rfl (by simp![r2]) rfl)
end
mutual
inductive VlR(na:Nat)(H:MH)(ca:List Nat)(b:Nat):Vl->W->Prop
 | int (i:Int):VlR na H ca b (.int i) (.int i)
 | cell {c n:Nat} (h:ca[c]?=À n):VlR na H ca b (.cell c) (.ref n)
 | hd {d:D} {env:Ev} {w:W} (e:EvR na H ca b env w):VlR na H ca b (.hd d env) (.tup [zo d,w])
inductive EvR(na:Nat)(H:MH)(ca:List Nat)(b:Nat):Ev->W->Prop
 | nil:EvR na H ca b [] (.fdc [])
 | mk {env:Ev} {l:List (Key×W)} {n:Nat} (f:Ç->W) (h:H[n]?=À (.dic l)) (hx:n≠na) (hl:l.length<=b) (r:∀v x,lk env v=À x->vF l (.inr v)=À (f v)) (q:∀v x,lk env v=À x->VlR na H ca b x (f v)):EvR na H ca b env (.ref n)
end
noncomputable def DicP(na:Nat)(H H':MH):Prop:=∀n l,n≠na->H[n]?=À (.dic l)->H'[n]?=À (.dic l)
section
variable{na:Nat}{H H':MH}{ca ls:List Nat}{b b':Nat}
mutual
theorem VlR.mono(p:DicP na H H')(hc:ca<+:ls)(hb:b<=b'):∀{x:Vl} {w:W},VlR na H ca b x w->VlR na H' ls b' x w
 | _,_,.int i=>.int i
 | _,_,.cell h=>.cell (by
   obtain⟨t,rfl⟩:=hc
   rw[zy (kd h)];exact h)
 | _,_,.hd e=>.hd (EvR.mono p hc hb e)
theorem EvR.mono(p:DicP na H H')(hc:ca<+:ls)(hb:b<=b'):∀{x:Ev} {w:W},EvR na H ca b x w->EvR na H' ls b' x w
 | _,_,.nil=>.nil
 | _,_,.mk f h hx hl r q=>.mk f (p _ _ hx h) hx (zK hl hb) r λv x e=>VlR.mono p hc hb (q v x e)
end
def EvR.di(e:EvR na H ca b env w):∃l,xA H w=À l/\l.length<=b/\∀v x,lk env v=À x->∃w',vF l (.inr v)=À w'/\VlR na H ca b x w':=by
 cases e with
 | nil=>exact⟨[],rfl,qy _,λv x h=>by cases h⟩
 | mk f h hx hl r q=>exact⟨_,by erw[xA,h],hl,λv x e=>⟨f v,r v x e,q v x e⟩⟩
def EvR.get(e:EvR na H ca b env w)(h:lk env v=À x):∃w',yi w (.str v) H=À (w',H)/\VlR na H ca b x w':=by
 obtain⟨l,h1,h2,h3⟩:=e.di;obtain⟨w',h4,h5⟩:=h3 v x h;exact⟨w',by erw[yi,h1,keyOf,h4],h5⟩
theorem EvR.low(e:EvR na H ca b env w):ML.low H.length w=Ã:=by
 cases e with
 | nil=>unfold ML.low;unfold oN;rfl
 | mk f h hx hl r q=>unfold ML.low;exact jX (kd h)
def uN{p:Key×W}:vF (p::r) k=if p.1=k then À p.2 else vF r k:=by
 unfold vF;rw[jD];by_cases q:p.1=k<;>simp[q]
def Bk:vF (j2 l k v) k'=if k=k' then À v else vF l k':=by
 have RK:∀l:List (Key×W),¬k=k'->vF (l.map λkv=>if kv.1=k then (kv.1,v) else kv) k'=vF l k':=by
  intro l q;induction l with
  | nil=>rfl
  | cons p r ih=>
   rw[zx,uN,uN,ih];by_cases q1:p.1=k
   .have:¬p.1=k':=λz=>q (q1.symm.trans z)
    erw[q1,kE,q,this,je]
   .erw[q1,je]
 have mp:∀l:List (Key×W),(l.any λkv=>decide (kv.1=k))=Ã->vF (l.map λkv=>if kv.1=k then (kv.1,v) else kv) k=À v:=by
  intro l;induction l with
  | nil=>intro h;simp at h
  | cons p r ih=>
   intro h;rw[zx,uN];by_cases q1:p.1=k
   .erw[q1,kE]
   .erw[q1,je]
    exact ih (by simpa[q1] using h)
 unfold j2;split
 .rename_i h
  by_cases q:k=k'
  .subst q;rw[z9 rfl];exact mp l h
  .rw[kI q];exact RK l q
 .rename_i h
  have ap:∀l:List (Key×W),(l.any λkv=>decide (kv.1=k))≠Ã->vF (l++[(k,v)]) k'=if k=k' then À v else vF l k':=by
   intro l;induction l with
   | nil=>intro _;rw[kJ,uN]
   | cons p r ih=>
    intro h;rw[jl,uN,uN,ih (λz=>h (by simp[z]))];by_cases q1:p.1=k'
    .have:¬k=k':=λz=>h (by simp[q1.trans z.symm])
     erw[q1,kE,this,je]
    .erw[q1,je]
  exact ap l h
noncomputable def LR(na:Nat)(H:MH)(ca:List Nat)(b:Nat)(l:List (Key×W))(env:Ev):Prop:=∀v x,lk env v=À x->∃w',vF l (.inr v)=À w'/\VlR na H ca b x w'
def LR.put(h:LR na H ca b l env)(r:VlR na H ca b x w):LR na H ca b (j2 l (.inr v) w) ((v,x)::env):=by
 intro u y e;rw[xk] at e;rw[Bk];by_cases q:v=u
 .subst q
  rw[z9 rfl] at e;injection e with e;subst e;exact⟨w,by simp,r⟩
 .rw[kI q] at e
  obtain⟨w',h1,h2⟩:=h u y e;exact⟨w',by rw[kI (λz=>q (yC z)),h1],h2⟩
def LR.ev{l:List (Key×W)}(h:LR na H ca b l env)(hn:H[n]?=À (.dic l))(hx:n≠na)(hl:l.length<=b):EvR na H ca b env (.ref n):=
 .mk (λv=>(vF l (.inr v)).getD .non) hn hx hl (λv x e=>by obtain⟨w',h1,h2⟩:=h v x e;rw[h1];rfl) λv x e=>by obtain⟨w',h1,h2⟩:=h v x e;rw[h1];exact h2
theorem LR.mono(h:LR na H ca b l env)(p:DicP na H H')(hc:ca<+:ls)(hb:b<=b'):LR na H' ls b' l env:=λv x e=>let ⟨w',h1,h2⟩:=h v x e;⟨w',h1,h2.mono p hc hb⟩
theorem LR.ints:∀(ps:List (Ç×Int)) {l:List (Key×W)} {env:Ev},LR na H ca b l env->LR na H ca b (qv l (ps.map λp=>(.inr p.1,.int p.2))) (ps.foldl (λe p=>(p.1,.int p.2)::e) env)
 | [],l,env,h=>h
 | p::ps,l,env,h=>LR.ints ps (h.put (.int p.2))
theorem LR.hds{env0:Ev}(e0:EvR na H ca b env0 kw):∀(hs:List Ç) (bs:List D) {l:List (Key×W)} {env:Ev},LR na H ca b l env->LR na H ca b (cf kw (hs.zip (kr bs)) l) ((hs.zip bs).foldl (λe p=>(p.1,.hd p.2 env0)::e) env)
 | [],_,l,env,h=>h
 | _::_,[],l,env,h=>by simpa[kr,cf] using h
 | x::hs,d::bs,l,env,h=>by
  erw[kr,jm,jR,cf];exact LR.hds e0 hs bs (h.put (.hd e0))
def uQ(X:MH):DicP na H (H++X):=λn l _ h=>by rw[zy (kd h)];exact h
def uU(h:H[a]?=À o)(ho:∀l,o≠.dic l):DicP na H (H.set a o'):=λn l _ e=>by
 have:a≠n:=λz=>by subst z;rw[h] at e;injection e with e;exact ho l e
 rw[zG this];exact e
def DicP.trans(a:DicP na H H')(c:DicP na H' EU):DicP na H EU:=λn l hn e=>c n l hn (a n l hn e)
end
inductive StR(na:Nat)(H:MH)(ca:List Nat)(b:Nat):List vb->List W->Prop
 | nil:StR na H ca b [] []
 | cons {pd:Bool} {d:D} {env:Ev} {kw:W} {stk:List vb} {st:List W} (e:EvR na H ca b env kw) (r:StR na H ca b stk st):StR na H ca b ((pd,d,env)::stk) (st++[.tup [.bl pd,zo d,kw]])
theorem StR.mono{H:MH}(h:StR na H ca b stk st)(p:DicP na H H')(hc:ca<+:ls)(hb:b<=b'):StR na H' ls b' stk st:=by
 induction h with
 | nil=>exact .nil
 | cons e r ih=>exact .cons (e.mono p hc hb) ih
def StR.len{H:MH}{stk:List vb}{st:List W}(h:StR na H ca b stk st):st.length=stk.length:=by
 induction h with
 | nil=>rfl
 | cons e r ih=>simp[ih]
noncomputable def vn(ws:List Int):List W:=ws.reverse.map .int
structure Sim(na:Nat)(rs:List Rule)(H:MH)(nd ns nw:Nat)(ca:List Nat)(s:Nat)(st:List W)(stk:List vb)(ws cs:List Int)(t:W):Prop where
 g:Dg H nd ns nw (kA rs) st (vn ws) t
 sr:StR na H ca s stk st
 cl:ca.length=cs.length
 ce:∀(c n:Nat) (i:Int),ca[c]?=À n->cs[c]?=À i->H[n]?=À (.lst [.int i])
 cn:ca.Nodup
 cx:∀n∈ca,n≠nd/\n≠ns/\n≠nw
 l1:stk.length<=s
 l2:ws.length<=s
structure Fm(A:List Nat)(H H':MH):Prop where
 l:H.length<=H'.length
 k:∀n o,n∉A->H[n]?=À o->H'[n]?=À o
def Fm.refl{H:MH}:Fm A H H:=⟨zj _,λ_ _ _ e=>e⟩
def Fm.trans{H:MH}(a:Fm A H H')(b:Fm A H' EU):Fm A H EU:=⟨zK a.l b.l,λn o h e=>b.k n o h (a.k n o h e)⟩
theorem Fm.set{H:MH}(h:a∈A):Fm A H (H.set a o):=⟨by rw[jc];exact zj _,λn o' hn e=>by
 have q:a≠n:=λz=>hn (by rw[<-z];exact h)
 rw[zG q];exact e⟩
def Fm.app{H:MH}(X:MH):Fm A H (H++X):=⟨by rw[zQ];omega,λn o _ e=>by rw[zy (kd e)];exact e⟩
def Fm.sub{H:MH}(a:Fm A H H')(h:∀n∈A,n∈B):Fm B H H':=⟨a.l,λn o hn e=>a.k n o (λz=>hn (h n z)) e⟩
section
variable{na:Nat}{rs:List Rule}{H:MH}{nd ns nw:Nat}{ca:List Nat}{s:Nat}{st:List W}{stk:List vb}{ws cs:List Int}{t:W}
def Sim.more(S:Sim na rs H nd ns nw ca s st stk ws cs t)(h:s<=s'):Sim na rs H nd ns nw ca s' st stk ws cs t:=⟨S.g,S.sr.mono (λ_ _ _ e=>e) (zR _) h,S.cl,S.ce,S.cn,S.cx,zK S.l1 h,zK S.l2 h⟩
theorem Sim.app(S:Sim na rs H nd ns nw ca s st stk ws cs t)(X:MH):Sim na rs (H++X) nd ns nw ca s st stk ws cs t:=
 ⟨S.g.app X,S.sr.mono (uQ X) (zR _) (zj _),S.cl,λc n i a b=>by have:=S.ce c n i a b;rw[zy (kd this)];exact this,S.cn,S.cx,S.l1,S.l2⟩
def Sim.cnot(S:Sim na rs H nd ns nw ca s st stk ws cs t){c:Nat}(h:ca[c]?=À n)(ha:a=nd\/a=ns\/a=nw):a≠n:=by
 have:=S.cx n (jG h);rcases ha with rfl | rfl | rfl
 .exact this.1.symm
 .exact this.2.1.symm
 .exact this.2.2.symm
theorem Sim.worths(S:Sim na rs H nd ns nw ca s st stk ws cs t){ws':List Int}(h:ws'.length<=s):Sim na rs (H.set nw (.lst (vn ws'))) nd ns nw ca s st stk ws' cs t:=
 ⟨S.g.worths _,S.sr.mono (uU S.g.w (λ_=>nofun)) (zR _) (zj _),S.cl,λc n i a b=>by rw[zG (S.cnot a (.inr (.inr rfl)))];exact S.ce c n i a b,S.cn,S.cx,S.l1,h⟩
theorem Sim.ahead(S:Sim na rs H nd ns nw ca s st stk ws cs t)(t':W):Sim na rs (H.set nd (.ins 0 (yy (kA rs) ns nw t'))) nd ns nw ca s st stk ws cs t':=
 ⟨S.g.ahead _,S.sr.mono (uU S.g.d (λ_=>nofun)) (zR _) (zj _),S.cl,λc n i a b=>by rw[zG (S.cnot a (.inl rfl))];exact S.ce c n i a b,S.cn,S.cx,S.l1,S.l2⟩
theorem Sim.steps(S:Sim na rs H nd ns nw ca s st stk ws cs t){stk':List vb}(r:StR na H ca s stk' st')(h:stk'.length<=s):Sim na rs (H.set ns (.lst st')) nd ns nw ca s st' stk' ws cs t:=
 ⟨S.g.steps _,r.mono (uU S.g.s (λ_=>nofun)) (zR _) (zj _),S.cl,λc n i a b=>by rw[zG (S.cnot a (.inr (.inl rfl)))];exact S.ce c n i a b,S.cn,S.cx,h,S.l2⟩
theorem Sim.cell(S:Sim na rs H nd ns nw ca s st stk ws cs t){c n:Nat}{x:Int}(h:ca[c]?=À n)(hc:c<cs.length):Sim na rs (H.set n (.lst [.int x])) nd ns nw ca s st stk ws (cs.set c x) t:=by
 have old:=S.ce c n cs[c] h (zE hc);have nn:=S.cx n (jG h);refine⟨S.g.cell nn.1 nn.2.1 nn.2.2,S.sr.mono (uU old (λ_=>nofun)) (zR _) (zj _),by rw[jc];exact S.cl,λc' n' i a b=>?_,S.cn,S.cx,S.l1,S.l2⟩;by_cases q:c'=c
 .subst q
  rw[h] at a;injection a with a;subst a;rw[zH hc] at b;injection b with b;subst b;exact zH (kd old)
 .rw[zG (kZ q)] at b
  have:n≠n':=λz=>by
   subst z;have h1:=kd h;have h2:=kd a;rw[zE h1] at h;rw[zE h2] at a;injection h with h;injection a with a;exact q ((vm S.cn).mp (a.trans h.symm))
  rw[zG this];exact S.ce c' n' i a b
def Sim.newc(S:Sim na rs H nd ns nw ca s st stk ws cs t)(x:Int):Sim na rs (H++[.lst [.int x]]) nd ns nw (ca++[H.length]) s st stk ws (cs++[x]) t:=by
 have lt:∀n∈ca,n<H.length:=λn hn=>by
  obtain⟨c,hc⟩:=jC.mp hn;have h1:c<cs.length:=by rw[<-S.cl];exact kd hc
  exact kd (S.ce c n cs[c] hc (zE h1))
 refine⟨S.g.app _,S.sr.mono (uQ _) (jn _ _) (zj _),by simp[S.cl],λc n i a b=>?_,?_,λn hn=>?_,S.l1,S.l2⟩
 .by_cases q:c<ca.length
  .rw[zy q] at a
   rw[zy (by rw[<-S.cl];exact q)] at b;have:=S.ce c n i a b;rw[zy (kd this)];exact this
  .rw[zF ∅] at a
   rw[zF (by rw[<-S.cl];omega)] at b;have z:c-ca.length=0:=by have:=kd a;simp at this;omega
   rw[z] at a;rw[<-S.cl,z] at b;simp at a b;subst a;subst b;exact at0 _ _
 .rw[ym]
  exact⟨S.cn,by simp,λa ha b hb=>by simp at hb;subst hb;exact zW (lt a ha)⟩
 .rcases zU.mp hn with z | z
  .exact S.cx n z
  .simp at z
   subst z;have h1:=kd S.g.d;have h2:=kd S.g.s;have h3:=kd S.g.w;omega
end
noncomputable def tW:Tch->W
 | .read v=>.tup [.str "read",.str v]
 | .write v i=>.tup [.str "write",.str v,.int i]
 | .say i=>.tup [.str "say",.int i]
 | .ask=>.tup [.str "ask"]
def nQ(t:Tch):tW t≠.non:=by cases t<;>exact nofun
section
variable{na:Nat}{rs:List Rule}{H:MH}{nd ns nw:Nat}{ca:List Nat}{s:Nat}{st:List W}{stk:List vb}{ws cs:List Int}{t:W}{G F:Fs}
def Wm{d:D}{wo:List W}{f:List W->M W}(g:Dg H nd ns nw rl st wo t)(hf:G.au [zo d] H=À (.tup (kr d.first),H))(hp:pd=Ã\/d.first=[])(ht:G.aR [.ref nw,.int (d.first.length:Int)] H=À (.fls vs,H1))(hd:zo d=th x r)(hw:(qA G).lookup x=À f)(e:f [.ref nd,th x r,kw,.fls vs] H1=À (w,H2)):kg 4 1 (aq G) [.ref nd,.bl pd,zo d,kw] H=À (.non,H2):=by
 refine yT (ρ:=[À (.ref nd),À (.bl pd),À (zo d),À kw,Á]) (ρ':=[À (.ref nd),À (.bl pd),À (zo d),À kw,À (.tup (kr d.first))]) rfl rfl ?_;unfold aq;rw[zw (ρ':=[À (.ref nd),À (.bl pd),À (zo d),À kw,À (.tup (kr d.first))]) (h':=H) (by simp![hf])];have lt:(kr d.first).length=d.first.length:=by rw[x5,zP]
 have tt:(ub (kb (ze 1)) (kb (zi (jv Â) (zh kN [ze 4]) (PL 0)))) [À (.ref nd),À (.bl pd),À (zo d),À kw,À (.tup (kr d.first))] H=À (Ã,H):=by
  rcases hp with rfl | hp
  .simp![]
  .cases pd
   .rw[hp];simp![kr,kN,yY]
   .simp![]
 unfold kP;rw[tt];erw[kE];refine qS (w:=w) ?_;have e1:=g.fW;unfold Jr;rw[hd];erw[bnd,zi,ze,eC,zA,zm,ux,hw,ko,zh,kM,e1,kN,xB,lt,ht,e]
def Qs{d:D}{wo:List W}(g:Dg H nd ns nw rl st wo t)(hf:G.au [zo d] H=À (.tup (kr d.first),H))(hp:d.first≠[])(hl:d.first.length<=4)(hs:st.length+10<=cap)(RL:low H.length kw=Ã):kg 4 1 (aq G) [.ref nd,.bl Â,zo d,kw] H=À (.non,H.set ns (.lst ((st++[.tup [.bl Ã,zo d,kw]])++(kr d.first).reverse.map λp=>.tup [.bl Â,p,kw]))):=by
 refine yT (ρ:=[À (.ref nd),À (.bl Â),À (zo d),À kw,Á]) (ρ':=[À (.ref nd),À (.bl Â),À (zo d),À kw,À (.tup (kr d.first))]) rfl rfl ?_;unfold aq;rw[zw (ρ':=[À (.ref nd),À (.bl Â),À (zo d),À kw,À (.tup (kr d.first))]) (h':=H) (by simp![hf])];have c3:(3:Nat)<=cap:=by decide
 have lt:(kr d.first).length=d.first.length:=by rw[x5,zP]
 have n0:((((d.first.length:Nat):Int))==0)=Â:=by
  rw[ju];intro z;exact hp (jM.mp ∅)
 have tt:(ub (kb (ze 1)) (kb (zi (jv Â) (zh kN [ze 4]) (PL 0)))) [À (.ref nd),À (.bl Â),À (zo d),À kw,À (.tup (kr d.first))] H=À (Â,H):=by
  simp![kN,lt,yY,n0]
 unfold kP;rw[tt];erw[jt,je];have e1:=g.fS;have e2:=g.s;have sl:st.length<cap:=by omega
 have a1:ky (kD qh (kM kB "steps" (ze 0)) [zh zt [eC (.bl Ã),ze 2,ze 3]]) [À (.ref nd),À (.bl Â),À (zo d),À kw,À (.tup (kr d.first))] H=À (.nx [À (.ref nd),À (.bl Â),À (zo d),À kw,À (.tup (kr d.first))],H.set ns (.lst (st++[.tup [.bl Ã,zo d,kw]]))):=by
  simp![kM,e1,kD,getL,e2,zt,c3,qh,sl]
 rw[zw a1];have g2:=g.steps (st++[.tup [.bl Ã,zo d,kw]]);have LS:low (H.set ns (.lst (st++[.tup [.bl Ã,zo d,kw]]))).length kw=Ã:=by rw[jc];exact RL
 suffices fin:∀H2:MH,Dg H2 nd ns nw rl (st++[.tup [.bl Ã,zo d,kw]]) wo t->low H2.length kw=Ã->ky (kD ui (kM kB "steps" (ze 0)) [j1 (oI [ze 4]) 1 [3] (zD 0) kL (zh zt [eC (.bl Â),ze 0,ze 1])]) [À (.ref nd),À (.bl Â),À (zo d),À kw,À (.tup (kr d.first))] H2=À (.nx [À (.ref nd),À (.bl Â),À (zo d),À kw,À (.tup (kr d.first))],H2.set ns (.lst ((st++[.tup [.bl Ã,zo d,kw]])++(kr d.first).reverse.map λp=>.tup [.bl Â,p,kw]))) by
  have:=fin _ g2 LS;rw[xn] at this;exact this
 clear g2 LS;intro H2 g2 LS;have cp:=fh (mi:=oI [ze 4]) (ks:=[3]) (t:=kL) (m:=zh zt [eC (.bl Â),ze 0,ze 1]) (ρ:=[À (.ref nd),À (.bl Â),À (zo d),À kw,À (.tup (kr d.first))]) (h:=H2) (l:=(kr d.first).reverse) (λ_=>Ã) (λp=>.tup [.bl Â,p,kw])
  (by erw[oI,ko,bnd,ze,zA,zm,W6]) (λw _ H'=>rfl) (λw _ _ H'=>by simp![zt,c3])
  (λw hw _=>by
   have:low H2.length w=Ã:=ee (c9 _ _) w (List.mem_reverse.mp hw);unfold low lows low lows;rw[this];unfold lows;rw[LS];unfold lows
   rfl)
  (by rw[j0,lt];exact zK hl (by decide))
 rw[filter_true] at cp;have f1:=g2.fS;have f2:=g2.s;have AK:st.length+1+d.first.length<=cap:=by omega
 unfold ky kD;erw[bnd,kM,ze,zm,f1,getL,f2,vM,kE,ko,cp,ui,xB,zQ,zp,zV,zP,j0,lt,AK]
theorem f_take(F:Fs):(step F).aO=gc (kg 4 1 (aq F)):=rfl
def gu(ws:List Int):(vn ws).length=ws.length:=by simp[vn]
def ZN{f:List W->M W}{stk':List vb}{ws':List Int}(e:f as H=À (w,H2))(S:Sim na rs H nd ns nw ca s st stk ws cs t)(S2:Sim na rs H2 nd ns nw ls s' st' stk' ws' cs' t')(h:ws.length≠ws'.length\/stk.length≠stk'.length\/t'≠t):gc f as H=À (w,H2):=by
 rcases h with h | h | h
 .refine yb e S.g.w ?_
  rw[S2.g.w];intro z;injection z with z;injection z with z;have:=jP ģ z;rw[gu,gu] at this;omega
 .refine yb e S.g.s ?_
  rw[S2.g.s];intro z;injection z with z;injection z with z;have:=jP ģ z;rw[S.sr.len,S2.sr.len] at this;omega
 .refine yb e S.g.d ?_
  rw[S2.g.d];intro z;injection z with z;injection z with _ z;erw[jN,qF] at z;exact h z.2.2.2.1.2
def UQ(xs ws:List Int):vn (xs.reverse++ws)=vn ws++xs.map .int:=by simp[vn]
def GG{xs:List Int}(S:Sim na rs H nd ns nw ca s st stk (xs.reverse++ws) cs t)(hl:xs.length<=1000):∃X,(step G).aR [.ref nw,.int (xs.length:Int)] H=À (.fls (xs.map .int),H.set nw (.lst (vn ws))++X):=by
 have h1:=S.g.w;rw[UQ] at h1;by_cases q:xs=[]
 .subst q
  erw[jk,kh] at h1;refine⟨[],?_⟩;rw[kh,set_same h1];exact WT h1
 .exact⟨_,U6 (n:=xs.length) h1 (by simp) hl (by simpa using q)⟩
end
def iF(v:Int)(ws:List Int):vn (v::ws)=vn ws++[.int v]:=by simp[vn]
section
variable{na:Nat}{rs:List Rule}{H:MH}{nd ns nw:Nat}{ca:List Nat}{s:Nat}{st:List W}{stk:List vb}{ws cs:List Int}{t:W}{F:Fs}
theorem Zp(E:EvR na H ca b env kw):∀(l:List D) {Az:List W} {EQ:List vb},StR na H ca b EQ Az->StR na H ca b (l.map (λa=>(Â,a,env))++EQ) (Az++(kr l).reverse.map λp=>.tup [.bl Â,p,kw])
 | [],Az,EQ,h=>by simpa[kr] using h
 | a::l,Az,EQ,h=>by
  have ih:=Zp E l h;have e:Az++(kr (a::l)).reverse.map (λp=>W.tup [.bl Â,p,kw])=(Az++(kr l).reverse.map λp=>W.tup [.bl Â,p,kw])++[.tup [.bl Â,zo a,kw]]:=by simp[kr]
  rw[e];exact .cons E ih
def ii{d:D}{f:List W->M W}{xs:List Int}(S:Sim na rs H nd ns nw ca s st stk (xs.reverse++ws) cs t)(hx:xs.length=d.first.length)(hl:d.first.length<=4)(hp:pd=Ã\/d.first=[])(hd:zo d=th x r)(hw:(qA (step (step (step F)))).lookup x=À f) :
  ∃X,∀w H2,f [.ref nd,th x r,kw,.fls (xs.map .int)] (H.set nw (.lst (vn ws))++X)=À (w,H2)->kg 4 1 (aq (step (step (step F)))) [.ref nd,.bl pd,zo d,kw] H=À (.non,H2):=by
 obtain⟨X,e⟩:=GG (G:=step (step F)) S ∅;rw[hx] at e;exact⟨X,λw H2 h=>Wm S.g (KL d) hp e hd hw h⟩
noncomputable def mL(F:Fs)(na:Nat)(rs:List Rule)(H:MH)(nd ns nw:Nat)(ca:List Nat)(s:Nat)(pd:Bool)(d:D)(kw:W)(stk:List vb)(ws cs:List Int)(t:W):Prop:=
 ∃H' ls st',(step (step (step (step F)))).aO [.ref nd,.bl pd,zo d,kw] H=À (.non,H')/\Sim na rs H' nd ns nw ls (s+4) st' stk ws cs t/\Fm (nd::ns::nw::ca) H H'/\∀n∈ls,n∈ca\/H.length<=n
def took{stk':List vb}{ws':List Int}(S:Sim na rs H nd ns nw ca s st stk ws cs t)(e:kg 4 1 (aq (step (step (step F)))) [.ref nd,.bl pd,zo d,kw] H=À (.non,H2))(S2:Sim na rs H2 nd ns nw ls (s+4) st' stk' ws' cs' t')(fm:Fm (nd::ns::nw::ca) H H2)(hc:∀n∈ls,n∈ca\/H.length<=n)(h:ws.length≠ws'.length\/stk.length≠stk'.length\/t'≠t):mL F na rs H nd ns nw ca s pd d kw stk' ws' cs' t':=
 ⟨H2,ls,st',by rw[f_take];exact ZN e S S2 h,S2,fm,hc⟩
variable{pd:Bool}{d:D}{kw:W}{x:Ç}{r:List W}{f:List W->M W}{xs:List Int}
def off_fm:Fm (nd::ns::nw::ca) H (H.set nw o++X):=(Fm.set (by simp)).trans (Fm.app X)
def f6(S:Sim na rs H nd ns nw ca s st stk (xs.reverse++ws) cs t)(X:MH):Sim na rs (H.set nw (.lst (vn ws))++X) nd ns nw ca s st stk ws cs t:=
 (S.worths (ws':=ws) (by have:=S.l2;simp at this;omega)).app X
def lZ(S:Sim na rs H nd ns nw ca s st stk (xs.reverse++ws) cs t)(X:MH):DicP na H (H.set nw (.lst (vn ws))++X):=(uU S.g.w (λ_=>nofun)).trans (uQ X)
def uv(S:Sim na rs H nd ns nw ca s st stk (xs.reverse++ws) cs t)(hx:xs.length=d.first.length)(hl:d.first.length<=4)(hp:pd=Ã\/d.first=[])(hd:zo d=th x r)(hw:(qA (step (step (step F)))).lookup x=À f)(hs:s+100<=cap)(h1:xs.length≠1)
  (h:∀X,Dg (H.set nw (.lst (vn ws))++X) nd ns nw (kA rs) st (vn ws) t->(vn ws).length<cap->f [.ref nd,th x r,kw,.fls (xs.map .int)] (H.set nw (.lst (vn ws))++X)=À (.non,(H.set nw (.lst (vn ws))++X:MH).set nw (.lst (vn ws++[.int v])))):mL F na rs H nd ns nw ca s pd d kw stk (v::ws) cs t:=by
 obtain⟨X,e⟩:=ii (F:=F) (kw:=kw) S hx hl hp hd hw;have oj:=f6 S X;have wl:=oj.l2;have e2:=e _ _ (h X oj.g (by rw[gu];omega));rw[<-iF] at e2;refine took S e2 ((oj.more (s':=s+4) ∅).worths (by simp;omega)) (off_fm.trans (Fm.set (by simp))) (λn hn=>.inl hn) (.inl ?_);erw[zQ,j0,zp];omega
def uw(S:Sim na rs H nd ns nw ca s st stk (xs.reverse++ws) cs t)(hx:xs.length=d.first.length)(hl:d.first.length<=4)(hp:pd=Ã\/d.first=[])(hd:zo d=th x r)(hw:(qA (step (step (step F)))).lookup x=À f)(hs:s+100<=cap)
  (h:∀X,st.length<cap->Sim na rs (H.set nw (.lst (vn ws))++X) nd ns nw ca s st stk ws cs t->DicP na H (H.set nw (.lst (vn ws))++X)->∃(Y:MH) (ls:List Nat) (LF:W),f [.ref nd,th x r,kw,.fls (xs.map .int)] (H.set nw (.lst (vn ws))++X)=À (.non,((H.set nw (.lst (vn ws))++X)++Y:MH).set ns (.lst (st++[.tup [.bl Â,zo d',LF]])))/\Sim na rs ((H.set nw (.lst (vn ws))++X)++Y) nd ns nw ls (s+4) st stk ws cs' t/\EvR na ((H.set nw (.lst (vn ws))++X)++Y) ls (s+4) Af LF/\∀n∈ls,n∈ca\/H.length<=n):mL F na rs H nd ns nw ca s pd d kw ((Â,d',Af)::stk) ws cs' t:=by
 obtain⟨X,e⟩:=ii (F:=F) (kw:=kw) S hx hl hp hd hw;have l1:=S.l1;obtain⟨Y,ls,LF,e2,S2,E2,hc⟩:=h X (by rw[S.sr.len];omega) (f6 S X) (lZ S X);refine took S (e _ _ e2) (S2.steps (.cons E2 S2.sr) (by simp;omega)) ((off_fm.trans (Fm.app Y)).trans (Fm.set (by simp))) hc (.inr (.inl (by simp)))
def eW(S:Sim na rs H nd ns nw ca s st stk (xs.reverse++ws) cs .non)(hx:xs.length=d.first.length)(hl:d.first.length<=4)(hp:pd=Ã\/d.first=[])(hd:zo d=th x r)(hw:(qA (step (step (step F)))).lookup x=À f)
  (h:∀X,Dg (H.set nw (.lst (vn ws))++X) nd ns nw (kA rs) st (vn ws) .non->f [.ref nd,th x r,kw,.fls (xs.map .int)] (H.set nw (.lst (vn ws))++X)=À (.non,(H.set nw (.lst (vn ws))++X:MH).set nd (.ins 0 (yy (kA rs) ns nw (tW tt))))):mL F na rs H nd ns nw ca s pd d kw stk ws cs (tW tt):=by
 obtain⟨X,e⟩:=ii (F:=F) (kw:=kw) S hx hl hp hd hw;have oj:=f6 S X;exact took S (e _ _ (h X oj.g)) ((oj.more (s':=s+4) ∅).ahead _) (off_fm.trans (Fm.set (by simp))) (λn hn=>.inl hn) (.inr (.inr (nQ tt)))
end
theorem Lg{G:Fs}:(qA G).lookup ("number":Ç)=À G.bR:=by kernel_rfl
theorem IX{G:Fs}:(qA G).lookup ("name":Ç)=À G.cY:=by kernel_rfl
theorem Hm{G:Fs}:(qA G).lookup ("read":Ç)=À G.cG:=by kernel_rfl
theorem Hq{G:Fs}:(qA G).lookup ("write":Ç)=À G.bK:=by kernel_rfl
theorem IQ{G:Fs}:(qA G).lookup ("add":Ç)=À G.dJ:=by kernel_rfl
theorem Lj{G:Fs}:(qA G).lookup ("less":Ç)=À G.dg:=by kernel_rfl
theorem Lh{G:Fs}:(qA G).lookup ("then":Ç)=À G.dm:=by kernel_rfl
theorem IK{G:Fs}:(qA G).lookup ("if":Ç)=À G.eU:=by kernel_rfl
theorem Lb{G:Fs}:(qA G).lookup ("loop":Ç)=À G.dq:=by kernel_rfl
theorem Iu{G:Fs}:(qA G).lookup ("let":Ç)=À G.dZ:=by kernel_rfl
theorem HU{G:Fs}:(qA G).lookup ("own":Ç)=À G.dX:=by kernel_rfl
theorem HG{G:Fs}:(qA G).lookup ("say":Ç)=À G.dN:=by kernel_rfl
theorem HX{G:Fs}:(qA G).lookup ("ask":Ç)=À G.dO:=by kernel_rfl
theorem Hw{G:Fs}:(qA G).lookup ("do":Ç)=À G.bQ:=by kernel_rfl
theorem Ia{G:Fs}:(qA G).lookup ("call":Ç)=À G.cF:=by kernel_rfl
section
variable{na:Nat}{rs:List Rule}{H:MH}{nd ns nw:Nat}{ca:List Nat}{s:Nat}{st:List W}{stk:List vb}{ws cs:List Int}{F:Fs}{pd:Bool}{d:D}{env:Ev}{kw:W}
def WY(S:Sim na rs H nd ns nw ca s st stk ws cs .non)(h:S1 rs pd d env ws cs (.tch tt ws')):mL F na rs H nd ns nw ca s pd d kw stk ws' cs (tW tt):=by
 cases h with
 | readS h=>exact eW (xs:=[]) (d:=.read _) S rfl (by simp[D.first]) (.inr rfl) rfl Hm λX g=>WE g h
 | ask=>exact eW (xs:=[]) (d:=.ask) S rfl (by simp[D.first]) (.inr rfl) rfl HX λX g=>Uh g
 | writeS h=>exact eW (xs:=[_]) (d:=.write _ _) S rfl (by simp[D.first]) (.inl rfl) rfl Hq λX g=>VF g h
 | say=>exact eW (xs:=[_]) (d:=.say _) S rfl (by simp[D.first]) (.inl rfl) rfl HG λX g=>US g
theorem sg{i:Nat}(h:rs[i]?=À r):(kA rs)[i]?=À (dE r):=by
 unfold kA;rw[jb,h];rfl
def Bx(hr:RsOk rs)(S:Sim na rs H nd ns nw ca s st stk ws cs .non)(E:EvR na H ca s env kw)(hs:s+100<=cap)(h8:10<=s)(LU:na<H.length)(h:S1 rs pd d env ws cs (.gg p ws' cs')):mL F na rs H nd ns nw ca s pd d kw (p++stk) ws' cs' .non:=by
 have LG:∀(o:MO) (X:MH),na<(H.set nw o++X).length:=λo X=>by rw[zQ,jc];omega
 cases h with
 | number=>exact uv (xs:=[]) (d:=.number _) S rfl (by simp[D.first]) (.inr rfl) rfl Lg hs (by simp) λX g hw=>do_number g hw
 | name h=>
  exact uv (xs:=[]) (d:=.name _) S rfl (by simp[D.first]) (.inr rfl) rfl IX hs (by simp) λX g hw=>by
   obtain⟨w',e1,e2⟩:=(E.mono (lZ (xs:=[]) S X) (zR _) (zj _)).get h;cases e2;exact do_name g hw e1
 | readO h ds hv hc=>
  exact uv (xs:=[]) (d:=.read _) S rfl (by simp[D.first]) (.inr rfl) rfl Hm hs (by simp) λX g hw=>by
   obtain⟨w',e1,e2⟩:=(E.mono (lZ (xs:=[]) S X) (zR _) (zj _)).get hv;cases e2 with | cell hn=>
   exact Yo g hw h ds e1 ((f6 (xs:=[]) S X).ce _ _ _ hn hc)
 | doo h=>
  exact uw (xs:=[]) (d:=.doo _) S rfl (by simp[D.first]) (.inr rfl) rfl Hw hs λX hw oj dp=>by
   obtain⟨w',e1,e2⟩:=(E.mono dp (zR _) (zj _)).get h;cases e2 with | hd e2=>
   refine⟨[],ca,_,?_,by rw[kh];exact oj.more ∅,by rw[kh];exact e2.mono (λ_ _ _ e=>e) (zR _) ∅,λn hn=>.inl hn⟩;rw[kh];exact do_handed oj.g hw e1
 | push h hl=>
  have raw:=Qs (G:=step (step (step F))) S.g (KL d) h ∅ (by rw[S.sr.len];have:=S.l1;omega) E.low;have sr:=Zp E d.first (.cons (pd:=Ã) (d:=d) E S.sr);have l1:=S.l1;refine took S raw ((S.more (s':=s+4) ∅).steps (stk':=(d.first.map (λa=>(Â,a,env))++[(Ã,d,env)])++stk) ?_ ?_) (Fm.set (by simp)) (λn hn=>.inl hn) (.inr (.inl ?_))
  .rw[zY]
   exact sr.mono (λ_ _ _ e=>e) (zR _) ∅
  .simp;omega
  .simp;omega
 | @writeO v a x c _ ws0 _ h ds hv hc=>
  obtain⟨X,e⟩:=ii (F:=F) (kw:=kw) (xs:=[x]) (pd:=Ã) (d:=.write v a) (ws:=ws0) S rfl (by simp[D.first]) (.inl rfl) rfl Hq;have oj:=f6 (xs:=[x]) (ws:=ws0) S X;have E1:=E.mono (lZ (xs:=[x]) (ws:=ws0) S X) (zR _) (zj _);obtain⟨w',e1,e2⟩:=E1.get hv;cases e2 with | @cell _ n hn=>
  have lw:=S.l2;erw[zp] at lw;have nn:=S.cx n (jG hn);have old:=oj.ce c n cs[c] hn (zE hc);have raw:=e _ _ (QE (x:=.int x) (a:=zo a) oj.g (by rw[gu];omega) h ds e1 old nn.1 nn.2.1 nn.2.2);rw[<-iF] at raw;have S2:=(oj.cell (x:=x) hn hc).worths (ws':=x::ws0) (by simp;omega);exact⟨_,ca,st,by rw[f_take];exact g7 raw,S2.more ∅,(off_fm.trans (Fm.set (by simp[jG hn]))).trans (Fm.set (by simp)),λn hn=>.inl hn⟩
 | @add a b x y=>exact uv (xs:=[x,y]) (d:=.add a b) S rfl (by simp[D.first]) (.inl rfl) rfl IQ hs (by simp) λX g hw=>do_add g hw
 | @less a b x y=>exact uv (xs:=[x,y]) (d:=.less a b) S rfl (by simp[D.first]) (.inl rfl) rfl Lj hs (by simp) λX g hw=>do_less g hw
 | @thenn a b x y=>exact uv (xs:=[x,y]) (d:=.thenn a b) S rfl (by simp[D.first]) (.inl rfl) rfl Lh hs (by simp) λX g hw=>do_then g hw
 | @iff a b c x=>
  exact uw (xs:=[x]) (d:=.iff a b c) S rfl (by simp[D.first]) (.inl rfl) rfl IK hs λX hw oj dp=>by
   refine⟨[],ca,kw,?_,by rw[kh];exact oj.more ∅,by rw[kh];exact E.mono dp (zR _) ∅,λn hn=>.inl hn⟩;rw[kh];have:=do_if (F:=step F) (x:=x) (a:=zo a) (b:=zo b) (c:=zo c) (kw:=kw) oj.g hw;by_cases q:x=0
   .erw[q,kE] at this ⊢;exact this
   .erw[q,je] at this ⊢;exact this
 | @loop a b x=>
  exact uw (xs:=[x]) (d:=.loop a b) S rfl (by simp[D.first]) (.inl rfl) rfl Lb hs λX hw oj dp=>by
   refine⟨[],ca,kw,?_,by rw[kh];exact oj.more ∅,by rw[kh];exact E.mono dp (zR _) ∅,λn hn=>.inl hn⟩;rw[kh];have:=do_loop (F:=step F) (x:=x) (a:=a) (b:=b) (kw:=kw) oj.g hw;erw[zo] at this;exact this
 | @lett v a b x=>
  exact uw (xs:=[x]) (d:=.lett v a b) S rfl (by simp[D.first]) (.inl rfl) rfl Iu hs λX hw oj dp=>by
   have E1:=E.mono dp (zR _) (zj _);obtain⟨l,d1,d2,d3⟩:=E1.di;have h1:=LG (.lst (vn ws')) X;generalize H.set nw (.lst (vn ws'))++X=H1 at oj E1 d1 d3 h1 ⊢;have pl:=dQ (l:=l) (k:=.inr v) (v:=.int x);have L:LR na (H1++[.dic (j2 l (.inr v) (.int x))]) ca (s+4) l env:=LR.mono (H:=H1) (ca:=ca) (b:=s) d3 (uQ _) (zR _) ∅;exact⟨[.dic (j2 l (.inr v) (.int x))],ca,.ref H1.length,do_let oj.g hw d1 ∅,(oj.app _).more ∅,(L.put (v:=v) (.int x)).ev (at0 _ _) ∅ ∅,λn hn=>.inl hn⟩
 | @own v a b x=>
  exact uw (xs:=[x]) (d:=.own v a b) S rfl (by simp[D.first]) (.inl rfl) rfl HU hs λX hw oj dp=>by
   have E1:=E.mono dp (zR _) (zj _);have h1:=LG (.lst (vn ws')) X;have h2:H.length<=(H.set nw (.lst (vn ws'))++X).length:=by rw[zQ,jc];omega
   generalize H.set nw (.lst (vn ws'))++X=H1 at oj E1 h1 h2 ⊢;obtain⟨l,d1,d2,d3⟩:=(E1.mono (uQ [.lst [.int x]]) (zR _) (zj _)).di;have pl:=dQ (l:=l) (k:=.inr v) (v:=.ref H1.length);have ap:H1++[.lst [.int x],.dic (j2 l (.inr v) (.ref H1.length))]=(H1++[.lst [.int x]])++[.dic (j2 l (.inr v) (.ref H1.length))]:=by rw[zY];rfl
   have L:LR na (H1++[.lst [.int x],.dic (j2 l (.inr v) (.ref H1.length))]) (ca++[H1.length]) (s+4) l env:=by
    rw[ap];exact LR.mono (H:=H1++[MO.lst [.int x]]) (ca:=ca) (b:=s) d3 (uQ _) (jn _ _) ∅
   have RM:(H1++[.lst [.int x],.dic (j2 l (.inr v) (.ref H1.length))]:MH)[H1.length+1]?=À (.dic (j2 l (.inr v) (.ref H1.length))):=by
    rw[zF ∅,show H1.length+1-H1.length=1 by omega];rfl
   have cc:(ca++[H1.length])[cs.length]?=À H1.length:=by rw[<-oj.cl];exact at0 _ _
   refine⟨[.lst [.int x],.dic (j2 l (.inr v) (.ref H1.length))],ca++[H1.length],.ref (H1.length+1),do_own oj.g hw d1 ∅,?_,(L.put (v:=v) (.cell cc)).ev RM ∅ ∅,λn hn=>?_⟩
   .rw[ap]
    exact((oj.newc x).app _).more ∅
   .rcases zU.mp hn with z | z
    .exact .inl z
    .simp at z
     exact .inr ∅
 | @call pd i as bs r xs _ _ _ hp Nd hx ha hb=>
  have rl:=hr.l i r Nd;exact uw (xs:=xs) (d:=.call i as bs) S hx (by erw[D.first];omega) hp rfl Ia hs λX hw oj dp=>by
   have E1:=E.mono dp (zR _) (zj _);have h1:=LG (.lst (vn ws')) X;generalize H.set nw (.lst (vn ws'))++X=H1 at oj E1 h1 ⊢;have l0:=lL ((r.ns.zip xs).map λp=>(.inr p.1,.int p.2)) [];have l1:=Z8 (kw:=kw) (r.hs.zip (kr bs)) (bo (r.ns.zip xs));rw[zP,qi,zV] at l0;rw[qi] at l1;unfold bo at l1;have L0:LR na (H1++[.dic (cf kw (r.hs.zip (kr bs)) (bo (r.ns.zip xs)))]) ca (s+4) [] []:=λv x h=>by cases h
   have E2:=E1.mono (b':=s+4) (uQ [.dic (cf kw (r.hs.zip (kr bs)) (bo (r.ns.zip xs)))]) (zR _) ∅;have L1:=LR.hds E2 r.hs bs (LR.ints (r.ns.zip xs) L0);have dc:=do_call (F:=step F) (i:=i) (as:=as) (bs:=bs) (r:=r) (xs:=xs) (kw:=kw) oj.g hw (sg Nd) ∅ ∅;erw[zo] at dc;refine⟨[.dic (cf kw (r.hs.zip (kr bs)) (bo (r.ns.zip xs)))],ca,.ref H1.length,dc,(oj.app _).more ∅,LR.ev L1 (at0 _ _) ∅ ?_,λn hn=>.inl hn⟩;omega
end
noncomputable def XS:Tch->Prop
 | .read v=>v∈SH
 | .write v _=>v∈SH
 | _=>True
inductive Ac(na:Nat)(rs:List Rule)(H:MH)(nd ns nw:Nat)(ca:List Nat)(s:Nat)(T:Tr Int)(c:Nat):Prop
 | mk {st:List W} {stk:List vb} {ws cs:List Int} (S:Sim na rs H nd ns nw ca s st stk ws cs .non) (R:Rep rs stk ws cs T c)
inductive Rs(na:Nat)(rs:List Rule)(H:MH)(nd ns nw:Nat)(ca:List Nat)(s:Nat):Tr Int->Nat->W->Prop
 | ret {st:List W} {ws cs:List Int} {v:Int} {c:Nat} (S:Sim na rs H nd ns nw ca s st [] (v::ws) cs .non):Rs na rs H nd ns nw ca s (.ret v) c .non
 | tch {st:List W} {stk:List vb} {ws cs:List Int} {t:Tch} {k:Int->Tr Int} {c:Nat} (o:XS t) (S:Sim na rs H nd ns nw ca s st stk ws cs (tW t)) (R:∀v,Rep rs stk (v::ws) cs (k v) c):Rs na rs H nd ns nw ca s (.tch t k) c (tW t)
def GL(h:S1 rs b d env ws cs (.tch t ws')):XS t:=by
 cases h with
 | readS h=>exact h
 | ask=>trivial
 | writeS h=>exact h
 | say=>trivial
def Fm.trans2{H:MH}(a:Fm (nd::ns::nw::ca) H H')(b:Fm (nd::ns::nw::ls) H' EU)(h:∀n∈ls,n∈ca\/H.length<=n):Fm (nd::ns::nw::ca) H EU:=
 ⟨zK a.l b.l,λn o hn e=>b.k n o (λz=>by
  erw[zb,j6] at hn z;rcases z with z | z | z | z
  .exact hn.1 z
  .exact hn.2.1 z
  .exact hn.2.2.1 z
  .rcases h n z with y | y
   .exact hn.2.2.2 y
   .have:=kd e;omega) (a.k n o hn e)⟩
noncomputable abbrev Qn:MT:=(eT (kb (zi pJ (zh kN [kM kB "steps" (ze 0)]) (PL 0))) (kb (zi (y8 Ã) (kM kB "touch_ahead" (ze 0)) (eC .non))))
noncomputable def XM(F:Fs):MS:=(zk (zI (kD ur (kM kB "steps" (ze 0)) []) (zD 1))
 (ky (ki (mt F) "take_step" (ze 0) [zi zC (ze 1) (PL 0),zi zC (ze 1) (PL 1),zi zC (ze 1) (PL 2)])))
theorem sP(F:Fs):aY F=uf Qn (XM F):=rfl
section
variable{na:Nat}{rs:List Rule}{H:MH}{nd ns nw:Nat}{ca:List Nat}{s:Nat}{F:Fs}
def lY{wo:List W}(g:Dg H nd ns nw rl [] wo t):Qn [À (.ref nd),o] H=À (Â,H):=by
 have e1:=g.fS;have e2:=g.s;simp![kM,e1,kN,getL,e2,vv]
def KY{wo:List W}(g:Dg H nd ns nw rl st wo .non)(h:st≠[]):Qn [À (.ref nd),o] H=À (Ã,H):=by
 have e1:=g.fS;have e2:=g.s;have e3:=g.fA;cases st with
 | nil=>exact absurd rfl h
 | cons x st=>
  have q:(0:Int)<(st.length:Int)+1:=by omega
  simp![kM,e1,kN,getL,e2,vv,q,e3,y8]
def X7{wo:List W}(g:Dg H nd ns nw rl st wo (tW tt)):Qn [À (.ref nd),o] H=À (Â,H):=by
 cases st with
 | nil=>exact lY g
 | cons x st=>
  have e1:=g.fS;have e2:=g.s;have e3:=g.fA;have q:(0:Int)<(st.length:Int)+1:=by omega
  cases tt<;>simp![kM,e1,kN,getL,e2,vv,q,e3,y8,tW]
def VE(S:Sim na rs H nd ns nw ca s st ((pd,d,env)::stk) ws cs .non)
  (h:∀H1 Az kw,Sim na rs H1 nd ns nw ca s Az stk ws cs .non->EvR na H1 ca s env kw->H1.length=H.length->mL F na rs H1 nd ns nw ca s pd d kw stk' ws' cs' t') :
  ∃H' ls st' o',XM (step (step (step (step F)))) [À (.ref nd),o] H=À (.nx [À (.ref nd),o'],H')/\Sim na rs H' nd ns nw ls (s+4) st' stk' ws' cs' t'/\Fm (nd::ns::nw::ca) H H'/\∀n∈ls,n∈ca\/H.length<=n:=by
 generalize r9:st=st0 at S;cases S.sr with
 | @cons _ _ _ kw _ Az e r=>
  have l1:=S.l1;erw[zp] at l1;have oj:=S.steps (st':=Az) (stk':=stk) r ∅;have E1:=e.mono (uU (na:=na) (o':=.lst Az) S.g.s (λ_=>nofun)) (zR _) (zj _);obtain⟨H',ls,st',e1,S2,fm,hc⟩:=h _ _ kw oj E1 (by rw[jc]);refine⟨H',ls,st',À (.tup [.bl pd,zo d,kw]),?_,S2,(Fm.set (by simp)).trans fm,λn hn=>by have:=hc n hn;rw[jc] at this;exact this⟩;unfold XM;have f1:=S.g.fS;have f2:=S.g.s;have lp:(Az++[W.tup [.bl pd,zo d,kw]])[(Az++[W.tup [.bl pd,zo d,kw]]).length-1]?=À (.tup [.bl pd,zo d,kw]):=by simp
  rw[zw (ρ':=[À (.ref nd),À (.tup [.bl pd,zo d,kw])]) (h':=H.set ns (.lst Az)) (by
   erw[zI,kD,bnd,kM,ze,zm,f1,getL,f2,vM,kE,ko,ur,lp,List.dropLast_concat,zD]
   rfl)]
  refine qS (w:=.non) ?_;rw[yk (F:=step (step (step (step F)))) oj.g.d (pH ⋯ ⋯ ⋯ ⋯) (UH _) (mo:=ze 0) rfl (ws:=[.bl pd,zo d,kw]) (H1:=H.set ns (.lst Az)) (by erw[ko,bnd,zi,ze,eC,zA,zm,ux,xo,lf])];exact e1
def B1(hr:RsOk rs)(h0:10<=s){T:Tr Int}{c:Nat}(R:Rep rs stk ws cs T c):∀{H:MH} {ca:List Nat} {s:Nat} {st:List W} (o:Option W),Sim na rs H nd ns nw ca s st stk ws cs .non->s+4*c+100<=cap->10<=s->na<H.length->
  ∃n H' ls s' c' t' o',ja Qn (XM (step (step (step (step F))))) n [À (.ref nd),o] H=À (.nx [À (.ref nd),o'],H')/\Rs na rs H' nd ns nw ls s' T c' t'/\Fm (nd::ns::nw::ca) H H'/\(∀n∈ls,n∈ca\/H.length<=n)/\s'+4*c'<=s+4*c/\s<=s'/\(t'≠.non->s+4<=s'):=by
 induction R with
 | @done v ws cs c=>
  intro H ca s st o S hs h8 LU;have:st=[]:=jM.mp (by rw[S.sr.len];rfl);subst this;have e:=lY (o:=o) S.g;refine⟨1,H,ca,s,c,.non,o,?_,.ret S,Fm.refl,λn hn=>.inl hn,zj _,zj _,λz=>absurd rfl z⟩;unfold ja;rw[e]
 | @gg b d env stk ws cs p ws' cs' T c h r ih=>
  intro H ca s st o S hs h8 LU;have ne:st≠[]:=λz=>by have:=S.sr.len;rw[z] at this;simp at this
  have e:=KY (o:=o) S.g ne;obtain⟨H1,EZ,Az,o1,e1,S2,fm,hc⟩:=VE (F:=F) (o:=o) (stk':=p++stk) (ws':=ws') (cs':=cs') (t':=.non) S λH1 Az kw oj E1 hl=>Bx hr oj E1 ∅ h8 ∅ h
  obtain⟨n,H',ls,s',c',t',o',e2,R2,RN,Bz,b1,b2,b3⟩:=ih o1 S2 ∅ ∅ (zL LU fm.l);refine⟨n+1,H',ls,s',c',t',o',?_,R2,fm.trans2 RN hc,λn hn=>?_,by omega,by omega,λz=>by have:=b3 z;omega⟩
  .unfold ja
   rw[e];simp only;rw[e1];exact e2
  .rcases Bz n hn with z | z
   .exact hc n z
   .exact .inr (zK fm.l z)
 | @tch b d env stk ws cs t ws' k c h r ih=>
  intro H ca s st o S hs h8 LU;have ne:st≠[]:=λz=>by have:=S.sr.len;rw[z] at this;simp at this
  have e:=KY (o:=o) S.g ne;obtain⟨H1,EZ,Az,o1,e1,S2,fm,hc⟩:=VE (F:=F) (o:=o) (stk':=stk) (ws':=ws') (cs':=cs) (t':=tW t) S λH1 Az kw oj E1 hl=>WY oj h
  have e2:=X7 (o:=o1) S2.g;refine⟨2,H1,EZ,s+4,c,tW t,o1,?_,.tch (GL h) S2 r,fm,hc,by omega,by omega,λ_=>zj _⟩;unfold ja;rw[e];simp only;rw[e1];simp only;unfold ja;rw[e2]
theorem f_go(F:Fs):(step F).aN=gc (kg 1 1 (aY F)):=rfl
def Y3(hr:RsOk rs){T:Tr Int}{c:Nat}(A:Ac na rs H nd ns nw ca s T c)(hs:s+4*c+100<=cap)(h8:10<=s)(LU:na<H.length) :
  ∃H' ls s' c' t',(step (step (step (step (step F))))).aN [.ref nd] H=À (.non,H')/\Rs na rs H' nd ns nw ls s' T c' t'/\Fm (nd::ns::nw::ca) H H'/\(∀n∈ls,n∈ca\/H.length<=n)/\s'+4*c'<=s+4*c/\s<=s'/\(t'≠.non->s+4<=s'):=by
 obtain⟨S,R⟩:=A;rename_i st stk ws cs;cases stk with
 | nil=>
  cases R with
  | @done v ws _ _=>
  have:st=[]:=jM.mp (by rw[S.sr.len];rfl);subst this;have e:=lY (o:=Á) S.g;refine⟨H,ca,s,c,.non,?_,.ret S,Fm.refl,λn hn=>.inl hn,zj _,zj _,λz=>absurd rfl z⟩;rw[f_go];refine aT (yT (ρ:=[À (.ref nd),Á]) (ρ':=[À (.ref nd),Á]) rfl rfl ?_) (by unfold low;rfl);rw[sP];refine uT (n:=1) ?_;unfold ja;rw[e]
 | cons x stk=>
  obtain⟨n,H',ls,s',c',t',o',e,R2,fm,hc,b1,b2,b3⟩:=B1 (F:=F) hr h8 R Á S hs h8 LU;have raw:kg 1 1 (aY (step (step (step (step F))))) [.ref nd] H=À (.non,H'):=by
   refine yT (ρ:=[À (.ref nd),Á]) (ρ':=[À (.ref nd),o']) rfl rfl ?_;rw[sP];exact uT e
  refine⟨H',ls,s',c',t',?_,R2,fm,hc,b1,b2,b3⟩;rw[f_go];cases R2 with
  | ret S2=>exact ZN raw S S2 (.inr (.inl (by simp)))
  | tch o S2 R=>exact ZN raw S S2 (.inr (.inr (nQ _)))
end
structure Rm where
 st:Ç->Int
 ans:List Int
 sp:List Int
 k:Nat
noncomputable def D9(st:Ç->Int)(v:Ç)(x:Int):Ç->Int:=λu=>if u=v then x else st u
noncomputable def qa:Tch->Rm->Int×Rm
 | .read v,r=>(r.st v,r)
 | .write v x,r=>(x,{ r with st:=D9 r.st v x })
 | .say x,r=>(x,{ r with sp:=r.sp++[x] })
 | .ask,r=>(r.ans.getD r.k 0,{ r with k:=r.k+1 })
noncomputable def dW:Tch->Int->W
 | .read v,x=>.tup [.str "read",.str v,.int x]
 | .write v y,_=>.tup [.str "write",.str v,.int y]
 | .say y,_=>.tup [.str "say",.int y]
 | .ask,x=>.tup [.str "ask",.int x]
noncomputable def um(st:Ç->Int):List (Key×W):=SH.map λv=>((.inr v:Key),W.int (st v))
def Qg(h:v∈SH):vF (um st) (.inr v)=À (.int (st v)):=by
 have:∀l:List Ç,v∈l->vF (l.map λv=>((.inr v:Key),W.int (st v))) (.inr v)=À (.int (st v)):=by
  intro l;induction l with
  | nil=>intro h;simp at h
  | cons u l ih=>
   intro h;rw[zx,uN];by_cases q:u=v
   .subst q;simp
   .have:¬(Ć u:Key)=.inr v:=λz=>q (yC z)
    erw[this,je];exact ih ((zb.mp h).resolve_left (kZ q))
 exact this SH h
def CI(h:v∈SH):j2 (um st) (.inr v) (.int x)=um (D9 st v x):=by
 have a:((um st).any λkv=>decide (kv.1=(.inr v:Key)))=Ã:=by
  rw[qu];exact⟨(.inr v,.int (st v)),jf.mpr ⟨v,h,rfl⟩,by simp⟩
 unfold j2;rw[z9 a];unfold um;rw[vg];refine List.map_congr_left λu _=>?_
 erw[Function.comp];unfold D9;by_cases q:u=v
 .subst q;simp
 .have:¬(Ć u:Key)=.inr v:=λz=>q (yC z)
  erw[this,je,q]
noncomputable def RmR(H:MH)(nr na np:Nat)(r:Rm):Prop:=Rg H nr na np (um r.st) (r.ans.map .int) (r.sp.map .int) r.k
theorem vT{i:Int}:low m (.int i)=Ã:=by unfold low;rfl
noncomputable def Ap(A B:List Nat):Prop:=∀n∈A,n∉B
def VS{H:MH}(f:Fm A H H')(h:∀a∈A,a≠na->∀l,H[a]?≠À (.dic l)):DicP na H H':=λn l hn e=>by
 by_cases q:n∈A
 .exact absurd e (h n q hn l)
 .exact f.k n _ q e
section
variable{na:Nat}{rs:List Rule}{H H':MH}{nd ns nw nr np:Nat}{ca:List Nat}{s:Nat}{st:List W}{stk:List vb}{ws cs:List Int}{t:W}{F:Fs}{r:Rm}
def Sim.nodic(S:Sim na rs H nd ns nw ca s st stk ws cs t):∀a∈nd::ns::nw::ca,a≠na->∀l,H[a]?≠À (.dic l):=λa ha _ l=>by
 erw[zb] at ha;rcases ha with rfl | rfl | rfl | ha
 .rw[S.g.d];exact nofun
 .rw[S.g.s];exact nofun
 .rw[S.g.w];exact nofun
 .obtain⟨c,hc⟩:=jC.mp ha
  have h1:c<cs.length:=by rw[<-S.cl];exact kd hc
  rw[S.ce c a cs[c] hc (zE h1)];exact nofun
def Sim.frame(S:Sim na rs H nd ns nw ca s st stk ws cs t)(f:Fm B H H')(p:DicP na H H')(ap:Ap (nd::ns::nw::ca) B):Sim na rs H' nd ns nw ca s st stk ws cs t:=
 ⟨⟨f.k _ _ (ap nd (by simp)) S.g.d,f.k _ _ (ap ns (by simp)) S.g.s,f.k _ _ (ap nw (by simp)) S.g.w,S.g.n1,S.g.n2,S.g.n3⟩,S.sr.mono p (zR _) (zj _),S.cl,λc n i a b=>f.k _ _ (ap n (by simp[jG a])) (S.ce c n i a b),S.cn,S.cx,S.l1,S.l2⟩
def RmR.frame(g:RmR H nr na np r)(f:Fm B H H')(ap:Ap [nr,na,np] B):RmR H' nr na np r:=
 ⟨f.k _ _ (ap nr (by simp)) g.r,f.k _ _ (ap na (by simp)) g.a,f.k _ _ (ap np (by simp)) g.p,g.n1,g.n2,g.n3⟩
def RmR.nodic(g:RmR H nr na np r):∀a∈[nr,na,np],a≠na->∀l,H[a]?≠À (.dic l):=λa ha hn l=>by
 erw[zb,zc,zO] at ha;rcases ha with rfl | rfl | rfl
 .rw[g.r];exact nofun
 .exact absurd rfl hn
 .rw[g.p];exact nofun
def UN(g:RmR H nr na np r)(o:XS tt)(hs:r.sp.length<cap)(ha:r.ans.length<=cap):∃H',(step (step F)).bu [.ref nr,tW tt] H=À (dW tt (qa tt r).1,H')/\RmR H' nr na np (qa tt r).2/\Fm [nr,na,np] H H'/\H'.length=H.length:=by
 cases tt with
 | read v=>exact⟨H,do_read g (Qg o) vT,g,Fm.refl,rfl⟩
 | write v x=>
  have c4:(4:Nat)<cap:=by decide
  have e:=do_write (F:=step F) (v:=v) (w:=.int x) g c4 vT;rw[CI o] at e;exact⟨_,e,g.shelves _,Fm.set (by simp),by rw[jc]⟩
 | say x=>
  have e:=do_say (F:=step F) (v:=.int x) g (by rw[zP];exact hs) vT;refine⟨_,e,?_,Fm.set (by simp),by rw[jc]⟩;have:=g.spoken (r.sp.map .int++[.int x]);rw[show r.sp.map W.int++[.int x]=(r.sp++[x]).map .int by simp] at this ⊢;exact this
 | ask=>
  have ea:cv (r.ans.map W.int) r.k=.int (r.ans.getD r.k 0):=by
   unfold cv;rw[jb,j8];cases r.ans[r.k]?<;>rfl
  have e:=do_ask (F:=F) g (by rw[ea];exact vT) (by rw[zP];exact ha);rw[ea] at e;exact⟨_,e,g.asks (r.k+1),Fm.set (by simp),by rw[jc]⟩
def FZ{np:Nat}(a:(m==("shelves":Ç))=Â)(b:(m==("answers":Ç))=Â)(c:(m==("spoken":Ç))=Â)(d:(m==("asks":Ç))=Â):(uS na np ans k).lookup m=Á:=by
 erw[kO,yF,a,b,c,d]
def Bm:zC (dW tt (qa tt r).1) (.int (-1)) h=À (.int (qa tt r).1,h):=by
 cases tt<;>simp[dW,qa,zC,atI,xD]
theorem f_touch(F:Fs):(step F).aV=gc (kg 2 1 (bc F)):=rfl
theorem Z7(S:Sim na rs H nd ns nw ca s st stk ws cs (tW tt))(g:RmR H nr na np r)(o:XS tt)(hs:r.sp.length<cap)(ha:r.ans.length<=cap)(hw:s+100<=cap)(ap:Ap (nd::ns::nw::ca) [nr,na,np]) :
  ∃H',(step (step (step F))).aV [.ref nd,.ref nr] H=À (dW tt (qa tt r).1,H')/\Sim na rs H' nd ns nw ca (s+1) st stk ((qa tt r).1::ws) cs .non/\RmR H' nr na np (qa tt r).2/\Fm (nd::ns::nw::ca++[nr,na,np]) H H'/\H'.length=H.length:=by
 obtain⟨H1,e1,g1,f1,l1⟩:=UN (F:=F) g o hs ha;have oj:=S.frame f1 (VS f1 g.nodic) ap;have S2:=oj.ahead .non;have wl:=S2.l2;have S3:=(S2.more (s':=s+1) ∅).worths (ws':=(qa tt r).1::ws) (by simp;omega);have f2:Fm [nd,nw] H1 ((H1.set nd (.ins 0 (yy (kA rs) ns nw .non))).set nw (.lst (vn ((qa tt r).1::ws)))):=(Fm.set (by simp)).trans (Fm.set (by simp));have EX:Ap [nr,na,np] [nd,nw]:=λn hn z=>by
  erw[zb,zc,zO] at z;rcases z with rfl | rfl
  .exact ap _ (by simp) hn
  .exact ap _ (by simp) hn
 refine⟨_,?_,S3,g1.frame f2 EX,(f1.sub (λn hn=>by erw[zU,jl,zb];erw[zb] at hn;exact .inr (.inr (.inr (.inr hn))))).trans (f2.sub (λn hn=>by erw[zb,zc,zO] at hn;rcases hn with rfl | rfl<;>simp)),by rw[jc,jc,l1]⟩;rw[f_touch];have ch:((H1.set nd (.ins 0 (yy (kA rs) ns nw .non))).set nw (.lst (vn ((qa tt r).1::ws))))[nd]?≠À (.ins 0 (yy (kA rs) ns nw (tW tt))):=by
  rw[S3.g.d];intro z;injection z with z;injection z with _ z;erw[jN,qF] at z;exact nQ tt z.2.2.2.1.2.symm
 refine yb (yv (ρ:=[À (.ref nd),À (.ref nr),Á]) rfl rfl ?_) S.g.d ch;unfold bc;have fa:=S.g.fA;have em:ki (mt (step (step F))) "do" (ze 1) [kM kB "touch_ahead" (ze 0)] [À (.ref nd),À (.ref nr),Á] H=À (dW tt (qa tt r).1,H1):=by
  rw[yk (F:=step (step F)) g.r (FZ ⋯ ⋯ ⋯ ⋯) (He _) (mo:=ze 1) rfl (ws:=[tW tt]) (H1:=H) (by erw[ko,bnd,kM,ze,zm,fa])];exact e1
 rw[zw (ρ':=[À (.ref nd),À (.ref nr),À (dW tt (qa tt r).1)]) (h':=H1) (by unfold zI;rw[em];rfl)];have pa:=oj.g.pA .non;rw[zw (ρ':=[À (.ref nd),À (.ref nr),À (dW tt (qa tt r).1)]) (h':=H1.set nd (.ins 0 (yy (kA rs) ns nw .non))) (by erw[zI,eC,uy,bnd,ze,zm,pa])];have br:=lX (F:=step F) (mo:=ze 0) (m:=zi zC (ze 2) (vt lj (PL 1))) (ρ:=[À (.ref nd),À (.ref nr),À (dW tt (qa tt r).1)]) (v:=.int (qa tt r).1) S2.g (by rw[gu];omega) rfl (by erw[zi,vt,bnd,ze,eC,zA,zm,lj,Bm]);rw[zw (qS br),iF];rfl
end
noncomputable def kS{α:Type}:Tr α->Rm->α×Rm×List (Tch×Int)
 | .ret a,r=>(a,r,[])
 | .tch t k,r=>((kS (k (qa t r).1) (qa t r).2).1,(kS (k (qa t r).1) (qa t r).2).2.1,(t,(qa t r).1)::(kS (k (qa t r).1) (qa t r).2).2.2)
noncomputable def K0(l:List (Tch×Int)):List W:=l.map λp=>dW p.1 p.2
noncomputable def tC:MT:=(kb (zi (y8 Â) (kM kB "touch_ahead" (ze 0)) (eC .non)))
noncomputable def tB(F:Fs):MS:=(zk (ky (kD qh (ze 2) [ki (mt F) "do_touch" (ze 0) [ze 1]]))
 (ky (ki (mt F) "go_on" (ze 0) [])))
theorem oG(t:Tch)(r:Rm):(qa t r).2.ans=r.ans:=by cases t<;>rfl
def Zh(t:Tch)(r:Rm):(qa t r).2.sp.length<=r.sp.length+1:=by cases t<;>simp[qa]
section
variable{na:Nat}{rs:List Rule}{H:MH}{nd ns nw nr np nt:Nat}{ca:List Nat}{s:Nat}{F:Fs}{r:Rm}
def Jl{wo:List W}(g:Dg H nd ns nw rl st wo .non):tC (À (.ref nd)::ρ) H=À (Â,H):=by
 have e3:=g.fA;simp![tC,kM,e3,y8]
def VA{wo:List W}(g:Dg H nd ns nw rl st wo (tW tt)):tC (À (.ref nd)::ρ) H=À (Ã,H):=by
 have e3:=g.fA;cases tt<;>simp![tC,kM,e3,y8,tW]
def JI{wo:List W}(g:Dg H nd ns nw rl st wo t)(e1:mo ρ H=À (.ref nd,H))(e:(step F).aN [.ref nd] H=À (.non,H')):ky (ki (mt (step F)) "go_on" mo []) ρ H=À (.nx ρ,H'):=by
 refine qS (w:=.non) ?_;rw[yk (F:=step F) g.d (pH ⋯ ⋯ ⋯ ⋯) (Gy _) e1 (ws:=[]) (H1:=H) rfl];exact e
structure Lp(H:MH)(na nd ns nw nr np nt:Nat)(ca:List Nat)(r:Rm)(acc:List W):Prop where
 g:RmR H nr na np r
 a:H[nt]?=À (.lst acc)
 ap:Ap (nd::ns::nw::ca) [nr,na,np]
 n1:nt∉nd::ns::nw::ca
 n2:nt∉[nr,na,np]
 an:r.ans.length<=cap
def Lp.lt(L:Lp H na nd ns nw nr np nt ca r acc):∀n∈[nr,na,np],n<H.length:=λn hn=>by
 erw[zb,zc,zO] at hn;rcases hn with rfl | rfl | rfl
 .exact kd L.g.r
 .exact kd L.g.a
 .exact kd L.g.p
def Lp.mv(L:Lp H na nd ns nw nr np nt ca r acc)(fm:Fm (nd::ns::nw::ca) H H')(hc:∀n∈ls,n∈ca\/H.length<=n):Lp H' na nd ns nw nr np nt ls r acc:=by
 have EX:Ap [nr,na,np] (nd::ns::nw::ca):=λn hn z=>L.ap n z hn
 refine⟨L.g.frame fm EX,fm.k _ _ L.n1 L.a,λn hn z=>?_,λz=>?_,L.n2,L.an⟩
 .erw[zb] at hn
  rcases hn with h | h | h | h
  .exact L.ap n (by simp[h]) z
  .exact L.ap n (by simp[h]) z
  .exact L.ap n (by simp[h]) z
  .rcases hc n h with y | y
   .exact L.ap n (by simp[y]) z
   .have:=L.lt n z;omega
 .have n1:=L.n1
  erw[zb,j6] at z n1;rcases z with h | h | h | h
  .exact n1.1 h
  .exact n1.2.1 h
  .exact n1.2.2.1 h
  .rcases hc nt h with y | y
   .exact n1.2.2.2 y
   .have:=kd L.a;omega
theorem Zt(hr:RsOk rs):∀(T:Tr Int) {H:MH} {ca:List Nat} {s c:Nat} {t:W} {r:Rm} {acc:List W},Rs na rs H nd ns nw ca s T c t->Lp H na nd ns nw nr np nt ca r acc->10<=s->s+200<=cap->(t≠.non->s+5*c+201<=cap/\r.sp.length+c+1<cap/\acc.length+c+1<cap)->
  ∃n H' ls s',ja tC (tB (step (step (step (step (step F)))))) n [À (.ref nd),À (.ref nr),À (.ref nt)] H=À (.nx [À (.ref nd),À (.ref nr),À (.ref nt)],H')/\Rs na rs H' nd ns nw ls s' (.ret (kS T r).1) 0 .non/\Lp H' na nd ns nw nr np nt ls (kS T r).2.1 (acc++K0 (kS T r).2.2)/\Fm (nd::ns::nw::(ca++[nr,na,np,nt])) H H'/\(∀n∈ls,n∈ca\/H.length<=n)/\s<=s'/\s'+200<=cap
 | .ret v,H,ca,s,c,t,r,acc,R,L,h8,h2,hb=>by
  cases R with
  | ret S=>
  refine⟨1,H,ca,s,?_,.ret S,by simpa[kS,K0] using L,Fm.refl,λn hn=>.inl hn,zj _,h2⟩;unfold ja;rw[Jl S.g]
 | .tch tt k,H,ca,s,c,t,r,acc,R,L,h8,h2,hb=>by
  cases R with
  | @tch st stk ws cs _ _ _ o S R=>
  obtain⟨b1,b2,b3⟩:=hb (nQ tt);obtain⟨H1,e1,oj,g1,f1,l1⟩:=Z7 (F:=step (step F)) S L.g o ∅ L.an ∅ L.ap
  have a1:H1[nt]?=À (.lst acc):=f1.k _ _ (by
   have n1:=L.n1;have n2:=L.n2;erw[zb,zU,jl] at n1 n2 ⊢;rintro(h | h | h | h | h)
   .exact n1 (.inl h)
   .exact n1 (.inr (.inl h))
   .exact n1 (.inr (.inr (.inl h)))
   .exact n1 (.inr (.inr (.inr h)))
   .exact n2 h) L.a
  have f2:Fm [nt] H1 (H1.set nt (.lst (acc++[dW tt (qa tt r).1]))):=Fm.set (by simp);have RO:Ap (nd::ns::nw::ca) [nt]:=λn hn z=>by erw[zb,zc,zO] at z;exact L.n1 (z▸hn)
  have RP:Ap [nr,na,np] [nt]:=λn hn z=>by erw[zb (a:=n) (b:=nt),zc,zO] at z;exact L.n2 (z▸hn)
  have S2:=oj.frame f2 (uU a1 (λ_=>nofun)) RO;have L2:Lp (H1.set nt (.lst (acc++[dW tt (qa tt r).1]))) na nd ns nw nr np nt ca (qa tt r).2 (acc++[dW tt (qa tt r).1]):=⟨g1.frame f2 RP,zH (kd a1),L.ap,L.n1,L.n2,by rw[oG];exact L.an⟩;have RQ:na<(H1.set nt (.lst (acc++[dW tt (qa tt r).1]))).length:=kd L2.g.a;obtain⟨H3,RS,s3,c3,t3,e3,R3,f3,OV,q1,q2,q3⟩:=Y3 (F:=F) hr (.mk S2 (R (qa tt r).1)) ∅ ∅ RQ;have L3:=L2.mv f3 OV;have RT:=Zh tt r
  obtain⟨n,H',ls,s',e4,R4,L4,f4,RU,q4,q5⟩:=Zt hr (k (qa tt r).1) R3 L3 ∅ ∅ (λz=>by
   have:=q3 z;refine⟨by omega,by omega,?_⟩;erw[zQ,zp,zV]
   omega)
  have LH:H.length=(H1.set nt (.lst (acc++[dW tt (qa tt r).1]))).length:=by rw[jc,l1]
  have OW:∀n∈RS,n∈ca\/H.length<=n:=λn hn=>by have:=OV n hn;rw[<-LH] at this;exact this
  refine⟨n+1,H',ls,s',?_,R4,?_,?_,λn hn=>?_,by omega,q5⟩
  .unfold ja
   rw[VA S.g];simp only;have body:tB (step (step (step (step (step F))))) [À (.ref nd),À (.ref nr),À (.ref nt)] H=À (.nx [À (.ref nd),À (.ref nr),À (.ref nt)],H3):=by
    unfold tB;have ac:acc.length<cap:=by omega
    have em:ki (mt (step (step (step (step (step F)))))) "do_touch" (ze 0) [ze 1] [À (.ref nd),À (.ref nr),À (.ref nt)] H=À (dW tt (qa tt r).1,H1):=by
     rw[yk (F:=step (step (step (step (step F))))) S.g.d (pH ⋯ ⋯ ⋯ ⋯) (sO _) (mo:=ze 0) rfl (ws:=[.ref nr]) (H1:=H) rfl];exact e1
    have la:=L.a
    rw[zw (ρ':=[À (.ref nd),À (.ref nr),À (.ref nt)]) (h':=H1.set nt (.lst (acc++[dW tt (qa tt r).1]))) (qS (w:=.non) (by
     unfold kD;erw[bnd,ze,zA,zm,getL,la,vM,kE,ko];rw[em]
     erw[qh,a1,ac,kE]))]
    exact JI S2.g rfl e3
   rw[body];exact e4
  .erw[kS]
   have:acc++K0 ((tt,(qa tt r).1)::(kS (k (qa tt r).1) (qa tt r).2).2.2)=(acc++[dW tt (qa tt r).1])++K0 (kS (k (qa tt r).1) (qa tt r).2).2.2:=by simp[K0]
   rw[this];exact L4
  .have g1:Fm (nd::ns::nw::(ca++[nr,na,np,nt])) H H1:=f1.sub (λn hn=>(zU (s:=nd::ns::nw::ca) (t:=[nr,na,np])).mp hn |>.elim (λh=>jx [nr,na,np,nt] h) (λh=>kY (nd::ns::nw::ca) (jx [nt] h)))
   have g2:Fm (nd::ns::nw::(ca++[nr,na,np,nt])) H (H1.set nt (.lst (acc++[dW tt (qa tt r).1]))):=g1.trans (f2.sub (λn hn=>kY (nd::ns::nw::ca) (kY [nr,na,np] hn)));have g3:Fm (nd::ns::nw::(ca++[nr,na,np,nt])) H H3:=g2.trans (f3.sub (λn hn=>jx [nr,na,np,nt] hn));refine⟨zK g3.l f4.l,λn o hn e=>f4.k n o (λz=>?_) (g3.k n o hn e)⟩;erw[zb,zU,zc,zO,j6] at hn z;rcases z with h | h | h | h | h
   .exact hn.1 h
   .exact hn.2.1 h
   .exact hn.2.2.1 h
   .rcases OW n h with y | y
    .exact hn.2.2.2.1 y
    .have:=kd e;omega
   .rcases h with h | h | h | h
    .exact hn.2.2.2.2.1 h
    .exact hn.2.2.2.2.2.1 h
    .exact hn.2.2.2.2.2.2.1 h
    .exact hn.2.2.2.2.2.2.2 h
  .rcases RU n hn with y | y
   .exact OW n y
   .exact .inr (by have:=f3.l;omega)
end
noncomputable def stepT:Tr Int->Rm->Tr Int×Rm
 | .ret v,r=>(.ret v,r)
 | .tch t k,r=>(k (qa t r).1,(qa t r).2)
section
variable{na:Nat}{rs:List Rule}{H:MH}{nd ns nw nr np:Nat}{ca:List Nat}{s c:Nat}{F:Fs}{r:Rm}{T:Tr Int}
theorem f_turn(F:Fs):(step F).bF=gc (kg 2 0 (bA F)):=rfl
theorem f_tte(F:Fs):(step F).aJ=gc (kg 2 1 (aK F)):=rfl
theorem C7(F:Fs):aK F=zk (zI (zh xE []) (zD 2)) (zk (ky (ki (mt F) "go_on" (ze 0) [])) (zk (uf tC (tB F)) (ka (ze 2)))):=rfl
def Fp(g:RmR H nr na np r)(ap:Ap (nd::ns::nw::ca) [nr,na,np])(hc:∀n∈ls,n∈ca\/H.length<=n):Ap (nd::ns::nw::ls) [nr,na,np]:=λn hn z=>by
 erw[zb (a:=n) (b:=nd),zb (a:=n) (b:=ns),zb (a:=n) (b:=nw)] at hn;rcases hn with h | h | h | h
 .exact ap n (by simp[h]) z
 .exact ap n (by simp[h]) z
 .exact ap n (by simp[h]) z
 .rcases hc n h with y | y
  .exact ap n (by simp[y]) z
  .have h1:=kd g.r
   have h2:=kd g.a;have h3:=kd g.p;erw[zb,zc,zO] at z;omega
def FV(hr:RsOk rs)(A:Ac na rs H nd ns nw ca s T c)(g:RmR H nr na np r)(ap:Ap (nd::ns::nw::ca) [nr,na,np])(hs:s+5*c+200<=cap)(h8:10<=s)(hp:r.sp.length+c<cap)(ha:r.ans.length<=cap) :
  ∃H' ls s' c',(step (step (step (step (step (step F)))))).bF [.ref nd,.ref nr] H=À (.non,H')/\Ac na rs H' nd ns nw ls s' (stepT T r).1 c'/\RmR H' nr na np (stepT T r).2/\Fm ((nd::ns::nw::ca)++[nr,na,np]) H H'/\(∀n∈ls,n∈ca\/H.length<=n)/\s'+5*c'<=s+5*c/\10<=s'/\(stepT T r).2.sp.length+c'<=r.sp.length+c/\(stepT T r).2.ans=r.ans:=by
 obtain⟨H1,EZ,s1,c1,t1,e1,R1,f1,Em,q1,q2,q3⟩:=Y3 (F:=F) hr A ∅ h8 (kd g.a);have N9:Fm ((nd::ns::nw::ca)++[nr,na,np]) H H1:=f1.sub λn hn=>jx _ hn
 have g1:RmR H1 nr na np r:=g.frame f1 λn hn z=>ap n z hn
 obtain⟨S0,R0⟩:=A;rw[f_turn];have first:ky (ki (mt (step (step (step (step (step F)))))) "go_on" (ze 0) []) [À (.ref nd),À (.ref nr)] H=À (.nx [À (.ref nd),À (.ref nr)],H1):=JI S0.g rfl e1
 cases R1 with
 | @ret st ws cs v c S=>
  refine⟨H1,EZ,s1,0,g7 (yT (ρ:=[À (.ref nd),À (.ref nr)]) (ρ':=[À (.ref nd),À (.ref nr)]) rfl rfl ?_),.mk S .done,g1,N9,Em,by omega,by omega,by simp[stepT],rfl⟩;unfold bA;rw[zw first];exact x4 (Jl S.g)
 | @tch st stk ws cs tt k _ o S R=>
  have hq:=q3 (nQ tt);obtain⟨H2,e2,S2,g2,f2,l2⟩:=Z7 (F:=step (step F)) S g1 o ∅ ha ∅ (Fp g ap Em);have RT:=Zh tt r;refine⟨H2,EZ,s1+1,c1,g7 (yT (ρ:=[À (.ref nd),À (.ref nr)]) (ρ':=[À (.ref nd),À (.ref nr)]) rfl rfl ?_),.mk S2 (R _),g2,?_,Em,by omega,by omega,by erw[stepT];omega,by erw[stepT];exact oG tt r⟩
  .unfold bA
   rw[zw first];refine lI (VA S.g) (qS (w:=dW tt (qa tt r).1) ?_);rw[yk (F:=step (step (step (step (step F))))) S.g.d (pH ⋯ ⋯ ⋯ ⋯) (sO _) (mo:=ze 0) rfl (ws:=[.ref nr]) (H1:=H1) rfl];exact e2
  .refine⟨zK N9.l f2.l,λn o hn e=>f2.k n o (λz=>?_) (N9.k n o hn e)⟩
   rcases(zU (s:=nd::ns::nw::EZ) (t:=[nr,na,np])).mp z with z | z
   .erw[zU,j6] at hn
    erw[zb] at z;rcases z with h | h | h | h
    .exact hn.1 (by simp[h])
    .exact hn.1 (by simp[h])
    .exact hn.1 (by simp[h])
    .rcases Em n h with y | y
     .exact hn.1 (by simp[y])
     .have:=kd e;omega
   .exact hn (kY _ z)
def U9(S:Sim na rs H nd ns nw ca s st [] ws cs t):(step F).aN [.ref nd] H=À (.non,H):=by
 have:st=[]:=jM.mp (by rw[S.sr.len];rfl);subst this;have e:=lY (o:=Á) S.g;rw[f_go];refine g7 (yT (ρ:=[À (.ref nd),Á]) (ρ':=[À (.ref nd),Á]) rfl rfl ?_);rw[sP];refine uT (n:=1) ?_;unfold ja;rw[e]
noncomputable def Gu(H H':MH)(w:W)(l:List W):Prop:=w=.fls l\/∃n,w=.ref n/\H.length<=n/\H'[n]?=À (.lst l)
def G4(hr:RsOk rs)(A:Ac na rs H nd ns nw ca s T c)(g:RmR H nr na np r)(ap:Ap (nd::ns::nw::ca) [nr,na,np])(hs:s+5*c+200<=cap)(h8:10<=s)(hp:r.sp.length+c<cap)(ha:r.ans.length<=cap) :
  ∃w H' ls s',(step (step (step (step (step (step F)))))).aJ [.ref nd,.ref nr] H=À (w,H')/\Gu H H' w (K0 (kS T r).2.2)/\Rs na rs H' nd ns nw ls s' (.ret (kS T r).1) 0 .non/\RmR H' nr na np (kS T r).2.1/\Fm ((nd::ns::nw::ca)++[nr,na,np]) H H'/\(∀n∈ls,n∈ca\/H.length<=n)/\10<=s'/\s'+200<=cap:=by
 obtain⟨S0,R0⟩:=A;rename_i st stk ws cs;rw[f_tte];have c0:(0:Nat)<=cap:=by decide
 have s1:zI (zh xE []) (zD 2) [À (.ref nd),À (.ref nr),Á] H=À (.nx [À (.ref nd),À (.ref nr),À (.ref H.length)],H++[.lst []]):=by
  simp[zI,zh,ko,bnd,xE,zD]
 cases stk with
 | nil=>
  cases R0 with
  | @done v ws _ _=>
  refine⟨.fls [],H,ca,s,CO (n:=H.length) (h':=H++[.lst []]) (yv (ρ:=[À (.ref nd),À (.ref nr),Á]) rfl rfl ?_) (jn _ _) (zj _) (at0 _ _) (by unfold lows;rfl),.inl rfl,.ret S0,g,Fm.refl,λn hn=>.inl hn,h8,by omega⟩;have oj:=S0.app [.lst []];rw[C7,zw s1,zw (JI oj.g rfl (U9 oj)),zw (ρ':=[À (.ref nd),À (.ref nr),À (.ref H.length)]) (h':=H++[.lst []]) (uT (n:=1) (by unfold ja;rw[Jl oj.g]))];rfl
 | cons x stk=>
  have oj:=S0.app [.lst []];have g1:RmR (H++[.lst []]) nr na np r:=g.frame (B:=[]) (Fm.app _) (λn _ z=>by simp at z);obtain⟨H1,EZ,SY,c1,t1,e1,R1,f1,Em,q1,q2,q3⟩:=Y3 (F:=F) hr (.mk oj R0) ∅ h8 (by rw[zQ];have:=kd g.a;omega);have LI:∀n∈nd::ns::nw::ca,n<H.length:=λn hn=>by
   erw[zb] at hn;rcases hn with rfl | rfl | rfl | hn
   .exact kd S0.g.d
   .exact kd S0.g.s
   .exact kd S0.g.w
   .obtain⟨c,hc⟩:=jC.mp hn
    have h1:c<cs.length:=by rw[<-S0.cl];exact kd hc
    exact kd (S0.ce c n cs[c] hc (zE h1))
  have L0:Lp (H++[.lst []]) na nd ns nw nr np H.length ca r []:=⟨g1,at0 _ _,ap,λz=>jF _ (LI _ z),λz=>by
   have h1:=kd g.r;have h2:=kd g.a;have h3:=kd g.p;erw[zb,zc,zO] at z
   omega,ha⟩
  have L1:=L0.mv f1 Em;obtain⟨n,H',ls,s',e2,R2,L2,f2,Bz,q4,q5⟩:=Zt (F:=F) hr T R1 L1 ∅ ∅ (λz=>by have:=q3 z;refine⟨by omega,by omega,?_⟩;erw[zV];omega);rw[kJ] at L2;have RV:∀n∈ls,n∈ca\/H.length<=n:=λn hn=>by
   rcases Bz n hn with y | y
   .rcases Em n y with z | z
    .exact .inl z
    .rw[zQ] at z;exact .inr ∅
   .have:=f1.l;rw[zQ] at this;exact .inr ∅
  have RX:∀n∈EZ,n∈ca\/H.length<=n:=λn hn=>by
   rcases Em n hn with z | z
   .exact .inl z
   .rw[zQ] at z;exact .inr ∅
  have raw:kg 2 1 (aK (step (step (step (step (step F)))))) [.ref nd,.ref nr] H=À (.ref H.length,H'):=by
   refine yv (ρ:=[À (.ref nd),À (.ref nr),Á]) rfl rfl ?_;rw[C7,zw s1,zw (JI oj.g rfl e1),zw (uT e2)];rfl
  have ne:H'[ns]?≠À (.lst st):=by
   cases R2 with | @ret AF _ _ _ _ S2=>
   have z2:AF=[]:=jM.mp (by rw[S2.sr.len];rfl);rw[S2.g.s,z2];intro z;injection z with z;injection z with z;have:=S0.sr.len;rw[<-z] at this;simp at this
  refine⟨.ref H.length,H',ls,s',yb raw S0.g.s ne,.inr ⟨H.length,rfl,zj _,L2.a⟩,R2,L2.g,?_,RV,by omega,q5⟩;have f0:Fm ((nd::ns::nw::ca)++[nr,na,np]) H H1:=(Fm.app _).trans (f1.sub λn hn=>jx _ hn);refine⟨zK f0.l f2.l,λn o hn e=>f2.k n o (λz=>?_) (f0.k n o hn e)⟩;have nl:=kd e;erw[zU,j6] at hn;erw[zb (a:=n) (b:=nd),zb (a:=n) (b:=ns),zb (a:=n) (b:=nw)] at z;rcases z with h | h | h | h
  .exact hn.1 (by simp[h])
  .exact hn.1 (by simp[h])
  .exact hn.1 (by simp[h])
  .rcases zU.mp h with h | h
   .rcases RX n h with y | y
    .exact hn.1 (by simp[y])
    .omega
   .have:n∈[nr,na,np]\/n=H.length:=by simpa[or_assoc] using h
    rcases this with y | y
    .exact hn.2 y
    .omega
inductive Dp:Tr Int->Nat->Prop
 | ret {v:Int} {c:Nat}:Dp (.ret v) c
 | tch {t:Tch} {k:Int->Tr Int} {c:Nat} (h:∀v,Dp (k v) c):Dp (.tch t k) (c+1)
def Dp.up{T:Tr Int}{c:Nat}(h:Dp T c):Dp T (c+1):=by
 induction h with
 | ret=>exact .ret
 | tch _ ih=>exact .tch ih
def Rep.dp{T:Tr Int}{c:Nat}(h:Rep rs stk ws cs T c):Dp T c:=by
 induction h with
 | done=>exact .ret
 | gg _ _ ih=>exact ih.up
 | tch _ _ ih=>exact .tch ih
theorem Dp.sp{T:Tr Int}{c:Nat}(h:Dp T c):∀r,(kS T r).2.1.sp.length<=r.sp.length+c/\(kS T r).2.1.ans=r.ans:=by
 induction h with
 | ret=>intro r;exact⟨by simp[kS],rfl⟩
 | @tch t k c h ih=>
  intro r;have:=ih (qa t r).1 (qa t r).2;have sp:=Zh t r;have an:=oG t r;erw[kS];exact⟨by omega,this.2.trans an⟩
end
structure Do where
 nd:Nat
 ns:Nat
 nw:Nat
 ca:List Nat
 s:Nat
 T:Tr Int
 c:Nat
noncomputable abbrev Do.own(d:Do):List Nat:=d.nd::d.ns::d.nw::d.ca
structure Wd(B:MH)(na:Nat)(rs:List Rule)(H:MH)(nr np n0:Nat)(L:List Do)(r:Rm):Prop where
 ac:∀(j:Nat) (d:Do),L[j]?=À d->Ac na rs H d.nd d.ns d.nw d.ca d.s d.T d.c/\10<=d.s/\d.s+5*d.c+200<=cap
 dj:∀(i j:Nat) (d e:Do),i≠j->L[i]?=À d->L[j]?=À e->Ap d.own e.own
 rm:∀(j:Nat) (d:Do),L[j]?=À d->Ap d.own [nr,na,np]/\n0∉d.own
 g:RmR H nr na np r
 l:H[n0]?=À (.lst (L.map λd=>.ref d.nd))
 n:n0∉[nr,na,np]
 an:r.ans.length<=cap
 b:r.sp.length+(L.map Do.c).sum<cap
 p:B<+:H
 lo:∀(j:Nat) (d:Do),L[j]?=À d->∀n∈d.own,B.length<=n
 lr:∀n∈[nr,na,np],B.length<=n
section
variable{B:MH}{na:Nat}{rs:List Rule}{H H':MH}{nr np n0:Nat}{L:List Do}{r r':Rm}{F:Fs}
def Ac.lt{c:Nat}{T:Tr Int}(A:Ac na rs H nd ns nw ca s T c):∀n∈nd::ns::nw::ca,n<H.length:=λn hn=>by
 obtain⟨S0,R0⟩:=A;rename_i st stk ws cs;erw[zb] at hn;rcases hn with rfl | rfl | rfl | hn
 .exact kd S0.g.d
 .exact kd S0.g.s
 .exact kd S0.g.w
 .obtain⟨c,hc⟩:=jC.mp hn
  have h1:c<cs.length:=by rw[<-S0.cl];exact kd hc
  exact kd (S0.ce c n cs[c] hc (zE h1))
theorem sum_set(f:Do->Nat):∀{L:List Do} {j:Nat} {d d':Do},L[j]?=À d->((L.set j d').map f).sum+f d=(L.map f).sum+f d'
 | [],_,_,_,h=>by simp at h
 | x::L,0,d,d',h=>by simp at h;subst h;simp;omega
 | x::L,j+1,d,d',h=>by
  have:=sum_set f (L:=L) (j:=j) (d:=d) (d':=d') (by simpa using h);erw[List.set_cons_succ,zx,yU];omega
def Fm.pre(f:Fm A H H')(p:B<+:H)(h:∀n∈A,B.length<=n):B<+:H':=by
 rw[List.prefix_iff_getElem?] at p ⊢;intro i hi;exact f.k i _ (λz=>by have:=h i z;omega) (p i hi)
def Wd.adv(w:Wd B na rs H nr np n0 L r){d:Do}(hj:L[j]?=À d)(A:Ac na rs H' d.nd d.ns d.nw ls s' T' c')(h8:10<=s')(hs:s'+5*c'+200<=cap)(g:RmR H' nr na np r')(fm:Fm (d.own++[nr,na,np]) H H')(hc:∀n∈ls,n∈d.ca\/H.length<=n)(hb:r'.sp.length+c'<=r.sp.length+d.c)(ha:r'.ans=r.ans):Wd B na rs H' nr np n0 (L.set j ⟨d.nd,d.ns,d.nw,ls,s',T',c'⟩) r':=by
 have old:∀n∈(⟨d.nd,d.ns,d.nw,ls,s',T',c'⟩:Do).own,n∈d.own\/H.length<=n:=λn hn=>by
  erw[zb] at hn ⊢;rcases hn with h | h | h | h
  .exact .inl (.inl h)
  .exact .inl (.inr (.inl h))
  .exact .inl (.inr (.inr (.inl h)))
  .rcases hc n h with y | y
   .exact .inl (.inr (.inr (.inr y)))
   .exact .inr y
 have dic:DicP na H H':=VS fm λa ha hn l=>by
  rcases zU.mp ha with z | z
  .obtain⟨S,_⟩:=(w.ac j d hj).1
   exact S.nodic a z hn l
  .exact w.g.nodic a z hn l
 have other:∀i e,i≠j->L[i]?=À e->Ap e.own (d.own++[nr,na,np]):=λi e hi he n hn z=>by
  rcases zU.mp z with z | z
  .exact w.dj i j e d hi he hj n hn z
  .exact(w.rm i e he).1 n hn z
 have get:∀i e,(L.set j ⟨d.nd,d.ns,d.nw,ls,s',T',c'⟩)[i]?=À e->(i=j/\e=⟨d.nd,d.ns,d.nw,ls,s',T',c'⟩)\/(i≠j/\L[i]?=À e):=λi e h=>by
  by_cases q:i=j
  .subst q
   rw[zH (kd hj)] at h;injection h with h;exact .inl ⟨rfl,h.symm⟩
  .rw[zG (kZ q)] at h
   exact .inr ⟨q,h⟩
 have MC:=kd w.l;refine⟨λi e h=>?_,λi k e1 e2 MD h1 h2=>?_,λi e h=>?_,g,?_,w.n,by rw[ha];exact w.an,?_,?_,λi e h=>?_,w.lr⟩
 .rcases get i e h with ⟨rfl,rfl⟩ | ⟨hi,he⟩
  .exact⟨A,h8,hs⟩
  .obtain⟨⟨S,R⟩,h1,h2⟩:=w.ac i e he
   exact⟨⟨S.frame fm dic (other i e hi he),R⟩,h1,h2⟩
 .rcases get i e1 h1 with ⟨rfl,rfl⟩ | ⟨hi,he⟩<;>rcases get k e2 h2 with ⟨rfl,rfl⟩ | ⟨hk,Ed⟩
  .exact absurd rfl MD
  .intro n hn z
   rcases old n hn with y | y
   .exact w.dj i k d e2 (kZ hk) hj Ed n y z
   .have:=(w.ac k e2 Ed).1.lt n z;omega
  .intro n hn z
   rcases old n z with y | y
   .exact w.dj i k e1 d hi he hj n hn y
   .have:=(w.ac i e1 he).1.lt n hn;omega
  .exact w.dj i k e1 e2 MD he Ed
 .rcases get i e h with ⟨rfl,rfl⟩ | ⟨hi,he⟩
  .refine⟨λn hn z=>?_,λz=>?_⟩
   .rcases old n hn with y | y
    .exact(w.rm i d hj).1 n y z
    .have h1:=kd w.g.r
     have h2:=kd w.g.a;have h3:=kd w.g.p;erw[zb,zc,zO] at z;omega
   .rcases old n0 z with y | y
    .exact(w.rm i d hj).2 y
    .omega
  .exact w.rm i e he
 .have:(L.set j ⟨d.nd,d.ns,d.nw,ls,s',T',c'⟩).map (λd=>W.ref d.nd)=L.map λd=>.ref d.nd:=by
   rw[List.map_set];refine set_same ?_;rw[jb,hj];rfl
  rw[this];refine fm.k _ _ (λz=>?_) w.l;rcases zU.mp z with z | z
  .exact(w.rm j d hj).2 z
  .exact w.n z
 .have:=sum_set Do.c (d':=⟨d.nd,d.ns,d.nw,ls,s',T',c'⟩) hj
  have:=w.b;simp only at *;omega
 .refine fm.pre w.p λn hn=>?_
  rcases zU.mp hn with z | z
  .exact w.lo j d hj n z
  .exact w.lr n z
 .rcases get i e h with ⟨rfl,rfl⟩ | ⟨hi,he⟩
  .intro n hn
   rcases old n hn with y | y
   .exact w.lo i d hj n y
   .exact zK w.p.length_le y
  .exact w.lo i e he
noncomputable def cw(p:List (Tr Int)×Rm)(n:Int):List (Tr Int)×Rm:=if 0<=n/\n<p.1.length then (match p.1[n.toNat]? with
 | some T=>(p.1.set n.toNat (stepT T p.2).1,(stepT T p.2).2)
 | none=>p) else p
noncomputable def eB:List (Tr Int)->Rm->List Int×Rm
 | [],r=>([],r)
 | T::Ts,r=>((kS T r).1::(eB Ts (kS T r).2.1).1,(eB Ts (kS T r).2.1).2)
noncomputable def trees(L:List Do):List (Tr Int):=L.map Do.T
def Wd.turn(hr:RsOk rs)(w:Wd B na rs H nr np n0 L r){d:Do}(hj:L[j]?=À d):∃H' d',(step (step (step (step (step (step F)))))).bF [.ref d.nd,.ref nr] H=À (.non,H')/\Wd B na rs H' nr np n0 (L.set j d') (stepT d.T r).2/\d'.T=(stepT d.T r).1:=by
 obtain⟨A,h8,hs⟩:=w.ac j d hj;have b:=w.b;have sl:=sum_set Do.c (d':=⟨0,0,0,[],0,.ret 0,0⟩) hj;obtain⟨H',ls,s',c',e,A',g',fm,hc,q1,q2,q3,q4⟩:=FV (F:=F) hr A w.g (w.rm j d hj).1 hs h8 (by simp only at sl;omega) w.an;exact⟨H',_,e,w.adv hj A' q2 ∅ g' fm hc q3 q4,rfl⟩
def Wd.end1(hr:RsOk rs)(w:Wd B na rs H nr np n0 L r){d:Do}(hj:L[j]?=À d):∃v H' d',(step (step (step (step (step (step F)))))).aJ [.ref d.nd,.ref nr] H=À (v,H')/\Wd B na rs H' nr np n0 (L.set j d') (kS d.T r).2.1/\d'.T=.ret (kS d.T r).1/\d'.c=0:=by
 obtain⟨A,h8,hs⟩:=w.ac j d hj;have b:=w.b;have sl:=sum_set Do.c (d':=⟨0,0,0,[],0,.ret 0,0⟩) hj;obtain⟨v,H',ls,s',e,hh,R',g',fm,hc,z1,z2⟩:=G4 (F:=F) hr A w.g (w.rm j d hj).1 hs h8 (by simp only at sl;omega) w.an;obtain⟨S0,R0⟩:=A;have dp:=R0.dp.sp r;cases R' with | @ret st ws cs _ _ S=>
 exact⟨v,H',_,e,w.adv hj (c':=0) (T':=.ret (kS d.T r).1) (.mk S .done) z1 ∅ g' fm hc ∅ dp.2,rfl,rfl⟩
end
section
variable{B:MH}{na:Nat}{rs:List Rule}{H:MH}{nr np n0:Nat}{L:List Do}{r:Rm}{F:Fs}
noncomputable abbrev ρB(a b c d e:W)(nr n0:Nat)(o7 o8 o9:Option W):En:=[À a,À b,À c,À d,À e,À (.ref nr),À (.ref n0),o7,o8,o9]
noncomputable def G6(F:Fs):Fs:=step (step (step (step (step (step F)))))
theorem i8(hr:RsOk rs){c:W}:∀(ns:List Int) {H:MH} {L:List Do} {r:Rm} (o7:Option W),Wd B na rs H nr np n0 L r->∃H' L' r' EO,forL (zD 7) (Vg (G6 F)) (ns.map .int) (ρB a b c d e nr n0 o7 Á Á) H=À (.nx (ρB a b c d e nr n0 EO Á Á),H')/\Wd B na rs H' nr np n0 L' r'/\(trees L',r')=ns.foldl cw (trees L,r)
 | [],H,L,r,o7,w=>⟨H,L,r,o7,rfl,w,rfl⟩
 | n::ns,H,L,r,o7,w=>by
  have e1:zD 7 (.int n) (ρB a b c d e nr n0 o7 Á Á) H=À (ρB a b c d e nr n0 (À (.int n)) Á Á,H):=rfl;have wl:=w.l;have len:(trees L).length=L.length:=by unfold trees;rw[zP]
  by_cases q:0<=n/\n<(L.length:Int)
  .have lt:n.toNat<L.length:=by omega
   have hj:L[n.toNat]?=À L[n.toNat]:=zE lt;obtain⟨H1,d',e2,w1,dT⟩:=w.turn (F:=F) hr hj;obtain⟨H',L',r',EO,e3,w2,tr⟩:=i8 hr ns (À (.int n)) w1;refine⟨H',L',r',EO,?_,w2,?_⟩
   .erw[zx]
    unfold forL;rw[e1];simp only;have cond:kb (ug om i4 (PL 0) (ze 7) (zh kN [ze 6])) (ρB a b c d e nr n0 (À (.int n)) Á Á) H=À (Ã,H):=by
     simp![vv,q.1,kN,getL,wl,q.2]
    have ix:zC (.ref n0) (.int n) H=À (.ref L[n.toNat].nd,H):=by
     have:L2.atI (L.map λd=>W.ref d.nd) n=À (.ref L[n.toNat].nd):=by
      obtain⟨k,hk⟩:=qp q.1;subst hk;exact Ko (by rw[jb];erw[qj] at hj ⊢;rw[hj];rfl)
     erw[zC,getL,wl,this]
    have body:Vg (G6 F) (ρB a b c d e nr n0 (À (.int n)) Á Á) H=À (.nx (ρB a b c d e nr n0 (À (.int n)) Á Á),H1):=by
     refine lI cond (qS (w:=.non) ?_);erw[zh,ko,bnd,zi,ze,zA,zm,ix];exact e2
    rw[body];exact e3
   .rw[tr,jR]
    congr 1
    unfold cw;have hT:(trees L)[n.toNat]?=À L[n.toNat].T:=by unfold trees;rw[jb,hj];rfl
    erw[len,q,and_self,kE,hT];congr 1
    unfold trees;rw[List.map_set,dT]
  .obtain⟨H',L',r',EO,e3,w2,tr⟩:=i8 hr ns (À (.int n)) w
   refine⟨H',L',r',EO,?_,w2,?_⟩
   .erw[zx]
    unfold forL;rw[e1];simp only;have cond:kb (ug om i4 (PL 0) (ze 7) (zh kN [ze 6])) (ρB a b c d e nr n0 (À (.int n)) Á Á) H=À (Â,H):=by
     by_cases q1:0<=n
     .have q2:¬n<(L.length:Int):=λz=>q ⟨q1,z⟩
      simp![vv,q1,kN,getL,wl,q2]
     .simp![vv,q1]
    have body:Vg (G6 F) (ρB a b c d e nr n0 (À (.int n)) Á Á) H=À (.nx (ρB a b c d e nr n0 (À (.int n)) Á Á),H):=x4 cond;rw[body];exact e3
   .rw[tr,jR]
    congr 1
    unfold cw;erw[len,q,je]
theorem tU(hr:RsOk rs){c d:W}:∀(L2:List Do) {H:MH} {L1:List Do} {r:Rm} (o8:Option W) (k:Nat),Wd B na rs H nr np n0 (L1++L2) r->L2.length<k->(∀d∈L1,d.c=0)->∃H' L' Oa,u6 (.live n0) (zD 8) (Xn (G6 F)) k L1.length (ρB a b c d e nr n0 o7 o8 o9) H=À (.nx (ρB a b c d e nr n0 o7 Oa o9),H')/\Wd B na rs H' nr np n0 (L1++L') (eB (trees L2) r).2/\trees L'=(eB (trees L2) r).1.map .ret/\∀d∈L1++L',d.c=0
 | [],H,L1,r,o8,0,w,hk,h0=>by simp at hk
 | [],H,L1,r,o8,k+1,w,hk,h0=>by
  refine⟨H,[],o8,?_,w,rfl,by simpa using h0⟩;have wl:=w.l;rw[kh] at wl;unfold u6;erw[x6,wl];rw[jQ (by simp)]
 | x::L2,H,L1,r,o8,0,w,hk,h0=>by simp at hk
 | x::L2,H,L1,r,o8,k+1,w,hk,h0=>by
  have hj:(L1++x::L2)[L1.length]?=À x:=by rw[zF (zj _),qR];rfl
  obtain⟨v,H1,d',e2,w1,dT,dc⟩:=w.end1 (F:=F) hr hj;have st:(L1++x::L2).set L1.length d'=(L1++[d'])++L2:=by
   rw[jK _ _ (zj _),qR,zY];rfl
  rw[st] at w1
  obtain⟨H',L',Oa,e3,w2,tr,z⟩:=tU hr L2 (À (.ref x.nd)) k w1 (by erw[zp] at hk;omega) (λd hd=>by
   rcases zU.mp hd with y | y
   .exact h0 d y
   .simp at y;subst y;exact dc)
  refine⟨H',d'::L',Oa,?_,?_,?_,?_⟩
  .have wl:=w.l
   have at_:((L1++x::L2).map λd=>W.ref d.nd)[L1.length]?=À (.ref x.nd):=by rw[jb,hj];rfl
   unfold u6;erw[x6,wl,at_];have e1:zD 8 (.ref x.nd) (ρB a b c d e nr n0 o7 o8 o9) H=À (ρB a b c d e nr n0 o7 (À (.ref x.nd)) o9,H):=rfl;rw[e1];simp only;have body:Xn (G6 F) (ρB a b c d e nr n0 o7 (À (.ref x.nd)) o9) H=À (.nx (ρB a b c d e nr n0 o7 (À (.ref x.nd)) o9),H1):=by
    refine qS (w:=v) ?_;erw[zh,ko,bnd,ze,zA,zm];exact e2
   rw[body];erw[zQ,zp,zV] at e3;exact e3
  .rw[zY] at w2
   exact w2
  .erw[trees,zx,eB,dT]
   congr 1
  .intro d hd
   exact z d (by rw[zY];exact hd)
theorem ny{h:MH}{l:List W}{f:W->W}(hn:h[n]?=À (.lst l))(hm:∀w∈l,∀X,m [À w] (h++X)=À (f w,h++X))(hl:l.length<=cap):∀(k i:Nat) (acc:List W) (o:Option W),i<=l.length->l.length<i+k->acc.length+(l.length-i)<=cap->xZ (.live n) 1 (zD 0) kL m h.length k i [o] (h++[.lst acc])=À (h++[.lst (acc++(l.drop i).map f)])
 | 0,i,acc,o,hi,hk,ha=>by omega
 | k+1,i,acc,o,hi,hk,ha=>by
  have Nj:(h++[MO.lst acc])[n]?=À (.lst l):=by rw[zy (kd hn)];exact hn
  unfold xZ;erw[x6,Nj];by_cases q:i<l.length
  .rw[zE q]
   have g:zD 0 l[i] [o] (h++[.lst acc])=À ([À l[i]],h++[.lst acc]):=rfl;erw[g,kL,hm l[i] (List.getElem_mem q) [.lst acc],at0];rw[z9 ∅,oM];show xZ (.live n) 1 (zD 0) kL m h.length k (i+1) [Á] _=_
   rw[ny hn hm hl k (i+1) (acc++[f l[i]]) Á ∅ ∅ (by simp;omega)];rw[qO q,zx,zY];rfl
  .rw[jQ ∅,yZ ∅,jk,kh]
def QP{h:MH}{l:List W}{f:W->W}(hi:mi ρ h=À (.ref n,h))(hn:h[n]?=À (.lst l))(hm:∀w∈l,∀X,m [À w] (h++X)=À (f w,h++X))(hl:l.length<=cap)(hf:∀w∈l,low h.length (f w)=Ã):j1 (vk mi) 1 [] (zD 0) kL m ρ h=À (.fls (l.map f),h):=by
 have e:=ny hn hm hl (l.length+1) 0 [] Á ∅ ∅ (by simp;omega);rw[wV,kJ] at e;unfold j1 aE;have es:vk mi ρ h=À (.live n,h):=by erw[vk,bnd,hi,srcOf,hn]
 rw[es];have sl:gS (.live n) h=l.length:=by erw[gS,hn]
 erw[sl];have er:(Æ 1 (Á:Option W)++([]:List Nat).map λk=>(ρ[k]?).join)=[Á]:=rfl;rw[er,e];erw[at0];rw[z9];refine⟨jn _ _,xi λw hw=>?_⟩;obtain⟨w',h1,rfl⟩:=jf.mp hw;exact hf w' h1
def U3(A:Ac na rs H nd ns nw ca s (.ret v) 0)(X:MH):ki (mt (step F)) "came_to" (ze 0) [] [À (.ref nd)] (H++X)=À (.int v,H++X):=by
 obtain⟨S,R⟩:=A;cases R with | @done v ws cs _=>
 have oj:=S.app X;rw[yk (F:=step F) oj.g.d (pH ⋯ ⋯ ⋯ ⋯) (BD _) (mo:=ze 0) rfl (ws:=[]) (H1:=H++X) rfl];exact D5 oj.g (iF v ws) vT
def Wa(w:Wd B na rs H nr np n0 L r){vs:List Int}(ht:trees L=vs.map .ret)(h0:∀d∈L,d.c=0)(hi:ze 6 ρ H=À (.ref n0,H))(hl:L.length<=1000):j1 (vk (ze 6)) 1 [] (zD 0) kL (ki (mt (step F)) "came_to" (ze 0) []) ρ H=À (.fls (vs.map .int),H):=by
 have hd:∀d∈L,∃v,d.T=.ret v/\∀X,ki (mt (step F)) "came_to" (ze 0) [] [À (.ref d.nd)] (H++X)=À (.int v,H++X):=λd hd=>by
  obtain⟨j,hj⟩:=jC.mp hd;have A:=(w.ac j d hj).1;have:(trees L)[j]?=À d.T:=by unfold trees;rw[jb,hj];rfl
  rw[ht,jb] at this;cases e:vs[j]? with
  | none=>rw[e] at this;cases this
  | some v=>
   rw[e] at this;injection this with this;rw[<-this,h0 d hd] at A;exact⟨v,this.symm,U3 A⟩
 have c:=QP (h:=H) (n:=n0) (l:=L.map λd=>.ref d.nd) (m:=ki (mt (step F)) "came_to" (ze 0) []) (f:=λw=>match ki (mt (step F)) "came_to" (ze 0) [] [À w] H with | some (v,_)=>v | none=>.non) hi w.l (λx hx X=>by
  obtain⟨d,hm,rfl⟩:=jf.mp hx;obtain⟨v,_,e⟩:=hd d hm;have e0:=e [];rw[kh] at e0;rw[e X,e0]) (by rw[zP];exact zK hl (by decide)) (λx hx=>by
  obtain⟨d,hm,rfl⟩:=jf.mp hx;obtain⟨v,_,e⟩:=hd d hm;have e0:=e [];rw[kh] at e0;rw[e0]
  exact vT)
 rw[c];congr 2
 congr 1
 rw[vg];have:∀(L:List Do) (vs:List Int),L.map Do.T=vs.map .ret->(∀d∈L,∃v,d.T=.ret v/\∀X,ki (mt (step F)) "came_to" (ze 0) [] [À (.ref d.nd)] (H++X)=À (.int v,H++X))->L.map ((λw=>match ki (mt (step F)) "came_to" (ze 0) [] [À w] H with | some (v,_)=>v | none=>.non)∘λd=>.ref d.nd)=vs.map W.int:=by
  intro L;induction L with
  | nil=>intro vs h _;cases vs with
   | nil=>rfl
   | cons _ _=>simp at h
  | cons d L ih=>
   intro vs h hd;cases vs with
   | nil=>simp at h
   | cons v vs=>
    erw[zx,jN] at h ⊢;obtain⟨v',e1,e2⟩:=hd d kj;have e0:=e2 [];rw[kh] at e0;rw[h.1] at e1;injection e1 with e1;refine⟨?_,ih vs h.2 λd AC=>hd d (zM _ AC)⟩;erw[Function.comp,e0,e1]
 exact this L vs ht hd
theorem tY{h:MH}{f:W->W}:∀(l acc:List W) (o:Option W),(∀w∈l,∀X,m (À w::caps) (h++X)=À (f w,h++X))->acc.length+l.length<=cap->vi 1 (zD 0) kL m h.length l (o::caps) (h++[.lst acc])=À (h++[.lst (acc++l.map f)])
 | [],acc,o,_,_=>by simp[vi]
 | w::l,acc,o,hm,hl=>by
  erw[zp] at hl;have g:zD 0 w (o::caps) (h++[.lst acc])=À (À w::caps,h++[.lst acc]):=by simp[zD]
  unfold vi;erw[g,kL,hm w kj [.lst acc],at0];rw[z9 ∅,oM];show vi 1 (zD 0) kL m h.length l (Á::caps) _=_
  rw[tY l (acc++[f w]) Á (λw hw=>hm w (zM _ hw)) (by simp;omega),zY];rfl
def Uy{h:MH}{ks:List Nat}{l:List W}{f:W->W}{ρ:En}(hi:mi ρ h=À (.items l,h))(hm:∀w∈l,∀X,m (À w::ks.map λk=>(ρ[k]?).join) (h++X)=À (f w,h++X))(hl:l.length<=cap)(hf:∀w∈l,low h.length (f w)=Ã):j1 mi 1 ks (zD 0) kL m ρ h=À (.fls (l.map f),h):=by
 have e:=tY (caps:=ks.map λk=>(ρ[k]?).join) l [] Á hm (by simpa using hl);unfold j1 aE;rw[hi];simp only;have er:(Æ 1 (Á:Option W)++ks.map λk=>(ρ[k]?).join)=Á::ks.map λk=>(ρ[k]?).join:=rfl
 rw[er,e];erw[kJ,at0];rw[z9];refine⟨jn _ _,xi λw hw=>?_⟩;obtain⟨w',h1,rfl⟩:=jf.mp hw;exact hf w' h1
noncomputable def vc(st:Ç->Int):W:=.tup (SH.map λv=>.int (st v))
def l8:low m (vc st)=Ã:=by
 unfold vc low;exact xi λw hw=>by obtain⟨v,_,rfl⟩:=jf.mp hw;exact vT
theorem f_store(F:Fs):(step F).cJ=gc (kg 1 0 (bG F)):=rfl
theorem f_said(F:Fs):(step F).cV=gc (kg 1 0 (b8 F)):=rfl
theorem Br(g:RmR H nr na np r)(e1:mo ρ H=À (.ref nr,H)):ki (mt (step F)) "store" mo [] ρ H=À (vc r.st,H):=by
 rw[yk (F:=step F) g.r (FZ ⋯ ⋯ ⋯ ⋯) (WA _) e1 (ws:=[]) (H1:=H) rfl,f_store];refine aT (yv (ρ:=[À (.ref nr)]) rfl rfl ?_) l8;have c:=Uy (mi:=vk (eC j3)) (ks:=[0]) (m:=zi yi (kM kB "shelves" (ze 1)) (ze 0)) (ρ:=[À (.ref nr)]) (h:=H) (l:=SH.map .str) (f:=λw=>match w with | .str v=>.int (r.st v) | w=>w)
  (by erw[vk,bnd,eC,j3,srcOf];rfl) (λw hw X=>by
   obtain⟨v,hv,rfl⟩:=jf.mp hw;have g1:RmR (H++X) nr na np r:=g.frame (B:=[]) (Fm.app _) (λn _ z=>by simp at z);have f1:=g1.fS;have f2:=g1.a;erw[zi,bnd,kM,ze,zx,jk,zA,zm,wj,f1,yi,xA,f2,keyOf,Qg hv]) ⋯ (λw hw=>by
   obtain⟨v,_,rfl⟩:=jf.mp hw
   exact vT)
 unfold bG;erw[ka,zh,ko,bnd,c,uA,getL];unfold vc;rw[vg];rfl
def F8(g:RmR H nr na np r)(e1:mo ρ H=À (.ref nr,H)):ki (mt (step F)) "said" mo [] ρ H=À (.fls (r.sp.map .int),H):=by
 rw[yk (F:=step F) g.r (FZ ⋯ ⋯ ⋯ ⋯) (B2 _) e1 (ws:=[]) (H1:=H) rfl,f_said];have lw:low H.length (.fls (r.sp.map .int))=Ã:=oV λw hw=>by obtain⟨v,_,rfl⟩:=jf.mp hw;exact vT
 refine aT (yv (ρ:=[À (.ref nr)]) rfl rfl ?_) lw;have f1:=g.fP;have f2:=g.p;unfold b8;erw[ka,zh,ko,bnd,kM,ze,zm,f1,iE,xB,getL,f2]
end
theorem K8{H:MH}:(H++o::X)[H.length]?=À o:=by rw[zF (zj _),qR];rfl
theorem Dn{H:MH}:(H++o::X).set H.length o'=H++o'::X:=by rw[jK _ _ (zj _),qR];rfl
theorem pX:∀(ks l:List (Key×W)),((l++ks).map (·.1)).Nodup->qv l ks=l++ks
 | [],l,_=>by simp[qv]
 | p::ks,l,h=>by
  have na:(l.any λkv=>decide (kv.1=p.1))≠Ã:=λz=>by
   obtain⟨x,hx,e⟩:=qu.mp z;have e:=qe e;rw[vD,ym] at h;exact h.2.2 x.1 (jf.mpr ⟨x,hx,rfl⟩) p.1 (by simp) e
  have e:qv l (p::ks)=qv (j2 l p.1 p.2) ks:=rfl;have e2:j2 l p.1 p.2=l++[p]:=by unfold j2;rw[kI na]
  rw[e,e2,pX ks (l++[p]) (by rw[zY];exact h),zY];rfl
def CH{H:MH}:oU [j3,vc st] H=À (.ref H.length,H++[.dic (um st)]):=by
 have z:(SH.map W.str).zip (SH.map λv=>W.int (st v))=SH.map λv=>(.str v,.int (st v)):=by rw[List.zip_map']
 have k:keysOf (SH.map λv=>(W.str v,W.int (st v)))=À (um st):=by
  unfold um;generalize SH=l;induction l with
  | nil=>rfl
  | cons v l ih=>erw[zx];unfold keysOf;rw[ih];rfl
 have m:qv [] (um st)=um st:=pX _ _ (by
  rw[kJ];unfold um;rw[vg];show(SH.map λv=>(.inr v:Key)).Nodup
  decide +kernel)
 have c:j3=.tup (SH.map .str):=rfl;have kl:(um st).length<=1000:=by unfold um;rw[zP];decide
 rw[c];unfold vc;erw[oU,aw,z,k,kl,kE,m]
section
variable{B:MH}{na:Nat}{rs:List Rule}{H:MH}{nr np n0:Nat}{L:List Do}{r:Rm}{F:Fs}
def Le:qE kB 1 "shelves" = Ã/\qE kB 1 "answers" = Ã/\qE kB 1 "spoken" = Ã/\qE kB 1 "asks" = Ã:=by decide +kernel
def IM:(¬("shelves":Ç)="answers")/\(¬("shelves":Ç)="spoken")/\(¬("shelves":Ç)="asks")/\(¬("answers":Ç)="spoken")/\(¬("answers":Ç)="asks")/\(¬("spoken":Ç)="asks"):=by decide +kernel
def Ii:(¬("rules":Ç)="steps")/\(¬("rules":Ç)="worths")/\(¬("rules":Ç)="touch_ahead")/\(¬("steps":Ç)="worths")/\(¬("steps":Ç)="touch_ahead")/\(¬("worths":Ç)="touch_ahead"):=by decide +kernel
theorem f_rinit(F:Fs):(step F).bU=gc (kg 3 0 (cA F)):=rfl
theorem f_dinit(F:Fs):(step F).bD=gc (kg 3 0 (bJ F)):=rfl
def uX{f:Ç}{H:MH}{c:Nat}{fs:List (Ç×W)}(hp:ul f v fs=fs')(e:m (À (.ref H.length)::ρ) H1=À (v,H++.ins c fs::X))(hf:qE fl c f=Ã)(hl:fs.length<1000):zI m (uy fl f (ze 0)) (À (.ref H.length)::ρ) H1=À (.nx (À (.ref H.length)::ρ),H++.ins c fs'::X):=by
 subst hp;have a:(H++.ins c fs::X)[H.length]?=À (.ins c fs):=K8;erw[zI,e,uy,bnd,ze,zm,iA,a,hf,hl,kE,Dn]
def Yw{ans:List Int}:(step F).bU [.ref H.length,vc st,.fls (ans.map .int)] (H++[.ins 1 []])=À (.non,H++[.ins 1 (uS (H.length+1) (H.length+2) (ans.map .int) 0),.dic (um st),.lst []]):=by
 rw[f_rinit];obtain⟨f1,f2,f3,f4⟩:=Le;obtain⟨n1,n2,n3,n4,n5,n6⟩:=IM;refine g7 (yT (ρ:=[À (.ref H.length),À (vc st),À (.fls (ans.map .int))]) (ρ':=[À (.ref H.length),À (vc st),À (.fls (ans.map .int))]) rfl rfl ?_);unfold cA;have z:=CH (st:=st) (H:=H++[.ins 1 []]);rw[zQ,zY] at z
 rw[zw (uX (H:=H) (c:=1) (fs:=[]) (X:=[.dic (um st)]) (v:=.ref (H.length+1)) (fs':=[("shelves",.ref (H.length+1))]) rfl (by
  erw[lT,zh,ko,bnd,eC,ze,zA,zm]
  exact z) f1 (by simp))]
 rw[zw (uX (H:=H) (c:=1) (X:=[.dic (um st)]) (v:=.fls (ans.map .int)) (fs:=[("shelves",.ref (H.length+1))]) (fs':=[("shelves",.ref (H.length+1)),("answers",.fls (ans.map .int))]) (by simp[ul,n1]) (by
  erw[zh,ko,bnd,ze,zA,zm,iE,xB,getL]) f2 (by simp))]
 have c0:(0:Nat)<=cap:=by decide
 rw[zw (uX (H:=H) (c:=1) (X:=[.dic (um st),.lst []]) (v:=.ref (H.length+2)) (fs:=[("shelves",.ref (H.length+1)),("answers",.fls (ans.map .int))]) (fs':=[("shelves",.ref (H.length+1)),("answers",.fls (ans.map .int)),("spoken",.ref (H.length+2))]) (by simp[ul,n2,n4]) (by
  erw[zh,ko,bnd,xE,zV,c0,kE,zQ,zp,zY,jl,kJ]) f3 (by simp))]
 rw[uX (H:=H) (c:=1) (X:=[.dic (um st),.lst []]) (v:=.int 0) (fs:=[("shelves",.ref (H.length+1)),("answers",.fls (ans.map .int)),("spoken",.ref (H.length+2))]) (fs':=uS (H.length+1) (H.length+2) (ans.map .int) 0) (by simp[ul,n3,n5,n6]) rfl f4 (by simp)]
def QR(hr:rl=.tup (kA rs)):(step F).bD [.ref H.length,rl,d] (H++[.ins 0 []])=À (.non,H++[.ins 0 (yy (kA rs) (H.length+1) (H.length+2) .non),.lst [.tup [.bl Â,d,.fdc []]],.lst []]):=by
 subst hr;rw[f_dinit];obtain⟨n1,n2,n3,n4,n5,n6⟩:=Ii;refine g7 (yT (ρ:=[À (.ref H.length),À (.tup (kA rs)),À d]) (ρ':=[À (.ref H.length),À (.tup (kA rs)),À d]) rfl rfl ?_);unfold bJ;have c0:(0:Nat)<=cap:=by decide
 have c1:(1:Nat)<=cap:=by decide
 have c3:(3:Nat)<=cap:=by decide
 rw[zw (uX (H:=H) (c:=0) (fs:=[]) (X:=[]) (v:=.tup (kA rs)) (fs':=[("rules",.tup (kA rs))]) rfl rfl f_rules (by simp))]
 rw[zw (uX (H:=H) (c:=0) (X:=[.lst [.tup [.bl Â,d,.fdc []]]]) (v:=.ref (H.length+1)) (fs:=[("rules",.tup (kA rs))]) (fs':=[("rules",.tup (kA rs)),("steps",.ref (H.length+1))]) (by simp[ul,n1]) (by
  erw[zh,ko,bnd,eC,ze,zA,zm,zt,zV,zp,c3,c1,kE,xE,zQ,zY,jl,kJ]) f_steps (by simp))]
 rw[zw (uX (H:=H) (c:=0) (X:=[.lst [.tup [.bl Â,d,.fdc []]],.lst []]) (v:=.ref (H.length+2)) (fs:=[("rules",.tup (kA rs)),("steps",.ref (H.length+1))]) (fs':=[("rules",.tup (kA rs)),("steps",.ref (H.length+1)),("worths",.ref (H.length+2))]) (by simp[ul,n2,n4]) (by
  erw[zh,ko,bnd,xE,zV,c0,kE,zQ,zp,zY,jl,kJ]) f_worths (by simp))]
 rw[uX (H:=H) (c:=0) (X:=[.lst [.tup [.bl Â,d,.fdc []]],.lst []]) (v:=.non) (fs:=[("rules",.tup (kA rs)),("steps",.ref (H.length+1)),("worths",.ref (H.length+2))]) (fs':=yy (kA rs) (H.length+1) (H.length+2) .non) (by simp[ul,n3,n5,n6]) rfl f_ahead (by simp)]
def BS{ans:List Int}(e1:m1 ρ H=À (vc st,H))(e2:m2 ρ H=À (.fls (ans.map .int),H)):uI 1 (step (step F)).eQ [m1,m2] ρ H=À (.ref H.length,H++[.ins 1 (uS (H.length+1) (H.length+2) (ans.map .int) 0),.dic (um st),.lst []]):=by
 have e:(step (step F)).eQ [.ref H.length,vc st,.fls (ans.map .int)] (H++[.ins 1 []])=_:=Yw (F:=F) (H:=H) (st:=st) (ans:=ans);unfold uI;erw[ko,bnd,e1,e2,e];rw[z9 (by simp)]
def Yr(e1:m1 ρ H=À (.tup (kA rs),H))(e2:m2 ρ H=À (d,H)):uI 0 (step (step F)).cQ [m1,m2] ρ H=À (.ref H.length,H++[.ins 0 (yy (kA rs) (H.length+1) (H.length+2) .non),.lst [.tup [.bl Â,d,.fdc []]],.lst []]):=by
 have e:(step (step F)).cQ [.ref H.length,.tup (kA rs),d] (H++[.ins 0 []])=_:=QR (F:=F) (H:=H) (d:=d) rfl;unfold uI;erw[ko,bnd,e1,e2,e];rw[z9 (by simp)]
theorem BH(rs:List Rule)(d:D)(H:MH):Sim na rs (H++[.ins 0 (yy (kA rs) (H.length+1) (H.length+2) .non),.lst [.tup [.bl Â,zo d,.fdc []]],.lst []]) H.length (H.length+1) (H.length+2) [] 10 [.tup [.bl Â,zo d,.fdc []]] [(Â,d,[])] [] [] .non:=by
 refine⟨⟨K8,?_,?_,by omega,by omega,by omega⟩,StR.cons (st:=[]) .nil .nil,rfl,λc n i a=>by simp at a,vQ,λn hn=>by simp at hn,by simp,by simp⟩
 .rw[zF ∅,show H.length+1-H.length=1 by omega];rfl
 .rw[zF ∅,show H.length+2-H.length=2 by omega];rfl
theorem BY{ans:List Int}:RmR (H++[.ins 1 (uS (H.length+1) (H.length+2) (ans.map .int) 0),.dic (um st),.lst []]) H.length (H.length+1) (H.length+2) ⟨st,ans,[],0⟩:=by
 refine⟨K8,?_,?_,by omega,by omega,by omega⟩
 .rw[zF ∅,show H.length+1-H.length=1 by omega];rfl
 .rw[zF ∅,show H.length+2-H.length=2 by omega];rfl
end
section
variable{B:MH}{na:Nat}{rs:List Rule}{H:MH}{nr np n0:Nat}{L:List Do}{r:Rm}{F:Fs}
noncomputable abbrev blk(rs:List Rule)(d:D)(n:Nat):MH:=[.ins 0 (yy (kA rs) (n+1) (n+2) .non),.lst [.tup [.bl Â,zo d,.fdc []]],.lst []]
def Wd.add(w:Wd B na rs H nr np n0 L r)(Ox:B.length<=n0){d:D}{T:Tr Int}{c:Nat}(R:Rep rs [(Â,d,[])] [] [] T c)(hc:5*c+210<=cap)(hb:r.sp.length+((L.map Do.c).sum+c)<cap):Wd B na rs ((H++blk rs d H.length).set n0 (.lst ((L.map λd=>.ref d.nd)++[.ref H.length]))) nr np n0 (L++[⟨H.length,H.length+1,H.length+2,[],10,T,c⟩]) r:=by
 have MC:=kd w.l;have l1:(H++blk rs d H.length)[n0]?=À (.lst (L.map λd=>.ref d.nd)):=by rw[zy MC];exact w.l
 have f0:Fm [n0] (H++blk rs d H.length) ((H++blk rs d H.length).set n0 (.lst ((L.map λd=>.ref d.nd)++[.ref H.length]))):=Fm.set (by simp);have f1:Fm [n0] H ((H++blk rs d H.length).set n0 (.lst ((L.map λd=>.ref d.nd)++[.ref H.length]))):=(Fm.app _).trans f0;have d0:DicP na (H++blk rs d H.length) ((H++blk rs d H.length).set n0 (.lst ((L.map λd=>.ref d.nd)++[.ref H.length]))):=uU l1 (λ_=>nofun);have d1:DicP na H ((H++blk rs d H.length).set n0 (.lst ((L.map λd=>.ref d.nd)++[.ref H.length]))):=(uQ _).trans d0
 have S:=(BH (na:=na) rs d H).frame f0 d0 (λn hn z=>by
  erw[zb,zc,zO] at hn z
  omega)
 have get:∀i e,(L++[⟨H.length,H.length+1,H.length+2,[],10,T,c⟩])[i]?=À e->(i=L.length/\e=⟨H.length,H.length+1,H.length+2,[],10,T,c⟩)\/(i<L.length/\L[i]?=À e):=λi e h=>by
  by_cases q:i<L.length
  .rw[zy q] at h
   exact .inr ⟨q,h⟩
  .rw[zF ∅] at h
   have z:i-L.length=0:=by have:=kd h;simp at this;omega
   rw[z] at h;injection h with h;exact .inl ⟨by omega,h.symm⟩
 have RY:∀(i:Nat) (e:Do),L[i]?=À e->Ap e.own [n0]:=λi e he n hn z=>by
  erw[zb (a:=n) (b:=n0),zc,zO] at z;exact(w.rm i e he).2 (z▸hn)
 have RZ:=λn hn=>Lp.lt' w.g n hn
 refine⟨λi e h=>?_,λi k e1 e2 MD h1 h2=>?_,λi e h=>?_,w.g.frame f1 (λn hn z=>?_),?_,w.n,w.an,?_,f1.pre w.p (λn hn=>?_),λi e h=>?_,w.lr⟩
 .rcases get i e h with ⟨rfl,rfl⟩ | ⟨hi,he⟩
  .exact⟨.mk S R,zj _,by simp only;omega⟩
  .obtain⟨⟨S,R⟩,h1,h2⟩:=w.ac i e he
   exact⟨⟨S.frame f1 d1 (RY i e he),R⟩,h1,h2⟩
 .rcases get i e1 h1 with ⟨rfl,rfl⟩ | ⟨hi,he⟩<;>rcases get k e2 h2 with ⟨rfl,rfl⟩ | ⟨hk,Ed⟩
  .exact absurd rfl MD
  .intro n hn z
   have:=(w.ac k e2 Ed).1.lt n z;erw[zb,zc,zO] at hn;omega
  .intro n hn z
   have:=(w.ac i e1 he).1.lt n hn;erw[zb,zc,zO] at z;omega
  .exact w.dj i k e1 e2 MD he Ed
 .rcases get i e h with ⟨rfl,rfl⟩ | ⟨hi,he⟩
  .refine⟨λn hn z=>?_,λz=>?_⟩
   .have:=RZ n z
    erw[zb,zc,zO] at hn;omega
   .erw[zb,zc,zO] at z
    omega
  .exact w.rm i e he
 .erw[zb (a:=n) (b:=n0),zc,zO] at z
  exact w.n (z▸hn)
 .rw[vD]
  exact zH (kd l1)
 .erw[vD,List.sum_append,zx,jk,yU,List.sum_nil]
  omega
 .erw[zb,zc,zO] at hn
  omega
 .rcases get i e h with ⟨rfl,rfl⟩ | ⟨hi,he⟩
  .intro n hn
   have:=w.p.length_le;erw[zb,zc,zO] at hn;omega
  .exact w.lo i e he
where
 Lp.lt' {H:MH} {nr na np:Nat} {r:Rm} (g:RmR H nr na np r):∀n∈[nr,na,np],n<H.length:=λn hn=>by
  erw[zb,zc,zO] at hn;rcases hn with rfl | rfl | rfl
  .exact kd g.r
  .exact kd g.a
  .exact kd g.p
theorem KN(hC:5*C+210<=cap):∀(ds:List D) {H:MH} {L:List Do} (o:Option W),Wd B na rs H nr np n0 L r->B.length<=n0->(∀d∈ds,Rep rs [(Â,d,[])] [] [] (tr d) C)->r.sp.length+((L.map Do.c).sum+ds.length*C)<cap->L.length+ds.length<=1000->
  ∃H' L',vi 1 (zD 0) kL (uI 0 (step (step F)).cQ [ze 1,ze 0]) n0 (ds.map zo) [o,À (.tup (kA rs))] H=À H'/\Wd B na rs H' nr np n0 L' r/\trees L'=trees L++ds.map tr/\L'.length=L.length+ds.length
 | [],H,L,o,w,hn,hR,hb,hl=>⟨H,L,by simp[vi],w,by simp,by simp⟩
 | d::ds,H,L,o,w,hn,hR,hb,hl=>by
  erw[zp,v9,Nat.one_mul] at hb hl;have w1:=w.add hn (hR d kj) hC ∅;obtain⟨H',L',e,w2,Sa,ln⟩:=KN hC ds Á w1 hn (λd hd=>hR d (zM _ hd)) (by erw[vD,List.sum_append,zx,jk,yU,List.sum_nil];omega) (by simp;omega);refine⟨H',L',?_,w2,?_,?_⟩
  .erw[zx]
   unfold vi;have g:zD 0 (zo d) [o,À (.tup (kA rs))] H=À ([À (zo d),À (.tup (kA rs))],H):=rfl;have m:=Yr (F:=F) (rs:=rs) (H:=H) (d:=zo d) (ρ:=[À (zo d),À (.tup (kA rs))]) (m1:=ze 1) (m2:=ze 0) rfl rfl;have l1:(H++blk rs d H.length)[n0]?=À (.lst (L.map λd=>.ref d.nd)):=by rw[zy (kd w.l)];exact w.l
   erw[g,kL];rw[m];erw[l1];rw[z9 (by rw[zP];exact zL (show L.length<1001 by omega) (by decide))];exact e
  .rw[Sa]
   simp[trees]
  .rw[ln]
   erw[zQ,zp,zV];omega
noncomputable def tX(q:List Int×Rm):W:=.tup [.fls (q.1.map .int),vc q.2.st,.fls (q.2.sp.map .int),.int q.2.k]
noncomputable def KH(Ts:List (Tr Int))(r:Rm)(ns:List Int):List Int×Rm:=eB (ns.foldl cw (Ts,r)).1 (ns.foldl cw (Ts,r)).2
def iq{l:List Int}:low m (.fls (l.map .int))=Ã:=oV λw hw=>by obtain⟨v,_,rfl⟩:=jf.mp hw;exact vT
theorem sS{q:List Int×Rm}:low m (tX q)=Ã:=by
 unfold tX low lows;rw[iq];unfold lows;rw[l8];unfold lows;rw[iq];unfold lows;rw[vT];unfold lows;rfl
theorem f_by(F:Fs):(step F).cT=gc (kg 5 5 (dD F)):=rfl
theorem CD(F:Fs):dD F=zk (zI (uI 1 F.eQ [ze 2,ze 3]) (zD 5)) (zk (zI (ue (vk (ze 1)) 1 [0] (zD 0) kL (uI 0 F.cQ [ze 1,ze 0])) (zD 6)) (zk (uk (vk (ze 4)) (zD 7) (Vg F)) (zk (uk (vk (ze 6)) (zD 8) (Xn F)) (zk (zI (j1 (vk (ze 6)) 1 [] (zD 0) kL (ki (mt F) "came_to" (ze 0) [])) (zD 9)) (ka (zh zt [ze 9,ki (mt F) "store" (ze 5) [],ki (mt F) "said" (ze 5) [],kM kB "asks" (ze 5)])))))):=rfl
theorem Zn:∀(Ts:List (Tr Int)) (r:Rm),(eB Ts r).1.length=Ts.length
 | [],r=>rfl
 | T::Ts,r=>by erw[eB,zp];rw[Zn Ts]
theorem YO(p:List (Tr Int)×Rm)(n:Int):(cw p n).1.length=p.1.length:=by
 unfold cw;split
 .split
  .simp
  .rfl
 .rfl
theorem rG:∀(ns:List Int) (p:List (Tr Int)×Rm),(ns.foldl cw p).1.length=p.1.length
 | [],p=>rfl
 | n::ns,p=>by rw[jR,rG ns,YO]
theorem W4(hr:RsOk rs){ds:List D}{ans ns:List Int}(hC:5*C+210<=cap)(hR:∀d∈ds,Rep rs [(Â,d,[])] [] [] (tr d) C)(hb:ds.length*C<cap)(hl:ds.length<=1000)(ha:ans.length<=cap)(H:MH) :
  (step (G6 F)).cT [.tup (kA rs),.fls (ds.map zo),vc st,.fls (ans.map .int),.fls (ns.map .int)] H=À (tX (KH (ds.map tr) ⟨st,ans,[],0⟩ ns),H):=by
 have c4:(4:Nat)<=cap:=by decide
 have g0:=BY (H:=H) (st:=st) (ans:=ans);have mr:=BS (F:=step (step (step (step F)))) (H:=H) (st:=st) (ans:=ans) (ρ:=[À (.tup (kA rs)),À (.fls (ds.map zo)),À (vc st),À (.fls (ans.map .int)),À (.fls (ns.map .int)),Á,Á,Á,Á,Á]) (m1:=ze 2) (m2:=ze 3) rfl rfl;have p0:H<+:(H++[.ins 1 (uS (H.length+1) (H.length+2) (ans.map .int) 0),.dic (um st),.lst []]:MH):=jn _ _;have LH:(H++[.ins 1 (uS (H.length+1) (H.length+2) (ans.map .int) 0),.dic (um st),.lst []]:MH).length=H.length+3:=by rw[zQ];rfl
 generalize (H++[.ins 1 (uS (H.length+1) (H.length+2) (ans.map .int) 0),.dic (um st),.lst []]:MH)=H1 at g0 mr p0 LH;have w0:Wd H (H.length+1) rs (H1++[.lst []]) H.length (H.length+2) H1.length [] ⟨st,ans,[],0⟩:=
  ⟨λj d h=>by simp at h,λi j d e _ h=>by simp at h,λj d h=>by simp at h,g0.frame (B:=[]) (Fm.app _) (λn _ z=>by simp at z),at0 _ _,λz=>by erw[zb,zc,zO] at z;omega,ha,by simp;decide,p0.trans (jn _ _),λj d h=>by simp at h,λn hn=>by erw[zb,zc,zO] at hn;omega⟩
 obtain⟨H2,L,e2,w2,t2,l2⟩:=KN (F:=step (step (step (step F)))) hC ds Á w0 ∅ hR (by simpa using hb) (by simpa using hl);obtain⟨H3,L3,r3,o7,e3,w3,t3⟩:=i8 (F:=F) (a:=.tup (kA rs)) (b:=.fls (ds.map zo)) (c:=vc st) (d:=.fls (ans.map .int)) (e:=.fls (ns.map .int)) hr ns Á w2;have OX:trees L=ds.map tr:=by rw[t2];rfl
 have Ob:L3.length=ds.length:=by
  have:(trees L3).length=ds.length:=by
   rw[show trees L3=(ns.foldl cw (trees L,⟨st,ans,[],0⟩)).1 by rw[<-t3],rG,OX,zP]
  simpa[trees] using this
 obtain⟨H4,L4,o8,e4,w4,t4,z4⟩:=tU (F:=F) (a:=.tup (kA rs)) (b:=.fls (ds.map zo)) (c:=vc st) (d:=.fls (ans.map .int)) (e:=.fls (ns.map .int)) (o7:=o7) (o9:=Á) hr L3 (L1:=[]) Á (L3.length+1) (by simpa using w3) ∅ (λd hd=>by simp at hd);rw[kJ] at w4;erw[kJ] at z4;have q:eB (trees L3) r3=KH (ds.map tr) ⟨st,ans,[],0⟩ ns:=by
  unfold KH;rw[<-OX,<-t3]
 rw[q] at w4 t4;have SZ:L4.length=ds.length:=by
  have:(trees L4).length=ds.length:=by rw[t4,zP,<-q,Zn];simpa[trees] using Ob
  simpa[trees] using this
 have ca:=Wa (F:=step (step (step (step (step F))))) w4 t4 z4 (ρ:=ρB (.tup (kA rs)) (.fls (ds.map zo)) (vc st) (.fls (ans.map .int)) (.fls (ns.map .int)) H.length H1.length o7 o8 Á) rfl ∅;have ms:=Br (F:=step (step (step (step (step F))))) (mo:=ze 5) (ρ:=ρB (.tup (kA rs)) (.fls (ds.map zo)) (vc st) (.fls (ans.map .int)) (.fls (ns.map .int)) H.length H1.length o7 o8 (À (.fls ((KH (ds.map tr) ⟨st,ans,[],0⟩ ns).1.map .int)))) w4.g rfl;have md:=F8 (F:=step (step (step (step (step F))))) (mo:=ze 5) (ρ:=ρB (.tup (kA rs)) (.fls (ds.map zo)) (vc st) (.fls (ans.map .int)) (.fls (ns.map .int)) H.length H1.length o7 o8 (À (.fls ((KH (ds.map tr) ⟨st,ans,[],0⟩ ns).1.map .int)))) w4.g rfl;have mk:=w4.g.fK;have g6:step (step (step (step (step (step F)))))=G6 F:=rfl;rw[g6] at mr e2 ca ms md;rw[f_by];refine xS (yv (ρ:=[À (.tup (kA rs)),À (.fls (ds.map zo)),À (vc st),À (.fls (ans.map .int)),À (.fls (ns.map .int)),Á,Á,Á,Á,Á]) rfl rfl ?_) sS w4.p (.inl nofun);rw[CD];rw[zw (ρ':=[À (.tup (kA rs)),À (.fls (ds.map zo)),À (vc st),À (.fls (ans.map .int)),À (.fls (ns.map .int)),À (.ref H.length),Á,Á,Á,Á]) (h':=H1) (gX mr rfl)];rw[zw (ρ':=ρB (.tup (kA rs)) (.fls (ds.map zo)) (vc st) (.fls (ans.map .int)) (.fls (ns.map .int)) H.length H1.length Á Á Á) (h':=H2) (gX (mC (h1:=H1) (l:=ds.map zo) rfl rfl e2) rfl)]
 rw[zw (ρ':=ρB (.tup (kA rs)) (.fls (ds.map zo)) (vc st) (.fls (ans.map .int)) (.fls (ns.map .int)) H.length H1.length o7 Á Á) (h':=H3) (by
  unfold uk;rw[show vk (ze 4) (ρB (.tup (kA rs)) (.fls (ds.map zo)) (vc st) (.fls (ans.map .int)) (.fls (ns.map .int)) H.length H1.length Á Á Á) H2=À (.items (ns.map .int),H2) from rfl]
  exact e3)]
 have OY:=w3.l
 rw[zw (ρ':=ρB (.tup (kA rs)) (.fls (ds.map zo)) (vc st) (.fls (ans.map .int)) (.fls (ns.map .int)) H.length H1.length o7 o8 Á) (h':=H4) (by
  unfold uk;rw[show vk (ze 6) (ρB (.tup (kA rs)) (.fls (ds.map zo)) (vc st) (.fls (ans.map .int)) (.fls (ns.map .int)) H.length H1.length o7 Á Á) H3=À (.live H1.length,H3) by erw[vk,bnd,ze,zA,zm,srcOf,OY]];have sl:gS (.live H1.length) H3=L3.length:=by erw[gS,OY,zP]
  erw[sl]
  exact e4)]
 rw[zw (ρ':=ρB (.tup (kA rs)) (.fls (ds.map zo)) (vc st) (.fls (ans.map .int)) (.fls (ns.map .int)) H.length H1.length o7 o8 (À (.fls ((KH (ds.map tr) ⟨st,ans,[],0⟩ ns).1.map .int)))) (h':=H4) (gX ca rfl)];unfold ka zh;erw[ko,bnd,ze,zA,zm];rw[ms];simp only;rw[md];erw[kM,bnd,ze,zA,zm,mk,zt,zp,zV,c4,kE];rfl
end
section
variable{rs:List Rule}{H:MH}{F:Fs}{tr:D->Tr Int}{C:Nat}{st:Ç->Int}{ans:List Int}
theorem f_all(F:Fs):(step F).cH=gc (kg 4 0 (cX F)):=rfl
theorem aC(F:Fs):(step F).aC=gc (kg 4 1 (fG F)):=rfl
def QW(hr:RsOk rs){ds:List D}(hC:5*C+210<=cap)(hR:∀d∈ds,Rep rs [(Â,d,[])] [] [] (tr d) C)(hb:ds.length*C<cap)(hl:ds.length<=1000)(ha:ans.length<=cap)(H:MH) :
  (step (step (G6 F))).cH [.tup (kA rs),.fls (ds.map zo),vc st,.fls (ans.map .int)] H=À (tX (eB (ds.map tr) ⟨st,ans,[],0⟩),H):=by
 have e:=W4 (F:=F) (st:=st) (ns:=[]) hr hC hR hb hl ha H;have c0:(0:Nat)<=cap:=by decide
 rw[f_all];generalize step (G6 F)=G at e ⊢;refine aT (yv (ρ:=[À (.tup (kA rs)),À (.fls (ds.map zo)),À (vc st),À (.fls (ans.map .int))]) rfl rfl ?_) sS;unfold cX ka zh;erw[ko,bnd,ze,zA,zm,vS,zV,c0,kE];have e':G.cT [.tup (kA rs),.fls (ds.map zo),vc st,.fls (ans.map .int),.fls []] H=À (tX (eB (ds.map tr) ⟨st,ans,[],0⟩),H):=e;rw[e']
noncomputable def lq(v:Int)(r:Rm):W:=.tup [.int v,vc r.st,.fls (r.sp.map .int),.int r.k]
theorem WW:low m (lq v r)=Ã:=by
 unfold lq low lows;rw[vT];unfold lows;rw[l8];unfold lows;rw[iq];unfold lows;rw[vT];unfold lows;rfl
def G5(hr:RsOk rs){T:Tr Int}(hC:5*C+210<=cap)(hR:Rep rs [(Â,d,[])] [] [] T C)(hb:C<cap)(ha:ans.length<=cap)(H:MH) :
  (step (step (step (G6 F)))).aC [.tup (kA rs),zo d,vc st,.fls (ans.map .int)] H=À (lq (kS T ⟨st,ans,[],0⟩).1 (kS T ⟨st,ans,[],0⟩).2.1,H):=by
 have e:=QW (F:=F) (st:=st) (tr:=λ_=>T) (ds:=[d]) hr hC (λx hx=>by simp at hx;subst hx;exact hR) (by simpa using hb) (by simp) ha H;have c1:(1:Nat)<=cap:=by decide
 have c4:(4:Nat)<=cap:=by decide
 rw[aC];generalize step (step (G6 F))=G at e ⊢;refine aT (yv (ρ:=[À (.tup (kA rs)),À (zo d),À (vc st),À (.fls (ans.map .int)),Á]) rfl rfl ?_) WW;have e':G.cH [.tup (kA rs),.fls [zo d],vc st,.fls (ans.map .int)] H=À (.tup [.fls [.int (kS T ⟨st,ans,[],0⟩).1],vc (kS T ⟨st,ans,[],0⟩).2.1.st,.fls ((kS T ⟨st,ans,[],0⟩).2.1.sp.map .int),.int (kS T ⟨st,ans,[],0⟩).2.1.k],H):=e;unfold lq;generalize (kS T ⟨st,ans,[],0⟩).1=v at e' ⊢;generalize (kS T ⟨st,ans,[],0⟩).2.1=q at e' ⊢;simp![fG,vS,c1,e',ux,xo,lf,Zk,u4,zt,c4]
end
theorem pG{α β:Type}(f:α->Tr β):∀(T:Tr α) (r:Rm),kS (T.bind f) r=((kS (f (kS T r).1) (kS T r).2.1).1,(kS (f (kS T r).1) (kS T r).2.1).2.1,(kS T r).2.2++(kS (f (kS T r).1) (kS T r).2.1).2.2)
 | .ret a,r=>by simp[Tr.bind,kS]
 | .tch t k,r=>by
  erw[Tr.bind,kS];rw[pG f (k (qa t r).1) (qa t r).2];rfl
noncomputable def shf(pre:List Int)(T:Tc):Tc:=T.bind λp=>.ret (p.1,pre++p.2)
structure ShR(pre:List Int)(N O H:List Ç)(ρ1 ρ2:Sv):Prop where
 nm:∀v∈N,∃i,ρ1 v=.int i/\ρ2 v=.int i
 ow:∀v∈O,∃c,ρ1 v=.cell c/\ρ2 v=.cell (pre.length+c)
 hd:∀v∈H,∃f g,ρ1 v=.fn f/\ρ2 v=.fn g/\∀cs,g (pre++cs)=shf pre (f cs)
section
variable{pre:List Int}{rs:List Rule}{R:Rn}
def ShR.lett{N O H:List Ç}{ρ1 ρ2:Sv}{x:Ç}{i:Int}(e:ShR pre N O H ρ1 ρ2)(ho:x∉O)(hh:x∉H):ShR pre (N++[x]) O H (us ρ1 x (.int i)) (us ρ2 x (.int i)):=by
 unfold us;refine⟨λv hv=>?_,λv hv=>?_,λv hv=>?_⟩
 .by_cases q:x=v
  .exact⟨i,z9 q,z9 q⟩
  .have:v∈N:=by
    rcases zU.mp hv with z | z
    .exact z
    .simp at z;exact absurd z.symm q
   obtain⟨j,a,b⟩:=e.nm v this;exact⟨j,by rw[kI q,a],by rw[kI q,b]⟩
 .have q:x≠v:=λz=>ho (z▸hv)
  obtain⟨c,a,b⟩:=e.ow v hv;exact⟨c,by rw[kI q,a],by rw[kI q,b]⟩
 .have q:x≠v:=λz=>hh (z▸hv)
  obtain⟨f,g,a,b,z⟩:=e.hd v hv;exact⟨f,g,by rw[kI q,a],by rw[kI q,b],z⟩
def ShR.own{N O H:List Ç}{ρ1 ρ2:Sv}{x:Ç}{c:Nat}(e:ShR pre N O H ρ1 ρ2)(ho:x∉N)(hh:x∉H):ShR pre N (O++[x]) H (us ρ1 x (.cell c)) (us ρ2 x (.cell (pre.length+c))):=by
 unfold us;refine⟨λv hv=>?_,λv hv=>?_,λv hv=>?_⟩
 .have q:x≠v:=λz=>ho (z▸hv)
  obtain⟨c,a,b⟩:=e.nm v hv;exact⟨c,by rw[kI q,a],by rw[kI q,b]⟩
 .by_cases q:x=v
  .exact⟨c,z9 q,z9 q⟩
  .have:v∈O:=by
    rcases zU.mp hv with z | z
    .exact z
    .simp at z;exact absurd z.symm q
   obtain⟨j,a,b⟩:=e.ow v this;exact⟨j,by rw[kI q,a],by rw[kI q,b]⟩
 .have q:x≠v:=λz=>hh (z▸hv)
  obtain⟨f,g,a,b,z⟩:=e.hd v hv;exact⟨f,g,by rw[kI q,a],by rw[kI q,b],z⟩
theorem Ku:∀(l:List (Ç×Int)) {ρ1 ρ2:Sv},ShR pre N [] [] ρ1 ρ2->ShR pre (N++l.map (·.1)) [] [] (l.foldl (λe p=>us e p.1 (.int p.2)) ρ1) (l.foldl (λe p=>us e p.1 (.int p.2)) ρ2)
 | [],ρ1,ρ2,e=>by simpa using e
 | (x,i)::r,ρ1,ρ2,e=>by
  have:=Ku r (e.lett (x:=x) (i:=i) (by simp) (by simp));rw[zY] at this;exact this
theorem VH:∀(l:List (Ç×(List Int->Tc)×(List Int->Tc))) (H:List Ç) {ρ1 ρ2:Sv},(∀v∈N,v∉l.map (·.1))->(∀p∈l,∀cs,p.2.2 (pre++cs)=shf pre (p.2.1 cs))->ShR pre N [] H ρ1 ρ2->
  ShR pre N [] (H++l.map (·.1)) (l.foldl (λe p=>us e p.1 (.fn p.2.1)) ρ1) (l.foldl (λe p=>us e p.1 (.fn p.2.2)) ρ2)
 | [],H,ρ1,ρ2,_,_,e=>by simpa using e
 | (x,f,g)::r,H,ρ1,ρ2,hN,hB,e=>by
  have hx:∀v∈N,v≠x:=λv hv z=>hN v hv (by simp[z])
  have e2:ShR pre N [] (H++[x]) (us ρ1 x (.fn f)) (us ρ2 x (.fn g)):=by
   unfold us;refine⟨λv hv=>?_,λv hv=>by simp at hv,λv hv=>?_⟩
   .obtain⟨i,a,b⟩:=e.nm v hv
    have q:¬x=v:=λz=>hx v hv z.symm
    exact⟨i,by rw[kI q,a],by rw[kI q,b]⟩
   .by_cases q:x=v
    .exact⟨f,g,z9 q,z9 q,hB (x,f,g) kj⟩
    .have:v∈H:=by
      rcases zU.mp hv with z | z
      .exact z
      .simp at z;exact absurd z.symm q
     obtain⟨f',g',a,b,z⟩:=e.hd v this;exact⟨f',g',by rw[kI q,a],by rw[kI q,b],z⟩
  have:=VH r (H++[x]) (λv hv z=>hN v hv (by erw[zx];exact zM _ z)) (λp hp=>hB p (zM _ hp)) e2;rw[zY] at this;exact this
theorem Kk{σ:Type}(f:σ->Ç×(List Int->Tc)->σ):∀(hs:List Ç) (fs gs:List (List Int->Tc)) (s:σ),fs.length=gs.length->(hs.zip fs).foldl f s=(hs.zip (fs.zip gs)).foldl (λe p=>f e (p.1,p.2.1)) s
 | [],_,_,_,_=>rfl
 | _::_,[],[],_,_=>rfl
 | x::hs,b::bs,c::cs,s,h=>by erw[jm,jR];exact Kk f hs bs cs _ (by simpa using h)
theorem Kq{σ:Type}(f:σ->Ç×(List Int->Tc)->σ):∀(hs:List Ç) (fs gs:List (List Int->Tc)) (s:σ),fs.length=gs.length->(hs.zip gs).foldl f s=(hs.zip (fs.zip gs)).foldl (λe p=>f e (p.1,p.2.2)) s
 | [],_,_,_,_=>rfl
 | _::_,[],[],_,_=>rfl
 | x::hs,b::bs,c::cs,s,h=>by erw[jm,jR];exact Kq f hs bs cs _ (by simpa using h)
def Bq{r:Rule}{fs gs:List (List Int->Tc)}(hf:fs.length=r.hs.length)(hg:gs.length=r.hs.length)(hd:∀v∈r.ns,v∉r.hs)(hB:∀p∈fs.zip gs,∀cs,p.2 (pre++cs)=shf pre (p.1 cs)):ShR pre r.ns [] r.hs (cρ r xs fs) (cρ r xs gs):=by
 unfold cρ;rw[Kk (λe p=>us e p.1 (.fn p.2)) r.hs fs gs _ ∅,Kq (λe p=>us e p.1 (.fn p.2)) r.hs fs gs _ ∅];have e0:ShR pre r.ns [] [] ρ0 ρ0:=⟨λv hv=>⟨0,rfl,rfl⟩,λv hv=>by simp at hv,λv hv=>by simp at hv⟩;have A3:=Ku (r.ns.zip xs) e0;have e1:ShR pre r.ns [] [] _ _:=⟨λv hv=>A3.nm v (jx _ hv),A3.ow,A3.hd⟩;have zl:(r.hs.zip (fs.zip gs)).map (·.1)=r.hs:=mx (by rw[qi];omega);have e2:=VH (r.hs.zip (fs.zip gs)) [] (by rw[zl];exact hd) (λp hp cs=>hB p.2 (qW (a:=p.1) (b:=p.2) hp).2 cs) e1;rw[zl,kJ] at e2;exact e2
noncomputable def XC(rs:List Rule)(pre:List Int)(R:Rn)(k:Nat):Prop:=∀i,i<k->∀r,rs[i]?=À r->∀(xs:List Int) (fs gs:List (List Int->Tc)) (cs:List Int),ShR pre r.ns [] r.hs (cρ r xs fs) (cρ r xs gs)->R i xs gs (pre++cs)=shf pre (R i xs fs cs)
theorem yn{β:Type}(T:Tc)(f:Int×List Int->Tr β):(shf pre T).bind f=T.bind λp=>f (p.1,pre++p.2):=by
 unfold shf;rw[Tr.bind_assoc];rfl
def y9{α:Type}(T:Tr α)(f:α->Tc):shf pre (T.bind f)=T.bind λp=>shf pre (f p):=by
 unfold shf;rw[Tr.bind_assoc]
theorem XI{f:List Int->Tc}(h:∀cs,g (pre++cs)=shf pre (f cs)):∀(n:Nat) (cs:List Int),rp g n (pre++cs)=shf pre (rp f n cs)
 | 0,cs=>rfl
 | n+1,cs=>by
  erw[rp];rw[h,yn,y9];congr 1
  funext p
  exact XI h n p.2
def BW(cs:List Int)(c:Nat)(x:Int):(pre++cs).set (pre.length+c) x=pre++cs.set c x:=by
 rw[jK _ _ ∅,yS]
def UO(cs:List Int)(c:Nat):(pre++cs).getD (pre.length+c) 0=cs.getD c 0:=by
 rw[j8,j8,zF ∅,yS]
def Ug(cs:List Int):(pre++cs).length=pre.length+cs.length:=zQ
theorem m6:∀(l:List D) (ρ:Sv),(ua R l ρ).length=l.length
 | [],_=>by simp[ua]
 | d::l,ρ=>by erw[ua,zp];rw[m6 l ρ]
mutual
theorem ve(HB:XC rs pre R k)(lx:RsOk rs):∀(d:D) {N O H:List Ç} {ρ1 ρ2:Sv} (cs:List Int),Wf rs k d N O H->ShR pre N O H ρ1 ρ2->den R d ρ2 (pre++cs)=shf pre (den R d ρ1 cs)
 | .number i,N,O,H,ρ1,ρ2,cs,w,E=>by erw[den,shf,Tr.bind]
 | .name v,N,O,H,ρ1,ρ2,cs,w,E=>by
  erw[Wf] at w;obtain⟨i,a,b⟩:=E.nm v w;erw[den,shf,Tr.bind,a,b]
 | .read v,N,O,H,ρ1,ρ2,cs,w,E=>by
  erw[Wf] at w;by_cases q:v∈SH
  .erw[den,q,kE,shf,Tr.bind]
  .obtain⟨c,a,b⟩:=E.ow v (w.resolve_left q)
   erw[den,q,je,shf,Tr.bind,a,b,SV.c,UO]
 | .doo v,N,O,H,ρ1,ρ2,cs,w,E=>by
  erw[Wf] at w;obtain⟨f,g,a,b,z⟩:=E.hd v w;erw[den,a,b,SV.f,z]
 | .ask,N,O,H,ρ1,ρ2,cs,w,E=>by erw[den,shf,Tr.bind]
 | .write v a,N,O,H,ρ1,ρ2,cs,w,E=>by
  erw[Wf] at w;erw[den];rw[ve HB lx a cs w.2 E,yn,y9];congr 1
  funext p
  by_cases q:v∈SH
  .erw[q,kE,shf,Tr.bind]
  .obtain⟨c,a,b⟩:=E.ow v (w.1.resolve_left q)
   erw[q,je,shf,Tr.bind,a,b,SV.c,BW]
 | .say a,N,O,H,ρ1,ρ2,cs,w,E=>by
  erw[Wf] at w;erw[den];rw[ve HB lx a cs w E,yn,y9];rfl
 | .lett v a b,N,O,H,ρ1,ρ2,cs,w,E=>by
  erw[Wf] at w;erw[den];rw[ve HB lx a cs w.2.1 E,yn,y9];congr 1
  funext p
  exact ve HB lx b p.2 w.2.2 (E.lett w.1.1 w.1.2.1)
 | .own v a b,N,O,H,ρ1,ρ2,cs,w,E=>by
  erw[Wf] at w;erw[den];rw[ve HB lx a cs w.2.1 E,yn,y9];congr 1
  funext p
  rw[Ug,zY];exact ve HB lx b (p.2++[p.1]) w.2.2 (E.own w.1.1 w.1.2.1)
 | .add a b,N,O,H,ρ1,ρ2,cs,w,E | .less a b,N,O,H,ρ1,ρ2,cs,w,E=>by
  erw[Wf] at w;erw[den];rw[ve HB lx a cs w.1 E,yn,y9];congr 1
  funext p
  rw[ve HB lx b p.2 w.2 E,yn,y9];rfl
 | .thenn a b,N,O,H,ρ1,ρ2,cs,w,E=>by
  erw[Wf] at w;erw[den];rw[ve HB lx a cs w.1 E,yn,y9];congr 1
  funext p
  exact ve HB lx b p.2 w.2 E
 | .loop a b,N,O,H,ρ1,ρ2,cs,w,E=>by
  erw[Wf] at w;erw[den];rw[ve HB lx a cs w.1 E,yn,y9];congr 1
  funext p
  exact XI (λcs=>ve HB lx b cs w.2 E) _ _
 | .iff a b c,N,O,H,ρ1,ρ2,cs,w,E=>by
  erw[Wf] at w;erw[den];rw[ve HB lx a cs w.1 E,yn,y9];congr 1
  funext p
  by_cases q:p.1=0
  .erw[q,kE];exact ve HB lx c p.2 w.2.2 E
  .erw[q,je];exact ve HB lx b p.2 w.2.1 E
 | .call i as bs,N,O,H,ρ1,ρ2,cs,w,E=>by
  erw[Wf] at w;obtain⟨hi,⟨r,hr,la,lb⟩,wa,wb⟩:=w;erw[den];rw[Kb HB lx as cs wa E,Tr.bind_assoc,y9];congr 1
  funext p
  exact HB i hi r hr p.1 (ua R bs ρ1) (ua R bs ρ2) p.2 (Bq (by rw[m6,lb]) (by rw[m6,lb]) (lx.d i r hr) (KR HB lx bs wb E))
theorem Kb(HB:XC rs pre R k)(lx:RsOk rs):∀(l:List D) {N O H:List Ç} {ρ1 ρ2:Sv} (cs:List Int),xl rs k l N O H->ShR pre N O H ρ1 ρ2->ef R l ρ2 (pre++cs)=(ef R l ρ1 cs).bind λp=>.ret (p.1,pre++p.2)
 | [],N,O,H,ρ1,ρ2,cs,w,E=>by erw[ef,Tr.bind]
 | d::l,N,O,H,ρ1,ρ2,cs,w,E=>by
  erw[xl] at w;erw[ef];rw[ve HB lx d cs w.1 E,yn,Tr.bind_assoc];congr 1
  funext p
  rw[Kb HB lx l p.2 w.2 E,Tr.bind_assoc,Tr.bind_assoc];rfl
theorem KR(HB:XC rs pre R k)(lx:RsOk rs):∀(l:List D) {N O H:List Ç} {ρ1 ρ2:Sv},xl rs k l N O H->ShR pre N O H ρ1 ρ2->∀p∈(ua R l ρ1).zip (ua R l ρ2),∀cs,p.2 (pre++cs)=shf pre (p.1 cs)
 | [],N,O,H,ρ1,ρ2,w,E=>λp hp=>by simp[ua] at hp
 | d::l,N,O,H,ρ1,ρ2,w,E=>λp hp cs=>by
  erw[xl] at w;erw[ua,jm,zb] at hp;rcases hp with rfl | hp
  .exact ve HB lx d cs w.1 E
  .exact KR HB lx l w.2 E p hp cs
end
theorem tm(lx:RsOk rs):∀(k:Nat) {K:Nat},k<=K->XC rs pre (dk rs K) k
 | 0,K,_=>λi hi=>by omega
 | k+1,K,hK=>by
  intro i hi r hr xs fs gs cs E;rw[l6 hr (K:=K) ∅];exact ve (tm lx i (K:=i) (zj _)) lx r.body cs (lx.w i r hr) E
termination_by k=>k
end
noncomputable abbrev Rr(rs:List Rule):Rn:=dk rs rs.length
noncomputable def treeOf(rs:List Rule)(d:D):Tr Int:=(den (Rr rs) d ρ0 []).bind λp=>.ret p.1
noncomputable abbrev cst(rs:List Rule)(d:D):Nat:=cost (ya rs rs.length) 0 d
noncomputable abbrev Cd(rs:List Rule)(d:D):Prop:=Wf rs rs.length d [] [] []
section
variable{rs:List Rule}
def Y2(hr:RsOk rs)(w:Cd rs d):Rep rs [(Â,d,[])] [] [] (treeOf rs d) (cst rs d):=
 uD (bodies hr rs.length (zj _)) hr d w (env:=[]) (ρ:=ρ0) (h:=0) (m:=0) (cs:=[]) ⟨λv hv=>by simp at hv,λv hv=>by simp at hv,λv hv=>by simp at hv⟩ (zj _) [] [] (λp=>.ret p.1) 0 λv cs' _=>.done
theorem uh(hr:RsOk rs){d:D}(w:Cd rs d){β:Type}(cs:List Int)(f:Int->Tr β):((den (Rr rs) d ρ0 cs).bind λp=>f p.1)=(treeOf rs d).bind f:=by
 have:=ve (tm (pre:=cs) hr rs.length (zj _)) hr d (ρ1:=ρ0) (ρ2:=ρ0) [] w ⟨λv hv=>by simp at hv,λv hv=>by simp at hv,λv hv=>by simp at hv⟩;rw[kh] at this;unfold treeOf;rw[this,yn,Tr.bind_assoc];rfl
def VP(hr:RsOk rs)(wa:Cd rs a)(wb:Cd rs b):treeOf rs (.thenn a b)=(treeOf rs a).bind λ_=>treeOf rs b:=by
 rw[<-uh hr wa []];conv=>lhs;unfold treeOf
 erw[den,Tr.bind_assoc];congr 1
 funext p
 rw[uh hr wb p.2 .ret,Tr.bind_ret]
def Hj(hr:RsOk rs)(wa:Cd rs a)(wb:Cd rs b):treeOf rs (.add a b)=(treeOf rs a).bind λx=>(treeOf rs b).bind λy=>.ret ((x+y)%1009):=by
 rw[<-uh hr wa []];conv=>lhs;unfold treeOf
 erw[den,Tr.bind_assoc];congr 1
 funext p
 exact uh hr wb p.2 λy=>.ret ((p.1+y)%1009)
noncomputable def asks:List (Tch×Int)->Nat
 | []=>0
 | (.ask,_)::l=>asks l+1
 | _::l=>asks l
end
mutual
noncomputable def ku:D->Nat
 | .write _ a=>ku a+1
 | .say a=>ku a+1
 | .lett _ a b=>max (ku a) (ku b)+1
 | .own _ a b=>max (ku a) (ku b)+1
 | .add a b=>max (ku a) (ku b)+1
 | .less a b=>max (ku a) (ku b)+1
 | .thenn a b=>max (ku a) (ku b)+1
 | .loop a b=>max (ku a) (ku b)+1
 | .iff a b c=>max (ku a) (max (ku b) (ku c))+1
 | .call _ as bs=>max (uL as) (uL bs)+1
 | _=>0
noncomputable def uL:List D->Nat
 | []=>0
 | d::r=>max (ku d) (uL r)
end
noncomputable abbrev wS(l:List Ç):Prop:=∀v∈l,dt 1 (.str v)=Ã
def KJ(h:wS l)(hv:dt 1 (.str v)=Ã):wS (l++[v]):=by
 intro u hu;rcases zU.mp hu with z | z
 .exact h u z
 .simp at z;subst z;exact hv
def uH{r:List W}(hx:dt 1 (.str x)=Ã)(hl:r.length<=3)(h:∀w∈r,dt (n+1) w=Ã):dt (n+2) (th x r)=Ã:=ff (by simp;omega) λw hw=>by
 rcases zb.mp hw with rfl | z
 .exact jS hx ∅
 .exact h w z
def Ky(h:dt 1 (.str v)=Ã):dt (n+1) (.str v)=Ã:=jS h ∅
section
variable{rs:List Rule}{k:Nat}
def XO(h:v∈SH\/v∈O)(hO:wS O):dt 1 (.str v)=Ã:=h.elim Ja (hO v)
def DM(hx:dt 1 (.str x)=Ã)(ha:dt (2+2*m) u=Ã)(hb:dt (2+2*m) v=Ã):dt (2+2*(m+1)) (th x [u,v])=Ã:=by
 rw[show 2+2*(m+1)=(2+2*m)+2 by omega];refine uH hx (by simp) λw hw=>?_
 erw[zb,zc,zO] at hw;rcases hw with rfl | rfl
 .exact jS ha ∅
 .exact jS hb ∅
mutual
theorem y6(hl:∀(i:Nat) (r:Rule),rs[i]?=À r->r.ns.length<=3/\r.hs.length<=3):∀(d:D) {N O H:List Ç} {n:Nat},Wf rs k d N O H->wS N->wS O->wS H->ku d<=n->dt (2+2*n) (zo d)=Ã
 | .number i,N,O,H,n,w,hN,hO,hH,hd=>by
  rw[vf];exact uH ⋯ (by simp) (by simp[dt])
 | .name v,N,O,H,n,w,hN,hO,hH,hd=>by
  erw[Wf] at w;rw[vf];exact uH ⋯ (by simp) (by simpa using Ky (hN v w))
 | .read v,N,O,H,n,w,hN,hO,hH,hd=>by
  erw[Wf] at w;rw[vf];exact uH ⋯ (by simp) (by simpa using Ky (XO w hO))
 | .doo v,N,O,H,n,w,hN,hO,hH,hd=>by
  erw[Wf] at w;rw[vf];exact uH ⋯ (by simp) (by simpa using Ky (hH v w))
 | .ask,N,O,H,n,w,hN,hO,hH,hd=>by
  rw[vf];exact uH ⋯ (by simp) (by simp)
 | .write v a,N,O,H,n,w,hN,hO,hH,hd=>by
  erw[Wf] at w;erw[ku] at hd;obtain⟨m,rfl⟩:∃m,n=m+1:=⟨n-1,by omega⟩;have ha:=y6 hl a w.2 hN hO hH (show ku a<=m by omega);rw[show 2+2*(m+1)=(2+2*m)+2 by omega];refine uH ⋯ (by simp) λu hu=>?_
  erw[zb,zc,zO] at hu;rcases hu with rfl | rfl
  .exact Ky (XO w.1 hO)
  .exact jS ha ∅
 | .say a,N,O,H,n,w,hN,hO,hH,hd=>by
  erw[Wf] at w;erw[ku] at hd;obtain⟨m,rfl⟩:∃m,n=m+1:=⟨n-1,by omega⟩;have ha:=y6 hl a w hN hO hH (show ku a<=m by omega);rw[show 2+2*(m+1)=(2+2*m)+2 by omega];refine uH ⋯ (by simp) λu hu=>?_
  erw[zb,zc,zO] at hu;subst hu;exact jS ha ∅
 | .lett v a b,N,O,H,n,w,hN,hO,hH,hd=>by
  erw[Wf] at w;erw[ku] at hd;obtain⟨m,rfl⟩:∃m,n=m+1:=⟨n-1,by omega⟩;have ha:=y6 hl a w.2.1 hN hO hH (show ku a<=m by omega);have hb:=y6 hl b w.2.2 (KJ hN w.1.2.2.1) hO hH (show ku b<=m by omega);rw[show 2+2*(m+1)=(2+2*m)+2 by omega];refine uH ⋯ (by simp) λu hu=>?_
  erw[zb,zc,zO] at hu;rcases hu with rfl | rfl | rfl
  .exact Ky w.1.2.2.1
  .exact jS ha ∅
  .exact jS hb ∅
 | .own v a b,N,O,H,n,w,hN,hO,hH,hd=>by
  erw[Wf] at w;erw[ku] at hd;obtain⟨m,rfl⟩:∃m,n=m+1:=⟨n-1,by omega⟩;have ha:=y6 hl a w.2.1 hN hO hH (show ku a<=m by omega);have hb:=y6 hl b w.2.2 hN (KJ hO w.1.2.2) hH (show ku b<=m by omega);rw[show 2+2*(m+1)=(2+2*m)+2 by omega];refine uH ⋯ (by simp) λu hu=>?_
  erw[zb,zc,zO] at hu;rcases hu with rfl | rfl | rfl
  .exact Ky w.1.2.2
  .exact jS ha ∅
  .exact jS hb ∅
 | .add a b,N,O,H,n,w,hN,hO,hH,hd | .less a b,N,O,H,n,w,hN,hO,hH,hd | .thenn a b,N,O,H,n,w,hN,hO,hH,hd | .loop a b,N,O,H,n,w,hN,hO,hH,hd=>by
  erw[Wf] at w;erw[ku] at hd;obtain⟨m,rfl⟩:∃m,n=m+1:=⟨n-1,by omega⟩;exact DM ⋯ (y6 hl a w.1 hN hO hH (show ku a<=m by omega)) (y6 hl b w.2 hN hO hH (show ku b<=m by omega))
 | .iff a b c,N,O,H,n,w,hN,hO,hH,hd=>by
  erw[Wf] at w;erw[ku] at hd;obtain⟨m,rfl⟩:∃m,n=m+1:=⟨n-1,by omega⟩;have ha:=y6 hl a w.1 hN hO hH (show ku a<=m by omega);have hb:=y6 hl b w.2.1 hN hO hH (show ku b<=m by omega);have hc:=y6 hl c w.2.2 hN hO hH (show ku c<=m by omega);rw[show 2+2*(m+1)=(2+2*m)+2 by omega];refine uH ⋯ (by simp) λu hu=>?_
  erw[zb,zc,zO] at hu;rcases hu with rfl | rfl | rfl
  .exact jS ha ∅
  .exact jS hb ∅
  .exact jS hc ∅
 | .call i as bs,N,O,H,n,w,hN,hO,hH,hd=>by
  erw[Wf] at w;obtain⟨hi,⟨r,hr,la,lb⟩,wa,wb⟩:=w;erw[ku] at hd;obtain⟨m,rfl⟩:∃m,n=m+1:=⟨n-1,by omega⟩;have hL:=hl i r hr;rw[show 2+2*(m+1)=(2+2*m)+2 by omega];refine uH ⋯ (by simp) λu hu=>?_
  erw[zb,zc,zO] at hu;rcases hu with rfl | rfl | rfl
  .rfl
  .exact ff (by rw[x5,zP];omega) (pj hl as wa hN hO hH ∅)
  .exact ff (by rw[x5,zP];omega) (pj hl bs wb hN hO hH ∅)
theorem pj(hl:∀(i:Nat) (r:Rule),rs[i]?=À r->r.ns.length<=3/\r.hs.length<=3):∀(l:List D) {N O H:List Ç} {n:Nat},xl rs k l N O H->wS N->wS O->wS H->uL l<=n->∀w∈kr l,dt (2+2*n) w=Ã
 | [],N,O,H,n,w,hN,hO,hH,hd=>λu hu=>by simp[kr] at hu
 | d::l,N,O,H,n,w,hN,hO,hH,hd=>λu hu=>by
  erw[xl] at w;erw[uL] at hd;erw[kr,zb] at hu;rcases hu with rfl | hu
  .exact y6 hl d w.1 hN hO hH ∅
  .exact pj hl l w.2 hN hO hH ∅ u hu
end
noncomputable def D.parts:D->List D
 | .write _ a=>[a]
 | .say a=>[a]
 | .lett _ a b=>[a,b]
 | .own _ a b=>[a,b]
 | .add a b=>[a,b]
 | .less a b=>[a,b]
 | .thenn a b=>[a,b]
 | .loop a b=>[a,b]
 | .iff a b c=>[a,b,c]
 | .call _ as bs=>as++bs
 | _=>[]
def tup_of(d:D):∃l,zo d=.tup l:=by cases d<;>(erw[zo];exact⟨_,rfl⟩)
def BX(d:D):qV (zo d)=d.parts.map zo:=by
 have key:∀(x:Ç) (p:Int×Int),(x==("call":Ç))=Â->fm x=À p->∀r:List W,qV (th x r)=r.drop (p.2.toNat-1):=by
  intro x p hc hf r;erw[qV,hc,hf];rfl
 cases d with
 | number i=>erw[zo];rw[key _ (2,2) ⋯ ⋯];rfl
 | name i=>erw[zo];rw[key _ (2,2) ⋯ ⋯];rfl
 | read i=>erw[zo];rw[key _ (2,2) ⋯ ⋯];rfl
 | doo i=>erw[zo];rw[key _ (2,2) ⋯ ⋯];rfl
 | ask=>erw[zo];rw[key _ (1,1) ⋯ ⋯];rfl
 | write v a=>erw[zo];rw[key _ (3,2) ⋯ ⋯];rfl
 | say a=>erw[zo];rw[key _ (2,1) ⋯ ⋯];rfl
 | lett v a b=>erw[zo];rw[key _ (4,2) ⋯ ⋯];rfl
 | own v a b=>erw[zo];rw[key _ (4,2) ⋯ ⋯];rfl
 | add a b=>erw[zo];rw[key _ (3,1) ⋯ ⋯];rfl
 | less a b=>erw[zo];rw[key _ (3,1) ⋯ ⋯];rfl
 | thenn a b=>erw[zo];rw[key _ (3,1) ⋯ ⋯];rfl
 | loop a b=>erw[zo];rw[key _ (3,1) ⋯ ⋯];rfl
 | iff a b c=>erw[zo];rw[key _ (4,1) ⋯ ⋯];rfl
 | call i as bs=>erw[zo];rw[fv,x5,x5,D.parts,vD]
def GV{H:List Ç}(w:Wf rs k d N O H):Sh (kA rs) k H (zo d):=by
 cases d with
 | number i=>erw[zo];exact .number i
 | name i=>erw[zo];exact .name i
 | read i=>erw[zo];exact .read i
 | doo i=>erw[zo];erw[Wf] at w;exact .doo i w
 | ask=>erw[zo];exact .ask
 | write v a=>obtain⟨l,e⟩:=tup_of a;erw[zo];rw[e];exact .write v l
 | say a=>obtain⟨l,e⟩:=tup_of a;erw[zo];rw[e];exact .say l
 | lett v a b=>obtain⟨l,e⟩:=tup_of a;obtain⟨l',e'⟩:=tup_of b;erw[zo];rw[e,e'];exact .lett v l l'
 | own v a b=>obtain⟨l,e⟩:=tup_of a;obtain⟨l',e'⟩:=tup_of b;erw[zo];rw[e,e'];exact .own v l l'
 | add a b=>obtain⟨l,e⟩:=tup_of a;obtain⟨l',e'⟩:=tup_of b;erw[zo];rw[e,e'];exact .add l l'
 | less a b=>obtain⟨l,e⟩:=tup_of a;obtain⟨l',e'⟩:=tup_of b;erw[zo];rw[e,e'];exact .less l l'
 | thenn a b=>obtain⟨l,e⟩:=tup_of a;obtain⟨l',e'⟩:=tup_of b;erw[zo];rw[e,e'];exact .thenn l l'
 | loop a b=>obtain⟨l,e⟩:=tup_of a;obtain⟨l',e'⟩:=tup_of b;erw[zo];rw[e,e'];exact .loop l l'
 | iff a b c=>obtain⟨l,e⟩:=tup_of a;obtain⟨l',e'⟩:=tup_of b;obtain⟨l2,e2⟩:=tup_of c;erw[zo];rw[e,e',e2];exact .iff l l' l2
 | call i as bs=>
  erw[Wf] at w;obtain⟨hi,⟨r,hr,la,lb⟩,wa,wb⟩:=w;erw[zo];exact .call i _ _ hi (zS r.ns) r.hs (zo r.body) (sg hr) (by rw[x5,zP];exact lb)
theorem oK:∀{l:List D} {N O H:List Ç},xl rs k l N O H->∀d∈l,Wf rs k d N O H/\ku d<=uL l
 | [],N,O,H,w,d,hd=>by simp at hd
 | x::l,N,O,H,w,d,hd=>by
  erw[xl] at w;erw[uL];rcases zb.mp hd with rfl | z
  .exact⟨w.1,by omega⟩
  .have:=oK w.2 d z
   exact⟨this.1,by omega⟩
def WV{d:D}{H:List Ç}(w:Wf rs k d N O H):∀a∈d.parts,(∃N' O',Wf rs k a N' O' H)/\ku a+1<=ku d:=by
 intro p hp;cases d with
 | write v a=>erw[D.parts,zb,zc,zO] at hp;subst hp;erw[Wf] at w;exact⟨⟨_,_,w.2⟩,by erw[ku];omega⟩
 | say a=>erw[D.parts,zb,zc,zO] at hp;subst hp;erw[Wf] at w;exact⟨⟨_,_,w⟩,by erw[ku];omega⟩
 | lett v a b | own v a b=>erw[D.parts,zb,zc,zO] at hp;erw[Wf] at w;rcases hp with rfl | rfl;exact⟨⟨_,_,w.2.1⟩,by erw[ku];omega⟩;exact⟨⟨_,_,w.2.2⟩,by erw[ku];omega⟩
 | add a b | less a b | thenn a b | loop a b=>erw[D.parts,zb,zc,zO] at hp;erw[Wf] at w;rcases hp with rfl | rfl;exact⟨⟨_,_,w.1⟩,by erw[ku];omega⟩;exact⟨⟨_,_,w.2⟩,by erw[ku];omega⟩
 | iff a b c=>erw[D.parts,zb,zc,zO] at hp;erw[Wf] at w;rcases hp with rfl | rfl | rfl;exact⟨⟨_,_,w.1⟩,by erw[ku];omega⟩;exact⟨⟨_,_,w.2.1⟩,by erw[ku];omega⟩;exact⟨⟨_,_,w.2.2⟩,by erw[ku];omega⟩
 | call i as bs=>
  erw[Wf] at w;erw[D.parts] at hp;rcases zU.mp hp with z | z
  .have:=oK w.2.2.1 p z
   exact⟨⟨_,_,this.1⟩,by erw[ku];omega⟩
  .have:=oK w.2.2.2 p z
   exact⟨⟨_,_,this.1⟩,by erw[ku];omega⟩
 | _=>simp[D.parts] at hp
theorem ZH{H:List Ç}:∀(n:Nat) {d:D} {N O:List Ç},Wf rs k d N O H->ku d<=n->okd (kA rs) k H (n+1) (zo d)
 | n,d,N,O,w,hd=>by
  refine⟨GV w,λp hp=>?_⟩;rw[BX] at hp;obtain⟨a,ha,rfl⟩:=jf.mp hp;obtain⟨⟨N',O',w'⟩,AC⟩:=WV w a ha;cases n with
  | zero=>omega
  | succ n=>exact ZH n w' ∅
end
theorem DP(F:Fs):bB F=zk (Fv F) (zk (DH F) (zk (QS F) (zk (Zf F) (zk (ZF F) (zk (Xx F) (zk (Qq F) (Y5 F))))))):=rfl
noncomputable abbrev kn(N O H:List Ç):W:=.tup [.tup (zS N),.tup (zS O),.tup (zS H)]
noncomputable abbrev ρF(ns:List Int)(a:Int)(N O H:List Ç)(x y:Option W):En:=[À (qk ns),À (.int a),À (kn N O H),À (.tup (zS N)),À (.tup (zS O)),À (.tup (zS H)),x,y]
def VL{l:List W}{i:Int}(h0:0<=i)(h1:i<l.length):∃v∈l,atI l i=À v:=by
 have hj:i.toNat<l.length:=by omega
 exact⟨l[i.toNat],List.getElem_mem hj,by unfold atI xD;rw[z9 h0,z9 h1];simp[hj]⟩
def fT{l:List W}{i:Int}(h0:0<=i)(h1:i<l.length):∃v∈l,∀h,zC (.fls l) (.int i) h=À (v,h):=by
 obtain⟨v,hv,e⟩:=VL h0 h1;exact⟨v,hv,λh=>by simp[zC,getL,e]⟩
def ZA{l:List W}{i:Int}(h0:0<=i)(h1:i<l.length):∃v∈l,∀h,zC (.tup l) (.int i) h=À (v,h):=by
 obtain⟨v,hv,e⟩:=VL h0 h1;exact⟨v,hv,λh=>by simp[zC,e]⟩
def mw{l:List Ç}{i:Int}(h0:0<=i)(h1:i<l.length):∃v∈l,∀h,zC (.tup (zS l)) (.int i) h=À (.str v,h):=by
 obtain⟨v,hv,e⟩:=ZA (l:=zS l) h0 (by rw[vE];exact h1);unfold zS at hv;obtain⟨x,hx,rfl⟩:=jf.mp hv;exact⟨x,hx,e⟩
def pk{l:List Ç}(h:wS l)(hl:l.length<=1000):dt 2 (.tup (zS l))=Ã:=by
 refine ff (by rw[vE];exact hl) λw hw=>?_
 unfold zS at hw;obtain⟨x,hx,rfl⟩:=jf.mp hw;exact h x hx
theorem JH(l:List Ç):oa (.tup (zS l))=l.isEmpty:=by cases l<;>rfl
def mE{l:List Ç}(hw:wS l)(hl:l.length<=1000):eqB h (.tup (zS l)) (.tup [])=À l.isEmpty:=by
 rw[Kr (pk hw hl) ∅,JH]
noncomputable def wn(l:List Ç):Prop:=∀v∈l,v="x" \/ v="y" \/ v="x1"
noncomputable def wo(l:List Ç):Prop:=∀v∈l,v="p" \/ v="q"
noncomputable def wh(l:List Ç):Prop:=∀v∈l,v="f" \/ v="g1"
def Zj(h:wn l):wS l:=λv hv=>by rcases h v hv with rfl | rfl | rfl<;>decide +kernel
def Hy(h:wo l):wS l:=λv hv=>by rcases h v hv with rfl | rfl<;>decide +kernel
def ZC(h:wh l):wS l:=λv hv=>by rcases h v hv with rfl | rfl<;>decide +kernel
def HP{l:List Ç}{v:Ç}(h:wo l)(hv:v="x" \/ v="y" \/ v="x1"):v∉l:=λz=>by
 have:=h v z;rcases hv with rfl | rfl | rfl<;>revert this<;>decide +kernel
def B3{l:List Ç}{v:Ç}(h:wh l)(hv:v="x" \/ v="y" \/ v="x1"):v∉l:=λz=>by
 have:=h v z;rcases hv with rfl | rfl | rfl<;>revert this<;>decide +kernel
def HA{l:List Ç}{v:Ç}(h:wn l)(hv:v="p" \/ v="q"):v∉l:=λz=>by
 have:=h v z;rcases hv with rfl | rfl<;>revert this<;>decide +kernel
def Ir{l:List Ç}{v:Ç}(h:wh l)(hv:v="p" \/ v="q"):v∉l:=λz=>by
 have:=h v z;rcases hv with rfl | rfl<;>revert this<;>decide +kernel
def BN{l:List Ç}{v:Ç}(h:wn l)(hv:v="x" \/ v="y" \/ v="x1"):wn (l++[v]):=λu hu=>by
 rcases zU.mp hu with z | z
 .exact h u z
 .simp at z;subst z;exact hv
def X2{l:List Ç}{v:Ç}(h:wo l)(hv:v="p" \/ v="q"):wo (l++[v]):=λu hu=>by
 rcases zU.mp hu with z | z
 .exact h u z
 .simp at z;subst z;exact hv
noncomputable def uj(O:List Ç):List Ç:=([("a":Ç),"b","c","d"]:List Ç)++(O++(O++O))
def Kz(O:List Ç):[W.str "a",.str "b",.str "c",.str "d"]++(Æ 3 (zS O)).flatten=zS (uj O):=by
 simp[uj,zS,Æ]
def KA(hv:v∈uj O):v∈SH\/v∈O:=by
 unfold uj at hv;rcases zU.mp hv with z | z
 .exact .inl z
 .rcases zU.mp z with z | z
  .exact .inr z
  .rcases zU.mp z with z | z<;>exact .inr z
def ZO(O:List Ç):(uj O).length=4+3*O.length:=by simp[uj];omega
structure RG(rs:List Rule):Prop where
 l:rs.length<=2
 g:RsOk rs
 b:∀(i:Nat) (r:Rule),rs[i]?=À r->(r.ns.length<=2/\r.hs.length<=2)/\wn r.ns/\wh r.hs/\ku r.body<=2
def RG.dt1{rs:List Rule}(h:RG rs){H:List Ç}(w:Wf rs rs.length d N O H)(hN:wn N)(hO:wo O)(hH:wh H)(hd:ku d<=n):dt (2+2*n) (zo d)=Ã:=y6 h.g.l d w (Zj hN) (Hy hO) (ZC hH) hd
theorem RG.dt(h:RG rs):ML.dt 8 (.tup (kA rs))=Ã:=by
 refine ff (by unfold kA;rw[zP];have:=h.l;omega) λw hw=>?_
 obtain⟨r,hr,rfl⟩:=jf.mp hw;obtain⟨i,hi⟩:=jC.mp hr;obtain⟨⟨l1,l2⟩,w1,w2,d2⟩:=h.b i r hi;refine ff (by simp) λv hv=>?_
 erw[zb,zc,zO] at hv;rcases hv with rfl | rfl | rfl
 .exact jS (pk (Zj w1) ∅) ∅
 .exact jS (pk (ZC w2) ∅) ∅
 .exact y6 (n:=2) h.g.l r.body (h.g.w i r hi) (Zj w1) (λv hv=>by simp at hv) (ZC w2) d2
def J8{ns:List Int}{N O H:List Ç}{rs:List Rule}(hr:RG rs)(hl:ns.length<=63)(OZ:wn N)(AY:wo O)(O0:wh H)(lN:N.length<=100)(lO:O.length<=100)(lH:H.length<=100) :
  ∃x:D,(∀h,(step (step (step F))).dF [qk ns,.int a,kn N O H] h=À (zo x,h))/\Wf rs rs.length x N O H/\ku x<=0:=by
 have hN:=Zj OZ;have hH:=ZC O0;have e:=λ(k many:Int) (h:MH) (hm:0<many)=>uY (F:=F) (k:=k) (many:=many) (h:=h) hl hm
 generalize step (step F)=G at e;suffices hs:∃x:D,(∀h,bB G [À (qk ns),À (.int a),À (kn N O H),Á,Á,Á,Á,Á] h=À (.ret (zo x),h))/\Wf rs rs.length x N O H/\ku x<=0 by
  obtain⟨x,e,w,d⟩:=hs;refine⟨x,λh=>wf (n:=2) ?_ (hr.dt1 w OZ AY O0 d),w,d⟩;erw[kg,zp,zV,kE,zx,jk,Æ,jl,kJ];erw[e h]
 have LN:(1:Nat)<=cap:=by decide
 have KM:(2:Nat)<=cap:=by decide
 have Sb:(4:Nat)<=cap:=by decide
 have Sd:(6:Nat)<=cap:=by decide
 have s0:∀h,Fv G [À (qk ns),À (.int a),À (kn N O H),Á,Á,Á,Á,Á] h=À (.nx (ρF ns a N O H Á Á),h):=λh=>by
  exact rfl
 have s1:∀h,DH G (ρF ns a N O H Á Á) h=À (.nx (ρF ns a N O H (À (.int (vw ns a 8))) Á),h):=λh=>by
  exact xY (e a 8 h ∅) rfl rfl
 generalize vw ns a 8=d at s1;have row:∀h,bB G [À (qk ns),À (.int a),À (kn N O H),Á,Á,Á,Á,Á] h=zk (QS G) (zk (Zf G) (zk (ZF G) (zk (Xx G) (zk (Qq G) (Y5 G))))) (ρF ns a N O H (À (.int d)) Á) h:=λh=>by
  rw[DP,zw (s0 h),zw (s1 h)]
 by_cases k2:d<2
 .obtain⟨v,hv,ev⟩:=fT (l:=[.int 0,.int 1,.int 2,.int 3,.int 7,.int 1008]) (kG (ns:=ns) (k:=a+1) (many:=6) ∅).1 (by simpa using (kG (ns:=ns) (k:=a+1) (many:=6) ∅).2)
  have:∃i,v=.int i:=by
   erw[zb,zc,zO] at hv;rcases hv with rfl | rfl | rfl | rfl | rfl | rfl<;>exact⟨_,rfl⟩
  obtain⟨i,rfl⟩:=this;refine⟨.number i,λh=>?_,by erw[Wf],by erw[ku,zj]⟩;rw[row];refine xc ?_;simp![QS,vv,k2,vS,Sd,addW,qc,e (a+1) 6 _ ∅,ev,zt,KM,zo]
 have p2:∀h,QS G (ρF ns a N O H (À (.int d)) Á) h=À (.nx (ρF ns a N O H (À (.int d)) Á),h):=λh=>by
  exact x4 ((sQ (j:=0) rfl).trans (by rw[jA k2]))
 have eN:=λh=>mE (h:=h) hN ∅
 have eH:=λh=>mE (h:=h) hH ∅
 by_cases k3:(d==2)=Ã/\N.isEmpty=Â
 .have hp:(0:Int)<(N.length:Int):=by
   cases N with
   | nil=>simp at k3
   | cons _ _=>erw[zp];omega
  obtain⟨v,hv,ev⟩:=mw (l:=N) (kG (ns:=ns) (k:=a+1) (many:=N.length) hp).1 (kG (ns:=ns) (k:=a+1) (many:=N.length) hp).2;refine⟨.name v,λh=>?_,by erw[Wf];exact hv,by erw[ku,zj]⟩;rw[row,zw (p2 h)];refine xc ?_;simp![Zf,yY,k3.1,k3.2,eN,zt,kN,vE,addW,qc,e (a+1) N.length _ hp,ev,KM,zo]
 have p3:∀h,Zf G (ρF ns a N O H (À (.int d)) Á) h=À (.nx (ρF ns a N O H (À (.int d)) Á),h):=λh=>by
  cases q1:(d==2) with
  | false=>simp![Zf,yY,q1]
  | true=>
   have q2:N.isEmpty=Ã:=by
    cases q:N.isEmpty with
    | true=>rfl
    | false=>exact absurd ⟨q1,q⟩ k3
   simp![Zf,yY,q1,eN,zt,q2]
 by_cases k4:(d==3)=Ã/\H.isEmpty=Â
 .have hp:(0:Int)<(H.length:Int):=by
   cases H with
   | nil=>simp at k4
   | cons _ _=>erw[zp];omega
  obtain⟨v,hv,ev⟩:=mw (l:=H) (kG (ns:=ns) (k:=a+1) (many:=H.length) hp).1 (kG (ns:=ns) (k:=a+1) (many:=H.length) hp).2;refine⟨.doo v,λh=>?_,by erw[Wf];exact hv,by erw[ku,zj]⟩;rw[row,zw (p2 h),zw (p3 h)];refine xc ?_;simp![ZF,yY,k4.1,k4.2,eH,zt,kN,vE,addW,qc,e (a+1) H.length _ hp,ev,KM,zo]
 have p4:∀h,ZF G (ρF ns a N O H (À (.int d)) Á) h=À (.nx (ρF ns a N O H (À (.int d)) Á),h):=λh=>by
  cases q1:(d==3) with
  | false=>simp![ZF,yY,q1]
  | true=>
   have q2:H.isEmpty=Ã:=by
    cases q:H.isEmpty with
    | true=>rfl
    | false=>exact absurd ⟨q1,q⟩ k4
   simp![ZF,yY,q1,eH,zt,q2]
 cases k5:(d==4) with
 | true=>
  refine⟨.ask,λh=>?_,by erw[Wf],by erw[ku,zj]⟩;rw[row,zw (p2 h),zw (p3 h),zw (p4 h)];refine xc ?_;exact lI ((eI rfl).trans (by rw[k5])) ((xw rfl rfl).trans (by erw[zo]))
 | false=>
  have hp:(0:Int)<((uj O).length:Int):=by rw[ZO];omega
  obtain⟨v,hv,ev⟩:=mw (l:=uj O) (kG (ns:=ns) (k:=a+1) (many:=(uj O).length) hp).1 (kG (ns:=ns) (k:=a+1) (many:=(uj O).length) hp).2;have c7:4+(Æ 3 (zS O)).flatten.length<=cap:=by
   have:(Æ 3 (zS O)).flatten.length=3*O.length:=by simp[Æ,zS];omega
   rw[this];exact zK (show 4+3*O.length<=400 by omega) (by decide)
  have Oc:(zS O).length<=1000:=by rw[vE];omega
  refine⟨.read v,λh=>?_,by erw[Wf];exact KA hv,by erw[ku,zj]⟩;have p6:Qq G (ρF ns a N O H (À (.int d)) Á) h=À (.nx (ρF ns a N O H (À (.int d)) (À (.tup (zS (uj O))))),h):=by
   rw[<-Kz];have m:∀h,kH (.tup (zS O)) (.int 3) h=À (.tup (Æ 3 (zS O)).flatten,h):=λh=>by
    erw[kH];rw[z9 ⟨by omega,by omega,Oc⟩];rfl
   have ad:∀h,addW (.tup [.str "a",.str "b",.str "c",.str "d"]) (.tup (Æ 3 (zS O)).flatten) h=À (.tup ([.str "a",.str "b",.str "c",.str "d"]++(Æ 3 (zS O)).flatten),h):=λh=>by
    erw[addW,qc,zp,zV];rw[z9 c7]
   generalize (Æ 3 (zS O)).flatten=Z at m ad;simp![Qq,zt,Sb,m,ad]
  rw[row,zw (p2 h),zw (p3 h),zw (p4 h),zw (ρ':=(ρF ns a N O H (À (.int d)) Á)) (h':=h) (by simp![Xx,yY,k5]),zw p6];simp![Y5,kN,vE,addW,qc,e (a+1) (uj O).length _ hp,ev,zt,KM,zo]
theorem DV(F:Fs):aL F=zk (Xv F) (zk (QD F) (zk (pV F) (zk (QA F) (zk (ZI F) (zk (Kf F) (zk (Kx F) (zk (Kn F) (zk (Kt F) (zk (tO F) (nk F)))))))))):=rfl
noncomputable def dA(G:Fs)(ns:List Int)(rs:List Rule)(d:Nat):Prop:=∀(a:Int) (N O H:List Ç),wn N->wo O->wh H->N.length+d<=20->O.length+d<=20->H.length<=20->
 ∃x:D,(∀h,G.az [qk ns,.int a,.int (d:Int),kn N O H,.tup (kA rs)] h=À (zo x,h))/\Wf rs rs.length x N O H/\ku x<=d
noncomputable def QX(G:Fs)(ns:List Int)(rs:List Rule)(d:Nat):Prop:=∀(a:Int) (N O H:List Ç),wn N->wo O->wh H->N.length+d<=20->O.length+d<=20->H.length<=20->
 ∃x:D,(∀h,G.dw [qk ns,.int a,.int ((d:Int)+1),kn N O H,.tup (kA rs)] h=À (zo x,h))/\Wf rs rs.length x N O H/\ku x<=d+1
def nN(l:List Ç)(v:Ç):zS l++[.str v]=zS (l++[v]):=by simp[zS]
noncomputable abbrev ρD(ns:List Int)(a:Int)(d:Int)(K:W)(rl:List W)(o5 o6 o7 o8 o9 Od:Option W):En:=[À (qk ns),À (.int a),À (.int d),À K,À (.tup rl),o5,o6,o7,o8,o9,Od]
noncomputable abbrev ρE(ns:List Int)(a:Int)(d:Nat)(N O H:List Ç)(rl:List W)(y:Int)(o6 o7 o8 o9 Od:Option W):En:=ρD ns a ((d:Int)+1) (kn N O H) rl (À (.int y)) o6 o7 o8 o9 Od
def m3:kH (.int a) (.int 3) h=À (.int (a*3),h):=by
 have:(small a||small 3)=Ã:=by rw[show small 3=Ã by decide];simp
 erw[kH,this,kE]
def V1{ns:List Int}(hr:RG rs)(hl:ns.length<=63)(hd:d+1<=5)(HD:dA (step (step (step F))) ns rs d)(HC:kA rs≠[]->QX (step (step (step F))) ns rs d):dA (step (step (step (step F)))) ns rs (d+1):=by
 intro a N O H hN AY hH lN lO lH;have MR:=hr.dt;have e:=λ(k many:Int) (h:MH) (hm:0<many)=>uY (F:=step F) (k:=k) (many:=many) (h:=h) hl hm
 have eL:=λ(a:Int)=>J8 (F:=F) (ns:=ns) (a:=a) (N:=N) (O:=O) (H:=H) hr hl hN AY hH ∅ ∅ ∅
 have Se:∃rl,rl=kA rs:=⟨_,rfl⟩;obtain⟨rl,Fn⟩:=Se;rw[<-Fn] at MR HC;generalize step (step (step F))=G at e HD HC eL;have ed:((d+1:Nat):Int)=(d:Int)+1:=by omega
 rw[ed];suffices hs:∃x:D,(∀h,aL G (ρD ns a ((d:Int)+1) (kn N O H) rl Á Á Á Á Á Á) h=À (.ret (zo x),h))/\Wf rs rs.length x N O H/\ku x<=d+1 by
  obtain⟨x,e,w,o⟩:=hs;refine⟨x,λh=>wf (n:=2+2*(d+1)) ?_ (hr.dt1 w hN AY hH o),w,o⟩;rw[<-Fn];erw[kg,zp,zV,kE,zx,jk,Æ,jl,kJ];have:=e h;erw[ρD] at this;erw[this]
 have c1:(1:Nat)<=cap:=by decide
 have c2:(2:Nat)<=cap:=by decide
 have c3:(3:Nat)<=cap:=by decide
 have c4:(4:Nat)<=cap:=by decide
 have c5:(5:Nat)<=cap:=by decide
 have s0:∀h,Xv G (ρD ns a ((d:Int)+1) (kn N O H) rl Á Á Á Á Á Á) h=À (.nx (ρD ns a ((d:Int)+1) (kn N O H) rl (À (.int (vw ns a 15))) Á Á Á Á Á),h):=λh=>by
  exact xY (e a 15 h ∅) rfl rfl
 have rg:=kG (ns:=ns) (k:=a) (many:=15) ∅;generalize vw ns a 15=y at s0 rg;have row:∀h,aL G (ρD ns a ((d:Int)+1) (kn N O H) rl Á Á Á Á Á Á) h=zk (QD G) (zk (pV G) (zk (QA G) (zk (ZI G) (zk (Kf G) (zk (Kx G) (zk (Kn G) (zk (Kt G) (zk (tO G) (nk G))))))))) (ρE ns a d N O H rl y Á Á Á Á Á) h:=λh=>by
  rw[DV,zw (s0 h)]
 have dz:(((d:Int)+1)==0)=Â:=by rw[ju];omega
 by_cases k1:y<2
 .obtain⟨x,ew,p,o⟩:=eL (a+1)
  refine⟨x,λh=>?_,p,by omega⟩;rw[row];refine xc ?_;exact lI (Co ((eI rfl).trans (by rw[dz])) ((sQ (j:=0) rfl).trans (by rw[jX k1]))) (xw rfl (ew h))
 have p1:∀h,QD G (ρE ns a d N O H rl y Á Á Á Á Á) h=À (.nx (ρE ns a d N O H rl y Á Á Á Á Á),h):=λh=>by
  exact x4 (J2 ((eI rfl).trans (by rw[dz])) ((sQ (j:=0) rfl).trans (by rw[jA k1])))
 have eR:=λh=>Kr (h:=h) MR ∅
 have iR:oa (.tup rl)=rl.isEmpty:=by cases rl<;>rfl
 by_cases k2:y<4/\rl≠[]
 .obtain⟨x,ew,p,o⟩:=HC k2.2 a N O H hN AY hH ∅ ∅ lH
  rw[<-Fn] at ew;refine⟨x,λh=>?_,p,o⟩;have q:rl.isEmpty=Â:=by
   cases rl with
   | nil=>exact absurd rfl k2.2
   | cons _ _=>rfl
  rw[row,zw (p1 h)];refine xc ?_;simp![pV,vv,k2.1,eR,iR,q,zt,ew]
 have p2:∀h,pV G (ρE ns a d N O H rl y Á Á Á Á Á) h=À (.nx (ρE ns a d N O H rl y Á Á Á Á Á),h):=λh=>by
  by_cases q1:y<4
  .have q:rl.isEmpty=Ã:=by
    cases rl with
    | nil=>rfl
    | cons _ _=>exact absurd ⟨q1,by simp⟩ k2
   simp![pV,vv,q1,eR,iR,q,zt]
  .simp![pV,vv,q1]
 obtain⟨x1,e1,Ey,o1⟩:=HD (a*3+7) N O H hN AY hH ∅ ∅ lH;rw[<-Fn] at e1;have p3:∀h,QA G (ρE ns a d N O H rl y Á Á Á Á Á) h=À (.nx (ρE ns a d N O H rl y (À (zo x1)) Á Á Á Á),h):=λh=>by
  exact xY (e1 h) (by erw[ko,bnd,ze,zi,eC,zA,zm,m3,addW,qc,x8,vO]) rfl
 have Er:∀h,aL G (ρD ns a ((d:Int)+1) (kn N O H) rl Á Á Á Á Á Á) h=zk (ZI G) (zk (Kf G) (zk (Kx G) (zk (Kn G) (zk (Kt G) (zk (tO G) (nk G)))))) (ρE ns a d N O H rl y (À (zo x1)) Á Á Á Á) h:=λh=>by
  rw[row,zw (p1 h),zw (p2 h),zw (p3 h)]
 by_cases k4:y<6
 .have hp:(0:Int)<((uj O).length:Int):=by rw[ZO];omega
  obtain⟨v,hv,ev⟩:=mw (l:=uj O) (kG (ns:=ns) (k:=a+3) (many:=(uj O).length) hp).1 (kG (ns:=ns) (k:=a+3) (many:=(uj O).length) hp).2;have c7:4+(Æ 3 (zS O)).flatten.length<=cap:=by
   have:(Æ 3 (zS O)).flatten.length=3*O.length:=by simp[Æ,zS];omega
   rw[this];exact zK (show 4+3*O.length<=400 by omega) (by decide)
  have Oc:(zS O).length<=1000:=by rw[vE];omega
  refine⟨.write v x1,λh=>?_,by erw[Wf];exact⟨KA hv,Ey⟩,by erw[ku];omega⟩
  .rw[Er]
   refine xc ?_;have m:∀h,kH (.tup (zS O)) (.int 3) h=À (.tup (Æ 3 (zS O)).flatten,h):=λh=>by
    erw[kH];rw[z9 ⟨by omega,by omega,Oc⟩];rfl
   have ad:∀h,addW (.tup [.str "a",.str "b",.str "c",.str "d"]) (.tup (Æ 3 (zS O)).flatten) h=À (.tup ([.str "a",.str "b",.str "c",.str "d"]++(Æ 3 (zS O)).flatten),h):=λh=>by
    erw[addW,qc,zp,zV];rw[z9 c7]
   rw[Kz] at ad;generalize (Æ 3 (zS O)).flatten=Z at m ad;have a3:∀h,addW (.int a) (.int 3) h=À (.int (a+3),h):=λh=>by simp[addW,qc]
   unfold ZI;refine lI ((sQ (j:=0) rfl).trans (by simp[k4])) ?_;rw[zw (ρ':=ρE ns a d N O H rl y (À (zo x1)) (À (.tup (zS (uj O)))) Á Á Á) (h':=h) (by simp![zt,c4,xo,m,ad])];simp![kN,vE,a3,e (a+3) (uj O).length _ hp,ev,zt,c3,zo]
 have p4:∀h,ZI G (ρE ns a d N O H rl y (À (zo x1)) Á Á Á Á) h=À (.nx (ρE ns a d N O H rl y (À (zo x1)) Á Á Á Á),h):=λh=>
  x4 ((sQ (j:=0) rfl).trans (by simp[k4]))
 cases k5:(y==6) with
 | true=>
  refine⟨.say x1,λh=>?_,by erw[Wf];exact Ey,by erw[ku];omega⟩;rw[Er,zw (p4 h)];refine wm ((eI rfl).trans (by rw[k5])) ?_;exact rfl
 | false=>
 have p5:∀h,Kf G (ρE ns a d N O H rl y (À (zo x1)) Á Á Á Á) h=À (.nx (ρE ns a d N O H rl y (À (zo x1)) Á Á Á Á),h):=λh=>
  x4 ((eI rfl).trans (by rw[k5]))
 have a3:∀h,addW (.int a) (.int 3) h=À (.int (a+3),h):=λh=>by simp[addW,qc]
 cases k6:(y==7) with
 | true=>
  obtain⟨v',hv,ev⟩:=fT (l:=[.str "x",.str "y",.str "x1"]) (kG (ns:=ns) (k:=a+3) (many:=3) ∅).1 (by simpa using (kG (ns:=ns) (k:=a+3) (many:=3) ∅).2);have:∃v:Ç,v'=.str v/\(v="x" \/ v="y" \/ v="x1"):=by
   erw[zb,zc,zO] at hv;rcases hv with rfl | rfl | rfl
   .exact⟨_,rfl,.inl rfl⟩
   .exact⟨_,rfl,.inr (.inl rfl)⟩
   .exact⟨_,rfl,.inr (.inr rfl)⟩
  obtain⟨v,rfl,pv⟩:=this;obtain⟨x2,e2,Ez,o2⟩:=HD (a*3+23) (N++[v]) O H (BN hN pv) AY hH (by simp;omega) ∅ lH;rw[<-Fn] at e2;have dv:dt 1 (.str v)=Ã/\v≠"p":=by rcases pv with rfl | rfl | rfl<;>decide +kernel
  have a4:∀h,addW (.tup (zS N)) (.tup [.str v]) h=À (.tup (zS (N++[v])),h):=λh=>by
   rw[<-nN];erw[addW,qc,zp,zV,vE];rw[z9 (zK (show N.length+(0+1)<=100 by omega) (by decide))]
  have a5:∀h,nz (kn N O H) (À 1) Á h=À (.tup [.tup (zS O),.tup (zS H)],h):=λh=>by simp[nz,XQ]
  have a6:∀h,addW (.tup [.tup (zS (N++[v]))]) (.tup [.tup (zS O),.tup (zS H)]) h=À (kn (N++[v]) O H,h):=λh=>by
   erw[addW,qc,zp,zV];rw[z9 (by decide)];rfl
  have a7:∀h,addW (.int (a*3)) (.int 23) h=À (.int (a*3+23),h):=λh=>by simp[addW,qc]
  refine⟨.lett v x1 x2,λh=>?_,by erw[Wf];exact⟨⟨HP AY pv,B3 hH pv,dv⟩,Ey,Ez⟩,by erw[ku];omega⟩
  .rw[Er,zw (p4 h),zw (p5 h)]
   refine wm ((eI rfl).trans (by rw[k6])) ?_;rw[zw (ρ':=ρE ns a d N O H rl y (À (zo x1)) Á (À (.str v)) Á Á) (h':=h) (by simp![vS,c3,a3,e (a+3) 3 _ ∅,ev])];simp![m3,a7,x8,ux,zt,c1,c4,a4,u5,fe,a5,a6,e2,zo]
 | false=>
 have p6:∀h,Kx G (ρE ns a d N O H rl y (À (zo x1)) Á Á Á Á) h=À (.nx (ρE ns a d N O H rl y (À (zo x1)) Á Á Á Á),h):=λh=>
  x4 ((eI rfl).trans (by rw[k6]))
 cases k7:(y==8) with
 | true=>
  obtain⟨v',hv,ev⟩:=fT (l:=[.str "p",.str "q"]) (kG (ns:=ns) (k:=a+3) (many:=2) ∅).1 (by simpa using (kG (ns:=ns) (k:=a+3) (many:=2) ∅).2);have:∃v:Ç,v'=.str v/\(v="p" \/ v="q"):=by
   erw[zb,zc,zO] at hv;rcases hv with rfl | rfl
   .exact⟨_,rfl,.inl rfl⟩
   .exact⟨_,rfl,.inr rfl⟩
  obtain⟨v,rfl,Nf⟩:=this;have dv:dt 1 (.str v)=Ã:=by rcases Nf with rfl | rfl<;>decide +kernel
  obtain⟨x2,e2,Ez,o2⟩:=HD (a*3+23) N (O++[v]) H hN (X2 AY Nf) hH ∅ (by simp;omega) lH;rw[<-Fn] at e2;have a4:∀h,addW (.tup (zS O)) (.tup [.str v]) h=À (.tup (zS (O++[v])),h):=λh=>by
   rw[<-nN];erw[addW,qc,zp,zV,vE];rw[z9 (zK (show O.length+(0+1)<=100 by omega) (by decide))]
  have a7:∀h,addW (.int (a*3)) (.int 23) h=À (.int (a*3+23),h):=λh=>by simp[addW,qc]
  refine⟨.own v x1 x2,λh=>?_,by erw[Wf];exact⟨⟨HA hN Nf,Ir hH Nf,dv⟩,Ey,Ez⟩,by erw[ku];omega⟩
  .rw[Er,zw (p4 h),zw (p5 h),zw (p6 h)]
   refine wm ((eI rfl).trans (by rw[k7])) ?_;rw[zw (ρ':=ρE ns a d N O H rl y (À (zo x1)) Á (À (.str v)) Á Á) (h':=h) (by simp![vS,c2,a3,e (a+3) 2 _ ∅,ev])];rw[zw (ρ':=ρE ns a d N O H rl y (À (zo x1)) Á (À (.str v)) (À (kn N (O++[v]) H)) Á) (h':=h) (by simp![zt,c1,c3,ux,xo,lf,a4])];exact(xw (ws:=[.str "own",.str v,zo x1,zo x2]) (by erw[ko,bnd,ze,eC,zh,zi,zA,zm,vO,m3,a7,x8,e2]) rfl).trans (by erw[zo])
 | false=>
 have p7:∀h,Kn G (ρE ns a d N O H rl y (À (zo x1)) Á Á Á Á) h=À (.nx (ρE ns a d N O H rl y (À (zo x1)) Á Á Á Á),h):=λh=>
  x4 ((eI rfl).trans (by rw[k7]))
 obtain⟨x2,e2,Ez,o2⟩:=HD (a*3+41) N O H hN AY hH ∅ ∅ lH;rw[<-Fn] at e2;have a8:∀h,addW (.int (a*3)) (.int 41) h=À (.int (a*3+41),h):=λh=>by simp[addW,qc]
 have p8:∀h,Kt G (ρE ns a d N O H rl y (À (zo x1)) Á Á Á Á) h=À (.nx (ρE ns a d N O H rl y (À (zo x1)) Á Á Á (À (zo x2))),h):=λh=>by
  exact xY (e2 h) (by erw[ko,bnd,ze,zi,eC,zA,zm,m3,a8,x8,vO]) rfl
 have MF:∀h,aL G (ρD ns a ((d:Int)+1) (kn N O H) rl Á Á Á Á Á Á) h=zk (tO G) (nk G) (ρE ns a d N O H rl y (À (zo x1)) Á Á Á (À (zo x2))) h:=λh=>by
  rw[Er,zw (p4 h),zw (p5 h),zw (p6 h),zw (p7 h),zw (p8 h)]
 cases k9:(y==9) with
 | true=>
  obtain⟨x3,e3,Sf,o3⟩:=HD (a*3+61) N O H hN AY hH ∅ ∅ lH;rw[<-Fn] at e3;have a9:∀h,addW (.int (a*3)) (.int 61) h=À (.int (a*3+61),h):=λh=>by simp[addW,qc]
  refine⟨.iff x1 x2 x3,λh=>?_,by erw[Wf];exact⟨Ey,Ez,Sf⟩,by erw[ku];omega⟩
  .rw[MF]
   refine wm ((eI rfl).trans (by rw[k9])) ?_;exact(xw (ws:=[.str "if",zo x1,zo x2,zo x3]) (by erw[ko,bnd,ze,eC,zh,zi,zA,zm,vO,m3,a9,x8,e3]) rfl).trans (by erw[zo])
 | false=>
 have O1:0<=y-10/\y-10<5:=by
  rw[ju] at k5 k6 k7 k9;omega
 obtain⟨v',hv,ev⟩:=fT (l:=[.tup [.str "then"],.tup [.str "add"],.tup [.str "less"],.tup [.str "loop"],.tup [.str "then"]]) (i:=y-10) O1.1 (by simpa using O1.2);have:∃(x:Ç) (y2:D),v'=.tup [.str x]/\zo y2=th x [zo x1,zo x2]/\Wf rs rs.length y2 N O H/\ku y2<=d+1:=by
  erw[zb,zc,zO] at hv;rcases hv with rfl | rfl | rfl | rfl | rfl
  .exact⟨_,.thenn x1 x2,rfl,by erw[zo],by erw[Wf];exact⟨Ey,Ez⟩,by erw[ku];omega⟩
  .exact⟨_,.add x1 x2,rfl,by erw[zo],by erw[Wf];exact⟨Ey,Ez⟩,by erw[ku];omega⟩
  .exact⟨_,.less x1 x2,rfl,by erw[zo],by erw[Wf];exact⟨Ey,Ez⟩,by erw[ku];omega⟩
  .exact⟨_,.loop x1 x2,rfl,by erw[zo],by erw[Wf];exact⟨Ey,Ez⟩,by erw[ku];omega⟩
  .exact⟨_,.thenn x1 x2,rfl,by erw[zo],by erw[Wf];exact⟨Ey,Ez⟩,by erw[ku];omega⟩
 obtain⟨x,y2,rfl,ty,ww,dd⟩:=this;refine⟨y2,λh=>?_,ww,dd⟩
 .rw[MF,ty]
  unfold tO;rw[Vc ((eI rfl).trans (by rw[k9]))];have Sg:∀h,addW (.tup [.str x]) (.tup [zo x1,zo x2]) h=À (th x [zo x1,zo x2],h):=λh=>by
   erw[addW,qc,zp,zV];rw[z9 (by decide)];rfl
  simp![nk,zt,vS,c1,c2,c5,x8,ev,Sg]
def QB{ns:List Int}(hr:RG rs)(hl:ns.length<=63):dA (step (step (step (step F)))) ns rs 0:=by
 intro a N O H hN AY hH lN lO lH;have e:=λ(k many:Int) (h:MH) (hm:0<many)=>uY (F:=step F) (k:=k) (many:=many) (h:=h) hl hm
 obtain⟨x,ew,p,o⟩:=J8 (F:=F) (ns:=ns) (a:=a+1) (N:=N) (O:=O) (H:=H) hr hl hN AY hH ∅ ∅ ∅;generalize step (step (step F))=G at e ew;refine⟨x,λh=>wf (n:=2) ?_ (hr.dt1 p hN AY hH o),p,o⟩;simp![aL,Xv,QD,pV,QA,ZI,Kf,Kx,Kn,Kt,tO,nk,e a 15 _ ∅,yY,addW,qc,ew]
theorem CQ(F:Fs):cL F=zk (XA F) (zk (Xd F) (zk (Xm F) (zk (Xc F) (Xq F)))):=rfl
theorem Dv(F:Fs):cu F=zk (Y7 F) (zk (FT F) (FL F)):=rfl
def m5:kH (.int 5) (.int a) h=À (.int (5*a),h):=by
 have:(small 5||small a)=Ã:=by rw[show small 5=Ã by decide];rfl
 erw[kH,this,kE]
def m7:kH (.int 7) (.int a) h=À (.int (7*a),h):=by
 have:(small 7||small a)=Ã:=by rw[show small 7=Ã by decide];rfl
 erw[kH,this,kE]
noncomputable abbrev ρC(ns:List Int)(a d:Int)(K:W)(rl:List W)(o5 o6 o7 o8:Option W):En:=[À (qk ns),À (.int a),À (.int d),À K,À (.tup rl),o5,o6,o7,o8]
theorem rD{G:Fs}{rs:List Rule}{N O H:List Ç}(HD:dA G ns rs d)(hN:wn N)(hO:wo O)(hH:wh H)(lN:N.length+d<=20)(lO:O.length+d<=20)(lH:H.length<=20) :
  ∀is:List Int,∃xs:List D,xs.length=is.length/\(∀x∈xs,Wf rs rs.length x N O H/\ku x<=d)/\∀(h0:MH) (acc:List W) (o5 o6 o8:Option W),acc.length+is.length<=1000->
   ∃o,forL (zD 8) (ky (kD qh (ze 7) [zh G.az [ze 0,zi addW (zi addW (zi kH (ze 1) (PL 3)) (PL 7)) (zi kH (PL 5) (ze 8)),zi x8 (ze 2) (PL 1),ze 3,ze 4]])) (is.map W.int) (ρC ns a ((d:Int)+1) (kn N O H) (kA rs) o5 o6 (À (.ref h0.length)) o8) (h0++[.lst acc]) =
    À (.nx (ρC ns a ((d:Int)+1) (kn N O H) (kA rs) o5 o6 (À (.ref h0.length)) o),h0++[.lst (acc++xs.map zo)])
 | []=>⟨[],rfl,λw hw=>by simp at hw,λh0 acc o5 o6 o8 _=>⟨o8,by simp[forL]⟩⟩
 | i::is=>by
  obtain⟨xs,h1,h2,h3⟩:=rD (a:=a) HD hN hO hH lN lO lH is;obtain⟨x,ew,p,o⟩:=HD (a*3+7+5*i) N O H hN hO hH lN lO lH;refine⟨x::xs,by simp[h1],λv hv=>?_,λh0 acc o5 o6 o8 hc=>?_⟩
  .rcases zb.mp hv with rfl | z
   .exact⟨p,o⟩
   .exact h2 v z
  .erw[zp] at hc
   obtain⟨o',e⟩:=h3 h0 (acc++[zo x]) o5 o6 (À (.int i)) (by simp;omega);refine⟨o',?_⟩;erw[zx];generalize kA rs=rl at ew e ⊢;unfold forL;have g:zD 8 (.int i) (ρC ns a ((d:Int)+1) (kn N O H) rl o5 o6 (À (.ref h0.length)) o8) (h0++[.lst acc])=À (ρC ns a ((d:Int)+1) (kn N O H) rl o5 o6 (À (.ref h0.length)) (À (.int i)),h0++[.lst acc]):=by simp[zD]
   rw[g];have Ek:acc.length<cap:=zL (show acc.length<1000 by omega) (by decide);have b:(ky (kD qh (ze 7) [zh G.az [ze 0,zi addW (zi addW (zi kH (ze 1) (PL 3)) (PL 7)) (zi kH (PL 5) (ze 8)),zi x8 (ze 2) (PL 1),ze 3,ze 4]])) (ρC ns a ((d:Int)+1) (kn N O H) rl o5 o6 (À (.ref h0.length)) (À (.int i))) (h0++[.lst acc])=À (.nx (ρC ns a ((d:Int)+1) (kn N O H) rl o5 o6 (À (.ref h0.length)) (À (.int i))),h0++[.lst (acc++[zo x])]):=by
    simp![kD,getL,at0,qh,oM,m3,m5,addW,qc,x8,ew,Ek]
   erw[b];rw[e];simp
theorem tZ{H:List Ç}:∀{l:List D},(∀x∈l,Wf rs k x N O H/\ku x<=n)->xl rs k l N O H/\uL l<=n
 | [],_=>by simp[xl,uL]
 | x::l,h=>by
  have h1:=h x kj;have h2:=tZ (l:=l) λy hy=>h y (zM _ hy)
  erw[xl,uL];exact⟨⟨h1.1,h2.1⟩,by omega⟩
def p9(n:Nat):upto n=((_root_.List.range n).map λ(i:Nat)=>(i:Int)).map W.int:=by simp[upto]
def QZ{ns:List Int}(hl:ns.length<=63)(Fu:RG rs)(AW:kA rs≠[])(HD:dA (step (step F)) ns rs d):QX (step (step (step F))) ns rs d:=by
 intro a N O H hN hO hH lN lO lH;have e:=λ(k many:Int) (h:MH) (hm:0<many)=>uY (F:=F) (k:=k) (many:=many) (h:=h) hl hm
 generalize step (step F)=G at e HD;have hp:(0:Int)<((kA rs).length:Int):=by
  cases h:kA rs with
  | nil=>exact absurd h AW
  | cons _ _=>erw[zp];omega
 have rg:=kG (ns:=ns) (k:=a+3) (many:=(kA rs).length) hp;have er:=λh=>e (a+3) (kA rs).length h hp
 obtain⟨j,hj⟩:=qp rg.1;rw[hj] at rg er;have S4:(kA rs).length=rs.length:=by unfold kA;rw[zP]
 have O2:j<rs.length:=by omega
 obtain⟨r,hr⟩:∃r,rs[j]?=À r:=⟨rs[j],zE O2⟩;obtain⟨⟨b1,b2⟩,b3,b4,b5⟩:=Fu.b j r hr;have ei:∀h,zC (.tup (kA rs)) (.int (j:Int)) h=À (.tup [.tup (zS r.ns),.tup (zS r.hs),zo r.body],h):=λh=>D3 ∅ ∅ (by have:=sg hr;simpa[dE] using this)
 obtain⟨xs,h1,h2,h3⟩:=rD (a:=a) HD hN hO hH lN lO lH ((_root_.List.range (r.ns.length+r.hs.length)).map λ(i:Nat)=>(i:Int));erw[zP,q9] at h1 h3;have wt:=tZ (l:=xs.take r.ns.length) λx hx=>h2 x (List.mem_of_mem_take hx)
 have wd:=tZ (l:=xs.drop r.ns.length) λx hx=>h2 x (qL hx)
 have ww:Wf rs rs.length (.call j (xs.take r.ns.length) (xs.drop r.ns.length)) N O H:=by
  erw[Wf];exact⟨O2,⟨r,hr,by rw[qP];omega,by rw[vh];omega⟩,wt.1,wd.1⟩
 have dd:ku (.call j (xs.take r.ns.length) (xs.drop r.ns.length))<=d+1:=by erw[ku];omega
 refine⟨.call j (xs.take r.ns.length) (xs.drop r.ns.length),λh=>?_,ww,dd⟩
 .have pw:=Fu.dt1 ww hN hO hH dd
  erw[zo,x5,List.map_take,List.map_drop] at pw ⊢;refine Vi (t:=[.lst (xs.map zo)]) ?_ pw;clear pw ww wt wd;generalize kA rs=rl at er ei h3 ⊢;obtain⟨o,e3⟩:=h3 h [] (À (.int (j:Int))) (À (.int (r.ns.length:Int))) Á (by simp;omega);rw[kJ] at e3;suffices hs:cL G (ρC ns a ((d:Int)+1) (kn N O H) rl Á Á Á Á) h=À (.ret (th "call" [.int (j:Int),.tup ((xs.map zo).take r.ns.length),.tup ((xs.map zo).drop r.ns.length)]),h++[.lst (xs.map zo)]) by
   erw[kg,zp,zV,kE,zx,jk,Æ,jl,kJ];erw[ρC] at hs;erw[hs]
  have c0:(0:Nat)<=cap:=by decide
  have c4:(4:Nat)<=cap:=by decide
  have s0:XA G (ρC ns a ((d:Int)+1) (kn N O H) rl Á Á Á Á) h=À (.nx (ρC ns a ((d:Int)+1) (kn N O H) rl (À (.int (j:Int))) Á Á Á),h):=by
   simp![XA,addW,qc,kN,er]
  have s1:Xd G (ρC ns a ((d:Int)+1) (kn N O H) rl (À (.int (j:Int))) Á Á Á) h=À (.nx (ρC ns a ((d:Int)+1) (kn N O H) rl (À (.int (j:Int))) (À (.int (r.ns.length:Int))) Á Á),h):=by
   simp![Xd,ei,ux,kN,vE]
  have s2:Xm G (ρC ns a ((d:Int)+1) (kn N O H) rl (À (.int (j:Int))) (À (.int (r.ns.length:Int))) Á Á) h=À (.nx (ρC ns a ((d:Int)+1) (kn N O H) rl (À (.int (j:Int))) (À (.int (r.ns.length:Int))) (À (.ref h.length)) Á),h++[.lst []]):=by
   simp![Xm,xE,c0]
  have s3:Xc G (ρC ns a ((d:Int)+1) (kn N O H) rl (À (.int (j:Int))) (À (.int (r.ns.length:Int))) (À (.ref h.length)) Á) (h++[.lst []])=À (.nx (ρC ns a ((d:Int)+1) (kn N O H) rl (À (.int (j:Int))) (À (.int (r.ns.length:Int))) (À (.ref h.length)) o),h++[.lst (xs.map zo)]):=by
   rw[<-e3];have ir:(vj [zi addW (ze 6) (zh kN [zi zC (zi zC (ze 4) (ze 5)) (PL 1)])]) (ρC ns a ((d:Int)+1) (kn N O H) rl (À (.int (j:Int))) (À (.int (r.ns.length:Int))) (À (.ref h.length)) Á) (h++[.lst []])=À (.items (upto (r.ns.length+r.hs.length)),h++[.lst []]):=by
    have q:-(2 ^ 62:Int)<=(r.ns.length:Int)+(r.hs.length:Int)/\(r.ns.length:Int)+(r.hs.length:Int)<2 ^ 62:=by omega
    have q2:((r.ns.length:Int)+(r.hs.length:Int)).toNat=r.ns.length+r.hs.length:=by omega
    have lw:∀h,kN [.tup (zS r.hs)] h=À (.int (r.hs.length:Int),h):=λh=>by simp[kN,vE]
    have ad:∀h,addW (.int (r.ns.length:Int)) (.int (r.hs.length:Int)) h=À (.int ((r.ns.length:Int)+(r.hs.length:Int)),h):=λh=>by simp[addW,qc]
    have LD:∀h,bX [.int ((r.ns.length:Int)+(r.hs.length:Int))] h=À (.items (upto (r.ns.length+r.hs.length)),h):=λh=>by
     unfold bX;simp only;rw[z9 q,q2]
    simp![vj,ei,xo,lw,ad,LD]
   unfold Xc uk;rw[ir];simp only;rw[p9]
  have s4:Xq G (ρC ns a ((d:Int)+1) (kn N O H) rl (À (.int (j:Int))) (À (.int (r.ns.length:Int))) (À (.ref h.length)) o) (h++[.lst (xs.map zo)])=À (.ret (th "call" [.int (j:Int),.tup ((xs.map zo).take r.ns.length),.tup ((xs.map zo).drop r.ns.length)]),h++[.lst (xs.map zo)]):=by
   have t1:=Qv (l:=xs.map zo) (k:=r.ns.length) (by rw[zP];omega);have t2:=mR (l:=xs.map zo) (k:=r.ns.length);simp![Xq,u5,fe,nz,getL,at0,uA,zt,c4,t1,t2]
  rw[CQ,zw s0,zw s1,zw s2,zw s3,s4]
theorem Hs(m:Nat)(F:Fs):up (m+4) F=step (step (step (step (up m F)))):=rfl
theorem io{ns:List Int}(hl:ns.length<=63)(Fu:RG rs)(F:Fs):∀(d:Nat),d<=4->∀m,4+2*d<=m->dA (up m F) ns rs d
 | 0,_,m,hm=>by
  obtain⟨m',rfl⟩:∃m',m=m'+4:=⟨m-4,by omega⟩;rw[Hs];exact QB Fu hl
 | d+1,hd,m,hm=>by
  obtain⟨m',rfl⟩:∃m',m=m'+4:=⟨m-4,by omega⟩;rw[Hs];exact V1 Fu hl ∅ (io hl Fu F d ∅ (m'+3) ∅) λAW=>QZ hl Fu AW (io hl Fu F d ∅ (m'+2) ∅)
mutual
theorem xh:∀(d:D) {N O H:List Ç},Wf rs k d N O H->Wf (rs++[r]) k d N O H
 | .number i,N,O,H,w=>by erw[Wf]
 | .name v,N,O,H,w | .read v,N,O,H,w | .doo v,N,O,H,w=>by erw[Wf] at w ⊢;exact w
 | .ask,N,O,H,w=>by erw[Wf]
 | .write v a,N,O,H,w=>by erw[Wf] at w ⊢;exact⟨w.1,xh a w.2⟩
 | .say a,N,O,H,w=>by erw[Wf] at w ⊢;exact xh a w
 | .lett v a b,N,O,H,w | .own v a b,N,O,H,w=>by erw[Wf] at w ⊢;exact⟨w.1,xh a w.2.1,xh b w.2.2⟩
 | .add a b,N,O,H,w | .less a b,N,O,H,w | .thenn a b,N,O,H,w | .loop a b,N,O,H,w=>by erw[Wf] at w ⊢;exact⟨xh a w.1,xh b w.2⟩
 | .iff a b c,N,O,H,w=>by erw[Wf] at w ⊢;exact⟨xh a w.1,xh b w.2.1,xh c w.2.2⟩
 | .call i as bs,N,O,H,w=>by
  erw[Wf] at w ⊢;obtain⟨hi,⟨r',hr,la,lb⟩,wa,wb⟩:=w;exact⟨hi,⟨r',by rw[zy (kd hr)];exact hr,la,lb⟩,m8 as wa,m8 bs wb⟩
theorem m8:∀(l:List D) {N O H:List Ç},xl rs k l N O H->xl (rs++[r]) k l N O H
 | [],N,O,H,w=>by erw[xl]
 | d::l,N,O,H,w=>by erw[xl] at w ⊢;exact⟨xh d w.1,m8 l w.2⟩
end
def RG.snoc{rs:List Rule}(h:RG rs)(hl:rs.length<=1){r:Rule}(ln:r.ns.length<=2/\r.hs.length<=2)(w1:wn r.ns)(w2:wh r.hs)(w:Wf rs rs.length r.body r.ns [] r.hs)(hd:ku r.body<=2):RG (rs++[r]):=by
 have get:∀(i:Nat) (r':Rule),(rs++[r])[i]?=À r'->(i=rs.length/\r'=r)\/rs[i]?=À r':=λi r' e=>by
  by_cases q:i<rs.length
  .rw[zy q] at e;exact .inr e
  .rw[zF ∅] at e
   have z:i-rs.length=0:=by have:=kd e;simp at this;omega
   rw[z] at e;injection e with e;exact .inl ⟨by omega,e.symm⟩
 refine⟨by simp;omega,⟨λi r' e=>?_,λi r' e=>?_,λi r' e=>?_⟩,λi r' e=>?_⟩
 .rcases get i r' e with ⟨rfl,rfl⟩ | z
  .exact xh _ w
  .exact xh _ (h.g.w i r' z)
 .rcases get i r' e with ⟨rfl,rfl⟩ | z
  .exact λv hv=>B3 w2 (w1 v hv)
  .exact h.g.d i r' z
 .rcases get i r' e with ⟨rfl,rfl⟩ | z
  .omega
  .exact h.g.l i r' z
 .rcases get i r' e with ⟨rfl,rfl⟩ | z
  .exact⟨ln,w1,w2,hd⟩
  .exact h.b i r' z
noncomputable abbrev ρR(ns:List Int)(a:Int)(rl:List W)(o3 o4 o5 o6:Option W):En:=[À (qk ns),À (.int a),À (.tup rl),o3,o4,o5,o6]
noncomputable def QY(F:Fs):MS:=(zk (zI (zi zC (zh vS [zh zt [],zh zt [SD "x"],zh zt [SD "y",SD "x"]]) (zh F.aa [ze 0,zi addW (zi addW (ze 1) (PL 1)) (zi kH (PL 5) (ze 3)),PL 3])) (zD 4))
 (zk (zI (zi zC (zh vS [zh zt [],zh zt [SD "f"],zh zt [SD "f",SD "g1"]]) (zh F.aa [ze 0,zi addW (zi addW (ze 1) (PL 2)) (zi kH (PL 5) (ze 3)),PL 3])) (zD 5))
 (zk (zI (zh F.az [ze 0,zi addW (zi addW (ze 1) (PL 20)) (zi kH (PL 7) (ze 3)),PL 2,zh zt [ze 4,zh zt [],ze 5],ze 2]) (zD 6))
 (zI (zi addW (ze 2) (zh zt [zh zt [ze 4,ze 5,ze 6]])) (zD 2)))))
theorem nL{G:Fs}(e:∀(k many:Int) (h:MH),0<many->G.aa [qk ns,.int k,.int many] h=À (.int (vw ns k many),h))(HD:∀rs,RG rs->dA G ns rs 2) :
  ∀(is:List Int) (rs:List Rule),RG rs->rs.length+is.length<=2->∃FB,RG FB/\∀(h:MH) (o3 o4 o5 o6:Option W),∃p3 p4 p5 p6,forL (zD 3) (QY G) (is.map W.int) (ρR ns a (kA rs) o3 o4 o5 o6) h=À (.nx (ρR ns a (kA FB) p3 p4 p5 p6),h)
 | [],rs,hr,_=>⟨rs,hr,λh o3 o4 o5 o6=>⟨o3,o4,o5,o6,by simp[forL]⟩⟩
 | i::is,rs,hr,hl=>by
  erw[zp] at hl;have c0:(0:Nat)<=cap:=by decide
  have c1:(1:Nat)<=cap:=by decide
  have c2:(2:Nat)<=cap:=by decide
  have c3:(3:Nat)<=cap:=by decide
  obtain⟨v1,O3,Si⟩:=fT (l:=[.tup [],.tup [.str "x"],.tup [.str "y",.str "x"]]) (kG (ns:=ns) (k:=a+1+5*i) (many:=3) ∅).1 (by simpa using (kG (ns:=ns) (k:=a+1+5*i) (many:=3) ∅).2);have:∃N:List Ç,v1=.tup (zS N)/\N.length<=2/\wn N:=by
   erw[zb,zc,zO] at O3;rcases O3 with rfl | rfl | rfl
   .exact⟨[],rfl,by simp,λv hv=>by simp at hv⟩
   .exact⟨["x"],rfl,by simp,λv hv=>by erw[zb,zc,zO] at hv;exact .inl hv⟩
   .exact⟨["y","x"],rfl,by simp,λv hv=>by erw[zb,zc,zO] at hv;rcases hv with hv | hv;exact .inr (.inl hv);exact .inl hv⟩
  obtain⟨N,rfl,lN,wN⟩:=this;obtain⟨v2,LQ,Sj⟩:=fT (l:=[.tup [],.tup [.str "f"],.tup [.str "f",.str "g1"]]) (kG (ns:=ns) (k:=a+2+5*i) (many:=3) ∅).1 (by simpa using (kG (ns:=ns) (k:=a+2+5*i) (many:=3) ∅).2);have:∃N:List Ç,v2=.tup (zS N)/\N.length<=2/\wh N:=by
   erw[zb,zc,zO] at LQ;rcases LQ with rfl | rfl | rfl
   .exact⟨[],rfl,by simp,λv hv=>by simp at hv⟩
   .exact⟨["f"],rfl,by simp,λv hv=>by erw[zb,zc,zO] at hv;exact .inl hv⟩
   .exact⟨["f","g1"],rfl,by simp,λv hv=>by erw[zb,zc,zO] at hv;exact hv⟩
  obtain⟨H,rfl,lH,wH⟩:=this;obtain⟨x,ew,wx,dx⟩:=HD rs hr (a+20+7*i) N [] H wN (λv hv=>by simp at hv) wH ∅ (by simp) ∅;obtain⟨FB,Ng,ih⟩:=nL (a:=a) e HD is (rs++[⟨N,H,x⟩]) (hr.snoc ∅ ⟨lN,lH⟩ wN wH wx dx) (by simp;omega);refine⟨FB,Ng,λh o3 o4 o5 o6=>?_⟩;obtain⟨p3,p4,p5,p6,e6⟩:=ih h (À (.int i)) (À (.tup (zS N))) (À (.tup (zS H))) (À (zo x));refine⟨p3,p4,p5,p6,?_⟩;have LD:kA (rs++[⟨N,H,x⟩])=kA rs++[.tup [.tup (zS N),.tup (zS H),zo x]]:=by simp[kA,dE]
  have rl:(kA rs).length=rs.length:=by unfold kA;rw[zP]
  rw[LD] at e6;erw[zx];unfold forL;have g:zD 3 (.int i) (ρR ns a (kA rs) o3 o4 o5 o6) h=À (ρR ns a (kA rs) (À (.int i)) o4 o5 o6,h):=by simp[zD]
  rw[g];have cr:(kA rs).length+1<=cap:=zK (show(kA rs).length+1<=10 by omega) (by decide);generalize kA rs=rl at ew e6 cr ⊢;have a1:∀x y:Int,∀h,addW (.int x) (.int y) h=À (.int (x+y),h):=λx y h=>by simp[addW,qc]
  have a2:∀w h,addW (.tup rl) (.tup [w]) h=À (.tup (rl++[w]),h):=λw h=>by
   erw[addW,qc,zp,zV];rw[z9 (by simpa using cr)]
  have Ae:∀h,G.az [qk ns,.int (a+20+7*i),.int 2,.tup [.tup (zS N),.tup [],.tup (zS H)],.tup rl] h=À (zo x,h):=λh=>ew h
  have b:QY G (ρR ns a rl (À (.int i)) o4 o5 o6) h=À (.nx (ρR ns a (rl++[.tup [.tup (zS N),.tup (zS H),zo x]]) (À (.int i)) (À (.tup (zS N))) (À (.tup (zS H))) (À (zo x))),h):=by
   unfold QY;rw[zw (ρ':=ρR ns a rl (À (.int i)) (À (.tup (zS N))) o5 o6) (h':=h) (by simp![zt,vS,c0,c1,c2,c3,a1,m5,e (a+1+5*i) 3 _ ∅,Si])];rw[zw (ρ':=ρR ns a rl (À (.int i)) (À (.tup (zS N))) (À (.tup (zS H))) o6) (h':=h) (by simp![zt,vS,c0,c1,c2,c3,a1,m5,e (a+2+5*i) 3 _ ∅,Sj])];rw[zw (ρ':=ρR ns a rl (À (.int i)) (À (.tup (zS N))) (À (.tup (zS H))) (À (zo x))) (h':=h) (by simp![zt,c0,c3,a1,m7,Ae])];simp![zt,c1,c3,a2]
  erw[b];rw[e6]
def UJ{ns:List Int}(hl:ns.length<=63)(hm:8<=m):∃rs,RG rs/\∀h,(step (up m F)).bV [qk ns,.int 1] h=À (.tup (kA rs),h):=by
 have HD:=λrs (hr:RG rs)=>io hl hr F 2 ∅ m ∅
 have e:∀(k many:Int) (h:MH),0<many->(up m F).aa [qk ns,.int k,.int many] h=À (.int (vw ns k many),h):=by
  obtain⟨m',rfl⟩:∃m',m=m'+2:=⟨m-2,by omega⟩;exactλk many h hm=>uY (F:=up m' F) hl hm
 generalize up m F=G at e HD;have rg:=kG (ns:=ns) (k:=1) (many:=3) ∅;have e1:=λh=>e 1 3 h ∅
 obtain⟨j,hj⟩:=qp rg.1;rw[hj] at rg e1;obtain⟨FB,Ng,ih⟩:=nL (a:=1) e HD ((_root_.List.range j).map λ(i:Nat)=>(i:Int)) [] ⟨by simp,⟨λi r hi=>by simp at hi,λi r hi=>by simp at hi,λi r hi=>by simp at hi⟩,λi r hi=>by simp at hi⟩ (by simp;omega);refine⟨FB,Ng,λh=>wf (n:=8) ?_ Ng.dt⟩;obtain⟨p3,p4,p5,p6,e6⟩:=ih h Á Á Á Á;have e6:forL (zD 3) (QY G) (((_root_.List.range j).map λ(i:Nat)=>(i:Int)).map W.int) (ρR ns 1 [] Á Á Á Á) h=_:=e6;have c0:(0:Nat)<=cap:=by decide
 have s0:Y7 G [À (qk ns),À (.int 1),Á,Á,Á,Á,Á] h=À (.nx (ρR ns 1 [] Á Á Á Á),h):=by
  simp![Y7,zt,c0]
 have s1:FT G (ρR ns 1 [] Á Á Á Á) h=À (.nx (ρR ns 1 (kA FB) p3 p4 p5 p6),h):=by
  rw[<-e6];have ir:(vj [zh G.aa [ze 0,ze 1,PL 3]]) (ρR ns 1 [] Á Á Á Á) h=À (.items (upto j),h):=by
   have q:-(2 ^ 62:Int)<=(j:Int)/\(j:Int)<2 ^ 62:=by omega
   have LD:∀h,bX [.int (j:Int)] h=À (.items (upto j),h):=λh=>by
    unfold bX;simp only;rw[z9 q,qj]
   simp![vj,e1,LD]
  show(uk _ _ (QY G)) _ _=_
  unfold uk;rw[ir];simp only;rw[p9]
 have hs:cu G [À (qk ns),À (.int 1),Á,Á,Á,Á,Á] h=À (.ret (.tup (kA FB)),h):=by
  rw[Dv,zw s0,zw s1];simp![FL]
 erw[kg,zp,zV,kE,zx,jk,Æ,jl,kJ];erw[hs]
def RG.good(h:RG rs):RulesGood (kA rs):=⟨λi hi=>by
 have ED:i<rs.length:=by unfold kA at hi;rw[zP] at hi;exact hi
 have hr:rs[i]?=À rs[i]:=zE ED;obtain⟨⟨l1,l2⟩,w1,w2,d2⟩:=h.b i _ hr
 exact⟨zS rs[i].ns,rs[i].hs,zo rs[i].body,sg hr,jS (y6 (n:=2) h.g.l rs[i].body (h.g.w i _ hr) (Zj w1) (λv hv=>by simp at hv) (ZC w2) d2) ∅,ZH 2 (h.g.w i _ hr) d2,by omega⟩⟩
def Kj{ns:List Int}(hl:ns.length<=63)(hm:15<=m)(hr:RG rs):∃x:D,Cd rs x/\ku x<=2/\∀h,(step (up m F)).aF [qk ns,.int a,.int 2,.tup (kA rs)] h=À (zo x,h):=by
 have n0:wn []:=λv hv=>by simp at hv
 have o0:wo []:=λv hv=>by simp at hv
 have h0:wh []:=λv hv=>by simp at hv
 obtain⟨x,ew,p,o⟩:=io hl hr F 2 ∅ m ∅ a [] [] [] n0 o0 h0 (by simp) (by simp) (by simp);have Oe:(kA rs).length=rs.length:=by unfold kA;rw[zP]
 obtain⟨v,ev⟩:=hU hr.good F m (kA rs).length 3 (by have:=hr.l;omega) ∅ ∅ [] (zo x) [] (by rw[Oe];exact ZH 2 p o) (jS (hr.dt1 p n0 o0 h0 o) ∅) (λp hp=>by simp at hp);have e:∀(k many:Int) (h:MH),0<many->(up m F).aa [qk ns,.int k,.int many] h=À (.int (vw ns k many),h):=by
  obtain⟨m',rfl⟩:∃m',m=m'+2:=⟨m-2,by omega⟩;exactλk many h hm=>uY (F:=up m' F) hl hm
 generalize up m F=G at e ew ev;have c0:(0:Nat)<=cap:=by decide
 have c2:(2:Nat)<=cap:=by decide
 have c3:(3:Nat)<=cap:=by decide
 have Ae:∀h,G.az [qk ns,.int a,.int 2,.tup [.tup [],.tup [],.tup []],.tup (kA rs)] h=À (zo x,h):=λh=>ew h
 by_cases k:80<v
 .have rg:=kG (ns:=ns) (k:=a) (many:=4) ∅
  have e1:=λh=>e a 4 h ∅
  generalize vw ns a 4=y at rg e1;have:∃c:Ç,c∈SH/\∀h,zC (.str "abcd") (.int y) h=À (.str c,h):=by
   have hy:y=0\/y=1\/y=2\/y=3:=by omega
   have hc:(("abcd":Ç).length<=cap):=by decide +kernel
   have hx:("abcd":Ç).cps.toList=[97,98,99,100]:=by decide +kernel
   rcases hy with rfl | rfl | rfl | rfl
   .exact⟨⟨#[97]⟩,by decide +kernel,λh=>by simp[zC,hc,hx,atI,xD]⟩
   .exact⟨⟨#[98]⟩,by decide +kernel,λh=>by simp[zC,hc,hx,atI,xD]⟩
   .exact⟨⟨#[99]⟩,by decide +kernel,λh=>by simp[zC,hc,hx,atI,xD]⟩
   .exact⟨⟨#[100]⟩,by decide +kernel,λh=>by simp[zC,hc,hx,atI,xD]⟩
  obtain⟨c,c6,ec⟩:=this;have wr:Cd rs (.read c):=by erw[Wf];exact .inl c6
  refine⟨.read c,wr,by erw[ku];omega,λh=>wf (n:=2) ?_ (hr.dt1 (n:=0) wr n0 o0 h0 (by erw[ku,zj]))⟩;simp![cg,zt,c0,c2,c3,Ae,ev,vv,k,e1,ec,zo]
 .refine⟨x,p,o,λh=>wf (n:=6) ?_ (hr.dt1 p n0 o0 h0 o)⟩
  simp![cg,zt,c0,c2,c3,Ae,ev,vv,k]
noncomputable def FF(P Q h:Nat):Nat->Nat
 | 0=>1+h
 | n+1=>(P+2)*FF P Q h n+Q
theorem XG:∀n,1+h<=FF P Q h n
 | 0=>zj _
 | n+1=>by
  have:=XG (P:=P) (Q:=Q) (h:=h) n;erw[FF,v9];omega
section
variable{rs:List Rule}{B:Nat->Nat->Nat}{P Q h k:Nat}
def gp(hP:2<=P)(hQ:9<=Q)(h1:y<=4*x+9):y<=(P+2)*x+Q:=by
 have:=wM x hP;rw[v9];omega
mutual
theorem y0(hr:∀(i:Nat) (r:Rule),rs[i]?=À r->r.ns.length<=2)(hP:2<=P)(hQ:9<=Q)(hB:∀i,i<k->∀m,B i m+2<=P*m+Q):∀(d:D) {N O H:List Ç} {n:Nat},Wf rs k d N O H->ku d<=n->cost B h d<=FF P Q h n
 | .number i,N,O,H,n,w,hd | .name v,N,O,H,n,w,hd | .read v,N,O,H,n,w,hd | .doo v,N,O,H,n,w,hd | .ask,N,O,H,n,w,hd=>by have:=XG (P:=P) (Q:=Q) (h:=h) n;erw[cost];omega
 | .write v a,N,O,H,n,w,hd=>by
  erw[Wf] at w;erw[ku] at hd;obtain⟨m,rfl⟩:∃m,n=m+1:=⟨n-1,by omega⟩;have:=y0 hr hP hQ hB a w.2 (show ku a<=m by omega);exact gp hP hQ (by erw[cost];omega)
 | .say a,N,O,H,n,w,hd=>by
  erw[Wf] at w;erw[ku] at hd;obtain⟨m,rfl⟩:∃m,n=m+1:=⟨n-1,by omega⟩;have:=y0 hr hP hQ hB a w (show ku a<=m by omega);exact gp hP hQ (by erw[cost];omega)
 | .lett v a b,N,O,H,n,w,hd | .own v a b,N,O,H,n,w,hd=>by
  erw[Wf] at w;erw[ku] at hd;obtain⟨m,rfl⟩:∃m,n=m+1:=⟨n-1,by omega⟩;have:=y0 hr hP hQ hB a w.2.1 (show ku a<=m by omega);have:=y0 hr hP hQ hB b w.2.2 (show ku b<=m by omega);exact gp hP hQ (by erw[cost];omega)
 | .add a b,N,O,H,n,w,hd | .less a b,N,O,H,n,w,hd | .thenn a b,N,O,H,n,w,hd | .loop a b,N,O,H,n,w,hd=>by
  erw[Wf] at w;erw[ku] at hd;obtain⟨m,rfl⟩:∃m,n=m+1:=⟨n-1,by omega⟩;have:=y0 hr hP hQ hB a w.1 (show ku a<=m by omega);have:=y0 hr hP hQ hB b w.2 (show ku b<=m by omega);exact gp hP hQ (by erw[cost];omega)
 | .iff a b c,N,O,H,n,w,hd=>by
  erw[Wf] at w;erw[ku] at hd;obtain⟨m,rfl⟩:∃m,n=m+1:=⟨n-1,by omega⟩;have:=y0 hr hP hQ hB a w.1 (show ku a<=m by omega);have:=y0 hr hP hQ hB b w.2.1 (show ku b<=m by omega);have:=y0 hr hP hQ hB c w.2.2 (show ku c<=m by omega);exact gp hP hQ (by erw[cost];omega)
 | .call i as bs,N,O,H,n,w,hd=>by
  erw[Wf] at w;obtain⟨hi,⟨r,Nd,la,lb⟩,wa,wb⟩:=w;erw[ku] at hd;obtain⟨m,rfl⟩:∃m,n=m+1:=⟨n-1,by omega⟩;have h1:=(mO hr hP hQ hB as wa (show uL as<=m by omega)).1;have h2:=(mO hr hP hQ hB bs wb (show uL bs<=m by omega)).2;have h3:=hB i hi (uq B h bs);have h4:=Nat.mul_le_mul_left P h2;have h5:=wM (FF P Q h m) (show as.length<=2 by have:=hr i r Nd;omega);erw[cost,FF,v9];omega
theorem mO(hr:∀(i:Nat) (r:Rule),rs[i]?=À r->r.ns.length<=2)(hP:2<=P)(hQ:9<=Q)(hB:∀i,i<k->∀m,B i m+2<=P*m+Q):∀(l:List D) {N O H:List Ç} {n:Nat},xl rs k l N O H->uL l<=n->uJ B h l<=l.length*FF P Q h n/\uq B h l<=FF P Q h n
 | [],N,O,H,n,w,hd=>by simp[uJ,uq]
 | d::l,N,O,H,n,w,hd=>by
  erw[xl] at w;erw[uL] at hd;have h1:=y0 hr hP hQ hB d w.1 (show ku d<=n by omega);have h2:=mO hr hP hQ hB l w.2 (show uL l<=n by omega);erw[uJ,uq,zp,v9,Nat.one_mul];omega
end
end
theorem RG.cost(h:RG rs)(w:Cd rs d)(hd:ku d<=2):cst rs d<=604297:=by
 have ln:∀(i:Nat) (r:Rule),rs[i]?=À r->r.ns.length<=2:=λi r e=>(h.b i r e).1.1
 have b0:∀K,∀r,rs[0]?=À r->0<K->∀m,ya rs K 0 m+2<=16*m+63:=λK r e hK m=>by
  rw[dS e hK];show K13.cost (ya rs 0) m r.body+2<=_
  have:=y0 (B:=ya rs 0) (P:=2) (Q:=9) (h:=m) (k:=0) ln ∅ ∅ (λi hi=>by omega) r.body (n:=2) (h.g.w 0 r e) (h.b 0 r e).2.2.2;erw[FF] at this;omega
 have b1:∀K,∀r,rs[1]?=À r->1<K->∀m,ya rs K 1 m+2<=324*m+1523:=λK r e hK m=>by
  rw[dS e hK];show K13.cost (ya rs 1) m r.body+2<=_
  have:=y0 (B:=ya rs 1) (P:=16) (Q:=63) (h:=m) (k:=1) ln ∅ ∅ (λi hi m=>by
   have:i=0:=by omega
   subst this;have l0:0<rs.length:=by have:=kd e;omega
   exact b0 1 _ (zE l0) ∅ m) r.body (n:=2) (h.g.w 1 r e) (h.b 1 r e).2.2.2
  erw[FF] at this;omega
 have:=y0 (B:=ya rs rs.length) (P:=324) (Q:=1523) (h:=0) (k:=rs.length) ln ∅ ∅ (λi hi m=>by
  have hl:=h.l;have e:=zE hi;have:i=0\/i=1:=by omega
  rcases this with rfl | rfl
  .have:=b0 rs.length _ e hi m;omega
  .exact b1 rs.length _ e hi m) d (n:=2) w hd
 erw[FF] at this;omega
noncomputable def gd:Nat->W->Bool
 | 0,_=>Â
 | _+1,.int _=>Ã
 | n+1,.tup l=>l.all (gd n)
 | n+1,.fls l=>l.all (gd n)
 | _+1,_=>Â
theorem oW{f:W->Option Ų}:∀{l:List W},(∀w∈l,∃d,f w=À d/\ó d d=Ã)->∃ds,va f l=À ds/\Ġ ds ds=Ã
 | [],_=>⟨[],rfl,by simp[Ġ]⟩
 | w::l,h=>by
  obtain⟨d,e1,e2⟩:=h w kj;obtain⟨ds,e3,e4⟩:=oW (l:=l) λw hw=>h w (zM _ hw)
  exact⟨d::ds,by unfold va;rw[e1,e3],by simp[Ġ,e2,e4]⟩
theorem oB:∀{n m:Nat} {w:W},gd n w=Ã->n<=m->∃d,kT m h w=À d/\ó d d=Ã
 | 0,_,_,g,_=>by cases g
 | n+1,0,_,_,hm=>by omega
 | n+1,m+1,.int i,_,_=>⟨.int i,rfl,by simp[ó]⟩
 | n+1,m+1,.tup l,g,hm=>by
  unfold gd at g;obtain⟨ds,e1,e2⟩:=oW (f:=kT m h) (l:=l) λw hw=>oB (kW.mp g w hw) ∅
  exact⟨.tuple ds,by unfold kT;rw[e1];rfl,by erw[ó];exact e2⟩
 | n+1,m+1,.fls l,g,hm=>by
  unfold gd at g;obtain⟨ds,e1,e2⟩:=oW (f:=kT m h) (l:=l) λw hw=>oB (kW.mp g w hw) ∅
  exact⟨.list ds,by unfold kT;rw[e1];rfl,by erw[ó];exact e2⟩
 | n+1,_,.non,g,_=>by cases g
 | n+1,_,.bl _,g,_=>by cases g
 | n+1,_,.str _,g,_=>by cases g
 | n+1,_,.ref _,g,_=>by cases g
 | n+1,_,.fdc _,g,_=>by cases g
 | n+1,_,.fn _,g,_=>by cases g
def Zr(g:gd n w=Ã)(hn:n<=60):eqB h w w=À Ã:=by
 obtain⟨d,e1,e2⟩:=oB (h:=h) g (show n<=deep from hn);unfold eqB;cases w with
 | int i=>simp[pQ]
 | tup l=>erw[pQ,e1,e2]
 | fls l=>erw[pQ,e1,e2]
 | _=>cases n<;>cases g
theorem Uj(l:List Int):gd (n+2) (.fls (l.map .int))=Ã:=by
 unfold gd;rw[xq];exact kW.mpr λx _=>rfl
theorem GT(st:Ç->Int):gd (n+2) (vc st)=Ã:=by
 unfold vc gd;rw[xq];exact kW.mpr λx _=>rfl
theorem Zq:gd 3 (lq v r)=Ã:=by
 unfold lq gd;erw[jw,List.all_nil,GT,Uj,Bool.true_and,Bool.and_true];rfl
noncomputable def stOf(a b c d:Int):Ç->Int:=λv=>if v="a" then a else if v="b" then b else if v="c" then c else d
def DI(a b c d:Int):vc (stOf a b c d)=.tup [.int a,.int b,.int c,.int d]:=by
 have n1:¬("b":Ç)="a":=by decide +kernel
 have n2:¬("c":Ç)="a":=by decide +kernel
 have n3:¬("c":Ç)="b":=by decide +kernel
 have n4:¬("d":Ç)="a":=by decide +kernel
 have n5:¬("d":Ç)="b":=by decide +kernel
 have n6:¬("d":Ç)="c":=by decide +kernel
 erw[vc,SH,zx,jk,stOf,n1,n2,n3,n4,n5,n6,kE,je]
section
variable{G F:Fs}{ns:List Int}
def U5(e:∀(k many:Int) (h:MH),0<many->G.aa [qk ns,.int k,.int many] h=À (.int (vw ns k many),h)):∃st,∀h,(step G).bO [qk ns,.int a] h=À (vc st,h):=by
 refine⟨stOf (vw ns (a+0) 6) (vw ns (a+1) 6) (vw ns (a+2) 6) (vw ns (a+3) 6),λh=>?_⟩;show gc (kg 2 0 (bY G)) _ _=_
 refine xS (h':=h) (yv (ρ:=[À (qk ns),À (.int a)]) rfl rfl ?_) l8 (zR _);have rg:vj [PL 4] [À (qk ns),À (.int a)] h=À (.items [.int 0,.int 1,.int 2,.int 3],h):=by
  erw[vj,ko,bnd,eC,bX];rw[z9 ∅];rfl
 have c:=fh (mi:=vj [PL 4]) (ks:=[0,1]) (t:=kL) (m:=zh G.aa [ze 1,zi addW (ze 2) (ze 0),PL 6]) (ρ:=[À (qk ns),À (.int a)]) (h:=h) (l:=[.int 0,.int 1,.int 2,.int 3]) (λ_=>Ã) (λw=>match w with | .int i=>.int (vw ns (a+i) 6) | w=>w)
  rg (λw _ H'=>rfl) (λw hw _ H'=>by
   have:∃i,w=.int i:=by
    erw[zb,zc,zO] at hw;rcases hw with rfl | rfl | rfl | rfl<;>exact⟨_,rfl⟩
   obtain⟨i,rfl⟩:=this;erw[zh,ko,bnd,zi,ze,eC,zx,jk,zA,zm,wj,addW,qc];exact e _ _ _ ∅) (λw hw _=>by
   erw[zb,zc,zO] at hw
   rcases hw with rfl | rfl | rfl | rfl<;>exact vT) (by decide)
 rw[filter_true] at c;unfold bY;erw[ka,zh,ko,bnd,zi,ze,eC] at c ⊢;erw[c,uA,getL,DI,zx,jk]
theorem Us(e:∀(k many:Int) (h:MH),0<many->G.aa [qk ns,.int k,.int many] h=À (.int (vw ns k many),h)):∃ans:List Int,ans.length<=4/\∀h,(step G).bT [qk ns,.int a] h=À (.fls (ans.map .int),h):=by
 have Sk:=kG (ns:=ns) (k:=a) (many:=4) ∅;obtain⟨j,hj⟩:=qp Sk.1;refine⟨(_root_.List.range j).map λ(i:Nat)=>vw ns (a+1+(i:Int)) 9,by simp;omega,λh=>?_⟩;show gc (kg 2 0 (b7 G)) _ _=_
 refine xS (h':=h) (yv (ρ:=[À (qk ns),À (.int a)]) rfl rfl ?_) iq (zR _);have rg:vj [zh G.aa [ze 0,ze 1,PL 4]] [À (qk ns),À (.int a)] h=À (.items (upto j),h):=by
  have q:-(2 ^ 62:Int)<=(j:Int)/\(j:Int)<2 ^ 62:=by omega
  erw[vj,ko,bnd,zh,ze,eC,zA,zm,e a 4 h ∅,hj,bX];rw[z9 q,qj]
 have c:=fh (mi:=vj [zh G.aa [ze 0,ze 1,PL 4]]) (ks:=[0,1]) (t:=kL) (m:=zh G.aa [ze 1,zi addW (zi addW (ze 2) (PL 1)) (ze 0),PL 9]) (ρ:=[À (qk ns),À (.int a)]) (h:=h) (l:=upto j) (λ_=>Ã) (λw=>match w with | .int i=>.int (vw ns (a+1+i) 9) | w=>w)
  rg (λw _ H'=>rfl) (λw hw _ H'=>by
   obtain⟨i,_,rfl⟩:=jf.mp hw;erw[zh,ko,bnd,zi,ze,eC,zx,jk,zA,zm,wj,addW,qc];exact e _ _ _ ∅) (λw hw _=>by
   obtain⟨i,_,rfl⟩:=jf.mp hw
   exact vT) (by unfold upto;rw[zP,q9];exact zK (show j<=4 by omega) (by decide))
 rw[filter_true] at c;unfold b7;unfold ka;rw[c];erw[upto,vg];rfl
end
def np:¬(("p":Ç)∈SH):=by decide +kernel
def nq:¬(("q":Ç)∈SH):=by decide +kernel
def mX(l r:List Int)(x:Int):(l++[x]++r).getD l.length 0=x:=by
 rw[j8,zY,zF (zj _)];simp
def QQ(l:List Int)(x:Int):(l++[x]).getD l.length 0=x:=by simpa using mX l [] x
def get_set(l r:List Int)(x y:Int):((l++[x]++r).set l.length y).getD l.length 0=y:=by
 rw[zY,jK _ _ (zj _)];simpa using mX l r y
theorem c8(ρ:Sv)(x:Ç)(v:SV):us ρ x v x=v:=z9 rfl
def sub_snoc(h:∀v∈O,v∈O'):∀u∈O++[v],u∈O'++[v]:=λu hu=>(zU.mp hu).elim (λz=>jx _ (h u z)) (kY _)
def Wu(h:∀v∈O',v∈O\/v=("p":Ç)):∀u∈O'++[v],u∈O++[v]\/u=("p":Ç):=λu hu=>(zU.mp hu).elim (λz=>(h u z).imp_left (jx _)) λz=>.inl (kY _ z)
section
variable{rs:List Rule}{k:Nat}
mutual
theorem am:∀(d:D) {N O O' H:List Ç},(∀v∈O,v∈O')->(∀v∈O',v∈O\/v=("p":Ç))->Wf rs k d N O H->Wf rs k d N O' H
 | .number i,N,O,O',H,h,g,w | .ask,N,O,O',H,h,g,w=>by erw[Wf]
 | .name v,N,O,O',H,h,g,w | .doo v,N,O,O',H,h,g,w=>by erw[Wf] at w ⊢;exact w
 | .read v,N,O,O',H,h,g,w=>by erw[Wf] at w ⊢;exact w.imp_right (h v)
 | .write v a,N,O,O',H,h,g,w=>by erw[Wf] at w ⊢;exact⟨w.1.imp_right (h v),am a h g w.2⟩
 | .say a,N,O,O',H,h,g,w=>by erw[Wf] at w ⊢;exact am a h g w
 | .lett v a b,N,O,O',H,h,g,w=>by erw[Wf] at w ⊢;exact⟨⟨λz=>(g v z).elim w.1.1 w.1.2.2.2,w.1.2⟩,am a h g w.2.1,am b h g w.2.2⟩
 | .own v a b,N,O,O',H,h,g,w=>by erw[Wf] at w ⊢;exact⟨w.1,am a h g w.2.1,am b (sub_snoc h) (Wu g) w.2.2⟩
 | .add a b,N,O,O',H,h,g,w | .less a b,N,O,O',H,h,g,w | .thenn a b,N,O,O',H,h,g,w | .loop a b,N,O,O',H,h,g,w=>by erw[Wf] at w ⊢;exact⟨am a h g w.1,am b h g w.2⟩
 | .iff a b c,N,O,O',H,h,g,w=>by erw[Wf] at w ⊢;exact⟨am a h g w.1,am b h g w.2.1,am c h g w.2.2⟩
 | .call i as bs,N,O,O',H,h,g,w=>by erw[Wf] at w ⊢;exact⟨w.1,w.2.1,Jf as h g w.2.2.1,Jf bs h g w.2.2.2⟩
theorem Jf:∀(l:List D) {N O O' H:List Ç},(∀v∈O,v∈O')->(∀v∈O',v∈O\/v=("p":Ç))->xl rs k l N O H->xl rs k l N O' H
 | [],N,O,O',H,h,g,w=>by erw[xl]
 | d::l,N,O,O',H,h,g,w=>by erw[xl] at w ⊢;exact⟨am d h g w.1,Jf l h g w.2⟩
end
end
section
variable{rs:List Rule}{a b:D}
def oS(hr:RsOk rs)(w:Cd rs b)(ρ:Sv)(cs:List Int):den (Rr rs) b ρ cs=(den (Rr rs) b ρ0 []).bind λp=>.ret (p.1,cs++p.2):=by
 have:=ve (tm (pre:=cs) hr rs.length (zj _)) hr b (ρ1:=ρ0) (ρ2:=ρ) [] w ⟨λv hv=>by simp at hv,λv hv=>by simp at hv,λv hv=>by simp at hv⟩;rw[kh] at this;exact this
def Cw(hr:RsOk rs)(wa:Cd rs a):treeOf rs (.own "p" a (.read "p"))=treeOf rs a:=by
 refine Eq.trans ?_ ((uh hr wa [] .ret).trans (Tr.bind_ret _));conv=>lhs;unfold treeOf
 erw[den,Tr.bind_assoc,np,je,Tr.bind,c8,SV.c,QQ]
theorem GU(hr:RsOk rs)(wa:Cd rs a)(wb:Cd rs b):treeOf rs (.own "p" a b)=(treeOf rs a).bind λ_=>treeOf rs b:=by
 rw[<-uh hr wa []];conv=>lhs;unfold treeOf
 erw[den,Tr.bind_assoc];congr 1
 funext p
 rw[oS hr wb,Tr.bind_assoc];rfl
theorem UP(hr:RsOk rs)(wa:Cd rs a)(wb:Cd rs b):treeOf rs (.own "p" a (.thenn (.write "p" b) (.read "p")))=(treeOf rs a).bind λ_=>treeOf rs b:=by
 rw[<-uh hr wa []];conv=>lhs;unfold treeOf
 erw[den,Tr.bind_assoc,np,je,Tr.bind,c8,SV.c];congr 1
 funext p
 rw[oS hr wb,Tr.bind_assoc];erw[Tr.bind,get_set];rfl
def DQ(hr:RsOk rs)(wa:Cd rs a)(wb:Cd rs b):treeOf rs (.own "p" a (.thenn (.own "p" b (.read "p")) (.read "p")))=(treeOf rs a).bind λx=>(treeOf rs b).bind λ_=>.ret x:=by
 rw[<-uh hr wa []];conv=>lhs;unfold treeOf
 erw[den,Tr.bind_assoc,np,je,Tr.bind,c8,SV.c];congr 1
 funext p
 rw[oS hr wb,Tr.bind_assoc,<-uh hr wb []];erw[Tr.bind];congr 1
 funext q
 rw[zY (p.2++[p.1]),mX]
def B5(hr:RsOk rs)(wa:Cd rs a):treeOf rs (.own "p" a (.loop (.number 3) (.write "p" (.add (.read "p") (.number 1)))))=(treeOf rs a).bind λ_=>.ret 0:=by
 rw[<-uh hr wa []];conv=>lhs;unfold treeOf
 have e:((3:Int)%4).toNat=3:=by decide
 erw[den,Tr.bind_assoc,np,je,Tr.bind,e,rp]
theorem Vr:treeOf rs (.own "q" (.number 0) (.write "q" (.add (.read "q") (.number 1))))=.ret 1:=by
 unfold treeOf;erw[den,nq,je,Tr.bind,c8,SV.c];rfl
noncomputable abbrev dC:D:=.own "q" (.number 0) (.write "q" (.add (.read "q") (.number 1)))
def pO:Cd rs dC:=by
 erw[Wf];exact⟨⟨by simp,by simp,by decide +kernel⟩,trivial,.inr (by simp),.inr (by simp),trivial⟩
theorem Gp(hr:RsOk rs):treeOf rs (.thenn dC (.add dC dC))=.ret 2:=by
 have w:=pO (rs:=rs);have w2:Cd rs (.add dC dC):=by erw[Wf] at w ⊢;exact⟨w,w⟩
 rw[VP hr w w2,Hj hr w w,Vr];rfl
end
noncomputable abbrev rH:Rule:=⟨[],["f"],.own "p" (.number 5) (.thenn (.doo "f") (.read "p"))⟩
noncomputable abbrev dH:D:=.own "p" (.number 1) (.add (.call 0 [] [.write "p" (.number 8)]) (.read "p"))
def HM:RsOk [rH]:=by
 have at0:∀i r,([rH]:List Rule)[i]?=À r->i=0/\r=rH:=λi r e=>by
  rcases i with _ | i
  .exact⟨rfl,(zZ e).symm⟩
  .simp at e
 refine⟨λi r e=>?_,λi r e=>?_,λi r e=>?_⟩<;>obtain⟨rfl,rfl⟩:=at0 i r e
 .erw[Wf]
  exact⟨⟨by simp,by decide +kernel,by decide +kernel⟩,trivial,by simp,.inr (by simp)⟩
 .simp
 .simp
def Ll:Cd [rH] dH:=by
 erw[Wf,xl];exact⟨⟨by simp,by simp,by decide +kernel⟩,trivial,⟨by simp,⟨rH,rfl,rfl,rfl⟩,trivial,⟨.inr (by simp),trivial⟩,trivial⟩,.inr (by simp)⟩
def IJ:cst [rH] dH<=100:=by
 have e:ya [rH] 1 0=λh=>cost (ya [rH] 0) h rH.body:=dS rfl ∅
 show cost (ya [rH] 1) 0 dH<=100
 erw[cost,uJ,uq,e];omega
theorem IR:treeOf [rH] dH=.ret 13:=by
 unfold treeOf;erw[den,ef,ua,Tr.bind,np,je,c8,SV.c,zp,zV,dk];have e:Rr [rH] 0=λxs fs cs=>den (dk [rH] 0) rH.body (cρ rH xs fs) cs:=l6 rfl (by simp)
 have pf:¬("p":Ç)="f":=by decide +kernel
 rw[e];erw[den,Tr.bind,np,je,c8,SV.c,cρ,jm,List.zip_nil_left,List.zip_nil_right,jR,List.foldl_nil];erw[us,pf,je,kE,SV.f,Tr.bind];rfl
noncomputable abbrev dy:W:=.tup [.tup [],.tup [.str "f"],th "own" [.str "p",th "number" [.int 5],th "then" [th "do" [.str "f"],th "read" [.str "p"]]]]
noncomputable abbrev n1:W:=th "number" [.int 1]
noncomputable abbrev n8:W:=th "number" [.int 8]
noncomputable abbrev wW:W:=th "write" [.str "p",n8]
noncomputable abbrev wR:W:=th "read" [.str "p"]
noncomputable abbrev wC:W:=th "call" [.int 0,.tup [],.tup [wW]]
noncomputable abbrev wA:W:=th "add" [wC,wR]
noncomputable abbrev wO:W:=th "own" [.str "p",n1,wA]
noncomputable abbrev k0:W:=.tup []
noncomputable abbrev k1:W:=.tup [.str "p"]
section
variable{F:Fs}{h:MH}
def FR(hw:w∈[n1,n8,wW,wR,wC,wA,wO]):(step F).bI [w] h=À (.bl Ã,h):=by
 refine wf (n:=1) ?_ rfl;erw[zb,zc,zO] at hw;rcases hw with rfl | rfl | rfl | rfl | rfl | rfl | rfl<;>kernel_rfl
theorem Hf:(step F).bC [.str ""] h=À (.bl Ã,h):=by
 refine wf (n:=1) ?_ rfl;have e:j1 (JV (ze 0)) 1 [] (zD 0) kL (zi (uc Â) (ze 0) (SD "0123456789")) [À (.str "")] h=À (.fls [],h):=fh (l:=[]) (λ_=>Ã) id rfl (by simp) (by simp) (by simp) (by simp);simp![cR];rw[e];rfl
theorem KU{i:Int}:(step F).bH [.int i] h=À (.bl Ã,h):=by
 rw[show(step F).bH=gc (kg 1 0 (dM F)) from rfl];exact wf (w:=.bl Ã) (n:=1) rfl rfl
def jp(e:t ρ h=À (Â,h)):zk (kP t A kz) b ρ h=b ρ h:=zw (x4 e)
def DU:(step (step F)).eE [.tup [dy],wC] h=À (.bl Ã,h):=by
 have e:=λh=>KU (F:=F) (h:=h) (i:=0)
 generalize step F=G at e;refine wf (w:=.bl Ã) (n:=1) (yv (ρ:=[À (.tup [dy]),À wC,Á,Á]) rfl rfl ?_) rfl;unfold eG;refine(zw (ρ':=[À (.tup [dy]),À wC,À (.int 0),Á]) (h':=h) rfl).trans ((jp (J2 (by simp![e,yA]) SF)).trans ?_);kernel_rfl
def UL{i:Int}(h0:0<=i)(h1:i<=1008):(step (step F)).dB [.int i] h=À (.bl Ã,h):=by
 have e:=λh=>KU (F:=F) (h:=h) (i:=i)
 generalize step F=G at e;refine wf (n:=1) ?_ rfl;simp![dR,e,eK,vv,h0,h1,b9,ug,lg]
def G1:(step (step F)).aX [.str "p",.str "pq"] h=À (.bl Ã,h):=by
 have e:=λh=>Hf (F:=F) (h:=h)
 generalize step F=G at e;refine wf (w:=.bl Ã) (n:=1) (yv (ρ:=[À (.str "p"),À (.str "pq")]) rfl rfl ?_) rfl;refine(jp SF).trans ?_;have a1:zi (uc Â) (zi zC (ze 0) (PL 0)) (ze 1) [À (.str "p"),À (.str "pq")] h=À (.bl Ã,h):=by kernel_rfl
 have a2:ko [u5 (ze 0) (À (PL 1)) Á] [À (.str "p"),À (.str "pq")] h=À ([.str ""],h):=by kernel_rfl
 have a3:zh G.bC [u5 (ze 0) (À (PL 1)) Á] [À (.str "p"),À (.str "pq")] h=À (.bl Ã,h):=by
  unfold zh;erw[bnd,a2,e]
 unfold ka b9;erw[bnd,a1,lg,kE,a3]
def XF:(step (step (step F))).bh [.str "p"] h=À (.bl Ã,h):=by
 have e:=λh=>G1 (F:=F) (h:=h)
 generalize step (step F)=G at e;refine wf (n:=1) ?_ rfl;simp![cC,e]
def BB:(step (step (step (step F)))).dG [.str "p",k1] h=À (.bl Ã,h):=by
 have e:=λh=>XF (F:=F) (h:=h)
 generalize step (step (step F))=G at e;refine wf (n:=1) ?_ rfl;have a1:∀h,inB h (.str "p") j3=À Â:=λh=>by kernel_rfl
 have a2:∀h,inB h (.str "p") k1=À Ã:=λh=>by kernel_rfl
 simp![dU,e,a1,a2,XJ,b9,lg]
def u9{G:Fs}(row:aH G=zk (kP (yA (kb (zh G.bI [ze 1]))) (ka (eC (.bl Â))) kz) (zk (zI (zi zC (ze 1) (PL 0)) (zD 3)) R))(hw:w=th x r)(e:∀h,G.bI [w] h=À (.bl Ã,h))(hb:R [À (.tup [dy]),À w,À k,À (.str x)] h=À (.ret (.bl Ã),h)) :
  gc (kg 3 1 (aH G)) [.tup [dy],w,k] h=À (.bl Ã,h):=by
 refine wf (w:=.bl Ã) (n:=1) (yv (ρ:=[À (.tup [dy]),À w,À k,Á]) rfl rfl ?_) rfl;rw[row];refine(jp (by simp![e,yA])).trans ?_;subst hw;exact(zw (by simp![ux])).trans hb
def GF(hw:(w,k)∈[(n1,k0),(wO,k0),(n8,k1),(wW,k1),(wR,k1),(wC,k1),(wA,k1)]):(step (step (step (step (step F))))).aG [.tup [dy],w,k] h=À (.bl Ã,h):=by
 have e1:=λw hw h=>FR (F:=step (step (step F))) (w:=w) (h:=h) hw
 have e2:=λh=>XF (F:=step F) (h:=h)
 have e3:=λh=>BB (F:=F) (h:=h)
 have e4:=λh=>DU (F:=step (step F)) (h:=h)
 have e5:=λi h h0 h1=>UL (F:=step (step F)) (i:=i) (h:=h) h0 h1
 show gc (kg 3 1 (aH (step (step (step (step F)))))) _ _=_
 generalize step (step (step (step F)))=G at e1 e2 e3 e4 e5;erw[zb,zc,zO,qF] at hw;rcases hw with ⟨rfl,rfl⟩ | ⟨rfl,rfl⟩ | ⟨rfl,rfl⟩ | ⟨rfl,rfl⟩ | ⟨rfl,rfl⟩ | ⟨rfl,rfl⟩ | ⟨rfl,rfl⟩
 .exact u9 rfl rfl (e1 _ (.head _)) (wm SF (xw SF (e5 1 h ∅ ∅)))
 .exact u9 rfl rfl (e1 _ (.tail _ (.tail _ (.tail _ (.tail _ (.tail _ (.tail _ (.head _)))))))) ((jp SF).trans ((jp SF).trans ((jp SF).trans ((jp SF).trans ((jp SF).trans (wm SF (xw SF (e2 h))))))))
 .exact u9 rfl rfl (e1 _ (.tail _ (.head _))) (wm SF (xw SF (e5 8 h ∅ ∅)))
 .exact u9 rfl rfl (e1 _ (.tail _ (.tail _ (.head _)))) ((jp SF).trans ((jp SF).trans ((jp SF).trans (wm SF (xw SF (e3 h))))))
 .exact u9 rfl rfl (e1 _ (.tail _ (.tail _ (.tail _ (.head _))))) ((jp SF).trans ((jp SF).trans ((jp SF).trans (wm SF (xw SF (e3 h))))))
 .exact u9 rfl rfl (e1 _ (.tail _ (.tail _ (.tail _ (.tail _ (.head _)))))) ((jp SF).trans ((jp SF).trans ((jp SF).trans ((jp SF).trans ((jp SF).trans ((jp SF).trans (wm SF (xw SF (e4 h)))))))))
 .exact u9 rfl rfl (e1 _ (.tail _ (.tail _ (.tail _ (.tail _ (.tail _ (.head _))))))) ((jp SF).trans ((jp SF).trans ((jp SF).trans ((jp SF).trans ((jp SF).trans ((jp SF).trans ((jp SF).trans rfl)))))))
noncomputable abbrev pl(w k:W):W:=.tup [w,k]
noncomputable def pr:W->List W
 | .tup [.str x,a,b,c]=>if x="own" then [b,c] else match c with
  | .tup l=>l
  | _=>[a]
 | .tup [.str x,a,b]=>if x="write" then [b] else [a,b]
 | _=>[]
def Bt(hw:w∈[n1,n8,wW,wR,wC,wA]):(step F).aZ [w] h=À (.tup (pr w),h):=by
 refine wf (n:=10) ?_ ?_;all_goals
  erw[zb,zc,zO] at hw;rcases hw with rfl | rfl | rfl | rfl | rfl | rfl<;>kernel_rfl
def Ci(hw:(w,k)∈[(n1,k0),(n8,k1),(wW,k1),(wR,k1),(wC,k1),(wA,k1)]):(step (step F)).aA [w,k] h=À (.fls ((pr w).map λx=>pl x k),h):=by
 have e:=λh hw=>Bt (F:=F) (w:=w) (h:=h) hw
 generalize step F=G at e;have c2:(2:Nat)<=cap:=by decide
 have il:∀h x,x∈([.str "number",.str "write",.str "read",.str "call",.str "add"]:List W)->inB h x (.tup [.str "let",.str "own"])=À Â:=λh x hx=>by
  erw[zb,zc,zO] at hx;rcases hx with rfl | rfl | rfl | rfl | rfl<;>kernel_rfl
 have hq:w∈[n1,n8,wW,wR,wC,wA]/\(∃x r,w=.tup (x::r)/\x∈([.str "number",.str "write",.str "read",.str "call",.str "add"]:List W))/\(pr w).length<=2/\((pr w).all λx=>dt 9 (pl x k))=Ã:=by
  erw[zb,zc,zO,qF] at hw;rcases hw with ⟨rfl,rfl⟩ | ⟨rfl,rfl⟩ | ⟨rfl,rfl⟩ | ⟨rfl,rfl⟩ | ⟨rfl,rfl⟩ | ⟨rfl,rfl⟩
  .exact⟨(.head _),⟨_,_,rfl,(.head _)⟩,by decide +kernel,SF⟩
  .exact⟨(.tail _ (.head _)),⟨_,_,rfl,(.head _)⟩,by decide +kernel,SF⟩
  .exact⟨(.tail _ (.tail _ (.head _))),⟨_,_,rfl,(.tail _ (.head _))⟩,by decide +kernel,SF⟩
  .exact⟨(.tail _ (.tail _ (.tail _ (.head _)))),⟨_,_,rfl,(.tail _ (.tail _ (.head _)))⟩,by decide +kernel,SF⟩
  .exact⟨(.tail _ (.tail _ (.tail _ (.tail _ (.head _))))),⟨_,_,rfl,(.tail _ (.tail _ (.tail _ (.head _))))⟩,by decide +kernel,SF⟩
  .exact⟨(.tail _ (.tail _ (.tail _ (.tail _ (.tail _ (.head _)))))),⟨_,_,rfl,(.tail _ (.tail _ (.tail _ (.tail _ (.head _)))))⟩,by decide +kernel,SF⟩
 obtain⟨h1,⟨x,r,rfl,hx⟩,hl,hd⟩:=hq;have A5:∀y∈pr (.tup (x::r)),low h.length (pl y k)=Ã:=λy hy=>lA (kW.mp hd y hy)
 have c:=fh (mi:=vk (zh G.aZ [ze 0])) (ks:=[1]) (t:=kL) (m:=zh zt [ze 0,ze 1]) (ρ:=[À (.tup (x::r)),À k]) (h:=h) (l:=pr (.tup (x::r))) (λ_=>Ã) (λx=>pl x k)
  (by simp![e _ h1,vk,srcOf]) (λw _ H'=>rfl) (λw _ _ H'=>by simp![zt,c2]) (λw hw _=>A5 w hw) (zK hl c2)
 rw[filter_true] at c;show gc (kg 2 0 (aQ G)) _ _=_
 refine aT (yv (ρ:=[À (.tup (x::r)),À k]) rfl rfl ?_) (oV λy hy=>?_)
 .unfold aQ
  refine(zw (ρ':=[À (.tup (x::r)),À k]) (h':=h) (by simp![ux,zt,c2,il _ x hx])).trans ?_;unfold ka;rw[c]
 .obtain⟨z,hz,rfl⟩:=jf.mp hy
  exact A5 z hz
def BZ:(step F).aA [wO,k0] h=À (.fls [pl n1 k0,pl wA k1],h):=by
 refine wf (n:=20) ?_ ?_<;>kernel_rfl
noncomputable def wT:MT:=kb (zi pJ (zh kN [ze 4]) (PL 0))
noncomputable def wB(F:Fs):MS:=(zk (zI (kD ur (ze 4) []) (zD 5))
 (zk (mS 3 fx (PL 1))
 (zk (kP (ub (kb (zi pJ (ze 3) (eC u0))) (yA (kb (zh F.aG [ze 0,zi zC (ze 5) (PL 0),zi zC (ze 5) (PL 1)]))))
 (ka (eC (.bl Â)))
 kz)
 (ky (kD ui (ze 4) [zh F.aA [zi zC (ze 5) (PL 0),zi zC (ze 5) (PL 1)]])))))
def hV{G:Fs}{ps s:List W}{c:Int}(e1:∀h,G.aG [r,w,k] h=À (.bl Ã,h))(e2:∀h,G.aA [w,k] h=À (.fls ps,h))(hc:c<60)(hl:s.length+ps.length<=60) :
  ja wT (wB G) (n+1) [À r,À x1,À x2,À (.int c),À (.ref h.length),o5] (h++[.lst (s++[pl w k])])=ja wT (wB G) n [À r,À x1,À x2,À (.int (c+1)),À (.ref h.length),À (pl w k)] (h++[.lst (s++ps)]):=by
 have hn:(0:Int)<(s.length:Int)+1:=by omega
 have Sl:¬(60:Int)<c+1:=by omega
 have Ek:s.length+ps.length<=cap:=zK hl (by decide);have t:wT [À r,À x1,À x2,À (.int c),À (.ref h.length),o5] (h++[.lst (s++[pl w k])])=À (Ã,h++[.lst (s++[pl w k])]):=by
  simp![wT,kN,getL,at0,vv,hn]
 have b:wB G [À r,À x1,À x2,À (.int c),À (.ref h.length),o5] (h++[.lst (s++[pl w k])])=À (.nx [À r,À x1,À x2,À (.int (c+1)),À (.ref h.length),À (pl w k)],h++[.lst (s++ps)]):=by
  simp![wB,kD,getL,at0,ur,oM,mS,fx,vv,u0,Sl,ux,xo,e1,e2,ui,xB,Ek,yA]
 erw[ja,t,b]
def UY:(step (step (step (step (step (step F)))))).bx [.tup [dy],wO,k0] h=À (.bl Ã,h):=by
 have e1:=λw k hw h=>GF (F:=F) (w:=w) (k:=k) (h:=h) hw
 have e2:=λw k hw h=>Ci (F:=step (step (step F))) (w:=w) (k:=k) (h:=h) hw
 have e3:=λh=>BZ (F:=step (step (step (step F)))) (h:=h)
 generalize step (step (step (step (step F))))=G at e1 e2 e3;have e:ja wT (wB G) 8 [À (.tup [dy]),À wO,À k0,À (.int 0),À (.ref h.length),Á] (h++[.lst [pl wO k0]])=À (.nx [À (.tup [dy]),À wO,À k0,À (.int 7),À (.ref h.length),À (pl n1 k0)],h++[.lst []]):=by
  refine(hV (s:=[]) (e1 _ _ (.tail _ (.head _))) e3 ∅ (by simp)).trans ?_;refine(hV (s:=[pl n1 k0]) (ps:=[pl wC k1,pl wR k1]) (e1 _ _ (.tail _ (.tail _ (.tail _ (.tail _ (.tail _ (.tail _ (.head _)))))))) (e2 wA k1 (.tail _ (.tail _ (.tail _ (.tail _ (.tail _ (.head _))))))) ∅ (by simp)).trans ?_;refine(hV (s:=[pl n1 k0,pl wC k1]) (ps:=[]) (e1 _ _ (.tail _ (.tail _ (.tail _ (.tail _ (.head _)))))) (e2 wR k1 (.tail _ (.tail _ (.tail _ (.head _))))) ∅ (by simp)).trans ?_;refine(hV (s:=[pl n1 k0]) (ps:=[pl wW k1]) (e1 _ _ (.tail _ (.tail _ (.tail _ (.tail _ (.tail _ (.head _))))))) (e2 wC k1 (.tail _ (.tail _ (.tail _ (.tail _ (.head _)))))) ∅ (by simp)).trans ?_;refine(hV (s:=[pl n1 k0]) (ps:=[pl n8 k1]) (e1 _ _ (.tail _ (.tail _ (.tail _ (.head _))))) (e2 wW k1 (.tail _ (.tail _ (.head _)))) ∅ (by simp)).trans ?_;refine(hV (s:=[pl n1 k0]) (ps:=[]) (e1 _ _ (.tail _ (.tail _ (.head _)))) (e2 n8 k1 (.tail _ (.head _))) ∅ (by simp)).trans ?_;refine(hV (s:=[]) (ps:=[]) (e1 _ _ (.head _)) (e2 n1 k0 (.head _)) ∅ (by simp)).trans ?_;have t:wT [À (.tup [dy]),À wO,À k0,À (.int 7),À (.ref h.length),À (pl n1 k0)] (h++[.lst []])=À (Â,h++[.lst []]):=by
   simp![wT,kN,getL,at0,vv]
  show ja wT (wB G) (0+1) [À (.tup [dy]),À wO,À k0,À (.int 7),À (.ref h.length),À (pl n1 k0)] (h++[.lst []])=_
  erw[ja,t]
 have e4:=uT e;refine Vi (t:=[.lst []]) (n:=1) ?_ rfl;have hb:bN G=zk (zI (PL 0) (zD 3)) (zk (zI (zh xE [zh zt [ze 1,ze 2]]) (zD 4)) (zk (uf wT (wB G)) (ka (eC (.bl Ã))))):=rfl;erw[step,kg,hb];simp![zt,xE,cap,e4]
def HZ:(step (step (step (step (step (step (step F))))))).cZ [.tup [dy],wO] h=À (.bl Ã,h):=by
 have e:=λh=>UY (F:=F) (h:=h)
 generalize step (step (step (step (step (step F)))))=G at e;refine wf (w:=.bl Ã) (n:=1) ?_ rfl;simp![eO,zt,cap,e]
end
theorem G9(F:Fs):dI F=zk (Q0 F) (zk (Q1 F) (zk (Q2 F) (zk (Q3 F) (zk (Q4 F) (zk (Q5 F) (zk (Q6 F) (zk (Q7 F) (zk (Q8 F) (zk (Q9 F) (zk (F7 F) (zk (F0 F) (zk (DR F) (zk (Dc F) (zk (Fx F) (zk (DJ F) (zk (F6 F) (zk (Di F) (Hl F)))))))))))))))))):=rfl
noncomputable abbrev pz(a b:W):W:=th "own" [.str "p",a,b]
noncomputable abbrev Qt:W:=th "read" [.str "p"]
noncomputable abbrev GZ(a b:W):W:=pz a (th "then" [pz b Qt,Qt])
noncomputable abbrev V8:W:=th "own" [.str "q",th "number" [.int 0],th "write" [.str "q",th "add" [th "read" [.str "q"],th "number" [.int 1]]]]
noncomputable abbrev Gs(a:W):W:=pz a (th "loop" [th "number" [.int 3],th "write" [.str "p",th "add" [Qt,th "number" [.int 1]]]])
section
variable{G:Fs}{s R a b S A m1 m2 m3 b1 b2 b3:W}{v1 v2:Int}
def IT{i:Int}:kH (.int 31) (.int i) h=À (.int (31*i),h):=by
 have:(small 31||small i)=Ã:=by rw[show small 31=Ã by decide];rfl
 erw[kH,this,kE]
def Ct(la:∀h,G.aF [s,.int (90+31*0),.int 2,R] h=À (a,h))(lb:∀h,G.aF [s,.int (90+31*1),.int 2,R] h=À (b,h))(wa:∀m,low m a=Ã)(wb:∀m,low m b=Ã)(h:MH):j1 (vj [PL 2]) 1 [0,1] (zD 0) kL (zh G.aF [ze 1,zi addW (PL 90) (zi kH (PL 31) (ze 0)),PL 2,ze 2]) (À s::À R::Æ 12 Á) h=À (.fls [a,b],h):=by
 have rg:vj [PL 2] (À s::À R::Æ 12 Á) h=À (.items [.int 0,.int 1],h):=by
  erw[vj,ko,bnd,eC,bX];rw[z9 ∅];rfl
 have c:=fh (mi:=vj [PL 2]) (ks:=[0,1]) (t:=kL) (m:=zh G.aF [ze 1,zi addW (PL 90) (zi kH (PL 31) (ze 0)),PL 2,ze 2]) (ρ:=À s::À R::Æ 12 Á) (h:=h) (l:=[.int 0,.int 1]) (λ_=>Ã) (λw=>match w with | .int 0=>a | _=>b)
  rg (λw _ H'=>rfl) (λw hw _ H'=>by
   erw[zb,zc,zO] at hw;rcases hw with rfl | rfl<;>erw[zh,ko,bnd,zi,ze,eC,zx,jk,zA,zm,wj,addW,qc,IT]
   .exact la _
   .exact lb _) (λw hw _=>by
   erw[zb,zc,zO] at hw;rcases hw with rfl | rfl
   .exact wa _
   .exact wb _) (by decide)
 rw[filter_true] at c;exact c
theorem ph{f:List W->M W}(g:f ws h=À (w,h))(q:eqB h w w=À Ã)(e:ko ms ρ h=À (ws,h))(e':m ρ h=À (w,h)):kb (zi (jv Ã) (zh f ms) m) ρ h=À (Â,h):=by
 unfold kb zi zh jv;erw[bnd,e,g,e',q];rfl
theorem DN{f:List W->M W}(g:f ws h=À (w,h))(q:eqB h w w=À Ã)(e:ko ms ρ h=À (ws,h))(e':m ρ h=À (w,h)):ka (zi (jv Â) (zh f ms) m) ρ h=À (.ret (.bl Ã),h):=by
 unfold ka zi zh jv;erw[bnd,e,g,e',q];rfl
theorem Uz(rules:∀h,G.bV [s,.int 1] h=À (R,h))(la:∀h,G.aF [s,.int (90+31*0),.int 2,R] h=À (a,h))(lb:∀h,G.aF [s,.int (90+31*1),.int 2,R] h=À (b,h))(wa:∀m,low m a=Ã)(wb:∀m,low m b=Ã)(st:∀h,G.bO [s,.int 70] h=À (S,h))(ak:∀h,G.bT [s,.int 75] h=À (A,h))(Of:∀h,G.aC [R,a,S,A] h=À (.tup [.int v1,m1,m2,m3],h))(both:∀h,G.aC [R,th "then" [a,b],S,A] h=À (.tup [.int v2,b1,b2,b3],h))(r1:∀h,G.aC [R,pz a Qt,S,A] h=À (.tup [.int v1,m1,m2,m3],h))(r2:∀h,G.aC [R,pz a b,S,A] h=À (.tup [.int v2,b1,b2,b3],h))(r3:∀h,G.aC [R,pz a (th "then" [th "write" [.str "p",b],Qt]),S,A] h=À (.tup [.int v2,b1,b2,b3],h))(r4:∀h,G.aC [R,GZ a b,S,A] h=À (.tup [.int v1,b1,b2,b3],h))(r5:∀h,G.aC [R,th "then" [V8,th "add" [V8,V8]],S,A] h=À (.tup [.int 2,S,.fls [],.int 0],h))(Sm:∀h,G.cZ [.tup [dy],wO] h=À (.bl Ã,h))(r6:∀h,G.aC [.tup [dy],wO,S,A] h=À (.tup [.int 13,S,.fls [],.int 0],h))(r7:∀h,G.aC [R,Gs a,S,A] h=À (.tup [.int 0,m1,m2,m3],h))(e1:∀v h,eqB h (.tup [.int v,m1,m2,m3]) (.tup [.int v,m1,m2,m3])=À Ã)(e2:∀v h,eqB h (.tup [.int v,b1,b2,b3]) (.tup [.int v,b1,b2,b3])=À Ã)(e3:∀v h,eqB h (.tup [.int v,S,.fls [],.int 0]) (.tup [.int v,S,.fls [],.int 0])=À Ã)(h:MH):dI G (À s::Æ 13 Á) h=À (.ret (.bl Ã),h):=by
 rw[G9];refine(zw (a:=Q0 G) (xY (rules h) rfl rfl)).trans ?_;refine(zw (a:=Q1 G) (ρ':=[À s,À R,À a,À b,Á,Á,Á,Á,Á,Á,Á,Á,Á,Á]) (h':=h) (by unfold Q1;exact gX (Ct la lb wa wb h) rfl)).trans ?_;refine(zw (a:=Q2 G) (xY (st h) rfl rfl)).trans ?_;refine(zw (a:=Q3 G) (xY (ak h) rfl rfl)).trans ?_;refine(zw (a:=Q4 G) (xY (Of h) rfl rfl)).trans ?_;refine(zw (a:=Q5 G) (xY (both h) rfl rfl)).trans ?_;refine(zw (a:=Q6 G) (x4 (ph (r1 h) (e1 _ h) rfl rfl))).trans ?_;refine(zw (a:=Q7 G) (x4 (ph (r2 h) (e2 _ h) rfl rfl))).trans ?_;refine(zw (a:=Q8 G) (x4 (ph (r3 h) (e2 _ h) rfl rfl))).trans ?_;refine(zw (a:=Q9 G) rfl).trans ?_;refine(zw (a:=F7 G) (x4 (ph (r4 h) (e2 _ h) rfl rfl))).trans ?_;refine(zw (a:=F0 G) rfl).trans ?_;refine(zw (a:=DR G) (x4 (ph (r5 h) (e3 _ h) rfl rfl))).trans ?_;refine(zw (a:=Dc G) rfl).trans ?_;refine(zw (a:=Fx G) rfl).trans ?_;refine(zw (a:=DJ G) rfl).trans ?_;refine(zw (a:=F6 G) (x4 (J2 (by simp![Sm,yA]) (ph (r6 h) (e3 _ h) rfl rfl)))).trans ?_;refine(zw (a:=Di G) rfl).trans ?_;exact DN (r7 h) (e1 _ h) rfl rfl
end
def Gq{ns:List Int}(hl:ns.length<=63)(h:MH):(up 31 F).gh [qk ns] h=À (.bl Ã,h):=by
 obtain⟨rs,hr,eR⟩:=UJ (F:=F) (m:=29) hl ∅;obtain⟨x1,w1,d1,l1⟩:=Kj (F:=F) (m:=29) (a:=90+31*0) hl ∅ hr;obtain⟨x2,w2,d2,l2⟩:=Kj (F:=F) (m:=29) (a:=90+31*1) hl ∅ hr;obtain⟨st,eS⟩:=U5 (G:=up 29 F) (ns:=ns) (a:=70) λk many h hm=>uY (F:=up 27 F) hl hm
 obtain⟨ans,la,eA⟩:=Us (G:=up 29 F) (ns:=ns) (a:=75) λk many h hm=>uY (F:=up 27 F) hl hm
 have c1:cost (ya rs rs.length) 0 x1<=604297:=hr.cost w1 d1;have c2:cost (ya rs rs.length) 0 x2<=604297:=hr.cost w2 d2;have cz:(5*1300000+210:Nat)<=cap:=by decide
 have run:∀rs,RsOk rs->∀d,Cd rs d->cst rs d<=1300000->∀T,treeOf rs d=T->∀h,(up 30 F).aC [.tup (kA rs),zo d,vc st,.fls (ans.map .int)] h=À (lq (kS T ⟨st,ans,[],0⟩).1 (kS T ⟨st,ans,[],0⟩).2.1,h):=λrs hr d w c T e h=>by
  subst e;exact G5 (F:=up 21 F) hr cz ((Y2 hr w).mono c) ∅ ∅ h
 have pp:("p":Ç)∉([]:List Ç)/\("p":Ç)∉([]:List Ç)/\dt 1 (.str "p")=Ã:=⟨by simp,by simp,by decide +kernel⟩;have up1:∀{d:D},Cd rs d->Wf rs rs.length d [] ([]++[("p":Ç)]) []:=λ{d} w=>am (O:=[]) d (λv z=>absurd z (zc)) (λv z=>.inr (vN.mp z)) w
 have ip:("p":Ç)∈SH\/("p":Ç)∈[]++[("p":Ç)]:=.inr (kY _ (vN.mpr rfl));have Sn:("p":Ç)∈SH\/("p":Ç)∈[]++[("p":Ç)]++[("p":Ç)]:=.inr (kY _ (vN.mpr rfl));have rM:=run rs hr.g x1 w1 (zK c1 ∅) _ rfl;have rB:=run rs hr.g (.thenn x1 x2) (by erw[Wf];exact⟨w1,w2⟩) (by erw[cost];omega) _ (VP hr.g w1 w2);have r1:=run rs hr.g (.own "p" x1 (.read "p")) (by erw[Wf];exact⟨pp,w1,ip⟩) (by erw[cost];omega) _ (Cw hr.g w1);have r2:=run rs hr.g (.own "p" x1 x2) (by erw[Wf];exact⟨pp,w1,up1 w2⟩) (by erw[cost];omega) _ (GU hr.g w1 w2);have r3:=run rs hr.g (.own "p" x1 (.thenn (.write "p" x2) (.read "p"))) (by erw[Wf];exact⟨pp,w1,⟨ip,up1 w2⟩,ip⟩) (by erw[cost];omega) _ (UP hr.g w1 w2);have r4:=run rs hr.g (.own "p" x1 (.thenn (.own "p" x2 (.read "p")) (.read "p"))) (by erw[Wf];exact⟨pp,w1,⟨pp,up1 w2,Sn⟩,ip⟩) (by erw[cost];omega) _ (DQ hr.g w1 w2);have wc:=pO (rs:=rs);erw[Wf] at wc;have r5:=run rs hr.g (.thenn dC (.add dC dC)) (by erw[Wf];exact⟨wc,wc,wc⟩) (by erw[cost];omega) _ (Gp hr.g);have r6:=run [rH] HM dH Ll (zK IJ ∅) _ IR;have r7:=run rs hr.g (.own "p" x1 (.loop (.number 3) (.write "p" (.add (.read "p") (.number 1))))) (by erw[Wf];exact⟨pp,w1,trivial,ip,ip,trivial⟩) (by erw[cost];omega) _ (B5 hr.g w1);erw[pG,kS] at rB r2 r3 r4 r5 r6 r7;erw[zo,kr,lq] at rM rB r1 r2 r3 r4 r5 r6 r7;have L:=Uz (G:=up 30 F) (s:=qk ns) eR l1 l2 (λm=>k8 m x1) (λm=>k8 m x2) eS eA rM rB r1 r2 r3 r4 r5 (λh=>HZ (F:=up 23 F)) r6 r7 (λv h=>Zr (Zq (v:=v)) ∅) (λv h=>Zr (Zq (v:=v)) ∅) (λv h=>Zr (Zq (v:=v) (r:=⟨st,[],[],0⟩)) ∅) h;show gc (kg 1 13 (dI (up 30 F))) _ _=_
 exact aT (yv (ρ:=À (qk ns)::Æ 13 Á) rfl rfl L) (by unfold low;rfl)
theorem Y8:∀n,lv n=up n Fs.bot
 | 0=>rfl
 | n+1=>by show step (lv n)=step (up n Fs.bot);rw[Y8 n]
def main(ns:List Int)(hl:ns.length<=63):∃h',(lv 200).gh [.fls (ns.map W.int)] []=À (.bl Ã,h'):=by
 refine⟨[],?_⟩;rw[Y8];exact Gq (F:=up 169 Fs.bot) hl []
end K13
namespace K13
open PySem PySem.W PyProof.Rows ML
set_option maxHeartbeats 0 in
def txt{XP:(Ç->Option Ä)->Ï->Prop}{w:Ñ}{s₀:Å}{mg mb:Ç->Option Ä}{h:Ï}(G:ţ q ["FORMS","WAYS"] [] XP w s₀ mg mb h):WI (mn (Kw h) mg) defs:=by
 repeat refine⟨by
  first
  | exact Zz G SF rfl (ML.hb1 λ_ _ _ _ _ _ _=>SF) rfl
  | exact Zz G SF rfl (ML.hb2 λ_ _ _ _ _ _ _ _=>SF) rfl
  | exact Zz G SF rfl (ML.hb3 λ_ _ _ _ _ _ _ _ _=>SF) rfl
  | exact Zz G SF rfl (ML.hb4 λ_ _ _ _ _ _ _ _ _ _=>SF) rfl
  | exact Zz G SF rfl (ML.hb5 λ_ _ _ _ _ _ _ _ _ _ _=>SF) rfl,?_⟩
 trivial
set_option maxHeartbeats 0 in
def seen{XP:(Ç->Option Ä)->Ï->Prop}{w:Ñ}{s₀:Å}{mg mb:Ç->Option Ä}{h:Ï}(G:ţ q ["FORMS","WAYS"] [] XP w s₀ mg mb h)(Y:H.says w h):∃cl,T pw (Kw h) w mg cl:=by
 obtain⟨c0,C0,e0,g0⟩:=QM (x:="Doing") G SF;obtain⟨c1,C1,e1,g1⟩:=QM (x:="Room") G SF;obtain⟨h2,h3,h4,h5⟩:=Uu Y G.T.g;refine⟨⟨λn=>if n=0 then C0 else if n=1 then C1 else 0,pw,w⟩,txt G,?_,?_,h4,⟨rfl,rfl⟩,?_,?_,?_,h5⟩
 .have e:toT XW=cons:=by kernel_rfl
  rw[<-e];exact h2
 .have e:(tabsC.map λp=>(p.1,toT p.2))=tabs:=by kernel_rfl
  rw[<-e];exact h3
 .refine Yz λp hp f hf=>?_
  erw[kB,zb,zc,zO] at hp;rcases hp with rfl | rfl
  .exact KC (q:=q) (loose:=["FORMS","WAYS"]) (x:="Doing") (fs:=["rules","steps","worths","touch_ahead"]) g0 e0 SF f hf
  .exact KC (q:=q) (loose:=["FORMS","WAYS"]) (x:="Room") (fs:=["shelves","answers","spoken","asks"]) g1 e1 SF f hf
 .repeat refine⟨by
   first
   | exact mz (q:=q) (loose:=["FORMS","WAYS"]) (x:="Doing") g0 e0 SF ⋯ (ML.hb3 λ_ _ _ _ _ _ _ _ _=>SF)
   | exact mz (q:=q) (loose:=["FORMS","WAYS"]) (x:="Doing") g0 e0 SF ⋯ (ML.hb2 λ_ _ _ _ _ _ _ _=>SF)
   | exact mz (q:=q) (loose:=["FORMS","WAYS"]) (x:="Doing") g0 e0 SF ⋯ (ML.hb1 λ_ _ _ _ _ _ _=>SF)
   | exact mz (q:=q) (loose:=["FORMS","WAYS"]) (x:="Doing") g0 e0 SF ⋯ (ML.hb4 λ_ _ _ _ _ _ _ _ _ _=>SF)
   | exact mz (q:=q) (loose:=["FORMS","WAYS"]) (x:="Room") g1 e1 SF ⋯ (ML.hb2 λ_ _ _ _ _ _ _ _=>SF)
   | exact mz (q:=q) (loose:=["FORMS","WAYS"]) (x:="Room") g1 e1 SF ⋯ (ML.hb1 λ_ _ _ _ _ _ _=>SF),?_⟩
  trivial
 .repeat refine⟨by
   first
   | exact Xy (q:=q) (loose:=["FORMS","WAYS"]) (x:="Doing") g0 e0 SF ⋯ (ML.hb3 λ_ _ _ _ _ _ _ _ _=>SF) rfl
   | exact Xy (q:=q) (loose:=["FORMS","WAYS"]) (x:="Room") g1 e1 SF ⋯ (ML.hb3 λ_ _ _ _ _ _ _ _ _=>SF) rfl,?_⟩
  trivial
end K13
open PySem PySem.W PyProof.Rows ML
set_option maxRecDepth 100000 in
set_option maxHeartbeats 0 in
theorem PySem.Challenge.cw_shelfwork_k13_whole_own_shelves_holds : PySem.Challenge.rw_shelfwork_k13_whole_own_shelves.Holds := by
 refine holds_law K13.said λsaid=>?_
 refine holds_open (q:=K13.q) (loose:=["FORMS","WAYS"]) (Xt:=λs=>xlAt K13.q [] s&&recOk [] s) (XP:=XL K13.q []) (Yf:=K13.H.obs) (Ya:=K13.H.val) (YP:=K13.H.says) (N:=8000) K13.left (Hook.of K13.H) (Hook.keeps K13.H) (λs e=>xl_of s (jh.mp e).1) XL.keeps rfl rfl rfl (λs e=>recFacts_of (jh.mp e).2) rfl said ⋯ ⟨rfl,rfl,rfl,rfl,rfl,by decide +kernel⟩ ?hw ?hc
 case hw=>w_witness2
 case hc=>
  exact ML.walk_lawD (l:=PySem.Challenge.rw_shelfwork_k13_whole_own_shelves) (D:=K13.iK) (g:=(K13.lv 200).gh) (b:=K13.dI (K13.lv 199)) (Γ:=K13.rc (K13.lv 199)) (y:="_law_script") (room:=199) (K13.T K13.pw) rfl rfl ⟨rfl,by decide,by decide⟩ rfl rfl (ML.hb1 λ_ _ _ _ _ _ _=>SF) SF rfl SF rfl K13.main (λw K mg base cl t=>(K13.lvl t 199).1) λw s₀ mg mb h G Y=>(let ⟨cl,t⟩:=K13.seen G Y;⟨cl,(K13.txt G).2.2.2.2.2.2.2.2.2.2.2.2.2.2.2.2.2.2.2.2.2.2.2.2.2.2.2.2.2.2.2.2.2.2.2.2.2.2.2.2.2.2.2.2.2.2.2.2.1,t⟩)

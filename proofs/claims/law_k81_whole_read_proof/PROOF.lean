import PyProof.Rows.All
import PySem.Challenge.RW_shelfwork_k81_whole_read
import KE.KDictOf
import KE.KIntText
import KE.KTryMore
import KE.KItem
import KE.KRevIter
set_option compiler.extract_closed false
set_option Elab.async false
set_option linter.all false
set_option maxRecDepth 100000
set_option maxHeartbeats 1000000
open Option renaming some→À,none→Á,isNone_iff_eq_none→ğ
open Bool renaming false→Â,true→Ã,false_ne_true→Ŏ,not_eq_true'→Ŕ
open PySem renaming Value→Ä,Shared→Å,Addr→Ç,Str→È,starEach→É,wpAny→Ê,Expr→Ë,model→Ì,Program→Í,compareOp→Î,Heap→Ï,World→Ð,bootBuiltins→Ñ,Around→Ò,mainGlobals→Ô,backTo→Ö,sysModules→Ø,binaryOp→Ù,assignEach→Û,behindInMarks→Ý,Scope→Þ,foldedSetIterable→ß,FuncData→å,Obj→æ,swapsWith→ç,Stmt→ì,wpAny_loadPart'→ñ,attributeBase→ó,Pos→õ,cLine→ö,importedModules→ø,DictEntry→ú,Builtin→ü,Keyword→Ă,sliceBounds→ą,keywordEach→Ć,codeAny→ĉ,typeLookup→Č,OsState→č,NameKind→Đ,letOwnedTupleGo→ē,tupleKind→ĕ,pyNext→ė,IsPart→Ę,swapsWithSole→ġ,swappedStores→Ģ,pyIter→ģ,backToKw→Ĩ,rawInt→ī,getItem→Ĭ,wpAny_Call_method_late→Į,callerA→į,IsPair→İ,wpAny_specialOf→Ĵ,getAttrByItsOwn→ĵ,GenState→ĸ,wpAny_loadName_local→Ĺ,codeAny_call_builtin→Ļ,boundAndCalled→Ľ,firstArgMember→ŀ,attributeErrorLeaves→Ł,treeTable→ł,PassesOwn→ņ,lastMarks→Ň,wpAny_loadName_cell→ň,seq_tuple_add→Ō,Comprehension→ō,tupleKind_room_in1→ő,getattributeRaised→œ,standAt→ŗ,wpAny_Return_some→Ř,Operator→ř,wpAny_assign_Name→Ś,CmpOp→ś,wpAny_sequenceKey→Ş,seqIndex_neg→ş,valueAt→Š,wpAny_mkText→Ť,IsZip→ť,wpAny_pyIter_enum→Ŧ,findBy→ŧ,strValues→Ũ,seqIndex_of→ũ,field→Ū,Tok→ū,Env→Ŭ,spliced→ŭ,setItem→Ů,BindsTo→ů,Paired→Ų,builtinsNs→ų,wpAny_Name→Ŵ,wpAny_load→ŵ,bindArgs→Ŷ,bindL→ŷ,bindC→Ÿ,atKey→Ź,merged→ź,call→Ż,PyData→ż,isInstance→Ž,getAttr?→ž,Walks→ſ
open List renaming replicate→Æ,range→Ė,foldl→ě,length_range→š
open PySem.Builtin.SmallTypes renaming nextOf→Ó,ownedTupleIsFree→â,ownedTupleHandOut→ā
open PySem.PyData renaming strOk→Õ,canLayAll0→è,eqv→ë,canLay0→ô,depthAll→ă,depth→ċ,eqvAll→ħ,keyHash→ķ
open PySem.Value renaming ref→Ú,isStrOf→ã,none→î,builtin→Ĥ,bool→Ī,int→ń,str→Ņ,type→ŏ
open PySem.W renaming keepIn→Ü,kitOne→ä,fnOf→ò,findIn→Ĉ,codeIn→Ċ,openGood→ď,hideAll→Ē,methodObj→Ġ,mroIn→ĩ,instObj→ĳ,KeysLit→Ķ,lookIn→ĺ,findIn→ļ,clsIn→ľ,mroIn→ŋ,openEnds→ŕ,openSeen→Ŗ,kitx_none→Ŝ,kitx_bool→ŝ,looks_findIn→ţ,alongIn→ű
open PySem.Builtin.Tuple renaming tupleExact→à,tupleItemsOf→Ě,tupleIsExact→Ĝ,tupleTooMany→ĝ
open PySem.Builtin.List renaming listTooLong→á,listExtendWith→í,listLengthHint→Ĕ,listFitsIndex→Ğ,listSameRef→Ħ,listItems→ı
open False renaming elim→é
open True renaming intro→ê
open PySem.Obj renaming mapSeq→ï,data_mapFields→Œ
open PySem.Builtin.Slice renaming slicePlaces→ð,sliceAdjust→Ā,sliceApplied→ę
open ForInStep renaming yield→ù
open PyProof.Rows renaming envOfC→û,AllBare→þ,subscriptTail_builtinR→ĭ,IsTup→Ĳ,entry_tuple_getitem→ŉ,args_tuple_getitem→Ő,IntsAre→Ű
open Sum renaming inr→ý,inl→Ń
open PySem.Str renaming ofString→ÿ,join→đ
open PySem.Builtin.Str renaming occurrences→Ą,strKind→Ŋ
open PySem.Heap renaming SameBut→ć,ExtBut→Ŀ,FlyingW→Ţ
open PySem.NameKind renaming free→Ď,cell→ĥ
def aRf(h:0=0:=by rfl):=h
def aDc(h:0=0:=by decide):=h
local macro_rules|`(↥$t)=>`(autoParam $t aRf._auto_1)
local macro_rules|`(⇑$t)=>`(autoParam $t aDc._auto_1)
local macro_rules
 |`(tactic|erw[$r,*]$[$l]?)=>do
  let a<-r.getElems.mapM λx=>let t:Lean.Term:=⟨x.raw[1]⟩;if x.raw[0].isNone then `(Lean.Parser.Tactic.simpLemma|$t:term) else `(Lean.Parser.Tactic.simpLemma|<-$t:term)
  `(tactic|simp only[$a,*]$[$l]?)
def Nu{α:Sort _}{a b:α}(h:a=b:=by kernel_rfl):a=b:=h
abbrev NT:=PySem.W.Frag
def za:=@PySem.wpAny_bind
def zb:=@Bool.and_eq_true
def zf:=@Option.bind_eq_some_iff
def zg:=@PySem.Heap.get?_push_of_some
def zj:=@Option.map_eq_some_iff
def zm:=@List.not_mem_nil
def zp:=@List.mem_cons
def zq:=@List.mem_cons_of_mem
def zr:=@List.length_cons
def zu:=@List.mem_cons_self
def zx:=@List.map_cons
def zy:=@PySem.wpAny_pure
def zz:=@PySem.Heap.lt_size
def zA:=@List.mem_append
def zF:=@Nat.le_refl
def zG:=@Nat.le_trans
def zH:=@List.size_toArray
def zJ:=@List.getElem?_eq_some_iff
def zK:=@List.length_append
def zL:=@PySem.Heap.get?_push_size
def zM:=@List.nil_append
def zN:=@Nat.lt_of_lt_of_le
def zO:=@Ŏ
def zP:=@Option.some.inj
def zQ:=@List.cons_append
def zR:=@List.length_nil
def zT:=@Nat.ne_of_lt
def zU:=@or_false
def zV:=@List.getElem?_append_left
def zW:=@if_pos
def zX:=@Bool.and_eq_true_iff
def zY:=@List.all_eq_true
def zZ:=@Ŕ
def kh:=@List.mem_append_right
def kj:=@List.getElem?_append_right
def kE:=@PySem.W.kia_one
def kI:=@List.mem_map
def kJ:=@List.mem_singleton
def kO:=@List.getElem?_eq_getElem
def kW:=@List.prefix_refl
def kY:=@if_neg
def kZ:=@Ne.symm
def jb:=@List.length_map
def jc:=@List.getElem?_set_self
def jd:=@List.getElem?_set_ne
def je:=@List.prefix_append
def jf:=@PySem.wpAny_holding
def jh:=@List.map_nil
def ji:=@decide_eq_true_eq
def jj:=@List.reverse_cons
def jk:=@List.flatMap_cons
def jn:=@if_true
def jq:=@decide_eq_true
def jr:=@List.getElem?_map
def jt:=@List.all_cons
def ju:=@PyProof.Rows.slot_tuple_getitem
def jx:=@PySem.wpAny_newObj_type
def jy:=@List.nodup_cons
def jz:=@List.getElem?_eq_none_iff
def jA:=@List.find?_cons
def jB:=@beq_eq_false_iff_ne
def jC:=@PyProof.Rows.callWith_type1
def jD:=@PySem.wpAny_field
def jE:=@PySem.wpAny_callSpecial?_slot
def jF:=@PySem.wpAny_Call_Name_kw
def jG:=@List.append_assoc
def jH:=@List.set_append_right
def jJ:=@PySem.wpAny_truthy_bool
def jK:=@PySem.wpAny_mono
def jL:=@Option.bind_some
def jM:=@List.lookup_cons
def jN:=@List.eq_nil_of_length_eq_zero
def jO:=@List.mem_append_left
def jP:=@Nat.lt_irrefl
def jQ:=@List.getElem?_replicate
def jR:=@decide_eq_false
def jT:=@PySem.mem_of_lookup
def jU:=@List.replicate_succ
def jV:=@PySem.wpAny_seqItems
def jW:=@List.length_take
def jX:=@List.length_drop
def jY:=@congrArg
def jZ:=@Nat.le_succ
def j5:=@PySem.wpAny_call_entry
def j6:=@List.mem_of_mem_drop
def j7:=@of_decide_eq_true
def j8:=@List.mem_filter
def j9:=@PySem.Heap.get?_update_self
def qe:=@PySem.Heap.size_push
def qg:=@Int.toNat_of_nonneg
def qi:=@Nat.lt_succ_self
def qj:=@beq_iff_eq
def ql:=@Nat.lt_of_le_of_lt
def qm:=@Bool.false_eq_true
def qp:=@List.length_replicate
def qt:=@List.getElem?_eq_none
def qu:=@Bool.eq_iff_iff
def qw:=@PySem.call_meets
def qx:=@List.flatten_cons
def qy:=@PySem.Heap.get?_update_other
def qz:=@PySem.wpAny_setField_rec
def qC:=@PySem.wpAny_typeOf
def qD:=@PySem.wpAny_passesOwn
def qF:=@List.length_reverse
def qG:=@List.flatMap_append
def qH:=@Option.isSome_iff_exists
def qI:=@Nat.ne_of_gt
def qJ:=@PySem.F.slot_tuple_iterator_next
def qK:=@List.cons.injEq
def qL:=@List.any_cons
def qM:=@Int.eq_ofNat_of_zero_le
def qN:=@Int.emod_lt_of_pos
def qO:=@Bool.or_false
def qP:=@PySem.wpAny_rule
def qQ:=@Bool.eq_false_iff
def qR:=@PySem.wpAny_attempt
def qT:=@PySem.Calls.spliced_cons
def qU:=@List.flatMap_nil
def qW:=@List.mem_of_getElem?
def qX:=@PySem.Calls.callWith_builtin
def qY:=@PySem.wpAny_pyIter_list
def qZ:=@PySem.sizeLine_eq
def vd:=@PySem.builtinLookup_eq_fast
def vf:=@List.filterMap_cons
def vg:=@Int.emod_nonneg
def vh:=@Bool.or_eq_true_iff
def vm:=@Array.length_toList
def vo:=@PySem.wpAny_isInstance
def vp:=@PySem.F.slot_tuple_mul
def vq:=@PySem.AutoSeq1.idx_int
def vA:=@if_false
def vB:=@PySem.Calls.evalArgs_plain
def vC:=@Array.find?_toList
def vD:=@ğ
def vG:=@List.drop_eq_getElem_cons
def vH:=@PySem.wpAny_updateSeq
def vI:=@PySem.W.kitx_list
def vJ:=@PySem.F.args_tuple_add_2
def vK:=@Nat.lt_succ_of_lt
def vL:=@PySem.F.plainAttrs_list
def vM:=@PySem.F.entry_tuple_add
def vN:=@beq_self_eq_true
def vO:=@List.mem_flatMap
def vP:=@List.getElem_mem
def vQ:=@List.getElem_inj
def vR:=@List.filter_cons
def vU:=@List.any_eq_true
def vV:=@PySem.F.slot_tuple_add
def vW:=@PySem.typeIs_str
def vX:=@PySem.F.slot_dict_get
def vY:=@List.of_mem_zip
def vZ:=@List.mem_iff_getElem?
def v7:=@List.length_set
def v8:=@List.forIn_cons
def v9:=@PySem.F.slot_list_getattribute
def wg:=@PySem.Calls.spliced_nil
def wj:=@PySem.wpAny_of_eq
def wu:=@List.mem_of_mem_take
def wz:=@ne_true_of_eq_false
def wA:=@Nat.zero_le
def wC:=@PySem.wpAny_execs_nil
def wD:=@PySem.typeLookup_type
def wF:=@not_or
def wG:=@Prod.mk.injEq
def wI:=@PySem.PassesOwn.never
def wJ:=@List.mem_filterMap
def wK:=@PySem.F.slot_zip_next
def wL:=@PySem.F.slot_int_rmul
def wM:=@Bool.beq_comm
def wO:=@PySem.wpAny_updateSeq_pair
def wQ:=@PySem.W.kitx_dict
def wR:=@List.any_eq_false
def wU:=@Int.toNat_natCast
def wV:=@PySem.Heap.get?_none_of_le
def wW:=@PyProof.Rows.tupleItemsOf_
def wX:=@Nat.mul_comm
def wY:=@Nat.lt_trans
def wZ:=@Nat.le_of_lt
def yg:=@Nat.add_comm
def yh:=@List.eq_nil_iff_forall_not_mem
def yj:=@List.reverse_nil
def ym:=@List.mem_reverse
def yo:=@List.drop_length
def yp:=@PySem.Heap.SameBut.update
def yq:=@PyProof.Rows.boot_isinstance
def yr:=@PySem.wpAny_standAt
def yt:=@PySem.wpAny_pyIter_tuple
def yu:=@PySem.wpAny_onRaise
def yw:=@PySem.plainId_quiet
def yx:=@PySem.F.attrBase_ValueError
def yz:=@List.append_nil
def yC:=@PySem.F.args_tuple_mul_2
def yD:=@PySem.F.args_str_split_2
def yE:=@Bool.or_eq_true
def yF:=@PySem.F.excBase_ValueError
def yG:=@PySem.typeIs_int
def yH:=@PySem.strKind_is
def yI:=@PySem.F.plain_extend_loop
def yJ:=@List.mem_range
def yK:=@List.drop_zero
def yL:=@PySem.F.entry_tuple_mul
def yM:=@PySem.F.entry_str_split
def yN:=@PySem.concat_meets
def yO:=@PySem.codeAny_mono
def yP:=@List.filterMap_cons_some
def yQ:=@PySem.wpAny_execs_cons
def yR:=@PySem.noFill_tuple_add
def yS:=@PySem.F.args_dict_get_3
def yU:=@List.getElem?_cons_zero
def yV:=@List.cons.inj
def yW:=@PySem.F.slot_str_split
def yX:=@PySem.W.cellsFrom_some
def yZ:=@PySem.F.entry_dict_get
def xg:=@List.take_of_length_le
def xj:=@PySem.F.args_tuple_iterator_next_1
def xm:=@PySem.wpAny_throw
def xn:=@PySem.wpAny_letGo
def xr:=@PySem.codeAny_builtin
def xu:=@PySem.F.entry_tuple_iterator_next
def xx:=@Array.getElem?_toList
def xF:=@List.mem_iff_getElem
def xG:=@PySem.Calls.Name_function_global
def xH:=@PySem.wpAny_binaryOp_repeat_ref
def xJ:=@PySem.W.hideAll_get
def xK:=@Nat.log2_lt
def xM:=@List.filter_eq_self
def xN:=@PySem.wpAny_call
def xO:=@and_true
def xP:=@PySem.Walks.list
def xQ:=@PySem.W.of_hideAll
def xR:=@PySem.W.kitx_tuple
def xT:=@PySem.W.callWith_K
def xU:=@List.contains_cons
def xV:=@PySem.AutoSeq1.sub_tuple_tuple
local macro_rules|`(⋯)=>`(by decide +kernel)
local macro_rules|`(∅)=>`(by omega)
namespace ML
open PySem PySem.W PyProof.Rows
inductive Cn where
 | int (i:Int) | str (x:È) | tup (l:List Cn)
noncomputable def mX(h:Ï)(v:Ä):Option (Array Ä):=match v with
 | .ref a=>(h.get? a).bind λo=>match o.cls with
  | .type t=>if t="tuple" then (match o.data with | .seq cb _=>if o.dict.isNone then À cb else Á | _=>Á) else Á
  | _=>Á
 | _=>Á
noncomputable def isI(i:Int)(v:Ä):Bool:=match v with | .int j _=>i==j | _=>Â
noncomputable def Y7(x:È)(v:Ä):Bool:=match v with | .str y _=>x==y | _=>Â
noncomputable def d8{α β:Type}(p:α->β->Bool):List α->List β->Bool
 | [],[]=>Ã
 | a::l,b::r=>p a b&&d8 p l r
 | _,_=>Â
noncomputable def d9(h:Ï):Nat->Cn->Ä->Bool
 | 0,_,_=>Â
 | n+1,w,v=>match w with
  | .int i=>isI i v
  | .str x=>Y7 x v
  | .tup l=>(mX h v).any λcb=>decide (cb.size<=sizeLine)&&d8 (d9 h n) l cb.toList
noncomputable def dictAt(h:Ï)(v:Ä):Option (Array ú):=match v with
 | .ref a=>(h.get? a).bind λo=>match o.cls with
  | .type t=>if t="dict" then (match o.data with | .dict es _=>if o.dict.isNone&&o.slots.isEmpty&&a != Ø then À es else Á | _=>Á) else Á
  | _=>Á
 | _=>Á
noncomputable def JQ(h:Ï)(l:List (È×Cn))(v:Option Ä):Bool×List Int:=match v.bind (dictAt h) with
 | some es=>(d8 (λp (e:ú)=>Y7 p.1 e.key&&d9 h 9 p.2 e.val) l es.toList,es.toList.map (·.hash))
 | none=>(Â,[])
noncomputable def lA(cons:List (È×Cn))(bins:List È)(h:Ï):Bool:=h.isNs Ô&&cons.all (λp=>(h.nsMap Ô p.1).any λv=>d9 h 9 p.2 v)&&bins.all λx=>(h.nsMap Ô x).isNone
noncomputable def pH(tabs:List (È×List (È×Cn)))(h:Ï):List (Bool×List Int):=tabs.map λp=>JQ h p.2 (h.nsMap Ô p.1)
noncomputable def iq(tabs:List (È×List (È×Cn)))(w:Ð):List (Bool×List Int):=tabs.map λp=>(Ã,p.2.map λk=>ķ w.params k.1)
noncomputable def B2(cons:List (È×Cn))(tabs:List (È×List (È×Cn)))(bins:List È):PySem.W.Hook:=
 ⟨Bool×List (Bool×List Int),λs=>(lA cons bins s.heap,pH tabs s.heap),λw=>(Ã,iq tabs w),
  λw h=>∃h₀:Ï,(∀b o,h₀.get? b=À o->h.get? b=À o)/\lA cons bins h₀=Ã/\pH tabs h₀=iq tabs w,
  λw s e=>⟨s.heap,λ_ _ z=>z,jY Prod.fst e,jY Prod.snd e⟩,λw h h' ⟨h₀,a,b⟩ k=>⟨h₀,λ_ _ z=>k _ _ (a _ _ z),b⟩⟩
def Wy{p q:Í}{loose:List È}{Xt:Å->Bool}{α:Type}{Yf:Å->α}{Ya:Ð->α}{N:Nat}{g0:Bool}(row:String)
  (hf:∀w:Ð,(ŕ ł p (w.withFollow row Â) N).map (λs=>(Ŗ q loose (ø p.main.body) Xt g0 s,Yf s))=À (ď q loose,Ya (w.withFollow row Â)))
  (ht:∀w:Ð,(ŕ ł p (w.withFollow row Ã) N).map (λs=>(Ŗ q loose (ø p.main.body) Xt g0 s,Yf s))=À (ď q loose,Ya (w.withFollow row Ã))):LeftO p q loose Xt Yf Ya N g0:=
 byRow2 row (P:=λw=>(ŕ ł p w N).map (λs=>(Ŗ q loose (ø p.main.body) Xt g0 s,Yf s))=À (ď q loose,Ya w)) hf ht
noncomputable def VJ(tb:String->Option ü)(p:Í)(w:Ð)(A1:Nat)(ann:Option Ä):Nat->SharedT->Thread->Option SharedT
 | 0,_,_=>Á
 | n+1,s,t=>match through t with
  | true=>À s
  | false=>match stepOk A1 ann t with
   | false=>Á
   | true=>match stepT (denote tb) p w s t with
    | some (s',t')=>VJ tb p w A1 ann n s' t'
    | none=>Á
def Qf{tb:String->Option ü}{p:Í}{w:Ð}{A1:Nat}{ann:Option Ä}(n:Nat):∀{s s':SharedT} {t:Thread},VJ tb p w A1 ann n s t=À s'->topRun tb p w A1 ann n s.abs t=À s'.abs:=by
 induction n with
 | zero=>intro _ _ _ h;cases h
 | succ n ih=>
  intro s s' t h;unfold VJ at h;unfold topRun;cases he:through t with
  | true=>rw[he] at h;cases h;rfl
  | false=>
   rw[he] at h;cases hk:stepOk A1 ann t with
   | false=>rw[hk] at h;cases h
   | true=>
    rw[hk] at h;cases hs:stepT (denote tb) p w s t with
    | none=>rw[hs] at h;cases h
    | some r=>rw[hs] at h;rw[stepT_spec hs];exact ih h
noncomputable def treeOf:List æ->Nat->BT->BT
 | [],_,t=>t
 | o::l,n,t=>treeOf l (n+1) (t.ins n o)
noncomputable def Wc(H:Ï)(d:Drawn)(k:Nat)(os:č):SharedT:=⟨treeOf H.objs.toList 0 .nil,H.objs.size,H.life,Array.mk [],d,k,os⟩
noncomputable def Vt(p q:Í)(loose:List È)(H:Ï)(hJ:Å):=
 (staticsOk (ø p.main.body) H hJ.heap&&namesBound p hJ.heap&&gensDone hJ&&laidKept H hJ.heap,Ŗ q loose (ø p.main.body) (λs=>xlAt q [] s&&recOk [] s) Ã hJ)
noncomputable def tS{α:Type}(p q:Í)(loose:List È)(obs:Å->α)(H:Ï)(d:Drawn)(k:Nat)(w:Ð)(os:č):=
 (VJ ł p w H.objs.size (H.nsMap Ô "__annotations__") 8000 (Wc H d k os) (topStub p)).map λs=>(Vt p q loose H s.abs,obs s.abs)
theorem Xu:@tS=@tS:=rfl
lay_quick tS
name_quick runBQ for tS by Xu
theorem boot_abs(P:Params)(os:č):(Wc (boot_heap P) boot_drawn boot_toks os).abs=⟨boot_heap P,Array.mk [],boot_drawn,boot_toks,os⟩:=by kernel_rfl
theorem WM(P:Params):((boot_heap P).isNs Ô&&(Array.mk []:Array ĸ).size==0)=Ã:=by kernel_rfl
def Yk{p q:Í}{loose:List È}{h:Hook}(row:String)(e:opening p=plainProg p.main.scope.names)(f:∀s,fenceModules? p s=À s)
  (hf:∀(w:Ð) (os:č),PySem.W.Fast.runBQ p q loose h.obs (boot_heap (w.withFollow row Â).params) boot_drawn boot_toks (w.withFollow row Â) os=À ((Ã,ď q loose),h.val (w.withFollow row Â)))
  (ht:∀(w:Ð) (os:č),PySem.W.Fast.runBQ p q loose h.obs (boot_heap (w.withFollow row Ã).params) boot_drawn boot_toks (w.withFollow row Ã) os=À ((Ã,ď q loose),h.val (w.withFollow row Ã))) :
  LeftO p q loose (λs=>xlAt q [] s&&recOk [] s) h.obs h.val 8000:=by
 have k:∀(b:Bool) (w:Ð),(∀os:č,PySem.W.Fast.runBQ p q loose h.obs (boot_heap (w.withFollow row b).params) boot_drawn boot_toks (w.withFollow row b) os=À ((Ã,ď q loose),h.val (w.withFollow row b)))->(ŕ ł p (w.withFollow row b) 8000).map (λs=>(Ŗ q loose (ø p.main.body) (λs=>xlAt q [] s&&recOk [] s) Ã s,h.obs s))=À (ď q loose,h.val (w.withFollow row b)):=λb w r=>by
  rw[<-PySem.W.Fast.runBQ_eq] at r;generalize w.withFollow row b=w at r ⊢;obtain⟨⟨H,g,d,k,os⟩,hs,hv⟩:=zj.mp (boot_open (N:=8000) e rfl f w);erw[wG] at hv;obtain⟨rfl,rfl,rfl,rfl⟩:=hv;obtain⟨s,h1,h2⟩:=zj.mp (r os);have h3:=Qf _ h1;rw[boot_abs] at h3;erw[Vt,wG] at h2;obtain⟨⟨h4,h5⟩,h6⟩:=h2;unfold ŕ topFrom;rw[hs];erw[jL];rw[WM];erw[h3,jL];rw[h4];exact jY À (Prod.ext h5 h6)
 exact Wy row (λw=>k Â w (hf w)) λw=>k Ã w (ht w)
abbrev sI:List Ä:=[.type "ValueError",.type "Exception",.type "BaseException",.type "object"]
noncomputable def clsAt(h:Ï)(x:È):Option (Ç×ClassData×List (Option Ä)):=match h.nsMap Ô x with
 | some (.ref C)=>(h.get? C).bind λo=>match o.cls,o.data with
  | .type t,.cls cd=>if t="type" then À (C,cd,o.slots.toList) else Á
  | _,_=>Á
 | _=>Á
noncomputable def tK(h:Ï)(N:Ç)(ns:List È):Bool:=(h.get? N).any λo=>match o.data with
 | .dict es _=>(es.all λe=>match e.key with | .str _ _=>Ã | _=>Â) && !(es.toList.any (·.refKey))&&ns.all λn=>(es.toList.find? (·.key.isStr n)).isNone
 | _=>Â
noncomputable def Q2:List (Option Ä)->Bool
 | [_,_,_,_,À (.builtin n),_]=>n=="ValueError.__new__"
 | _=>Â
noncomputable def four:List È:=["__init__","__getattribute__","__getattr__","__class__"]
noncomputable def tE(h:Ï):Bool:=(clsAt h "NoText").any λc=>(clsAt h "WorkError").any λc1=>(clsAt h "NoDeed").any λc2=>(clsAt h "Clash").any λc3=>
 c.2.1.mro==.ref c.1::.ref c1.1::sI&&c1.2.1.mro==.ref c1.1::sI && !c.2.1.hasDel&&Q2 c.2.2&&tK h c.2.1.ns four&&tK h c1.2.1.ns four&&c2.1 != c.1&&c2.1 != c1.1&&c3.1 != c.1&&c3.1 != c1.1
noncomputable def VB(cons:List (È×Cn))(tabs:List (È×List (È×Cn)))(bins:List È):PySem.W.Hook:=
 ⟨Bool×List (Bool×List Int)×Bool,λs=>(lA cons bins s.heap,pH tabs s.heap,tE s.heap),λw=>(Ã,iq tabs w,Ã),
  λw h=>∃h₀:Ï,(∀b o,h₀.get? b=À o->h.get? b=À o)/\lA cons bins h₀=Ã/\pH tabs h₀=iq tabs w/\tE h₀=Ã,
  λw s e=>⟨s.heap,λ_ _ z=>z,jY Prod.fst e,jY (λx=>x.2.1) e,jY (λx=>x.2.2) e⟩,λw h h' ⟨h₀,a,b⟩ k=>⟨h₀,λ_ _ z=>k _ _ (a _ _ z),b⟩⟩
end ML
namespace K81
open PySem PySem.W PyProof.Rows ML
def pw:Í:=PySem.Challenge.pw_shelfwork_k81_whole_read
def isNm(x:String):Ë->Bool | .Name y ..=>y==x | _=>Â
def drops:ì->Bool
 | .Assign [t] ..=>isNm "FORMS" t||isNm "__name__" t
 | _=>Â
def q:Í:={ pw with main:={ pw.main with body:=pw.main.body.filter λs=>!drops s } }
def consC:List (È×Cn):=[("SHELVES",(.tup [.str "a",.str "b",.str "c",.str "d"])),("MOST_WORTH",(.int 1008)),("MOST_FIGURES_names",(.int 3)),("MOST_DEEDS",(.int 60)),("MOST_FIGURES_texts",(.int 4))]
def tabsC:List (È×List (È×Cn)):=[("FORMS",[("number",(.tup [.int 2,.int 2])),("name",(.tup [.int 2,.int 2])),("read",(.tup [.int 2,.int 2])),("write",(.tup [.int 3,.int 2])),("add",(.tup [.int 3,.int 1])),("less",(.tup [.int 3,.int 1])),("then",(.tup [.int 3,.int 1])),("if",(.tup [.int 4,.int 1])),("loop",(.tup [.int 3,.int 1])),("let",(.tup [.int 4,.int 2])),("own",(.tup [.int 4,.int 2])),("say",(.tup [.int 2,.int 1])),("ask",(.tup [.int 1,.int 1])),("do",(.tup [.int 2,.int 2])),("call",(.tup [.int 4,.int 2]))])]
def BJ:List È:=["ValueError","all","bool","dict","int","isinstance","len","list","range","reversed","str","sum","tuple","zip"]
noncomputable def H:Hook:=VB consC tabsC BJ
set_option maxHeartbeats 0 in
theorem said:PySem.Challenge.rw_shelfwork_k81_whole_read.wellSaid=Ã:=by kernel_rfl
set_option maxHeartbeats 0 in
theorem leftF(w:Ð)(os:č):PySem.W.Fast.runBQ pw q ["FORMS"] H.obs (boot_heap (w.withFollow "special-get-raises" Â).params) boot_drawn boot_toks (w.withFollow "special-get-raises" Â) os=À ((Ã,ď q ["FORMS"]),H.val (w.withFollow "special-get-raises" Â)):=by kernel_rfl
set_option maxHeartbeats 0 in
theorem leftT(w:Ð)(os:č):PySem.W.Fast.runBQ pw q ["FORMS"] H.obs (boot_heap (w.withFollow "special-get-raises" Ã).params) boot_drawn boot_toks (w.withFollow "special-get-raises" Ã) os=À ((Ã,ď q ["FORMS"]),H.val (w.withFollow "special-get-raises" Ã)):=by kernel_rfl
set_option maxHeartbeats 0 in
def left:LeftO pw q ["FORMS"] (λs=>xlAt q [] s&&recOk [] s) H.obs H.val 8000:=Yk "special-get-raises" Nu (λs=>Nu) leftF leftT
end K81
section
namespace L2
open PySem PySem.Spec PyProof.Rows
abbrev Key:=Sum Int È
def fV:Key->Ä->Bool
 | .inl k,v=>Value.isInt k v
 | .inr x,v=>ã x v
def CO(w:Ð):Key->Int
 | .inl k=>hashInt k
 | .inr x=>hashStr w x
def vS:∀{k:Key} {v:Ä},fV k v=Ã->(∃i t,k=Ń i/\v=ń i t)\/(∃x t,k=ý x/\v=Ņ x t)
 | .inl i,v,h=>by
  obtain⟨t,e⟩:=Value.isInt_shape (k:=i) (v:=v) h;exact .inl ⟨i,t,rfl,e⟩
 | .inr x,v,h=>by
  obtain⟨t,e⟩:=Value.isStrOf_shape (x:=x) (v:=v) h;exact .inr ⟨x,t,rfl,e⟩
def Z1(i:Int)(t:ū):fV (.inl i) (.int i t)=Ã:=by simp[fV,Value.isInt]
def ZH(x:È)(t:ū):fV (.inr x) (.str x t)=Ã:=by simp[fV,ã]
def Us(a b:Int):decide ((Ń a:Key)=Ń b)=(a==b):=by
 by_cases e:a=b
 .subst e;simp
 .have h:¬(Ń a:Key)=Ń b:=λq=>e (Sum.inl.inj q)
  rw[jR h];exact(jB.mpr e).symm
def U9(a b:È):decide ((ý a:Key)=ý b)=decide (a=b):=by
 by_cases e:a=b
 .subst e;simp
 .have h:¬(ý a:Key)=ý b:=λq=>e (Sum.inr.inj q)
  rw[jR h,jR e]
def UH(a:Int)(b:È):decide ((Ń a:Key)=ý b)=Â:=jR (λq=>nomatch q)
def Ux(a:È)(b:Int):decide ((ý a:Key)=Ń b)=Â:=jR (λq=>nomatch q)
def vc(prog:Í)(w:Ð):PySem.KeyKind prog w Key where
 is:=fV
 hash:=CO w
 inj:=λv a b ha hb=>by
  rcases vS ha with ⟨i,t,rfl,rfl⟩ | ⟨x,t,rfl,rfl⟩
  .rcases vS hb with ⟨j,u,rfl,e⟩ | ⟨y,u,rfl,e⟩
   .injection e with e1 _;rw[e1]
   .exact nomatch e
  .rcases vS hb with ⟨j,u,rfl,e⟩ | ⟨y,u,rfl,e⟩
   .exact nomatch e
   .injection e with e1 _;rw[e1]
 byValue:=λk v h=>by
  rcases vS h with ⟨i,t,rfl,rfl⟩ | ⟨x,t,rfl,rfl⟩<;>rfl
 pyHash:=λhv h=>by
  rcases vS hv with ⟨i,t,rfl,rfl⟩ | ⟨x,t,rfl,rfl⟩
  .exact wpAny_pyHash_int h
  .exact wpAny_pyHash_str h
 eqBool:=λhu hv h=>by
  rcases vS hu with ⟨i,t,rfl,rfl⟩ | ⟨x,t,rfl,rfl⟩
  .rcases vS hv with ⟨j,u,rfl,rfl⟩ | ⟨y,u,rfl,rfl⟩
   .rw[Us] at h;exact wpAny_eqBool_int h
   .rw[UH] at h;exact SeqAt.EqAt.int_str i t y u _ _ _ _ h
  .rcases vS hv with ⟨j,u,rfl,rfl⟩ | ⟨y,u,rfl,rfl⟩
   .rw[Ux] at h;exact SeqAt.EqAt.str_int x t j u _ _ _ _ h
   .rw[U9] at h;exact wpAny_eqBool_str h
 «strs»:=λk x t v h=>by
  rcases vS h with ⟨i,u,rfl,e⟩ | ⟨y,u,rfl,e⟩
  .exact nomatch e
  .injection e with e1 _
   subst e1;cases v<;>rfl
def pP(prog:Í)(w:Ð)(i:Int)(t:ū):(vc prog w).is (.inl i) (.int i t)=Ã:=Z1 i t
def pR(prog:Í)(w:Ð)(x:È)(t:ū):(vc prog w).is (.inr x) (.str x t)=Ã:=ZH x t
end L2
namespace L2
open PySem PySem.Spec PyProof.Rows
inductive V where
 | non | bl (b:Bool) | int (i:Int) | str (x:È) | byt (b:Array UInt8) | flt (b:UInt64) | ref (a:Ç) | ty (n:String)
 deriving DecidableEq
def RelV:V->Ä->Prop
 | .non,u=>u=î
 | .bl b,u=>u=Ī b
 | .int i,u=>∃t,u=ń i t
 | .str x,u=>∃t,u=Ņ x t
 | .byt b,u=>∃t,u=Value.bytes b t
 | .flt b,u=>∃t,u=Value.float b t
 | .ref a,u=>u=Ú a
 | .ty n,u=>u=ŏ n
abbrev Vals:List V->List Ä->Prop:=Ų RelV
theorem Vals.length{xs:List V}{us:List Ä}(r:Vals xs us):xs.length=us.length:=Paired.length r
theorem Vals.get:∀{xs:List V} {us:List Ä} {i:Nat} {x:V},Vals xs us->xs[i]?=À x->∃u,us[i]?=À u/\RelV x u
 | _,_,_,_,.nil,e=>by simp at e
 | _,_,0,_,.cons r _,e=>by simp at e;subst e;exact⟨_,rfl,r⟩
 | _,_,i+1,x,.cons _ t,e=>by
  obtain⟨u,h1,h2⟩:=Vals.get (i:=i) (x:=x) t (by simpa using e);exact⟨u,by simpa using h1,h2⟩
theorem Vals.set{x:V}{u:Ä}(r:RelV x u):∀{xs:List V} {us:List Ä} (i:Nat),Vals xs us->Vals (xs.set i x) (us.set i u)
 | _,_,_,.nil=>.nil
 | _,_,0,.cons _ t=>.cons r t
 | _,_,i+1,.cons q t=>.cons q (Vals.set r i t)
def Vals.append{xs ys:List V}{us ws:List Ä}(h:Vals xs us)(s:Vals ys ws):Vals (xs++ys) (us++ws):=by
 induction h with
 | nil=>exact s
 | cons r t ih=>exact .cons r ih
theorem Vals.take:∀{xs:List V} {us:List Ä} (n:Nat),Vals xs us->Vals (xs.take n) (us.take n)
 | _,_,0,_=>.nil
 | _,_,_+1,.nil=>.nil
 | _,_,n+1,.cons r t=>.cons r (Vals.take n t)
theorem Vals.drop:∀{xs:List V} {us:List Ä} (n:Nat),Vals xs us->Vals (xs.drop n) (us.drop n)
 | _,_,0,r=>r
 | _,_,_+1,.nil=>.nil
 | _,_,n+1,.cons _ t=>Vals.drop n t
def RelO:Option V->Option Ä->Prop
 | some v,À u=>RelV v u
 | none,Á=>True
 | _,_=>False
def KV{κ:Type}:List (κ×V)->List (κ×Ä)->Prop:=Ų λ(p:κ×V) (q:κ×Ä)=>p.1=q.1/\RelV p.2 q.2
def kV:Key->V
 | .inl i=>.int i
 | .inr x=>.str x
inductive HO where
 | lst (xs:List V)
 | tup (xs:List V)
 | dK (gy:List (Key×V)) | dT (gy:List (List Key×V))
 | set (S:Int->Bool) (n:Nat)
 | ins (C dx:Ç) (fs:List (È×V))
 | own (x:Ç)
 | xd (fs:List (È×V))
 | met (f x:Ç)
 | rng (lo hi:Int)
 | frz (o:æ) (u:HO)
 | tbl (ps:Array Ä)
 | ext (φ:Ï->Prop)
abbrev Hp:=Ç->Option HO
def upd(H:Hp)(a:Ç)(o:HO):Hp:=λb=>if b=a then À o else H b
def va{H:Hp}{a:Ç}{o:HO}:upd H a o a=À o:=by unfold upd;rw[zW rfl]
def kK{H:Hp}{a b:Ç}{o:HO}(h:b≠a):upd H a o b=H b:=by unfold upd;rw[kY h]
def BP{H:Hp}{a b:Ç}{o u:HO}(h:H a=À o)(h':H b=À u)(d:o≠u):a≠b:=by
 intro e;subst e;rw[h] at h';exact d (zP h')
def qo{H:Hp}{a b:Ç}{o:HO}(h:H a=À o)(h':H b=Á):a≠b:=by
 intro e;subst e;rw[h] at h';cases h'
def NoDi(h:Ï)(a:Ç):Prop:=∃o,h.get? a=À o/\o.dict=Á
def NoDi.new(h:Ï)(o:æ)(n:↥(o.dict=Á))(f:↥(o.isFreed=Â)):NoDi (h.push o) h.objs.size:=⟨o,zL _ f,n⟩
section
variable(P:Í)(w:Ð)
def ObjOk(H:Hp)(h:Ï)(a:Ç):HO->Prop
 | .lst xs=>xs.length<=sizeLine/\∃(cb:List Ä) (n:Nat),Vals xs cb/\h.get? a=À { cls:=.type "list",data:=.seq cb.toArray n }
 | .tup xs=>xs.length<=sizeLine/\∃cb:List Ä,Vals xs cb/\Ĳ h a cb.toArray/\NoDi h a
 | .dK gy=>gy.length<=sizeLine/\(a==Ø)=Â/\∃vs,KV gy vs/\h.DictOf (vc P w) a vs
 | .dT gy=>gy.length<=sizeLine/\(a==Ø)=Â/\∃xs:List (List Key×Ç×Ä),
   Ų (λ(p:List Key×V) (q:List Key×Ç×Ä)=>p.1=q.1/\H q.2.1=À (.tup (p.1.map kV))/\RelV p.2 q.2.2) gy xs /\
   ∃o es ep,h.get? a=À o/\o.ExactDict/\o.data=.dict es ep/\es.toList=xs.map (entryOfKey (ĕ (vc P w)))/\(xs.map (·.1)).Nodup
 | .set S n=>h.SetOf (intKind P w) a S n
 | .ins C dx fs=>H dx=À (.own a)/\fs.length<=1000/\dx≠a/\h.get? a=À (ĳ C dx) /\
   ∃mA,h.Ns1 dx mA/\(∀f,RelO (fs.lookup f) (mA f))/\PySem.Within mA (fs.map (·.1))
 | .own _=>∃o,h.get? a=À o
 | .xd fs=>∃mA,h.Ns1 a mA/\∀f,RelO (fs.lookup f) (mA f)
 | .rng lo hi=>∃t u v,h.get? a=À { cls:=.type "range",data:=.fields #[.int lo t,.int hi u,.int 1 v] }
 | .frz o u=>h.get? a=À o/\ObjOk H h a u
 | .tbl ps=>h.get? a=À { cls:=.none,data:=.fields ps }
 | .met f x=>h.get? a=À (Ġ (.ref f) (.ref x))
 | .ext φ=>φ h/\(∃o,h.get? a=À o)/\∀h1 h2:Ï,φ h1->(∀o,h1.get? a=À o->h2.get? a=À o)->φ h2
def HOk(H:Hp)(h:Ï):Prop:=∀a o,H a=À o->ObjOk P w H h a o
end
section
variable{P:Í}{w:Ð}{H H':Hp}{h h':Ï}{a:Ç}{o:HO}
theorem ObjOk.lt(x:ObjOk P w H h a o):a<h.objs.size:=by
 cases o with
 | lst xs=>obtain⟨_,_,_,_,e⟩:=x;exact zz e
 | tup xs=>obtain⟨_,_,_,p,_⟩:=x;exact p.lt
 | dK gy=>obtain⟨_,_,_,_,o,_,_,e,_⟩:=x;exact zz e
 | dT gy=>obtain⟨_,_,_,_,o,_,_,e,_⟩:=x;exact zz e
 | set S n=>obtain⟨o,_,_,_,e,_⟩:=x;exact zz e
 | ins C dx fs=>obtain⟨_,_,_,e,_⟩:=x;exact zz e
 | own y=>obtain⟨_,e⟩:=x;exact zz e
 | xd fs=>obtain⟨_,⟨_,_,_,e,_⟩,_⟩:=x;exact zz e
 | rng lo hi=>obtain⟨_,_,_,e⟩:=x;exact zz e
 | frz ob u=>obtain⟨e,_⟩:=x;exact zz e
 | tbl ps=>exact zz (show h.get? a=À _ from x)
 | met f y=>exact zz (show h.get? a=À _ from x)
 | ext φ=>obtain⟨_,⟨_,e⟩,_⟩:=x;exact zz e
theorem Paired.mapP{α β:Type}{F G:α->β->Prop}:∀{EX:List α} {EY:List β},Ų F EX EY->(∀a b,F a b->G a b)->Ų G EX EY
 | _,_,.nil,_=>.nil
 | _,_,.cons r t,f=>.cons (f _ _ r) (Paired.mapP t f)
def ObjOk.stay(x:ObjOk P w H h a o)(k:∀b u,(b=a\/H b=À (.own a))->h.get? b=À u->h'.get? b=À u)
  (ho:∀b,H b=À (.own a)->H' b=À (.own a)) (ht:∀b xs,H b=À (.tup xs)->H' b=À (.tup xs)):ObjOk P w H' h' a o:=by
 induction o with
 | lst xs=>obtain⟨z,cb,n,r,e⟩:=x;exact⟨z,cb,n,r,k _ _ (.inl rfl) e⟩
 | tup xs=>obtain⟨z,cb,r,⟨ob,e,c⟩,o2,e2,d2⟩:=x;exact⟨z,cb,r,⟨ob,k _ _ (.inl rfl) e,c⟩,o2,k _ _ (.inl rfl) e2,d2⟩
 | dK gy=>obtain⟨z,y,vs,r,ob,es,ep,e,c⟩:=x;exact⟨z,y,vs,r,ob,es,ep,k _ _ (.inl rfl) e,c⟩
 | dT gy=>
  obtain⟨z,y,xs,r,ob,es,ep,e,c⟩:=x;exact⟨z,y,xs,Paired.mapP r λp q z=>⟨z.1,ht _ _ z.2.1,z.2.2⟩,ob,es,ep,k _ _ (.inl rfl) e,c⟩
 | set S n=>obtain⟨ob,es,ep,t,e,c⟩:=x;exact⟨ob,es,ep,t,k _ _ (.inl rfl) e,c⟩
 | ins C dx fs=>
  obtain⟨d,z,ne,e,mA,⟨od,es,ep,e2,c⟩,r⟩:=x;exact⟨ho _ d,z,ne,k _ _ (.inl rfl) e,mA,⟨od,es,ep,k _ _ (.inr d) e2,c⟩,r⟩
 | own y=>obtain⟨ob,e⟩:=x;exact⟨ob,k _ _ (.inl rfl) e⟩
 | xd fs=>obtain⟨mA,⟨od,es,ep,e,c⟩,r⟩:=x;exact⟨mA,⟨od,es,ep,k _ _ (.inl rfl) e,c⟩,r⟩
 | rng lo hi=>obtain⟨t,u,v,e⟩:=x;exact⟨t,u,v,k _ _ (.inl rfl) e⟩
 | frz ob u ih=>obtain⟨e,q⟩:=x;exact⟨k _ _ (.inl rfl) e,ih q⟩
 | tbl ps=>
  have e:h.get? a=À { cls:=.none,data:=.fields ps }:=x;show h'.get? a=À { cls:=.none,data:=.fields ps }
  exact k a _ (.inl rfl) e
 | met f y=>
  have e:h.get? a=À (Ġ (.ref f) (.ref y)):=x;show h'.get? a=À (Ġ (.ref f) (.ref y))
  exact k a _ (.inl rfl) e
 | ext φ=>obtain⟨p,⟨o,e⟩,st⟩:=x;exact⟨st _ _ p λo q=>k _ _ (.inl rfl) q,⟨o,k _ _ (.inl rfl) e⟩,st⟩
theorem HOk.lt(x:HOk P w H h)(e:H a=À o):a<h.objs.size:=(x a o e).lt
def HOk.fresh(x:HOk P w H h)(e:h.objs.size<=a):H a=Á:=by
 cases q:H a with
 | none=>rfl
 | some u=>exact absurd (zN (x.lt q) e) (jP _)
def HOk.kept(x:HOk P w H h)(k:∀b u,h.get? b=À u->h'.get? b=À u):HOk P w H h':=λa o e=>
 (x a o e).stay (λb u _ q=>k b u q) (λ_ q=>q) λ_ _ q=>q
def HOk.laid(x:HOk P w H h)(k:∀b u,h.get? b=À u->h'.get? b=À u)(hp:h.objs.size<=a)(new:ObjOk P w (upd H a o) h' a o):HOk P w (upd H a o) h':=λb u e=>by
 have hn:=x.fresh hp;by_cases hb:b=a
 .subst hb;rw[va] at e;cases e;exact new
 .rw[kK hb] at e
  exact(x b u e).stay (λc v _ q=>k c v q) (λc q=>by rw[kK (qo q hn)];exact q) λc xs q=>by rw[kK (qo q hn)];exact q
end
def Rd(H:Hp)(a:Ç)(u:HO):Prop:=H a=À u\/∃o,H a=À (.frz o u)
def Rd.ok{P:Í}{w:Ð}{H:Hp}{h:Ï}{a:Ç}{u:HO}(r:Rd H a u)(x:HOk P w H h):ObjOk P w H h a u:=by
 rcases r with r | ⟨o,r⟩
 .exact x a u r
 .obtain⟨_,q⟩:=x a _ r
  exact q
def mB:Option HO->Prop
 | some (.lst _)=>True
 | some (.dK _)=>True
 | some (.dT _)=>True
 | some (.set _ _)=>True
 | some (.ins _ _ _)=>True
 | some (.ext _)=>True
 | _=>False
section
variable{P:Í}{w:Ð}{H:Hp}{h h':Ï}{x e:Ç}{o':HO}
theorem HOk.write(ok:HOk P w H h)(mu:mB (H x))(he:e=x\/H e=À (.own x))(k:∀b u,b≠e->h.get? b=À u->h'.get? b=À u)(EI:∃u,h'.get? e=À u)
  (new:ObjOk P w (upd H x o') h' x o'):HOk P w (upd H x o') h':=λb u q=>by
 have EZ:∀c y,H c=À (.own y)->c≠x:=λc y r z=>by subst z;rw[r] at mu;exact mu
 have Gh:∀c xs,H c=À (.tup xs)->c≠x:=λc xs r z=>by subst z;rw[r] at mu;exact mu
 by_cases hb:b=x
 .subst hb;rw[va] at q;cases q;exact new
 .rw[kK hb] at q
  by_cases hbe:b=e
  .have q':H b=À (.own x):=by
    rcases he with z | z
    .exact absurd (hbe.trans z) hb
    .rw[hbe];exact z
   rw[q] at q';cases q';obtain⟨v,hv⟩:=EI;exact⟨v,by rw[hbe];exact hv⟩
  .refine(ok b u q).stay (λc v hc r=>k c v ?_ r) (λc r=>by rw[kK (EZ c b r)];exact r) λc xs r=>by rw[kK (Gh c xs r)];exact r
   rcases hc with rfl | hc
   .exact hbe
   .rintro rfl
    rcases he with z | z
    .exact EZ c b hc z
    .rw[hc] at z;cases z;exact hb rfl
end
structure Un(fs ex:List Ç)(H H':Hp)(h h':Ï):Prop where
 keep:∀b o,h.get? b=À o->H b=Á->b∉fs->b∉ex->h'.get? b=À o
 slot:∀b o,h.get? b=À o->H b=Á->b∈fs->b∉ex->∃sl,h'.get? b=À { o with slots:=sl }
 free:∀b o,h.get? b=À o->H b=Á->b∉ex->H' b=Á
 there:∀b o,h.get? b=À o->b∉ex->∃o',h'.get? b=À o'
 tups:∀b xs,H b=À (.tup xs)->H' b=À (.tup xs)
 frzs:∀b o u,H b=À (.frz o u)->H' b=À (.frz o u)
 tbls:∀b ps,H b=À (.tbl ps)->∃more,H' b=À (.tbl (ps++more))
section
variable{fs DV ex Nj:List Ç}{H H1 H2:Hp}{h h1 h2 h':Ï}{a x e:Ç}{o:HO}
def Un.any(u:Un fs ex H H1 h h1){b:Ç}{ob:æ}(q:h.get? b=À ob)(n:H b=Á)(hx:b∉ex):∃sl,h1.get? b=À { ob with slots:=sl }:=by
 by_cases hb:b∈fs
 .exact u.slot b ob q n hb hx
 .exact⟨ob.slots,u.keep b ob q n hb hx⟩
def Un.kept(k:∀b u,h.get? b=À u->h'.get? b=À u):Un fs ex H H h h':=
 ⟨λb ob q _ _ _=>k b ob q,λb ob q _ _ _=>⟨ob.slots,k b ob q⟩,λ_ _ _ n _=>n,λb ob q _=>⟨ob,k b ob q⟩,λ_ _ q=>q,λ_ _ _ q=>q,λ_ ps q=>⟨#[],by rw[q];simp⟩⟩
def Un.refl:Un fs ex H H h h:=Un.kept λ_ _ q=>q
def Un.laid(k:∀b u,h.get? b=À u->h'.get? b=À u)(hp:h.objs.size<=a)(hn:H a=Á):Un fs ex H (upd H a o) h h' where
 keep:=λb u q _ _ _=>k b u q
 slot:=λb u q _ _ _=>⟨u.slots,k b u q⟩
 free:=λb u q n _=>by rw[kK (zT (zN (zz q) hp))];exact n
 there:=λb u q _=>⟨u,k b u q⟩
 tups:=λb xs q=>by rw[kK (qo q hn)];exact q
 frzs:=λb u xs q=>by rw[kK (qo q hn)];exact q
 tbls:=λb ps q=>⟨#[],by rw[kK (qo q hn),q];simp⟩
def Un.write(mu:mB (H x))(he:e=x\/H e=À (.own x))(k:∀b u,b≠e->h.get? b=À u->h'.get? b=À u)(EI:∃u,h'.get? e=À u):Un fs ex H (upd H x o) h h':=by
 have hx:∀b,H b=Á->b≠x:=λb n z=>by subst z;rw[n] at mu;exact mu
 have hb:∀b,H b=Á->b≠e:=λb n z=>by
  subst z;rcases he with r | r
  .exact hx b n r
  .rw[n] at r;cases r
 have hm:∀b u,H b=À u->¬mB (À u)->b≠x:=λb u q nm z=>by subst z;rw[q] at mu;exact nm mu
 refine⟨λb u q n _ _=>k b u (hb b n) q,λb u q n _ _=>⟨u.slots,k b u (hb b n) q⟩,λb u q n _=>by rw[kK (hx b n)];exact n,λb u q _=>?_,
  λb xs q=>by rw[kK (hm b _ q λz=>z)];exact q,λb u xs q=>by rw[kK (hm b _ q λz=>z)];exact q,λb ps q=>⟨#[],by rw[kK (hm b _ q λz=>z),q];simp⟩⟩
 by_cases hbe:b=e
 .subst hbe;exact EI
 .exact⟨u,k b u hbe q⟩
end
def V2(h:Ï)(H:Hp):List Ç:=(Ė h.objs.size).filter λa=>(H a).isSome
def fe(h:Ï)(H:Hp):Ï:=Ē h (V2 h H)
def Z6(h:Ï)(H:Hp):(fe h H).objs.size=h.objs.size:=PySem.W.hideAll_size _ _
def QF{h:Ï}{H:Hp}{b:Ç}{o:æ}(e:h.get? b=À o)(n:H b=Á):(fe h H).get? b=À o:=
 xJ _ e λhm=>by
  have q:(H b).isSome=Ã:=(j8.mp hm).2;rw[n] at q;simp at q
def Wz{h:Ï}{H:Hp}{b:Ç}{o:æ}(e:(fe h H).get? b=À o):h.get? b=À o/\H b=Á:=by
 have e':h.get? b=À o:=xQ (V2 h H) e;refine⟨e',?_⟩;cases q:H b with
 | none=>rfl
 | some x=>
  have hm:b∈V2 h H:=j8.mpr ⟨yJ.mpr (zz e'),by simp[q]⟩;have z:(fe h H).get? b=Á:=PySem.W.hideAll_none (V2 h H) hm;rw[z] at e;cases e
end L2
namespace L2
open PySem PySem.Spec PyProof.Rows
structure Mod(K:NT)(mg:È->Option Ä)(base:Ï):Prop where
 kin:K.In base
 glob:base.Ns Ô mg
 blt:∃mb,base.Ns ų mb/\∀x:È,x≠"__name__"->mb x=Ñ x
 nolimit:base.NoLimit
structure Cx where
 prog:Í
 w:Ð
 K:NT
 mg:È->Option Ä
 base:Ï
 A:Ò
 N:List È
 s₀:Å
 H₀:Hp
 env:Ŭ
 outer:List Ŭ
 stack:List Ŭ
 ex:List Ç
 fn:È->Bool
 calm:Bool
 pn:List (Ç×æ)
 xe:Ä->Å->Prop
def frs(l:List Ŭ):List Ç:=l.filterMap (·.frame)
abbrev Cx.fs(X:Cx):List Ç:=frs X.outer
def gD(sc:Þ)(x:È):Prop:=sc.names.lookup x=À .local\/sc.names.lookup x=À .cell\/sc.names.lookup x=À .free
def Loc(sc:Þ)(x:È):Prop:=sc.names.lookup x=À .local\/sc.names.lookup x=À .cell
def Look(env:Ŭ)(h:Ï)(m:È->Option Ä)(x:È)(u:Ä):Prop:=
 (env.kindOf x=À .local/\m x=À u)\/((env.kindOf x=À .cell\/env.kindOf x=À .free)/\∃c,env.cells.lookup x=À c/\h.IsCell c (À u))
structure Cx.Ok(X:Cx):Prop where
 mod:Mod X.K X.mg X.base
 kind:X.env.scope.kind=.function
 glob:X.env.globals=Ô
 blt:X.env.builtins=ų
 above:X.s₀.heap.objs.size<=X.env.locals
 inj:∀x y c,X.env.cells.lookup x=À c->X.env.cells.lookup y=À c->x=y
 has:∀x,(X.env.kindOf x=À .cell\/X.env.kindOf x=À .free)->∃c,X.env.cells.lookup x=À c
 cab:∀x c,X.fn x=Ã->X.env.cells.lookup x=À c->X.s₀.heap.objs.size<=c
 hd:X.calm=Ã->X.A.handled=Á
 frames:X.A.frames=À X.stack
 stk:X.stack=X.outer\/(X.stack=X.env::X.outer/\X.env.frame=À X.env.locals)
 exf:∀b∈X.ex,b≠X.env.locals/\∀x c,X.env.cells.lookup x=À c->c≠b
 bs:∀b o,X.base.get? b=À o->X.s₀.heap.get? b=À o/\X.H₀ b=Á
 bsz:X.base.objs.size<=X.s₀.heap.objs.size
 noex:∀b o,X.base.get? b=À o->b∉X.ex
 exfs:∀b∈X.ex,b∉X.fs
 funs:X.s₀.heap.FunFrames X.base X.outer
 frf:∀b∈X.fs,X.H₀ b=Á
structure Inv(X:Cx)(ag:List (Ç×æ))(σ:List (Option V))(H:Hp)(s:Å):Prop where
 ok:X.Ok
 os:s.os=X.s₀.os
 bare:þ s.gens
 base:Un X.fs X.ex X.H₀ H X.s₀.heap s.heap
 loc:∃m,s.heap.Ns X.env.locals m/\∀(i:Nat) (x:È) (v:V),X.N[i]?=À x->σ[i]?=À (À v)->gD X.env.scope x->∃u,RelV v u/\Look X.env s.heap m x u
 cell:∀x c,X.env.cells.lookup x=À c->∃v,s.heap.IsCell c v
 free:H X.env.locals=Á
 freeC:∀x c,X.env.cells.lookup x=À c->H c=Á
 pin:∀p∈X.pn++ag,s.heap.get? p.1=À p.2/\H p.1=Á/\p.1≠X.env.locals/\p.1∉X.fs/\∀v,p.2.data≠.cell v
 hok:HOk X.prog X.w H s.heap
 len:σ.length=X.N.length
section
variable{X:Cx}{ag:List (Ç×æ)}{σ:List (Option V)}{H H':Hp}{s:Å}{h':Ï}
def Cx.Ok.nofr(ok:X.Ok){b:Ç}{o:æ}(e:X.base.get? b=À o):b∉X.fs:=λhb=>by
 have:=(ok.funs.mem hb).1;rw[e] at this;cases this
theorem Inv.bs(I:Inv X ag σ H s):∀b o,X.base.get? b=À o->s.heap.get? b=À o/\H b=Á:=λb o e=>
 ⟨I.base.keep b o (I.ok.bs b o e).1 (I.ok.bs b o e).2 (I.ok.nofr e) (I.ok.noex b o e),I.base.free b o (I.ok.bs b o e).1 (I.ok.bs b o e).2 (I.ok.noex b o e)⟩
def Inv.bk(I:Inv X ag σ H s):∀b o,X.base.get? b=À o->s.heap.get? b=À o:=λb o e=>(I.bs b o e).1
theorem Inv.mod(I:Inv X ag σ H s):Mod X.K X.mg X.base:=I.ok.mod
def Inv.kIn(I:Inv X ag σ H s):X.K.In s.heap:=I.ok.mod.kin.keeps I.bk
theorem Inv.lt(I:Inv X ag σ H s):X.env.locals<s.heap.objs.size:=let ⟨_,hn,_⟩:=I.loc;hn.lt
def Inv.sz(I:Inv X ag σ H s):X.s₀.heap.objs.size<=s.heap.objs.size:=zG I.ok.above (wZ I.lt)
def Inv.nofs(I:Inv X ag σ H s){a:Ç}(h:s.heap.objs.size<=a):a∉X.fs:=λhb=>by
 obtain⟨_,o,ho,_⟩:=I.ok.funs.mem hb;exact absurd (zN (zz ho) (zG I.sz h)) (jP _)
def Inv.cne(I:Inv X ag σ H s):∀x c,X.env.cells.lookup x=À c->c≠X.env.locals:=λx c e z=>by
 obtain⟨v,o,ho,hd⟩:=I.cell x c e;obtain⟨m,⟨o',es,ep,Az,A6,_⟩,_⟩:=I.loc;rw[z,Az] at ho;cases ho;rw[A6] at hd;cases hd
theorem Inv.funs(I:Inv X ag σ H s):s.heap.FunFrames X.base X.outer:=by
 have all:∀(l:List Ŭ),(∀b∈frs l,b∈X.fs)->X.s₀.heap.FunFrames X.base l->s.heap.FunFrames X.base l:=by
  intro l;induction l with
  | nil=>intro _ _;trivial
  | cons env r ih=>
   intro hs hl;obtain⟨hk,⟨L,o,hf,hn,ho,hd⟩,hr⟩:=hl;have hL:L∈X.fs:=hs L (by unfold frs;rw[vf,hf];exact zu);obtain⟨sl,e⟩:=I.base.slot L o ho (I.ok.frf L hL) hL λz=>I.ok.exfs L z hL
   exact⟨hk,⟨L,_,hf,hn,e,hd⟩,ih (λb hb=>hs b (by unfold frs;rw[vf,hf];exact zq _ hb)) hr⟩
 exact all X.outer (λ_ hb=>hb) I.ok.funs
theorem Inv.stack(I:Inv X ag σ H s):s.heap.FunFrames X.base X.stack:=by
 rcases I.ok.stk with e | ⟨e,hf⟩
 .rw[e];exact I.funs
 .rw[e]
  obtain⟨m,hn,_⟩:=I.loc;refine .cons (by rw[I.ok.kind];decide) hf hn ?_ I.funs;exact wV (zG I.ok.bsz I.ok.above)
def Inv.stkSub(I:Inv X ag σ H s):∀b∈frs X.stack,b∈X.env.locals::X.fs:=λb hb=>by
 rcases I.ok.stk with e | ⟨e,hf⟩
 .rw[e] at hb;exact zq _ hb
 .rw[e] at hb
  unfold frs at hb;rw[vf,hf] at hb;exact hb
def Inv.stkFree(I:Inv X ag σ H s):∀b∈frs X.stack,H b=Á:=λb hb=>by
 rcases zp.mp (I.stkSub b hb) with e | hb
 .rw[e];exact I.free
 .obtain⟨_,o,ho,_⟩:=I.ok.funs.mem hb
  exact I.base.free b o ho (I.ok.frf b hb) λz=>I.ok.exfs b z hb
def Inv.step{g':Array ĸ}{t':Nat}{d':Drawn}{ch:List Ç}(I:Inv X ag σ H s)
  (DL:∀b∈ch,(b∈X.ex\/X.s₀.heap.objs.size<=b)/\b≠X.env.locals/\(∀x c,X.env.cells.lookup x=À c->c≠b)/\∀p∈X.pn++ag,p.1≠b)
  (keep:∀b o,b≠X.env.locals->b∉X.fs->b∉ch->s.heap.get? b=À o->H b=Á->h'.get? b=À o)
  (slot:∀b o,b≠X.env.locals->b∈X.fs->b∉ch->s.heap.get? b=À o->H b=Á->∃sl,h'.get? b=À { o with slots:=sl }) (free:∀b o,b∉ch->s.heap.get? b=À o->H b=Á->H' b=Á)
  (there:∀b o,b∉ch->s.heap.get? b=À o->∃o',h'.get? b=À o')
  (tups:∀b xs,H b=À (.tup xs)->H' b=À (.tup xs)) (frzs:∀b o u,H b=À (.frz o u)->H' b=À (.frz o u)) (tbls:∀b ps,H b=À (.tbl ps)->∃more,H' b=À (.tbl (ps++more)))
  (ns:∀m,s.heap.Ns X.env.locals m->h'.Ns X.env.locals m) (hok:HOk X.prog X.w H' h') (hg:þ g') :
  Inv X ag σ H' { s with heap:=h',gens:=g',drawn:=d',toks:=t' }:=by
 have Hn:∀b o,X.s₀.heap.get? b=À o->b≠X.env.locals:=λb o e=>zT (zN (zz e) I.ok.above)
 have FR:∀b o,X.s₀.heap.get? b=À o->b∉X.ex->b∉ch:=λb o e hx hb=>by
  rcases(DL b hb).1 with z | z
  .exact hx z
  .exact absurd (zN (zz e) z) (jP _)
 have cellK:∀x c,X.env.cells.lookup x=À c->∀v,s.heap.IsCell c v->h'.IsCell c v:=λx c e v ⟨o,ho,hd⟩=>by
  have Fb:c∉ch:=λz=>(DL c z).2.2.1 x c e rfl
  by_cases hc:c∈X.fs
  .obtain⟨sl,q⟩:=slot c o (I.cne x c e) hc Fb ho (I.freeC x c e)
   exact⟨_,q,hd⟩
  .exact⟨o,keep c o (I.cne x c e) hc Fb ho (I.freeC x c e),hd⟩
 refine⟨I.ok,I.os,hg,⟨λb o e n hb hx=>?_,λb o e n hb hx=>?_,λb o e n hx=>?_,λb o e hx=>?_,λb xs e=>tups b xs (I.base.tups b xs e),λb o xs e=>frzs b o xs (I.base.frzs b o xs e),λb ps e=>?_⟩,?_,λx c e=>?_,?_,λx c e=>?_,λp hp=>?_,hok,I.len⟩
 .exact keep b o (Hn b o e) hb (FR b o e hx) (I.base.keep b o e n hb hx) (I.base.free b o e n hx)
 .obtain⟨sl,e1⟩:=I.base.slot b o e n hb hx
  obtain⟨Fc,e2⟩:=slot b _ (Hn b o e) hb (FR b o e hx) e1 (I.base.free b o e n hx);exact⟨Fc,e2⟩
 .obtain⟨o',e1⟩:=I.base.there b o e hx
  exact free b o' (FR b o e hx) e1 (I.base.free b o e n hx)
 .obtain⟨o',e1⟩:=I.base.there b o e hx
  exact there b o' (FR b o e hx) e1
 .obtain⟨m1,e1⟩:=I.base.tbls b ps e
  obtain⟨m2,e2⟩:=tbls b _ e1;exact⟨m1++m2,by rw[e2,Array.append_assoc]⟩
 .obtain⟨m,hn,hl⟩:=I.loc
  refine⟨m,ns m hn,λi x v e1 e2 e3=>?_⟩;obtain⟨u,r,l⟩:=hl i x v e1 e2 e3;refine⟨u,r,?_⟩;rcases l with l | ⟨k,c,e,z⟩
  .exact .inl l
  .exact .inr ⟨k,c,e,cellK x c e _ z⟩
 .obtain⟨v,z⟩:=I.cell x c e
  exact⟨v,cellK x c e v z⟩
 .obtain⟨m,⟨o,_,_,ho,_⟩,_⟩:=I.loc
  exact free _ o (λz=>(DL _ z).2.1 rfl) ho I.free
 .obtain⟨v,o,ho,hd⟩:=I.cell x c e
  exact free c o (λz=>(DL c z).2.2.1 x c e rfl) ho (I.freeC x c e)
 .obtain⟨e,n,ne,nf,d⟩:=I.pin p hp
  have Fb:p.1∉ch:=λz=>(DL p.1 z).2.2.2 p hp rfl
  exact⟨keep p.1 p.2 ne nf Fb e n,free p.1 p.2 Fb e n,ne,nf,d⟩
def Inv.un{t':Nat}(I:Inv X ag σ H s)(u:Un X.fs [] H H' s.heap h')(hok:HOk X.prog X.w H' h'):Inv X ag σ H' { s with heap:=h',toks:=t' }:=by
 obtain⟨m,⟨o,es,ep,ho,r⟩,_⟩:=id I.loc;obtain⟨sl,hL⟩:=u.any ho I.free (by simp)
 exact I.step (g':=s.gens) (d':=s.drawn) (ch:=[]) (λ_ z=>nomatch z) (λb o _ hb _ e n=>u.keep b o e n hb (by simp)) (λb o _ hb _ e n=>u.slot b o e n hb (by simp)) (λb o _ e n=>u.free b o e n (by simp)) (λb o _ e=>u.there b o e (by simp)) u.tups u.frzs u.tbls (λm' hm=>by
  obtain⟨o',Au,FS,Az,r'⟩:=hm;rw[ho] at Az;cases Az
  exact⟨_,Au,FS,hL,r'⟩) hok I.bare
def Inv.call{g':Array ĸ}{t':Nat}{d':Drawn}{ch:List Ç}(I:Inv X ag σ H s)(u:Un (frs X.stack) ch H H' s.heap h')(hok:HOk X.prog X.w H' h')(hg:þ g')
  (DL:∀b∈ch,(b∈X.ex\/X.s₀.heap.objs.size<=b)/\b≠X.env.locals/\(∀x c,X.env.cells.lookup x=À c->c≠b)/\∀p∈X.pn++ag,p.1≠b) :
  Inv X ag σ H' { s with heap:=h',gens:=g',drawn:=d',toks:=t' }:=by
 obtain⟨m,⟨o,es,ep,ho,r⟩,_⟩:=id I.loc;obtain⟨sl,hL⟩:=u.any ho I.free λz=>(DL _ z).2.1 rfl
 exact I.step (ch:=ch) DL (λb o hL hb hc e n=>u.keep b o e n (λz=>(zp.mp (I.stkSub b z)).elim hL hb) hc) (λb o _ _ hc e n=>u.any e n hc) (λb o hc e n=>u.free b o e n hc) (λb o hc e=>u.there b o e hc) u.tups u.frzs u.tbls (λm' hm=>by
  obtain⟨o',Au,FS,Az,r'⟩:=hm;rw[ho] at Az;cases Az
  exact⟨_,Au,FS,hL,r'⟩) hok hg
def Inv.turned{t':Nat}{it:Ç}(I:Inv X ag σ H s)(k:∀b o,b≠it->s.heap.get? b=À o->h'.get? b=À o)(hn:H it=Á)(hL:it≠X.env.locals)
  (h1:it∈X.ex\/X.s₀.heap.objs.size<=it) (h2:∀x c,X.env.cells.lookup x=À c->c≠it) (h3:∀p∈X.pn++ag,p.1≠it):Inv X ag σ H { s with heap:=h',toks:=t' }:=by
 have Ho:∀b u,H b=À u->b≠it:=λb u e z=>by rw[z,hn] at e;cases e
 refine I.step (g':=s.gens) (d':=s.drawn) (ch:=[it]) (λb hb=>?_) (λb o _ _ hc e _=>k b o (λz=>hc (by simp[z])) e) (λb o _ _ hc e _=>⟨o.slots,k b o (λz=>hc (by simp[z])) e⟩) (λ_ _ _ _ n=>n)
  (λb o hc e=>⟨o,k b o (λz=>hc (by simp[z])) e⟩) (λ_ _ e=>e) (λ_ _ _ e=>e) (λb ps e=>⟨#[],by rw[e];simp⟩) (λm hm=>?_) (λb u e=>?_) I.bare
 .have e:b=it:=by simpa using hb
  subst e;exact⟨h1,hL,h2,h3⟩
 .obtain⟨o,es,ep,ho,r⟩:=hm
  exact⟨o,es,ep,k _ o (kZ hL) ho,r⟩
 .refine(I.hok b u e).stay (λc v hc q=>k c v ?_ q) (λ_ q=>q) λ_ _ q=>q
  rcases hc with z | z
  .rw[z];exact Ho b u e
  .exact Ho c _ z
def Inv.tok(I:Inv X ag σ H s)(t:Nat):Inv X ag σ H { s with toks:=t }:=I.un (h':=s.heap) (t':=t) Un.refl I.hok
theorem Inv.kept{t':Nat}(I:Inv X ag σ H s)(k:∀b u,s.heap.get? b=À u->h'.get? b=À u):Inv X ag σ H { s with heap:=h',toks:=t' }:=I.un (Un.kept k) (I.hok.kept k)
theorem Inv.laid{a:Ç}{o:HO}{t':Nat}(I:Inv X ag σ H s)(k:∀b u,s.heap.get? b=À u->h'.get? b=À u)(hp:s.heap.objs.size<=a)(new:ObjOk X.prog X.w (upd H a o) h' a o) :
  Inv X ag σ (upd H a o) { s with heap:=h',toks:=t' }:=I.un (Un.laid k hp (I.hok.fresh hp)) (I.hok.laid k hp new)
theorem Inv.write{x e:Ç}{o:HO}{t':Nat}(I:Inv X ag σ H s)(mu:mB (H x))(he:e=x\/H e=À (.own x))(k:∀b u,b≠e->s.heap.get? b=À u->h'.get? b=À u)(EI:∃u,h'.get? e=À u)
  (new:ObjOk X.prog X.w (upd H x o) h' x o):Inv X ag σ (upd H x o) { s with heap:=h',toks:=t' }:=I.un (Un.write mu he k EI) (I.hok.write mu he k EI new)
def Inv.pins_of{D4:List (Ç×æ)}(I:Inv X ag σ H s)(h:∀p∈D4,s.heap.get? p.1=À p.2/\H p.1=Á/\p.1≠X.env.locals/\p.1∉X.fs/\∀v,p.2.data≠.cell v):Inv X D4 σ H s:=
 ⟨I.ok,I.os,I.bare,I.base,I.loc,I.cell,I.free,I.freeC,λp hp=>(zA.mp hp).elim (λz=>I.pin p (jO _ z)) (h p),I.hok,I.len⟩
def nH{N:List È}(hN:N.Nodup){i j:Nat}{x:È}(a:N[i]?=À x)(b:N[j]?=À x):i=j:=by
 obtain⟨h1,e1⟩:=zJ.mp a;obtain⟨h2,e2⟩:=zJ.mp b;exact(vQ hN).mp (e1.trans e2.symm)
def lY{M:Model}{A:Ò}{E:Ä->Å->Prop}{i:Nat}{x:È}{v:V}{u:Ä}{Q:Unit->Å->Prop}(I:Inv X ag σ H s)(hN:X.N.Nodup)(hi:X.N[i]?=À x)(hx:Loc X.env.scope x)(r:RelV v u)
  (h:∀s',Inv X ag (σ.set i (À v)) H s'->(∃a,ć a s.heap s'.heap/\(a=X.env.locals\/X.env.cells.lookup x=À a))->Q () s') (hf:X.fn x=Ã\/X.env.scope.names.lookup x=À .local:=by first | exact .inl rfl | exact .inr rfl | assumption):Ê M A (storeName X.env x u) Q E s:=by
 obtain⟨m,hn,hl⟩:=id I.loc;have Eb:(X.env.scope.kind==.class||(X.env.scope.kind==.module&&X.env.locals != X.env.globals))=Â:=by rw[I.ok.kind];rfl
 have Fd:i<σ.length:=by rw[I.len];exact(zJ.mp hi).1
 have cne:=I.cne;have tracked:∀{a:Ç} {h':Ï},(∃o,s.heap.get? a=À o/\H a=Á)->ć a s.heap h'->HOk X.prog X.w H h':=λ{a h'} ha hs b ob e=>by
  obtain⟨_,_,D5⟩:=ha;refine(I.hok b ob e).stay (λc w' hc q=>(hs.2 c ?_).trans q) (λ_ q=>q) λ_ _ q=>q
  rintro rfl;rcases hc with rfl | hc
  .rw[D5] at e;cases e
  .rw[D5] at hc;cases hc
 rcases hx with hk | hk
 .refine wpAny_storeName_local hk hn (λh' IT hs=>?_) Eb
  obtain⟨oL,_,_,IU,_⟩:=id hn;refine h _ ⟨I.ok,I.os,I.bare,⟨λb o e n hb hx=>?_,λb o e n hb hx=>?_,I.base.free,λb o e hx=>?_,I.base.tups,I.base.frzs,I.base.tbls⟩,⟨_,IT,λj y v' e1 e2 e3=>?_⟩,λy c e=>?_,I.free,I.freeC,λp hp=>?_,tracked ⟨oL,IU,I.free⟩ hs,by simpa using I.len⟩ ⟨_,hs,.inl rfl⟩
  .exact(hs.2 b (zT (zN (zz e) I.ok.above))).trans (I.base.keep b o e n hb hx)
  .obtain⟨sl,e1⟩:=I.base.slot b o e n hb hx
   exact⟨sl,(hs.2 b (zT (zN (zz e) I.ok.above))).trans e1⟩
  .obtain⟨o',e1⟩:=I.base.there b o e hx
   exact⟨o',(hs.2 b (zT (zN (zz e) I.ok.above))).trans e1⟩
  .by_cases hj:j=i
   .subst hj
    rw[hi] at e1;cases e1;rw[jc Fd] at e2;cases e2;exact⟨u,r,.inl ⟨hk,by simp⟩⟩
   .rw[jd (kZ hj)] at e2
    obtain⟨u',r',q⟩:=hl j y v' e1 e2 e3;refine⟨u',r',?_⟩;rcases q with ⟨k,e⟩ | ⟨k,c,e,z⟩
    .refine .inl ⟨k,?_⟩
     have:y≠x:=λe=>hj (nH hN e1 (e▸hi))
     simp[this,e]
    .exact .inr ⟨k,c,e,z.sameBut hs (cne y c e)⟩
  .obtain⟨w',z⟩:=I.cell y c e
   exact⟨w',z.sameBut hs (cne y c e)⟩
  .obtain⟨e,n,ne,nf,d⟩:=I.pin p hp
   exact⟨(hs.2 p.1 ne).trans e,n,ne,nf,d⟩
 .have Gi:X.fn x=Ã:=by
   rcases hf with z | z
   .exact z
   .rw[z] at hk;cases hk
  obtain⟨c,hc⟩:=I.ok.has x (.inl hk);obtain⟨w',z⟩:=I.cell x c hc;refine wpAny_storeName_cell I.ok.kind hk hc z (λh' D6 hs=>?_);obtain⟨oc,Hq,Gj⟩:=id z;refine h { s with heap:=h' } ⟨I.ok,I.os,I.bare,⟨λb o e n hb hx=>?_,λb o e n hb hx=>?_,I.base.free,λb o e hx=>?_,I.base.tups,I.base.frzs,I.base.tbls⟩,⟨m,hn.sameBut hs (kZ (cne x c hc)),λj y v' e1 e2 e3=>?_⟩,λy c' e=>?_,I.free,I.freeC,λp hp=>?_,tracked ⟨oc,Hq,I.freeC x c hc⟩ hs,by simpa using I.len⟩ ⟨c,hs,.inr hc⟩
  .exact(hs.2 b (zT (zN (zz e) (I.ok.cab x c Gi hc)))).trans (I.base.keep b o e n hb hx)
  .obtain⟨sl,e1⟩:=I.base.slot b o e n hb hx
   exact⟨sl,(hs.2 b (zT (zN (zz e) (I.ok.cab x c Gi hc)))).trans e1⟩
  .obtain⟨o',e1⟩:=I.base.there b o e hx
   exact⟨o',(hs.2 b (zT (zN (zz e) (I.ok.cab x c Gi hc)))).trans e1⟩
  .by_cases hj:j=i
   .subst hj
    rw[hi] at e1;cases e1;rw[jc Fd] at e2;cases e2;exact⟨u,r,.inr ⟨.inl hk,c,hc,D6⟩⟩
   .rw[jd (kZ hj)] at e2
    obtain⟨u',r',q⟩:=hl j y v' e1 e2 e3;refine⟨u',r',?_⟩;rcases q with q | ⟨k,c',e,z'⟩
    .exact .inl q
    .refine .inr ⟨k,c',e,z'.sameBut hs ?_⟩
     rintro rfl;exact hj (nH hN e1 (I.ok.inj _ _ _ e hc▸hi))
  .by_cases EJ:c'=c
   .subst EJ;exact⟨_,D6⟩
   .obtain⟨w2,z2⟩:=I.cell y c' e
    exact⟨w2,z2.sameBut hs EJ⟩
  .obtain⟨e,n,ne,nf,d⟩:=I.pin p hp
   refine⟨(hs.2 p.1 ?_).trans e,n,ne,nf,d⟩;intro q;rw[q,Hq] at e;have q':oc=p.2:=zP e;exact d w' (by rw[<-q'];exact Gj)
def eV{M:Model}{A:Ò}{E:Ä->Å->Prop}{i:Nat}{x:È}{v:V}{u:Ä}{Q:Unit->Å->Prop}(I:Inv X ag σ H s)(hN:X.N.Nodup)(hi:X.N[i]?=À x)(hx:Loc X.env.scope x)(r:RelV v u)
  (h:∀s',Inv X ag (σ.set i (À v)) H s'->Q () s') (hf:X.fn x=Ã\/X.env.scope.names.lookup x=À .local:=by first | exact .inl rfl | exact .inr rfl | assumption):Ê M A (storeName X.env x u) Q E s:=
 lY I hN hi hx r (λs' I' _=>h s' I') hf
def Inv.call'{s':Å}{ch:List Ç}(I:Inv X ag σ H s)(ho:s'.os=s.os)(u:Un (frs X.stack) ch H H' s.heap s'.heap)(hok:HOk X.prog X.w H' s'.heap)(hg:þ s'.gens)
  (DL:∀b∈ch,(b∈X.ex\/X.s₀.heap.objs.size<=b)/\b≠X.env.locals/\(∀x c,X.env.cells.lookup x=À c->c≠b)/\∀p∈X.pn++ag,p.1≠b):Inv X ag σ H' s':=by
 obtain⟨h',g',d',t',o'⟩:=s';have e:o'=s.os:=ho;subst e;exact I.call (g':=g') (t':=t') (d':=d') u hok hg DL
end
abbrev XK:=Ä->Option Ç->Hp->Prop
abbrev St:=List (Option V)
abbrev VK:=V->Hp->Prop
abbrev TE:=St->Hp->VK->Prop
abbrev TT:=St->Hp->(Bool->Hp->Prop)->Prop
abbrev TA:=St->Hp->(List V->Hp->Prop)->Prop
structure Ends where
 nx:St->Hp->Prop
 rt:VK
 bk:St->Hp->Prop:=λ_ _=>False
 ct:St->Hp->Prop:=λ_ _=>False
abbrev TS:=Ends->St->Hp->Prop
def EP(X:Cx)(ag:List (Ç×æ))(σ:St)(Q:VK)(u:Ä)(s':Å):Prop:=∃v H',Inv X ag σ H' s'/\RelV v u/\Q v H'
def TP(X:Cx)(ag:List (Ç×æ))(σ:St)(Q:Bool->Hp->Prop)(b:Bool)(s':Å):Prop:=∃H',Inv X ag σ H' s'/\Q b H'
def AP(X:Cx)(ag:List (Ç×æ))(σ:St)(Q:List V->Hp->Prop)(us:List Ä)(s':Å):Prop:=∃vs H',Inv X ag σ H' s'/\Vals vs us/\Q vs H'
def SP(X:Cx)(ag:List (Ç×æ))(D:Ends)(f:Flow)(s':Å):Prop:=
 match f with
 | .next=>∃hY H',Inv X ag hY H' s'/\D.nx hY H'
 | .brk=>∃hY H',Inv X ag hY H' s'/\D.bk hY H'
 | .cont=>∃hY H',Inv X ag hY H' s'/\D.ct hY H'
 | .ret u=>∃v hY H',Inv X ag hY H' s'/\RelV v u/\D.rt v H'
def PE(X:Cx)(e:Ë)(t:TE):Prop:=
 ∀(ag:List (Ç×æ)) (s:Å) (σ:St) (H:Hp) (Q:VK),Inv X ag σ H s->t σ H Q->Ê (Ì X.prog X.w) X.A (eval e X.env) (EP X ag σ Q) X.xe s
def PT(X:Cx)(e:Ë)(t:TT):Prop:=
 ∀(ag:List (Ç×æ)) (s:Å) (σ:St) (H:Hp) (Q:Bool->Hp->Prop),Inv X ag σ H s->t σ H Q->Ê (Ì X.prog X.w) X.A (isTrue e X.env (eval e X.env)) (TP X ag σ Q) X.xe s
def PW(X:Cx)(e:Ë)(t:TT):Prop:=
 ∀(whole:Sem Ä) (ag:List (Ç×æ)) (s:Å) (σ:St) (H:Hp) (Q:Bool->Hp->Prop),Inv X ag σ H s->t σ H Q->Ê (Ì X.prog X.w) X.A (isTrue e X.env whole) (TP X ag σ Q) X.xe s
def PW.pt{X:Cx}{e:Ë}{t:TT}(h:PW X e t):PT X e t:=h _
def PA(X:Cx)(es:List Ë)(t:TA):Prop:=
 ∀(pos:õ) (ag:List (Ç×æ)) (s:Å) (σ:St) (H:Hp) (Q:List V->Hp->Prop),Inv X ag σ H s->t σ H Q->Ê (Ì X.prog X.w) X.A (ŭ (Ö pos (É es X.env))) (AP X ag σ Q) X.xe s
def PS(X:Cx)(st:ì)(t:TS):Prop:=
 ∀(ag:List (Ç×æ)) (s:Å) (σ:St) (H:Hp) (D:Ends),Inv X ag σ H s->t D σ H->Ê (Ì X.prog X.w) X.A (exec st X.env) (SP X ag D) X.xe s
def PSs(X:Cx)(st:List ì)(t:TS):Prop:=
 ∀(ag:List (Ç×æ)) (s:Å) (σ:St) (H:Hp) (D:Ends),Inv X ag σ H s->t D σ H->Ê (Ì X.prog X.w) X.A (execs st X.env) (SP X ag D) X.xe s
def kq{α:Type}{t:Sem α}{Q Q':α->Å->Prop}{M:Model}{A:Ò}{E:Ä->Å->Prop}{s:Å}(h:Ê M A t Q E s)(hQ:∀a s,Q a s->Q' a s):Ê M A t Q' E s:=jK h hQ λ_ _ x=>x
end L2
namespace L2
open PySem PySem.Spec PyProof.Rows
section
variable{X:Cx}
def CP(i:Nat):TE:=λσ H Q=>∃v,σ[i]?=À (À v)/\Q v H
def tC(v:V):TE:=λ_ H Q=>Q v H
def Jq{i:Nat}{x:È}{pos:õ}(hN:X.N[i]?=À x)(hv:gD X.env.scope x)(hd:⇑((x==("__debug__":È))=Â))(AV:⇑((x==("__classdict__":È))=Â)):PE X (.Name x pos) (CP i):=by
 intro ag s σ H Q I h;obtain⟨v,e,h⟩:=h;obtain⟨m,hn,hl⟩:=I.loc;obtain⟨u,r,l⟩:=hl i x v hN e hv;have fin:EP X ag σ Q u s:=⟨v,H,I,r,h⟩;rcases l with ⟨hk,hm⟩ | ⟨hk,c,hc,Ax⟩
 .exact Ŵ (Ĺ I.ok.kind hk hn hm fin) hd
 .rcases hk with hk | hk
  .exact Ŵ (ň I.ok.kind hk hc Ax fin) hd
  .exact Ŵ (wpAny_loadName_free I.ok.kind hk hc Ax fin AV) hd
def XA{i j pos}:PE X (.Constant (.int i) j pos) (tC (.int i)):=λ_ _ _ H _ I h=>wpAny_Constant_int ⟨.int i,H,I.tok _,⟨_,rfl⟩,h⟩
def B3{b j pos}:PE X (.Constant (.bool b) j pos) (tC (.bl b)):=λ_ _ _ H _ I h=>Constant_bool ⟨.bl b,H,I,rfl,h⟩
def Uh{j pos}:PE X (.Constant .none j pos) (tC .non):=λ_ _ _ H _ I h=>Constant_none ⟨.non,H,I,rfl,h⟩
def UK{x j pos}:PE X (.Constant (.str x) j pos) (tC (.str x)):=λ_ _ _ H _ I h=>Calls.Constant_str ⟨.str x,H,I.tok _,⟨_,rfl⟩,h⟩
def Gl(X:Cx)(x:È):Prop:=X.env.kindOf x=À .globalImplicit
def bp{E:Ä->Å->Prop}{ag:List (Ç×æ)}{s:Å}{σ:St}{H:Hp}{x:È}{u:Ä}{pos:õ}{Q:Ä->Å->Prop}(I:Inv X ag σ H s)(hg:Gl X x)(hm:X.mg x=À u)(h:Q u s)
  (hd:⇑((x==("__debug__":È))=Â)):Ê (Ì X.prog X.w) X.A (eval (.Name x pos) X.env) Q E s:=
 xG I.ok.kind hg (Calls.loadGlobal_global (by rw[I.ok.glob];exact I.mod.glob.keeps I.bk) hm h) hd
def u7{E:Ä->Å->Prop}{ag:List (Ç×æ)}{s:Å}{σ:St}{H:Hp}{x:È}{u:Ä}{pos:õ}{Q:Ä->Å->Prop}(I:Inv X ag σ H s)(hg:Gl X x)(hm:X.mg x=Á)(hv:Ñ x=À u)(h:Q u s)
  (hn:⇑(x≠"__name__")) (hd:⇑((x==("__debug__":È))=Â)):Ê (Ì X.prog X.w) X.A (eval (.Name x pos) X.env) Q E s:=by
 obtain⟨mb,h1,h2⟩:=I.mod.blt;exact xG I.ok.kind hg (Calls.loadGlobal_builtin (by rw[I.ok.glob];exact I.mod.glob.keeps I.bk) hm (by rw[I.ok.blt];exact h1.keeps I.bk) ((h2 x hn).trans hv) h) hd
def uQ{x:È}{v:V}{u:Ä}{pos:õ}(hg:Gl X x)(hm:X.mg x=À u)(r:RelV v u)(hd:⇑((x==("__debug__":È))=Â)):PE X (.Name x pos) (tC v):=
 λ_ _ _ H _ I h=>bp I hg hm ⟨v,H,I,r,h⟩ hd
def rT{x:È}{v:V}{u:Ä}{pos:õ}(hg:Gl X x)(hm:X.mg x=Á)(hv:Ñ x=À u)(r:RelV v u)(hn:⇑(x≠"__name__"))(hd:⇑((x==("__debug__":È))=Â)):PE X (.Name x pos) (tC v):=
 λ_ _ _ H _ I h=>u7 I hg hm hv ⟨v,H,I,r,h⟩ hn hd
variable{a b:Ë}{ta tb:TE}{pos:õ}
def tB(t:TE):TT:=λσ H Q=>t σ H λx H1=>∃c,x=.bl c/\Q c H1
def Xf{e:Ë}{t:TE}(h:PE X e t)(he:∀whole,isTrue e X.env whole=(do let v <-whole;ŗ e.pos;holding [v] (truthy v)):=by intro _;rfl):PT X e (tB t):=by
 intro ag s σ H Q I hw;refine isTrue_plain (kq (h ag s σ H _ I hw) ?_) (he _);rintro v s1 ⟨x,H1,I1,r1,q1⟩;obtain⟨d,rfl,q⟩:=q1;cases r1;exact jJ ⟨H1,I1,q⟩
variable{tA FT:TT}{rest:List Ë}
def CN(t u:TT):TT:=λσ H Q=>t σ H λc H1=>if c=Ã then u σ H1 Q else Q Â H1
def Dr(t u:TT):TT:=λσ H Q=>t σ H λc H1=>if c=Ã then Q Ã H1 else u σ H1 Q
def CZ(t:TT):TT:=λσ H Q=>t σ H λc H1=>Q (!c) H1
def pw_and1(ha:PT X a tA):PW X (.BoolOp .And [a] pos) tA:=by
 intro wh ag s σ H Q I h;refine isTrue_and (kq (ha ag s σ H Q I h) λc s1 e=>?_);cases c with
 | true=>exact isTrue_and_nil e
 | false=>exact e
def pw_or1(ha:PT X a tA):PW X (.BoolOp .Or [a] pos) tA:=by
 intro wh ag s σ H Q I h;refine isTrue_or (kq (ha ag s σ H Q I h) λc s1 e=>?_);cases c with
 | false=>exact isTrue_or_nil e
 | true=>exact e
def pw_and(ha:PT X a tA)(hb:PW X (.BoolOp .And (b::rest) pos) FT):PW X (.BoolOp .And (a::b::rest) pos) (CN tA FT):=by
 intro wh ag s σ H Q I h;refine isTrue_and (kq (ha ag s σ H _ I h) ?_);rintro c s1 ⟨H1,I1,q1⟩;cases c with
 | true=>exact hb wh ag s1 σ H1 Q I1 q1
 | false=>exact⟨H1,I1,q1⟩
def pw_or(ha:PT X a tA)(hb:PW X (.BoolOp .Or (b::rest) pos) FT):PW X (.BoolOp .Or (a::b::rest) pos) (Dr tA FT):=by
 intro wh ag s σ H Q I h;refine isTrue_or (kq (ha ag s σ H _ I h) ?_);rintro c s1 ⟨H1,I1,q1⟩;cases c with
 | true=>exact⟨H1,I1,q1⟩
 | false=>exact hb wh ag s1 σ H1 Q I1 q1
def Bq(ha:PT X a tA):PT X (.UnaryOp .Not a pos) (CZ tA):=by
 intro ag s σ H Q I h;exact isTrue_not (ha ag s σ H (λc H1=>Q (!c) H1) I h)
def B0(ta tb:TE):TE:=λσ H Q=>ta σ H λx H1=>∃c,x=.bl c/\if c=Ã then tb σ H1 Q else Q (.bl Â) H1
def CT(ta tb:TE):TE:=λσ H Q=>ta σ H λx H1=>∃c,x=.bl c/\if c=Ã then Q (.bl Ã) H1 else tb σ H1 Q
def Bx(ta:TE):TE:=λσ H Q=>ta σ H λx H1=>∃c,x=.bl c/\Q (.bl (!c)) H1
def Y8{op}{t:TE}(h:PE X a t):PE X (.BoolOp op [a] pos) t:=λag s σ H Q I hw=>BoolOp_one (h ag s σ H Q I hw)
def Xh(ha:PE X a ta)(hb:PE X (.BoolOp .And (b::rest) pos) tb):PE X (.BoolOp .And (a::b::rest) pos) (B0 ta tb):=by
 intro ag s σ H Q I h;refine BoolOp_and (kq (ha ag s σ H _ I h) ?_);rintro v s1 ⟨x,H1,I1,r1,q1⟩;obtain⟨c,rfl,q1⟩:=q1;cases r1;refine jJ ?_;cases c with
 | true=>exact hb ag s1 σ H1 Q I1 q1
 | false=>exact⟨.bl Â,H1,I1,rfl,q1⟩
def B7(ha:PE X a ta)(hb:PE X (.BoolOp .Or (b::rest) pos) tb):PE X (.BoolOp .Or (a::b::rest) pos) (CT ta tb):=by
 intro ag s σ H Q I h;refine BoolOp_or (kq (ha ag s σ H _ I h) ?_);rintro v s1 ⟨x,H1,I1,r1,q1⟩;obtain⟨c,rfl,q1⟩:=q1;cases r1;refine jJ ?_;cases c with
 | false=>exact hb ag s1 σ H1 Q I1 q1
 | true=>exact⟨.bl Ã,H1,I1,rfl,q1⟩
def UA(ha:PE X a ta):PE X (.UnaryOp .Not a pos) (Bx ta):=by
 intro ag s σ H Q I h;refine UnaryOp_ (kq (ha ag s σ H _ I h) ?_);rintro v s1 ⟨x,H1,I1,r1,q1⟩;obtain⟨c,rfl,q1⟩:=q1;cases r1;exact not_of (jJ ⟨.bl (!c),H1,I1,rfl,q1⟩)
def Du(t:TT)(ta tb:TE):TE:=λσ H Q=>t σ H λc H1=>if c=Ã then ta σ H1 Q else tb σ H1 Q
def QC{c:Ë}(hc:PT X c tA)(ha:PE X a ta)(hb:PE X b tb):PE X (.IfExp c a b pos) (Du tA ta tb):=by
 intro ag s σ H Q I h;refine wpAny_IfExp (kq (hc ag s σ H _ I h) ?_);rintro d s1 ⟨H1,I1,q1⟩;cases d with
 | true=>exact ha ag s1 σ H1 Q I1 q1
 | false=>exact hb ag s1 σ H1 Q I1 q1
end
end L2
namespace L2
open PySem PySem.Spec PyProof.Rows
def SqL(K:NT)(H:Hp)(a:Ç)(xs:List V):Prop:=
 Rd H a (.lst xs) \/
  ∃(o:æ) (cb:Array Ä) (n:Nat),K.lookup a=À o/\o.cls=.type "list" /\ o.dict=Á/\o.data=.seq cb n/\cb.size<=sizeLine/\Vals xs cb.toList
def SqT(K:NT)(H:Hp)(a:Ç)(xs:List V):Prop:=
 Rd H a (.tup xs) \/
  ∃(o:æ) (cb:Array Ä) (n:Nat),K.lookup a=À o/\(o.cls=.type "tuple" /\ o.dict=Á)/\o.data=.seq cb n/\cb.size<=sizeLine/\Vals xs cb.toList
def Cu:Ä->Option V
 | .none=>À .non
 | .bool b=>À (.bl b)
 | .int i _=>À (.int i)
 | .str x _=>À (.str x)
 | .bytes b _=>À (.byt b)
 | .float b _=>À (.flt b)
 | .ref a=>À (.ref a)
 | .type n=>À (.ty n)
 | _=>Á
theorem RelV.abs{x:V}{u:Ä}(r:RelV x u):Cu u=À x:=by
 cases x with
 | non=>cases r;rfl
 | bl _=>cases r;rfl
 | int _=>obtain⟨t,rfl⟩:=r;rfl
 | str _=>obtain⟨t,rfl⟩:=r;rfl
 | byt _=>obtain⟨t,rfl⟩:=r;rfl
 | flt _=>obtain⟨t,rfl⟩:=r;rfl
 | ref _=>cases r;rfl
 | ty _=>cases r;rfl
theorem RelV.inj{x y:V}{u:Ä}(r:RelV x u)(q:RelV y u):x=y:=zP (r.abs.symm.trans q.abs)
theorem Vals.inj{xs ys:List V}{us:List Ä}(h:Vals xs us)(q:Vals ys us):xs=ys:=by
 induction h generalizing ys with
 | nil=>cases q;rfl
 | cons r t ih=>cases q with | cons r' t'=>rw[r.inj r',ih t']
section
variable{X:Cx}{ag:List (Ç×æ)}{σ:St}{H:Hp}{s:Å}{a:Ç}{xs ys:List V}
def SqL.of{K:NT}(h:H a=À (.lst xs)):SqL K H a xs:=.inl (.inl h)
def SqT.of{K:NT}(h:H a=À (.tup xs)):SqT K H a xs:=.inl (.inl h)
def Inv.list(I:Inv X ag σ H s)(h:SqL X.K H a xs):∃cb:List Ä,Vals xs cb/\PlainL s.heap a cb.toArray/\xs.length<=sizeLine:=by
 rcases h with h | ⟨o,cb,n,hk,hc,hd,hs,hz,r⟩
 .obtain⟨z,cb,n,r,e⟩:=h.ok I.hok
  exact⟨cb,r,⟨_,n,e,rfl,rfl,rfl⟩,z⟩
 .refine⟨cb.toList,r,⟨o,n,I.kIn a o hk,hc,hd,by simpa using hs⟩,?_⟩
  have e:=r.length;erw[vm] at e;omega
def Inv.tuple(I:Inv X ag σ H s)(h:SqT X.K H a xs):∃cb:List Ä,Vals xs cb/\Ĳ s.heap a cb.toArray/\xs.length<=sizeLine:=by
 rcases h with h | ⟨o,cb,n,hk,⟨hc,_⟩,hs,hz,r⟩
 .obtain⟨z,cb,r,p,_⟩:=h.ok I.hok
  exact⟨cb,r,p,z⟩
 .refine⟨cb.toList,r,⟨o,I.kIn a o hk,hc,n,by simpa using hs⟩,?_⟩
  have e:=r.length;erw[vm] at e;omega
def Inv.list_inj(I:Inv X ag σ H s)(h:SqL X.K H a xs)(h':SqL X.K H a ys):xs=ys:=by
 obtain⟨cb,r,⟨o,n,e,_,_,d⟩,_⟩:=I.list h;obtain⟨its',r',⟨o',n',e',_,_,d'⟩,_⟩:=I.list h';rw[e] at e';cases e';rw[d] at d';injection d' with d1 _;have:cb=its':=by simpa using jY Array.toList d1
 subst this;exact r.inj r'
def Inv.tuple_inj(I:Inv X ag σ H s)(h:SqT X.K H a xs)(h':SqT X.K H a ys):xs=ys:=by
 obtain⟨cb,r,⟨o,e,_,n,d⟩,_⟩:=I.tuple h;obtain⟨its',r',⟨o',e',_,n',d'⟩,_⟩:=I.tuple h';rw[e] at e';cases e';rw[d] at d';injection d' with d1 _;have:cb=its':=by simpa using jY Array.toList d1
 subst this;exact r.inj r'
end
abbrev Cx.wish(X:Cx)(E:Ä->Å->Prop):Cx:={ X with xe:=E }
abbrev Cx.nox(X:Cx):Cx:=X.wish λ_ _=>False
theorem Cx.Ok.wish{X:Cx}(ok:X.Ok)(E:Ä->Å->Prop):(X.wish E).Ok:=
 ⟨ok.mod,ok.kind,ok.glob,ok.blt,ok.above,ok.inj,ok.has,ok.cab,ok.hd,ok.frames,ok.stk,ok.exf,ok.bs,ok.bsz,ok.noex,ok.exfs,ok.funs,ok.frf⟩
def Cx.Ok.unwish{X:Cx}{E:Ä->Å->Prop}(ok:(X.wish E).Ok):X.Ok:=
 ⟨ok.mod,ok.kind,ok.glob,ok.blt,ok.above,ok.inj,ok.has,ok.cab,ok.hd,ok.frames,ok.stk,ok.exf,ok.bs,ok.bsz,ok.noex,ok.exfs,ok.funs,ok.frf⟩
section
variable{X:Cx}{ag:List (Ç×æ)}{σ:St}{H:Hp}{s:Å}{E:Ä->Å->Prop}
theorem Inv.wish(I:Inv X ag σ H s)(E:Ä->Å->Prop):Inv (X.wish E) ag σ H s:=⟨I.ok.wish E,I.os,I.bare,I.base,I.loc,I.cell,I.free,I.freeC,I.pin,I.hok,I.len⟩
theorem Inv.unwish(I:Inv (X.wish E) ag σ H s):Inv X ag σ H s:=⟨I.ok.unwish,I.os,I.bare,I.base,I.loc,I.cell,I.free,I.freeC,I.pin,I.hok,I.len⟩
theorem SP.unwish{D:Ends}{f:Flow}{s':Å}(h:SP (X.wish E) ag D f s'):SP X ag D f s':=by
 cases f with
 | next=>obtain⟨hY,H',I,q⟩:=h;exact⟨hY,H',I.unwish,q⟩
 | brk=>obtain⟨hY,H',I,q⟩:=h;exact⟨hY,H',I.unwish,q⟩
 | cont=>obtain⟨hY,H',I,q⟩:=h;exact⟨hY,H',I.unwish,q⟩
 | ret u=>obtain⟨v,hY,H',I,r,q⟩:=h;exact⟨v,hY,H',I.unwish,r,q⟩
theorem PSs.nox{st:List ì}{t:TS}(h:PSs X.nox st t):PSs X st t:=λag s σ H D I hw=>
 jK (h ag s σ H D (I.wish _) hw) (λ_ _ q=>q.unwish) λ_ _ z=>é z
end
section
variable{X:Cx}{st:ì}{rest:List ì}{t u:TS}{e:Ë}{te:TE}{pos:õ}
def V5:TS:=λD σ H=>D.nx σ H
def C4(t u:TS):TS:=λD σ H=>t { D with nx:=u D } σ H
def Ym:PSs X [] V5:=λ_ _ σ H _ I h=>wC ⟨σ,H,I,h⟩
def Qv(h1:PS X st t)(h2:PSs X rest u):PSs X (st::rest) (C4 t u):=by
 intro ag s σ H D I h;refine yQ (kq (h1 ag s σ H { D with nx:=u D } I h) λf s1 q=>?_);cases f with
 | next=>
  obtain⟨hY,H',I',q⟩:=q;exact h2 ag s1 hY H' D I' q
 | ret v=>exact q
 | brk=>exact q
 | cont=>exact q
def YO(h1:PS X st t):PSs X [st] t:=by
 intro ag s σ H D I h;refine yQ (kq (h1 ag s σ H D I h) λf s1 q=>?_);cases f with
 | next=>exact wC q
 | ret v=>exact q
 | brk=>exact q
 | cont=>exact q
def YT:PS X (.Pass pos) V5:=λ_ _ σ H _ I h=>wpAny_Pass ⟨σ,H,I,h⟩
def Inv.quiet{ag:List (Ç×æ)}{σ:St}{H:Hp}{s:Å}(I:Inv X ag σ H s):interactive X.env=Â:=by simp[interactive,I.ok.kind]
def B4(te:TE):TS:=λD σ H=>te σ H λ_ H1=>D.nx σ H1
def YF(he:PE X e te)(hs:↥(ç e Á pos.line X.env=pure Â)):PS X (.Expr e pos) (B4 te):=by
 intro ag s σ H D I h;exact wpAny_Expr_any (kq (he ag s σ H _ I h) λv s1 IV=>(by obtain⟨x,H1,I1,r1,q1⟩:=IV;exact⟨σ,H1,I1,q1⟩)) I.quiet hs
def Dc(te:TE):TS:=λD σ H=>te σ H D.rt
def Uc(he:PE X e te):PS X (.Return (À e) pos) (Dc te):=by
 intro ag s σ H D I h;exact Ř (kq (he ag s σ H _ I h) λv s1 IW=>(by obtain⟨x,H1,I1,r1,q1⟩:=IW;exact⟨x,σ,H1,I1,r1,q1⟩))
def CC(c:TT)(t u:TS):TS:=λD σ H=>c σ H λb H1=>if b=Ã then t D σ H1 else u D σ H1
def BV{c:Ë}{a b:List ì}{tc:TT}(hc:PT X c tc)(ha:PSs X a t)(hb:PSs X b u):PS X (.If c a b pos) (CC tc t u):=by
 intro ag s σ H D I h;refine wpAny_If (kq (hc ag s σ H _ I h) ?_);rintro d s1 ⟨H1,I1,q1⟩;cases d with
 | true=>exact ha ag s1 σ H1 D I1 q1
 | false=>exact hb ag s1 σ H1 D I1 q1
end
abbrev TG:=V->St->Hp->(St->Hp->Prop)->Prop
abbrev l6:=List V->St->Hp->(St->Hp->Prop)->Prop
def PG(X:Cx)(target:Ë)(t:TG):Prop:=
 ∀(ag:List (Ç×æ)) (s:Å) (σ:St) (H:Hp) (v:V) (u:Ä) (Q:St->Hp->Prop),Inv X ag σ H s->RelV v u->t v σ H Q->
  Ê (Ì X.prog X.w) X.A (assign target X.env u) (λ_ s'=>∃hY H',Inv X ag hY H' s'/\Q hY H') X.xe s
def PGs(X:Cx)(ts:List Ë)(t:l6):Prop:=
 ∀(ag:List (Ç×æ)) (s:Å) (σ:St) (H:Hp) (vs:List V) (us:List Ä) (Q:St->Hp->Prop),Inv X ag σ H s->Vals vs us->t vs σ H Q->
  Ê (Ì X.prog X.w) X.A (assignInOrder ((Û ts X.env).map (·.2)) us) (λ_ s'=>∃hY H',Inv X ag hY H' s'/\Q hY H') X.xe s
abbrev Qi:=V->V->V->Hp->(Hp->Prop)->Prop
def Vb(X:Cx)(t:Qi):Prop:=
 ∀(ag:List (Ç×æ)) (s:Å) (σ:St) (H:Hp) (o i v:V) (ov iv u:Ä) (Q:Hp->Prop),Inv X ag σ H s->RelV o ov->RelV i iv->RelV v u->t o i v H Q->
  Ê (Ì X.prog X.w) X.A (Ů ov iv u) (λ_ s'=>∃H',Inv X ag σ H' s'/\Q H') X.xe s
abbrev VU:=V->V->Hp->VK->Prop
def Jt(X:Cx)(op:ř)(t:VU):Prop:=
 ∀(ag:List (Ç×æ)) (s:Å) (σ:St) (H:Hp) (x y:V) (v u:Ä) (Q:VK),Inv X ag σ H s->RelV x v->RelV y u->t x y H Q->
  Ê (Ì X.prog X.w) X.A (inplaceOp op v u) (EP X ag σ Q) X.xe s
section
variable{X:Cx}{pos:õ}
def VM(i:Nat):TG:=λv σ H Q=>Q (σ.set i (À v)) H
def WJ{i:Nat}{x:È}(hN:X.N.Nodup)(hi:X.N[i]?=À x)(hx:Loc X.env.scope x)(hf:X.fn x=Ã\/X.env.scope.names.lookup x=À .local:=by first | exact .inl rfl | exact .inr rfl | assumption):PG X (.Name x pos) (VM i):=by
 intro ag s σ H v u Q I r h;exact Ś (eV I hN hi hx r (λs' I'=>⟨_,H,I',h⟩) hf)
def CJ:l6:=λvs σ H Q=>vs=[]/\Q σ H
def Cb(t:TG)(u:l6):l6:=λvs σ H Q=>∃v r,vs=v::r/\t v σ H λhY H'=>u r hY H' Q
def YB:PGs X [] CJ:=by
 intro ag s σ H vs us Q I r h;obtain⟨e,h⟩:=h;subst e;cases r;exact assignInOrder_nil ⟨σ,H,I,h⟩
def QJ{e:Ë}{es:List Ë}{t:TG}{u:l6}(h1:PG X e t)(h2:PGs X es u)
  (hs:↥((Û (e::es) X.env).map (·.2)=assign e X.env::(Û es X.env).map (·.2))):PGs X (e::es) (Cb t u):=by
 intro ag s σ H vs us Q I r h;obtain⟨v,vr,e1,h⟩:=h;subst e1;cases r with
 | cons r rr=>
  rw[hs];refine assignInOrder_cons (kq (h1 ag s σ H _ _ _ I r h) ?_);rintro _ s1 ⟨DM,H1,I1,q1⟩;exact h2 ag s1 DM H1 _ _ Q I1 rr q1
def Cz(K:NT)(n:Nat)(t:l6):TG:=λv σ H Q=>∃a xs,v=.ref a/\SqT K H a xs/\xs.length=n/\t xs σ H Q
def Ub{es:List Ë}{k:Nat}{t:l6}{n:Nat}(hc:X.calm=Ã)(h:PGs X es t)
  (hn:↥((Û es X.env).length=n)) (Aa:↥((Û es X.env).findIdx? (·.1)=Á)):PG X (.Tuple es k pos) (Cz X.K n t):=by
 intro ag s σ H v u Q I r hw;obtain⟨a,xs,e1,hq,hl,hw⟩:=hw;subst e1;cases r;obtain⟨cb,rv,ht,hz⟩:=I.tuple hq;refine assign_Tuple_tuple (I.ok.hd hc) ht (by simp[hn,<-hl,rv.length]) Aa λh' hx=>?_
 have I1:Inv X ag σ H { s with heap:=h' }:=I.kept (t':=s.toks) λb o e=>hx b o (zT (zz e)) e
 exact h ag _ σ H xs _ Q I1 (by simpa using rv) hw
def CA(to ti:TE)(t:Qi):TG:=λv σ H Q=>to σ H λo H1=>ti σ H1 λi H2=>t o i v H2 λH3=>Q σ H3
def UB{o i:Ë}{to ti:TE}{t:Qi}(ho:PE X o to)(hi:PE X i ti)(hs:Vb X t)
  (ha:∀v,assign (.Subscript o i pos) X.env v=(do
   let ov <-holding [v] (eval o X.env)
   let iv <-holding [v,ov] (eval i X.env)
   ŗ pos
   holding [v,ov,iv] (Ů ov iv v)
   release [v,ov,iv] []):=by intro _;rfl):PG X (.Subscript o i pos) (CA to ti t):=by
 intro ag s σ H v u Q I r h;rw[ha];refine za (jf (kq (ho ag s σ H _ I h) ?_));rintro ov s1 ⟨x,H1,I1,r1,q1⟩;refine za (jf (kq (hi ag s1 σ H1 _ I1 q1) ?_));rintro iv s2 ⟨y,H2,I2,r2,q2⟩;refine za (yr (za (jf (kq (hs ag s2 σ H2 x y v ov iv u _ I2 r1 r2 r q2) ?_))));rintro _ s3 ⟨H3,I3,q3⟩;exact wpAny_release ⟨σ,H3,I3,q3⟩
def Bl(te:TE)(g:TG):TS:=λD σ H=>te σ H λx H1=>g x σ H1 D.nx
def UR{tg e:Ë}{te:TE}{g:TG}(he:PE X e te)(hg:PG X tg g)(hs:↥(ġ [tg] e pos.line X.env=pure Â))(hw:↥(Ģ [tg] e X.env=pure Á))
  (h1:↥((Û [tg] X.env).map (·.2)=[assign tg X.env])):PS X (.Assign [tg] e pos) (Bl te g):=by
 intro ag s σ H D I h;refine wpAny_Assign_stores (kq (he ag s σ H _ I h) ?_) hs hw;rintro v s1 ⟨x,H1,I1,r1,q1⟩;rw[h1];exact kq (hg ag s1 σ H1 x v _ I1 r1 q1) λ_ s2 q=>q
def Js{i:Nat}{x:È}{e:Ë}{te:TE}{Ao:õ}(hN:X.N.Nodup)(hi:X.N[i]?=À x)(hx:Loc X.env.scope x)(he:PE X e te)(hs:↥(ç e (À (.Name x Ao)) pos.line X.env=pure Â))(hf:X.fn x=Ã\/X.env.scope.names.lookup x=À .local:=by first | exact .inl rfl | exact .inr rfl | assumption) :
  PS X (.Assign [.Name x Ao] e pos) (Bl te (VM i)):=by
 intro ag s σ H D I h;refine wpAny_Assign_Name (kq (he ag s σ H _ I h) ?_) hs;rintro v s1 ⟨y,H1,I1,r1,q1⟩;exact eV I1 hN hi hx r1 (λs2 I2=>⟨_,H1,I2,q1⟩) hf
def CU(i:Nat)(te:TE)(ti:VU):TS:=λD σ H=>∃x,σ[i]?=À (À x)/\te σ H λy H1=>ti x y H1 λz H2=>D.nx (σ.set i (À z)) H2
def XJ{i:Nat}{x:È}{e:Ë}{te:TE}{op:ř}{ti:VU}{Ao:õ}(hN:X.N.Nodup)(hi:X.N[i]?=À x)(hx:Loc X.env.scope x)(he:PE X e te)(ho:Jt X op ti)(hf:X.fn x=Ã\/X.env.scope.names.lookup x=À .local:=by first | exact .inl rfl | exact .inr rfl | assumption) :
  PS X (.AugAssign (.Name x Ao) op e pos) (CU i te ti):=by
 intro ag s σ H D I h;obtain⟨v,e1,h⟩:=h;obtain⟨m,hn,hl⟩:=I.loc;have Gk:gD X.env.scope x:=by rcases hx with k | k;exact .inl k;exact .inr (.inl k)
 obtain⟨u,r,l⟩:=hl i x v hi e1 Gk;refine wpAny_AugAssign_Name ?_;have go:Ê (Ì X.prog X.w) X.A (eval e X.env) (λw Ai=>Ê (Ì X.prog X.w) X.A (inplaceOp op u w) (λr AA=>Ê (Ì X.prog X.w) X.A (storeName X.env x r) (λ_=>SP X ag D .next) X.xe AA) X.xe Ai) X.xe s:=by
  refine kq (he ag s σ H _ I h) ?_;rintro w s1 ⟨y,H1,I1,r1,q1⟩;refine kq (ho ag s1 σ H1 v y u w _ I1 r r1 q1) ?_;rintro z s2 ⟨zv,H2,I2,r2,q2⟩;exact eV I2 hN hi hx r2 (λs3 I3=>⟨_,H2,I3,q2⟩) hf
 rcases l with ⟨hk,hm⟩ | ⟨hk,c,hc,Ax⟩
 .exact Ĺ I.ok.kind hk hn hm go
 .rcases hk with hk | hk
  .exact ň I.ok.kind hk hc Ax go
  .rcases hx with k | k
   .have:X.env.scope.names.lookup x=À .free:=hk
    rw[k] at this;cases this
   .have:X.env.scope.names.lookup x=À .free:=hk
    rw[k] at this;cases this
def DD(f:Int->Int->Int):VU:=λx y H Q=>∃i j,x=.int i/\y=.int j/\Q (.int (f i j)) H
def Be:Jt X .Add (DD λi j=>i+j):=by
 intro ag s σ H x y v u Q I r1 r2 h;obtain⟨i,j,e1,e2,q⟩:=h;subst e1;subst e2;obtain⟨t,rfl⟩:=r1;obtain⟨t',rfl⟩:=r2;exact iadd_int ⟨.int _,H,I.tok _,⟨_,rfl⟩,q⟩
end
section
variable{X:Cx}{pos:õ}
def X4(c:TT)(tb:TS):TS:=λD σ H=>∃W:Nat->St->Hp->Prop,(∃m,W m σ H)/\∀m σ H,W m σ H->
 c σ H λb H1=>if b=Ã then ∃N:St->Hp->Prop,(∀hY H',N hY H'->∃m',m'<m/\W m' hY H')/\tb { D with nx:=N,ct:=N,bk:=D.nx } σ H1 else D.nx σ H1
def QY{c:Ë}{body:List ì}{tc:TT}{tb:TS}(hp:ņ (Ì X.prog X.w) X.A X.env X.xe)(hc:PT X c tc)(hb:PSs X body tb):PS X (.While c body [] pos) (X4 tc tb):=by
 intro ag s σ H D I h;obtain⟨W,⟨m0,w0⟩,turn⟩:=h;refine wpAny_While (codeAny_whileLoop (λn s'=>∃hY H',Inv X ag hY H' s'/\W n hY H') ?_ m0 ⟨σ,H,I,w0⟩);rintro n s1 ⟨DM,H1,I1,w1⟩;refine qD hp (kq (hc ag s1 DM H1 _ I1 (turn n DM H1 w1)) ?_);rintro b s2 ⟨H2,I2,q2⟩;cases b with
 | true=>
  obtain⟨N,hN,q2⟩:=q2;rw[zW rfl];refine qD hp (kq (hb ag s2 DM H2 _ I2 q2) λf s3 q3=>?_);cases f with
  | next=>
   obtain⟨AN,H3,I3,n3⟩:=q3;obtain⟨m',hm,w3⟩:=hN AN H3 n3;exact⟨m',hm,AN,H3,I3,w3⟩
  | cont=>
   obtain⟨AN,H3,I3,n3⟩:=q3;obtain⟨m',hm,w3⟩:=hN AN H3 n3;exact⟨m',hm,AN,H3,I3,w3⟩
  | brk=>exact q3
  | ret v=>exact q3
 | false=>
  rw[kY zO];exact wC ⟨DM,H2,I2,q2⟩
end
structure It where
 go:Nat->Hp->Prop
 yld:Nat->Hp->V->Hp->Prop
 stop:Nat->Hp->Prop
def uN(X:Cx)(ag:List (Ç×æ))(H:Hp)(b:Ç):Prop:=
 H b=Á/\b≠X.env.locals/\b∉X.fs/\(b∈X.ex\/X.s₀.heap.objs.size<=b)/\(∀x c,X.env.cells.lookup x=À c->c≠b)/\∀p∈X.pn++ag,p.1≠b
def Inv.fpOk{X:Cx}{ag:List (Ç×æ)}{σ:St}{H H':Hp}{s:Å}{b:Ç}(I:Inv X ag σ H s)(hb:s.heap.objs.size<=b)(hn:H' b=Á):uN X ag H' b:=by
 refine⟨hn,qI (zN I.lt hb),I.nofs hb,.inr (zG I.sz hb),λx c e z=>?_,λp hp z=>?_⟩
 .obtain⟨v,q⟩:=I.cell x c e
  exact absurd (zN q.lt (by rw[z];exact hb)) (jP _)
 .exact absurd (zN (zz (I.pin p hp).1) (by rw[z];exact hb)) (jP _)
structure Turn(P:Í)(w:Ð)(K:NT)(tg:Ë)(J:It)(fp:List Ç)(it:Ç)(tn:Nat->Ï->Prop):Prop where
 mem:it∈fp
 obj:∀i h,tn i h->∀b∈fp,∃o,h.get? b=À o/\∀v,o.data≠.cell v
 keep:∀i h h',tn i h->(∀b∈fp,∀o,h.get? b=À o->h'.get? b=À o)->tn i h'
 item:∀(X:Cx),X.prog=P->X.w=w->X.K=K->X.calm=Ã->∀(i:Nat) (ag:List (Ç×æ)) (s:Å) (σ:St) (H:Hp) (E:Ä->Å->Prop),Inv X ag σ H s->(∀b∈fp,uN X ag H b)->tn i s.heap->J.go i H->
  Ê (Ì P w) X.A (ė (.ref it)) (λr s1=>∃u,r=À u /\
   Ê (Ì P w) X.A (ē tg (.ref it) u) (λ_ s2=>∃x H',Inv X ag σ H' s2/\RelV x u/\J.yld i H x H'/\tn (i+1) s2.heap/\∀b∈fp,H' b=Á) E s1) E s
 done:∀(X:Cx),X.prog=P->X.w=w->X.K=K->X.calm=Ã->∀(i:Nat) (ag:List (Ç×æ)) (s:Å) (σ:St) (H:Hp) (E:Ä->Å->Prop),Inv X ag σ H s->(∀b∈fp,uN X ag H b)->tn i s.heap->J.stop i H->
  Ê (Ì P w) X.A (ė (.ref it)) (λr s1=>r=Á/\Inv X ag σ H s1) E s
 self:∀(A:Ò) (i:Nat) (s:Å) (Q:Ä->Å->Prop) (E:Ä->Å->Prop),tn i s.heap->Q (.ref it) s->Ê (Ì P w) A (ģ (.ref it)) Q E s
abbrev TI:=St->Hp->(It->Hp->Prop)->Prop
def PIE(X:Cx)(ag:List (Ç×æ))(σ:St)(tg:Ë)(R:It->Hp->Prop)(Gm:Ä)(s2:Å):Prop:=
 ∃(it:Ç) (fp:List Ç) (tn:Nat->Ï->Prop) (J:It) (H':Hp),Gm=.ref it/\Inv X ag σ H' s2/\Turn X.prog X.w X.K tg J fp it tn/\tn 0 s2.heap/\(∀b∈fp,uN X ag H' b)/\R J H'
def PI(X:Cx)(tg iter:Ë)(wi:TI):Prop:=
 ∀(ag:List (Ç×æ)) (s:Å) (σ:St) (H:Hp) (R:It->Hp->Prop),Inv X ag σ H s->wi σ H R->
  Ê (Ì X.prog X.w) X.A (eval iter X.env) (λv s1=>Ê (Ì X.prog X.w) X.A (ģ v) (PIE X ag σ tg R) X.xe s1) X.xe s
def mZ {M : Model} {A : Ò} {E : Ä -> Å -> Prop} {s : Å} {tg : Ë} {it : Ç} {u : Ä} {o : æ} {n : String} {vs : Array Ä} {Q : Unit -> Å -> Prop} (ho : s.heap.get? it = À o) (hc : o.cls = .type n) (hd : o.data = .fields vs)
    (hn : ["enumerate", "zip", "dict_itemiterator", "dict_reverseitemiterator", "odict_iterator", "itertools.zip_longest", "itertools.pairwise"].contains n = Â) (hQ : Q () s) : Ê M A (ē tg (.ref it) u) Q E s := by
  unfold ē;cases tg <;> first
    | exact zy hQ
    | (cases u <;> first
        | exact zy hQ
        | (refine za (ŵ ho ?_)
           rw [hc, hd];show Ê M A (if (["enumerate", "zip", "dict_itemiterator", "dict_reverseitemiterator", "odict_iterator", "itertools.zip_longest", "itertools.pairwise"].contains n && vs[0]? == À (ī _)) = Ã then _ else _) Q E s
           rw [kY (by intro h;rw [hn, Bool.false_and] at h;cases h)]
           exact zy hQ))
def Wj(K:NT)(a:Ç):It:=
 ⟨λi H=>∃xs x,SqL K H a xs/\xs[i]?=À x,λi H x H'=>H'=H/\∀xs,SqL K H a xs->xs[i]?=À x,λi H=>∃xs,SqL K H a xs/\xs.length<=i⟩
def YV(K:NT)(a:Ç):It:=
 ⟨λi H=>∃xs x,SqT K H a xs/\xs[i]?=À x,λi H x H'=>H'=H/\∀xs,SqT K H a xs->xs[i]?=À x,λi H=>∃xs,SqT K H a xs/\xs.length<=i⟩
def VW(lo:Int)(n:Nat):It:=⟨λi _=>i<n,λi H x H'=>H'=H/\x=.int (lo+i),λi _=>n<=i⟩
def K5{P:Í}{w:Ð}{K:NT}{tg:Ë}(a it:Ç):Turn P w K tg (Wj K a) [it] it (λi h=>h.IsListIter it a i) where
 mem:=by simp
 obj:=λi h st b hb=>by
  have e:b=it:=by simpa using hb
  subst e;obtain⟨o,e,c,d⟩:=st;exact⟨o,e,λv z=>by rw[d] at z;cases z⟩
 keep:=λi h h' st k=>st.at λo e=>k it (by simp) o e
 item:=by
  intro X hP hw hK hc i ag s σ H E I hf st hg;subst hP hw hK;obtain⟨xs,x,hq,hx⟩:=hg;obtain⟨cb,rv,p,hz⟩:=I.list hq;obtain⟨u,hu,ru⟩:=rv.get hx;obtain⟨f0,f1,f2,f3,f4,f5⟩:=hf it (by simp);refine wpAny_pyNext_list_item st p.isList (x:=u) (by simpa using hu) λh' AL sb=>?_
  have I1:Inv X ag σ H { s with heap:=h' }:=I.turned (t':=s.toks) (λb o hb e=>(sb.2 b hb).trans e) f0 f1 f3 f4 f5;obtain⟨o,e,c,d⟩:=id AL;exact⟨u,rfl,mZ (s:={ s with heap:=h' }) e c d (by decide) ⟨x,H,I1,ru,⟨rfl,λys hy=>by rw[I.list_inj hy hq];exact hx⟩,AL,λb hb=>(hf b hb).1⟩⟩
 done:=by
  intro X hP hw hK hc i ag s σ H E I hf st hg;subst hP hw hK;obtain⟨xs,hq,hx⟩:=hg;obtain⟨cb,rv,p,hz⟩:=I.list hq;obtain⟨f0,f1,f2,f3,f4,f5⟩:=hf it (by simp);have hl:=rv.length;exact wpAny_pyNext_list_end (I.ok.hd hc) st p.isList (by simp;omega) λh' eb=>⟨rfl,I.turned (t':=s.toks) (λb o hb e=>eb b o hb e) f0 f1 f3 f4 f5⟩
 self:=λ_ _ _ _ _ st h=>wpAny_pyIter_listiter st h
def tI{P:Í}{w:Ð}{K:NT}{tg:Ë}(a it:Ç):Turn P w K tg (YV K a) [it] it (λi h=>h.IsTupleIter it a i) where
 mem:=by simp
 obj:=λi h st b hb=>by
  have e:b=it:=by simpa using hb
  subst e;obtain⟨o,e,c,d⟩:=st;exact⟨o,e,λv z=>by rw[d] at z;cases z⟩
 keep:=λi h h' st k=>st.at λo e=>k it (by simp) o e
 item:=by
  intro X hP hw hK hc i ag s σ H E I hf st hg;subst hP hw hK;obtain⟨xs,x,hq,hx⟩:=hg;obtain⟨cb,rv,p,hz⟩:=I.tuple hq;obtain⟨u,hu,ru⟩:=rv.get hx;obtain⟨f0,f1,f2,f3,f4,f5⟩:=hf it (by simp);refine wpAny_pyNext_tuple_item st (show s.heap.IsTuple a cb.toArray from p) (x:=u) (by simpa using hu) λh' AL sb=>?_
  have I1:Inv X ag σ H { s with heap:=h' }:=I.turned (t':=s.toks) (λb o hb e=>(sb.2 b hb).trans e) f0 f1 f3 f4 f5;obtain⟨o,e,c,d⟩:=id AL;exact⟨u,rfl,mZ (s:={ s with heap:=h' }) e c d (by decide) ⟨x,H,I1,ru,⟨rfl,λys hy=>by rw[I.tuple_inj hy hq];exact hx⟩,AL,λb hb=>(hf b hb).1⟩⟩
 done:=by
  intro X hP hw hK hc i ag s σ H E I hf st hg;subst hP hw hK;obtain⟨xs,hq,hx⟩:=hg;obtain⟨cb,rv,p,hz⟩:=I.tuple hq;obtain⟨f0,f1,f2,f3,f4,f5⟩:=hf it (by simp);have hl:=rv.length;exact wpAny_pyNext_tuple_end (I.ok.hd hc) st (show s.heap.IsTuple a cb.toArray from p) (by simp;omega) λh' eb=>⟨rfl,I.turned (t':=s.toks) (λb o hb e=>eb b o hb e) f0 f1 f3 f4 f5⟩
 self:=λ_ _ _ _ _ st h=>wpAny_pyIter_tupleiter st h
def Zf{P:Í}{w:Ð}{K:NT}{tg:Ë}(it:Ç)(lo:Int)(n:Nat):Turn P w K tg (VW lo n) [it] it (λi h=>IsRangeIter h it (lo+(i:Nat)*1) ((n:Int)-(i:Nat)) 1) where
 mem:=by simp
 obj:=λi h st b hb=>by
  have e:b=it:=by simpa using hb
  subst e
  exact⟨_,st,λv z=>by
   have z':Data.fields _=Data.cell v:=z
   cases z'⟩
 keep:=λi h h' st k=>k it (by simp) _ st
 item:=by
  intro X hP hw hK hc i ag s σ H E I hf st hg;subst hP hw hK;obtain⟨f0,f1,f2,f3,f4,f5⟩:=hf it (by simp);have W:=Walks.range (prog:=X.prog) (w:=X.w) (I.ok.hd hc) it lo 1 n;refine W.item i s _ _ hg st λv h' tk hv AL kk=>?_
  obtain⟨t,rfl⟩:=hv;have I1:Inv X ag σ H { s with heap:=h',toks:=tk }:=I.turned (λb o hb e=>kk b o (by simpa using hb) e) f0 f1 f3 f4 f5;refine⟨_,rfl,mZ (s:={ s with heap:=h',toks:=tk }) (n:="range_iterator") AL rfl rfl (by decide) ⟨.int (lo+i),H,I1,⟨t,?_⟩,⟨rfl,rfl⟩,AL,λb hb=>(hf b hb).1⟩⟩;rw[Int.mul_one]
 done:=by
  intro X hP hw hK hc i ag s σ H E I hf st hg;subst hP hw hK;obtain⟨f0,f1,f2,f3,f4,f5⟩:=hf it (by simp);exact wpAny_pyNext_range_end (I.ok.hd hc) st (by have:n<=i:=hg;omega) λh' eb=>⟨rfl,I.turned (t':=s.toks) (λb o hb e=>eb b o hb e) f0 f1 f3 f4 f5⟩
 self:=λ_ _ _ _ _ st h=>wpAny_pyIter_rangeiter st h
end L2
namespace L2
open PySem PySem.Spec PyProof.Rows
section
variable{X:Cx}{tg:Ë}
def QU{ag:List (Ç×æ)}{σ:St}{H:Hp}{s:Å}{R:It->Hp->Prop}{E:Ä->Å->Prop}{lo hi:Int}{t u v:ū}{tk:Nat}(I:Inv X ag σ H s)(h1:-(2 ^ 62)<=lo)(h2:lo<2 ^ 62)(h3:-(2 ^ 62)<=hi)(h4:hi<2 ^ 62)
  (q:R (VW lo (hi-lo).toNat) H):Ê (Ì X.prog X.w) X.A (ģ (.ref s.heap.objs.size)) (PIE X ag σ tg R) E { s with heap:=s.heap.push { cls:=.type "range",data:=.fields #[.int lo t,.int hi u,.int 1 v] },toks:=tk }:=by
 refine wpAny_pyIter_range (IsRange.new ..) (small_one h1 h2 h3 h4) ?_;have I1:Inv X ag σ H { s with heap:=s.heap.push { cls:=.type "range",data:=.fields #[.int lo t,.int hi u,.int 1 v] },toks:=tk }:=I.kept λb o e=>zg _ e
 refine⟨(s.heap.push { cls:=.type "range",data:=.fields #[.int lo t,.int hi u,.int 1 v] }).objs.size,[(s.heap.push { cls:=.type "range",data:=.fields #[.int lo t,.int hi u,.int 1 v] }).objs.size],_,_,H,rfl,
  I1.kept (t':=tk) λb o e=>zg _ e,Zf _ lo (hi-lo).toNat,?_,λb hb=>?_,q⟩
 .have e1:lo+((0:Nat):Int)*1=lo:=by simp
  have e2:(((hi-lo).toNat:Nat):Int)-((0:Nat):Int)=Builtin.Range.rangeSize lo hi 1:=by rw[rangeSize_one];split<;>omega
  show IsRangeIter _ _ (lo+((0:Nat):Int)*1) ((((hi-lo).toNat:Nat):Int)-((0:Nat):Int)) 1
  rw[e1,e2];exact zL _ rfl
 .have e:b=(s.heap.push { cls:=.type "range",data:=.fields #[.int lo t,.int hi u,.int 1 v] }).objs.size:=by simpa using hb
  subst e;exact I1.fpOk (zF _) (I1.hok.fresh (zF _))
def Bv(ta:TA):TI:=λσ H R=>ta σ H λvs H1=>∃j:Int,vs=[.int j]/\-(2 ^ 62)<=j/\j<2 ^ 62/\R (VW 0 j.toNat) H1
def Ka{a:Ë}{ta:TA}{p pos:õ}(hg:Gl X "range")(hm:X.mg "range" = Á)(ha:PA X [a] ta)(hs:↥(É [a] X.env=[(Â,eval a X.env)])):PI X tg (.Call (.Name "range" p) [a] [] pos) (Bv ta):=by
 intro ag s σ H R I h;refine Call_ (u7 I hg hm boot_range (jC (kq (ha pos ag s σ H _ I h) ?_) hs rfl));rintro us s1 ⟨vs,H1,I1,r1,q1⟩;obtain⟨j,e,q1,q2,q⟩:=q1;subst e;cases r1 with
 | cons r rr=>
  cases rr;obtain⟨t,rfl⟩:=r;exact call_range_1 (QU I1 ∅ ∅ q1 q2 (by simpa using q))
def Cy(wi:TI)(g:TG)(tb:TS):TS:=λD σ H=>wi σ H λJ H1=>∃W:Nat->Nat->St->Hp->Prop,(∃m,W 0 m σ H1)/\∀i m σ H,W i m σ H->
 (J.stop i H/\D.nx σ H)\/(J.go i H/\∃N:St->Hp->Prop,(∀hY H',N hY H'->∃m',m'<m/\W (i+1) m' hY H')/\∀x H',J.yld i H x H'->g x σ H' λA4 H2=>tb { D with nx:=N,ct:=N,bk:=D.nx } A4 H2)
def fL(fp:List Ç)(h:Ï):List (Ç×æ):=fp.filterMap λb=>(h.get? b).map λo=>(b,o)
def aS{fp:List Ç}{h:Ï}{b:Ç}{o:æ}(hb:b∈fp)(e:h.get? b=À o):(b,o)∈fL fp h:=wJ.mpr ⟨b,hb,by rw[e];rfl⟩
def KN{fp:List Ç}{h:Ï}{p:Ç×æ}(hp:p∈fL fp h):p.1∈fp/\h.get? p.1=À p.2:=by
 obtain⟨b,hb,e⟩:=wJ.mp hp;cases q:h.get? b with
 | none=>rw[q] at e;cases e
 | some o=>
  rw[q] at e;have e':(b,o)=p:=zP e;subst e';exact⟨hb,q⟩
def Inv.pinned{ag:List (Ç×æ)}{σ:St}{H:Hp}{s:Å}{fp:List Ç}(I:Inv X ag σ H s)(hf:∀b∈fp,uN X ag H b)(ho:∀b∈fp,∃o,s.heap.get? b=À o/\∀v,o.data≠.cell v):Inv X (ag++fL fp s.heap) σ H s:=
 I.pins_of λp hp=>(zA.mp hp).elim (λz=>I.pin p (kh _ z)) λz=>by
  obtain⟨hb,e⟩:=KN z;obtain⟨f0,f1,f2,_⟩:=hf p.1 hb;obtain⟨o,e',d⟩:=ho p.1 hb;rw[e] at e';cases e';exact⟨e,f0,f1,f2,d⟩
def Inv.unpinned{ag pl:List (Ç×æ)}{σ:St}{H:Hp}{s:Å}(I:Inv X (ag++pl) σ H s):Inv X ag σ H s:=I.pins_of λp hp=>I.pin p (kh _ (jO _ hp))
def Xz{iter:Ë}{body:List ì}{wi:TI}{g:TG}{tb:TS}{pos:õ}(hp:ņ (Ì X.prog X.w) X.A X.env X.xe)(hc:X.calm=Ã)(hi:PI X tg iter wi)(hg:PG X tg g)(hb:PSs X body tb)
  (hs:∀x,ß iter X.env x=pure x:=by intro _;rfl):PS X (.For tg iter body [] pos) (Cy wi g tb):=by
 intro ag s σ H D I h;refine wpAny_For (kq (hi ag s σ H _ I h) λv s1 h1=>kq h1 λGm s2 h2=>?_) hs;obtain⟨it,fp,tn,J,H2,e,I2,T,A7,f2,W,⟨m0,w0⟩,turn⟩:=h2;subst e;have Ec:∀{H':Hp},(∀b∈fp,H' b=Á)->∀b∈fp,uN X ag H' b:=λhn b hb=>⟨hn b hb,(f2 b hb).2⟩
 refine codeAny_forLoop_any (λn s'=>∃i hY H',Inv X ag hY H' s'/\tn i s'.heap/\(∀b∈fp,H' b=Á)/\W i n hY H') ?_ m0 ⟨0,σ,H2,I2,A7,λb hb=>(f2 b hb).1,w0⟩;rintro n s3 ⟨i,AN,H3,I3,Fe,FU,w3⟩;rcases turn i n AN H3 w3 with ⟨stop,qn⟩ | ⟨go,N,hN,step⟩
 .refine qD hp (kq (T.done X rfl rfl rfl hc i ag s3 AN H3 X.xe I3 (Ec FU) Fe stop) ?_)
  rintro r s4 ⟨hr,I4⟩;subst hr;exact wC ⟨AN,H3,I4,qn⟩
 .refine qD hp (kq (T.item X rfl rfl rfl hc i ag s3 AN H3 X.xe I3 (Ec FU) Fe go) ?_)
  rintro r s4 ⟨u,hr,h4⟩;subst hr;refine qD hp (kq h4 ?_);rintro _ s5 ⟨x,H5,I5,r5,y5,Ed,Gn⟩;have Ff:=I5.pinned (Ec Gn) (T.obj _ _ Ed);refine qD hp (kq (hg _ s5 AN H5 x u _ Ff r5 (step x H5 y5)) ?_);rintro _ s6 ⟨DN,H6,I6,q6⟩;refine qD hp (kq (hb _ s6 DN H6 _ I6 q6) λf s7 q7=>?_);have again:∀{A8:St} {H7:Hp},Inv X (ag++fL fp s5.heap) A8 H7 s7->N A8 H7->∃m,m<n/\∃i hY H',Inv X ag hY H' s7/\tn i s7.heap/\(∀b∈fp,H' b=Á)/\W i m hY H':=λ{A8 H7} I7 n7=>by
   obtain⟨m',hm,w7⟩:=hN A8 H7 n7;refine⟨m',hm,i+1,A8,H7,I7.unpinned,T.keep _ _ _ Ed λb hb o e=>(I7.pin (b,o) (kh _ (kh _ (aS hb e)))).1,λb hb=>?_,w7⟩;obtain⟨o,e,d⟩:=T.obj _ _ Ed b hb;exact(I7.pin (b,o) (kh _ (kh _ (aS hb e)))).2.1
  cases f with
  | next=>obtain⟨A8,H7,I7,n7⟩:=q7;exact again I7 n7
  | cont=>obtain⟨A8,H7,I7,n7⟩:=q7;exact again I7 n7
  | brk=>obtain⟨A8,H7,I7,q7⟩:=q7;exact⟨A8,H7,I7.unpinned,q7⟩
  | ret v=>obtain⟨x7,A8,H7,I7,r7,q7⟩:=q7;exact⟨x7,A8,H7,I7.unpinned,r7,q7⟩
end
end L2
namespace L2
open PySem PySem.Spec PyProof.Rows
abbrev R2:=V->V->Hp->VK->Prop
def kS(X:Cx)(f:Ä->Ä->Sem Ä)(r:R2):Prop:=
 ∀(ag:List (Ç×æ)) (s:Å) (σ:St) (H:Hp) (x y:V) (v u:Ä) (Q:VK),Inv X ag σ H s->RelV x v->RelV y u->r x y H Q->
  Ê (Ì X.prog X.w) X.A (f v u) (EP X ag σ Q) X.xe s
def ZI(X:Cx)(f:Ä->Sem Ä)(r:V->Hp->VK->Prop):Prop:=
 ∀(ag:List (Ç×æ)) (s:Å) (σ:St) (H:Hp) (x:V) (v:Ä) (Q:VK),Inv X ag σ H s->RelV x v->r x H Q->
  Ê (Ì X.prog X.w) X.A (f v) (EP X ag σ Q) X.xe s
def qV(X:Cx)(f:Ä)(r:List V->Hp->VK->Prop):Prop:=
 ∀(ag:List (Ç×æ)) (s:Å) (σ:St) (H:Hp) (xs:List V) (us:List Ä) (Q:VK),Inv X ag σ H s->Vals xs us->r xs H Q->
  Ê (Ì X.prog X.w) X.A (call f us) (EP X ag σ Q) X.xe s
def Z8(r:R2)(ta tb:TE):TE:=λσ H Q=>ta σ H λx H1=>tb σ H1 λy H2=>r x y H2 Q
def Dm(r:V->Hp->VK->Prop)(ta:TE):TE:=λσ H Q=>ta σ H λx H1=>r x H1 Q
def rI(C:Int->Int->Prop)(g:Int->Int->V):R2:=λx y H Q=>∃i j,x=.int i/\y=.int j/\C i j/\Q (g i j) H
def iO(g:Int->Int->V):R2:=λx y H Q=>∃i j,x=.int i/\y=.int j/\Q (g i j) H
def rU(g:Int->V):V->Hp->VK->Prop:=λx H Q=>∃i,x=.int i/\Q (g i) H
section
variable{X:Cx}{a b c:Ë}{ta tb tc:TE}{pos:õ}
def Qx(ha:PE X a ta)(hb:PE X b tb){ag:List (Ç×æ)}{s:Å}{σ:St}{H:Hp}{R:V->V->Hp->Prop}(I:Inv X ag σ H s)
  (h:ta σ H λx H1=>tb σ H1 λy H2=>R x y H2) {Q:Ä->Å->Prop} {f:Ä->Ä->Sem Ä}
  (hf:∀v u s2 x y H2,Inv X ag σ H2 s2->RelV x v->RelV y u->R x y H2->Ê (Ì X.prog X.w) X.A (f v u) Q X.xe s2) :
  Ê (Ì X.prog X.w) X.A (eval a X.env) (λv hJ=>Ê (Ì X.prog X.w) X.A (eval b X.env) (λu Ai=>Ê (Ì X.prog X.w) X.A (f v u) Q X.xe Ai) X.xe hJ) X.xe s:=by
 refine kq (ha ag s σ H _ I h) ?_;rintro v s1 ⟨x,H1,I1,r1,q1⟩;refine kq (hb ag s1 σ H1 _ I1 q1) ?_;rintro u s2 ⟨y,H2,I2,r2,q2⟩;exact hf v u s2 x y H2 I2 r1 r2 q2
def BM{op:ř}{r:R2}(ho:kS X (Ù op) r)(ha:PE X a ta)(hb:PE X b tb):PE X (.BinOp a op b pos) (Z8 r ta tb):=by
 intro ag s σ H Q I h;exact wpAny_BinOp (Qx ha hb I h λv u s2 x y H2 I2 rx ry q=>ho ag s2 σ H2 x y v u Q I2 rx ry q)
def Cf{op:UnaryOp}{r:V->Hp->VK->Prop}(ho:ZI X (unaryOp op) r)(ha:PE X a ta):PE X (.UnaryOp op a pos) (Dm r ta):=by
 intro ag s σ H Q I h;exact UnaryOp_ (kq (ha ag s σ H _ I h) λv s1 IX=>(by obtain⟨x,H1,I1,r1,q1⟩:=IX;exact ho ag s1 σ H1 x v Q I1 r1 q1))
def VO{f:Ä->Ä->Sem Ä}{C:Int->Int->Prop}{g:Int->Int->Int}
  (rule:∀(i j:Int) (t u:ū) (s:Å) (Q:Ä->Å->Prop) (E:Ä->Å->Prop),C i j->Q (.int (g i j) s.toks) { s with toks:=s.toks+1 }->Ê (Ì X.prog X.w) X.A (f (.int i t) (.int j u)) Q E s) :
  kS X f (rI C λi j=>.int (g i j)):=by
 intro ag s σ H x y v u Q I rx ry h;obtain⟨i,j,rfl,rfl,hc,q⟩:=h;obtain⟨t,rfl⟩:=rx;obtain⟨t',rfl⟩:=ry;exact rule i j t t' s _ _ hc ⟨.int (g i j),H,I.tok _,⟨_,rfl⟩,q⟩
def UX{f:Ä->Ä->Sem Ä}{g:Int->Int->Int}
  (rule:∀(i j:Int) (t u:ū) (s:Å) (Q:Ä->Å->Prop) (E:Ä->Å->Prop),Q (.int (g i j) s.toks) { s with toks:=s.toks+1 }->Ê (Ì X.prog X.w) X.A (f (.int i t) (.int j u)) Q E s) :
  kS X f (iO λi j=>.int (g i j)):=by
 intro ag s σ H x y v u Q I rx ry h;obtain⟨i,j,rfl,rfl,q⟩:=h;obtain⟨t,rfl⟩:=rx;obtain⟨t',rfl⟩:=ry;exact rule i j t t' s _ _ ⟨.int (g i j),H,I.tok _,⟨_,rfl⟩,q⟩
def tP{f:Ä->Ä->Sem Ä}{g:Int->Int->Bool}
  (rule:∀(i j:Int) (t u:ū) (s:Å) (Q:Ä->Å->Prop) (E:Ä->Å->Prop),Q (.bool (g i j)) s->Ê (Ì X.prog X.w) X.A (f (.int i t) (.int j u)) Q E s) :
  kS X f (iO λi j=>.bl (g i j)):=by
 intro ag s σ H x y v u Q I rx ry h;obtain⟨i,j,rfl,rfl,q⟩:=h;obtain⟨t,rfl⟩:=rx;obtain⟨t',rfl⟩:=ry;exact rule i j t t' s _ _ ⟨.bl (g i j),H,I,rfl,q⟩
def Dg(i j:Int):Prop:=0<j/\j<1073741824
def De(i j:Int):Prop:=0<=j/\j<=1000000/\i.natAbs<2 ^ 64
def CMul(i j:Int):Prop:=(-(2 ^ 64)<i/\i<2 ^ 64)\/(-(2 ^ 64)<j/\j<2 ^ 64)
def CMul.ok{i j:Int}(h:CMul i j):IntMulOk i j:=by
 rcases h with ⟨h1,h2⟩ | ⟨h1,h2⟩
 .exact .of_left (intBits_le_64 h1 h2)
 .exact .of_right (intBits_le_64 h1 h2)
def Bp:kS X (Ù .Add) (iO λi j=>.int (i+j)):=UX λ_ _ _ _ _ _ _ q=>add_int q
def Xv:kS X (Ù .Sub) (iO λi j=>.int (i-j)):=UX λ_ _ _ _ _ _ _ q=>sub_int q
def U8:kS X (Ù .Mult) (rI CMul λi j=>.int (i*j)):=VO λ_ _ _ _ _ _ _ hc q=>mul_int q hc.ok
def WS:kS X (Ù .FloorDiv) (rI Dg λi j=>.int (i/j)):=VO λi j _ _ _ _ _ hc q=>by
 have h1:(0:Int)<j:=hc.1;have h2:j<1073741824:=hc.2;exact floordiv_int ∅ (by rw[Int.fdiv_eq_ediv_of_nonneg i ∅];exact q) (.inl (PyProof.noPylong_small ∅))
def Ug:kS X (Ù .Mod) (rI (λ_ j=>0<j) λi j=>.int (i%j)):=VO λi j _ _ _ _ _ hc q=>by
 have h1:(0:Int)<j:=hc;exact mod_int' ∅ (by rw[Int.fmod_eq_emod_of_nonneg i ∅];exact q)
def Ba:kS X (Ù .Pow) (rI De λi j=>.int (i ^ j.toNat)):=VO λ_ _ _ _ _ _ _ hc q=>pow_int_small hc.1 hc.2.1 hc.2.2 q
def Dl{f:Ä->Sem Ä}{g:Int->Int}
  (rule:∀(i:Int) (t:ū) (s:Å) (Q:Ä->Å->Prop) (E:Ä->Å->Prop),Q (.int (g i) s.toks) { s with toks:=s.toks+1 }->Ê (Ì X.prog X.w) X.A (f (.int i t)) Q E s) :
  ZI X f (rU λi=>.int (g i)):=by
 intro ag s σ H x v Q I rx h;obtain⟨i,rfl,q⟩:=h;obtain⟨t,rfl⟩:=rx;exact rule i t s _ _ ⟨.int (g i),H,I.tok _,⟨_,rfl⟩,q⟩
def X6:ZI X (unaryOp .USub) (rU λi=>.int (-i)):=Dl λ_ _ _ _ _ q=>neg_int q
end
def Xg:V->V->Bool
 | .non,.non=>Ã | .non,.int _=>Ã | .int _,.non=>Ã | .non,.bl _=>Ã | .bl _,.non=>Ã | .non,.str _=>Ã | .str _,.non=>Ã
 | .int _,.int _=>Ã | .bl _,.bl _=>Ã | .str _,.str _=>Ã | .byt _,.byt _=>Ã
 | .int _,.str _=>Ã | .str _,.int _=>Ã | .bl _,.str _=>Ã | .str _,.bl _=>Ã
 | _,_=>Â
def Dy:R2:=λx y H Q=>Xg x y=Ã/\Q (.bl (decide (x=y))) H
def Dh:R2:=λx y H Q=>Xg x y=Ã/\Q (.bl (!decide (x=y))) H
def gn{i j:Int}:decide (V.int i=V.int j)=(i==j):=by
 rw[qu];simp
def ix{i j:Bool}:decide (V.bl i=V.bl j)=(i==j):=by
 rw[qu];simp
def gm{i j:È}:decide (V.str i=V.str j)=(i==j):=by
 rw[qu];simp
def rq{i j:Array UInt8}:decide (V.byt i=V.byt j)=(i.toList==j.toList):=by
 rw[qu];cases i;cases j;simp
section
variable{X:Cx}{a b c:Ë}{ta tb tc:TE}{pos:õ}
def kH{ag:List (Ç×æ)}{σ:St}{H:Hp}{s:Å}{Q:VK}{k k':Bool}(I:Inv X ag σ H s)(q:Q (.bl k) H)(e:k=k'):EP X ag σ Q (.bool k') s:=by
 subst e;exact⟨.bl k,H,I,rfl,q⟩
def tL:kS X (Î .Eq) Dy:=by
 intro ag s σ H x y v u Q I rx ry h;obtain⟨hs,q⟩:=h;cases x with
 | non=>
  cases rx;cases y with
  | non=>cases ry;exact PySem.EqNone.eq_none_none (kH I q (by simp))
  | bl j=>cases ry;exact PySem.EqNone.eq_none_bool (kH I q (by simp))
  | int j=>obtain⟨t',rfl⟩:=ry;exact PySem.EqNone.eq_none_int (kH I q (by simp))
  | str j=>obtain⟨t',rfl⟩:=ry;exact PySem.EqNone.eq_none_str (kH I q (by simp))
  | _=>exact absurd (show Â=Ã from hs) zO
 | bl i=>
  cases rx;cases y with
  | non=>cases ry;exact PySem.EqNone.eq_bool_none (kH I q (by simp))
  | bl j=>cases ry;exact eq_bool (kH I q ix)
  | str j=>obtain⟨t',rfl⟩:=ry;exact PySem.EqMixed.eq_bool_str (kH I q (by simp))
  | _=>exact absurd (show Â=Ã from hs) zO
 | int i=>
  obtain⟨t,rfl⟩:=rx;cases y with
  | non=>cases ry;exact PySem.EqNone.eq_int_none (kH I q (by simp))
  | int j=>obtain⟨t',rfl⟩:=ry;exact eq_int (kH I q gn)
  | str j=>obtain⟨t',rfl⟩:=ry;exact PySem.EqMixed.eq_int_str (kH I q (by simp))
  | _=>exact absurd (show Â=Ã from hs) zO
 | str i=>
  obtain⟨t,rfl⟩:=rx;cases y with
  | non=>cases ry;exact PySem.EqNone.eq_str_none (kH I q (by simp))
  | bl j=>cases ry;exact PySem.EqMixed.eq_str_bool (kH I q (by simp))
  | int j=>obtain⟨t',rfl⟩:=ry;exact PySem.EqMixed.eq_str_int (kH I q (by simp))
  | str j=>obtain⟨t',rfl⟩:=ry;exact eq_str (kH I q gm)
  | _=>exact absurd (show Â=Ã from hs) zO
 | byt i=>
  obtain⟨t,rfl⟩:=rx;cases y with
  | byt j=>obtain⟨t',rfl⟩:=ry;exact PySem.W.eq_bytes (kH I q rq)
  | _=>exact absurd (show Â=Ã from hs) zO
 | _=>cases y<;>exact absurd (show Â=Ã from hs) zO
def Zb:kS X (Î .NotEq) Dh:=by
 intro ag s σ H x y v u Q I rx ry h;obtain⟨hs,q⟩:=h;cases x with
 | non=>
  cases rx;cases y with
  | non=>cases ry;exact PySem.EqNone.ne_none_none (kH I q (by simp))
  | bl j=>cases ry;exact PySem.EqNone.ne_none_bool (kH I q (by simp))
  | int j=>obtain⟨t',rfl⟩:=ry;exact PySem.EqNone.ne_none_int (kH I q (by simp))
  | str j=>obtain⟨t',rfl⟩:=ry;exact PySem.EqNone.ne_none_str (kH I q (by simp))
  | _=>exact absurd (show Â=Ã from hs) zO
 | bl i=>
  cases rx;cases y with
  | non=>cases ry;exact PySem.EqNone.ne_bool_none (kH I q (by simp))
  | bl j=>cases ry;exact ne_bool (kH I q (jY not ix))
  | str j=>obtain⟨t',rfl⟩:=ry;exact PySem.EqMixed.ne_bool_str (kH I q (by simp))
  | _=>exact absurd (show Â=Ã from hs) zO
 | int i=>
  obtain⟨t,rfl⟩:=rx;cases y with
  | non=>cases ry;exact PySem.EqNone.ne_int_none (kH I q (by simp))
  | int j=>obtain⟨t',rfl⟩:=ry;exact ne_int (kH I q (jY not gn))
  | str j=>obtain⟨t',rfl⟩:=ry;exact PySem.EqMixed.ne_int_str (kH I q (by simp))
  | _=>exact absurd (show Â=Ã from hs) zO
 | str i=>
  obtain⟨t,rfl⟩:=rx;cases y with
  | non=>cases ry;exact PySem.EqNone.ne_str_none (kH I q (by simp))
  | bl j=>cases ry;exact PySem.EqMixed.ne_str_bool (kH I q (by simp))
  | int j=>obtain⟨t',rfl⟩:=ry;exact PySem.EqMixed.ne_str_int (kH I q (by simp))
  | str j=>obtain⟨t',rfl⟩:=ry;exact ne_str (kH I q (jY not gm))
  | _=>exact absurd (show Â=Ã from hs) zO
 | byt i=>
  obtain⟨t,rfl⟩:=rx;cases y with
  | byt j=>obtain⟨t',rfl⟩:=ry;exact PySem.W.ne_bytes (kH I q (jY not rq))
  | _=>exact absurd (show Â=Ã from hs) zO
 | _=>cases y<;>exact absurd (show Â=Ã from hs) zO
def BQ:kS X (Î .Lt) (iO λi j=>.bl (decide (i<j))):=tP λ_ _ _ _ _ _ _ q=>lt_int q
def BB:kS X (Î .LtE) (iO λi j=>.bl (decide (i<=j))):=tP λ_ _ _ _ _ _ _ q=>le_int q
def Ck:kS X (Î .Gt) (iO λi j=>.bl (decide (j<i))):=tP λ_ _ _ _ _ _ _ q=>gt_int q
def BL:kS X (Î .GtE) (iO λi j=>.bl (decide (j<=i))):=tP λ_ _ _ _ _ _ _ q=>ge_int q
def Jz:kS X (Î .In) (λx y H Q=>∃i j,x=.str i/\y=.str j/\Q (.bl (!(Ą j i 0 j.length 1).isEmpty)) H):=by
 intro ag s σ H x y v u Q I rx ry h;obtain⟨i,j,rfl,rfl,q⟩:=h;obtain⟨t,rfl⟩:=rx;obtain⟨t',rfl⟩:=ry;exact in_str (kH I q rfl)
def Uz:kS X (Î .Is) (λx y H Q=>y=.non/\Q (.bl (decide (x=.non))) H):=by
 intro ag s σ H x y v u Q I rx ry h;obtain⟨rfl,q⟩:=h;cases ry;refine is_none_gen (kH I q ?_);cases x<;>first
  | (cases rx;rfl)
  | (obtain⟨t,rfl⟩:=rx;rfl)
def WY:kS X (Î .IsNot) (λx y H Q=>y=.non/\Q (.bl (!decide (x=.non))) H):=by
 intro ag s σ H x y v u Q I rx ry h;obtain⟨rfl,q⟩:=h;cases ry;refine isnot_none_gen (kH I q ?_);cases x<;>first
  | (cases rx;rfl)
  | (obtain⟨t,rfl⟩:=rx;rfl)
def oz:kS X (Î .NotIn) (λx y H Q=>∃i j,x=.str i/\y=.str j/\Q (.bl (!(!(Ą j i 0 j.length 1).isEmpty))) H):=by
 intro ag s σ H x y v u Q I rx ry h;obtain⟨i,j,rfl,rfl,q⟩:=h;obtain⟨t,rfl⟩:=rx;obtain⟨t',rfl⟩:=ry;exact notIn_str (kH I q rfl)
def rN{op:ś}{r:R2}(ho:kS X (Î op) r)(ha:PE X a ta)(hb:PE X b tb)(hm:Ý op b=Â):PE X (.Compare a [op] [b] pos) (Z8 r ta tb):=by
 intro ag s σ H Q I h;exact wpAny_Compare1 (Qx ha hb I h λv u s2 x y H2 I2 rx ry q=>ho ag s2 σ H2 x y v u Q I2 rx ry q) hm
def VV(t:TE):TT:=λσ H Q=>t σ H λx H'=>∃k,x=.bl k/\Q k H'
def rA{op:ś}{r:R2}(ho:kS X (Î op) r)(ha:PE X a ta)(hb:PE X b tb)(hm:Ý op b=Â):PT X (.Compare a [op] [b] pos) (VV (Z8 r ta tb)):=by
 intro ag s σ H Q I h
 refine wpAny_isTrue_Compare1 (kq (ha ag s σ H _ I h) λv s1 ⟨x,H1,I1,r1,q1⟩=>kq (hb ag s1 σ H1 _ I1 q1) λu s2 ⟨y,H2,I2,r2,q2⟩=>
  kq (ho ag s2 σ H2 x y v u _ I2 r1 r2 q2) λc s3 ⟨z,H3,I3,r3,k,e,q3⟩=>?_) hm
 subst e;cases r3;exact jJ ⟨H3,I3,q3⟩
def oB(r r':R2)(ta tb tc:TE):TE:=λσ H Q=>ta σ H λx H1=>tb σ H1 λy H2=>r x y H2 λz H3=>∃k,z=.bl k /\
 (if k=Ã then tc σ H3 λw' H4=>r' y w' H4 Q else Q (.bl Â) H3)
def QN{op Aw:ś}{r r':R2}(ho:kS X (Î op) r)(Az:kS X (Î Aw) r')(ha:PE X a ta)(hb:PE X b tb)(hc:PE X c tc)
  (hm:Ň [op,Aw] [b,c]=Â:=by with_unfolding_all rfl):PE X (.Compare a [op,Aw] [b,c] pos) (oB r r' ta tb tc):=by
 intro ag s σ H Q I h
 refine Compare_chain (kq (ha ag s σ H _ I h) λv s1 ⟨x,H1,I1,r1,q1⟩=>chain_link (kq (hb ag s1 σ H1 _ I1 q1) λu s2 ⟨y,H2,I2,r2,q2⟩=>
  kq (ho ag s2 σ H2 x y v u _ I2 r1 r2 q2) λd s3 ⟨z,H3,I3,r3,k,e,q3⟩=>?_)) hm
 subst e;cases r3;refine jJ ?_;cases k with
 | false=>exact ite_ff ⟨.bl Â,H3,I3,rfl,q3⟩
 | true=>exact ite_tt (chain_last (kq (hc ag s3 σ H3 _ I3 q3) λw' s4 ⟨z',H4,I4,r4,q4⟩=>Az ag s4 σ H4 y z' u w' Q I4 r2 r4 q4))
def QM{op Aw:ś}{r r':R2}(ho:kS X (Î op) r)(Az:kS X (Î Aw) r')(ha:PE X a ta)(hb:PE X b tb)(hc:PE X c tc)
  (hm:Ň [op,Aw] [b,c]=Â:=by with_unfolding_all rfl):PT X (.Compare a [op,Aw] [b,c] pos) (VV (oB r r' ta tb tc)):=by
 intro ag s σ H Q I h
 refine isTrue_chain (kq (ha ag s σ H _ I h) λv s1 ⟨x,H1,I1,r1,q1⟩=>test_link (kq (hb ag s1 σ H1 _ I1 q1) λu s2 ⟨y,H2,I2,r2,q2⟩=>
  kq (ho ag s2 σ H2 x y v u _ I2 r1 r2 q2) λd s3 ⟨z,H3,I3,r3,k,e,q3⟩=>?_)) hm
 subst e;cases r3;refine jJ ?_;cases k with
 | false=>
  obtain⟨k',e',q'⟩:=q3;cases e';exact ite_ff ⟨H3,I3,q'⟩
 | true=>
  refine ite_tt (test_last (kq (hc ag s3 σ H3 _ I3 q3) ?_));rintro w' s4 ⟨z',H4,I4,r4,q4⟩;refine kq (Az ag s4 σ H4 y z' u w' _ I4 r2 r4 q4) ?_;rintro d' s5 ⟨z2,H5,I5,r5,k2,e2,q5⟩;subst e2;cases r5;exact jJ ⟨H5,I5,q5⟩
def dX:(sizeLine:Nat)<2 ^ 63:=by rw[qZ];decide
def tN:kS X (Ù .Add) (λx y H Q=>∃i j,x=.str i/\y=.str j/\i.length+j.length<=sizeLine/\Q (.str (i++j)) H):=by
 intro ag s σ H x y v u Q I rx ry h;obtain⟨i,j,rfl,rfl,hz,q⟩:=h;obtain⟨t,rfl⟩:=rx;obtain⟨t',rfl⟩:=ry;exact add_str (λt' tk=>⟨.str (i++j),H,I.tok _,⟨_,rfl⟩,q⟩) hz
def vals1{x:V}{us:List Ä}(r:Vals [x] us):∃u,us=[u]/\RelV x u:=by
 cases r with
 | cons r1 r2=>cases r2;exact⟨_,rfl,r1⟩
def vals2{x y:V}{us:List Ä}(r:Vals [x,y] us):∃u w',us=[u,w']/\RelV x u/\RelV y w':=by
 cases r with
 | cons r1 r2=>
  cases r2 with
  | cons r3 r4=>cases r4;exact⟨_,_,rfl,r1,r3⟩
def l5:qV X (.type "int") (λxs H Q=>(∃i,xs=[.int i]/\Q (.int i) H)\/∃k,xs=[.bl k]/\Q (.int (if k then 1 else 0)) H):=by
 intro ag s σ H xs us Q I r h;rcases h with ⟨i,rfl,q⟩ | ⟨k,rfl,q⟩
 .obtain⟨u,rfl,t,rfl⟩:=vals1 r
  exact call_int_int ⟨.int i,H,I,⟨_,rfl⟩,q⟩
 .obtain⟨u,rfl,r1⟩:=vals1 r
  cases r1;exact call_int_bool ⟨.int (if k then 1 else 0),H,I.tok _,⟨_,rfl⟩,q⟩
def pD:qV X (.type "str") (λxs H Q=>∃i,xs=[.int i]/\i.natAbs.log2<1920/\Q (.str (toString i)) H):=by
 intro ag s σ H xs us Q I r h;obtain⟨i,rfl,hz,q⟩:=h;obtain⟨u,rfl,t,rfl⟩:=vals1 r;exact PySem.P.str_of_int hz ⟨.str _,H,I.tok _,⟨_,rfl⟩,q⟩
end
end L2
namespace L2
open PySem PySem.Spec PyProof.Rows
structure ObjM(h:Ï)(x dx C:Ç)(mA:È->Option Ä):Prop where
 obj:h.get? x=À (ĳ C dx)
 ns:h.Ns1 dx mA
 ne:dx≠x
def Jx{h:Ï}{dx:Ç}{mA:È->Option Ä}(n:h.Ns1 dx mA):∃od,h.get? dx=À od/\∀name,ĺ name od=À (mA name):=by
 obtain⟨o,es,ep,ho,hd,hk,_,hm⟩:=n;refine⟨o,ho,λname=>?_⟩;have e:=hm name;unfold nsFind ŧ at e;rw[<-vC] at e;unfold ĺ;rw[hd];dsimp only;split
 .rename_i y q
  rw[q] at e;exact jY À e
 .rename_i q
  rw[q] at e;have a:es.toList.any (·.refKey)=Â:=by
   rw[wR];intro y hy;obtain⟨z,t,Gp⟩:=hk y (Array.mem_toList_iff.mp hy);simp[DictEntry.refKey,Gp]
  have a':¬es.toList.any (·.refKey)=Ã:=by rw[a];exact zO
  rw[kY a'];exact jY À e
def ObjM.look{h:Ï}{x dx C:Ç}{mA:È->Option Ä}(I:ObjM h x dx C mA):∃od,PySem.W.InstAt h x (ĳ C dx) C (À od)/\∀name,ĺ name od=À (mA name):=
 let ⟨od,ho,hl⟩:=Jx I.ns
 ⟨od,⟨I.obj,rfl,rfl,ho⟩,hl⟩
section
variable{P:Í}{w:Ð}{H H':Hp}{h h':Ï}{a C dx:Ç}{fs DV:List (È×V)}
def Yq(hok:HOk P w H h)(e:H a=À (.ins C dx fs)):∃mA,ObjM h a dx C mA/\(∀f,RelO (fs.lookup f) (mA f))/\PySem.Within mA (fs.map (·.1))/\fs.length<=1000/\H dx=À (.own a):=by
 obtain⟨d,z,ne,ob,mA,n,r,q⟩:=(show ObjOk P w H h a (.ins C dx fs) from hok a _ e);exact⟨mA,⟨ob,n,ne⟩,r,q,z,d⟩
end
structure Cls(K:NT)(C:Ç):Prop where
 pg:PySem.W.plainGet K C Str.empty=Ã
 hd:PySem.W.hasDictIn K C=Ã
 po:PySem.W.plainOver K C=Ã
 sa:Ĉ K (.ref C) "__setattr__" = À (À (.builtin "object.__setattr__"))
def Cls.get{K:NT}{C:Ç}(c:Cls K C)(f:È):PySem.W.plainGet K C f=Ã:=c.pg
section
variable{X:Cx}{ag:List (Ç×æ)}{σ:St}{H:Hp}{s:Å}{A:Ò}{E:Ä->Å->Prop}{Q:Ä->Å->Prop}{c:Ä}{b:Bool}
inductive TyOf(K:NT)(H:Hp):V->Ä->Prop where
 | non:TyOf K H .non (.type "NoneType")
 | bl (x:Bool):TyOf K H (.bl x) (.type "bool")
 | int (i:Int):TyOf K H (.int i) (.type "int")
 | str (x:È):TyOf K H (.str x) (.type "str")
 | flt (x:UInt64):TyOf K H (.flt x) (.type "float")
 | lst {a:Ç} {xs:List V} (e:H a=À (.lst xs)):TyOf K H (.ref a) (.type "list")
 | frz {a:Ç} {o:æ} {xs:List V} (e:H a=À (.frz o (.lst xs))):TyOf K H (.ref a) (.type "list")
 | tup {a:Ç} {xs:List V} (e:H a=À (.tup xs)):TyOf K H (.ref a) (.type "tuple")
 | dK {a:Ç} {gy:List (Key×V)} (e:H a=À (.dK gy)):TyOf K H (.ref a) (.type "dict")
 | dT {a:Ç} {gy:List (List Key×V)} (e:H a=À (.dT gy)):TyOf K H (.ref a) (.type "dict")
 | ins {a C dx:Ç} {fs:List (È×V)} (e:H a=À (.ins C dx fs)) (cl:Cls K C) (ha:Ĉ K (.ref C) "__class__" = À (À (.builtin "object.__class__")))
   (hn:PySem.W.specialIn K (.builtin "object.__class__") "__get__" = À (À (.builtin "getset_descriptor.__get__"))) (Hr:PySem.W.takesIn K (.builtin "object.__class__")=À Ã)
   (hm:ŋ K C (.type "object")=À Ã):TyOf K H (.ref a) (.ref C)
def JB{x:V}{u t:Ä}(I:Inv X ag σ H s)(rx:RelV x u)(ty:TyOf X.K H x t)(e:ä X.K t c=À b)(h:∀tk,Q (.bool b) { s with toks:=tk }) :
  Ê (Ì X.prog X.w) A (call (.builtin "isinstance") [u,c]) Q E s:=by
 cases ty with
 | non=>cases (show u=î from rx);exact kE Ŝ I.kIn ê e (λz=>nomatch z) h
 | bl y=>cases (show u=Ī y from rx);exact kE ŝ I.kIn ê e (λz=>nomatch z) h
 | int i=>obtain⟨t,q⟩:=(show ∃t,u=ń i t from rx);cases q;exact kE PySem.W.kitx_int I.kIn ê e (λz=>nomatch z) h
 | str y=>obtain⟨t,q⟩:=(show ∃t,u=Ņ y t from rx);cases q;exact kE PySem.W.kitx_str I.kIn ê e (λz=>nomatch z) h
 | flt y=>obtain⟨t,q⟩:=(show ∃t,u=Value.float y t from rx);cases q;exact kE PySem.W.kitx_float I.kIn ê e (λz=>nomatch z) h
 | @lst a xs ea=>
  cases (show u=Ú a from rx);obtain⟨_,_,n,_,h1⟩:=(show ObjOk X.prog X.w H s.heap a (.lst xs) from I.hok a _ ea);exact kE vI I.kIn ⟨_,h1,rfl⟩ e (λz=>nomatch z) h
 | @frz a ob xs ea=>
  cases (show u=Ú a from rx);obtain⟨_,_,_,n,_,h1⟩:=(show ObjOk X.prog X.w H s.heap a (.frz ob (.lst xs)) from I.hok a _ ea);exact kE vI I.kIn ⟨_,h1,rfl⟩ e (λz=>nomatch z) h
 | @tup a xs ea=>
  cases (show u=Ú a from rx);obtain⟨_,_,_,p,_⟩:=(show ObjOk X.prog X.w H s.heap a (.tup xs) from I.hok a _ ea);obtain⟨o,h1,h2,_⟩:=p;exact kE xR I.kIn ⟨o,h1,h2⟩ e (λz=>nomatch z) h
 | @dK a gy ea=>
  cases (show u=Ú a from rx);obtain⟨_,_,vs,_,p⟩:=(show ObjOk X.prog X.w H s.heap a (.dK gy) from I.hok a _ ea);obtain⟨o,es,ep,h1,h2,_⟩:=p;exact kE wQ I.kIn ⟨o,h1,h2.1⟩ e (λz=>nomatch z) h
 | @dT a gy ea=>
  cases (show u=Ú a from rx);obtain⟨_,_,xs,_,o,es,ep,h1,h2,_⟩:=(show ObjOk X.prog X.w H s.heap a (.dT gy) from I.hok a _ ea);exact kE wQ I.kIn ⟨o,h1,h2.1⟩ e (λz=>nomatch z) h
 | @ins a C dx fs ea cl ha hn Hr hm=>
  cases (show u=Ú a from rx);obtain⟨mA,O,_⟩:=Yq I.hok ea;obtain⟨od,J,_⟩:=O.look;exact kE (PySem.W.kitx_own (cl.get _) cl.hd ha hn Hr hm) I.kIn J e (λz=>nomatch z) h
end
end L2
namespace L2
open PySem PySem.Spec PyProof.Rows
structure Room(k:Nat)(A:Ò):Prop where
 hd:A.handled=Á
 dp:A.depth+3*k+5<recursionLimit
 un:A.units+16*k+200<ö
theorem Room.deeper{k:Nat}{A:Ò}(r:Room (k+1) A)(env:Ŭ):Room k (A.deeper env):=
 ⟨r.hd,by have:=r.dp;show A.depth+1+3*k+5<_;omega,by have:=r.un;show A.units+3+16*k+200<_;omega⟩
theorem Room.depth{k:Nat}{A:Ò}(r:Room k A):A.depth<recursionLimit:=by have:=r.dp;omega
theorem Room.units{k:Nat}{A:Ò}(r:Room k A):A.units+64<ö:=by have:=r.un;omega
def Uw:TA:=λ_ H Q=>Q [] H
def B5(ta:TE)(tr:TA):TA:=λσ H Q=>ta σ H λx H1=>tr σ H1 λxs H2=>Q (x::xs) H2
section
variable{X:Cx}{e:Ë}{es:List Ë}{te:TE}{t:TA}{pos:õ}
def oD:PA X [] Uw:=λ_ _ _ _ H Q I h=>wg ⟨[],H,I,.nil,h⟩
def d7(ha:PE X e te)(hr:PA X es t)(hs:↥(É (e::es) X.env=(Â,eval e X.env)::É es X.env)):PA X (e::es) (B5 te t):=by
 intro pos ag s σ H Q I h;rw[hs];show Ê _ _ (ŭ ((Â,eval e X.env)::Ö pos (É es X.env))) _ _ s
 refine qT (kq (ha ag s σ H _ I h) ?_);rintro u s1 ⟨x,H1,I1,r1,q1⟩;exact kq (hr pos ag s1 σ H1 _ I1 q1) λus s2 Gq=>(by obtain⟨xs,H2,I2,r2,q2⟩:=Gq;exact⟨x::xs,H2,I2,.cons r1 r2,q2⟩)
def CL(t:TA):TE:=λσ H Q=>t σ H λxs H1=>xs.length<=sizeLine/\∀p,H1 p=Á->Q (.ref p) (upd H1 p (.tup xs))
def Cv(t:TA):TE:=λσ H Q=>t σ H λxs H1=>xs.length<=sizeLine/\∀p,H1 p=Á->Q (.ref p) (upd H1 p (.lst xs))
def Xn{x1}(h:PA X es t):PE X (.Tuple es x1 pos) (CL t):=by
 intro ag s σ H Q I hq;refine wpAny_Tuple_spliced (kq (h pos ag s σ H _ I hq) ?_);rintro us s1 ⟨xs,H1,I1,r,z,q⟩;refine⟨by rw[<-r.length];exact z,?_⟩;have hf:H1 s1.heap.objs.size=Á:=I1.hok.fresh (zF _);refine⟨.ref s1.heap.objs.size,upd H1 s1.heap.objs.size (.tup xs),I1.laid (t':=s1.toks) (λb u e=>zg _ e) (zF _) ?_,rfl,q _ hf⟩;exact⟨z,us,r,⟨_,zL _ rfl,rfl,_,rfl⟩,.new _ _⟩
def JL(h:PA X es t):PE X (.List es pos) (Cv t):=by
 intro ag s σ H Q I hq;refine wpAny_List_spliced (kq (h pos ag s σ H _ I hq) ?_);rintro us s1 ⟨xs,H1,I1,r,z,q⟩;refine⟨by rw[<-r.length];exact z,?_⟩;have hf:H1 s1.heap.objs.size=Á:=I1.hok.fresh (zF _);refine⟨.ref s1.heap.objs.size,upd H1 s1.heap.objs.size (.lst xs),I1.laid (t':=s1.toks) (λb u e=>zg _ e) (zF _) ?_,rfl,q _ hf⟩;exact⟨z,us,0,r,zL _ rfl⟩
end
abbrev Sp:=List V->Hp->VK->XK->Prop
abbrev dW:=List Ŭ->Hp->Å->XK->Ä->Å->Prop
structure Env0(P:Í)(w:Ð)(K:NT)(mg:È->Option Ä)(base:Ï)(A:Ò)(outer:List Ŭ)(s:Å)(H:Hp):Prop where
 frames:A.frames=À outer
 mod:Mod K mg base
 bs:∀b o,base.get? b=À o->s.heap.get? b=À o/\H b=Á
 bsz:base.objs.size<=s.heap.objs.size
 funs:s.heap.FunFrames base outer
 frf:∀b∈frs outer,H b=Á
 hok:HOk P w H s.heap
 bare:þ s.gens
def CE(outer:List Ŭ)(P:Í)(w:Ð)(H:Hp)(s:Å)(Q:VK)(u:Ä)(s':Å):Prop:=
 ∃v H',s'.os=s.os/\þ s'.gens/\Un (frs outer) [] H H' s.heap s'.heap/\HOk P w H' s'.heap/\RelV v u/\Q v H'
def CR(CX:dW)(outer:List Ŭ)(P:Í)(w:Ð)(H:Hp)(s:Å)(Q:VK)(E:XK)(r:Result)(s':Å):Prop:=
 match r with
 | .ok (.ret u)=>CE outer P w H s Q u s'
 | .ok _=>False
 | .error e=>CX outer H s E e s'
structure FnOk(P:Í)(w:Ð)(K:NT)(mg:È->Option Ä)(base:Ï)(CX:dW)(k:Nat)(f:Ç)(fd:å)(ps:List È)(sp:Sp):Prop where
 len:∀vs H Q E,sp vs H Q E->vs.length=ps.length
 run:∀(A:Ò) (outer:List Ŭ) (s:Å) (H:Hp) (args:Args) (us:List Ä) (vs:List V) (Q:VK) (E:XK),Room k A->Env0 P w K mg base A outer s H->ů s fd args (ps.zip us)->Vals vs us->sp vs H Q E->
  ĉ (Ì P w) A (.call (.ref f) args) (CR CX outer P w H s Q E) s
def FnOk.imp{P:Í}{w:Ð}{K:NT}{mg:È->Option Ä}{base:Ï}{CX:dW}{k:Nat}{f:Ç}{fd:å}{ps:List È}{sp Hs:Sp}(F:FnOk P w K mg base CX k f fd ps sp)
  (h:∀vs H Q E,Hs vs H Q E->sp vs H Q E):FnOk P w K mg base CX k f fd ps Hs:=
 ⟨λvs H Q E q=>F.len vs H Q E (h _ _ _ _ q),λA outer s H args us vs Q E hr he hb hv hs=>F.run A outer s H args us vs Q E hr he hb hv (h _ _ _ _ hs)⟩
section
variable{X:Cx}{ag:List (Ç×æ)}{σ:St}{H:Hp}{s s':Å}
def Inv.env0(I:Inv X ag σ H s):Env0 X.prog X.w X.K X.mg X.base X.A X.stack s H:=
 ⟨I.ok.frames,I.ok.mod,I.bs,zG I.ok.bsz I.sz,I.stack,I.stkFree,I.hok,I.bare⟩
def Inv.after{Q:VK}{u:Ä}(I:Inv X ag σ H s)(h:CE X.stack X.prog X.w H s Q u s'):EP X ag σ Q u s':=by
 obtain⟨v,H',os,bare,un,hok,r,q⟩:=h;obtain⟨hh,g,d,t,IY⟩:=s';obtain rfl:IY=s.os:=os;exact⟨v,H',I.call (h':=hh) (g':=g) (d':=d) (t':=t) (ch:=[]) un hok bare (λb z=>absurd z (by simp)),r,q⟩
end
def Vx(sp:Sp)(DO:List V)(E:XK)(t:TA):TE:=λσ H Q=>t σ H λvs H1=>sp (vs++DO) H1 Q E
def Binds(K:NT)(fd:å)(ps:List È)(ds:List Ä):Prop:=
 ∀(s:Å) (us:List Ä),K.In s.heap->(us++ds).length=ps.length->ů s fd ⟨us,[]⟩ (ps.zip (us++ds))
def Binds.all{K:NT}{fd:å}{ps:List È}(h:∀us:List Ä,us.length=ps.length->Ŷ fd ⟨us,[]⟩=pure (ps.zip us)):Binds K fd ps []:=λs us _ hl=>by
 rw[yz] at hl ⊢;exact .of_eq (h us hl)
def iP(CX:dW)(X:Cx)(E:XK):Prop:=∀(ag:List (Ç×æ)) (σ:St) (H:Hp) (s:Å) (e:Ä) (s':Å),Inv X ag σ H s->CX X.stack H s E e s'->X.xe e s'
section
variable{X:Cx}{CX:dW}{k:Nat}{f C:Ç}{fd:å}{ps:List È}{sp:Sp}{DO:List V}{ds:List Ä}{E:XK}{x m:È}{p pos apos:õ}{e o:Ë}{es:List Ë}{ta:TE}{t:TA}
def ZE{ag:List (Ç×æ)}{σ:St}{H:Hp}{s:Å}{Q:VK}{us:List Ä}{vs:List V}(F:FnOk X.prog X.w X.K X.mg X.base CX k f fd ps sp)(hr:Room k X.A)(hb:Binds X.K fd ps ds)(hd:Vals DO ds)(hx:iP CX X E)
  (I:Inv X ag σ H s) (r:Vals vs us) (h:sp (vs++DO) H Q E):Ê (Ì X.prog X.w) X.A (call (.ref f) us) (EP X ag σ Q) X.xe s:=by
 have r2:Vals (vs++DO) (us++ds):=r.append hd;have hl:(us++ds).length=ps.length:=by rw[<-r2.length];exact F.len _ _ _ _ h
 refine xN (yO (F.run X.A X.stack s H ⟨us,[]⟩ (us++ds) (vs++DO) Q E hr I.env0 (hb s us I.kIn hl) r2 h) λr s' hq=>?_);cases r with
 | error e=>exact hx ag σ H s e s' I hq
 | ok fl=>
  cases fl with
  | ret u=>exact I.after hq
  | next=>exact é hq
  | brk=>exact é hq
  | cont=>exact é hq
def Yt(F:FnOk X.prog X.w X.K X.mg X.base CX k f fd ps sp)(hr:Room k X.A)(hg:Gl X x)(hm:X.mg x=À (.ref f))(hk:Ü X.K (.ref f)=Ã)(hb:Binds X.K fd ps ds)(hd:Vals DO ds)(hx:iP CX X E)
  (ha:PA X (e::es) t) (Ak:⇑((x==("__debug__":È))=Â)) (he:↥(É (e::es) X.env=(Â,eval e X.env)::É es X.env)) (xa:↥((Ö pos (É es X.env)).any (·.1)=Â)) :
  PE X (.Call (.Name x p) (e::es) [] pos) (Vx sp DO E t):=by
 intro ag s σ H Q I h;refine jF (bp I hg hm ?_ Ak);refine xT (h₀:=X.base) I.ok.mod.kin hk (kq (ha pos ag s σ H _ I h) ?_) he xa;rintro us s1 ⟨vs,H1,I1,r,q⟩;refine⟨I1.kIn,?_⟩;exact ZE F hr hb hd hx I1 r q
def Vh(F:FnOk X.prog X.w X.K X.mg X.base CX k f fd ps sp)(hr:Room k X.A)(hg:Gl X x)(hm:X.mg x=À (.ref f))(hk:Ü X.K (.ref f)=Ã)(hb:Binds X.K fd ps ds)(hd:Vals DO ds)(hx:iP CX X E)
  (Ak:⇑((x==("__debug__":È))=Â)):PE X (.Call (.Name x p) [] [] pos) (Vx sp DO E Uw):=by
 intro ag s σ H Q I h;refine jF (bp I hg hm ?_ Ak);exact PySem.W.callWith_K0 I.kIn hk (ZE (us:=[]) F hr hb hd hx I .nil h)
end
section
variable{X:Cx}{CX:dW}{k:Nat}{f C:Ç}{fd:å}{ps ks:List È}{sp:Sp}{E:XK}{x m:È}{p pos apos IZ:õ}{e o:Ë}{es:List Ë}{Nk:List Ă}{te ta:TE}{t tk:TA}{nm:Option È}
variable{g:List Ä->List Ä->List Ä}{gV:List V->List V->List V}
end
structure FnScope(N P:List È)(sc:Þ):Prop where
 kind:sc.kind=.function
 co:sc.isCoroutine=Â
 gen:sc.isGenerator=Â
 nd:N.Nodup
 pre:N.take P.length=P
 par:∀x∈P,sc.names.lookup x=À .local\/sc.names.lookup x=À .cell
 nofree:∀y∈sc.names,y.2≠.free
theorem mr{kindOf:È->Option Đ}{x:È}:∀{binds:List (È×Ä)} {m:È->Option Ä},(∀v,(x,v)∉binds)->ŷ kindOf binds m x=m x
 | [],_,_=>rfl
 | (n,v)::r,m,h=>by
  unfold ŷ;rw[mr λw hw=>h w (zq _ hw)];split
  .have:x≠n:=by rintro rfl;exact h v zu
   simp[this]
  .rfl
theorem mC{kindOf:È->Option Đ}{x:È}:∀{binds:List (È×Ä)} {m:È->Option Ä},(∀v,(x,v)∉binds)->Ÿ kindOf binds m x=m x
 | [],_,_=>rfl
 | (n,v)::r,m,h=>by
  unfold Ÿ;rw[mC λw hw=>h w (zq _ hw)];split
  .rfl
  .have:x≠n:=by rintro rfl;exact h v zu
   simp[this]
theorem mO{kindOf:È->Option Đ}{x:È}{v:Ä}:∀{P:List È} {vs:List Ä} {i:Nat} {m:È->Option Ä},P.Nodup->P[i]?=À x->vs[i]?=À v->kindOf x=À .local->
  ŷ kindOf (P.zip vs) m x=À v
 | [],_,_,_,_,h,_,_=>by simp at h
 | _::_,[],_,_,_,_,h,_=>by simp at h
 | p::P,w::vs,0,m,nd,h1,h2,hk=>by
  simp at h1 h2;subst h1;subst h2;show ŷ kindOf ((p,w)::P.zip vs) m p=_
  unfold ŷ;rw[mr λv hv=>(jy.mp nd).1 (vY hv).1,zW hk];simp
 | p::P,w::vs,i+1,m,nd,h1,h2,hk=>by
  show ŷ kindOf ((p,w)::P.zip vs) m x=_
  unfold ŷ;exact mO (i:=i) (jy.mp nd).2 (by simpa using h1) (by simpa using h2) hk
theorem mL{kindOf:È->Option Đ}{x:È}{v:Ä}:∀{P:List È} {vs:List Ä} {i:Nat} {m:È->Option Ä},P.Nodup->P[i]?=À x->vs[i]?=À v->kindOf x≠À .local->
  Ÿ kindOf (P.zip vs) m x=À v
 | [],_,_,_,_,h,_,_=>by simp at h
 | _::_,[],_,_,_,_,h,_=>by simp at h
 | p::P,w::vs,0,m,nd,h1,h2,hk=>by
  simp at h1 h2;subst h1;subst h2;show Ÿ kindOf ((p,w)::P.zip vs) m p=_
  unfold Ÿ;rw[mC λv hv=>(jy.mp nd).1 (vY hv).1,kY hk];simp
 | p::P,w::vs,i+1,m,nd,h1,h2,hk=>by
  show Ÿ kindOf ((p,w)::P.zip vs) m x=_
  unfold Ÿ;exact mL (i:=i) (jy.mp nd).2 (by simpa using h1) (by simpa using h2) hk
def start(N:List È)(vs:List V):St:=vs.map À++Æ (N.length-vs.length) Á
def uj(CX:dW)(P:Í)(w:Ð)(K:NT)(mg:È->Option Ä)(base:Ï)(N:List È)(qual:È)(scope:Þ)(f:Ç)(cd:Ä)(A:Ò)(outer:List Ŭ)(s:Å)(H:Hp)(E:XK):Cx where
 prog:=P
 w:=w
 K:=K
 mg:=mg
 base:=base
 A:=A.deeper (û qual scope s.heap.objs.size f cd)
 N:=N
 s₀:=s
 H₀:=H
 env:=û qual scope s.heap.objs.size f cd
 outer:=outer
 stack:=û qual scope s.heap.objs.size f cd::outer
 ex:=[]
 calm:=Ã
 fn:=λ_=>Ã
 pn:=[]
 xe:=λe s'=>Ê (Ì P w) (A.deeper (û qual scope s.heap.objs.size f cd)) (leaving (û qual scope s.heap.objs.size f cd) e) (λ_ Fg=>CX outer H s E e Fg) (λe' Fg=>CX outer H s E e' Fg) s'
def pK{sc:Þ}{n:Nat}{x:È}(h:sc.names.lookup x=À .cell):∃c,(cellsFrom n sc.names []).lookup x=À c:=by
 have q:=yX sc.names n [] (.inl h);exact qH.mp q
def ZZ{CX:dW}{P:Í}{w:Ð}{K:NT}{mg:È->Option Ä}{base:Ï}{N ps:List È}{qual:È}{scope:Þ}{f:Ç}{cd:Ä}{A:Ò}{outer:List Ŭ}{s s1:Å}{H:Hp}{E:XK}{us:List Ä}{vs:List V}
  (S:FnScope N ps scope) (hd:A.handled=Á) (e0:Env0 P w K mg base A outer s H) (hl:vs.length=ps.length) (r:Vals vs us)
  (x:InCallC s s.heap.objs.size (ŷ (û qual scope s.heap.objs.size f cd).kindOf (ps.zip us) λ_=>Á) (cellsFrom (s.heap.objs.size+1) scope.names []) (Ÿ (û qual scope s.heap.objs.size f cd).kindOf (ps.zip us) λ_=>Á) s1) :
  Inv (uj CX P w K mg base N qual scope f cd A outer s H E) [] (start N vs) H s1:=by
 have xa:ps.length<=N.length:=by have:=jY List.length S.pre;rw[jW] at this;omega
 obtain⟨h1,tk,rfl,hk⟩:=x.done;have Fh:∀b:Ç,b∉(uj CX P w K mg base N qual scope f cd A outer s H E).ex:=λb z=>absurd (show b∈([]:List Ç) from z) (by simp)
 refine⟨⟨e0.mod,S.kind,rfl,rfl,zF _,λy z c h1 h2=>?_,λy hy=>?_,λy c _ h=>?_,λ_=>hd,Around.frames_deeper e0.frames,.inr ⟨rfl,rfl⟩,λb z=>absurd z (Fh b),e0.bs,e0.bsz,λb _ _=>Fh b,λb z=>absurd z (Fh b),e0.funs,e0.frf⟩,
  rfl,e0.bare,Un.kept hk,⟨_,x.toInCall.ns,λi y v h1 h2 h3=>?_⟩,λy c h=>⟨_,x.cell y c h⟩,e0.hok.fresh (zF _),λy c h=>?_,λp hp=>absurd (show p∈([]:List (Ç×æ)) from hp) (by simp),e0.hok.kept hk,?_⟩
 .exact name_of_addr x.apart (jT h1) (jT h2)
 .have hy:scope.names.lookup y=À .cell\/scope.names.lookup y=À .free:=hy
  rcases hy with hy | hy
  .exact pK hy
  .exact absurd rfl (S.nofree _ (jT hy))
 .exact wZ (x.above y c (jT h))
 .have hi:i<vs.length:=by
   unfold start at h2;by_cases hi:i<vs.length
   .exact hi
   .rw[kj (by simpa using hi)] at h2
    rw[jQ] at h2;split at h2<;>cases h2
  have ha:vs[i]?=À v:=by
   unfold start at h2;rw[zV (by simpa using hi),jr] at h2;cases e:vs[i]? with
   | none=>rw[e] at h2;cases h2
   | some a=>rw[e] at h2;cases h2;rfl
  obtain⟨u,hu,rv⟩:=r.get ha;have hp:ps[i]?=À y:=by
   rw[<-S.pre,List.getElem?_take_of_lt ∅];exact h1
  have Ht:ps.Nodup:=by rw[<-S.pre];exact S.nd.sublist (List.take_sublist _ _)
  refine⟨u,rv,?_⟩;rcases S.par y (qW hp) with k | k
  .exact .inl ⟨k,mO Ht hp hu k⟩
  .obtain⟨c,e⟩:=pK (n:=s.heap.objs.size+1) k
   refine .inr ⟨.inl k,c,e,?_⟩;have q:=x.cell y c e;rw[mL Ht hp hu (by show scope.names.lookup y≠_;rw[k];decide)] at q;exact q
 .exact e0.hok.fresh (wZ (x.above y c (jT h)))
 .unfold start
  show _=N.length
  rw[zK,jb,qp];omega
def Vs{CX:dW}{P:Í}{w:Ð}{K:NT}{mg:È->Option Ä}{base:Ï}{k:Nat}{f:Ç}{name qual:È}{params:Arguments}{body:List ì}{scope:Þ}{dV kV doc pm pf ct oc:Ä}{an od:Option Ç}
  {A9:Array (Option Ä)} {N ps:List È} {sp:Sp} (lk:K.lookup f=À ⟨oc,od,.func (ò name qual params body scope dV kV doc pm an pf ct),A9⟩) (AV:Ċ K pf qual=Ã) (S:FnScope N ps scope)
  (len:∀vs H Q E,sp vs H Q E->vs.length=ps.length)
  (Bz:∀(A:Ò) (outer:List Ŭ) (s:Å) (H:Hp) (vs:List V) (Q:VK) (E:XK),Room k (A.deeper (û qual scope s.heap.objs.size f pf))->sp vs H Q E->
   ∃t,PSs (uj CX P w K mg base N qual scope f pf A outer s H E) body t/\t { nx:=λ_ H'=>Q .non H',rt:=Q } (start N vs) H) :
  FnOk P w K mg base CX (k+1) f (ò name qual params body scope dV kV doc pm an pf ct) ps sp:=by
 refine⟨len,λA outer s H args us vs Q E hr e0 hb r AW=>?_⟩;have hl:=len _ _ _ _ AW;have KX:K.In s.heap:=e0.mod.kin.keeps λb o e=>(e0.bs b o e).1
 have lim:s.heap.NoLimit:=e0.mod.nolimit.keeps λb o e=>(e0.bs b o e).1
 have Fj:∀y∈ps.zip us,scope.names.lookup y.1=À .local\/(scope.names.lookup y.1=À .cell/\((cellsFrom (s.heap.objs.size+1) scope.names []).lookup y.1).isSome=Ã):=λ⟨n,v⟩ hy=>by
  rcases S.par n (vY hy).1 with q | q
  .exact .inl q
  .exact .inr ⟨q,yX _ _ _ (.inl q)⟩
 refine codeAny_call_function hr.depth (KX _ _ lk) rfl S.co S.gen rfl (PySem.W.codeRec_of KX AV) (hb _ _ _ _ ?_);refine wpAny_newFunctionEnv_cells S.kind Fj λenv he s1 x=>?_
 subst he;refine⟨lim.keeps x.toInCall.keep,codeAny_func ?_⟩;obtain⟨t,ht,hq⟩:=Bz A outer s H vs Q E (hr.deeper _) AW;have I:Inv (uj CX P w K mg base N qual scope f pf A outer s H E) [] (start N vs) H s1:=ZZ S hr.hd e0 hl r x;refine jK (ht [] s1 (start N vs) H _ I hq) (λfl s' hs=>?_) λe s' hs=>hs
 have fin:∀{hY:St} {H':Hp} {v:V} {u:Ä},Inv (uj CX P w K mg base N qual scope f pf A outer s H E) [] hY H' s'->RelV v u->Q v H'->CE outer P w H s Q u s':=
  λ{hY H' v u} J rv q=>⟨v,H',J.os,J.bare,J.base,J.hok,rv,q⟩
 cases fl with
 | ret u=>
  obtain⟨v,hY,H',J,rv,q⟩:=hs;exact fin J rv q
 | next=>
  obtain⟨hY,H',J,q⟩:=hs;exact fin (v:=V.non) (u:=î) J rfl q
 | brk=>
  obtain⟨_,_,_,q⟩:=hs;exact é q
 | cont=>
  obtain⟨_,_,_,q⟩:=hs;exact é q
end L2
namespace L2
open PySem PySem.Spec PyProof.Rows
section
variable{X:Cx}{x:È}{p pos:õ}{e:Ë}{es:List Ë}{t:TA}{id T:String}{r:List V->Hp->VK->Prop}
def Cr(r:List V->Hp->VK->Prop)(t:TA):TE:=λσ H Q=>t σ H λvs H1=>r vs H1 Q
def hV(hc:qV X (.builtin id) r)(hg:Gl X x)(hm:X.mg x=Á)(hv:Ñ x=À (.builtin id))(ha:PA X (e::es) t)(hn:⇑(x≠"__name__"))(Ak:⇑((x==("__debug__":È))=Â))
  (he:↥(É (e::es) X.env=(Â,eval e X.env)::É es X.env)) (xa:↥((Ö pos (É es X.env)).any (·.1)=Â)):PE X (.Call (.Name x p) (e::es) [] pos) (Cr r t):=by
 intro ag s σ H Q I h;refine jF (u7 I hg hm hv ?_ hn Ak);exact PyProof.Rows.callWith_builtin1 (kq (ha pos ag s σ H _ I h) λus s1 I0=>(by obtain⟨vs,H1,I1,r1,q1⟩:=I0;exact hc ag s1 σ H1 vs us Q I1 r1 q1)) he xa
def Jn(hc:qV X (.type T) r)(hg:Gl X x)(hm:X.mg x=Á)(hv:Ñ x=À (.type T))(ha:PA X (e::es) t)(hn:⇑(x≠"__name__"))(Ak:⇑((x==("__debug__":È))=Â))
  (he:↥(É (e::es) X.env=(Â,eval e X.env)::É es X.env)) (xa:↥((Ö pos (É es X.env)).any (·.1)=Â)):PE X (.Call (.Name x p) (e::es) [] pos) (Cr r t):=by
 intro ag s σ H Q I h;refine jF (u7 I hg hm hv ?_ hn Ak);exact jC (kq (ha pos ag s σ H _ I h) λus s1 KM=>(by obtain⟨vs,H1,I1,r1,q1⟩:=KM;exact hc ag s1 σ H1 vs us Q I1 r1 q1)) he xa
end
end L2
namespace HT
open PySem PyProof.Rows
section
open PySem.SeqAt
open PySem.AutoSeq1 (wpAny_loadPart')
open PySem.MeetsSeq PySem.MeetsSeq2 PySem.MeetsSeq3
end
section
variable{prog:Í}{w:Ð}{A:Ò}{E:Ä->Å->Prop}{s:Å}
def cat_tup{t b:Ç}{vs ws:List Ä}{Q:Ä->Å->Prop}(ht:Ĳ s.heap t vs.toArray)(hb:Ĳ s.heap b ws.toArray)(hv:vs≠[])
  (h1:ws=[]->Q (.ref t) s) (h2:ws≠[]->Q (.ref s.heap.objs.size) { s with heap:=s.heap.push { cls:=.type "tuple",data:=.seq (vs++ws).toArray } })
  (hsz:vs.length+ws.length<=sizeLine):Ê (Ì prog w) A (Ù .Add (.ref t) (.ref b)) Q E s:=by
 obtain⟨⟨cls,dd,data,sl⟩,ho,hc,n,hd⟩:=id ht;obtain⟨⟨Fk,A2,data2,AO⟩,AH,DP,n2,hd2⟩:=id hb;simp only at hc hd DP hd2;subst hc hd DP hd2;have e:vs.toArray++ws.toArray=(vs++ws).toArray:=by simp
 by_cases hw:ws=[]
 .exact yN ⟨_,ho,rfl⟩ ⟨_,AH,rfl⟩ yR Ō vV vM (vJ _ _)
   (tuple_addW1 t b vs.toArray ws.toArray n n2 dd A2 sl AO (by simpa using hv) (by simp[hw])) ⟨ho,AH,h1 hw⟩
 .refine yN ⟨_,ho,rfl⟩ ⟨_,AH,rfl⟩ yR Ō vV vM (vJ _ _)
   (tuple_addW2 t b vs.toArray ws.toArray n n2 dd A2 sl AO (by simpa using hv) (by simpa using hw) (by rw[zH,zH];exact hsz)) ⟨ho,AH,?_⟩
  rw[e];exact h2 hw
def sIx(n d:Nat):Option Int->Nat
 | none=>d
 | some v=>if v<0 then (v+(n:Int)).toNat else min v.toNat n
def XY(n d:Nat)(hd:d<=n)(o:Option Int):sIx n d o<=n:=by
 cases o with
 | none=>exact hd
 | some v=>
  show(if v<0 then (v+(n:Int)).toNat else min v.toNat n)<=n
  by_cases hv:v<0
  .rw[zW hv];omega
  .rw[kY hv];exact Nat.min_le_right _ _
def rO(v:Int)(n d:Nat):(if v<0 then max (v+(n:Int)) 0 else min v (n:Int))=((sIx n d (À v):Nat):Int):=by
 show(if v<0 then max (v+(n:Int)) 0 else min v (n:Int))=(((if v<0 then (v+(n:Int)).toNat else min v.toNat n):Nat):Int)
 by_cases hv:v<0
 .erw[zW hv];omega
 .erw[kY hv];omega
def sT(lo hi:Option Int)(n:Nat):Ā lo hi 1 (n:Int)=(((sIx n 0 lo:Nat):Int),((sIx n n hi:Nat):Int)):=by
 have h1:¬((1:Int)<0):=by omega
 unfold Ā;erw[h1,vA];refine Prod.ext ?_ ?_
 .cases lo with
  | none=>rfl
  | some v=>exact rO v n 0
 .cases hi with
  | none=>rfl
  | some v=>exact rO v n n
def sN(i j:Nat):ð (i:Int) (j:Int) 1=j-i:=by
 unfold ð;have h1:(1:Int)>0:=by omega
 erw[h1,jn,Int.ediv_one];split<;>omega
def iB{v:Ä}{o:Option Int}{Q:Option Int->Å->Prop}(p:Ę v o)(h:Q o s):Ê (Ì prog w) A (Builtin.Slice.slicePartIndex v) Q E s:=by
 cases p with
 | none=>exact slicePart_none h
 | int i t=>exact slicePart_int h
def cv{sl:Ç}{vl vu:Ä}{lo hi:Option Int}{n:Nat}{Q:Int×Int×Nat->Å->Prop}(hs:s.heap.IsSliceOf sl vl vu .none)(pl:Ę vl lo)(pu:Ę vu hi)
  (h:Q (((sIx n 0 lo:Nat):Int),1,sIx n n hi-sIx n 0 lo) s):Ê (Ì prog w) A (ę (.ref sl) (pure (n:Int))) Q E s:=by
 obtain⟨os,DW,AB,Fm⟩:=id hs;unfold ę Builtin.Slice.sliceFields;refine za (za (jD DW Fm (x:=vl) rfl (za (jD DW Fm (x:=vu) rfl (za (jD DW Fm (x:=.none) rfl (zy ?_)))))));refine za (slicePart_none ?_);show Ê _ _ (if ((1:Int)==0)=Ã then _ else _) _ _ s
 rw[kY (by decide)];refine za (iB pl (za (iB pu (za (zy ?_)))));show Ê _ _ (match Ā lo hi 1 (n:Int) with | (lo,hi)=>pure (lo,(1:Int),ð lo hi 1)) _ _ s
 rw[sT lo hi n];show Ê _ _ (pure (((sIx n 0 lo:Nat):Int),(1:Int),ð ((sIx n 0 lo:Nat):Int) ((sIx n n hi:Nat):Int) 1)) _ _ s
 rw[sN];exact zy h
def QH(xs:Array Ä)(i k:Nat):((Ė k).filterMap λ(m:Nat)=>xs[((i:Int)+(m:Int)*1).toNat]?).toArray=((xs.toList.drop i).take k).toArray:=by
 have e:(λ(m:Nat)=>xs[((i:Int)+(m:Int)*1).toNat]?)=λm=>xs[i+m]?:=by
  funext m
  have:((i:Int)+(m:Int)*1).toNat=i+m:=by omega
  rw[this]
 rw[e];have:=pick_run xs i k;rw[List.filterMap_map] at this;have e2:((λx=>xs[x]?)∘λx=>i+x)=λm=>xs[i+m]?:=rfl
 rw[e2] at this;rw[this]
def getItem_tuple_cut{t sl:Ç}{items:Array Ä}{vl vu:Ä}{lo hi:Option Int}{Q:Ä->Å->Prop}(ht:Ĳ s.heap t items)(hs:s.heap.IsSliceOf sl vl vu .none)(pl:Ę vl lo)(pu:Ę vu hi)
  (hw:¬(sIx items.size 0 lo=0/\sIx items.size items.size hi=items.size))
  (h:Q (.ref s.heap.objs.size) { s with heap:=s.heap.push { cls:=.type "tuple",data:=.seq ((items.toList.drop (sIx items.size 0 lo)).take (sIx items.size items.size hi-sIx items.size 0 lo)).toArray } })
  (hsz:items.size<=sizeLine):Ê (Ì prog w) A (Ĭ (.ref t) (.ref sl)) Q E s:=by
 have AX:sizeOk (.seq ((items.toList.drop (sIx items.size 0 lo)).take (sIx items.size items.size hi-sIx items.size 0 lo)).toArray):=by
  show((items.toList.drop (sIx items.size 0 lo)).take (sIx items.size items.size hi-sIx items.size 0 lo)).toArray.size<=sizeLine
  rw[zH,jW,jX,vm];omega
 have hj:sIx items.size items.size hi<=items.size:=XY _ _ (zF _) hi;obtain⟨os,DW,AB,Fm⟩:=id hs;have Gr:s.TypeIs (.ref sl) "slice":=⟨os,DW,AB⟩;unfold Ĭ;try with_reducible refine jf ?_
 first | refine za (zy ?_) | skip
 refine za (Ş ht.typeIs (by decide) ?_)
 refine za (jE (name:=ÿ "__getitem__") ht.typeIs ju
  (j5 ju ht.typeIs ŉ ?_ (Ő _ _)))
 show Ê _ _ (Ě (.ref t) >>= _) _ _ s
 refine za (wW ht ?_);refine za (qC Gr ?_);rw[zW (by decide)];refine za (cv hs pl pu ?_);have Gs:¬((((sIx items.size 0 lo:Nat):Int)==0&&(1:Int)==1&&(sIx items.size items.size hi-sIx items.size 0 lo)==items.size)=Ã):=by
  intro q;rw[zb,zb] at q;have q1:((sIx items.size 0 lo:Nat):Int)=0:=eq_of_beq q.1.1;have q2:sIx items.size items.size hi-sIx items.size 0 lo=items.size:=eq_of_beq q.2;exact hw ⟨by omega,by omega⟩
 show Ê _ _ (if (((sIx items.size 0 lo:Nat):Int)==0&&(1:Int)==1&&(sIx items.size items.size hi-sIx items.size 0 lo)==items.size)=Ã then _ else _) _ _ s
 rw[kY Gs,QH];first
  | exact za (m:=à _) (jx (zy ⟨_,rfl,zy h⟩) AX)
  | exact za (m:=à _) (jx (za (zy (zy ⟨_,rfl,zy h⟩))) AX)
  | exact za (za (m:=à _) (jx (zy (zy ⟨_,rfl,zy h⟩)) AX))
  | exact za (za (m:=à _) (jx (zy ⟨_,rfl,zy h⟩) AX))
end
end HT
namespace L2
open PySem PySem.Spec PyProof.Rows
abbrev TO:=St->Hp->(Option Int->Hp->Prop)->Prop
def PO(X:Cx)(e:Option Ë)(t:TO):Prop:=
 ∀(ag:List (Ç×æ)) (s:Å) (σ:St) (H:Hp) (Q:Option Int->Hp->Prop),Inv X ag σ H s->t σ H Q->
  Ê (Ì X.prog X.w) X.A (evalPart e X.env) (λu s'=>∃o H',Inv X ag σ H' s'/\Ę u o/\Q o H') X.xe s
def Yr:TO:=λ_ H Q=>Q Á H
def Cg(t:TE):TO:=λσ H Q=>t σ H λx H1=>∃i,x=.int i/\Q (À i) H1
section
variable{X:Cx}{e:Ë}{te:TE}{lo hi:Option Ë}{tl th:TO}{pos p2:õ}
def Ye:PO X Á Yr:=by
 intro ag s σ H Q I h;rw[evalPart_none];exact zy ⟨Á,H,I,.none,h⟩
def Yu(h:PE X e te):PO X (À e) (Cg te):=by
 intro ag s σ H Q I hw;rw[evalPart_some];refine kq (h ag s σ H _ I hw) ?_;rintro u s1 ⟨x,H1,I1,r1,q1⟩;obtain⟨i,rfl,q⟩:=q1;obtain⟨t,rfl⟩:=r1;exact⟨À i,H1,I1,.int i t,q⟩
def Kl(X:Cx)(r:V->Option Int->Option Int->Hp->VK->Prop):Prop:=
 ∀(ag:List (Ç×æ)) (s:Å) (σ:St) (H:Hp) (x:V) (v vl vu:Ä) (lo hi:Option Int) (sl:Ç) (Q:VK),Inv X ag σ H s->RelV x v->s.heap.IsSliceOf sl vl vu .none->Ę vl lo->Ę vu hi->r x lo hi H Q->
  ∃T id,Č (.type T) "__getitem__" = pure (À (.builtin id))/\s.TypeIs v T/\Ê (Ì X.prog X.w) X.A (Ĭ v (.ref sl)) (EP X ag σ Q) X.xe s
def Ds(r:V->Option Int->Option Int->Hp->VK->Prop)(te:TE)(tl th:TO):TE:=λσ H Q=>te σ H λx H1=>tl σ H1 λl H2=>th σ H2 λu H3=>r x l u H3 Q
def pM{r:V->Option Int->Option Int->Hp->VK->Prop}(hr:Kl X r)(he:PE X e te)(hl:PO X lo tl)(hu:PO X hi th):PE X (.Subscript e (.Slice lo hi Á p2) pos) (Ds r te tl th):=by
 intro ag s σ H Q I h;refine Subscript_ (kq (he ag s σ H _ I h) ?_);rintro v s1 ⟨x,H1,I1,r1,q1⟩;refine wpAny_Slice (kq (hl ag s1 σ H1 _ I1 q1) ?_);rintro vl s2 ⟨l,H2,I2,pl,q2⟩;refine kq (hu ag s2 σ H2 _ I2 q2) ?_;rintro vu s3 ⟨u,H3,I3,pu,q3⟩;rw[evalPart_none];refine zy ?_;have I4:Inv X ag σ H3 { s3 with heap:=s3.heap.push { cls:=.type "slice",data:=.fields #[vl,vu,.none] } }:=I3.kept (t':=s3.toks) λb ob q=>zg _ q
 obtain⟨T,id,hT,ht,hg⟩:=hr ag { s3 with heap:=s3.heap.push { cls:=.type "slice",data:=.fields #[vl,vu,.none] } } σ H3 x v vl vu l u s3.heap.objs.size Q I4 r1 (Heap.IsSliceOf.new ..) pl pu q3;show Ê (Ì X.prog X.w) X.A (subscriptTail e (.Slice lo hi Á p2) v (.ref s3.heap.objs.size)) (EP X ag σ Q) X.xe { s3 with heap:=s3.heap.push { cls:=.type "slice",data:=.fields #[vl,vu,.none] } }
 exact tail_any (ops:=[.ref s3.heap.objs.size,v]) ht hT hg (by with_unfolding_all rfl)
def bX(xs:List V)(lo hi:Option Int):List V:=(xs.drop (HT.sIx xs.length 0 lo)).take (HT.sIx xs.length xs.length hi-HT.sIx xs.length 0 lo)
def gF(xs:List V)(lo hi:Option Int):(bX xs lo hi).length<=xs.length:=by
 unfold bX;rw[jW,jX];omega
def CI(K:NT):V->Option Int->Option Int->Hp->VK->Prop:=λx lo hi H Q=>∃a xs,x=.ref a/\SqT K H a xs /\
 ¬(HT.sIx xs.length 0 lo=0/\HT.sIx xs.length xs.length hi=xs.length)/\∀p,H p=Á->Q (.ref p) (upd H p (.tup (bX xs lo hi)))
def UO:Kl X (CI X.K):=by
 intro ag s σ H x v vl vu lo hi sl Q I rx hs pl pu h;obtain⟨a,xs,rfl,hx,hw,q⟩:=h;cases rx;obtain⟨cb,r,ht,hz⟩:=I.tuple hx;have lx:cb.toArray.size=xs.length:=by rw[zH];exact r.length.symm
 refine⟨"tuple",_,ju.lookup,ht.typeIs,?_⟩;refine HT.getItem_tuple_cut ht hs pl pu (by rw[lx];exact hw) ?_ (by rw[lx];exact hz);rw[lx];refine⟨.ref s.heap.objs.size,_,I.laid (t':=s.toks) (o:=.tup (bX xs lo hi)) (λb ob q=>zg _ q) (zF _) ?_,rfl,q _ (I.hok.fresh (zF _))⟩;exact⟨zG (gF xs lo hi) hz,_,(r.drop (HT.sIx xs.length 0 lo)).take (HT.sIx xs.length xs.length hi-HT.sIx xs.length 0 lo),IsTup.new _ _,.new _ _⟩
def BY(K:NT):R2:=λx y H Q=>∃a b xs ys,x=.ref a/\y=.ref b/\SqT K H a xs/\SqT K H b ys/\xs≠[]/\xs.length+ys.length<=sizeLine /\
 (ys=[]->Q (.ref a) H)/\(ys≠[]->∀p,H p=Á->Q (.ref p) (upd H p (.tup (xs++ys))))
def Vals.nil_iff{xs:List V}{us:List Ä}(r:Vals xs us):us=[]↔xs=[]:=by
 cases r with
 | nil=>simp
 | cons _ _=>simp
def Yy:kS X (Ù .Add) (BY X.K):=by
 intro ag s σ H x y v u Q I rx ry h;obtain⟨a,b,xs,ys,rfl,rfl,ha,hb,hx,hz,q1,q2⟩:=h;cases rx;cases ry;obtain⟨cb,r1,p1,_⟩:=I.tuple ha;obtain⟨Al,r2,p2,_⟩:=I.tuple hb;refine HT.cat_tup p1 p2 (λz=>hx (r1.nil_iff.mp z)) (λz=>⟨.ref a,H,I,rfl,q1 (r2.nil_iff.mp z)⟩) (λz=>?_) (by rw[<-r1.length,<-r2.length];exact hz);refine⟨.ref s.heap.objs.size,_,I.laid (t':=s.toks) (o:=.tup (xs++ys)) (λb ob q=>zg _ q) (zF _) ?_,rfl,q2 (λw=>z (r2.nil_iff.mpr w)) _ (I.hok.fresh (zF _))⟩;exact⟨by rw[zK];exact hz,_,r1.append r2,IsTup.new _ _,.new _ _⟩
end
end L2
namespace L2
open PySem PySem.Spec PyProof.Rows
def wm(n:Nat)(i:Int):Option Nat:=if 0<=i then (if i<n then À i.toNat else Á) else if -(n:Int)<=i then À (i+n).toNat else Á
def atI{α:Type}(xs:List α)(i:Int):Option α:=(wm xs.length i).bind λj=>xs[j]?
def sd{n:Nat}{i:Int}{j:Nat}(h:wm n i=À j):seqIndex? i n=À j/\j<n/\-(n:Int)<=i/\i<n:=by
 unfold wm at h;by_cases h0:0<=i
 .rw[zW h0] at h
  by_cases h1:i<n
  .rw[zW h1] at h
   have e:i.toNat=j:=zP h;exact⟨by rw[ũ h0 h1,e],by omega,by omega,h1⟩
  .rw[kY h1] at h;cases h
 .rw[kY h0] at h
  by_cases h1:-(n:Int)<=i
  .rw[zW h1] at h
   have e:(i+n).toNat=j:=zP h;exact⟨by rw[ş ∅ h1,e],by omega,h1,by omega⟩
  .rw[kY h1] at h;cases h
def lK{α:Type}{xs:List α}{i:Int}{v:α}(h:atI xs i=À v):∃j,seqIndex? i xs.length=À j/\xs[j]?=À v/\j<xs.length/\-(xs.length:Int)<=i/\i<xs.length:=by
 unfold atI at h;cases e:wm xs.length i with
 | none=>rw[e] at h;cases h
 | some j=>
  rw[e] at h;obtain⟨h1,h2,h3,h4⟩:=sd e;exact⟨j,h1,h,h2,h3,h4⟩
def ii{α:Type}(xs:List α)(v:α):atI (xs++[v]) (-1)=À v:=by
 have hl:(xs++[v]).length=xs.length+1:=by simp
 have e:wm (xs++[v]).length (-1)=À xs.length:=by
  unfold wm;rw[hl,kY (by decide),zW ∅];congr 1
  omega
 unfold atI;rw[e];show(xs++[v])[xs.length]?=À v
 simp
def d0(b:Ë):Prop:=∀o i,subscripted b Â o i=operate [o,i] (Ĭ o i)
def rK(X:Cx)(r:R2):Prop:=
 ∀(value slice:Ë) (ag:List (Ç×æ)) (s:Å) (σ:St) (H:Hp) (x y:V) (v u:Ä) (Q:VK),Inv X ag σ H s->RelV x v->RelV y u->r x y H Q->
  subscripted slice Â v u=operate [v,u] (Ĭ v u)->Ê (Ì X.prog X.w) X.A (subscriptTail value slice v u) (EP X ag σ Q) X.xe s
def Ct(X:Cx)(id:String)(r:V->List V->Hp->VK->Prop):Prop:=
 ∀(ag:List (Ç×æ)) (s:Å) (σ:St) (H:Hp) (x:V) (xs:List V) (v:Ä) (us:List Ä) (Q:VK),Inv X ag σ H s->RelV x v->Vals xs us->r x xs H Q->
  Ê (Ì X.prog X.w) X.A (call (.builtin id) (v::us)) (EP X ag σ Q) X.xe s
section
variable{X:Cx}{a b:Ë}{ta tb:TE}{pos:õ}
def Vw{r:R2}(hr:rK X r)(ha:PE X a ta)(hb:PE X b tb)(hs:d0 b):PE X (.Subscript a b pos) (Z8 r ta tb):=by
 intro ag s σ H Q I h;exact Subscript_ (Qx ha hb I h λv u s2 x y H2 I2 rx ry q=>hr a b ag s2 σ H2 x y v u Q I2 rx ry q (hs _ _))
def CV(K:NT):R2:=λx y H Q=>∃p xs i v,x=.ref p/\y=.int i/\SqL K H p xs/\atI xs i=À v/\Q v H
def CF(K:NT):R2:=λx y H Q=>∃p xs i v,x=.ref p/\y=.int i/\SqT K H p xs/\atI xs i=À v/\Q v H
def CQ:R2:=λx y H Q=>∃z i c,x=.str z/\y=.int i/\z.length<=sizeLine/\atI z.cps.toList i=À c/\Q (.str ⟨#[c]⟩) H
def WO:rK X (CV X.K):=by
 intro value slice ag s σ H x y v u Q I rx ry h hs;obtain⟨p,xs,i,z,rfl,rfl,hq,he,q⟩:=h;cases rx;obtain⟨t,rfl⟩:=ry;obtain⟨cb,r,pl,hz⟩:=I.list hq;obtain⟨j,h1,h2,h3,h4,h5⟩:=lK he;obtain⟨w,ew,Fn⟩:=r.get h2;have hl:=r.length;have hn:=dX;have fin:EP X ag σ Q w s:=⟨z,H,I,Fn,q⟩;by_cases h0:0<=i
 .have hj:i.toNat=j:=by
   rw[ũ h0 h5] at h1;exact zP h1
  exact item_listR pl.isList h0 ∅ (by rw[hj];simpa using ew) fin hs
 .have hj:(i+(cb.toArray.size:Int)).toNat=j:=by
   rw[ş ∅ h4] at h1;rw[zH,<-hl];exact zP h1
  exact ĭ (x:=w) pl.isList.typeIs slot_list_getitem.lookup
   (wpAny_getItem_list_neg (Q:=λr s'=>r=w/\EP X ag σ Q r s') pl.isList ∅ (by rw[zH]<;>omega) ∅ (by rw[hj];simpa using ew) ⟨rfl,fin⟩) hs
def oE:rK X (CF X.K):=by
 intro value slice ag s σ H x y v u Q I rx ry h hs;obtain⟨p,xs,i,z,rfl,rfl,hq,he,q⟩:=h;cases rx;obtain⟨t,rfl⟩:=ry;obtain⟨cb,r,pl,hz⟩:=I.tuple hq;obtain⟨j,h1,h2,h3,h4,h5⟩:=lK he;obtain⟨w,ew,Fn⟩:=r.get h2;have hl:=r.length;have hn:=dX;have fin:EP X ag σ Q w s:=⟨z,H,I,Fn,q⟩;exact ĭ (x:=w) pl.typeIs slot_tuple_getitem.lookup
  (getItem_tuple (j:=j) (Q:=λr s'=>r=w/\EP X ag σ Q r s') pl ∅ ∅ (by rw[zH,<-hl];exact h1) (by simpa using ew) ⟨rfl,fin⟩) hs
def Uq:rK X CQ:=by
 intro value slice ag s σ H x y v u Q I rx ry h hs;obtain⟨z,i,c,rfl,rfl,hz,he,q⟩:=h;obtain⟨t,rfl⟩:=rx;obtain⟨t',rfl⟩:=ry;obtain⟨j,h1,h2,h3,h4,h5⟩:=lK he;have hl:z.cps.toList.length=z.length:=by simp[Str.length]
 rw[hl] at h1 h4 h5;have hn:=dX
 exact tail_any (vW s z t) slot_str_getitem.lookup (getItem_str (c:=c) (by
  have e1:decide (i < -(2 ^ 63:Int))=Â:=jR ∅;have e2:decide (i>=2 ^ 63)=Â:=jR ∅
  rw[e1,e2,qO]) (by rw[h1];simpa using h2) ⟨.str ⟨#[c]⟩,H,I.tok _,⟨_,rfl⟩,q⟩) hs
def sS(cb:List Ä)(n j:Nat)(u:Ä):ï (·.setIfInBounds j u) { cls:=.type "list",data:=.seq cb.toArray n }={ cls:=.type "list",data:=.seq (cb.set j u).toArray n }:=by
 simp[ï]
theorem Inv.lst{ag:List (Ç×æ)}{σ:St}{H:Hp}{s:Å}{p:Ç}{xs:List V}(I:Inv X ag σ H s)(h:H p=À (.lst xs)) :
  ∃(cb:List Ä) (n:Nat),Vals xs cb/\s.heap.get? p=À { cls:=.type "list",data:=.seq cb.toArray n }/\xs.length<=sizeLine:=by
 obtain⟨z,cb,n,r,e⟩:=I.hok p _ h;exact⟨cb,n,r,e,z⟩
def Inv.lstUpd{ag:List (Ç×æ)}{σ:St}{H:Hp}{s:Å}{p:Ç}{xs ys:List V}{cb its':List Ä}{n n':Nat}{f:æ->æ}(I:Inv X ag σ H s)(h:H p=À (.lst xs))
  (ho:s.heap.get? p=À { cls:=.type "list",data:=.seq cb.toArray n }) (hf:f { cls:=.type "list",data:=.seq cb.toArray n }={ cls:=.type "list",data:=.seq its'.toArray n' }) (r:Vals ys its') (hz:ys.length<=sizeLine) (t:Nat) :
  Inv X ag σ (upd H p (.lst ys)) { s with heap:=s.heap.update p f,toks:=t }:=by
 have e:(s.heap.update p f).get? p=À { cls:=.type "list",data:=.seq its'.toArray n' }:=by
  rw[j9 f ho (by rw[hf]<;>rfl),hf]
 refine I.write (x:=p) (e:=p) (by rw[h];trivial) (.inl rfl) (λb u hb q=>(qy _ _ (kZ hb)).trans q) ⟨_,e⟩ ?_;exact⟨hz,its',n',r,e⟩
def BN:V->V->V->Hp->(Hp->Prop)->Prop:=λo i v H Q=>∃p xs k j,o=.ref p/\i=.int k/\H p=À (.lst xs)/\wm xs.length k=À j/\Q (upd H p (.lst (xs.set j v)))
def set_list:Vb X BN:=by
 intro ag s σ H o i v ov iv u Q I ro ri rv h;obtain⟨p,xs,k,j,rfl,rfl,hp,hj,q⟩:=h;cases ro;obtain⟨t,rfl⟩:=ri;obtain⟨cb,n,r,ho,hz⟩:=I.lst hp;obtain⟨h1,h2,h3,h4⟩:=sd hj;have hl:=r.length;have hn:=dX;have I':Inv X ag σ (upd H p (.lst (xs.set j v))) { s with heap:=s.heap.update p (ï (·.setIfInBounds j u)) }:=
  I.lstUpd hp ho (sS cb n j u) (r.set rv j) (by rw[v7];exact hz) s.toks
 by_cases h0:0<=k
 .have hk:k.toNat=j:=by
   rw[ũ h0 h4] at h1;exact zP h1
  exact PySem.W.ki_setAt ho h0 ∅ (by rw[zH,<-hl];exact h4) (by rw[hk];exact⟨_,I',q⟩)
 .have hk:(k+(cb.toArray.size:Int)).toNat=j:=by
   rw[ş ∅ h3] at h1;rw[zH,<-hl];exact zP h1
  exact PySem.W.ki_setBack ho ∅ (by rw[zH,<-hl];exact h3) ∅ (by rw[hk];exact⟨_,I',q⟩)
def nJ(lo hi:Option Int)(n:Nat):(ą lo hi Á n).1=((HT.sIx n 0 lo:Nat):Int)/\(ą lo hi Á n).2.1=((HT.sIx n n hi:Nat):Int)/\(ą lo hi Á n).2.2=1:=by
 refine⟨?_,?_,rfl⟩
 .cases lo with
  | none=>simp[ą,HT.sIx]
  | some i=>
   erw[ą,HT.sIx,Option.getD_none,show(1:Int)>0 by decide,jn];by_cases h:i<0
   .erw[h,jn]<;>omega
   .erw[h,vA]<;>omega
 .cases hi with
  | none=>simp[ą,HT.sIx]
  | some i=>
   erw[ą,HT.sIx,Option.getD_none,show(1:Int)>0 by decide,jn];by_cases h:i<0
   .erw[h,jn]<;>omega
   .erw[h,vA]<;>omega
theorem mR(cb:List Ä)(lo hi:Option Int):slicePick cb.toArray lo hi Á=((cb.drop (HT.sIx cb.length 0 lo)).take (HT.sIx cb.length cb.length hi-HT.sIx cb.length 0 lo)).toArray:=by
 obtain⟨h1,h2,h3⟩:=nJ lo hi cb.toArray.size;unfold slicePick;rw[h1,h2,h3];erw[sliceRange_one,pick_run,zH]<;>rfl
def CM(K:NT):V->Option Int->Option Int->Hp->VK->Prop:=λx lo hi H Q=>∃a xs,x=.ref a/\SqL K H a xs/\∀p,H p=Á->Q (.ref p) (upd H p (.lst (bX xs lo hi)))
def rV:Kl X (CM X.K):=by
 intro ag s σ H x v vl vu lo hi sl Q I rx hs pl pu h;obtain⟨a,xs,rfl,hx,q⟩:=h;cases rx;obtain⟨cb,r,ht,hz⟩:=I.list hx;have lx:=r.length;refine⟨"list",_,slot_list_getitem.lookup,ht.isList.typeIs,?_⟩;refine wpAny_getItem_list_slice ht.isList hs pl pu .none (by simp) ?_ (by rw[zH]<;>omega);rw[mR,<-lx];refine⟨.ref s.heap.objs.size,_,I.laid (t':=s.toks) (o:=.lst (bX xs lo hi)) (λb ob q=>zg _ q) (zF _) ?_,rfl,q _ (I.hok.fresh (zF _))⟩;exact⟨zG (gF xs lo hi) hz,_,0,(r.drop (HT.sIx xs.length 0 lo)).take (HT.sIx xs.length xs.length hi-HT.sIx xs.length 0 lo),zL _ rfl⟩
def fK:qV X (.builtin "len") (λxs H Q=>∃p ys,xs=[.ref p]/\(SqL X.K H p ys\/SqT X.K H p ys)/\Q (.int ys.length) H):=by
 intro ag s σ H xs us Q I r h;obtain⟨p,ys,rfl,hq,q⟩:=h;obtain⟨u,rfl,rx⟩:=vals1 r;cases rx;have hn:=dX;rcases hq with hq | hq
 .obtain⟨cb,r',pl,hz⟩:=I.list hq
  have lx:=r'.length;exact Calls.call_len_list pl.isList (by erw[zH]<;>omega) ⟨.int ys.length,H,I.tok _,⟨s.toks+1,by rw[zH,lx]⟩,q⟩
 .obtain⟨cb,r',pl,hz⟩:=I.tuple hq
  have lx:=r'.length;exact len_tuple pl (by erw[zH]<;>omega) ⟨.int ys.length,H,I.tok _,⟨s.toks+1,by rw[zH,lx]⟩,q⟩
def oV:qV X (.builtin "len") (λxs H Q=>∃z,xs=[.str z]/\z.length<=sizeLine/\Q (.int z.length) H):=by
 intro ag s σ H xs us Q I r h;obtain⟨z,rfl,hz,q⟩:=h;obtain⟨u,rfl,t,rfl⟩:=vals1 r;have hn:=dX;exact len_str ∅ ⟨.int z.length,H,I.tok _,⟨_,rfl⟩,q⟩
def fG:qV X (.type "list") (λxs H Q=>∃p ys,xs=[.ref p]/\(SqL X.K H p ys\/SqT X.K H p ys)/\∀l,H l=Á->Q (.ref l) (upd H l (.lst ys))):=by
 intro ag s σ H xs us Q I r h;obtain⟨p,ys,rfl,hq,q⟩:=h;obtain⟨u,rfl,rx⟩:=vals1 r;cases rx;have fin:∀(cb:List Ä),Vals ys cb->ys.length<=sizeLine->∀(h':Ï) (c':Nat),(∀b o',s.heap.get? b=À o'->h'.get? b=À o')->
   h'.get? s.heap.objs.size=À { cls:=.type "list",dict:=Á,data:=.seq cb.toArray c',slots:=#[] }->EP X ag σ Q (.ref s.heap.objs.size) { s with heap:=h' }:=λcb r' hz h' c' kp e=>
  ⟨.ref s.heap.objs.size,_,I.laid (t':=s.toks) kp (zF _) (show ObjOk X.prog X.w _ h' _ (.lst ys) from ⟨hz,cb,c',r',e⟩),rfl,q _ (I.hok.fresh (zF _))⟩
 rcases hq with hq | hq
 .obtain⟨cb,r',pl,hz⟩:=I.list hq
  have lx:=r'.length;obtain⟨o,ho,hc,n,hd⟩:=pl.isList;exact call_list_seq p (.inl rfl) ho hc hd (λh' c' kp e=>fin cb r' hz h' c' kp e) (by erw[zH]<;>omega)
 .obtain⟨cb,r',pl,hz⟩:=I.tuple hq
  have lx:=r'.length;obtain⟨o,ho,hc,n,hd⟩:=pl;exact call_list_seq p (.inr rfl) ho hc hd (λh' c' kp e=>fin cb r' hz h' c' kp e) (by erw[zH]<;>omega)
def fq:qV X (.type "tuple") (λxs H Q=>∃p ys,xs=[.ref p]/\((SqL X.K H p ys/\∀l,H l=Á->Q (.ref l) (upd H l (.tup ys)))\/(SqT X.K H p ys/\Q (.ref p) H))):=by
 intro ag s σ H xs us Q I r h;obtain⟨p,ys,rfl,h⟩:=h;obtain⟨u,rfl,rx⟩:=vals1 r;cases rx;rcases h with ⟨hq,q⟩ | ⟨hq,q⟩
 .obtain⟨cb,r',pl,hz⟩:=I.list hq
  have lx:=r'.length;refine call_tuple_list pl.isList (λh' kp=>?_) (by erw[zH]<;>omega);have I1:Inv X ag σ H { s with heap:=h' }:=I.kept (t':=s.toks) kp;have I2:Inv X ag σ (upd H h'.objs.size (.tup ys)) { s with heap:=h'.push { cls:=.type "tuple",data:=.seq cb.toArray } }:=
   I1.laid (t':=s.toks) (λb o e=>zg _ e) (zF _) (show ObjOk X.prog X.w _ _ _ (.tup ys) from ⟨hz,cb,r',IsTup.new _ _,.new _ _⟩)
  exact⟨.ref h'.objs.size,_,I2,rfl,q _ (I1.hok.fresh (zF _))⟩
 .obtain⟨cb,r',pl,hz⟩:=I.tuple hq
  exact call_tuple_same pl ⟨.ref p,H,I,rfl,q⟩
def Xc(K:NT)(T:String)(x:V)(H:Hp):Prop:=match x with
 | .str _=>T="str"
 | .int _=>T="int"
 | .ref p=>(T="list" /\ ∃xs,SqL K H p xs)\/(T="tuple" /\ ∃o,K.lookup p=À o/\o.cls=.type "tuple" /\ o.dict=Á) \/
   (T="dict" /\ ((∃gy,H p=À (.dK gy))\/∃gy,H p=À (.dT gy)))\/(T="set" /\ ∃S n,H p=À (.set S n))
 | _=>False
def Kd{ag:List (Ç×æ)}{σ:St}{H:Hp}{s:Å}{T:String}{x:V}{v:Ä}(I:Inv X ag σ H s)(r:RelV x v)(ty:Xc X.K T x H) :
  s.TypeIs v T/\∀a,v=.ref a->∃ob,s.heap.get? a=À ob/\ob.dict=Á:=by
 cases x with
 | str z=>
  obtain⟨t,rfl⟩:=r;cases (show T="str" from ty);exact⟨vW s z t,λ_ e=>nomatch e⟩
 | int i=>
  obtain⟨t,rfl⟩:=r;cases (show T="int" from ty);exact⟨yG s i t,λ_ e=>nomatch e⟩
 | ref p=>
  cases r;rcases ty with ⟨rfl,xs,hq⟩ | ⟨rfl,o,hk,hc,hd⟩ | ⟨rfl,hk⟩ | ⟨rfl,S,n,hk⟩
  .obtain⟨cb,_,pl,_⟩:=I.list hq
   refine⟨pl.isList.typeIs,λa e=>?_⟩;cases e;obtain⟨o,n,e,c,hd,_⟩:=pl;exact⟨o,e,hd⟩
  .refine⟨⟨o,I.kIn p o hk,hc⟩,λa e=>?_⟩
   cases e;exact⟨o,I.kIn _ o hk,hd⟩
  .have z:∃o,s.heap.get? p=À o/\o.ExactDict:=by
    rcases hk with ⟨gy,hk⟩ | ⟨gy,hk⟩
    .obtain⟨_,_,_,_,o,_,_,e,ex,_⟩:=I.hok p _ hk
     exact⟨o,e,ex⟩
    .obtain⟨_,_,_,_,o,_,_,e,ex,_⟩:=I.hok p _ hk
     exact⟨o,e,ex⟩
   obtain⟨o,e,ex⟩:=z;refine⟨⟨o,e,ex.1⟩,λa e2=>?_⟩;cases e2;exact⟨o,e,ex.2.1⟩
  .obtain⟨o,_,_,_,e,ex,_⟩:=I.hok p _ hk
   refine⟨⟨o,e,ex.1⟩,λa e2=>?_⟩;cases e2;exact⟨o,e,ex.2.1⟩
 | _=>exact é ty
def U5(K:NT)(T:String)(r:V->List V->Hp->VK->Prop)(to:TE):TE:=λσ H Q=>to σ H λx H1=>Xc K T x H1/\r x [] H1 Q
def Cp(K:NT)(T:String)(r:V->List V->Hp->VK->Prop)(to:TE)(t:TA):TE:=λσ H Q=>to σ H λx H1=>Xc K T x H1/\t σ H1 λxs H2=>r x xs H2 Q
variable{o e:Ë}{es:List Ë}{to:TE}{t:TA}{name:È}{apos cpos:õ}{T id:String}{r:V->List V->Hp->VK->Prop}
def U4(pa:PlainAttrs T)(slot:Slot T name id)(Gu:typeOf (.builtin id)=pure (.type "method_descriptor"))(hm:Ct X id r)(ho:PE X o to)
  (Ac:↥(ó o name X.env (eval o X.env)=eval o X.env)) (Ad:↥((apos.endLine==cpos.line)=Ã)):PE X (.Call (.Attribute o name apos) [] [] cpos) (U5 X.K T r to):=by
 intro ag s σ H Q I h;refine wpAny_Call_method0_late Ac Ad (kq (ho ag s σ H _ I h) ?_);rintro v s1 ⟨x,H1,I1,r1,ty,q1⟩;obtain⟨h1,h2⟩:=Kd I1 r1 ty;exact⟨T,id,pa,slot,Gu,h1,h2,qX rfl (PySem.evalArgs_none (hm ag s1 σ H1 x [] v [] Q I1 r1 .nil q1))⟩
def Vv(pa:PlainAttrs T)(slot:Slot T name id)(Gu:typeOf (.builtin id)=pure (.type "method_descriptor"))(hm:Ct X id r)(ho:PE X o to)(ha:PA X (e::es) t)
  (Ac:↥(ó o name X.env (eval o X.env)=eval o X.env))
  (AQ:((Ö cpos (É (e::es) X.env)).all (λx=>!x.1)&&(Ĩ cpos (Ć [] X.env)).all (λx=>x.1.isSome)
   && decide ((e::es).length+([]:List Ă).length+(if ([]:List Ă).isEmpty then 0 else 1)<30))=Ã:=by rfl)
  (Ad:↥((apos.endLine==cpos.line)=Ã)) (hs:↥(É (e::es) X.env=(Â,eval e X.env)::É es X.env)) (Ah:↥((Ö cpos (É es X.env)).any (·.1)=Â)) :
  PE X (.Call (.Attribute o name apos) (e::es) [] cpos) (Cp X.K T r to t):=by
 intro ag s σ H Q I h;refine Į Ac AQ Ad rfl (kq (ho ag s σ H _ I h) ?_);rintro v s1 ⟨x,H1,I1,r1,ty,q1⟩;obtain⟨h1,h2⟩:=Kd I1 r1 ty;refine⟨T,id,pa,slot,Gu,h1,h2,?_⟩;have hA:=ha cpos ag s1 σ H1 _ I1 q1;rw[hs] at hA ⊢;refine qX (by show(Â||(Ö cpos (É es X.env)).any (·.1))=Â;rw[Ah]<;>rfl) (vB ?_);exact kq hA λus s2 Gq=>(by obtain⟨vs,H2,I2,r2,q2⟩:=Gq;exact hm ag s2 σ H2 x vs v us Q I2 r1 r2 q2)
end
end L2
namespace L2
open PySem PySem.Spec PyProof.Rows
def mq(X:Cx)(id:String)(r:V->List V->Hp->VK->Prop):Prop:=
 ∀(ag:List (Ç×æ)) (s:Å) (σ:St) (H:Hp) (x:V) (xs:List V) (v:Ä) (us:List Ä) (Q:VK),Inv X ag σ H s->RelV x v->Vals xs us->r x xs H Q->
  Ê (Ì X.prog X.w) X.A (call (.builtin id) (v::us)) (EP X ag σ Q) X.xe s
def Vals.one{x:V}{us:List Ä}(h:Vals [x] us):∃u,us=[u]/\RelV x u:=by
 cases h with | cons r t=>cases t;exact⟨_,rfl,r⟩
theorem Vals.zero:∀{us:List Ä},Vals [] us->us=[]
 | _,.nil=>rfl
theorem Vals.dropLast{xs:List V}{us:List Ä}(h:Vals xs us):Vals xs.dropLast us.dropLast:=by
 induction h with
 | nil=>exact .nil
 | cons r t ih=>
  cases t with
  | nil=>exact .nil
  | cons q t'=>exact .cons r ih
theorem Vals.rep{xs:List V}{us:List Ä}(h:Vals xs us):∀k:Nat,Vals (Æ k xs).flatten (Æ k us).flatten
 | 0=>.nil
 | k+1=>by
  rw[jU,jU,qx,qx];exact Vals.append h (Vals.rep h k)
theorem tv{α:Type}(l:List α):l.eraseIdx (l.length-1)=l.dropLast:=by
 induction l with
 | nil=>rfl
 | cons a r ih=>
  cases r with
  | nil=>rfl
  | cons b r=>
   have e:(a::b::r).length-1=((b::r).length-1)+1:=by
    have h1:(a::b::r).length=r.length+2:=rfl;have h2:(b::r).length=r.length+1:=rfl;omega
   rw[e,List.eraseIdx_cons_succ,ih];all_goals rfl
theorem foldl_rep(cb:List Ä):∀(k:Nat) (acc:List Ä),
  ě (λx1 x2=>x1++x2) acc.toArray (Æ k cb.toArray)=(acc++(Æ k cb).flatten).toArray
 | 0,acc=>by simp
 | k+1,acc=>by
  have e:acc.toArray++cb.toArray=(acc++cb).toArray:=by simp
  have e2:(acc++cb)++(Æ k cb).flatten=acc++(Æ (k+1) cb).flatten:=by
   rw[jU,qx,jG]
  rw[<-e2,<-foldl_rep cb k (acc++cb),<-e,jU,List.foldl_cons]
section
variable{X:Cx}{ag:List (Ç×æ)}{σ:St}{H:Hp}{s:Å}{l b:Ç}{xs ys zs:List V}
def Inv.lset{cb its':List Ä}{n:Nat}{f:Array Ä->Array Ä}{t':Nat}(I:Inv X ag σ H s)(hH:H l=À (.lst xs))
  (e:s.heap.get? l=À { cls:=.type "list",data:=.seq cb.toArray n }) (hf:f cb.toArray=its'.toArray) (hv:Vals ys its') (hz:ys.length<=sizeLine) :
  Inv X ag σ (upd H l (.lst ys)) { s with heap:=s.heap.update l (ï f),toks:=t' }:=by
 have q:=PySem.IsL.update e f;rw[hf] at q;refine I.write (x:=l) (e:=l) (by rw[hH];exact trivial) (.inl rfl) (λb' u hb hu=>(qy s.heap (ï f) (kZ hb)).trans hu) ⟨_,q⟩ ?_;exact⟨hz,its',_,hv,q⟩
def Inv.lnew{cb:List Ä}{t':Nat}(I:Inv X ag σ H s)(hv:Vals ys cb)(hz:ys.length<=sizeLine) :
  Inv X ag σ (upd H s.heap.objs.size (.lst ys)) { s with heap:=s.heap.push { cls:=.type "list",data:=.seq cb.toArray },toks:=t' }:=
 I.laid (λ_ _ q=>zg _ q) (zF _) ⟨hz,cb,0,hv,zL _ rfl⟩
theorem Inv.fresh(I:Inv X ag σ H s):H s.heap.objs.size=Á:=I.hok.fresh (zF _)
def Inv.lstM(I:Inv X ag σ H s)(hH:H l=À (.lst xs)):xs.length<=sizeLine/\∃(cb:List Ä) (n:Nat),Vals xs cb/\xs.length=cb.length/\s.heap.get? l=À { cls:=.type "list",data:=.seq cb.toArray n }:=by
 obtain⟨z,cb,n,r,e⟩:=I.hok l _ hH;exact⟨z,cb,n,r,r.length,e⟩
def Qa{n:Nat}(h:n<=sizeLine):á n=Â:=by
 unfold á;exact jR ∅
end
section
variable{X:Cx}
def W4:V->List V->Hp->VK->Prop:=λx vs H Q=>∃l xs y,x=.ref l/\vs=[y]/\H l=À (.lst xs)/\xs.length<sizeLine/\Q .non (upd H l (.lst (xs++[y])))
def mH:mq X "list.append" W4:=by
 intro ag s σ H x vs v us Q I rx rv h;obtain⟨l,xs,y,rfl,rfl,hH,hz,q⟩:=h;cases rx;obtain⟨u,rfl,ru⟩:=rv.one;obtain⟨z,cb,n,r,hl,e⟩:=I.lstM hH;refine qw F.slot_list_append ⟨_,e,rfl⟩ F.entry_list_append (F.args_list_append_2 _ _) (PySem.list_append l cb.toArray n u (by rw[zH];omega)) ⟨e,?_⟩;refine⟨.non,_,I.lset (its':=cb++[u]) hH e (by simp) (r.append (.cons ru .nil)) ?_,rfl,q⟩;rw[zK,List.length_singleton];omega
def CB:V->List V->Hp->VK->Prop:=λx vs H Q=>∃l xs y,x=.ref l/\vs=[]/\H l=À (.lst xs)/\xs[xs.length-1]?=À y/\Q y (upd H l (.lst xs.dropLast))
def UC:mq X "list.pop" CB:=by
 intro ag s σ H x vs v us Q I rx rv h;obtain⟨l,xs,y,rfl,rfl,hH,hy,q⟩:=h;cases rx;have La:=rv.zero;subst La;obtain⟨z,cb,n,r,hl,e⟩:=I.lstM hH;obtain⟨u,hu,ru⟩:=r.get hy;have Lb:cb.toArray[cb.toArray.size-1]?=À u:=by
  show cb.toArray[cb.length-1]?=À u
  rw[<-xx,<-hl];exact hu
 refine qw F.slot_list_pop ⟨_,e,rfl⟩ F.entry_list_pop (F.args_list_pop_1 _) (MeetsSeq.list_pop_last l cb.toArray n u Lb (by rw[zH];omega)) ⟨e,?_⟩;refine⟨y,_,I.lset (its':=cb.dropLast) hH e ?_ r.dropLast ?_,ru,q⟩
 .show cb.toArray.eraseIdxIfInBounds (cb.toArray.size-1)=cb.dropLast.toArray
  rw[zH,List.eraseIdxIfInBounds_toArray,tv]
 .rw[List.length_dropLast]
  omega
def len_rep{α:Type}(xs:List α)(k:Nat):(Æ k xs).flatten.length=k*xs.length:=by
 induction k with
 | zero=>simp
 | succ k ih=>rw[jU,qx,zK,ih,Nat.succ_mul,yg]
end
end L2
namespace L2
open PySem PySem.Spec PyProof.Rows
section
variable{κ:Type}[DecidableEq κ]
def ub(gy:List (κ×V))(k:κ):Option V:=(gy.find? λkv=>decide (kv.1=k)).map (·.2)
def putK(gy:List (κ×V))(k:κ)(v:V):List (κ×V):=
 if (gy.any λkv=>decide (kv.1=k))=Ã then gy.map (λkv=>if kv.1=k then (kv.1,v) else kv) else gy++[(k,v)]
def g9{p:κ×V}{r:List (κ×V)}{k:κ}(e:p.1=k):ub (p::r) k=À p.2:=by simp[ub,jA,e]
def gO{p:κ×V}{r:List (κ×V)}{k:κ}(e:¬p.1=k):ub (p::r) k=ub r k:=by simp[ub,jA,e]
theorem nF(k:κ):∀gy:List (κ×V),(gy.any λkv=>decide (kv.1=k))=(ub gy k).isSome
 | []=>rfl
 | p::r=>by
  rw[qL];by_cases e:p.1=k
  .erw[g9 e,jq e,Bool.true_or,Option.isSome_some]
  .rw[gO e,jR e,Bool.false_or];exact nF k r
def dP(gy:List (κ×V))(k:κ)(v:V):(putK gy k v).length<=gy.length+1:=by
 unfold putK;split
 .rw[jb];omega
 .rw[zK,zr,zR];omega
theorem RelO.isSome_eq{o:Option V}{u:Option Ä}(r:RelO o u):o.isSome=u.isSome:=by
 cases o with
 | none=>cases u with
  | none=>rfl
  | some _=>exact(show False from r).elim
 | some _=>cases u with
  | none=>exact(show False from r).elim
  | some _=>rfl
theorem RelO.getD{o:Option V}{u:Option Ä}{d:V}{d':Ä}(r:RelO o u)(rd:RelV d d'):RelV (o.getD d) (u.getD d'):=by
 cases o with
 | none=>cases u with
  | none=>exact rd
  | some _=>exact(show False from r).elim
 | some _=>cases u with
  | none=>exact(show False from r).elim
  | some _=>exact r
def KV.val{gy:List (κ×V)}{vs:List (κ×Ä)}(r:KV gy vs)(k:κ):RelO (ub gy k) (Š vs k):=by
 unfold KV at r;induction r with
 | nil=>exact ê
 | @cons p q ps qs h t ih=>
  obtain⟨h1,h2⟩:=h;by_cases e:p.1=k
  .have e':q.1=k:=h1.symm.trans e
   have b:Š (q::qs) k=À q.2:=by simp[Š,jA,e']
   rw[g9 e,b];exact h2
  .have e':¬q.1=k:=λz=>e (h1.trans z)
   have b:Š (q::qs) k=Š qs k:=by simp[Š,jA,e']
   rw[gO e,b];exact ih
theorem KV.any{gy:List (κ×V)}{vs:List (κ×Ä)}(r:KV gy vs)(k:κ):(gy.any λkv=>decide (kv.1=k))=vs.any λkv=>decide (kv.1=k):=by
 unfold KV at r;induction r with
 | nil=>rfl
 | cons h t ih=>rw[qL,qL,ih,h.1]
def KV.repl{gy:List (κ×V)}{vs:List (κ×Ä)}(r:KV gy vs)(k:κ){y:V}{u:Ä}(ry:RelV y u) :
  KV (gy.map λkv=>if kv.1=k then (kv.1,y) else kv) (vs.map λkv=>if kv.1=k then (kv.1,u) else kv):=by
 unfold KV at r ⊢;induction r with
 | nil=>exact .nil
 | @cons p q ps qs h t ih=>
  rw[zx,zx];refine .cons ?_ ih;obtain⟨h1,h2⟩:=h;by_cases e:p.1=k
  .rw[zW e,zW (h1.symm.trans e)];exact⟨h1,ry⟩
  .rw[kY e,kY (λz=>e (h1.trans z))];exact⟨h1,h2⟩
def KV.put{gy:List (κ×V)}{vs:List (κ×Ä)}(r:KV gy vs)(k:κ){y:V}{u:Ä}(ry:RelV y u):KV (putK gy k y) (stored vs k u):=by
 unfold putK stored;rw[r.any k];by_cases e:(vs.any λkv=>decide (kv.1=k))=Ã
 .rw[zW e,zW e];exact r.repl k ry
 .rw[kY e,kY e];exact Paired.snoc r ⟨rfl,ry⟩
theorem KV.length{gy:List (κ×V)}{vs:List (κ×Ä)}(r:KV gy vs):gy.length=vs.length:=Paired.length r
end
def mT{P:Í}{w:Ð}{k:Key}{u:Ä}(r:RelV (kV k) u):(vc P w).is k u=Ã:=by
 cases k with
 | inl i=>obtain⟨t,e⟩:=(show ∃t,u=ń i t from r);subst e;exact pP P w i t
 | inr x=>obtain⟨t,e⟩:=(show ∃t,u=Ņ x t from r);subst e;exact pR P w x t
theorem mG{P:Í}{w:Ð}:∀{ks:List Key} {us:List Ä},Vals (ks.map kV) us->ItemsAre (vc P w) ks us
 | [],_,r=>by rw[jh] at r;cases r;exact .nil
 | k::ks,_,r=>by
  rw[zx] at r;cases r with
  | cons h t=>exact .cons (mT h) (mG t)
abbrev KT(H:Hp):List (List Key×V)->List (List Key×Ç×Ä)->Prop:=Ų λp q=>p.1=q.1/\H q.2.1=À (.tup (p.1.map kV))/\RelV p.2 q.2.2
def KT.val{H:Hp}{gy:List (List Key×V)}{xs:List (List Key×Ç×Ä)}(r:KT H gy xs)(k:List Key):RelO (ub gy k) ((Ź xs k).map (·.2)):=by
 induction r with
 | nil=>exact ê
 | @cons p q ps qs h t ih=>
  obtain⟨h1,_,h2⟩:=h;by_cases e:p.1=k
  .have e':q.1=k:=h1.symm.trans e
   have b:Ź (q::qs) k=À q.2:=by simp[Ź,jA,e']
   rw[g9 e,b];exact h2
  .have e':¬q.1=k:=λz=>e (h1.trans z)
   have b:Ź (q::qs) k=Ź qs k:=by simp[Ź,jA,e']
   rw[gO e,b];exact ih
def KT.repl{H:Hp}{gy:List (List Key×V)}{xs:List (List Key×Ç×Ä)}(r:KT H gy xs)(k:List Key){y:V}{u:Ä}(ry:RelV y u) :
  KT H (gy.map λkv=>if kv.1=k then (kv.1,y) else kv) (xs.map (putAt k u)):=by
 induction r with
 | nil=>exact .nil
 | @cons p q ps qs h t ih=>
  rw[zx,zx];refine .cons ?_ ih;obtain⟨h1,h2,h3⟩:=h;unfold putAt;by_cases e:p.1=k
  .rw[zW e,zW (h1.symm.trans e)];exact⟨h1,h2,ry⟩
  .rw[kY e,kY (λz=>e (h1.trans z))];exact⟨h1,h2,h3⟩
def KT.put{H:Hp}{gy:List (List Key×V)}{xs:List (List Key×Ç×Ä)}(r:KT H gy xs)(k:List Key){b:Ç}{y:V}{u:Ä}(hb:H b=À (.tup (k.map kV)))(ry:RelV y u) :
  KT H (putK gy k y) (storedH xs k b u):=by
 have e:(gy.any λkv=>decide (kv.1=k))=(Ź xs k).isSome:=by
  rw[nF,(r.val k).isSome_eq,Option.isSome_map]
 unfold putK storedH;rw[e];by_cases q:(Ź xs k).isSome=Ã
 .rw[zW q,zW q];exact r.repl k ry
 .rw[kY q,kY q];exact Paired.snoc r ⟨rfl,hb,ry⟩
def KT.keeps{H H':Hp}{gy:List (List Key×V)}{xs:List (List Key×Ç×Ä)}(r:KT H gy xs)(ht:∀b ys,H b=À (.tup ys)->H' b=À (.tup ys)):KT H' gy xs:=
 Paired.mapP r λ_ _ z=>⟨z.1,ht _ _ z.2.1,z.2.2⟩
section
variable{P:Í}{w:Ð}{H:Hp}{h:Ï}{a:Ç}
def Vo{u:HO}(ok:HOk P w H h)(e:Rd H a u):ObjOk P w H h a u:=e.ok ok
def iG{gy:List (Key×V)}(ok:HOk P w H h)(e:Rd H a (.dK gy)):gy.length<=sizeLine/\(a==Ø)=Â/\∃vs,KV gy vs/\h.DictOf (vc P w) a vs:=
 show ObjOk P w H h a (.dK gy) from Vo ok e
def B8{gy:List (Key×V)}(ok:HOk P w H h)(e:H a=À (.dK gy)):gy.length<=sizeLine/\(a==Ø)=Â/\∃vs,KV gy vs/\h.DictOf (vc P w) a vs:=iG ok (.inl e)
def nC{ks:List Key}(ok:HOk P w H h)(e:H a=À (.tup (ks.map kV))):(ĕ (vc P w)).is h ks a:=by
 obtain⟨_,cb,r,⟨o,h1,h2,n,h3⟩,_⟩:=(show ObjOk P w H h a (.tup (ks.map kV)) from ok a _ e);exact⟨o,cb.toArray,n,h1,h2,h3,by simpa using mG r⟩
def Zx{gy:List (List Key×V)}(ok:HOk P w H h)(e:Rd H a (.dT gy)):gy.length<=sizeLine/\(a==Ø)=Â /\
  ∃xs,KT H gy xs/\h.DictOfH (ĕ (vc P w)) a xs:=by
 obtain⟨z,y,xs,r,o,es,ep,h1,h2,h3,h4,h5⟩:=(show ObjOk P w H h a (.dT gy) from Vo ok e);refine⟨z,y,xs,r,o,es,ep,h1,h2,h3,h4,λx hx=>?_,h5⟩;have all:∀{l:List (List Key×V)} {m:List (List Key×Ç×Ä)},KT H l m->∀x∈m,(ĕ (vc P w)).is h x.1 x.2.1:=by
  intro l m q;induction q with
  | nil=>intro x hx;exact nomatch hx
  | @cons p q ps qs hq t ih=>
   intro x hx;rcases zp.mp hx with e | hx
   .subst e
    exact nC ok (by rw[<-hq.1];exact hq.2.1)
   .exact ih x hx
 exact all r x hx
def be{gy:List (List Key×V)}(ok:HOk P w H h)(e:H a=À (.dT gy)):gy.length<=sizeLine/\(a==Ø)=Â /\
  ∃xs,KT H gy xs/\h.DictOfH (ĕ (vc P w)) a xs:=Zx ok (.inl e)
end
def Uv(H:Hp)(a:Ç)(y:V)(r:Option V):Prop:=
 (∃gy k,Rd H a (.dK gy)/\y=kV k/\r=ub gy k)\/∃gy k b,Rd H a (.dT gy)/\y=.ref b/\H b=À (.tup (k.map kV))/\r=ub gy k
def CS(H:Hp)(a:Ç)(y v:V)(H':Hp):Prop:=
 (∃gy k,H a=À (.dK gy)/\y=kV k/\gy.length<sizeLine/\H'=upd H a (.dK (putK gy k v))) \/
 ∃gy k b,H a=À (.dT gy)/\y=.ref b/\H b=À (.tup (k.map kV))/\gy.length<sizeLine/\H'=upd H a (.dT (putK gy k v))
section
variable{X:Cx}{ag:List (Ç×æ)}{σ:St}{H:Hp}{s:Å}{a:Ç}{y v:V}{u r:Ä}{o:Option V}{A:Ò}{E:Ä->Å->Prop}
def Inv.big(I:Inv X ag σ H s):Ø<s.heap.objs.size:=by
 have h:Ô<s.heap.objs.size:=(I.mod.glob.keeps I.bk).lt;exact wY (by decide) h
def su{h':Ï}{t':Nat}{ob:HO}(I:Inv X ag σ H s)(mu:mB (H a))(hs:ć a s.heap h')(he:∃q,h'.get? a=À q)(new:ObjOk X.prog X.w (upd H a ob) h' a ob) :
  Inv X ag σ (upd H a ob) { s with heap:=h',toks:=t' }:=
 I.write (x:=a) (e:=a) mu (.inl rfl) (λb q hb z=>(hs.2 b hb).trans z) he new
def og{P:Í}{w:Ð}{H':Hp}{h':Ï}{gy:List (Key×V)}{vs:List (Key×Ä)}(z:gy.length<=sizeLine)(hd:(a==Ø)=Â)(rel:KV gy vs)(dd:h'.DictOf (vc P w) a vs) :
  ObjOk P w H' h' a (.dK gy):=⟨z,hd,vs,rel,dd⟩
def ZD{H':Hp}{Q:Unit->Å->Prop}(hu:A.units+1<ö)(I:Inv X ag σ H s)(g:CS H a y v H')(ry:RelV y u)(rv:RelV v r)(h:∀s',Inv X ag σ H' s'->Q () s') :
  Ê (Ì X.prog X.w) A (Ů (.ref a) u r) Q E s:=by
 rcases g with ⟨gy,k,e,ey,l,eH⟩ | ⟨gy,k,b,e,ey,eb,l,eH⟩
 .subst ey eH
  obtain⟨z,hd,vs,rel,dd⟩:=B8 I.hok e;have hz:vs.length<=sizeLine:=by rw[<-rel.length];exact z
  have hl:(putK gy k v).length<=sizeLine:=by have:=dP gy k v;omega
  refine wpAny_setItem_pairs (hsz:=hz) (mT ry) dd λh' EK hs=>h _ ?_
  have he:∃q,h'.get? a=À q:=let ⟨q,_,_,hq,_⟩:=EK;⟨q,hq⟩;exact su I (by rw[e];exact ê) hs he (og hl hd (rel.put k rv) EK)
 .subst ey eH
  cases (show u=Ú b from ry);obtain⟨z,hd,xs,rel,dd⟩:=be I.hok e;have hz:xs.length<=sizeLine:=by rw[<-Paired.length rel];exact z
  have hl:(putK gy k v).length<=sizeLine:=by have:=dP gy k v;omega
  refine wpAny_setItem_heap (hsz:=hz) (ő hu) (nC I.hok eb) dd λh' EK hs=>h _ ?_
  obtain⟨q,es,ep,hq,h2,h3,h4,_,h5⟩:=EK;refine su I (by rw[e];exact ê) hs ⟨q,hq⟩ ⟨hl,hd,_,(rel.put k eb rv).keeps λc ys ec=>?_,q,es,ep,hq,h2,h3,h4,h5⟩;rw[kK (BP ec e (λz=>nomatch z))];exact ec
end
def Qw{P:Í}{w:Ð}{H:Hp}(h:Ï)(hb:Ø<h.objs.size):ObjOk P w H (h.push { cls:=.type "dict",data:=.dict #[] }) h.objs.size (.dK []):=
 ⟨wA _,jB.mpr (kZ (zT hb)),[],.nil,Heap.DictOf.new h⟩
def Bg:TE:=λ_ H Q=>∀p,H p=Á->Q (.ref p) (upd H p (.dK []))
section
variable{X:Cx}{pos:õ}
def nA:PE X (.Dict [] [] pos) Bg:=λag s σ H Q I h=>
 wpAny_Dict_empty ⟨.ref s.heap.objs.size,_,I.laid (a:=s.heap.objs.size) (o:=.dK []) (t':=s.toks) (λ_ _ q=>zg _ q) (zF _) (Qw s.heap I.big),rfl,h _ (I.hok.fresh (zF _))⟩
end
def cw(gy more:List (Key×V)):List (Key×V):=more.foldl (λacc kv=>putK acc kv.1 kv.2) gy
def KV.merge:∀{more:List (Key×V)} {rs:List (Key×Ä)} {gy:List (Key×V)} {vs:List (Key×Ä)},KV more rs->KV gy vs->KV (cw gy more) (ź vs rs):=by
 intro more rs gy vs r;unfold KV at r;induction r generalizing gy vs with
 | nil=>intro q;exact q
 | @cons p q ps qs h t ih=>
  intro r0;have e:KV (putK gy p.1 p.2) (stored vs q.1 q.2):=by
   have:=r0.put p.1 h.2;rw[<-h.1];exact this
  exact ih e
theorem ft:∀(more gy:List (Key×V)),(cw gy more).length<=gy.length+more.length
 | [],gy=>by show gy.length<=gy.length+0;omega
 | p::r,gy=>by
  have h1:=ft r (putK gy p.1 p.2);have h2:=dP gy p.1 p.2;show(cw (putK gy p.1 p.2) r).length<=_
  rw[zr];omega
structure M2(X:Cx)(o:Ë)(m:È)(apos:õ)(e f:Ë)(cpos:õ):Prop where
 base:ó o m X.env (eval o X.env)=eval o X.env
 few:((Ö cpos (É [e,f] X.env)).all (λx=>!x.1)&&(Ĩ cpos (Ć [] X.env)).all (λx=>x.1.isSome)
  && decide (([e,f]:List Ë).length+([]:List Ă).length+(if ([]:List Ă).isEmpty then 0 else 1)<30))=Ã
 line:(apos.endLine==cpos.line)=Ã
 trees:Ö cpos (É [e,f] X.env)=[(Â,eval e X.env),(Â,eval f X.env)]
def Cs(H:Hp)(a:Ç):Prop:=(∃gy,Rd H a (.dK gy))\/∃gy,Rd H a (.dT gy)
def Ut{X:Cx}{ag:List (Ç×æ)}{σ:St}{H:Hp}{s:Å}{a:Ç}(I:Inv X ag σ H s)(d:Cs H a) :
  s.TypeIs (.ref a) "dict" /\ (∀b,Ú a=.ref b->∃ob,s.heap.get? b=À ob/\ob.dict=Á)/\(a==Ø)=Â:=by
 rcases d with ⟨gy,e⟩ | ⟨gy,e⟩
 .obtain⟨_,hd,vs,_,dd⟩:=iG I.hok e
  refine⟨dd.typeIs,λb q=>?_,hd⟩;cases q;obtain⟨ob,_,_,h1,h2,_⟩:=dd;exact⟨ob,h1,h2.2.1⟩
 .obtain⟨_,hd,xs,_,dd⟩:=Zx I.hok e
  refine⟨dd.typeIs,λb q=>?_,hd⟩;cases q;obtain⟨ob,_,_,h1,h2,_⟩:=dd;exact⟨ob,h1,h2.2.1⟩
section
variable{X:Cx}{ag:List (Ç×æ)}{σ:St}{H:Hp}{s:Å}{a:Ç}{y d:V}{u r:Ä}{o:Option V}{A:Ò}{E:Ä->Å->Prop}
def Bm{Q:Ä->Å->Prop}(hu:A.units+1<ö)(I:Inv X ag σ H s)(g:Uv H a y o)(ry:RelV y u)(rd:RelV d r)(h:∀w' s',Inv X ag σ H s'->RelV (o.getD d) w'->Q w' s') :
  Ê (Ì X.prog X.w) A (call (.builtin "dict.get") [.ref a,u,r]) Q E s:=by
 rcases g with ⟨gy,k,e,ey,l⟩ | ⟨gy,k,b,e,ey,eb,l⟩
 .subst ey
  obtain⟨z,hd,vs,rel,dd⟩:=iG I.hok e;refine call_meetsIn vX dd.typeIs yZ (yS _ _ _) (meets_dict_get_default (vc X.prog X.w) a (mT ry) hd r) ⟨_,dd.mapOf,h _ _ (I.tok _) ?_⟩;rw[l];exact(rel.val k).getD rd
 .subst ey
  cases (show u=Ú b from ry);obtain⟨z,hd,xs,rel,dd⟩:=Zx I.hok e;refine call_meetsIn vX dd.typeIs yZ (yS _ _ _) (meetsH_dict_get_default (ĕ (vc X.prog X.w)) a b hd r) ⟨ő hu,k,xs,nC I.hok eb,dd,h _ _ (I.tok _) ?_⟩;rw[l];exact(rel.val k).getD rd
end
def Bb(td ty tx:TE):TE:=λσ H Q=>td σ H λx H1=>∃a,x=.ref a/\Cs H1 a/\ty σ H1 λy H2=>tx σ H2 λz H3=>∃o,Uv H3 a y o/\Q (o.getD z) H3
section
variable{X:Cx}{o e f:Ë}{apos cpos:õ}{td ty tx:TE}
def Qb(hu:X.A.units+1<ö)(ho:PE X o td)(he:PE X e ty)(hf:PE X f tx)(m:M2 X o "get" apos e f cpos):PE X (.Call (.Attribute o "get" apos) [e,f] [] cpos) (Bb td ty tx):=by
 intro ag s σ H Q I h;refine wpAny_Call_method m.base m.few m.line PySem.F.plainAttrs_dict vX PySem.F.type_dict_get (kq (ho ag s σ H _ I h) ?_);rintro u s1 ⟨x,H1,I1,rx,a,ex,d,q1⟩;subst ex;obtain rfl:u=Ú a:=rx;obtain⟨t1,t2,_⟩:=Ut I1 d;refine⟨t1,t2,?_⟩;rw[m.trees]
 refine qX rfl (vB (qT (kq (he ag s1 σ H1 _ I1 q1) λiv s2 ⟨y,H2,I2,ry,q2⟩=>
  qT (kq (hf ag s2 σ H2 _ I2 q2) λfv s3 ⟨z,H3,I3,rz,ov,g,q3⟩=>wg ?_))))
 exact Bm hu I3 g ry rz λw' s4 I4 Fn=>⟨_,H3,I4,Fn,q3⟩
end
section
variable{X:Cx}{ag:List (Ç×æ)}{σ:St}{H:Hp}{s:Å}{a:Ç}{gy:List (Key×V)}{A:Ò}{E:Ä->Å->Prop}
def Qj{Q:Ä->Å->Prop}(I:Inv X ag σ H s)(e:Rd H a (.dK gy))(h:∀p s',H p=Á->Inv X ag σ (upd H p (.dK gy)) s'->Q (.ref p) s'):Ê (Ì X.prog X.w) A (call (.type "dict") [.ref a]) Q E s:=by
 obtain⟨z,hd,vs,rel,dd⟩:=iG I.hok e;refine kt_call_dict hd dd (by rw[<-rel.length];exact z) λh' EK hs=>?_
 refine h _ _ (I.hok.fresh (zF _)) (I.laid (a:=s.heap.objs.size) (o:=.dK gy) (t':=s.toks) (λb q hq=>?_) (zF _) (og z (jB.mpr (kZ (zT I.big))) rel EK));exact(hs.2 b (zT (zz hq))).trans (zg _ hq)
end
end L2
namespace Att
open PySem PySem.W PySem.Calls PyProof.Rows
def i8{P:Params}{h:Ï}:∀(ns:List Int) (vs:List Ä),WellAll P h vs (ns.map WData.int)->Ű vs ns:=by
 intro ns;induction ns with
 | nil=>
  intro vs w;rw[jh] at w;cases w;exact .nil
 | cons n ns ih=>
  intro vs w;rw[zx] at w;cases w with
  | cons a b=>
   cases a;exact .cons _ _ (ih _ b)
def ZV{l:OpenLaw}{n:Nat}(hn:l.most=À n){P:Params}{h:Ï}{args:List WData}{vals:List Ä}
  (DX:l.row.toRowW.claim.pre args=Ã) (Gv:WellAll P h vals args) :
  ∃a vs ns,vals=[Ú a]/\args=[WData.list (ns.map WData.int)]/\h.get? a=À { cls:=.type "list",data:=.seq vs.toArray }/\Ű vs ns/\ns.length<=n:=by
 have Lc:WShape.hasAll [] args [.list .int]=Ã:=(pre_splitW DX).1;have hc:l.pre.holds [] { args:=args }=Ã:=(pre_splitW DX).2;obtain⟨d,r,rfl,h1,h2⟩:=hasAllW_cons Lc;obtain rfl:=hasAllW_nil h2;obtain⟨xs,rfl,h3⟩:=hasW_list h1;obtain⟨ns,rfl⟩:=items_int h3;have lx:ns.length<=n:=by
  unfold OpenLaw.pre at hc;have h4:(WTm.not (.lt (.lit (.int (n:Int))) (.len (.arg 0)))).holds [] { args:=[.list (ns.map .int)] }=Ã:=by
   have h4:=(holds_andW hc).1;rw[hn] at h4;exact h4
  have h5:=condW_of h4 (w_not (w_lt w_lit (w_len_list (w_arg rfl))));rw[jb] at h5;refine Nat.le_of_not_lt λq=>?_
  have q':(n:Int)<((ns.length:Nat):Int):=by omega
  first
   | (rw[jq q'] at h5;exact absurd h5 (by decide))
   | (simp at h5;omega)
 cases Gv with
 | cons w1 w2=>
  cases w2;cases w1 with
  | list ho Am=>exact⟨_,_,ns,rfl,rfl,ho,i8 ns _ Am,lx⟩
theorem Z5(l:OpenLaw)(args:List WData):l.row.toRowW.claim.post args (.bool Ã) args=Ã:=
 postW_of (r:=l.row.toRowW) (X:=(Ã==Ã))
  (show WShape.has [] (.bool Ã) .bool=Ã by first | rfl | decide | simp[WShape.has,WShape.arms,WShape.armsAll])
  (show(WTm.eq .res (.lit (.bool Ã))).value [] { args:=args,res:=À (.bool Ã),after:=args }=À (.bool (Ã==Ã)) from w_eq_bool (w_res rfl) w_lit) rfl
def attach_call{l:OpenLaw}{n:Nat}{q:Í}{loose:List È}{XP:(È->Option Ä)->Ï->Prop}{YP:Ð->Ï->Prop}{d:DefRec}
  (hn:l.most=À n) (Ee:d.params.defaults=[])
  (call:∀(w:Ð) (s₀ hJ:Å) (mg mb:È->Option Ä) (fa:Ç) (o:æ) (pm cd doc:Ä) (a:Ç) (vs:List Ä) (ns:List Int),
   Ground q loose [] XP w s₀ mg mb hJ.heap->YP w hJ.heap->
   hJ.heap.get? fa=À o->o.data=.func (docDef d.name d.params d.body d.scope pm cd doc)->hJ.heap.CodeRec cd d.name->mg d.name=À (.ref fa)->
   hJ.heap.get? a=À { cls:=.type "list",data:=.seq vs.toArray }->Ű vs ns->ns.length<=n->hJ.gens = #[]->
   ĉ (Ì l.prog w) į (.call (.ref fa) ⟨[.ref a],[]⟩) (λr s'=>r=.ok (.ret (.bool Ã))/\OldK hJ.heap s'.heap/\s'.os=hJ.os/\þ s'.gens) hJ) :
  WalkO q loose XP YP l.row.toRowW d [] (λf vs=>Ż f vs):=by
 intro w s₀ hJ mg mb G Y fa o pm cd doc dV kV ho hd AV hD Fo hg args vals as DX Ld Nl Gv Gw;obtain rfl:dV=.none:=Dflts.none hD Ee;obtain rfl:kV=.none:=Dflts.noKw hD;obtain⟨a,vs,ns,rfl,rfl,Ef,Da,lx⟩:=ZV hn DX Gv;refine enter_call (yO (call w s₀ hJ mg mb fa o pm cd doc a vs ns G Y ho (fd_plain hd) AV Fo Ef Da lx hg) λr s' hq=>?_);obtain⟨rfl,h2,h3,h4⟩:=hq;exact⟨.inl ⟨.bool Ã,.bool Ã,[],rfl,λ_=>rfl,.bool Ã,Z5 l _,λ_=>⟨List.Pairwise.nil,λ_ hm=>(nomatch hm)⟩⟩,h2,h3,h4⟩
end Att
namespace L2
open PySem PySem.Spec PyProof.Rows
theorem my:∀{vs:List Ä} {ns:List Int},Ű vs ns->Vals (ns.map V.int) vs
 | _,_,.nil=>.nil
 | _,_,.cons n t h=>.cons ⟨t,rfl⟩ (my h)
def Only(H:Hp):Prop:=∀b,H b=Á\/∃o xs,H b=À (.frz o (.lst xs))
def J3{P:Í}{w:Ð}{K:NT}{mg mb:È->Option Ä}{CX:dW}{k:Nat}{fa a:Ç}{fd:å}{x:È}{sp:Sp}{hJ:Å}{vs:List Ä}{ns:List Int}
  (KX:K.In hJ.heap) (Af:hJ.heap.Ns Ô mg) (hb:hJ.heap.Ns ų mb) (Le:∀x:È,x≠"__name__"->mb x=Ñ x) (Gx:hJ.heap.NoLimit) (hg:hJ.gens = #[])
  (ha:hJ.heap.get? a=À { cls:=.type "list",data:=.seq vs.toArray }) (hi:Ű vs ns) (hl:ns.length<=sizeLine) (hr:Room k į)
  (F:∀base:Ï,K.In base->base.Ns Ô mg->FnOk P w K mg base CX k fa fd [x] sp) (Fp:∀(s:Å) (u:Ä),ů s fd ⟨[u],[]⟩ [(x,u)])
  (AW:∀H:Hp,Only H->SqL K H a (ns.map V.int)->sp [.ref a] H (λv _=>v=.bl Ã) λ_ _ _=>False)
  (Gy:∀H e s',CX [] H hJ (λ_ _ _=>False) e s'->False) :
  ĉ (Ì P w) į (.call (.ref fa) ⟨[.ref a],[]⟩) (λr s'=>r=.ok (.ret (.bool Ã))/\OldK hJ.heap s'.heap/\s'.os=hJ.os/\þ s'.gens) hJ:=by
 have rv:=my hi;have Gz:=hi.length;have core:∀H:Hp,Only H->SqL K H a (ns.map V.int)->HOk P w H hJ.heap->(∀b,H b≠Á->b=a)->(H a≠Á->K.lookup a=Á)->
   ĉ (Ì P w) į (.call (.ref fa) ⟨[.ref a],[]⟩) (λr s'=>r=.ok (.ret (.bool Ã))/\OldK hJ.heap s'.heap/\s'.os=hJ.os/\þ s'.gens) hJ:=by
  intro H hO hS hok hA hK;have AY:∀{b:Ç} {o:æ},hJ.heap.get? b=À o->H b=Á->(fe hJ.heap H).get? b=À o:=λe n=>QF e n
  have Fh:∀{b:Ç} {o:æ} {es:Array ú} {ep:Nat},hJ.heap.get? b=À o->o.data=.dict es ep->H b=Á:=λ{b o es ep} e d=>by
   cases q:H b with
   | none=>rfl
   | some u=>
    have e':b=a:=hA b (by rw[q];simp);subst e';rw[ha] at e;cases e;have d':Data.seq vs.toArray _=Data.dict es ep:=d;cases d'
  have FV:∀{b:Ç} {m:È->Option Ä},hJ.heap.Ns b m->(fe hJ.heap H).Ns b m:=λ{b m} ⟨o,es,ep,e,d,r⟩=>⟨o,es,ep,AY e (Fh e d),d,r⟩
  have Hu:K.In (fe hJ.heap H):=λb o e=>AY (KX b o e) (by
   cases q:H b with
   | none=>rfl
   | some u=>
    have e':b=a:=hA b (by rw[q];simp);subst e'
    rw[hK (by rw[q];simp)] at e;cases e)
  have hM:Mod K mg (fe hJ.heap H):=⟨Hu,FV Af,⟨mb,FV hb,Le⟩,let ⟨mc,h1,h2⟩:=Gx;⟨mc,FV h1,h2⟩⟩;have e0:Env0 P w K mg (fe hJ.heap H) į [] hJ H:=⟨rfl,hM,λb o e=>Wz e,Nat.le_of_eq (Z6 _ _),trivial,λb hb=>absurd (show b∈([]:List Ç) from hb) (by simp),hok,.of_eq hg⟩;refine yO ((F _ Hu (FV Af)).run į [] hJ H ⟨[.ref a],[]⟩ [.ref a] [.ref a] _ _ hr e0 (Fp hJ (.ref a)) (.cons rfl .nil) (AW H hO hS)) λr s' h=>?_
  cases r with
  | error e=>exact(Gy H e s' h).elim
  | ok fl=>
   cases fl with
   | next=>exact é h
   | brk=>exact é h
   | cont=>exact é h
   | ret u=>
    obtain⟨v,H',os,bare,un,Eg,r',q⟩:=h;have q':v=.bl Ã:=q;subst q';obtain rfl:u=Ī Ã:=r';refine⟨rfl,OldK.of_keep λb o e=>?_,os,bare⟩;cases q:H b with
    | none=>exact un.keep b o e q (by intro z;exact absurd (show b∈([]:List Ç) from z) (by simp)) (by simp)
    | some u=>
     rcases hO b with z | ⟨ob,xs,z⟩
     .rw[q] at z;cases z
     .have z2:=un.frzs b ob _ z
      obtain⟨e1,_⟩:=hok b _ z;obtain⟨e2,_⟩:=Eg b _ z2;rw[e] at e1;cases e1;exact e2
 cases hk:K.lookup a with
 | some o=>
  have e:=KX a o hk;rw[ha] at e;cases e;refine core (λ_=>Á) (λ_=>.inl rfl) (.inr ⟨_,vs.toArray,_,hk,rfl,rfl,rfl,by rw[zH,Gz];exact hl,by simpa using rv⟩) (λb u z=>by have z':(Á:Option HO)=À u:=z;cases z') (λb z=>absurd rfl z) λz=>absurd rfl z
 | none=>
  refine core (λb=>if b=a then À (.frz { cls:=.type "list",data:=.seq vs.toArray } (.lst (ns.map V.int))) else Á) (λb=>?_) (.inl (.inr ⟨{ cls:=.type "list",data:=.seq vs.toArray },zW rfl⟩)) (λb u z=>?_) (λb z=>?_) λ_=>hk
  .by_cases hb:b=a
   .exact .inr ⟨_,_,zW hb⟩
   .exact .inl (kY hb)
  .by_cases hb:b=a
   .have z':=(zW hb).symm.trans z
    cases z';subst hb;exact⟨ha,by rw[jb];exact hl,vs,_,rv,ha⟩
   .have z':=(kY hb).symm.trans z
    cases z'
  .by_cases hb:b=a
   .exact hb
   .exact absurd (kY hb) z
end L2
namespace L2
open PySem PySem.Spec PyProof.Rows
end L2
namespace L2
open PySem PySem.Spec PyProof.Rows
def ui(s:ì):Arguments:=match s with
 | .FunctionDef _ a _ _ _ _ _ _ _ _=>a
 | _=>{ posonlyargs:=[],args:=[],vararg:=Á,kwonlyargs:=[],kw_defaults:=[],kwarg:=Á,defaults:=[] }
def qA(s:ì):List ì:=match s with
 | .FunctionDef _ _ b _ _ _ _ _ _ _=>b
 | _=>[]
def kF(s:ì):Þ:=match s with
 | .FunctionDef _ _ _ _ _ _ sc _ _ _=>sc
 | _=>{ kind:=.function,names:=[],isGenerator:=Â,isCoroutine:=Â }
abbrev bP:dW:=λ_ _ _ _ _ _=>False
abbrev E0:XK:=λ_ _ _=>False
def VG{X:Cx}:iP bP X E0:=λ_ _ _ _ _ _ _ h=>h.elim
structure Fun(K:NT)(x qual:È)(st:ì)(f:Ç)(fd:å):Prop where
 ex:∃(oc:Ä) (od:Option Ç) (kV doc pm:Ä) (an:Option Ç) (pf ct:Ä) (A9:Array (Option Ä)),
  fd=ò x qual (ui st) (qA st) (kF st) .none kV doc pm an pf ct/\K.lookup f=À ⟨oc,od,.func fd,A9⟩/\Ċ K pf qual=Ã
 kp:Ü K (.ref f)=Ã
section
variable{P:Í}{w:Ð}{K:NT}{mg:È->Option Ä}{base:Ï}
def Fun.ok{x qual:È}{st:ì}{f:Ç}{fd:å}{N ps:List È}{k:Nat}{sp:Sp}(F:Fun K x qual st f fd)(S:FnScope N ps (kF st))(len:∀vs H Q E,sp vs H Q E->vs.length=ps.length)
  (Bz:∀(pf:Ä) (A:Ò) (outer:List Ŭ) (s:Å) (H:Hp) (vs:List V) (Q:VK) (E:XK),Room k (A.deeper (û qual (kF st) s.heap.objs.size f pf))->sp vs H Q E->
   ∃t,PSs (uj bP P w K mg base N qual (kF st) f pf A outer s H E).nox (qA st) t/\t { nx:=λ_ H'=>Q .non H',rt:=Q } (start N vs) H):FnOk P w K mg base bP (k+1) f fd ps sp:=by
 obtain⟨oc,od,kV,doc,pm,an,pf,ct,A9,rfl,lk,AV⟩:=F.ex;refine Vs lk AV S len λA outer s H vs Q E hr AW=>?_
 obtain⟨t,h,q⟩:=Bz pf A outer s H vs Q E hr AW;exact⟨t,h.nox,q⟩
def Fun.binds{x qual:È}{st:ì}{f:Ç}{fd:å}{ps:List È}(F:Fun K x qual st f fd)
  (h:∀(kV doc pm:Ä) (an:Option Ç) (pf ct:Ä) (us:List Ä),us.length=ps.length->Ŷ (ò x qual (ui st) (qA st) (kF st) .none kV doc pm an pf ct) ⟨us,[]⟩=pure (ps.zip us)):Binds K fd ps []:=by
 obtain⟨oc,od,kV,doc,pm,an,pf,ct,A9,rfl,lk,AV⟩:=F.ex;exact .all (h kV doc pm an pf ct)
def XX{x qual:È}{st:ì}{f:Ç}{oc:Ä}{od an:Option Ç}{A9:Array (Option Ä)}{kV doc pm pf ct:Ä}(l:K.lookup f=À ⟨oc,od,.func (ò x qual (ui st) (qA st) (kF st) .none kV doc pm an pf ct),A9⟩)
  (c:Ċ K pf qual=Ã) (k:Ü K (.ref f)=Ã):Fun K x qual st f (ò x qual (ui st) (qA st) (kF st) .none kV doc pm an pf ct):=⟨⟨oc,od,kV,doc,pm,an,pf,ct,A9,rfl,l,c⟩,k⟩
end
end L2
end
set_option bootstrap.genMatcherCode false
set_option genSizeOf false
set_option genSizeOfSpec false
namespace L2
open PySem PySem.W PyProof.Rows
section
variable{prog:Í}{w:Ð}{A:Ò}{E:Ä->Å->Prop}
theorem mF{items:Array Ä}(hh:A.handled=Á)(AF:t≠it):∀(n i:Nat) (s:Å) (Q:List Ä->Å->Prop),s.heap.IsListIter it t i->s.heap.IsList t items->i+n<=items.size->
  (∀h' tk,h'.IsListIter it t (i+n)->h'.IsList t items->(∀b o,b≠it->s.heap.get? b=À o->h'.get? b=À o)->Q ((items.toList.drop i).take n) { s with heap:=h',toks:=tk })->Ê (Ì prog w) A (draw (.ref it) n) Q E s
 | 0,i,s,Q,hit,ht,_,hQ=>by
  show Ê _ _ (pure []) Q E s
  exact zy (by simpa using hQ s.heap s.toks hit ht λ_ _ _ e=>e)
 | n+1,i,s,Q,hit,ht,hle,hQ=>by
  have Ap:i<items.size:=by omega
  show Ê _ _ (ė (.ref it) >>= _) Q E s
  refine za ((xP hh it t AF items).item i s _ _ Ap ⟨hit,ht⟩ λv h1 tk hv st k1=>?_);rw[show items[i]?=À items[i] by simp[Ap]] at hv;cases hv;refine za (jf (mF hh AF n (i+1) _ _ st.1 st.2 ∅ λh2 GA a1 a2 a3=>zy ?_));have hd:items.toList.drop i=items[i]::items.toList.drop (i+1):=by simp[vG,Ap]
  have:=hQ h2 GA (by rw[show i+(n+1)=i+1+n by omega];exact a1) a2 λb o ne e=>a3 b o ne (k1 b o (by simpa using ne) e)
  rw[hd,List.take_succ_cons] at this;exact this
def pO{s:Å}{items:Array Ä}{targets:List (Bool×(Ä->Sem Unit))}(hh:A.handled=Á)(ht:s.heap.IsList t items)
  (hn:targets.length=items.size) (Fq:targets.findIdx? (·.1)=Á)
  (h:∀h' tk,(∀b o,s.heap.get? b=À o->h'.get? b=À o)->Ê (Ì prog w) A (assignInOrder (targets.map (·.2)) items.toList) Q E { s with heap:=h',toks:=tk }) :
  Ê (Ì prog w) A (unpack (.ref t) targets) Q E s:=by
 have Ap:t<s.heap.objs.size:=by obtain⟨o,ho,_⟩:=ht;exact zz ho
 unfold unpack;rw[hn,Fq];refine za (jf ?_);unfold unpackItems notIterableAtAll;refine za (za (Ĵ ht.typeIs PySem.slot_list_iter.lookup (zy ?_)));erw[qm,vA];refine za (jf (qY ht ?_));refine za (jf (mF hh (zT Ap) items.size 0 _ _ ⟨_,zL _ rfl,rfl,rfl⟩ (ht.push _) ∅ λh1 tk GB Lf k1=>?_));have Am:List.take items.size (List.drop 0 items.toList)=items.toList:=by
  rw[yK];exact xg (by simp)
 rw[Am,kY (by simp)];refine za (jf ((xP hh s.heap.objs.size t (zT Ap) items).done _ _ _ ⟨by simpa using GB,Lf⟩ λh2 GA k2=>?_));erw[Option.isSome_none,qm,vA];refine zy (h h2 GA λb o e=>?_);have ne:=zT (zz e);exact k2 b o (by simpa using ne) (k1 b o ne (zg _ e))
end
variable{X:Cx}{pos:õ}
def CW(K:NT)(n:Nat)(t:l6):TG:=λv σ H Q=>∃a xs,v=.ref a/\SqL K H a xs/\xs.length=n/\t xs σ H Q
def Xa(hc:X.calm=Ã)(h:PGs X es t)
  (hn:(Û es X.env).length=n) (Aa:(Û es X.env).findIdx? (·.1)=Á):PG X (.Tuple es k pos) (CW X.K n t):=by
 intro ag s σ H v u Q I r hw;obtain⟨a,xs,e1,hq,hl,hw⟩:=hw;subst e1;cases r;obtain⟨cb,rv,⟨o,m,g1,g2,g3,g4⟩,hz⟩:=I.list hq;rw[assign_Tuple];refine za (yr (pO (items:=cb.toArray) (I.ok.hd hc) ⟨o,g1,g2,m,g4⟩ (by simp[hn,<-hl,rv.length]) Aa λh' tk hx=>?_));have I1:Inv X ag σ H { s with heap:=h',toks:=tk }:=I.kept (t':=tk) λb o e=>hx b o e
 exact h ag _ σ H xs _ Q I1 (by simpa using rv) hw
end L2
namespace ML
open PySem PySem.Spec PyProof.Rows L2
inductive W where
 | non | bl (b:Bool) | int (i:Int) | str (x:È) | tup (l:List W) | fls (l:List W) | ref (n:Nat) | fdc (l:List (Key×W)) | fn (a:Ç)
 deriving Inhabited
inductive MO where
 | lst (l:List W) | dic (l:List (Key×W)) | ins (c:Nat) (fs:List (È×W)) | tdc (ks:List (List È))
structure Cl where
 c:Nat->Ç
 P:Í
 w:Ð
 xq:Hp->Prop:=λ_=>False
noncomputable def C8(P:Í)(w:Ð)(a:Ç)(xs:List (List È×Ç×Ä)):Ï->Prop:=λh=>∃o es ep,h.get? a=À o/\o.ExactDict/\o.data=.dict es ep/\es.toList=xs.map (entryOfKey (ĕ (strKind P w)))
abbrev MH:=List MO
abbrev M(α:Type):=MH->Option (α×MH)
abbrev En:=List (Option W)
abbrev ME:=En->M W
abbrev MT:=En->M Bool
noncomputable def bnd{α β:Type}(m:M α)(f:α->M β):M β:=λh=>match m h with
 | some (a,h')=>f a h'
 | none=>Á
def Qe{α β:Type}{m:M α}{f:α->M β}{h h':MH}{a:α}(e:m h=À (a,h')):bnd m f h=f a h':=by unfold bnd;rw[e]
def kd{α β:Type}{m:M α}{f:α->M β}{h:MH}{r:β×MH}(e:bnd m f h=À r):∃a h',m h=À (a,h')/\f a h'=À r:=by
 unfold bnd at e;split at e
 .rename_i a h' e'
  exact⟨a,h',e',e⟩
 .cases e
noncomputable def SqF(K:NT)(μ:List Ç)(H:Hp)(a:Ç)(vs:List V):Prop:=(Rd H a (.lst vs)/\a∉μ) \/
 ∃(o:æ) (cb:Array Ä) (n:Nat),K.lookup a=À o/\o.cls=.type "list" /\ o.dict=Á/\o.data=.seq cb n/\cb.size<=sizeLine/\Vals vs cb.toList
def SqF.sq{K:NT}{μ:List Ç}{H:Hp}(h:SqF K μ H a vs):SqL K H a vs:=h.elim (λh=>.inl h.1) .inr
noncomputable def SqD(μ:List Ç)(H:Hp)(a:Ç)(l:List (Key×V)):Prop:=Rd H a (.dK l)/\a∉μ
section rel
variable(K:NT)(cl:Cl)(μ:List Ç)(H:Hp)
mutual
inductive RW:W->V->Prop
 | non:RW .non .non
 | bl (b:Bool):RW (.bl b) (.bl b)
 | int (i:Int):RW (.int i) (.int i)
 | str (x:È):RW (.str x) (.str x)
 | tup {a:Ç} {vs:List V} {l:List W}:SqT K H a vs->RWs l vs->RW (.tup l) (.ref a)
 | ref {n:Nat} {a:Ç}:μ[n]?=À a->RW (.ref n) (.ref a)
 | fls {a:Ç} {vs:List V} {l:List W}:SqF K μ H a vs->RWs l vs->RW (.fls l) (.ref a)
 | fdc {a:Ç} {l:List (Key×W)} {l':List (Key×V)} {ws:List W} {vs:List V}:SqD μ H a l'->l.map (·.1)=l'.map (·.1)->ws=l.map (·.2)->vs=l'.map (·.2)->RWs ws vs->RW (.fdc l) (.ref a)
 | fn {a:Ç}:RW (.fn a) (.ref a)
inductive RWs:List W->List V->Prop
 | nil:RWs [] []
 | cons {w:W} {v:V} {l:List W} {vs:List V}:RW w v->RWs l vs->RWs (w::l) (v::vs)
end
noncomputable def RKs{κ:Type}(l:List (κ×W))(l':List (κ×V)):Prop:=l.map (·.1)=l'.map (·.1)/\RWs K μ H (l.map (·.2)) (l'.map (·.2))
noncomputable def OR(a:Ç):MO->Prop
 | .lst l=>∃vs,H a=À (.lst vs)/\RWs K μ H l vs
 | .dic l=>∃l',H a=À (.dK l')/\RKs K μ H l l'
 | .ins c fs=>∃dx DV,H a=À (.ins (cl.c c) dx DV)/\RKs K μ H fs DV
 | .tdc ks=>∃xs:List (List È×Ç×Ä),H a=À (.ext (C8 cl.P cl.w a xs))/\xs.map (·.1)=ks/\ks.Nodup/\(a==Ø)=Â/\RWs K μ H (ks.map λk=>.tup (k.map .str)) (xs.map λx=>.ref x.2.1)
structure HR(h:MH):Prop where
 len:μ.length=h.length
 nd:μ.Nodup
 ob:∀(n:Nat) (a:Ç) (o:MO),μ[n]?=À a->h[n]?=À o->OR K cl μ H a o
structure ER(ρ:En)(σ:L2.St):Prop where
 len:ρ.length=σ.length
 at_:∀(i:Nat) (w:W),ρ[i]?=À (À w)->∃v,σ[i]?=À (À v)/\RW K μ H w v
end rel
structure Ext(μ:List Ç)(H:Hp)(hG:List Ç)(H':Hp):Prop where
 pre:μ<+:hG
 fr:∀b o,H b=À o->b∉μ->H' b=À o/\b∉hG
section
variable{K:NT}{cl:Cl}{μ hG Ft:List Ç}{H H' DQ:Hp}{h h':MH}
def Ext.refl:Ext μ H μ H:=⟨kW _,λ_ _ e n=>⟨e,n⟩⟩
theorem Ext.trans(a:Ext μ H hG H')(b:Ext hG H' Ft DQ):Ext μ H Ft DQ:=
 ⟨a.pre.trans b.pre,λc o e n=>let ⟨e1,n1⟩:=a.fr c o e n;b.fr c o e1 n1⟩
def Ext.get(a:Ext μ H hG H'){n:Nat}(e:μ[n]?=À x):hG[n]?=À x:=by
 obtain⟨r,rfl⟩:=a.pre;rw[zV (zJ.mp e).1];exact e
theorem OR.some(q:OR K cl μ H a o):∃u,H a=À u/\mB (À u):=by
 cases o with
 | lst l=>obtain⟨vs,q,_⟩:=q;exact⟨_,q,trivial⟩
 | dic l=>obtain⟨l',q,_⟩:=q;exact⟨_,q,trivial⟩
 | ins c fs=>obtain⟨dx,DV,q,_⟩:=q;exact⟨_,q,trivial⟩
 | tdc ks=>obtain⟨xs,q,_⟩:=q;exact⟨_,q,trivial⟩
def HR.mem_some(R:HR K cl μ H h)(hm:a∈μ):∃u,H a=À u/\mB (À u):=by
 obtain⟨n,hn⟩:=vZ.mp hm;have hl:n<h.length:=by rw[<-R.len];exact(zJ.mp hn).1
 exact(R.ob n a h[n] hn (kO hl)).some
def HR.fresh(R:HR K cl μ H h)(e:H a=Á):a∉μ:=λhm=>by
 obtain⟨u,q,_⟩:=R.mem_some hm;rw[e] at q;cases q
def HR.notours(R:HR K cl μ H h)(e:H a=À u)(n:¬mB (À u)):a∉μ:=λhm=>by
 obtain⟨u',q,m⟩:=R.mem_some hm;rw[e] at q;cases q;exact n m
def HR.notup(R:HR K cl μ H h)(e:Rd H a (.tup xs)):a∉μ:=by
 rcases e with e | ⟨o,e⟩
 .exact R.notours e λz=>z
 .exact R.notours e λz=>z
def SqF.ext(E:Ext μ H hG H')(e:SqF K μ H a vs):SqF K hG H' a vs:=by
 rcases e with ⟨e | ⟨o,e⟩,n⟩ | e
 .exact .inl ⟨.inl (E.fr _ _ e n).1,(E.fr _ _ e n).2⟩
 .exact .inl ⟨.inr ⟨o,(E.fr _ _ e n).1⟩,(E.fr _ _ e n).2⟩
 .exact .inr e
def SqD.ext(E:Ext μ H hG H')(e:SqD μ H a l):SqD hG H' a l:=by
 obtain⟨e | ⟨o,e⟩,n⟩:=e
 .exact⟨.inl (E.fr _ _ e n).1,(E.fr _ _ e n).2⟩
 .exact⟨.inr ⟨o,(E.fr _ _ e n).1⟩,(E.fr _ _ e n).2⟩
def SqT.ext(R:HR K cl μ H h)(E:Ext μ H hG H')(e:SqT K H a xs):SqT K H' a xs:=by
 rcases e with e | e
 .have n:=R.notup e
  rcases e with e | ⟨o,e⟩
  .exact .inl (.inl (E.fr _ _ e n).1)
  .exact .inl (.inr ⟨o,(E.fr _ _ e n).1⟩)
 .exact .inr e
theorem RW.ext(R:HR K cl μ H h)(E:Ext μ H hG H'){w:W}(r:RW K μ H w v):RW K hG H' w v:=
 RW.rec (motive_1:=λw v _=>RW K hG H' w v) (motive_2:=λl vs _=>RWs K hG H' l vs) .non .bl .int .str (λs _ r=>.tup (SqT.ext R E s) r) (λe=>.ref (E.get e)) (λs _ r=>.fls (SqF.ext E s) r) (λs k a b _ r=>.fdc (SqD.ext E s) k a b r) .fn .nil (λ_ _ a b=>.cons a b) r
theorem RWs.ext(R:HR K cl μ H h)(E:Ext μ H hG H'){l:List W}(r:RWs K μ H l vs):RWs K hG H' l vs:=
 RWs.rec (motive_1:=λw v _=>RW K hG H' w v) (motive_2:=λl vs _=>RWs K hG H' l vs) .non .bl .int .str (λs _ r=>.tup (SqT.ext R E s) r) (λe=>.ref (E.get e)) (λs _ r=>.fls (SqF.ext E s) r) (λs k a b _ r=>.fdc (SqD.ext E s) k a b r) .fn .nil (λ_ _ a b=>.cons a b) r
theorem ER.ext(R:HR K cl μ H h)(E:Ext μ H hG H')(e:ER K μ H ρ σ):ER K hG H' ρ σ:=
 ⟨e.len,λi w q=>let ⟨v,q1,r⟩:=e.at_ i w q;⟨v,q1,r.ext R E⟩⟩
theorem RWs.length:∀{l:List W} {vs:List V},RWs K μ H l vs->l.length=vs.length
 | _,_,.nil=>rfl
 | _,_,.cons _ t=>jY (· + 1) (RWs.length t)
theorem RWs.get:∀{l:List W} {vs:List V} {i:Nat} {w:W},RWs K μ H l vs->l[i]?=À w->∃v,vs[i]?=À v/\RW K μ H w v
 | _,_,_,_,.nil,e=>by simp at e
 | _,_,0,_,.cons r _,e=>by simp at e;subst e;exact⟨_,rfl,r⟩
 | _,_,i+1,w,.cons _ t,e=>by
  obtain⟨v,h1,h2⟩:=RWs.get (i:=i) (w:=w) t (by simpa using e);exact⟨v,by simpa using h1,h2⟩
theorem RWs.append:∀{l l':List W} {vs D7:List V},RWs K μ H l vs->RWs K μ H l' D7->RWs K μ H (l++l') (vs++D7)
 | _,_,_,_,.nil,s=>s
 | _,_,_,_,.cons r t,s=>.cons r (RWs.append t s)
theorem RWs.take:∀{l:List W} {vs:List V} (n:Nat),RWs K μ H l vs->RWs K μ H (l.take n) (vs.take n)
 | _,_,0,_=>.nil
 | _,_,_+1,.nil=>.nil
 | _,_,n+1,.cons r t=>.cons r (RWs.take n t)
theorem RWs.drop:∀{l:List W} {vs:List V} (n:Nat),RWs K μ H l vs->RWs K μ H (l.drop n) (vs.drop n)
 | _,_,0,r=>r
 | _,_,_+1,.nil=>.nil
 | _,_,n+1,.cons _ t=>RWs.drop n t
theorem RWs.set(r:RW K μ H w v):∀{l:List W} {vs:List V} (i:Nat),RWs K μ H l vs->RWs K μ H (l.set i w) (vs.set i v)
 | _,_,_,.nil=>.nil
 | _,_,0,.cons _ t=>.cons r t
 | _,_,i+1,.cons q t=>.cons q (RWs.set r i t)
theorem RWs.dropLast{l:List W}{vs:List V}(r:RWs K μ H l vs):RWs K μ H l.dropLast vs.dropLast:=by
 induction l generalizing vs with
 | nil=>cases r;exact .nil
 | cons w l ih=>cases r with | cons r t=>cases t with
  | nil=>exact .nil
  | cons a b=>exact .cons r (ih (.cons a b))
theorem RWs.rep(r:RWs K μ H l vs):∀k:Nat,RWs K μ H (Æ k l).flatten (Æ k vs).flatten
 | 0=>.nil
 | k+1=>by
  rw[jU,jU,qx,qx];exact r.append (RWs.rep r k)
theorem RWs.ints:∀ns:List Int,RWs K μ H (ns.map W.int) (ns.map V.int)
 | []=>.nil
 | n::r=>.cons (.int n) (RWs.ints r)
theorem OR.ext(R:HR K cl μ H h)(E:Ext μ H hG H')(e:H' a=H a)(q:OR K cl μ H a o):OR K cl hG H' a o:=by
 cases o with
 | lst l=>obtain⟨vs,q,r⟩:=q;exact⟨vs,e.trans q,r.ext R E⟩
 | dic l=>obtain⟨l',q,k,r⟩:=q;exact⟨l',e.trans q,k,r.ext R E⟩
 | ins c fs=>obtain⟨dx,DV,q,k,r⟩:=q;exact⟨dx,DV,e.trans q,k,r.ext R E⟩
 | tdc ks=>obtain⟨xs,q,k1,k2,k3,r⟩:=q;exact⟨xs,e.trans q,k1,k2,k3,r.ext R E⟩
def Ext.new(hp:H p=Á):Ext μ H (μ++[p]) (upd H p u):=
 ⟨je _ _,λb o e n=>by
  have ne:b≠p:=qo e hp
  exact⟨by rw[kK ne];exact e,by simp[n,ne]⟩⟩
def Ext.side(hp:H p=Á):Ext μ H μ (upd H p u):=
 ⟨kW _,λb o e n=>⟨by rw[kK (qo e hp)];exact e,n⟩⟩
theorem HR.side(R:HR K cl μ H h)(hp:H p=Á):HR K cl μ (upd H p u) h:=
 have hm:=R.fresh hp;⟨R.len,R.nd,λn a o e1 e2=>OR.ext R (Ext.side hp) (kK (by rintro rfl;exact hm (qW e1))) (R.ob n a o e1 e2)⟩
theorem HR.new(R:HR K cl μ H h)(hp:H p=Á)(q:OR K cl (μ++[p]) (upd H p u) p o):HR K cl (μ++[p]) (upd H p u) (h++[o]):=by
 have hm:=R.fresh hp;refine⟨by simp[R.len],?_,λn a o' e1 e2=>?_⟩
 .rw[List.nodup_append]
  exact⟨R.nd,by simp,by simp;exactλa ha=>by rintro rfl;exact hm ha⟩
 .by_cases hn:n<μ.length
  .rw[zV hn] at e1
   rw[zV (by rw[<-R.len];exact hn)] at e2;exact OR.ext R (Ext.new hp) (kK (by rintro rfl;exact hm (qW e1))) (R.ob n a o' e1 e2)
  .rw[kj ∅] at e1
   rw[kj (by rw[<-R.len];omega)] at e2;rw[R.len] at e1;have:n-h.length=0:=by
    by_cases z:n-h.length=0
    .exact z
    .rw[qt (by simp;omega)] at e1;cases e1
   rw[this] at e1 e2;simp at e1 e2;subst e1;subst e2;exact q
def Ext.put{n:Nat}{a:Ç}(hn:μ[n]?=À a):Ext μ H μ (upd H a u):=
 ⟨kW _,λb o e m=>⟨by rw[kK (by rintro rfl;exact m (qW hn))];exact e,m⟩⟩
theorem HR.put{n:Nat}{a:Ç}(R:HR K cl μ H h)(hn:μ[n]?=À a)(q:OR K cl μ (upd H a u) a o):HR K cl μ (upd H a u) (h.set n o):=by
 refine⟨by simp[R.len],R.nd,λm b o' e1 e2=>?_⟩;by_cases hm:m=n
 .subst hm
  rw[hn] at e1;cases e1;rw[jc (by rw[<-R.len];exact(zJ.mp hn).1)] at e2;cases e2;exact q
 .rw[jd (kZ hm)] at e2
  have ne:b≠a:=by
   rintro rfl;obtain⟨h1,Eh⟩:=zJ.mp e1;obtain⟨h2,Lg⟩:=zJ.mp hn;exact hm ((vQ R.nd).mp (Eh.trans Lg.symm))
  exact OR.ext R (Ext.put hn) (kK ne) (R.ob m b o' e1 e2)
end
noncomputable def KQ(K:NT)(cl:Cl)(μ:List Ç)(H:Hp)(h':MH)(w:W)(Q:VK):Prop:=
 ∀hG H' v,Ext μ H hG H'->HR K cl hG H' h'->RW K hG H' w v->Q v H'
inductive tM(K:NT)(cl:Cl)(m:ME)(σ:L2.St)(H:Hp)(Q:VK):Prop
 | mk (μ:List Ç) (h:MH) (ρ:En) (w:W) (h':MH) (p0:HR K cl μ H h) (p1:ER K μ H ρ σ) (p2:m ρ h=À (w,h')) (p3:KQ K cl μ H h' w Q):tM K cl m σ H Q
inductive tMT(K:NT)(cl:Cl)(m:MT)(σ:L2.St)(H:Hp)(Q:Bool->Hp->Prop):Prop
 | mk (μ:List Ç) (h:MH) (ρ:En) (b:Bool) (h':MH) (p0:HR K cl μ H h) (p1:ER K μ H ρ σ) (p2:m ρ h=À (b,h')) (p3:∀hG H',Ext μ H hG H'->HR K cl hG H' h'->Q b H'):tMT K cl m σ H Q
abbrev SE(X:Cx)(cl:Cl)(e:Ë)(m:ME):Prop:=PE X e (tM X.K cl m)
abbrev ST(X:Cx)(cl:Cl)(e:Ë)(m:MT):Prop:=PT X e (tMT X.K cl m)
def PE.wk(h:PE X e t)(w:∀σ H Q,t' σ H Q->t σ H Q):PE X e t':=λag s σ H Q I q=>h ag s σ H Q I (w σ H Q q)
def PT.wk(h:PT X e t)(w:∀σ H Q,t' σ H Q->t σ H Q):PT X e t':=λag s σ H Q I q=>h ag s σ H Q I (w σ H Q q)
def PA.wk(h:PA X e t)(w:∀σ H Q,t' σ H Q->t σ H Q):PA X e t':=λpos ag s σ H Q I q=>h pos ag s σ H Q I (w σ H Q q)
def PS.wk(h:PS X e t)(w:∀D σ H,t' D σ H->t D σ H):PS X e t':=λag s σ H D I q=>h ag s σ H D I (w D σ H q)
def PSs.wk(h:PSs X e t)(w:∀D σ H,t' D σ H->t D σ H):PSs X e t':=λag s σ H D I q=>h ag s σ H D I (w D σ H q)
noncomputable def zd(i:Nat):ME:=λρ h=>match ρ[i]? with
 | some (À w)=>À (w,h)
 | _=>Á
noncomputable def eC(w:W):ME:=λ_ h=>À (w,h)
noncomputable abbrev LW(i:Int):ME:=eC (.int i)
noncomputable abbrev Mf(s:È):ME:=eC (.str s)
noncomputable def zk(f:W->W->M W)(a b:ME):ME:=λρ=>bnd (a ρ) λx=>bnd (b ρ) λy=>f x y
noncomputable def jp(f:W->M W)(a:ME):ME:=λρ=>bnd (a ρ) f
noncomputable def ke:List ME->En->M (List W)
 | [],_=>λh=>À ([],h)
 | m::r,ρ=>bnd (m ρ) λx=>bnd (ke r ρ) λxs h=>À (x::xs,h)
noncomputable def zi(f:List W->M W)(as:List ME):ME:=λρ=>bnd (ke as ρ) f
noncomputable def wb(w:W):M Bool:=λh=>match w with
 | .bl b=>À (b,h)
 | _=>Á
noncomputable def zI(a:ME):MT:=λρ=>bnd (a ρ) wb
noncomputable def uv(a b:MT):MT:=λρ=>bnd (a ρ) λx=>if x=Ã then b ρ else λh=>À (Â,h)
noncomputable def vE(a b:MT):MT:=λρ=>bnd (a ρ) λx=>if x=Ã then (λh=>À (Ã,h)) else b ρ
noncomputable def yn(a:MT):MT:=λρ=>bnd (a ρ) λx h=>À (!x,h)
noncomputable def dJ(a b:ME):ME:=λρ=>bnd (a ρ) λx=>bnd (wb x) λc=>if c=Ã then b ρ else λh=>À (.bl Â,h)
noncomputable def VC(a b:ME):ME:=λρ=>bnd (a ρ) λx=>bnd (wb x) λc=>if c=Ã then (λh=>À (.bl Ã,h)) else b ρ
noncomputable def tZ(a:ME):ME:=λρ=>bnd (a ρ) λx=>bnd (wb x) λc h=>À (.bl (!c),h)
noncomputable def oO(t:MT)(a b:ME):ME:=λρ=>bnd (t ρ) λc=>if c=Ã then a ρ else b ρ
noncomputable def uq(f g:W->W->M W)(a b c:ME):ME:=λρ=>bnd (a ρ) λx=>bnd (b ρ) λy=>bnd (f x y) λz=>bnd (wb z) λk=>if k=Ã then bnd (c ρ) λu=>g y u else λh=>À (.bl Â,h)
inductive rM(K:NT)(cl:Cl)(f:W->W->M W)(x:V)(y:V)(H:Hp)(Q:VK):Prop
 | mk (μ:List Ç) (h:MH) (wx:W) (wy:W) (w:W) (h':MH) (p0:HR K cl μ H h) (p1:RW K μ H wx x) (p2:RW K μ H wy y) (p3:f wx wy h=À (w,h')) (p4:KQ K cl μ H h' w Q):rM K cl f x y H Q
inductive rM1(K:NT)(cl:Cl)(f:W->M W)(x:V)(H:Hp)(Q:VK):Prop
 | mk (μ:List Ç) (h:MH) (wx:W) (w:W) (h':MH) (p0:HR K cl μ H h) (p1:RW K μ H wx x) (p2:f wx h=À (w,h')) (p3:KQ K cl μ H h' w Q):rM1 K cl f x H Q
inductive rMs(K:NT)(cl:Cl)(f:List W->M W)(xs:List V)(H:Hp)(Q:VK):Prop
 | mk (μ:List Ç) (h:MH) (ws:List W) (w:W) (h':MH) (p0:HR K cl μ H h) (p1:RWs K μ H ws xs) (p2:f ws h=À (w,h')) (p3:KQ K cl μ H h' w Q):rMs K cl f xs H Q
inductive tMA(K:NT)(cl:Cl)(ms:List ME)(σ:L2.St)(H:Hp)(Q:List V->Hp->Prop):Prop
 | mk (μ:List Ç) (h:MH) (ρ:En) (ws:List W) (h':MH) (p0:HR K cl μ H h) (p1:ER K μ H ρ σ) (p2:ke ms ρ h=À (ws,h')) (p3:∀hG H' vs,Ext μ H hG H'->HR K cl hG H' h'->RWs K hG H' ws vs->Q vs H'):tMA K cl ms σ H Q
abbrev SA(X:Cx)(cl:Cl)(es:List Ë)(ms:List ME):Prop:=PA X es (tMA X.K cl ms)
section
variable{X:Cx}{cl:Cl}{a b c:Ë}{ma mb mc:ME}{pos:õ}{μ hG:List Ç}{H H':Hp}{h h':MH}
def KQ.pure{w:W}{v:V}{Q:VK}{K:NT}(k:KQ K cl μ H h w Q)(R:HR K cl μ H h)(r:RW K μ H w v):Q v H:=k μ H v .refl R r
def KQ.ext{w:W}{Q:VK}{K:NT}(E:Ext μ H hG H')(k:KQ K cl μ H h w Q):KQ K cl hG H' h w Q:=λhX H2 v E2 R2 r2=>k hX H2 v (E.trans E2) R2 r2
def Z3(i:Nat)(hN:↥(X.N[i]?=À x))(hv:gD X.env.scope x:=by first | exact Or.inl rfl | exact Or.inr (Or.inl rfl) | exact Or.inr (Or.inr rfl))
  (hd:⇑((x==("__debug__":È))=Â)) (AV:⇑((x==("__classdict__":È))=Â)):SE X cl (.Name x pos) (zd i):=
 PE.wk (Jq (i:=i) hN hv hd AV) λσ H Q q0=>by
  obtain⟨μ,h,ρ,w,h',R,er,e,k⟩:=q0;unfold zd at e;split at e
  .rename_i w' q
   cases e;obtain⟨v,q1,r⟩:=er.at_ i _ q;exact⟨v,q1,k.pure R r⟩
  .cases e
def pd{w:W}{v:V}(he:PE X a (tC v))(r:∀μ H,RW X.K μ H w v):SE X cl a (eC w):=
 PE.wk he λσ H Q q0=>by
  obtain⟨μ,h,ρ,w',h',R,er,e,k⟩:=q0;cases e;exact k.pure R (r μ H)
def UM{j}:SE X cl (.Constant (.int i) j pos) (eC (.int i)):=pd XA λ_ _=>.int i
def m9{j}:SE X cl (.Constant (.bool i) j pos) (eC (.bl i)):=pd B3 λ_ _=>.bl i
def ZL{j}:SE X cl (.Constant .none j pos) (eC .non):=pd Uh λ_ _=>.non
def KI{j}:SE X cl (.Constant (.str i) j pos) (eC (.str i)):=pd UK λ_ _=>.str i
def Yz(hm:X.mg x=À u)(r:RelV v u)(rw:∀μ H,RW X.K μ H w v)(hg:↥(Gl X x))(hd:⇑((x==("__debug__":È))=Â)):SE X cl (.Name x pos) (eC w):=
 pd (uQ hg hm r hd) rw
def eJ{K:NT}{f:W->W->M W}(q:tM K cl (zk f ma mb) σ H Q):Z8 (rM K cl f) (tM K cl ma) (tM K cl mb) σ H Q:=by
 obtain⟨μ,h,ρ,w,h',R,er,e,k⟩:=q;obtain⟨x,h1,e1,e⟩:=kd e;obtain⟨y,h2,e2,e3⟩:=kd e;exact⟨μ,h,ρ,x,h1,R,er,e1,λcx H1 vx E1 R1 rx=>⟨cx,h1,ρ,y,h2,R1,er.ext R E1,e2,λhX H2 vy E2 R2 ry=>⟨hX,h2,x,y,w,h',R2,rx.ext R1 E2,ry,e3,k.ext (E1.trans E2)⟩⟩⟩
def BG(ho:kS X (Ù op) (rM X.K cl f))(ha:SE X cl a ma)(hb:SE X cl b mb):SE X cl (.BinOp a op b pos) (zk f ma mb):=
 PE.wk (BM ho ha hb) λσ H Q q=>eJ q
def UE(ho:kS X (Î op) (rM X.K cl f))(ha:SE X cl a ma)(hb:SE X cl b mb)(hm:Ý op b=Â:=by first | exact nomark _ | rfl):SE X cl (.Compare a [op] [b] pos) (zk f ma mb):=
 PE.wk (rN ho ha hb hm) λσ H Q q=>eJ q
def BS(ho:ZI X (unaryOp op) (rM1 X.K cl f))(ha:SE X cl a ma):SE X cl (.UnaryOp op a pos) (jp f ma):=
 PE.wk (Cf ho ha) λσ H Q q0=>by
  obtain⟨μ,h,ρ,w,h',R,er,e,k⟩:=q0;obtain⟨x,h1,e1,e⟩:=kd e;exact⟨μ,h,ρ,x,h1,R,er,e1,λcx H1 vx E1 R1 rx=>⟨cx,h1,x,w,h',R1,rx,e,k.ext E1⟩⟩
theorem RW.bl_of{K:NT}{k:Bool}(r:RW K μ H (.bl k) v):v=.bl k:=by cases r;rfl
def fP{w:W}{b:Bool}(e:wb w h=À (b,h')):w=.bl b/\h=h':=by
 unfold wb at e;split at e
 .cases e;exact⟨rfl,rfl⟩
 .cases e
def cE{K:NT}{σ:L2.St}(q:tMT K cl (zI ma) σ H Q):tM K cl ma σ H λx H1=>∃c,x=.bl c/\Q c H1:=by
 obtain⟨μ,h,ρ,b,h',R,er,e,k⟩:=q;obtain⟨x,h1,e1,e⟩:=kd e;obtain⟨rfl,rfl⟩:=fP e;exact⟨μ,h,ρ,_,h1,R,er,e1,λcx H1 vx E1 R1 rx=>⟨b,rx.bl_of,k cx H1 E1 R1⟩⟩
def Ke(ha:SE X cl a ma)(he:∀whole,isTrue a X.env whole=(do let v <-whole;ŗ a.pos;holding [v] (truthy v)):=by intro _;rfl):ST X cl a (zI ma):=
 PT.wk (Xf ha he) λσ H Q q=>cE q
def KA(ho:kS X (Î op) (rM X.K cl f))(ha:SE X cl a ma)(hb:SE X cl b mb)(hm:Ý op b=Â:=by first | exact nomark _ | rfl):ST X cl (.Compare a [op] [b] pos) (zI (zk f ma mb)):=
 PT.wk (rA ho ha hb hm) λσ H Q q=>by
  obtain⟨μ,h,ρ,w,h',R,er,e,k⟩:=cE q;exact eJ ⟨μ,h,ρ,w,h',R,er,e,k⟩
def iE{K:NT}{f g:W->W->M W}(q:tM K cl (uq f g ma mb mc) σ H Q):oB (rM K cl f) (rM K cl g) (tM K cl ma) (tM K cl mb) (tM K cl mc) σ H Q:=by
 obtain⟨μ,h,ρ,w,h',R,er,e,k⟩:=q;obtain⟨x,h1,e1,e⟩:=kd e;obtain⟨y,h2,e2,e⟩:=kd e;obtain⟨z,h3,e3,e⟩:=kd e;obtain⟨c,h4,e4,e⟩:=kd e;obtain⟨rfl,rfl⟩:=fP e4;refine⟨μ,h,ρ,x,h1,R,er,e1,λcx H1 vx E1 R1 rx=>⟨cx,h1,ρ,y,h2,R1,er.ext R E1,e2,λhX H2 vy E2 R2 ry=>⟨hX,h2,x,y,_,h3,R2,rx.ext R1 E2,ry,e3,λAC H3 vz E3 R3 rz=>⟨c,rz.bl_of,?_⟩⟩⟩⟩;cases c with
 | true=>
  rw[zW rfl] at e ⊢;obtain⟨u,h5,e5,e6⟩:=kd e;exact⟨AC,h3,ρ,u,h5,R3,((er.ext R E1).ext R1 E2).ext R2 E3,e5,λLh H4 vu E4 R4 ru=>⟨Lh,h5,y,u,w,h',R4,(ry.ext R2 E3).ext R3 E4,ru,e6,k.ext (E1.trans (E2.trans (E3.trans E4)))⟩⟩
 | false=>
  rw[kY zO] at e ⊢;cases e;exact k AC H3 _ (E1.trans (E2.trans E3)) R3 (.bl Â)
def Qc(ho:kS X (Î op) (rM X.K cl f))(Az:kS X (Î Aw) (rM X.K cl g))(ha:SE X cl a ma)(hb:SE X cl b mb)(hc:SE X cl c mc)
  (hm:Ň [op,Aw] [b,c]=Â:=by with_unfolding_all rfl):SE X cl (.Compare a [op,Aw] [b,c] pos) (uq f g ma mb mc):=
 PE.wk (QN ho Az ha hb hc hm) λσ H Q q=>iE q
def Vc(ho:kS X (Î op) (rM X.K cl f))(Az:kS X (Î Aw) (rM X.K cl g))(ha:SE X cl a ma)(hb:SE X cl b mb)(hc:SE X cl c mc)
  (hm:Ň [op,Aw] [b,c]=Â:=by with_unfolding_all rfl):ST X cl (.Compare a [op,Aw] [b,c] pos) (zI (uq f g ma mb mc)):=
 PT.wk (QM ho Az ha hb hc hm) λσ H Q q=>by
  obtain⟨μ,h,ρ,w,h',R,er,e,k⟩:=cE q;exact iE ⟨μ,h,ρ,w,h',R,er,e,k⟩
abbrev SW(X:Cx)(cl:Cl)(e:Ë)(m:MT):Prop:=PW X e (tMT X.K cl m)
def PW.wk(h:PW X e t)(w:∀σ H Q,t' σ H Q->t σ H Q):PW X e t':=λwh ag s σ H Q I q=>h wh ag s σ H Q I (w σ H Q q)
variable{ta tb:MT}{rest:List Ë}
def sE(ha:ST X cl a ta):SW X cl (.BoolOp .And [a] pos) ta:=pw_and1 ha
def XH(ha:ST X cl a ta):SW X cl (.BoolOp .Or [a] pos) ta:=pw_or1 ha
def ZW(ha:ST X cl a ta)(hb:SW X cl (.BoolOp .And (b::rest) pos) tb):SW X cl (.BoolOp .And (a::b::rest) pos) (uv ta tb):=
 PW.wk (pw_and ha hb) λσ H Q q0=>by
  obtain⟨μ,h,ρ,w,h',R,er,e,k⟩:=q0;obtain⟨x,h1,e1,e⟩:=kd e;refine⟨μ,h,ρ,x,h1,R,er,e1,λcx H1 E1 R1=>?_⟩;cases x with
  | true=>rw[zW rfl] at e ⊢;exact⟨cx,h1,ρ,w,h',R1,er.ext R E1,e,λhX H2 E2 R2=>k hX H2 (E1.trans E2) R2⟩
  | false=>rw[kY zO] at e ⊢;cases e;exact k cx H1 E1 R1
def Cd(ha:ST X cl a ta)(hb:SW X cl (.BoolOp .Or (b::rest) pos) tb):SW X cl (.BoolOp .Or (a::b::rest) pos) (vE ta tb):=
 PW.wk (pw_or ha hb) λσ H Q q0=>by
  obtain⟨μ,h,ρ,w,h',R,er,e,k⟩:=q0;obtain⟨x,h1,e1,e⟩:=kd e;refine⟨μ,h,ρ,x,h1,R,er,e1,λcx H1 E1 R1=>?_⟩;cases x with
  | false=>rw[kY zO] at e ⊢;exact⟨cx,h1,ρ,w,h',R1,er.ext R E1,e,λhX H2 E2 R2=>k hX H2 (E1.trans E2) R2⟩
  | true=>rw[zW rfl] at e ⊢;cases e;exact k cx H1 E1 R1
def rF(h:SW X cl a ta):ST X cl a ta:=h.pt
def X9(ha:ST X cl a ta):ST X cl (.UnaryOp .Not a pos) (yn ta):=
 PT.wk (Bq ha) λσ H Q q0=>by
  obtain⟨μ,h,ρ,w,h',R,er,e,k⟩:=q0;obtain⟨x,h1,e1,e⟩:=kd e;cases e;exact⟨μ,h,ρ,x,_,R,er,e1,λcx H1 E1 R1=>k cx H1 E1 R1⟩
def Bi{op}(h:SE X cl a ma):SE X cl (.BoolOp op [a] pos) ma:=Y8 h
def Xb(ha:SE X cl a ma)(hb:SE X cl (.BoolOp .And (b::rest) pos) mb):SE X cl (.BoolOp .And (a::b::rest) pos) (dJ ma mb):=
 PE.wk (Xh ha hb) λσ H Q q0=>by
  obtain⟨μ,h,ρ,w,h',R,er,e,k⟩:=q0;obtain⟨x,h1,e1,e⟩:=kd e;obtain⟨c,h2,e2,e⟩:=kd e;obtain⟨rfl,rfl⟩:=fP e2;refine⟨μ,h,ρ,_,h1,R,er,e1,λcx H1 vx E1 R1 rx=>⟨c,rx.bl_of,?_⟩⟩;cases c with
  | true=>rw[zW rfl] at e ⊢;exact⟨cx,h1,ρ,w,h',R1,er.ext R E1,e,k.ext E1⟩
  | false=>rw[kY zO] at e ⊢;cases e;exact k cx H1 _ E1 R1 (.bl Â)
def BK(ha:SE X cl a ma)(hb:SE X cl (.BoolOp .Or (b::rest) pos) mb):SE X cl (.BoolOp .Or (a::b::rest) pos) (VC ma mb):=
 PE.wk (B7 ha hb) λσ H Q q0=>by
  obtain⟨μ,h,ρ,w,h',R,er,e,k⟩:=q0;obtain⟨x,h1,e1,e⟩:=kd e;obtain⟨c,h2,e2,e⟩:=kd e;obtain⟨rfl,rfl⟩:=fP e2;refine⟨μ,h,ρ,_,h1,R,er,e1,λcx H1 vx E1 R1 rx=>⟨c,rx.bl_of,?_⟩⟩;cases c with
  | false=>rw[kY zO] at e ⊢;exact⟨cx,h1,ρ,w,h',R1,er.ext R E1,e,k.ext E1⟩
  | true=>rw[zW rfl] at e ⊢;cases e;exact k cx H1 _ E1 R1 (.bl Ã)
def Xm(ha:SE X cl a ma):SE X cl (.UnaryOp .Not a pos) (tZ ma):=
 PE.wk (UA ha) λσ H Q q0=>by
  obtain⟨μ,h,ρ,w,h',R,er,e,k⟩:=q0;obtain⟨x,h1,e1,e⟩:=kd e;obtain⟨c,h2,e2,e⟩:=kd e;obtain⟨rfl,rfl⟩:=fP e2;cases e;exact⟨μ,h,ρ,_,_,R,er,e1,λcx H1 vx E1 R1 rx=>⟨c,rx.bl_of,k cx H1 _ E1 R1 (.bl _)⟩⟩
def BO(ht:ST X cl t ta)(ha:SE X cl a ma)(hb:SE X cl b mb):SE X cl (.IfExp t a b pos) (oO ta ma mb):=
 PE.wk (QC ht ha hb) λσ H Q q0=>by
  obtain⟨μ,h,ρ,w,h',R,er,e,k⟩:=q0;obtain⟨x,h1,e1,e⟩:=kd e;refine⟨μ,h,ρ,x,h1,R,er,e1,λcx H1 E1 R1=>?_⟩;cases x with
  | true=>rw[zW rfl] at e ⊢;exact⟨cx,h1,ρ,w,h',R1,er.ext R E1,e,k.ext E1⟩
  | false=>rw[kY zO] at e ⊢;exact⟨cx,h1,ρ,w,h',R1,er.ext R E1,e,k.ext E1⟩
variable{es:List Ë}{ms:List ME}{e:Ë}{m:ME}
def am:SA X cl [] []:=PA.wk oD λσ H Q q0=>by
 obtain⟨μ,h,ρ,ws,h',R,er,e,k⟩:=q0;cases e;exact k μ H [] .refl R .nil
def yv(ha:SE X cl e m)(hr:SA X cl es ms)(hs:↥(É (e::es) X.env=(Â,eval e X.env)::É es X.env)):SA X cl (e::es) (m::ms):=
 PA.wk (d7 ha hr hs) λσ H Q q0=>by
  obtain⟨μ,h,ρ,ws,h',R,er,e,k⟩:=q0;obtain⟨x,h1,e1,e⟩:=kd e;obtain⟨xs,h2,e2,e⟩:=kd e;cases e;exact⟨μ,h,ρ,x,h1,R,er,e1,λcx H1 vx E1 R1 rx=>⟨cx,h1,ρ,xs,_,R1,er.ext R E1,e2,λhX H2 vs E2 R2 rs=>k hX H2 _ (E1.trans E2) R2 (.cons (rx.ext R1 E2) rs)⟩⟩
noncomputable def cap:Nat:=1000000
def xy:cap<=sizeLine:=by decide
noncomputable def zw:List W->M W:=λws h=>if ws.length<=cap then À (.tup ws,h) else Á
noncomputable def kf:List W->M W:=λws h=>if ws.length<=cap then À (.fls ws,h) else Á
noncomputable def vj:List W->M W:=λws h=>if ws.length<=cap then À (.ref h.length,h++[.lst ws]) else Á
theorem KQ.tup{K:NT}{ws:List W}{xs:List V}{Q:VK}{p:Ç}(k:KQ K cl μ H h (.tup ws) Q)(R:HR K cl μ H h)(rs:RWs K μ H ws xs)(hp:H p=Á):Q (.ref p) (upd H p (.tup xs)):=
 k μ _ _ (.side hp) (R.side hp) (.tup (SqT.of va) (rs.ext R (.side hp)))
theorem KQ.lst{K:NT}{ws:List W}{xs:List V}(k:KQ K cl μ H (h++[.lst ws]) (.ref h.length) Q)(R:HR K cl μ H h)(rs:RWs K μ H ws xs)(hp:H p=Á):Q (.ref p) (upd H p (.lst xs)):=
 k (μ++[p]) _ _ (.new hp) (R.new hp ⟨xs,va,rs.ext R (.new hp)⟩) (.ref (by rw[<-R.len];simp))
theorem KQ.fls{K:NT}{ws:List W}{xs:List V}{Q:VK}{p:Ç}(k:KQ K cl μ H h (.fls ws) Q)(R:HR K cl μ H h)(rs:RWs K μ H ws xs)(hp:H p=Á):Q (.ref p) (upd H p (.lst xs)):=
 k μ _ _ (.side hp) (R.side hp) (.fls (.inl ⟨.inl va,R.fresh hp⟩) (rs.ext R (.side hp)))
def Xo{x1}(hs:SA X cl es ms):SE X cl (.Tuple es x1 pos) (zi zw ms):=
 PE.wk (Xn hs) λσ H Q q0=>by
  obtain⟨μ,h,ρ,w,h',R,er,e,k⟩:=q0;obtain⟨ws,h1,e1,e⟩:=kd e;refine⟨μ,h,ρ,ws,h1,R,er,e1,λcx H1 vs E1 R1 rs=>?_⟩;unfold zw at e;split at e
  .rename_i hl
   cases e;exact⟨zG (by rw[<-rs.length];exact hl) xy,λp hp=>(k.ext E1).tup R1 rs hp⟩
  .cases e
def nu(hs:SA X cl es ms):SE X cl (.List es pos) (zi kf ms):=
 PE.wk (JL hs) λσ H Q q0=>by
  obtain⟨μ,h,ρ,w,h',R,er,e,k⟩:=q0;obtain⟨ws,h1,e1,e⟩:=kd e;refine⟨μ,h,ρ,ws,h1,R,er,e1,λcx H1 vs E1 R1 rs=>?_⟩;unfold kf at e;split at e
  .rename_i hl
   cases e;exact⟨zG (by rw[<-rs.length];exact hl) xy,λp hp=>(k.ext E1).fls R1 rs hp⟩
  .cases e
def XZ(hs:SA X cl es ms):SE X cl (.List es pos) (zi vj ms):=
 PE.wk (JL hs) λσ H Q q0=>by
  obtain⟨μ,h,ρ,w,h',R,er,e,k⟩:=q0;obtain⟨ws,h1,e1,e⟩:=kd e;refine⟨μ,h,ρ,ws,h1,R,er,e1,λcx H1 vs E1 R1 rs=>?_⟩;unfold vj at e;split at e
  .rename_i hl
   cases e;exact⟨zG (by rw[<-rs.length];exact hl) xy,λp hp=>(k.ext E1).lst R1 rs hp⟩
  .cases e
end
noncomputable def uZ(K:NT)(cl:Cl)(f:List W->M W):Sp:=λvs H Q _=>rMs K cl f vs H Q
mutual
noncomputable def low(m:Nat):W->Bool
 | .tup l=>lows m l
 | .fls l=>lows m l
 | .ref n=>decide (n<m)
 | .fdc l=>oF m l
 | _=>Ã
noncomputable def oF(m:Nat):List (Key×W)->Bool
 | []=>Ã
 | (_,w)::r=>low m w&&oF m r
noncomputable def lows(m:Nat):List W->Bool
 | []=>Ã
 | w::r=>low m w&&lows m r
end
open Classical in
noncomputable def gc(f:List W->M W):List W->M W:=λws h=>match f ws h with
 | some (w,h')=>if h<+:h' then (if low h.length w=Ã then À (w,h) else match w with
   | .ref n=>match h'[n]? with
    | some (.lst l)=>if lows h.length l=Ã then À (.fls l,h) else À (w,h')
    | _=>À (w,h')
   | _=>À (w,h')) else À (w,h')
 | none=>Á
def vw{h:MH}(e:f ws h=À (w,h'))(p:low h.length w=Ã)(q:h<+:h'):gc f ws h=À (w,h):=by
 unfold gc;rw[e];erw[p,q,jn]
theorem lI(m:Nat):∀l:List (Key×W),oF m l=lows m (l.map (·.2))
 | []=>by unfold oF lows;rfl
 | (k,w)::r=>by unfold oF;rw[lI m r];erw[zx];conv=>rhs;unfold lows
section
variable{K:NT}{cl:Cl}{μ hG:List Ç}{H H':Hp}
theorem RWs.low(r:RWs K μ H l vs):lows μ.length l=Ã:=
 RWs.rec (motive_1:=λw _ _=>ML.low μ.length w=Ã) (motive_2:=λl _ _=>lows μ.length l=Ã) rfl (λ_=>rfl) (λ_=>rfl) (λ_=>rfl) (λ_ _ r=>r) (λe=>jq (zJ.mp e).1) (λ_ _ r=>r) (λ_ _ e _ _ r=>(lI ..).trans (e▸r)) rfl rfl (λ_ _ a b=>zX.mpr ⟨a,b⟩) r
def RWs.cut(pre:μ<+:hG)(p:lows μ.length l=Ã)(r:RWs K hG H l vs):RWs K μ H l vs:=
 RWs.rec (motive_1:=λw v _=>ML.low μ.length w=Ã->RW K μ H w v) (motive_2:=λl vs _=>lows μ.length l=Ã->RWs K μ H l vs) (λ_=>.non) (λb _=>.bl b) (λb _=>.int b) (λb _=>.str b) (λs _ r p=>.tup s (r p)) (λ{n _} e p=>.ref (by
  have p:n<μ.length:=j7 p;obtain⟨t,rfl⟩:=pre;rw[zV p] at e
  exact e)) (λs _ r p=>.fls (s.elim (λz=>.inl ⟨z.1,λq=>z.2 (pre.subset q)⟩) .inr) (r p)) (λs k e b _ r p=>.fdc ⟨s.1,λq=>s.2 (pre.subset q)⟩ k e b (r (e▸(lI ..).symm.trans p))) (λ_=>.fn) (λ_=>.nil) (λ_ _ a b p=>.cons (a (zX.mp p).1) (b (zX.mp p).2)) r p
theorem RW.cut(pre:μ<+:hG)(p:ML.low μ.length w=Ã)(r:RW K hG H w v):RW K μ H w v:=by
 cases RWs.cut pre (l:=[w]) (zX.mpr ⟨p,rfl⟩) (.cons r .nil) with
 | cons r _=>exact r
theorem HR.cut(R:HR K cl μ H h)(E:Ext μ H hG H')(R':HR K cl hG H' h')(p:h<+:h'):HR K cl μ H' h:=by
 obtain⟨t,rfl⟩:=p;refine⟨R.len,R.nd,λn a o e1 e2=>?_⟩;have q:=R.ob n a o e1 e2;have q':=R'.ob n a o (E.get e1) (by rw[zV (zJ.mp e2).1];exact e2);cases o with
 | lst l=>obtain⟨Nm,_,r0⟩:=q;obtain⟨vs,z,r⟩:=q';exact⟨vs,z,RWs.cut E.pre r0.low r⟩
 | dic l=>obtain⟨l0,_,_,r0⟩:=q;obtain⟨l',z,k,r⟩:=q';exact⟨l',z,k,RWs.cut E.pre r0.low r⟩
 | ins c fs=>obtain⟨_,Nn,_,_,r0⟩:=q;obtain⟨dx,DV,z,k,r⟩:=q';exact⟨dx,DV,z,k,RWs.cut E.pre r0.low r⟩
 | tdc ks=>obtain⟨_,_,_,_,_,r0⟩:=q;obtain⟨xs,z,k1,k2,k3,r⟩:=q';exact⟨xs,z,k1,k2,k3,RWs.cut E.pre r0.low r⟩
def BZ(q:uZ K cl (gc f) vs H Q E):uZ K cl f vs H Q E:=by
 obtain⟨μ,h,ws,w,h',R,rs,e,k⟩:=q;unfold gc at e;split at e
 .rename_i w1 h1 e1
  have plain:∀{w h'},À (w1,h1)=À (w,h')->KQ K cl μ H h' w Q->uZ K cl f vs H Q E:=λq k=>by cases q;exact⟨μ,h,ws,_,_,R,rs,e1,k⟩
  split at e
  .rename_i c
   have cut:∀{hG H'},Ext μ H hG H'->Ext μ H μ H':=λE'=>⟨kW _,λb o e n=>⟨(E'.fr b o e n).1,n⟩⟩
   split at e
   .rename_i p
    cases e;refine⟨μ,h,ws,_,h1,R,rs,e1,λhG H' v E' R' r'=>?_⟩;exact k μ H' v (cut E') (R.cut E' R' c) (RW.cut E'.pre (by rw[R.len];exact p) r')
   .rename_i p
    split at e
    .rename_i n
     split at e
     .rename_i l ho
      split at e
      .rename_i pl
       cases e;refine⟨μ,h,ws,_,h1,R,rs,e1,λhG H' v E' R' r'=>?_⟩;cases r' with
       | @ref _ a hm=>
        obtain⟨D7,hv,rv⟩:=R'.ob n a _ hm ho;refine k μ H' _ (cut E') (R.cut E' R' c) (.fls (.inl ⟨.inl hv,λz=>?_⟩) (RWs.cut E'.pre (by rw[R.len];exact pl) rv));obtain⟨m,Hv⟩:=vZ.mp z;have h2:=E'.get Hv;have Ap:m<μ.length:=(zJ.mp Hv).1;obtain⟨z1,z2⟩:=zJ.mp h2;obtain⟨z3,z4⟩:=zJ.mp hm;have:m=n:=(vQ R'.nd).mp (z2.trans z4.symm);subst this;refine p ?_;unfold low;rw[R.len] at Ap;simpa using Ap
      .exact plain e k
     .exact plain e k
    .exact plain e k
  .exact plain e k
 .cases e
end
section
variable{X:Cx}{cl:Cl}{k:Nat}{f:Ç}{fd:å}{ps:List È}{x:È}{p pos:õ}{e:Ë}{es:List Ë}{g:List W->M W}{m:ME}{ms:List ME}
def c8{K:NT}{f:List W->M W}{σ:L2.St}{H:Hp}(q:tM K cl (zi f ms) σ H Q):tMA K cl ms σ H λvs H1=>rMs K cl f vs H1 Q:=by
 obtain⟨μ,h,ρ,w,h',R,er,e,k⟩:=q;obtain⟨ws,h1,e1,e⟩:=kd e;exact⟨μ,h,ρ,ws,h1,R,er,e1,λcx H1 vs E1 R1 rs=>⟨cx,h1,ws,w,h',R1,rs,e,k.ext E1⟩⟩
def WF(F:FnOk X.prog X.w X.K X.mg X.base bP k f fd ps (uZ X.K cl g))(hr:Room k X.A)(hm:X.mg x=À (.ref f))(hk:Ü X.K (.ref f)=Ã)(hb:Binds X.K fd ps [])
  (ha:SA X cl (e::es) ms) (hg:↥(Gl X x)) (Ak:⇑((x==("__debug__":È))=Â)) (Aa:↥(É (e::es) X.env=(Â,eval e X.env)::É es X.env)) (xa:↥((Ö pos (É es X.env)).any (·.1)=Â)):SE X cl (.Call (.Name x p) (e::es) [] pos) (zi g ms):=
 PE.wk (Yt F hr hg hm hk hb .nil VG ha Ak Aa xa) λσ H Q q=>by
  obtain⟨μ,h,ρ,ws,h1,R,er,e1,k1⟩:=c8 q;exact⟨μ,h,ρ,ws,h1,R,er,e1,λcx H1 vs E1 R1 rs=>by show uZ X.K cl g (vs++[]) H1 Q E0;rw[yz];exact k1 cx H1 vs E1 R1 rs⟩
def Qg(F:FnOk X.prog X.w X.K X.mg X.base bP k f fd ps (uZ X.K cl g))(hr:Room k X.A)(hm:X.mg x=À (.ref f))(hk:Ü X.K (.ref f)=Ã)(hb:Binds X.K fd ps [])
  (hg:↥(Gl X x)) (Ak:⇑((x==("__debug__":È))=Â)):SE X cl (.Call (.Name x p) [] [] pos) (zi g []):=
 PE.wk (Vh F hr hg hm hk hb .nil VG Ak) λσ H Q q=>by
  obtain⟨μ,h,ρ,ws,h1,R,er,e1,k1⟩:=c8 q;cases e1;exact k1 μ H [] .refl R .nil
def Vi{id:String}(hc:qV X (.builtin id) (rMs X.K cl g))(hm:X.mg x=Á)(hv:Ñ x=À (.builtin id))(ha:SA X cl (e::es) ms)(hg:↥(Gl X x))(hn:⇑(x≠"__name__"))(Ak:⇑((x==("__debug__":È))=Â))(Aa:↥(É (e::es) X.env=(Â,eval e X.env)::É es X.env))(xa:↥((Ö pos (É es X.env)).any (·.1)=Â)) :
  SE X cl (.Call (.Name x p) (e::es) [] pos) (zi g ms):=
 PE.wk (hV hc hg hm hv ha hn Ak Aa xa) λσ H Q q=>c8 q
def Kk{id:String}(hc:qV X (.type id) (rMs X.K cl g))(hm:X.mg x=Á)(hv:Ñ x=À (.type id))(ha:SA X cl (e::es) ms)(hg:↥(Gl X x))(hn:⇑(x≠"__name__"))(Ak:⇑((x==("__debug__":È))=Â))(Aa:↥(É (e::es) X.env=(Â,eval e X.env)::É es X.env))(xa:↥((Ö pos (É es X.env)).any (·.1)=Â)) :
  SE X cl (.Call (.Name x p) (e::es) [] pos) (zi g ms):=
 PE.wk (Jn hc hg hm hv ha hn Ak Aa xa) λσ H Q q=>c8 q
end
inductive Fl where
 | nx (ρ:En) | ret (w:W) | bk (ρ:En) | ct (ρ:En) | ex
abbrev MS:=En->MH->Option (Fl×MH)
abbrev MG:=W->En->M En
noncomputable def KF(K:NT)(cl:Cl)(μ:List Ç)(H:Hp)(h':MH)(fl:Fl)(D:Ends):Prop:=∀hG H',Ext μ H hG H'->HR K cl hG H' h'->match fl with
 | .nx ρ=>∀σ,ER K hG H' ρ σ->D.nx σ H'
 | .ret w=>∀v,RW K hG H' w v->D.rt v H'
 | .bk ρ=>∀σ,ER K hG H' ρ σ->D.bk σ H'
 | .ct ρ=>∀σ,ER K hG H' ρ σ->D.ct σ H'
 | .ex=>cl.xq H'
inductive tMS(K:NT)(cl:Cl)(m:MS)(D:Ends)(σ:L2.St)(H:Hp):Prop
 | mk (μ:List Ç) (h:MH) (ρ:En) (fl:Fl) (h':MH) (p0:HR K cl μ H h) (p1:ER K μ H ρ σ) (p2:m ρ h=À (fl,h')) (p3:KF K cl μ H h' fl D):tMS K cl m D σ H
abbrev SS(X:Cx)(cl:Cl)(st:ì)(m:MS):Prop:=PS X st (tMS X.K cl m)
abbrev SB(X:Cx)(cl:Cl)(st:List ì)(m:MS):Prop:=PSs X st (tMS X.K cl m)
inductive tMG(K:NT)(cl:Cl)(g:MG)(v:V)(σ:L2.St)(H:Hp)(Q:L2.St->Hp->Prop):Prop
 | mk (μ:List Ç) (h:MH) (ρ:En) (w:W) (ρ':En) (h':MH) (p0:HR K cl μ H h) (p1:ER K μ H ρ σ) (p2:RW K μ H w v) (p3:g w ρ h=À (ρ',h')) (p4:∀hG H' hY,Ext μ H hG H'->HR K cl hG H' h'->ER K hG H' ρ' hY->Q hY H'):tMG K cl g v σ H Q
abbrev SG(X:Cx)(cl:Cl)(e:Ë)(g:MG):Prop:=PG X e (tMG X.K cl g)
def PG.wk(h:PG X e t)(w:∀v σ H Q,t' v σ H Q->t v σ H Q):PG X e t':=λag s σ H v u Q I r q=>h ag s σ H v u Q I r (w v σ H Q q)
def KF.ext{K:NT}{cl:Cl}{μ hG:List Ç}{H H':Hp}(E:Ext μ H hG H')(k:KF K cl μ H h fl D):KF K cl hG H' h fl D:=λhX H2 E2 R2=>k hX H2 (E.trans E2) R2
theorem KF.nx{K:NT}{cl:Cl}{μ:List Ç}{H:Hp}{D:Ends}(k:KF K cl μ H h (.nx ρ) D)(R:HR K cl μ H h)(er:ER K μ H ρ σ):D.nx σ H:=k μ H .refl R σ er
noncomputable def kg:MS:=λρ h=>À (.nx ρ,h)
noncomputable def zl(a b:MS):MS:=λρ h=>match a ρ h with
 | some (.nx ρ',h')=>b ρ' h'
 | r=>r
noncomputable def vn(m:ME):MS:=λρ h=>match m ρ h with
 | some (_,h')=>À (.nx ρ,h')
 | none=>Á
noncomputable def ka(m:ME):MS:=λρ h=>match m ρ h with
 | some (w,h')=>À (.ret w,h')
 | none=>Á
noncomputable def ki(t:MT)(a b:MS):MS:=λρ h=>match t ρ h with
 | some (c,h')=>if c=Ã then a ρ h' else b ρ h'
 | none=>Á
noncomputable def zS(m:ME)(g:MG):MS:=λρ h=>match m ρ h with
 | some (w,h')=>match g w ρ h' with
  | some (ρ',h2)=>À (.nx ρ',h2)
  | none=>Á
 | none=>Á
noncomputable def zD(i:Nat):MG:=λw ρ h=>if i<ρ.length then À (ρ.set i (À w),h) else Á
noncomputable def eT:List MG->List W->En->M En
 | [],[]=>λρ h=>À (ρ,h)
 | g::gs,w::ws=>λρ=>bnd (g w ρ) λρ'=>eT gs ws ρ'
 | _,_=>λ_ _=>Á
noncomputable def gz(gs:List MG):MG:=λw=>match w with
 | .tup ws=>eT gs ws
 | .fls ws=>eT gs ws
 | _=>λ_ _=>Á
noncomputable def ff(i:Nat)(f:W->W->M W)(m:ME):MS:=λρ h=>match ρ[i]? with
 | some (À x)=>match m ρ h with
  | some (y,h1)=>match f x y h1 with
   | some (z,h2)=>if i<ρ.length then À (.nx (ρ.set i (À z)),h2) else Á
   | none=>Á
  | none=>Á
 | _=>Á
section
variable{X:Cx}{cl:Cl}{st:ì}{rest:List ì}{a b:MS}{e:Ë}{m:ME}{pos:õ}
theorem ER.set{K:NT}{μ:List Ç}{H:Hp}{ρ:En}{σ:L2.St}(er:ER K μ H ρ σ)(hi:i<ρ.length)(r:RW K μ H w v):ER K μ H (ρ.set i (À w)) (σ.set i (À v)):=by
 refine⟨by simp[er.len],λj w' e=>?_⟩;by_cases hj:j=i
 .subst hj
  rw[jc hi] at e;cases e;exact⟨v,by rw[jc (by rw[<-er.len];exact hi)],r⟩
 .rw[jd (kZ hj)] at e
  obtain⟨v',e',r'⟩:=er.at_ j w' e;exact⟨v',by rw[jd (kZ hj)];exact e',r'⟩
def Jv:SB X cl [] kg:=PSs.wk Ym λD σ H q0=>by
 obtain⟨μ,h,ρ,fl,h',R,er,e,k⟩:=q0;cases e;exact k.nx R er
def nL(h1:SS X cl st a):SB X cl [st] a:=YO h1
def rS(h1:SS X cl st a)(h2:SB X cl rest b):SB X cl (st::rest) (zl a b):=PSs.wk (Qv h1 h2) λD σ H q0=>by
 obtain⟨μ,h,ρ,fl,h',R,er,e,k⟩:=q0;unfold zl at e;split at e
 .rename_i r9 h1 e1
  exact⟨μ,h,ρ,_,h1,R,er,e1,λcx H1 E1 R1 DM GC=>⟨cx,h1,r9,fl,h',R1,GC,e,k.ext E1⟩⟩
 .rename_i r hr
  refine⟨μ,h,ρ,fl,h',R,er,e,λcx H1 E1 R1=>?_⟩;have k1:=k cx H1 E1 R1;cases fl with
  | nx r9=>exact absurd e (hr r9 h')
  | ret w=>exact k1
  | bk r9=>exact k1
  | ct r9=>exact k1
  | ex=>exact k1
def Wm:SS X cl (.Pass pos) kg:=PS.wk YT λD σ H q0=>by
 obtain⟨μ,h,ρ,fl,h',R,er,e,k⟩:=q0;cases e;exact k.nx R er
def WA(he:SE X cl e m)(hs:↥(ç e Á pos.line X.env=pure Â)):SS X cl (.Expr e pos) (vn m):=PS.wk (YF he hs) λD σ H q0=>by
 obtain⟨μ,h,ρ,fl,h',R,er,e,k⟩:=q0;unfold vn at e;split at e
 .rename_i w h1 e1
  cases e;exact⟨μ,h,ρ,w,_,R,er,e1,λcx H1 v E1 R1 _=>k cx H1 E1 R1 σ (er.ext R E1)⟩
 .cases e
def KH(he:SE X cl e m):SS X cl (.Return (À e) pos) (ka m):=PS.wk (Uc he) λD σ H q0=>by
 obtain⟨μ,h,ρ,fl,h',R,er,e,k⟩:=q0;unfold ka at e;split at e
 .rename_i w h1 e1
  cases e;exact⟨μ,h,ρ,w,_,R,er,e1,λcx H1 v E1 R1 r=>k cx H1 E1 R1 v r⟩
 .cases e
def VY(hc:ST X cl c t)(ha:SB X cl sa a)(hb:SB X cl sb b):SS X cl (.If c sa sb pos) (ki t a b):=PS.wk (BV hc ha hb) λD σ H q0=>by
 obtain⟨μ,h,ρ,fl,h',R,er,e,k⟩:=q0;unfold ki at e;split at e
 .rename_i c h1 e1
  refine⟨μ,h,ρ,c,h1,R,er,e1,λcx H1 E1 R1=>?_⟩;cases c with
  | true=>rw[zW rfl] at e ⊢;exact⟨cx,h1,ρ,fl,h',R1,er.ext R E1,e,k.ext E1⟩
  | false=>rw[kY zO] at e ⊢;exact⟨cx,h1,ρ,fl,h',R1,er.ext R E1,e,k.ext E1⟩
 .cases e
def pY(i:Nat)(hN:X.N.Nodup)(hi:↥(X.N[i]?=À x))(hx:Loc X.env.scope x:=by first | exact Or.inl rfl | exact Or.inr rfl)(hf:X.fn x=Ã\/X.env.scope.names.lookup x=À .local:=by first | exact .inl rfl | exact .inr rfl | assumption):SG X cl (.Name x pos) (zD i):=
 PG.wk (WJ (i:=i) hN hi hx hf) λv σ H Q q0=>by
  obtain⟨μ,h,ρ,w,ρ',h',R,er,r,e,k⟩:=q0;unfold zD at e;split at e
  .rename_i hi
   cases e;exact k μ H _ .refl R (er.set hi r)
  .cases e
inductive tMGs(K:NT)(cl:Cl)(gs:List MG)(vs:List V)(σ:L2.St)(H:Hp)(Q:L2.St->Hp->Prop):Prop
 | mk (μ:List Ç) (h:MH) (ρ:En) (ws:List W) (ρ':En) (h':MH) (p0:HR K cl μ H h) (p1:ER K μ H ρ σ) (p2:RWs K μ H ws vs) (p3:eT gs ws ρ h=À (ρ',h')) (p4:∀hG H' hY,Ext μ H hG H'->HR K cl hG H' h'->ER K hG H' ρ' hY->Q hY H'):tMGs K cl gs vs σ H Q
abbrev KR(X:Cx)(cl:Cl)(es:List Ë)(gs:List MG):Prop:=PGs X es (tMGs X.K cl gs)
def PGs.wk(h:PGs X es t)(w:∀v σ H Q,t' v σ H Q->t v σ H Q):PGs X es t':=λag s σ H v u Q I r q=>h ag s σ H v u Q I r (w v σ H Q q)
def WT:KR X cl [] []:=PGs.wk YB λvs σ H Q q0=>by
 obtain⟨μ,h,ρ,ws,ρ',h',R,er,rs,e,k⟩:=q0;cases rs with
 | nil=>cases e;exact⟨rfl,k μ H _ .refl R er⟩
 | cons r t=>cases e
def QO(h1:SG X cl e g)(h2:KR X cl es gs)
  (hs:↥((Û (e::es) X.env).map (·.2)=assign e X.env::(Û es X.env).map (·.2))):KR X cl (e::es) (g::gs):=PGs.wk (QJ h1 h2 hs) λvs σ H Q q0=>by
 obtain⟨μ,h,ρ,ws,ρ',h',R,er,rs,e,k⟩:=q0;cases rs with
 | nil=>cases e
 | cons r t=>
  obtain⟨r9,h1,e1,e2⟩:=kd e;exact⟨_,_,rfl,μ,h,ρ,_,r9,h1,R,er,r,e1,λcx H1 DM E1 R1 GC=>⟨cx,h1,r9,_,ρ',h',R1,GC,t.ext R E1,e2,λhX H2 A4 E2 R2 Dx=>k hX H2 A4 (E1.trans E2) R2 Dx⟩⟩
def oH:∀{gs:List MG} {l:List W} {ρ:En} {h:MH},eT gs l ρ h=À (ρ',h')->gs.length=l.length:=by
 intro gs;induction gs with
 | nil=>intro l ρ h e;cases l with | nil=>rfl | cons=>cases e
 | cons g gs ih=>
  intro l ρ h e;cases l with
  | nil=>cases e
  | cons w l=>
   obtain⟨r9,h1,e1,e2⟩:=kd e;erw[zr];rw[ih e2]
def PG.or(h1:PG X e t1)(h2:PG X e t2)(k:∀v σ H Q,t v σ H Q->t1 v σ H Q\/t2 v σ H Q):PG X e t:=λag s σ H v u Q I r q=>(k v σ H Q q).elim (h1 ag s σ H v u Q I r) (h2 ag s σ H v u Q I r)
def Uj{gs:List MG}(hc:X.calm=Ã)(hg:KR X cl es gs)
  (hl:↥((Û es X.env).length=gs.length)) (Aa:↥((Û es X.env).findIdx? (·.1)=Á)):SG X cl (.Tuple es n pos) (gz gs):=PG.or (Ub hc hg hl Aa) (Xa hc hg hl Aa) λv σ H Q q0=>by
 obtain⟨μ,h,ρ,w,ρ',h',R,er,r,e,k⟩:=q0;cases r with
 | @tup a vs l s rs=>
  have e':eT gs l ρ h=À (ρ',h'):=e;exact .inl ⟨a,vs,rfl,s,by rw[<-rs.length];exact(oH e').symm,μ,h,ρ,l,ρ',h',R,er,rs,e',k⟩
 | @fls a vs l s rs=>
  have e':eT gs l ρ h=À (ρ',h'):=e;exact .inr ⟨a,vs,rfl,s.sq,by rw[<-rs.length];exact(oH e').symm,μ,h,ρ,l,ρ',h',R,er,rs,e',k⟩
 | _=>cases e
def Jr(he:SE X cl e m)(hg:SG X cl tg g)(hs:↥(ġ [tg] e pos.line X.env=pure Â))(hw:↥(Ģ [tg] e X.env=pure Á))
  (h1:↥((Û [tg] X.env).map (·.2)=[assign tg X.env])):SS X cl (.Assign [tg] e pos) (zS m g):=PS.wk (UR he hg hs hw h1) λD σ H q0=>by
 obtain⟨μ,h,ρ,fl,h',R,er,e,k⟩:=q0;unfold zS at e;split at e
 .rename_i w h1 e1
  split at e
  .rename_i xI h2 e2
   cases e;exact⟨μ,h,ρ,w,h1,R,er,e1,λcx H1 v E1 R1 r=>⟨cx,h1,ρ,w,xI,_,R1,er.ext R E1,r,e2,λhX H2 A4 E2 R2 Dx=>k hX H2 (E1.trans E2) R2 A4 Dx⟩⟩
  .cases e
 .cases e
def KZ(i:Nat)(hN:X.N.Nodup)(he:SE X cl e m)(hi:↥(X.N[i]?=À x))(hx:Loc X.env.scope x:=by first | exact Or.inl rfl | exact Or.inr rfl)(hs:↥(ç e (À (.Name x Ao)) pos.line X.env=pure Â))
  (hf:X.fn x=Ã\/X.env.scope.names.lookup x=À .local:=by first | exact .inl rfl | exact .inr rfl | assumption):SS X cl (.Assign [.Name x Ao] e pos) (zS m (zD i)):=PS.wk (Js (i:=i) hN hi hx he hs hf) λD σ H q0=>by
 obtain⟨μ,h,ρ,fl,h',R,er,e,k⟩:=q0;unfold zS at e;split at e
 .rename_i w h1 e1
  split at e
  .rename_i xI h2 e2
   cases e;refine⟨μ,h,ρ,w,h1,R,er,e1,λcx H1 v E1 R1 r=>?_⟩;unfold zD at e2;split at e2
   .rename_i hi
    cases e2;exact k cx H1 E1 R1 _ ((er.ext R E1).set hi r)
   .cases e2
  .cases e
 .cases e
def Ud(i:Nat)(hN:X.N.Nodup)(ho:Jt X op (rM X.K cl f))(he:SE X cl e m)(hi:↥(X.N[i]?=À x))(hx:Loc X.env.scope x:=by first | exact Or.inl rfl | exact Or.inr rfl)
  (hf:X.fn x=Ã\/X.env.scope.names.lookup x=À .local:=by first | exact .inl rfl | exact .inr rfl | assumption):SS X cl (.AugAssign (.Name x Ao) op e pos) (ff i f m):=PS.wk (XJ (i:=i) hN hi hx he ho hf) λD σ H q0=>by
 obtain⟨μ,h,ρ,fl,h',R,er,e,k⟩:=q0;unfold ff at e;split at e
 .rename_i w0 e0
  split at e
  .rename_i y h1 e1
   split at e
   .rename_i z h2 e2
    split at e
    .rename_i hi
     cases e;obtain⟨v0,q0,r0⟩:=er.at_ i w0 e0;exact⟨v0,q0,μ,h,ρ,y,h1,R,er,e1,λcx H1 vy E1 R1 ry=>⟨cx,h1,w0,y,z,_,R1,r0.ext R E1,ry,e2,λhX H2 vz E2 R2 rz=>k hX H2 (E1.trans E2) R2 _ (((er.ext R E1).ext R1 E2).set hi rz)⟩⟩
    .cases e
   .cases e
  .cases e
 .cases e
end
noncomputable def jI(c:MT)(b:MS):Nat->MS
 | 0=>λ_ _=>Á
 | n+1=>λρ h=>match c ρ h with
  | some (Ã,h1)=>match b ρ h1 with
   | some (.nx xI,h2)=>jI c b n xI h2
   | some (.ct xI,h2)=>jI c b n xI h2
   | some (.bk xI,h2)=>À (.nx xI,h2)
   | some (.ret w,h2)=>À (.ret w,h2)
   | some (.ex,h2)=>À (.ex,h2)
   | none=>Á
  | some (Â,h1)=>À (.nx ρ,h1)
  | none=>Á
theorem uV:∀{n:Nat} {ρ:En} {h:MH} {r:Fl×MH},jI c b n ρ h=À r->∀k,jI c b (n+k) ρ h=À r
 | 0,_,_,_,e,_=>by cases e
 | n+1,ρ,h,r,e,k=>by
  rw[show n+1+k=(n+k)+1 by omega];unfold jI at e ⊢;cases e1:c ρ h with
  | none=>rw[e1] at e;cases e
  | some p=>
   obtain⟨t,h1⟩:=p;rw[e1] at e;cases t with
   | false=>exact e
   | true=>
    simp only at e ⊢;cases e2:b ρ h1 with
    | none=>rw[e2] at e;cases e
    | some q=>
     obtain⟨fl,h2⟩:=q;rw[e2] at e;cases fl with
     | nx xI=>exact uV (n:=n) e k
     | ct xI=>exact uV (n:=n) e k
     | bk xI=>exact e
     | ret w=>exact e
     | ex=>exact e
open Classical in
noncomputable def uc(c:MT)(b:MS):MS:=λρ h=>if q:∃n r,jI c b n ρ h=À r then À q.choose_spec.choose else Á
def l8(e:jI c b n ρ h=À r):uc c b ρ h=À r:=by
 unfold uc;have q:∃n r,jI c b n ρ h=À r:=⟨n,r,e⟩;rw[dif_pos q];have e1:=q.choose_spec.choose_spec;have e2:=uV e1 n;have e3:=uV e q.choose;rw[yg] at e3;rw[e2] at e3;exact e3
def Kv(e:uc c b ρ h=À r):∃n,jI c b n ρ h=À r:=by
 unfold uc at e;split at e
 .rename_i q
  have e1:=q.choose_spec.choose_spec;cases e;exact⟨_,e1⟩
 .cases e
section
variable{X:Cx}{cl:Cl}{pos:õ}
def JT(hc:ST X cl c t)(hb:SB X cl body b)(hp:ņ (Ì X.prog X.w) X.A X.env X.xe:=by exact wI):SS X cl (.While c body [] pos) (uc t b):=PS.wk (QY hp hc hb) λD σ H q0=>by
 obtain⟨μ,h,ρ,fl,h',R,er,e,k⟩:=q0;obtain⟨n0,e⟩:=Kv e;refine⟨λn σ H=>∃μ h ρ fl h',HR X.K cl μ H h/\ER X.K μ H ρ σ/\jI t b n ρ h=À (fl,h')/\KF X.K cl μ H h' fl D,⟨n0,μ,h,ρ,fl,h',R,er,e,k⟩,?_⟩;rintro n σ H ⟨μ,h,ρ,fl,h',R,er,e,k⟩;cases n with
 | zero=>cases e
 | succ n=>
  unfold jI at e;cases e1:t ρ h with
  | none=>rw[e1] at e;cases e
  | some p=>
   obtain⟨c,h1⟩:=p;rw[e1] at e;refine⟨μ,h,ρ,c,h1,R,er,e1,λcx H1 E1 R1=>?_⟩;cases c with
   | false=>
    rw[kY zO];cases e;exact k cx H1 E1 R1 σ (er.ext R E1)
   | true=>
    rw[zW rfl];refine⟨λhY H'=>∃μ h ρ fl h',HR X.K cl μ H' h/\ER X.K μ H' ρ hY/\jI t b n ρ h=À (fl,h')/\KF X.K cl μ H' h' fl D,λhY H' q=>⟨n,qi n,q⟩,?_⟩;simp only at e;cases e2:b ρ h1 with
    | none=>rw[e2] at e;cases e
    | some q=>
     obtain⟨f2,h2⟩:=q;rw[e2] at e;refine⟨cx,h1,ρ,f2,h2,R1,er.ext R E1,e2,λhX H2 E2 R2=>?_⟩;cases f2 with
     | nx xI=>exactλA4 Dx=>⟨hX,h2,xI,fl,h',R2,Dx,e,k.ext (E1.trans E2)⟩
     | ct xI=>exactλA4 Dx=>⟨hX,h2,xI,fl,h',R2,Dx,e,k.ext (E1.trans E2)⟩
     | bk xI=>cases e;exactλA4 Dx=>k hX H2 (E1.trans E2) R2 A4 Dx
     | ret w=>cases e;exactλv rv=>k hX H2 (E1.trans E2) R2 v rv
     | ex=>cases e;exact k hX H2 (E1.trans E2) R2
end
inductive Src where
 | items (l:List W) | live (n:Nat)
noncomputable def ut(s:Src)(i:Nat)(h:MH):Option (Option W):=match s with
 | .items l=>À l[i]?
 | .live n=>match h[n]? with
  | some (.lst l)=>À l[i]?
  | _=>Á
noncomputable def JR(K:NT)(cl:Cl)(J:It)(s:Src)(μ:List Ç)(H:Hp):Prop:=∀hX H2 h2,Ext μ H hX H2->HR K cl hX H2 h2->∀i,
 (∀w,ut s i h2=À (À w)->J.go i H2/\∀x H3,J.yld i H2 x H3->Ext hX H2 hX H3/\HR K cl hX H3 h2/\RW K hX H3 w x)/\(ut s i h2=À Á->J.stop i H2)
abbrev MI:=En->M Src
inductive tMI(K:NT)(cl:Cl)(m:MI)(σ:L2.St)(H:Hp)(R:It->Hp->Prop):Prop
 | mk (μ:List Ç) (h:MH) (ρ:En) (src:Src) (h':MH) (p0:HR K cl μ H h) (p1:ER K μ H ρ σ) (p2:m ρ h=À (src,h')) (p3:∀hG H' J,Ext μ H hG H'->HR K cl hG H' h'->JR K cl J src hG H'->R J H'):tMI K cl m σ H R
abbrev SI(X:Cx)(cl:Cl)(tg e:Ë)(m:MI):Prop:=PI X tg e (tMI X.K cl m)
def PI.wk(h:PI X tg e t)(w:∀σ H Q,t' σ H Q->t σ H Q):PI X tg e t':=λag s σ H Q I q=>h ag s σ H Q I (w σ H Q q)
def JR.ext{K:NT}{cl:Cl}{J:It}{H:Hp}(E:Ext μ H hG H')(j:JR K cl J s μ H):JR K cl J s hG H':=λhX H2 h2 E2=>j hX H2 h2 (E.trans E2)
noncomputable def dN(s:Src)(g:MG)(b:MS):Nat->Nat->MS
 | 0,_=>λ_ _=>Á
 | k+1,i=>λρ h=>match ut s i h with
  | some (À w)=>match g w ρ h with
   | some (r9,h1)=>match b r9 h1 with
    | some (.nx xI,h2)=>dN s g b k (i+1) xI h2
    | some (.ct xI,h2)=>dN s g b k (i+1) xI h2
    | some (.bk xI,h2)=>À (.nx xI,h2)
    | some (.ret w,h2)=>À (.ret w,h2)
    | some (.ex,h2)=>À (.ex,h2)
    | none=>Á
   | none=>Á
  | some Á=>À (.nx ρ,h)
  | none=>Á
noncomputable def forL(g:MG)(b:MS):List W->MS
 | []=>λρ h=>À (.nx ρ,h)
 | w::r=>λρ h=>match g w ρ h with
  | some (r9,h1)=>match b r9 h1 with
   | some (.nx xI,h2)=>forL g b r xI h2
   | some (.ct xI,h2)=>forL g b r xI h2
   | some (.bk xI,h2)=>À (.nx xI,h2)
   | some (.ret w,h2)=>À (.ret w,h2)
   | some (.ex,h2)=>À (.ex,h2)
   | none=>Á
  | none=>Á
theorem eK(l:List W):∀(k i:Nat) (ρ:En) (h:MH),l.length+1<=i+k->i<=l.length->dN (.items l) g b k i ρ h=forL g b (l.drop i) ρ h
 | 0,i,ρ,h,hk,hi=>by omega
 | k+1,i,ρ,h,hk,hi=>by
  by_cases hl:i<l.length
  .rw[vG hl]
   unfold dN forL;erw[ut,kO hl];cases e1:g l[i] ρ h with
   | none=>rfl
   | some p=>
    obtain⟨r9,h1⟩:=p;simp only;cases e2:b r9 h1 with
    | none=>rfl
    | some q=>
     obtain⟨fl,h2⟩:=q;cases fl with
     | nx xI=>exact eK l k (i+1) xI h2 ∅ hl
     | ct xI=>exact eK l k (i+1) xI h2 ∅ hl
     | bk xI=>rfl
     | ret w=>rfl
     | ex=>rfl
  .have Ei:i=l.length:=by omega
   subst Ei;rw[yo];unfold dN forL;simp[ut]
noncomputable def ZO(s:Src)(h:MH):Nat:=match s with
 | .items l=>l.length
 | .live n=>match h[n]? with
  | some (.lst l)=>l.length
  | _=>0
noncomputable def xi(mi:MI)(g:MG)(b:MS):MS:=λρ h=>match mi ρ h with
 | some (.items l,h1)=>forL g b l ρ h1
 | some (.live n,h1)=>dN (.live n) g b (ZO (.live n) h1+1) 0 ρ h1
 | none=>Á
section
variable{X:Cx}{cl:Cl}{pos:õ}
def oX{K:NT}{J:It}{src:Src}{g:MG}{b:MS}{D:Ends}{σ:L2.St}{H:Hp}(R:HR K cl μ H h)(er:ER K μ H ρ σ)(j:JR K cl J src μ H)(e:dN src g b k0 0 ρ h=À (fl,h'))
  (k:KF K cl μ H h' fl D):∃W:Nat->Nat->L2.St->Hp->Prop,(∃m,W 0 m σ H)/\∀i m σ H,W i m σ H->
   (J.stop i H/\D.nx σ H)\/(J.go i H/\∃N:L2.St->Hp->Prop,(∀hY H',N hY H'->∃m',m'<m/\W (i+1) m' hY H')/\∀x H',J.yld i H x H'->tMG K cl g x σ H' λA4 H2=>tMS K cl b { D with nx:=N,ct:=N,bk:=D.nx } A4 H2):=by
 refine⟨λi m σ H=>∃μ h ρ fl h',HR K cl μ H h/\ER K μ H ρ σ/\JR K cl J src μ H/\dN src g b m i ρ h=À (fl,h')/\KF K cl μ H h' fl D,⟨k0,μ,h,ρ,fl,h',R,er,j,e,k⟩,?_⟩;rintro i m σ H ⟨μ,h,ρ,fl,h',R,er,j,e,k⟩;cases m with
 | zero=>cases e
 | succ m=>
  unfold dN at e;obtain⟨jg,js⟩:=j μ H h .refl R i;cases es:ut src i h with
  | none=>rw[es] at e;cases e
  | some o=>
   rw[es] at e;cases o with
   | none=>
    cases e;exact .inl ⟨js es,k.nx R er⟩
   | some w=>
    obtain⟨go,yl⟩:=jg w es;simp only at e;cases e1:g w ρ h with
    | none=>rw[e1] at e;cases e
    | some p=>
     obtain⟨r9,h1⟩:=p;rw[e1] at e;simp only at e;cases e2:b r9 h1 with
     | none=>rw[e2] at e;cases e
     | some q=>
      obtain⟨f2,h2⟩:=q;rw[e2] at e;refine .inr ⟨go,λhY H'=>∃μ h ρ fl h',HR K cl μ H' h/\ER K μ H' ρ hY/\JR K cl J src μ H'/\dN src g b m (i+1) ρ h=À (fl,h')/\KF K cl μ H' h' fl D,λhY H' q=>⟨m,qi m,q⟩,λx H1 y1=>?_⟩;obtain⟨E1,R1,rx⟩:=yl x H1 y1;refine⟨μ,h,ρ,w,r9,h1,R1,er.ext R E1,rx,e1,λhX H2 A4 E2 R2 Dx=>⟨hX,h1,r9,f2,h2,R2,Dx,e2,λAC H3 E3 R3=>?_⟩⟩;have E:=E1.trans (E2.trans E3);cases f2 with
      | nx xI=>exactλAN Fu=>⟨AC,h2,xI,fl,h',R3,Fu,j.ext E,e,k.ext E⟩
      | ct xI=>exactλAN Fu=>⟨AC,h2,xI,fl,h',R3,Fu,j.ext E,e,k.ext E⟩
      | bk xI=>cases e;exactλAN Fu=>k AC H3 E R3 AN Fu
      | ret w=>cases e;exactλv rv=>k AC H3 E R3 v rv
      | ex=>cases e;exact k AC H3 E R3
def Bd(hc:X.calm=Ã)(hi:SI X cl tg iter mi)(hg:SG X cl tg g)(hb:SB X cl body b)
  (hs:∀x,ß iter X.env x=pure x:=by intro _;rfl) (hp:ņ (Ì X.prog X.w) X.A X.env X.xe:=by exact wI):SS X cl (.For tg iter body [] pos) (xi mi g b):=PS.wk (Xz hp hc hi hg hb hs) λD σ H q0=>by
 obtain⟨μ,h,ρ,fl,h',R,er,e,k⟩:=q0;unfold xi at e;split at e
 .rename_i l h1 e1
  refine⟨μ,h,ρ,.items l,h1,R,er,e1,λcx H1 J E1 R1 j=>?_⟩;have q:=eK (g:=g) (b:=b) l (l.length+1) 0 ρ h1 ∅ ∅;rw[yK,e] at q;exact oX R1 (er.ext R E1) j q (k.ext E1)
 .rename_i n h1 e1
  exact⟨μ,h,ρ,.live n,h1,R,er,e1,λcx H1 J E1 R1 j=>oX R1 (er.ext R E1) j e (k.ext E1)⟩
 .cases e
end
noncomputable def k8(np k:Nat)(b:MS):List W->M W:=λws h=>if ws.length=np then (match b (ws.map À++Æ k Á) h with
 | some (.ret w,h')=>À (w,h')
 | some (.nx _,h')=>À (.non,h')
 | _=>Á) else Á
section
variable{P:Í}{w:Ð}{K:NT}{mg:È->Option Ä}{base:Ï}{cl:Cl}
def gZ{H:Hp}{N:List È}{ws:List W}{vs:List V}(rs:RWs K μ H ws vs)(hk:N.length-vs.length=k):ER K μ H (ws.map À++Æ k Á) (L2.start N vs):=by
 subst hk;unfold L2.start;refine⟨by simp[rs.length],λi w e=>?_⟩;by_cases hi:i<ws.length
 .rw[zV (by simpa using hi),jr] at e
  cases e1:ws[i]? with
  | none=>rw[e1] at e;cases e
  | some w'=>
   rw[e1] at e;cases e;obtain⟨v,e2,r⟩:=rs.get e1;exact⟨v,by rw[zV (by rw[jb,<-rs.length];exact hi),jr,e2];rfl,r⟩
 .rw[kj (by simpa using hi),jQ] at e
  split at e<;>cases e
def Cc{x qual:È}{st:ì}{f:Ç}{fd:å}{N ps:List È}(F:Fun K x qual st f fd)(S:FnScope N ps (kF st))(AG:ps.length=np)(Af:N.length-np=ns)
  (hb:∀(pf:Ä) (A:Ò) (outer:List Ŭ) (s:Å) (H:Hp) (E:XK),Room k (A.deeper (û qual (kF st) s.heap.objs.size f pf))->
   SB (uj bP P w K mg base N qual (kF st) f pf A outer s H E).nox cl (qA st) b):FnOk P w K mg base bP (k+1) f fd ps (uZ K cl (gc (k8 np ns b))):=by
 have len:∀vs H Q E,uZ K cl (k8 np ns b) vs H Q E->vs.length=ps.length:=by
  rintro vs H Q E ⟨μ,h,ws,w,h',R,rs,e,k⟩;unfold k8 at e;split at e
  .rename_i hl
   rw[AG,<-hl,rs.length]
  .cases e
 refine FnOk.imp (sp:=uZ K cl (k8 np ns b)) (F.ok S len λpf A outer s H vs Q E hr AW=>⟨_,hb pf A outer s H E hr,?_⟩) λvs H Q E q=>BZ (E:=E) q
 have lx:=len _ _ _ _ AW;obtain⟨μ,h,ws,w,h',R,rs,e,k⟩:=AW;unfold k8 at e;split at e
 .rename_i hl
  split at e
  .rename_i w1 h1 e1
   cases e;exact⟨μ,h,_,_,_,R,gZ rs (by rw[lx,AG];exact Af),e1,λcx H1 E1 R1 v rv=>k cx H1 v E1 R1 rv⟩
  .rename_i r9 h1 e1
   cases e;exact⟨μ,h,_,_,_,R,gZ rs (by rw[lx,AG];exact Af),e1,λcx H1 E1 R1 DM _=>k cx H1 .non E1 R1 .non⟩
  .cases e
 .cases e
end
noncomputable def getL(h:MH):W->Option (List W)
 | .fls l=>À l
 | .ref n=>match h[n]? with
  | some (.lst l)=>À l
  | _=>Á
 | _=>Á
section
variable{K:NT}{cl:Cl}{μ:List Ç}{H:Hp}{h:MH}
def wc(R:HR K cl μ H h)(r:RW K μ H w v)(e:getL h w=À l):∃a vs,v=.ref a/\SqL K H a vs/\RWs K μ H l vs:=by
 cases r with
 | @fls a vs l' s rs=>cases e;exact⟨a,vs,rfl,s.sq,rs⟩
 | @ref n a hn=>
  erw[getL] at e;split at e
  .rename_i l' ho
   cases e;obtain⟨vs,hv,rs⟩:=R.ob n a _ hn ho;exact⟨a,vs,rfl,SqL.of hv,rs⟩
  .cases e
 | _=>cases e
theorem RW.int_of(r:RW K μ H (.int i) v):v=.int i:=by cases r;rfl
theorem RW.str_of(r:RW K μ H (.str i) v):v=.str i:=by cases r;rfl
def RW.tup_of(r:RW K μ H (.tup l) v):∃a vs,v=.ref a/\SqT K H a vs/\RWs K μ H l vs:=by cases r with | @tup a vs l s rs=>exact⟨a,vs,rfl,s,rs⟩
end
noncomputable def kT(x y:W):Option W:=match x,y with
 | .int i,.int j=>À (.int (i+j))
 | .str i,.str j=>if i.length+j.length<=cap then À (.str (i++j)) else Á
 | .tup l,.tup l'=>if l.length+l'.length<=cap then À (.tup (l++l')) else Á
 | _,_=>Á
noncomputable def addW(x y:W):M W:=λh=>match kT x y with
 | some w=>À (w,h)
 | none=>match getL h x,getL h y with
  | some l,À l'=>if l.length+l'.length<=cap then À (.fls (l++l'),h) else Á
  | _,_=>Á
noncomputable def gU(x y:W):M W:=λh=>match getL h x,getL h y with
 | some l,À l'=>if l.length+l'.length<=cap then À (.ref h.length,h++[.lst (l++l')]) else Á
 | _,_=>Á
section
variable{prog:Í}{w:Ð}{A:Ò}{E:Ä->Å->Prop}{s:Å}
def QR{vs ws:List Ä}(ht:s.heap.IsList t vs.toArray)(hb:s.heap.IsList b ws.toArray)
  (h2:Q (.ref s.heap.objs.size) { s with heap:=s.heap.push { cls:=.type "list",data:=.seq (vs++ws).toArray } })
  (hsz:vs.length+ws.length<=sizeLine):Ê (Ì prog w) A (Ù .Add (.ref t) (.ref b)) Q E s:=by
 obtain⟨⟨cls,dd,data,sl⟩,ho,hc,n,hd⟩:=id ht;obtain⟨⟨Fk,A2,data2,AO⟩,AH,DP,n2,hd2⟩:=id hb;simp only at hc hd DP hd2;subst hc hd DP hd2;have e:vs.toArray++ws.toArray=(vs++ws).toArray:=by simp
 refine yN ⟨_,ho,rfl⟩ ⟨_,AH,rfl⟩ noFill_list_add seq_list_add PySem.F.slot_list_add PySem.F.entry_list_add (PySem.F.args_list_add_2 _ _)
  (list_addW t b vs.toArray ws.toArray n n2 dd A2 sl AO (by rw[zH,zH];exact hsz)) ⟨ho,AH,?_⟩
 rw[e];exact h2
def J4{ws:List Ä}(ht:Ĳ s.heap t ([]:List Ä).toArray)(hb:Ĳ s.heap b ws.toArray)(h1:Q (.ref b) s) :
  Ê (Ì prog w) A (Ù .Add (.ref t) (.ref b)) Q E s:=by
 obtain⟨⟨cls,dd,data,sl⟩,ho,hc,n,hd⟩:=id ht;obtain⟨⟨Fk,A2,data2,AO⟩,AH,DP,n2,hd2⟩:=id hb;simp only at hc hd DP hd2;subst hc hd DP hd2;exact yN ⟨_,ho,rfl⟩ ⟨_,AH,rfl⟩ yR Ō vV vM (vJ _ _)
  (tuple_addW0 t b _ ws.toArray n n2 dd A2 sl AO rfl) ⟨ho,AH,h1⟩
end
section
variable{X:Cx}{cl:Cl}
def so{P:List W->MH->W->MH->Prop}{H:Hp}{wx:W}{l l':List W}(I:Inv X ag σ H s)(rx:RelV x v)(ry:RelV y u)
  (R:HR X.K cl μ H h) (ax:RW X.K μ H wx x) (ay:RW X.K μ H wy y) (e1:getL h wx=À l) (e2:getL h wy=À l') (hl:l.length+l'.length<=cap)
  (k:∀p xs,H p=Á->RWs X.K μ H (l++l') xs->Q (.ref p) (upd H p (.lst xs))):Ê (Ì X.prog X.w) X.A (Ù .Add v u) (EP X ag σ Q) X.xe s:=by
 obtain⟨a,vs,rfl,sa,ra⟩:=wc R ax e1;obtain⟨b,D7,rfl,sb,rb⟩:=wc R ay e2;cases rx;cases ry;obtain⟨cb,r1,p1,_⟩:=I.list sa;obtain⟨Al,r2,p2,_⟩:=I.list sb;have hz:vs.length+D7.length<=sizeLine:=zG (by rw[<-ra.length,<-rb.length];exact hl) xy;refine QR p1.isList p2.isList ?_ (by rw[<-r1.length,<-r2.length];exact hz);exact⟨.ref _,_,I.lnew (t':=s.toks) (r1.append r2) (by rw[zK];exact hz),rfl,k _ _ I.fresh (ra.append rb)⟩
def YD:kS X (Ù .Add) (rM X.K cl addW):=by
 rintro ag s σ H x y v u Q I rx ry ⟨μ,h,wx,wy,w,h',R,ax,ay,e,k⟩;unfold addW at e;split at e
 .rename_i w' e'
  cases e;unfold kT at e';split at e'
  .rename_i i j
   cases e';exact Bp ag s σ H x y v u Q I rx ry ⟨i,j,ax.int_of,ay.int_of,k.pure R (.int _)⟩
  .rename_i i j
   split at e'
   .rename_i hl
    cases e';exact tN ag s σ H x y v u Q I rx ry ⟨i,j,ax.str_of,ay.str_of,zG hl xy,k.pure R (.str _)⟩
   .cases e'
  .rename_i l l'
   split at e'
   .rename_i hl
    cases e';obtain⟨a,vs,rfl,sa,ra⟩:=ax.tup_of;obtain⟨b,D7,rfl,sb,rb⟩:=ay.tup_of;by_cases hv:vs=[]
    .subst hv
     cases ra;cases rx;cases ry;obtain⟨cb,r1,p1,_⟩:=I.tuple sa;obtain⟨Al,r2,p2,_⟩:=I.tuple sb;cases r1;exact J4 p1 p2 ⟨.ref b,H,I,rfl,k.pure R (.tup sb rb)⟩
    .refine Yy ag s σ H _ _ v u Q I rx ry ⟨a,b,vs,D7,rfl,rfl,sa,sb,hv,zG (by rw[<-ra.length,<-rb.length];exact hl) xy,λz=>?_,λ_ p hp=>k.tup R (ra.append rb) hp⟩
     subst z;cases rb;rw[yz] at k;exact k.pure R (.tup sa ra)
   .cases e'
  .cases e'
 .split at e
  .rename_i l l' e1 e2
   split at e
   .rename_i hl
    cases e;exact so (P:=λ_ _ _ _=>True) I rx ry R ax ay e1 e2 hl λp xs hp rs=>k.fls R rs hp
   .cases e
  .cases e
def YI:kS X (Ù .Add) (rM X.K cl gU):=by
 rintro ag s σ H x y v u Q I rx ry ⟨μ,h,wx,wy,w,h',R,ax,ay,e,k⟩;unfold gU at e;split at e
 .rename_i l l' e1 e2
  split at e
  .rename_i hl
   cases e;exact so (P:=λ_ _ _ _=>True) I rx ry R ax ay e1 e2 hl λp xs hp rs=>k.lst R rs hp
  .cases e
 .cases e
end
noncomputable def xD(x y:W):M W:=λh=>match x,y with
 | .int i,.int j=>À (.int (i-j),h)
 | _,_=>Á
noncomputable def small(i:Int):Bool:=decide (-(2 ^ 64)<i/\i<2 ^ 64)
noncomputable def kC(x y:W):M W:=λh=>match x,y with
 | .int i,.int j=>if (small i||small j)=Ã then À (.int (i*j),h) else Á
 | .tup l,.int j=>if 0<=j/\j<=1000/\l.length<=1000 then À (.tup (Æ j.toNat l).flatten,h) else Á
 | .fls l,.int j=>if 0<=j/\j<=1000/\l.length<=1000 then À (.fls (Æ j.toNat l).flatten,h) else Á
 | _,_=>Á
noncomputable def xZ(x y:W):M W:=λh=>match x,y with
 | .int i,.int j=>if 0<j then À (.int (i%j),h) else Á
 | _,_=>Á
noncomputable def uR(x y:W):M W:=λh=>match x,y with
 | .int i,.int j=>if 0<j/\j<1073741824 then À (.int (i/j),h) else Á
 | _,_=>Á
noncomputable def JV(x y:W):M W:=λh=>match x,y with
 | .int i,.int j=>if 0<=j/\j<=100/\i.natAbs<1000 then À (.int (i ^ j.toNat),h) else Á
 | _,_=>Á
noncomputable def kL(p:Int->Int->Bool)(x y:W):M W:=λh=>match x,y with
 | .int i,.int j=>À (.bl (p i j),h)
 | _,_=>Á
noncomputable def uE(x:W):M W:=λh=>match x with
 | .int i=>À (.int (-i),h)
 | _=>Á
noncomputable def ee(b:Bool)(x y:W):M W:=λh=>match x,y with
 | .non,.non=>À (.bl b,h)
 | .tup _,.non=>À (.bl (!b),h)
 | .fls _,.non=>À (.bl (!b),h)
 | .int _,.non=>À (.bl (!b),h)
 | .str _,.non=>À (.bl (!b),h)
 | .bl _,.non=>À (.bl (!b),h)
 | .ref _,.non=>À (.bl (!b),h)
 | _,_=>Á
section
variable{X:Cx}{cl:Cl}
def Wx:kS X (Ù .Sub) (rM X.K cl xD):=by
 rintro ag s σ H x y v u Q I rx ry ⟨μ,h,wx,wy,w,h',R,ax,ay,e,k⟩;unfold xD at e;split at e
 .cases e;exact Xv ag s σ H x y v u Q I rx ry ⟨_,_,ax.int_of,ay.int_of,k.pure R (.int _)⟩
 .cases e
def W2:kS X (Ù .Mod) (rM X.K cl xZ):=by
 rintro ag s σ H x y v u Q I rx ry ⟨μ,h,wx,wy,w,h',R,ax,ay,e,k⟩;unfold xZ at e;split at e
 .split at e
  .rename_i hj;cases e;exact Ug ag s σ H x y v u Q I rx ry ⟨_,_,ax.int_of,ay.int_of,hj,k.pure R (.int _)⟩
  .cases e
 .cases e
def WX:kS X (Ù .FloorDiv) (rM X.K cl uR):=by
 rintro ag s σ H x y v u Q I rx ry ⟨μ,h,wx,wy,w,h',R,ax,ay,e,k⟩;unfold uR at e;split at e
 .split at e
  .rename_i hj;cases e;exact WS ag s σ H x y v u Q I rx ry ⟨_,_,ax.int_of,ay.int_of,hj,k.pure R (.int _)⟩
  .cases e
 .cases e
def Wt:kS X (Ù .Pow) (rM X.K cl JV):=by
 rintro ag s σ H x y v u Q I rx ry ⟨μ,h,wx,wy,w,h',R,ax,ay,e,k⟩;unfold JV at e;split at e
 .split at e
  .rename_i hj;cases e;exact Ba ag s σ H x y v u Q I rx ry ⟨_,_,ax.int_of,ay.int_of,⟨hj.1,by omega,zN hj.2.2 (by decide)⟩,k.pure R (.int _)⟩
  .cases e
 .cases e
def gh(ho:kS X (Î op) (iO λi j=>.bl (p i j))):kS X (Î op) (rM X.K cl (kL p)):=by
 rintro ag s σ H x y v u Q I rx ry ⟨μ,h,wx,wy,w,h',R,ax,ay,e,k⟩;unfold kL at e;split at e
 .cases e;exact ho ag s σ H x y v u Q I rx ry ⟨_,_,ax.int_of,ay.int_of,k.pure R (.bl _)⟩
 .cases e
def U3:kS X (Î .Lt) (rM X.K cl (kL λi j=>decide (i<j))):=gh BQ
def XI:kS X (Î .LtE) (rM X.K cl (kL λi j=>decide (i<=j))):=gh BB
def Xq:kS X (Î .Gt) (rM X.K cl (kL λi j=>decide (j<i))):=gh Ck
def UV:kS X (Î .GtE) (rM X.K cl (kL λi j=>decide (j<=i))):=gh BL
def YH:ZI X (unaryOp .USub) (rM1 X.K cl uE):=by
 rintro ag s σ H x v Q I rx ⟨μ,h,wx,w,h',R,ax,e,k⟩;unfold uE at e;split at e
 .cases e;exact X6 ag s σ H x v Q I rx ⟨_,ax.int_of,k.pure R (.int _)⟩
 .cases e
def WG:Jt X .Add (rM X.K cl (λx y=>match x,y with | .int i,.int j=>λh=>À (.int (i+j),h) | _,_=>λ_=>Á)):=by
 rintro ag s σ H x y v u Q I rx ry ⟨μ,h,wx,wy,w,h',R,ax,ay,e,k⟩;try dsimp only at e
 split at e
 .cases e;exact Be ag s σ H x y v u Q I rx ry ⟨_,_,ax.int_of,ay.int_of,k.pure R (.int _)⟩
 .cases e
def iA{K:NT}{μ:List Ç}{H:Hp}{h h':MH}{wx:W}(ax:RW K μ H wx x)(ay:RW K μ H wy y)(e:ee b wx wy h=À (w,h')):h=h'/\y=.non/\w=.bl (if b then decide (x=.non) else !decide (x=.non)):=by
 unfold ee at e;split at e<;>first | (cases e;cases ax;cases ay;refine⟨rfl,rfl,?_⟩;cases b<;>simp) | cases e
def YX:kS X (Î .Is) (rM X.K cl (ee Ã)):=by
 rintro ag s σ H x y v u Q I rx ry ⟨μ,h,wx,wy,w,h',R,ax,ay,e,k⟩;obtain⟨rfl,hy,rfl⟩:=iA ax ay e;exact Uz ag s σ H x y v u Q I rx ry ⟨hy,k.pure R (.bl _)⟩
def Jb:kS X (Î .IsNot) (rM X.K cl (ee Â)):=by
 rintro ag s σ H x y v u Q I rx ry ⟨μ,h,wx,wy,w,h',R,ax,ay,e,k⟩;obtain⟨rfl,hy,rfl⟩:=iA ax ay e;exact WY ag s σ H x y v u Q I rx ry ⟨hy,k.pure R (.bl _)⟩
end
noncomputable def kb(ws:List W):M W:=λh=>match ws with
 | [.tup l]=>À (.int l.length,h)
 | [.str x]=>if x.length<=cap then À (.int x.length,h) else Á
 | [w]=>match getL h w with
  | some l=>À (.int l.length,h)
  | none=>Á
 | _=>Á
noncomputable def zt(x y:W):M W:=λh=>match x,y with
 | .tup l,.int i=>match atI l i with
  | some w=>À (w,h)
  | none=>Á
 | .str z,.int i=>if z.length<=cap then (match atI z.cps.toList i with
  | some c=>À (.str ⟨#[c]⟩,h)
  | none=>Á) else Á
 | x,.int i=>match getL h x with
  | some l=>match atI l i with
   | some w=>À (w,h)
   | none=>Á
  | none=>Á
 | _,_=>Á
noncomputable def cutW(l:List W)(lo hi:Option Int):List W:=(l.drop (HT.sIx l.length 0 lo)).take (HT.sIx l.length l.length hi-HT.sIx l.length 0 lo)
theorem RWs.atI{K:NT}{μ:List Ç}{H:Hp}{l:List W}(rs:RWs K μ H l vs)(e:L2.atI l i=À w):∃v,L2.atI vs i=À v/\RW K μ H w v:=by
 unfold L2.atI at e ⊢;rw[<-rs.length];cases q:wm l.length i with
 | none=>rw[q] at e;cases e
 | some j=>
  rw[q] at e;exact rs.get e
theorem RWs.cutW{K:NT}{μ:List Ç}{H:Hp}(rs:RWs K μ H l vs)(lo hi:Option Int):RWs K μ H (cutW l lo hi) (bX vs lo hi):=by
 unfold ML.cutW bX;rw[<-rs.length];exact(rs.drop _).take _
section
variable{X:Cx}{cl:Cl}{a b:Ë}{ma mb:ME}{pos:õ}
def Ko:qV X (.builtin "len") (rMs X.K cl kb):=by
 rintro ag s σ H xs us Q I rs ⟨μ,h,ws,w,h',R,ax,e,k⟩;unfold kb at e;split at e
 .rename_i l
  cases e;cases ax with | cons r t=>cases t with | nil=>
   obtain⟨a,vs,rfl,sa,ra⟩:=r.tup_of;exact fK ag s σ H _ us Q I rs ⟨a,vs,rfl,.inr sa,by rw[<-ra.length];exact k.pure R (.int _)⟩
 .rename_i z
  split at e
  .rename_i hl
   cases e;cases ax with | cons r t=>cases t with | nil=>
    cases r.str_of;exact oV ag s σ H _ us Q I rs ⟨z,rfl,zG hl xy,k.pure R (.int _)⟩
  .cases e
 .split at e
  .rename_i l el
   cases e;cases ax with | cons r t=>cases t with | nil=>
    obtain⟨a,vs,rfl,sa,ra⟩:=wc R r el;exact fK ag s σ H _ us Q I rs ⟨a,vs,rfl,.inl sa,by rw[<-ra.length];exact k.pure R (.int _)⟩
  .cases e
 .cases e
def CH:rK X (rM X.K cl zt):=by
 rintro value slice ag s σ H x y v u Q I rx ry ⟨μ,h,wx,wy,w,h',R,ax,ay,e,k⟩ hs;unfold zt at e;split at e
 .rename_i l i
  split at e
  .rename_i w' e'
   cases e;obtain⟨a,vs,rfl,sa,ra⟩:=ax.tup_of;obtain⟨v',ev,rv⟩:=ra.atI e';exact oE value slice ag s σ H _ y v u Q I rx ry ⟨a,vs,i,v',rfl,ay.int_of,sa,ev,k.pure R rv⟩ hs
  .cases e
 .rename_i z i
  split at e
  .rename_i hl
   split at e
   .rename_i c e'
    cases e;exact Uq value slice ag s σ H _ y v u Q I rx ry ⟨z,i,c,ax.str_of,ay.int_of,zG hl xy,e',k.pure R (.str _)⟩ hs
   .cases e
  .cases e
 .rename_i i Hw Ej
  split at e
  .rename_i l el
   split at e
   .rename_i w' e'
    cases e;obtain⟨a,vs,rfl,sa,ra⟩:=wc R ax el;obtain⟨v',ev,rv⟩:=ra.atI e';exact WO value slice ag s σ H _ y v u Q I rx ry ⟨a,vs,i,v',rfl,ay.int_of,sa,ev,k.pure R rv⟩ hs
   .cases e
  .cases e
 .cases e
def Ce(ha:SE X cl a ma)(hb:SE X cl b mb)(hs:d0 b:=by exactλ_ _=>rfl):SE X cl (.Subscript a b pos) (zk zt ma mb):=
 PE.wk (Vw CH ha hb hs) λσ H Q q=>eJ q
end
section
variable{prog:Í}{w:Ð}{A:Ò}{E:Ä->Å->Prop}{s:Å}
open HT in
def fu{t sl:Ç}{items:Array Ä}{vl vu:Ä}{lo hi:Option Int}{Q:Ä->Å->Prop}(ht:Ĳ s.heap t items)(hs:s.heap.IsSliceOf sl vl vu .none)(pl:Ę vl lo)(pu:Ę vu hi)
  (hw:sIx items.size 0 lo=0/\sIx items.size items.size hi=items.size) (h:Q (.ref t) s):Ê (Ì prog w) A (Ĭ (.ref t) (.ref sl)) Q E s:=by
 obtain⟨os,DW,AB,Fm⟩:=id hs;have Gr:s.TypeIs (.ref sl) "slice":=⟨os,DW,AB⟩;unfold Ĭ;try with_reducible refine jf ?_
 first | refine za (zy ?_) | skip
 refine za (Ş ht.typeIs (by decide) ?_)
 refine za (jE (name:=ÿ "__getitem__") ht.typeIs ju
  (j5 ju ht.typeIs ŉ ?_ (Ő _ _)))
 show Ê _ _ (Ě (.ref t) >>= _) _ _ s
 refine za (wW ht ?_);refine za (qC Gr ?_);rw[zW (by decide)];refine za (cv hs pl pu ?_);have Gs:((((sIx items.size 0 lo:Nat):Int)==0&&(1:Int)==1&&(sIx items.size items.size hi-sIx items.size 0 lo)==items.size)=Ã):=by
  rw[hw.1,hw.2];simp
 show Ê _ _ (if (((sIx items.size 0 lo:Nat):Int)==0&&(1:Int)==1&&(sIx items.size items.size hi-sIx items.size 0 lo)==items.size)=Ã then _ else _) _ _ s
 rw[zW Gs];unfold Ĝ;refine za (za (qC ht.typeIs (zy ?_)));rw[zW (by decide)];first
  | exact za (qP (zy ⟨_,rfl,zy h⟩))
  | exact za (qP (za (zy (zy ⟨_,rfl,zy h⟩))))
  | exact za (za (qP (zy ⟨_,rfl,zy h⟩)))
end
noncomputable def aw(x:W)(lo hi:Option Int):M W:=λh=>match x with
 | .tup l=>À (.tup (cutW l lo hi),h)
 | .str z=>if z.length<=cap then À (.str (Txt.slice z lo hi),h) else Á
 | x=>match getL h x with
  | some l=>À (.fls (cutW l lo hi),h)
  | none=>Á
noncomputable def xt(m:Option ME):En->M (Option Int):=λρ=>match m with
 | none=>λh=>À (Á,h)
 | some m=>bnd (m ρ) λw h=>match w with
  | .int i=>À (À i,h)
  | _=>Á
noncomputable def jS(a:ME)(lo hi:Option ME):ME:=λρ=>bnd (a ρ) λx=>bnd (xt lo ρ) λl=>bnd (xt hi ρ) λu=>aw x l u
section
variable{X:Cx}{cl:Cl}{a:Ë}{ma:ME}{pos p2:õ}
inductive tMO(K:NT)(cl:Cl)(m:Option ME)(σ:L2.St)(H:Hp)(Q:Option Int->Hp->Prop):Prop
 | mk (μ:List Ç) (h:MH) (ρ:En) (o:Option Int) (h':MH) (p0:HR K cl μ H h) (p1:ER K μ H ρ σ) (p2:xt m ρ h=À (o,h')) (p3:∀hG H',Ext μ H hG H'->HR K cl hG H' h'->Q o H'):tMO K cl m σ H Q
abbrev SO(X:Cx)(cl:Cl)(e:Option Ë)(m:Option ME):Prop:=PO X e (tMO X.K cl m)
def PO.wk(h:PO X e t)(w:∀σ H Q,t' σ H Q->t σ H Q):PO X e t':=λag s σ H Q I q=>h ag s σ H Q I (w σ H Q q)
def WW:SO X cl Á Á:=PO.wk Ye λσ H Q q0=>by
 obtain⟨μ,h,ρ,o,h',R,er,e,k⟩:=q0;cases e;exact k μ H .refl R
def Yw(ha:SE X cl a ma):SO X cl (À a) (À ma):=PO.wk (Yu ha) λσ H Q q0=>by
 obtain⟨μ,h,ρ,o,h',R,er,e,k⟩:=q0;obtain⟨x,h1,e1,e⟩:=kd e;split at e
 .rename_i i
  cases e;exact⟨μ,h,ρ,_,_,R,er,e1,λcx H1 v E1 R1 r=>⟨i,r.int_of,k cx H1 E1 R1⟩⟩
 .cases e
def Yg{ag:List (Ç×æ)}{s:Å}{σ:L2.St}{H:Hp}{a:Ç}{v vl vu:Ä}{lo hi:Option Int}{sl:Ç}{Q:VK}{xs:List V}(I:Inv X ag σ H s)(rx:RelV (.ref a) v)(hs:s.heap.IsSliceOf sl vl vu .none)(pl:Ę vl lo)(pu:Ę vu hi)
  (hx:SqT X.K H a xs) (q1:bX xs lo hi=xs->Q (.ref a) H) (q2:∀p,H p=Á->Q (.ref p) (upd H p (.tup (bX xs lo hi)))) :
  ∃T id,Č (.type T) "__getitem__" = pure (À (.builtin id))/\s.TypeIs v T/\Ê (Ì X.prog X.w) X.A (Ĭ v (.ref sl)) (EP X ag σ Q) X.xe s:=by
 by_cases hw:HT.sIx xs.length 0 lo=0/\HT.sIx xs.length xs.length hi=xs.length
 .cases rx
  obtain⟨cb,r,ht,hz⟩:=I.tuple hx;have lx:cb.toArray.size=xs.length:=by rw[zH];exact r.length.symm
  refine⟨"tuple",_,ju.lookup,ht.typeIs,?_⟩;refine fu ht hs pl pu (by rw[lx];exact hw) ⟨.ref a,H,I,rfl,q1 ?_⟩;unfold bX;rw[hw.1,hw.2];simp
 .exact UO ag s σ H _ v vl vu lo hi sl Q I rx hs pl pu ⟨a,xs,rfl,hx,hw,q2⟩
def BE{lo hi:Option Ë}(ha:SE X cl a ma)(hl:SO X cl lo ml)(hh:SO X cl hi mh):SE X cl (.Subscript a (.Slice lo hi Á p2) pos) (jS ma ml mh):=by
 have hr:Kl X (λx lo hi H Q=>∃μ h wx w h',HR X.K cl μ H h/\RW X.K μ H wx x/\aw wx lo hi h=À (w,h')/\KQ X.K cl μ H h' w Q):=by
  rintro ag s σ H x v vl vu lo hi sl Q I rx hs pl pu ⟨μ,h,wx,w,h',R,ax,e,k⟩;unfold aw at e;split at e
  .rename_i l
   cases e;obtain⟨a,vs,rfl,sa,ra⟩:=ax.tup_of;refine Yg I rx hs pl pu sa (λz=>k.pure R (.tup sa ?_)) λp hp=>k.tup R (ra.cutW lo hi) hp
   have q:=ra.cutW lo hi;rw[z] at q;exact q
  .rename_i z
   split at e
   .rename_i hl
    cases e;cases ax.str_of;obtain⟨tk,rfl⟩:=rx;refine⟨"str",_,F.slot_str_getitem.lookup,vW _ _ _,?_⟩;obtain⟨l,el⟩:∃l:Option (Int×ū),vl=partValue l/\lo=l.map (·.1):=by
     cases pl with
     | none=>exact⟨Á,rfl,rfl⟩
     | int i t=>exact⟨À (i,t),rfl,rfl⟩
    obtain⟨u,eu⟩:∃l:Option (Int×ū),vu=partValue l/\hi=l.map (·.1):=by
     cases pu with
     | none=>exact⟨Á,rfl,rfl⟩
     | int i t=>exact⟨À (i,t),rfl,rfl⟩
    obtain⟨rfl,rfl⟩:=el;obtain⟨rfl,rfl⟩:=eu;exact wpAny_getItem_str_slice (l:=l) (u:=u) (st:=Á) hs rfl (post_val_or_str ⟨zG (Txt.slice_le z _ _) (zG hl xy),λt' k'=>⟨.str _,H,I.tok k',⟨t',rfl⟩,k.pure R (.str _)⟩⟩)
   .cases e
  .split at e
   .rename_i l el
    cases e;obtain⟨a,vs,rfl,sa,ra⟩:=wc R ax el;exact rV ag s σ H _ v vl vu lo hi sl Q I rx hs pl pu ⟨a,vs,rfl,sa,λp hp=>k.fls R (ra.cutW lo hi) hp⟩
   .cases e
 refine PE.wk (pM hr ha hl hh) ?_;rintro σ H Q ⟨μ,h,ρ,w,h',R,er,e,k⟩;obtain⟨x,h1,e1,e⟩:=kd e;obtain⟨l,h2,e2,e⟩:=kd e;obtain⟨u,h3,e3,e⟩:=kd e
 exact⟨μ,h,ρ,x,h1,R,er,e1,λcx H1 vx E1 R1 rx=>⟨cx,h1,ρ,l,h2,R1,er.ext R E1,e2,λhX H2 E2 R2=>⟨hX,h2,ρ,u,h3,R2,(er.ext R E1).ext R1 E2,e3,λAC H3 E3 R3=>
  ⟨AC,h3,x,w,h',R3,(rx.ext R1 E2).ext R2 E3,e,k.ext (E1.trans (E2.trans E3))⟩⟩⟩⟩
end
def hZ:fillsNumberSlot (.type "tuple") "mul" = pure Â:=
 PySem.fillsNumberSlot_seq (id:="tuple.__mul__") (r:=À (.builtin "tuple.__rmul__")) vp.lookup ⋯ F.slot_tuple_rmul.lookup ⋯
theorem pI:seqRepeat? (.type "tuple")=pure (À (.builtin "tuple.__mul__")):=by
 unfold seqRepeat?;rw[PySem.seqSlot_of (T:="tuple") (name:="__mul__") (id:="tuple.__mul__") vp.lookup ⋯,PySem.seqSlot_of (T:="tuple") (name:="__rmul__") (id:="tuple.__rmul__") F.slot_tuple_rmul.lookup ⋯];rfl
def dI(a:Int)(t:ū)(l:Ç)(items:Array Ä)(n:Nat)(dd:Option Ç)(sl:Array (Option Ä)) :
  Meets (ü.«int.__rmul__» ⟨[.int a t,.ref l],[]⟩) (λ_ R s=>s.heap.get? l=À { cls:=.type "tuple",dict:=dd,data:=.seq items n,slots:=sl }/\R (.ok (.ret Value.notImplemented)) s):=
 .of_wp λprog w A R s h=>by obtain⟨hp,g,d,tk,os⟩:=s;obtain⟨hl,h⟩:=h;wp_walk;exact⟨_,rfl,h⟩
def tW(l:Ç)(items:Array Ä)(n:Nat)(dd:Option Ç)(sl:Array (Option Ä))(x:Int)(u:ū)(hf:¬((decide (x < -2 ^ 63)||decide (x>=2 ^ 63))=Ã))(hc:(items.isEmpty||x==1)=Ã) :
  Meets (ü.«tuple.__mul__» ⟨[.ref l,.int x u],[]⟩) (λ_ R s=>s.heap.get? l=À { cls:=.type "tuple",dict:=dd,data:=.seq items n,slots:=sl }/\R (.ok (.ret (.ref l))) s):=
 .of_wp λprog w A R s h=>by
  obtain⟨hp,g,d,tk,os⟩:=s;obtain⟨hl,h⟩:=h;have f1:=vq;have ht:Ĳ ({ heap:=hp,gens:=g,drawn:=d,toks:=tk,os:=os }:Å).heap l items:=⟨_,hl,rfl,n,rfl⟩;wp_walk using ñ hl
  rw[kY hf];try dsimp only
  refine za (wW ht ?_);try dsimp only
  rw[zW hc];unfold Ĝ;refine za (za (qC ht.typeIs (zy ?_)));rw[zW (by decide)];exact za (qP (zy ⟨_,rfl,h⟩))
def t9 (l : Ç) (items : Array Ä) (n : Nat) (dd : Option Ç) (sl : Array (Option Ä)) (x : Int) (u : ū) (hf : ¬ ((decide (x < -2 ^ 63) || decide (x >= 2 ^ 63)) = Ã)) (hc : ¬ (items.isEmpty || x == 1) = Ã) (h0 : ¬ (decide (x <= 0) || items.isEmpty) = Ã)
   (h1 : ¬ (items.size * x > (2 ^ 63 - 1) / 8)) (h2 : ¬ ĝ (items.size * x) = Ã) (hz : sizeOk (Data.seq (ě (λx1 x2 => x1 ++ x2) #[] (Æ x.toNat items)))) :
    Meets (ü.«tuple.__mul__» ⟨[.ref l, .int x u], []⟩) (λ_ R s => s.heap.get? l = À { cls := .type "tuple", dict := dd, data := .seq items n, slots := sl } /\
      R (.ok (.ret (.ref s.heap.objs.size))) { s with heap := s.heap.push { cls := ŏ "tuple", data := Data.seq (ě (λx1 x2 => x1 ++ x2) #[] (Æ x.toNat items)) } }) :=
  .of_wp λprog w A R s h => by
    obtain ⟨hp, g, d, tk, os⟩ := s;obtain ⟨hl, h⟩ := h;have f1 := vq;have ht : Ĳ ({ heap := hp, gens := g, drawn := d, toks := tk, os := os } : Å).heap l items := ⟨_, hl, rfl, n, rfl⟩;wp_walk using ñ hl
    rw [kY hf];try dsimp only
    refine za (wW ht ?_);try dsimp only
    rw [kY hc, kY h0, kY h1, kY h2];refine za (m := à _) (jx (zy ⟨_, rfl, h⟩) hz)
def tj(l:Ç)(items:Array Ä)(n:Nat)(dd:Option Ç)(sl:Array (Option Ä))(x:Int)(u:ū)(hf:¬((decide (x < -2 ^ 63)||decide (x>=2 ^ 63))=Ã))(hc:¬(items.isEmpty||x==1)=Ã)(h0:(decide (x<=0)||items.isEmpty)=Ã) :
  Meets (ü.«tuple.__mul__» ⟨[.ref l,.int x u],[]⟩) (λ_ R s=>s.heap.get? l=À { cls:=.type "tuple",dict:=dd,data:=.seq items n,slots:=sl } /\
   R (.ok (.ret (.ref s.heap.objs.size))) { s with heap:=s.heap.push { cls:=ŏ "tuple",data:=Data.seq #[] } }):=
 .of_wp λprog w A R s h=>by
  obtain⟨hp,g,d,tk,os⟩:=s;obtain⟨hl,h⟩:=h;have f1:=vq;have ht:Ĳ ({ heap:=hp,gens:=g,drawn:=d,toks:=tk,os:=os }:Å).heap l items:=⟨_,hl,rfl,n,rfl⟩;wp_walk using ñ hl
  rw[kY hf];try dsimp only
  refine za (wW ht ?_);try dsimp only
  rw[kY hc,zW h0];refine za (m:=à _) (jx (zy ⟨_,rfl,h⟩) (by show 0<=sizeLine;decide))
section
variable{X:Cx}{cl:Cl}
def W7{H:Hp}{k:Int}{xs:List V}(I:Inv X ag σ H s)(rx:RelV (.ref a) v)(ry:RelV (.int k) u)(hx:SqT X.K H a xs)(h1:0<=k)(h2:k<=1000)(hz:xs.length<=1000)
  (q1:(Æ k.toNat xs).flatten=xs->Q (.ref a) H) (q2:∀p,H p=Á->Q (.ref p) (upd H p (.tup (Æ k.toNat xs).flatten))):Ê (Ì X.prog X.w) X.A (Ù .Mult v u) (EP X ag σ Q) X.xe s:=by
 cases rx;obtain⟨t,rfl⟩:=ry;obtain⟨cb,r,ht,_⟩:=I.tuple hx;have lx:=r.length;obtain⟨⟨cls,dd,data,sl⟩,e,hc,n,hd⟩:=id ht;simp only at hc hd;subst hc hd;have GD:(sizeLine:Nat)=16777216:=qZ;have AD:ě (λx1 x2=>x1++x2) #[] (Æ k.toNat cb.toArray)=(Æ k.toNat cb).flatten.toArray:=by
  have:=foldl_rep cb k.toNat [];rw[zM] at this;exact this
 have GE:k.toNat*cb.length<=1000*1000:=Nat.mul_le_mul ∅ ∅;have hf:¬((decide (k < -2 ^ 63)||decide (k>=2 ^ 63))=Ã):=by
  erw[yE,ji];omega
 have road:∀{R:Ä->Å->Prop},Ê (Ì X.prog X.w) X.A (call (.builtin "tuple.__mul__") [.ref a,.int k t]) R X.xe s->Ê (Ì X.prog X.w) X.A (Ù .Mult (.ref a) (.int k t)) R X.xe s:=λDE=>
  xH (T:="tuple") (U:="int") (by decide) ⟨_,e,rfl⟩ (λs'=>yG s' k t) hZ F.fills_int_mul wL pI F.slot_int_index.lookup
   (qw wL (yG s k t) F.entry_int_rmul (F.args_int_rmul_2 _ _) (dI k t a cb.toArray n dd sl) ⟨e,rfl,⟨_,e,rfl⟩,DE⟩)
 refine road ?_;by_cases c1:(cb.toArray.isEmpty||k==1)=Ã
 .refine qw vp ⟨_,e,rfl⟩ yL (yC _ _) (tW a cb.toArray n dd sl k t hf c1) ⟨e,.ref a,H,I,rfl,q1 ?_⟩
  rcases vh.mp c1 with c | c
  .have:cb=[]:=by simpa using c
   subst this;cases r;simp
  .have:k=1:=by simpa using c
   subst this;simp
 .by_cases c2:(decide (k<=0)||cb.toArray.isEmpty)=Ã
  .refine qw vp ⟨_,e,rfl⟩ yL (yC _ _) (tj a cb.toArray n dd sl k t hf c1 c2) ⟨e,?_⟩
   have hk:k=0:=by
    have ne:cb.toArray.isEmpty=Â:=by
     cases z:cb.toArray.isEmpty with
     | false=>rfl
     | true=>exact absurd (by rw[z];rfl) c1
    rw[ne,qO] at c2;have:=j7 c2;omega
   subst hk;exact⟨.ref _,_,I.laid (t':=s.toks) (o:=.tup (Æ (0:Int).toNat xs).flatten) (λb ob q=>zg _ q) (zF _) ⟨by simp,[],by simpa using Paired.nil,IsTup.new _ _,.new _ _⟩,rfl,q2 _ I.fresh⟩
  .refine qw vp ⟨_,e,rfl⟩ yL (yC _ _) (t9 a cb.toArray n dd sl k t hf c1 c2 ?_ ?_ ?_) ⟨e,?_⟩
   .rw[zH]
    have:(cb.length:Int)*k<=1000*1000:=by
     have:(cb.length:Int)*k=((k.toNat*cb.length:Nat):Int):=by
      rw[wX];push_cast;rw[qg h1]
     omega
    omega
   .rw[zH]
    unfold ĝ;have:(cb.length:Int)*k<=1000*1000:=by
     have:(cb.length:Int)*k=((k.toNat*cb.length:Nat):Int):=by
      rw[wX];push_cast;rw[qg h1]
     omega
    erw[ji];omega
   .rw[AD]
    show((Æ k.toNat cb).flatten.toArray).size<=sizeLine
    rw[zH,len_rep];omega
   .rw[AD]
    exact⟨.ref _,_,I.laid (t':=s.toks) (o:=.tup (Æ k.toNat xs).flatten) (λb ob q=>zg _ q) (zF _) ⟨by rw[len_rep,lx];omega,_,r.rep k.toNat,IsTup.new _ _,.new _ _⟩,rfl,q2 _ I.fresh⟩
def Ws{H:Hp}{k:Int}{xs:List V}(I:Inv X ag σ H s)(rx:RelV (.ref a) v)(ry:RelV (.int k) u)(hx:SqL X.K H a xs)(h1:0<=k)(h2:k<=1000)(hz:xs.length<=1000)
  (q2:∀p,H p=Á->Q (.ref p) (upd H p (.lst (Æ k.toNat xs).flatten))):Ê (Ì X.prog X.w) X.A (Ù .Mult v u) (EP X ag σ Q) X.xe s:=by
 cases rx;obtain⟨t,rfl⟩:=ry;obtain⟨cb,r,⟨o,n,e,hc,hd,Hx⟩,_⟩:=I.list hx;obtain⟨cls,dd,data,sl⟩:=o;simp only at hc hd Hx;subst hc Hx;have lx:=r.length;have GD:(sizeLine:Nat)=16777216:=qZ;have GE:cb.length*k.toNat<=1000*1000:=Nat.mul_le_mul ∅ ∅;have DY:¬(!Ğ k)=Ã:=by simp[Ğ];omega
 have DF:¬cb.toArray.size*k.toNat>(2 ^ 63-1)/8:=by rw[zH];omega
 have DG:¬á (cb.toArray.size*k.toNat)=Ã:=by rw[zH];simp[á,sizeLine];omega
 have AD:ě (λx1 x2=>x1++x2) #[] (Æ (if cb.toArray.isEmpty=Ã then 0 else k.toNat) cb.toArray)=(Æ k.toNat cb).flatten.toArray:=by
  have f0:∀m:Nat,ě (λx1 x2=>x1++x2) #[] (Æ m cb.toArray)=(Æ m cb).flatten.toArray:=λm=>by
   have z:=foldl_rep cb m [];rw[zM] at z;exact z
  rw[f0];cases cb with
  | nil=>simp
  | cons c r'=>rw[kY (by simp)]
 refine xH (T:="list") (U:="int") (by decide) ⟨_,e,rfl⟩ (λs'=>yG s' k t) noFill_list_mul F.fills_int_mul wL repeat_list F.slot_int_index.lookup (qw wL (yG s k t) F.entry_int_rmul (F.args_int_rmul_2 _ _) (lm_int_rmul_list_any k t a cb.toArray n dd sl) ⟨e,rfl,⟨_,e,rfl⟩,qw F.slot_list_mul ⟨_,e,rfl⟩ F.entry_list_mul (F.args_list_mul_2 _ _) (lm_list_mul_any a cb.toArray n dd sl k t DY DF DG) ⟨e,?_⟩⟩);rw[AD];exact⟨.ref _,_,I.lnew (t':=s.toks) (r.rep k.toNat) (by rw[len_rep,lx,wX];omega),rfl,q2 _ I.fresh⟩
def Ww:kS X (Ù .Mult) (rM X.K cl kC):=by
 rintro ag s σ H x y v u Q I rx ry ⟨μ,h,wx,wy,w,h',R,ax,ay,e,k⟩;unfold kC at e;split at e
 .rename_i i j
  split at e
  .rename_i hj
   cases e;refine U8 ag s σ H x y v u Q I rx ry ⟨_,_,ax.int_of,ay.int_of,?_,k.pure R (.int _)⟩;unfold small at hj;rw[yE,ji,ji] at hj;exact hj
  .cases e
 .rename_i l j
  split at e
  .rename_i hj
   cases e;obtain⟨a,vs,rfl,sa,ra⟩:=ax.tup_of;cases ay.int_of;refine W7 I rx ry sa hj.1 hj.2.1 (by rw[<-ra.length];exact hj.2.2) (λz=>k.pure R (.tup sa ?_)) λp hp=>k.tup R (ra.rep _) hp
   have q:=ra.rep j.toNat;rw[z] at q;exact q
  .cases e
 .rename_i l j
  split at e
  .rename_i hj
   cases e;obtain⟨a,vs,rfl,sa,ra⟩:=wc R ax (show getL _ (.fls l)=À l from rfl);cases ay.int_of;exact Ws I rx ry sa hj.1 hj.2.1 (by rw[<-ra.length];exact hj.2.2) λp hp=>k.fls R (ra.rep _) hp
  .cases e
 .cases e
end
noncomputable def qk{α β:Type}(f:α->Option β):List α->Option (List β)
 | []=>À []
 | x::r=>match f x,qk f r with
  | some y,À ys=>À (y::ys)
  | _,_=>Á
noncomputable def kX:Nat->MH->W->Option ż
 | 0,_,_=>Á
 | _+1,_,.non=>À .none
 | _+1,_,.bl b=>À (.bool b)
 | _+1,_,.int i=>À (.int i)
 | _+1,_,.str x=>if Õ x then À (.str x) else Á
 | n+1,h,.tup l=>(qk (kX n h) l).map .tuple
 | n+1,h,.fls l=>(qk (kX n h) l).map .list
 | n+1,h,.ref k=>match h[k]? with
  | some (.lst l)=>(qk (kX n h) l).map .list
  | _=>Á
 | _+1,_,.fdc _=>Á
 | _+1,_,.fn _=>Á
section
variable{X:Cx}{cl:Cl}{ag:List (Ç×æ)}{σ:L2.St}{μ:List Ç}{H:Hp}{s:Å}{h:MH}
def ul(I:Inv X ag σ H s)(R:HR X.K cl μ H h):∀(n:Nat) {w:W} {x:V} {v:Ä} {d:ż},RW X.K μ H w x->RelV x v->kX n h w=À d->(∃as,Reads s.heap v d as)/\d.canLay0=Ã/\d.depth<=n:=by
 intro n;induction n with
 | zero=>intro w x v d _ _ e;cases e
 | succ n ih=>
  have all:∀{l:List W} {vs:List V} {us:List Ä} {ds:List ż},RWs X.K μ H l vs->Vals vs us->qk (kX n h) l=À ds->(∃as,ReadsAll s.heap us ds as)/\è ds=Ã/\ă ds<=n:=by
   intro l;induction l with
   | nil=>intro vs us ds r t e;cases r;cases t;cases e;exact⟨⟨_,.nil⟩,by unfold è;rfl,by unfold ă;omega⟩
   | cons w l ihl=>
    intro vs us ds r t e;cases r with | cons r rs=>cases t with | cons t ts=>
    unfold qk at e;split at e
    .rename_i y ys e1 e2
     cases e;obtain⟨⟨as,h1⟩,h2,h3⟩:=ih r t e1;obtain⟨⟨bs,g1⟩,g2,g3⟩:=ihl rs ts e2;refine⟨⟨_,.cons h1 g1⟩,by unfold è;rw[h2,g2];rfl,?_⟩;unfold ă;omega
    .cases e
  have lists:∀{l:List W} {a:Ç} {vs:List V} {d:ż},SqL X.K H a vs->RWs X.K μ H l vs->(qk (kX n h) l).map PyData.list=À d->(∃as,Reads s.heap (.ref a) d as)/\d.canLay0=Ã/\d.depth<=n+1:=by
   intro l a vs d sq rs e;cases e1:qk (kX n h) l with
   | none=>rw[e1] at e;cases e
   | some ds=>
    rw[e1] at e;cases e;obtain⟨cb,rv,⟨o,m,h1,h2,h3,h4⟩,_⟩:=I.list sq;obtain⟨⟨as,g1⟩,g2,g3⟩:=all rs rv e1;exact⟨⟨_,.list h1 h2 h4 (by simpa using g1)⟩,by unfold ô;exact g2,by unfold ċ;omega⟩
  intro w x v d r t e;cases r with
  | non=>cases e;cases t;exact⟨⟨_,.none⟩,by unfold ô;rfl,by unfold ċ;omega⟩
  | bl b=>cases e;cases t;exact⟨⟨_,.bool b⟩,by unfold ô;rfl,by unfold ċ;omega⟩
  | int i=>cases e;obtain⟨tk,rfl⟩:=t;exact⟨⟨_,.int i tk⟩,by unfold ô;rfl,by unfold ċ;omega⟩
  | str z=>
   erw[kX] at e;split at e
   .rename_i ok
    cases e;obtain⟨tk,rfl⟩:=t;exact⟨⟨_,.str z tk⟩,by unfold ô;exact ok,by unfold ċ;omega⟩
   .cases e
  | @tup a vs l sq rs=>
   erw[kX] at e;cases t;cases e1:qk (kX n h) l with
   | none=>rw[e1] at e;cases e
   | some ds=>
    rw[e1] at e;cases e;obtain⟨cb,rv,⟨o,h1,h2,m,h4⟩,_⟩:=I.tuple sq;obtain⟨⟨as,g1⟩,g2,g3⟩:=all rs rv e1;exact⟨⟨_,.tuple h1 h2 h4 (by simpa using g1)⟩,by unfold ô;exact g2,by unfold ċ;omega⟩
  | @fls a vs l sq rs=>cases t;erw[kX] at e;exact lists sq.sq rs e
  | fdc=>cases e
  | fn=>cases e
  | @ref k a hk=>
   cases t;erw[kX] at e;split at e
   .rename_i l ho
    obtain⟨vs,hv,rs⟩:=R.ob k a _ hk ho;exact lists (SqL.of hv) rs e
   .cases e
end
section
variable{X:Cx}{cl:Cl}{ag:List (Ç×æ)}{σ:L2.St}{μ:List Ç}{H:Hp}{s:Å}{h:MH}
def pX(I:Inv X ag σ H s)(R:HR X.K cl μ H h)(n:Nat):∀{l:List W} {vs:List V} {us:List Ä} {ds:List ż},RWs X.K μ H l vs->Vals vs us->qk (kX n h) l=À ds->(∃as,ReadsAll s.heap us ds as)/\è ds=Ã:=by
 intro l;induction l with
 | nil=>intro vs us ds r t e;cases r;cases t;cases e;exact⟨⟨_,.nil⟩,by unfold è;rfl⟩
 | cons w l ihl=>
  intro vs us ds r t e;cases r with | cons r rs=>cases t with | cons t ts=>
  unfold qk at e;split at e
  .rename_i y ys e1 e2
   cases e;obtain⟨⟨as,h1⟩,h2,h3⟩:=ul I R n r t e1;obtain⟨⟨bs,g1⟩,g2⟩:=ihl rs ts e2;exact⟨⟨_,.cons h1 g1⟩,by unfold è;rw[h2,g2];rfl⟩
  .cases e
end
noncomputable def deep:Nat:=60
noncomputable def K3(x y:W):Option Bool:=match x,y with
 | .str a,.str b=>À (a==b)
 | .int a,.int b=>À (a==b)
 | .bl a,.bl b=>À (a==b)
 | _,_=>Á
noncomputable def eqB(h:MH)(x y:W):Option Bool:=match K3 x y with
 | some b=>À b
 | none=>match kX deep h x,kX deep h y with
  | some d,À e=>À (ë d e)
  | _,_=>Á
noncomputable def kM(neg:Bool)(x y:W):M W:=λh=>match eqB h x y with
 | some b=>À (.bl (if neg then !b else b),h)
 | none=>Á
noncomputable def xb(h:MH):W->Option (List W)
 | .tup l=>À l
 | w=>getL h w
noncomputable def uT(j i:È):Bool:=!(Ą j i 0 j.length 1).isEmpty
noncomputable def inB(h:MH)(x y:W):Option Bool:=match x,y with
 | .str i,.str j=>À (uT j i)
 | x,y=>match xb h y with
  | some l=>match kX deep h x,qk (kX deep h) l with
   | some d,À ds=>À (ds.any λe=>ë e d)
   | _,_=>Á
  | none=>Á
noncomputable def xh(neg:Bool)(x y:W):M W:=λh=>match inB h x y with
 | some b=>À (.bl (if neg then !b else b),h)
 | none=>Á
section
variable{X:Cx}{cl:Cl}
def KJ(hu:X.A.units+64<ö){H:Hp}{wx:W}(I:Inv X ag σ H s)(rx:RelV x v)(ry:RelV y u)
  (R:HR X.K cl μ H h) (ax:RW X.K μ H wx x) (ay:RW X.K μ H wy y) (e:eqB h wx wy=À b) :
  (Q (.bl b) H->Ê (Ì X.prog X.w) X.A (Î .Eq v u) (EP X ag σ Q) X.xe s)/\(Q (.bl (!b)) H->Ê (Ì X.prog X.w) X.A (Î .NotEq v u) (EP X ag σ Q) X.xe s):=by
 unfold eqB at e;split at e
 .rename_i b' e'
  cases e;unfold K3 at e';split at e'
  .rename_i i j
   cases e';cases ax.str_of;cases ay.str_of;exact⟨λq=>tL ag s σ H _ _ v u Q I rx ry ⟨rfl,by rw[gm];exact q⟩,λq=>Zb ag s σ H _ _ v u Q I rx ry ⟨rfl,by rw[gm];exact q⟩⟩
  .rename_i i j
   cases e';cases ax.int_of;cases ay.int_of;exact⟨λq=>tL ag s σ H _ _ v u Q I rx ry ⟨rfl,by rw[gn];exact q⟩,λq=>Zb ag s σ H _ _ v u Q I rx ry ⟨rfl,by rw[gn];exact q⟩⟩
  .rename_i i j
   cases e';cases ax.bl_of;cases ay.bl_of;exact⟨λq=>tL ag s σ H _ _ v u Q I rx ry ⟨rfl,by rw[ix];exact q⟩,λq=>Zb ag s σ H _ _ v u Q I rx ry ⟨rfl,by rw[ix];exact q⟩⟩
  .cases e'
 .split at e
  .rename_i d d' e1 e2
   cases e;obtain⟨⟨as,r1⟩,c1,d1⟩:=ul I R deep ax rx e1;obtain⟨⟨bs,r2⟩,c2,d2⟩:=ul I R deep ay ry e2;have hr:X.A.units+min d.depth d'.depth<ö:=by
    have:min d.depth d'.depth<=d.depth:=Nat.min_le_left _ _;unfold deep at d1;omega
   exact⟨λq=>SeqAt.compareEq_reads r1 r2 c1 c2 hr ⟨.bl _,H,I,rfl,q⟩,λq=>SeqAt.compareNe_reads r1 r2 c1 c2 hr ⟨.bl _,H,I,rfl,q⟩⟩
  .cases e
def JD(hu:X.A.units+64<ö):kS X (Î .Eq) (rM X.K cl (kM Â)):=by
 rintro ag s σ H x y v u Q I rx ry ⟨μ,h,wx,wy,w,h',R,ax,ay,e,k⟩;unfold kM at e;split at e
 .rename_i b eb
  cases e;exact(KJ hu I rx ry R ax ay eb).1 (k.pure R (.bl _))
 .cases e
def US(hu:X.A.units+64<ö):kS X (Î .NotEq) (rM X.K cl (kM Ã)):=by
 rintro ag s σ H x y v u Q I rx ry ⟨μ,h,wx,wy,w,h',R,ax,ay,e,k⟩;unfold kM at e;split at e
 .rename_i b eb
  cases e;exact(KJ hu I rx ry R ax ay eb).2 (k.pure R (.bl _))
 .cases e
def uP{K:NT}{μ:List Ç}{H:Hp}{h:MH}(R:HR K cl μ H h)(r:RW K μ H w v)(e:xb h w=À l):∃a vs,v=.ref a/\(SqL K H a vs\/SqT K H a vs)/\RWs K μ H l vs:=by
 unfold xb at e;split at e
 .cases e
  obtain⟨a,vs,rfl,sa,ra⟩:=r.tup_of;exact⟨a,vs,rfl,.inr sa,ra⟩
 .obtain⟨a,vs,rfl,sa,ra⟩:=wc R r e
  exact⟨a,vs,rfl,.inl sa,ra⟩
def Jm(hu:X.A.units+64<ö){ag:List (Ç×æ)}{s:Å}{σ:L2.St}{H:Hp}{x y:V}{v u:Ä}{wx:W}(I:Inv X ag σ H s)(rx:RelV x v)(ry:RelV y u)
  (R:HR X.K cl μ H h) (ax:RW X.K μ H wx x) (ay:RW X.K μ H wy y) (e:inB h wx wy=À b) :
  (Q (.bl b) H->Ê (Ì X.prog X.w) X.A (Î .In v u) (EP X ag σ Q) X.xe s)/\(Q (.bl (!b)) H->Ê (Ì X.prog X.w) X.A (Î .NotIn v u) (EP X ag σ Q) X.xe s):=by
 unfold inB at e;split at e
 .rename_i i j
  cases e;exact⟨λq=>Jz ag s σ H x y v u Q I rx ry ⟨i,j,ax.str_of,ay.str_of,q⟩,λq=>oz ag s σ H x y v u Q I rx ry ⟨i,j,ax.str_of,ay.str_of,q⟩⟩
 .split at e
  .rename_i l el
   split at e
   .rename_i d ds e1 e2
    cases e;obtain⟨a,vs,rfl,sa,ra⟩:=uP R ay el;cases ry;obtain⟨⟨as,r1⟩,c1,d1⟩:=ul I R deep ax rx e1;have big:kX (deep+1) h (.tup l)=À (.tuple ds):=by erw[kX];rw[e2];rfl
    have Li:kX (deep+1) h (.fls l)=À (.list ds):=by erw[kX];rw[e2];rfl
    have hr:X.A.units+1+min (ă ds) d.depth<ö:=by
     have:min (ă ds) d.depth<=d.depth:=Nat.min_le_right _ _;unfold deep at d1;omega
    rcases sa with sa | sa
    .obtain⟨cb,rv,⟨o,m,h1,h2,h3,h4⟩,_⟩:=I.list sa
     obtain⟨⟨Np,g1⟩,c2⟩:=pX I R deep ra rv e2;have r2:Reads s.heap (.ref a) (.list ds) _:=.list h1 h2 h4 (by simpa using g1);exact⟨λq=>SeqAt.in_list_reads r2 r1 c2 c1 hr ⟨.bl _,H,I,rfl,q⟩,λq=>SeqAt.notIn_list_reads r2 r1 c2 c1 hr ⟨.bl _,H,I,rfl,q⟩⟩
    .obtain⟨⟨bs,r2⟩,c2,_⟩:=ul I R (deep+1) (.tup sa ra) rfl big
     have Ek:è ds=Ã:=by unfold ô at c2;exact c2
     exact⟨λq=>SeqAt.in_tuple_reads r2 r1 Ek c1 hr ⟨.bl _,H,I,rfl,q⟩,λq=>SeqAt.notIn_tuple_reads r2 r1 Ek c1 hr ⟨.bl _,H,I,rfl,q⟩⟩
   .cases e
  .cases e
def Xi(hu:X.A.units+64<ö):kS X (Î .In) (rM X.K cl (xh Â)):=by
 rintro ag s σ H x y v u Q I rx ry ⟨μ,h,wx,wy,w,h',R,ax,ay,e,k⟩;unfold xh at e;split at e
 .rename_i b eb
  cases e;exact(Jm hu I rx ry R ax ay eb).1 (k.pure R (.bl _))
 .cases e
def Kj(hu:X.A.units+64<ö):kS X (Î .NotIn) (rM X.K cl (xh Ã)):=by
 rintro ag s σ H x y v u Q I rx ry ⟨μ,h,wx,wy,w,h',R,ax,ay,e,k⟩;unfold xh at e;split at e
 .rename_i b eb
  cases e;exact(Jm hu I rx ry R ax ay eb).2 (k.pure R (.bl _))
 .cases e
end
inductive Ty where
 | int | str | bool | tuple | list | dict
 deriving DecidableEq
noncomputable def Ty.name:Ty->String
 | .int=>"int" | .str=>"str" | .bool=>"bool" | .tuple=>"tuple" | .list=>"list" | .dict=>"dict"
noncomputable def gC(h:MH):W->Option Ty
 | .bl _=>À .bool
 | .int _=>À .int
 | .str _=>À .str
 | .tup _=>À .tuple
 | .fls _=>À .list
 | .ref n=>match h[n]? with
  | some (.lst _)=>À .list
  | some (.dic _)=>À .dict
  | _=>Á
 | .fdc _=>À .dict
 | .fn _=>Á
 | .non=>Á
noncomputable def pj(T:Ty)(x:W)(h:MH):Option Bool:=match x with
 | .non=>À Â
 | x=>match gC h x with
  | some t=>À (decide (t=T)||(decide (t=.bool)&&decide (T=.int)))
  | none=>Á
noncomputable def isW(T:Ty)(x:W):M W:=λh=>match pj T x h with
 | some b=>À (.bl b,h)
 | none=>Á
def Ju(K:NT):∀(t T:Ty),ä K (.type t.name) (.type T.name)=À (decide (t=T)||(decide (t=.bool)&&decide (T=.int))):=by
 intro t T;cases t<;>cases T<;>kernel_rfl
def JW(K:NT):∀(T:Ty),ä K (.type "NoneType") (.type T.name)=À Â:=by
 intro T;cases T<;>kernel_rfl
section
variable{X:Cx}{cl:Cl}{a:Ë}{ma:ME}{pos p p2:õ}
def Jp(T:Ty):qV X (.builtin "isinstance") (λxs H Q=>∃x,xs=[x,.ty T.name]/\rM1 X.K cl (isW T) x H Q):=by
 rintro ag s σ H xs us Q I rs ⟨x,rfl,μ,h,wx,w,h',R,ax,e,k⟩;obtain⟨u,u2,rfl,ru,El⟩:=vals2 rs;obtain rfl:u2=.type T.name:=El;unfold isW at e;split at e
 .rename_i b eb
  cases e;have q:Q (.bl b) H:=k.pure R (.bl _);have fin:∀tk,EP X ag σ Q (.bool b) { s with toks:=tk }:=λtk=>⟨.bl b,H,I.tok tk,rfl,q⟩
  have go:∀{t:Ty},gC h wx=À t->ä X.K (.type t.name) (.type T.name)=À b:=λ{t} e1=>by
   rw[Ju];unfold pj at eb;split at eb
   .cases e1
   .rw[e1] at eb;exact eb
  cases ax with
  | non=>
   cases eb;cases ru;exact kE Ŝ I.kIn ê (JW X.K T) (λz=>nomatch z) fin
  | bl y=>cases ru;exact kE ŝ I.kIn ê (go (t:=.bool) rfl) (λz=>nomatch z) fin
  | int i=>obtain⟨t,rfl⟩:=ru;exact kE PySem.W.kitx_int I.kIn ê (go (t:=.int) rfl) (λz=>nomatch z) fin
  | str y=>obtain⟨t,rfl⟩:=ru;exact kE PySem.W.kitx_str I.kIn ê (go (t:=.str) rfl) (λz=>nomatch z) fin
  | @tup a vs l sa ra=>
   cases ru;obtain⟨cb,_,⟨o,h1,h2,_⟩,_⟩:=I.tuple sa;exact kE xR I.kIn ⟨o,h1,h2⟩ (go (t:=.tuple) rfl) (λz=>nomatch z) fin
  | @fls a vs l sa ra=>
   cases ru;obtain⟨cb,_,⟨o,n,h1,h2,_⟩,_⟩:=I.list sa.sq;exact kE vI I.kIn ⟨o,h1,h2⟩ (go (t:=.list) rfl) (λz=>nomatch z) fin
  | @fdc a l l' ws vs sa kk e1 e2 ra=>
   cases ru;have g:=go (t:=.dict) rfl;obtain⟨_,_,D7,_,dd⟩:=iG I.hok sa.1;obtain⟨o,es,ep,h1,h2,_⟩:=dd;exact kE wQ I.kIn ⟨o,h1,h2.1⟩ g (λz=>nomatch z) fin
  | @fn a=>
   erw[pj,gC] at eb;cases eb
  | @ref n a hn=>
   cases ru;cases et:gC h (.ref n) with
   | none=>erw[pj,et] at eb;cases eb
   | some t=>
    have g:=go et;erw[gC] at et;split at et
    .rename_i l ho
     cases et;obtain⟨vs,hv,_⟩:=R.ob n a _ hn ho;obtain⟨cb,_,⟨o,n,h1,h2,_⟩,_⟩:=I.list (SqL.of hv);exact kE vI I.kIn ⟨o,h1,h2⟩ g (λz=>nomatch z) fin
    .rename_i l ho
     cases et;obtain⟨l',hv,_⟩:=R.ob n a _ hn ho;exact JB (x:=.ref a) I rfl (.dK hv) g fin
    .cases et
 .cases e
def Bj(T:Ty)(ha:SE X cl a ma)(hi:X.mg "isinstance" = Á)(ht:X.mg y=Á)(hv:Ñ y=À (.type T.name))(hg:↥(Gl X "isinstance"))(GF:↥(Gl X y))
  (hn:⇑(y≠"__name__")) (Ak:⇑((y==("__debug__":È))=Â))
  (FW:↥(É [a,.Name y p2] X.env=(Â,eval a X.env)::É [.Name y p2] X.env)) (AZ:↥(É [.Name y p2] X.env=(Â,eval (.Name y p2) X.env)::É [] X.env))
  (xa:↥((Ö pos (É [.Name y p2] X.env)).any (·.1)=Â)):SE X cl (.Call (.Name "isinstance" p) [a,.Name y p2] [] pos) (jp (isW T) ma):=
 PE.wk (hV (Jp (cl:=cl) T) hg hi yq (d7 ha (d7 (rT GF ht hv (show RelV (.ty T.name) (.type T.name) from rfl) hn Ak) oD AZ) FW) (by decide) (by decide) FW xa) λσ H Q q0=>by
  obtain⟨μ,h,ρ,w,h',R,er,e,k⟩:=q0;obtain⟨x,h1,e1,e⟩:=kd e;exact⟨μ,h,ρ,x,h1,R,er,e1,λcx H1 vx E1 R1 rx=>⟨vx,rfl,cx,h1,x,w,h',R1,rx,e,k.ext E1⟩⟩
noncomputable def gX(ws:List W):M W:=λh=>match ws with
 | [.int i]=>À (.int i,h)
 | [.bl b]=>À (.int (if b then 1 else 0),h)
 | [.str x]=>match PySem.intText? x with
  | some n=>if x.length<=640 then À (.int n,h) else Á
  | none=>Á
 | _=>Á
noncomputable def eO(ws:List W):M W:=λh=>match ws with
 | [.int i]=>if i.natAbs.log2<1920 then À (.str (toString i),h) else Á
 | [.str x]=>À (.str x,h)
 | _=>Á
noncomputable def ap(ws:List W):M W:=λh=>match ws with
 | [.tup l]=>À (.tup l,h)
 | [w]=>match getL h w with
  | some l=>À (.tup l,h)
  | none=>Á
 | _=>Á
noncomputable def c9(ws:List W):M W:=λh=>match ws with
 | [w]=>match xb h w with
  | some l=>À (.fls l,h)
  | none=>Á
 | _=>Á
noncomputable def i4(ws:List W):M W:=λh=>match ws with
 | [w]=>match xb h w with
  | some l=>À (.ref h.length,h++[.lst l])
  | none=>Á
 | _=>Á
def Kc:qV X (.type "int") (rMs X.K cl gX):=by
 rintro ag s σ H xs us Q I rs ⟨μ,h,ws,w,h',R,ax,e,k⟩;unfold gX at e;split at e
 .cases e
  cases ax with | cons r t=>cases t with | nil=>
   cases r.int_of;exact l5 ag s σ H _ us Q I rs (.inl ⟨_,rfl,k.pure R (.int _)⟩)
 .cases e
  cases ax with | cons r t=>cases t with | nil=>
   cases r.bl_of;exact l5 ag s σ H _ us Q I rs (.inr ⟨_,rfl,k.pure R (.int _)⟩)
 .split at e
  .rename_i hn
   split at e
   .rename_i hl
    cases e;cases ax with | cons r t=>cases t with | nil=>
     cases r.str_of;cases rs with | cons r1 r2=>
     cases r2;obtain⟨t,rfl⟩:=r1;exact PySem.W.KIN.call_text hn hl ⟨.int _,H,I.tok _,⟨_,rfl⟩,k.pure R (.int _)⟩
   .cases e
  .cases e
 .cases e
def JI:qV X (.type "str") (rMs X.K cl eO):=by
 rintro ag s σ H xs us Q I rs ⟨μ,h,ws,w,h',R,ax,e,k⟩;unfold eO at e;split at e
 .split at e
  .rename_i hl
   cases e;cases ax with | cons r t=>cases t with | nil=>
    cases r.int_of;exact pD ag s σ H _ us Q I rs ⟨_,rfl,hl,k.pure R (.str _)⟩
  .cases e
 .cases e
  cases ax with | cons r t=>cases t with | nil=>
   cases r.str_of;cases rs with | cons r1 r2=>
   cases r2;obtain⟨t,rfl⟩:=r1;exact PySem.P.str_of_str ⟨.str _,H,I,⟨t,rfl⟩,k.pure R (.str _)⟩
 .cases e
def pN:qV X (.type "tuple") (rMs X.K cl ap):=by
 rintro ag s σ H xs us Q I rs ⟨μ,h,ws,w,h',R,ax,e,k⟩;unfold ap at e;split at e
 .rename_i l
  cases e;cases ax with | cons r t=>cases t with | nil=>
   obtain⟨a,vs,rfl,sa,ra⟩:=r.tup_of;exact fq ag s σ H _ us Q I rs ⟨a,vs,rfl,.inr ⟨sa,k.pure R (.tup sa ra)⟩⟩
 .split at e
  .rename_i l el
   cases e;cases ax with | cons r t=>cases t with | nil=>
    obtain⟨a,vs,rfl,sa,ra⟩:=wc R r el;exact fq ag s σ H _ us Q I rs ⟨a,vs,rfl,.inl ⟨sa,λp hp=>k.tup R ra hp⟩⟩
  .cases e
 .cases e
def Zv:qV X (.type "list") (rMs X.K cl c9):=by
 rintro ag s σ H xs us Q I rs ⟨μ,h,ws,w,h',R,ax,e,k⟩;unfold c9 at e;split at e
 .split at e
  .rename_i l el
   cases e;cases ax with | cons r t=>cases t with | nil=>
    obtain⟨a,vs,rfl,sa,ra⟩:=uP R r el;exact fG ag s σ H _ us Q I rs ⟨a,vs,rfl,sa,λp hp=>k.fls R ra hp⟩
  .cases e
 .cases e
def Zn:qV X (.type "list") (rMs X.K cl i4):=by
 rintro ag s σ H xs us Q I rs ⟨μ,h,ws,w,h',R,ax,e,k⟩;unfold i4 at e;split at e
 .split at e
  .rename_i l el
   cases e;cases ax with | cons r t=>cases t with | nil=>
    obtain⟨a,vs,rfl,sa,ra⟩:=uP R r el;exact fG ag s σ H _ us Q I rs ⟨a,vs,rfl,sa,λp hp=>k.lst R ra hp⟩
  .cases e
 .cases e
end
noncomputable def qf(x:W)(ws:List W):M W:=λh=>match x,ws with
 | .ref n,[y]=>match h[n]? with
  | some (.lst l)=>if l.length<cap then À (.non,h.set n (.lst (l++[y]))) else Á
  | _=>Á
 | _,_=>Á
noncomputable def xY(x:W)(ws:List W):M W:=λh=>match x,ws with
 | .ref n,[y]=>match h[n]?,xb h y with
  | some (.lst l),À l'=>if l.length+l'.length<=cap then À (.non,h.set n (.lst (l++l'))) else Á
  | _,_=>Á
 | _,_=>Á
noncomputable def uz(x:W)(ws:List W):M W:=λh=>match x,ws with
 | .ref n,[]=>match h[n]? with
  | some (.lst l)=>match l[l.length-1]? with
   | some y=>À (y,h.set n (.lst l.dropLast))
   | none=>Á
  | _=>Á
 | _,_=>Á
noncomputable def kA(f:W->List W->M W)(o:ME)(ms:List ME):ME:=λρ=>bnd (o ρ) λx h=>if (getL h x).isSome=Ã then bnd (ke ms ρ) (λws=>f x ws) h else Á
section
variable{X:Cx}{cl:Cl}{o e:Ë}{es:List Ë}{mo:ME}{ms:List ME}{apos cpos:õ}{f:W->List W->M W}
inductive rMm(K:NT)(cl:Cl)(f:W->List W->M W)(x:V)(xs:List V)(H:Hp)(Q:VK):Prop
 | mk (μ:List Ç) (h:MH) (wx:W) (ws:List W) (w:W) (h':MH) (p0:HR K cl μ H h) (p1:RW K μ H wx x) (p2:RWs K μ H ws xs) (p3:f wx ws h=À (w,h')) (p4:KQ K cl μ H h' w Q):rMm K cl f x xs H Q
def mn{H:Hp}(q:tM X.K cl (kA f mo ms) σ H Q):Cp X.K "list" (rMm X.K cl f) (tM X.K cl mo) (tMA X.K cl ms) σ H Q:=by
 obtain⟨μ,h,ρ,w,h',R,er,e,k⟩:=q;obtain⟨x,h1,e1,e⟩:=kd e;split at e
 .rename_i hl
  obtain⟨ws,h2,e2,e⟩:=kd e;refine⟨μ,h,ρ,x,h1,R,er,e1,λcx H1 vx E1 R1 rx=>?_⟩;obtain⟨l,hl⟩:=qH.mp hl;obtain⟨a,vs,rfl,sa,ra⟩:=wc R1 rx hl;exact⟨.inl ⟨rfl,vs,sa⟩,cx,h1,ρ,ws,h2,R1,er.ext R E1,e2,λhX H2 xs E2 R2 rs=>⟨hX,h2,x,ws,w,h',R2,rx.ext R1 E2,rs,e,k.ext (E1.trans E2)⟩⟩
 .cases e
def sM{H:Hp}(q:tM X.K cl (kA f mo []) σ H Q):U5 X.K "list" (rMm X.K cl f) (tM X.K cl mo) σ H Q:=by
 obtain⟨μ,h,ρ,w,h',R,er,e,k⟩:=q;obtain⟨x,h1,e1,e⟩:=kd e;split at e
 .rename_i hl
  obtain⟨ws,h2,e2,e⟩:=kd e;cases e2;refine⟨μ,h,ρ,x,h1,R,er,e1,λcx H1 vx E1 R1 rx=>?_⟩;obtain⟨l,hl⟩:=qH.mp hl;obtain⟨a,vs,rfl,sa,ra⟩:=wc R1 rx hl;exact⟨.inl ⟨rfl,vs,sa⟩,cx,h1,x,[],w,h',R1,rx,.nil,e,k.ext E1⟩
 .cases e
theorem KQ.put{K:NT}{μ:List Ç}{H:Hp}{h:MH}{n:Nat}{a:Ç}(k:KQ K cl μ H (h.set n (.lst l)) w Q)(R:HR K cl μ H h)(hn:μ[n]?=À a)(rs:RWs K μ H l vs)(r:RW K μ H w v):Q v (upd H a (.lst vs)):=
 k μ _ v (.put hn) (R.put hn ⟨vs,va,rs.ext R (.put hn)⟩) (r.ext R (.put hn))
def Zh:mq X "list.append" (rMm X.K cl qf):=by
 rintro ag s σ H x xs v us Q I rx rs ⟨μ,h,wx,ws,w,h',R,ax,as,e,k⟩;unfold qf at e;split at e
 .rename_i n y
  split at e
  .rename_i l ho
   split at e
   .rename_i hl
    cases e;cases ax with | @ref _ a hn=>
    cases as with | cons r t=>cases t with | nil=>
    obtain⟨vs,hv,rl⟩:=R.ob n a _ hn ho;exact mH ag s σ H _ _ v us Q I rx rs ⟨a,vs,_,rfl,rfl,hv,zN (by rw[<-rl.length];exact hl) xy,k.put R hn (rl.append (.cons r .nil)) .non⟩
   .cases e
  .cases e
 .cases e
def WI:mq X "list.pop" (rMm X.K cl uz):=by
 rintro ag s σ H x xs v us Q I rx rs ⟨μ,h,wx,ws,w,h',R,ax,as,e,k⟩;unfold uz at e;split at e
 .rename_i n
  split at e
  .rename_i l ho
   split at e
   .rename_i y hy
    cases e;cases ax with | @ref _ a hn=>
    cases as;obtain⟨vs,hv,rl⟩:=R.ob n a _ hn ho;obtain⟨v',ev,rv⟩:=rl.get hy;exact UC ag s σ H _ _ v us Q I rx rs ⟨a,vs,v',rfl,rfl,hv,by rw[<-rl.length];exact ev,k.put R hn rl.dropLast rv⟩
   .cases e
  .cases e
 .cases e
def pL(T:String)(hT:T="list" \/ T="tuple")(l:Ç)(items:Array Ä)(n:Nat)(b:Ç)(Aj:Array Ä)(n2:Nat)(A2:Option Ç)(AO:Array (Option Ä))(Nq:¬(!items.isEmpty&&á (items.size+Aj.size))=Ã)(Hy:items.size<=sizeLine)(AZ:items.size+Aj.size<=sizeLine+1) :
  Meets (ü.«list.extend» ⟨[.ref l,.ref b],[]⟩) (λ_ R s=>s.heap.get? l=À { cls:=.type "list",dict:=Á,data:=.seq items n,slots:=#[] }/\s.heap.get? b=À { cls:=.type T,dict:=A2,data:=.seq Aj n2,slots:=AO }/\R (.ok (.ret î)) { s with heap:=s.heap.update l (ï λx=>x++Aj),toks:=s.toks }):=by
 rcases hT with rfl | rfl
 .exact .of_wp λprog w A R s h=>by
   obtain⟨hp,g,d,tk,os⟩:=s;obtain⟨hl,hb,h⟩:=h;have f1:=vq;have f2:=xV;have f3:=AutoSeq1.sub_list_list;have f4:=AutoSeq1.sub_tuple_list;have f5:=AutoSeq1.sub_list_tuple;have GG:(items++Aj).size<=sizeLine+1:=by rw[Array.size_append];exact AZ
   wp_walk using (vH hl rfl (hz:=Hy) (_hz':=GG)),ñ hl,ñ hb;exact⟨_,rfl,h⟩
 .exact .of_wp λprog w A R s h=>by
   obtain⟨hp,g,d,tk,os⟩:=s;obtain⟨hl,hb,h⟩:=h;have f1:=vq;have f2:=xV;have f3:=AutoSeq1.sub_list_list;have f4:=AutoSeq1.sub_tuple_list;have f5:=AutoSeq1.sub_list_tuple;have GG:(items++Aj).size<=sizeLine+1:=by rw[Array.size_append];exact AZ
   wp_walk using (vH hl rfl (hz:=Hy) (_hz':=GG)),ñ hl,ñ hb;exact⟨_,rfl,h⟩
def sQ{H:Hp}{xs zs:List V}(I:Inv X ag σ H s)(rx:RelV (.ref l) v)(ru:RelV (.ref b) u)(hH:H l=À (.lst xs))(hB:SqL X.K H b zs\/SqT X.K H b zs)(hz:xs.length+zs.length<=sizeLine)
  (q:Q .non (upd H l (.lst (xs++zs)))):Ê (Ì X.prog X.w) X.A (call (.builtin "list.extend") [v,u]) (EP X ag σ Q) X.xe s:=by
 cases rx;cases ru;obtain⟨z,cb,n,r,hl,e⟩:=I.lstM hH;have go:∀{T:String} {Al:List Ä} {n2:Nat} {A2:Option Ç} {AO:Array (Option Ä)},(T="list" \/ T="tuple")->Vals zs Al->s.heap.get? b=À { cls:=.type T,dict:=A2,data:=.seq Al.toArray n2,slots:=AO }->
   Ê (Ì X.prog X.w) X.A (call (.builtin "list.extend") [.ref l,.ref b]) (EP X ag σ Q) X.xe s:=by
  intro T Al n2 A2 AO hT r2 e2;have Hz:=r2.length;have hsz:cb.toArray.size+Al.toArray.size<=sizeLine:=by rw[zH,zH];omega
  have DG:¬(!cb.toArray.isEmpty&&á (cb.toArray.size+Al.toArray.size))=Ã:=by
   rw[Qa hsz,Bool.and_false];exact zO
  refine qw F.slot_list_extend ⟨_,e,rfl⟩ F.entry_list_extend (F.args_list_extend_2 _ _) (pL T hT l cb.toArray n b Al.toArray n2 A2 AO DG (by rw[zH];omega) ∅) ⟨e,e2,?_⟩;refine⟨.non,_,I.lset (its':=cb++Al) hH e (by simp) (r.append r2) ?_,rfl,q⟩;rw[zK];omega
 rcases hB with hB | hB
 .obtain⟨Al,r2,⟨⟨c2,d2,Lj,AO⟩,n2,h1,h2,h3,h4⟩,_⟩:=I.list hB
  simp only at h2 h4;subst h2 h4;exact go (.inl rfl) r2 h1
 .obtain⟨Al,r2,⟨⟨c2,d2,Lj,AO⟩,h1,h2,n2,h4⟩,_⟩:=I.tuple hB
  simp only at h2 h4;subst h2 h4;exact go (.inr rfl) r2 h1
def sP:mq X "list.extend" (rMm X.K cl xY):=by
 rintro ag s σ H x xs v us Q I rx rs ⟨μ,h,wx,ws,w,h',R,ax,as,e,k⟩;unfold xY at e;split at e
 .rename_i n y
  split at e
  .rename_i l l' ho el
   split at e
   .rename_i hl
    cases e;cases ax with | @ref _ a hn=>
    cases as with | cons r t=>cases t with | nil=>
    obtain⟨vs,hv,rl⟩:=R.ob n a _ hn ho;obtain⟨b,zs,rfl,sb,rb⟩:=uP R r el;obtain⟨u,rfl,ru⟩:=rs.one;exact sQ I rx ru hv sb (zG (by rw[<-rl.length,<-rb.length];exact hl) xy) (k.put R hn (rl.append rb) .non)
   .cases e
  .cases e
 .cases e
def Jh(ho:SE X cl o mo)(ha:SA X cl (e::es) ms)(Ac:↥(ó o "append" X.env (eval o X.env)=eval o X.env))
  (AQ:((Ö cpos (É (e::es) X.env)).all (λx=>!x.1)&&(Ĩ cpos (Ć [] X.env)).all (λx=>x.1.isSome)
   && decide ((e::es).length+([]:List Ă).length+(if ([]:List Ă).isEmpty then 0 else 1)<30))=Ã:=by rfl)
  (Ad:↥((apos.endLine==cpos.line)=Ã)) (hs:↥(É (e::es) X.env=(Â,eval e X.env)::É es X.env)) (Ah:↥((Ö cpos (É es X.env)).any (·.1)=Â)) :
  SE X cl (.Call (.Attribute o "append" apos) (e::es) [] cpos) (kA qf mo ms):=
 PE.wk (Vv vL PySem.F.slot_list_append PySem.F.type_list_append Zh ho ha Ac AQ Ad hs Ah) λσ H Q q=>mn q
def Kq(ho:SE X cl o mo)(ha:SA X cl (e::es) ms)(Ac:↥(ó o "extend" X.env (eval o X.env)=eval o X.env))
  (AQ:((Ö cpos (É (e::es) X.env)).all (λx=>!x.1)&&(Ĩ cpos (Ć [] X.env)).all (λx=>x.1.isSome)
   && decide ((e::es).length+([]:List Ă).length+(if ([]:List Ă).isEmpty then 0 else 1)<30))=Ã:=by rfl)
  (Ad:↥((apos.endLine==cpos.line)=Ã)) (hs:↥(É (e::es) X.env=(Â,eval e X.env)::É es X.env)) (Ah:↥((Ö cpos (É es X.env)).any (·.1)=Â)) :
  SE X cl (.Call (.Attribute o "extend" apos) (e::es) [] cpos) (kA xY mo ms):=
 PE.wk (Vv vL PySem.F.slot_list_extend PySem.F.type_list_extend sP ho ha Ac AQ Ad hs Ah) λσ H Q q=>mn q
def Xy(ho:SE X cl o mo)(Ac:↥(ó o "pop" X.env (eval o X.env)=eval o X.env))(Ad:↥((apos.endLine==cpos.line)=Ã)) :
  SE X cl (.Call (.Attribute o "pop" apos) [] [] cpos) (kA uz mo []):=
 PE.wk (U4 vL PySem.F.slot_list_pop PySem.F.type_list_pop WI ho Ac Ad) λσ H Q q=>sM q
end
noncomputable def srcOf(x:W):M Src:=λh=>match x with
 | .tup l=>À (.items l,h)
 | .fls l=>À (.items l,h)
 | .ref n=>match h[n]? with
  | some (.lst _)=>À (.live n,h)
  | _=>Á
 | _=>Á
noncomputable def wn(m:ME):MI:=λρ=>bnd (m ρ) srcOf
noncomputable def upto(n:Nat):List W:=(_root_.List.range n).map λ(i:Nat)=>W.int (i:Int)
noncomputable def lL(ws:List W):M Src:=λh=>match ws with
 | [.int j]=>if -(2 ^ 62)<=j/\j<2 ^ 62 then À (.items (upto j.toNat),h) else Á
 | _=>Á
noncomputable def eS(ms:List ME):MI:=λρ=>bnd (ke ms ρ) lL
section
variable{X:Cx}{cl:Cl}{tg e:Ë}{m:ME}{ms:List ME}{p pos:õ}
def XF(hl:PE X e tl):PI X tg e (λσ H R=>tl σ H λx H1=>∃a,x=.ref a/\(((∃xs,SqL X.K H1 a xs)/\R (Wj X.K a) H1)\/((∃xs,SqT X.K H1 a xs)/\R (YV X.K a) H1))):=by
 intro ag s σ H R I h;refine kq (hl ag s σ H _ I h) ?_;rintro v s1 ⟨x,H1,I1,r1,q1⟩;obtain⟨a,e,q1⟩:=q1;subst e;cases r1;rcases q1 with ⟨⟨xs,hq⟩,q⟩ | ⟨⟨xs,hq⟩,q⟩
 .obtain⟨cb,rv,p,hz⟩:=I1.list hq
  refine qY p.isList ?_;refine⟨s1.heap.objs.size,[s1.heap.objs.size],_,_,H1,rfl,I1.kept (t':=s1.toks) λb o e=>zg _ e,K5 a _,⟨_,zL _ rfl,rfl,rfl⟩,λb hb=>?_,q⟩;have e:b=s1.heap.objs.size:=by simpa using hb
  subst e;exact I1.fpOk (zF _) (I1.hok.fresh (zF _))
 .obtain⟨cb,rv,p,hz⟩:=I1.tuple hq
  refine yt (show s1.heap.IsTuple a cb.toArray from p) ?_;refine⟨s1.heap.objs.size,[s1.heap.objs.size],_,_,H1,rfl,I1.kept (t':=s1.toks) λb o e=>zg _ e,tI a _,⟨_,zL _ rfl,rfl,rfl⟩,λb hb=>?_,q⟩;have e:b=s1.heap.objs.size:=by simpa using hb
  subst e;exact I1.fpOk (zF _) (I1.hok.fresh (zF _))
def X3{K:NT}{μ:List Ç}{H:Hp}{h:MH}(R:HR K cl μ H h)(sa:SqT K H a vs)(ra:RWs K μ H l vs):JR K cl (YV K a) (.items l) μ H:=by
 intro hX H2 h2 E2 R2 i;have Em:=SqT.ext R E2 sa;have EL:=ra.ext R E2;refine⟨λw ew=>?_,λes=>?_⟩
 .have Ab:l[i]?=À w:=zP ew
  obtain⟨v,ev,rv⟩:=EL.get Ab;refine⟨⟨vs,v,Em,ev⟩,λx H3 y=>?_⟩;obtain⟨rfl,y⟩:=y;have:=y vs Em;rw[ev] at this;cases this;exact⟨.refl,R2,rv⟩
 .have Au:l[i]?=Á:=zP es
  exact⟨vs,Em,by rw[<-ra.length];exact jz.mp Au⟩
def UD{K:NT}{μ:List Ç}{H:Hp}{h:MH}(R:HR K cl μ H h)(sa:SqF K μ H a vs)(ra:RWs K μ H l vs):JR K cl (Wj K a) (.items l) μ H:=by
 intro hX H2 h2 E2 R2 i;have Em:=(SqF.ext E2 sa).sq;have EL:=ra.ext R E2;refine⟨λw ew=>?_,λes=>?_⟩
 .have Ab:l[i]?=À w:=zP ew
  obtain⟨v,ev,rv⟩:=EL.get Ab;refine⟨⟨vs,v,Em,ev⟩,λx H3 y=>?_⟩;obtain⟨rfl,y⟩:=y;have:=y vs Em;rw[ev] at this;cases this;exact⟨.refl,R2,rv⟩
 .have Au:l[i]?=Á:=zP es
  exact⟨vs,Em,by rw[<-ra.length];exact jz.mp Au⟩
def Wo{K:NT}{μ:List Ç}{H:Hp}(hn:μ[n]?=À a):JR K cl (Wj K a) (.live n) μ H:=by
 intro hX H2 h2 E2 R2 i;have Ej:=E2.get hn;refine⟨λw ew=>?_,λes=>?_⟩
 .unfold ut at ew
  dsimp only at ew;split at ew
  .rename_i l ho
   have Ab:l[i]?=À w:=zP ew;obtain⟨vs,hv,ra⟩:=R2.ob n a _ Ej ho;obtain⟨v,ev,rv⟩:=ra.get Ab;refine⟨⟨vs,v,SqL.of hv,ev⟩,λx H3 y=>?_⟩;obtain⟨rfl,y⟩:=y;have:=y vs (SqL.of hv);rw[ev] at this;cases this;exact⟨.refl,R2,rv⟩
  .cases ew
 .unfold ut at es
  dsimp only at es;split at es
  .rename_i l ho
   have Au:l[i]?=Á:=zP es;obtain⟨vs,hv,ra⟩:=R2.ob n a _ Ej ho;exact⟨vs,SqL.of hv,by rw[<-ra.length];exact jz.mp Au⟩
  .cases es
def Ur(he:SE X cl e m):SI X cl tg e (wn m):=PI.wk (XF he) λσ H Q q0=>by
 obtain⟨μ,h,ρ,src,h',R,er,e,k⟩:=q0;obtain⟨x,h1,e1,e⟩:=kd e;refine⟨μ,h,ρ,x,h1,R,er,e1,λcx H1 v E1 R1 r=>?_⟩;unfold srcOf at e;split at e
 .cases e
  obtain⟨a,vs,rfl,sa,ra⟩:=r.tup_of;exact⟨a,rfl,.inr ⟨⟨vs,sa⟩,k cx H1 _ E1 R1 (X3 R1 sa ra)⟩⟩
 .cases e
  cases r with | @fls a vs l sa ra=>
  exact⟨a,rfl,.inl ⟨⟨vs,sa.sq⟩,k cx H1 _ E1 R1 (UD R1 sa ra)⟩⟩
 .rename_i n
  split at e
  .rename_i l ho
   cases e;cases r with | @ref _ a hn=>
   obtain⟨vs,hv,ra⟩:=R1.ob n a _ hn ho;exact⟨a,rfl,.inl ⟨⟨vs,SqL.of hv⟩,k cx H1 _ E1 R1 (Wo hn)⟩⟩
  .cases e
 .cases e
def XO{K:NT}{μ:List Ç}{H:Hp}:JR K cl (VW 0 n) (.items (upto n)) μ H:=by
 intro hX H2 h2 E2 R2 i;refine⟨λw ew=>?_,λes=>?_⟩
 .have Ab:(upto n)[i]?=À w:=zP ew
  unfold upto at Ab;rw[jr] at Ab;by_cases hi:i<n
  .rw[List.getElem?_range hi] at Ab
   cases Ab;refine⟨hi,λx H3 y=>?_⟩;obtain⟨rfl,rfl⟩:=y;exact⟨.refl,R2,by rw[Int.zero_add];exact .int _⟩
  .rw[qt (by simpa using hi)] at Ab
   cases Ab
 .have Au:(upto n)[i]?=Á:=zP es
  have:=jz.mp Au;unfold upto at this;rw[jb,š] at this;exact this
def UG(hm:X.mg "range" = Á)(ha:SA X cl [e] ms)(hg:↥(Gl X "range"))(hs:↥(É [e] X.env=[(Â,eval e X.env)])):SI X cl tg (.Call (.Name "range" p) [e] [] pos) (eS ms):=
 PI.wk (Ka hg hm ha hs) λσ H Q q0=>by
  obtain⟨μ,h,ρ,src,h',R,er,e,k⟩:=q0;obtain⟨ws,h1,e1,e⟩:=kd e;refine⟨μ,h,ρ,ws,h1,R,er,e1,λcx H1 vs E1 R1 rs=>?_⟩;unfold lL at e;split at e
  .rename_i j
   split at e
   .rename_i hj
    cases e;cases rs with | cons r t=>cases t with | nil=>
    cases r.int_of;exact⟨j,rfl,hj.1,hj.2,k cx H1 _ E1 R1 XO⟩
   .cases e
  .cases e
end
def Bc(H:Hp)(h0:Ï)(fs:List Ç)(B h:Ï):Prop:=∀b o,h.get? b=À o->(H b≠Á\/h0.get? b≠Á)->b∉fs->B.get? b=À o
section
variable{P:Í}{w:Ð}{H H':Hp}{h0 h1 h2 B:Ï}{fs:List Ç}
def BA(hok:HOk P w H' h1)(e:H' b=À u):∃o,h1.get? b=À o:=by
 have:=(hok b u e).lt;cases q:h1.get? b with
 | some o=>exact⟨o,rfl⟩
 | none=>
  exfalso;have z:=hok b u e;revert z;cases u<;>intro z
  case lst=>obtain⟨_,_,_,_,e⟩:=z;rw[q] at e;cases e
  case tup=>obtain⟨_,_,_,⟨_,e,_⟩,_⟩:=z;rw[q] at e;cases e
  case dK=>obtain⟨_,_,_,_,o,_,_,e,_⟩:=z;rw[q] at e;cases e
  case dT=>obtain⟨_,_,_,_,o,_,_,e,_⟩:=z;rw[q] at e;cases e
  case set=>obtain⟨o,_,_,_,e,_⟩:=z;rw[q] at e;cases e
  case ins=>obtain⟨_,_,_,e,_⟩:=z;rw[q] at e;cases e
  case own=>obtain⟨_,e⟩:=z;rw[q] at e;cases e
  case xd=>obtain⟨_,⟨_,_,_,e,_⟩,_⟩:=z;rw[q] at e;cases e
  case rng=>obtain⟨_,_,_,e⟩:=z;rw[q] at e;cases e
  case frz=>obtain⟨e,_⟩:=z;rw[q] at e;cases e
  case tbl=>have e:h1.get? b=À _:=z;rw[q] at e;cases e
  case met=>have e:h1.get? b=À _:=z;rw[q] at e;cases e
  case ext=>obtain⟨_,⟨_,e⟩,_⟩:=z;rw[q] at e;cases e
def land(nf:∀b∈fs,∃o,h0.get? b=À o/\∀vs,o.data≠.fields vs)(hf:∀b∈fs,H b=Á)(un:Un fs [] H H' h0 h1)(hok:HOk P w H' h1)(bc:Bc H' h0 fs B h1)(st:B.StaysIn h2)(up:h1.UpToSlots h2) :
  Un fs [] H H' h0 h2/\HOk P w H' h2/\Bc H' h0 fs B h2:=by
 have Lk:∀b∈fs,H' b=Á:=λb hb=>by
  obtain⟨o,e,_⟩:=nf b hb;exact un.free b o e (hf b hb) (by simp)
 have tr:∀b o u,H' b=À u->h1.get? b=À o->h2.get? b=À o:=λb o u e q=>st b o (bc b o q (.inl (by rw[e];simp)) λhb=>by rw[Lk b hb] at e;cases e)
 have sl:∀b o,b∈fs->h0.get? b=À o->∃sl,h2.get? b=À { o with slots:=sl }:=λb o hb e=>by
  obtain⟨sl,q⟩:=un.slot b o e (hf b hb) hb (by simp);obtain⟨o',e',nd⟩:=nf b hb;rw[e] at e';cases e';obtain⟨Fc,q'⟩:=up b _ q nd;exact⟨Fc,q'⟩
 refine⟨⟨λb o e n hb _=>?_,λb o e n hb _=>sl b o hb e,un.free,λb o e _=>?_,un.tups,un.frzs,un.tbls⟩,λb u e=>?_,λb o q c hb=>?_⟩
 .have q:=un.keep b o e n hb (by simp)
  exact st b o (bc b o q (.inr (by rw[e];simp)) hb)
 .by_cases hb:b∈fs
  .obtain⟨z,q⟩:=sl b o hb e
   exact⟨_,q⟩
  .obtain⟨o',q⟩:=un.there b o e (by simp)
   exact⟨o',st b o' (bc b o' q (.inr (by rw[e];simp)) hb)⟩
 .refine(hok b u e).stay (λc v hc q=>?_) (λ_ q=>q) λ_ _ q=>q
  rcases hc with z | z
  .rw[z] at q ⊢;exact tr b v u e q
  .exact tr c v _ z q
 .by_cases c0:h0.get? b=Á
  .cases e:H' b with
   | none=>rw[e,c0] at c;simp at c
   | some u=>
    obtain⟨o',q'⟩:=BA hok e;have:=tr b o' u e q';rw[q] at this;cases this;exact bc b o q' (.inl (by rw[e];simp)) hb
  .cases e:h0.get? b with
   | none=>exact absurd e c0
   | some o0=>
    obtain⟨o',q'⟩:=un.there b o0 e (by simp);have z:=bc b o' q' (.inr c0) hb;have:=st b o' z;rw[q] at this;cases this;exact z
end
def fC(P:Í)(w:Ð)(C:Ç):dW:=λouter H s E e s'=>∃a H' B a0,e=.ref a/\s'.os=s.os/\þ s'.gens/\Un (frs outer) [] H H' s.heap s'.heap/\HOk P w H' s'.heap /\
 Ţ B outer a (.ref C) a0 s'.heap/\Bc H' s.heap (frs outer) B s'.heap/\E (.ref C) Á H'
def oy{X:Cx}{H:Hp}{s:Å}(I:Inv X ag σ H s):∀b∈frs X.stack,∃o,s.heap.get? b=À o/\∀vs,o.data≠.fields vs:=λb hb=>(I.stack.mem hb).2
def W9{fs:List Ç}{H:Hp}:Un fs [] H H h h:=⟨λ_ _ e _ _ _=>e,λb o e _ _ _=>⟨o.slots,e⟩,λ_ _ _ n _=>n,λb o e _=>⟨o,e⟩,λ_ _ e=>e,λ_ _ _ e=>e,λb ps e=>⟨#[],by rw[e];simp⟩⟩
section
variable{CX:dW}{P:Í}{w:Ð}{K:NT}{mg:È->Option Ä}{base:Ï}{N:List È}{qual:È}{scope:Þ}{f:Ç}{cd:Ä}{A:Ò}{outer:List Ŭ}{s0:Å}{H0:Hp}{E:XK}{C:Ç}
 {ag:List (Ç×æ)} {σ:L2.St} {H H':Hp} {s:Å}
def K4(I:Inv (uj CX P w K mg base N qual scope f cd A outer s0 H0 E) ag σ H s){s1:Å}(os:s1.os=s.os)(bare:þ s1.gens)
  (un:Un (frs (û qual scope s0.heap.objs.size f cd::outer)) [] H H' s.heap h2) (hok:HOk P w H' h2) (bc:Bc H' s.heap (frs (û qual scope s0.heap.objs.size f cd::outer)) B h2) (fl:Ţ B outer a (.ref C) a0 h2) (q:E (.ref C) Á H') :
  fC P w C outer H0 s0 E (.ref a) { s1 with heap:=h2 }:=by
 have J:Inv (uj CX P w K mg base N qual scope f cd A outer s0 H0 E) ag σ H' { s1 with heap:=h2 }:=I.call' (ch:=[]) (s':={ s1 with heap:=h2 }) os un hok bare (λb z=>absurd z (by simp));refine⟨a,H',B,a0,rfl,J.os,bare,J.base,hok,fl,λb o e c hb=>?_,q⟩;have ne:b≠s0.heap.objs.size:=λz=>by
  rcases c with c | c
  .exact c (by rw[z];exact J.free)
  .cases e0:s0.heap.get? b with
   | none=>exact c e0
   | some o0=>exact absurd (zz e0) (by rw[z];exact jP _)
 refine bc b o e (c.imp_right λc=>?_) λhm=>?_
 .cases e0:s0.heap.get? b with
  | none=>exact absurd e0 c
  | some o0=>
   obtain⟨o1,e1⟩:=I.base.there b o0 e0 (by intro z;cases z);rw[e1];simp
 .unfold frs at hm hb
  rw[vf] at hm;rcases zp.mp hm with z | z
  .exact ne z
  .exact hb z
def oo(I:Inv (uj CX P w K mg base N qual scope f cd A outer s0 H0 E) ag σ H s)(hc:CX=fC P w C){s1:Å}(DW:s1.os=s.os)(hb:þ s1.gens)(hx:Heap.MadeExcOf s.heap s1.heap e (.ref C) vs)(q:E (.ref C) Á H) :
  (uj CX P w K mg base N qual scope f cd A outer s0 H0 E).xe (.ref e) s1:=by
 subst hc;have nf:=oy I;have hB:∀b o,s.heap.get? b=À o->b∉frs (û qual scope s0.heap.objs.size f cd::outer)->(Ē s.heap (frs (û qual scope s0.heap.objs.size f cd::outer))).get? b=À o:=λb o e n=>xJ _ e n
 refine wpAny_leaves_madeW (base:=Ē s.heap (frs (û qual scope s0.heap.objs.size f cd::outer))) (h:=s.heap) I.ok.frames rfl (λb o q=>xQ _ q) (PySem.W.funFrames_hide I.stack λenv he b hb=>wJ.mpr ⟨env,he,hb⟩) hx λh' t fl _ _ up=>?_
 have Ll:s.heap.UpToSlots h':=(Heap.UpToSlots.of_keeps hx.keeps).trans up;obtain⟨un,hok,bc⟩:=land nf I.stkFree W9 I.hok (B:=Ē s.heap (frs (û qual scope s0.heap.objs.size f cd::outer))) (λb o e _ n=>hB b o e n) fl.1 Ll;exact K4 I DW hb un hok bc fl q
def pW(I:Inv (uj CX P w K mg base N qual scope f cd A outer s0 H0 E) ag σ H s)(hc:CX=fC P w C)(q:fC P w C (û qual scope s0.heap.objs.size f cd::outer) H s E' e s1)(hE:∀H',E' (.ref C) Á H'->E (.ref C) Á H') :
  (uj CX P w K mg base N qual scope f cd A outer s0 H0 E).xe e s1:=by
 subst hc;obtain⟨a,H',B,a0,rfl,os,bare,un,hok,fl,bc,q⟩:=q;refine wpAny_leaves_onW I.ok.frames rfl fl λh' FY up=>?_
 obtain⟨Lm,Eg,Ln⟩:=land (oy I) I.stkFree un hok bc FY.1 up;exact K4 I os bare Lm Eg Ln FY (hE _ q)
end
abbrev Va:List Ä:=[.type "ValueError",.type "Exception",.type "BaseException",.type "object"]
abbrev fW(x:È)(C:Ç)(mg:È->Option Ä)(h:Ï):Prop:=OwnCls x C Va "ValueError.__new__" mg h
def Xs(X:Cx)(cl:Cl):Prop:=∀ag σ H s s1 e vs,Inv X ag σ H s->cl.xq H->s1.os=s.os->þ s1.gens->Heap.MadeExcOf s.heap s1.heap e (.ref (cl.c 0)) vs->X.xe (.ref e) s1
noncomputable def xS:MS:=λ_ h=>À (.ex,h)
section
variable{X:Cx}{cl:Cl}{x:È}{np cpos pos p:õ}{m:È}{j:Nat}
def QL{ws:List W}(O:fW x (cl.c 0) X.mg X.base)(rs:Xs X cl)(hc:X.calm=Ã)(hg:Gl X x)(ha:SA X cl (e::es) ms)(hm:∀ρ h,ke ms ρ h=À (ws,h))(Lo:ws.length<=1000)
  (hd:⇑((x==("__debug__":È))=Â)) (he:↥(É (e::es) X.env=(Â,eval e X.env)::É es X.env)) (xa:↥((Ö cpos (É es X.env)).any (·.1)=Â)) :
  SS X cl (.Raise (À (.Call (.Name x np) (e::es) [] cpos)) Á pos) xS:=by
 rintro ag s σ H D I ⟨μ,h,ρ,fl,h',R,er,e1,k⟩;cases e1;obtain⟨tl,N,nm,q,bs,hdct,sn,sub,ab,col,dd,k0,k1,k2,k3,k5,mN,hC,hN,Lp,T⟩:=O.obj;refine wpAny_Raise_call_subT (C:=cl.c 0) (nm:=nm) (q:=q) (N:=N) (bs:=bs) (bm:=tl) (hdct:=hdct) (sn:=sn) (sub:=sub) (ab:=ab) (col:=col) (dd:=dd) (k0:=k0) (k1:=k1) (k2:=k2) (k3:=k3) (k5:=k5)
  yF (mN:=mN) (T.hasType yF.hasBase) (I.ok.hd hc) (by rw[he];show(Â||(Ö cpos (É es X.env)).any (·.1))=Â;rw[xa];rfl) Lp (bp I hg O.bound ⟨rfl,?_⟩ hd)
 have h1:=ha cpos ag s σ H (λvs H1=>vs.length<=1000/\cl.xq H1) I ⟨μ,h,ρ,ws,h,R,er,hm ρ h,λcx H1 vs E1 R1 rs=>⟨by rw[<-rs.length];exact Lo,k cx H1 E1 R1⟩⟩;rw[he] at h1 ⊢;refine vB (jK h1 (λus s2 hq=>?_) λ_ _ y=>y);obtain⟨vs,H1,I1,r,hl,xq⟩:=hq;refine⟨rfl,zG (by rw[<-r.length];exact hl) (by decide),I1.bk _ _ hC,hN.keeps I1.bk,T.keeps I1.bk,λh' e hm=>rs ag σ H1 s2 _ e us I1 xq rfl I1.bare hm⟩
end
abbrev MX:=List W->MH->Option (Option W×MH)
abbrev Cl.wx(cl:Cl)(q:Hp->Prop):Cl:=⟨cl.c,cl.P,cl.w,q⟩
theorem HR.wx{K:NT}{cl:Cl}{μ:List Ç}{H:Hp}{q:Hp->Prop}(R:HR K cl μ H h):HR K (cl.wx q) μ H h:=⟨R.len,R.nd,λn a o e1 e2=>by
 have z:=R.ob n a o e1 e2
 cases o<;>exact z⟩
def HR.unwx{K:NT}{cl:Cl}{μ:List Ç}{H:Hp}{q:Hp->Prop}(R:HR K (cl.wx q) μ H h):HR K cl μ H h:=⟨R.len,R.nd,λn a o e1 e2=>by
 have z:=R.ob n a o e1 e2
 cases o<;>exact z⟩
def XE(K:NT)(cl:Cl)(μ:List Ç)(H:Hp)(h':MH)(r:Option W)(Q:VK)(E:XK):Prop:=∀hG H',Ext μ H hG H'->HR K cl hG H' h'->match r with
 | some w=>∀v,RW K hG H' w v->Q v H'
 | none=>E (.ref (cl.c 0)) Á H'
inductive spX(K:NT)(cl:Cl)(g:MX)(vs:List V)(H:Hp)(Q:VK)(E:XK):Prop
 | mk (μ:List Ç) (h:MH) (ws:List W) (r:Option W) (h':MH) (p0:HR K cl μ H h) (p1:RWs K μ H ws vs) (p2:g ws h=À (r,h')) (p3:XE K cl μ H h' r Q E):spX K cl g vs H Q E
noncomputable def fnX(np k:Nat)(b:MS):MX:=λws h=>if ws.length=np then (match b (ws.map À++Æ k Á) h with
 | some (.ret w,h')=>À (À w,h')
 | some (.nx _,h')=>À (À .non,h')
 | some (.ex,h')=>À (Á,h')
 | _=>Á) else Á
open Classical in
noncomputable def gA(f:MX):MX:=λws h=>match f ws h with
 | some (r,h')=>if h<+:h'/\r.all (low h.length)=Ã then À (r,h) else À (r,h')
 | none=>Á
def ZC{h:MH}{r:Option W}(e:f ws h=À (r,h'))(p:h<+:h')(l:r.all (low h.length)=Ã):gA f ws h=À (r,h):=by
 unfold gA;rw[e];erw[p,l,and_self,jn]
section
variable{K:NT}{cl:Cl}{H:Hp}
def UU(q:spX K cl (gA f) vs H Q E):spX K cl f vs H Q E:=by
 obtain⟨μ,h,ws,r,h',R,rs,e,k⟩:=q;unfold gA at e;split at e
 .rename_i r1 h1 e1
  split at e
  .rename_i c
   cases e;refine⟨μ,h,ws,_,h1,R,rs,e1,λhG H' E' R'=>?_⟩;have k1:=k μ H' ⟨kW _,λb o e n=>⟨(E'.fr b o e n).1,n⟩⟩ (R.cut E' R' c.1);cases r with
   | none=>exact k1
   | some w=>exactλv rv=>k1 v (RW.cut E'.pre (by rw[R.len];exact c.2) rv)
  .cases e
   exact⟨μ,h,ws,_,_,R,rs,e1,k⟩
 .cases e
variable{P:Í}{w:Ð}{mg:È->Option Ä}{base:Ï}
def Ua{x qual:È}{st:ì}{f:Ç}{fd:å}{N ps:List È}(F:Fun K x qual st f fd)(S:FnScope N ps (kF st))(AG:ps.length=np)(Af:N.length-np=ns)
  (hb:∀(pf:Ä) (A:Ò) (outer:List Ŭ) (s:Å) (H:Hp) (E:XK),Room k (A.deeper (û qual (kF st) s.heap.objs.size f pf))->
   SB (uj (fC P w (cl.c 0)) P w K mg base N qual (kF st) f pf A outer s H E) (cl.wx λH'=>E (.ref (cl.c 0)) Á H') (qA st) b):FnOk P w K mg base (fC P w (cl.c 0)) (k+1) f fd ps (spX K cl (gA (fnX np ns b))):=by
 have len:∀vs H Q E,spX K cl (fnX np ns b) vs H Q E->vs.length=ps.length:=by
  rintro vs H Q E ⟨μ,h,ws,r,h',R,rs,e,k⟩;unfold fnX at e;split at e
  .rename_i hl
   rw[AG,<-hl,rs.length]
  .cases e
 obtain⟨oc,od,kV,doc,pm,an,pf,ct,A9,rfl,lk,AV⟩:=F.ex;refine FnOk.imp (sp:=spX K cl (fnX np ns b)) (Vs lk AV S len λA outer s H vs Q E hr AW=>⟨_,hb pf A outer s H E hr,?_⟩) λvs H Q E q=>UU q
 have lx:=len _ _ _ _ AW;obtain⟨μ,h,ws,r,h',R,rs,e,k⟩:=AW;unfold fnX at e;split at e
 .rename_i hl
  have er:=gZ rs (N:=N) (k:=ns) (by rw[lx,AG];exact Af);split at e
  .rename_i w1 h1 e1
   cases e;exact⟨μ,h,_,_,_,R.wx,er,e1,λcx H1 E1 R1 v rv=>k cx H1 E1 R1.unwx v rv⟩
  .rename_i r9 h1 e1
   cases e;exact⟨μ,h,_,_,_,R.wx,er,e1,λcx H1 E1 R1 DM _=>k cx H1 E1 R1.unwx .non .non⟩
  .rename_i h1 e1
   cases e;exact⟨μ,h,_,_,_,R.wx,er,e1,λcx H1 E1 R1=>k cx H1 E1 R1.unwx⟩
  .cases e
 .cases e
end
def Qh(X:Cx)(cl:Cl):Prop:=∀ag σ H s e s1 E',Inv X ag σ H s->fC X.prog X.w (cl.c 0) X.stack H s E' e s1->(∀H',E' (.ref (cl.c 0)) Á H'->cl.xq H')->X.xe e s1
noncomputable def FnAtX(P:Í)(w:Ð)(K:NT)(mg:È->Option Ä)(base:Ï)(cl:Cl)(k:Nat)(x:È)(g:MX):Prop:=
 ∃f fd ps,FnOk P w K mg base (fC P w (cl.c 0)) k f fd ps (spX K cl g)/\mg x=À (.ref f)/\Ü K (.ref f)=Ã/\Binds K fd ps []
noncomputable def cK(g:MX)(ms:List ME)(i:Nat):MS:=λρ h=>match ke ms ρ h with
 | some (ws,h1)=>match g ws h1 with
  | some (À w,h2)=>if i<ρ.length then À (.nx (ρ.set i (À w)),h2) else Á
  | some (Á,h2)=>À (.ex,h2)
  | none=>Á
 | none=>Á
section
variable{X:Cx}{cl:Cl}{k:Nat}{f:Ç}{fd:å}{ps:List È}{x y:È}{p cpos pos Fv:õ}{e:Ë}{es:List Ë}{g:MX}{ms:List ME}
def Jc{H:Hp}(FX:FnAtX X.prog X.w X.K X.mg X.base cl k x g)(hr:Room k X.A)(hg:Gl X x)
  (h0:Ê (Ì X.prog X.w) X.A (ŭ (Ö cpos (É (e::es) X.env))) (AP X ag σ λvs H1=>spX X.K cl g vs H1 Q E) Ex s)
  (I:Inv X ag σ H s) (hx:∀H1 s1 e s2,Inv X ag σ H1 s1->fC X.prog X.w (cl.c 0) X.stack H1 s1 E e s2->Ex e s2)
  (Ak:⇑((x==("__debug__":È))=Â)) (he:↥(É (e::es) X.env=(Â,eval e X.env)::É es X.env)) (xa:↥((Ö cpos (É es X.env)).any (·.1)=Â)) :
  Ê (Ì X.prog X.w) X.A (eval (.Call (.Name x p) (e::es) [] cpos) X.env) (EP X ag σ Q) Ex s:=by
 obtain⟨f,fd,ps,F,hm,hk,hb⟩:=FX;refine jF (bp I hg hm ?_ Ak);refine xT (h₀:=X.base) I.ok.mod.kin hk (kq h0 ?_) he xa;rintro us s1 ⟨vs,H1,I1,r,q⟩;refine⟨I1.kIn,?_⟩;have hl:us.length=ps.length:=by rw[<-r.length];exact F.len _ _ _ _ q
 refine xN (yO (F.run X.A X.stack s1 H1 ⟨us,[]⟩ us vs Q E hr I1.env0 (by have:=hb s1 us I1.kIn (by simpa using hl);simpa using this) r q) λr s' hq=>?_);cases r with
 | error e=>exact hx H1 s1 e s' I1 hq
 | ok fl=>
  cases fl with
  | ret u=>exact I1.after hq
  | next=>exact é hq
  | brk=>exact é hq
  | cont=>exact é hq
def tX(X:Cx)(cl:Cl)(g:MX)(ms:List ME):TE:=λσ H Q=>tMA X.K cl ms σ H λvs H1=>spX X.K cl g vs H1 Q λ_ _ H'=>cl.xq H'
def C0(FX:FnAtX X.prog X.w X.K X.mg X.base cl k x g)(hr:Room k X.A)(hg:Gl X x)(ha:SA X cl (e::es) ms)(xp:Qh X cl)
  (Ak:⇑((x==("__debug__":È))=Â)) (he:↥(É (e::es) X.env=(Â,eval e X.env)::É es X.env)) (xa:↥((Ö cpos (É es X.env)).any (·.1)=Â)) :
  PE X (.Call (.Name x p) (e::es) [] cpos) (tX X cl g ms):=λag s σ H Q I h=>Jc FX hr hg (ha cpos ag s σ H _ I h) I (λH1 s1 e s2 I1 q=>xp ag σ H1 s1 e s2 _ I1 q λ_ z=>z) Ak he xa
def Yd(i:Nat)(FX:FnAtX X.prog X.w X.K X.mg X.base cl k x g)(hr:Room k X.A)(hg:Gl X x)(ha:SA X cl (e::es) ms)(xp:Qh X cl)(hN:X.N.Nodup)(hi:X.N[i]?=À y)(hx:Loc X.env.scope y)(hf:X.fn y=Ã\/X.env.scope.names.lookup y=À .local)
  (hs:ç (.Call (.Name x p) (e::es) [] cpos) (À (.Name y Fv)) pos.line X.env=pure Â)
  (Ak:⇑((x==("__debug__":È))=Â)) (he:↥(É (e::es) X.env=(Â,eval e X.env)::É es X.env)) (xa:↥((Ö cpos (É es X.env)).any (·.1)=Â)) :
  SS X cl (.Assign [.Name y Fv] (.Call (.Name x p) (e::es) [] cpos) pos) (cK g ms i):=PS.wk (Js (i:=i) hN hi hx (C0 FX hr hg ha xp Ak he xa) hs hf) λD σ H q0=>by
 obtain⟨μ,h,ρ,fl,h',R,er,e,k⟩:=q0;unfold cK at e;split at e
 .rename_i ws h1 e1
  refine⟨μ,h,ρ,ws,h1,R,er,e1,λcx H1 vs E1 R1 rs=>?_⟩;split at e
  .rename_i w h2 e2
   split at e
   .rename_i hi
    cases e;exact⟨cx,h1,ws,À w,_,R1,rs,e2,λhX H2 E2 R2 v rv=>k hX H2 (E1.trans E2) R2 _ (((er.ext R E1).ext R1 E2).set hi rv)⟩
   .cases e
  .rename_i h2 e2
   cases e;exact⟨cx,h1,ws,Á,_,R1,rs,e2,λhX H2 E2 R2=>k hX H2 (E1.trans E2) R2⟩
  .cases e
 .cases e
end
end ML
namespace ML
open PySem PySem.Spec PyProof.Rows PySem.W PySem.Builtin PySem.Builtin.ObjectAttr PySem.Builtin.Getset_descriptor
def TyAt(h:Ï)(x C:Ç):Prop:=∃o,h.get? x=À o/\o.cls=.ref C
def TyAt.type{M:Model}(p:TyAt h x C):Looks M h (typeOf (.ref x)) (.ref C):=by
 obtain⟨o,h1,h2⟩:=p;exact h2▸(Looks.ld h1).andThen .now
section
variable{prog:Í}{w:Ð}{A:Ò}{E:Ä->Å->Prop}{h:Ï}{g:Array ĸ}{d:Drawn}{t:Nat}{os:č}{K:NT}{x C:Ç}
def ZU{M:Model}(X:K.In h)(I:TyAt h x C)(hb:ĩ K C (.type "BaseException")=À Ã)(hq:Q () ⟨h,g,d,t,os⟩) :
  Ê M A (checkBuiltinCall "BaseException.__getattribute__" ⟨[.ref x,nameV],[]⟩) Q E ⟨h,g,d,t,os⟩:=by
 have hk:builtinKind "BaseException.__getattribute__" = À .slot:=by decide +kernel
 have Eo:splitId "BaseException.__getattribute__" = À ("BaseException","__getattribute__"):=by decide +kernel
 have L0:=I.type (M:=M);have L1:=looks_mroIn (M:=M) X hb;have ha:=PySem.F.args_bexc_ga (.ref x) nameV;erw[checkBuiltinCall,hk,Eo];refine za ?_;unfold Ž;repeat (first | lk | wp_step)
 exact hq
def tF{s:Å}(X:K.In s.heap)(I:TyAt s.heap x C)(hm:ĩ K C (.type "object")=À Ã)
  (h:R (.ok (.ret (.ref C))) s):ĉ (Ì prog w) A (.call (.builtin "getset_descriptor.__get__") ⟨[.builtin "object.__class__",.ref x,tp],[]⟩) R s:=by
 obtain⟨hh,g,dr,t,os⟩:=s;have L0:=I.type (M:=Ì prog w);have L1:=looks_mroIn (M:=Ì prog w) X hm;refine Ļ KF.slot_gs.plain KF.entry_gs (KF.slot_gs.check _ _ _ _ _ _ _ _ KF.type_class (KF.args_gs _ _ _) ?_);unfold ü.«getset_descriptor.__get__» descrGet;rw[dga_obj];refine za (zy ?_);unfold descrGetter descrCheckInstance descrNameAndClass Ž;erw[KF.owner_class];repeat lk
 refine⟨Code.quiet_builtin _ ⋯,xr KF.entry_class ?_⟩;unfold ü.«object.__class__» shownTypeOf;repeat lk
 exact h
def K2(X:K.In h)(I:TyAt h x C)(hm:ĩ K C (.type "object")=À Ã)(hc:ļ K (.ref C) "__class__" = À (À (.builtin "object.__class__")))(hq:Q (.done (.ret (.ref C))) ⟨h,g,d,t,os⟩) :
  Ê (Ì prog w) A (ü.«object.__getattribute__» ⟨[.ref x,.str "__class__" tk],[]⟩) Q E ⟨h,g,d,t,os⟩:=by
 have L0:=I.type (M:=Ì prog w);have L1:=ţ (M:=Ì prog w) X hc;have Nr:(⟨h,g,d,t,os⟩:Å).TypeIs (.builtin "object.__class__") "getset_descriptor":=KF.type_class;have f5:=KF.type_class;have f6:=PySem.F.slot_gs_get.lookup;have f7:=PySem.F.slot_gs_set.lookup;have cg:∀{P:Ä->Å->Prop} {E':Ä->Å->Prop},P (.ref C) ⟨h,g,d,t,os⟩->Ê (Ì prog w) A (call (.builtin "getset_descriptor.__get__") [.builtin "object.__class__",.ref x,.ref C]) P E' ⟨h,g,d,t,os⟩:=λhp=>xN (tF X I hm hp)
 repeat (any_goals (first | assumption | exact cg hq | refine cg ?_ | refine za (cg ?_) | refine za (jf (cg ?_)) | lk | wp_step))
def Jl(X:K.In h)(I:TyAt h x C)(hb:ĩ K C (.type "BaseException")=À Ã)(hm:ĩ K C (.type "object")=À Ã)(hc:ļ K (.ref C) "__class__" = À (À (.builtin "object.__class__")))
  (hga:ļ K (.ref C) "__getattribute__" = À (À (.builtin "BaseException.__getattribute__"))) (hgn:ļ K (.ref C) "__getattr__" = À Á) (hq:Q (À (.ref C)) ⟨h,g,d,t+1,os⟩) :
  Ê (Ì prog w) A (ž (.ref x) "__class__") Q E ⟨h,g,d,t,os⟩:=by
 have L0:=I.type (M:=Ì prog w);have L1:=ţ (M:=Ì prog w) X hga;have L2:=ţ (M:=Ì prog w) X hgn;have f3:=yx.ga.bind (.ref x);have FZ:(Ĥ "BaseException.__getattribute__" == Ĥ "object.__getattribute__")=Â:=by decide +kernel
 have GH:(onTheHeap (Ú C)&&Ĥ "BaseException.__getattribute__" == Ĥ "object.__getattribute__")=Â:=by rw[FZ];rfl
 have cl:∀{R:Result->Å->Prop} {A:Ò},R (.ok (.ret (.ref C))) ⟨h,g,d,t+1,os⟩->ĉ (Ì prog w) A (.call (.builtin "BaseException.__getattribute__") ⟨[.ref x,.str "__class__" t],[]⟩) R ⟨h,g,d,t+1,os⟩:=λhr=>
  Ļ yx.ga.plain PySem.F.entry_bexc_ga (ZU X I hb (K2 X I hm hc hr))
 have cg:∀{P:Ä->Å->Prop} {E':Ä->Å->Prop} {A:Ò},P (.ref C) ⟨h,g,d,t+1,os⟩->Ê (Ì prog w) A (call (.builtin "BaseException.__getattribute__") [.ref x,.str "__class__" t]) P E' ⟨h,g,d,t+1,os⟩:=λhp=>xN (cl hp)
 unfold ž getAttrBy? getAttrBy;refine za (Ť (za (qR (jf (za (L0.at (za (L1.at ?_))))))));dsimp only;rw[GH,if_neg Ŏ];unfold ĵ hookBefore callGetattribute Ľ;refine za ?_;show Ê _ _ (Č (.ref C) "__getattr__") _ _ _
 refine L2.at ?_;refine za (qR (jf ?_));show Ê _ _ (bindSpecial (.builtin "BaseException.__getattribute__") (.ref x) >>= _) _ _ _
 refine za (wj f3 ?_);refine cg ?_;exact zy (zy hq)
def Qd(hb:ĩ K C (.type "BaseException")=À Ã)(hm:ĩ K C (.type "object")=À Ã)(hc:ļ K (.ref C) "__class__" = À (À (.builtin "object.__class__")))
  (hga:ļ K (.ref C) "__getattribute__" = À (À (.builtin "BaseException.__getattribute__"))) (hgn:ļ K (.ref C) "__getattr__" = À Á) (hk:(ľ K C).isSome=Ã) :
  KitX K (.ref x) (.ref C) (λh=>TyAt h x C) where
 ty:=λ_ _ _ I=>I.type
 it:=λ_ _ X _=>by
  unfold ľ at hk;split at hk
  .rename_i c' d' Lq Fc ho
   intro A' Q' E' s' k q;unfold isType loadHead;exact za (wpAny_loadPart (k _ _ (X _ _ ho)) (zy q))
  .cases hk
 ne:=λh tp dd cb n sl X Ls=>by
  refine qQ.mpr λq=>?_
  have e:C=tp:=Value.ref.inj (qj.mp q);subst e;unfold ľ at hk;split at hk
  .rename_i c' d' Lq Fc ho
   have z:=(X _ _ ho).symm.trans Ls;cases z
  .cases hk
 ca:=λ{_ _ _ _ _ s} X I k=>by
  obtain⟨h,g,d,t,os⟩:=s;exact Jl X I hb hm hc hga hgn k
end
end ML
namespace ML
open PySem PySem.Spec PyProof.Rows L2
structure ExcK(K:NT)(mg:È->Option Ä)(C:Ç)(ct k1 k2 k3:È):Prop where
 ct:∃C1,mg ct=À (.ref C1)/\PySem.W.exmOne K (.ref C) (.ref C1)=À Ã
 k1:∃C1,mg k1=À (.ref C1)/\ä K (.ref C) (.ref C1)=À Ã
 k2:∃C1,mg k2=À (.ref C1)/\ä K (.ref C) (.ref C1)=À Â
 k3:∃C1,mg k3=À (.ref C1)/\ä K (.ref C) (.ref C1)=À Â
 ve:ä K (.ref C) (.type "ValueError")=À Ã
 hb:ŋ K C (.type "BaseException")=À Ã
 hm:ŋ K C (.type "object")=À Ã
 hc:Ĉ K (.ref C) "__class__" = À (À (.builtin "object.__class__"))
 hga:Ĉ K (.ref C) "__getattribute__" = À (À (.builtin "BaseException.__getattribute__"))
 hgn:Ĉ K (.ref C) "__getattr__" = À Á
 hk:(PySem.W.clsIn K C).isSome=Ã
abbrev Cx.inE(X:Cx)(a:Ç)(pn:List (Ç×æ)):Cx:={ X with A:=X.A.mark (À (.ref a)),calm:=Â,pn:=pn++X.pn,xe:=λ_ _=>False }
def sk{X:Cx}{H:Hp}{s:Å}(I:Inv X ag σ H s)(hp:∀p∈pn,s.heap.get? p.1=À p.2/\H p.1=Á/\p.1≠X.env.locals/\p.1∉X.fs/\∀v,p.2.data≠.cell v):Inv (Cx.inE X a pn) ag σ H s:=
 ⟨⟨I.ok.mod,I.ok.kind,I.ok.glob,I.ok.blt,I.ok.above,I.ok.inj,I.ok.has,I.ok.cab,(λz=>nomatch z),I.ok.frames,I.ok.stk,I.ok.exf,I.ok.bs,I.ok.bsz,I.ok.noex,I.ok.exfs,I.ok.funs,I.ok.frf⟩,I.os,I.bare,I.base,I.loc,I.cell,I.free,I.freeC,
  λp hm=>by
   rcases zA.mp hm with z | z
   .rcases zA.mp z with z | z
    .exact hp p z
    .exact I.pin p (jO _ z)
   .exact I.pin p (kh _ z),I.hok,I.len⟩
def WR{X:Cx}{H:Hp}(ok:X.Ok)(I:Inv (Cx.inE X a pn) ag σ H s):Inv X ag σ H s:=
 ⟨ok,I.os,I.bare,I.base,I.loc,I.cell,I.free,I.freeC,λp hm=>I.pin p (by
  rcases zA.mp hm with z | z
  .exact jO _ (kh _ z)
  .exact kh _ z),I.hok,I.len⟩
def tR{X:Cx}{H:Hp}{s:Å}{h':Ï}(I:Inv X ag σ H s)(hs:ć X.env.locals s.heap h')(hn:h'.Ns X.env.locals m') :
  Inv X ag (Æ X.N.length Á) H { s with heap:=h',toks:=t' }:=by
 have ne:∀b o,X.s₀.heap.get? b=À o->h'.get? b=s.heap.get? b:=λb o e=>hs.2 b (zT (zN (zz e) I.ok.above))
 refine⟨I.ok,I.os,I.bare,⟨λb o e n hb hx=>(ne b o e).trans (I.base.keep b o e n hb hx),λb o e n hb hx=>?_,I.base.free,λb o e hx=>?_,I.base.tups,I.base.frzs,I.base.tbls⟩,⟨m',hn,λj y v e1 e2 e3=>?_⟩,λy c e=>?_,I.free,I.freeC,λp hp=>?_,λb u e=>?_,by simp⟩
 .obtain⟨sl,e1⟩:=I.base.slot b o e n hb hx
  exact⟨sl,(ne b o e).trans e1⟩
 .obtain⟨o',e1⟩:=I.base.there b o e hx
  exact⟨o',(ne b o e).trans e1⟩
 .rw[jQ] at e2
  split at e2<;>cases e2
 .obtain⟨w',z⟩:=I.cell y c e
  exact⟨w',z.sameBut hs (I.cne y c e)⟩
 .obtain⟨e,n,ne,nf,d⟩:=I.pin p hp
  exact⟨(hs.2 p.1 ne).trans e,n,ne,nf,d⟩
 .refine(I.hok b u e).stay (λc v hc q=>?_) (λ_ q=>q) λ_ _ q=>q
  have:c≠X.env.locals:=λz=>by
   rcases hc with y | y
   .rw[<-y,z,I.free] at e;cases e
   .rw[z,I.free] at y;cases y
  exact(hs.2 c this).trans q
open Classical in
noncomputable def mI(i:Nat)(a:Ç)(b:Bool):ME:=λρ h=>if ρ[i]?=À (À (.fn a)) then À (.bl b,h) else Á
section
variable{X:Cx}{cl:Cl}{C:Ç}{ct k1 k2 k3 n c:È}{a:Ç}{oe:æ}{i:Nat}{p1 p2 p3 p4:õ}{b:Bool}
def JE(hp:(a,oe)∈X.pn)(AR:oe.cls=.ref C)(E:ExcK X.K X.mg C ct k1 k2 k3)(hr:∀u',RelV t u'->u'=u)(hk:ä X.K (.ref C) u=À b) :
  qV X (.builtin "isinstance") (λvs H Q=>vs=[.ref a,t]/\Q (.bl b) H):=by
 rintro ag s σ H vs us Q I r ⟨rfl,q⟩;cases r with
 | cons r1 r=>cases r with
  | cons r2 r=>cases r with
   | nil=>
    cases r1;have:=hr _ r2;subst this;have hx:=(I.pin _ (jO _ hp)).1;refine kE (Qd (x:=a) E.hb E.hm E.hc E.hga E.hgn E.hk) I.kIn ⟨oe,hx,AR⟩ hk (by intro z;cases z) λtk=>?_
    exact⟨.bl b,H,I.tok tk,rfl,q⟩
def fZ(hp:(a,oe)∈X.pn)(AR:oe.cls=.ref C)(E:ExcK X.K X.mg C ct k1 k2 k3)(hr:∀u',RelV t u'->u'=u)(hk:ä X.K (.ref C) u=À b)
  (hN:X.N[i]?=À n) (hv:gD X.env.scope n) (EN:(n==("__debug__":È))=Â) (EO:(n==("__classdict__":È))=Â) (ht:PE X (.Name c p3) (tC t)) (hi:X.mg "isinstance" = Á) (hg:Gl X "isinstance") :
  SE X cl (.Call (.Name "isinstance" p1) [.Name n p2,.Name c p3] [] p4) (mI i a b):=
 PE.wk (hV (JE hp AR E hr hk) hg hi yq (d7 (Jq hN hv EN EO) (d7 ht oD rfl) rfl) (by decide) (by decide) rfl rfl) λσ H Q q0=>by
  obtain⟨μ,h,ρ,w,h',R,er,e,k⟩:=q0;unfold mI at e;split at e
  .rename_i Lu
   cases e;obtain⟨v,e2,r⟩:=er.at_ i _ Lu;cases r;exact⟨.ref a,e2,rfl,k μ H _ .refl R (.bl b)⟩
  .cases e
end
noncomputable def lG(g:MX)(ms:List ME):MS:=λρ h=>match ke ms ρ h with
 | some (ws,h1)=>match g ws h1 with
  | some (À w,h2)=>À (.ret w,h2)
  | some (Á,h2)=>À (.ret .non,h2)
  | none=>Á
 | none=>Á
section
variable{X:Cx}{cl:Cl}{k:Nat}{f ct k1 k2 k3 n fl:È}{i j:Nat}{e:Ë}{es:List Ë}{g:MX}{ms:List ME}{fp cp rp np hp pos q1 q2 q3 q4 q5 q6 q7 q8 q9 qa qb qc qd:õ}{a1 a2 a3 a4 b1 b2 b3 b4 c1 c2 c3 c4 d1 d2 d3 d4:õ}{j1 j2 j3 j4:Nat}
theorem Q9{oe:æ}(DR:(a,oe)∈X.pn)(AR:oe.cls=.ref C)(E:ExcK X.K X.mg C ct k1 k2 k3)(hu:X.A.units+64<ö)
  (Lv:X.N.Nodup) (hi:X.N[i]?=À n) (F0:gD X.env.scope n) (EN:(n==("__debug__":È))=Â) (EO:(n==("__classdict__":È))=Â) (hj:X.N[j]?=À fl) (Lw:Loc X.env.scope fl) (Lx:X.fn fl=Ã) (Ly:gD X.env.scope fl) (Ee:(fl==("__debug__":È))=Â) (Lz:(fl==("__classdict__":È))=Â)
  (gi:Gl X "isinstance") (mi:X.mg "isinstance" = Á) (gv:Gl X "ValueError") (mv:X.mg "ValueError" = Á) (g1:Gl X k1) (g2:Gl X k2) (g3:Gl X k3) (n1:(k1==("__debug__":È))=Â) (n2:(k2==("__debug__":È))=Â) (n3:(k3==("__debug__":È))=Â) :
  SB X cl [.Assign [.Name fl q1] (.List [.Call (.Name "isinstance" a1) [.Name n a2,.Name k1 a3] [] a4,.Call (.Name "isinstance" b1) [.Name n b2,.Name k2 b3] [] b4,.Call (.Name "isinstance" c1) [.Name n c2,.Name k3 c3] [] c4] q2) q3,
   .If (.BoolOp .And [.Call (.Name "isinstance" d1) [.Name n d2,.Name "ValueError" d3] [] d4,.Compare (.Name fl q4) [.Eq] [.List [.Constant (.bool Ã) j1 qa,.Constant (.bool Â) j2 qb,.Constant (.bool Â) j3 qc] q5] q6] q7) [.Return (À (.Constant .none j4 qd)) q8] [] q9]
   (zl (zS (zi kf [mI i a Ã,mI i a Â,mI i a Â]) (zD j)) (ki (uv (zI (mI i a Ã)) (zI (zk (kM Â) (zd j) (zi kf [eC (.bl Ã),eC (.bl Â),eC (.bl Â)])))) (ka (eC .non)) kg)):=by
 obtain⟨C1,m1,z1⟩:=E.k1;obtain⟨C2,m2,z2⟩:=E.k2;obtain⟨C3,m3,z3⟩:=E.k3;have rf:∀{D:Ç} (u':Ä),RelV (.ref D) u'->u'=.ref D:=λu' r=>r
 refine rS (KZ j Lv (nu (yv (fZ DR AR E rf z1 hi F0 EN EO (uQ g1 m1 rfl n1) mi gi) (yv (fZ DR AR E rf z2 hi F0 EN EO (uQ g2 m2 rfl n2) mi gi) (yv (fZ DR AR E rf z3 hi F0 EN EO (uQ g3 m3 rfl n3) mi gi) am rfl) rfl) rfl)) hj Lw rfl (.inl Lx)) (nL (VY (rF (ZW (Ke ?_ λ_=>rfl) (sE (KA (JD hu) (Z3 j hj Ly Ee Lz) (nu (yv m9 (yv m9 (yv m9 am rfl) rfl) rfl)) ?_)))) (nL (KH ZL)) Jv))
 .exact fZ (t:=.ty "ValueError") (u:=.type "ValueError") DR AR E (λu' r=>r) E.ve hi F0 EN EO (rT gv mv ⋯ (show RelV (.ty "ValueError") (.type "ValueError") from rfl) (by decide) (by decide)) mi gi
 .rfl
theorem Kr{ρ:En}(ei:ρ[i]?=À (À (.fn a)))(lj:j<ρ.length)(ij:i≠j) :
  (zl (zS (zi kf [mI i a Ã,mI i a Â,mI i a Â]) (zD j)) (ki (uv (zI (mI i a Ã)) (zI (zk (kM Â) (zd j) (zi kf [eC (.bl Ã),eC (.bl Â),eC (.bl Â)])))) (ka (eC .non)) kg)) ρ h=À (.ret .non,h):=by
 have c3:(3:Nat)<=cap:=by decide
 have e1:∀b h,mI i a b ρ h=À (.bl b,h):=λb h=>by unfold mI;rw[zW ei]
 have e2:∀w b h,mI i a b (ρ.set j w) h=À (.bl b,h):=λw b h=>by unfold mI;rw[zW (by rw[jd (kZ ij)];exact ei)]
 have f1:zi kf [mI i a Ã,mI i a Â,mI i a Â] ρ h=À (.fls [.bl Ã,.bl Â,.bl Â],h):=by
  simp[zi,ke,bnd,e1,kf,c3]
 have g1:zD j (.fls [.bl Ã,.bl Â,.bl Â]) ρ h=À (ρ.set j (À (.fls [.bl Ã,.bl Â,.bl Â])),h):=by unfold zD;rw[zW lj]
 have v1:zd j (ρ.set j (À (.fls [.bl Ã,.bl Â,.bl Â]))) h=À (.fls [.bl Ã,.bl Â,.bl Â],h):=by
  unfold zd;rw[jc lj]
 have q1:kM Â (.fls [.bl Ã,.bl Â,.bl Â]) (.fls [.bl Ã,.bl Â,.bl Â]) h=À (.bl Ã,h):=by rfl
 have t1:uv (zI (mI i a Ã)) (zI (zk (kM Â) (zd j) (zi kf [eC (.bl Ã),eC (.bl Â),eC (.bl Â)]))) (ρ.set j (À (.fls [.bl Ã,.bl Â,.bl Â]))) h=À (Ã,h):=by
  simp[uv,zI,bnd,e2,wb,zk,v1,zi,ke,eC,kf,c3,q1]
 unfold zl;have s1:zS (zi kf [mI i a Ã,mI i a Â,mI i a Â]) (zD j) ρ h=À (.nx (ρ.set j (À (.fls [.bl Ã,.bl Â,.bl Â]))),h):=by
  unfold zS;rw[f1];erw[g1]
 rw[s1];simp only;unfold ki;rw[t1];rfl
end
section
variable{X:Cx}{cl:Cl}{k:Nat}{f ct k1 k2 k3 n fl:È}{i j:Nat}{e:Ë}{es:List Ë}{g:MX}{ms:List ME}{fp cp rp np hp pos q1 q2 q3 q4 q5 q6 q7 q8 q9 qa qb qc qd:õ}{a1 a2 a3 a4 b1 b2 b3 b4 c1 c2 c3 c4 d1 d2 d3 d4:õ}{j1 j2 j3 j4:Nat}
structure TryAt(X:Cx)(cl:Cl)(ct k1 k2 k3 n fl:È)(i j:Nat):Prop where
 nox:∀e s,¬X.xe e s
 stk:X.stack=X.env::X.outer/\X.env.frame=À X.env.locals
 E:ExcK X.K X.mg (cl.c 0) ct k1 k2 k3
 hu:X.A.units+64<ö
 nd:X.N.Nodup
 hi:X.N[i]?=À n
 vi:X.env.scope.names.lookup n=À .local
 dn:(n==("__debug__":È))=Â
 cn:(n==("__classdict__":È))=Â
 hj:X.N[j]?=À fl
 lj:Loc X.env.scope fl
 fj:∀x,X.fn x=Ã
 df:(fl==("__debug__":È))=Â
 cf:(fl==("__classdict__":È))=Â
 ne:n≠fl
 gi:Gl X "isinstance"
 mi:X.mg "isinstance" = Á
 gv:Gl X "ValueError"
 mv:X.mg "ValueError" = Á
 gc:Gl X ct
 g1:Gl X k1
 g2:Gl X k2
 g3:Gl X k3
 nc:(ct==("__debug__":È))=Â
 n1:(k1==("__debug__":È))=Â
 n2:(k2==("__debug__":È))=Â
 n3:(k3==("__debug__":È))=Â
def handled{s1 s2:Å}{D:Ends}(T:TryAt X cl ct k1 k2 k3 n fl i j)(I1:Inv X ag σ H1 s1)(os:s2.os=s1.os)(bare:þ s2.gens)
  (un:Un (frs X.stack) [] H1 H' s1.heap s2.heap) (hok:HOk X.prog X.w H' s2.heap) (F2:Ţ B X.stack a (.ref (cl.c 0)) a0 s2.heap) (bc:Bc H' s1.heap (frs X.stack) B s2.heap)
  (R:HR X.K cl μ H' h2) (er:ER X.K μ H' ρ σ) (hD:∀hG DQ,Ext μ H' hG DQ->HR X.K cl hG DQ h2->D.rt .non DQ) :
  Ê (Ì X.prog X.w) X.A (noteFrame (.ref a) X.env) (λ_ Ai=>Ê (Ì X.prog X.w) X.A (setFlight (.ref a) Á) (λ_ AA=>Ê (Ì X.prog X.w) X.A (handleBy (.ref a) X.env
   [.ExceptHandler (À (.Name ct np)) (À n) [.Assign [.Name fl q1] (.List [.Call (.Name "isinstance" a1) [.Name n a2,.Name k1 a3] [] a4,.Call (.Name "isinstance" b1) [.Name n b2,.Name k2 b3] [] b4,.Call (.Name "isinstance" c1) [.Name n c2,.Name k3 c3] [] c4] q2) q3,
    .If (.BoolOp .And [.Call (.Name "isinstance" d1) [.Name n d2,.Name "ValueError" d3] [] d4,.Compare (.Name fl q4) [.Eq] [.List [.Constant (.bool Ã) j1 qa,.Constant (.bool Â) j2 qb,.Constant (.bool Â) j3 qc] q5] q6] q7) [.Return (À (.Constant .none j4 qd)) q8] [] q9] hp]) (SP X ag D) X.xe AA) X.xe Ai) X.xe s2:=by
 have stk:=T.stk;have nf:=oy I1;rw[stk.1] at F2;refine wpAny_looks_onW (by rw[<-stk.1];exact I1.ok.frames) stk.2 F2 λh4 held up4=>?_
 refine wpAny_landsW held λh5 GI LA=>?_
 obtain⟨HA,Fw,LB⟩:=land nf I1.stkFree un hok bc GI.1 (up4.trans LA);have I5:Inv X ag σ H' { s2 with heap:=h5 }:=I1.call' (ch:=[]) (s':={ s2 with heap:=h5 }) os HA Fw bare (λb z=>absurd z (by simp));have Ff:=sk (a:=a) (pn:=[]) I5 (λp z=>absurd z (by simp));obtain⟨C1,mc,ex⟩:=T.E.ct;refine wpAny_handleBy_cons (codeAny_handlers_test ?_) (by intro q;cases q);refine bp (X:=Cx.inE X a []) Ff T.gc mc ?_ T.nc;obtain⟨Nt,LC,LD⟩:=GI.there;have LT:PySem.W.Looks (Ì X.prog X.w) h5 (typeOf (.ref a)) (.ref (cl.c 0)):=LD▸(PySem.W.Looks.ld LC).andThen .now;refine(PySem.W.exm_one I5.kIn LT ex).here ?_;refine codeAny_handlers_suite_as ?_;refine lands_againW GI λh6 GJ LF=>?_
 obtain⟨LG,GK,LH⟩:=land nf I1.stkFree HA Fw LB GJ.1 LF;have I6:Inv X ag σ H' { s2 with heap:=h6 }:=I1.call' (ch:=[]) (s':={ s2 with heap:=h6 }) os LG GK bare (λb z=>absurd z (by simp));obtain⟨oe,vs,T6,oT,ts,he,⟨Eb,_⟩,hd,_⟩:=id GJ.2.2.2;have ns:a∉frs X.stack:=λz=>by
  obtain⟨_,o,e1,nd⟩:=I6.stack.mem z;have e1:h6.get? a=À o:=e1;rw[he] at e1;cases e1;exact nd _ hd
 have na:H' a=Á:=by
  cases e:H' a with
  | none=>rfl
  | some u=>
   have:=LH a oe he (.inl (by rw[e];simp)) ns;rw[GJ.2.1] at this;cases this
 have A7:frs X.stack=X.env.locals::X.fs:=by
  rw[stk.1];unfold frs;rw[yP stk.2];rfl
 rw[A7] at ns
 have LI:=sk (a:=a) (pn:=[(a,oe)]) I6 (λp z=>by
  obtain rfl:p=(a,oe):=by simpa using z
  exact⟨he,na,λz=>ns (z▸zu),λz=>ns (zq _ z),λv z=>by rw[hd] at z;cases z⟩)
 have li:i<ρ.length:=by
  rw[er.len,I6.len];exact(zJ.mp T.hi).1
 have lj:j<ρ.length:=by
  rw[er.len,I6.len];exact(zJ.mp T.hj).1
 have ij:i≠j:=λz=>T.ne (zP (T.hi.symm.trans (z▸T.hj)))
 refine eV (X:=Cx.inE X a [(a,oe)]) (v:=.ref a) (u:=.ref a) LI T.nd T.hi (.inl T.vi) rfl (λs7 I7=>?_) (.inl (T.fj n));have lv:gD X.env.scope fl:=T.lj.elim .inl (λz=>.inr (.inl z));have run:=Q9 (X:=Cx.inE X a [(a,oe)]) (cl:=cl) (q1:=q1) (q2:=q2) (q3:=q3) (q4:=q4) (q5:=q5) (q6:=q6) (q7:=q7) (q8:=q8) (q9:=q9) (qa:=qa) (qb:=qb) (qc:=qc) (qd:=qd) (a1:=a1) (a2:=a2) (a3:=a3) (a4:=a4) (b1:=b1) (b2:=b2) (b3:=b3) (b4:=b4) (c1:=c1) (c2:=c2) (c3:=c3) (c4:=c4) (d1:=d1) (d2:=d2) (d3:=d3) (d4:=d4) (j1:=j1) (j2:=j2) (j3:=j3) (j4:=j4)
  (zu ..) Eb T.E T.hu T.nd T.hi (.inl T.vi) T.dn T.cn T.hj T.lj (T.fj fl) lv T.df T.cf T.gi T.mi T.gv T.mv T.g1 T.g2 T.g3 T.n1 T.n2 T.n3
  ag s7 (σ.set i (À (.ref a))) H' { nx:=λ_ _=>False,rt:=λv DQ=>v=.non/\D.rt .non DQ } I7
  ⟨μ,h2,ρ.set i (À (.fn a)),.ret .non,h2,R,er.set li .fn,Kr (by rw[jc li]) (by simpa using lj) ij,λcx H1 E1 R1 v rv=>⟨by cases rv;rfl,hD cx H1 E1 R1⟩⟩
 refine jK run (λf s8 q=>?_) (λ_ _ z=>z.elim);cases f with
 | next=>obtain⟨_,_,_,z⟩:=q;exact z.elim
 | brk=>obtain⟨_,_,_,z⟩:=q;exact z.elim
 | cont=>obtain⟨_,_,_,z⟩:=q;exact z.elim
 | ret u=>
  obtain⟨v,hY,DQ,I8,rv,rfl,d⟩:=q;have I9:=WR I6.ok I8;obtain⟨m,hn,_⟩:=id I9.loc;exact wpAny_nameGoes T.vi hn (by rw[I6.ok.kind];rfl) λh9 m' LJ LK=>⟨.non,_,DQ,tR I9 LK LJ,rv,d⟩
def X7(T:TryAt X cl ct k1 k2 k3 n fl i j)(FX:FnAtX X.prog X.w X.K X.mg X.base cl k f g)(hr:Room k X.A)(hg:Gl X f)(ha:SA X cl (e::es) ms)
  (Ak:⇑((f==("__debug__":È))=Â)) (he:↥(É (e::es) X.env=(Â,eval e X.env)::É es X.env)) (xa:↥((Ö cp (É es X.env)).any (·.1)=Â)) :
  SS X cl (.Try [.Return (À (.Call (.Name f fp) (e::es) [] cp)) rp]
   [.ExceptHandler (À (.Name ct np)) (À n) [.Assign [.Name fl q1] (.List [.Call (.Name "isinstance" a1) [.Name n a2,.Name k1 a3] [] a4,.Call (.Name "isinstance" b1) [.Name n b2,.Name k2 b3] [] b4,.Call (.Name "isinstance" c1) [.Name n c2,.Name k3 c3] [] c4] q2) q3,
    .If (.BoolOp .And [.Call (.Name "isinstance" d1) [.Name n d2,.Name "ValueError" d3] [] d4,.Compare (.Name fl q4) [.Eq] [.List [.Constant (.bool Ã) j1 qa,.Constant (.bool Â) j2 qb,.Constant (.bool Â) j3 qc] q5] q6] q7) [.Return (À (.Constant .none j4 qd)) q8] [] q9] hp] [] [] pos) (lG g ms):=by
 rintro ag s σ H D I ⟨μ,h,ρ,FY,h',R,er,e1,k⟩;unfold lG at e1;split at e1
 .rename_i ws h1 ea
  cases eg:g ws h1 with
  | none=>rw[eg] at e1;cases e1
  | some p=>
   obtain⟨r,h2⟩:=p;rw[eg] at e1;refine wpAny_Try_except (yQ (jK (Ř (Q:=λf s1=>∃u,f=.ret u/\SP X ag D (.ret u) s1) (kq (Jc (Q:=D.rt) (E:=λ_ _ H'=>r=Á/\∃hG,Ext μ H hG H'/\HR X.K cl hG H' h2) FX hr hg (jK (ha cp ag s σ H _ I ⟨μ,h,ρ,ws,h1,R,er,ea,λcx H1 vs E1 R1 rs=>⟨cx,h1,ws,r,h2,R1,rs,eg,λhX H2 E2 R2=>?ga⟩⟩) (λ_ _ z=>z) λe s z=>absurd z (T.nox e s)) I (λH1 s1 e s2 I1 q=>?gb) Ak he xa) λv s1 q=>?gc)) (λf s1 q=>?gd) λ_ _ z=>z))
   case ga=>
    cases r with
    | none=>exact⟨rfl,hX,E1.trans E2,R2⟩
    | some w=>cases e1;exactλv rv=>k hX H2 (E1.trans E2) R2 v rv
   case gb=>
    obtain⟨a,H',B,a0,rfl,os,bare,un,hok,F2,bc,rn,hG,E',R'⟩:=q;cases rn;cases e1;exact handled T I1 os bare un hok F2 bc R' (er.ext R E') λhX H2 E2 R2=>k hX H2 (E'.trans E2) R2 .non .non
   case gc=>
    obtain⟨x,H1,I1,r1,q1⟩:=q;exact⟨_,rfl,x,σ,H1,I1,r1,q1⟩
   case gd=>
    obtain⟨u,rfl,q⟩:=q;exact q
 .cases e1
end
noncomputable def fN(sc scope:Þ):Þ:={ scope with names:=scope.names.map λ(n,k)=>if (k==.free&&sc.kind==.function&&sc.names.lookup n==À .cell) then (n,.cell) else (n,k) }
noncomputable def fA(sc:Þ)(x:È):Bool:=sc.names.lookup x==À .cell||sc.names.lookup x==À .free
noncomputable def uC(sc:Þ)(N:List È)(scope:Þ)(N':List È)(nl:Nat)(ks:List Nat):Bool:=
 scope.kind==.function&&scope.names.all (λy=>y.2 != .cell)&&scope.names.all (λy=>y.2 != .local||scope.names.lookup y.1==À .local)
 && N'.length==nl+ks.length&&scope.names.all (λy=>y.2 != .free||fA sc y.1)
 && (Ė ks.length).all λj=>match ks[j]?,N'[nl+j]? with
  | some k,À x=>N[k]?==À x&&fA sc x&&fA (fN sc scope) x
  | _,_=>Â
structure CompOk(sc:Þ)(N:List È)(scope:Þ)(N':List È)(nl:Nat)(ks:List Nat):Prop where
 kind:scope.kind=.function
 ncell:∀y∈scope.names,y.2≠.cell
 names:∀y∈scope.names,y.2=.local->scope.names.lookup y.1=À .local
 len:N'.length=nl+ks.length
 fall:∀y∈scope.names,y.2=.free->fA sc y.1=Ã
 fr:∀j k,ks[j]?=À k->∃x,N[k]?=À x/\N'[nl+j]?=À x/\fA sc x=Ã/\fA (fN sc scope) x=Ã
def ah(h:uC sc N scope N' nl ks=Ã):CompOk sc N scope N' nl ks:=by
 unfold uC at h;erw[zb] at h;obtain⟨⟨⟨⟨⟨h1,h2⟩,h3⟩,h4⟩,h5⟩,h6⟩:=h;refine⟨by simpa using h1,λy hy=>?_,λy hy e=>?_,by simpa using h4,λy hy e=>?_,λj k e=>?_⟩
 .have:=zY.mp h2 y hy;simpa using this
 .have:=zY.mp h3 y hy;simpa[e] using this
 .have:=zY.mp h5 y hy;simpa[e] using this
 .have hj:j<ks.length:=(zJ.mp e).1
  have:=zY.mp h6 j (yJ.mpr hj);rw[e] at this;cases e2:N'[nl+j]? with
  | none=>rw[e2] at this;simp at this
  | some x=>
   rw[e2] at this;erw[zb] at this;exact⟨x,by simpa using this.1.1,rfl,this.1.2,this.2⟩
def fx{sc:Þ}(h:fA sc x=Ã):sc.names.lookup x=À .cell\/sc.names.lookup x=À .free:=by
 unfold fA at h;rcases vh.mp h with h | h
 .exact .inl (by simpa using h)
 .exact .inr (by simpa using h)
noncomputable def wa(X:Cx)(scope:Þ)(cs:List (È×Ç))(C:Ç)(N:List È)(s₀:Å)(H₀:Hp)(ex:List Ç):Cx:=
 { X with N:=N,s₀:=s₀,H₀:=H₀,env:=compEnvC scope cs C X.env,outer:=X.stack,ex:=ex,fn:=λ_=>Â,pn:=[],xe:=λ_ _=>False }
def Zp{env:Ŭ}(names:List (È×Đ))(h:∀y∈names,y.2=.free->∃c,env.cells.lookup y.1=À c):∀DZ:List (È×Ç),(∀x c,DZ.lookup x=À c->env.cells.lookup x=À c)->
  ∃cs,(forIn names DZ λ(x:È×Đ) (r:List (È×Ç))=>if (x.2==Ď)=Ã then do
    let a <-cellOf env x.1
    pure (ù ((x.1,a)::r)) else pure (ù r):Sem (List (È×Ç)))=pure cs/\(∀x c,cs.lookup x=À c->env.cells.lookup x=À c)/\(∀y∈names,y.2=.free->∃c,cs.lookup y.1=À c)/\∀x c,DZ.lookup x=À c->∃c',cs.lookup x=À c':=by
 induction names with
 | nil=>intro DZ h0;exact⟨DZ,by simp,h0,λy hy=>by simp at hy,λx c e=>⟨c,e⟩⟩
 | cons y r ih=>
  intro DZ h0;have hr:∀z∈r,z.2=.free->∃c,env.cells.lookup z.1=À c:=λz hz=>h z (zq _ hz)
  by_cases hy:(y.2==Ď)=Ã
  .obtain⟨c,hc⟩:=h y zu (by simpa using hy)
   have h1:∀x c',((y.1,c)::DZ).lookup x=À c'->env.cells.lookup x=À c':=λx c' e=>by
    rw[jM] at e;split at e
    .rename_i q
     have:x=y.1:=by simpa using q
     subst this;rw[<-e];exact hc
    .exact h0 x c' e
   obtain⟨cs,e1,e2,e3,e4⟩:=ih hr ((y.1,c)::DZ) h1;have D8:∃c',cs.lookup y.1=À c':=e4 y.1 c (by rw[jM];simp);refine⟨cs,?_,e2,λz hz e=>?_,λx c' e=>?_⟩
   .rw[v8,zW hy]
    have:cellOf env y.1=pure c:=by unfold cellOf;rw[hc]
    rw[this];erw[pure_bind];exact e1
   .rcases zp.mp hz with rfl | hz
    .exact D8
    .exact e3 z hz e
   .by_cases q:x=y.1
    .subst q;exact D8
    .refine e4 x c' ?_
     rw[jM];have:(x==y.1)=Â:=by simpa using q
     rw[this];exact e
  .obtain⟨cs,e1,e2,e3,e4⟩:=ih hr DZ h0
   refine⟨cs,?_,e2,λz hz e=>?_,e4⟩
   .rw[v8,kY hy]
    erw[pure_bind];exact e1
   .rcases zp.mp hz with rfl | hz
    .exact absurd (by simpa using e) hy
    .exact e3 z hz e
theorem mS{env:Ŭ}{scope:Þ}(h:∀y∈scope.names,y.2=.free->∃c,env.cells.lookup y.1=À c) :
  ∃cs,closureFor scope env=pure cs/\(∀x c,cs.lookup x=À c->env.cells.lookup x=À c)/\(∀y∈scope.names,y.2=.free->∃c,cs.lookup y.1=À c):=by
 obtain⟨cs,e1,e2,e3,_⟩:=Zp scope.names h [] (λx c e=>by simp at e);refine⟨cs,?_,e2,e3⟩
 have q:closureFor scope env=((forIn scope.names ([]:List (È×Ç)) λ(x:È×Đ) (r:List (È×Ç))=>if (x.2==Ď)=Ã then do
    let a <-cellOf env x.1
    pure (ù ((x.1,a)::r)) else pure (ù r):Sem (List (È×Ç))) >>= λcs=>pure cs):=rfl
 rw[q,e1];rfl
section
variable{X:Cx}{ag:List (Ç×æ)}{σ:L2.St}{H:Hp}{s:Å}
def oW{scope:Þ}(nc:∀y∈scope.names,y.2≠.cell)(h:fA (fN sc scope) x=Ã):∃y∈scope.names,y.1=x/\y.2=.free:=by
 have go:∀l:List (È×Đ),(∀y∈l,y.2≠.cell)->∀k:Đ,(k=.cell\/k=.free)->(l.map λ(n,k)=>if (k==Ď&&sc.kind==ScopeKind.function&&sc.names.lookup n==À ĥ) then (n,ĥ) else (n,k)).lookup x=À k->∃y∈l,y.1=x/\y.2=.free:=by
  intro l;induction l with
  | nil=>intro _ k _ e;simp at e
  | cons y r ih=>
   obtain⟨n,k0⟩:=y;intro nc k hk e;rw[zx,jM] at e;have Fx:(if (k0==Ď&&sc.kind==ScopeKind.function&&sc.names.lookup n==À ĥ)=Ã then (n,ĥ) else (n,k0)).1=n:=by split<;>rfl
   by_cases q:x=n
   .refine⟨(n,k0),zu,q.symm,?_⟩
    have:(x==n)=Ã:=by simpa using q
    erw[Fx,this] at e;split at e
    .rename_i c
     erw[zb] at c;simpa using c.1.1
    .have e':k0=k:=by simpa using e
     rcases hk with rfl | rfl
     .exact absurd e' (nc (n,k0) zu)
     .exact e'
   .have:(x==n)=Â:=by simpa using q
    erw[Fx,this] at e;obtain⟨y,hy,e1,e2⟩:=ih (λy hy=>nc y (zq _ hy)) k hk e;exact⟨y,zq _ hy,e1,e2⟩
 rcases fx h with h | h
 .exact go scope.names nc _ (.inl rfl) h
 .exact go scope.names nc _ (.inr rfl) h
def UW{scope:Þ}{cs:List (È×Ç)}(I:Inv X ag σ H s)(Ag:X.env.scope=sc)(ok:CompOk sc N scope N' nl ks)
  (AB:∀x c,cs.lookup x=À c->X.env.cells.lookup x=À c) (Am:∀y∈scope.names,y.2=.free->∃c,cs.lookup y.1=À c) (hC:s.heap.objs.size<=C) (hex:∀b∈ex,uN X ag H b) (Ep:∀b∈ex,b<s.heap.objs.size):(wa X scope cs C N' s H ex).Ok:=by
 subst Ag;refine⟨I.ok.mod,ok.kind,I.ok.glob,I.ok.blt,hC,λx y c h1 h2=>I.ok.inj x y c (AB x c h1) (AB y c h2),λx hx=>?_,λx c h=>?_,I.ok.hd,I.ok.frames,.inl rfl,λb hb=>?_,I.bs,zG I.ok.bsz I.sz,λb o e hb=>?_,λb hb z=>?_,I.stack,I.stkFree⟩
 .have hc:fA (fN X.env.scope scope) x=Ã:=by
   unfold fA;rcases hx with hx | hx
   .rw[show(fN X.env.scope scope).names.lookup x=À .cell from hx];rfl
   .rw[show(fN X.env.scope scope).names.lookup x=À .free from hx];rfl
  obtain⟨y,hy,rfl,e⟩:=oW ok.ncell hc;exact Am y hy e
 .cases h
 .obtain⟨h0,h1,h2,h3,h4,h5⟩:=hex b hb
  exact⟨λz=>absurd (zN (Ep b hb) (z▸hC)) (jP _),λx c e=>h4 x c (AB x c e)⟩
 .obtain⟨h0,h1,h2,h3,h4,h5⟩:=hex b hb
  rcases h3 with h3 | h3
  .exact I.ok.noex b o e h3
  .exact absurd (zN (zz e) (zG I.ok.bsz h3)) (jP _)
 .obtain⟨h0,h1,h2,h3,h4,h5⟩:=hex b hb
  rcases zp.mp (I.stkSub b z) with e | e
  .exact h1 e
  .exact h2 e
end
section
variable{prog:Í}{w:Ð}{A:Ò}{R:Result->Å->Prop}{s:Å}
noncomputable def rH(ifs:List Ë)(env:Ŭ):Sem Bool:=forIn ifs Ã λc r=>if r=Ã then do let ok <-isTrue c env (eval c env);pure (ù ok) else pure (ù r)
def nS{pos:õ}(I:Nat->Å->Prop)
  (turn:∀n s,I n s->Ê (Ì prog w) A (ė it) (λr hJ=>match r with
   | none=>R (.ok .next) hJ
   | some v=>Ê (Ì prog w) A (ē target it v) (λ_ D9=>Ê (Ì prog w) A (assign target env v) (λ_ Ai=>
     Ê (Ì prog w) A (rH ifs env) (λok AA=>
      if ok=Ã then Ê (Ì prog w) A (eval elt env) (λx D0=>
       Ê (Ì prog w) A (call (.builtin "list.append") [acc,x]) (λ_ Fy=>∃m,m<n/\I m Fy) (λ_ _=>False) D0) (λ_ _=>False) AA
      else ∃m,m<n/\I m AA) (λ_ _=>False) Ai) (λ_ _=>False) D9) (λ_ _=>False) hJ) (λ_ _=>False) s)
  (n:Nat) (h:I n s) :
  ĉ (Ì prog w) A (.compLoop (.ListComp elt [⟨target,iter,ifs,0⟩] scope pos) 0 it acc env) R s:=by
 refine codeAny_loop rfl I (λn s hI=>?_) n h;show Ê _ A ((compTurn (.ListComp elt [⟨target,iter,ifs,0⟩] scope pos) 0 it acc env).onRaise (λx=>do noteFrame x env;theTreesLotGoes x)) _ _ s
 refine wpAny_noted ?_;rw[compTurn_list];refine za (yr (za (jK (turn n s hI) (λr hJ An=>?_) λ_ _ h'=>h'.elim)));cases r with
 | none=>exact zy An
 | some v=>
  refine za (jK An (λ_ D9 Fz=>?_) λ_ _ h'=>h'.elim);refine za (jK Fz (λ_ Ai DH=>za (jK DH (λok AA FA=>?_) λ_ _ h'=>h'.elim)) λ_ _ h'=>h'.elim);cases ok with
  | false=>exact zy ⟨rfl,FA⟩
  | true=>
   exact za (za (jK FA (λx D0 GL=>za (jK GL (λ_ Fy GM=>zy (zy ⟨rfl,GM⟩)) λ_ _ h'=>h'.elim)) λ_ _ h'=>h'.elim))
end
noncomputable def fv(X:Cx)(cl:Cl)(ifs:List Ë)(t:MT):Prop:=∀(ag:List (Ç×æ)) (s:Å) (σ:L2.St) (H:Hp) (Q:Bool->Hp->Prop),Inv X ag σ H s->tMT X.K cl t σ H Q->Ê (Ì X.prog X.w) X.A (rH ifs X.env) (TP X ag σ Q) X.xe s
noncomputable def ux:MT:=λ_ h=>À (Ã,h)
section
variable{X:Cx}{cl:Cl}{c:Ë}{t:MT}
def WB:fv X cl [] ux:=λag s σ H Q I q0=>by
 obtain⟨μ,h,ρ,b,h',R,er,e,k⟩:=q0;cases e;exact wpAny_tests_nil ⟨H,I,k μ H .refl R⟩
def YM(h:ST X cl c t):fv X cl [c] t:=λag s σ H Q I q=>wpAny_tests_one (h ag s σ H Q I q)
end
noncomputable def blank(nl:Nat)(ρ:En):En:=Æ nl Á++ρ.drop nl
noncomputable def uu(src:Src)(nl:Nat)(g:MG)(t:MT)(m:ME)(n0:Nat):Nat->Nat->En->MH->Option MH
 | 0,_,_,_=>Á
 | k+1,i,ρ,h=>match ut src i h with
  | none=>Á
  | some Á=>À h
  | some (À w)=>match g w ρ h with
   | none=>Á
   | some (r9,h1)=>match t r9 h1 with
    | none=>Á
    | some (Â,h2)=>uu src nl g t m n0 k (i+1) (blank nl r9) h2
    | some (Ã,h2)=>match m r9 h2 with
     | none=>Á
     | some (y,h3)=>match h3[n0]? with
      | some (.lst acc)=>if acc.length<cap then uu src nl g t m n0 k (i+1) (blank nl r9) (h3.set n0 (.lst (acc++[y]))) else Á
      | _=>Á
noncomputable def uw(nl:Nat)(g:MG)(t:MT)(m:ME)(n0:Nat):List W->En->MH->Option MH
 | [],_,h=>À h
 | w::r,ρ,h=>match g w ρ h with
   | none=>Á
   | some (r9,h1)=>match t r9 h1 with
    | none=>Á
    | some (Â,h2)=>uw nl g t m n0 r (blank nl r9) h2
    | some (Ã,h2)=>match m r9 h2 with
     | none=>Á
     | some (y,h3)=>match h3[n0]? with
      | some (.lst acc)=>if acc.length<cap then uw nl g t m n0 r (blank nl r9) (h3.set n0 (.lst (acc++[y]))) else Á
      | _=>Á
theorem dE(l:List W):∀(k i:Nat) (ρ:En) (h:MH),l.length+1<=i+k->i<=l.length->uu (.items l) nl g t m n0 k i ρ h=uw nl g t m n0 (l.drop i) ρ h
 | 0,i,ρ,h,hk,hi=>by omega
 | k+1,i,ρ,h,hk,hi=>by
  by_cases hl:i<l.length
  .rw[vG hl]
   unfold uu uw;erw[ut,kO hl];cases e1:g l[i] ρ h with
   | none=>rfl
   | some p=>
    obtain⟨r9,h1⟩:=p;simp only;cases e2:t r9 h1 with
    | none=>rfl
    | some q=>
     obtain⟨b,h2⟩:=q;cases b with
     | false=>exact dE l k (i+1) _ h2 ∅ hl
     | true=>
      simp only;cases e3:m r9 h2 with
      | none=>rfl
      | some q3=>
       obtain⟨y,h3⟩:=q3;simp only;split
       .split
        .exact dE l k (i+1) _ _ ∅ hl
        .rfl
       .rfl
  .have Ei:i=l.length:=by omega
   subst Ei;rw[yo];unfold uu uw;simp[ut]
noncomputable def eF(mi:MI)(nl:Nat)(ks:List Nat)(g:MG)(t:MT)(m:ME):En->MH->Option (Nat×MH×MH):=λρ h=>match mi ρ h with
 | none=>Á
 | some (.items l,h1)=>match uw nl g t m h1.length l (Æ nl Á++ks.map λk=>(ρ[k]?).join) (h1++[.lst []]) with
  | some h2=>À (h1.length,h1,h2)
  | none=>Á
 | some (.live n,h1)=>match uu (.live n) nl g t m h1.length (ZO (.live n) h1+1) 0 (Æ nl Á++ks.map λk=>(ρ[k]?).join) (h1++[.lst []]) with
  | some h2=>À (h1.length,h1,h2)
  | none=>Á
noncomputable def fO(mi:MI)(nl:Nat)(ks:List Nat)(g:MG)(t:MT)(m:ME):ME:=λρ h=>match eF mi nl ks g t m ρ h with
 | some (n,_,h2)=>À (.ref n,h2)
 | none=>Á
open Classical in
noncomputable def yk(mi:MI)(nl:Nat)(ks:List Nat)(g:MG)(t:MT)(m:ME):ME:=λρ h=>match eF mi nl ks g t m ρ h with
 | some (n,h1,h2)=>match h2[n]? with
  | some (.lst l)=>if h1<+:h2/\lows h1.length l=Ã then À (.fls l,h1) else Á
  | _=>Á
 | none=>Á
theorem ER.blank{K:NT}{μ:List Ç}{H:Hp}{ρ:En}(er:ER K μ H ρ σ)(hl:nl<=ρ.length):ER K μ H (ML.blank nl ρ) σ:=by
 unfold ML.blank;refine⟨by simp;rw[<-er.len];omega,λi w e=>?_⟩;by_cases hi:i<nl
 .rw[zV (by simpa using hi),jQ] at e
  split at e<;>cases e
 .rw[kj (by simpa using hi),qp,List.getElem?_drop] at e
  exact er.at_ i w (by rw[<-e];congr 1;omega)
section
variable{X:Cx}{cl:Cl}{ag:List (Ç×æ)}{σ:L2.St}
noncomputable def σC(nl:Nat)(ks:List Nat)(σ:L2.St):L2.St:=Æ nl Á++ks.map λk=>(σ[k]?).join
noncomputable def ρC(nl:Nat)(ks:List Nat)(ρ:En):En:=Æ nl Á++ks.map λk=>(ρ[k]?).join
def Dp{K:NT}{μ:List Ç}{H:Hp}(er:ER K μ H ρ σ):ER K μ H (ρC nl ks ρ) (σC nl ks σ):=by
 unfold ρC σC;refine⟨by simp,λi w e=>?_⟩;by_cases hi:i<nl
 .rw[zV (by simpa using hi),jQ] at e
  split at e<;>cases e
 .rw[kj (by simpa using hi),qp,jr] at e
  rw[kj (by simpa using hi),qp,jr];cases e1:ks[i-nl]? with
  | none=>rw[e1] at e;cases e
  | some k=>
   rw[e1] at e;have e2:(ρ[k]?).join=À w:=zP e;have e3:ρ[k]?=À (À w):=by
    cases q:ρ[k]? with
    | none=>rw[q] at e2;cases e2
    | some o=>rw[q] at e2;cases o with
     | none=>cases e2
     | some z=>cases e2;rfl
   obtain⟨v,ev,r⟩:=er.at_ k w e3;exact⟨v,by simp[ev],r⟩
def Jo{scope:Þ}{cs:List (È×Ç)}{H:Hp}{s:Å}{An:Ï}(I:Inv X ag σ H s)(Ag:X.env.scope=sc)(hN:X.N=N)(ok:CompOk sc N scope N' nl ks)
  (AB:∀x c,cs.lookup x=À c->X.env.cells.lookup x=À c) (Am:∀y∈scope.names,y.2=.free->∃c,cs.lookup y.1=À c) (hex:∀b∈ex,uN X ag H b) (Ep:∀b∈ex,b<s.heap.objs.size)
   (Af:An.Ns (s.heap.objs.size+1) m0) (old:∀b o,s.heap.get? b=À o->An.get? b=À o) (hD:An.get? s.heap.objs.size=À { cls:=.type "list",data:=.seq ([]:List Ä).toArray }) :
  Inv (wa X scope cs (s.heap.objs.size+1) N' s H ex) [] (σC nl ks σ) (upd H s.heap.objs.size (.lst [])) { s with heap:=An,toks:=tk }:=by
 have LM:H s.heap.objs.size=Á:=I.hok.fresh (zF _);have LN:∀{b:Ç} {o:æ},s.heap.get? b=À o->b≠s.heap.objs.size:=λe=>zT (zz e)
 refine⟨UW I Ag ok AB Am (jZ _) hex Ep,rfl,I.bare,Un.laid old (zF _) LM,⟨m0,Af,λi x v e1 e2 e3=>?_⟩,λx c e=>?_,?_,λx c e=>?_,λp hp=>absurd (show p∈([]:List (Ç×æ)) from hp) (by simp),I.hok.laid old (zF _) ⟨by simp,[],_,.nil,hD⟩,?_⟩
 .have Eh:N'[i]?=À x:=e1
  unfold σC at e2;by_cases hi:i<nl
  .rw[zV (by simpa using hi),jQ] at e2
   split at e2<;>cases e2
  .rw[kj (by simpa using hi),qp,jr] at e2
   cases q1:ks[i-nl]? with
   | none=>rw[q1] at e2;cases e2
   | some k=>
    rw[q1] at e2;have q2:(σ[k]?).join=À v:=zP e2;have q3:σ[k]?=À (À v):=by
     cases q:σ[k]? with
     | none=>rw[q] at q2;cases q2
     | some o=>rw[q] at q2;cases o with
      | none=>cases q2
      | some z=>cases q2;rfl
    obtain⟨x',GH,FZ,HE,HF⟩:=ok.fr (i-nl) k q1;have:x'=x:=by
     rw[show nl+(i-nl)=i by omega,Eh] at FZ;exact(zP FZ).symm
    subst this;subst Ag;obtain⟨m,hn,hl⟩:=I.loc;have Gk:gD X.env.scope x':=by rcases fx HE with z | z;exact .inr (.inl z);exact .inr (.inr z)
    obtain⟨u,ru,lk⟩:=hl k x' v (by rw[hN];exact GH) q3 Gk;refine⟨u,ru,?_⟩;rcases lk with ⟨z,_⟩ | ⟨_,c,hc,ic⟩
    .rcases fx HE with y | y<;>(rw[show X.env.kindOf x'=X.env.scope.names.lookup x' from rfl,y] at z;cases z)
    .refine .inr ⟨fx HF,?_⟩
     obtain⟨y,hy,rfl,LO⟩:=oW ok.ncell HF;obtain⟨c',D6⟩:=Am y hy LO;have:=AB _ _ D6;rw[hc] at this;cases this;obtain⟨o,ho,hd⟩:=ic;exact⟨c,D6,o,old _ _ ho,hd⟩
 .obtain⟨v,o,ho,hd⟩:=I.cell x c (AB x c e)
  exact⟨v,o,old _ _ ho,hd⟩
 .show(upd H s.heap.objs.size (.lst [])) (s.heap.objs.size+1)=Á
  rw[kK (Nat.succ_ne_self _)];exact I.hok.fresh (jZ _)
 .obtain⟨v,o,ho,hd⟩:=I.cell x c (AB x c e)
  rw[kK (LN ho)];exact I.freeC x c (AB x c e)
 .show(σC nl ks σ).length=N'.length
  unfold σC;rw[ok.len];simp
def K1{elt tg iter:Ë}{ifs:List Ë}{scope sc:Þ}{pos:õ}{N N':List È}{nl:Nat}{ks:List Nat}{cs:List (È×Ç)}{J:It}{it:Ç}{fp:List Ç}{tn:Nat->Ï->Prop}{g:MG}{t:MT}{m:ME}{src:Src}{k0:Nat}
  {H2:Hp} {s2:Å} {μ:List Ç} {h h':MH} {ρ:En} {RR:Ä->Ç->Result->Å->Prop} {E:Ä->Å->Prop}
  (hc:X.calm=Ã) (Ag:X.env.scope=sc) (hN:X.N=N) (ok:CompOk sc N scope N' nl ks)
  (hg:∀cs C s₀ H₀ ex,SG (wa X scope cs C N' s₀ H₀ ex) cl tg g) (ht:∀cs C s₀ H₀ ex,fv (wa X scope cs C N' s₀ H₀ ex) cl ifs t) (he:∀cs C s₀ H₀ ex,SE (wa X scope cs C N' s₀ H₀ ex) cl elt m)
  (I2:Inv X ag σ H2 s2) (T:Turn X.prog X.w X.K tg J fp it tn) (A7:tn 0 s2.heap) (f2:∀b∈fp,uN X ag H2 b)
  (AB:∀x c,cs.lookup x=À c->X.env.cells.lookup x=À c) (Am:∀y∈scope.names,y.2=.free->∃c,cs.lookup y.1=À c)
  (R2:HR X.K cl μ H2 h) (er:ER X.K μ H2 ρ σ) (j:JR X.K cl J src μ H2) (e:uu src nl g t m h.length k0 0 (ρC nl ks ρ) (h++[.lst []])=À h')
  (LP:∀D C s' H' hG m',D≠C->s'.heap.Ns C m'->Inv X ag σ H' s'->H' C=Á->s2.heap.objs.size<=C->Ext μ H2 hG H'->HR X.K cl hG H' h'->hG[h.length]?=À D->RR (.ref D) C (.ok .next) s') :
  Ê (Ì X.prog X.w) X.A (newList []) (λacc AA=>Ê (Ì X.prog X.w) X.A (newFunctionEnv scope X.env.globals cs [] X.env.qual Á .none (À X.env)) (λFB D0=>
   ĉ (Ì X.prog X.w) X.A (.compStart (.ListComp elt [⟨tg,iter,ifs,0⟩] scope pos) 0 (.ref it) acc { FB with scope:=relabel scope X.env }) (RR acc FB.locals) D0) E AA) E s2:=by
 refine jx (wpAny_newFunctionEnv ok.ncell (by intro y hy;simp at hy) (λAn AE Aq=>?_) ok.kind);dsimp only at AE Aq ⊢;generalize hP:s2.heap.push { cls:=.type "list",dict:=Á,data:=.seq ([]:List Ä).toArray }=P at AE Aq ⊢;have hC:P.objs.size=s2.heap.objs.size+1:=by rw[<-hP,qe]
 rw[hC] at AE Aq ⊢;have old:∀b o,s2.heap.get? b=À o->An.get? b=À o:=λb o e=>Aq.extBut b o (zT (vK (zz e))) (zg _ (hP▸zg _ e))
 have hD:An.get? s2.heap.objs.size=À { cls:=.type "list",data:=.seq ([]:List Ä).toArray }:=Aq.extBut _ _ (zT (qi _)) (zg _ (hP▸zL _ rfl));have Ep:∀b∈fp,b<s2.heap.objs.size:=λb hb=>by
  obtain⟨o,ho,_⟩:=T.obj 0 _ A7 b hb;exact zz ho
 have GN:H2 s2.heap.objs.size=Á:=I2.hok.fresh (zF _);have I3:=Jo (X:=X) (tk:=s2.toks+([]:List (È×Ä)).length) I2 Ag hN ok AB Am f2 Ep AE old hD;have Fe:tn 0 An:=T.keep 0 _ _ A7 λb _ o e=>old b o e
 have FU:∀b∈fp,(upd H2 s2.heap.objs.size (.lst [])) b=Á:=λb hb=>by
  rw[kK (zT (Ep b hb))];exact(f2 b hb).1
 have GO:∀{H:Hp},(∀b∈fp,H b=Á)->∀b∈fp,uN (wa X scope cs (s2.heap.objs.size+1) N' s2 H2 fp) [] H b:=λhn b hb=>by
  obtain⟨g0,g1,g2,g3,g4,g5⟩:=f2 b hb;refine⟨hn b hb,zT (vK (Ep b hb)),λz=>?_,.inl hb,λx c e=>g4 x c (AB x c e),λp hp=>absurd (show p∈([]:List (Ç×æ)) from hp) (by simp)⟩;rcases zp.mp (I2.stkSub b z) with q | q
  .exact g1 q
  .exact g2 q
 have loop:∀s:Å,s={ s2 with heap:=An,toks:=s2.toks+([]:List (È×Ä)).length }->
   ĉ (Ì X.prog X.w) X.A (.compLoop (.ListComp elt [⟨tg,iter,ifs,0⟩] scope pos) 0 (.ref it) (.ref s2.heap.objs.size) (compEnvC scope cs (s2.heap.objs.size+1) X.env)) (RR (.ref s2.heap.objs.size) (s2.heap.objs.size+1)) s:=by
  rintro s rfl
  refine nS (λn s=>∃i hY H ρ' hG hh,Inv (wa X scope cs (s2.heap.objs.size+1) N' s2 H2 fp) [] hY H s/\tn i s.heap/\(∀b∈fp,H b=Á)/\HR X.K cl hG H hh/\ER X.K hG H ρ' hY/\Ext μ H2 hG H/\nl<=ρ'.length/\hG[h.length]?=À s2.heap.objs.size /\
   uu src nl g t m h.length n i ρ' hh=À h') ?_ k0 ?_
  .rintro n s ⟨i,hY,H,ρ',hG,hh,I,st,fr,R,LQ,E',hl,hm,e⟩
   cases n with
   | zero=>cases e
   | succ n=>
    unfold uu at e;obtain⟨jg,js⟩:=j hG H hh E' R i;cases es:ut src i hh with
    | none=>rw[es] at e;cases e
    | some o=>
     rw[es] at e;cases o with
     | none=>
      cases e;refine kq (T.done (wa X scope cs (s2.heap.objs.size+1) N' s2 H2 fp) rfl rfl rfl hc i [] s hY H _ I (GO fr) st (js es)) ?_;rintro r s1 ⟨hr,I1⟩;subst hr;obtain⟨m1,Hw,_⟩:=I1.loc;refine LP _ _ s1 H hG m1 (zT (qi _)) Hw ?_ I1.free (jZ _) E' R hm;exact I2.call' I1.os I1.base I1.hok I1.bare λb hb=>⟨(f2 b hb).2.2.2.1,(f2 b hb).2.1,(f2 b hb).2.2.2.2.1,(f2 b hb).2.2.2.2.2⟩
     | some w=>
      obtain⟨go,yl⟩:=jg w es;simp only at e;cases e1:g w ρ' hh with
      | none=>rw[e1] at e;cases e
      | some p=>
       obtain⟨r9,h1⟩:=p;rw[e1] at e;simp only at e;refine kq (T.item (wa X scope cs (s2.heap.objs.size+1) N' s2 H2 fp) rfl rfl rfl hc i [] s hY H _ I (GO fr) st go) ?_;rintro r s1 ⟨u,hr,q1⟩;subst hr;refine kq q1 ?_;rintro _ s5 ⟨x,H5,I5,r5,y5,Ed,Gn⟩;obtain⟨E5,R5,rx⟩:=yl x H5 y5;have Ff:=I5.pinned (GO Gn) (T.obj _ _ Ed);refine kq (hg cs _ s2 H2 fp _ s5 hY H5 x u (λDN H6=>∃DS,Ext hG H5 DS H6/\HR X.K cl DS H6 h1/\ER X.K DS H6 r9 DN) Ff r5 ⟨hG,hh,ρ',w,r9,h1,R5,LQ.ext R E5,rx,e1,λDS H6 DN E6 R6 EQ=>⟨DS,E6,R6,EQ⟩⟩) ?_;rintro _ s6 ⟨DN,H6,I6,DS,E6,R6,EQ⟩;have LR:nl<=r9.length:=by
        rw[EQ.len,I6.len];show nl<=N'.length
        rw[ok.len];omega
       have LS:Ext μ H2 DS H6:=E'.trans (E5.trans E6);have fin:∀{s9:Å} {H9:Hp} {F3:List Ç} {h9:MH},Inv (wa X scope cs (s2.heap.objs.size+1) N' s2 H2 fp) ([]++fL fp s5.heap) DN H9 s9->Ext DS H6 F3 H9->HR X.K cl F3 H9 h9->uu src nl g t m h.length n (i+1) (ML.blank nl r9) h9=À h'->
         ∃k,k<n+1/\∃i hY H ρ' hG hh,Inv (wa X scope cs (s2.heap.objs.size+1) N' s2 H2 fp) [] hY H s9/\tn i s9.heap/\(∀b∈fp,H b=Á)/\HR X.K cl hG H hh/\ER X.K hG H ρ' hY/\Ext μ H2 hG H/\nl<=ρ'.length/\hG[h.length]?=À s2.heap.objs.size/\uu src nl g t m h.length k i ρ' hh=À h':=by
        intro s9 H9 F3 h9 I9 E9 R9 e9;refine⟨n,qi n,i+1,DN,H9,ML.blank nl r9,F3,h9,I9.unpinned,T.keep _ _ _ Ed λb hb o e=>(I9.pin (b,o) (kh _ (kh _ (aS hb e)))).1,λb hb=>?_,R9,(EQ.ext R6 E9).blank LR,LS.trans E9,?_,E9.get (E6.get (E5.get hm)),e9⟩
        .obtain⟨o,e,d⟩:=T.obj _ _ Ed b hb
         exact(I9.pin (b,o) (kh _ (kh _ (aS hb e)))).2.1
        .unfold ML.blank;simp
       cases e2:t r9 h1 with
       | none=>rw[e2] at e;cases e
       | some p2=>
        obtain⟨bb,h2⟩:=p2;rw[e2] at e;refine kq (ht cs _ s2 H2 fp _ s6 DN H6 (λb' H7=>b'=bb/\∃Er,Ext DS H6 Er H7/\HR X.K cl Er H7 h2) I6 ⟨DS,h1,r9,bb,h2,R6,EQ,e2,λEr H7 E7 R7=>⟨rfl,Er,E7,R7⟩⟩) ?_;rintro b' s7 ⟨H7,I7,Es,Er,E7,R7⟩;subst Es;cases b' with
        | false=>
         rw[kY zO];exact fin I7 E7 R7 e
        | true=>
         rw[zW rfl];simp only at e;cases e3:m r9 h2 with
         | none=>rw[e3] at e;cases e
         | some p3=>
          obtain⟨y,h3⟩:=p3;rw[e3] at e;simp only at e;refine kq (he cs _ s2 H2 fp _ s7 DN H7 (λv H8=>∃Et,Ext Er H7 Et H8/\HR X.K cl Et H8 h3/\RW X.K Et H8 y v) I7 ⟨Er,h2,r9,y,h3,R7,EQ.ext R6 E7,e3,λEt H8 v E8 R8 r8=>⟨Et,E8,R8,r8⟩⟩) ?_;rintro xv s8 ⟨v,H8,I8,rv,Et,E8,R8,r8⟩;split at e
          .rename_i acc ho
           split at e
           .rename_i Ap
            have F4:Et[h.length]?=À s2.heap.objs.size:=E8.get (E7.get (E6.get (E5.get hm)));obtain⟨vs,hv,ra⟩:=R8.ob _ _ _ F4 ho;refine kq (mH (X:=wa X scope cs (s2.heap.objs.size+1) N' s2 H2 fp) _ s8 DN H8 (.ref s2.heap.objs.size) [v] (.ref s2.heap.objs.size) [xv] (λ_ H9=>H9=upd H8 s2.heap.objs.size (.lst (vs++[v]))) I8 rfl (.cons rv .nil) ⟨_,vs,v,rfl,rfl,hv,zN (by rw[<-ra.length];exact Ap) xy,rfl⟩) ?_;rintro _ s9 ⟨_,H9,I9,_,LU⟩;subst LU;exact fin I9 (E7.trans (E8.trans (.put F4))) (R8.put (o:=.lst (acc++[y])) F4 ⟨vs++[v],va,(ra.append (.cons r8 .nil)).ext R8 (.put F4)⟩) e
           .cases e
          .cases e
  .have R3:HR X.K cl (μ++[s2.heap.objs.size]) (upd H2 s2.heap.objs.size (.lst [])) (h++[.lst []]):=R2.new GN ⟨[],va,.nil⟩
   exact⟨0,σC nl ks σ,_,ρC nl ks ρ,_,_,I3,Fe,FU,R3,(Dp er).ext R2 (.new GN),.new GN,by unfold ρC;simp,by rw[<-R2.len];simp,e⟩
 exact codeAny_compStart_list (loop _ rfl) (T.self _ 0 _ _ _ Fe (loop _ rfl))
def gM{pos:õ}{H:Hp}{h1:MH}
  (hc:X.calm=Ã) (Ag:X.env.scope=sc) (hN:X.N=N) (ok:CompOk sc N scope N' nl ks) (hi:SI X cl tg iter mi)
  (hg:∀cs C s₀ H₀ ex,SG (wa X scope cs C N' s₀ H₀ ex) cl tg g) (ht:∀cs C s₀ H₀ ex,fv (wa X scope cs C N' s₀ H₀ ex) cl ifs t) (he:∀cs C s₀ H₀ ex,SE (wa X scope cs C N' s₀ H₀ ex) cl elt m)
  (I:Inv X ag σ H s) (R:HR X.K cl μ H h) (er:ER X.K μ H ρ σ) (e:eF mi nl ks g t m ρ h=À (n0,h1,h2)) (hs:∀x,ß iter X.env x=pure x)
  (k:∀D C s' H' hG m' s2 H1 cx,D≠C->s'.heap.Ns C m'->Inv X ag σ H' s'->H' C=Á->X.env.locals≠C->(∀x c,X.env.cells.lookup x=À c->c≠C)->(X.s₀.heap.objs.size<=C)->(∀p∈X.pn++ag,p.1≠C)->Inv X ag σ H1 s2->Ext μ H cx H1->HR X.K cl cx H1 h1->Ext cx H1 hG H'->HR X.K cl hG H' h2->h1.length=n0->hG[n0]?=À D->
   compPost (Ì X.prog X.w) X.A X.xe use Q (.ref D) C (.ok .next) s') :
  Ê (Ì X.prog X.w) X.A (comprehension (.ListComp elt [⟨tg,iter,ifs,0⟩] scope pos) scope X.env p2 (newList []) Â (eval iter X.env) use) Q X.xe s:=by
 subst Ag;have Ax:∀y∈scope.names,y.2=.free->∃c,X.env.cells.lookup y.1=À c:=λy hy e=>I.ok.has y.1 (fx (ok.fall y hy e))
 obtain⟨cs,FC,AB,Am⟩:=mS Ax;have key:∀{src:Src} {k0:Nat},mi ρ h=À (src,h1)->uu src nl g t m h1.length k0 0 (ρC nl ks ρ) (h1++[.lst []])=À h2->n0=h1.length->
   Ê (Ì X.prog X.w) X.A (comprehension (.ListComp elt [⟨tg,iter,ifs,0⟩] scope pos) scope X.env p2 (newList []) Â (eval iter X.env) use) Q X.xe s:=by
  intro src k0 e1 e2 GP;subst GP;refine wpAny_comprehension_free (use:=use) rfl hs FC ok.kind ok.names ?_;refine kq (hi ag s σ H (λJ H1=>∃cx,Ext μ H cx H1/\HR X.K cl cx H1 h1/\JR X.K cl J src cx H1) I ⟨μ,h,ρ,src,h1,R,er,e1,λcx H1 J E1 R1 j=>⟨cx,E1,R1,j⟩⟩) λv s1 q1=>kq q1 λGm s2 q2=>?_
  obtain⟨it,fp,tn,J,H2,rfl,I2,T,A7,f2,hX,E2,R2,j⟩:=q2;refine K1 (RR:=λacc C=>compPost (Ì X.prog X.w) X.A X.xe use Q acc C) hc rfl hN ok hg ht he I2 T A7 f2 AB Am R2 (er.ext R E2) j e2 ?_;intro D C s' H' hG m' F5 Af I' Eu hC E' R' hm;refine k D C s' H' hG m' s2 H2 hX F5 Af I' Eu (zT (zN I2.lt hC)) (λx c e z=>?_) (zG I2.sz hC) (λp hp z=>?_) I2 E2 R2 E' R' rfl hm
  .obtain⟨v,o,ho,_⟩:=I2.cell x c e
   exact absurd (zN (zz ho) (z▸hC)) (jP _)
  .exact absurd (zN (zz (I2.pin p hp).1) (z▸hC)) (jP _)
 unfold eF at e;split at e
 .cases e
 .rename_i l LV e1
  split at e
  .rename_i GQ e2
   cases e;have q:=dE (nl:=nl) (g:=g) (t:=t) (m:=m) (n0:=h1.length) l (l.length+1) 0 (ρC nl ks ρ) (h1++[.lst []]) ∅ ∅;rw[yK] at q;exact key e1 (q.trans e2) rfl
  .cases e
 .rename_i n LV e1
  split at e
  .rename_i GQ e2
   cases e;exact key e1 e2 rfl
  .cases e
def QP(sc:Þ)(N N':List È)(nl:Nat)(ks:List Nat){pos:õ}(hc:X.calm=Ã)(ok:uC sc N scope N' nl ks=Ã)(hi:SI X cl tg iter mi)
  (hg:∀cs C s₀ H₀ ex,SG (wa X scope cs C N' s₀ H₀ ex) cl tg g) (ht:∀cs C s₀ H₀ ex,fv (wa X scope cs C N' s₀ H₀ ex) cl ifs t) (he:∀cs C s₀ H₀ ex,SE (wa X scope cs C N' s₀ H₀ ex) cl elt m)
  (Ag:↥(X.env.scope=sc)) (hN:↥(X.N=N)) (hs:∀x,ß iter X.env x=pure x:=by intro _;rfl):SE X cl (.ListComp elt [⟨tg,iter,ifs,0⟩] scope pos) (fO mi nl ks g t m):=by
 rintro ag s σ H Q I ⟨μ,h,ρ,w,h',R,er,e,k⟩;unfold fO at e;split at e
 .rename_i n0 h1 h2 e1
  cases e;rw[eval_ListComp];refine gM (use:=Á) hc Ag hN (ah ok) hi hg ht he I R er e1 hs λD C s' H' hG m' s2 H1 cx F5 Af I' Eu hL AR FD DR I2 E1 R1 E' R' hn hm=>?_
  exact⟨m',Af,λLW FE=>⟨.ref D,H',I'.turned (t':=s'.toks) (λb o hb e=>(FE.2 b hb).trans e) Eu (kZ hL) (.inr FD) AR DR,rfl,k hG H' _ (E1.trans E') R' (.ref hm)⟩⟩
 .cases e
def iL{K:NT}{μ cx hG:List Ç}{H H1 H':Hp}{h1 h2:MH}(k:KQ K cl μ H h1 (.fls l) Q)(E1:Ext μ H cx H1)(R1:HR K cl cx H1 h1)(E':Ext cx H1 hG H')(R':HR K cl hG H' h2)(hn:h1.length=n0)(hm:hG[n0]?=À D)
  (ho:h2[n0]?=À (.lst l)) (pre:h1<+:h2) (lo:lows h1.length l=Ã):Q (.ref D) H':=by
 obtain⟨vs,hv,rv⟩:=R'.ob _ _ _ hm ho;have cut:Ext cx H1 cx H':=⟨kW _,λb o e n=>⟨(E'.fr b o e n).1,n⟩⟩;refine k cx H' _ (E1.trans cut) (R1.cut E' R' pre) (.fls (.inl ⟨.inl hv,λz=>?_⟩) (RWs.cut E'.pre (by rw[R1.len];exact lo) rv));obtain⟨q,hq⟩:=vZ.mp z;have h3:=E'.get hq;have Ap:q<cx.length:=(zJ.mp hq).1;obtain⟨z1,z2⟩:=zJ.mp h3;obtain⟨z3,z4⟩:=zJ.mp hm;have:q=n0:=(vQ R'.nd).mp (z2.trans z4.symm);subst this;rw[R1.len] at Ap;omega
def Yi(sc:Þ)(N N':List È)(nl:Nat)(ks:List Nat){pos:õ}(hc:X.calm=Ã)(ok:uC sc N scope N' nl ks=Ã)(hi:SI X cl tg iter mi)
  (hg:∀cs C s₀ H₀ ex,SG (wa X scope cs C N' s₀ H₀ ex) cl tg g) (ht:∀cs C s₀ H₀ ex,fv (wa X scope cs C N' s₀ H₀ ex) cl ifs t) (he:∀cs C s₀ H₀ ex,SE (wa X scope cs C N' s₀ H₀ ex) cl elt m)
  (Ag:↥(X.env.scope=sc)) (hN:↥(X.N=N)) (hs:∀x,ß iter X.env x=pure x:=by intro _;rfl):SE X cl (.ListComp elt [⟨tg,iter,ifs,0⟩] scope pos) (yk mi nl ks g t m):=by
 rintro ag s σ H Q I ⟨μ,h,ρ,w,h',R,er,e,k⟩;unfold yk at e;split at e
 .rename_i n0 h1 h2 e1
  split at e
  .rename_i l ho
   split at e
   .rename_i c
    cases e;rw[eval_ListComp];refine gM (use:=Á) hc Ag hN (ah ok) hi hg ht he I R er e1 hs λD C s' H' hG m' s2 H1 cx F5 Af I' Eu hL AR FD DR I2 E1 R1 E' R' hn hm=>?_
    exact⟨m',Af,λLW FE=>⟨.ref D,H',I'.turned (t':=s'.toks) (λb o hb e=>(FE.2 b hb).trans e) Eu (kZ hL) (.inr FD) AR DR,rfl,iL k E1 R1 E' R' hn hm ho c.1 c.2⟩⟩
   .cases e
  .cases e
 .cases e
def iM{pos AI:õ}{H:Hp}{h1:MH}{D:Ends}
  (AM:X.N.Nodup) (A5:X.N[i]?=À x) (hx:X.env.kindOf x=À .local) (A0:ç (.ListComp elt [⟨tg,iter,ifs,0⟩] scope pos) (À (.Name x px)) AI.line X.env=pure Ã)
  (hc:X.calm=Ã) (Ag:X.env.scope=sc) (hN:X.N=N) (ok:CompOk sc N scope N' nl ks) (hi:SI X cl tg iter mi)
  (hg:∀cs C s₀ H₀ ex,SG (wa X scope cs C N' s₀ H₀ ex) cl tg g) (ht:∀cs C s₀ H₀ ex,fv (wa X scope cs C N' s₀ H₀ ex) cl ifs t) (he:∀cs C s₀ H₀ ex,SE (wa X scope cs C N' s₀ H₀ ex) cl elt m)
  (I:Inv X ag σ H s) (R:HR X.K cl μ H h) (er:ER X.K μ H ρ σ) (e:eF mi nl ks g t m ρ h=À (n0,h1,h2)) (hs:∀x,ß iter X.env x=pure x)
  (k:∀A H' hG H1 cx,Ext μ H cx H1->HR X.K cl cx H1 h1->Ext cx H1 hG H'->HR X.K cl hG H' h2->h1.length=n0->hG[n0]?=À A->D.nx (σ.set i (À (.ref A))) H') :
  Ê (Ì X.prog X.w) X.A (exec (.Assign [.Name x px] (.ListComp elt [⟨tg,iter,ifs,0⟩] scope pos) AI) X.env) (SP X ag D) X.xe s:=by
 rw[exec_Assign_Name_used _ _ _ _ A0];refine za (yr (za ?_));show Ê _ X.A (do let _ <-comprehension (.ListComp elt [⟨tg,iter,ifs,0⟩] scope pos) scope X.env _ (newList []) Â (eval iter X.env) (À (assign (.Name x px) X.env))) _ _ s
 refine za (jK (gM (use:=À (assign (.Name x px) X.env)) (Q:=λ_ s'=>SP X ag D .next s') hc Ag hN ok hi hg ht he I R er e hs ?_) (λ_ s' hq=>zy (zy hq)) λ_ _ e=>e);intro A C s' H' hG m' s2 H1 cx F5 Af I' Eu hL AR FD DR I2 E1 R1 E' R' hn hm;show Ê _ X.A (assign (.Name x px) X.env (.ref A)) _ _ _
 refine Ś (lY (v:=.ref A) I' AM A5 (.inl hx) rfl (λFg LX FE=>?_) (.inr hx));obtain⟨a,sb,ha⟩:=FE;have LY:C≠a:=by
  rcases ha with rfl | ha
  .exact kZ hL
  .exact λz=>AR x a ha z.symm
 refine⟨m',Af.sameBut sb LY,λh3 LZ=>⟨_,H',LX.turned (t':=Fg.toks) (λb o hb e=>(LZ.2 b hb).trans e) Eu (kZ hL) (.inr FD) AR DR,k A H' hG H1 cx E1 R1 E' R' hn hm⟩⟩
def J9(i:Nat)(sc:Þ)(N N':List È)(nl:Nat)(ks:List Nat){pos AI:õ}(AM:X.N.Nodup)(hc:X.calm=Ã)(ok:uC sc N scope N' nl ks=Ã)(hi:SI X cl tg iter mi)
  (hg:∀cs C s₀ H₀ ex,SG (wa X scope cs C N' s₀ H₀ ex) cl tg g) (ht:∀cs C s₀ H₀ ex,fv (wa X scope cs C N' s₀ H₀ ex) cl ifs t) (he:∀cs C s₀ H₀ ex,SE (wa X scope cs C N' s₀ H₀ ex) cl elt m)
  (Ag:↥(X.env.scope=sc)) (hN:↥(X.N=N)) (hs:∀x,ß iter X.env x=pure x:=by intro _;rfl) (A5:↥(X.N[i]?=À x)) (hx:↥(X.env.kindOf x=À .local))
  (A0:↥(ç (.ListComp elt [⟨tg,iter,ifs,0⟩] scope pos) (À (.Name x px)) AI.line X.env=pure Ã)):SS X cl (.Assign [.Name x px] (.ListComp elt [⟨tg,iter,ifs,0⟩] scope pos) AI) (zS (fO mi nl ks g t m) (zD i)):=by
 rintro ag s σ H D I ⟨μ,h,ρ,fl,h',R,er,e,k⟩;unfold zS at e;split at e
 .rename_i w h2 e1
  split at e
  .rename_i xI h3 e2
   cases e;unfold fO at e1;split at e1
   .rename_i n0 h1 GQ e0
    cases e1;unfold zD at e2;split at e2
    .rename_i Ei
     cases e2;exact iM AM A5 hx A0 hc Ag hN (ah ok) hi hg ht he I R er e0 hs λA H' hG H1 cx E1 R1 E' R' hn hm=>k hG H' (E1.trans E') R' _ ((er.ext R (E1.trans E')).set Ei (.ref hm))
    .cases e2
   .cases e1
  .cases e
 .cases e
def Yo(i:Nat)(sc:Þ)(N N':List È)(nl:Nat)(ks:List Nat){elt tg iter:Ë}{ifs:List Ë}{scope:Þ}{pos AI px:õ}{x:È}(AM:X.N.Nodup)(hc:X.calm=Ã)(ok:uC sc N scope N' nl ks=Ã)(hi:SI X cl tg iter mi)
  (hg:∀cs C s₀ H₀ ex,SG (wa X scope cs C N' s₀ H₀ ex) cl tg g) (ht:∀cs C s₀ H₀ ex,fv (wa X scope cs C N' s₀ H₀ ex) cl ifs t) (he:∀cs C s₀ H₀ ex,SE (wa X scope cs C N' s₀ H₀ ex) cl elt m)
  (Ag:↥(X.env.scope=sc)) (hN:↥(X.N=N)) (hs:∀x,ß iter X.env x=pure x:=by intro _;rfl) (A5:↥(X.N[i]?=À x)) (hx:↥(X.env.kindOf x=À .local))
  (A0:↥(ç (.ListComp elt [⟨tg,iter,ifs,0⟩] scope pos) (À (.Name x px)) AI.line X.env=pure Ã)):SS X cl (.Assign [.Name x px] (.ListComp elt [⟨tg,iter,ifs,0⟩] scope pos) AI) (zS (yk mi nl ks g t m) (zD i)):=by
 rintro ag s σ H D I ⟨μ,h,ρ,fl,h',R,er,e,k⟩;unfold zS at e;split at e
 .rename_i w h2 e1
  split at e
  .rename_i xI h3 e2
   cases e;unfold yk at e1;split at e1
   .rename_i n0 h1 GQ e0
    split at e1
    .rename_i l ho
     split at e1
     .rename_i c
      cases e1;unfold zD at e2;split at e2
      .rename_i Ei
       cases e2;refine iM AM A5 hx A0 hc Ag hN (ah ok) hi hg ht he I R er e0 hs λA H' hG H1 cx E1 R1 E' R' hn hm=>?_
       exact iL (Q:=λv H'=>D.nx (σ.set i (À v)) H') (λAC H3 v E3 R3 r3=>k AC H3 E3 R3 _ ((er.ext R E3).set Ei r3)) E1 R1 E' R' hn hm ho c.1 c.2
      .cases e2
     .cases e1
    .cases e1
   .cases e1
  .cases e
 .cases e
end
def iQ{X:Cx}{ag:List (Ç×æ)}{σ:L2.St}{H:Hp}{s:Å}{h':Ï}{t':Nat}{fp:List Ç}(I:Inv X ag σ H s)(k:∀b o,b∉fp->s.heap.get? b=À o->h'.get? b=À o)(hf:∀b∈fp,uN X ag H b) :
  Inv X ag σ H { s with heap:=h',toks:=t' }:=by
 have away:∀b u,H b=À u->b∉fp:=λb u e z=>by rw[(hf b z).1] at e;cases e
 refine I.step (g':=s.gens) (d':=s.drawn) (ch:=fp) (λb hb=>⟨(hf b hb).2.2.2.1,(hf b hb).2.1,(hf b hb).2.2.2.2.1,(hf b hb).2.2.2.2.2⟩) (λb o _ _ hc e _=>k b o hc e) (λb o _ _ hc e _=>⟨o.slots,k b o hc e⟩) (λ_ _ _ _ n=>n)
  (λb o hc e=>⟨o,k b o hc e⟩) (λ_ _ e=>e) (λ_ _ _ e=>e) (λb ps e=>⟨#[],by rw[e];simp⟩) (λm hm=>?_) (λb u e=>?_) I.bare
 .obtain⟨o,es,ep,ho,r⟩:=hm
  exact⟨o,es,ep,k _ o (λz=>(hf _ z).2.1 rfl) ho,r⟩
 .refine(I.hok b u e).stay (λc v hc q=>k c v ?_ q) (λ_ q=>q) λ_ _ q=>q
  rcases hc with z | z
  .rw[z];exact away b u e
  .exact away c _ z
structure Stp(it a:Ç)(P:Nat->Ï->Prop)(C:Ï->List Ä->Prop):Prop where
 keep:∀{i:Nat} {h h':Ï},P i h->(∀o,h.get? it=À o->h'.get? it=À o)->P i h'
 keepC:∀{h h':Ï} {l:List Ä},C h l->(∀o,h.get? a=À o->h'.get? a=À o)->C h' l
 obj:∀{i:Nat} {h:Ï},P i h->∃o,h.get? it=À o/\∀v,o.data≠.cell v
 item:∀{prog:Í} {w:Ð} {A:Ò} {E:Ä->Å->Prop} {s:Å} {i:Nat} {l:List Ä} {x:Ä} {Q:Ä->Å->Prop},P i s.heap->C s.heap l->l[i]?=À x->
  (∀h',P (i+1) h'->ć it s.heap h'->Q x { s with heap:=h' })->Ê (Ì prog w) A (Ó (.ref it)) Q E s
 last:∀{prog:Í} {w:Ð} {A:Ò} {E:Ä->Å->Prop} {s:Å} {i:Nat} {l:List Ä} {Q:Ä->Å->Prop},A.handled=Á->P i s.heap->C s.heap l->l[i]?=Á->
  (∀h' e,Ŀ it s.heap h'->(∃o,h'.get? e=À o/\o.cls=.type "StopIteration")->E (.ref e) { s with heap:=h' })->Ê (Ì prog w) A (Ó (.ref it)) Q E s
def Q4(it a:Ç):Stp it a (λi h=>h.IsListIter it a i) (λh l=>h.IsList a l.toArray) where
 keep:=λp k=>p.at λo e=>k o e
 keepC:=λp k=>p.at λo e=>k o e
 obj:=λ⟨o,e,_,d⟩=>⟨o,e,λv z=>by rw[d] at z;cases z⟩
 item:=λp c e q=>wpAny_nextOf_list_item p c (by simpa using e) q
 last:=λhh p c e q=>wpAny_nextOf_list_end hh p c (by simpa using e) q
section
variable{prog:Í}{w:Ð}{A:Ò}{E:Ä->Å->Prop}{s:Å}
def gw{items:Array Ä}(hit:s.heap.IsTupleIter it t i)(ht:s.heap.IsTuple t items)(hx:items[i]?=À x)
  (hQ:∀h',h'.IsTupleIter it t (i+1)->ć it s.heap h'->Q x { s with heap:=h' }):Ê (Ì prog w) A (Ó (.ref it)) Q E s:=by
 obtain⟨oi,gi,ci,di⟩:=id hit;obtain⟨ot,gt,_,nt,dt⟩:=ht;unfold Ó;refine za (jE (name:=ÿ "__next__") hit.typeIs qJ (j5 qJ hit.typeIs xu ?_ (xj _)));show Ê _ _ (Ū (.ref it) 0 >>= _) _ _ s;refine za (jD gi di (x:=.ref t) rfl ?_)
 show Ê _ _ (if (Ú t==î)=Ã then _ else _) _ _ s;rw[kY (show ¬((Ú t==î)=Ã) from zO)]
 show Ê _ _ (Ū (.ref it) 1 >>= _) _ _ s;refine za (jD gi di (x:=.int i 0) rfl ?_)
 show Ê _ _ (seqItems? (.ref t) >>= _) _ _ s;refine za (jV gt dt ?_)
 erw[wU,hx];refine za (wpAny_setField gi di (by simp) (zy ⟨x,rfl,zy (hQ _ ?_ (yp ..))⟩));exact⟨_,j9 _ gi (Obj.isFreed_of_fields (Œ di _)),(Obj.cls_mapFields ..).trans ci,by rw[Œ di];simp[ī]⟩
def ib{items:Array Ä}(hh:A.handled=Á)(hit:s.heap.IsTupleIter it t i)(ht:s.heap.IsTuple t items)(hx:items[i]?=Á)
  (hE:∀h' e,Ŀ it s.heap h'->(∃o,h'.get? e=À o/\o.cls=.type "StopIteration")->E (.ref e) { s with heap:=h' }):Ê (Ì prog w) A (Ó (.ref it)) Q E s:=by
 obtain⟨oi,gi,ci,di⟩:=id hit;obtain⟨ot,gt,_,nt,dt⟩:=ht;unfold Ó;refine za (jE (name:=ÿ "__next__") hit.typeIs qJ (j5 qJ hit.typeIs xu ?_ (xj _)));show Ê _ _ (Ū (.ref it) 0 >>= _) _ _ s;refine za (jD gi di (x:=.ref t) rfl ?_)
 show Ê _ _ (if (Ú t==î)=Ã then _ else _) _ _ s;rw[kY (show ¬((Ú t==î)=Ã) from zO)]
 show Ê _ _ (Ū (.ref it) 1 >>= _) _ _ s;refine za (jD gi di (x:=.int i 0) rfl ?_)
 show Ê _ _ (seqItems? (.ref t) >>= _) _ _ s;refine za (jV gt dt ?_)
 erw[wU,hx];refine za (qP (za (wpAny_setField gi di (by simp) ?_)));show Ê _ _ (newExc (.type "StopIteration") [] >>= _) _ _ _
 refine za ?_;erw[newExc,newTuple];refine za (jx ?_ (by size_fits));refine za (m:=ŀ _ _) (wj (a:=î) (by first | rfl | (erw[ŀ];rfl)) ?_);refine jx ?_ (by size_fits);erw[raiseNew];refine za (wpAny_handled ?_);first | rw[show A.in1.handled=Á from hh] | rw[hh]
 refine za (zy (xm ?_));exact hE _ _ (((yp ..).extBut.push _).push _) ⟨_,zL _ rfl,rfl⟩
end
def KU(it a:Ç):Stp it a (λi h=>h.IsTupleIter it a i) (λh l=>h.IsTuple a l.toArray) where
 keep:=λp k=>p.at λo e=>k o e
 keepC:=λp k=>p.at λo e=>k o e
 obj:=λ⟨o,e,_,d⟩=>⟨o,e,λv z=>by rw[d] at z;cases z⟩
 item:=λp c e q=>gw p c (by simpa using e) q
 last:=λhh p c e q=>ib hh p c (by simpa using e) q
structure ZApart(z TI TO i1 i2 a1 a2:Ç):Prop where
 nd:[z,TI,TO,i1,i2].Nodup
 f1:a1∉[z,TI,TO,i1,i2]
 f2:a2∉[z,TI,TO,i1,i2]
noncomputable def Wd(z TI TO i1 i2:Ç)(P1 P2:Nat->Ï->Prop)(f0:Ä)(k1 k2:Nat)(h:Ï):Prop:=ť h z TI TO f0/\İ h TI (.ref i1) (.ref i2)/\(∃a b,İ h TO a b)/\P1 k1 h/\P2 k2 h
section
variable{prog:Í}{w:Ð}{A:Ò}{E:Ä->Å->Prop}{s:Å}{z TI TO i1 i2 a1 a2:Ç}{P1 P2:Nat->Ï->Prop}{C1 C2:Ï->List Ä->Prop}
def QQ(S1:Stp i1 a1 P1 C1)(S2:Stp i2 a2 P2 C2)(D:ZApart z TI TO i1 i2 a1 a2){l1 l2:List Ä}(st:Wd z TI TO i1 i2 P1 P2 .none k k s.heap)(c1:C1 s.heap l1)(c2:C2 s.heap l2)(hx:l1[k]?=À x)(hy:l2[k]?=À y)
  (hQ:∀h',Wd z TI TO i1 i2 P1 P2 (ī s.heap.objs.size) (k+1) (k+1) h'->h'.get? s.heap.objs.size=À { cls:=.type "tuple",data:=.seq #[x,y] }->(∀c o,c∉[z,TI,TO,i1,i2]->s.heap.get? c=À o->h'.get? c=À o)->Q (À (.ref s.heap.objs.size)) { s with heap:=h' }) :
  Ê (Ì prog w) A (ė (.ref z)) Q E s:=by
 obtain⟨hz,DT,⟨a,b,D1⟩,p1,p2⟩:=st;have n:=D.nd;erw[jy,zp,zm,zU,wF] at n;obtain⟨⟨n1,n2,n3,n4⟩,⟨n5,n6,n7⟩,⟨n8,n9⟩,F6,_⟩:=n;have g1:=D.f1;have g2:=D.f2;erw[zp,zm,zU,wF] at g1 g2;obtain⟨GR,L4,L7,L8,L9⟩:=g1;obtain⟨GS,Ma,GT,GU,Mb⟩:=g2;have hT:s.TypeIs (.ref z) "zip":=⟨_,hz,rfl⟩;unfold ė;refine za (qR (jE (name:=ÿ "__next__") hT wK (j5 wK hT F.entry_zip_next ?_ (F.args_zip_next_1 _))));show Ê _ _ (Ū (.ref z) 2 >>= _) _ _ _;refine za (jD hz rfl (x:=.bool Â) rfl ?_)
 show Ê _ _ (Ū (.ref z) 3 >>= _) _ _ _;refine za (jD hz rfl (x:=.ref TI) rfl ?_)
 refine za (jV DT rfl ?_);show Ê _ _ (â (.ref z) >>= _) _ _ _
 refine za ?_;unfold â;refine za (jD hz rfl (x:=.none) rfl (zy ?_));erw[jn];refine za (qP ?_);refine za (jD hz rfl (x:=.ref TO) rfl ?_);refine za (qz hz (by simp) λh1 q1 e1=>?_);replace q1:ť h1 z TI TO .ellipsis:=q1;refine za ?_;erw[List.zipIdx_cons,List.zipIdx_nil,v8,List.forIn_nil];refine za (za (yu ?_));show Ê _ _ (Ó (.ref i1) >>= _) _ _ _
 refine za (S1.item (S1.keep p1 λo e=>e1.extBut _ _ (kZ n3) e) (S1.keepC c1 λo e=>e1.extBut _ _ GR e) hx λh2 r1 e2=>zy ?_);have t2:İ h2 TO a b:=e2.extBut _ _ n8 (e1.extBut _ _ (kZ n2) D1);refine za (jV t2 rfl ?_);refine za (wO t2 λh3 t3 e3=>?_);replace t3:İ h3 TO x b:=t3
 refine za (xn (zy ?_));refine za (za (yu ?_));show Ê _ _ (Ó (.ref i2) >>= _) _ _ _
 refine za (S2.item (S2.keep p2 λo e=>e3.extBut _ _ (kZ n9) (e2.extBut _ _ (kZ F6) (e1.extBut _ _ (kZ n4) e))) (S2.keepC c2 λo e=>e3.extBut _ _ GT (e2.extBut _ _ GU (e1.extBut _ _ GS e))) hy λh4 r2 e4=>zy ?_);have t4:İ h4 TO x b:=e4.extBut _ _ n9 t3;refine za (jV t4 rfl ?_);refine za (wO t4 λh5 t5 e5=>?_);replace t5:İ h5 TO x y:=t5
 refine za (xn (zy (zy ?_)));refine za (jV t5 rfl ?_);refine za (wpAny_newTuple ?_);have sz:h5.objs.size=s.heap.objs.size:=by rw[e5.1,e4.1,e3.1,e2.1,e1.1]
 have all:∀c o,c∉[z,TI,TO,i1,i2]->s.heap.get? c=À o->h5.get? c=À o:=λc o hc e=>by
  erw[zp,zm,zU,wF] at hc;exact e5.extBut _ _ hc.2.2.1 (e4.extBut _ _ hc.2.2.2.2 (e3.extBut _ _ hc.2.2.1 (e2.extBut _ _ hc.2.2.2.1 (e1.extBut _ _ hc.1 e))))
 have z5:ť h5 z TI TO .ellipsis:=e5.extBut _ _ n2 (e4.extBut _ _ n4 (e3.extBut _ _ n2 (e2.extBut _ _ n3 q1)));have Mc:İ h5 TI (.ref i1) (.ref i2):=e5.extBut _ _ n5 (e4.extBut _ _ n7 (e3.extBut _ _ n5 (e2.extBut _ _ n6 (e1.extBut _ _ (kZ n1) DT))));have u1:P1 (k+1) h5:=S1.keep r1 λo e=>e5.extBut _ _ (kZ n8) (e4.extBut _ _ F6 (e3.extBut _ _ (kZ n8) e))
 have u2:P2 (k+1) h5:=S2.keep r2 λo e=>e5.extBut _ _ (kZ n9) e
 have F7:z<h5.objs.size:=zz z5;show Ê _ _ (ā (.ref z) (.ref h5.objs.size) >>= _) _ _ _
 refine za ?_;unfold ā;have z6:ť (h5.push { cls:=.type "tuple",data:=.seq #[x,y] }) z TI TO .ellipsis:=zg _ z5;refine za (qz z6 (by simp) λh7 z7 e7=>?_);replace z7:ť h7 z TI TO (ī h5.objs.size):=z7;refine qz z7 (by simp) λh8 z8 e8=>?_
 replace z8:ť h8 z TI TO (ī h5.objs.size):=z8
 have up:∀c o,c≠z->h5.get? c=À o->h8.get? c=À o:=λc o c1 e=>e8.extBut _ _ c1 (e7.extBut _ _ c1 (zg _ e))
 have t8:h8.get? h5.objs.size=À { cls:=.type "tuple",data:=.seq #[x,y] }:=e8.extBut _ _ (qI F7) (e7.extBut _ _ (qI F7) (zL _ rfl));rw[sz] at z8 t8;refine zy ⟨_,rfl,zy ?_⟩;show Q (À (.ref h5.objs.size)) _
 rw[sz];exact hQ h8 ⟨z8,up _ _ (kZ n1) Mc,⟨x,y,up _ _ (kZ n2) t5⟩,S1.keep u1 λo e=>up _ o (kZ n3) e,S2.keep u2 λo e=>up _ o (kZ n4) e⟩ t8 λc o hc e=>up c o (λq=>hc (by simp[q])) (all c o hc e)
def JP(S1:Stp i1 a1 P1 C1)(S2:Stp i2 a2 P2 C2)(D:ZApart z TI TO i1 i2 a1 a2){l1 l2:List Ä}(hh:A.handled=Á)(st:Wd z TI TO i1 i2 P1 P2 .none k k s.heap)(c1:C1 s.heap l1)(c2:C2 s.heap l2)(he:l1[k]?=Á\/l2[k]?=Á)
  (hQ:∀h',(∀c o,c∉[z,TI,TO,i1,i2]->s.heap.get? c=À o->h'.get? c=À o)->Q Á { s with heap:=h' }):Ê (Ì prog w) A (ė (.ref z)) Q E s:=by
 obtain⟨hz,DT,⟨a,b,D1⟩,p1,p2⟩:=st;have n:=D.nd;erw[jy,zp,zm,zU,wF] at n;obtain⟨⟨n1,n2,n3,n4⟩,⟨n5,n6,n7⟩,⟨n8,n9⟩,F6,_⟩:=n;have g1:=D.f1;have g2:=D.f2;erw[zp,zm,zU,wF] at g1 g2;obtain⟨GR,L4,L7,L8,L9⟩:=g1;obtain⟨GS,Ma,GT,GU,Mb⟩:=g2;have hT:s.TypeIs (.ref z) "zip":=⟨_,hz,rfl⟩;have stop:∀{h':Ï} {e:Ç},(∃o,h'.get? e=À o/\o.cls=.type "StopIteration")->(∀c o,c∉[z,TI,TO,i1,i2]->s.heap.get? c=À o->h'.get? c=À o)->
   Ê (Ì prog w) A (Ž (.ref e) (.type "StopIteration") >>= λx=>if x=Ã then pure Á else throw (.ref e)) Q E { s with heap:=h' }:=λ{h' e} ⟨o,ho,hc⟩ kk=>
  za (vo (T:="StopIteration") (b:=Ã) ⟨o,ho,hc⟩ isSubtype_stop (zy (hQ _ kk)))
 unfold ė;refine za (qR (jE (name:=ÿ "__next__") hT wK (j5 wK hT F.entry_zip_next ?_ (F.args_zip_next_1 _))));show Ê _ _ (Ū (.ref z) 2 >>= _) _ _ _;refine za (jD hz rfl (x:=.bool Â) rfl ?_)
 show Ê _ _ (Ū (.ref z) 3 >>= _) _ _ _;refine za (jD hz rfl (x:=.ref TI) rfl ?_)
 refine za (jV DT rfl ?_);show Ê _ _ (â (.ref z) >>= _) _ _ _
 refine za ?_;unfold â;refine za (jD hz rfl (x:=.none) rfl (zy ?_));erw[jn];refine za (qP ?_);refine za (jD hz rfl (x:=.ref TO) rfl ?_);refine za (qz hz (by simp) λh1 q1 e1=>?_);replace q1:ť h1 z TI TO .ellipsis:=q1;refine za ?_;erw[List.zipIdx_cons,List.zipIdx_nil,v8,List.forIn_nil];refine za (za (yu ?_));show Ê _ _ (Ó (.ref i1) >>= _) _ _ _
 have HG:=S1.keep (h':=h1) p1 λo e=>e1.extBut _ _ (kZ n3) e
 have F8:=S1.keepC (h':=h1) c1 λo e=>e1.extBut _ _ GR e
 cases hx:l1[k]? with
 | none=>
  refine za (S1.last hh HG F8 hx ?_);rintro h2 e e2 ⟨oe,ge,ce⟩;have z2:ť h2 z TI TO .ellipsis:=e2 _ _ n3 q1;have ne:e≠z:=λq=>by subst q;rw[z2] at ge;cases ge;simp at ce
  refine qz z2 (by simp) λh3 _ e3=>?_
  refine stop ⟨oe,e3.extBut _ _ ne ge,ce⟩ λc o hc g=>?_
  erw[zp,zm,zU,wF] at hc;exact e3.extBut _ _ hc.1 (e2 _ _ hc.2.2.2.1 (e1.extBut _ _ hc.1 g))
 | some x=>
  have hy:l2[k]?=Á:=by rcases he with h | h;rw[hx] at h;cases h;exact h
  refine za (S1.item HG F8 hx λh2 r1 e2=>zy ?_);have t2:İ h2 TO a b:=e2.extBut _ _ n8 (e1.extBut _ _ (kZ n2) D1);refine za (jV t2 rfl ?_);refine za (wO t2 λh3 t3 e3=>?_);refine za (xn (zy ?_));refine za (za (yu ?_));show Ê _ _ (Ó (.ref i2) >>= _) _ _ _
  refine za (S2.last hh (S2.keep p2 λo e=>e3.extBut _ _ (kZ n9) (e2.extBut _ _ (kZ F6) (e1.extBut _ _ (kZ n4) e))) (S2.keepC c2 λo e=>e3.extBut _ _ GT (e2.extBut _ _ GU (e1.extBut _ _ GS e))) hy ?_);rintro h4 e e4 ⟨oe,ge,ce⟩;have z4:ť h4 z TI TO .ellipsis:=e4 _ _ n4 (e3.extBut _ _ n2 (e2.extBut _ _ n3 q1));have ne:e≠z:=λq=>by subst q;rw[z4] at ge;cases ge;simp at ce
  refine qz z4 (by simp) λh5 _ e5=>?_
  refine stop ⟨oe,e5.extBut _ _ ne ge,ce⟩ λc o hc g=>?_
  erw[zp,zm,zU,wF] at hc;exact e5.extBut _ _ hc.1 (e4 _ _ hc.2.2.2.2 (e3.extBut _ _ hc.2.2.1 (e2.extBut _ _ hc.2.2.2.1 (e1.extBut _ _ hc.1 g))))
end
noncomputable def i3(v:Ä)(o:æ)(C:Ï->Prop):Prop:=∀(prog:Í) (w:Ð) (A:Ò) (E:Ä->Å->Prop) (s:Å) (Q:Ä->Å->Prop),C s.heap->Q (.ref s.heap.objs.size) { s with heap:=s.heap.push o }->Ê (Ì prog w) A (ģ v) Q E s
def Ve(a:Ç)(l:List Ä):i3 (.ref a) { cls:=.type "list_iterator",data:=.fields #[.ref a,.int 0 0] } (λh=>h.IsList a l.toArray):=λ_ _ _ _ _ _ c q=>qY c q
def JH(a:Ç)(l:List Ä):i3 (.ref a) { cls:=.type "tuple_iterator",data:=.fields #[.ref a,.int 0 0] } (λh=>h.IsTuple a l.toArray):=λ_ _ _ _ _ _ c q=>yt c q
section
variable{v1 v2:Ä}{o1 o2:æ}{C1 C2:Ï->Prop}
abbrev We(h:Ï)(o1:æ):Ï:=h.push o1
abbrev Vk(h:Ï)(o1 o2:æ):Ï:=(We h o1).push o2
abbrev V0(h:Ï)(o1 o2:æ):Ï:=(Vk h o1 o2).push { cls:=.type "tuple",data:=.seq #[.ref h.objs.size,.ref (We h o1).objs.size] }
abbrev Vn(h:Ï)(o1 o2:æ):Ï:=(V0 h o1 o2).push { cls:=.type "tuple",data:=.seq #[.none,.none] }
abbrev rE(h:Ï)(o1 o2:æ):Ï:=(Vn h o1 o2).push { cls:=.type "zip",data:=.fields #[.none,.bool Â,.bool Â,.ref (Vk h o1 o2).objs.size,.ref (V0 h o1 o2).objs.size] }
def Yc(r1:i3 v1 o1 C1)(r2:i3 v2 o2 C2) :
  Meets (ü.«zip.__new__» ⟨[.type "zip",v1,v2],[]⟩) (λ_ R s=>C1 s.heap/\C2 (s.heap.push o1)/\R (.ok (.ret (.ref (Vn s.heap o1 o2).objs.size))) { s with heap:=rE s.heap o1 o2 }):=
 .of_wp λprog w A R s h=>by
  obtain⟨hp,g,d,tk,os⟩:=s;obtain⟨k1,k2,h⟩:=h;have GV:=sub_zip;have q1:∀{A:Ò} {E:Ä->Å->Prop} {Q:Ä->Å->Prop},Q (.ref hp.objs.size) ⟨hp.push o1,g,d,tk,os⟩->Ê (Ì prog w) A (ģ v1) Q E ⟨hp,g,d,tk,os⟩:=λq=>r1 prog w _ _ _ _ k1 q
  have q2:∀{A:Ò} {E:Ä->Å->Prop} {Q:Ä->Å->Prop},Q (.ref (hp.push o1).objs.size) ⟨(hp.push o1).push o2,g,d,tk,os⟩->Ê (Ì prog w) A (ģ v2) Q E ⟨hp.push o1,g,d,tk,os⟩:=λq=>r2 prog w _ _ _ _ k2 q
  wp_walk using q1,q2
  exact⟨_,rfl,h⟩
end
section
variable{prog:Í}{w:Ð}{A:Ò}{E:Ä->Å->Prop}{s:Å}{v1 v2:Ä}{o1 o2:æ}{C1 C2:Ï->Prop}
def Vf(r1:i3 v1 o1 C1)(r2:i3 v2 o2 C2)(k1:C1 s.heap)(k2:C2 (s.heap.push o1))(Md:o1.isFreed=Â)(Me:o2.isFreed=Â)
  (h:∀h',ť h' (s.heap.objs.size+4) (s.heap.objs.size+2) (s.heap.objs.size+3) .none->İ h' (s.heap.objs.size+2) (.ref s.heap.objs.size) (.ref (s.heap.objs.size+1))->
   İ h' (s.heap.objs.size+3) .none .none->h'.get? s.heap.objs.size=À o1->h'.get? (s.heap.objs.size+1)=À o2->(∀c o,s.heap.get? c=À o->h'.get? c=À o)->Q (.ref (s.heap.objs.size+4)) { s with heap:=h' }) :
  Ê (Ì prog w) A (call (.type "zip") [v1,v2]) Q E s:=by
 refine callType_new F.called_zip (by decide) (F.typeCall_zip_2 _ _) (F.newCall_zip_2 _ _) (λobj=>F.args_object_init_3 obj _ _) F.entry_zip_new (Yc r1 r2) ⟨k1,k2,?_⟩;have y1:(We s.heap o1).objs.size=s.heap.objs.size+1:=qe ..;have y2:(Vk s.heap o1 o2).objs.size=s.heap.objs.size+2:=by rw[qe,y1]
 have y3:(V0 s.heap o1 o2).objs.size=s.heap.objs.size+3:=by rw[qe,y2]
 have y4:(Vn s.heap o1 o2).objs.size=s.heap.objs.size+4:=by rw[qe,y3]
 have b5:(rE s.heap o1 o2).get? (Vn s.heap o1 o2).objs.size=À _:=zL _ rfl;have b4:(rE s.heap o1 o2).get? (V0 s.heap o1 o2).objs.size=À _:=zg _ (zL _ rfl);have b3:(rE s.heap o1 o2).get? (Vk s.heap o1 o2).objs.size=À _:=zg _ (zg _ (zL _ rfl));have b2:(rE s.heap o1 o2).get? (We s.heap o1).objs.size=À _:=zg _ (zg _ (zg _ (zL _ Me)));have b1:(rE s.heap o1 o2).get? s.heap.objs.size=À _:=zg _ (zg _ (zg _ (zg _ (zL _ Md))));show _/\_
 rw[y2,y3,y4] at b5;rw[y1,y2] at b3;rw[y3] at b4;rw[y1] at b2;rw[y4];exact⟨⟨_,b5,rfl⟩,h _ b5 b3 b4 b1 b2 λc o x=>zg _ (zg _ (zg _ (zg _ (zg _ x))))⟩
end
def dY{X:Cx}{ag:List (Ç×æ)}{σ:L2.St}{H:Hp}{s:Å}{h':Ï}{t':Nat}{fp:List Ç}{p:Ç}{o:HO}(I:Inv X ag σ H s)(k:∀b o,b∉fp->s.heap.get? b=À o->h'.get? b=À o)(hf:∀b∈fp,uN X ag H b)
  (hp:s.heap.objs.size<=p) (new:ObjOk X.prog X.w (upd H p o) h' p o):Inv X ag σ (upd H p o) { s with heap:=h',toks:=t' }:=by
 have hn:H p=Á:=I.hok.fresh hp;have away:∀b u,H b=À u->b∉fp:=λb u e z=>by rw[(hf b z).1] at e;cases e
 have lt:∀b u,s.heap.get? b=À u->b≠p:=λb u e=>zT (zN (zz e) hp)
 refine I.step (g':=s.gens) (d':=s.drawn) (ch:=fp) (λb hb=>⟨(hf b hb).2.2.2.1,(hf b hb).2.1,(hf b hb).2.2.2.2.1,(hf b hb).2.2.2.2.2⟩) (λb o _ _ hc e _=>k b o hc e) (λb o _ _ hc e _=>⟨o.slots,k b o hc e⟩) (λb u _ e n=>by rw[kK (lt b u e)];exact n)
  (λb o hc e=>⟨o,k b o hc e⟩) (λb xs e=>by rw[kK (qo e hn)];exact e) (λb u v e=>by rw[kK (qo e hn)];exact e) (λb ps e=>⟨#[],by rw[kK (qo e hn),e];simp⟩) (λm hm=>?_) (λb u e=>?_) I.bare
 .obtain⟨o,es,ep,ho,r⟩:=hm
  exact⟨o,es,ep,k _ o (λz=>(hf _ z).2.1 rfl) ho,r⟩
 .by_cases hb:b=p
  .subst hb;rw[va] at e;cases e;exact new
  .rw[kK hb] at e
   refine(I.hok b u e).stay (λc v hc q=>k c v ?_ q) (λc q=>by rw[kK (qo q hn)];exact q) λc xs q=>by rw[kK (qo q hn)];exact q
   rcases hc with z | z
   .rw[z];exact away b u e
   .exact away c _ z
noncomputable def ck(K:NT)(tp:Bool)(H:Hp)(a:Ç)(xs:List V):Prop:=if tp=Ã then SqT K H a xs else SqL K H a xs
noncomputable def Up(tp:Bool)(a:Ç)(h:Ï)(l:List Ä):Prop:=if tp=Ã then h.IsTuple a l.toArray else h.IsList a l.toArray
noncomputable def Ky(tp:Bool)(it a:Ç)(i:Nat)(h:Ï):Prop:=if tp=Ã then h.IsTupleIter it a i else h.IsListIter it a i
noncomputable def U7(tp:Bool)(a:Ç):æ:=if tp=Ã then { cls:=.type "tuple_iterator",data:=.fields #[.ref a,.int 0 0] } else { cls:=.type "list_iterator",data:=.fields #[.ref a,.int 0 0] }
def yi(tp:Bool)(it a:Ç):Stp it a (Ky tp it a) (Up tp a):=by
 cases tp
 .exact Q4 it a
 .exact KU it a
def tT(tp:Bool)(a:Ç)(l:List Ä):i3 (.ref a) (U7 tp a) (λh=>Up tp a h l):=by
 cases tp
 .exact Ve a l
 .exact JH a l
theorem gY(tp:Bool)(a:Ç):(U7 tp a).isFreed=Â:=by cases tp<;>rfl
def ly{h:Ï}(e:h.get? it=À (U7 tp a)):Ky tp it a 0 h:=by
 cases tp
 .exact⟨_,e,rfl,rfl⟩
 .exact⟨_,e,rfl,rfl⟩
section
variable{X:Cx}{ag:List (Ç×æ)}{σ:L2.St}{H:Hp}{s:Å}
def uh(I:Inv X ag σ H s)(h:ck X.K tp H a xs):∃l,Vals xs l/\Up tp a s.heap l:=by
 cases tp
 .obtain⟨cb,r,p,_⟩:=I.list (show SqL X.K H a xs from h)
  exact⟨cb,r,p.isList⟩
 .obtain⟨cb,r,p,_⟩:=I.tuple (show SqT X.K H a xs from h)
  exact⟨cb,r,p⟩
def lV(I:Inv X ag σ H s)(h:ck X.K tp H a xs)(h':ck X.K tp H a ys):xs=ys:=by
 cases tp
 .exact I.list_inj (show SqL X.K H a xs from h) h'
 .exact I.tuple_inj (show SqT X.K H a xs from h) h'
def uL(I:Inv X ag σ H s)(h:ck X.K tp H a xs)(f:uN X ag H b):a≠b:=by
 have k:∀o,X.K.lookup a=À o->a≠b:=λo e z=>by
  subst z;have eb:X.base.get? a=À o:=I.mod.kin _ _ e;rcases f.2.2.2.1 with q | q
  .exact I.ok.noex _ _ eb q
  .exact absurd (zN (zz eb) (zG I.ok.bsz q)) (jP _)
 have r:∀u,Rd H a u->a≠b:=λu q=>by
  rcases q with q | ⟨o,q⟩<;>exact qo q f.1
 cases tp
 .rcases(show SqL X.K H a xs from h) with q | ⟨o,_,_,e,_⟩
  .exact r _ q
  .exact k o e
 .rcases(show SqT X.K H a xs from h) with q | ⟨o,_,_,e,_⟩
  .exact r _ q
  .exact k o e
end
noncomputable def Di (K : NT) (t1 t2 : Bool) (a1 a2 : Ç) : It :=
  ⟨λi H => ∃ xs ys x y, ck K t1 H a1 xs /\ ck K t2 H a2 ys /\ xs[i]? = À x /\ ys[i]? = À y,
   λi H v H' => ∃ p x y, H p = Á /\ v = .ref p /\ H' = upd H p (.tup [x, y]) /\ (∀ xs, ck K t1 H a1 xs -> xs[i]? = À x) /\ ∀ ys, ck K t2 H a2 ys -> ys[i]? = À y,
   λi H => ∃ xs ys, ck K t1 H a1 xs /\ ck K t2 H a2 ys /\ (xs.length <= i \/ ys.length <= i)⟩
def Qn{P:Í}{w:Ð}{K:NT}{AJ:List Ë}{n:Nat}{AK:õ}(t1 t2:Bool)(z TI TO i1 i2 a1 a2:Ç)(nd:[z,TI,TO,i1,i2].Nodup) :
  Turn P w K (.Tuple AJ n AK) (Di K t1 t2 a1 a2) [z,TI,TO,i1,i2] z (λi h=>Wd z TI TO i1 i2 (Ky t1 i1 a1) (Ky t2 i2 a2) .none i i h) where
 mem:=by simp
 obj:=λi h st b hb=>by
  obtain⟨hz,DT,⟨a,b',D1⟩,p1,p2⟩:=st;erw[zp,zm,zU] at hb;rcases hb with rfl | rfl | rfl | rfl | rfl
  .exact⟨_,hz,λv q=>by cases q⟩
  .exact⟨_,DT,λv q=>by cases q⟩
  .exact⟨_,D1,λv q=>by cases q⟩
  .exact(yi t1 _ a1).obj p1
  .exact(yi t2 _ a2).obj p2
 keep:=λi h h' st k=>by
  obtain⟨hz,DT,⟨a,b',D1⟩,p1,p2⟩:=st;exact⟨k z (by simp) _ hz,k TI (by simp) _ DT,⟨a,b',k TO (by simp) _ D1⟩,(yi t1 i1 a1).keep p1 λo e=>k i1 (by simp) o e,(yi t2 i2 a2).keep p2 λo e=>k i2 (by simp) o e⟩
 item:=by
  intro X hP hw hK hc i ag s σ H E I hf st hg;subst hP hw hK;obtain⟨xs,ys,x,y,d1,d2,hx,hy⟩:=hg;obtain⟨l1,r1,c1⟩:=uh I d1;obtain⟨l2,r2,c2⟩:=uh I d2;obtain⟨u1,e1,Ew⟩:=r1.get hx;obtain⟨u2,e2,El⟩:=r2.get hy;have D:ZApart z TI TO i1 i2 a1 a2:=⟨nd,λq=>uL I d1 (hf _ q) rfl,λq=>uL I d2 (hf _ q) rfl⟩;refine QQ (yi t1 i1 a1) (yi t2 i2 a2) D st c1 c2 e1 e2 λh' AL ht kp=>⟨_,rfl,?_⟩
  obtain⟨hz,DT,⟨a,b',D1⟩,p1,p2⟩:=AL;have n:=nd;erw[jy,zp,zm,zU,wF] at n;obtain⟨⟨n1,n2,n3,n4⟩,_⟩:=n;refine wpAny_letOwnedTupleGo_zip hz λh2 GW sb=>?_
  have F7:z<s.heap.objs.size:=by obtain⟨q,_⟩:=st;exact zz q
  have HI:h2.get? s.heap.objs.size=À { cls:=.type "tuple",data:=.seq #[u1,u2] }:=sb.extBut _ _ (qI F7) ht;have I2:Inv X ag σ (upd H s.heap.objs.size (.tup [x,y])) { s with heap:=h2 }:=dY (t':=s.toks) (fp:=[z,TI,TO,i1,i2]) I (λb o hb e=>sb.extBut _ _ (λq=>hb (by simp[q])) (kp b o hb e)) hf (zF _)
   ⟨by show 2<=sizeLine;decide,[u1,u2],.cons Ew (.cons El .nil),⟨_,HI,rfl,_,rfl⟩,⟨_,HI,rfl⟩⟩
  refine⟨.ref s.heap.objs.size,_,I2,rfl,⟨_,x,y,I.hok.fresh (zF _),rfl,rfl,λMf q=>by rw[lV I q d1];exact hx,λNu q=>by rw[lV I q d2];exact hy⟩,?_,λb hb=>?_⟩
  .exact⟨GW,sb.extBut _ _ (kZ n1) DT,⟨a,b',sb.extBut _ _ (kZ n2) D1⟩,(yi t1 i1 a1).keep p1 λo e=>sb.extBut _ _ (kZ n3) e,(yi t2 i2 a2).keep p2 λo e=>sb.extBut _ _ (kZ n4) e⟩
  .obtain⟨o,ho,_⟩:∃o,s.heap.get? b=À o/\True:=by
    obtain⟨Mg,GX,⟨a0,b0,GY⟩,Mh,Mi⟩:=st;erw[zp,zm,zU] at hb;rcases hb with rfl | rfl | rfl | rfl | rfl
    .exact⟨_,Mg,trivial⟩
    .exact⟨_,GX,trivial⟩
    .exact⟨_,GY,trivial⟩
    .obtain⟨o,q,_⟩:=(yi t1 _ a1).obj Mh;exact⟨o,q,trivial⟩
    .obtain⟨o,q,_⟩:=(yi t2 _ a2).obj Mi;exact⟨o,q,trivial⟩
   rw[kK (zT (zz ho))];exact(hf b hb).1
 done:=by
  intro X hP hw hK hc i ag s σ H E I hf st hg;subst hP hw hK;obtain⟨xs,ys,d1,d2,he⟩:=hg;obtain⟨l1,r1,c1⟩:=uh I d1;obtain⟨l2,r2,c2⟩:=uh I d2;have D:ZApart z TI TO i1 i2 a1 a2:=⟨nd,λq=>uL I d1 (hf _ q) rfl,λq=>uL I d2 (hf _ q) rfl⟩;refine JP (yi t1 i1 a1) (yi t2 i2 a2) D (I.ok.hd hc) st c1 c2 ?_ λh' kp=>⟨rfl,iQ (t':=s.toks) I kp hf⟩
  rcases he with he | he
  .exact .inl (qt (by rw[<-r1.length];exact he))
  .exact .inr (qt (by rw[<-r2.length];exact he))
 self:=λ_ _ _ _ _ st h=>wpAny_pyIter_zip st.1 h
noncomputable def gf(h:MH)(w:W):Option (List W):=match w with
 | .tup l=>À l
 | .fls l=>À l
 | _=>Á
noncomputable def QK(ws:List W):M Src:=λh=>match ws with
 | [x,y]=>match gf h x,gf h y with
  | some l,À l'=>À (.items ((l.zip l').map λp=>.tup [p.1,p.2]),h)
  | _,_=>Á
 | _=>Á
noncomputable def gW(ms:List ME):MI:=λρ=>bnd (ke ms ρ) QK
section
variable{X:Cx}{cl:Cl}{AJ:List Ë}{n:Nat}{AK p pos:õ}{e1 e2:Ë}{ms:List ME}
def gT{K:NT}{μ:List Ç}{H:Hp}{h:MH}(r:RW K μ H w v)(e:gf h w=À l):∃tp a vs,v=.ref a/\RWs K μ H l vs/\ck K tp H a vs/\(∀hX H2 h2,HR K cl μ H h->Ext μ H hX H2->HR K cl hX H2 h2->ck K tp H2 a vs):=by
 unfold gf at e;split at e
 .cases e
  obtain⟨a,vs,rfl,sa,ra⟩:=r.tup_of;exact⟨Ã,a,vs,rfl,ra,sa,λhX H2 h2 R E R2=>SqT.ext R E sa⟩
 .cases e
  cases r with | @fls a vs l sa ra=>
  exact⟨Â,a,vs,rfl,ra,sa.sq,λhX H2 h2 R E R2=>(SqF.ext E sa).sq⟩
 .cases e
def Ul(hm:X.mg "zip" = Á)(ha:SA X cl [e1,e2] ms)(hg:↥(Gl X "zip"))(Aa:↥(É [e1,e2] X.env=(Â,eval e1 X.env)::É [e2] X.env))(xa:↥((Ö pos (É [e2] X.env)).any (·.1)=Â)) :
  SI X cl (.Tuple AJ n AK) (.Call (.Name "zip" p) [e1,e2] [] pos) (gW ms):=by
 rintro ag s σ H R I ⟨μ,h,ρ,src,h',R0,er,e,k⟩;obtain⟨ws,h1,Eh,e⟩:=kd e;have hv:Ñ "zip" = À (.type "zip"):=by decide +kernel
 refine jF (u7 I hg hm hv ?_ (by decide) (by decide));refine jC (kq (ha pos ag s σ H (λvs H1=>∃cx,Ext μ H cx H1/\HR X.K cl cx H1 h1/\RWs X.K cx H1 ws vs) I ⟨μ,h,ρ,ws,h1,R0,er,Eh,λcx H1 vs E1 R1 rs=>⟨cx,E1,R1,rs⟩⟩) ?_) Aa xa;rintro us s1 ⟨vs,H1,I1,r1,cx,E1,R1,rs⟩;unfold QK at e;split at e
 .rename_i x y
  split at e
  .rename_i l l' q1 q2
   cases e;cases rs with | cons rx t=>cases t with | cons ry t=>cases t with | nil=>
   obtain⟨t1,a1,xs,rfl,FF,d1,f1⟩:=gT (cl:=cl) rx q1;obtain⟨t2,a2,ys,rfl,EL,d2,f2⟩:=gT (cl:=cl) ry q2;obtain⟨u1,u2,rfl,Ew,El⟩:=vals2 r1;cases Ew;cases El;obtain⟨l1,v1,c1⟩:=uh I1 d1;obtain⟨l2,v2,c2⟩:=uh I1 d2;refine Vf (tT t1 a1 l1) (tT t2 a2 l2) c1 ((yi t2 0 a2).keepC c2 λo e=>zg _ e) (gY t1 a1) (gY t2 a2) λh2 b5 b3 b4 b1 b2 kp=>?_
   refine wpAny_pyIter_zip b5 ?_;have nd:[s1.heap.objs.size+4,s1.heap.objs.size+2,s1.heap.objs.size+3,s1.heap.objs.size,s1.heap.objs.size+1].Nodup:=by
    erw[jy,zp,zm,zU,wF,List.nodup_nil,xO,not_false_eq_true];omega
   refine⟨_,_,_,_,H1,rfl,I1.kept (t':=s1.toks) kp,Qn t1 t2 _ _ _ _ _ a1 a2 nd,⟨b5,b3,⟨_,_,b4⟩,ly b1,ly b2⟩,λb hb=>?_,k cx H1 _ E1 R1 ?_⟩
   .have FG:s1.heap.objs.size<=b:=by
     erw[zp,zm,zU] at hb;rcases hb with rfl | rfl | rfl | rfl | rfl<;>omega
    exact I1.fpOk FG (I1.hok.fresh FG)
   .intro hX H2 h3 E2 R2 i
    have Ey:=f1 hX H2 h3 R1 E2 R2;have GZ:=f2 hX H2 h3 R1 E2 R2;have Ez:=FF.ext R1 E2;have G0:=EL.ext R1 E2;refine⟨λw ew=>?_,λes=>?_⟩
    .have Ab:((l.zip l').map λp=>W.tup [p.1,p.2])[i]?=À w:=zP ew
     rw[jr] at Ab;cases ez:(l.zip l')[i]? with
     | none=>rw[ez] at Ab;cases Ab
     | some pr=>
      rw[ez] at Ab;cases Ab;obtain⟨ea,eb⟩:=List.getElem?_zip_eq_some.mp ez;obtain⟨vx,FH,G1⟩:=Ez.get ea;obtain⟨vy,HJ,Mj⟩:=G0.get eb;refine⟨⟨xs,ys,vx,vy,Ey,GZ,FH,HJ⟩,λv H3 yl=>?_⟩;obtain⟨pp,x',y',hp,rfl,rfl,w1,w2⟩:=yl;have z1:=w1 xs Ey;have z2:=w2 ys GZ;rw[FH] at z1;rw[HJ] at z2;cases z1;cases z2;exact⟨.side hp,R2.side hp,.tup (SqT.of va) (.cons (G1.ext R2 (.side hp)) (.cons (Mj.ext R2 (.side hp)) .nil))⟩
    .have Au:((l.zip l').map λp=>W.tup [p.1,p.2])[i]?=Á:=zP es
     have hl:=jz.mp Au;rw[jb,List.length_zip] at hl;refine⟨xs,ys,Ey,GZ,?_⟩;rw[<-FF.length,<-EL.length];omega
  .cases e
 .cases e
end
noncomputable def gu:List W->Option (List Bool)
 | []=>À []
 | .bl b::r=>match gu r with
  | some l=>À (b::l)
  | none=>Á
 | _=>Á
noncomputable def intsOf:List W->Option (List Int)
 | []=>À []
 | .int b::r=>match intsOf r with
  | some l=>À (b::l)
  | none=>Á
 | _=>Á
noncomputable def ip(f:List Bool->Bool)(ws:List W):M W:=λh=>match ws with
 | [w]=>match xb h w with
  | some l=>match gu l with
   | some bs=>À (.bl (f bs),h)
   | none=>Á
  | none=>Á
 | _=>Á
noncomputable def tH:List W->M W:=ip λl=>l.all id
noncomputable def Uo:List W->M W:=ip λl=>l.any id
noncomputable def uI:List Int->Int
 | []=>0
 | i::r=>i+uI r
noncomputable def fH(ws:List W):M W:=λh=>match ws with
 | [w]=>match xb h w with
  | some l=>match intsOf l with
   | some bs=>À (.int (uI bs),h)
   | none=>Á
  | none=>Á
 | _=>Á
section
variable{K:NT}{μ:List Ç}{H:Hp}
def Vd{bs:List Bool}(e:gu l=À bs)(r:RWs K μ H l vs)(q:Vals vs us):us=bs.map Ī:=by
 induction l generalizing vs us bs with
 | nil=>cases r;cases q;cases e;rfl
 | cons w l ih=>
  cases r with | cons rb rr=>cases q with | cons tb tr=>cases rb with
  | bl b=>
   unfold gu at e;split at e
   .rename_i l e'
    cases e;cases tb;rw[ih e' rr tr];rfl
   .cases e
  | _=>cases e
def Ki{us:List Ä}{bs:List Int}(e:intsOf l=À bs)(r:RWs K μ H l vs)(q:Vals vs us):us.length=bs.length/\∀i u,us[i]?=À u->∃t,u=ń (bs.getD i 0) t:=by
 induction l generalizing vs us bs with
 | nil=>cases r;cases q;cases e;exact⟨rfl,λi u e=>by simp at e⟩
 | cons w l ih=>
  cases r with | cons rb rr=>cases q with | cons tb tr=>cases rb with
  | int b=>
   unfold intsOf at e;split at e
   .rename_i l e'
    cases e;obtain⟨t,rfl⟩:=tb;obtain⟨h1,h2⟩:=ih e' rr tr;refine⟨jY (· + 1) h1,λi u e=>?_⟩;cases i with
    | zero=>cases e;exact⟨t,rfl⟩
    | succ i=>exact h2 i u e
   .cases e
  | _=>cases e
end
def pU(a b:List Int):uI (a++b)=uI a+uI b:=by
 induction a with
 | nil=>simp[uI]
 | cons x r ih=>erw[zQ,uI,ih];omega
theorem preSum_eq(bs:List Int):∀n,n<=bs.length->preSum (λi=>bs.getD i 0) n=uI (bs.take n)
 | 0,_=>by simp[preSum,uI]
 | n+1,h=>by
  have ih:=preSum_eq bs n ∅;have:preSum (λi=>bs.getD i 0) (n+1)=preSum (λi=>bs.getD i 0) n+bs.getD n 0:=rfl;rw[this,ih,List.take_succ,pU];simp[kO (show n<bs.length by omega),uI]
section
variable{X:Cx}{cl:Cl}
def nW{s:Å}{H:Hp}{A:Ò}(I:Inv X ag σ H s)(sq:SqL X.K H a vs\/SqT X.K H a vs)(hh:A.handled=Á)
  (k:∀(us:List Ä) (it:Ç) (fp wr:List Ç) (St:Nat->Ï->Prop) (h1:Ï),Vals vs us->ſ X.prog X.w A it fp wr us.length (λi v=>us[i]?=À v) St->St 0 h1->(∀b∈fp,b<h1.objs.size)->
   (∀b∈wr,s.heap.objs.size<=b)->(∀b o,s.heap.get? b=À o->h1.get? b=À o)->R (.ref it) { s with heap:=h1 }) :
  Ê (Ì X.prog X.w) A (ģ (.ref a)) R E s:=by
 rcases sq with sq | sq
 .obtain⟨cb,rv,p,hz⟩:=I.list sq
  refine qY p.isList ?_;have Ap:a<s.heap.objs.size:=by obtain⟨o,ho,_⟩:=p.isList;exact zz ho
  have W0:=xP (prog:=X.prog) (w:=X.w) hh s.heap.objs.size a (zT Ap) cb.toArray;have W1:ſ X.prog X.w A s.heap.objs.size [s.heap.objs.size,a] [s.heap.objs.size] cb.length (λi v=>cb[i]?=À v) (λi h=>h.IsListIter s.heap.objs.size a i/\h.IsList a cb.toArray):=by simpa using W0
  refine k cb _ _ _ _ _ rv W1 ⟨⟨_,zL _ rfl,rfl,rfl⟩,p.isList.at λo e=>zg _ e⟩ (λb hb=>?_) (λb hb=>?_) λb o e=>zg _ e
  .erw[zp,zm,zU] at hb
   erw[qe];rcases hb with rfl | rfl
   .exact qi _
   .exact vK Ap
  .erw[zp,zm,zU] at hb
   rw[hb];exact zF _
 .obtain⟨cb,rv,p,hz⟩:=I.tuple sq
  refine yt (show s.heap.IsTuple a cb.toArray from p) ?_;have Ap:a<s.heap.objs.size:=by obtain⟨o,ho,_⟩:=id p;exact zz ho
  have p':s.heap.IsTuple a cb.toArray:=p;have W0:=Walks.tuple (prog:=X.prog) (w:=X.w) hh s.heap.objs.size a (zT Ap) cb.toArray;have W1:ſ X.prog X.w A s.heap.objs.size [s.heap.objs.size,a] [s.heap.objs.size] cb.length (λi v=>cb[i]?=À v) (λi h=>h.IsTupleIter s.heap.objs.size a i/\h.IsTuple a cb.toArray):=by simpa using W0
  refine k cb _ _ _ _ _ rv W1 ⟨⟨_,zL _ rfl,rfl,rfl⟩,p'.at λo e=>zg _ e⟩ (λb hb=>?_) (λb hb=>?_) λb o e=>zg _ e
  .erw[zp,zm,zU] at hb
   erw[qe];rcases hb with rfl | rfl
   .exact qi _
   .exact vK Ap
  .erw[zp,zm,zU] at hb
   rw[hb];exact zF _
def iI{ag:List (Ç×æ)}{s:Å}{σ:L2.St}{H:Hp}{h1 h2:Ï}{tk:Nat}{wr:List Ç}(I:Inv X ag σ H s)(k1:∀b o,s.heap.get? b=À o->h1.get? b=À o)(hw:∀b∈wr,s.heap.objs.size<=b)(k2:∀b o,b∉wr->h1.get? b=À o->h2.get? b=À o) :
  Inv X ag σ H { s with heap:=h2,toks:=tk }:=
 I.kept (t':=tk) λb o e=>k2 b o (λz=>absurd (zz e) (Nat.not_lt.mpr (hw b z))) (k1 b o e)
def iV{f:List Bool->Bool}{id:String}(DE:∀{A:Ò} {E:Ä->Å->Prop} {s:Å} {x:Ä} {Q:Ä->Å->Prop},A.handled=Á->Ê (Ì X.prog X.w) A.in1 (ģ x) (λit Ai=>∃I fp wr n P St tr,it=.ref I/\ſ X.prog X.w A.in1 I fp wr n P St/\St 0 Ai.heap/\TruthOf X.prog X.w A.in1 P tr /\
   ∀h' tk,(∀b o,b∉wr->Ai.heap.get? b=À o->h'.get? b=À o)->Q (.bool (f ((Ė n).map tr))) { Ai with heap:=h',toks:=tk }) E s->Ê (Ì X.prog X.w) A (call (.builtin id) [x]) Q E s) (hc:X.calm=Ã):qV X (.builtin id) (rMs X.K cl (ip f)):=by
 rintro ag s σ H xs us Q I rs ⟨μ,h,ws,w,h',R,ax,e,k⟩;unfold ip at e;split at e
 .split at e
  .rename_i l el
   split at e
   .rename_i bs eb
    cases e;cases ax with | cons r t=>cases t with | nil=>
    obtain⟨a,vs,rfl,sa,ra⟩:=uP R r el;obtain⟨u,rfl,ru⟩:=rs.one;cases ru;have hh:=I.ok.hd hc;refine DE hh (nW (A:=X.A.in1) I sa hh λus it fp wr St h1 rv W Aa HK G2 k1=>?_);have hu:=Vd eb ra rv;subst hu;refine⟨it,fp,wr,_,_,St,λi=>bs.getD i Â,rfl,W,Aa,?_,λh2 tk k2=>?_⟩
    .intro i v s Q E hP hQ
     rw[jr] at hP;cases eb:bs[i]? with
     | none=>rw[eb] at hP;cases hP
     | some b=>
      rw[eb] at hP;cases hP;have:bs.getD i Â=b:=by simp[List.getD,eb]
      have HL:Q (bs.getD i Â) s:=hQ;rw[this] at HL;exact jJ HL
    .have e2:(Ė (bs.map Ī).length).map (λi=>bs.getD i Â)=bs:=by
      apply List.ext_getElem
      .simp
      .intro i h1 h2;simp at h1;simp[h1]
     rw[e2];exact⟨.bl _,H,(show Inv X ag σ H { s with heap:=h2,toks:=tk } from iI I k1 G2 k2),rfl,k.pure R (.bl _)⟩
   .cases e
  .cases e
 .cases e
def Jk(hc:X.calm=Ã):qV X (.builtin "all") (rMs X.K cl tH):=by
 refine iV (λ{A E s x Q} hh h=>call_all_walk (jK h (λit Ai DH=>?_) λ_ _ e=>e)) hc;obtain⟨I,fp,wr,n,P,St,tr,rfl,W,Aa,G3,hQ⟩:=DH;refine⟨I,fp,wr,n,P,St,tr,rfl,W,Aa,G3,λh' tk hk=>?_⟩;have:=hQ h' tk hk;rw[List.all_map] at this;exact this
def Kb(hc:X.calm=Ã):qV X (.builtin "any") (rMs X.K cl Uo):=by
 refine iV (λ{A E s x Q} hh h=>call_any_walk (jK h (λit Ai DH=>?_) λ_ _ e=>e)) hc;obtain⟨I,fp,wr,n,P,St,tr,rfl,W,Aa,G3,hQ⟩:=DH;refine⟨I,fp,wr,n,P,St,tr,rfl,W,Aa,G3,λh' tk hk=>?_⟩;have:=hQ h' tk hk;rw[List.any_map] at this;exact this
def Ku(hc:X.calm=Ã):qV X (.builtin "sum") (rMs X.K cl fH):=by
 rintro ag s σ H xs us Q I rs ⟨μ,h,ws,w,h',R,ax,e,k⟩;unfold fH at e;split at e
 .split at e
  .rename_i l el
   split at e
   .rename_i bs eb
    cases e;cases ax with | cons r t=>cases t with | nil=>
    obtain⟨a,vs,rfl,sa,ra⟩:=uP R r el;obtain⟨u,rfl,ru⟩:=rs.one;cases ru;have hh:=I.ok.hd hc;refine call_sum_walkG (nW (A:=X.A.in1) I sa hh λus it fp wr St h1 rv W Aa HK G2 k1=>?_);obtain⟨hl,hv⟩:=Ki eb ra rv;refine⟨it,fp,wr,_,_,St,λi=>bs.getD i 0,rfl,W,Aa,HK,hv,λh2 tk t' k2=>?_⟩;rw[hl,preSum_eq bs _ (zF _),List.take_length];exact⟨.int _,H,(show Inv X ag σ H { s with heap:=h2,toks:=tk } from iI I k1 G2 k2),⟨t',rfl⟩,k.pure R (.int _)⟩
   .cases e
  .cases e
 .cases e
def boot_all:Ñ "all" = À (.builtin "all"):=by decide +kernel
def boot_any:Ñ "any" = À (.builtin "any"):=by decide +kernel
def boot_sum:Ñ "sum" = À (.builtin "sum"):=by decide +kernel
def sr:Ñ "int" = À (.type Ty.int.name):=by decide +kernel
def sj:Ñ "str" = À (.type Ty.str.name):=by decide +kernel
def JS:Ñ "bool" = À (.type Ty.bool.name):=by decide +kernel
def mz:Ñ "tuple" = À (.type Ty.tuple.name):=by decide +kernel
def g6:Ñ "list" = À (.type Ty.list.name):=by decide +kernel
def nM:Ñ "dict" = À (.type Ty.dict.name):=by decide +kernel
end
noncomputable abbrev ac:W->W->M W:=kL λi j=>decide (i<j)
noncomputable abbrev uG:W->W->M W:=kL λi j=>decide (i<=j)
noncomputable abbrev gI:W->W->M W:=kL λi j=>decide (j<i)
noncomputable abbrev Dq:W->W->M W:=kL λi j=>decide (j<=i)
noncomputable abbrev lm:W->W->M W:=λx y=>match x,y with | .int i,.int j=>λh=>À (.int (i+j),h) | _,_=>λ_=>Á
noncomputable def Cq(x:È):It:=
 ⟨λi _=>i<x.cps.size,λi H v H'=>H'=H/\∃c,x.cps[i]?=À c/\v=.str ⟨#[c]⟩,λi _=>x.cps.size<=i⟩
section
variable{P:Í}{w:Ð}{K:NT}{tg:Ë}
def K9(hn:["enumerate","zip","dict_itemiterator","dict_reverseitemiterator","odict_iterator","itertools.zip_longest","itertools.pairwise"].contains T=Â)(it:Ç)(x:È)(t:ū)
  (W:∀A:Ò,A.handled=Á->ſ P w A it [it] [it] x.cps.size (SignAt x) (λi h=>h.IsStrIter it T x t i))
  (sf:∀(A:Ò) (i:Nat) (s:Å) (Q:Ä->Å->Prop) (E:Ä->Å->Prop),s.heap.IsStrIter it T x t i->Q (.ref it) s->Ê (Ì P w) A (ģ (.ref it)) Q E s) :
  Turn P w K tg (Cq x) [it] it (λi h=>i<=x.cps.size/\h.IsStrIter it T x t i) where
 mem:=by simp
 obj:=λi h st b hb=>by
  have e:b=it:=by simpa using hb
  subst e;obtain⟨_,o,e,c,d⟩:=st;exact⟨o,e,λv z=>by rw[d] at z;cases z⟩
 keep:=λi h h' st k=>by
  obtain⟨hi,o,e,c,d⟩:=st;exact⟨hi,o,k it (by simp) o e,c,d⟩
 item:=by
  intro X hP hw hK hc i ag s σ H E I hf st hg;subst hP hw hK;obtain⟨f0,f1,f2,f3,f4,f5⟩:=hf it (by simp);refine(W X.A (I.ok.hd hc)).item i s _ _ hg st.2 λv h' tk hv AL kk=>?_
  obtain⟨c,u,Ml,rfl⟩:=hv;have I1:Inv X ag σ H { s with heap:=h',toks:=tk }:=I.turned (t':=tk) (λb o hb e=>kk b o (by simpa using hb) e) f0 f1 f3 f4 f5;obtain⟨o,e,cc,d⟩:=id AL;exact⟨_,rfl,mZ (s:={ s with heap:=h',toks:=tk }) e cc d hn ⟨.str ⟨#[c]⟩,H,I1,⟨u,rfl⟩,⟨rfl,c,Ml,rfl⟩,⟨hg,AL⟩,λb hb=>(hf b hb).1⟩⟩
 done:=by
  intro X hP hw hK hc i ag s σ H E I hf st hg;subst hP hw hK;obtain⟨f0,f1,f2,f3,f4,f5⟩:=hf it (by simp);have hi:i=x.cps.size:=Nat.le_antisymm st.1 hg;have A7:=st.2;rw[hi] at A7;exact(W X.A (I.ok.hd hc)).done s _ _ A7 λh' tk kk=>⟨rfl,I.turned (t':=tk) (λb o hb e=>kk b o (by simpa using hb) e) f0 f1 f3 f4 f5⟩
 self:=λA i s Q E st h=>sf A i s Q E st.2 h
end
noncomputable def signs(x:È):List W:=x.cps.toList.map λc=>.str ⟨#[c]⟩
noncomputable def il(m:ME):MI:=λρ=>bnd (m ρ) λw h=>match w with
 | .str x=>À (.items (signs x),h)
 | _=>Á
section
variable{X:Cx}{cl:Cl}{tg e:Ë}{m:ME}
def Wl{K:NT}{μ:List Ç}{H:Hp}:JR K cl (Cq x) (.items (signs x)) μ H:=by
 intro hX H2 h2 E2 R2 i;refine⟨λw ew=>?_,λes=>?_⟩
 .have Ab:(signs x)[i]?=À w:=zP ew
  unfold signs at Ab;rw[jr] at Ab;cases ec:x.cps.toList[i]? with
  | none=>rw[ec] at Ab;cases Ab
  | some c=>
   rw[ec] at Ab;cases Ab;have HM:x.cps[i]?=À c:=by rw[<-xx];exact ec
   refine⟨(Array.getElem?_eq_some_iff.mp HM).1,λv H3 y=>?_⟩;obtain⟨rfl,c',D6,rfl⟩:=y;rw[HM] at D6;cases D6;exact⟨.refl,R2,.str _⟩
 .have Au:(signs x)[i]?=Á:=zP es
  have:=jz.mp Au;unfold signs at this;rw[jb,vm] at this;exact this
def UJ(he:SE X cl e m):SI X cl tg e (il m):=by
 rintro ag s σ H R I ⟨μ,h,ρ,src,h',R0,er,e,k⟩;obtain⟨x,h1,e1,e⟩:=kd e;refine kq (he ag s σ H (λv H1=>∃cx,Ext μ H cx H1/\HR X.K cl cx H1 h1/\RW X.K cx H1 x v) I ⟨μ,h,ρ,x,h1,R0,er,e1,λcx H1 v E1 R1 r=>⟨cx,E1,R1,r⟩⟩) ?_;rintro u s1 ⟨v,H1,I1,r1,cx,E1,R1,rv⟩;cases x with
 | str z=>
  cases e;cases rv.str_of;obtain⟨tk,rfl⟩:=r1;have fin:∀{o:æ} {T:String},["enumerate","zip","dict_itemiterator","dict_reverseitemiterator","odict_iterator","itertools.zip_longest","itertools.pairwise"].contains T=Â->(∀A:Ò,A.handled=Á->ſ X.prog X.w A s1.heap.objs.size [s1.heap.objs.size] [s1.heap.objs.size] z.cps.size (SignAt z) (λi h=>h.IsStrIter s1.heap.objs.size T z tk i))->
    (∀(A:Ò) (i:Nat) (s:Å) (Q:Ä->Å->Prop) (E:Ä->Å->Prop),s.heap.IsStrIter s1.heap.objs.size T z tk i->Q (.ref s1.heap.objs.size) s->Ê (Ì X.prog X.w) A (ģ (.ref s1.heap.objs.size)) Q E s)->
    (s1.heap.push o).IsStrIter s1.heap.objs.size T z tk 0->PIE X ag σ tg R (.ref s1.heap.objs.size) { s1 with heap:=s1.heap.push o }:=λ{o T} hn W sf st=>
   ⟨_,[s1.heap.objs.size],_,_,H1,rfl,I1.kept (t':=s1.toks) λb o e=>zg _ e,K9 hn _ z tk W sf,⟨wA _,st⟩,λb hb=>by
    have e:b=s1.heap.objs.size:=by simpa using hb
    subst e
    exact I1.fpOk (zF _) (I1.hok.fresh (zF _)),k cx H1 _ E1 R1 Wl⟩
  cases ha:z.cps.all (· < 128)
  .exact wpAny_pyIter_wide ha (fin (T:="str_iterator") (by decide) (λA' hA=>Walks.strWide hA _ z tk) (λA i s Q E st q=>wpAny_pyIter_striter_wide st q) ⟨_,zL _ rfl,rfl,rfl⟩)
  .exact wpAny_pyIter_ascii ha (fin (T:="str_ascii_iterator") (by decide) (λA' hA=>Walks.strAscii hA _ z tk) (λA i s Q E st q=>wpAny_pyIter_striter_ascii st q) ⟨_,zL _ rfl,rfl,rfl⟩)
 | _=>cases e
end
structure Glob(K:NT)(mg:È->Option Ä)(x:È)(w:W):Prop where
 ex:∃(v:V) (u:Ä),mg x=À u/\RelV v u/\∀μ H,RW K μ H w v
def Glob.se{X:Cx}{pos:õ}(G:Glob X.K X.mg x w)(hg:↥(Gl X x))(hd:⇑((x==("__debug__":È))=Â)):SE X cl (.Name x pos) (eC w):=by
 obtain⟨v,u,hm,r,rw⟩:=G.ex;exact Yz hm r rw hg hd
mutual
inductive KW(K:NT):W->Ä->Prop
 | int {i:Int} {t:ū}:KW K (.int i) (.int i t)
 | str {i:È} {t:ū}:KW K (.str i) (.str i t)
 | fn {a:Ç}:KW K (.fn a) (.ref a)
 | tup {a:Ç} {l:List W} {o:æ} {cb:Array Ä} {n:Nat}:K.lookup a=À o->(o.cls=.type "tuple" /\ o.dict=Á)->o.data=.seq cb n->cb.size<=sizeLine->KWs K l cb.toList->KW K (.tup l) (.ref a)
inductive KWs(K:NT):List W->List Ä->Prop
 | nil:KWs K [] []
 | cons {w:W} {v:Ä} {l:List W} {vs:List Ä}:KW K w v->KWs K l vs->KWs K (w::l) (v::vs)
end
def KWs.rw{K:NT}{l:List W}(r:KWs K l us):∃vs,Vals vs us/\∀μ H,RWs K μ H l vs:=
 KWs.rec (motive_1:=λw u _=>∃v,RelV v u/\∀μ H,RW K μ H w v) (motive_2:=λl us _=>∃vs,Vals vs us/\∀μ H,RWs K μ H l vs) (λ{i t}=>⟨.int i,⟨t,rfl⟩,λ_ _=>.int _⟩) (λ{i t}=>⟨.str i,⟨t,rfl⟩,λ_ _=>.str _⟩) (λ{a}=>⟨.ref a,rfl,λ_ _=>.fn⟩)
  (λ{a _ _ _ _} e c d z _ q=>q.elim λ_ q=>⟨.ref a,rfl,λμ H=>.tup (.inr ⟨_,_,_,e,c,d,z,q.1⟩) (q.2 μ H)⟩) ⟨[],.nil,λ_ _=>.nil⟩ (λ_ _ p q=>p.elim λv p=>q.elim λvs q=>⟨v::vs,.cons p.1 q.1,λμ H=>.cons (p.2 μ H) (q.2 μ H)⟩) r
theorem KW.rw{K:NT}{w:W}(r:KW K w u):∃v,RelV v u/\∀μ H,RW K μ H w v:=by
 obtain⟨vs,a,b⟩:=KWs.rw (.cons r .nil);cases a with
 | @cons v _ _ _ a _=>exact⟨v,a,λμ H=>by cases b μ H with | cons q _=>exact q⟩
def KW.glob{K:NT}{mg:È->Option Ä}{x:È}(hm:mg x=À u)(k:KW K w u):Glob K mg x w:=by
 obtain⟨v,r1,r2⟩:=k.rw;exact⟨v,u,hm,r1,r2⟩
inductive TabRel(K:NT):List (È×W)->List ú->Prop
 | nil:TabRel K [] []
 | cons {k:È} {t:ū} {w:W} {hs:Int} {v:Ä} {l:List (È×W)} {es:List ú} {e:ú}:e.key=.str k t->KW K w e.val->TabRel K l es->TabRel K ((k,w)::l) (e::es)
structure TabOk(K:NT)(P:Params)(mg:È->Option Ä)(x:È)(l:List (È×W)):Prop where
 ex:∃(a:Ç) (es:Array ú) (n:Nat),mg x=À (.ref a)/\K.lookup a=À ⟨.type "dict",Á,.dict es n,#[]⟩/\Ķ P es.toList/\(a==Ø)=Â/\TabRel K l es.toList
theorem TabRel.find{K:NT}:∀{l:List (È×W)} {es:List ú},TabRel K l es->match l.lookup k with
  | some w=>∃v,(es.find? λe=>ã k e.key).map (·.val)=À v/\KW K w v
  | none=>(es.find? λe=>ã k e.key).map (·.val)=Á
 | _,_,.nil=>rfl
 | _,_,.cons (k:=k') (l:=l) (es:=es) (e:=e) hk r t=>by
  have ih:=TabRel.find (k:=k) t;rw[jM];by_cases q:k=k'
  .subst q
   have e1:(k==k)=Ã:=by simp
   have e2:ã k e.key=Ã:=by rw[hk];simp[ã]
   erw[e1,jA,e2];exact⟨_,rfl,r⟩
  .have e1:(k==k')=Â:=by simpa using q
   have e2:ã k e.key=Â:=by rw[hk];simp[ã];exactλz=>q z.symm
   erw[e1,jA,e2];exact ih
noncomputable def tabIn(neg:Bool)(l:List (È×W))(w:W):M W:=λh=>match w with
 | .str k=>À (.bl (if neg then !(l.lookup k).isSome else (l.lookup k).isSome),h)
 | _=>Á
noncomputable def af(l:List (È×W))(w:W):M W:=λh=>match w with
 | .str k=>match l.lookup k with
  | some v=>À (v,h)
  | none=>Á
 | _=>Á
section
variable{X:Cx}{cl:Cl}{a:Ë}{ma:ME}{x:È}{l:List (È×W)}{p pos:õ}
def TabOk.at{s:Å}{H:Hp}{es:Array ú}(I:Inv X ag σ H s)(hl:X.K.lookup d=À ⟨.type "dict",Á,.dict es n,#[]⟩)(hk:Ķ X.w.params es.toList) :
  s.heap.MapOf (strKind X.prog X.w) d (λk=>ŧ ã es k):=PySem.W.mapOf_K I.kIn hl hk
def JM{op:ś}(neg:Bool)(ho:∀{A:Ò} {E:Ä->Å->Prop} {s:Å} {d:Ç} {f:È->Option Ä} {k:È} {t:ū} {Q:Ä->Å->Prop},(d==Ø)=Â->s.heap.MapOf (strKind X.prog X.w) d f->Q (.bool (if neg then !(f k).isSome else (f k).isSome)) { s with toks:=s.toks+1 }->Ê (Ì X.prog X.w) A (Î op (.str k t) (.ref d)) Q E s)
  (T:TabOk X.K X.w.params X.mg x l) (ha:SE X cl a ma) (hm:Ý op (.Name x p)=Â) (hg:Gl X x) (hd:(x==("__debug__":È))=Â):SE X cl (.Compare a [op] [.Name x p] pos) (jp (tabIn neg l) ma):=by
 obtain⟨d,es,n,e1,e2,e3,e4,e5⟩:=T.ex;have G4:kS X (Î op) (λx y H Q=>∃k,x=.str k/\y=.ref d/\Q (.bl (if neg then !(l.lookup k).isSome else (l.lookup k).isSome)) H):=by
  rintro ag s σ H x y v u Q I rx ry ⟨k,rfl,rfl,q⟩;obtain⟨t,rfl⟩:=rx;cases ry;refine ho e4 (TabOk.at I e2 e3) ?_;have fk:(ŧ ã es k).isSome=(l.lookup k).isSome:=by
   have:=e5.find (k:=k);unfold ŧ;rw[<-vC];cases ek:l.lookup k with
   | none=>rw[ek] at this;rw[this];rfl
   | some w=>rw[ek] at this;obtain⟨v,e,_⟩:=this;rw[e];rfl
  rw[fk];exact⟨.bl _,H,I.tok _,rfl,q⟩
 refine PE.wk (rN G4 ha (uQ hg e1 (show RelV (.ref d) (.ref d) from rfl) hd) hm) ?_;rintro σ H Q ⟨μ,h,ρ,w,h',R,er,e,k⟩;obtain⟨y,h1,f1,e⟩:=kd e;refine⟨μ,h,ρ,y,h1,R,er,f1,λcx H1 vx E1 R1 rx=>?_⟩;unfold tabIn at e;split at e
 .cases e
  exact⟨_,rx.str_of,rfl,k cx H1 _ E1 R1 (.bl _)⟩
 .cases e
def Q8(hu:X.A.units+64<ö)(T:TabOk X.K X.w.params X.mg x l)(ha:SE X cl a ma)(hm:Ý .In (.Name x p)=Â:=by first | exact nomark _ | rfl)(hg:↥(Gl X x))(hd:⇑((x==("__debug__":È))=Â)):SE X cl (.Compare a [.In] [.Name x p] pos) (jp (tabIn Â l) ma):=
 JM Â (λ{A E s d f k t Q} h1 h2 h3=>wpAny_in_of (yH X.prog X.w k t) h1 h2 h3) T ha hm hg hd
def JK(hu:X.A.units+64<ö)(T:TabOk X.K X.w.params X.mg x l)(ha:SE X cl a ma)(hm:Ý .NotIn (.Name x p)=Â:=by first | exact nomark _ | rfl)(hg:↥(Gl X x))(hd:⇑((x==("__debug__":È))=Â)):SE X cl (.Compare a [.NotIn] [.Name x p] pos) (jp (tabIn Ã l) ma):=
 JM Ã (λ{A E s d f k t Q} h1 h2 h3=>wpAny_notIn_of (yH X.prog X.w k t) h1 h2 h3) T ha hm hg hd
def Jj(hu:X.A.units+64<ö)(T:TabOk X.K X.w.params X.mg x l)(ha:SE X cl a ma)(hs:d0 a:=by exactλ_ _=>rfl)(hg:↥(Gl X x))(hd:⇑((x==("__debug__":È))=Â)):SE X cl (.Subscript (.Name x p) a pos) (jp (af l) ma):=by
 obtain⟨d,es,n,e1,e2,e3,e4,e5⟩:=T.ex;have A5:rK X (λx y H Q=>∃k w,x=.ref d/\y=.str k/\l.lookup k=À w/\∀v,(∀μ H,RW X.K μ H w v)->Q v H):=by
  rintro value slice ag s σ H x y v u Q I rx ry ⟨k,w,rfl,rfl,el,q⟩ hs;cases rx;obtain⟨t,rfl⟩:=ry;have hm:=TabOk.at I e2 e3;have:=e5.find (k:=k);rw[el] at this;obtain⟨v0,ev,kw⟩:=this;obtain⟨v1,r1,r2⟩:=kw.rw;refine tail_any hm.typeIs slot_dict_getitem.lookup (wpAny_getItem_of (v:=v0) (yH X.prog X.w k t) hm ?_ ⟨v1,H,I.tok _,r1,q v1 r2⟩) hs;unfold ŧ;rw[<-vC];exact ev
 refine PE.wk (Vw A5 (uQ hg e1 (show RelV (.ref d) (.ref d) from rfl) hd) ha hs) ?_;rintro σ H Q ⟨μ,h,ρ,w,h',R,er,e,k⟩;obtain⟨y,h1,f1,e⟩:=kd e;refine⟨μ,h,ρ,y,h1,R,er,f1,λcx H1 vx E1 R1 rx=>?_⟩;unfold af at e;split at e
 .split at e
  .rename_i k' w' el
   cases e;exact⟨_,_,rfl,rx.str_of,el,λv hv=>k cx H1 _ E1 R1 (hv cx H1)⟩
  .cases e
 .cases e
end
noncomputable def keyOf:W->Option Key
 | .int i=>À (.inl i)
 | .str x=>À (.inr x)
 | _=>Á
noncomputable def dM(l:List (Key×W))(k:Key):Option W:=(l.find? λkv=>decide (kv.1=k)).map (·.2)
noncomputable def hU(l:List (Key×W))(k:Key)(v:W):List (Key×W):=
 if (l.any λkv=>decide (kv.1=k))=Ã then l.map (λkv=>if kv.1=k then (kv.1,v) else kv) else l++[(k,v)]
noncomputable def uo(l more:List (Key×W)):List (Key×W):=more.foldl (λacc kv=>hU acc kv.1 kv.2) l
noncomputable def eI(h:MH):W->Option (List (Key×W))
 | .fdc l=>À l
 | .ref n=>match h[n]? with
  | some (.dic l)=>À l
  | _=>Á
 | _=>Á
inductive PR(K:NT)(μ:List Ç)(H:Hp):List (Key×W)->List (Key×V)->Prop
 | nil:PR K μ H [] []
 | cons {k:Key} {w:W} {v:V} {l:List (Key×W)} {l':List (Key×V)}:RW K μ H w v->PR K μ H l l'->PR K μ H ((k,w)::l) ((k,v)::l')
section
variable{K:NT}{cl:Cl}{μ hG:List Ç}{H H':Hp}{h:MH}
theorem RKs.pr:∀{l:List (Key×W)} {l':List (Key×V)},RKs K μ H l l'->PR K μ H l l'
 | [],[],_=>.nil
 | [],_::_,⟨k,_⟩=>by simp at k
 | _::_,[],⟨k,_⟩=>by simp at k
 | (k1,w)::l,(k2,v)::l',⟨k,r⟩=>by
  erw[zx,qK] at k;obtain⟨rfl,k⟩:=k;erw[zx] at r;cases r with | cons r t=>exact .cons r (RKs.pr ⟨k,t⟩)
theorem PR.rk:∀{l:List (Key×W)} {l':List (Key×V)},PR K μ H l l'->RKs K μ H l l'
 | _,_,.nil=>⟨rfl,.nil⟩
 | _,_,.cons r t=>⟨by simp[t.rk.1],.cons r t.rk.2⟩
theorem PR.len:∀{l:List (Key×W)} {l':List (Key×V)},PR K μ H l l'->l.length=l'.length
 | _,_,.nil=>rfl
 | _,_,.cons _ t=>jY (· + 1) t.len
theorem PR.val:∀{l:List (Key×W)} {l':List (Key×V)},PR K μ H l l'->match dM l k with
  | some w=>∃v,ub l' k=À v/\RW K μ H w v
  | none=>ub l' k=Á
 | _,_,.nil=>rfl
 | _,_,.cons (k:=k') (l:=l) (l':=l') (w:=w) (v:=v) r t=>by
  have ih:=PR.val (k:=k) t;by_cases q:k'=k
  .have e1:dM ((k',w)::l) k=À w:=by simp[dM,jA,q]
   rw[e1];exact⟨v,by simp[ub,jA,q],r⟩
  .have e1:dM ((k',w)::l) k=dM l k:=by simp[dM,jA,q]
   have e2:ub ((k',v)::l') k=ub l' k:=by simp[ub,jA,q]
   rw[e1,e2];exact ih
theorem PR.any:∀{l:List (Key×W)} {l':List (Key×V)},PR K μ H l l'->(l.any λkv=>decide (kv.1=k))=(l'.any λkv=>decide (kv.1=k))
 | _,_,.nil=>rfl
 | _,_,.cons _ t=>by erw[qL];rw[t.any]
theorem PR.map(r:RW K μ H w v):∀{l:List (Key×W)} {l':List (Key×V)},PR K μ H l l'->PR K μ H (l.map λkv=>if kv.1=k then (kv.1,w) else kv) (l'.map λkv=>if kv.1=k then (kv.1,v) else kv)
 | _,_,.nil=>.nil
 | _,_,.cons (k:=k') q t=>by
  erw[zx];by_cases z:k'=k
  .erw[z,jn];exact .cons r (t.map r)
  .erw[z,vA];exact .cons q (t.map r)
theorem PR.app:∀{l m:List (Key×W)} {l' m':List (Key×V)},PR K μ H l l'->PR K μ H m m'->PR K μ H (l++m) (l'++m')
 | _,_,_,_,.nil,s=>s
 | _,_,_,_,.cons r t,s=>.cons r (t.app s)
def PR.put(p:PR K μ H l l')(r:RW K μ H w v):PR K μ H (hU l k w) (putK l' k v):=by
 unfold hU putK;rw[<-p.any (k:=k)];split
 .exact p.map r
 .exact p.app (.cons r .nil)
def PR.merge{more:List (Key×W)}(q:PR K μ H more more')(p:PR K μ H l l'):PR K μ H (uo l more) (cw l' more'):=by
 induction q generalizing l l' with
 | nil=>exact p
 | cons r t ih=>exact ih (p.put r)
theorem PR.ext(R:HR K cl μ H h)(E:Ext μ H hG H'):∀{l:List (Key×W)} {l':List (Key×V)},PR K μ H l l'->PR K hG H' l l'
 | _,_,.nil=>.nil
 | _,_,.cons r t=>.cons (r.ext R E) (t.ext R E)
def ig(R:HR K cl μ H h)(r:RW K μ H w v)(e:eI h w=À l):∃a l',v=.ref a/\Rd H a (.dK l')/\PR K μ H l l':=by
 cases r with
 | @fdc a l0 l' ws vs s kk e1 e2 rs=>cases e;subst e1;subst e2;exact⟨a,l',rfl,s.1,RKs.pr ⟨kk,rs⟩⟩
 | @ref n a hn=>
  erw[eI] at e;split at e
  .rename_i l' ho
   cases e;obtain⟨l2,hv,rs⟩:=R.ob n a _ hn ho;exact⟨a,l2,rfl,.inl hv,RKs.pr rs⟩
  .cases e
 | _=>cases e
theorem fM(r:RW K μ H w v)(e:keyOf w=À k):v=kV k:=by
 cases r<;>cases e<;>rfl
theorem KQ.fdc{l:List (Key×W)}{l':List (Key×V)}{Q:VK}{p:Ç}(k:KQ K cl μ H h (.fdc l) Q)(R:HR K cl μ H h)(pr:PR K μ H l l')(hp:H p=Á):Q (.ref p) (upd H p (.dK l')):=
 k μ _ _ (.side hp) (R.side hp) (.fdc ⟨.inl va,R.fresh hp⟩ (pr.rk.1) rfl rfl ((pr.ext R (.side hp)).rk.2))
end
noncomputable def io(md mk mv:ME):ME:=λρ=>bnd (md ρ) λx h=>if (eI h x).isSome=Ã then bnd (mk ρ) (λy=>bnd (mv ρ) λz h=>match eI h x,keyOf y with
  | some l,À k=>À ((dM l k).getD z,h)
  | _,_=>Á) h else Á
section
variable{X:Cx}{cl:Cl}{o a b:Ë}{mo ma mb:ME}{apos cpos pos:õ}
def Qu(hu:X.A.units+64<ö)(ho:SE X cl o mo)(ha:SE X cl a ma)(hb:SE X cl b mb)(m:M2 X o "get" apos a b cpos:=by exact⟨rfl,rfl,rfl,rfl⟩):SE X cl (.Call (.Attribute o "get" apos) [a,b] [] cpos) (io mo ma mb):=
 PE.wk (Qb ∅ ho ha hb m) λσ H Q q0=>by
  obtain⟨μ,h,ρ,w,h',R,er,e,k⟩:=q0;obtain⟨x,h1,e1,e⟩:=kd e;split at e
  .rename_i hd
   obtain⟨y,h2,e2,e⟩:=kd e;obtain⟨z,h3,e3,e⟩:=kd e;refine⟨μ,h,ρ,x,h1,R,er,e1,λcx H1 vx E1 R1 rx=>?_⟩;obtain⟨l0,hd⟩:=qH.mp hd;obtain⟨d,l',rfl,rd,_⟩:=ig R1 rx hd;refine⟨d,rfl,.inl ⟨l',rd⟩,cx,h1,ρ,y,h2,R1,er.ext R E1,e2,λhX H2 vy E2 R2 ry=>⟨hX,h2,ρ,z,h3,R2,(er.ext R E1).ext R1 E2,e3,λAC H3 vz E3 R3 rz=>?_⟩⟩;split at e
   .rename_i l k' el ek
    cases e;obtain⟨d2,l2,ed,Mm,pr⟩:=ig R3 ((rx.ext R1 E2).ext R2 E3) el;cases ed;have hk:=fM ry ek;subst hk;refine⟨ub l2 k',.inl ⟨l2,k',Mm,rfl,rfl⟩,?_⟩;have E:=E1.trans (E2.trans E3);have:=pr.val (k:=k');cases ev:dM l k' with
    | none=>rw[ev] at this k;rw[this];exact k AC H3 _ E R3 rz
    | some w0=>rw[ev] at this k;obtain⟨v0,e0,r0⟩:=this;rw[e0];exact k AC H3 _ E R3 r0
   .cases e
  .cases e
def Yp:SE X cl (.Dict [] [] pos) (eC (.fdc [])):=
 PE.wk nA λσ H Q q0=>by
  obtain⟨μ,h,ρ,w,h',R,er,e,k⟩:=q0;cases e;exactλp hp=>k.fdc R .nil hp
noncomputable def Vr:ME:=λ_ h=>À (.ref h.length,h++[.dic []])
def Q3:SE X cl (.Dict [] [] pos) Vr:=
 PE.wk nA λσ H Q q0=>by
  obtain⟨μ,h,ρ,w,h',R,er,e,k⟩:=q0;cases e;exactλp hp=>k (μ++[p]) _ _ (.new hp) (R.new hp ⟨[],va,rfl,.nil⟩) (.ref (by rw[<-R.len];simp))
end
def Q7{A:Ò}(S:Stp it a P C)(hh:A.handled=Á)(AF:a≠it)(l:List Ä) :
  Draws prog w A it [it,a] l.length (λi v=>l[i]?=À v) (λi h=>P i h/\C h l) where
 live:=λ_ _ st=>let ⟨o,ho,_⟩:=S.obj st.1;⟨o,ho⟩
 frame:=λ_ _ _ st hk=>⟨S.keep st.1 λo e=>hk it (by simp) o e,S.keepC st.2 λo e=>hk a (by simp) o e⟩
 item:=λi s Q E hi st hQ=>S.item st.1 st.2 (x:=l[i]) (by simp[hi]) λh' G5 Ar=>hQ _ h' s.toks (by simp[hi]) ⟨G5,S.keepC st.2 λo e=>Ar.extBut _ _ AF e⟩ Ar
 done:=λs Q E st hE=>S.last hh st.1 st.2 (by simp) hE
section
variable{prog:Í}{w:Ð}{A:Ò}{E:Ä->Å->Prop}{s:Å}
def Ja(S:Stp it a P C){l:List Ä}(hh:A.handled=Á)
  (he:IsEnum s.heap e it j old) (p:P i s.heap) (c:C s.heap l) (hx:l[i]?=Á) (hQ:∀h',Ŀ it s.heap h'->Q Á { s with heap:=h' }):Ê (Ì prog w) A (ė (.ref e)) Q E s:=by
 have hT:s.TypeIs (.ref e) "enumerate":=⟨_,he,rfl⟩;unfold ė;refine za (qR (jE (name:=ÿ "__next__") hT F.slot_enumerate_next (j5 F.slot_enumerate_next hT F.entry_enumerate_next ?_ (F.args_enumerate_next_1 _))));show Ê _ _ (Ū (.ref e) 2 >>= _) _ _ _;refine za (jD he rfl (x:=.ref it) rfl ?_)
 refine za (S.last hh p c hx λh' x Mn G6=>?_);obtain⟨o,ho,hc⟩:=G6;refine za (vo (T:="StopIteration") (b:=Ã) ⟨o,ho,hc⟩ isSubtype_stop ?_);exact zy (hQ _ Mn)
end
def QX(r:i3 v o C) :
  Meets (ü.«enumerate.__new__» ⟨[.type "enumerate",v],[]⟩) (λ_ R s=>C s.heap/\R (.ok (.ret (.ref (s.heap.push o).objs.size))) { s with heap:=(s.heap.push o).push { cls:=.type "enumerate",data:=.fields #[.none,.bool Â,.ref s.heap.objs.size,ī 0,.none,.none] } }):=
 .of_wp λprog w A R s h=>by
  obtain⟨hp,g,d,tk,os⟩:=s;obtain⟨k1,h⟩:=h;have GV:=sub_enumerate;have q1:∀{A:Ò} {E:Ä->Å->Prop} {Q:Ä->Å->Prop},Q (.ref hp.objs.size) ⟨hp.push o,g,d,tk,os⟩->Ê (Ì prog w) A (ģ v) Q E ⟨hp,g,d,tk,os⟩:=λq=>r prog w _ _ _ _ k1 q
  wp_walk
  refine wpAny_stack_any λst=>zy ?_
  split
  .rename_i c _ _ _ _ _
   cases (c==ŏ "enumerate")<;>(wp_walk using q1;exact⟨_,rfl,h⟩)
  .wp_walk using q1
   exact⟨_,rfl,h⟩
section
variable{prog:Í}{w:Ð}{A:Ò}{E:Ä->Å->Prop}{s:Å}
def Jg{o:æ}(r:i3 v o C)(k1:C s.heap)(hf:o.isFreed=Â)
  (h:∀h',IsEnum h' (s.heap.objs.size+1) s.heap.objs.size 0 .none->h'.get? s.heap.objs.size=À o->(∀c o,s.heap.get? c=À o->h'.get? c=À o)->Q (.ref (s.heap.objs.size+1)) { s with heap:=h' }) :
  Ê (Ì prog w) A (call (.type "enumerate") [v]) Q E s:=by
 refine callType_new F.called_enumerate (by decide) (F.typeCall_enumerate_1 _) (F.newCall_enumerate_1 _) (λobj=>F.args_object_init_2 obj _) F.entry_enumerate_new (QX r) ⟨k1,?_⟩;have hz:(s.heap.push o).objs.size=s.heap.objs.size+1:=qe ..;have b2:((s.heap.push o).push { cls:=.type "enumerate",data:=.fields #[.none,.bool Â,.ref s.heap.objs.size,ī 0,.none,.none] }).get? (s.heap.push o).objs.size=À _:=zL _ rfl;have b1:((s.heap.push o).push { cls:=.type "enumerate",data:=.fields #[.none,.bool Â,.ref s.heap.objs.size,ī 0,.none,.none] }).get? s.heap.objs.size=À _:=zg _ (zL _ hf);show _/\_
 rw[hz] at b2 ⊢;exact⟨⟨_,b2,rfl⟩,h _ b2 b1 λc o x=>zg _ (zg _ x)⟩
end
noncomputable def Dt (K : NT) (tp : Bool) (a : Ç) : It :=
  ⟨λi H => ∃ xs x, ck K tp H a xs /\ xs[i]? = À x,
   λi H v H' => ∃ p x, H p = Á /\ v = .ref p /\ H' = upd H p (.tup [.int i, x]) /\ (∀ xs, ck K tp H a xs -> xs[i]? = À x),
   λi H => ∃ xs, ck K tp H a xs /\ xs.length <= i⟩
def Zz{P:Í}{w:Ð}{K:NT}(tp:Bool)(e it a:Ç)(AF:e≠it) :
  Turn P w K (.Tuple AJ n AK) (Dt K tp a) [e,it] e (λi h=>(∃old,IsEnum h e it i old)/\Ky tp it a i h) where
 mem:=by simp
 obj:=λi h st b hb=>by
  obtain⟨⟨old,he⟩,p⟩:=st;erw[zp,zm,zU] at hb;rcases hb with rfl | rfl
  .exact⟨_,he,λv q=>by cases q⟩
  .exact(yi tp _ a).obj p
 keep:=λi h h' st k=>by
  obtain⟨⟨old,he⟩,p⟩:=st;exact⟨⟨old,k e (by simp) _ he⟩,(yi tp it a).keep p λo q=>k it (by simp) o q⟩
 item:=by
  intro X hP hw hK hc i ag s σ H E I hf st hg;subst hP hw hK;obtain⟨xs,x,d,hx⟩:=hg;obtain⟨⟨old,he⟩,p⟩:=st;obtain⟨l,r,c⟩:=uh I d;obtain⟨u,eu,ru⟩:=r.get hx;have ae:a≠e:=uL I d (hf e (by simp));have ai:a≠it:=uL I d (hf it (by simp));refine wpAny_pyNext_enum_itemD (Q7 (A:=X.A.in1) (yi tp it a) (I.ok.hd hc) ai l) he ⟨p,c⟩ (zJ.mp eu).1 AF (by simp[AF,kZ ae]) λx' h' tk hP ho EA hT hsz hk=>⟨_,rfl,?_⟩
  rw[eu] at hP;cases hP;refine wpAny_letOwnedTupleGo_enum ho λh2 F9 AZ=>?_
  have elt:e<s.heap.objs.size:=zz he;have HN:h2.get? s.heap.objs.size=À { cls:=.type "tuple",data:=.seq #[.int i tk,u] }:=AZ.extBut _ _ (qI elt) hT;have I2:Inv X ag σ (upd H s.heap.objs.size (.tup [.int i,x])) { s with heap:=h2,toks:=tk+1 }:=dY (t':=tk+1) (fp:=[e,it]) I (λb o hb q=>AZ.extBut _ _ (λz=>hb (by simp[z])) (hk b o (λz=>hb (by simp[z])) (λz=>hb (by simp[z])) q)) hf (zF _)
   ⟨by show 2<=sizeLine;decide,[.int i tk,u],.cons ⟨tk,rfl⟩ (.cons ru .nil),⟨_,HN,rfl,_,rfl⟩,⟨_,HN,rfl⟩⟩
  refine⟨.ref s.heap.objs.size,_,I2,rfl,⟨_,x,I.hok.fresh (zF _),rfl,rfl,λMf q=>by rw[lV I q d];exact hx⟩,⟨⟨_,F9⟩,(yi tp it a).keep EA.1 λo q=>AZ.extBut _ _ (kZ AF) q⟩,λb hb=>?_⟩;obtain⟨o,q⟩:∃o,s.heap.get? b=À o:=by
   erw[zp,zm,zU] at hb;rcases hb with rfl | rfl
   .exact⟨_,he⟩
   .obtain⟨o,q,_⟩:=(yi tp _ a).obj p;exact⟨o,q⟩
  rw[kK (zT (zz q))];exact(hf b hb).1
 done:=by
  intro X hP hw hK hc i ag s σ H E I hf st hg;subst hP hw hK;obtain⟨xs,d,hx⟩:=hg;obtain⟨⟨old,he⟩,p⟩:=st;obtain⟨l,r,c⟩:=uh I d;exact Ja (yi tp it a) (I.ok.hd hc) he p c (qt (by rw[<-r.length];exact hx)) λh' G6=>⟨rfl,iQ (t':=s.toks) (fp:=[e,it]) I (λb o hb q=>G6 b o (λz=>hb (by simp[z])) q) hf⟩
 self:=λ_ _ _ _ _ st h=>by obtain⟨⟨old,he⟩,_⟩:=st;exact Ŧ he h
noncomputable def numbered(l:List W):List W:=l.zipIdx.map λp=>.tup [.int (p.2:Nat),p.1]
noncomputable def V3(ws:List W):M Src:=λh=>match ws with
 | [x]=>match gf h x with
  | some l=>À (.items (numbered l),h)
  | none=>Á
 | _=>Á
noncomputable def Zy(ms:List ME):MI:=λρ=>bnd (ke ms ρ) V3
def fz(l:List W)(i:Nat):(numbered l)[i]?=(l[i]?).map λw=>.tup [.int (i:Nat),w]:=by
 unfold numbered;rw[jr,List.getElem?_zipIdx];cases l[i]?<;>simp
section
variable{X:Cx}{cl:Cl}{AJ:List Ë}{n:Nat}{AK p pos:õ}{e1:Ë}{ms:List ME}
def YG(hm:X.mg "enumerate" = Á)(ha:SA X cl [e1] ms)(hg:↥(Gl X "enumerate"))(Aa:↥(É [e1] X.env=(Â,eval e1 X.env)::É [] X.env))(xa:↥((Ö pos (É [] X.env)).any (·.1)=Â)) :
  SI X cl (.Tuple AJ n AK) (.Call (.Name "enumerate" p) [e1] [] pos) (Zy ms):=by
 rintro ag s σ H R I ⟨μ,h,ρ,src,h',R0,er,e,k⟩;obtain⟨ws,h1,Eh,e⟩:=kd e;have hv:Ñ "enumerate" = À (.type "enumerate"):=by decide +kernel
 refine jF (u7 I hg hm hv ?_ (by decide) (by decide));refine jC (kq (ha pos ag s σ H (λvs H1=>∃cx,Ext μ H cx H1/\HR X.K cl cx H1 h1/\RWs X.K cx H1 ws vs) I ⟨μ,h,ρ,ws,h1,R0,er,Eh,λcx H1 vs E1 R1 rs=>⟨cx,E1,R1,rs⟩⟩) ?_) Aa xa;rintro us s1 ⟨vs,H1,I1,r1,cx,E1,R1,rs⟩;unfold V3 at e;split at e
 .rename_i x
  split at e
  .rename_i l q1
   cases e;cases rs with | cons rx t=>cases t with | nil=>
   obtain⟨t1,a1,xs,rfl,FF,d1,f1⟩:=gT (cl:=cl) rx q1;obtain⟨u1,rfl,Ew⟩:=r1.one;cases Ew;obtain⟨l1,v1,c1⟩:=uh I1 d1;refine Jg (tT t1 a1 l1) c1 (gY t1 a1) λh2 b2 b1 kp=>?_
   refine Ŧ b2 ?_;refine⟨_,_,_,_,H1,rfl,I1.kept (t':=s1.toks) kp,Zz t1 _ _ a1 (Nat.succ_ne_self _),⟨⟨_,b2⟩,ly b1⟩,λb hb=>?_,k cx H1 _ E1 R1 ?_⟩
   .have FG:s1.heap.objs.size<=b:=by
     erw[zp,zm,zU] at hb;rcases hb with rfl | rfl<;>omega
    exact I1.fpOk FG (I1.hok.fresh FG)
   .intro hX H2 h3 E2 R2 i
    have Ey:=f1 hX H2 h3 R1 E2 R2;have Ez:=FF.ext R1 E2;refine⟨λw ew=>?_,λes=>?_⟩
    .have Ab:(numbered l)[i]?=À w:=zP ew
     rw[fz] at Ab;cases ez:l[i]? with
     | none=>rw[ez] at Ab;cases Ab
     | some w0=>
      rw[ez] at Ab;cases Ab;obtain⟨vx,FH,G1⟩:=Ez.get ez;refine⟨⟨xs,vx,Ey,FH⟩,λv H3 yl=>?_⟩;obtain⟨pp,x',hp,rfl,rfl,w1⟩:=yl;have z1:=w1 xs Ey;rw[FH] at z1;cases z1;exact⟨.side hp,R2.side hp,.tup (SqT.of va) (.cons (.int _) (.cons (G1.ext R2 (.side hp)) .nil))⟩
    .have Au:(numbered l)[i]?=Á:=zP es
     rw[fz] at Au;refine⟨xs,Ey,?_⟩;rw[<-FF.length];cases ez:l[i]? with
     | none=>exact jz.mp ez
     | some w0=>rw[ez] at Au;cases Au
  .cases e
 .cases e
end
end ML
section
namespace ML
open PySem PySem.Spec PyProof.Rows L2
end ML
namespace ML
open PySem PySem.Spec PyProof.Rows L2
noncomputable def strsOf:List W->Option (List È)
 | []=>À []
 | .str b::r=>match strsOf r with
  | some l=>À (b::l)
  | none=>Á
 | _=>Á
end ML
end
section
namespace ML
open PySem PySem.Spec PyProof.Rows L2
noncomputable def keysOf:List (W×W)->Option (List (Key×W))
 | []=>À []
 | (x,y)::r=>match keyOf x,keysOf r with
  | some k,À l=>À ((k,y)::l)
  | _,_=>Á
noncomputable def pairsOf:List W->Option (List (W×W))
 | []=>À []
 | .tup [x,y]::r=>match pairsOf r with
  | some l=>À ((x,y)::l)
  | none=>Á
 | _=>Á
noncomputable def fU(ws:List W):M W:=λh=>match ws with
 | [w]=>match eI h w with
  | some l=>À (.fdc l,h)
  | none=>match getL h w with
   | some l=>match pairsOf l with
    | some ps=>match keysOf ps with
     | some ks=>if ks.length<=1000 then À (.fdc (uo [] ks),h) else Á
     | none=>Á
    | none=>Á
   | none=>Á
 | _=>Á
end ML
end
namespace ML
open PySem PySem.Spec PyProof.Rows L2
def Yl(h:T="list" \/ T="tuple" \/ T="zip"):Č (.type T) "keys" = pure Á:=by
 rcases h with rfl | rfl | rfl<;>(rw[wD,vd];kernel_rfl)
def YK(h:T="list" \/ T="tuple" \/ T="zip"):Č (.type T) "__getattr__" = pure Á:=by
 rcases h with rfl | rfl | rfl<;>(rw[wD,vd];kernel_rfl)
def gL:isSubtype (.type "AttributeError") (.type "AttributeError")=pure Ã:=by rw[isSubtype_type];kernel_rfl
section
variable{prog:Í}{w:Ð}{A:Ò}{E:Ä->Å->Prop}{s:Å}
theorem WE{name:Ä}(he:s.heap.get? e=À { cls:=.type "AttributeError",data:=.fields #[v0,v1,v2,v3,v4,v5,ī 0,ī 0] })
  (hq:∀h' ob,Ŀ e s.heap h'->h'.get? e=À ob->ob.cls=.type "AttributeError"->Q () { s with heap:=h' }):Ê (Ì prog w) A (noteAttr (.ref e) o name) Q E s:=by
 have hT:s.TypeIs (.ref e) "AttributeError":=⟨_,he,rfl⟩;unfold noteAttr;refine za ?_;unfold lacksNameAndObj;refine za (vo hT gL ?_);erw[Bool.not_true,qm,vA];refine za (ŵ he ?_);refine zy ?_;erw[jn];refine za (qP (za (qC hT ?_)));show Ê _ _ (layMembers e 6 #[name,o]) _ _ s
 unfold layMembers;refine za (ŵ he ?_);refine wpAny_update he (hq _ _ (yp ..).extBut (j9 _ he ?_) ?_)
 .rfl
 .rfl
def tO{α:Type}{o:Ä}{x msg:È}{Q:α->Å->Prop}(hh:A.handled=Á)(hm:msg.length<=sizeLine)
  (hq:∀h' Av e,(∀b ob,s.heap.get? b=À ob->h'.get? b=À ob)->(∃ob,h'.get? e=À ob/\ob.cls=.type "AttributeError")->E (.ref e) { s with heap:=h',toks:=Av }):Ê (Ì prog w) A (raiseAttrError o x msg:Sem α) Q E s:=by
 unfold raiseAttrError;refine za (wpAny_mkStr (za ?_) hm);unfold newExc newTuple;refine za (jx ?_);refine za (m:=ŀ _ _) (wj (a:=î) (by first | rfl | kernel_rfl) ?_);refine jx ?_;refine za (Ť (za ?_));refine WE (zL _ rfl) λh' ob hx ho hc=>?_
 unfold raiseNew;refine za (wpAny_handled ?_);rw[hh];first
  | refine xm ?_
  | refine za (zy (xm ?_))
 refine hq _ _ _ (λb Mo hb=>hx b Mo ?_ (zg _ (zg _ hb))) ⟨ob,ho,hc⟩;refine zT (zN (zz hb) ?_);simp
end
section
variable{prog:Í}{w:Ð}{A:Ò}{E:Ä->Å->Prop}{h:Ï}{g:Array ĸ}{d:Drawn}{t:Nat}{os:č}{a:Ç}{items:Array Ä}{n:Nat}{sl:Array (Option Ä)}{dd:Option Ç}
noncomputable def YY(h:Ï)(g:Array ĸ)(d:Drawn)(os:č)(E:Ä->Å->Prop):Prop:=∀h' Av e,(∀b ob,h.get? b=À ob->h'.get? b=À ob)->(∃ob,h'.get? e=À ob/\ob.cls=.type "AttributeError")->E (.ref e) ⟨h',g,d,Av,os⟩
set_option maxHeartbeats 1000000 in
def JJ(hh:A.handled=Á)(hx:h.get? a=À { cls:=.type "list",dict:=Á,data:=.seq items n,slots:=sl })(hq:YY h g d os E) :
  Ê (Ì prog w) A (ü.«object.__getattribute__» ⟨[.ref a,.str "keys" tk],[]⟩) Q E ⟨h,g,d,t,os⟩:=by
 have hT:(⟨h,g,d,t,os⟩:Å).TypeIs (.ref a) "list":=⟨_,hx,rfl⟩;have f4:=Yl (T:="list") (.inl rfl);repeat (any_goals (first | assumption | wp_step))
 refine tO hh ⋯ λh' Av e k1 k2=>hq h' Av e k1 k2
def oM(hh:A.handled=Á)(hx:h.get? a=À { cls:=.type "list",dict:=Á,data:=.seq items n,slots:=sl })(hq:YY h g d os E):Ê (Ì prog w) A (getAttrBy (.ref a) (.str "keys" tk) Â) Q E ⟨h,g,d,t,os⟩:=by
 have hT:(⟨h,g,d,t,os⟩:Å).TypeIs (.ref a) "list":=⟨_,hx,rfl⟩;have f2:=v9.lookup;have f3:=v9.bind (.ref a);unfold getAttrBy;refine jf (za (qC hT (za (wj f2 ?_))));show Ê _ _ (ĵ (.ref a) (.str "keys" tk) (.type "list") (.builtin "list.__getattribute__") Â Â) _ _ _
 unfold ĵ;refine za (zy ?_);refine za (qR ?_);refine jf ?_;show Ê _ _ (Ľ (.builtin "list.__getattribute__") (.ref a) (.str "keys" tk)) _ _ _
 unfold Ľ;refine za (wj f3 ?_);refine j5 v9 hT F.entry_list_ga ?_ (F.args_list_getattribute_2 _ _);refine JJ hh hx λh' Av e k1 k2=>?_
 obtain⟨ob,ho,hc⟩:=k2;have Mp:(⟨h',g,d,Av,os⟩:Å).TypeIs (.ref e) "AttributeError":=⟨_,ho,hc⟩;show Ê _ _ (œ (.ref a) (.str "keys" tk) (.type "list") (.ref e) Á Â Â) _ _ _
 unfold œ;refine za (vo Mp gL ?_);erw[jn];refine za (wj (show hookBehind (.type "list") Á=pure Á from YK (.inl rfl)) ?_);show Ê _ _ (Ł (.ref a) (.str "keys" tk) (.ref e) Â Â) _ _ _
 unfold Ł;erw[Bool.not_false,jn];exact xm (hq h' Av e k1 ⟨ob,ho,hc⟩)
def oa(hh:A.handled=Á)(hx:h.get? a=À { cls:=.type "list",dict:=Á,data:=.seq items n,slots:=sl })(hq:∀h' Av,(∀b ob,h.get? b=À ob->h'.get? b=À ob)->Q Á ⟨h',g,d,Av,os⟩):Ê (Ì prog w) A (ž (.ref a) "keys") Q E ⟨h,g,d,t,os⟩:=by
 unfold ž getAttrBy?;refine za (Ť ?_);refine za (qR (oM hh hx λh' Av e k1 k2=>?_));obtain⟨ob,ho,hc⟩:=k2;refine za (vo (T:="AttributeError") (b:=Ã) ⟨ob,ho,hc⟩ gL ?_);exact zy (hq h' Av k1)
end
def mM:entryFor table "dict.update.loop" = À ü.«dict.update.loop»:=entryFor_of_tree Nu
def dA:plainId "dict.update.loop" = Ã:=by decide +kernel
section
variable{prog:Í}{w:Ð}{A:Ò}{R:Result->Å->Prop}{I D:Ç}{fp wr:List Ç}{n:Nat}{P:Nat->Ä->Prop}{St:Nat->Ï->Prop}{h0:Ï}{us:List Ä}{gy:List (Key×Ä)}
noncomputable def lS(knd:KeyKind prog w Key)(h:Ï)(us:List Ä)(gy:List (Key×Ä)):Prop:=us.length=gy.length/\∀(i:Nat) (u:Ä) (kv:Key×Ä),us[i]?=À u->gy[i]?=À kv->∃T k,u=.ref T/\Ĳ h T #[k,kv.2]/\knd.is kv.1 k=Ã
def J0(knd:KeyKind prog w Key)(W:ſ prog w A.in1 I fp wr us.length (λi v=>us[i]?=À v) St)(HP:D∉fp)(Mq:h0.get? D=Á)(HQ:∀b∈wr,h0.get? b=Á)(hp:lS knd h0 us gy)(hz:gy.length<=1000) :
  ∀(k i:Nat) (tk:ū) (s:Å),us.length-i=k->i<=us.length->St i s.heap->s.heap.DictOf knd D (ź [] (gy.take i))->(∀b o,h0.get? b=À o->s.heap.get? b=À o)->
   (∀h' Av,h'.DictOf knd D (ź [] gy)->(∀b o,h0.get? b=À o->h'.get? b=À o)->R (.ok (.ret .none)) { s with heap:=h',toks:=Av })->
   ĉ (Ì prog w) A (.builtin "dict.update.loop" ⟨[.ref D,.ref I,.int i tk,.none],[]⟩) R s:=by
 have HS:D∉wr:=λh=>HP (W.sub _ h)
 intro k;induction k with
 | zero=>
  intro i tk s hk hi Aa hd G7 hR;obtain rfl:i=us.length:=by omega
  refine xr mM ?_;rw[Around.under_plainId dA _];show Ê _ A.in1 (ė (.ref I) >>= _) _ _ s;refine za (W.done s _ _ Aa λh' Av kk=>?_)
  show Ê _ A.in1 (Builtin.Dict.addKeywords D [] >>= _) _ _ _
  refine za (zy (zy (hR h' Av ?_ λb o e=>kk b o (λz=>by rw[HQ b z] at e;cases e) (G7 b o e))));rw[hp.1,List.take_length] at hd;obtain⟨o,es,ep,ho,rest⟩:=hd;exact⟨o,es,ep,kk D o HS ho,rest⟩
 | succ k ih=>
  intro i tk s hk hi Aa hd G7 hR;have Ap:i<us.length:=by omega
  refine xr mM ?_;rw[Around.under_plainId dA _];show Ê _ A.in1 (ė (.ref I) >>= _) _ _ s;refine za (W.item i s _ _ Ap Aa λv h' Av hv EA kk=>?_)
  have ES:i<gy.length:=by rw[<-hp.1];exact Ap
  obtain⟨T,key,rfl,hT,HU⟩:=hp.2 i v gy[i] hv (kO ES);have keep:∀b o,h0.get? b=À o->h'.get? b=À o:=λb o e=>kk b o (λz=>by rw[HQ b z] at e;cases e) (G7 b o e)
  have DU:Ĳ h' T #[key,gy[i].2]:=by obtain⟨o,ho,r⟩:=hT;exact⟨o,keep T o ho,r⟩
  have A6:h'.DictOf knd D (ź [] (gy.take i)):=by obtain⟨o,es,ep,ho,rest⟩:=hd;exact⟨o,es,ep,kk D o HS ho,rest⟩
  show Ê _ A.in1 (holding [Ú T] _ >>= _) _ _ _
  refine za (jf (za (wpAny_tryCatch ?_)));unfold Builtin.Dict.pairItems;refine za (qC DU.typeIs ?_);rw[zW (by decide)];obtain⟨oT,Mr,Nv,nT,Ms⟩:=DU;refine za (jV Mr Ms (zy ?_));show Ê _ _ (holding [key,gy[i].2] (dictSet D key gy[i].2)) _ _ _
  refine jf ?_;unfold dictSet;try with_reducible refine jf ?_
  refine za (knd.pyHash HU ?_);refine wpAny_dictSetHashed_pairs (s:={ s with heap:=h',toks:=Av+1 }) HU A6 (λh2 hd2 sb=>?_) (by have:=merged_length_le ([]:List (Key×Ä)) (gy.take i);rw[jW] at this;simp at this;exact zG (zG this ∅) (show 1000<=sizeLine by decide));refine zy ⟨yw dA _,ih (i+1) _ _ ∅ Ap (W.frame _ _ _ EA λb hb o e=>?_) ?_ (λb o e=>?_) λh3 Mt Mu k3=>?_⟩
  .rw[sb.2 b (λz:b=D=>HP (by rw[<-z];exact hb))];exact e
  .rw[merged_take_succ [] gy i gy[i] (kO ES)];exact hd2
  .rw[sb.2 b (λz:b=D=>by rw[z,Mq] at e;cases e)];exact keep b o e
  .exact hR h3 Mt Mu k3
end
section
variable{prog:Í}{w:Ð}{A:Ò}{E:Ä->Å->Prop}{s:Å}{us:List Ä}{gy:List (Key×Ä)}{l:Ç}{n:Nat}{sl:Array (Option Ä)}
def lC(knd:KeyKind prog w Key)(hh:A.handled=Á)(hl:s.heap.get? l=À { cls:=.type "list",dict:=Á,data:=.seq us.toArray n,slots:=sl })(hp:lS knd s.heap us gy)(hz:gy.length<=1000)
  (h:∀h' Av,h'.DictOf knd s.heap.objs.size (ź [] gy)->(∀b o,s.heap.get? b=À o->h'.get? b=À o)->Q (.ref s.heap.objs.size) { s with heap:=h',toks:=Av }):Ê (Ì prog w) A (call (.type "dict") [.ref l]) Q E s:=by
 refine callType_codes (Q₁:=λobj hJ=>obj=.ref s.heap.objs.size/\hJ={ s with heap:=s.heap.push { cls:=.type "dict",data:=.dict #[] } }) F.kt_called_dict (F.kt_typeCall_dict_1 _) F.entry_dict_init (kt_code_dict_new _ ⟨rfl,rfl⟩) ?_;rintro obj hJ ⟨rfl,rfl⟩;have AD:(s.heap.push { cls:=.type "dict",data:=.dict #[] }).DictOf knd s.heap.objs.size []:=Heap.DictOf.new s.heap;refine⟨AD.typeIs,F.args_dict_init_2 _ _,?_⟩;unfold ü.«dict.__init__»;refine za ?_;unfold Builtin.Dict.selfAndRest;refine za (wpAny_notOrdered_dict AD.typeIs ?_);show Ê _ _ (pure (s.heap.objs.size,[Ú l])) _ _ _
 refine zy ?_;show Ê _ _ (Builtin.Dict.updateFrom "dict.__init__" s.heap.objs.size (.ref l) [] .none) _ _ _
 unfold Builtin.Dict.updateFrom;have ET:(s.heap.push { cls:=.type "dict",data:=.dict #[] }).get? l=À _:=zg _ hl;refine za (qC (T:="list") ⟨_,ET,rfl⟩ ?_);rw[zW (by decide)];have Mv:A.in1.in1.handled=Á:=by simpa using hh
 refine za (oa Mv ET λh1 Nw k1=>?_);erw[Option.isNone_none,jn];have Hz:=k1 _ _ ET;have hL:h1.IsList l us.toArray:=⟨_,Hz,rfl,n,rfl⟩;refine za (qP ?_);refine za (qY hL ?_);have k0:∀b o,s.heap.get? b=À o->h1.get? b=À o:=λb o e=>k1 b o (zg _ e)
 have EB:s.heap.objs.size<h1.objs.size:=by obtain⟨o,es,ep,ho,_⟩:=AD;exact zz (k1 _ _ ho)
 have FI:l<s.heap.objs.size:=zz hl;have Mw:h1.DictOf knd s.heap.objs.size []:=by obtain⟨o,es,ep,ho,rest⟩:=AD;exact⟨o,es,ep,k1 _ _ ho,rest⟩
 have AF:l≠h1.objs.size:=zT (wY FI EB);have W0:=xP (prog:=prog) (w:=w) (A:=A.in1.in1) (by simpa using hh) h1.objs.size l AF us.toArray;have W1:ſ prog w A.in1.in1 h1.objs.size [h1.objs.size,l] [h1.objs.size] us.length (λi v=>us[i]?=À v) (λi h=>h.IsListIter h1.objs.size l i/\h.IsList l us.toArray):=by simpa using W0
 refine zy ⟨yw dA _,J0 (h0:=s.heap) knd W1 ?_ ?_ ?_ hp hz us.length 0 _ _ rfl (wA _) ⟨⟨_,zL _ rfl,rfl,rfl⟩,hL.at λo e=>zg _ e⟩ ?_ (λb o e=>zg _ (k0 b o e)) λh' Av A6 k'=>?_⟩
 .erw[zp,zm,zU,wF]
  exact⟨zT EB,qI FI⟩
 .exact wV (zF _)
 .intro b hb
  erw[zp,zm,zU] at hb;rw[hb];exact wV (wZ EB)
 .obtain⟨o,es,ep,ho,rest⟩:=Mw
  exact⟨o,es,ep,zg _ ho,rest⟩
 .exact⟨rfl,h h' Av A6 k'⟩
end
end ML
namespace ML
open PySem PySem.Spec PyProof.Rows L2
section
variable{X:Cx}{cl:Cl}
theorem oZ{K:NT}{μ:List Ç}{H:Hp}:∀{l:List W} {vs:List V} {ps:List (W×W)} {ks:List (Key×W)},RWs K μ H l vs->pairsOf l=À ps->keysOf ps=À ks->
  ∃Ay:List (Key×V),PR K μ H ks Ay/\vs.length=Ay.length/\∀(i:Nat) (v:V) (kv:Key×V),vs[i]?=À v->Ay[i]?=À kv->∃T,v=.ref T/\SqT K H T [kV kv.1,kv.2]
 | [],_,_,_,.nil,e1,e2=>by
  cases e1;cases e2;exact⟨[],.nil,rfl,λi v kv e=>by simp at e⟩
 | w::l,_,ps,ks,.cons (v:=v) r t,e1,e2=>by
  have hw:∃x y,w=.tup [x,y]:=by
   unfold pairsOf at e1;split at e1
   .rename_i hd;cases hd
   .rename_i x y r' hd;cases hd;exact⟨x,y,rfl⟩
   .cases e1
  obtain⟨x,y,rfl⟩:=hw;unfold pairsOf at e1;split at e1
  .rename_i l' e3
   cases e1;unfold keysOf at e2;split at e2
   .rename_i k lk e4 e5
    cases e2;obtain⟨Ay,p,hl,hi⟩:=oZ t e3 e5;obtain⟨T,Nx,rfl,sq,rr⟩:=r.tup_of;cases rr with | cons r1 rr=>cases rr with | @cons _ v2 _ _ r2 rr=>cases rr with | nil=>
    have:=fM r1 e4;subst this;refine⟨(k,v2)::Ay,.cons r2 p,by simp[hl],λi v kv ev ek=>?_⟩;cases i with
    | zero=>simp at ev ek;subst ev;subst ek;exact⟨T,rfl,sq⟩
    | succ i=>exact hi i v kv (by simpa using ev) (by simpa using ek)
   .cases e2
  .cases e1
theorem pairs_at{s:Å}{H:Hp}(I:Inv X ag σ H s):∀{vs:List V} {cb:List Ä} {Ay:List (Key×V)},Vals vs cb->vs.length=Ay.length->
  (∀(i:Nat) (v:V) (kv:Key×V),vs[i]?=À v->Ay[i]?=À kv->∃T,v=.ref T/\SqT X.K H T [kV kv.1,kv.2])->∃gy,KV Ay gy/\lS (vc X.prog X.w) s.heap cb gy
 | _,_,[],.nil,_,_=>⟨[],.nil,rfl,λi u kv e=>by simp at e⟩
 | _,_,_::_,.nil,hl,_=>by simp at hl
 | _,_,[],.cons _ _,hl,_=>by simp at hl
 | _,_,(k,v2)::Ay,.cons (a:=v) (b:=u) r t,hl,hi=>by
  obtain⟨gy,q1,q2,q3⟩:=pairs_at I t (by simpa using hl) λi v kv e1 e2=>hi (i+1) v kv (by simpa using e1) (by simpa using e2)
  obtain⟨T,rfl,sq⟩:=hi 0 v (k,v2) (by simp) (by simp);obtain⟨Ny,rv,ht,_⟩:=I.tuple sq;obtain⟨u1,u2,rfl,Ew,El⟩:=vals2 rv;cases r;refine⟨(k,u2)::gy,.cons ⟨rfl,El⟩ q1,by simp[q2],λi u kv e1 e2=>?_⟩;cases i with
  | zero=>simp at e1 e2;subst e1;subst e2;exact⟨T,u1,rfl,ht,mT Ew⟩
  | succ i=>exact q3 i u kv (by simpa using e1) (by simpa using e2)
def sX(hc:X.calm=Ã):qV X (.type "dict") (rMs X.K cl fU):=by
 rintro ag s σ H xs us Q I rs ⟨μ,h,ws,w,h',R,ax,e,k⟩;unfold fU at e;split at e
 .cases ax with | cons r t=>cases t with | nil=>
  obtain⟨u,rfl,ru⟩:=rs.one;split at e
  .rename_i l el
   cases e;obtain⟨a,l',rfl,rd,pr⟩:=ig R r el;cases ru;exact Qj I rd λp s' hp I'=>⟨.ref p,_,I',rfl,k.fdc R pr hp⟩
  .split at e
   .rename_i l el
    split at e
    .rename_i ps ep
     split at e
     .rename_i ks ek
      split at e
      .rename_i lx
       cases e;obtain⟨a,vs,rfl,sa,ra⟩:=wc R r el;cases ru;obtain⟨Ay,pr,hl,hi⟩:=oZ ra ep ek;obtain⟨cb,rv,⟨⟨oc,od,Nz,A9⟩,n,g1,g2,g3,g4⟩,_⟩:=I.list sa;simp only at g2 g3 g4;subst g2 g3 g4;obtain⟨gy,q1,q2⟩:=pairs_at I rv hl hi;have ES:Ay.length=gy.length:=q1.length;refine lC (vc X.prog X.w) (I.ok.hd hc) g1 q2 (by rw[<-ES,<-pr.len];exact lx) λh2 tk dd kp=>?_
       have rel:KV (cw [] Ay) (ź [] gy):=q1.merge .nil;have hz:(cw [] Ay).length<=sizeLine:=by
        have h1:=ft Ay [];rw[zR] at h1;rw[qZ];have:=pr.len;omega
       exact⟨.ref _,_,I.laid (a:=s.heap.objs.size) (o:=.dK (cw [] Ay)) (t':=tk) kp (zF _) (og hz (jB.mpr (kZ (zT I.big))) rel dd),rfl,k.fdc R (pr.merge .nil) (I.hok.fresh (zF _))⟩
      .cases e
     .cases e
    .cases e
   .cases e
 .cases e
end
end ML
section
namespace ML
open PySem PySem.Spec PyProof.Rows L2
def XU{P:Í}{w:Ð}{K:NT}{mg:È->Option Ä}{base:Ï}{cl:Cl}{x qual:È}{st:ì}{N ps:List È}(F:Fun K x qual st f fd)(Ag:kF st=sc)(G8:qA st=bd)(S:FnScope N ps sc)(AG:ps.length=np)(Af:N.length-np=ns)
  (hb:∀(pf:Ä) (A:Ò) (outer:List Ŭ) (s:Å) (H:Hp) (E:XK),Room k (A.deeper (û qual sc s.heap.objs.size f pf))->
   SB (uj bP P w K mg base N qual sc f pf A outer s H E).nox cl bd b):FnOk P w K mg base bP (k+1) f fd ps (uZ K cl (gc (k8 np ns b))):=by
 subst Ag G8;exact Cc F S AG Af hb
noncomputable def QA(sc:Þ)(x:È):Bool:=match sc.names.lookup x with
 | some .local=>Ã
 | some .cell=>Ã
 | some .free=>Ã
 | _=>Â
noncomputable def Za(sc:Þ)(x:È):Bool:=match sc.names.lookup x with
 | some .local=>Ã
 | some .cell=>Ã
 | _=>Â
noncomputable def QG(sc:Þ)(N:List È)(i:Nat)(x:È):Bool:=N[i]?==À x&&QA sc x && !(x==("__debug__":È)) && !(x==("__classdict__":È))
noncomputable def setB(sc:Þ)(N:List È)(i:Nat)(x:È):Bool:=N[i]?==À x&&Za sc x
noncomputable def setC(sc:Þ)(N:List È)(i:Nat)(x:È):Bool:=N[i]?==À x&&sc.names.lookup x==À .local
noncomputable def vv(sc:Þ)(x:È):Bool:=sc.names.lookup x==À .globalImplicit && !(x==("__debug__":È)) && !(x==("__name__":È))
section
variable{X:Cx}{cl:Cl}{x:È}{pos Ao p:õ}{sc:Þ}{N:List È}{i:Nat}{e:Ë}{m:ME}
def Wn(h:QA sc x=Ã):gD sc x:=by
 unfold QA at h;split at h
 .rename_i q;exact .inl q
 .rename_i q;exact .inr (.inl q)
 .rename_i q;exact .inr (.inr q)
 .cases h
def bo(h:Za sc x=Ã):Loc sc x:=by
 unfold Za at h;split at h
 .rename_i q;exact .inl q
 .rename_i q;exact .inr q
 .cases h
def v_(h:QG sc N i x=Ã)(hs:↥(X.env.scope=sc))(hN:↥(X.N=N)):SE X cl (.Name x pos) (zd i):=by
 unfold QG at h;erw[zb,qj,zZ] at h;exact Z3 i (by rw[hN];exact h.1.1.1) (by rw[hs];exact Wn h.1.1.2) h.1.2 h.2
def g_(h:setB sc N i x=Ã)(AM:N.Nodup)(hs:↥(X.env.scope=sc))(hN:↥(X.N=N))(hf:↥(X.fn x=Ã)):SG X cl (.Name x pos) (zD i):=by
 unfold setB at h;erw[zb,qj] at h;exact pY i (by rw[hN];exact AM) (by rw[hN];exact h.1) (by rw[hs];exact bo h.2) (.inl hf)
def Dk(h:setC sc N i x=Ã)(AM:N.Nodup)(hs:↥(X.env.scope=sc))(hN:↥(X.N=N)):SG X cl (.Name x pos) (zD i):=by
 unfold setC at h;erw[zb,qj] at h;exact pY i (by rw[hN];exact AM) (by rw[hN];exact h.1) (by rw[hs];exact .inl h.2) (.inr (by rw[hs];exact h.2))
def s_(h:setB sc N i x=Ã)(AM:N.Nodup)(he:SE X cl e m)(hs:↥(X.env.scope=sc))(hN:↥(X.N=N))(hf:↥(X.fn x=Ã))(A0:↥(ç e (À (.Name x Ao)) pos.line X.env=pure Â)):SS X cl (.Assign [.Name x Ao] e pos) (zS m (zD i)):=by
 unfold setB at h;erw[zb,qj] at h;exact KZ i (by rw[hN];exact AM) he (by rw[hN];exact h.1) (by rw[hs];exact bo h.2) A0 (.inl hf)
def DC(h:setB sc N i x=Ã)(AM:N.Nodup)(ho:Jt X op (rM X.K cl f))(he:SE X cl e m)(hs:↥(X.env.scope=sc))(hN:↥(X.N=N))(hf:↥(X.fn x=Ã)):SS X cl (.AugAssign (.Name x Ao) op e pos) (ff i f m):=by
 unfold setB at h;erw[zb,qj] at h;exact Ud i (by rw[hN];exact AM) ho he (by rw[hN];exact h.1) (by rw[hs];exact bo h.2) (.inl hf)
def ky(h:vv sc x=Ã)(hs:X.env.scope=sc):Gl X x/\(x==("__debug__":È))=Â/\x≠"__name__":=by
 unfold vv at h;erw[zb,qj,zZ] at h;refine⟨?_,h.1.2,λz=>?_⟩
 .show X.env.scope.names.lookup x=_
  rw[hs];exact h.1.1
 .have:=h.2;rw[z] at this;simp at this
variable{k:Nat}{f:Ç}{fd:å}{ps:List È}{es:List Ë}{g:List W->M W}{ms:List ME}{id:String}
def c_(h:vv sc x=Ã)(F:FnOk X.prog X.w X.K X.mg X.base bP k f fd ps (uZ X.K cl g))(hr:Room k X.A)(hm:X.mg x=À (.ref f))(hk:Ü X.K (.ref f)=Ã)(hb:Binds X.K fd ps [])
  (ha:SA X cl (e::es) ms) (hs:↥(X.env.scope=sc)) (Aa:↥(É (e::es) X.env=(Â,eval e X.env)::É es X.env)) (xa:↥((Ö pos (É es X.env)).any (·.1)=Â)):SE X cl (.Call (.Name x p) (e::es) [] pos) (zi g ms):=
 WF F hr hm hk hb ha (ky h hs).1 (ky h hs).2.1 Aa xa
def DB(h:vv sc x=Ã)(F:FnOk X.prog X.w X.K X.mg X.base bP k f fd ps (uZ X.K cl g))(hr:Room k X.A)(hm:X.mg x=À (.ref f))(hk:Ü X.K (.ref f)=Ã)(hb:Binds X.K fd ps [])
 (hs:↥(X.env.scope=sc)):SE X cl (.Call (.Name x p) [] [] pos) (zi g []):=Qg F hr hm hk hb (ky h hs).1 (ky h hs).2.1
def VQ(h:vv sc x=Ã)(hc:qV X (.builtin id) (rMs X.K cl g))(hm:X.mg x=Á)(hv:Ñ x=À (.builtin id))(ha:SA X cl (e::es) ms)(hs:↥(X.env.scope=sc))(Aa:↥(É (e::es) X.env=(Â,eval e X.env)::É es X.env))(xa:↥((Ö pos (É es X.env)).any (·.1)=Â)) :
 SE X cl (.Call (.Name x p) (e::es) [] pos) (zi g ms):=Vi hc hm hv ha (ky h hs).1 (ky h hs).2.2 (ky h hs).2.1 Aa xa
def rQ(h:vv sc x=Ã)(hc:qV X (.type id) (rMs X.K cl g))(hm:X.mg x=Á)(hv:Ñ x=À (.type id))(ha:SA X cl (e::es) ms)(hs:↥(X.env.scope=sc))(Aa:↥(É (e::es) X.env=(Â,eval e X.env)::É es X.env))(xa:↥((Ö pos (É es X.env)).any (·.1)=Â)) :
 SE X cl (.Call (.Name x p) (e::es) [] pos) (zi g ms):=Kk hc hm hv ha (ky h hs).1 (ky h hs).2.2 (ky h hs).2.1 Aa xa
def Do(h:vv sc x=Ã)(G:Glob X.K X.mg x w)(hs:↥(X.env.scope=sc)):SE X cl (.Name x pos) (eC w):=G.se (ky h hs).1 (ky h hs).2.1
def C6(T:Ty)(h:vv sc "isinstance" = Ã)(h2:vv sc y=Ã)(ha:SE X cl a ma)(hi:X.mg "isinstance" = Á)(ht:X.mg y=Á)(hv:Ñ y=À (.type T.name))(hs:↥(X.env.scope=sc))
  (FW:↥(É [a,.Name y p2] X.env=(Â,eval a X.env)::É [.Name y p2] X.env)) (AZ:↥(É [.Name y p2] X.env=(Â,eval (.Name y p2) X.env)::É [] X.env))
  (xa:↥((Ö pos (É [.Name y p2] X.env)).any (·.1)=Â)):SE X cl (.Call (.Name "isinstance" p) [a,.Name y p2] [] pos) (jp (isW T) ma):=
 Bj T ha hi ht hv (ky h hs).1 (ky h2 hs).1 (ky h2 hs).2.2 (ky h2 hs).2.1 FW AZ xa
variable{a:Ë}{ma:ME}{l:List (È×W)}
def Dz(h:vv sc x=Ã)(hu:X.A.units+64<ö)(T:TabOk X.K X.w.params X.mg x l)(ha:SE X cl a ma)(hs:↥(X.env.scope=sc))(hm:Ý .In (.Name x p)=Â:=by first | exact nomark _ | rfl):SE X cl (.Compare a [.In] [.Name x p] pos) (jp (tabIn Â l) ma):=Q8 hu T ha hm (ky h hs).1 (ky h hs).2.1
def Dn(h:vv sc x=Ã)(hu:X.A.units+64<ö)(T:TabOk X.K X.w.params X.mg x l)(ha:SE X cl a ma)(hs:↥(X.env.scope=sc))(hm:Ý .NotIn (.Name x p)=Â:=by first | exact nomark _ | rfl):SE X cl (.Compare a [.NotIn] [.Name x p] pos) (jp (tabIn Ã l) ma):=JK hu T ha hm (ky h hs).1 (ky h hs).2.1
def DA(h:vv sc x=Ã)(hu:X.A.units+64<ö)(T:TabOk X.K X.w.params X.mg x l)(ha:SE X cl a ma)(hs:↥(X.env.scope=sc))(hp:d0 a:=by exactλ_ _=>rfl):SE X cl (.Subscript (.Name x p) a pos) (jp (af l) ma):=Jj hu T ha hp (ky h hs).1 (ky h hs).2.1
def CG(h:vv sc "range" = Ã)(hm:X.mg "range" = Á)(ha:SA X cl [e] ms)(hs:↥(X.env.scope=sc))(Aa:↥(É [e] X.env=[(Â,eval e X.env)])):SI X cl tg (.Call (.Name "range" p) [e] [] pos) (eS ms):=UG hm ha (ky h hs).1 Aa
def CK(h:vv sc "enumerate" = Ã)(hm:X.mg "enumerate" = Á)(ha:SA X cl [e] ms)(hs:↥(X.env.scope=sc))(Aa:↥(É [e] X.env=(Â,eval e X.env)::É [] X.env))(xa:↥((Ö pos (É [] X.env)).any (·.1)=Â)) :
 SI X cl (.Tuple AJ n AK) (.Call (.Name "enumerate" p) [e] [] pos) (Zy ms):=YG hm ha (ky h hs).1 Aa xa
def C9(h:vv sc "zip" = Ã)(hm:X.mg "zip" = Á)(ha:SA X cl [e,e2] ms)(hs:↥(X.env.scope=sc))(Aa:↥(É [e,e2] X.env=(Â,eval e X.env)::É [e2] X.env))(xa:↥((Ö pos (É [e2] X.env)).any (·.1)=Â)) :
 SI X cl (.Tuple AJ n AK) (.Call (.Name "zip" p) [e,e2] [] pos) (gW ms):=Ul hm ha (ky h hs).1 Aa xa
end
end ML
namespace ML
open PySem PySem.Spec PyProof.Rows L2
section
variable{X:Cx}{cl:Cl}{a:Ë}{ma:ME}{x:È}{l:List (È×W)}{p pos:õ}{sc:Þ}
def Z4(neg:Bool)(ho:∀{A:Ò} {E:Ä->Å->Prop} {s:Å} {d:Ç} {f:È->Option Ä} {k:È} {t:ū} {Q:Ä->Å->Prop},(d==Ø)=Â->s.heap.MapOf (strKind X.prog X.w) d f->Q (.bool (if neg then !(f k).isSome else (f k).isSome)) { s with toks:=s.toks+1 }->Ê (Ì X.prog X.w) A (Î op (.str k t) (.ref d)) Q E s)
  (T:TabOk X.K X.w.params X.mg x l) (ha:SE X cl a ma) (hm:Ý op (.Name x p)=Â) (hg:Gl X x) (hd:(x==("__debug__":È))=Â):ST X cl (.Compare a [op] [.Name x p] pos) (zI (jp (tabIn neg l) ma)):=by
 obtain⟨d,es,n,e1,e2,e3,e4,e5⟩:=T.ex;have G4:kS X (Î op) (λx y H Q=>∃k,x=.str k/\y=.ref d/\Q (.bl (if neg then !(l.lookup k).isSome else (l.lookup k).isSome)) H):=by
  rintro ag s σ H x y v u Q I rx ry ⟨k,rfl,rfl,q⟩;obtain⟨t,rfl⟩:=rx;cases ry;refine ho e4 (TabOk.at I e2 e3) ?_;have fk:(ŧ ã es k).isSome=(l.lookup k).isSome:=by
   have:=e5.find (k:=k);unfold ŧ;rw[<-vC];cases ek:l.lookup k with
   | none=>rw[ek] at this;rw[this];rfl
   | some w=>rw[ek] at this;obtain⟨v,e,_⟩:=this;rw[e];rfl
  rw[fk];exact⟨.bl _,H,I.tok _,rfl,q⟩
 refine PT.wk (rA G4 ha (uQ hg e1 (show RelV (.ref d) (.ref d) from rfl) hd) hm) λσ H Q q=>?_
 obtain⟨μ,h,ρ,w,h',R,er,e,k⟩:=cE q;obtain⟨y,h1,f1,e⟩:=kd e;refine⟨μ,h,ρ,y,h1,R,er,f1,λcx H1 vx E1 R1 rx=>?_⟩;unfold tabIn at e;split at e
 .cases e
  exact⟨_,rx.str_of,rfl,k cx H1 _ E1 R1 (.bl _)⟩
 .cases e
def C5(h:vv sc x=Ã)(hu:X.A.units+64<ö)(T:TabOk X.K X.w.params X.mg x l)(ha:SE X cl a ma)(hs:↥(X.env.scope=sc))(hm:Ý .In (.Name x p)=Â:=by first | exact nomark _ | rfl):ST X cl (.Compare a [.In] [.Name x p] pos) (zI (jp (tabIn Â l) ma)):=
 Z4 Â (λ{A E s d f k t Q} h1 h2 h3=>wpAny_in_of (yH X.prog X.w k t) h1 h2 h3) T ha hm (ky h hs).1 (ky h hs).2.1
def Df(h:vv sc x=Ã)(hu:X.A.units+64<ö)(T:TabOk X.K X.w.params X.mg x l)(ha:SE X cl a ma)(hs:↥(X.env.scope=sc))(hm:Ý .NotIn (.Name x p)=Â:=by first | exact nomark _ | rfl):ST X cl (.Compare a [.NotIn] [.Name x p] pos) (zI (jp (tabIn Ã l) ma)):=
 Z4 Ã (λ{A E s d f k t Q} h1 h2 h3=>wpAny_notIn_of (yH X.prog X.w k t) h1 h2 h3) T ha hm (ky h hs).1 (ky h hs).2.1
end
end ML
end
namespace ML
open PySem PySem.Spec PyProof.Rows L2
noncomputable def pb(l:List È):Bool:=decide l.Nodup
def Wk{l:List È}(h:pb l=Ã:=by kernel_rfl):l.Nodup:=j7 h
structure FTxt(K:NT)(mg:È->Option Ä)(x:È)(st:ì)(ps:List È)(a:Ç)(d:å):Prop where
 F:Fun K x x st a d
 B:Binds K d ps []
 m:mg x=À (.ref a)
def pF{K:NT}{x y:È}{st:ì}(F:Fun K x x st f fd)
  (hb:∀(kV doc pm:Ä) (an:Option Ç) (pf ct:Ä) (us:List Ä),us.length=[y].length->Ŷ (ò x x (ui st) (qA st) (kF st) .none kV doc pm an pf ct) ⟨us,[]⟩=pure ([y].zip us)):∀(s:Å) (v:Ä),ů s fd ⟨[v],[]⟩ [(y,v)]:=by
 intro s v;obtain⟨oc,od,kV,doc,pm,an,pf,ct,A9,rfl,lk,AV⟩:=F.ex;exact .of_eq (hb kV doc pm an pf ct [v] rfl)
noncomputable def Cm(P:Í)(w:Ð)(f:List W->M W)(K:NT):Sp:=λvs H Q E=>∀C:Ç,uZ K ⟨λ_=>C,P,w,λ_=>False⟩ f vs H Q E
def Xk(hf:∀ns:List Int,ns.length<=63->∃h',f [.fls (ns.map W.int)] []=À (.bl Ã,h'))(K:NT)(H:Hp)(a:Ç)(ns:List Int)(hl:ns.length<=63)(hS:SqL K H a (ns.map V.int)):Cm P w f K [.ref a] H (λv _=>v=.bl Ã) λ_ _ _=>False:=by
 intro C;obtain⟨h',e⟩:=hf ns hl;refine⟨[],[],[.fls (ns.map W.int)],.bl Ã,h',⟨rfl,List.nodup_nil,λn a o e=>by simp at e⟩,.cons (.fls ?_ (RWs.ints ns)) .nil,e,λhG H' v E R r=>r.bl_of⟩;rcases hS with hS | hS
 .exact .inl ⟨hS,by simp⟩
 .exact .inr hS
noncomputable def ny(x y v:W):M W:=λh=>match x with
 | .ref n=>match h[n]? with
  | some (.dic l)=>match keyOf y with
   | some k=>if l.length<cap then À (.non,h.set n (.dic (hU l k v))) else Á
   | none=>Á
  | some (.lst l)=>match y with
   | .int i=>match wm l.length i with
    | some j=>À (.non,h.set n (.lst (l.set j v)))
    | none=>Á
   | _=>Á
  | _=>Á
 | _=>Á
noncomputable def lU(mo mi:ME):MG:=λv ρ=>bnd (mo ρ) λx=>bnd (mi ρ) λy=>bnd (ny x y v) λ_ h=>À (ρ,h)
section
variable{X:Cx}{cl:Cl}{o i:Ë}{mo mi:ME}{pos:õ}
inductive rPut(K:NT)(cl:Cl)(o:V)(i:V)(v:V)(H:Hp)(Q:Hp->Prop):Prop
 | mk (μ:List Ç) (h:MH) (wo:W) (wi:W) (wv:W) (w:W) (h':MH) (p0:HR K cl μ H h) (p1:RW K μ H wo o) (p2:RW K μ H wi i) (p3:RW K μ H wv v) (p4:ny wo wi wv h=À (w,h')) (p5:∀hG H',Ext μ H hG H'->HR K cl hG H' h'->Q H'):rPut K cl o i v H Q
def BW(hu:X.A.units+64<ö):Vb X (rPut X.K cl):=by
 rintro ag s σ H o i v ov iv u Q I ro ri rv ⟨μ,h,wo,wi,wv,w,h',R,ao,ai,av,e,k⟩;unfold ny at e;split at e
 .rename_i n
  cases ao with | @ref _ p hn=>
  split at e
  .rename_i l ho
   split at e
   .rename_i kk ek
    split at e
    .rename_i hl
     cases e;obtain⟨l',hp,rk⟩:=R.ob n p _ hn ho;have pr:=RKs.pr rk;have hk:=fM ai ek;subst hk;cases ro;have EU:l'.length<sizeLine:=by rw[<-pr.len];exact zN hl xy
     refine jK (ZD ∅ I (.inl ⟨l',kk,hp,rfl,EU,rfl⟩) ri rv λs' I'=>?_) (λ_ _ z=>z) λ_ _ z=>z
     have E:Ext μ H μ (upd H p (.dK (putK l' kk v))):=Ext.put hn;exact⟨_,I',k μ _ E (R.put hn ⟨_,va,((pr.put av).ext R E).rk⟩)⟩
    .cases e
   .cases e
  .rename_i l ho
   split at e
   .rename_i j
    split at e
    .rename_i j' ej
     cases e;obtain⟨vs,hp,rs⟩:=R.ob n p _ hn ho;have hi:=ai.int_of;subst hi;have E:Ext μ H μ (upd H p (.lst (vs.set j' v))):=Ext.put hn;refine set_list ag s σ H _ _ v ov iv u Q I ro ri rv ⟨p,vs,j,j',rfl,rfl,hp,by rw[<-rs.length];exact ej,k μ _ E (R.put hn ⟨_,va,(RWs.set av _ rs).ext R E⟩)⟩
    .cases e
   .cases e
  .cases e
 .cases e
def Ue(hu:X.A.units+64<ö)(ho:SE X cl o mo)(hi:SE X cl i mi)
  (ha:∀v,assign (.Subscript o i pos) X.env v=(do
   let ov <-holding [v] (eval o X.env)
   let iv <-holding [v,ov] (eval i X.env)
   ŗ pos
   holding [v,ov,iv] (Ů ov iv v)
   release [v,ov,iv] []):=by intro _;rfl):SG X cl (.Subscript o i pos) (lU mo mi):=
 PG.wk (UB ho hi (BW hu) ha) λv σ H Q q0=>by
  obtain⟨μ,h,ρ,w,ρ',h',R,er,rv,e,k⟩:=q0;obtain⟨x,h1,e1,e⟩:=kd e;obtain⟨y,h2,e2,e⟩:=kd e;obtain⟨z,h3,e3,e⟩:=kd e;cases e;refine⟨μ,h,ρ,x,h1,R,er,e1,λcx H1 vx E1 R1 rx=>⟨cx,h1,ρ,y,h2,R1,er.ext R E1,e2,λhX H2 vy E2 R2 ry=>?_⟩⟩;refine⟨hX,h2,x,y,w,z,_,R2,rx.ext R1 E2,ry,(rv.ext R E1).ext R1 E2,e3,λAC H3 E3 R3=>?_⟩;exact k AC H3 σ (E1.trans (E2.trans E3)) R3 (((er.ext R E1).ext R1 E2).ext R2 E3)
end
noncomputable def Xd(x:W)(lo hi:Option Int):M W:=λh=>match getL h x with
 | some l=>À (.ref h.length,h++[.lst (cutW l lo hi)])
 | none=>Á
noncomputable def U6(a:ME)(lo hi:Option ME):ME:=λρ=>bnd (a ρ) λx=>bnd (xt lo ρ) λl=>bnd (xt hi ρ) λu=>Xd x l u
section
variable{X:Cx}{cl:Cl}{a:Ë}{ma:ME}{pos p2:õ}
def XB{lo hi:Option Ë}(ha:SE X cl a ma)(hl:SO X cl lo ml)(hh:SO X cl hi mh):SE X cl (.Subscript a (.Slice lo hi Á p2) pos) (U6 ma ml mh):=by
 have hr:Kl X (λx lo hi H Q=>∃μ h wx w h',HR X.K cl μ H h/\RW X.K μ H wx x/\Xd wx lo hi h=À (w,h')/\KQ X.K cl μ H h' w Q):=by
  rintro ag s σ H x v vl vu lo hi sl Q I rx hs pl pu ⟨μ,h,wx,w,h',R,ax,e,k⟩;unfold Xd at e;split at e
  .rename_i l el
   cases e;obtain⟨a,vs,rfl,sa,ra⟩:=wc R ax el;exact rV ag s σ H _ v vl vu lo hi sl Q I rx hs pl pu ⟨a,vs,rfl,sa,λp hp=>k.lst R (ra.cutW lo hi) hp⟩
  .cases e
 refine PE.wk (pM hr ha hl hh) ?_;rintro σ H Q ⟨μ,h,ρ,w,h',R,er,e,k⟩;obtain⟨x,h1,e1,e⟩:=kd e;obtain⟨l,h2,e2,e⟩:=kd e;obtain⟨u,h3,e3,e⟩:=kd e
 exact⟨μ,h,ρ,x,h1,R,er,e1,λcx H1 vx E1 R1 rx=>⟨cx,h1,ρ,l,h2,R1,er.ext R E1,e2,λhX H2 E2 R2=>⟨hX,h2,ρ,u,h3,R2,(er.ext R E1).ext R1 E2,e3,λAC H3 E3 R3=>
  ⟨AC,h3,x,w,h',R3,(rx.ext R1 E2).ext R2 E3,e,k.ext (E1.trans (E2.trans E3))⟩⟩⟩⟩
end
noncomputable def noStar:Ë->Bool
 | .Starred ..=>Â
 | _=>Ã
noncomputable def iZ:Ë->Bool
 | .ListComp ..=>Â
 | .SetComp ..=>Â
 | .DictComp ..=>Â
 | _=>Ã
noncomputable def nk:Ë->Bool
 | .Set ..=>Â
 | _=>Ã
noncomputable def Vl:Ë->Bool
 | .Tuple ..=>Â
 | _=>Ã
noncomputable def gp:Ë->Bool
 | .Slice ..=>Â
 | _=>Ã
noncomputable def plainT:Ë->Bool
 | .UnaryOp ..=>Â
 | .BoolOp ..=>Â
 | .IfExp ..=>Â
 | .Compare ..=>Â
 | _=>Ã
noncomputable def Z9:Ë->Bool
 | .Call _ [] _ _=>Â
 | _=>Ã
section
variable{e tg o:Ë}{es:List Ë}{env:Ŭ}{pos:õ}
def kB(h:noStar e=Ã):É (e::es) env=(Â,eval e env)::É es env:=by
 cases e<;>first | (cases h;done) | kernel_rfl
theorem fc:É [] env=[]:=by kernel_rfl
theorem de(h:noStar e=Ã):Ö pos (É (e::es) env)=(Â,eval e env)::Ö pos (É es env):=by
 rw[kB h];rfl
theorem ja:∀{es:List Ë},es.all noStar=Ã->(Ö pos (É es env)).any (·.1)=Â
 | [],_=>by rw[fc];rfl
 | e::es,h=>by
  rw[jt,zb] at h;rw[de h.1,qL,ja h.2];rfl
theorem nr:∀{es:List Ë},es.all noStar=Ã->(Ö pos (É es env)).all (λx=>!x.1)=Ã
 | [],_=>by rw[fc];rfl
 | e::es,h=>by
  rw[jt,zb] at h;rw[de h.1,jt,nr h.2];rfl
def fI(h:es.all noStar=Ã)(hl:decide (es.length<30)=Ã):((Ö pos (É es env)).all (λx=>!x.1)&&(Ĩ pos (Ć [] env)).all (λx=>x.1.isSome)
   && decide (es.length+([]:List Ă).length+(if ([]:List Ă).isEmpty then 0 else 1)<30))=Ã:=by
 rw[nr h];have:(Ć [] env)=[]:=by kernel_rfl
 rw[this];simpa[Ĩ] using hl
theorem eG(h:iZ e=Ã):ç e t l env=pure Â:=by
 cases e<;>first | (cases h;done) | rfl
theorem Zd(h:Vl e=Ã):Ģ [.Tuple ts n p] e env=pure Á:=by
 cases e<;>first | (cases h;done) | rfl
def um(h:noStar e=Ã):Û (e::es) env=(Â,assign e env)::Û es env:=by
 cases e<;>first | (cases h;done) | kernel_rfl
theorem aI:Û [] env=[]:=by kernel_rfl
theorem iS:∀{es:List Ë},es.all noStar=Ã->(Û es env).length=es.length
 | [],_=>by rw[aI];rfl
 | e::es,h=>by
  rw[jt,zb] at h;rw[um h.1,zr,iS h.2];rfl
theorem gE:∀{es:List Ë},es.all noStar=Ã->(Û es env).findIdx? (·.1)=Á
 | [],_=>by rw[aI];rfl
 | e::es,h=>by
  rw[jt,zb] at h;rw[um h.1,List.findIdx?_cons,gE h.2];rfl
theorem u6(h:nk e=Ã):∀x,ß e env x=pure x:=by
 intro x;cases e<;>first | (cases h;done) | rfl
theorem bq(h:Z9 o=Ã):ó o a env whole=whole:=by
 cases o with
 | Call f as kw p=>cases as with
  | nil=>cases h
  | cons _ _=>cases f<;>rfl
 | _=>rfl
def QV(h:plainT e=Ã):∀whole,isTrue e env whole=(do let v <-whole;ŗ e.pos;holding [v] (truthy v)):=by
 intro whole;cases e<;>first | (cases h;done) | kernel_rfl
theorem VE(h:gp e=Ã):d0 e:=by
 intro o i;cases e<;>first | (cases h;done) | rfl
end
structure RC where
 sc:Þ
 N:List È
 inC:Bool
 fns:List (È×(List W->M W))
 con:List (È×W)
 tab:List (È×List (È×W))
 bin:List È
 own:List È
 txt:List È
 cmp:List ((Nat×Nat)×List È)
 xf:List (È×MX)
 xc:List È
 ek:Option (È×È×È×È)
 rz:Bool
noncomputable def FnAt(P:Í)(w:Ð)(K:NT)(mg:È->Option Ä)(base:Ï)(cl:Cl)(k:Nat)(x:È)(g:List W->M W):Prop:=
 ∃f fd ps,FnOk P w K mg base bP k f fd ps (uZ K cl g)/\mg x=À (.ref f)/\Ü K (.ref f)=Ã/\Binds K fd ps []
noncomputable def AllOf{α:Type}(P:È->α->Prop):List (È×α)->Prop
 | []=>True
 | (x,g)::r=>P x g/\AllOf P r
theorem AllOf.at{α:Type}{P:È->α->Prop}{x:È}{g:α}:∀{l:List (È×α)},AllOf P l->l.lookup x=À g->P x g
 | [],_,e=>by cases e
 | (y,g')::r,h,e=>by
  rw[jM] at e;cases q:x==y with
  | true=>rw[q] at e;cases e;rw[eq_of_beq q];exact h.1
  | false=>rw[q] at e;exact AllOf.at h.2 e
noncomputable def AllNone(mg:È->Option Ä):List È->Prop
 | []=>True
 | x::r=>mg x=Á/\AllNone mg r
theorem AllNone.at:∀{l:List È},AllNone mg l->x∈l->mg x=Á
 | y::r,h,e=>by
  rcases zp.mp e with rfl | e
  .exact h.1
  .exact AllNone.at h.2 e
structure BaseOk(P:Í)(w:Ð)(K:NT)(mg:È->Option Ä)(base:Ï)(cl:Cl)(k:Nat)(Γ:RC):Prop where
 fns:AllOf (FnAt P w K mg base cl k) Γ.fns
 con:AllOf (Glob K mg) Γ.con
 tab:AllOf (TabOk K w.params mg) Γ.tab
 bin:AllNone mg Γ.bin
 pw:cl.P=P/\cl.w=w
 xf:AllOf (FnAtX P w K mg base cl k) Γ.xf
 xc:∀x∈Γ.xc,fW x (cl.c 0) mg base
 ek:∀p,Γ.ek=À p->ExcK K mg (cl.c 0) p.1 p.2.1 p.2.2.1 p.2.2.2
structure Fits(Γ:RC)(cl:Cl)(k:Nat)(X:Cx):Prop where
 sc:X.env.scope=Γ.sc
 N:X.N=Γ.N
 nd:X.N.Nodup
 fn:Γ.inC=Â->∀x,X.fn x=Ã
 kind:Γ.sc.kind=.function
 calm:X.calm=Ã
 pass:ņ (Ì X.prog X.w) X.A X.env X.xe
 room:Room k X.A
 base:BaseOk X.prog X.w X.K X.mg X.base cl k Γ
 nox:Γ.rz=Â->∀e s,¬X.xe e s
 rs:Γ.inC=Â->Γ.rz=Ã->Xs X cl
 xp:Γ.inC=Â->Γ.rz=Ã->Qh X cl
 stk:Γ.inC=Â->X.stack=X.env::X.outer/\X.env.frame=À X.env.locals
noncomputable def eU(x:È):List È->Option Nat
 | []=>Á
 | y::r=>if y==x then À 0 else (eU x r).map (· + 1)
noncomputable def Zs(Γ:RC)(x:È):Option ME:=match eU x Γ.N with
 | some i=>if QG Γ.sc Γ.N i x=Ã then À (zd i) else Á
 | none=>match Γ.con.lookup x with
  | some w=>if vv Γ.sc x=Ã then À (eC w) else Á
  | none=>Á
noncomputable def pE:Const->Option ME
 | .none=>À (eC .non)
 | .bool b=>À (eC (.bl b))
 | .int i=>À (eC (.int i))
 | .str x=>À (eC (.str x))
 | _=>Á
noncomputable def XM(mu:Bool):ř->Option (W->W->M W)
 | .Add=>match mu with
  | true=>À gU
  | false=>À addW
 | .Sub=>À xD
 | .Mult=>À kC
 | .Mod=>À xZ
 | .FloorDiv=>À uR
 | .Pow=>À JV
 | _=>Á
noncomputable def VA:ś->Option (W->W->M W)
 | .Eq=>À (kM Â)
 | .NotEq=>À (kM Ã)
 | .In=>À (xh Â)
 | .NotIn=>À (xh Ã)
 | .Lt=>À ac
 | .LtE=>À uG
 | .Gt=>À gI
 | .GtE=>À Dq
 | .Is=>À (ee Ã)
 | .IsNot=>À (ee Â)
noncomputable def oN(Γ:RC):Ë->Option MG
 | .Name x _=>match eU x Γ.N with
  | some i=>match Γ.inC with
   | true=>if setC Γ.sc Γ.N i x=Ã then À (zD i) else Á
   | false=>if setB Γ.sc Γ.N i x=Ã then À (zD i) else Á
  | none=>Á
 | _=>Á
noncomputable def K0(Γ:RC):Ë->Option MG
 | .Tuple es _ _=>if es.all noStar=Ã then (qk (oN Γ) es).map gz else Á
 | e=>oN Γ e
noncomputable def XC:Ë->Nat
 | .Tuple es _ _=>es.length
 | _=>1
section
variable{Γ:RC}{cl:Cl}{k:Nat}{X:Cx}{x:È}{m:ME}{pos:õ}
def Q1(F:Fits Γ cl k X)(h:Zs Γ x=À m):SE X cl (.Name x pos) m:=by
 unfold Zs at h;split at h
 .split at h
  .rename_i i _ q
   cases h;exact v_ q F.sc F.N
  .cases h
 .split at h
  .rename_i w e
   split at h
   .rename_i q
    cases h;exact Do q (F.base.con.at e) F.sc
   .cases h
  .cases h
def JO(h:pE c=À m):SE X cl (.Constant c j pos) m:=by
 unfold pE at h;split at h
 .cases h;exact ZL
 .cases h;exact m9
 .cases h;exact UM
 .cases h;exact KI
 .cases h
def Xr(h:XM mu op=À f):kS X (Ù op) (rM X.K cl f):=by
 unfold XM at h;split at h
 .split at h
  .cases h;exact YI
  .cases h;exact YD
 .cases h;exact Wx
 .cases h;exact Ww
 .cases h;exact W2
 .cases h;exact WX
 .cases h;exact Wt
 .cases h
def dU(hu:X.A.units+64<ö)(h:VA op=À f):kS X (Î op) (rM X.K cl f):=by
 cases op<;>cases h
 .exact JD hu
 .exact US hu
 .exact U3
 .exact XI
 .exact Xq
 .exact UV
 .exact YX
 .exact Jb
 .exact Xi hu
 .exact Kj hu
def rZ(F:Fits Γ cl k X)(h:oN Γ e=À g):SG X cl e g:=by
 unfold oN at h;split at h
 .rename_i x p
  split at h
  .rename_i i _
   split at h
   .split at h
    .rename_i q
     cases h;exact Dk q (F.N▸F.nd) F.sc F.N
    .cases h
   .rename_i c
    split at h
    .rename_i q
     cases h;exact g_ q (F.N▸F.nd) F.sc F.N (F.fn c _)
    .cases h
  .cases h
 .cases h
def dc{α β:Type}{f:α->Option β}{x:α}{r:List α}{ys:List β}(h:qk f (x::r)=À ys):∃y zs,f x=À y/\qk f r=À zs/\ys=y::zs:=by
 unfold qk at h;split at h
 .rename_i y zs e1 e2
  cases h;exact⟨y,zs,e1,e2,rfl⟩
 .cases h
theorem sJ(F:Fits Γ cl k X):∀{es:List Ë} {gs:List MG},es.all noStar=Ã->qk (oN Γ) es=À gs->KR X cl es gs
 | [],gs,_,h=>by cases h;exact WT
 | e::es,gs,hn,h=>by
  obtain⟨g,NA,h1,h2,rfl⟩:=dc h;rw[jt,zb] at hn;exact QO (rZ F h1) (sJ F hn.2 h2) (by rw[um hn.1];rfl)
theorem nV{α β:Type}{f:α->Option β}:∀{l:List α} {ys:List β},qk f l=À ys->ys.length=l.length
 | [],ys,h=>by cases h;rfl
 | x::r,ys,h=>by
  obtain⟨y,zs,_,h2,rfl⟩:=dc h;rw[zr,zr,nV h2]
def ol(F:Fits Γ cl k X)(h:K0 Γ e=À g):SG X cl e g:=by
 unfold K0 at h;split at h
 .rename_i es n p
  split at h
  .rename_i hn
   rw[zj] at h;obtain⟨gs,h1,rfl⟩:=h;exact Uj F.calm (sJ F hn h1) (by rw[iS hn,nV h1]) (gE hn)
  .cases h
 .exact rZ F h
end
noncomputable def lD:Ë->Option (È×È)
 | .Call (.Name i _) [.Name n _,.Name k _] [] _=>if i=="isinstance" then À (n,k) else Á
 | _=>Á
def fS(h:lD e=À (n,k)):∃p1 p2 p3 p4,e=.Call (.Name "isinstance" p1) [.Name n p2,.Name k p3] [] p4:=by
 unfold lD at h;split at h
 .rename_i i p1 n' p2 k' p3 p4
  split at h
  .rename_i q
   cases h;rw[eq_of_beq q];exact⟨_,_,_,_,rfl⟩
  .cases h
 .cases h
noncomputable def iX(b:Bool):Ë->Bool
 | .Constant (.bool c) _ _=>c==b
 | _=>Â
def hW(h:iX b e=Ã):∃j p,e=.Constant (.bool b) j p:=by
 unfold iX at h;split at h
 .rw[eq_of_beq h];exact⟨_,_,rfl⟩
 .cases h
noncomputable def ZK:Ë->Option (È×È×È×È)
 | .List [a,b,c] _=>(lD a).bind λx=>(lD b).bind λy=>(lD c).bind λz=>if (x.1==y.1&&x.1==z.1)=Ã then À (x.1,x.2,y.2,z.2) else Á
 | _=>Á
noncomputable def U2:Ë->Bool
 | .List [a,b,c] _=>iX Ã a&&iX Â b&&iX Â c
 | _=>Â
noncomputable def Wh(n fl:È):Ë->Bool
 | .BoolOp .And [a,.Compare (.Name x _) [.Eq] [l] _] _=>lD a==À (n,("ValueError":È))&&x==fl&&U2 l
 | _=>Â
noncomputable def UL:List ì->Bool
 | [.Return (À (.Constant .none _ _)) _]=>Ã
 | _=>Â
noncomputable def oY:List ì->Option (È×È×È×È×È)
 | [.Assign [.Name fl _] v _,.If t r [] _]=>(ZK v).bind λq=>if (Wh q.1 fl t&&UL r)=Ã then À (q.1,fl,q.2.1,q.2.2.1,q.2.2.2) else Á
 | _=>Á
def ZR(h:oY b=À (n,fl,k1,k2,k3)):∃q1 q2 q3 q4 q5 q6 q7 q8 q9 qa qb qc qd a1 a2 a3 a4 b1 b2 b3 b4 c1 c2 c3 c4 d1 d2 d3 d4 j1 j2 j3 j4,
  b=[.Assign [.Name fl q1] (.List [.Call (.Name "isinstance" a1) [.Name n a2,.Name k1 a3] [] a4,.Call (.Name "isinstance" b1) [.Name n b2,.Name k2 b3] [] b4,.Call (.Name "isinstance" c1) [.Name n c2,.Name k3 c3] [] c4] q2) q3,
   .If (.BoolOp .And [.Call (.Name "isinstance" d1) [.Name n d2,.Name "ValueError" d3] [] d4,.Compare (.Name fl q4) [.Eq] [.List [.Constant (.bool Ã) j1 qa,.Constant (.bool Â) j2 qb,.Constant (.bool Â) j3 qc] q5] q6] q7) [.Return (À (.Constant .none j4 qd)) q8] [] q9]:=by
 unfold oY at h;split at h
 .rename_i FY q1 v q3 t r q9
  obtain⟨⟨n',NB,NC,ND⟩,e1,h⟩:=zf.mp h;split at h
  .rename_i z
   cases h;obtain⟨z1,z2⟩:=zX.mp z;unfold ZK at e1;split at e1
   .rename_i a b c q2
    obtain⟨⟨x1,x2⟩,f1,e1⟩:=zf.mp e1;obtain⟨⟨y1,y2⟩,f2,e1⟩:=zf.mp e1;obtain⟨⟨w1,w2⟩,f3,e1⟩:=zf.mp e1;split at e1
    .rename_i z3
     cases e1;obtain⟨g1,g2⟩:=zX.mp z3;have g1:=eq_of_beq g1;have g2:=eq_of_beq g2;dsimp only at g1 g2;subst g1 g2;obtain⟨a1,a2,a3,a4,rfl⟩:=fS f1;obtain⟨b1,b2,b3,b4,rfl⟩:=fS f2;obtain⟨c1,c2,c3,c4,rfl⟩:=fS f3;unfold Wh at z1;split at z1
     .rename_i a x q4 l q6 q7
      obtain⟨z1,z5⟩:=zX.mp z1;obtain⟨z1,z4⟩:=zX.mp z1;obtain⟨d1,d2,d3,d4,rfl⟩:=fS (eq_of_beq z1);rw[eq_of_beq z4];unfold U2 at z5;split at z5
      .rename_i u v w q5
       obtain⟨z5,y3⟩:=zX.mp z5;obtain⟨y1,y2⟩:=zX.mp z5;obtain⟨j1,qa,rfl⟩:=hW y1;obtain⟨j2,qb,rfl⟩:=hW y2;obtain⟨j3,qc,rfl⟩:=hW y3;unfold UL at z2;split at z2
       .rename_i j4 qd q8
        exact⟨q1,q2,q3,q4,q5,q6,q7,q8,q9,qa,qb,qc,qd,a1,a2,a3,a4,b1,b2,b3,b4,c1,c2,c3,c4,d1,d2,d3,d4,j1,j2,j3,j4,rfl⟩
       .cases z2
      .cases z5
     .cases z1
    .cases e1
   .cases e1
  .cases h
 .cases h
noncomputable def oG(Γ:RC):ì->Option MS
 | .Raise (À (.Call (.Name x _) [.Constant (.str _) _ _] [] _)) Á _=>if (Γ.rz && !Γ.inC&&Γ.xc.any (· == x)&&vv Γ.sc x)=Ã then À xS else Á
 | _=>Á
noncomputable def sZ(Γ:RC)(E:Ë->Option ME):ì->Option MS
 | .Assign [.Name y _] (.Call (.Name f _) (a::as) [] _) _=>if (Γ.rz && !Γ.inC&&vv Γ.sc f&&(a::as).all noStar)=Ã then (Γ.xf.lookup f).bind λg=>(eU y Γ.N).bind λi=>if setB Γ.sc Γ.N i y=Ã then (qk E (a::as)).map λms=>cK g ms i else Á else Á
 | _=>Á
noncomputable def XS(Γ:RC)(ct n fl k1 k2 k3:È)(i j:Nat):Bool:=Γ.ek==À (ct,k1,k2,k3)&&setC Γ.sc Γ.N i n&&setB Γ.sc Γ.N j fl && !(n==("__debug__":È)) && !(n==("__classdict__":È)) && !(fl==("__debug__":È)) && !(fl==("__classdict__":È)) && !(n==fl) &&
 vv Γ.sc "isinstance" && vv Γ.sc "ValueError" && Γ.bin.any (· == "isinstance")&&Γ.bin.any (· == "ValueError")&&vv Γ.sc ct&&vv Γ.sc k1&&vv Γ.sc k2&&vv Γ.sc k3
noncomputable def QB(Γ:RC)(E:Ë->Option ME):ì->Option MS
 | .Try [.Return (À (.Call (.Name f _) (a::as) [] _)) _] [.ExceptHandler (À (.Name ct _)) (À n) b _] [] [] _=>if (!Γ.rz && !Γ.inC&&vv Γ.sc f&&(a::as).all noStar)=Ã then (Γ.xf.lookup f).bind λg=>(oY b).bind λq=>
   (eU n Γ.N).bind λi=>(eU q.2.1 Γ.N).bind λj=>if (q.1==n&&XS Γ ct n q.2.1 q.2.2.1 q.2.2.2.1 q.2.2.2.2 i j)=Ã then (qk E (a::as)).map λms=>lG g ms else Á else Á
 | _=>Á
section
variable{Γ:RC}{cl:Cl}{k:Nat}{X:Cx}{E:Ë->Option ME}{ms:MS}{st:ì}
theorem nG:∀{es:List Ë} {ms:List ME},(∀e m,E e=À m->SE X cl e m)->es.all noStar=Ã->qk E es=À ms->SA X cl es ms
 | [],ms,_,_,h=>by cases h;exact am
 | e::es,ms,hE,hn,h=>by
  obtain⟨m,G9,h1,h2,rfl⟩:=dc h;rw[jt,zb] at hn;exact yv (hE _ _ h1) (nG hE hn.2 h2) (kB hn.1)
def KY(F:Fits Γ cl k X)(h:Γ.bin.any (· == x)=Ã):X.mg x=Á:=by
 obtain⟨y,hy,e⟩:=vU.mp h;rw[<-eq_of_beq e];exact F.base.bin.at hy
def ZA(F:Fits Γ cl k X)(h:oG Γ st=À ms):SS X cl st ms:=by
 unfold oG at h;split at h
 .split at h
  .rename_i q
   cases h;erw[zb,zZ] at q;obtain⟨⟨⟨q1,q2⟩,q3⟩,q4⟩:=q;obtain⟨y,hy,e⟩:=vU.mp q3;have O:=F.base.xc y hy;rw[eq_of_beq e] at O;exact QL (ws:=[.str _]) O (F.rs q2 q1) F.calm (ky q4 F.sc).1 (yv KI am (kB rfl)) (λρ h=>rfl) (by simp) (ky q4 F.sc).2.1 (kB rfl) (ja rfl)
  .cases h
 .cases h
def J6(F:Fits Γ cl k X)(hE:∀e m,E e=À m->SE X cl e m)(h:sZ Γ E st=À ms):SS X cl st ms:=by
 unfold sZ at h;split at h
 .split at h
  .rename_i q
   erw[zb,zZ] at q;obtain⟨⟨⟨q1,q2⟩,q3⟩,q4⟩:=q;obtain⟨g,e1,h⟩:=zf.mp h;obtain⟨i,e2,h⟩:=zf.mp h;split at h
   .rename_i z
    obtain⟨G9,e3,rfl⟩:=zj.mp h;unfold setB at z;erw[zb,qj] at z;have hn:=q4;rw[jt,zb] at hn;exact Yd i (F.base.xf.at e1) F.room (ky q3 F.sc).1 (nG hE q4 e3) (F.xp q2 q1) F.nd (by rw[F.N];exact z.1) (by rw[F.sc];exact bo z.2) (.inl (F.fn q2 _)) (eG rfl) (ky q3 F.sc).2.1 (kB hn.1) (ja hn.2)
   .cases h
  .cases h
 .cases h
def Wv(F:Fits Γ cl k X)(hE:∀e m,E e=À m->SE X cl e m)(h:QB Γ E st=À ms):SS X cl st ms:=by
 unfold QB at h;split at h
 .split at h
  .rename_i q
   erw[zb,zZ] at q;obtain⟨⟨⟨q1,q2⟩,q3⟩,q4⟩:=q;obtain⟨g,e1,h⟩:=zf.mp h;obtain⟨⟨n',fl,k1,k2,k3⟩,e2,h⟩:=zf.mp h;obtain⟨i,e3,h⟩:=zf.mp h;obtain⟨j,e4,h⟩:=zf.mp h;split at h
   .rename_i z
    obtain⟨G9,e5,rfl⟩:=zj.mp h;obtain⟨z0,z⟩:=zX.mp z;have z0:=eq_of_beq z0;dsimp only at z0;subst z0;unfold XS setB setC at z;erw[Bool.and_eq_true,beq_iff_eq,Ŕ] at z;obtain⟨⟨⟨⟨⟨⟨⟨⟨⟨⟨⟨⟨⟨⟨⟨y0,y1⟩,y2⟩,y3⟩,y4⟩,y5⟩,y6⟩,y7⟩,y8⟩,y9⟩,ya⟩,yb⟩,yc⟩,yd⟩,ye⟩,yf⟩:=z;have hn:=q4;rw[jt,zb] at hn
    have T:TryAt X cl _ k1 k2 k3 n' fl i j:=⟨F.nox q1,F.stk q2,F.base.ek _ y0,F.room.units,F.nd,by rw[F.N];exact y1.1,by rw[F.sc];exact y1.2,y3,y4,by rw[F.N];exact y2.1,by rw[F.sc];exact bo y2.2,F.fn q2,y5,y6,jB.mp y7,(ky y8 F.sc).1,KY F ya,(ky y9 F.sc).1,KY F yb,
     (ky yc F.sc).1,(ky yd F.sc).1,(ky ye F.sc).1,(ky yf F.sc).1,(ky yc F.sc).2.1,(ky yd F.sc).2.1,(ky ye F.sc).2.1,(ky yf F.sc).2.1⟩
    obtain⟨_,_,_,_,_,_,_,_,_,_,_,_,_,_,_,_,_,_,_,_,_,_,_,_,_,_,_,_,_,_,_,_,_,rfl⟩:=ZR e2;exact X7 T (F.base.xf.at e1) F.room (ky q3 F.sc).1 (nG hE q4 e5) (ky q3 F.sc).2.1 (kB hn.1) (ja hn.2)
   .cases h
  .cases h
 .cases h
end
theorem rP:∀{l:List W} {k:List È},strsOf l=À k->l=k.map .str
 | [],k,e=>by cases e;rfl
 | .str b::r,k,e=>by
  unfold strsOf at e;split at e
  .rename_i l' e'
   cases e;rw[rP e'];rfl
  .cases e
 | .non::r,k,e=>by cases e
 | .bl _::r,k,e=>by cases e
 | .int _::r,k,e=>by cases e
 | .tup _::r,k,e=>by cases e
 | .fls _::r,k,e=>by cases e
 | .ref _::r,k,e=>by cases e
 | .fdc _::r,k,e=>by cases e
 | .fn _::r,k,e=>by cases e
noncomputable def joinM(x:W)(ws:List W):M W:=λh=>match x,ws with
 | .str z,[y]=>match (getL h y).bind strsOf with
  | some l=>if JoinOk z l=Ã then À (.str (Txt.join z l),h) else Á
  | none=>Á
 | _,_=>Á
noncomputable def splitM(x:W)(ws:List W):M W:=λh=>match x,ws with
 | .str z,[.str y]=>if (y.length==0)=Â/\z.length<=100000 then À (.fls ((Txt.split z y).map .str),h) else Á
 | _,_=>Á
noncomputable def qB(f:W->List W->M W)(o:ME)(ms:List ME):ME:=λρ=>bnd (o ρ) λx h=>match x with
 | .str _=>bnd (ke ms ρ) (λws=>f x ws) h
 | _=>Á
section
variable{prog:Í}{w:Ð}{A:Ò}{E:Ä->Å->Prop}{s:Å}{x y:È}{t u:ū}{Q:Ä->Å->Prop}
open Builtin Builtin.Str in
def ZP(hy:(y.length==0)=Â)(hsz:x.length+2<=sizeLine)
  (h:∀(l:List (È×ū)) k,l.map (·.1)=Txt.split x y->Q (.ref s.heap.objs.size) { s with heap:=s.heap.push { cls:=.type "list",data:=.seq (Ũ l).toArray },toks:=k }):Ê (Ì prog w) A (call (.builtin "str.split") [.str x t,.str y u]) Q E s:=by
 have hn:(partsBetween x (occurrences x y 0 x.length (x.length+1)) y.length).length<=sizeLine:=by
  have e1:=StrLaws.occ_length_le x y 0 x.length (x.length+1);rw[length_partsBetween];omega
 cases h1:(decide (x.length<y.length)||decide (Ŋ x<Ŋ y))
 .cases hf:(occurrences x y 0 x.length (x.length+1)).isEmpty
  .refine qw yW (vW _ _ _) yM (yD _ _) (meets_str_split_sep x y t u h1 hy hf ∅ hn) ?_
   show wants Q E _ { s with toks:=_,heap:=s.heap.push { cls:=.type "list",data:=.seq (strsFrom s.toks (partsBetween x (occurrences x y 0 x.length (x.length+1)) y.length)).toArray } }
   rw[strsFrom_eq];exact h (PySem.numbered s.toks _) _ ((numbered_texts _ _).trans ((kY (wz h1)).trans (kY (wz hf))).symm)
  .exact qw yW (vW _ _ _) yM (yD _ _) (meets_str_split_not_found x y t u h1 hy hf) (h [(x,t)] s.toks ((kY (wz h1)).trans (zW hf)).symm)
 .exact qw yW (vW _ _ _) yM (yD _ _) (meets_str_split_cannot_occur x y t u h1) (h [(x,t)] s.toks (zW h1).symm)
end
section
variable{X:Cx}{cl:Cl}{o e:Ë}{es:List Ë}{mo:ME}{ms:List ME}{apos cpos:õ}{ag:List (Ç×æ)}{σ:L2.St}{H:Hp}{s:Å}{μ:List Ç}
theorem mQ:∀{k:List È} {vs:List V} {us:List Ä},RWs X.K μ H (k.map .str) vs->Vals vs us->∃l:List (È×ū),us=Ũ l/\l.map (·.1)=k
 | [],_,_,.nil,.nil=>⟨[],rfl,rfl⟩
 | x::k,_,_,.cons r rs,.cons v vs=>by
  cases r;obtain⟨t,rfl⟩:=v;obtain⟨l,rfl,rfl⟩:=mQ rs vs;exact⟨(x,t)::l,rfl,rfl⟩
theorem mm:∀(l:List (È×ū)),∃vs,RWs X.K μ H ((l.map (·.1)).map .str) vs/\Vals vs (Ũ l)
 | []=>⟨[],.nil,.nil⟩
 | (x,t)::l=>by
  obtain⟨vs,a,b⟩:=mm l;exact⟨.str x::vs,.cons (.str x) a,.cons ⟨t,rfl⟩ b⟩
def Qr:mq X "str.join" (rMm X.K cl joinM):=by
 rintro ag s σ H x xs v us Q I rx rs ⟨μ,h,wx,ws,w,h',R,ax,as,e,k⟩;unfold joinM at e;split at e
 .rename_i z y
  split at e
  .rename_i l el
   split at e
   .rename_i ok
    cases e;obtain⟨l0,e1,e2⟩:=zf.mp el;have Mx:=rP e2;subst Mx;cases ax.str_of;obtain⟨t,rfl⟩:=rx;cases as with | cons r tt=>cases tt with | nil=>
    obtain⟨d,vs,rfl,sq,ra⟩:=wc R r e1;cases rs with | cons r1 r2=>
    cases r2;cases r1;obtain⟨cb,rv,⟨ob,n,g1,g2,g3,g4⟩,_⟩:=I.list sq;obtain⟨ls,rfl,rfl⟩:=mQ ra rv;refine SC.join (l:=ls) ⟨ob,g1,g2,n,g4⟩ rfl ok λt' kk=>⟨.str _,H,I.tok _,⟨t',rfl⟩,k.pure R (.str _)⟩
   .cases e
  .cases e
 .cases e
def KP:mq X "str.split" (rMm X.K cl splitM):=by
 rintro ag s σ H x xs v us Q I rx rs ⟨μ,h,wx,ws,w,h',R,ax,as,e,k⟩;unfold splitM at e;split at e
 .rename_i z y
  split at e
  .rename_i ok
   cases e;cases ax.str_of;obtain⟨t,rfl⟩:=rx;cases as with | cons r tt=>cases tt with | nil=>
   cases r.str_of;cases rs with | cons r1 r2=>
   cases r2;obtain⟨u,rfl⟩:=r1;refine ZP ok.1 (by rw[qZ];have:=ok.2;omega) λl kk el=>?_
   obtain⟨vs,q1,q2⟩:=mm (X:=X) (μ:=μ) (H:=H) l;rw[el] at q1;have lv:vs.length=(Txt.split z y).length:=by rw[q2.length,<-el];simp[Ũ]
   have sp:=PyProof.Rows.split_le z y;refine⟨.ref s.heap.objs.size,_,I.laid (o:=.lst vs) (t':=kk) (λ_ _ q=>zg _ q) (zF _) ⟨by rw[lv,qZ];have:=ok.2;omega,_,0,q2,zL _ rfl⟩,rfl,?_⟩;exact KQ.fls k R q1 (I.hok.fresh (zF _))
  .cases e
 .cases e
def oQ{name:È}{id:String}(slot:Slot "str" name id)(ty:typeOf (.builtin id)=pure (.type "method_descriptor"))(mt:mq X id (rMm X.K cl f))(ho:SE X cl o mo)(ha:SA X cl (e::es) ms)(Ac:ó o name X.env (eval o X.env)=eval o X.env)
  (AQ:((Ö cpos (É (e::es) X.env)).all (λx=>!x.1)&&(Ĩ cpos (Ć [] X.env)).all (λx=>x.1.isSome)&&decide ((e::es).length+([]:List Ă).length+(if ([]:List Ă).isEmpty then 0 else 1)<30))=Ã)
  (Ad:(apos.endLine==cpos.line)=Ã) (hs:É (e::es) X.env=(Â,eval e X.env)::É es X.env) (Ah:(Ö cpos (É es X.env)).any (·.1)=Â):SE X cl (.Call (.Attribute o name apos) (e::es) [] cpos) (qB f mo ms):=by
 rintro ag s σ H Q I ⟨μ,h,ρ,w,h',R,er,q,k⟩;obtain⟨x,h1,e1,q⟩:=kd q;split at q
 .rename_i z
  obtain⟨ws,h2,e2,q⟩:=kd q;refine Į Ac AQ Ad rfl (kq (ho ag s σ H (λv H1=>∃cx,Ext μ H cx H1/\HR X.K cl cx H1 h1/\RW X.K cx H1 (.str z) v) I ⟨μ,h,ρ,_,h1,R,er,e1,λcx H1 v E1 R1 r=>⟨cx,E1,R1,r⟩⟩) ?_);rintro v s1 ⟨vx,H1,I1,r1,cx,E1,R1,rv⟩;cases rv.str_of;have My:=r1;obtain⟨t,rfl⟩:=r1;refine⟨"str",id,F.plainAttrs_str,slot,ty,vW _ _ _,(λ_ e=>nomatch e),?_⟩;have hA:=ha cpos ag s1 σ H1 (λxs H2=>∃hX,Ext cx H1 hX H2/\HR X.K cl hX H2 h2/\RWs X.K hX H2 ws xs) I1 ⟨cx,h1,ρ,ws,h2,R1,er.ext R E1,e2,λhX H2 xs E2 R2 rs=>⟨hX,E2,R2,rs⟩⟩;rw[hs] at hA ⊢;refine qX (by show(Â||(Ö cpos (É es X.env)).any (·.1))=Â;rw[Ah]<;>rfl) (vB (kq hA ?_));rintro us s2 ⟨xs,H2,I2,r2,hX,E2,R2,rs⟩;exact mt ag s2 σ H2 (.str z) xs _ us Q I2 My r2 ⟨hX,h2,.str z,ws,w,h',R2,rv.ext R1 E2,rs,q,k.ext (E1.trans E2)⟩
 .cases q
end
end ML
namespace ML
open PySem PySem.W PySem.Spec PyProof.Rows L2
section
variable{prog:Í}{w:Ð}{A:Ò}{E:Ä->Å->Prop}{s:Å}{r l:Ç}{items:Array Ä}
def iw{α:Type}{c:Bool}{X Y:Sem α}{Q:α->Å->Prop}(hc:c=Â)(h:Ê (Ì prog w) A Y Q E s):Ê (Ì prog w) A (if c=Ã then X else Y) Q E s:=by
 rw[hc,kY (by simp)];exact h
def Xe{α:Type}{c:Bool}{X Y:Sem α}{Q:α->Å->Prop}(hc:c=Ã)(h:Ê (Ì prog w) A X Q E s):Ê (Ì prog w) A (if c=Ã then X else Y) Q E s:=by
 rw[hc,zW rfl];exact h
def WU:Č (.type "list_reverseiterator") "__len__" = pure Á:=by rw[wD,vd];kernel_rfl
def J5:Č (.type "list_reverseiterator") "__length_hint__" = pure (À (.builtin "list_reverseiterator.__length_hint__")):=by rw[wD,vd];kernel_rfl
def QW(hT:s.TypeIs (.ref r) "list_reverseiterator")(h:Q Â s):Ê (Ì prog w) A (Ĕ (.ref r)) Q E s:=by
 unfold Ĕ;refine za (Ĵ hT WU ?_);dsimp only;refine iw ⋯ ?_;refine iw ⋯ ?_;refine wpAny_bind (Ĵ hT J5 ?_);dsimp only;generalize hid:("list_reverseiterator.__length_hint__":String)=idl;rw[show splitId idl=À ("list_reverseiterator","__length_hint__") from by subst hid;decide +kernel];subst hid;dsimp only;refine wpAny_bind (wpAny_isInstance (b:=Ã) hT (by rw[isSubtype_type];kernel_rfl) ?_);rw[kY (by decide)];refine Xe ⋯ ?_;refine iw ⋯ ?_;exact zy h
def Zu(hh:A.handled=Á)(hit:s.heap.IsRevIter r l ((items.size:Int)-1))(hl:s.heap.IsList l items)(AF:l≠r)(S:Ç)(Ha:S≠r)(HV:S≠l)(c0:Nat)(hS:s.heap.get? S=À { cls:=.type "list",data:=.seq #[] c0 })(hn:items.size<=sizeLine)
  (hR:∀h' tk c',(∀b o,b≠S->b≠r->s.heap.get? b=À o->h'.get? b=À o)->h'.get? S=À { cls:=.type "list",dict:=Á,data:=.seq items.reverse c',slots:=#[] }->R (.ok (.ret .none)) { s with heap:=h',toks:=tk }) :
  Ê (Ì prog w) A.in1 (í (.ref S) (.ref r) .none)
   (λfin s'=>match fin with | .done f=>R (.ok f) s' | .again c'=>c'.quiet=Ã/\ĉ (Ì prog w) A c' R s') (λe s'=>R (.error e) s') s:=by
 have Mz:S∉[r,l]:=by erw[zp,zm,zU,wF];exact⟨Ha,HV⟩
 have W:=Walks.listRev (prog:=prog) (w:=w) (A:=A.in1) hh r l AF items;have e0:(items.size:Int)-1-((0:Nat):Int)=(items.size:Int)-1:=by omega
 have key:∀(h:Ï) (c1:Nat),h.IsRevIter r l ((items.size:Int)-1)->h.IsList l items->(∀b o,b≠S->b≠r->s.heap.get? b=À o->h.get? b=À o)->
   h.get? S=À { cls:=.type "list",data:=.seq #[] c1 }->ĉ (Ì prog w) A (.builtin "list.extend.loop" ⟨[.ref S,.ref r,.none],[]⟩) R { s with heap:=h }:=by
  intro h c1 q1 q2 hk MA;refine codeAny_extend_loopS W.toS hn S Mz .none items.size 0 _ #[] c1 rfl (wA _) ⟨wA _,by rw[e0];exact q1,q2⟩ MA (ItemsOf.nil _) λs' AS c' hm Hb EC=>?_
  rw[Moved.eq_with hm];have er:AS=items.reverse:=by
   apply Array.ext
   .rw[EC.1,Array.size_reverse]
   .intro j a1 a2
    have:items[items.size-1-j]?=À AS[j]:=EC.2 j AS[j] (by simp[a1]);rw[Array.getElem_reverse];rw[Array.getElem?_eq_getElem (by rw[EC.1] at a1;omega)] at this;exact(zP this).symm
  subst er;refine hR s'.heap s'.toks c' (λb o hb hb2 e=>hm.heap b o (λED=>?_) (hk b o hb hb2 e)) Hb;rcases zp.mp ED with e' | ED
  .exact hb e'
  .exact hb2 (kJ.mp ED)
 unfold í;refine za (qC hit.typeIs ?_);have h1:Ħ (.ref S) (.ref r)=Â:=by simp[Ħ,Ha]
 refine iw (by rw[h1];rfl) ?_;refine za (wpAny_pyIter_revIter hit ?_);refine za (jf (QW hit.typeIs ?_));refine wpAny_ite_split (λ_=>?_) (λ_=>zy ⟨yw yI _,key s.heap c0 hit hl (λb o _ _ e=>e) hS⟩);refine za (qP ?_);refine za ?_;show Ê _ _ (updateSeq S (·.push .none) >>= λ_=>updateSeq S (·.pop)) _ _ _
 refine za (vH hS rfl ?_);have Ga:=j9 (ï (·.push î)) hS rfl;refine vH Ga rfl ?_;have MB:=j9 (ï (·.pop)) Ga rfl;have EE:∀b o,b≠S->s.heap.get? b=À o->((s.heap.update S (ï (·.push î))).update S (ï (·.pop))).get? b=À o:=λb o hb e=>(qy _ _ (kZ hb)).trans ((qy _ _ (kZ hb)).trans e)
 exact zy ⟨yw yI _,key _ _ (hit.at λo e=>EE _ _ (kZ Ha) e) (hl.at λo e=>EE _ _ (kZ HV) e) (λb o hb _ e=>EE b o hb e) MB⟩
def QS(hh:A.handled=Á)(hit:s.heap.IsRevIter r l ((items.size:Int)-1))(hl:s.heap.IsList l items)(AF:l≠r)(hn:items.size<=sizeLine)
  (hQ:∀h' tk c',(∀b o,b≠r->s.heap.get? b=À o->h'.get? b=À o)->h'.get? s.heap.objs.size=À { cls:=.type "list",dict:=Á,data:=.seq items.reverse c',slots:=#[] }->Q (.ref s.heap.objs.size) { s with heap:=h',toks:=tk }) :
  Ê (Ì prog w) A (call (.type "list") [.ref r]) Q E s:=by
 have HW:r<s.heap.objs.size:=by obtain⟨o,e,_⟩:=hit;exact zz e
 have HX:l<s.heap.objs.size:=by obtain⟨o,e,_⟩:=hl;exact zz e
 refine callType_codes (Q₁:=λobj s1=>obj=.ref s.heap.objs.size/\s1={ s with heap:=s.heap.push { cls:=.type "list",data:=.seq #[] } }) PySem.F.called_list (PySem.F.typeCall_list_1 _) PySem.F.entry_list_init (code_list_new _ ⟨rfl,rfl⟩) λobj s1 h1=>?_
 obtain⟨rfl,rfl⟩:=h1;have hS:(s.heap.push { cls:=.type "list",data:=.seq #[] }).get? s.heap.objs.size=À { cls:=.type "list",data:=.seq #[] }:=zL _ rfl;refine⟨⟨_,hS,rfl⟩,PySem.F.args_list_init_2 _ _,?_⟩;show Ê _ _ (do let old <-ı (.ref s.heap.objs.size);Builtin.List.listUpdate (.ref s.heap.objs.size) (λ_=>#[]);letGo old.toList.reverse;í (.ref s.heap.objs.size) (.ref r) .none) _ _ _
 refine za ?_;unfold ı;refine za (jV hS rfl (zy ?_));show Ê _ _ (updateSeq s.heap.objs.size (λ_=>#[]) >>= λ_=>letGo (#[]:Array Ä).toList.reverse >>= λ_=>í (.ref s.heap.objs.size) (.ref r) .none) _ _ _
 refine za (vH hS rfl ?_);have Ga:=j9 (ï (λ_=>(#[]:Array Ä))) hS rfl;have EE:∀b o,b≠s.heap.objs.size->s.heap.get? b=À o->((s.heap.push { cls:=.type "list",data:=.seq #[] }).update s.heap.objs.size (ï (λ_=>(#[]:Array Ä)))).get? b=À o:=
  λb o hb e=>(qy _ _ (kZ hb)).trans (zg _ e)
 refine za (xn ?_);refine Zu (A:=A.in1) hh (hit.at λo e=>EE _ _ (zT HW) e) (hl.at λo e=>EE _ _ (zT HX) e) AF _ (qI HW) (qI HX) _ Ga hn λh' tk c' hk Hb=>?_
 exact⟨rfl,hQ h' tk c' (λb o hb e=>hk b o (zT (zz e)) hb (EE b o (zT (zz e)) e)) Hb⟩
end
noncomputable def gS(w:W):M W:=λh=>(getL h w).bind λl=>if l.length<=1000 then À (.fls l.reverse,h) else Á
theorem RWs.rev{K:NT}{μ:List Ç}{H:Hp}:∀{l:List W} {vs:List V},RWs K μ H l vs->RWs K μ H l.reverse vs.reverse
 | _,_,.nil=>.nil
 | _,_,.cons r rs=>by
  rw[jj,jj];exact(RWs.rev rs).append (.cons r .nil)
theorem om:∀{vs:List V} {us:List Ä},Vals vs us->Vals vs.reverse us.reverse
 | _,_,.nil=>.nil
 | _,_,.cons r rs=>by
  rw[jj,jj];exact(om rs).append (.cons r .nil)
section
variable{X:Cx}{cl:Cl}{a:Ë}{ma:ME}{p p2 p3 pos:õ}
def Ys(hc:X.calm=Ã)(hl:X.mg "list" = Á)(hs:X.mg "reversed" = Á)(ha:SE X cl a ma)(hg:Gl X "list")(GF:Gl X "reversed")
  (HY:É [a] X.env=(Â,eval a X.env)::É [] X.env) (Hc:(Ö p3 (É [] X.env)).any (·.1)=Â)
  (F9:É [.Call (.Name "reversed" p2) [a] [] p3] X.env=(Â,eval (.Call (.Name "reversed" p2) [a] [] p3) X.env)::É [] X.env) (He:(Ö pos (É [] X.env)).any (·.1)=Â) :
  SE X cl (.Call (.Name "list" p) [.Call (.Name "reversed" p2) [a] [] p3] [] pos) (jp gS ma):=by
 rintro ag s σ H Q I ⟨μ,h,ρ,w,h',R,er,e,k⟩;obtain⟨x,h1,e1,e⟩:=kd e;have hv:Ñ "reversed" = À (.type "reversed"):=by decide +kernel
 have Gb:Ñ "list" = À (.type "list"):=by decide +kernel
 refine jF (u7 I hg hl Gb ?_ (by decide) (by decide));refine jC ?_ F9 He;rw[F9];show Ê _ _ (ŭ ((Â,eval (.Call (.Name "reversed" p2) [a] [] p3) X.env)::Ö pos (É [] X.env))) _ _ s
 have h0:∀{q:õ},Ö q (É [] X.env)=[]:=λ{q}=>rfl
 rw[h0];refine qT ?_;refine jF (u7 I GF hs hv ?_ (by decide) (by decide));refine jC ?_ HY Hc;rw[HY];show Ê _ _ (ŭ ((Â,eval a X.env)::Ö p3 (É [] X.env))) _ _ s
 rw[h0];refine qT (kq (ha ag s σ H (λv H1=>∃cx,Ext μ H cx H1/\HR X.K cl cx H1 h1/\RW X.K cx H1 x v) I ⟨μ,h,ρ,x,h1,R,er,e1,λcx H1 v E1 R1 r=>⟨cx,E1,R1,r⟩⟩) ?_);rintro u s1 ⟨v,H1,I1,r1,cx,E1,R1,rv⟩;refine wg ?_;obtain⟨l,el,e⟩:=zf.mp (show(getL h1 x).bind _=À (w,h') from e);by_cases ok:l.length<=1000
 .rw[zW ok] at e
  cases e;obtain⟨d,vs,rfl,sq,ra⟩:=wc R1 rv el;cases r1;obtain⟨cb,Hf,⟨o,n,g1,g2,g3,g4⟩,_⟩:=I1.list sq;have ET:s1.heap.IsList d cb.toArray:=⟨o,g1,g2,n,g4⟩;have lt:d<s1.heap.objs.size:=zz g1;have Hg:cb.length=l.length:=by rw[<-Hf.length,ra.length]
  refine call_reversed_list ET ?_;have FJ:∀b ob,s1.heap.get? b=À ob->(s1.heap.push (revObj d ((cb.toArray.size:Int)-1))).get? b=À ob:=λb ob q=>zg _ q
  refine wg (QS (s:={ s1 with heap:=s1.heap.push (revObj d ((cb.toArray.size:Int)-1)) }) (items:=cb.toArray) (I1.ok.hd hc) ⟨_,zL _ rfl,rfl,rfl⟩ (ET.push _) (zT lt) (by simp[qZ];omega) λh2 tk c' kp ob=>?_);have sz:(s1.heap.push (revObj d ((cb.toArray.size:Int)-1))).objs.size=s1.heap.objs.size+1:=qe ..;have FK:∀b ob,s1.heap.get? b=À ob->h2.get? b=À ob:=λb ob q=>kp b ob (zT (zz q)) (FJ b ob q)
  have HZ:s1.heap.objs.size<=(s1.heap.push (revObj d ((cb.toArray.size:Int)-1))).objs.size:=by rw[sz];exact jZ _
  have q2:=om Hf;refine⟨.ref _,_,I1.laid (o:=.lst vs.reverse) (t':=tk) FK HZ ⟨by rw[qF,Hf.length,Hg,qZ];omega,_,c',q2,by simpa using ob⟩,rfl,?_⟩;exact KQ.fls (k.ext E1) R1 ra.rev (I1.hok.fresh HZ)
 .rw[kY ok] at e;cases e
end
end ML
namespace ML
open PySem PySem.Spec PyProof.Rows L2
noncomputable def eB(E:Ë->Option ME)(es:List Ë):Option (List ME):=if es.all noStar=Ã then qk E es else Á
noncomputable def aE(Γ:RC)(x:È):Bool:=Γ.bin.any (· == x)
noncomputable def tyOf(x:È):Option Ty:=if x=="int" then À .int else if x=="str" then À .str else if x=="bool" then À .bool else if x=="tuple" then À .tuple else if x=="list" then À .list else if x=="dict" then À .dict else Á
noncomputable def g8(mu:Bool)(x:È):Option (List W->M W):=
 if x=="len" then À kb else if x=="all" then À tH else if x=="any" then À Uo else if x=="sum" then À fH
 else if x=="int" then À gX else if x=="str" then À eO else if x=="tuple" then À ap else if x=="dict" then À fU
 else if x=="list" then (match mu with
  | true=>À i4
  | false=>À c9)
 else Á
noncomputable def nX:List Ë->Option Ë
 | [.Call (.Name y _) [a] [] _]=>if y=="reversed" then À a else Á
 | _=>Á
noncomputable def nY(Γ:RC):List Ë->Option (Ë×Ty)
 | [a,.Name y _]=>if (vv Γ.sc y&&aE Γ y&&noStar a)=Ã then (tyOf y).map λT=>(a,T) else Á
 | _=>Á
noncomputable def oh(Γ:RC)(E:Ë->Option ME)(mu:Bool)(x:È)(as:List Ë):Option ME:=
 if x=="isinstance" then (nY Γ as).bind λp=>(E p.1).map (jp (isW p.2))
 else match as with
  | []=>Á
  | _::_=>(g8 mu x).bind λg=>(eB E as).map (zi g)
noncomputable def oS(Γ:RC)(E:Ë->Option ME)(mu:Bool)(x:È)(as:List Ë):Option ME:=
 if vv Γ.sc x=Ã then (match Γ.fns.lookup x with
  | some g=>(eB E as).map (zi g)
  | none=>if aE Γ x=Ã then (match nX as with
    | some a=>if (x=="list" && vv Γ.sc "reversed" && aE Γ "reversed" && noStar a)=Ã then (E a).map (jp gS) else Á
    | none=>oh Γ E mu x as) else Á) else Á
noncomputable def Zc(E EM:Ë->Option ME)(o:Ë)(m:È)(apos:õ)(as:List Ë)(pos:õ):Option ME:=
 if (Z9 o&&(apos.endLine==pos.line)&&as.all noStar&&decide (as.length<30))=Ã then (E o).bind λmo=>match as with
  | []=>if m=="pop" then À (kA uz mo []) else Á
  | a::r=>if m=="append" then (qk EM (a::r)).map (kA qf mo)
   else if m=="extend" then (qk E (a::r)).map (kA xY mo)
   else if m=="join" then (qk E (a::r)).map (qB joinM mo)
   else if m=="split" then (qk E (a::r)).map (qB splitM mo)
   else if m=="get" then (match r with
    | [b]=>(E a).bind λma=>(E b).map (io mo ma)
    | _=>Á)
   else Á
 else Á
section
variable{Γ:RC}{cl:Cl}{k:Nat}{X:Cx}{x:È}{m:ME}{pos p:õ}{E:Ë->Option ME}{as:List Ë}{mu:Bool}
theorem uB:∀{es:List Ë} {ms:List ME},(∀e m,E e=À m->SE X cl e m)->es.all noStar=Ã->qk E es=À ms->SA X cl es ms
 | [],ms,_,_,h=>by cases h;exact am
 | e::es,ms,hE,hn,h=>by
  obtain⟨m,G9,h1,h2,rfl⟩:=dc h;rw[jt,zb] at hn;exact yv (hE _ _ h1) (uB hE hn.2 h2) (kB hn.1)
def bE{es:List Ë}(hE:∀e m,E e=À m->SE X cl e m)(h:eB E es=À ms):es.all noStar=Ã/\SA X cl es ms:=by
 unfold eB at h;split at h
 .rename_i hn
  exact⟨hn,uB hE hn h⟩
 .cases h
def u5(F:Fits Γ cl k X)(h:aE Γ x=Ã):X.mg x=Á:=by
 unfold aE at h;obtain⟨y,hy,e⟩:=vU.mp h;rw[<-eq_of_beq e];exact F.base.bin.at hy
def Yb{T:Ty}(h:tyOf x=À T):Ñ x=À (.type T.name):=by
 unfold tyOf at h;split at h
 .rename_i q;rw[eq_of_beq q];cases h;exact sr
 split at h
 .rename_i q;rw[eq_of_beq q];cases h;exact sj
 split at h
 .rename_i q;rw[eq_of_beq q];cases h;exact JS
 split at h
 .rename_i q;rw[eq_of_beq q];cases h;exact mz
 split at h
 .rename_i q;rw[eq_of_beq q];cases h;exact g6
 split at h
 .rename_i q;rw[eq_of_beq q];cases h;exact nM
 .cases h
def pV(F:Fits Γ cl k X)(hg:vv Γ.sc x=Ã)(hb:aE Γ x=Ã)(h:g8 mu x=À g)(hn:(e::es).all noStar=Ã)(ha:SA X cl (e::es) ms):SE X cl (.Call (.Name x p) (e::es) [] pos) (zi g ms):=by
 have hm:=u5 F hb;rw[jt,zb] at hn;have h1:=kB (es:=es) (env:=X.env) hn.1;have h2:=ja (pos:=pos) (env:=X.env) hn.2;unfold g8 at h;split at h
 .rename_i q;have q:=eq_of_beq q;subst q;cases h;exact VQ hg Ko hm PySem.boot_len ha F.sc h1 h2
 split at h
 .rename_i q;have q:=eq_of_beq q;subst q;cases h;exact VQ hg (Jk F.calm) hm ML.boot_all ha F.sc h1 h2
 split at h
 .rename_i q;have q:=eq_of_beq q;subst q;cases h;exact VQ hg (Kb F.calm) hm ML.boot_any ha F.sc h1 h2
 split at h
 .rename_i q;have q:=eq_of_beq q;subst q;cases h;exact VQ hg (Ku F.calm) hm ML.boot_sum ha F.sc h1 h2
 split at h
 .rename_i q;have q:=eq_of_beq q;subst q;cases h;exact rQ hg Kc hm sr ha F.sc h1 h2
 split at h
 .rename_i q;have q:=eq_of_beq q;subst q;cases h;exact rQ hg JI hm sj ha F.sc h1 h2
 split at h
 .rename_i q;have q:=eq_of_beq q;subst q;cases h;exact rQ hg pN hm mz ha F.sc h1 h2
 split at h
 .rename_i q;have q:=eq_of_beq q;subst q;cases h;exact rQ hg (sX F.calm) hm nM ha F.sc h1 h2
 split at h
 .rename_i q
  have q:=eq_of_beq q;subst q;split at h
  .cases h;exact rQ hg Zn hm g6 ha F.sc h1 h2
  .cases h;exact rQ hg Zv hm g6 ha F.sc h1 h2
 .cases h
def ZT(h:nY Γ as=À (a,T)):∃y p2,as=[a,.Name y p2]/\vv Γ.sc y=Ã/\aE Γ y=Ã/\noStar a=Ã/\tyOf y=À T:=by
 unfold nY at h;split at h
 .rename_i a' y p2
  split at h
  .rename_i q
   rw[zj] at h;obtain⟨T',e,z⟩:=h;cases z;erw[zb] at q;exact⟨y,p2,rfl,q.1.1,q.1.2,q.2,e⟩
  .cases h
 .cases h
def Kz(F:Fits Γ cl k X)(hE:∀e m,E e=À m->SE X cl e m)(hg:vv Γ.sc x=Ã)(hb:aE Γ x=Ã)(h:oh Γ E mu x as=À m):SE X cl (.Call (.Name x p) as [] pos) m:=by
 unfold oh at h;split at h
 .rename_i q
  have q:=eq_of_beq q;subst q;rw[zf] at h;obtain⟨⟨a,T⟩,e,h⟩:=h;rw[zj] at h;obtain⟨ma,e2,rfl⟩:=h;obtain⟨y,p2,rfl,g2,b2,ns,ty⟩:=ZT e;exact C6 T hg g2 (hE _ _ e2) (u5 F hb) (u5 F b2) (Yb ty) F.sc (kB ns) (kB rfl) (ja rfl)
 .split at h
  .cases h
  .rw[zf] at h
   obtain⟨g,e,h⟩:=h;rw[zj] at h;obtain⟨ms,e2,rfl⟩:=h;obtain⟨hn,ha⟩:=bE hE e2;exact pV F hg hb e hn ha
def Z0(h:nX as=À a):∃p2 p3,as=[.Call (.Name "reversed" p2) [a] [] p3]:=by
 unfold nX at h;split at h
 .rename_i y p2 a' p3
  split at h
  .rename_i q
   cases h;rw[eq_of_beq q];exact⟨p2,p3,rfl⟩
  .cases h
 .cases h
def ZG(F:Fits Γ cl k X)(hE:∀e m,E e=À m->SE X cl e m)(h:oS Γ E mu x as=À m):SE X cl (.Call (.Name x p) as [] pos) m:=by
 unfold oS at h;split at h
 .rename_i hg
  split at h
  .rename_i g e
   rw[zj] at h;obtain⟨ms,e2,rfl⟩:=h;obtain⟨hn,ha⟩:=bE hE e2;obtain⟨f,fd,ps,fo,hm,hk,hb⟩:=F.base.fns.at e;cases as with
   | nil=>
    have:ms=[]:=by
     cases e2;rfl
    subst this;exact DB hg fo F.room hm hk hb F.sc
   | cons a r=>
    rw[jt,zb] at hn;exact c_ hg fo F.room hm hk hb ha F.sc (kB hn.1) (ja hn.2)
  .split at h
   .rename_i hb
    split at h
    .rename_i a e
     split at h
     .rename_i q
      erw[zb] at q;rw[zj] at h;obtain⟨ma,e2,rfl⟩:=h;obtain⟨p2,p3,rfl⟩:=Z0 e;have hx:=eq_of_beq q.1.1.1;subst hx;exact Ys F.calm (u5 F hb) (u5 F q.1.2) (hE _ _ e2) (ky hg F.sc).1 (ky q.1.1.2 F.sc).1 (kB q.2) (ja rfl) (kB rfl) (ja rfl)
     .cases h
    .exact Kz F hE hg hb h
   .cases h
 .cases h
def J1(F:Fits Γ cl k X)(hE:∀e m,E e=À m->SE X cl e m)(hM:∀e m,EM e=À m->SE X cl e m)(h:Zc E EM o nm apos as pos=À m):SE X cl (.Call (.Attribute o nm apos) as [] pos) m:=by
 unfold Zc at h;split at h
 .rename_i q
  erw[zb] at q;obtain⟨⟨⟨q1,q2⟩,q3⟩,q4⟩:=q;rw[zf] at h;obtain⟨mo,eo,h⟩:=h;split at h
  .split at h
   .rename_i z
    rw[eq_of_beq z];cases h;exact Xy (hE _ _ eo) (bq q1) q2
   .cases h
  .rename_i a r
   have hn:=q3;rw[jt,zb] at hn;split at h
   .rename_i z
    rw[eq_of_beq z];rw[zj] at h;obtain⟨ms,e2,rfl⟩:=h;exact Jh (hE _ _ eo) (uB hM q3 e2) (bq q1) (fI q3 q4) q2 (kB hn.1) (ja hn.2)
   split at h
   .rename_i z
    rw[eq_of_beq z];rw[zj] at h;obtain⟨ms,e2,rfl⟩:=h;exact Kq (hE _ _ eo) (uB hE q3 e2) (bq q1) (fI q3 q4) q2 (kB hn.1) (ja hn.2)
   split at h
   .rename_i z
    rw[eq_of_beq z];rw[zj] at h;obtain⟨ms,e2,rfl⟩:=h;exact oQ PySem.F.slot_str_join PySem.F.type_str_join Qr (hE _ _ eo) (uB hE q3 e2) (bq q1) (fI q3 q4) q2 (kB hn.1) (ja hn.2)
   split at h
   .rename_i z
    rw[eq_of_beq z];rw[zj] at h;obtain⟨ms,e2,rfl⟩:=h;exact oQ PySem.F.slot_str_split PySem.F.type_str_split KP (hE _ _ eo) (uB hE q3 e2) (bq q1) (fI q3 q4) q2 (kB hn.1) (ja hn.2)
   split at h
   .rename_i z
    rw[eq_of_beq z];split at h
    .rename_i b
     rw[zf] at h;obtain⟨ma,e1,h⟩:=h;rw[zj] at h;obtain⟨mb,e2,rfl⟩:=h;have hb:noStar b=Ã:=by simpa using hn.2
     exact Qu F.room.units (hE _ _ eo) (hE _ _ e1) (hE _ _ e2) ⟨bq q1,fI q3 q4,q2,by rw[de hn.1,de hb,fc];rfl⟩
    .cases h
   .cases h
 .cases h
end
noncomputable def Kx(Γ:RC):Ë->Bool
 | .Constant (.str _) _ _=>Ã
 | .Name x _=>Γ.txt.any (· == x)
 | _=>Â
noncomputable def Vu(Γ:RC):Ë->Bool
 | .Subscript e (.Slice _ _ _ _) _=>Kx Γ e
 | e=>Kx Γ e
noncomputable def isTup:Ë->Bool
 | .Tuple ..=>Ã
 | _=>Â
noncomputable def nR(Γ:RC)(E:Ë->Option ME)(tg:Ë)(x:È)(as:List Ë):Option MI:=
 if (vv Γ.sc x&&aE Γ x&&as.all noStar)=Ã then (match as with
  | [e]=>if x=="range" then (E e).map λm=>eS [m]
   else if (x=="enumerate" && isTup tg)=Ã then (E e).map λm=>Zy [m]
   else Á
  | [e,e2]=>if (x=="zip" && isTup tg)=Ã then (E e).bind λm=>(E e2).map λm2=>gW [m,m2] else Á
  | _=>Á) else Á
noncomputable def Kh(Γ:RC)(E:Ë->Option ME)(tg:Ë):Ë->Option MI
 | .Call (.Name x _) as [] _=>nR Γ E tg x as
 | _=>Á
noncomputable def mV(Γ:RC)(E:Ë->Option ME)(tg it:Ë):Option MI:=match Kh Γ E tg it with
 | some m=>À m
 | none=>(E it).map λm=>match Vu Γ it with
  | true=>il m
  | false=>wn m
section
variable{Γ:RC}{cl:Cl}{k:Nat}{X:Cx}{x:È}{pos p:õ}{E:Ë->Option ME}{as:List Ë}{tg it:Ë}{mi:MI}
def oI(h:isTup tg=Ã):∃es n tp,tg=.Tuple es n tp:=by
 unfold isTup at h;split at h
 .exact⟨_,_,_,rfl⟩
 .cases h
def Kg(F:Fits Γ cl k X)(hE:∀e m,E e=À m->SE X cl e m)(h:nR Γ E tg x as=À mi):SI X cl tg (.Call (.Name x p) as [] pos) mi:=by
 unfold nR at h;split at h
 .rename_i q
  erw[zb] at q;obtain⟨⟨q1,q2⟩,q3⟩:=q;split at h
  .rename_i e
   have hn:noStar e=Ã:=by simpa using q3
   split at h
   .rename_i z
    have z:=eq_of_beq z;subst z;rw[zj] at h;obtain⟨m,e1,rfl⟩:=h;exact CG q1 (u5 F q2) (yv (hE _ _ e1) am (kB hn)) F.sc (by rw[kB hn,fc])
   split at h
   .rename_i z
    rw[zb] at z;obtain⟨es,n,tp,rfl⟩:=oI z.2;have z:=eq_of_beq z.1;subst z;rw[zj] at h;obtain⟨m,e1,rfl⟩:=h;exact CK q1 (u5 F q2) (yv (hE _ _ e1) am (kB hn)) F.sc (kB hn) (ja rfl)
   .cases h
  .rename_i e e2
   rw[jt,zb] at q3;have Ej:noStar e2=Ã:=by simpa using q3.2
   split at h
   .rename_i z
    rw[zb] at z;obtain⟨es,n,tp,rfl⟩:=oI z.2;have z:=eq_of_beq z.1;subst z;rw[zf] at h;obtain⟨m,e1,h⟩:=h;rw[zj] at h;obtain⟨m2,e3,rfl⟩:=h;exact C9 q1 (u5 F q2) (yv (hE _ _ e1) (yv (hE _ _ e3) am (kB Ej)) (kB q3.1)) F.sc (kB q3.1) (ja q3.2)
   .cases h
  .cases h
 .cases h
def nE(F:Fits Γ cl k X)(hE:∀e m,E e=À m->SE X cl e m)(h:mV Γ E tg it=À mi):SI X cl tg it mi:=by
 unfold mV at h;split at h
 .rename_i m e
  cases h;unfold Kh at e;split at e
  .exact Kg F hE e
  .cases e
 .rw[zj] at h
  obtain⟨m,e1,h⟩:=h;cases q:Vu Γ it with
  | true=>rw[q] at h;subst h;exact UJ (hE _ _ e1)
  | false=>rw[q] at h;subst h;exact Ur (hE _ _ e1)
end
noncomputable def pG(T:Ë->Option MT):List Ë->Option MT
 | []=>À ux
 | [c]=>T c
 | _=>Á
structure CompR where
 mi:MI
 nl:Nat
 ks:List Nat
 g:MG
 t:MT
 m:ME
noncomputable def RC.inner(Γ:RC)(scope:Þ)(N':List È):RC:={ Γ with sc:=fN Γ.sc scope,N:=N',inC:=Ã }
noncomputable def ZX(Γ:RC)(E:RC->Bool->Ë->Option ME)(T:RC->Ë->Option MT)(elt tg it:Ë)(ifs:List Ë)(scope:Þ)(N':List È):Option CompR:=
 if (nk it&&pb N')=Ã then (qk (λx=>eU x Γ.N) (N'.drop (XC tg))).bind λks=>
  if uC Γ.sc Γ.N scope N' (XC tg) ks=Ã then (mV Γ (E Γ Â) tg it).bind λmi=>(K0 (Γ.inner scope N') tg).bind λg=>(pG (T (Γ.inner scope N')) ifs).bind λt=>(E (Γ.inner scope N') Â elt).map λm=>⟨mi,XC tg,ks,g,t,m⟩
  else Á
 else Á
noncomputable def mW(Γ:RC)(E:RC->Bool->Ë->Option ME)(T:RC->Ë->Option MT)(elt:Ë)(gens:List ō)(scope:Þ)(pos:õ):Option CompR:=match gens with
 | [⟨tg,it,ifs,ia⟩]=>match Γ.cmp.lookup (pos.line,pos.col) with
  | some N'=>if ia=0 then ZX Γ E T elt tg it ifs scope N' else Á
  | none=>Á
 | _=>Á
section
variable{Γ:RC}{cl:Cl}{k:Nat}{X:Cx}{E:RC->Bool->Ë->Option ME}{T:RC->Ë->Option MT}{elt:Ë}{gens:List ō}{scope:Þ}{pos:õ}{r:CompR}
theorem Fits.inner(F:Fits Γ cl k X){N':List È}(hN:N'.Nodup)(hk:scope.kind=.function)(cs:List (È×Ç))(C:Ç)(s₀:Å)(H₀:Hp)(ex:List Ç):Fits (Γ.inner scope N') cl k (wa X scope cs C N' s₀ H₀ ex) where
 sc:=by
  show relabel scope X.env=fN Γ.sc scope
  rw[<-F.sc];rfl
 N:=rfl
 nd:=hN
 fn:=λh=>by cases h
 kind:=hk
 calm:=F.calm
 pass:=wI
 room:=F.room
 base:=⟨F.base.fns,F.base.con,F.base.tab,F.base.bin,F.base.pw,F.base.xf,F.base.xc,F.base.ek⟩
 nox:=λ_ _ _ z=>z
 rs:=λh=>by cases h
 xp:=λh=>by cases h
 stk:=λh=>by cases h
def Jy(hT:∀e m,t e=À m->ST X cl e m)(h:pG t ifs=À m):fv X cl ifs m:=by
 unfold pG at h;split at h
 .cases h;exact WB
 .exact YM (hT _ _ h)
 .cases h
structure CompG(X:Cx)(cl:Cl)(elt:Ë)(gens:List ō)(scope:Þ)(r:CompR):Prop where
 ex:∃tg it ifs N',gens=[⟨tg,it,ifs,0⟩]/\uC X.env.scope X.N scope N' r.nl r.ks=Ã/\nk it=Ã/\SI X cl tg it r.mi/\(∀cs C s₀ H₀ ex,SG (wa X scope cs C N' s₀ H₀ ex) cl tg r.g)/\(∀cs C s₀ H₀ ex,fv (wa X scope cs C N' s₀ H₀ ex) cl ifs r.t)/\∀cs C s₀ H₀ ex,SE (wa X scope cs C N' s₀ H₀ ex) cl elt r.m
def nI(F:Fits Γ cl k X)(hE:∀Γ X,Fits Γ cl k X->∀mu e m,E Γ mu e=À m->SE X cl e m)(hT:∀Γ X,Fits Γ cl k X->∀e m,T Γ e=À m->ST X cl e m)(h:mW Γ E T elt gens scope pos=À r):CompG X cl elt gens scope r:=by
 unfold mW at h;split at h
 .rename_i tg it ifs ia
  split at h
  .rename_i N' _
   split at h
   .rename_i z
    subst z;unfold ZX at h;split at h
    .rename_i q
     rw[zb] at q;rw[zf] at h;obtain⟨ks,e1,h⟩:=h;split at h
     .rename_i ok
      rw[zf] at h;obtain⟨mi,e2,h⟩:=h;rw[zf] at h;obtain⟨g,e3,h⟩:=h;rw[zf] at h;obtain⟨t,e4,h⟩:=h;rw[zj] at h;obtain⟨m,e5,rfl⟩:=h;have Fi:=λcs C s₀ H₀ ex=>F.inner (scope:=scope) (Wk q.2) (ah ok).kind cs C s₀ H₀ ex
      exact⟨tg,it,ifs,N',rfl,by rw[F.sc,F.N];exact ok,q.1,nE F (hE _ _ F Â) e2,λcs C s₀ H₀ ex=>ol (Fi cs C s₀ H₀ ex) e3,λcs C s₀ H₀ ex=>Jy (hT _ _ (Fi cs C s₀ H₀ ex)) e4,λcs C s₀ H₀ ex=>hE _ _ (Fi cs C s₀ H₀ ex) _ _ _ e5⟩
     .cases h
    .cases h
   .cases h
  .cases h
 .cases h
end
noncomputable def tabOf(Γ:RC):ś->Ë->Option (Bool×List (È×W))
 | .In,.Name x _=>if vv Γ.sc x=Ã then (Γ.tab.lookup x).map λl=>(Â,l) else Á
 | .NotIn,.Name x _=>if vv Γ.sc x=Ã then (Γ.tab.lookup x).map λl=>(Ã,l) else Á
 | _,_=>Á
noncomputable def Zk(Γ:RC)(E:Ë->Option ME)(a:Ë)(op:ś)(b:Ë):Option ME:=match tabOf Γ op b with
 | some p=>(E a).map (jp (tabIn p.1 p.2))
 | none=>if Ý op b=Ã then Á else (VA op).bind λf=>(E a).bind λma=>(E b).map λmb=>zk f ma mb
noncomputable def Zq(E:Ë->Option ME)(a:Ë)(op Aw:ś)(b c:Ë):Option ME:=
 if Ň [op,Aw] [b,c]=Ã then Á else (VA op).bind λf=>(VA Aw).bind λg=>(E a).bind λma=>(E b).bind λmb=>(E c).map λmc=>uq f g ma mb mc
noncomputable def Zl(Γ:RC)(E:Ë->Option ME)(a:Ë)(ops:List ś)(bs:List Ë):Option ME:=match ops,bs with
 | [op],[b]=>Zk Γ E a op b
 | [op,Aw],[b,c]=>Zq E a op Aw b c
 | _,_=>Á
noncomputable def lJ(E:Ë->Option ME):Option Ë->Option (Option ME)
 | none=>À Á
 | some e=>(E e).map À
noncomputable def pB(E:Ë->Option ME)(ma:ME)(lo hi st:Option Ë):Option ME:=match st with
 | none=>(lJ E lo).bind λml=>(lJ E hi).map λmh=>jS ma ml mh
 | _=>Á
noncomputable def lq(Γ:RC)(E:Ë->Option ME)(a b:Ë):Option ME:=match a with
 | .Name x _=>if (vv Γ.sc x&&gp b)=Ã then (match Γ.tab.lookup x with
  | some l=>(E b).map (jp (af l))
  | none=>Á) else Á
 | _=>Á
noncomputable def sU(Γ:RC)(E:Ë->Option ME)(a b:Ë):Option ME:=match lq Γ E a b with
 | some m=>À m
 | none=>(E a).bind λma=>match b with
  | .Slice lo hi st _=>pB E ma lo hi st
  | b=>(E b).map (zk zt ma)
noncomputable def tG(Γ:RC)(E:Ë->Option ME)(a b:Ë):Bool->Option ME
 | false=>sU Γ E a b
 | true=>match b with
  | .Slice lo hi Á _=>(E a).bind λma=>(lJ E lo).bind λml=>(lJ E hi).map λmh=>U6 ma ml mh
  | b=>sU Γ E a b
noncomputable def iD(op:BoolOp)(E:Ë->Option ME):List Ë->Option ME
 | []=>Á
 | [a]=>E a
 | a::r=>(E a).bind λma=>(iD op E r).map λmb=>match op with
  | .And=>dJ ma mb
  | .Or=>VC ma mb
noncomputable def iW(op:BoolOp)(T:Ë->Option MT):List Ë->Option MT
 | []=>Á
 | [a]=>T a
 | a::r=>(T a).bind λma=>(iW op T r).map λmb=>match op with
  | .And=>uv ma mb
  | .Or=>vE ma mb
noncomputable def Zr(E:Ë->Option ME)(mu:Bool)(ks:List (Option Ë))(vs:List Ë):Option ME:=match ks,vs with
 | [],[]=>match mu with
  | true=>À Vr
  | false=>À (eC (.fdc []))
 | _,_=>Á
noncomputable def i9(mu:Bool)(r:CompR):ME:=match mu with
 | true=>fO r.mi r.nl r.ks r.g r.t r.m
 | false=>yk r.mi r.nl r.ks r.g r.t r.m
noncomputable def tD(E:RC->Bool->Ë->Option ME)(T:RC->Ë->Option MT)(Γ:RC)(mu:Bool):Ë->Option ME
 | .Name x _=>Zs Γ x
 | .Constant c _ _=>pE c
 | .UnaryOp .Not a _=>(E Γ Â a).map tZ
 | .UnaryOp .USub a _=>(E Γ Â a).map (jp uE)
 | .BinOp a op b _=>(XM mu op).bind λf=>(E Γ Â a).bind λma=>(E Γ Â b).map (zk f ma)
 | .Compare a ops bs _=>Zl Γ (E Γ Â) a ops bs
 | .BoolOp op vs _=>iD op (E Γ Â) vs
 | .IfExp t a b _=>(T Γ t).bind λmt=>(E Γ Â a).bind λma=>(E Γ Â b).map (oO mt ma)
 | .Tuple es _ _=>(eB (E Γ Â) es).map (zi zw)
 | .List es _=>match mu with
  | true=>(eB (E Γ Ã) es).map (zi vj)
  | false=>(eB (E Γ Â) es).map (zi kf)
 | .Dict ks vs _=>Zr (E Γ Â) mu ks vs
 | .Subscript a b _=>tG Γ (E Γ Â) a b mu
 | .Call (.Name x _) as [] _=>oS Γ (E Γ Â) mu x as
 | .Call (.Attribute o nm apos) as [] pos=>Zc (E Γ Â) (E Γ Ã) o nm apos as pos
 | .ListComp elt gens scope pos=>(mW Γ E T elt gens scope pos).map (i9 mu)
 | _=>Á
noncomputable def stepT(E:RC->Bool->Ë->Option ME)(T:RC->Ë->Option MT)(Γ:RC):Ë->Option MT
 | .BoolOp op vs _=>iW op (T Γ) vs
 | .UnaryOp .Not a _=>(T Γ a).map yn
 | .Compare a ops bs _=>(Zl Γ (E Γ Â) a ops bs).map zI
 | e=>if plainT e=Ã then (E Γ Â e).map zI else Á
noncomputable def gJ:Nat->(RC->Bool->Ë->Option ME)×(RC->Ë->Option MT)
 | 0=>(λ_ _ _=>Á,λ_ _=>Á)
 | n+1=>(tD (gJ n).1 (gJ n).2,stepT (gJ n).1 (gJ n).2)
section
variable{Γ:RC}{cl:Cl}{k:Nat}{X:Cx}{m:ME}{pos p:õ}{E:Ë->Option ME}{T:Ë->Option MT}{a b:Ë}{mu:Bool}
def Qm(F:Fits Γ cl k X)(hE:∀e m,E e=À m->SE X cl e m)(h:Zk Γ E a op b=À m):SE X cl (.Compare a [op] [b] pos) m/\ST X cl (.Compare a [op] [b] pos) (zI m):=by
 unfold Zk at h;split at h
 .rename_i q e
  rw[zj] at h;obtain⟨ma,e1,rfl⟩:=h;unfold tabOf at e;split at e
  .split at e
   .rename_i hg
    rw[zj] at e;obtain⟨l,e2,rfl⟩:=e;exact⟨Dz hg F.room.units (F.base.tab.at e2) (hE _ _ e1) F.sc,C5 hg F.room.units (F.base.tab.at e2) (hE _ _ e1) F.sc⟩
   .cases e
  .split at e
   .rename_i hg
    rw[zj] at e;obtain⟨l,e2,rfl⟩:=e;exact⟨Dn hg F.room.units (F.base.tab.at e2) (hE _ _ e1) F.sc,Df hg F.room.units (F.base.tab.at e2) (hE _ _ e1) F.sc⟩
   .cases e
  .cases e
 .split at h
  .cases h
  .rename_i hm
   rw[Bool.not_eq_true] at hm;rw[zf] at h;obtain⟨f,e0,h⟩:=h;rw[zf] at h;obtain⟨ma,e1,h⟩:=h;rw[zj] at h;obtain⟨mb,e2,rfl⟩:=h;exact⟨UE (dU F.room.units e0) (hE _ _ e1) (hE _ _ e2) hm,KA (dU F.room.units e0) (hE _ _ e1) (hE _ _ e2) hm⟩
def Qt(F:Fits Γ cl k X)(hE:∀e m,E e=À m->SE X cl e m)(h:Zq E a op Aw b c=À m):SE X cl (.Compare a [op,Aw] [b,c] pos) m/\ST X cl (.Compare a [op,Aw] [b,c] pos) (zI m):=by
 unfold Zq at h;split at h
 .cases h
 .rename_i hm
  rw[Bool.not_eq_true] at hm;rw[zf] at h;obtain⟨f,e0,h⟩:=h;rw[zf] at h;obtain⟨g,Ia,h⟩:=h;rw[zf] at h;obtain⟨ma,e1,h⟩:=h;rw[zf] at h;obtain⟨mb,e2,h⟩:=h;rw[zj] at h;obtain⟨mc,e3,rfl⟩:=h;exact⟨Qc (dU F.room.units e0) (dU F.room.units Ia) (hE _ _ e1) (hE _ _ e2) (hE _ _ e3) hm,Vc (dU F.room.units e0) (dU F.room.units Ia) (hE _ _ e1) (hE _ _ e2) (hE _ _ e3) hm⟩
def rB{bs:List Ë}(F:Fits Γ cl k X)(hE:∀e m,E e=À m->SE X cl e m)(h:Zl Γ E a ops bs=À m):SE X cl (.Compare a ops bs pos) m/\ST X cl (.Compare a ops bs pos) (zI m):=by
 unfold Zl at h;split at h
 .exact Qm F hE h
 .exact Qt F hE h
 .cases h
def fT(hE:∀e m,E e=À m->SE X cl e m)(h:lJ E o=À mo):SO X cl o mo:=by
 unfold lJ at h;split at h
 .cases h;exact WW
 .rw[zj] at h
  obtain⟨m,e1,rfl⟩:=h;exact Yw (hE _ _ e1)
def ZM{ma:ME}{lo hi st:Option Ë}(hE:∀e m,E e=À m->SE X cl e m)(ha:SE X cl a ma)(h:pB E ma lo hi st=À m):SE X cl (.Subscript a (.Slice lo hi st p) pos) m:=by
 unfold pB at h;split at h
 .rw[zf] at h
  obtain⟨ml,e1,h⟩:=h;rw[zj] at h;obtain⟨mh,e2,rfl⟩:=h;exact BE ha (fT hE e1) (fT hE e2)
 .cases h
def sO(F:Fits Γ cl k X)(hE:∀e m,E e=À m->SE X cl e m)(h:lq Γ E a b=À m):SE X cl (.Subscript a b pos) m:=by
 unfold lq at h;split at h
 .split at h
  .rename_i q
   rw[zb] at q;split at h
   .rename_i l e
    rw[zj] at h;obtain⟨mb,e1,rfl⟩:=h;exact DA q.1 F.room.units (F.base.tab.at e) (hE _ _ e1) F.sc (VE q.2)
   .cases h
  .cases h
 .cases h
def rW(F:Fits Γ cl k X)(hE:∀e m,E e=À m->SE X cl e m)(h:sU Γ E a b=À m):SE X cl (.Subscript a b pos) m:=by
 unfold sU at h;split at h
 .rename_i m' e
  cases h;exact sO F hE e
 .rw[zf] at h
  obtain⟨ma,e1,h⟩:=h;split at h
  .exact ZM hE (hE _ _ e1) h
  .rename_i hb
   rw[zj] at h;obtain⟨mb,e2,rfl⟩:=h;refine Ce (hE _ _ e1) (hE _ _ e2) (VE ?_);cases b<;>first | rfl | exact absurd rfl (hb _ _ _ _)
def J7(F:Fits Γ cl k X)(hE:∀e m,E e=À m->SE X cl e m)(h:tG Γ E a b mu=À m):SE X cl (.Subscript a b pos) m:=by
 unfold tG at h;split at h
 .exact rW F hE h
 .split at h
  .rw[zf] at h
   obtain⟨ma,e0,h⟩:=h;rw[zf] at h;obtain⟨ml,e1,h⟩:=h;rw[zj] at h;obtain⟨mh,e2,rfl⟩:=h;exact XB (hE _ _ e0) (fT hE e1) (fT hE e2)
  .exact rW F hE h
theorem mK(hE:∀e m,E e=À m->SE X cl e m):∀{vs:List Ë} {m:ME},iD op E vs=À m->SE X cl (.BoolOp op vs pos) m
 | [],m,h=>by cases h
 | [a],m,h=>Bi (hE _ _ h)
 | a::b::r,m,h=>by
  unfold iD at h;rw[zf] at h;obtain⟨ma,e1,h⟩:=h;rw[zj] at h;obtain⟨mb,e2,h⟩:=h;have ih:=mK hE e2;cases op with
  | And=>subst h;exact Xb (hE _ _ e1) ih
  | Or=>subst h;exact BK (hE _ _ e1) ih
theorem mD(hT:∀e m,T e=À m->ST X cl e m):∀{vs:List Ë} {m:MT},iW op T vs=À m->SW X cl (.BoolOp op vs pos) m
 | [],m,h=>by cases h
 | [a],m,h=>by
  cases op with
  | And=>exact sE (hT _ _ h)
  | Or=>exact XH (hT _ _ h)
 | a::b::r,m,h=>by
  unfold iW at h;rw[zf] at h;obtain⟨ma,e1,h⟩:=h;rw[zj] at h;obtain⟨mb,e2,h⟩:=h;have ih:=mD hT e2;cases op with
  | And=>subst h;exact ZW (hT _ _ e1) ih
  | Or=>subst h;exact Cd (hT _ _ e1) ih
def Qs(hE:∀e m,E e=À m->SE X cl e m)(h:Zr E mu ks vs=À m):SE X cl (.Dict ks vs pos) m:=by
 unfold Zr at h;split at h
 .split at h
  .cases h;exact Q3
  .cases h;exact Yp
 .cases h
end
section
variable{Γ:RC}{cl:Cl}{k:Nat}{X:Cx}{m:ME}{pos p:õ}{E:RC->Bool->Ë->Option ME}{T:RC->Ë->Option MT}{mu:Bool}
def lW(F:Fits Γ cl k X)(g:CompG X cl elt gens scope r):SE X cl (.ListComp elt gens scope pos) (i9 mu r):=by
 obtain⟨tg,it,ifs,N',rfl,ok,hs,hi,hg,ht,he⟩:=g.ex;cases mu with
 | true=>exact QP _ _ N' r.nl r.ks F.calm ok hi hg ht he rfl rfl (u6 hs)
 | false=>exact Yi _ _ N' r.nl r.ks F.calm ok hi hg ht he rfl rfl (u6 hs)
def JY(hE:∀Γ X,Fits Γ cl k X->∀mu e m,E Γ mu e=À m->SE X cl e m)(hT:∀Γ X,Fits Γ cl k X->∀e m,T Γ e=À m->ST X cl e m)(F:Fits Γ cl k X)(h:tD E T Γ mu e=À m):SE X cl e m:=by
 have Hh:=hE _ _ F;have hF:=Hh Â;have DU:=hT _ _ F;unfold tD at h;split at h
 .exact Q1 F h
 .exact JO h
 .rw[zj] at h
  obtain⟨ma,e1,rfl⟩:=h;exact Xm (hF _ _ e1)
 .rw[zj] at h
  obtain⟨ma,e1,rfl⟩:=h;exact BS YH (hF _ _ e1)
 .rw[zf] at h
  obtain⟨f,e0,h⟩:=h;rw[zf] at h;obtain⟨ma,e1,h⟩:=h;rw[zj] at h;obtain⟨mb,e2,rfl⟩:=h;exact BG (Xr e0) (hF _ _ e1) (hF _ _ e2)
 .exact(rB F hF h).1
 .exact mK hF h
 .rw[zf] at h
  obtain⟨mt,e0,h⟩:=h;rw[zf] at h;obtain⟨ma,e1,h⟩:=h;rw[zj] at h;obtain⟨mb,e2,rfl⟩:=h;exact BO (DU _ _ e0) (hF _ _ e1) (hF _ _ e2)
 .rw[zj] at h
  obtain⟨ms,e1,rfl⟩:=h;exact Xo (bE hF e1).2
 .cases mu with
  | true=>
   obtain⟨ms,e1,rfl⟩:=zj.mp h;exact XZ (bE (Hh Ã) e1).2
  | false=>
   obtain⟨ms,e1,rfl⟩:=zj.mp h;exact nu (bE hF e1).2
 .exact Qs hF h
 .exact J7 F hF h
 .exact ZG F hF h
 .exact J1 F hF (Hh Ã) h
 .rw[zj] at h
  obtain⟨r,e1,rfl⟩:=h;exact lW F (nI F hE hT e1)
 .cases h
def Q6(hE:∀Γ X,Fits Γ cl k X->∀mu e m,E Γ mu e=À m->SE X cl e m)(hT:∀Γ X,Fits Γ cl k X->∀e m,T Γ e=À m->ST X cl e m)(F:Fits Γ cl k X)(h:stepT E T Γ e=À t):ST X cl e t:=by
 have hF:=hE _ _ F Â;have DU:=hT _ _ F;unfold stepT at h;split at h
 .exact rF (mD DU h)
 .rw[zj] at h
  obtain⟨ma,e1,rfl⟩:=h;exact X9 (DU _ _ e1)
 .rw[zj] at h
  obtain⟨ma,e1,rfl⟩:=h;exact(rB F hF e1).2
 .split at h
  .rename_i q
   rw[zj] at h;obtain⟨ma,e1,rfl⟩:=h;exact Ke (hF _ _ e1) (QV q)
  .cases h
theorem u3:∀n,(∀Γ X,Fits Γ cl k X->∀mu e m,(gJ n).1 Γ mu e=À m->SE X cl e m)/\(∀Γ X,Fits Γ cl k X->∀e m,(gJ n).2 Γ e=À m->ST X cl e m)
 | 0=>⟨λ_ _ _ _ _ _ h=>(by cases h),λ_ _ _ _ _ h=>(by cases h)⟩
 | n+1=>⟨λΓ X F mu e m h=>JY (u3 n).1 (u3 n).2 F h,λΓ X F e m h=>Q6 (u3 n).1 (u3 n).2 F h⟩
end
def Um{pos:õ}(h:gp i=Ã):∀v,assign (.Subscript o i pos) env v=(do
   let ov <-holding [v] (eval o env)
   let iv <-holding [v,ov] (eval i env)
   ŗ pos
   holding [v,ov,iv] (Ů ov iv v)
   release [v,ov,iv] []):=by
 intro v;cases i<;>first | (cases h;done) | kernel_rfl
theorem pQ:Ģ [.Subscript o i p] e env=pure Á:=rfl
noncomputable def Ze(Γ:RC)(x:È):Bool:=Γ.own.any (· == x)
noncomputable def ng(Γ:RC)(x:È)(px:õ)(scope:Þ)(cpos:õ):Bool:=Γ.sc.names.lookup x==À .local&&px.line==cpos.line && !(scope.names.any λ(n,k)=>n==x&&(k==.local||k==.cell))
noncomputable def Zo(Γ:RC)(E:RC->Bool->Ë->Option ME)(T:RC->Ë->Option MT)(x:È):Ë->Option ME
 | .ListComp elt gens scope cpos=>(mW Γ E T elt gens scope cpos).map (i9 (Ze Γ x))
 | v=>if iZ v=Ã then E Γ (Ze Γ x) v else Á
noncomputable def Qo(Γ:RC)(E:RC->Bool->Ë->Option ME)(T:RC->Ë->Option MT)(tg v:Ë):Option MS:=match tg with
 | .Name x _=>match eU x Γ.N with
  | some i=>if (setB Γ.sc Γ.N i x && !Γ.inC)=Ã then (Zo Γ E T x v).map λm=>zS m (zD i) else Á
  | none=>Á
 | .Subscript o i p=>if (iZ v&&gp i)=Ã then (E Γ Â v).bind λm=>(E Γ Â o).bind λmo=>(E Γ Â i).map λmi=>zS m (lU mo mi) else Á
 | .Tuple es n p=>if Vl v=Ã then (E Γ Â v).bind λm=>(K0 Γ (.Tuple es n p)).map λg=>zS m g else Á
 | _=>Á
noncomputable def Ql(Γ:RC)(E:RC->Bool->Ë->Option ME)(tg:Ë)(op:ř)(v:Ë):Option MS:=match tg,op with
 | .Name x _,.Add=>match eU x Γ.N with
  | some i=>if (setB Γ.sc Γ.N i x && !Γ.inC)=Ã then (E Γ Â v).map (ff i lm) else Á
  | none=>Á
 | _,_=>Á
noncomputable def V6:MS:=λ_ _=>Á
def WC{X:Cx}{cl:Cl}{st:ì}:SS X cl st V6:=by
 rintro ag s σ H D I ⟨μ,h,ρ,fl,h',R,er,e,k⟩;cases e
noncomputable def tV(E:RC->Bool->Ë->Option ME)(T:RC->Ë->Option MT)(B:RC->List ì->Option MS)(Γ:RC):ì->Option MS
 | .Return (À e) _=>(E Γ Â e).map ka
 | .Pass _=>À kg
 | .Raise ..=>À V6
 | .Expr e _=>if iZ e=Ã then (E Γ Â e).map vn else Á
 | .If c a b _=>(T Γ c).bind λt=>(B Γ a).bind λma=>(B Γ b).map (ki t ma)
 | .While c body [] _=>(T Γ c).bind λt=>(B Γ body).map (uc t)
 | .For tg it body [] _=>if nk it=Ã then (mV Γ (E Γ Â) tg it).bind λmi=>(K0 Γ tg).bind λg=>(B Γ body).map (xi mi g) else Á
 | .Assign [tg] v _=>Qo Γ E T tg v
 | .AugAssign tg op v _=>Ql Γ E tg op v
 | _=>Á
noncomputable def blk(S:ì->Option MS):List ì->Option MS
 | []=>À kg
 | [s]=>S s
 | s::r=>(S s).bind λa=>(blk S r).map (zl a)
noncomputable def cS:Nat->RC->ì->Option MS
 | 0=>λ_ _=>Á
 | n+1=>λΓ s=>match oG Γ s with
  | some m=>À m
  | none=>match sZ Γ ((gJ 40).1 Γ Â) s with
   | some m=>À m
   | none=>match QB Γ ((gJ 40).1 Γ Â) s with
    | some m=>À m
    | none=>tV (gJ 40).1 (gJ 40).2 (λΓ=>blk (cS n Γ)) Γ s
noncomputable def cB(Γ:RC)(bd:List ì):Option MS:=blk (cS 12 Γ) bd
section
variable{Γ:RC}{cl:Cl}{k:Nat}{X:Cx}{pos p:õ}{E:RC->Bool->Ë->Option ME}{T:RC->Ë->Option MT}{B:RC->List ì->Option MS}{ms:MS}
theorem tU{scope:Þ}{cpos px:õ}{env:Ŭ}:ç (.ListComp elt gens scope cpos) (À (.Name x px)) l env=pure (env.blockKind==.function&&env.kindOf x==À .local&&px.line==cpos.line && !(scope.names.any λ(n,k)=>n==x&&(k==.local||k==.cell))):=rfl
def JZ(hE:∀Γ X,Fits Γ cl k X->∀mu e m,E Γ mu e=À m->SE X cl e m)(hT:∀Γ X,Fits Γ cl k X->∀e m,T Γ e=À m->ST X cl e m)(F:Fits Γ cl k X)(hc:Γ.inC=Â)(hb:setB Γ.sc Γ.N i x=Ã)(h:Zo Γ E T x v=À m):SS X cl (.Assign [.Name x px] v pos) (zS m (zD i)):=by
 have AM:=F.N▸F.nd;unfold Zo at h;split at h
 .rename_i elt gens scope cpos
  rw[zj] at h;obtain⟨r,e1,rfl⟩:=h;have g:=nI F hE hT e1;have hk:X.env.blockKind=.function:=by
   unfold Env.blockKind;rw[F.sc,F.kind];rfl
  have A0:=tU (elt:=elt) (gens:=gens) (scope:=scope) (cpos:=cpos) (px:=px) (x:=x) (l:=pos.line) (env:=X.env);have he:(X.env.blockKind==.function&&X.env.kindOf x==À .local&&px.line==cpos.line && !(scope.names.any λ(n,k)=>n==x&&(k==.local||k==.cell)))=ng Γ x px scope cpos:=by
   rw[hk];unfold ng;rw[<-F.sc];rfl
  rw[he] at A0;cases q:ng Γ x px scope cpos with
  | false=>
   rw[q] at A0;exact s_ hb AM (lW F g) F.sc F.N (F.fn hc _) A0
  | true=>
   rw[q] at A0;obtain⟨tg,it,ifs,N',rfl,ok,hs,hi,hg,ht,Ib⟩:=g.ex;have hx:X.env.kindOf x=À .local:=by
    unfold ng at q;erw[zb,qj] at q;have:=q.1.1;rw[<-F.sc] at this;exact this
   have A5:X.N[i]?=À x:=by
    unfold setB at hb;erw[zb,qj] at hb;rw[F.N];exact hb.1
   unfold i9;cases Ze Γ x with
   | true=>exact J9 i _ _ N' r.nl r.ks F.nd F.calm ok hi hg ht Ib rfl rfl (u6 hs) A5 hx A0
   | false=>exact Yo i _ _ N' r.nl r.ks F.nd F.calm ok hi hg ht Ib rfl rfl (u6 hs) A5 hx A0
 .split at h
  .rename_i q
   exact s_ hb AM (hE _ _ F _ _ _ h) F.sc F.N (F.fn hc _) (eG q)
  .cases h
theorem Z7:ç v (À (.Tuple es n p)) l env=pure Â:=by
 unfold ç;cases v<;>rfl
def YA(hE:∀Γ X,Fits Γ cl k X->∀mu e m,E Γ mu e=À m->SE X cl e m)(hT:∀Γ X,Fits Γ cl k X->∀e m,T Γ e=À m->ST X cl e m)(F:Fits Γ cl k X)(h:Qo Γ E T tg v=À ms):SS X cl (.Assign [tg] v pos) ms:=by
 unfold Qo at h;split at h
 .split at h
  .split at h
   .rename_i q
    rw[zb,zZ] at q;rw[zj] at h;obtain⟨m,e1,rfl⟩:=h;exact JZ hE hT F q.2 q.1 e1
   .cases h
  .cases h
 .split at h
  .rename_i q
   rw[zb] at q;rw[zf] at h;obtain⟨m,e1,h⟩:=h;rw[zf] at h;obtain⟨mo,e2,h⟩:=h;rw[zj] at h;obtain⟨mi,e3,rfl⟩:=h;exact Jr (hE _ _ F _ _ _ e1) (Ue F.room.units (hE _ _ F _ _ _ e2) (hE _ _ F _ _ _ e3) (Um q.2)) ((show ġ [_] v pos.line X.env=ç v (À _) pos.line X.env from rfl).trans (eG q.1)) pQ (by rw[um rfl,aI];rfl)
  .cases h
 .split at h
  .rename_i q
   rw[zf] at h;obtain⟨m,e1,h⟩:=h;rw[zj] at h;obtain⟨g,e2,rfl⟩:=h;exact Jr (hE _ _ F _ _ _ e1) (ol F e2) ((show ġ [_] v pos.line X.env=ç v (À _) pos.line X.env from rfl).trans Z7) (Zd q) (by rw[um rfl,aI];rfl)
  .cases h
 .cases h
def WH(hE:∀Γ X,Fits Γ cl k X->∀mu e m,E Γ mu e=À m->SE X cl e m)(F:Fits Γ cl k X)(h:Ql Γ E tg op v=À ms):SS X cl (.AugAssign tg op v pos) ms:=by
 unfold Ql at h;split at h
 .split at h
  .split at h
   .rename_i q
    rw[zb,zZ] at q;rw[zj] at h;obtain⟨m,e1,rfl⟩:=h;exact DC q.1 (F.N▸F.nd) WG (hE _ _ F _ _ _ e1) F.sc F.N (F.fn q.2 _)
   .cases h
  .cases h
 .cases h
def Vj(hE:∀Γ X,Fits Γ cl k X->∀mu e m,E Γ mu e=À m->SE X cl e m)(hT:∀Γ X,Fits Γ cl k X->∀e m,T Γ e=À m->ST X cl e m)(hB:∀Γ X,Fits Γ cl k X->∀b m,B Γ b=À m->SB X cl b m)(F:Fits Γ cl k X){st:ì}(h:tV E T B Γ st=À ms):SS X cl st ms:=by
 have hF:=hE _ _ F Â;have DU:=hT _ _ F;have Gc:=hB _ _ F;unfold tV at h;split at h
 .rw[zj] at h
  obtain⟨m,e1,rfl⟩:=h;exact KH (hF _ _ e1)
 .cases h;exact Wm
 .cases h;exact WC
 .split at h
  .rename_i q
   rw[zj] at h;obtain⟨m,e1,rfl⟩:=h;exact WA (hF _ _ e1) (eG q)
  .cases h
 .rw[zf] at h
  obtain⟨t,e0,h⟩:=h;rw[zf] at h;obtain⟨ma,e1,h⟩:=h;rw[zj] at h;obtain⟨mb,e2,rfl⟩:=h;exact VY (DU _ _ e0) (Gc _ _ e1) (Gc _ _ e2)
 .rw[zf] at h
  obtain⟨t,e0,h⟩:=h;rw[zj] at h;obtain⟨mb,e2,rfl⟩:=h;exact JT (DU _ _ e0) (Gc _ _ e2) F.pass
 .split at h
  .rename_i q
   rw[zf] at h;obtain⟨mi,e0,h⟩:=h;rw[zf] at h;obtain⟨g,e1,h⟩:=h;rw[zj] at h;obtain⟨mb,e2,rfl⟩:=h;exact Bd F.calm (nE F hF e0) (ol F e1) (Gc _ _ e2) (u6 q) F.pass
  .cases h
 .exact YA hE hT F h
 .exact WH hE F h
 .cases h
theorem oq(hS:∀s m,S s=À m->SS X cl s m):∀{b:List ì} {m:MS},blk S b=À m->SB X cl b m
 | [],m,h=>by cases h;exact Jv
 | [s],m,h=>nL (hS _ _ h)
 | s::s'::r,m,h=>by
  unfold blk at h;rw[zf] at h;obtain⟨ma,e1,h⟩:=h;rw[zj] at h;obtain⟨mb,e2,rfl⟩:=h;exact rS (hS _ _ e1) (oq hS e2)
theorem Vq:∀(n:Nat) (Γ:RC) (X:Cx),Fits Γ cl k X->∀s m,cS n Γ s=À m->SS X cl s m
 | 0,_,_,_,_,_,h=>by cases h
 | n+1,Γ,X,F,s,m,h=>by
  unfold cS at h;split at h
  .rename_i e;cases h;exact ZA F e
  split at h
  .rename_i e;cases h;exact J6 F ((u3 40).1 Γ X F Â) e
  split at h
  .rename_i e;cases h;exact Wv F ((u3 40).1 Γ X F Â) e
  exact Vj (u3 40).1 (u3 40).2 (λΓ X F b m h=>oq (Vq n Γ X F) h) F h
def V8(F:Fits Γ cl k X)(h:cB Γ bd=À ms):SB X cl bd ms:=oq (Vq 12 Γ X F) h
end
def U1{P:Í}{w:Ð}{K:NT}{mg:È->Option Ä}{base:Ï}{cl:Cl}{x qual:È}{st:ì}{f:Ç}{fd:å}{ps:List È}{k np ns:Nat}{b:MS}(Γ:RC){bd:List ì}(F:Fun K x qual st f fd)(Ag:kF st=Γ.sc)(G8:qA st=bd)(S:FnScope Γ.N ps Γ.sc)(AG:ps.length=np)(Af:Γ.N.length-np=ns)
  (hc:Γ.inC=Â) (B:BaseOk P w K mg base cl k Γ) (hb:cB Γ bd=À b) (hz:Γ.rz=Â):FnOk P w K mg base bP (k+1) f fd ps (uZ K cl (gc (k8 np ns b))):=
 XU F Ag G8 S AG Af λpf A outer s H E hr=>V8 (k:=k) ⟨rfl,rfl,S.nd,λ_ _=>rfl,S.kind,rfl,wI,hr,⟨B.fns,B.con,B.tab,B.bin,B.pw,B.xf,B.xc,B.ek⟩,λ_ _ _ z=>z,λ_ z=>absurd z (by rw[hz];simp),λ_ z=>absurd z (by rw[hz];simp),λ_=>⟨rfl,rfl⟩⟩ hb
theorem FnAt.wx{P:Í}{w:Ð}{K:NT}{mg:È->Option Ä}{base:Ï}{cl:Cl}{q:Hp->Prop}(h:FnAt P w K mg base cl k x g):FnAt P w K mg base (cl.wx q) k x g:=by
 obtain⟨f,fd,ps,F,r⟩:=h;refine⟨f,fd,ps,F.imp λvs H Q E z=>?_,r⟩;obtain⟨μ,h,ws,w,h',R,rs,e,k⟩:=z;exact⟨μ,h,ws,w,h',R.unwx,rs,e,λcx H1 v E1 R1 rv=>k cx H1 v E1 R1.wx rv⟩
theorem FnAtX.wx{P:Í}{w:Ð}{K:NT}{mg:È->Option Ä}{base:Ï}{cl:Cl}{q:Hp->Prop}(h:FnAtX P w K mg base cl k x g):FnAtX P w K mg base (cl.wx q) k x g:=by
 obtain⟨f,fd,ps,F,r⟩:=h;refine⟨f,fd,ps,F.imp λvs H Q E z=>?_,r⟩;obtain⟨μ,h,ws,w,h',R,rs,e,k⟩:=z;exact⟨μ,h,ws,w,h',R.unwx,rs,e,λcx H1 E1 R1=>k cx H1 E1 R1.wx⟩
theorem fJ{α:Type}{P Q:È->α->Prop}(h:∀x g,P x g->Q x g):∀{l:List (È×α)},AllOf P l->AllOf Q l
 | [],_=>trivial
 | _::_,z=>⟨h _ _ z.1,fJ h z.2⟩
theorem BaseOk.wx{P:Í}{w:Ð}{K:NT}{mg:È->Option Ä}{base:Ï}{cl:Cl}{q:Hp->Prop}(B:BaseOk P w K mg base cl k Γ):BaseOk P w K mg base (cl.wx q) k Γ:=
 ⟨fJ (λ_ _=>FnAt.wx) B.fns,B.con,B.tab,B.bin,B.pw,fJ (λ_ _=>FnAtX.wx) B.xf,B.xc,B.ek⟩
def WZ{P:Í}{w:Ð}{K:NT}{mg:È->Option Ä}{base:Ï}{cl:Cl}{x qual:È}{st:ì}{f:Ç}{fd:å}{ps:List È}{k np ns:Nat}{b:MS}(Γ:RC)(F:Fun K x qual st f fd)(Ag:kF st=Γ.sc)(S:FnScope Γ.N ps Γ.sc)(AG:ps.length=np)(Af:Γ.N.length-np=ns)
  (B:BaseOk P w K mg base cl k Γ) (hb:cB Γ (qA st)=À b) (hz:Γ.rz=Ã):FnOk P w K mg base (fC P w (cl.c 0)) (k+1) f fd ps (spX K cl (gA (fnX np ns b))):=
 Ua (N:=Γ.N) F (by rw[Ag];exact S) AG Af λpf A outer s H E hr=>V8 (cl:=cl.wx λH'=>E (.ref (cl.c 0)) Á H') (X:=uj (fC P w (cl.c 0)) P w K mg base Γ.N qual (kF st) f pf A outer s H E) (k:=k) ⟨Ag,rfl,S.nd,λ_ _=>rfl,S.kind,rfl,PassesOwn.leaving,hr,B.wx,λz=>absurd z (by rw[hz];simp),λ_ _=>λag σ H1 s1 s2 e vs I q os bare m=>oo I rfl os bare m q,λ_ _=>λag σ H1 s1 e s2 E' I q hE=>pW I rfl q hE,λ_=>⟨rfl,rfl⟩⟩ hb
structure Def where
 x:È
 st:ì
 ps:List È
 N:List È
 own:List È
 txt:List È
 cmp:List ((Nat×Nat)×List È)
 rz:Bool:=Â
noncomputable def uJ(N ps:List È)(sc:Þ):Bool:=sc.kind==.function && !sc.isCoroutine && !sc.isGenerator&&pb N&&N.take ps.length==ps&&ps.all (Za sc)&&sc.names.all λy=>y.2 != .free
def iY(h:uJ N ps sc=Ã):FnScope N ps sc:=by
 unfold uJ at h;erw[zb,zZ,qj] at h;obtain⟨⟨⟨⟨⟨⟨h1,h2⟩,h3⟩,h4⟩,h5⟩,h6⟩,h7⟩:=h;exact⟨h1,h2,h3,Wk h4,h5,λx hx=>bo (zY.mp h6 x hx),λy hy=>by simpa using zY.mp h7 y hy⟩
noncomputable def HB(x:È)(st:ì)(ps:List È)(us:List Ä):Prop:=∀(kV doc pm:Ä) (an:Option Ç) (pf ct:Ä),Ŷ (ò x x (ui st) (qA st) (kF st) .none kV doc pm an pf ct) ⟨us,[]⟩=pure (ps.zip us)
noncomputable def nD(x:È)(st:ì)(ps:List È):Prop:=∀us:List Ä,us.length=ps.length->HB x st ps us
section
variable{x:È}{st:ì}{ps:List È}
def xC{us:List Ä}(e:us.length=n+1):∃a r,us=a::r/\r.length=n:=by
 cases us with
 | nil=>cases e
 | cons a r=>exact⟨a,r,rfl,Nat.succ.inj e⟩
def hb1(h:∀a,HB x st ps [a])(hl:↥(ps.length=1)):nD x st ps:=λus e=>by
 obtain⟨a,r,rfl,e1⟩:=xC (e.trans hl);rw[jN e1];exact h a
def hb2(h:∀a b,HB x st ps [a,b])(hl:↥(ps.length=2)):nD x st ps:=λus e=>by
 obtain⟨a,r,rfl,e1⟩:=xC (e.trans hl);obtain⟨b,r,rfl,e2⟩:=xC e1;rw[jN e2];exact h a b
def hb3(h:∀a b c,HB x st ps [a,b,c])(hl:↥(ps.length=3)):nD x st ps:=λus e=>by
 obtain⟨a,r,rfl,e1⟩:=xC (e.trans hl);obtain⟨b,r,rfl,e2⟩:=xC e1;obtain⟨c,r,rfl,e3⟩:=xC e2;rw[jN e3];exact h a b c
def hb4(h:∀a b c d,HB x st ps [a,b,c,d])(hl:↥(ps.length=4)):nD x st ps:=λus e=>by
 obtain⟨a,r,rfl,e1⟩:=xC (e.trans hl);obtain⟨b,r,rfl,e2⟩:=xC e1;obtain⟨c,r,rfl,e3⟩:=xC e2;obtain⟨d,r,rfl,e4⟩:=xC e3;rw[jN e4];exact h a b c d
def hb5(h:∀a b c d f,HB x st ps [a,b,c,d,f])(hl:↥(ps.length=5)):nD x st ps:=λus e=>by
 obtain⟨a,r,rfl,e1⟩:=xC (e.trans hl);obtain⟨b,r,rfl,e2⟩:=xC e1;obtain⟨c,r,rfl,e3⟩:=xC e2;obtain⟨d,r,rfl,e4⟩:=xC e3;obtain⟨f,r,rfl,e5⟩:=xC e4;rw[jN e5];exact h a b c d f
end
noncomputable def uU(K:NT)(mg:È->Option Ä)(d:Def):Prop:=∃a fd,FTxt K mg d.x d.st d.ps a fd
noncomputable def nZ(P:Def->Prop):List Def->Prop
 | []=>True
 | d::r=>P d/\nZ P r
noncomputable def RC.at(Γ:RC)(d:Def):RC:=⟨kF d.st,d.N,Â,Γ.fns,Γ.con,Γ.tab,Γ.bin,d.own,d.txt,d.cmp,Γ.xf,Γ.xc,Γ.ek,d.rz⟩
section
variable{P:Í}{w:Ð}{K:NT}{mg:È->Option Ä}{base:Ï}{cl:Cl}{n np ns:Nat}{Γ:RC}{d:Def}{b:MS}
def sG(T:FTxt K mg d.x d.st d.ps a fd)(B:BaseOk P w K mg base cl n Γ)(Ag:uJ d.N d.ps (kF d.st)=Ã)(AG:d.ps.length=np)(Af:d.N.length-np=ns)(hb:cB (Γ.at d) (qA d.st)=À b)(hz:d.rz=Â):FnOk P w K mg base bP (n+1) a fd d.ps (uZ K cl (gc (k8 np ns b))):=
 U1 (Γ.at d) T.F rfl rfl (iY Ag) AG Af rfl ⟨B.fns,B.con,B.tab,B.bin,B.pw,B.xf,B.xc,B.ek⟩ hb hz
def kP(T:uU K mg d)(B:BaseOk P w K mg base cl n Γ)(Ag:uJ d.N d.ps (kF d.st)=Ã:=by kernel_rfl)(AG:↥(d.ps.length=np))(Af:↥(d.N.length-np=ns))(hb:cB (Γ.at d) (qA d.st)=À b:=by kernel_rfl)(hz:↥(d.rz=Â)):FnAt P w K mg base cl (n+1) d.x (gc (k8 np ns b)):=by
 obtain⟨a,fd,T⟩:=T;exact⟨a,fd,d.ps,sG T B Ag AG Af hb hz,T.m,T.F.kp,T.B⟩
def sy(T:uU K mg d)(B:BaseOk P w K mg base cl n Γ)(Ag:uJ d.N d.ps (kF d.st)=Ã:=by kernel_rfl)(AG:↥(d.ps.length=np))(Af:↥(d.N.length-np=ns))(hb:cB (Γ.at d) (qA d.st)=À b:=by kernel_rfl)(hz:↥(d.rz=Ã)):FnAtX P w K mg base cl (n+1) d.x (gA (fnX np ns b)):=by
 obtain⟨a,fd,T⟩:=T;exact⟨a,fd,d.ps,WZ (Γ.at d) T.F rfl (iY Ag) AG Af ⟨B.fns,B.con,B.tab,B.bin,B.pw,B.xf,B.xc,B.ek⟩ hb hz,T.m,T.F.kp,T.B⟩
def me(T:uU K mg d):FnAtX P w K mg base cl 0 d.x λ_ _=>Á:=by
 obtain⟨a,fd,T⟩:=T;have no:∀vs H Q E,¬spX K cl (λ_ _=>Á) vs H Q E:=λvs H Q E ⟨μ,h,ws,r,h2,R,rs,e,k⟩=>by cases e
 exact⟨a,fd,d.ps,⟨λvs H Q E h=>absurd h (no vs H Q E),λA outer s H args us vs Q E _ _ _ _ h=>absurd h (no vs H Q E)⟩,T.m,T.F.kp,T.B⟩
def kz(T:uU K mg d):FnAt P w K mg base cl 0 d.x λ_ _=>Á:=by
 obtain⟨a,fd,T⟩:=T;have no:∀vs H Q E,¬uZ K cl (λ_ _=>Á) vs H Q E:=λvs H Q E ⟨μ,h,ws,w,h2,R,rs,e,k⟩=>by cases e
 exact⟨a,fd,d.ps,⟨λvs H Q E h=>absurd h (no vs H Q E),λA outer s H args us vs Q E _ _ _ _ h=>absurd h (no vs H Q E)⟩,T.m,T.F.kp,T.B⟩
end
end ML
namespace ML
open PySem PySem.Spec PyProof.Rows PySem.W L2
noncomputable def Kw(h:Ï):NT:=(Ė h.objs.size).filterMap λa=>(h.get? a).map λo=>(a,o)
theorem Kw.lookupAux(h:Ï)(a:Ç):∀l:List Nat,(l.filterMap λa=>(h.get? a).map λo=>(a,o)).lookup a=if a∈l then h.get? a else Á
 | []=>by simp
 | b::l=>by
  cases q:h.get? b with
  | none=>
   rw[List.filterMap_cons_none (by rw[q];rfl),Kw.lookupAux h a l];by_cases e:a=b
   .subst e;simp[q]
   .simp[e]
  | some o=>
   rw[yP (b:=(b,o)) (by rw[q];rfl),jM];by_cases e:a=b
   .subst e;simp[q]
   .have:(a==b)=Â:=by simp[e]
    rw[this];simp only[];rw[Kw.lookupAux h a l];simp[e]
theorem Kw.lookup{h:Ï}:(Kw h).lookup a=h.get? a:=by
 unfold Kw;rw[Kw.lookupAux];split
 .rfl
 .rename_i n
  cases q:h.get? a with
  | none=>rfl
  | some o=>exact absurd (yJ.mpr (zz q)) n
def Kw.in(h:Ï):(Kw h).In h:=λa o e=>Kw.lookup▸e
def Qz{l:PySem.W.OpenLaw}{q:Í}{d:DefRec}{sp:Ð->NT->Sp}
  (hn:l.most=À n) (Ej:n<=sizeLine) (Ee:d.params.defaults=[]) (hr:Room k į)
  (F:∀(w:Ð) (s₀:Å) (mg mb:È->Option Ä) (fa:Ç) (h:Ï),Ground q loose [] XP w s₀ mg mb h->YP w h->mg d.name=À (.ref fa)->
   ∃fd:å,(∀(s:Å) (u:Ä),ů s fd ⟨[u],[]⟩ [(x,u)]) /\
    ∀base:Ï,(Kw h).In base->base.Ns Ô mg->FnOk l.prog w (Kw h) mg base CX k fa fd [x] (sp w (Kw h)))
  (AW:∀(w:Ð) (K:NT) (H:Hp) (a:Ç) (ns:List Int),ns.length<=n->Only H->SqL K H a (ns.map V.int)->sp w K [.ref a] H (λv _=>v=.bl Ã) λ_ _ _=>False)
  (Gy:∀(H:Hp) (s:Å) (e:Ä) (s':Å),CX [] H s (λ_ _ _=>False) e s'->False) :
  PySem.W.WalkO q loose XP YP l.row.toRowW d [] (λf vs=>Ż f vs):=by
 refine Att.attach_call hn Ee λw s₀ hJ mg mb fa o pm cd doc a vs ns G Y ho hd AV Fo Ef Da lx hg=>?_
 obtain⟨fd,hb,hF⟩:=F w s₀ mg mb fa _ G Y Fo;exact J3 (Kw.in _) G.T.g G.T.b G.T.builtins G.T.nolimit hg Ef Da (zG lx Ej) hr hF hb (λH hO hS=>AW w _ H a ns lx hO hS) λH e s'=>Gy H hJ e s'
def oU{q:Í}(G:Ground q loose R XP w s₀ mg mb h){d:Def}
  (hd:(defOf q d.x).map (λp=>(p.1.name,p.1.params,p.1.body,p.1.scope,p.2))=À (d.x,ui d.st,qA d.st,kF d.st,[])) (hb:nD d.x d.st d.ps) (hf:(ui d.st).defaults=[]):uU (Kw h) mg d:=by
 obtain⟨⟨⟨n,p,b,sc,ps⟩,kw⟩,hq,e⟩:=zj.mp hd;cases e;obtain⟨a,o,pm,cd,doc,dV,kV,m,ho,MC,hc,D⟩:=G.fn hq;obtain rfl:dV=.none:=Dflts.none D hf;obtain rfl:kV=.none:=Dflts.noKw D;have lk:(Kw h).lookup a=À ⟨o.cls,o.dict,.func (ò d.x d.x (ui d.st) (qA d.st) (kF d.st) .none .none doc pm Á cd .none),o.slots⟩:=by
  rw[Kw.lookup,ho];cases o;cases MC;rfl
 have c:Ċ (Kw h) cd d.x=Ã:=by
  obtain⟨c,o',vs,t,rfl,e1,e2,e3⟩:=hc;unfold Ċ;erw[Kw.lookup,e1];cases o';cases e2;simp only[];obtain⟨vs⟩:=vs;match vs,e3 with
  | [],e3=>cases e3
  | [_],e3=>cases e3
  | _::v::r,e3=>
   have e4:À v=À (Ņ d.x t):=by simpa using e3
   cases e4;simp
 have k:Ü (Kw h) (.ref a)=Ã:=by
  unfold Ü;erw[lk]
 have F:=XX (st:=d.st) lk c k;exact⟨a,_,F,F.binds (λkV doc pm an pf ct us hl=>hb us hl kV doc pm an pf ct),m⟩
noncomputable def VD:Nat->Cn->W
 | 0,_=>.non
 | n+1,c=>match c with
  | .int i=>.int i
  | .str x=>.str x
  | .tup l=>.tup (l.map (VD n))
noncomputable def toT(l:List (È×Cn)):List (È×W):=l.map λp=>(p.1,VD 9 p.2)
def J8{h:Ï}(e:mX h v=À cb):∃a o n,v=.ref a/\h.get? a=À o/\(o.cls=.type "tuple" /\ o.dict=Á)/\o.data=.seq cb n:=by
 cases v with
 | ref a=>
  obtain⟨⟨c,di,d,sl⟩,e1,e2⟩:=zf.mp e;cases c with
  | type t=>
   have e3:(if t="tuple" then (match d with | .seq cb _=>if di.isNone then À cb else Á | _=>Á) else Á)=À cb:=e2;by_cases q:t="tuple"
   .rw[zW q] at e3
    cases d with
    | seq its' n=>
     have e4:(if di.isNone then À its' else Á)=À cb:=e3;by_cases q2:di.isNone=Ã
     .rw[zW q2] at e4
      cases e4;exact⟨a,_,n,rfl,e1,⟨by rw[q],vD.mp q2⟩,rfl⟩
     .rw[kY q2] at e4;cases e4
    | _=>cases e3
   .rw[kY q] at e3;cases e3
  | _=>cases e2
 | _=>cases e
def UP{K:NT}{p:Cn->Ä->Bool}(hp:∀w v,p w v=Ã->KW K (f w) v)(l:List Cn):∀vs:List Ä,d8 p l vs=Ã->KWs K (l.map f) vs:=by
 induction l with
 | nil=>intro vs h;cases vs with | nil=>exact .nil | cons _ _=>cases h
 | cons w l ih=>
  intro vs h;cases vs with
  | nil=>cases h
  | cons v vs=>have h2:=zX.mp h;exact .cons (hp _ _ h2.1) (ih vs h2.2)
def l7{h:Ï}{K:NT}(hK:∀b o,h.get? b=À o->K.lookup b=À o)(n:Nat):∀w v,d9 h n w v=Ã->KW K (VD n w) v:=by
 induction n with
 | zero=>intro w v e;cases e
 | succ n ih=>
  intro w v e;cases w with
  | int i=>cases v with
   | int j t=>cases eq_of_beq (show(i==j)=Ã from e);exact .int
   | _=>cases e
  | str x=>cases v with
   | str j t=>cases eq_of_beq (show(x==j)=Ã from e);exact .str
   | _=>cases e
  | tup l=>
   have e1:((mX h v).any λcb=>decide (cb.size<=sizeLine)&&d8 (d9 h n) l cb.toList)=Ã:=e;cases z:mX h v with
   | none=>rw[z] at e1;cases e1
   | some cb=>
    rw[z] at e1;obtain⟨a,o,m,rfl,e4,e5,e6⟩:=J8 z;have e7:=zX.mp e1;exact .tup (hK _ _ e4) e5 e6 (j7 e7.1) (UP ih _ _ e7.2)
def Kn{h:Ï}(e:dictAt h v=À es):∃a n,v=.ref a/\h.get? a=À ⟨.type "dict",Á,.dict es n,#[]⟩/\(a==Ø)=Â:=by
 cases v with
 | ref a=>
  obtain⟨⟨c,di,d,sl⟩,e1,e2⟩:=zf.mp e;cases c with
  | type t=>
   have e3:(if t="dict" then (match d with | .dict es _=>if di.isNone&&sl.isEmpty&&a != Ø then À es else Á | _=>Á) else Á)=À es:=e2;by_cases q:t="dict"
   .rw[zW q] at e3
    cases d with
    | dict Au n=>
     have e4:(if di.isNone&&sl.isEmpty&&a != Ø then À Au else Á)=À es:=e3;by_cases z:(di.isNone&&sl.isEmpty&&a != Ø)=Ã
     .rw[zW z] at e4
      cases e4;have z1:=zX.mp z;have z2:=zX.mp z1.1;refine⟨a,n,rfl,?_,?_⟩
      .rw[e1,q,vD.mp z2.1,Array.isEmpty_iff.mp z2.2]
      .have:=z1.2;rw[bne,zZ] at this;exact this
     .rw[kY z] at e4;cases e4
    | _=>cases e3
   .rw[kY q] at e3;cases e3
  | _=>cases e2
 | _=>cases e
def tab_of{h:Ï}{K:NT}(hK:∀b o,h.get? b=À o->K.lookup b=À o)(l:List (È×Cn)):∀es:List ú,d8 (λp (e:ú)=>Y7 p.1 e.key&&d9 h 9 p.2 e.val) l es=Ã->es.map (·.hash)=l.map (λp=>ķ P p.1)->TabRel K (toT l) es/\Ķ P es:=by
 induction l with
 | nil=>intro es a b;cases es with | nil=>exact⟨.nil,trivial⟩ | cons _ _=>cases a
 | cons p l ih=>
  intro es a b;cases es with
  | nil=>cases a
  | cons e es=>
   have a1:=zX.mp a;have a2:=zX.mp a1.1;have b1:=yV b;obtain⟨r,t⟩:=ih es a1.2 b1.2;obtain⟨eh,ek,ev⟩:=e;cases ek with
   | str y t'=>
    have q:=eq_of_beq (show(p.1==y)=Ã from a2.1);subst q;exact⟨.cons (hs:=0) (v:=.none) rfl (l7 hK _ _ _ a2.2) r,⟨_,_,rfl,b1.1⟩,t⟩
   | _=>cases a2.1
def rG{h h₀:Ï}(G:h.Ns Ô mg)(k:∀b o,h₀.get? b=À o->h.get? b=À o)(hn:h₀.isNs Ô=Ã)(x:È):mg x=h₀.nsMap Ô x:=by
 obtain⟨o,es,ep,e1,e2,e3,e4⟩:=Heap.Ns.of_isNs hn;obtain⟨o',Au,FS,f1,f2,f3,f4⟩:=G;have:=k _ _ e1;rw[f1] at this;cases this;rw[e2] at f2;cases f2;rw[<-f4 x,<-e4 x]
theorem pz{α β:Type}{P:È->α->Prop}(f:β->α):∀{l:List (È×β)},(∀p∈l,P p.1 (f p.2))->AllOf P (l.map λp=>(p.1,f p.2))
 | [],_=>trivial
 | (x,g)::r,h=>⟨h (x,g) (zu ..),pz f λp m=>h p (zq _ m)⟩
theorem none_of:∀{l:List È},(∀x∈l,mg x=Á)->AllNone mg l
 | [],_=>trivial
 | x::r,h=>⟨h x (zu ..),none_of λp m=>h p (zq _ m)⟩
def Uy{cons:List (È×Cn)}{tabs:List (È×List (È×Cn))}{bins:List È}{w:Ð}{h:Ï}(Y:(B2 cons tabs bins).says w h)(G:h.Ns Ô mg) :
  AllOf (Glob (Kw h) mg) (toT cons)/\AllOf (TabOk (Kw h) w.params mg) (tabs.map λp=>(p.1,toT p.2))/\AllNone mg bins:=by
 obtain⟨h₀,k,b,t⟩:=Y;have hK:∀b o,h₀.get? b=À o->(Kw h).lookup b=À o:=λb o e=>by rw[Kw.lookup];exact k _ _ e
 unfold lA at b;erw[zb,zY] at b;obtain⟨⟨b1,b2⟩,b3⟩:=b;have M:=rG G k b1;refine⟨pz (VD 9) λp m=>?_,pz toT λp m=>?_,none_of λx m=>?_⟩
 .have e:=b2 p m
  cases q:h₀.nsMap Ô p.1 with
  | none=>rw[q] at e;cases e
  | some v=>rw[q] at e;exact(l7 hK _ _ _ e).glob ((M _).trans q)
 .have e:JQ h₀ p.2 (h₀.nsMap Ô p.1)=(Ã,p.2.map λk=>ķ w.params k.1):=by
   unfold pH iq at t;exact(List.map_inj_left.mp t) p m
  unfold JQ at e;cases q:h₀.nsMap Ô p.1 with
  | none=>rw[q] at e;cases e
  | some v=>
   rw[q] at e;cases z:dictAt h₀ v with
   | none=>rw[jL,z] at e;cases e
   | some es=>
    rw[jL,z] at e;have e2:=Prod.mk.inj e;obtain⟨a,n,rfl,g,f⟩:=Kn z;obtain⟨r,kl⟩:=tab_of hK (P:=w.params) p.2 es.toList e2.1 e2.2;exact⟨a,es,n,(M _).trans q,hK _ _ g,kl,f,r⟩
 .have:=b3 x m
  rw[M];exact vD.mp this
def fw{α:Type}{o:Option α}{p:α->Bool}(h:o.any p=Ã):∃a,o=À a/\p a=Ã:=by
 cases o with
 | none=>cases h
 | some a=>exact⟨a,rfl,h⟩
def eD{h:Ï}(e:clsAt h x=À (C,cd,sl)):h.nsMap Ô x=À (.ref C)/\∃dd s,h.get? C=À ⟨.type "type",dd,.cls cd,s⟩/\s.toList=sl:=by
 unfold clsAt at e;split at e
 .rename_i C' q
  obtain⟨⟨c,dd,d,s⟩,e1,e2⟩:=zf.mp e;dsimp only at e2;split at e2
  .split at e2
   .rename_i z
    cases e2;subst z;exact⟨q,dd,s,e1,rfl⟩
   .cases e2
  .cases e2
 .cases e
def rJ{h:Ï}{K:NT}(hK:∀b o,h.get? b=À o->K.lookup b=À o)(e:tK h N ns=Ã):nsOkIn K N=Ã/\∀n∈ns,nsIn K N n=À Á:=by
 unfold tK at e;obtain⟨⟨c,dd,d,s⟩,e1,e2⟩:=fw e;dsimp only at e2;split at e2
 .rename_i es n
  erw[zb,zZ,zY] at e2;have lk:=hK _ _ e1;constructor
  .unfold nsOkIn
   rw[lk];exact e2.1.1
  .intro m hm
   unfold nsIn;rw[lk];dsimp only;have:=e2.2 m hm;rw[ğ] at this;rw[this];dsimp only;rw[e2.1.2];rfl
 .cases e2
def WK(h:Q2 sl=Ã):∃k0 k1 k2 k3 k5,sl=[k0,k1,k2,k3,À (.builtin "ValueError.__new__"),k5]:=by
 unfold Q2 at h;split at h
 .rw[eq_of_beq h];exact⟨_,_,_,_,_,rfl⟩
 .cases h
def Bf{h h₀:Ï}(G:h.Ns Ô mg)(k:∀b o,h₀.get? b=À o->h.get? b=À o)(hn:h₀.isNs Ô=Ã)(b:tE h₀=Ã) :
  ∃C,fW "NoText" C mg h/\ExcK (Kw h) mg C "WorkError" "NoText" "NoDeed" "Clash":=by
 have hK:∀b o,h₀.get? b=À o->(Kw h).lookup b=À o:=λb o e=>by rw[Kw.lookup];exact k _ _ e
 have M:=rG G k hn;have X:=Kw.in h;unfold tE at b;obtain⟨⟨C,cd,sl⟩,f0,b⟩:=fw b;obtain⟨⟨C1,MD,NE⟩,f1,b⟩:=fw b;obtain⟨⟨C2,MF,AO⟩,f2,b⟩:=fw b;obtain⟨⟨C3,MJ,NF⟩,f3,b⟩:=fw b;erw[zb,zZ,qj,bne_iff_ne] at b;obtain⟨⟨⟨⟨⟨⟨⟨⟨⟨b1,b2⟩,b3⟩,b4⟩,b5⟩,b6⟩,b7⟩,b8⟩,b9⟩,ba⟩:=b;obtain⟨m0,dd,s,o0,hs⟩:=eD f0;obtain⟨m1,NG,s1,o1,-⟩:=eD f1;obtain⟨m2,A2,s2,o2,-⟩:=eD f2;obtain⟨m3,NH,s3,o3,-⟩:=eD f3;obtain⟨n0,n1⟩:=rJ hK b5;obtain⟨n2,n3⟩:=rJ hK b6;have l0:=hK _ _ o0;have l1:=hK _ _ o1;have l2:=hK _ _ o2;have l3:=hK _ _ o3;have ci:ľ (Kw h) C=À cd:=by unfold ľ;rw[l0]
 have MK:ľ (Kw h) C1=À MD:=by unfold ľ;rw[l1]
 have NI:ľ (Kw h) C2=À MF:=by unfold ľ;rw[l2]
 have NJ:ľ (Kw h) C3=À MJ:=by unfold ľ;rw[l3]
 have sb:∀v,ĩ (Kw h) C v=À ((.ref C::.ref C1::sI:List Ä).contains v):=λv=>by
  unfold ĩ;rw[ci,jL,b1];rfl
 have MM:∀v,ĩ (Kw h) C1 v=À ((.ref C1::sI:List Ä).contains v):=λv=>by
  unfold ĩ;rw[MK,jL,b2];rfl
 have fi:∀n∈four,ļ (Kw h) (.ref C) n=ű (Kw h) n sI:=λn hn=>by
  unfold ļ;dsimp only;rw[l0];dsimp only;rw[b1];have q0:ownIn (Kw h) n (.ref C)=À Á:=by unfold ownIn;dsimp only;rw[l0];exact n1 n hn
  have q1:ownIn (Kw h) n (.ref C1)=À Á:=by unfold ownIn;dsimp only;rw[l1];exact n3 n hn
  have st:∀c r,ownIn (Kw h) n c=À Á->ű (Kw h) n (c::r)=ű (Kw h) n r:=λc r e=>by
   rw[show ű (Kw h) n (c::r)=(match ownIn (Kw h) n c with | some (À v)=>À (À v) | some Á=>ű (Kw h) n r | none=>Á) from rfl,e]
  rw[st _ _ q0,st _ _ q1]
 have ty:∀{D:Ç} {o:æ},(Kw h).lookup D=À o->typeIn (Kw h) (.ref D)=À o.cls:=λ{D o} e=>by unfold typeIn;dsimp only;rw[e];rfl
 have kc:∀{D:Ç} {Ic:ClassData} {Ie:Option Ç} {sD:Array (Option Ä)},(Kw h).lookup D=À ⟨.type "type",Ie,.cls Ic,sD⟩->kitCls (Kw h) (.ref C) (.ref D)=ĩ (Kw h) C (.ref D):=λ{D Ic Ie sD} e=>by
  unfold kitCls;dsimp only;rw[if_pos (by rw[ty e];unfold ľ;rw[e];rfl)];rfl
 have rr:∀{A B:Ç},A≠B->(Ú A==Ú B)=Â:=λ{A B} z=>jB.mpr λq=>z (Value.ref.inj q)
 have no:∀{D:Ç},D≠C->D≠C1->(.ref C::.ref C1::sI:List Ä).contains (.ref D)=Â:=λ{D} z0 z1=>by
  erw[xU,rr z0,rr z1,List.contains_nil,Bool.false_or];rfl
 refine⟨C,⟨(M _).trans m0,?_⟩,⟨⟨C1,(M _).trans m1,?_⟩,⟨C,(M _).trans m0,?_⟩,⟨C2,(M _).trans m2,?_⟩,⟨C3,(M _).trans m3,?_⟩,?_,?_,?_,?_,?_,?_,by rw[ci];rfl⟩⟩
 .obtain⟨k0,k1,k2,k3,k5,hz⟩:=WK b4
  rw[hz] at hs;have GD:s = #[k0,k1,k2,k3,À (.builtin "ValueError.__new__"),k5]:=by
   obtain⟨l⟩:=s;simp only at hs;rw[hs]
  rw[GD] at l0;have tl:OwnTail h Va (.ref C1::Va):=.own (X _ _ l1) (.of_isNs (isNs_of_in X n2)) (nsMap_none_of_in X n2 (n3 _ ⋯)) .base;obtain⟨nm,bs,mro,MN,qn,hd,sn,sub,ab,col,del⟩:=cd;dsimp only at b1 b3 n0 n1;rw[b1,b3] at l0;exact⟨_,MN,nm,qn,bs,hd,sn,sub,ab,col,dd,k0,k1,k2,k3,k5,_,X _ _ l0,.of_isNs (isNs_of_in X n0),nsMap_none_of_in X n0 (n1 _ ⋯),tl⟩
 .unfold exmOne
  have:subIn (Kw h) (.ref C1) (.type "BaseException")=À Ã:=by show ĩ _ _ _=_;rw[MM];rfl
  rw[zW (by rw[this];rfl),kc l1,sb];erw[xU,vN,Bool.true_or,Bool.or_true]
 .unfold kitOne
  rw[zW (by simp)]
 .unfold kitOne
  rw[kY (by rw[rr (kZ b7)];simp),kc l2,sb,no b7 b8]
 .unfold kitOne
  rw[kY (by rw[rr (kZ b9)];simp),kc l3,sb,no b9 ba]
 .unfold kitOne
  rw[kY (by simp)];unfold kitCls;dsimp only;rw[if_pos ⋯];show ĩ _ _ _=_
  rw[sb];rfl
 .rw[sb];rfl
 .rw[sb];rfl
 .rw[fi _ ⋯];kernel_rfl
 .rw[fi _ ⋯];kernel_rfl
 .rw[fi _ ⋯];kernel_rfl
def walk_lawX{l:PySem.W.OpenLaw}{q:Í}{d:DefRec}{D:Def}{Γ:RC}{ns:Nat}{cons:List (È×Cn)}{tabs:List (È×List (È×Cn))}(hc:toT cons=Γ.con)(ht:(tabs.map λp=>(p.1,toT p.2))=Γ.tab)(hn:l.most=À 63)(Ee:d.params.defaults=[])
  (hr:Room (room+1) į) (hx:D.x=d.name) (Hi:D.ps=[y]) (hb:nD D.x D.st D.ps) (Ag:uJ D.N D.ps (kF D.st)=Ã) (Af:D.N.length-1=ns) (hz:D.rz=Â) (hB:cB (Γ.at D) (qA D.st)=À b) (hg:g=gc (k8 1 ns b))
  (main:∀ns:List Int,ns.length<=63->∃h',g [.fls (ns.map W.int)] []=À (.bl Ã,h'))
  (lvl:∀(w:Ð) (K:NT) (mg:È->Option Ä) (base:Ï),nZ (uU K mg) ds->AllOf (Glob K mg) Γ.con->AllOf (TabOk K w.params mg) Γ.tab->AllNone mg Γ.bin->∀{C:Ç},fW "NoText" C mg base->ExcK K mg C "WorkError" "NoText" "NoDeed" "Clash"->BaseOk l.prog w K mg base ⟨λ_=>C,l.prog,w,λ_=>False⟩ room Γ)
  (F:∀(w:Ð) (s₀:Å) (mg mb:È->Option Ä) (h:Ï),Ground q loose [] XP w s₀ mg mb h->uU (Kw h) mg D/\nZ (uU (Kw h) mg) ds):PySem.W.WalkO q loose XP (VB cons tabs Γ.bin).says l.row.toRowW d [] (λf vs=>Ż f vs):=by
 refine Qz (n:=63) (k:=room+1) (x:=y) (CX:=bP) (sp:=λw=>Cm l.prog w g) hn (by decide) Ee hr (λw s₀ mg mb fa h G Y Fo=>?_) (λw K H a ns hl _ hS=>Xk main K H a ns hl hS) λ_ _ _ _ z=>z
 obtain⟨⟨a,fd,T⟩,h1⟩:=F w s₀ mg mb h G;obtain⟨h₀,kk,y1,y2,y3⟩:=Y;have GP:h₀.isNs Ô=Ã:=by
  have:=y1;unfold lA at this;erw[zb] at this;exact this.1.1
 obtain⟨C,xo,xk⟩:=Bf G.T.g kk GP y3;obtain⟨h2,h3,h4⟩:=Uy (cons:=cons) (tabs:=tabs) (bins:=Γ.bin) (w:=w) ⟨h₀,kk,y1,y2⟩ G.T.g;rw[hc] at h2;rw[ht] at h3;have e:=T.m.symm.trans (hx▸Fo);cases e;refine⟨fd,?_,λbase KB _=>?_⟩
 .have hb2:=λkV doc pm an pf ct us hl=>hb us hl kV doc pm an pf ct
  rw[Hi] at hb2;exact pF T.F hb2
 .have:=sG T (lvl w _ mg base h1 h2 h3 h4 (xo.keeps λb o e=>KB b o (by rw[Kw.lookup];exact e)) xk) Ag (np:=1) (by rw[Hi];rfl) Af hB hz
  rw[Hi] at this;subst hg;exact this.imp λvs H Q E z=>z C
end ML
namespace ML
open PySem L2
noncomputable def dt:Nat->W->Bool
 | 0,_=>Â
 | _+1,.non=>Ã
 | _+1,.bl _=>Ã
 | _+1,.int _=>Ã
 | _+1,.str x=>Õ x&&decide (x.length<=1000)
 | n+1,.tup l=>decide (l.length<=1000)&&l.all (dt n)
 | n+1,.fls l=>decide (l.length<=1000)&&l.all (dt n)
 | _+1,.ref _=>Â
 | _+1,.fdc _=>Â
 | _+1,.fn _=>Â
noncomputable def toD:Nat->W->ż
 | 0,_=>.none
 | _+1,.non=>.none
 | _+1,.bl b=>.bool b
 | _+1,.int i=>.int i
 | _+1,.str x=>.str x
 | n+1,.tup l=>.tuple (l.map (toD n))
 | n+1,.fls l=>.list (l.map (toD n))
 | _+1,_=>.none
theorem vF:∀{l:List W},(∀w∈l,low m w=Ã)->lows m l=Ã
 | [],_=>by unfold lows;rfl
 | w::r,h=>by
  unfold lows;rw[h w zu,vF λw hw=>h w (zq _ hw)];rfl
theorem qE:∀{n:Nat} {w:W},dt n w=Ã->low m w=Ã
 | 0,_,h=>by cases h
 | n+1,.non,_=>by unfold low;rfl
 | n+1,.bl _,_=>by unfold low;rfl
 | n+1,.int _,_=>by unfold low;rfl
 | n+1,.str _,_=>by unfold low;rfl
 | n+1,.tup l,h=>by
  unfold dt at h;rw[zb] at h;unfold low;exact vF λw hw=>qE (zY.mp h.2 w hw)
 | n+1,.fls l,h=>by
  unfold dt at h;rw[zb] at h;unfold low;exact vF λw hw=>qE (zY.mp h.2 w hw)
 | n+1,.ref _,h=>by cases h
 | n+1,.fdc _,h=>by cases h
 | n+1,.fn _,h=>by cases h
theorem qh:∀{n m:Nat} {w:W},dt n w=Ã->n<=m->dt m w=Ã
 | 0,_,_,h,_=>by cases h
 | n+1,0,_,_,h=>by omega
 | n+1,m+1,.non,_,_=>rfl
 | n+1,m+1,.bl _,_,_=>rfl
 | n+1,m+1,.int _,_,_=>rfl
 | n+1,m+1,.str _,h,_=>h
 | n+1,m+1,.tup l,h,hn=>by
  unfold dt at h ⊢;rw[zb] at h ⊢;exact⟨h.1,zY.mpr λw hw=>qh (zY.mp h.2 w hw) ∅⟩
 | n+1,m+1,.fls l,h,hn=>by
  unfold dt at h ⊢;rw[zb] at h ⊢;exact⟨h.1,zY.mpr λw hw=>qh (zY.mp h.2 w hw) ∅⟩
 | n+1,m+1,.ref _,h,_=>by cases h
 | n+1,m+1,.fdc _,h,_=>by cases h
 | n+1,m+1,.fn _,h,_=>by cases h
theorem lP{α β:Type}{f:α->Option β}{g:α->β}:∀{l:List α},(∀x∈l,f x=À (g x))->qk f l=À (l.map g)
 | [],_=>rfl
 | x::r,h=>by
  unfold qk;rw[h x zu,lP λy hy=>h y (zq _ hy)];rfl
theorem uA:∀{n m:Nat} {w:W},dt n w=Ã->n<=m->kX m h w=À (toD n w)
 | 0,_,_,e,_=>by cases e
 | n+1,0,_,_,hn=>by omega
 | n+1,m+1,.non,_,_=>rfl
 | n+1,m+1,.bl _,_,_=>rfl
 | n+1,m+1,.int _,_,_=>rfl
 | n+1,m+1,.str x,e,_=>by
  unfold dt at e;rw[zb] at e;unfold kX;rw[zW e.1];rfl
 | n+1,m+1,.tup l,e,hn=>by
  unfold dt at e;rw[zb] at e;unfold kX;rw[lP λw hw=>uA (zY.mp e.2 w hw) ∅];rfl
 | n+1,m+1,.fls l,e,hn=>by
  unfold dt at e;rw[zb] at e;unfold kX;rw[lP λw hw=>uA (zY.mp e.2 w hw) ∅];rfl
 | n+1,m+1,.ref _,e,_=>by cases e
 | n+1,m+1,.fdc _,e,_=>by cases e
 | n+1,m+1,.fn _,e,_=>by cases e
def vt(e:f ws h=À (w,h))(d:dt n w=Ã):gc f ws h=À (w,h):=vw e (qE d) (kW _)
def KO(e:f ws h=À (w,h++t))(d:dt n w=Ã):gc f ws h=À (w,h):=vw e (qE d) (je _ _)
noncomputable def tyB(T:Ty):W->Bool
 | .bl _=>decide (T=.bool)||decide (T=.int)
 | .int _=>decide (T=.int)
 | .str _=>decide (T=.str)
 | .tup _=>decide (T=.tuple)
 | .fls _=>decide (T=.list)
 | _=>Â
theorem vb(d:dt n w=Ã):isW T w h=À (.bl (tyB T w),h):=by
 cases n with
 | zero=>cases d
 | succ n=>
  unfold isW pj tyB;cases w with
  | ref _=>cases d
  | fdc _=>cases d
  | fn _=>cases d
  | non=>rfl
  | bl b=>erw[gC];cases T<;>rfl
  | int b=>erw[gC];cases T<;>rfl
  | str b=>erw[gC];cases T<;>rfl
  | tup b=>erw[gC];cases T<;>rfl
  | fls b=>erw[gC];cases T<;>rfl
theorem kN(h:MH)(x y:È):eqB h (.str x) (.str y)=À (x==y):=rfl
theorem kD(h:MH)(x y:Int):eqB h (.int x) (.int y)=À (x==y):=rfl
noncomputable def i6:W->Bool
 | .tup []=>Ã
 | _=>Â
def pZ(d:dt n w=Ã)(hn:n<=60)(dl:dt m (.tup l)=Ã)(hm:m<=60):eqB h w (.tup l)=À (ë (toD n w) (toD m (.tup l))):=by
 have e1:=uA (h:=h) d (show n<=deep from hn);have e2:=uA (h:=h) dl (show m<=deep from hm);unfold eqB;have:K3 w (.tup l)=Á:=by unfold K3;cases w<;>rfl
 rw[this,e1,e2]
def sF(d:dt n w=Ã)(hn:n<=60):eqB h w (.tup [])=À (i6 w):=by
 rw[pZ d hn (m:=1) (by rfl) ∅];cases n with
 | zero=>cases d
 | succ n=>
  cases w with
  | ref _=>cases d
  | fdc _=>cases d
  | fn _=>cases d
  | tup l=>cases l<;>simp[toD,ë,ħ,i6]
  | _=>simp[toD,ë,i6]
noncomputable def kQ(l:List È):W->Bool
 | .str x=>l.any (· == x)
 | _=>Â
noncomputable def zh(l:List È):List W:=l.map .str
def QD{l:List È}(d:dt n w=Ã)(hn:n<=60)(hl:l.all Õ=Ã)(hy:xb h y=À (zh l))(Af:∀z,y≠.str z):inB h w y=À (kQ l w):=by
 have e1:=uA (h:=h) d (show n<=deep from hn);have e2:qk (kX deep h) (zh l)=À (l.map .str):=by
  unfold zh;have:∀l:List È,l.all Õ=Ã->qk (kX deep h) (l.map .str)=À (l.map PyData.str):=by
   intro l;induction l with
   | nil=>intro _;rfl
   | cons x r ih=>
    intro hl;rw[jt,zb] at hl;erw[zx];unfold qk;have:kX deep h (.str x)=À (.str x):=by
     show kX (59+1) h (.str x)=_
     unfold kX;rw[zW hl.1]
    rw[this,ih hl.2]
  exact this l hl
 have e3:inB h w y=match xb h y with
  | some l=>match kX deep h w,qk (kX deep h) l with
   | some d,À ds=>À (ds.any λe=>ë e d)
   | _,_=>Á
  | none=>Á:=by
  unfold inB;split
  .rename_i j
   exact absurd rfl (Af _)
  .rfl
 rw[e3,hy];erw[e1,e2];congr 1
 cases n with
 | zero=>cases d
 | succ n=>
  rw[List.any_map];cases w with
  | ref _=>cases d
  | fdc _=>cases d
  | fn _=>cases d
  | str x=>
   unfold kQ;congr 1
  | _=>simp[toD,ë,kQ]
def xE{l:List È}(d:dt n w=Ã)(hn:n<=60)(hl:l.all Õ=Ã):inB h w (.tup (zh l))=À (kQ l w):=QD d hn hl rfl (λz=>nofun)
theorem lT(h:MH)(x y:È):inB h (.str x) (.str y)=À (uT y x):=rfl
theorem iH{h:MH}(hn:h.length=n0)(p:W->Bool)(f:W->W):∀(l:List W) (acc:List W) (o:Option W),
  (∀w∈l,∀H',t (À w::caps) H'=À (p w,H'))->(∀w∈l,p w=Ã->∀H',m (À w::caps) H'=À (f w,H'))->acc.length+l.length<=cap->
  uw 1 (zD 0) t m n0 l (o::caps) (h++[.lst acc])=À (h++[.lst (acc++(l.filter p).map f)])
 | [],acc,o,_,_,_=>by simp[uw]
 | w::l,acc,o,ht,hf,hl=>by
  have ih:=λAS=>iH (caps:=caps) (t:=t) (m:=m) hn p f l AS Á (λw hw=>ht w (zq _ hw)) (λw hw=>hf w (zq _ hw))
  have hb:blank 1 (À w::caps)=Á::caps:=by simp[blank]
  unfold uw;have hg:zD 0 w (o::caps) (h++[.lst acc])=À (À w::caps,h++[.lst acc]):=by simp[zD]
  rw[hg];simp only;rw[ht w zu];erw[zr] at hl;cases hp:p w with
  | false=>
   simp only;rw[hb,ih acc ∅];simp[vR,hp]
  | true=>
   simp only;rw[hf w zu hp];have e1:(h++[MO.lst acc])[n0]?=À (.lst acc):=by rw[<-hn];simp
   have e2:(h++[MO.lst acc]).set n0 (.lst (acc++[f w]))=h++[.lst (acc++[f w])]:=by rw[<-hn,jH _ _ (zF _)];simp
   erw[e1];rw[zW ∅,hb,e2,ih (acc++[f w]) (by rw[zK];simp;omega)];simp[vR,hp]
def iy{ks:List Nat}{ρ:En}{h:MH}{l:List W}(p:W->Bool)(f:W->W)(hm:mi ρ h=À (.items l,h))(ht:∀w∈l,∀H',t (À w::ks.map λk=>(ρ[k]?).join) H'=À (p w,H'))
  (hf:∀w∈l,p w=Ã->∀H',m (À w::ks.map λk=>(ρ[k]?).join) H'=À (f w,H')) (EF:∀w∈l,p w=Ã->low h.length (f w)=Ã) (hl:l.length<=cap):yk mi 1 ks (zD 0) t m ρ h=À (.fls ((l.filter p).map f),h):=by
 have e:=iH (caps:=ks.map λk=>(ρ[k]?).join) (t:=t) (m:=m) (h:=h) rfl p f l [] Á ht hf (by simpa using hl);unfold yk eF;rw[hm];have er:(Æ 1 (Á:Option W)++ks.map λk=>(ρ[k]?).join)=Á::ks.map λk=>(ρ[k]?).join:=rfl
 simp only;rw[er,e];erw[zM,kj (zF _),Nat.sub_self,yU];rw[zW];refine⟨je _ _,vF λw hw=>?_⟩;obtain⟨w',h1,rfl⟩:=kI.mp hw;obtain⟨h2,h3⟩:=j8.mp h1;exact EF w' h2 h3
theorem gB{h:MH}(hn:h.length=n0)(p:W->W->Bool)(f:W->W->W):∀(l:List (W×W)) (acc:List W) (o1 o2:Option W),
  (∀w∈l,∀H',t (À w.1::À w.2::caps) H'=À (p w.1 w.2,H'))->(∀w∈l,p w.1 w.2=Ã->∀H',m (À w.1::À w.2::caps) H'=À (f w.1 w.2,H'))->acc.length+l.length<=cap->
  uw 2 (gz [zD 0,zD 1]) t m n0 (l.map λw=>.tup [w.1,w.2]) (o1::o2::caps) (h++[.lst acc])=À (h++[.lst (acc++(l.filter λw=>p w.1 w.2).map λw=>f w.1 w.2)])
 | [],acc,_,_,_,_,_=>by simp[uw]
 | (a,b)::l,acc,o1,o2,ht,hf,hl=>by
  have ih:=λAS=>gB (caps:=caps) (t:=t) (m:=m) hn p f l AS Á Á (λw hw=>ht w (zq _ hw)) (λw hw=>hf w (zq _ hw))
  have hb:blank 2 (À a::À b::caps)=Á::Á::caps:=by simp[blank,Æ]
  erw[zx];unfold uw;have hg:gz [zD 0,zD 1] (.tup [a,b]) (o1::o2::caps) (h++[.lst acc])=À (À a::À b::caps,h++[.lst acc]):=by simp[gz,eT,bnd,zD]
  rw[hg];simp only;rw[ht (a,b) zu];erw[zr] at hl;cases hp:p a b with
  | false=>
   simp only;rw[hb,ih acc ∅];simp[vR,hp]
  | true=>
   simp only;rw[hf (a,b) zu hp];have e1:(h++[MO.lst acc])[n0]?=À (.lst acc):=by rw[<-hn];simp
   have e2:(h++[MO.lst acc]).set n0 (.lst (acc++[f a b]))=h++[.lst (acc++[f a b])]:=by rw[<-hn,jH _ _ (zF _)];simp
   erw[e1];rw[zW ∅,hb,e2,ih (acc++[f a b]) (by rw[zK];simp;omega)];simp[vR,hp]
def Bu{ks:List Nat}{ρ:En}{h:MH}{l:List (W×W)}(p:W->W->Bool)(f:W->W->W)(hm:mi ρ h=À (.items (l.map λw=>.tup [w.1,w.2]),h))(ht:∀w∈l,∀H',t (À w.1::À w.2::ks.map λk=>(ρ[k]?).join) H'=À (p w.1 w.2,H'))
  (hf:∀w∈l,p w.1 w.2=Ã->∀H',m (À w.1::À w.2::ks.map λk=>(ρ[k]?).join) H'=À (f w.1 w.2,H')) (EF:∀w∈l,p w.1 w.2=Ã->low h.length (f w.1 w.2)=Ã) (hl:l.length<=cap):yk mi 2 ks (gz [zD 0,zD 1]) t m ρ h=À (.fls ((l.filter λw=>p w.1 w.2).map λw=>f w.1 w.2),h):=by
 have e:=gB (caps:=ks.map λk=>(ρ[k]?).join) (t:=t) (m:=m) (h:=h) rfl p f l [] Á Á ht hf (by simpa using hl);unfold yk eF;rw[hm];have er:(Æ 2 (Á:Option W)++ks.map λk=>(ρ[k]?).join)=Á::Á::ks.map λk=>(ρ[k]?).join:=rfl
 simp only;rw[er,e];erw[zM,kj (zF _),Nat.sub_self,yU];rw[zW];refine⟨je _ _,vF λw hw=>?_⟩;obtain⟨w',h1,rfl⟩:=kI.mp hw;obtain⟨h2,h3⟩:=j8.mp h1;exact EF w' h2 h3
noncomputable def JF(x letters:È):Bool:=match x.cps.toList with
 | c::_=>uT letters ⟨#[c]⟩
 | []=>Â
noncomputable def dO(x:È):Bool:=x.cps.toList.all λc=>uT "0123456789" ⟨#[c]⟩
noncomputable def nq(x:È):È:=Txt.slice x (À 1) Á
noncomputable def nh(x letters:È):Bool:=decide (1<=x.length/\x.length<=4)&&JF x letters&&dO (nq x)
noncomputable def isWord(letters:È):W->Bool
 | .str x=>nh x letters
 | _=>Â
def fX(x:È):x.cps.toList.length=x.length:=by simp[Str.length]
def Yx{x:È}(h1:1<=x.length)(h2:x.length<=cap):∃c r,x.cps.toList=c::r/\zt (.str x) (.int 0) h=À (.str ⟨#[c]⟩,h):=by
 cases e:x.cps.toList with
 | nil=>have:=fX x;rw[e] at this;simp at this;omega
 | cons c r=>
  refine⟨c,r,rfl,?_⟩;erw[zt,zW h2,atI,wm,e];simp
end ML
namespace K81
open PySem PySem.Spec PyProof.Rows L2 ML
def top(i:Nat):ì:=PySem.Challenge.pw_shelfwork_k81_whole_read.main.body.getD i (.Pass ⟨0,0,0,0⟩)
def fF:W:=(.tup [.str "a",.str "b",.str "c",.str "d"])
def cm:W:=(.int 1008)
def vk:W:=(.int 3)
def xB:W:=(.int 60)
def qv:W:=(.int 4)
def t_FORMS:List (È×W):=[("number",(.tup [.int 2,.int 2])),("name",(.tup [.int 2,.int 2])),("read",(.tup [.int 2,.int 2])),("write",(.tup [.int 3,.int 2])),("add",(.tup [.int 3,.int 1])),("less",(.tup [.int 3,.int 1])),("then",(.tup [.int 3,.int 1])),("if",(.tup [.int 4,.int 1])),("loop",(.tup [.int 3,.int 1])),("let",(.tup [.int 4,.int 2])),("own",(.tup [.int 4,.int 2])),("say",(.tup [.int 2,.int 1])),("ask",(.tup [.int 1,.int 1])),("do",(.tup [.int 2,.int 2])),("call",(.tup [.int 4,.int 2]))]
structure Fs where
 bN:List W->M W
 bB:List W->M W
 bC:List W->M W
 bQ:List W->M W
 aR:List W->M W
 aK:List W->M W
 bM:List W->M W
 aN:List W->M W
 aO:List W->M W
 bO:List W->M W
 bY:List W->M W
 aB:List W->M W
 aA:List W->M W
 aM:List W->M W
 bz:List W->M W
 au:List W->M W
 aL:List W->M W
 bK:List W->M W
 aP:MX
 cH:MX
 bG:List W->M W
 aa:List W->M W
 bT:List W->M W
 aq:List W->M W
 bR:List W->M W
 bf:List W->M W
 aV:List W->M W
 aW:List W->M W
 ak:List W->M W
 aY:List W->M W
 cN:List W->M W
noncomputable def aJ(F:Fs):MS:=(zl (ki (vE (yn (zI (jp (isW .tuple) (zd 0)))) (zI (zk (kM Â) (zi kb [zd 0]) (LW 0))))
 (ka (eC (.bl Â)))
 kg)
 (zl (ki (vE (yn (zI (jp (isW .str) (zk zt (zd 0) (LW 0))))) (zI (jp (tabIn Ã t_FORMS) (zk zt (zd 0) (LW 0)))))
 (ka (eC (.bl Â)))
 kg)
 (ka (zk (kM Â) (zi kb [zd 0]) (zk zt (jp (af t_FORMS) (zk zt (zd 0) (LW 0))) (LW 0))))))
noncomputable def bD(F:Fs):MS:=(zl (ki (zI (zk (kM Â) (zk zt (zd 0) (LW 0)) (Mf "call")))
 (ka (zk addW (zk zt (zd 0) (LW 2)) (zk zt (zd 0) (LW 3))))
 kg)
 (ka (jS (zd 0) (À (zk zt (jp (af t_FORMS) (zk zt (zd 0) (LW 0))) (LW 1))) Á)))
noncomputable def bV(F:Fs):MS:=(ka (dJ (jp (isW .int) (zd 0)) (tZ (jp (isW .bool) (zd 0)))))
noncomputable def bH(F:Fs):MS:=(ka (dJ (zi F.bC [zd 0]) (uq uG uG (LW 0) (zd 0) (eC cm))))
noncomputable def bL(F:Fs):MS:=(ka (zi tH [yk (il (zd 0)) 1 [] (zD 0) ux (zk (xh Â) (zd 0) (Mf "0123456789"))]))
noncomputable def aD(F:Fs):MS:=(zl (ki (vE (yn (zI (jp (isW .str) (zd 0)))) (yn (zI (uq uG uG (LW 1) (zi kb [zd 0]) (zk addW (LW 1) (eC vk))))))
 (ka (eC (.bl Â)))
 kg)
 (ka (dJ (zk (xh Â) (zk zt (zd 0) (LW 0)) (zd 1)) (zi F.aR [jS (zd 0) (À (LW 1)) Á]))))
noncomputable def bZ(F:Fs):MS:=(ka (zi F.aK [zd 0,Mf "xyz"]))
noncomputable def bw(F:Fs):MS:=(ka (zi F.aK [zd 0,Mf "pq"]))
noncomputable def aQ(F:Fs):MS:=(ka (zi F.aK [zd 0,Mf "fg"]))
noncomputable def bW(F:Fs):MS:=(ka (VC (zk (xh Â) (zd 0) (eC fF)) (dJ (zi F.aN [zd 0]) (zk (xh Â) (zd 0) (zd 1)))))
noncomputable def aG(F:Fs):MS:=(zl (zS (zk zt (zd 1) (LW 1)) (zD 2))
 (zl (ki (vE (yn (zI (zi F.bC [zd 2]))) (yn (zI (uq uG ac (LW 0) (zd 2) (zi kb [zd 0])))))
 (ka (eC (.bl Â)))
 kg)
 (zl (ki (vE (yn (zI (jp (isW .tuple) (zk zt (zd 1) (LW 2))))) (yn (zI (jp (isW .tuple) (zk zt (zd 1) (LW 3))))))
 (ka (eC (.bl Â)))
 kg)
 (zl (zS (zk zt (zd 0) (zd 2)) (zD 3))
 (ka (dJ (zk (kM Â) (zi kb [zk zt (zd 1) (LW 2)]) (zi kb [zk zt (zd 3) (LW 0)])) (zk (kM Â) (zi kb [zk zt (zd 1) (LW 3)]) (zi kb [zk zt (zd 3) (LW 1)]))))))))
noncomputable def aj(F:Fs):MS:=(zl (ki (yn (zI (zi F.bN [zd 1])))
 (ka (eC (.bl Â)))
 kg)
 (zl (zS (zk zt (zd 1) (LW 0)) (zD 3))
 (zl (ki (zI (zk (kM Â) (zd 3) (Mf "number")))
 (ka (zi F.bQ [zk zt (zd 1) (LW 1)]))
 kg)
 (zl (ki (zI (zk (kM Â) (zd 3) (Mf "name")))
 (ka (dJ (zi F.bM [zk zt (zd 1) (LW 1)]) (zk (xh Â) (zk zt (zd 1) (LW 1)) (zd 2))))
 kg)
 (zl (ki (zI (zk (kM Â) (zd 3) (Mf "do")))
 (ka (dJ (zi F.aO [zk zt (zd 1) (LW 1)]) (zk (xh Â) (zk zt (zd 1) (LW 1)) (zd 2))))
 kg)
 (zl (ki (zI (zk (xh Â) (zd 3) (zi zw [Mf "read",Mf "write"])))
 (ka (zi F.bO [zk zt (zd 1) (LW 1),zd 2]))
 kg)
 (zl (ki (zI (zk (kM Â) (zd 3) (Mf "let")))
 (ka (zi F.bM [zk zt (zd 1) (LW 1)]))
 kg)
 (zl (ki (zI (zk (kM Â) (zd 3) (Mf "own")))
 (ka (zi F.aN [zk zt (zd 1) (LW 1)]))
 kg)
 (zl (ki (zI (zk (kM Â) (zd 3) (Mf "call")))
 (ka (zi F.bY [zd 0,zd 1]))
 kg)
 (ka (eC (.bl Ã))))))))))))
noncomputable def aF(F:Fs):MS:=(zl (ki (zI (zk (xh Â) (zk zt (zd 0) (LW 0)) (zi zw [Mf "let",Mf "own"])))
 (ka (zi kf [zi zw [zk zt (zd 0) (LW 2),zd 1],zi zw [zk zt (zd 0) (LW 3),zk addW (zd 1) (zi zw [zk zt (zd 0) (LW 1)])]]))
 kg)
 (ka (yk (wn (zi F.bB [zd 0])) 1 [1] (zD 0) ux (zi zw [zd 0,zd 1]))))
noncomputable def aX(F:Fs):MS:=(zl (zS (LW 0) (zD 3))
 (zl (zS (zi vj [zi zw [zd 1,zd 2]]) (zD 4))
 (zl (uc (zI (zk gI (zi kb [zd 4]) (LW 0)))
 (zl (zS (kA uz (zd 4) []) (zD 5))
 (zl (ff 3 lm (LW 1))
 (zl (ki (vE (zI (zk gI (zd 3) (eC xB))) (yn (zI (zi F.aB [zd 0,zk zt (zd 5) (LW 0),zk zt (zd 5) (LW 1)]))))
 (ka (eC (.bl Â)))
 kg)
 (vn (kA xY (zd 4) [zi F.aA [zk zt (zd 5) (LW 0),zk zt (zd 5) (LW 1)]]))))))
 (ka (eC (.bl Ã))))))
noncomputable def cj(F:Fs):MS:=(ka (zi F.aM [zd 0,zd 1,zi zw []]))
noncomputable def az(F:Fs):MS:=(zl (ki (zI (zk (kM Â) (zk zt (zd 0) (LW 0)) (Mf "call")))
 (zl (zS (zk addW (zk addW (zk addW (zk addW (zi kf [Mf "["]) (zi c9 [zk zt (zd 0) (LW 2)])) (zi kf [Mf "]",Mf "["])) (zi c9 [zk zt (zd 0) (LW 3)])) (zi kf [Mf "]"])) (zD 1))
 (ka (zk addW (zk addW (zi kf [Mf "(",zk zt (zd 0) (LW 0),zk zt (zd 0) (LW 1)]) (zd 1)) (zi kf [Mf ")"]))))
 kg)
 (ka (zk addW (zk addW (zi kf [Mf "("]) (zi c9 [zd 0])) (zi kf [Mf ")"]))))
noncomputable def yT:MT:=(zI (zk gI (zi kb [zd 2]) (LW 0)))
noncomputable def yB(F:Fs):MS:=(zl (zS (kA uz (zd 2) []) (zD 3))
 (ki (zI (jp (isW .tuple) (zd 3)))
 (vn (kA xY (zd 2) [jp gS (zi F.au [zd 3])]))
 (vn (kA qf (zd 1) [zi eO [zd 3]]))))
noncomputable def aZ(F:Fs):MS:=zl (zS (zi vj []) (zD 1)) (zl (zS (zi vj [zd 0]) (zD 2)) (zl (uc yT (yB F)) (ka (qB joinM (Mf " ") [zd 1]))))
noncomputable def bx(F:Fs):MS:=(zl (ki (uv (zI (uq uG uG (LW 1) (zi kb [zd 0]) (eC qv))) (zI (zi F.aR [zd 0])))
 (ka (zi gX [zd 0]))
 kg)
 (ka (zd 0)))
noncomputable def zC(F:Fs):MS:=(zl (zS (kA uz (zd 1) []) (zD 3))
 (vn (kA qf (zk zt (zd 1) (jp uE (LW 1))) [zi ap [zd 3]])))
noncomputable def zB(F:Fs):MS:=(ki (zI (zk (xh Â) (zd 2) (zi zw [Mf "(",Mf "["])))
 (vn (kA qf (zd 1) [zi vj []]))
 (ki (zI (zk (xh Ã) (zd 2) (zi zw [Mf ")",Mf "]"])))
 (vn (kA qf (zk zt (zd 1) (jp uE (LW 1))) [zi F.bK [zd 2]]))
 (ki (zI (zk gI (zi kb [zd 1]) (LW 1))) (zC F) xS)))
noncomputable def zE(F:Fs):MS:=(zl (ki (vE (zI (zk (kM Ã) (zi kb [zd 1]) (LW 1))) (zI (zk (kM Ã) (zi kb [zk zt (zd 1) (LW 0)]) (LW 1))))
 xS
 kg)
 (ka (zk zt (zk zt (zd 1) (LW 0)) (LW 0))))
noncomputable def bJ(F:Fs):MS:=zl (zS (zi vj [zi vj []]) (zD 1)) (zl (xi (wn (zd 0)) (zD 2) (zB F)) (zE F))
noncomputable def cC(F:Fs):MS:=(zl (cK F.aP [qB splitM (zd 1) [Mf " "]] 2)
 (zl (ki (vE (yn (zI (zi F.bz [zd 0,zd 2]))) (zI (zk (kM Ã) (zi F.aL [zd 2]) (zd 1))))
 xS
 kg)
 (ka (zd 2))))
noncomputable def bA(F:Fs):MS:=(zl (ki (zI (zk (kM Â) (zd 0) (zi kf [])))
 (ka (zk kC (LW 7) (zd 1)))
 kg)
 (ka (zk addW (zk zt (zd 0) (zk xZ (zd 1) (zi kb [zd 0]))) (zk kC (LW 6553) (zk uR (zd 1) (zi kb [zd 0]))))))
noncomputable def bj(F:Fs):MS:=(zl (zS (zk xZ (zk addW (zk kC (zk xZ (zi F.bG [zd 0,zd 1]) (LW 2147483563)) (LW 69069)) (zk kC (LW 104723) (zk addW (zd 1) (LW 1)))) (LW 2147483563)) (zD 3))
 (zl (zS (zk xZ (zk addW (zk kC (zd 3) (zd 3)) (zk uR (zd 3) (LW 3))) (LW 2147483399)) (zD 3))
 (ka (zk xZ (zk uR (zk xZ (zk addW (zk kC (zd 3) (zd 3)) (zk uR (zd 3) (LW 7))) (LW 2147483647)) (LW 11)) (zd 2)))))
noncomputable def Vp(F:Fs):MS:=(zS (zd 2) (gz [zD 3,zD 4,zD 5]))
noncomputable def Wb(F:Fs):MS:=(zS (zi F.aa [zd 0,zd 1,LW 8]) (zD 6))
noncomputable def sH(F:Fs):MS:=(ki (zI (zk ac (zd 6) (LW 2)))
 (ka (zi zw [Mf "number",zk zt (zi kf [LW 0,LW 1,LW 2,LW 3,LW 7,LW 1008]) (zi F.aa [zd 0,zk addW (zd 1) (LW 1),LW 6])]))
 kg)
noncomputable def oR(F:Fs):MS:=(ki (uv (zI (zk (kM Â) (zd 6) (LW 2))) (zI (zk (kM Ã) (zd 3) (zi zw []))))
 (ka (zi zw [Mf "name",zk zt (zd 3) (zi F.aa [zd 0,zk addW (zd 1) (LW 1),zi kb [zd 3]])]))
 kg)
noncomputable def ph(F:Fs):MS:=(ki (uv (zI (zk (kM Â) (zd 6) (LW 3))) (zI (zk (kM Ã) (zd 5) (zi zw []))))
 (ka (zi zw [Mf "do",zk zt (zd 5) (zi F.aa [zd 0,zk addW (zd 1) (LW 1),zi kb [zd 5]])]))
 kg)
noncomputable def Ks(F:Fs):MS:=(ki (zI (zk (kM Â) (zd 6) (LW 4)))
 (ka (zi zw [Mf "ask"]))
 kg)
noncomputable def Ji(F:Fs):MS:=(zS (zk addW (zi zw [Mf "a",Mf "b",Mf "c",Mf "d"]) (zk kC (zd 4) (LW 3))) (zD 7))
noncomputable def VP(F:Fs):MS:=(ka (zi zw [Mf "read",zk zt (zd 7) (zi F.aa [zd 0,zk addW (zd 1) (LW 1),zi kb [zd 7]])]))
noncomputable def aU(F:Fs):MS:=zl (Vp F) (zl (Wb F) (zl (sH F) (zl (oR F) (zl (ph F) (zl (Ks F) (zl (Ji F) (VP F)))))))
noncomputable def Kp(F:Fs):MS:=(zS (zi F.aa [zd 0,zd 1,LW 15]) (zD 5))
noncomputable def nO(F:Fs):MS:=(ki (vE (zI (zk (kM Â) (zd 2) (LW 0))) (zI (zk ac (zd 5) (LW 2))))
 (ka (zi F.bT [zd 0,zk addW (zd 1) (LW 1),zd 3]))
 kg)
noncomputable def mJ(F:Fs):MS:=(ki (uv (zI (zk ac (zd 5) (LW 4))) (zI (zk (kM Ã) (zd 4) (zi zw []))))
 (ka (zi F.bR [zd 0,zd 1,zd 2,zd 3,zd 4]))
 kg)
noncomputable def rL(F:Fs):MS:=(zS (zi F.aq [zd 0,zk addW (zk kC (zd 1) (LW 3)) (LW 7),zk xD (zd 2) (LW 1),zd 3,zd 4]) (zD 6))
noncomputable def nN(F:Fs):MS:=(ki (zI (zk ac (zd 5) (LW 6)))
 (zl (zS (zk addW (zi zw [Mf "a",Mf "b",Mf "c",Mf "d"]) (zk kC (zk zt (zd 3) (LW 1)) (LW 3))) (zD 7))
 (ka (zi zw [Mf "write",zk zt (zd 7) (zi F.aa [zd 0,zk addW (zd 1) (LW 3),zi kb [zd 7]]),zd 6])))
 kg)
noncomputable def sC(F:Fs):MS:=(ki (zI (zk (kM Â) (zd 5) (LW 6)))
 (ka (zi zw [Mf "say",zd 6]))
 kg)
noncomputable def rC(F:Fs):MS:=(ki (zI (zk (kM Â) (zd 5) (LW 7)))
 (zl (zS (zk zt (zi kf [Mf "x",Mf "y",Mf "x1"]) (zi F.aa [zd 0,zk addW (zd 1) (LW 3),LW 3])) (zD 8))
 (ka (zi zw [Mf "let",zd 8,zd 6,zi F.aq [zd 0,zk addW (zk kC (zd 1) (LW 3)) (LW 23),zk xD (zd 2) (LW 1),zk addW (zi zw [zk addW (zk zt (zd 3) (LW 0)) (zi zw [zd 8])]) (jS (zd 3) (À (LW 1)) Á),zd 4]])))
 kg)
noncomputable def rR(F:Fs):MS:=(ki (zI (zk (kM Â) (zd 5) (LW 8)))
 (zl (zS (zk zt (zi kf [Mf "p",Mf "q"]) (zi F.aa [zd 0,zk addW (zd 1) (LW 3),LW 2])) (zD 8))
 (zl (zS (zi zw [zk zt (zd 3) (LW 0),zk addW (zk zt (zd 3) (LW 1)) (zi zw [zd 8]),zk zt (zd 3) (LW 2)]) (zD 9))
 (ka (zi zw [Mf "own",zd 8,zd 6,zi F.aq [zd 0,zk addW (zk kC (zd 1) (LW 3)) (LW 23),zk xD (zd 2) (LW 1),zd 9,zd 4]]))))
 kg)
noncomputable def oJ(F:Fs):MS:=(zS (zi F.aq [zd 0,zk addW (zk kC (zd 1) (LW 3)) (LW 41),zk xD (zd 2) (LW 1),zd 3,zd 4]) (zD 10))
noncomputable def pJ(F:Fs):MS:=(ki (zI (zk (kM Â) (zd 5) (LW 9)))
 (ka (zi zw [Mf "if",zd 6,zd 10,zi F.aq [zd 0,zk addW (zk kC (zd 1) (LW 3)) (LW 61),zk xD (zd 2) (LW 1),zd 3,zd 4]]))
 kg)
noncomputable def gP(F:Fs):MS:=(ka (zk addW (zk zt (zi kf [zi zw [Mf "then"],zi zw [Mf "add"],zi zw [Mf "less"],zi zw [Mf "loop"],zi zw [Mf "then"]]) (zk xD (zd 5) (LW 10))) (zi zw [zd 6,zd 10])))
noncomputable def aC(F:Fs):MS:=zl (Kp F) (zl (nO F) (zl (mJ F) (zl (rL F) (zl (nN F) (zl (sC F) (zl (rC F) (zl (rR F) (zl (oJ F) (zl (pJ F) (gP F))))))))))
noncomputable def V9(F:Fs):MS:=(zS (zi F.aa [zd 0,zk addW (zd 1) (LW 3),zi kb [zd 4]]) (zD 5))
noncomputable def V1(F:Fs):MS:=(zS (zi kb [zk zt (zk zt (zd 4) (zd 5)) (LW 0)]) (zD 6))
noncomputable def VI(F:Fs):MS:=(zS (zi vj []) (zD 7))
noncomputable def VS(F:Fs):MS:=(xi (eS [zk addW (zd 6) (zi kb [zk zt (zk zt (zd 4) (zd 5)) (LW 1)])]) (zD 8)
 (vn (kA qf (zd 7) [zi F.aq [zd 0,zk addW (zk addW (zk kC (zd 1) (LW 3)) (LW 7)) (zk kC (LW 5) (zd 8)),zk xD (zd 2) (LW 1),zd 3,zd 4]])))
noncomputable def VT(F:Fs):MS:=(ka (zi zw [Mf "call",zd 5,zi ap [jS (zd 7) Á (À (zd 6))],zi ap [jS (zd 7) (À (zd 6)) Á]]))
noncomputable def bF(F:Fs):MS:=zl (V9 F) (zl (V1 F) (zl (VI F) (zl (VS F) (VT F))))
noncomputable def Vz(F:Fs):MS:=(zS (zi zw []) (zD 2))
noncomputable def Uu(F:Fs):MS:=(xi (eS [zi F.aa [zd 0,zd 1,LW 3]]) (zD 3)
 (zl (zS (zk zt (zi kf [zi zw [],zi zw [Mf "x"],zi zw [Mf "y",Mf "x"]]) (zi F.aa [zd 0,zk addW (zk addW (zd 1) (LW 1)) (zk kC (LW 5) (zd 3)),LW 3])) (zD 4))
 (zl (zS (zk zt (zi kf [zi zw [],zi zw [Mf "f"],zi zw [Mf "f",Mf "g1"]]) (zi F.aa [zd 0,zk addW (zk addW (zd 1) (LW 2)) (zk kC (LW 5) (zd 3)),LW 3])) (zD 5))
 (zl (zS (zi F.aq [zd 0,zk addW (zk addW (zd 1) (LW 20)) (zk kC (LW 7) (zd 3)),LW 2,zi zw [zd 4,zi zw [],zd 5],zd 2]) (zD 6))
 (zS (zk addW (zd 2) (zi zw [zi zw [zd 4,zd 5,zd 6]])) (zD 2))))))
noncomputable def Xj(F:Fs):MS:=(ka (zd 2))
noncomputable def bh(F:Fs):MS:=zl (Vz F) (zl (Uu F) (Xj F))
noncomputable def bU(F:Fs):MS:=(zl (lG F.cH [zd 0,zd 1])
 (ka (eC (.bl Â))))
noncomputable def QZ:ME:=(zk gU (jS (zd 2) Á (À (jp uE (LW 2)))) (zi kf [zk addW (zk zt (zd 2) (jp uE (LW 2))) (zi zw [zk zt (zd 2) (jp uE (LW 1))])]))
noncomputable def Qy:ME:=yk (il (zd 3)) 1 [] (zD 0) (zI (zk (xh Ã) (zd 0) (Mf "0123456789"))) (zd 0)
noncomputable def Zj:ME:=(oO (uv (zI (uq ac ac (LW 0) (zi kb [zd 3]) (LW 5))) (zI (zk (kM Â) (zd 4) (zi kf [])))) (zi gX [zd 3]) (zd 3))
noncomputable def JX:ME:=(zk gU (jS (zd 2) Á (À (jp uE (LW 1)))) (zi kf [zk addW (zk zt (zd 2) (jp uE (LW 1))) (zi zw [zd 5])]))
noncomputable def lB:MS:=(ki (zI (zk (xh Â) (zd 3) (zi zw [Mf "(",Mf "["])))
 (vn (kA qf (zd 2) [zi zw []]))
 (ki (zI (zk (xh Â) (zd 3) (zi zw [Mf ")",Mf "]"])))
 (zl (ki (zI (zk ac (zi kb [zd 2]) (LW 2)))
 (ka (eC .non))
 kg)
 (zS QZ (zD 2)))
 (zl (zS Qy (zD 4))
 (zl (zS Zj (zD 5))
 (zS JX (zD 2))))))
noncomputable def lE(F:Fs):MS:=(zl (ki (vE (zI (zk (kM Ã) (zi kb [zd 2]) (LW 1))) (vE (zI (zk (kM Ã) (zi kb [zk zt (zd 2) (LW 0)]) (LW 1))) (yn (zI (zi F.bz [zd 0,zk zt (zk zt (zd 2) (LW 0)) (LW 0)])))))
 (ka (eC .non))
 kg)
 (ka (oO (zI (zk (kM Â) (zi F.aL [zk zt (zk zt (zd 2) (LW 0)) (LW 0)]) (zd 1))) (zk zt (zk zt (zd 2) (LW 0)) (LW 0)) (eC .non))))
noncomputable def bI(F:Fs):MS:=zl (zS (zi vj [zi zw []]) (zD 2)) (zl (xi (wn (qB splitM (zd 1) [Mf " "])) (zD 3) lB) (lE F))
noncomputable def w1(F:Fs):MS:=(ki (zI (zk (xh Â) (zd 3) (zi zw [Mf "number",Mf "name",Mf "ask",Mf "read"])))
 (ka (LW 1))
 kg)
noncomputable def w2(F:Fs):MS:=(ki (zI (zk (kM Â) (zd 3) (Mf "do")))
 (ka (io (zd 2) (zk zt (zd 1) (LW 1)) (LW 1)))
 kg)
noncomputable def w3(F:Fs):MS:=(ki (zI (zk (kM Â) (zd 3) (Mf "call")))
 (zl (zS (zi fU [yk (gW [zk zt (zk zt (zd 0) (zk zt (zd 1) (LW 1))) (LW 1),zk zt (zd 1) (LW 3)]) 2 [0,2] (gz [zD 0,zD 1]) ux (zi zw [zd 0,zi F.ak [zd 2,zd 1,zd 3]])]) (zD 4))
 (zl (zS (zi fH [yk (wn (zk zt (zd 1) (LW 2))) 1 [0,2] (zD 0) ux (zi F.ak [zd 1,zd 0,zd 2])]) (zD 5))
 (ka (zk addW (zk addW (LW 1) (zd 5)) (zi F.ak [zd 0,zk zt (zk zt (zd 0) (zk zt (zd 1) (LW 1))) (LW 2),zd 4])))))
 kg)
noncomputable def w4(F:Fs):MS:=(zS (yk (wn (jS (zd 1) (À (LW 1)) Á)) 1 [0,2] (zD 0) (zI (jp (isW .tuple) (zd 0))) (zi F.ak [zd 1,zd 0,zd 2])) (zD 6))
noncomputable def w5(F:Fs):MS:=(ki (zI (zk (kM Â) (zd 3) (Mf "loop")))
 (ka (zk addW (zk addW (LW 1) (zk zt (zd 6) (LW 0))) (zk kC (LW 3) (zk zt (zd 6) (LW 1)))))
 kg)
noncomputable def w6(F:Fs):MS:=(ka (zk addW (LW 1) (zi fH [zd 6])))
noncomputable def aH(F:Fs):MS:=zl (zS (zk zt (zd 1) (LW 0)) (zD 3)) (zl (w1 F) (zl (w2 F) (zl (w3 F) (zl (w4 F) (zl (w5 F) (w6 F))))))
noncomputable def bu(F:Fs):MS:=(zl (zS (zi F.aq [zd 0,zd 1,zd 2,zi zw [zi zw [],zi zw [],zi zw []],zd 3]) (zD 4))
 (zl (ki (zI (zk gI (zi F.ak [zd 3,zd 4,eC (.fdc [])]) (LW 80)))
 (ka (zi zw [Mf "read",zk zt (Mf "abcd") (zi F.aa [zd 0,zd 1,LW 4])]))
 kg)
 (ka (zd 4))))
noncomputable def cA(F:Fs):MS:=(zl (zS (zi F.bf [zd 0,LW 1]) (zD 1))
 (zl (zS (qB splitM (zi F.aL [zi F.aY [zd 0,LW 90,LW 1,zd 1]]) [Mf " "]) (zD 2))
 (zl (zS (zi F.aa [zd 0,LW 400,zi kb [zd 2]]) (zD 3))
 (zl (zS (zi F.aa [zd 0,LW 401,zi kb [zd 2]]) (zD 4))
 (zl (zS (zk zt (zi kf [Mf "(",Mf ")",Mf "[",Mf "]",Mf "a",Mf "number",Mf "01",Mf "1009",Mf "7",Mf "x",Mf "ask",Mf "p"]) (zi F.aa [zd 0,LW 402,LW 12])) (zD 5))
 (zl (zS (zi i4 [zd 2]) (zD 6))
 (zl (zS (zk zt (zd 2) (zd 4)) (lU (zd 6) (zd 3)))
 (zl (zS (zk zt (zd 2) (zd 3)) (lU (zd 6) (zd 4)))
 (zl (zS (zi kf [zd 2,zk addW (jS (zd 2) Á (À (zd 3))) (jS (zd 2) (À (zk addW (zd 3) (LW 1))) Á),zk addW (jS (zd 2) Á (À (zk addW (zd 3) (LW 1)))) (jS (zd 2) (À (zd 3)) Á),zd 6]) (zD 7))
 (zl (zS (zk addW (zd 7) (zi kf [zk addW (zk addW (jS (zd 2) Á (À (zd 3))) (zi kf [zd 5])) (jS (zd 2) (À (zk addW (zd 3) (LW 1))) Á)])) (zD 7))
 (zl (zS (zk addW (zd 7) (zi kf [zk addW (zk addW (jS (zd 2) Á (À (zd 3))) (zi kf [Mf ""])) (jS (zd 2) (À (zd 3)) Á),jS (zd 2) Á (À (zd 3)),zi kf [Mf "("],zi kf [Mf "(",Mf "ask",Mf ")",Mf ")"]])) (zD 7))
 (zl (xi (wn (zd 7)) (zD 8)
 (zl (zS (qB joinM (Mf " ") [zd 8]) (zD 9))
 (ki (zI (zk (kM Ã) (zi F.aV [zd 1,zd 9]) (zi F.aW [zd 1,zd 9])))
 (ka (eC (.bl Â)))
 kg)))
 (ka (eC (.bl Ã)))))))))))))))
noncomputable def step(F:Fs):Fs where
 bN:=gc (k8 1 0 (aJ F))
 bB:=gc (k8 1 0 (bD F))
 bC:=gc (k8 1 0 (bV F))
 bQ:=gc (k8 1 0 (bH F))
 aR:=gc (k8 1 0 (bL F))
 aK:=gc (k8 2 0 (aD F))
 bM:=gc (k8 1 0 (bZ F))
 aN:=gc (k8 1 0 (bw F))
 aO:=gc (k8 1 0 (aQ F))
 bO:=gc (k8 2 0 (bW F))
 bY:=gc (k8 2 2 (aG F))
 aB:=gc (k8 3 1 (aj F))
 aA:=gc (k8 2 0 (aF F))
 aM:=gc (k8 3 3 (aX F))
 bz:=gc (k8 2 0 (cj F))
 au:=gc (k8 1 1 (az F))
 aL:=gc (k8 1 3 (aZ F))
 bK:=gc (k8 1 0 (bx F))
 aP:=gA (fnX 1 3 (bJ F))
 cH:=gA (fnX 2 1 (cC F))
 bG:=gc (k8 2 0 (bA F))
 aa:=gc (k8 3 1 (bj F))
 bT:=gc (k8 3 5 (aU F))
 aq:=gc (k8 5 6 (aC F))
 bR:=gc (k8 5 4 (bF F))
 bf:=gc (k8 2 5 (bh F))
 aV:=gc (k8 2 2 (bU F))
 aW:=gc (k8 2 4 (bI F))
 ak:=gc (k8 3 4 (aH F))
 aY:=gc (k8 4 1 (bu F))
 cN:=gc (k8 1 9 (cA F))
def Fs.bot:Fs:=⟨λ_ _=>Á,λ_ _=>Á,λ_ _=>Á,λ_ _=>Á,λ_ _=>Á,λ_ _=>Á,λ_ _=>Á,λ_ _=>Á,λ_ _=>Á,λ_ _=>Á,λ_ _=>Á,λ_ _=>Á,λ_ _=>Á,λ_ _=>Á,λ_ _=>Á,λ_ _=>Á,λ_ _=>Á,λ_ _=>Á,λ_ _=>Á,λ_ _=>Á,λ_ _=>Á,λ_ _=>Á,λ_ _=>Á,λ_ _=>Á,λ_ _=>Á,λ_ _=>Á,λ_ _=>Á,λ_ _=>Á,λ_ _=>Á,λ_ _=>Á,λ_ _=>Á⟩
noncomputable def lv:Nat->Fs
 | 0=>.bot
 | n+1=>step (lv n)
def fns(F:Fs):List (È×(List W->M W)):=[(("has_form":È),F.bN),(("parts_of":È),F.bB),(("is_whole":È),F.bC),(("is_worth":È),F.bQ),(("is_figures":È),F.aR),(("is_lettered":È),F.aK),(("is_name":È),F.bM),(("is_own_shelf":È),F.aN),(("is_handed_name":È),F.aO),(("is_shelf":È),F.bO),(("is_call":È),F.bY),(("is_deed_outside":È),F.aB),(("parts_with_known":È),F.aA),(("is_deed_where":È),F.aM),(("is_deed":È),F.bz),(("words_and_parts":È),F.au),(("written":È),F.aL),(("meant":È),F.bK),(("_law_cell":È),F.bG),(("_law_drawn":È),F.aa),(("_law_leaf":È),F.bT),(("_law_deed":È),F.aq),(("_law_call":È),F.bR),(("_law_rules":È),F.bf),(("_law_told":È),F.aV),(("_law_read":È),F.aW),(("_law_weight":È),F.ak),(("_law_light":È),F.aY),(("law":È),F.cN)]
def Dw(F:Fs):List (È×MX):=[(("thing_of":È),F.aP),(("read":È),F.cH)]
def cons:List (È×W):=[("SHELVES",fF),("MOST_WORTH",cm),("MOST_FIGURES_names",vk),("MOST_DEEDS",xB),("MOST_FIGURES_texts",qv)]
def tabs:List (È×List (È×W)):=[("FORMS",t_FORMS)]
def bins:List È:=["ValueError","all","bool","dict","int","isinstance","len","list","range","reversed","str","sum","tuple","zip"]
def rc(F:Fs):RC:=⟨⟨.function,[],Â,Â,[]⟩,[],Â,fns F,cons,tabs,bins,[],[],[],Dw F,["NoText"],À ("WorkError","NoText","NoDeed","Clash"),Â⟩
def du:Def:=⟨"has_form",top 2,["thing"],["thing"],[],[],[],Â⟩
def cU:Def:=⟨"parts_of",top 3,["deed"],["deed"],[],[],[],Â⟩
def cZ:Def:=⟨"is_whole",top 8,["thing"],["thing"],[],[],[],Â⟩
def dq:Def:=⟨"is_worth",top 9,["thing"],["thing"],[],[],[],Â⟩
def cO:Def:=⟨"is_figures",top 10,["text"],["text"],[],["text"],[((22,15),["sign"])],Â⟩
def cM:Def:=⟨"is_lettered",top 11,["thing","letters"],["thing","letters"],[],[],[],Â⟩
def dC:Def:=⟨"is_name",top 12,["thing"],["thing"],[],[],[],Â⟩
def cL:Def:=⟨"is_own_shelf",top 13,["thing"],["thing"],[],[],[],Â⟩
def cI:Def:=⟨"is_handed_name",top 14,["thing"],["thing"],[],[],[],Â⟩
def dh:Def:=⟨"is_shelf",top 17,["thing","known"],["thing","known"],[],[],[],Â⟩
def dB:Def:=⟨"is_call",top 18,["rules","deed"],["rules","deed","number","rule"],[],[],[],Â⟩
def cG:Def:=⟨"is_deed_outside",top 19,["rules","thing","known"],["rules","thing","known","word"],[],[],[],Â⟩
def cD:Def:=⟨"parts_with_known",top 20,["deed","known"],["deed","known"],[],[],[((67,11),["part","known"])],Â⟩
def cJ:Def:=⟨"is_deed_where",top 21,["rules","thing","known"],["rules","thing","known","count","waiting","place"],["waiting"],[],[],Â⟩
def dw:Def:=⟨"is_deed",top 22,["rules","thing"],["rules","thing"],[],[],[],Â⟩
def cF:Def:=⟨"words_and_parts",top 30,["deed"],["deed","tuples"],[],[],[],Â⟩
def dD:Def:=⟨"written",top 31,["deed"],["deed","words","waiting","thing"],["waiting","words"],[],[],Â⟩
def dG:Def:=⟨"meant",top 32,["word"],["word"],[],[],[],Â⟩
def cX:Def:=⟨"thing_of",top 33,["words"],["words","rows","word","row"],["rows"],[],[],Ã⟩
def dH:Def:=⟨"read",top 34,["rules","text"],["rules","text","thing"],[],[],[],Ã⟩
def cY:Def:=⟨"_law_cell",top 36,["_law_script","_law_k"],["_law_script","_law_k"],[],[],[],Â⟩
def cQ:Def:=⟨"_law_drawn",top 37,["_law_script","_law_k","_law_many"],["_law_script","_law_k","_law_many","_law_cell_here"],[],[],[],Â⟩
def dg:Def:=⟨"_law_leaf",top 38,["_law_script","_law_at","_law_known"],["_law_script","_law_at","_law_known","_law_names","_law_owns","_law_handed","_law_way","_law_shelves"],[],[],[],Â⟩
def dm:Def:=⟨"_law_deed",top 39,["_law_script","_law_at","_law_deep","_law_known","_law_rules_here"],["_law_script","_law_at","_law_deep","_law_known","_law_rules_here","_law_way","_law_one","_law_shelves","_law_word","_law_inner","_law_other"],[],[],[],Â⟩
def cV:Def:=⟨"_law_call",top 40,["_law_script","_law_at","_law_deep","_law_known","_law_rules_here"],["_law_script","_law_at","_law_deep","_law_known","_law_rules_here","_law_number","_law_size","_law_parts","_law_k"],["_law_parts"],[],[],Â⟩
def cR:Def:=⟨"_law_rules",top 41,["_law_script","_law_at"],["_law_script","_law_at","_law_rules_here","_law_k","_law_names","_law_handed","_law_body"],[],[],[],Â⟩
def cW:Def:=⟨"_law_told",top 44,["_law_rules_here","_law_text"],["_law_rules_here","_law_text","e","_law_flags"],[],[],[],Â⟩
def dj:Def:=⟨"_law_read",top 45,["_law_rules_here","_law_text"],["_law_rules_here","_law_text","_law_stack","_law_word","_law_odd","_law_part"],["_law_stack"],["_law_word"],[((212,23),["_law_sign"])],Â⟩
def cP:Def:=⟨"_law_weight",top 46,["_law_rules_here","_law_deed_here","_law_handed"],["_law_rules_here","_law_deed_here","_law_handed","_law_word","_law_there","_law_parts","_law_inner"],[],[],[((228,17),["_law_part","_law_rules_here","_law_handed"]),((225,26),["_law_one","_law_part","_law_rules_here","_law_handed"]),((226,25),["_law_part","_law_rules_here","_law_handed"])],Â⟩
def cT:Def:=⟨"_law_light",top 47,["_law_script","_law_at","_law_deep","_law_rules_here"],["_law_script","_law_at","_law_deep","_law_rules_here","_law_deed_here"],[],[],[],Â⟩
def dF:Def:=⟨"law",top 48,["_law_script"],["_law_script","_law_rules_here","_law_words","_law_at","_law_to","_law_word","_law_other","_law_some","_law_row","_law_text"],["_law_other"],[],[],Â⟩
def defs:List Def:=[du,cU,cZ,dq,cO,cM,dC,cL,cI,dh,dB,cG,cD,cJ,dw,cF,dD,dG,cX,dH,cY,cQ,dg,dm,cV,cR,cW,dj,cP,cT,dF]
def lvl{P:Í}{w:Ð}{K:NT}{mg:È->Option Ä}{base:Ï}(T:nZ (uU K mg) defs)(c:AllOf (Glob K mg) cons)(t:AllOf (TabOk K w.params mg) tabs)(z:AllNone mg bins){C:Ç}(xc:fW "NoText" C mg base)(ek:ExcK K mg C "WorkError" "NoText" "NoDeed" "Clash"):∀n,BaseOk P w K mg base ⟨λ_=>C,P,w,λ_=>False⟩ n (rc (lv n)):=by
 have xc:∀x∈(["NoText"]:List È),fW x C mg base:=λx hx=>by rw[kJ.mp hx];exact xc
 have ek:∀p:È×È×È×È,À (("WorkError":È),("NoText":È),("NoDeed":È),("Clash":È))=À p->ExcK K mg C p.1 p.2.1 p.2.2.1 p.2.2.2:=λp hp=>by cases hp;exact ek
 obtain⟨T0,T1,T2,T3,T4,T5,T6,T7,T8,T9,Ig,Ih,Ii,Ij,Ik,Il,Im,Io,Ip,Iq,Ir,Iu,Iv,Iw,Iy,Iz,IA,IB,IC,ID,IE,-⟩:=T;intro n;induction n with
 | zero=>exact⟨⟨kz T0,kz T1,kz T2,kz T3,kz T4,kz T5,kz T6,kz T7,kz T8,kz T9,kz Ig,kz Ih,kz Ii,kz Ij,kz Ik,kz Il,kz Im,kz Io,kz Ir,kz Iu,kz Iv,kz Iw,kz Iy,kz Iz,kz IA,kz IB,kz IC,kz ID,kz IE,trivial⟩,c,t,z,⟨rfl,rfl⟩,⟨me Ip,me Iq,trivial⟩,xc,ek⟩
 | succ n ih=>exact⟨⟨kP (b:=aJ _) T0 ih,kP (b:=bD _) T1 ih,kP (b:=bV _) T2 ih,kP (b:=bH _) T3 ih,kP (b:=bL _) T4 ih,kP (b:=aD _) T5 ih,kP (b:=bZ _) T6 ih,kP (b:=bw _) T7 ih,kP (b:=aQ _) T8 ih,kP (b:=bW _) T9 ih,kP (b:=aG _) Ig ih,kP (b:=aj _) Ih ih,kP (b:=aF _) Ii ih,kP (b:=aX _) Ij ih,kP (b:=cj _) Ik ih,kP (b:=az _) Il ih,kP (b:=aZ _) Im ih,kP (b:=bx _) Io ih,kP (b:=bA _) Ir ih,kP (b:=bj _) Iu ih,kP (b:=aU _) Iv ih,kP (b:=aC _) Iw ih,kP (b:=bF _) Iy ih,kP (b:=bh _) Iz ih,kP (b:=bU _) IA ih,kP (b:=bI _) IB ih,kP (b:=aH _) IC ih,kP (b:=bu _) ID ih,kP (b:=cA _) IE ih,trivial⟩,c,t,z,⟨rfl,rfl⟩,⟨sy (b:=bJ _) Ip ih,sy (b:=cC _) Iq ih,trivial⟩,xc,ek⟩
end K81
namespace K81
open PySem L2 ML
theorem XW{α:Type}{β:Type}{c:Prop}[Decidable c]{f g:α->β}{x:α}:(if c then f else g) x=if c then f x else g x:=by split<;>rfl
local macro_rules
 |`(tactic|simp![$l,*])=>`(tactic|simp[step,k8,zl,ki,ka,vn,kg,zS,zD,gz,eT,zd,eC,zk,jp,zi,ke,dJ,VC,tZ,oO,uq,zI,uv,vE,yn,wb,bnd,kM,xh,XW,$l,*])
def Yv(l:List W)(f:W->Bool):gu (l.map λw=>.bl (f w))=À (l.map f):=by
 induction l with
 | nil=>rfl
 | cons x r ih=>erw[zx];unfold gu;rw[ih]
noncomputable def forms:List (È×(Int×Int)):=[("number",(2,2)),("name",(2,2)),("read",(2,2)),("write",(3,2)),("add",(3,1)),("less",(3,1)),("then",(3,1)),("if",(4,1)),("loop",(3,1)),("let",(4,2)),("own",(4,2)),("say",(2,1)),("ask",(1,1)),("do",(2,2)),("call",(4,2))]
noncomputable def fm(x:È):Option (Int×Int):=forms.lookup x
theorem Wp:t_FORMS=forms.map λp=>(p.1,.tup [.int p.2.1,.int p.2.2]):=rfl
theorem KL{α β:Type}(f:α->β)(x:È):∀l:List (È×α),(l.map λp=>(p.1,f p.2)).lookup x=(l.lookup x).map f
 | []=>rfl
 | (k,v)::r=>by
  erw[zx,jM];cases x==k with
  | true=>rfl
  | false=>exact KL f x r
def Q5(x:È):t_FORMS.lookup x=(fm x).map λp=>W.tup [.int p.1,.int p.2]:=by
 rw[Wp];exact KL (λp:Int×Int=>W.tup [.int p.1,.int p.2]) x forms
def kR{l:List W}(d:dt n (.tup l)=Ã):∃m,n=m+1/\l.length<=1000/\∀w∈l,dt m w=Ã:=by
 cases n with
 | zero=>cases d
 | succ m=>
  unfold dt at d;rw[zb] at d;exact⟨m,rfl,j7 d.1,λw hw=>zY.mp d.2 w hw⟩
def xA:zt (.tup (x::r)) (.int 0) h=À (x,h):=by simp[zt,atI,wm]
def xW:zt (.tup (x::y::r)) (.int 1) h=À (y,h):=by
 have:(1:Int)<(r.length:Int)+1+1:=by omega
 simp[zt,atI,wm,this]
def gH:zt (.tup (x::y::z::r)) (.int 2) h=À (z,h):=by
 have:(2:Int)<(r.length:Int)+1+1+1:=by omega
 simp[zt,atI,wm,this]
def mf:zt (.tup (x::y::z::u::r)) (.int 3) h=À (u,h):=by
 have:(3:Int)<(r.length:Int)+1+1+1+1:=by omega
 simp[zt,atI,wm,this]
def Bo{l:List W}{i:Int}(h0:0<=i)(h1:i<l.length)(e:l[i.toNat]?=À w):zt (.tup l) (.int i) h=À (w,h):=by
 have hj:i.toNat<l.length:=by omega
 have:l[i.toNat]=w:=by rw[kO hj] at e;exact zP e
 simp[zt,atI,wm,h0,h1,this]
noncomputable def kr:W->List W
 | .tup (.str x::r)=>if x=="call" then (match r with
   | [_,.tup a,.tup b]=>a++b
   | _=>[]) else (match fm x with
   | some p=>r.drop (p.2.toNat-1)
   | none=>[])
 | _=>[]
def bv{l:List W}{k:Nat}:cutW l (À (k:Int)) Á=l.drop k:=by
 unfold cutW;have e1:HT.sIx l.length 0 (À (k:Int))=min k l.length:=by
  have:¬((k:Int)<0):=by omega
  simp[HT.sIx,this]
 have e2:HT.sIx l.length l.length Á=l.length:=rfl;rw[e1,e2];have:l.drop (min k l.length)=l.drop k:=by
  by_cases h:k<=l.length
  .rw[Nat.min_eq_left h]
  .rw[Nat.min_eq_right ∅,yo,List.drop_of_length_le ∅]
 rw[this];apply xg
 rw[jX];omega
def K6{p:Int×Int}(e:fm x=À p):1<=p.2/\p.2<=4:=by
 have:∀(l:List (È×(Int×Int))),(l.all λq=>decide (1<=q.2.2/\q.2.2<=4))=Ã->l.lookup x=À p->1<=p.2/\p.2<=4:=by
  intro l;induction l with
  | nil=>intro _ e;cases e
  | cons q r ih=>
   obtain⟨k,v⟩:=q;intro h e;rw[jt,zb] at h;rw[jM] at e;split at e
   .cases e;exact j7 h.1
   .exact ih h.2 e
 exact this forms (by decide) e
def ku(ks:List È):(zh ks).length=ks.length:=by simp[zh]
def dk(d:dt (n+1) w=Ã):∀v∈kr w,dt n v=Ã:=by
 intro v hv;unfold kr at hv;split at hv
 .rename_i x r
  obtain⟨m,e,hl,hd⟩:=kR d;cases e;split at hv
  .split at hv
   .rename_i a b
    rename_i z0;cases n with
    | zero=>have:=hd (.tup a) (by simp);cases this
    | succ n=>
    obtain⟨m1,e1,la,da⟩:=kR (hd (.tup a) (by simp));obtain⟨m2,e2,lb,db⟩:=kR (hd (.tup b) (by simp));cases e1;cases e2;rcases zA.mp hv with h | h
    .exact qh (da v h) (jZ _)
    .exact qh (db v h) (jZ _)
   .simp at hv
  .split at hv
   .exact hd v (zq _ (j6 hv))
   .simp at hv
 .simp at hv
def eY(d:dt n w=Ã):(kr w).length<=2000:=by
 unfold kr;split
 .rename_i x r
  obtain⟨m,rfl,hl,hd⟩:=kR d;split
  .split
   .rename_i a b
    obtain⟨m1,e1,la,da⟩:=kR (hd (.tup a) (by simp));obtain⟨m2,e2,lb,db⟩:=kR (hd (.tup b) (by simp));rw[zK];omega
   .simp
  .split
   .rw[jX]
    simp at hl;omega
   .simp
 .simp
def at0{α:Type}(h:List α)(o:α):(h++[o])[h.length]?=À o:=by simp
def Zw{α:Type}(h:List α)(o o':α):(h++[o]).set h.length o'=h++[o']:=by rw[jH _ _ (zF _)];simp
noncomputable def up:Nat->Fs->Fs
 | 0,F=>F
 | n+1,F=>step (up n F)
def zo(e:a ρ h=À (.nx ρ',h')):zl a b ρ h=b ρ' h':=by unfold zl;rw[e]
def yA(e:a ρ h=À (.ret w,h')):zl a b ρ h=À (.ret w,h'):=by unfold zl;rw[e]
def CD:zt (.fls (a::r)) (.int 0) h=À (a,h):=by simp[zt,getL,atI,wm]
def Cw:zt (.fls (a::b::r)) (.int 1) h=À (b,h):=by
 have:(1:Int)<(r.length:Int)+1+1:=by omega
 simp[zt,getL,atI,wm,this]
noncomputable abbrev th(x:È)(r:List W):W:=.tup (.str x::r)
def nK{l:List W}(hk:k<=l.length):cutW l Á (À (k:Int))=l.take k:=by
 unfold cutW;have e1:HT.sIx l.length l.length (À (k:Int))=k:=by
  have:¬((k:Int)<0):=by omega
  simp[HT.sIx,this];omega
 have e2:HT.sIx l.length 0 Á=0:=rfl;rw[e1,e2];simp
def Vm:cutW (x::r) (À 1) Á=r:=by
 have:=bv (l:=x::r) (k:=1);simpa using this
def ints_map(l:List W)(f:W->Int):intsOf (l.map λw=>.int (f w))=À (l.map f):=by
 induction l with
 | nil=>rfl
 | cons x r ih=>erw[zx];unfold intsOf;rw[ih]
def filter_true{α:Type}(l:List α):(l.filter λ_=>Ã)=l:=xM.mpr (by simp)
def nQ{l:List W}(d:dt n (.fls l)=Ã)(hn:n<=60):eqB h (.fls l) (.fls [])=À l.isEmpty:=by
 have e1:=uA (h:=h) d (show n<=deep from hn);have e2:=uA (h:=h) (show dt 1 (.fls [])=Ã from rfl) (show 1<=deep by decide);unfold eqB;erw[K3,e1,e2];congr 1
 cases n with
 | zero=>cases d
 | succ n=>
  cases l<;>simp[toD,ë,ħ]
noncomputable def kx(ns:List Int):W:=.fls (ns.map W.int)
theorem Xl{ns:List Int}(h:ns.length<=63):dt 2 (kx ns)=Ã:=by
 unfold kx dt;rw[zb];refine⟨jq (by simp;omega),zY.mpr λw hw=>?_⟩;obtain⟨i,_,rfl⟩:=kI.mp hw;rfl
noncomputable def uX(ns:List Int)(k:Int):Int:=if ns=[] then 7*k else ns.getD (k%ns.length).toNat 0+6553*(k/ns.length)
def X0{ns:List Int}(hl:ns.length<=63):(step F).bG [kx ns,.int k] h=À (.int (uX ns k),h):=by
 refine vt (n:=1) ?_ rfl;have eq:=nQ (h:=h) (Xl hl) ∅;have sm:(small 7||small k)=Ã:=by rw[show small 7=Ã by decide];rfl
 cases ns with
 | nil=>
  have Hj:eqB h (kx []) (.fls [])=À Ã:=eq;simp![bA,kf,cap,Hj,kC,sm,uX]
 | cons n r=>
  have Hj:eqB h (kx (n::r)) (.fls [])=À Â:=eq;have hp:(0:Int)<(r.length:Int)+1:=by omega
  have hb:(r.length:Int)+1<1073741824:=by simp at hl;omega
  have MP:=vg k (show((r.length:Int)+1)≠0 by omega);have NK:=qN k hp;have lx:kb [kx (n::r)] h=À (.int ((r.length:Int)+1),h):=by simp[kb,kx,getL]
  have A5:zt (kx (n::r)) (.int (k%((r.length:Int)+1))) h=À (.int ((n::r).getD (k%((r.length:Int)+1)).toNat 0),h):=by
   have hj:(k%((r.length:Int)+1)).toNat<(n::r).length:=by simp;omega
   have e1:((n::r).map W.int)[(k%((r.length:Int)+1)).toNat]?=À (.int ((n::r).getD (k%((r.length:Int)+1)).toNat 0)):=by
    rw[jr,kO hj];erw[Option.map_some,List.getD,kO hj,Option.getD_some]
   have e2:atI ((n::r).map W.int) (k%((r.length:Int)+1))=À (.int ((n::r).getD (k%((r.length:Int)+1)).toNat 0)):=by
    unfold atI wm;rw[zW MP,zW (by simp;omega)];exact e1
   erw[zt,kx,getL,e2]
  have MQ:(small 6553||small (k/((r.length:Int)+1)))=Ã:=by rw[show small 6553=Ã by decide];rfl
  simp![bA,kf,cap,Hj,lx,xZ,hp,A5,uR,hb,kC,MQ,addW,kT,uX]
noncomputable def u4(ns:List Int)(k:Int):Int:=(uX ns k%2147483563*69069+104723*(k+1))%2147483563
noncomputable def u9(ns:List Int)(k:Int):Int:=(u4 ns k*u4 ns k+u4 ns k/3)%2147483399
noncomputable def vT(ns:List Int)(k many:Int):Int:=(u9 ns k*u9 ns k+u9 ns k/7)%2147483647/11%many
def gN(h0:0<=i)(h1:i<2147483648):small i=Ã:=by
 unfold small;exact jq ⟨by omega,by omega⟩
def uK{ns:List Int}(hl:ns.length<=63)(hm:0<many):(step (step F)).aa [kx ns,.int k,.int many] h=À (.int (vT ns k many),h):=by
 refine vt (n:=1) ?_ rfl;have e:=λh=>X0 (F:=F) (k:=k) (h:=h) hl
 generalize step F=G at e;have a1:0<=u4 ns k/\u4 ns k<2147483563:=⟨vg _ ∅,qN _ ∅⟩;have a2:0<=u9 ns k/\u9 ns k<2147483399:=⟨vg _ ∅,qN _ ∅⟩;have c0:0<=uX ns k%2147483563/\uX ns k%2147483563<2147483563:=⟨vg _ ∅,qN _ ∅⟩;have s1:(small (uX ns k%2147483563)||small 69069)=Ã:=by rw[gN c0.1 ∅];rfl
 have s2:(small 104723||small (k+1))=Ã:=by rw[show small 104723=Ã by decide];rfl
 have s3:(small (u4 ns k)||small (u4 ns k))=Ã:=by rw[gN a1.1 ∅];rfl
 have s4:(small (u9 ns k)||small (u9 ns k))=Ã:=by rw[gN a2.1 ∅];rfl
 have m1:∀h,kC (.int (uX ns k%2147483563)) (.int 69069) h=À (.int (uX ns k%2147483563*69069),h):=λh=>by erw[kC,s1,jn]
 have m2:∀h,kC (.int 104723) (.int (k+1)) h=À (.int (104723*(k+1)),h):=λh=>by erw[kC,s2,jn]
 have m3:∀h,kC (.int (u4 ns k)) (.int (u4 ns k)) h=À (.int (u4 ns k*u4 ns k),h):=λh=>by erw[kC,s3,jn]
 have m4:∀h,kC (.int (u9 ns k)) (.int (u9 ns k)) h=À (.int (u9 ns k*u9 ns k),h):=λh=>by erw[kC,s4,jn]
 have f1:(uX ns k%2147483563*69069+104723*(k+1))%2147483563=u4 ns k:=rfl;have f2:(u4 ns k*u4 ns k+u4 ns k/3)%2147483399=u9 ns k:=rfl;have f3:(u9 ns k*u9 ns k+u9 ns k/7)%2147483647/11%many=vT ns k many:=rfl;have b1:(zS (zk xZ (zk addW (zk kC (zk xZ (zi G.bG [zd 0,zd 1]) (LW 2147483563)) (LW 69069)) (zk kC (LW 104723) (zk addW (zd 1) (LW 1)))) (LW 2147483563)) (zD 3)) [À (kx ns),À (.int k),À (.int many),Á] h=À (.nx [À (kx ns),À (.int k),À (.int many),À (.int (u4 ns k))],h):=by
  simp![e,xZ,m1,m2,addW,kT,f1]
 have b2:(zS (zk xZ (zk addW (zk kC (zd 3) (zd 3)) (zk uR (zd 3) (LW 3))) (LW 2147483399)) (zD 3)) [À (kx ns),À (.int k),À (.int many),À (.int (u4 ns k))] h=À (.nx [À (kx ns),À (.int k),À (.int many),À (.int (u9 ns k))],h):=by
  simp![xZ,m3,uR,addW,kT,f2]
 have b3:(ka (zk xZ (zk uR (zk xZ (zk addW (zk kC (zd 3) (zd 3)) (zk uR (zd 3) (LW 7))) (LW 2147483647)) (LW 11)) (zd 2))) [À (kx ns),À (.int k),À (.int many),À (.int (u9 ns k))] h=À (.ret (.int (vT ns k many)),h):=by
  simp![xZ,m4,uR,addW,kT,hm,f3]
 have row:bj G [À (kx ns),À (.int k),À (.int many),Á] h=À (.ret (.int (vT ns k many)),h):=by
  unfold bj;rw[zo b1,zo b2,b3]
 erw[k8,zr,zR,jn,zx,jh,Æ,zQ,zM];erw[row]
def ko(hm:0<many):0<=vT ns k many/\vT ns k many<many:=⟨vg _ ∅,qN _ hm⟩
def vocab:List È:=["number","name","read","write","add","less","then","if","loop","let","own","say","ask","do","call","a","b","c","d","p","q","x","y","x1","f","g1"]
def QT:∀x∈vocab,(Õ x&&decide (x.length<=1000))=Ã:=by decide +kernel
noncomputable def pl:Nat->W->Bool
 | 0,_=>Â
 | _+1,.int i=>decide (0<=i)&&decide (i<=1008)
 | _+1,.str x=>vocab.contains x
 | n+1,.tup l=>decide (l.length<=4)&&l.all (pl n)
 | _+1,_=>Â
def wq{l:List W}(d:pl n (.tup l)=Ã):∃m,n=m+1/\l.length<=4/\∀w∈l,pl m w=Ã:=by
 cases n with
 | zero=>cases d
 | succ m=>
  unfold pl at d;rw[zb] at d;exact⟨m,rfl,j7 d.1,λw hw=>zY.mp d.2 w hw⟩
def ua{l:List W}(hl:l.length<=4)(h:∀w∈l,pl n w=Ã):pl (n+1) (.tup l)=Ã:=by
 unfold pl;rw[zb];exact⟨jq hl,zY.mpr h⟩
def be{l:List W}(hl:l.length<=1000)(h:∀w∈l,dt n w=Ã):dt (n+1) (.tup l)=Ã:=by
 unfold dt;rw[zb];exact⟨jq hl,zY.mpr h⟩
def X2{l:List W}(hl:l.length<=1000)(h:∀w∈l,dt n w=Ã):dt (n+1) (.fls l)=Ã:=by
 unfold dt;rw[zb];exact⟨jq hl,zY.mpr h⟩
theorem x3:∀{n:Nat} {w:W},pl n w=Ã->dt n w=Ã
 | 0,_,h=>by cases h
 | n+1,.non,h=>by cases h
 | n+1,.bl _,h=>by cases h
 | n+1,.int _,_=>rfl
 | n+1,.str x,h=>QT x (by unfold pl at h;simpa using h)
 | n+1,.tup l,h=>by
  obtain⟨m,e,hl,hd⟩:=wq h;cases e;exact be ∅ λw hw=>x3 (hd w hw)
 | n+1,.fls _,h=>by cases h
 | n+1,.ref _,h=>by cases h
 | n+1,.fdc _,h=>by cases h
 | n+1,.fn _,h=>by cases h
theorem kU:∀{n m:Nat} {w:W},pl n w=Ã->n<=m->pl m w=Ã
 | 0,_,_,h,_=>by cases h
 | n+1,0,_,_,h=>by omega
 | n+1,m+1,.non,h,_=>by cases h
 | n+1,m+1,.bl _,h,_=>by cases h
 | n+1,m+1,.int _,h,_=>h
 | n+1,m+1,.str _,h,_=>h
 | n+1,m+1,.tup l,h,hn=>by
  obtain⟨m',e,hl,hd⟩:=wq h;cases e;exact ua hl λw hw=>kU (hd w hw) ∅
 | n+1,m+1,.fls _,h,_=>by cases h
 | n+1,m+1,.ref _,h,_=>by cases h
 | n+1,m+1,.fdc _,h,_=>by cases h
 | n+1,m+1,.fn _,h,_=>by cases h
noncomputable def six:List È:=["a","b","c","d","p","q"]
inductive Sh(rl:List W)(k:Nat)(H:List È):W->Prop
 | number (i:Int):Sh rl k H (th "number" [.int i])
 | name (v:È):Sh rl k H (th "name" [.str v])
 | read (v:È) (hv:v∈six):Sh rl k H (th "read" [.str v])
 | doo (v:È) (hv:v∈H):Sh rl k H (th "do" [.str v])
 | ask:Sh rl k H (th "ask" [])
 | write (v:È) (hv:v∈six) (a:List W):Sh rl k H (th "write" [.str v,.tup a])
 | say (a:List W):Sh rl k H (th "say" [.tup a])
 | lett (v:È) (a b:List W):Sh rl k H (th "let" [.str v,.tup a,.tup b])
 | own (v:È) (hv:v="p" \/ v="q") (a b:List W):Sh rl k H (th "own" [.str v,.tup a,.tup b])
 | add (a b:List W):Sh rl k H (th "add" [.tup a,.tup b])
 | less (a b:List W):Sh rl k H (th "less" [.tup a,.tup b])
 | thenn (a b:List W):Sh rl k H (th "then" [.tup a,.tup b])
 | loop (a b:List W):Sh rl k H (th "loop" [.tup a,.tup b])
 | iff (a b c:List W):Sh rl k H (th "if" [.tup a,.tup b,.tup c])
 | call (i:Nat) (a b:List W) (hi:i<k) (ns:List W) (hs:List È) (body:W) (e:rl[i]?=À (.tup [.tup ns,.tup (zh hs),body])) (lb:b.length=hs.length):Sh rl k H (th "call" [.int i,.tup a,.tup b])
inductive Pn:W->Prop
 | mk (x:È) (r:List W) (p:Int×Int) (hc:(x==("call":È))=Â) (hf:fm x=À p) (hp:r.filter (tyB .tuple)=kr (th x r)):Pn (th x r)
def Sh.split{rl:List W}{H:List È}(h:Sh rl k H w):Pn w\/∃(i:Nat) (a b:List W) (ns:List W) (hs:List È) (body:W),w=th "call" [.int i,.tup a,.tup b]/\i<k/\rl[i]?=À (.tup [.tup ns,.tup (zh hs),body]):=by
 have key:∀(x:È) (p:Int×Int),(x==("call":È))=Â->fm x=À p->∀r:List W,r.filter (tyB .tuple)=r.drop (p.2.toNat-1)->Pn (th x r):=by
  intro x p hc hf r hr;refine .mk x r p hc hf ?_;erw[kr,hc,hf,hr];rfl
 cases h with
 | number i=>exact .inl (key _ (2,2) ⋯ ⋯ _ (by simp[tyB]))
 | name v=>exact .inl (key _ (2,2) ⋯ ⋯ _ (by simp[tyB]))
 | read v hv=>exact .inl (key _ (2,2) ⋯ ⋯ _ (by simp[tyB]))
 | doo v hv=>exact .inl (key _ (2,2) ⋯ ⋯ _ (by simp[tyB]))
 | ask=>exact .inl (key _ (1,1) ⋯ ⋯ _ (by simp))
 | write v hv a=>exact .inl (key _ (3,2) ⋯ ⋯ _ (by simp[tyB]))
 | say a=>exact .inl (key _ (2,1) ⋯ ⋯ _ (by simp[tyB]))
 | lett v a b=>exact .inl (key _ (4,2) ⋯ ⋯ _ (by simp[tyB]))
 | own v hv a b=>exact .inl (key _ (4,2) ⋯ ⋯ _ (by simp[tyB]))
 | add a b=>exact .inl (key _ (3,1) ⋯ ⋯ _ (by simp[tyB]))
 | less a b=>exact .inl (key _ (3,1) ⋯ ⋯ _ (by simp[tyB]))
 | thenn a b=>exact .inl (key _ (3,1) ⋯ ⋯ _ (by simp[tyB]))
 | loop a b=>exact .inl (key _ (3,1) ⋯ ⋯ _ (by simp[tyB]))
 | iff a b c=>exact .inl (key _ (4,1) ⋯ ⋯ _ (by simp[tyB]))
 | call i a b hi ns hs body e lb=>exact .inr ⟨i,a,b,ns,hs,body,rfl,hi,e⟩
def uS(i:Int)(a b:List W):kr (th "call" [.int i,.tup a,.tup b])=a++b:=by simp[kr]
noncomputable def okd(rl:List W)(k:Nat)(H:List È):Nat->W->Prop
 | 0,_=>False
 | n+1,w=>Sh rl k H w/\∀p∈kr w,okd rl k H n p
theorem ie{H:List È}:∀{n m:Nat} {w:W},okd rl k H n w->n<=m->okd rl k H m w
 | 0,_,_,h,_=>by cases h
 | n+1,0,_,_,h=>by omega
 | n+1,m+1,w,h,hn=>⟨h.1,λp hp=>ie (h.2 p hp) ∅⟩
noncomputable def eW(l:List (Key×W)):Prop:=∀p∈l,∃v,p.2=.int v
def WQ(h:eW l):eW (hU l k (.int v)):=by
 intro p hp;unfold hU at hp;split at hp
 .obtain⟨q,hq,rfl⟩:=kI.mp hp
  split
  .exact⟨v,rfl⟩
  .exact h q hq
 .rcases zA.mp hp with z | z
  .exact h p z
  .simp at z;subst z;exact⟨v,rfl⟩
theorem l9:∀{more l:List (Key×W)},eW l->eW more->eW (uo l more)
 | [],l,h,_=>h
 | (k,w)::r,l,h,hm=>by
  obtain⟨v,e⟩:=hm (k,w) zu;simp only at e;subst e;have:=l9 (more:=r) (l:=hU l k (.int v)) (WQ h) λp hp=>hm p (zq _ hp)
  exact this
def Wu(h:eW l):∃v,(dM l k).getD (.int 1)=.int v:=by
 unfold dM;cases e:l.find? λkv=>decide (kv.1=k) with
 | none=>exact⟨1,rfl⟩
 | some p=>
  obtain⟨v,hv⟩:=h p (List.mem_of_find?_eq_some e);exact⟨v,by simp[hv]⟩
structure RulesGood(rl:List W):Prop where
 g:∀i,i<rl.length->∃(ns:List W) (hs:List È) (body:W),rl[i]?=À (.tup [.tup ns,.tup (zh hs),body])/\dt 60 body=Ã/\okd rl i hs 3 body/\hs.length<=4
noncomputable def WOk(G:Fs)(rl:List W)(k n:Nat):Prop:=∀(Hd:List È) (w:W) (hd:List (Key×W)),okd rl k Hd n w->dt 60 w=Ã->eW hd->∃v:Int,∀h,G.ak [.tup rl,w,.fdc hd] h=À (.int v,h)
noncomputable def wv(G:Fs)(rl:List W)(hd:List (Key×W))(w:W):Int:=match G.ak [.tup rl,w,.fdc hd] [] with
 | some (.int v,_)=>v
 | _=>0
def WOk.at{G:Fs}(H:WOk G rl k n)(o:okd rl k Hd n w)(d:dt 60 w=Ã)(q:eW hd)(h:MH):G.ak [.tup rl,w,.fdc hd] h=À (.int (wv G rl hd w),h):=by
 obtain⟨v,e⟩:=H _ w hd o d q;unfold wv;rw[e []];exact e h
noncomputable def four:List È:=["number","name","ask","read"]
noncomputable abbrev ρw(rl:List W)(w:W)(hd:List (Key×W))(x:È)(o4 o5 o6:Option W):En:=[À (.tup rl),À w,À (.fdc hd),À (.str x),o4,o5,o6]
theorem iJ(F:Fs):aH F=zl (zS (zk zt (zd 1) (LW 0)) (zD 3)) (zl (w1 F) (zl (w2 F) (zl (w3 F) (zl (w4 F) (zl (w5 F) (w6 F)))))):=rfl
def in4(d:dt n (.str x)=Ã)(hn:n<=60):inB h (.str x) (.tup [.str "number",.str "name",.str "ask",.str "read"])=À (kQ four (.str x)):=xE (l:=four) d hn ⋯
def Br(d:dt n (.str x)=Ã)(hn:n<=60)(q:kQ four (.str x)=Ã):w1 F (ρw rl w hd x Á Á Á) h=À (.ret (.int 1),h):=by
 have c4:(4:Nat)<=cap:=by decide
 have e:=in4 (h:=h) d hn;rw[q] at e;simp![w1,zw,c4,e]
def nj(d:dt n (.str x)=Ã)(hn:n<=60)(q:kQ four (.str x)=Â):w1 F (ρw rl w hd x Á Á Á) h=À (.nx (ρw rl w hd x Á Á Á),h):=by
 have c4:(4:Nat)<=cap:=by decide
 have e:=in4 (h:=h) d hn;rw[q] at e;simp![w1,zw,c4,e]
def tu(q:(x==("do":È))=Â):w2 F (ρw rl w hd x Á Á Á) h=À (.nx (ρw rl w hd x Á Á Á),h):=by
 simp![w2,kN,q]
def VR(q:(x==("call":È))=Â):w3 F (ρw rl w hd x Á Á Á) h=À (.nx (ρw rl w hd x Á Á Á),h):=by
 simp![w3,kN,q]
def Z2(l:List (È×W))(f:W->Int):pairsOf (l.map λp=>.tup [.str p.1,.int (f p.2)])=À (l.map λp=>(.str p.1,.int (f p.2))):=by
 induction l with
 | nil=>rfl
 | cons x r ih=>erw[zx];unfold pairsOf;rw[ih]
theorem JU(l:List (È×W))(f:W->Int):keysOf (l.map λp=>(W.str p.1,W.int (f p.2)))=À (l.map λp=>(.inr p.1,.int (f p.2))):=by
 induction l with
 | nil=>rfl
 | cons x r ih=>erw[zx];unfold keysOf;rw[ih];rfl
def Qk(hs:List È)(b:List W):(zh hs).zip b=(hs.zip b).map λp=>(W.str p.1,p.2):=by
 induction hs generalizing b with
 | nil=>rfl
 | cons x r ih=>
  cases b with
  | nil=>rfl
  | cons y b=>erw[zh,zx,List.zip_cons_cons,zx] at ih ⊢;rw[ih]
theorem lZ:∀{a b:List È},zh a=zh b->a=b
 | [],[],_=>rfl
 | [],y::b,h=>by simp[zh] at h
 | x::a,[],h=>by simp[zh] at h
 | x::a,y::b,h=>by
  erw[zh,zx,qK,W.str.injEq] at h;rw[h.1,lZ (a:=a) (b:=b) h.2]
def fR(e1:m ρ h=À (w,h'))(e2:g w ρ h'=À (ρ',h2)):zS m g ρ h=À (.nx ρ',h2):=by
 unfold zS;rw[e1];erw[e2]
def pA(e:m ρ h=À (w,h')):zi f [m] ρ h=f [w] h':=by
 simp[zi,ke,bnd,e]
def pT{rl:List W}(hr:RulesGood rl)(hk:k<=rl.length)(H:WOk G rl k n)(HB:∀i,i<k->WOk G rl i 3):WOk (step G) rl k (n+1):=by
 intro Hd w hd o d q;suffices hs:∃v:Int,∀h,aH G [À (.tup rl),À w,À (.fdc hd),Á,Á,Á,Á] h=À (.ret (.int v),h) by
  obtain⟨v,e⟩:=hs;refine⟨v,λh=>vt (n:=1) ?_ rfl⟩;erw[k8,zr,zR,jn,zx,jh,Æ,zQ,zM];erw[e h]
 have dp:∀v∈kr w,dt 60 v=Ã:=λv hv=>qh (dk (n:=59) d v hv) ∅
 have lp:=eY d;have start:∀x r,w=th x r->∀h,(zS (zk zt (zd 1) (LW 0)) (zD 3)) [À (.tup rl),À w,À (.fdc hd),Á,Á,Á,Á] h=À (.nx (ρw rl w hd x Á Á Á),h):=by
  intro x r e h;subst e;simp![xA]
 have dx:∀x r,w=th x r->dt 59 (.str x)=Ã:=by
  intro x r e;subst e;obtain⟨m,e,hl,hd⟩:=kR d;cases e;exact hd _ zu
 have leaf:∀x r,w=th x r->kQ four (.str x)=Ã->∃v:Int,∀h,aH G [À (.tup rl),À w,À (.fdc hd),Á,Á,Á,Á] h=À (.ret (.int v),h):=by
  intro x r e hx;refine⟨1,λh=>?_⟩;rw[iJ,zo (start x r e h),yA (Br (dx x r e) ∅ hx)]
 have inner:∀x r,w=th x r->r.filter (tyB .tuple)=kr w->∀h,w4 G (ρw rl w hd x Á Á Á) h=À (.nx (ρw rl w hd x Á Á (À (.fls ((kr w).map λv=>.int (wv G rl hd v))))),h):=by
  intro x r e hq h;have c:=iy (mi:=wn (jS (zd 1) (À (LW 1)) Á)) (ks:=[0,2]) (t:=zI (jp (isW .tuple) (zd 0))) (m:=zi G.ak [zd 1,zd 0,zd 2]) (ρ:=ρw rl w hd x Á Á Á) (h:=h) (l:=r) (tyB .tuple) (λv=>.int (wv G rl hd v))
   (by subst e;simp![wn,jS,xt,aw,srcOf,Vm])
   (λv hv H'=>by
    subst e;obtain⟨m,e,hl,A6⟩:=kR d
    simp![vb (A6 v (zq _ hv))])
   (λv hv hy H'=>by
    have IF:v∈kr w:=by rw[<-hq];exact j8.mpr ⟨hv,hy⟩
    simp![H.at (o.2 v IF) (dp v IF) q H'])
   (λv hv _=>by unfold low;rfl)
   (by
    subst e;obtain⟨m,e,hl,A6⟩:=kR d;have:r.length<=1000:=by simp at hl;omega
    exact zG this (by decide))
  rw[hq] at c;unfold w4 zS;rw[c];simp![]
 have other:∀x r,w=th x r->kQ four (.str x)=Â->(x==("do":È))=Â->(x==("loop":È))=Â->Pn w->∃v:Int,∀h,aH G [À (.tup rl),À w,À (.fdc hd),Á,Á,Á,Á] h=À (.ret (.int v),h):=by
  intro x r e h1 h2 h3 hp;refine⟨1+uI ((kr w).map λv=>wv G rl hd v),λh=>?_⟩;cases hp with
  | mk x' r' p hc hf hq=>
   cases e;have e2:=ints_map (kr (th x r)) λv=>wv G rl hd v
   rw[iJ,zo (start x r rfl h),zo (nj (dx x r rfl) ∅ h1),zo (tu h2),zo (VR hc),zo (inner x r rfl hq h),
    zo (ρ':=ρw rl (th x r) hd x Á Á (À (.fls ((kr (th x r)).map λv=>.int (wv G rl hd v))))) (h':=h) (by simp![w5,kN,h3])]
   simp![w6,fH,xb,getL,e2,addW,kT]
 have MR:=o.1;have Ea:=o.1.split;cases MR with
 | number i=>exact leaf _ _ rfl ⋯
 | name v=>exact leaf _ _ rfl ⋯
 | read v=>exact leaf _ _ rfl ⋯
 | ask=>exact leaf _ _ rfl ⋯
 | doo v=>
  obtain⟨u,hu⟩:=Wu (k:=.inr v) q;refine⟨u,λh=>?_⟩;rw[iJ,zo (start _ _ rfl h),zo (nj (dx _ _ rfl) ∅ ⋯)];refine yA ?_;simp![w2,kN,io,eI,xW,keyOf,hu]
 | write v a=>
  rcases Ea with hp | ⟨_,_,_,_,_,_,e,_,_⟩
  .exact other _ _ rfl ⋯ ⋯ ⋯ hp
  .cases e
 | say a=>
  rcases Ea with hp | ⟨_,_,_,_,_,_,e,_,_⟩
  .exact other _ _ rfl ⋯ ⋯ ⋯ hp
  .cases e
 | lett v a b=>
  rcases Ea with hp | ⟨_,_,_,_,_,_,e,_,_⟩
  .exact other _ _ rfl ⋯ ⋯ ⋯ hp
  .cases e
 | own v a b=>
  rcases Ea with hp | ⟨_,_,_,_,_,_,e,_,_⟩
  .exact other _ _ rfl ⋯ ⋯ ⋯ hp
  .cases e
 | add a b=>
  rcases Ea with hp | ⟨_,_,_,_,_,_,e,_,_⟩
  .exact other _ _ rfl ⋯ ⋯ ⋯ hp
  .cases e
 | less a b=>
  rcases Ea with hp | ⟨_,_,_,_,_,_,e,_,_⟩
  .exact other _ _ rfl ⋯ ⋯ ⋯ hp
  .cases e
 | thenn a b=>
  rcases Ea with hp | ⟨_,_,_,_,_,_,e,_,_⟩
  .exact other _ _ rfl ⋯ ⋯ ⋯ hp
  .cases e
 | iff a b c=>
  rcases Ea with hp | ⟨_,_,_,_,_,_,e,_,_⟩
  .exact other _ _ rfl ⋯ ⋯ ⋯ hp
  .cases e
 | loop a b=>
  have ep:kr (th "loop" [.tup a,.tup b])=[.tup a,.tup b]:=by
   simp[kr,show(("loop":È)=="call")=Â by decide +kernel,show fm "loop" = À (3,1) by decide +kernel]
  refine⟨1+wv G rl hd (.tup a)+3*wv G rl hd (.tup b),λh=>?_⟩;have IG:=inner _ _ rfl (by rw[ep];simp[tyB]) h;rw[ep] at IG;rw[iJ,zo (start _ _ rfl h),zo (nj (dx _ _ rfl) ∅ ⋯),zo (tu ⋯),zo (VR ⋯),zo IG];refine yA ?_;have sm:(small 3||small (wv G rl hd (.tup b)))=Ã:=by rw[show small 3=Ã by decide];rfl
  simp![w5,kN,CD,Cw,addW,kT,kC,sm]
 | call i a b hi ns hs body e=>
  obtain⟨MU,Ar,As,e',db,ob,MV⟩:=hr.g i ∅;have eb:hs=Ar/\body=As:=by
   rw[e] at e';injection e' with e';injection e' with e';erw[qK,W.tup.injEq,xO] at e';refine⟨?_,e'.2.2⟩;have:=e'.2.1;exact lZ this
  obtain⟨rfl,rfl⟩:=eb;obtain⟨m,em,hl,A6⟩:=kR d;cases em;obtain⟨m1,e1,la,da⟩:=kR (A6 (.tup a) (by simp));obtain⟨m2,e2,lb,NL⟩:=kR (A6 (.tup b) (by simp));rw[uS] at dp;have op:=o.2;rw[uS] at op;have ei:∀h,zt (.tup rl) (.int (i:Int)) h=À (.tup [.tup ns,.tup (zh hs),body],h):=λh=>Bo ∅ ∅ (by simpa using e)
  have MW:eW (uo [] ((hs.zip b).map λp=>(ý p.1,W.int (wv G rl hd p.2)))):=by
   refine l9 (λp hp=>by simp at hp) λp hp=>?_
   obtain⟨z,_,rfl⟩:=kI.mp hp;exact⟨_,rfl⟩
  refine⟨1+uI (a.map λv=>wv G rl hd v)+wv G rl (uo [] ((hs.zip b).map λp=>(ý p.1,W.int (wv G rl hd p.2)))) body,λh=>?_⟩;have c2:(2:Nat)<=cap:=by decide
  have MY:(hs.zip b).length<=4:=by rw[List.length_zip];omega
  have cz:=Bu (mi:=gW [zk zt (zk zt (zd 0) (zk zt (zd 1) (LW 1))) (LW 1),zk zt (zd 1) (LW 3)]) (ks:=[0,2]) (t:=ux) (m:=zi zw [zd 0,zi G.ak [zd 2,zd 1,zd 3]]) (ρ:=ρw rl (th "call" [.int i,.tup a,.tup b]) hd "call" Á Á Á) (h:=h) (l:=(hs.zip b).map λp=>(W.str p.1,p.2)) (λ_ _=>Ã) (λx y=>.tup [x,.int (wv G rl hd y)])
   (by simp![gW,xA,xW,mf,ei,QK,gf,Qk])
   (λv hv H'=>rfl)
   (λv hv _ H'=>by
    obtain⟨p,hp,rfl⟩:=kI.mp hv;have hb:p.2∈b:=(vY (show(p.1,p.2)∈hs.zip b from hp)).2;have Es:p.2∈a++b:=zA.mpr (.inr hb)
    simp![H.at (op _ Es) (dp _ Es) q H',zw,c2])
   (λv hv _=>by
    obtain⟨p,hp,rfl⟩:=kI.mp hv
    simp[low,lows])
   (by rw[jb];exact zG MY (by decide))
  rw[filter_true,List.map_map] at cz;have cs:=iy (mi:=wn (zk zt (zd 1) (LW 2))) (ks:=[0,2]) (t:=ux) (m:=zi G.ak [zd 1,zd 0,zd 2]) (ρ:=ρw rl (th "call" [.int i,.tup a,.tup b]) hd "call" (À (.fdc (uo [] ((hs.zip b).map λp=>(ý p.1,W.int (wv G rl hd p.2)))))) Á Á) (h:=h) (l:=a) (λ_=>Ã) (λv=>.int (wv G rl hd v))
   (by simp![wn,gH,srcOf])
   (λv hv H'=>rfl)
   (λv hv _ H'=>by
    have Es:v∈a++b:=zA.mpr (.inl hv)
    simp![H.at (op _ Es) (dp _ Es) q H'])
   (λv hv _=>by unfold low;rfl)
   (zG la (by decide))
  rw[filter_true] at cs;have e3:=ints_map a λv=>wv G rl hd v
  have pm:=Z2 (hs.zip b) λv=>wv G rl hd v
  have km:=JU (hs.zip b) λv=>wv G rl hd v
  have D2:=(HB i hi).at (hd:=uo [] ((hs.zip b).map λp=>(ý p.1,W.int (wv G rl hd p.2)))) ob db MW h;have EG:(hs.zip b).length<=1000:=by omega
  rw[iJ,zo (start _ _ rfl h),zo (nj (dx _ _ rfl) ∅ ⋯),zo (tu ⋯)];refine yA ?_;have s1:(zS (zi fU [yk (gW [zk zt (zk zt (zd 0) (zk zt (zd 1) (LW 1))) (LW 1),zk zt (zd 1) (LW 3)]) 2 [0,2] (gz [zD 0,zD 1]) ux (zi zw [zd 0,zi G.ak [zd 2,zd 1,zd 3]])]) (zD 4)) (ρw rl (th "call" [.int i,.tup a,.tup b]) hd "call" Á Á Á) h=À (.nx (ρw rl (th "call" [.int i,.tup a,.tup b]) hd "call" (À (.fdc (uo [] ((hs.zip b).map λp=>(ý p.1,W.int (wv G rl hd p.2)))))) Á Á),h):=by
   refine fR ((pA cz).trans ?_) rfl;have:(List.map ((λw:W×W=>W.tup [w.fst,W.int (wv G rl hd w.snd)])∘λp:È×W=>(W.str p.fst,p.snd)) (hs.zip b))=(hs.zip b).map λp=>.tup [.str p.1,.int (wv G rl hd p.2)]:=rfl
   rw[this];erw[fU,eI,getL,pm,km];rw[jb,zW EG]
  have s2:(zS (zi fH [yk (wn (zk zt (zd 1) (LW 2))) 1 [0,2] (zD 0) ux (zi G.ak [zd 1,zd 0,zd 2])]) (zD 5)) (ρw rl (th "call" [.int i,.tup a,.tup b]) hd "call" (À (.fdc (uo [] ((hs.zip b).map λp=>(ý p.1,W.int (wv G rl hd p.2)))))) Á Á) h=À (.nx (ρw rl (th "call" [.int i,.tup a,.tup b]) hd "call" (À (.fdc (uo [] ((hs.zip b).map λp=>(ý p.1,W.int (wv G rl hd p.2)))))) (À (.int (uI (a.map λv=>wv G rl hd v)))) Á),h):=by
   refine fR ((pA cs).trans ?_) rfl;erw[fH,xb,getL,e3]
  have t:zI (zk (kM Â) (zd 3) (Mf "call")) (ρw rl (th "call" [.int i,.tup a,.tup b]) hd "call" Á Á Á) h=À (Ã,h):=by simp![kN]
  unfold w3 ki;erw[t,jn];rw[zo s1,zo s2];simp![xA,xW,gH,ei,D2,addW,kT]
theorem eM{rl:List W}(hr:RulesGood rl)(F:Fs):∀(m k n:Nat),3*k+n<=m->n<=3->k<=rl.length->WOk (up m F) rl k n
 | m,k,0,_,_,_=>by intro Hd w hd o;cases o
 | 0,k,n+1,h,_,_=>by omega
 | m+1,k,n+1,h,hn,hk=>pT hr hk (eM hr F m k n ∅ ∅ hk) λi hi=>eM hr F m i 3 ∅ ∅ ∅
theorem XG(F:Fs):aU F=zl (Vp F) (zl (Wb F) (zl (sH F) (zl (oR F) (zl (ph F) (zl (Ks F) (zl (Ji F) (VP F))))))):=rfl
noncomputable def wd(l:List È):Prop:=∀v∈l,pl 1 (.str v)=Ã
noncomputable abbrev kn(N O H:List È):W:=.tup [.tup (zh N),.tup (zh O),.tup (zh H)]
def K8{l:List W}{i:Int}(h0:0<=i)(h1:i<l.length):∃v∈l,atI l i=À v:=by
 have hj:i.toNat<l.length:=by omega
 exact⟨l[i.toNat],vP hj,by unfold atI wm;rw[zW h0,zW h1];simp[hj]⟩
def bS{l:List W}{i:Int}(h0:0<=i)(h1:i<l.length):∃v∈l,∀h,zt (.fls l) (.int i) h=À (v,h):=by
 obtain⟨v,hv,e⟩:=K8 h0 h1;exact⟨v,hv,λh=>by simp[zt,getL,e]⟩
def oE{l:List W}{i:Int}(h0:0<=i)(h1:i<l.length):∃v∈l,∀h,zt (.tup l) (.int i) h=À (v,h):=by
 obtain⟨v,hv,e⟩:=K8 h0 h1;exact⟨v,hv,λh=>by simp[zt,e]⟩
def gg{l:List È}{i:Int}(h0:0<=i)(h1:i<l.length):∃v∈l,∀h,zt (.tup (zh l)) (.int i) h=À (.str v,h):=by
 obtain⟨v,hv,e⟩:=oE (l:=zh l) h0 (by rw[ku];exact h1);unfold zh at hv;obtain⟨x,hx,rfl⟩:=kI.mp hv;exact⟨x,hx,e⟩
def rh{l:List È}(h:wd l)(hl:l.length<=4):pl 2 (.tup (zh l))=Ã:=by
 refine ua (by rw[ku];exact hl) λw hw=>?_
 unfold zh at hw;obtain⟨x,hx,rfl⟩:=kI.mp hw;exact h x hx
def YL{l:List È}(h:wd l)(hl:l.length<=1000):dt 2 (.tup (zh l))=Ã:=by
 refine be (by rw[ku];exact hl) λw hw=>?_
 unfold zh at hw;obtain⟨x,hx,rfl⟩:=kI.mp hw;exact x3 (h x hx)
theorem tm(l:List È):i6 (.tup (zh l))=l.isEmpty:=by cases l<;>rfl
def gK{l:List È}{h:MH}(hw:wd l)(hl:l.length<=1000):eqB h (.tup (zh l)) (.tup [])=À l.isEmpty:=by
 rw[sF (YL hw hl) ∅,tm]
def Kt{x v:W}(hx:pl 1 x=Ã)(hv:pl 1 v=Ã):pl 2 (.tup [x,v])=Ã:=ua (by simp) λw hw=>by
 erw[zp,zm,zU] at hw;rcases hw with rfl | rfl<;>assumption
def xX{x:È}{p:Int×Int}{r:List W}(hc:(x==("call":È))=Â)(hf:fm x=À p)(hr:r.drop (p.2.toNat-1)=[]):kr (th x r)=[]:=by
 simp[kr,hc,hf,hr]
noncomputable def wo(l:List È):Prop:=∀v∈l,v="p" \/ v="q"
def sV{l:List È}(h:wo l):wd l:=λv hv=>by rcases h v hv with rfl | rfl<;>decide +kernel
noncomputable def xw(O:List È):List È:=([("a":È),"b","c","d"]:List È)++(O++(O++O))
def rm(O:List È):[W.str "a",.str "b",.str "c",.str "d"]++(Æ 3 (zh O)).flatten=zh (xw O):=by
 simp[xw,zh,Æ]
def sA{O:List È}(h:wd O):wd (xw O):=by
 intro v hv;unfold xw at hv;rcases zA.mp hv with z | z
 .erw[zp,zm,zU] at z
  rcases z with rfl | rfl | rfl | rfl<;>decide +kernel
 .rcases zA.mp z with z | z
  .exact h v z
  .rcases zA.mp z with z | z<;>exact h v z
def nU{O:List È}(h:wo O):∀v∈xw O,v∈six:=by
 intro v hv;have o:v∈O->v∈six:=λq=>by rcases h v q with rfl | rfl<;>decide +kernel
 unfold xw at hv;rcases zA.mp hv with z | z
 .have:∀x∈([("a":È),"b","c","d"]:List È),x∈six:=by decide +kernel
  exact this v z
 .rcases zA.mp z with z | z
  .exact o z
  .rcases zA.mp z with z | z<;>exact o z
def nP(O:List È):(xw O).length=4+3*O.length:=by simp[xw];omega
def JA{F:Fs}{ns:List Int}{a:Int}{N O H:List È}{rl:List W}{k:Nat}(hl:ns.length<=63)(hN:wd N)(AU:wo O)(hH:wd H)(lN:N.length<=100)(lO:O.length<=100)(lH:H.length<=100) :
  ∃w,(∀h,(step (step (step F))).bT [kx ns,.int a,kn N O H] h=À (w,h))/\pl 2 w=Ã/\okd rl k H 1 w:=by
 have hO:=sV AU;have e:=λ(k many:Int) (h:MH) (hm:0<many)=>uK (F:=F) (k:=k) (many:=many) (h:=h) hl hm
 generalize step (step F)=G at e;suffices hs:∃w,(∀h,aU G [À (kx ns),À (.int a),À (kn N O H),Á,Á,Á,Á,Á] h=À (.ret w,h))/\pl 2 w=Ã/\okd rl k H 1 w by
  obtain⟨w,e,p,o⟩:=hs;refine⟨w,λh=>vt (n:=2) ?_ (x3 p),p,o⟩;erw[k8,zr,zR,jn,zx,jh,Æ,zQ,zM];erw[e h]
 have F8:(1:Nat)<=cap:=by decide
 have Ek:(2:Nat)<=cap:=by decide
 have MZ:(4:Nat)<=cap:=by decide
 have M0:(6:Nat)<=cap:=by decide
 have s0:∀h,Vp G [À (kx ns),À (.int a),À (kn N O H),Á,Á,Á,Á,Á] h=À (.nx [À (kx ns),À (.int a),À (kn N O H),À (.tup (zh N)),À (.tup (zh O)),À (.tup (zh H)),Á,Á],h):=λh=>by
  simp![Vp]
 have s1:∀h,Wb G [À (kx ns),À (.int a),À (kn N O H),À (.tup (zh N)),À (.tup (zh O)),À (.tup (zh H)),Á,Á] h=À (.nx [À (kx ns),À (.int a),À (kn N O H),À (.tup (zh N)),À (.tup (zh O)),À (.tup (zh H)),À (.int (vT ns a 8)),Á],h):=λh=>by
  simp![Wb,e a 8 _ ∅]
 generalize vT ns a 8=d at s1;have row:∀h,aU G [À (kx ns),À (.int a),À (kn N O H),Á,Á,Á,Á,Á] h=zl (sH G) (zl (oR G) (zl (ph G) (zl (Ks G) (zl (Ji G) (VP G))))) [À (kx ns),À (.int a),À (kn N O H),À (.tup (zh N)),À (.tup (zh O)),À (.tup (zh H)),À (.int d),Á] h:=λh=>by
  rw[XG,zo (s0 h),zo (s1 h)]
 by_cases k2:d<2
 .obtain⟨v,hv,ev⟩:=bS (l:=[.int 0,.int 1,.int 2,.int 3,.int 7,.int 1008]) (ko (ns:=ns) (k:=a+1) (many:=6) ∅).1 (by simpa using (ko (ns:=ns) (k:=a+1) (many:=6) ∅).2)
  refine⟨th "number" [v],λh=>?_,?_,?_⟩
  .rw[row]
   refine yA ?_;simp![sH,kL,k2,kf,M0,addW,kT,e (a+1) 6 _ ∅,ev,zw,Ek]
  .refine Kt ⋯ ?_
   erw[zp,zm,zU] at hv;rcases hv with rfl | rfl | rfl | rfl | rfl | rfl<;>rfl
  .have:∃i,v=.int i:=by
    erw[zp,zm,zU] at hv;rcases hv with rfl | rfl | rfl | rfl | rfl | rfl<;>exact⟨_,rfl⟩
   obtain⟨i,rfl⟩:=this;refine⟨.number i,λp hp=>?_⟩;rw[xX (p:=(2,2)) ⋯ ⋯ rfl] at hp;simp at hp
 have p2:∀h,sH G [À (kx ns),À (.int a),À (kn N O H),À (.tup (zh N)),À (.tup (zh O)),À (.tup (zh H)),À (.int d),Á] h=À (.nx [À (kx ns),À (.int a),À (kn N O H),À (.tup (zh N)),À (.tup (zh O)),À (.tup (zh H)),À (.int d),Á],h):=λh=>by
  simp![sH,kL,k2]
 have eN:=λh=>gK (h:=h) hN ∅
 have eH:=λh=>gK (h:=h) hH ∅
 have FL:∀(v:È),v∈six->okd rl k H 1 (th "read" [.str v]):=λv M3=>⟨.read v M3,λp hp=>by
  rw[xX (p:=(2,2)) ⋯ ⋯ rfl] at hp
  simp at hp⟩
 by_cases k3:(d==2)=Ã/\N.isEmpty=Â
 .have hp:(0:Int)<(N.length:Int):=by
   cases N with
   | nil=>simp at k3
   | cons _ _=>erw[zr];omega
  obtain⟨v,hv,ev⟩:=gg (l:=N) (ko (ns:=ns) (k:=a+1) (many:=N.length) hp).1 (ko (ns:=ns) (k:=a+1) (many:=N.length) hp).2;refine⟨th "name" [.str v],λh=>?_,?_,?_⟩
  .rw[row,zo (p2 h)]
   refine yA ?_;simp![oR,kD,k3.1,k3.2,eN,zw,kb,ku,addW,kT,e (a+1) N.length _ hp,ev,Ek]
  .exact Kt ⋯ (hN v hv)
  .refine⟨.name v,λp hp=>?_⟩
   rw[xX (p:=(2,2)) ⋯ ⋯ rfl] at hp;simp at hp
 have p3:∀h,oR G [À (kx ns),À (.int a),À (kn N O H),À (.tup (zh N)),À (.tup (zh O)),À (.tup (zh H)),À (.int d),Á] h=À (.nx [À (kx ns),À (.int a),À (kn N O H),À (.tup (zh N)),À (.tup (zh O)),À (.tup (zh H)),À (.int d),Á],h):=λh=>by
  cases q1:(d==2) with
  | false=>simp![oR,kD,q1]
  | true=>
   have q2:N.isEmpty=Ã:=by
    cases q:N.isEmpty with
    | true=>rfl
    | false=>exact absurd ⟨q1,q⟩ k3
   simp![oR,kD,q1,eN,zw,q2]
 by_cases k4:(d==3)=Ã/\H.isEmpty=Â
 .have hp:(0:Int)<(H.length:Int):=by
   cases H with
   | nil=>simp at k4
   | cons _ _=>erw[zr];omega
  obtain⟨v,hv,ev⟩:=gg (l:=H) (ko (ns:=ns) (k:=a+1) (many:=H.length) hp).1 (ko (ns:=ns) (k:=a+1) (many:=H.length) hp).2;refine⟨th "do" [.str v],λh=>?_,?_,?_⟩
  .rw[row,zo (p2 h),zo (p3 h)]
   refine yA ?_;simp![ph,kD,k4.1,k4.2,eH,zw,kb,ku,addW,kT,e (a+1) H.length _ hp,ev,Ek]
  .exact Kt ⋯ (hH v hv)
  .refine⟨.doo v hv,λp hp=>?_⟩
   rw[xX (p:=(2,2)) ⋯ ⋯ rfl] at hp;simp at hp
 have p4:∀h,ph G [À (kx ns),À (.int a),À (kn N O H),À (.tup (zh N)),À (.tup (zh O)),À (.tup (zh H)),À (.int d),Á] h=À (.nx [À (kx ns),À (.int a),À (kn N O H),À (.tup (zh N)),À (.tup (zh O)),À (.tup (zh H)),À (.int d),Á],h):=λh=>by
  cases q1:(d==3) with
  | false=>simp![ph,kD,q1]
  | true=>
   have q2:H.isEmpty=Ã:=by
    cases q:H.isEmpty with
    | true=>rfl
    | false=>exact absurd ⟨q1,q⟩ k4
   simp![ph,kD,q1,eH,zw,q2]
 cases k5:(d==4) with
 | true=>
  refine⟨th "ask" [],λh=>?_,by decide +kernel,?_⟩
  .rw[row,zo (p2 h),zo (p3 h),zo (p4 h)]
   refine yA ?_;simp![Ks,kD,k5,zw,F8]
  .refine⟨.ask,λp hp=>?_⟩
   rw[xX (p:=(1,1)) ⋯ ⋯ rfl] at hp;simp at hp
 | false=>
  have hp:(0:Int)<((xw O).length:Int):=by rw[nP];omega
  obtain⟨v,hv,ev⟩:=gg (l:=xw O) (ko (ns:=ns) (k:=a+1) (many:=(xw O).length) hp).1 (ko (ns:=ns) (k:=a+1) (many:=(xw O).length) hp).2;have c7:4+(Æ 3 (zh O)).flatten.length<=cap:=by
   have:(Æ 3 (zh O)).flatten.length=3*O.length:=by simp[Æ,zh];omega
   rw[this];exact zG (show 4+3*O.length<=400 by omega) (by decide)
  have Hk:(zh O).length<=1000:=by rw[ku];omega
  refine⟨th "read" [.str v],λh=>?_,Kt ⋯ (sA hO v hv),FL v (nU AU v hv)⟩;have p6:Ji G [À (kx ns),À (.int a),À (kn N O H),À (.tup (zh N)),À (.tup (zh O)),À (.tup (zh H)),À (.int d),Á] h=À (.nx [À (kx ns),À (.int a),À (kn N O H),À (.tup (zh N)),À (.tup (zh O)),À (.tup (zh H)),À (.int d),À (.tup (zh (xw O)))],h):=by
   rw[<-rm];have m:∀h,kC (.tup (zh O)) (.int 3) h=À (.tup (Æ 3 (zh O)).flatten,h):=λh=>by
    erw[kC];rw[zW ⟨by omega,by omega,Hk⟩];rfl
   have ad:∀h,addW (.tup [.str "a",.str "b",.str "c",.str "d"]) (.tup (Æ 3 (zh O)).flatten) h=À (.tup ([.str "a",.str "b",.str "c",.str "d"]++(Æ 3 (zh O)).flatten),h):=λh=>by
    erw[addW,kT,zr,zR];rw[zW c7]
   generalize (Æ 3 (zh O)).flatten=Z at m ad;simp![Ji,zw,MZ,m,ad]
  rw[row,zo (p2 h),zo (p3 h),zo (p4 h),zo (ρ':=[À (kx ns),À (.int a),À (kn N O H),À (.tup (zh N)),À (.tup (zh O)),À (.tup (zh H)),À (.int d),Á]) (h':=h) (by simp![Ks,kD,k5]),zo p6];simp![VP,kb,ku,addW,kT,e (a+1) (xw O).length _ hp,ev,zw,Ek]
theorem X8(F:Fs):aC F=zl (Kp F) (zl (nO F) (zl (mJ F) (zl (rL F) (zl (nN F) (zl (sC F) (zl (rC F) (zl (rR F) (zl (oJ F) (zl (pJ F) (gP F)))))))))):=rfl
noncomputable def bt(G:Fs)(ns:List Int)(rl:List W)(d:Nat):Prop:=∀(a:Int) (N O H:List È),wd N->wo O->wd H->N.length+d<=20->O.length+d<=20->H.length<=20->
 ∃w,(∀h,G.aq [kx ns,.int a,.int (d:Int),kn N O H,.tup rl] h=À (w,h))/\pl (2+2*d) w=Ã/\okd rl rl.length H (d+1) w
noncomputable def K7(G:Fs)(ns:List Int)(rl:List W)(d:Nat):Prop:=∀(a:Int) (N O H:List È),wd N->wo O->wd H->N.length+d<=20->O.length+d<=20->H.length<=20->
 ∃w,(∀h,G.bR [kx ns,.int a,.int ((d:Int)+1),kn N O H,.tup rl] h=À (w,h))/\pl (2+2*(d+1)) w=Ã/\okd rl rl.length H (d+2) w
theorem Sh.tup{rl:List W}{k:Nat}{H:List È}{w:W}(h:Sh rl k H w):∃l,w=.tup l:=by cases h<;>exact⟨_,rfl⟩
theorem okd.tup{rl:List W}{k n:Nat}{H:List È}{w:W}(h:okd rl k H n w):∃l,w=.tup l:=by
 cases n with
 | zero=>cases h
 | succ n=>exact h.1.tup
def ef{H:List È}{p:Int×Int}{r:List W}(sh:Sh rl k H (th x r))(hc:(x==("call":È))=Â)(hf:fm x=À p)(hr:∀q∈r.drop (p.2.toNat-1),okd rl k H n q):okd rl k H (n+1) (th x r):=by
 refine⟨sh,λq hq=>hr q ?_⟩;have e:kr (th x r)=r.drop (p.2.toNat-1):=by simp[kr,hc,hf]
 rw[<-e];exact hq
def Yh(h:wd l)(hv:pl 1 (.str v)=Ã):wd (l++[v]):=by
 intro u hu;rcases zA.mp hu with z | z
 .exact h u z
 .simp at z;subst z;exact hv
def Yn{l:List È}{v:È}(h:wo l)(hv:v="p" \/ v="q"):wo (l++[v]):=λu hu=>by
 rcases zA.mp hu with z | z
 .exact h u z
 .rw[kJ.mp z];exact hv
def iF(l:List È)(v:È):zh l++[.str v]=zh (l++[v]):=by simp[zh]
def bg(e:t ρ h=À (Ã,h))(eA:A ρ h=À (.ret w,h')):zl (ki t A kg) b ρ h=À (.ret w,h'):=by
 refine yA ?_;unfold ki;rw[e];erw[jn];exact eA
theorem JG(e:t ρ h=À (Â,h)):zl (ki t A kg) b ρ h=b ρ h:=by
 refine zo ?_;unfold ki;rw[e];rfl
def Uk(e:t ρ h=À (Ã,h))(eA:A ρ h=À (f,h')):ki t A kg ρ h=À (f,h'):=by
 unfold ki;rw[e];erw[jn];exact eA
theorem mU(e:t ρ h=À (Â,h)):ki t A kg ρ h=À (.nx ρ,h):=by
 unfold ki;rw[e];rfl
noncomputable abbrev ρD(ns:List Int)(a:Int)(d:Int)(K:W)(rl:List W)(o5 o6 o7 o8 o9 M4:Option W):En:=[À (kx ns),À (.int a),À (.int d),À K,À (.tup rl),o5,o6,o7,o8,o9,M4]
def Xp{j:Nat}{ρ:En}(e:ρ[i]?=À (À (.int d))):zI (zk ac (zd i) (eC (.int m))) ρ h=À (decide (d<m),h):=by simp![e,kL]
def fy{ρ:En}(e:ρ[i]?=À (À (.int d))):zI (zk (kM Â) (zd i) (eC (.int m))) ρ h=À (d==m,h):=by simp![e,kD]
def m3:kC (.int a) (.int 3) h=À (.int (a*3),h):=by
 have:(small a||small 3)=Ã:=by rw[show small 3=Ã by decide];simp
 erw[kC,this,jn]
def ZN{F:Fs}{ns:List Int}{rl:List W}{d:Nat}(hl:ns.length<=63)(GE:dt 20 (.tup rl)=Ã)(hd:d+1<=5)(HD:bt (step (step (step F))) ns rl d)(HC:rl≠[]->K7 (step (step (step F))) ns rl d):bt (step (step (step (step F)))) ns rl (d+1):=by
 intro a N O H hN AU hH lN lO lH;have hO:=sV AU;have e:=λ(k many:Int) (h:MH) (hm:0<many)=>uK (F:=step F) (k:=k) (many:=many) (h:=h) hl hm
 have eL:=λ(a:Int)=>JA (F:=F) (ns:=ns) (a:=a) (N:=N) (O:=O) (H:=H) (rl:=rl) (k:=rl.length) hl hN AU hH ∅ ∅ ∅
 generalize step (step (step F))=G at e HD HC eL;have ed:((d+1:Nat):Int)=(d:Int)+1:=by omega
 rw[ed];suffices hs:∃w,(∀h,aC G (ρD ns a ((d:Int)+1) (kn N O H) rl Á Á Á Á Á Á) h=À (.ret w,h))/\pl (2+2*(d+1)) w=Ã/\okd rl rl.length H (d+1+1) w by
  obtain⟨w,e,p,o⟩:=hs;refine⟨w,λh=>vt (n:=2+2*(d+1)) ?_ (x3 p),p,o⟩;erw[k8,zr,zR,jn,zx,jh,Æ,zQ,zM];have:=e h;erw[ρD] at this;erw[this]
 have c1:(1:Nat)<=cap:=by decide
 have c2:(2:Nat)<=cap:=by decide
 have c3:(3:Nat)<=cap:=by decide
 have c4:(4:Nat)<=cap:=by decide
 have c5:(5:Nat)<=cap:=by decide
 have s0:∀h,Kp G (ρD ns a ((d:Int)+1) (kn N O H) rl Á Á Á Á Á Á) h=À (.nx (ρD ns a ((d:Int)+1) (kn N O H) rl (À (.int (vT ns a 15))) Á Á Á Á Á),h):=λh=>by
  simp![Kp,e a 15 _ ∅]
 have rg:=ko (ns:=ns) (k:=a) (many:=15) ∅;generalize vT ns a 15=y at s0 rg;have row:∀h,aC G (ρD ns a ((d:Int)+1) (kn N O H) rl Á Á Á Á Á Á) h=zl (nO G) (zl (mJ G) (zl (rL G) (zl (nN G) (zl (sC G) (zl (rC G) (zl (rR G) (zl (oJ G) (zl (pJ G) (gP G))))))))) (ρD ns a ((d:Int)+1) (kn N O H) rl (À (.int y)) Á Á Á Á Á) h:=λh=>by
  rw[X8,zo (s0 h)]
 have dz:(((d:Int)+1)==0)=Â:=by rw[jB];omega
 by_cases k1:y<2
 .obtain⟨w,ew,p,o⟩:=eL (a+1)
  refine⟨w,λh=>?_,kU p ∅,ie o ∅⟩;rw[row];refine yA ?_;simp![nO,kD,dz,kL,k1,addW,kT,ew]
 have p1:∀h,nO G (ρD ns a ((d:Int)+1) (kn N O H) rl (À (.int y)) Á Á Á Á Á) h=À (.nx (ρD ns a ((d:Int)+1) (kn N O H) rl (À (.int y)) Á Á Á Á Á),h):=λh=>by
  simp![nO,kD,dz,kL,k1]
 have eR:=λh=>sF (h:=h) GE ∅
 have iR:i6 (.tup rl)=rl.isEmpty:=by cases rl<;>rfl
 by_cases k2:y<4/\rl≠[]
 .obtain⟨w,ew,p,o⟩:=HC k2.2 a N O H hN AU hH ∅ ∅ lH
  refine⟨w,λh=>?_,p,o⟩;have q:rl.isEmpty=Â:=by
   cases rl with
   | nil=>exact absurd rfl k2.2
   | cons _ _=>rfl
  rw[row,zo (p1 h)];refine yA ?_;simp![mJ,kL,k2.1,eR,iR,q,zw,ew]
 have p2:∀h,mJ G (ρD ns a ((d:Int)+1) (kn N O H) rl (À (.int y)) Á Á Á Á Á) h=À (.nx (ρD ns a ((d:Int)+1) (kn N O H) rl (À (.int y)) Á Á Á Á Á),h):=λh=>by
  by_cases q1:y<4
  .have q:rl.isEmpty=Ã:=by
    cases rl with
    | nil=>rfl
    | cons _ _=>exact absurd ⟨q1,by simp⟩ k2
   simp![mJ,kL,q1,eR,iR,q,zw]
  .simp![mJ,kL,q1]
 obtain⟨w1,e1,EV,o1⟩:=HD (a*3+7) N O H hN AU hH ∅ ∅ lH;have p3:∀h,rL G (ρD ns a ((d:Int)+1) (kn N O H) rl (À (.int y)) Á Á Á Á Á) h=À (.nx (ρD ns a ((d:Int)+1) (kn N O H) rl (À (.int y)) (À w1) Á Á Á Á),h):=λh=>by
  simp![rL,m3,addW,kT,xD,e1]
 have DI:∀h,aC G (ρD ns a ((d:Int)+1) (kn N O H) rl Á Á Á Á Á Á) h=zl (nN G) (zl (sC G) (zl (rC G) (zl (rR G) (zl (oJ G) (zl (pJ G) (gP G)))))) (ρD ns a ((d:Int)+1) (kn N O H) rl (À (.int y)) (À w1) Á Á Á Á) h:=λh=>by
  rw[row,zo (p1 h),zo (p2 h),zo (p3 h)]
 obtain⟨l1,rfl⟩:=o1.tup;have pS:∀{n:Nat} {v:È},pl 1 (.str v)=Ã->pl (n+1) (.str v)=Ã:=λh=>h
 by_cases k4:y<6
 .have hp:(0:Int)<((xw O).length:Int):=by rw[nP];omega
  obtain⟨v,hv,ev⟩:=gg (l:=xw O) (ko (ns:=ns) (k:=a+3) (many:=(xw O).length) hp).1 (ko (ns:=ns) (k:=a+3) (many:=(xw O).length) hp).2;have c7:4+(Æ 3 (zh O)).flatten.length<=cap:=by
   have:(Æ 3 (zh O)).flatten.length=3*O.length:=by simp[Æ,zh];omega
   rw[this];exact zG (show 4+3*O.length<=400 by omega) (by decide)
  have Hk:(zh O).length<=1000:=by rw[ku];omega
  refine⟨th "write" [.str v,.tup l1],λh=>?_,?_,?_⟩
  .rw[DI]
   refine yA ?_;have m:∀h,kC (.tup (zh O)) (.int 3) h=À (.tup (Æ 3 (zh O)).flatten,h):=λh=>by
    erw[kC];rw[zW ⟨by omega,by omega,Hk⟩];rfl
   have ad:∀h,addW (.tup [.str "a",.str "b",.str "c",.str "d"]) (.tup (Æ 3 (zh O)).flatten) h=À (.tup ([.str "a",.str "b",.str "c",.str "d"]++(Æ 3 (zh O)).flatten),h):=λh=>by
    erw[addW,kT,zr,zR];rw[zW c7]
   rw[rm] at ad;generalize (Æ 3 (zh O)).flatten=Z at m ad;have a3:∀h,addW (.int a) (.int 3) h=À (.int (a+3),h):=λh=>by simp[addW,kT]
   unfold nN;refine Uk ((Xp (j:=0) rfl).trans (by simp[k4])) ?_;rw[zo (ρ':=ρD ns a ((d:Int)+1) (kn N O H) rl (À (.int y)) (À (.tup l1)) (À (.tup (zh (xw O)))) Á Á Á) (h':=h) (by simp![zw,c4,xW,m,ad])];simp![kb,ku,a3,e (a+3) (xw O).length _ hp,ev,zw,c3]
  .rw[show 2+2*(d+1)=(2*d+3)+1 by omega]
   refine ua (by simp) λw hw=>?_
   erw[zp,zm,zU] at hw;rcases hw with rfl | rfl | rfl
   .exact pS ⋯
   .exact pS (sA hO v hv)
   .exact kU EV ∅
  .refine ef (p:=(3,2)) (.write v (nU AU v hv) l1) ⋯ ⋯ λq hq=>?_
   simp at hq;subst hq;exact o1
 have p4:∀h,nN G (ρD ns a ((d:Int)+1) (kn N O H) rl (À (.int y)) (À (.tup l1)) Á Á Á Á) h=À (.nx (ρD ns a ((d:Int)+1) (kn N O H) rl (À (.int y)) (À (.tup l1)) Á Á Á Á),h):=λh=>
  mU ((Xp (j:=0) rfl).trans (by simp[k4]))
 cases k5:(y==6) with
 | true=>
  refine⟨th "say" [.tup l1],λh=>?_,?_,?_⟩
  .rw[DI,zo (p4 h)]
   refine bg ((fy rfl).trans (by rw[k5])) ?_;simp![zw,c2]
  .rw[show 2+2*(d+1)=(2*d+3)+1 by omega]
   refine ua (by simp) λw hw=>?_
   erw[zp,zm,zU] at hw;rcases hw with rfl | rfl
   .exact pS ⋯
   .exact kU EV ∅
  .refine ef (p:=(2,1)) (.say l1) ⋯ ⋯ λq hq=>?_
   simp at hq;subst hq;exact o1
 | false=>
 have p5:∀h,sC G (ρD ns a ((d:Int)+1) (kn N O H) rl (À (.int y)) (À (.tup l1)) Á Á Á Á) h=À (.nx (ρD ns a ((d:Int)+1) (kn N O H) rl (À (.int y)) (À (.tup l1)) Á Á Á Á),h):=λh=>
  mU ((fy rfl).trans (by rw[k5]))
 have a3:∀h,addW (.int a) (.int 3) h=À (.int (a+3),h):=λh=>by simp[addW,kT]
 cases k6:(y==7) with
 | true=>
  obtain⟨v',hv,ev⟩:=bS (l:=[.str "x",.str "y",.str "x1"]) (ko (ns:=ns) (k:=a+3) (many:=3) ∅).1 (by simpa using (ko (ns:=ns) (k:=a+3) (many:=3) ∅).2);have:∃v:È,v'=.str v/\pl 1 (.str v)=Ã:=by
   erw[zp,zm,zU] at hv;rcases hv with rfl | rfl | rfl<;>exact⟨_,rfl,by decide +kernel⟩
  obtain⟨v,rfl,pv⟩:=this;obtain⟨w2,e2,A3,o2⟩:=HD (a*3+23) (N++[v]) O H (Yh hN pv) AU hH (by simp;omega) ∅ lH;obtain⟨l2,rfl⟩:=o2.tup;have a4:∀h,addW (.tup (zh N)) (.tup [.str v]) h=À (.tup (zh (N++[v])),h):=λh=>by
   rw[<-iF];erw[addW,kT,zr,zR,ku];rw[zW (zG (show N.length+(0+1)<=100 by omega) (by decide))]
  have a5:∀h,aw (kn N O H) (À 1) Á h=À (.tup [.tup (zh O),.tup (zh H)],h):=λh=>by simp[aw,Vm]
  have a6:∀h,addW (.tup [.tup (zh (N++[v]))]) (.tup [.tup (zh O),.tup (zh H)]) h=À (kn (N++[v]) O H,h):=λh=>by
   erw[addW,kT,zr,zR];rw[zW (by decide)];rfl
  have a7:∀h,addW (.int (a*3)) (.int 23) h=À (.int (a*3+23),h):=λh=>by simp[addW,kT]
  refine⟨th "let" [.str v,.tup l1,.tup l2],λh=>?_,?_,?_⟩
  .rw[DI,zo (p4 h),zo (p5 h)]
   refine bg ((fy rfl).trans (by rw[k6])) ?_;rw[zo (ρ':=ρD ns a ((d:Int)+1) (kn N O H) rl (À (.int y)) (À (.tup l1)) Á (À (.str v)) Á Á) (h':=h) (by simp![kf,c3,a3,e (a+3) 3 _ ∅,ev])];simp![m3,a7,xD,xA,zw,c1,c4,a4,jS,xt,a5,a6,e2]
  .rw[show 2+2*(d+1)=(2*d+3)+1 by omega]
   refine ua (by simp) λw hw=>?_
   erw[zp,zm,zU] at hw;rcases hw with rfl | rfl | rfl | rfl
   .exact pS ⋯
   .exact pS pv
   .exact kU EV ∅
   .exact kU A3 ∅
  .refine ef (p:=(4,2)) (.lett v l1 l2) ⋯ ⋯ λq hq=>?_
   simp at hq;rcases hq with rfl | rfl
   .exact o1
   .exact o2
 | false=>
 have p6:∀h,rC G (ρD ns a ((d:Int)+1) (kn N O H) rl (À (.int y)) (À (.tup l1)) Á Á Á Á) h=À (.nx (ρD ns a ((d:Int)+1) (kn N O H) rl (À (.int y)) (À (.tup l1)) Á Á Á Á),h):=λh=>
  mU ((fy rfl).trans (by rw[k6]))
 cases k7:(y==8) with
 | true=>
  obtain⟨v',hv,ev⟩:=bS (l:=[.str "p",.str "q"]) (ko (ns:=ns) (k:=a+3) (many:=2) ∅).1 (by simpa using (ko (ns:=ns) (k:=a+3) (many:=2) ∅).2);have:∃v:È,v'=.str v/\pl 1 (.str v)=Ã/\(v="p" \/ v="q"):=by
   erw[zp,zm,zU] at hv;rcases hv with rfl | rfl
   .exact⟨_,rfl,by decide +kernel,.inl rfl⟩
   .exact⟨_,rfl,by decide +kernel,.inr rfl⟩
  obtain⟨v,rfl,pv,IH⟩:=this;obtain⟨w2,e2,A3,o2⟩:=HD (a*3+23) N (O++[v]) H hN (Yn AU IH) hH ∅ (by simp;omega) lH;obtain⟨l2,rfl⟩:=o2.tup;have a4:∀h,addW (.tup (zh O)) (.tup [.str v]) h=À (.tup (zh (O++[v])),h):=λh=>by
   rw[<-iF];erw[addW,kT,zr,zR,ku];rw[zW (zG (show O.length+(0+1)<=100 by omega) (by decide))]
  have a7:∀h,addW (.int (a*3)) (.int 23) h=À (.int (a*3+23),h):=λh=>by simp[addW,kT]
  refine⟨th "own" [.str v,.tup l1,.tup l2],λh=>?_,?_,?_⟩
  .rw[DI,zo (p4 h),zo (p5 h),zo (p6 h)]
   refine bg ((fy rfl).trans (by rw[k7])) ?_;rw[zo (ρ':=ρD ns a ((d:Int)+1) (kn N O H) rl (À (.int y)) (À (.tup l1)) Á (À (.str v)) Á Á) (h':=h) (by simp![kf,c2,a3,e (a+3) 2 _ ∅,ev])];rw[zo (ρ':=ρD ns a ((d:Int)+1) (kn N O H) rl (À (.int y)) (À (.tup l1)) Á (À (.str v)) (À (kn N (O++[v]) H)) Á) (h':=h) (by simp![zw,c1,c3,xA,xW,gH,a4])];simp![m3,a7,xD,zw,c4,e2]
  .rw[show 2+2*(d+1)=(2*d+3)+1 by omega]
   refine ua (by simp) λw hw=>?_
   erw[zp,zm,zU] at hw;rcases hw with rfl | rfl | rfl | rfl
   .exact pS ⋯
   .exact pS pv
   .exact kU EV ∅
   .exact kU A3 ∅
  .refine ef (p:=(4,2)) (.own v IH l1 l2) ⋯ ⋯ λq hq=>?_
   simp at hq;rcases hq with rfl | rfl
   .exact o1
   .exact o2
 | false=>
 have p7:∀h,rR G (ρD ns a ((d:Int)+1) (kn N O H) rl (À (.int y)) (À (.tup l1)) Á Á Á Á) h=À (.nx (ρD ns a ((d:Int)+1) (kn N O H) rl (À (.int y)) (À (.tup l1)) Á Á Á Á),h):=λh=>
  mU ((fy rfl).trans (by rw[k7]))
 obtain⟨w2,e2,A3,o2⟩:=HD (a*3+41) N O H hN AU hH ∅ ∅ lH;obtain⟨l2,rfl⟩:=o2.tup;have a8:∀h,addW (.int (a*3)) (.int 41) h=À (.int (a*3+41),h):=λh=>by simp[addW,kT]
 have p8:∀h,oJ G (ρD ns a ((d:Int)+1) (kn N O H) rl (À (.int y)) (À (.tup l1)) Á Á Á Á) h=À (.nx (ρD ns a ((d:Int)+1) (kn N O H) rl (À (.int y)) (À (.tup l1)) Á Á Á (À (.tup l2))),h):=λh=>by
  simp![oJ,m3,a8,xD,e2]
 have FM:∀h,aC G (ρD ns a ((d:Int)+1) (kn N O H) rl Á Á Á Á Á Á) h=zl (pJ G) (gP G) (ρD ns a ((d:Int)+1) (kn N O H) rl (À (.int y)) (À (.tup l1)) Á Á Á (À (.tup l2))) h:=λh=>by
  rw[DI,zo (p4 h),zo (p5 h),zo (p6 h),zo (p7 h),zo (p8 h)]
 cases k9:(y==9) with
 | true=>
  obtain⟨w3,e3,M5,o3⟩:=HD (a*3+61) N O H hN AU hH ∅ ∅ lH;obtain⟨l3,rfl⟩:=o3.tup;have a9:∀h,addW (.int (a*3)) (.int 61) h=À (.int (a*3+61),h):=λh=>by simp[addW,kT]
  refine⟨th "if" [.tup l1,.tup l2,.tup l3],λh=>?_,?_,?_⟩
  .rw[FM]
   refine bg ((fy rfl).trans (by rw[k9])) ?_;simp![m3,a9,xD,zw,c4,e3]
  .rw[show 2+2*(d+1)=(2*d+3)+1 by omega]
   refine ua (by simp) λw hw=>?_
   erw[zp,zm,zU] at hw;rcases hw with rfl | rfl | rfl | rfl
   .exact pS ⋯
   .exact kU EV ∅
   .exact kU A3 ∅
   .exact kU M5 ∅
  .refine ef (p:=(4,1)) (.iff l1 l2 l3) ⋯ ⋯ λq hq=>?_
   simp at hq;rcases hq with rfl | rfl | rfl
   .exact o1
   .exact o2
   .exact o3
 | false=>
 have II:0<=y-10/\y-10<5:=by
  rw[jB] at k5 k6 k7 k9;omega
 obtain⟨v',hv,ev⟩:=bS (l:=[.tup [.str "then"],.tup [.str "add"],.tup [.str "less"],.tup [.str "loop"],.tup [.str "then"]]) (i:=y-10) II.1 (by simpa using II.2);have:∃x:È,v'=.tup [.str x]/\pl 1 (.str x)=Ã/\(x==("call":È))=Â/\fm x=À (3,1)/\Sh rl rl.length H (th x [.tup l1,.tup l2]):=by
  erw[zp,zm,zU] at hv;rcases hv with rfl | rfl | rfl | rfl | rfl
  .exact⟨_,rfl,by decide +kernel,by decide +kernel,by decide +kernel,.thenn l1 l2⟩
  .exact⟨_,rfl,by decide +kernel,by decide +kernel,by decide +kernel,.add l1 l2⟩
  .exact⟨_,rfl,by decide +kernel,by decide +kernel,by decide +kernel,.less l1 l2⟩
  .exact⟨_,rfl,by decide +kernel,by decide +kernel,by decide +kernel,.loop l1 l2⟩
  .exact⟨_,rfl,by decide +kernel,by decide +kernel,by decide +kernel,.thenn l1 l2⟩
 obtain⟨x,rfl,px,hc,hf,sh⟩:=this;refine⟨th x [.tup l1,.tup l2],λh=>?_,?_,?_⟩
 .rw[FM]
  unfold pJ;rw[JG ((fy rfl).trans (by rw[k9]))];have Hl:∀h,addW (.tup [.str x]) (.tup [.tup l1,.tup l2]) h=À (th x [.tup l1,.tup l2],h):=λh=>by
   erw[addW,kT,zr,zR];rw[zW (by decide)];rfl
  simp![gP,zw,kf,c1,c2,c5,xD,ev,Hl]
 .rw[show 2+2*(d+1)=(2*d+3)+1 by omega]
  refine ua (by simp) λw hw=>?_
  erw[zp,zm,zU] at hw;rcases hw with rfl | rfl | rfl
  .exact pS px
  .exact kU EV ∅
  .exact kU A3 ∅
 .refine ef (p:=(3,1)) sh hc hf λq hq=>?_
  simp at hq;rcases hq with rfl | rfl
  .exact o1
  .exact o2
def ZS{ns:List Int}(hl:ns.length<=63):bt (step (step (step (step F)))) ns rl 0:=by
 intro a N O H hN AU hH lN lO lH;have hO:=sV AU;have e:=λ(k many:Int) (h:MH) (hm:0<many)=>uK (F:=step F) (k:=k) (many:=many) (h:=h) hl hm
 obtain⟨w,ew,p,o⟩:=JA (F:=F) (ns:=ns) (a:=a+1) (N:=N) (O:=O) (H:=H) (rl:=rl) (k:=rl.length) hl hN AU hH ∅ ∅ ∅;generalize step (step (step F))=G at e ew;refine⟨w,λh=>vt (n:=2) ?_ (x3 p),p,o⟩;simp![aC,Kp,nO,mJ,rL,nN,sC,rC,rR,oJ,pJ,gP,e a 15 _ ∅,kD,addW,kT,ew]
theorem YU(F:Fs):bF F=zl (V9 F) (zl (V1 F) (zl (VI F) (zl (VS F) (VT F)))):=rfl
theorem UT(F:Fs):bh F=zl (Vz F) (zl (Uu F) (Xj F)):=rfl
structure RG(rl:List W):Prop where
 l:rl.length<=4
 g:∀i,i<rl.length->∃(N hs:List È) (body:W),rl[i]?=À (.tup [.tup (zh N),.tup (zh hs),body])/\N.length<=2/\hs.length<=2/\wd N/\wd hs/\pl 6 body=Ã/\okd rl i hs 3 body/\hs.Nodup
theorem RG.pl(h:RG rl):pl 8 (.tup rl)=Ã:=by
 refine ua h.l λw hw=>?_
 obtain⟨i,hi,rfl⟩:=xF.mp hw;obtain⟨N,hs,body,e,l1,l2,w1,w2,p,o⟩:=h.g i hi;rw[kO hi] at e;injection e with e;rw[e];refine ua (by simp) λv hv=>?_
 erw[zp,zm,zU] at hv;rcases hv with rfl | rfl | rfl
 .exact kU (rh w1 ∅) ∅
 .exact kU (rh w2 ∅) ∅
 .exact p
def RG.good(h:RG rl):RulesGood rl:=⟨λi hi=>by
 obtain⟨N,hs,body,e,l1,l2,w1,w2,p,o⟩:=h.g i hi
 exact⟨zh N,hs,body,e,qh (x3 p) ∅,o.1,by omega⟩⟩
def Sh.more{H:List È}(h:Sh rl k H w):Sh (rl++[r]) k H w:=by
 cases h with
 | call i a b hi ns hs body e lb=>exact .call i a b hi ns hs body (lb:=lb) (by rw[zV (zJ.mp e).1];exact e)
 | number i=>exact .number i
 | name v=>exact .name v
 | read v hv=>exact .read v hv
 | doo v hv=>exact .doo v hv
 | ask=>exact .ask
 | write v hv a=>exact .write v hv a
 | say a=>exact .say a
 | lett v a b=>exact .lett v a b
 | own v hv a b=>exact .own v hv a b
 | add a b=>exact .add a b
 | less a b=>exact .less a b
 | thenn a b=>exact .thenn a b
 | loop a b=>exact .loop a b
 | iff a b c=>exact .iff a b c
theorem gR{H:List È}:∀{n:Nat} {w:W},okd rl k H n w->okd (rl++[r]) k H n w
 | 0,_,h=>by cases h
 | n+1,w,h=>⟨h.1.more,λp hp=>gR (h.2 p hp)⟩
def RG.snoc{rl:List W}(h:RG rl)(hl:rl.length<=3){N hs:List È}(l1:N.length<=2)(l2:hs.length<=2)(w1:wd N)(w2:wd hs)(p:K81.pl 6 body=Ã)(o:okd rl rl.length hs 3 body)(M6:hs.Nodup):RG (rl++[.tup [.tup (zh N),.tup (zh hs),body]]):=by
 refine⟨by simp;omega,λi hi=>?_⟩;by_cases c:i<rl.length
 .obtain⟨N',Ar,As,e,a1,a2,a3,a4,a5,a6⟩:=h.g i c
  exact⟨N',Ar,As,by rw[zV c];exact e,a1,a2,a3,a4,a5,gR a6.1,a6.2⟩
 .have:i=rl.length:=by simp at hi;omega
  subst this;exact⟨N,hs,body,by simp,l1,l2,w1,w2,p,gR o,M6⟩
def m5:kC (.int 5) (.int a) h=À (.int (5*a),h):=by
 have:(small 5||small a)=Ã:=by rw[show small 5=Ã by decide];rfl
 erw[kC,this,jn]
def m7:kC (.int 7) (.int a) h=À (.int (7*a),h):=by
 have:(small 7||small a)=Ã:=by rw[show small 7=Ã by decide];rfl
 erw[kC,this,jn]
noncomputable abbrev ρC(ns:List Int)(a d:Int)(K:W)(rl:List W)(o5 o6 o7 o8:Option W):En:=[À (kx ns),À (.int a),À (.int d),À K,À (.tup rl),o5,o6,o7,o8]
theorem mP{G:Fs}{rl:List W}{N O H:List È}(HD:bt G ns rl d)(hN:wd N)(hO:wo O)(hH:wd H)(lN:N.length+d<=20)(lO:O.length+d<=20)(lH:H.length<=20) :
  ∀is:List Int,∃ws:List W,ws.length=is.length/\(∀w∈ws,pl (2+2*d) w=Ã/\okd rl rl.length H (d+1) w)/\∀(h0:MH) (acc:List W) (o5 o6 o8:Option W),acc.length+is.length<=1000->
   ∃o,forL (zD 8) (vn (kA qf (zd 7) [zi G.aq [zd 0,zk addW (zk addW (zk kC (zd 1) (LW 3)) (LW 7)) (zk kC (LW 5) (zd 8)),zk xD (zd 2) (LW 1),zd 3,zd 4]])) (is.map W.int) (ρC ns a ((d:Int)+1) (kn N O H) rl o5 o6 (À (.ref h0.length)) o8) (h0++[.lst acc]) =
    À (.nx (ρC ns a ((d:Int)+1) (kn N O H) rl o5 o6 (À (.ref h0.length)) o),h0++[.lst (acc++ws)])
 | []=>⟨[],rfl,λw hw=>by simp at hw,λh0 acc o5 o6 o8 _=>⟨o8,by simp[forL]⟩⟩
 | i::is=>by
  obtain⟨ws,h1,h2,h3⟩:=mP (a:=a) HD hN hO hH lN lO lH is;obtain⟨w,ew,p,o⟩:=HD (a*3+7+5*i) N O H hN hO hH lN lO lH;refine⟨w::ws,by simp[h1],λv hv=>?_,λh0 acc o5 o6 o8 hc=>?_⟩
  .rcases zp.mp hv with rfl | z
   .exact⟨p,o⟩
   .exact h2 v z
  .erw[zr] at hc
   obtain⟨o',e⟩:=h3 h0 (acc++[w]) o5 o6 (À (.int i)) (by simp;omega);refine⟨o',?_⟩;erw[zx];unfold forL;have g:zD 8 (.int i) (ρC ns a ((d:Int)+1) (kn N O H) rl o5 o6 (À (.ref h0.length)) o8) (h0++[.lst acc])=À (ρC ns a ((d:Int)+1) (kn N O H) rl o5 o6 (À (.ref h0.length)) (À (.int i)),h0++[.lst acc]):=by simp[zD]
   rw[g];have DF:acc.length<cap:=zN (show acc.length<1000 by omega) (by decide);have b:(vn (kA qf (zd 7) [zi G.aq [zd 0,zk addW (zk addW (zk kC (zd 1) (LW 3)) (LW 7)) (zk kC (LW 5) (zd 8)),zk xD (zd 2) (LW 1),zd 3,zd 4]])) (ρC ns a ((d:Int)+1) (kn N O H) rl o5 o6 (À (.ref h0.length)) (À (.int i))) (h0++[.lst acc])=À (.nx (ρC ns a ((d:Int)+1) (kn N O H) rl o5 o6 (À (.ref h0.length)) (À (.int i))),h0++[.lst (acc++[w])]):=by
    simp![kA,getL,at0,qf,Zw,m3,m5,addW,kT,xD,ew,DF]
   erw[b];rw[e];simp
def mx(n:Nat):upto n=((_root_.List.range n).map λ(i:Nat)=>(i:Int)).map W.int:=by simp[upto]
def ZY{ns:List Int}(hl:ns.length<=63)(EH:RG rl)(AF:rl≠[])(HD:bt (step (step F)) ns rl d):K7 (step (step (step F))) ns rl d:=by
 intro a N O H hN hO hH lN lO lH;have e:=λ(k many:Int) (h:MH) (hm:0<many)=>uK (F:=F) (k:=k) (many:=many) (h:=h) hl hm
 generalize step (step F)=G at e HD;have hp:(0:Int)<(rl.length:Int):=by
  cases rl with
  | nil=>exact absurd rfl AF
  | cons _ _=>erw[zr];omega
 have rg:=ko (ns:=ns) (k:=a+3) (many:=rl.length) hp;have er:=λh=>e (a+3) rl.length h hp
 obtain⟨j,hj⟩:=qM rg.1;rw[hj] at rg er;have IJ:j<rl.length:=by omega
 obtain⟨N',Ar,As,eb,b1,b2,b3,b4,b5,b6⟩:=EH.g j IJ;have ei:∀h,zt (.tup rl) (.int (j:Int)) h=À (.tup [.tup (zh N'),.tup (zh Ar),As],h):=λh=>Bo ∅ ∅ (by simpa using eb)
 obtain⟨ws,h1,h2,h3⟩:=mP (a:=a) HD hN hO hH lN lO lH ((_root_.List.range (N'.length+Ar.length)).map λ(i:Nat)=>(i:Int));erw[jb,š] at h1 h3;refine⟨th "call" [.int (j:Int),.tup (ws.take N'.length),.tup (ws.drop N'.length)],λh=>?_,?_,?_⟩
 .have pw:dt (2+2*(d+1)) (th "call" [.int (j:Int),.tup (ws.take N'.length),.tup (ws.drop N'.length)])=Ã:=by
   rw[show 2+2*(d+1)=(2*d+3)+1 by omega];refine be (by simp) λv hv=>?_
   erw[zp,zm,zU] at hv;rcases hv with rfl | rfl | rfl | rfl
   .have:dt 1 (.str "call")=Ã:=by decide +kernel
    exact qh this ∅
   .rfl
   .exact be (by simp;omega) λu hu=>qh (x3 (h2 u (wu hu)).1) ∅
   .exact be (by simp;omega) λu hu=>qh (x3 (h2 u (j6 hu)).1) ∅
  refine KO (t:=[.lst ws]) ?_ pw;obtain⟨o,e3⟩:=h3 h [] (À (.int (j:Int))) (À (.int (N'.length:Int))) Á (by simp;omega);rw[zM] at e3;suffices hs:bF G (ρC ns a ((d:Int)+1) (kn N O H) rl Á Á Á Á) h=À (.ret (th "call" [.int (j:Int),.tup (ws.take N'.length),.tup (ws.drop N'.length)]),h++[.lst ws]) by
   erw[k8,zr,zR,jn,zx,jh,Æ,zQ,zM];erw[ρC] at hs;erw[hs]
  have c0:(0:Nat)<=cap:=by decide
  have c4:(4:Nat)<=cap:=by decide
  have s0:V9 G (ρC ns a ((d:Int)+1) (kn N O H) rl Á Á Á Á) h=À (.nx (ρC ns a ((d:Int)+1) (kn N O H) rl (À (.int (j:Int))) Á Á Á),h):=by
   simp![V9,addW,kT,kb,er]
  have s1:V1 G (ρC ns a ((d:Int)+1) (kn N O H) rl (À (.int (j:Int))) Á Á Á) h=À (.nx (ρC ns a ((d:Int)+1) (kn N O H) rl (À (.int (j:Int))) (À (.int (N'.length:Int))) Á Á),h):=by
   simp![V1,ei,xA,kb,ku]
  have s2:VI G (ρC ns a ((d:Int)+1) (kn N O H) rl (À (.int (j:Int))) (À (.int (N'.length:Int))) Á Á) h=À (.nx (ρC ns a ((d:Int)+1) (kn N O H) rl (À (.int (j:Int))) (À (.int (N'.length:Int))) (À (.ref h.length)) Á),h++[.lst []]):=by
   simp![VI,vj,c0]
  have s3:VS G (ρC ns a ((d:Int)+1) (kn N O H) rl (À (.int (j:Int))) (À (.int (N'.length:Int))) (À (.ref h.length)) Á) (h++[.lst []])=À (.nx (ρC ns a ((d:Int)+1) (kn N O H) rl (À (.int (j:Int))) (À (.int (N'.length:Int))) (À (.ref h.length)) o),h++[.lst ws]):=by
   rw[<-e3];have ir:(eS [zk addW (zd 6) (zi kb [zk zt (zk zt (zd 4) (zd 5)) (LW 1)])]) (ρC ns a ((d:Int)+1) (kn N O H) rl (À (.int (j:Int))) (À (.int (N'.length:Int))) (À (.ref h.length)) Á) (h++[.lst []])=À (.items (upto (N'.length+Ar.length)),h++[.lst []]):=by
    have q:-(2 ^ 62:Int)<=(N'.length:Int)+(Ar.length:Int)/\(N'.length:Int)+(Ar.length:Int)<2 ^ 62:=by omega
    have q2:((N'.length:Int)+(Ar.length:Int)).toNat=N'.length+Ar.length:=by omega
    have lw:∀h,kb [.tup (zh Ar)] h=À (.int (Ar.length:Int),h):=λh=>by simp[kb,ku]
    have ad:∀h,addW (.int (N'.length:Int)) (.int (Ar.length:Int)) h=À (.int ((N'.length:Int)+(Ar.length:Int)),h):=λh=>by simp[addW,kT]
    have Hm:∀h,lL [.int ((N'.length:Int)+(Ar.length:Int))] h=À (.items (upto (N'.length+Ar.length)),h):=λh=>by
     unfold lL;simp only;rw[zW q,q2]
    simp![eS,ei,xW,lw,ad,Hm]
   unfold VS xi;rw[ir];simp only;rw[mx]
  have s4:VT G (ρC ns a ((d:Int)+1) (kn N O H) rl (À (.int (j:Int))) (À (.int (N'.length:Int))) (À (.ref h.length)) o) (h++[.lst ws])=À (.ret (th "call" [.int (j:Int),.tup (ws.take N'.length),.tup (ws.drop N'.length)]),h++[.lst ws]):=by
   have t1:=nK (l:=ws) (k:=N'.length) ∅;have t2:=bv (l:=ws) (k:=N'.length);simp![VT,jS,xt,aw,getL,at0,ap,zw,c4,t1,t2]
  rw[YU,zo s0,zo s1,zo s2,zo s3,s4]
 .rw[show 2+2*(d+1)=(2*d+3)+1 by omega]
  refine ua (by simp) λv hv=>?_
  erw[zp,zm,zU] at hv;have MV:=EH.l;rcases hv with rfl | rfl | rfl | rfl
  .have:pl 1 (.str "call")=Ã:=by decide +kernel
   exact kU this ∅
  .have:pl 1 (.int (j:Int))=Ã:=by
    unfold pl;rw[zb];exact⟨jq ∅,jq ∅⟩
   exact kU this ∅
  .exact ua (by simp;omega) λu hu=>kU (h2 u (wu hu)).1 ∅
  .exact ua (by simp;omega) λu hu=>kU (h2 u (j6 hu)).1 ∅
 .refine⟨.call j _ _ IJ (zh N') Ar As eb (by rw[jX];omega),λp hp=>?_⟩
  rw[uS,List.take_append_drop] at hp;exact(h2 p hp).2
theorem eZ{ns:List Int}(hl:ns.length<=63)(EH:RG rl)(F:Fs):∀(d:Nat),d<=4->∀m,4+2*d<=m->bt (up m F) ns rl d
 | 0,_,m,hm=>by
  obtain⟨m',rfl⟩:∃m',m=m'+4:=⟨m-4,by omega⟩;exact ZS hl
 | d+1,hd,m,hm=>by
  obtain⟨m',rfl⟩:∃m',m=m'+4:=⟨m-4,by omega⟩;have i1:=eZ hl EH F d ∅ (m'+3) ∅;have i2:=eZ hl EH F d ∅ (m'+2) ∅;exact ZN hl (qh (x3 EH.pl) ∅) ∅ i1 λAF=>ZY hl EH AF i2
noncomputable abbrev ρR(ns:List Int)(a:Int)(rl:List W)(o3 o4 o5 o6:Option W):En:=[À (kx ns),À (.int a),À (.tup rl),o3,o4,o5,o6]
noncomputable def V4(F:Fs):MS:=(zl (zS (zk zt (zi kf [zi zw [],zi zw [Mf "x"],zi zw [Mf "y",Mf "x"]]) (zi F.aa [zd 0,zk addW (zk addW (zd 1) (LW 1)) (zk kC (LW 5) (zd 3)),LW 3])) (zD 4))
 (zl (zS (zk zt (zi kf [zi zw [],zi zw [Mf "f"],zi zw [Mf "f",Mf "g1"]]) (zi F.aa [zd 0,zk addW (zk addW (zd 1) (LW 2)) (zk kC (LW 5) (zd 3)),LW 3])) (zD 5))
 (zl (zS (zi F.aq [zd 0,zk addW (zk addW (zd 1) (LW 20)) (zk kC (LW 7) (zd 3)),LW 2,zi zw [zd 4,zi zw [],zd 5],zd 2]) (zD 6))
 (zS (zk addW (zd 2) (zi zw [zi zw [zd 4,zd 5,zd 6]])) (zD 2)))))
theorem iz{G:Fs}(e:∀(k many:Int) (h:MH),0<many->G.aa [kx ns,.int k,.int many] h=À (.int (vT ns k many),h))(HD:∀rl,RG rl->bt G ns rl 2) :
  ∀(is:List Int) (rl:List W),RG rl->rl.length+is.length<=4->∃D3,RG D3/\D3.length=rl.length+is.length/\∀(h:MH) (o3 o4 o5 o6:Option W),∃p3 p4 p5 p6,forL (zD 3) (V4 G) (is.map W.int) (ρR ns a rl o3 o4 o5 o6) h=À (.nx (ρR ns a D3 p3 p4 p5 p6),h)
 | [],rl,hr,_=>⟨rl,hr,by simp,λh o3 o4 o5 o6=>⟨o3,o4,o5,o6,by simp[forL]⟩⟩
 | i::is,rl,hr,hl=>by
  erw[zr] at hl;have c0:(0:Nat)<=cap:=by decide
  have c1:(1:Nat)<=cap:=by decide
  have c2:(2:Nat)<=cap:=by decide
  have c3:(3:Nat)<=cap:=by decide
  obtain⟨v1,IK,M7⟩:=bS (l:=[.tup [],.tup [.str "x"],.tup [.str "y",.str "x"]]) (ko (ns:=ns) (k:=a+1+5*i) (many:=3) ∅).1 (by simpa using (ko (ns:=ns) (k:=a+1+5*i) (many:=3) ∅).2);have:∃N:List È,v1=.tup (zh N)/\N.length<=2/\wd N:=by
   erw[zp,zm,zU] at IK;rcases IK with rfl | rfl | rfl
   .exact⟨[],rfl,by simp,λv hv=>by simp at hv⟩
   .exact⟨["x"],rfl,by simp,λv hv=>by erw[zp,zm,zU] at hv;subst hv;decide +kernel⟩
   .exact⟨["y","x"],rfl,by simp,λv hv=>by erw[zp,zm,zU] at hv;rcases hv with rfl | rfl<;>decide +kernel⟩
  obtain⟨N,rfl,lN,wN⟩:=this;obtain⟨v2,Gb,M8⟩:=bS (l:=[.tup [],.tup [.str "f"],.tup [.str "f",.str "g1"]]) (ko (ns:=ns) (k:=a+2+5*i) (many:=3) ∅).1 (by simpa using (ko (ns:=ns) (k:=a+2+5*i) (many:=3) ∅).2);have:∃N:List È,v2=.tup (zh N)/\N.length<=2/\wd N/\N.Nodup:=by
   erw[zp,zm,zU] at Gb;rcases Gb with rfl | rfl | rfl
   .exact⟨[],rfl,by simp,λv hv=>by simp at hv,by simp⟩
   .exact⟨["f"],rfl,by simp,λv hv=>by erw[zp,zm,zU] at hv;subst hv;decide +kernel,by decide +kernel⟩
   .exact⟨["f","g1"],rfl,by simp,λv hv=>by erw[zp,zm,zU] at hv;rcases hv with rfl | rfl<;>decide +kernel,by decide +kernel⟩
  obtain⟨H,rfl,lH,wH,M9⟩:=this;obtain⟨w,ew,pw,ow⟩:=HD rl hr (a+20+7*i) N [] H wN (λv hv=>by simp at hv) wH ∅ (by simp) ∅;obtain⟨D3,Ge,EU,ih⟩:=iz (a:=a) e HD is (rl++[.tup [.tup (zh N),.tup (zh H),w]]) (hr.snoc ∅ lN lH wN wH pw ow M9) (by simp;omega);refine⟨D3,Ge,by rw[EU];simp;omega,λh o3 o4 o5 o6=>?_⟩;obtain⟨p3,p4,p5,p6,e6⟩:=ih h (À (.int i)) (À (.tup (zh N))) (À (.tup (zh H))) (À w);refine⟨p3,p4,p5,p6,?_⟩;erw[zx];unfold forL;have g:zD 3 (.int i) (ρR ns a rl o3 o4 o5 o6) h=À (ρR ns a rl (À (.int i)) o4 o5 o6,h):=by simp[zD]
  rw[g];have cr:rl.length+1<=cap:=zG (show rl.length+1<=10 by omega) (by decide);have a1:∀x y:Int,∀h,addW (.int x) (.int y) h=À (.int (x+y),h):=λx y h=>by simp[addW,kT]
  have a2:∀w h,addW (.tup rl) (.tup [w]) h=À (.tup (rl++[w]),h):=λw h=>by
   erw[addW,kT,zr,zR];rw[zW (by simpa using cr)]
  have Ab:∀h,G.aq [kx ns,.int (a+20+7*i),.int 2,.tup [.tup (zh N),.tup [],.tup (zh H)],.tup rl] h=À (w,h):=λh=>ew h
  have b:V4 G (ρR ns a rl (À (.int i)) o4 o5 o6) h=À (.nx (ρR ns a (rl++[.tup [.tup (zh N),.tup (zh H),w]]) (À (.int i)) (À (.tup (zh N))) (À (.tup (zh H))) (À w)),h):=by
   unfold V4;rw[zo (ρ':=ρR ns a rl (À (.int i)) (À (.tup (zh N))) o5 o6) (h':=h) (by simp![zw,kf,c0,c1,c2,c3,a1,m5,e (a+1+5*i) 3 _ ∅,M7])];rw[zo (ρ':=ρR ns a rl (À (.int i)) (À (.tup (zh N))) (À (.tup (zh H))) o6) (h':=h) (by simp![zw,kf,c0,c1,c2,c3,a1,m5,e (a+2+5*i) 3 _ ∅,M8])];rw[zo (ρ':=ρR ns a rl (À (.int i)) (À (.tup (zh N))) (À (.tup (zh H))) (À w)) (h':=h) (by simp![zw,c0,c3,a1,m7,Ab])];simp![zw,c1,c3,a2]
  erw[b];rw[e6]
def YR{ns:List Int}(hl:ns.length<=63)(hm:8<=m):∃rl,RG rl/\∀h,(step (up m F)).bf [kx ns,.int 1] h=À (.tup rl,h):=by
 have HD:=λrl (hr:RG rl)=>eZ hl hr F 2 ∅ m ∅
 have e:∀(k many:Int) (h:MH),0<many->(up m F).aa [kx ns,.int k,.int many] h=À (.int (vT ns k many),h):=by
  obtain⟨m',rfl⟩:∃m',m=m'+2:=⟨m-2,by omega⟩;exactλk many h hm=>uK (F:=up m' F) hl hm
 generalize up m F=G at e HD;have rg:=ko (ns:=ns) (k:=1) (many:=3) ∅;have e1:=λh=>e 1 3 h ∅
 obtain⟨j,hj⟩:=qM rg.1;rw[hj] at rg e1;obtain⟨D3,Ge,EU,ih⟩:=iz (a:=1) e HD ((_root_.List.range j).map λ(i:Nat)=>(i:Int)) [] ⟨by simp,λi hi=>by simp at hi⟩ (by simp;omega);refine⟨D3,Ge,λh=>vt (n:=8) ?_ (x3 Ge.pl)⟩;obtain⟨p3,p4,p5,p6,e6⟩:=ih h Á Á Á Á;have c0:(0:Nat)<=cap:=by decide
 have s0:Vz G [À (kx ns),À (.int 1),Á,Á,Á,Á,Á] h=À (.nx (ρR ns 1 [] Á Á Á Á),h):=by
  simp![Vz,zw,c0]
 have s1:Uu G (ρR ns 1 [] Á Á Á Á) h=À (.nx (ρR ns 1 D3 p3 p4 p5 p6),h):=by
  rw[<-e6];have ir:(eS [zi G.aa [zd 0,zd 1,LW 3]]) (ρR ns 1 [] Á Á Á Á) h=À (.items (upto j),h):=by
   have q:-(2 ^ 62:Int)<=(j:Int)/\(j:Int)<2 ^ 62:=by omega
   have Hm:∀h,lL [.int (j:Int)] h=À (.items (upto j),h):=λh=>by
    unfold lL;simp only;rw[zW q,wU]
   simp![eS,e1,Hm]
  show(xi _ _ (V4 G)) _ _=_
  unfold xi;rw[ir];simp only;rw[mx]
 have hs:bh G [À (kx ns),À (.int 1),Á,Á,Á,Á,Á] h=À (.ret (.tup D3),h):=by
  rw[UT,zo s0,zo s1];simp![Xj]
 erw[k8,zr,zR,jn,zx,jh,Æ,zQ,zM];erw[hs]
def WP{ns:List Int}{rl:List W}(hl:ns.length<=63)(hm:15<=m)(hr:RG rl):∃w,pl 4 w=Ã/\okd rl rl.length [] 2 w/\∀h,(step (up m F)).aY [kx ns,.int a,.int 1,.tup rl] h=À (w,h):=by
 obtain⟨w,ew,p,o⟩:=eZ hl hr F 1 ∅ m ∅ a [] [] [] (λv hv=>by simp at hv) (λv hv=>by simp at hv) (λv hv=>by simp at hv) (by simp) (by simp) (by simp);obtain⟨v,ev⟩:=eM hr.good F m rl.length 3 (by have:=hr.l;omega) ∅ ∅ _ w [] (ie o ∅) (qh (x3 p) ∅) (λp hp=>by simp at hp);have e:∀(k many:Int) (h:MH),0<many->(up m F).aa [kx ns,.int k,.int many] h=À (.int (vT ns k many),h):=by
  obtain⟨m',rfl⟩:∃m',m=m'+2:=⟨m-2,by omega⟩;exactλk many h hm=>uK (F:=up m' F) hl hm
 generalize up m F=G at e ew ev;have c0:(0:Nat)<=cap:=by decide
 have c2:(2:Nat)<=cap:=by decide
 have c3:(3:Nat)<=cap:=by decide
 have Ab:∀h,G.aq [kx ns,.int a,.int 1,.tup [.tup [],.tup [],.tup []],.tup rl] h=À (w,h):=λh=>ew h
 by_cases k:80<v
 .have rg:=ko (ns:=ns) (k:=a) (many:=4) ∅
  have e1:=λh=>e a 4 h ∅
  generalize vT ns a 4=y at rg e1;have:∃c:È,(pl 1 (.str c)=Ã/\c∈six)/\∀h,zt (.str "abcd") (.int y) h=À (.str c,h):=by
   have hy:y=0\/y=1\/y=2\/y=3:=by omega
   have hc:(("abcd":È).length<=cap):=by decide +kernel
   have hx:("abcd":È).cps.toList=[97,98,99,100]:=by decide +kernel
   rcases hy with rfl | rfl | rfl | rfl
   .exact⟨⟨#[97]⟩,by decide +kernel,λh=>by simp[zt,hc,hx,atI,wm]⟩
   .exact⟨⟨#[98]⟩,by decide +kernel,λh=>by simp[zt,hc,hx,atI,wm]⟩
   .exact⟨⟨#[99]⟩,by decide +kernel,λh=>by simp[zt,hc,hx,atI,wm]⟩
   .exact⟨⟨#[100]⟩,by decide +kernel,λh=>by simp[zt,hc,hx,atI,wm]⟩
  obtain⟨c,⟨pc,c6⟩,ec⟩:=this;have pr:pl 2 (th "read" [.str c])=Ã:=Kt ⋯ pc;refine⟨th "read" [.str c],kU pr ∅,⟨.read c c6,λq hq=>?_⟩,λh=>vt (n:=2) ?_ (x3 pr)⟩
  .rw[xX (p:=(2,2)) ⋯ ⋯ rfl] at hq
   simp at hq
  .simp![bu,zw,c0,c2,c3,Ab,ev,kL,k,e1,ec]
 .refine⟨w,p,o,λh=>vt (n:=4) ?_ (x3 p)⟩
  simp![bu,zw,c0,c2,c3,Ab,ev,kL,k]
noncomputable def isWhole:W->Bool
 | .int _=>Ã
 | _=>Â
def lh(d:dt n w=Ã):(step F).bC [w] h=À (.bl (isWhole w),h):=by
 refine vt (n:=1) ?_ rfl;cases w<;>simp![bV,vb d,tyB,isWhole]
noncomputable def dS:W->Bool
 | .int i=>decide (0<=i)&&decide (i<=1008)
 | _=>Â
def Zm(d:dt n w=Ã):(step (step F)).bQ [w] h=À (.bl (dS w),h):=by
 refine vt (n:=1) ?_ rfl;have e:=λh=>lh (F:=F) (h:=h) d
 generalize step F=G at e;cases w with
 | int i=>by_cases h0:0<=i<;>simp![bH,e,isWhole,dS,cm,kL,uG,h0]
 | _=>simp![bH,e,isWhole,dS]
noncomputable def fh(f:È->Bool):W->Bool
 | .str x=>f x
 | _=>Â
def fB{x:È}(hx:x.length<=1000):(step F).aR [.str x] h=À (.bl (dO x),h):=by
 refine vt (n:=1) ?_ rfl;have e:yk (il (zd 0)) 1 [] (zD 0) ux (zk (xh Â) (zd 0) (Mf "0123456789")) [À (.str x)] h=À (.fls (((signs x).filter λ_=>Ã).map λw=>.bl (fh (uT "0123456789") w)),h):=by
  refine iy (λ_=>Ã) (λw=>.bl (fh (uT "0123456789") w)) ?_ ?_ ?_ ?_ ?_
  .simp![il]
  .intro w _ H';rfl
  .intro w hw _ H'
   unfold signs at hw;obtain⟨c,_,rfl⟩:=kI.mp hw;simp![lT,fh]
  .intro w _ _;unfold low;rfl
  .unfold signs
   rw[jb,fX];exact zG hx (by decide)
 simp![bL];rw[e];simp[tH,ip,xb,getL,Yv];unfold dO signs;simp[List.all_map,Function.comp_def,fh]
def ZQ(x:È)(lo hi:Option Int):(Txt.slice x lo hi).length<=x.length:=Txt.slice_le x lo hi
def ar(d:dt n w=Ã):(step (step F)).aK [w,.str l] h=À (.bl (isWord l w),h):=by
 refine vt (n:=1) ?_ rfl;have e:=λ(x:È) h (hx:x.length<=1000)=>fB (F:=F) (x:=x) (h:=h) hx
 generalize step F=G at e;cases n with
 | zero=>cases d
 | succ n=>
 cases w with
 | str x=>
  have hx:x.length<=1000:=by unfold dt at d;simp at d;exact d.2
  have hc:x.length<=cap:=zG hx (by decide);by_cases h1:1<=x.length
  .have q1:(1:Int)<=(x.length:Int):=by omega
   by_cases h2:x.length<=4
   .have q2:(x.length:Int)<=4:=by omega
    obtain⟨c,r,e1,e2⟩:=Yx (h:=h) h1 hc;have e4:aw (.str x) (À 1) Á h=À (.str (nq x),h):=by simp[aw,hc,nq]
    have e5:=e (nq x) h (zG (ZQ x (À 1) Á) hx);cases hh:uT l ⟨#[c]⟩<;>simp![aD,vb d,tyB,kb,hc,vk,addW,kT,kL,isWord,nh,JF,e1,e2,jS,xt,e4,lT,e5,h1,h2,q1,q2,hh]
   .have q2:¬(x.length:Int)<=4:=by omega
    simp![aD,vb d,tyB,kb,hc,vk,addW,kT,kL,isWord,nh,q1,q2,h2]
  .have q1:¬(1:Int)<=(x.length:Int):=by omega
   simp![aD,vb d,tyB,kb,hc,vk,addW,kT,kL,isWord,nh,q1,h1]
 | _=>simp![aD,vb d,tyB,isWord]
def KC(d:dt n w=Ã):(step (step (step F))).bM [w] h=À (.bl (isWord "xyz" w),h):=by
 refine vt (n:=1) ?_ rfl;have e:=λh=>ar (F:=F) (l:="xyz") (h:=h) d
 generalize step (step F)=G at e;simp![bZ,e]
def dQ(d:dt n w=Ã):(step (step (step F))).aN [w] h=À (.bl (isWord "pq" w),h):=by
 refine vt (n:=1) ?_ rfl;have e:=λh=>ar (F:=F) (l:="pq") (h:=h) d
 generalize step (step F)=G at e;simp![bw,e]
def gQ(d:dt n w=Ã):(step (step (step F))).aO [w] h=À (.bl (isWord "fg" w),h):=by
 refine vt (n:=1) ?_ rfl;have e:=λh=>ar (F:=F) (l:="fg") (h:=h) d
 generalize step (step F)=G at e;simp![aQ,e]
noncomputable def yy:W->Bool
 | .tup (.str x::r)=>match fm x with
  | some p=>decide ((r.length:Int)+1=p.1)
  | none=>Â
 | _=>Â
def tJ(d:dt n w=Ã):(step F).bN [w] h=À (.bl (yy w),h):=by
 refine vt (n:=1) ?_ rfl;cases w with
 | tup l=>
  cases l with
  | nil=>simp![aJ,vb d,tyB,kb,kD,yy]
  | cons y r=>
   obtain⟨m,rfl,hl,hd⟩:=kR d;have hy:=hd y zu;have q:((r.length:Int)+1==0)=Â:=by rw[jB];omega
   cases y with
   | str x=>
    cases hf:fm x with
    | none=>simp![aJ,vb d,vb hy,tyB,kb,kD,yy,xA,tabIn,Q5,hf,q]
    | some p=>
     simp![aJ,vb d,vb hy,tyB,kb,kD,yy,xA,tabIn,af,Q5,hf,q];by_cases hp:(r.length:Int)+1=p.1<;>simp[hp]
   | _=>simp![aJ,vb d,vb hy,tyB,kb,kD,yy,xA,q]
 | _=>simp![aJ,vb d,tyB,yy]
noncomputable def gj:List È:=["a","b","c","d"]
theorem Je:fF=.tup (zh gj):=rfl
noncomputable def fY(ks:List È)(w:W):Bool:=kQ gj w||(isWord "pq" w&&kQ ks w)
def Zt{ks:List È}(d:dt n w=Ã)(hn:n<=60)(hk:ks.all Õ=Ã):(step (step (step (step F)))).bO [w,.tup (zh ks)] h=À (.bl (fY ks w),h):=by
 refine vt (n:=1) ?_ rfl;have e:=λh=>dQ (F:=F) (h:=h) d
 generalize step (step (step F))=G at e;cases h1:kQ gj w<;>cases h2:isWord "pq" w<;>simp![bW,Je,xE (l:=gj) d hn ⋯,xE d hn hk,e,fY,h1,h2]
noncomputable def uM(rl:List W):Prop:=∀r∈rl,∃ns hs b,r=.tup [.tup ns,.tup hs,b]/\ns.length<=1000/\hs.length<=1000
noncomputable def isCall(rl:List W):W->Bool
 | .tup [_,.int i,.tup a,.tup b]=>decide (0<=i)&&decide (i<rl.length)&&(match rl[i.toNat]? with
  | some (.tup [.tup ns,.tup hs,_])=>decide (a.length=ns.length)&&decide (b.length=hs.length)
  | _=>Â)
 | _=>Â
def Jd(d:dt n (.tup [x,y,a,b])=Ã)(hr:uM rl):(step (step F)).bY [.tup rl,.tup [x,y,a,b]] h=À (.bl (isCall rl (.tup [x,y,a,b])),h):=by
 refine vt (n:=1) ?_ rfl;obtain⟨m,rfl,hl,hd⟩:=kR d;have dy:=hd y (by simp);have da:=hd a (by simp);have db:=hd b (by simp);have e:=λh=>lh (F:=F) (h:=h) dy
 generalize step F=G at e;cases y with
 | int i=>
  by_cases h0:0<=i
  .by_cases h1:i<rl.length
   .obtain⟨j,rfl⟩:=qM h0
    have hj:j<rl.length:=by omega
    obtain⟨ns,hs,bb,IL,_,_⟩:=hr rl[j] (vP hj);have ei:zt (.tup rl) (.int (j:Int)) h=À (.tup [.tup ns,.tup hs,bb],h):=Bo h0 h1 (by simp[hj,IL]);cases a with
    | tup la=>
     cases b with
     | tup lb=>
      have k1:((la.length:Int)==(ns.length:Int))=decide (la.length=ns.length):=by rw[qu];simp;omega
      have k2:((lb.length:Int)==(hs.length:Int))=decide (lb.length=hs.length):=by rw[qu];simp;omega
      by_cases c1:la.length=ns.length<;>by_cases c2:lb.length=hs.length<;>simp![k1,k2,aG,e,isWhole,kL,uG,ac,xW,gH,mf,h0,h1,hj,kb,vb da,vb db,tyB,ei,xA,kD,isCall,IL,c1,c2]
     | _=>simp![aG,e,isWhole,kL,uG,ac,xW,gH,mf,h0,h1,hj,kb,vb da,vb db,tyB,isCall]
    | _=>simp![aG,e,isWhole,kL,uG,ac,xW,gH,mf,h0,h1,hj,kb,vb da,vb db,tyB,isCall]
   .simp![aG,e,isWhole,kL,uG,ac,xW,h0,h1,kb,isCall]
    cases a<;>cases b<;>simp[isCall,h1]
  .simp![aG,e,isWhole,kL,uG,ac,xW,h0,isCall]
   cases a<;>cases b<;>simp[isCall,h0]
 | _=>simp![aG,e,isWhole,xW,isCall]
noncomputable def r0(r:List W):W:=r.headD .non
noncomputable def qS(rl:List W)(ks:List È)(w:W):Bool:=yy w&&(match w with
 | .tup (.str x::r)=>
  if x=="number" then dS (r0 r)
  else if x=="name" then isWord "xyz" (r0 r)&&kQ ks (r0 r)
  else if x=="do" then isWord "fg" (r0 r)&&kQ ks (r0 r)
  else if x=="read" || x=="write" then fY ks (r0 r)
  else if x=="let" then isWord "xyz" (r0 r)
  else if x=="own" then isWord "pq" (r0 r)
  else if x=="call" then isCall rl w
  else Ã
 | _=>Â)
def yY{r:List W}{p:Int×Int}(h:yy (.tup (.str x::r))=Ã)(e:fm x=À p):(r.length:Int)+1=p.1:=by
 erw[yy,e] at h;simpa using h
def tf{r:List W}(h:(r.length:Int)+1=2):∃a,r=[a]:=by
 match r with
 | [a]=>exact⟨a,rfl⟩
 | []=>simp at h
 | _::_::_=>simp at h;omega
def C7{r:List W}(h:(r.length:Int)+1=3):∃a b,r=[a,b]:=by
 match r with
 | [a,b]=>exact⟨a,b,rfl⟩
 | []=>simp at h
 | [_]=>simp at h
 | _::_::_::_=>simp at h;omega
def lF{r:List W}(h:(r.length:Int)+1=4):∃a b c,r=[a,b,c]:=by
 match r with
 | [a,b,c]=>exact⟨a,b,c,rfl⟩
 | []=>simp at h
 | [_]=>simp at h
 | [_,_]=>simp at h
 | _::_::_::_::_=>simp at h;omega
def gx{ks:List È}(d:dt n w=Ã)(hn:n<=60)(hk:ks.all Õ=Ã)(hr:uM rl) :
  (step (step (step (step (step F))))).aB [.tup rl,w,.tup (zh ks)] h=À (.bl (qS rl ks w),h):=by
 refine vt (n:=1) ?_ rfl;have e0:=λh=>tJ (F:=step (step (step F))) (h:=h) d
 have e1:=λ{n:Nat} {w:W} (d:dt n w=Ã) h=>Zm (F:=step (step F)) (h:=h) d
 have e2:=λ{n:Nat} {w:W} (d:dt n w=Ã) h=>KC (F:=step F) (h:=h) d
 have e3:=λ{n:Nat} {w:W} (d:dt n w=Ã) h=>dQ (F:=step F) (h:=h) d
 have e4:=λ{n:Nat} {w:W} (d:dt n w=Ã) h=>gQ (F:=step F) (h:=h) d
 have e5:=λ{n:Nat} {w:W} (d:dt n w=Ã) (hn:n<=60) h=>Zt (F:=F) (h:=h) d hn hk
 have e6:=λ{n:Nat} {x y a b:W} (d:dt n (.tup [x,y,a,b])=Ã) h=>Jd (F:=step (step F)) (h:=h) d hr
 generalize step (step (step (step F)))=G at e0 e1 e2 e3 e4 e5 e6;cases hf:yy w with
 | false=>simp![aj,e0,hf,qS]
 | true=>
  match w,hf,d,e0 with
  | .tup (.str x::r),hf,d,e0=>
   obtain⟨m,rfl,hl,hd⟩:=kR d;have EW:∀a r',r=a::r'->dt m a=Ã:=λa r' e=>hd a (by simp[e])
   have FN:inB h (.str x) (.tup [.str "read",.str "write"])=À (kQ ["read","write"] (.str x)):=xE (l:=["read","write"]) (hd (.str x) (by simp)) ∅ ⋯;have FO:kQ ["read","write"] (.str x)=(x=="read" || x=="write"):=by
    erw[kQ,qL,List.any_nil,qO];rw[show(("read":È)==x)=(x=="read") from wM ..,show(("write":È)==x)=(x=="write") from wM ..]
   cases t1:(x==("number":È)) with
   | true=>
    obtain⟨a,rfl⟩:=tf (yY hf (p:=(2,2)) (by rw[eq_of_beq t1];decide +kernel));simp![aj,e0,hf,qS,xA,xW,kN,t1,e1 (EW a [] rfl),r0]
   | false=>
   cases t2:(x==("name":È)) with
   | true=>
    obtain⟨a,rfl⟩:=tf (yY hf (p:=(2,2)) (by rw[eq_of_beq t2];decide +kernel));have da:=EW a [] rfl;cases q:isWord "xyz" a<;>simp![aj,e0,hf,qS,xA,xW,kN,t1,t2,e2 da,r0,q,xE da ∅ hk]
   | false=>
   cases t3:(x==("do":È)) with
   | true=>
    obtain⟨a,rfl⟩:=tf (yY hf (p:=(2,2)) (by rw[eq_of_beq t3];decide +kernel));have da:=EW a [] rfl;cases q:isWord "fg" a<;>simp![aj,e0,hf,qS,xA,xW,kN,t1,t2,t3,e4 da,r0,q,xE da ∅ hk]
   | false=>
   cases t4:(x==("read":È)||x=="write") with
   | true=>
    have:∃a r',r=a::r':=by
     rcases vh.mp t4 with t | t
     .obtain⟨a,rfl⟩:=tf (yY hf (p:=(2,2)) (by rw[eq_of_beq t];decide +kernel));exact⟨a,[],rfl⟩
     .obtain⟨a,b,rfl⟩:=C7 (yY hf (p:=(3,2)) (by rw[eq_of_beq t];decide +kernel));exact⟨a,[b],rfl⟩
    obtain⟨a,r',rfl⟩:=this;have da:=EW a r' rfl;simp![aj,e0,hf,qS,xA,xW,kN,t1,t2,t3,zw,cap,FN,FO,t4,e5 da ∅,r0]
   | false=>
   cases t5:(x==("let":È)) with
   | true=>
    obtain⟨a,b,c,rfl⟩:=lF (yY hf (p:=(4,2)) (by rw[eq_of_beq t5];decide +kernel));simp![aj,e0,hf,qS,xA,xW,kN,t1,t2,t3,zw,cap,FN,FO,t4,t5,e2 (EW a _ rfl),r0]
   | false=>
   cases t6:(x==("own":È)) with
   | true=>
    obtain⟨a,b,c,rfl⟩:=lF (yY hf (p:=(4,2)) (by rw[eq_of_beq t6];decide +kernel));simp![aj,e0,hf,qS,xA,xW,kN,t1,t2,t3,zw,cap,FN,FO,t4,t5,t6,e3 (EW a _ rfl),r0]
   | false=>
   cases t7:(x==("call":È)) with
   | true=>
    obtain⟨a,b,c,rfl⟩:=lF (yY hf (p:=(4,2)) (by rw[eq_of_beq t7];decide +kernel));simp![aj,e0,hf,qS,xA,xW,kN,t1,t2,t3,zw,cap,FN,FO,t4,t5,t6,t7,e6 d,r0]
   | false=>simp![aj,e0,hf,qS,xA,xW,kN,t1,t2,t3,zw,cap,FN,FO,t4,t5,t6,t7]
def ur(h:yy w=Ã):∃x r p,w=.tup (.str x::r)/\fm x=À p:=by
 match w,h with
 | .tup (.str x::r),h=>
  cases e:fm x with
  | none=>simp[yy,e] at h
  | some p=>exact⟨x,r,p,rfl,e⟩
def ue(h:qS rl ks w=Ã):yy w=Ã:=by
 unfold qS at h;rw[zb] at h;exact h.1
def ik(h:qS rl ks (.tup (.str x::r))=Ã)(t7:(x==("call":È))=Ã):∃i a b,r=[.int i,.tup a,.tup b]:=by
 have hx:=eq_of_beq t7;have hf:=ue h;obtain⟨a,b,c,rfl⟩:=lF (yY hf (p:=(4,2)) (by rw[hx];decide +kernel));subst hx;have h2:isCall rl (.tup [.str "call",a,b,c])=Ã:=by
  unfold qS at h;rw[zb] at h;have h3:=h.2;erw[show(("call":È)=="number")=Â by decide +kernel,show(("call":È)=="name")=Â by decide +kernel,show(("call":È)=="do")=Â by decide +kernel,show(("call":È)=="read")=Â by decide +kernel,show(("call":È)=="write")=Â by decide +kernel,show(("call":È)=="let")=Â by decide +kernel,show(("call":È)=="own")=Â by decide +kernel,vN,qO,jn,vA,qm] at h3;exact h3
 match a,b,c,h2 with
 | .int i,.tup a,.tup b,_=>exact⟨i,a,b,rfl⟩
def Zg(d:dt n w=Ã)(ho:qS rl ks w=Ã):(step F).bB [w] h=À (.tup (kr w),h):=by
 have hf:=ue ho;obtain⟨x,r,p,rfl,hp⟩:=ur hf;obtain⟨m,rfl,hl,hd⟩:=kR d;obtain⟨p1,p2⟩:=K6 hp;cases t7:(x==("call":È)) with
 | true=>
  obtain⟨i,a,b,rfl⟩:=ik ho t7;obtain⟨m1,rfl,la,da⟩:=kR (hd (.tup a) (by simp));obtain⟨m2,e2,lb,db⟩:=kR (hd (.tup b) (by simp));have hc:a.length+b.length<=cap:=zG (show a.length+b.length<=2000 by omega) (by decide);have e:kr (.tup [.str x,.int i,.tup a,.tup b])=a++b:=by simp[kr,t7]
  rw[e];refine vw (h':=h) ?_ ?_ (kW _)
  .simp![bD,xA,gH,mf,kN,t7,addW,kT,hc]
  .unfold low
   refine vF λw hw=>?_
   rcases zA.mp hw with hw | hw
   .exact qE (da w hw)
   .exact qE (db w hw)
 | false=>
  obtain⟨k,hk⟩:=qM (show 0<=p.2 by omega);have e:kr (.tup (.str x::r))=(W.str x::r).drop k:=by
   erw[kr,t7,hp];rw[hk];cases k with
   | zero=>omega
   | succ k=>simp
  rw[e];refine vw (h':=h) ?_ ?_ (kW _)
  .have ek:zt (.tup [.int p.1,.int p.2]) (.int 1) h=À (.int p.2,h):=xW
   simp![bD,xA,kN,t7,jS,xt,af,Q5,hp,ek,aw];rw[hk];exact bv
  .unfold low
   exact vF λw hw=>qE (hd w (j6 hw))
noncomputable def kG(ks:List È):W->List (W×List È)
 | .tup (.str x::r)=>if x=="let" || x=="own" then (match r with
   | [.str v,a,b]=>[(a,ks),(b,ks++[v])]
   | _=>[]) else (kr (.tup (.str x::r))).map λp=>(p,ks)
 | _=>[]
noncomputable def place(p:W×List È):W:=.tup [p.1,.tup (zh p.2)]
def sg(h:qS rl ks (.tup (.str x::r))=Ã)(t:(x==("let":È)||x=="own")=Ã):∃v a b,r=[.str v,a,b]:=by
 have hf:=ue h;have key:∀l:È,∀v,isWord l v=Ã->∃y,v=.str y:=λl v hv=>by
  cases v with
  | str y=>exact⟨y,rfl⟩
  | _=>cases hv
 unfold qS at h;rw[zb] at h;have h3:=h.2;rcases vh.mp t with t | t
 .have hx:=eq_of_beq t
  subst hx;obtain⟨a,b,c,rfl⟩:=lF (yY hf (p:=(4,2)) ⋯);erw[show(("let":È)=="number")=Â by decide +kernel,show(("let":È)=="name")=Â by decide +kernel,show(("let":È)=="do")=Â by decide +kernel,show(("let":È)=="read")=Â by decide +kernel,show(("let":È)=="write")=Â by decide +kernel,vN,qO,jn,vA,qm] at h3;obtain⟨y,hy⟩:=key _ _ h3;exact⟨y,b,c,by rw[show a=W.str y from hy]⟩
 .have hx:=eq_of_beq t
  subst hx;obtain⟨a,b,c,rfl⟩:=lF (yY hf (p:=(4,2)) ⋯);erw[show(("own":È)=="number")=Â by decide +kernel,show(("own":È)=="name")=Â by decide +kernel,show(("own":È)=="do")=Â by decide +kernel,show(("own":È)=="read")=Â by decide +kernel,show(("own":È)=="write")=Â by decide +kernel,show(("own":È)=="let")=Â by decide +kernel,vN,qO,jn,vA,qm] at h3;obtain⟨y,hy⟩:=key _ _ h3;exact⟨y,b,c,by rw[show a=W.str y from hy]⟩
theorem Qp(ks:List È):low m (.tup (zh ks))=Ã:=by
 unfold low;refine vF λw hw=>?_
 unfold zh at hw;obtain⟨x,_,rfl⟩:=kI.mp hw;unfold low;rfl
def dv{p:W×List È}(h:low m p.1=Ã):low m (place p)=Ã:=by
 unfold place low;refine vF λw hw=>?_
 erw[zp,zm,zU] at hw;rcases hw with rfl | rfl
 .exact h
 .exact Qp p.2
def fD{ks:List È}(d:dt n w=Ã)(hn:n<=60)(ho:qS rl ks w=Ã)(hk:ks.length<=1000) :
  (step (step F)).aA [w,.tup (zh ks)] h=À (.fls ((kG ks w).map place),h):=by
 have e0:=λh=>Zg (F:=F) (h:=h) d ho
 generalize step F=G at e0;have hf:=ue ho;obtain⟨x,r,p,rfl,hp⟩:=ur hf;obtain⟨m,rfl,hl,hd⟩:=kR d;have Gw:inB h (.str x) (.tup [.str "let",.str "own"])=À (x=="let" || x=="own"):=by
  rw[show(W.tup [.str "let",.str "own"])=.tup (zh ["let","own"]) from rfl,xE (hd (.str x) (by simp)) ∅ ⋯];erw[kQ,qL,List.any_nil,qO];rw[show(("let":È)==x)=(x=="let") from wM ..,show(("own":È)==x)=(x=="own") from wM ..]
 cases t:(x==("let":È)||x=="own") with
 | true=>
  obtain⟨v,a,b,rfl⟩:=sg ho t;have hc:ks.length+1<=cap:=zG (show ks.length+1<=2000 by omega) (by decide);have e:kG ks (.tup [.str x,.str v,a,b])=[(a,ks),(b,ks++[v])]:=by simp[kG,t]
  rw[e];refine vw (h':=h) ?_ ?_ (kW _)
  .have DP:(zh ks).length+1<=cap:=by rw[ku];exact hc
   have e9:zh (ks++[v])=zh ks++[.str v]:=by simp[zh]
   have c1:(1:Nat)<=cap:=by decide
   have c2:(2:Nat)<=cap:=by decide
   simp![aF,xA,xW,gH,mf,zw,kf,c1,c2,Gw,t,addW,kT,place,DP,e9]
  .unfold low
   refine vF λw hw=>?_
   erw[zx,jh,zp,zm,zU] at hw;rcases hw with rfl | rfl
   .exact dv (qE (hd a (by simp)))
   .exact dv (qE (hd b (by simp)))
 | false=>
  have e:kG ks (.tup (.str x::r))=(kr (.tup (.str x::r))).map λp=>(p,ks):=by simp[kG,t]
  rw[e];have xa:(kr (.tup (.str x::r))).length<=cap:=zG (eY d) (by decide);have ec:yk (wn (zi G.bB [zd 0])) 1 [1] (zD 0) ux (zi zw [zd 0,zd 1]) [À (.tup (.str x::r)),À (.tup (zh ks))] h=À (.fls (((kr (.tup (.str x::r))).filter λ_=>Ã).map λw=>place (w,ks)),h):=by
   refine iy (λ_=>Ã) (λw=>place (w,ks)) ?_ ?_ ?_ ?_ xa
   .simp![wn,e0,srcOf]
   .intro w _ H';rfl
   .intro w _ _ H'
    simp![zw,cap,place]
   .intro w hw _
    cases m with
    | zero=>have:=hd (.str x) (by simp);cases this
    | succ m=>exact dv (qE (dk d w hw))
  refine vw (h':=h) ?_ ?_ (kW _)
  .simp![aF,xA,zw,cap,Gw,t]
   rw[ec];rw[xM.mpr (by simp)];simp[Function.comp_def]
  .unfold low
   refine vF λw hw=>?_
   erw[List.map_map,kI,Function.comp] at hw;obtain⟨v,hv,rfl⟩:=hw;exact dv (qE (dk d v hv))
noncomputable def jv:List (Option Nat)->Option Nat
 | []=>À 0
 | some a::r=>match jv r with
  | some b=>À (a+b)
  | none=>Á
 | none::_=>Á
noncomputable def nodes(rl:List W):Nat->W×List È->Option Nat
 | 0,_=>Á
 | n+1,p=>if qS rl p.2 p.1=Ã then (match jv ((kG p.2 p.1).map (nodes rl n)) with
  | some t=>À (t+1)
  | none=>Á) else Á
noncomputable def fits(m:Nat):Option Nat->Bool
 | some t=>decide (t<=m)
 | none=>Â
def gG(a b:List (Option Nat)):jv (a++b)=match jv a,jv b with
  | some x,À y=>À (x+y)
  | _,_=>Á:=by
 induction a with
 | nil=>erw[zM,jv];cases jv b<;>simp
 | cons o r ih=>
  cases o with
  | none=>simp[jv]
  | some x=>
   erw[zQ,jv,ih];cases jv r<;>cases jv b<;>simp[Nat.add_assoc]
def nB(a:List (Option Nat)):jv a.reverse=jv a:=by
 induction a with
 | nil=>rfl
 | cons o r ih=>
  rw[jj,gG,ih];cases o<;>cases e:jv r<;>simp[jv,e,yg]
def fE{rl:List W}(d:dt (n+1) w=Ã):∀p∈kG ks w,dt n p.1=Ã:=by
 intro p hp;unfold kG at hp;split at hp
 .rename_i x r
  obtain⟨m,e,hl,hd⟩:=kR d;cases e;split at hp
  .split at hp
   .erw[zp,zm,zU] at hp
    rcases hp with rfl | rfl
    .exact hd _ (by simp)
    .exact hd _ (by simp)
   .simp at hp
  .obtain⟨v,hv,rfl⟩:=kI.mp hp
   exact dk d v hv
 .simp at hp
def Jf{ks:List È}(hk:ks.all Õ=Ã)(d:dt n w=Ã):∀p∈kG ks w,p.2.all Õ=Ã/\p.2.length<=ks.length+1:=by
 intro p hp;unfold kG at hp;split at hp
 .rename_i x r
  obtain⟨m,rfl,hl,hd⟩:=kR d;split at hp
  .split at hp
   .rename_i v a b
    have hv:=hd (.str v) (by simp);have hs:Õ v=Ã:=by
     cases m with
     | zero=>cases hv
     | succ m=>unfold dt at hv;rw[zb] at hv;exact hv.1
    erw[zp,zm,zU] at hp;rcases hp with rfl | rfl
    .exact⟨hk,by simp⟩
    .exact⟨by rw[List.all_append,hk];simp[hs],by simp⟩
   .simp at hp
  .obtain⟨v,hv,rfl⟩:=kI.mp hp
   exact⟨hk,jZ _⟩
 .simp at hp
def i7(d:dt n w=Ã):(kG ks w).length<=2000:=by
 unfold kG;split
 .split
  .split<;>simp
  .rw[jb];exact eY d
 .simp
theorem uH{α:Type}{f g:α->Option Nat}:∀{l:List α},(∀x∈l,f x=g x)->jv (l.map f)=jv (l.map g)
 | [],_=>rfl
 | x::r,h=>by
  have:=uH (f:=f) (g:=g) (l:=r) λy hy=>h y (zq _ hy)
  erw[zx];rw[h x zu];cases g x<;>simp[jv,this]
theorem iu:∀{n m:Nat} {p:W×List È},dt n p.1=Ã->n<=m->nodes rl m p=nodes rl n p
 | 0,_,_,d,_=>by cases d
 | n+1,0,_,_,h=>by omega
 | n+1,m+1,p,d,h=>by
  unfold nodes;rw[uH λq hq=>iu (n:=n) (m:=m) (fE (rl:=rl) d q hq) ∅]
noncomputable def x5(rl:List W):Nat->List (W×List È)->Bool
 | _,[]=>Ã
 | 0,_::_=>Â
 | m+1,p::s=>if qS rl p.2 p.1=Ã then x5 rl m ((kG p.2 p.1).reverse++s) else Â
theorem iT:∀(m:Nat) (s:List (W×List È)),(∀p∈s,dt 60 p.1=Ã)->x5 rl m s=fits m (jv (s.map (nodes rl 60)))
 | m,[],_=>by cases m<;>simp[x5,jv,fits]
 | 0,p::s,hs=>by
  have:∀t,nodes rl 60 p=À t->1<=t:=by
   intro t e;unfold nodes at e;split at e
   .split at e
    .cases e;omega
    .cases e
   .cases e
  erw[x5,zx];cases e:nodes rl 60 p with
  | none=>simp[jv,fits]
  | some t=>
   have:=this t e;erw[jv];cases jv (s.map (nodes rl 60)) with
   | none=>simp[fits]
   | some u=>simp[fits];omega
 | m+1,p::s,hs=>by
  have dp:=hs p zu;erw[x5,zx];cases ho:qS rl p.2 p.1 with
  | false=>
   have:nodes rl 60 p=Á:=by unfold nodes;simp[ho]
   simp[this,jv,fits]
  | true=>
   have hq:∀q∈kG p.2 p.1,dt 59 q.1=Ã:=fE (rl:=rl) dp
   have ih:=iT (rl:=rl) m ((kG p.2 p.1).reverse++s) (λq Na=>by
    rcases zA.mp Na with h | h
    .exact qh (hq q (ym.mp h)) ∅
    .exact hs q (zq _ h))
   rw[zW rfl,ih,List.map_append,gG,List.map_reverse,nB];have e1:jv ((kG p.2 p.1).map (nodes rl 60))=jv ((kG p.2 p.1).map (nodes rl 59)):=uH λq h=>iu (hq q h) ∅
   have e2:nodes rl 60 p=match jv ((kG p.2 p.1).map (nodes rl 59)) with
    | some t=>À (t+1)
    | none=>Á:=by
    show nodes rl (59+1) p=_
    unfold nodes;rw[zW ho]
   rw[e1,e2];cases jv ((kG p.2 p.1).map (nodes rl 59)) with
   | none=>simp[jv,fits]
   | some t=>
    erw[jv];cases jv (s.map (nodes rl 60)) with
    | none=>simp[fits]
    | some u=>simp[fits];omega
structure StkOk(m:Nat)(s:List (W×List È)):Prop where
 d:∀p∈s,dt 60 p.1=Ã
 k:∀p∈s,p.2.all Õ=Ã/\p.2.length+m<=900
 l:s.length+2000*m<=500000
def StkOk.next{p:W×List È}(h:StkOk (m+1) (p::s)):StkOk m ((kG p.2 p.1).reverse++s):=by
 have dp:=h.d p zu;obtain⟨k1,k2⟩:=h.k p zu;refine⟨λq hq=>?_,λq hq=>?_,?_⟩
 .rcases zA.mp hq with z | z
  .exact qh (fE (rl:=[]) dp q (ym.mp z)) ∅
  .exact h.d q (zq _ z)
 .rcases zA.mp hq with z | z
  .obtain⟨h1,h2⟩:=Jf k1 dp q (ym.mp z)
   exact⟨h1,by omega⟩
  .obtain⟨h1,h2⟩:=h.k q (zq _ z)
   exact⟨h1,by omega⟩
 .have:=i7 (ks:=p.2) dp
  have hl:=h.l;rw[zK,qF];erw[zr] at hl;omega
noncomputable def wT:MT:=zI (zk gI (zi kb [zd 4]) (LW 0))
noncomputable def wB(F:Fs):MS:=(zl (zS (kA uz (zd 4) []) (zD 5))
 (zl (ff 3 lm (LW 1))
 (zl (ki (vE (zI (zk gI (zd 3) (eC xB))) (yn (zI (zi F.aB [zd 0,zk zt (zd 5) (LW 0),zk zt (zd 5) (LW 1)]))))
 (ka (eC (.bl Â)))
 kg)
 (vn (kA xY (zd 4) [zi F.aA [zk zt (zd 5) (LW 0),zk zt (zd 5) (LW 1)]])))))
noncomputable def stk(s:List (W×List È)):List W:=(s.map place).reverse
def g7(p:W×List È)(s:List (W×List È)):stk (p::s)=stk s++[place p]:=by simp[stk]
def lQ(s:List (W×List È)):(stk s).length=s.length:=by simp[stk]
def sR{G:Fs}{h0:MH}(e1:∀(p:W×List È) h,dt 60 p.1=Ã->p.2.all Õ=Ã->G.aB [.tup rl,p.1,.tup (zh p.2)] h=À (.bl (qS rl p.2 p.1),h))
  (e2:∀(p:W×List È) h,dt 60 p.1=Ã->p.2.length<=1000->qS rl p.2 p.1=Ã->G.aA [p.1,.tup (zh p.2)] h=À (.fls ((kG p.2 p.1).map place),h)) :
  ∀(m:Nat) (s:List (W×List È)) (o5:Option W) (c:Int),StkOk m s->c+m=60->∃ρ o,jI wT (wB G) (m+2) [À (.tup rl),x1,x2,À (.int c),À (.ref h0.length),o5] (h0++[.lst (stk s)])=À (if x5 rl m s=Ã then Fl.nx ρ else .ret (.bl Â),h0++[o]):=by
 intro m;induction m with
 | zero=>
  intro s o5 c hs hc;cases s with
  | nil=>
   refine⟨[À (.tup rl),x1,x2,À (.int c),À (.ref h0.length),o5],.lst [],?_⟩;have t:wT [À (.tup rl),x1,x2,À (.int c),À (.ref h0.length),o5] (h0++[.lst []])=À (Â,h0++[.lst []]):=by
    simp![wT,kb,getL,at0,kL]
   have es:stk []=[]:=rfl;rw[es];unfold jI;rw[t];rw[show x5 rl _ []=Ã by unfold x5;rfl];rfl
  | cons p s=>
   have hl:(0:Int)<(s.length:Int)+1:=by omega
   have Gf:(60:Int)<c+1:=by omega
   refine⟨[],.lst (stk s),?_⟩;rw[g7];erw[jI,x5];have t:wT [À (.tup rl),x1,x2,À (.int c),À (.ref h0.length),o5] (h0++[.lst (stk s++[place p])])=À (Ã,h0++[.lst (stk s++[place p])]):=by
    simp![wT,kb,getL,at0,kL,lQ,hl]
   rw[t];have b:wB G [À (.tup rl),x1,x2,À (.int c),À (.ref h0.length),o5] (h0++[.lst (stk s++[place p])])=À (.ret (.bl Â),h0++[.lst (stk s)]):=by
    simp![wB,kA,getL,at0,uz,Zw,ff,lm,kL,xB,Gf]
   erw[b];rfl
 | succ m ih=>
  intro s o5 c hs hc;cases s with
  | nil=>
   refine⟨[À (.tup rl),x1,x2,À (.int c),À (.ref h0.length),o5],.lst [],?_⟩;have t:wT [À (.tup rl),x1,x2,À (.int c),À (.ref h0.length),o5] (h0++[.lst []])=À (Â,h0++[.lst []]):=by
    simp![wT,kb,getL,at0,kL]
   have es:stk []=[]:=rfl;rw[es];unfold jI;rw[t];rw[show x5 rl _ []=Ã by unfold x5;rfl];rfl
  | cons p s=>
   have dp:=hs.d p zu;obtain⟨k1,k2⟩:=hs.k p zu;have hl:(0:Int)<(s.length:Int)+1:=by omega
   have Gf:¬(60:Int)<c+1:=by omega
   have t:wT [À (.tup rl),x1,x2,À (.int c),À (.ref h0.length),o5] (h0++[.lst (stk s++[place p])])=À (Ã,h0++[.lst (stk s++[place p])]):=by
    simp![wT,kb,getL,at0,kL,lQ,hl]
   have i0:∀h,zt (place p) (.int 0) h=À (p.1,h):=λh=>xA
   have i1:∀h,zt (place p) (.int 1) h=À (.tup (zh p.2),h):=λh=>xW
   cases ho:qS rl p.2 p.1 with
   | false=>
    refine⟨[],.lst (stk s),?_⟩;rw[g7,show m+1+2=(m+2)+1 by omega];erw[jI,x5,ho];rw[t];have b:wB G [À (.tup rl),x1,x2,À (.int c),À (.ref h0.length),o5] (h0++[.lst (stk s++[place p])])=À (.ret (.bl Â),h0++[.lst (stk s)]):=by
     simp![wB,kA,getL,at0,uz,Zw,ff,lm,kL,xB,Gf,i0,i1,e1 p _ dp k1,ho]
    erw[b];rfl
   | true=>
    obtain⟨ρ,o,e⟩:=ih ((kG p.2 p.1).reverse++s) (À (place p)) (c+1) hs.next ∅;refine⟨ρ,o,?_⟩;rw[g7,show m+1+2=(m+2)+1 by omega];erw[x5,ho,jn];unfold jI;rw[t];have es:stk ((kG p.2 p.1).reverse++s)=stk s++(kG p.2 p.1).map place:=by simp[stk]
    have DF:(stk s).length+((kG p.2 p.1).map place).length<=cap:=by
     rw[lQ,jb];have h1:=i7 (ks:=p.2) dp;have h2:=hs.l;erw[zr] at h2;exact zG (show s.length+(kG p.2 p.1).length<=600000 by omega) (by decide)
    have b:wB G [À (.tup rl),x1,x2,À (.int c),À (.ref h0.length),o5] (h0++[.lst (stk s++[place p])])=À (.nx [À (.tup rl),x1,x2,À (.int (c+1)),À (.ref h0.length),À (place p)],h0++[.lst (stk s++(kG p.2 p.1).map place)]):=by
     have FP:(stk s).length+(kG p.2 p.1).length<=cap:=by simpa using DF
     simp![wB,kA,getL,at0,uz,Zw,ff,lm,kL,xB,Gf,i0,i1,e1 p _ dp k1,ho,e2 p _ dp ∅ ho,xY,xb,FP]
    erw[b];rw[<-es];exact e
def iC{ks:List È}(d:dt 60 w=Ã)(hk:ks.all Õ=Ã)(Nb:ks.length<=800)(hr:uM rl) :
  (step (step (step (step (step (step F)))))).aM [.tup rl,w,.tup (zh ks)] h=À (.bl (fits 60 (nodes rl 60 (w,ks))),h):=by
 have e1:=λ(p:W×List È) h (dp:dt 60 p.1=Ã) (hk:p.2.all Õ=Ã)=>gx (F:=F) (h:=h) dp (zF _) hk hr
 have e2:=λ(p:W×List È) h (dp:dt 60 p.1=Ã) (hk:p.2.length<=1000) (ho:qS rl p.2 p.1=Ã)=>fD (F:=step (step (step F))) (h:=h) dp (zF _) ho hk
 generalize step (step (step (step (step F))))=G at e1 e2;obtain⟨ρ,o,e⟩:=sR (h0:=h) (x1:=À w) (x2:=À (.tup (zh ks))) e1 e2 60 [(w,ks)] Á 0 ⟨λp hp=>by simp at hp;subst hp;exact d,λp hp=>by simp at hp;subst hp;exact⟨hk,by simp;omega⟩,by simp⟩ ∅;have e3:=l8 e;have hl:=iT (rl:=rl) 60 [(w,ks)] (λp hp=>by simp at hp;subst hp;exact d);have EU:x5 rl 60 [(w,ks)]=fits 60 (nodes rl 60 (w,ks)):=by
  rw[hl];erw[zx,jh];cases nodes rl 60 (w,ks)<;>simp[jv]
 rw[EU] at e3;refine KO (t:=[o]) (n:=1) ?_ rfl;have hb:aX G=zl (zS (LW 0) (zD 3)) (zl (zS (zi vj [zi zw [zd 1,zd 2]]) (zD 4)) (zl (uc wT (wB G)) (ka (eC (.bl Ã))))):=rfl;erw[step,k8,hb];have es:stk [(w,ks)]=[.tup [w,.tup (zh ks)]]:=rfl;rw[es] at e3;cases DY:fits 60 (nodes rl 60 (w,ks)) with
 | true=>
  rw[DY] at e3;simp![zw,vj,cap,e3]
 | false=>
  rw[DY] at e3;simp![zw,vj,cap,e3]
def RG.ok(h:RG rl):uM rl:=by
 intro r hr;obtain⟨i,hi,rfl⟩:=xF.mp hr;obtain⟨N,hs,body,e,l1,l2,w1,w2,p,o⟩:=h.g i hi;rw[kO hi] at e;injection e with e;exact⟨zh N,zh hs,body,e,by rw[ku];omega,by rw[ku];omega⟩
def Kf(d:dt 60 w=Ã)(hr:uM rl):(step (step (step (step (step (step (step F))))))).bz [.tup rl,w] h=À (.bl (fits 60 (nodes rl 60 (w,[]))),h):=by
 refine vt (n:=1) ?_ rfl;have e:=iC (F:=F) (h:=h) (ks:=[]) d rfl (by simp) hr;generalize step (step (step (step (step (step F)))))=G at e;have e':G.aM [.tup rl,w,.tup []] h=À (.bl (fits 60 (nodes rl 60 (w,[]))),h):=e;have c0:0<=cap:=by decide
 simp![cj,zw,c0,e']
noncomputable def uD(i:Int):È:=(toString i:String)
noncomputable def cq:W->List È
 | .str x=>[x]
 | .int i=>[uD i]
 | _=>[]
noncomputable def wps:W->List W
 | .tup [.str x,.int i,.tup a,.tup b]=>if x=="call" then [.str "(",.str x,.int i]++([.str "["]++a++[.str "]",.str "["]++b++[.str "]"])++[.str ")"] else [.str "("]++[.str x,.int i,.tup a,.tup b]++[.str ")"]
 | .tup l=>[.str "("]++l++[.str ")"]
 | _=>[]
noncomputable def tw:Nat->W->List È
 | n+1,.tup l=>(wps (.tup l)).flatMap (tw n)
 | 0,w=>cq w
 | _+1,w=>cq w
theorem ug(n:Nat)(x:È):tw n (.str x)=[x]:=by cases n<;>rfl
theorem uF(n:Nat)(i:Int):tw n (.int i)=[uD i]:=by cases n<;>rfl
def uY(hc:(x==("call":È))=Â):wps (th x r)=[.str "("]++(.str x::r)++[.str ")"]:=by
 unfold wps th;split
 .rename_i x' i a b e
  injection e with e;injection e with e1 e2;injection e1 with e1;subst e1 e2;rw[kY (by rw[hc];exact zO)]
 .rename_i l _ e
  injection e with e;subst e;rfl
 .rename_i h
  exact absurd rfl (h _)
theorem uf(i:Int)(a b:List W):wps (th "call" [.int i,.tup a,.tup b])=[.str "(",.str "call",.int i]++([.str "["]++a++[.str "]",.str "["]++b++[.str "]"])++[.str ")"]:=rfl
def qr{a b:List W}(h:MH)(l:a.length+b.length<=10000):addW (.fls a) (.fls b) h=À (.fls (a++b),h):=by
 erw[addW,kT,getL];rw[zW (zG l (by decide))]
def uO(h:MH):c9 [.tup a] h=À (.fls a,h):=by simp[c9,xb]
def BU{H:List È}(d:dt n w=Ã)(hn:n<=60)(sh:Sh rl k H w):(step F).au [w] h=À (.fls (wps w),h):=by
 have c1:1<=cap:=by decide
 have c2:2<=cap:=by decide
 have c3:3<=cap:=by decide
 rcases sh.split with pn | ⟨i,a,b,ns,hs,body,rfl,hi,e⟩
 .cases pn with
  | mk x r p hc hf hp=>
   obtain⟨m,rfl,hl,hd⟩:=kR d;have lw:low h.length (.fls (wps (th x r)))=Ã:=by
    rw[uY hc];unfold low;refine vF λv hv=>?_
    erw[zQ,zM,zp,zA,zm,zU] at hv;rcases hv with rfl | rfl | hv | rfl
    .unfold low;rfl
    .unfold low;rfl
    .exact qE (hd v (zq _ hv))
    .unfold low;rfl
   refine vw (h':=h) ?_ lw (kW _);rw[uY hc];erw[zr] at hl;have a1:=qr (a:=[.str "("]) (b:=.str x::r) h (by simp;omega);have a2:=qr (a:=[.str "("]++(.str x::r)) (b:=[.str ")"]) h (by simp;omega);have l1:=uO (a:=.str x::r) h;have j0:∀h,zt (.tup (.str x::r)) (.int 0) h=À (.str x,h):=λh=>xA
   have EJ:(x=("call":È))=False:=eq_false λq=>by rw[q] at hc;simp at hc
   generalize [W.str "("]++(.str x::r)=Y at a1 a2 ⊢;generalize Y++[W.str ")"]=Y2 at a2 ⊢;generalize hz:W.str x::r=Z at a1 l1 j0;have GW:th x r=.tup Z:=by rw[<-hz]
   rw[GW];simp![az,j0,kN,EJ,kf,c1,l1,a1,a2]
 .obtain⟨m,rfl,hl,hd⟩:=kR d
  obtain⟨m1,rfl,la,da⟩:=kR (hd (.tup a) (by simp));obtain⟨m2,e2,lb,db⟩:=kR (hd (.tup b) (by simp));have lw:low h.length (.fls (wps (th "call" [.int (i:Int),.tup a,.tup b])))=Ã:=by
   rw[uf];unfold low;refine vF λv hv=>?_
   have q:v∈a\/v∈b\/v=.str "(" \/ v=.str ")" \/ v=.str "[" \/ v=.str "]" \/ v=.str "call" \/ v=.int i:=by
    erw[zQ,zM,zp,zA,zm,zU] at hv;grind
   rcases q with q | q | rfl | rfl | rfl | rfl | rfl | rfl
   .exact qE (da v q)
   .exact qE (db v q)
   all_goals unfold low;rfl
  refine vw (h':=h) ?_ lw (kW _);rw[uf];have a1:=qr (a:=[.str "["]) (b:=a) h (by simp;omega);have a2:=qr (a:=[.str "["]++a) (b:=[.str "]",.str "["]) h (by simp;omega);have a3:=qr (a:=[.str "["]++a++[.str "]",.str "["]) (b:=b) h (by simp;omega);have a4:=qr (a:=[.str "["]++a++[.str "]",.str "["]++b) (b:=[.str "]"]) h (by simp;omega);have a5:=qr (a:=[.str "(",.str "call",.int (i:Int)]) (b:=[.str "["]++a++[.str "]",.str "["]++b++[.str "]"]) h (by simp;omega);have a6:=qr (a:=[.str "(",.str "call",.int (i:Int)]++([.str "["]++a++[.str "]",.str "["]++b++[.str "]"])) (b:=[.str ")"]) h (by simp;omega);have l1:=uO (a:=a) h;have l2:=uO (a:=b) h;generalize [W.str "(",.str "call",.int (i:Int)]++([.str "["]++a++[.str "]",.str "["]++b++[.str "]"])++[.str ")"]=Y6 at a6 ⊢;generalize [W.str "(",.str "call",.int (i:Int)]++([.str "["]++a++[.str "]",.str "["]++b++[.str "]"])=Y5 at a5 a6;generalize [W.str "["]++a++[.str "]",.str "["]++b++[.str "]"]=Y4 at a4 a5;generalize [W.str "["]++a++[.str "]",.str "["]++b=Y3 at a3 a4;generalize [W.str "["]++a++[.str "]",.str "["]=Y2 at a2 a3;generalize [W.str "["]++a=Y1 at a1 a2;have j0:∀h,zt (th "call" [.int (i:Int),.tup a,.tup b]) (.int 0) h=À (.str "call",h):=λh=>xA
  have j1:∀h,zt (th "call" [.int (i:Int),.tup a,.tup b]) (.int 1) h=À (.int (i:Int),h):=λh=>xW
  have j2:∀h,zt (th "call" [.int (i:Int),.tup a,.tup b]) (.int 2) h=À (.tup a,h):=λh=>gH
  have j3:∀h,zt (th "call" [.int (i:Int),.tup a,.tup b]) (.int 3) h=À (.tup b,h):=λh=>mf
  generalize th "call" [.int (i:Int),.tup a,.tup b]=D at j0 j1 j2 j3 ⊢;simp![az,j0,j1,j2,j3,kN,kf,c1,c2,c3,l1,l2,a1,a2,a3,a4,a5,a6]
theorem JN(F:Fs):aZ F=zl (zS (zi vj []) (zD 1)) (zl (zS (zi vj [zd 0]) (zD 2)) (zl (uc yT (yB F)) (ka (qB joinM (Mf " ") [zd 1])))):=rfl
noncomputable abbrev ρy(d:W)(n:Nat)(o:Option W):En:=[À d,À (.ref n),À (.ref (n+1)),o]
noncomputable abbrev hy(h0:MH)(acc:List È)(st:List W):MH:=h0++[.lst (zh acc),.lst st]
def at1{α:Type}(h:List α)(o p:α):(h++[o,p])[h.length+1]?=À p:=by rw[kj ∅];simp
def nv{α:Type}(h:List α)(o p:α):(h++[o,p])[h.length]?=À o:=by simp
def Q0{α:Type}(h:List α)(o p q:α):(h++[o,p]).set (h.length+1) q=h++[o,q]:=by rw[jH _ _ ∅];simp
def Wa{α:Type}(h:List α)(o p q:α):(h++[o,p]).set h.length q=h++[q,p]:=by rw[jH _ _ ∅];simp
def brks:List È:=["(",")","[","]"]
inductive Wr(rl:List W)(k:Nat)(H:List È):Nat->W->Prop
 | str (n:Nat) (x:È) (hx:x∈vocab\/x∈brks):Wr rl k H n (.str x)
 | int (n:Nat) (i:Int) (h0:0<=i) (h1:i<=1008):Wr rl k H n (.int i)
 | deed (n:Nat) (w:W) (o:okd rl k H (n+1) w) (d:dt 60 w=Ã) (lw:(wps w).length<=20) (p:∀v∈wps w,Wr rl k H n v) (nb:∀l,w=.tup l->∀y,W.str y∈l->y∈vocab):Wr rl k H (n+1) w
def gr{h0:MH}{st:List W}:yT (ρy d h0.length o) (hy h0 acc st)=À (decide (0<st.length),hy h0 acc st):=by
 have e:(0<(st.length:Int))=(0<st.length):=by simp
 simp![yT,kb,getL,at1,kL,e]
def lX{i:Int}(h0:0<=i)(h1:i<=1008):i.natAbs.log2<1920:=by
 have:i.natAbs<2 ^ 10:=by omega
 have:=xK (n:=i.natAbs) (k:=10);by_cases z:i.natAbs=0
 .rw[z];decide
 .exact wY ((xK z).mpr ∅) ∅
def Goes(c:MT)(b:MS)(ρ:En)(h:MH)(ρ':En)(h':MH):Prop:=∃k,∀m,jI c b (k+m) ρ h=jI c b m ρ' h'
def Goes.refl:Goes c b ρ h ρ h:=⟨0,λm=>by rw[Nat.zero_add]⟩
def Goes.trans(a:Goes c b ρ h r9 h1)(d:Goes c b r9 h1 xI h2):Goes c b ρ h xI h2:=by
 obtain⟨k,e⟩:=a;obtain⟨l,f⟩:=d;exact⟨k+l,λm=>by rw[Nat.add_assoc,e,f]⟩
def Goes.one(t:c ρ h=À (Ã,h))(e:b ρ h=À (.nx ρ',h')):Goes c b ρ h ρ' h':=⟨1,λm=>by
 rw[yg];show jI c b (m+1) ρ h=_
 erw[jI,t,e]⟩
def Goes.end(g:Goes c b ρ h ρ' h')(t:c ρ' h'=À (Â,h')):uc c b ρ h=À (.nx ρ',h'):=by
 obtain⟨k,e⟩:=g;refine l8 (n:=k+1) ?_;rw[e];erw[jI,t]
def sv{α:Type}(l:List α)(x:α):(l++[x])[(l++[x]).length-1]?=À x:=by simp
def ni{G:Fs}{h0:MH}:(zS (kA uz (zd 2) []) (zD 3)) (ρy d h0.length o) (hy h0 acc (st++[w]))=À (.nx (ρy d h0.length (À w)),hy h0 acc st):=by
 have e:=sv st w;simp[zS,kA,zd,bnd,ke,uz,getL,at1,e,Q0,zD]
def JC{G:Fs}{H:List È}{h0:MH}(e1:∀(w:W) (h:MH),dt 60 w=Ã->Sh rl k H w->G.au [w] h=À (.fls (wps w),h)) :
  ∀(n:Nat) (w:W),Wr rl k H n w->∀(acc:List È) (st:List W) (o:Option W),acc.length+(tw n w).length<=100000->st.length+20*n<=100000->
   ∃o',Goes yT (yB G) (ρy d h0.length o) (hy h0 acc (st++[w])) (ρy d h0.length o') (hy h0 (acc++tw n w) st):=by
 intro n;have leaf:∀(v:W) (x:È) (acc:List È) (st:List W) (o:Option W),tyB .tuple v=Â->(∀h,isW .tuple v h=À (.bl Â,h))->(∀h,eO [v] h=À (.str x,h))->acc.length+1<=100000->∃o',Goes yT (yB G) (ρy d h0.length o) (hy h0 acc (st++[v])) (ρy d h0.length o') (hy h0 (acc++[x]) st):=by
  intro v x acc st o _ hi hs hl;refine⟨À v,Goes.one ?_ ?_⟩
  .rw[gr];simp
  .have pp:=ni (G:=G) (d:=d) (w:=v) (h0:=h0) (o:=o) (acc:=acc) (st:=st)
   unfold yB;rw[zo pp];have c:(zh acc).length<cap:=by rw[ku];exact ql (show acc.length<=100000 by omega) (by decide)
   have sx:zh acc++[.str x]=zh (acc++[x]):=by simp[zh]
   simp[ki,zI,jp,zd,bnd,hi,wb,vn,kA,getL,nv,ke,zi,hs,qf,c,Wa,sx]
 induction n with
 | zero=>
  intro w hw acc st o hl hs;cases hw with
  | str _ x _=>exact leaf (.str x) x acc st o rfl (λh=>rfl) (λh=>rfl) (by simp[tw,cq] at hl;omega)
  | int _ i g0 g1=>exact leaf (.int i) (uD i) acc st o rfl (λh=>rfl) (λh=>by erw[eO];rw[zW (lX g0 g1)];rfl) (by simp[tw,cq] at hl;omega)
 | succ n ih=>
  intro w hw acc st o hl hs;cases hw with
  | str _ x _=>exact leaf (.str x) x acc st o rfl (λh=>rfl) (λh=>rfl) (by simp[tw,cq] at hl;omega)
  | int _ i g0 g1=>exact leaf (.int i) (uD i) acc st o rfl (λh=>rfl) (λh=>by erw[eO];rw[zW (lX g0 g1)];rfl) (by simp[tw,cq] at hl;omega)
  | deed _ _ od dd wl pp=>
   obtain⟨l,rfl⟩:=od.tup;have et:tw (n+1) (.tup l)=(wps (.tup l)).flatMap (tw n):=rfl;rw[et] at hl ⊢;have g1:Goes yT (yB G) (ρy d h0.length o) (hy h0 acc (st++[.tup l])) (ρy d h0.length (À (.tup l))) (hy h0 acc (st++(wps (.tup l)).reverse)):=by
    refine Goes.one (by rw[gr];simp) ?_;have pq:=ni (G:=G) (d:=d) (w:=.tup l) (h0:=h0) (o:=o) (acc:=acc) (st:=st);unfold yB;rw[zo pq];have e2:=λh=>e1 (.tup l) h dd od.1
    have rv:∀h,gS (.fls (wps (.tup l))) h=À (.fls (wps (.tup l)).reverse,h):=λh=>by
     erw[gS,getL,jL];rw[zW ∅]
    have c:st.length+(wps (.tup l)).reverse.length<=cap:=by rw[qF];exact zG (show st.length+(wps (.tup l)).length<=100020 by omega) (by decide)
    have it:∀h,isW .tuple (.tup l) h=À (.bl Ã,h):=λh=>rfl
    generalize (wps (.tup l)).reverse=Y at rv c ⊢;generalize wps (.tup l)=Z at e2 rv;simp[ki,zI,jp,zd,bnd,it,wb,vn,kA,getL,at1,ke,zi,e2,rv,xY,xb,c,Q0]
   have g2:∀(ls:List W) (acc:List È) (o:Option W),(∀v∈ls,Wr rl k H n v)->acc.length+(ls.flatMap (tw n)).length<=100000->ls.length<=20->∃o',Goes yT (yB G) (ρy d h0.length o) (hy h0 acc (st++ls.reverse)) (ρy d h0.length o') (hy h0 (acc++ls.flatMap (tw n)) st):=by
    intro ls;induction ls with
    | nil=>intro acc o _ _ _;exact⟨o,by simpa using Goes.refl⟩
    | cons v ls ih2=>
     intro acc o hv hl hn;erw[jk,zK,zr] at hl hn;obtain⟨o1,s1⟩:=ih v (hv v (zu ..)) acc (st++ls.reverse) o ∅ (by simp;omega);obtain⟨o2,s2⟩:=ih2 (acc++tw n v) o1 (λu hu=>hv u (zq _ hu)) (by rw[zK];omega) ∅;refine⟨o2,?_⟩;rw[jj,<-jG,jk,<-jG];exact s1.trans s2
   obtain⟨o',g3⟩:=g2 _ acc (À (.tup l)) pp hl wl;exact⟨o',g1.trans g3⟩
def Ui(p:pl n w=Ã):(wps w).length<=20:=by
 unfold wps;split
 .rename_i x i a b
  obtain⟨m,rfl,hl,hd⟩:=wq p;obtain⟨m1,rfl,la,da⟩:=wq (hd (.tup a) (by simp));obtain⟨m2,e2,lb,db⟩:=wq (hd (.tup b) (by simp));split
  .simp;omega
  .simp
 .obtain⟨m,rfl,hl,hd⟩:=wq p
  simp;omega
 .simp
noncomputable def x4(x:È):Bool:=decide (1<=x.length)&&decide (x.length<=6) && !(x.cps.toList.any (· == 32))
def Yj:∀x∈vocab,x4 x=Ã:=by decide +kernel
def UY:∀i:Fin 1009,x4 (uD ((i.val:Nat):Int))=Ã:=by decide +kernel
def mY(h0:0<=i)(h1:i<=1008):x4 (uD i)=Ã:=by
 have:=UY ⟨i.toNat,by omega⟩;simp only at this;rw[qg h0] at this;exact this
def oC(p:pl n w=Ã):(kr w).length<=8/\∀q∈kr w,pl n q=Ã:=by
 cases w with
 | tup l=>
  obtain⟨m,rfl,hl,hd⟩:=wq p;unfold kr;split
  .rename_i x r e
   cases e;split
   .split
    .rename_i y a b
     obtain⟨m1,rfl,la,da⟩:=wq (hd (.tup a) (by simp));obtain⟨m2,e2,lb,db⟩:=wq (hd (.tup b) (by simp));refine⟨by rw[zK];omega,λq hq=>?_⟩;rcases zA.mp hq with z | z
     .exact kU (da q z) ∅
     .exact kU (db q z) ∅
    .exact⟨by simp,λq hq=>by simp at hq⟩
   .split
    .rename_i pp _
     refine⟨?_,λq hq=>?_⟩
     .rw[jX];erw[zr] at hl;omega
     .exact kU (hd q (zq _ (j6 hq))) ∅
    .exact⟨by simp,λq hq=>by simp at hq⟩
  .exact⟨by simp,λq hq=>by simp at hq⟩
 | _=>exact⟨by simp[kr],λq hq=>by simp[kr] at hq⟩
def XN:∀x∈brks,x4 x=Ã:=by decide +kernel
theorem VN{H:List È}:∀(n m:Nat) (w:W),okd rl k H n w->pl m w=Ã->m<=60->Wr rl k H n w
 | 0,_,_,o,_,_=>by cases o
 | n+1,m,w,o,p,hm=>by
  refine .deed n w o (qh (x3 p) hm) (Ui p) (λv hv=>?_) (λl e y hy=>by
   subst e;obtain⟨m',rfl,hl,hd⟩:=wq p;have pv:=hd _ hy;cases m' with
   | zero=>cases pv
   | succ m'=>unfold pl at pv;simpa using pv)
  have xa:=oC p;have deed:∀q∈kr w,Wr rl k H n q:=λq hq=>VN n m q (o.2 q hq) (xa.2 q hq) hm
  have br:∀x∈brks,Wr rl k H n (.str x):=λx hx=>.str n x (.inr hx)
  rcases o.1.split with pn | ⟨i,a,b,ns,hs,body,rfl,hi,e⟩
  .cases pn with
   | mk x r pp hc hf hp=>
    obtain⟨m',rfl,hl,hd⟩:=wq p;rw[uY hc] at hv;have q:v=.str "(" \/ v=.str ")" \/ v∈(.str x::r):=by
     erw[zQ,zM,zp,zA,zm,zU] at hv ⊢;grind
    rcases q with rfl | rfl | q
    .exact br _ ⋯
    .exact br _ ⋯
    .have pv:=hd v q
     cases v with
     | str y=>
      cases m' with
      | zero=>cases pv
      | succ m'=>exact .str n y (.inl (by unfold pl at pv;simpa using pv))
     | int i=>
      cases m' with
      | zero=>cases pv
      | succ m'=>
       unfold pl at pv;rw[zb,ji,ji] at pv;exact .int n i pv.1 pv.2
     | tup l=>
      refine deed _ ?_;rw[<-hp];rcases zp.mp q with q | q
      .cases q
      .exact j8.mpr ⟨q,rfl⟩
     | _=>cases m'<;>cases pv
  .rw[uf] at hv
   have q:v∈a++b\/v=.str "(" \/ v=.str ")" \/ v=.str "[" \/ v=.str "]" \/ v=.str "call" \/ v=.int i:=by
    erw[zQ,zM,zp,zA,zm,zU] at hv ⊢;grind
   rcases q with q | rfl | rfl | rfl | rfl | rfl | rfl
   .exact deed v (by rw[uS];exact q)
   .exact br _ ⋯
   .exact br _ ⋯
   .exact br _ ⋯
   .exact br _ ⋯
   .exact .str n _ (.inl ⋯)
   .obtain⟨m',rfl,hl,hd⟩:=wq p
    have pv:=hd (.int i) (by simp);cases m' with
    | zero=>cases pv
    | succ m'=>
     unfold pl at pv;rw[zb,ji,ji] at pv;exact .int n i pv.1 pv.2
def ou{H:List È}:∀(n:Nat) (w:W),Wr rl k H n w->(∀x∈tw n w,x4 x=Ã)/\1<=(tw n w).length/\(tw n w).length<=20 ^ n:=by
 intro n;have lf:∀{m:Nat} {x:È},x4 x=Ã->(∀y∈[x],x4 y=Ã)/\1<=[x].length/\[x].length<=20 ^ m:=λhx=>⟨λy hy=>by rw[kJ.mp hy];exact hx,by simp,show 1<=20 ^ _ from Nat.pos_of_ne_zero (by simp)⟩
 have ls:∀{m:Nat} {x:È},(x∈vocab\/x∈brks)->(∀y∈[x],x4 y=Ã)/\1<=[x].length/\[x].length<=20 ^ m:=λhx=>lf (hx.elim (Yj _) (XN _))
 induction n with
 | zero=>
  intro w hw;cases hw with
  | str _ x hx=>exact ls hx
  | int _ i h0 h1=>exact lf (mY h0 h1)
 | succ n ih=>
  intro w hw;cases hw with
  | str _ x hx=>exact ls hx
  | int _ i h0 h1=>exact lf (mY h0 h1)
  | deed _ _ od dd wl pp=>
   obtain⟨l,rfl⟩:=od.tup;have et:tw (n+1) (.tup l)=(wps (.tup l)).flatMap (tw n):=rfl;rw[et];refine⟨λx hx=>?_,?_,?_⟩
   .obtain⟨v,hv,hx⟩:=vO.mp hx
    exact(ih v (pp v hv)).1 x hx
   .have:∃v,v∈wps (.tup l):=by
     unfold wps;split
     .split
      .exact⟨_,by simp;exact .inl rfl⟩
      .exact⟨_,by simp;exact .inl rfl⟩
     .exact⟨_,by simp;exact .inl rfl⟩
     .rename_i h
      exact absurd rfl (h l)
    obtain⟨v,hv⟩:=this;have h1:=(ih v (pp v hv)).2.1;obtain⟨x,hx⟩:=List.exists_mem_of_length_pos (by omega:0<(tw n v).length);exact List.length_pos_of_mem (vO.mpr ⟨v,hv,hx⟩)
   .have:∀ls:List W,(∀v∈ls,(tw n v).length<=20 ^ n)->(ls.flatMap (tw n)).length<=ls.length*20 ^ n:=by
     intro ls;induction ls with
     | nil=>intro _;simp
     | cons v ls ih2=>
      intro hv;have h1:=hv v (zu ..);have h2:=ih2 λu hu=>hv u (zq _ hu)
      rw[jk,zK,zr,Nat.succ_mul];omega
    have h1:=this (wps (.tup l)) λv hv=>(ih v (pp v hv)).2.2
    refine zG h1 ?_;rw[Nat.pow_succ,wX];exact Nat.mul_le_mul_left _ wl
noncomputable def jw(ws:List È):È:=Txt.join " " ws
def tY(ws:List È):jw ws=đ " " ws:=StrLaws.glued_eq_join _ _
def KG:(" ":È)=⟨#[32]⟩:=by decide +kernel
def free(x:È):Prop:=32∉x.cps.toList
theorem Wi:∀{a b c d:List Nat},32∉a->32∉c->a++32::b=c++32::d->a=c/\b=d
 | [],b,[],d,_,_,e=>by simpa using e
 | [],b,y::c,d,_,hc,e=>by simp at e;exact absurd e.1.symm (by intro z;exact hc (by simp[z]))
 | x::a,b,[],d,ha,_,e=>by simp at e;exact absurd e.1 (by intro z;exact ha (by simp[z]))
 | x::a,b,y::c,d,ha,hc,e=>by
  erw[zQ,qK] at e;obtain⟨h1,h2⟩:=Wi (a:=a) (c:=c) (λz=>ha (zq _ z)) (λz=>hc (zq _ z)) e.2;exact⟨by rw[e.1,h1],h2⟩
def cy(x y:È)(r:List È):(đ " " (x::y::r)).cps.toList=x.cps.toList++32::(đ " " (y::r)).cps.toList:=by
 show(x++" " ++ đ " " (y::r)).cps.toList=_
 rw[KG];show((x.cps ++ #[32])++(đ ⟨#[32]⟩ (y::r)).cps).toList=_
 simp
def rj{x y:È}(h:x.cps.toList=y.cps.toList):x=y:=Str.ext' (Array.toList_inj.mp h)
theorem oP:∀{ws vs:List È},ws≠[]->vs≠[]->(∀x∈ws,free x)->(∀x∈vs,free x)->(đ " " ws).cps.toList=(đ " " vs).cps.toList->ws=vs
 | [],_,h,_,_,_,_=>absurd rfl h
 | _,[],_,h,_,_,_=>absurd rfl h
 | [x],[y],_,_,_,_,e=>by rw[rj (x:=x) (y:=y) e]
 | [x],y::z::s,_,_,hx,_,e=>by
  rw[cy] at e;have e:x.cps.toList=y.cps.toList++32::(đ " " (z::s)).cps.toList:=e;exact absurd (show 32∈x.cps.toList by rw[e];simp) (hx x (by simp))
 | x::z::r,[y],_,_,_,hy,e=>by
  rw[cy] at e;have e:x.cps.toList++32::(đ " " (z::r)).cps.toList=y.cps.toList:=e;exact absurd (show 32∈y.cps.toList by rw[<-e];simp) (hy y (by simp))
 | x::z::r,y::u::s,_,_,hx,hy,e=>by
  rw[cy,cy] at e;obtain⟨h1,h2⟩:=Wi (hx x (by simp)) (hy y (by simp)) e;rw[rj h1,oP (ws:=z::r) (vs:=u::s) (by simp) (by simp) (λv hv=>hx v (zq _ hv)) (λv hv=>hy v (zq _ hv)) h2]
def mE(h:x4 x=Ã):free x:=by
 unfold x4 at h;erw[zb,zZ,wR] at h;intro m;exact h.2 32 m (by simp)
def eE{x:È}(h:x4 x=Ã):1<=x.length/\x.length<=6:=by
 unfold x4 at h;erw[zb,ji] at h;exact h.1
def YC{ws:List È}(h:∀x∈ws,x4 x=Ã)(l:ws.length<=10000):JoinOk " " ws=Ã/\(jw ws).length<=100000:=by
 have b1:(" ":È).length=1:=by decide +kernel
 have h6:∀y∈ws,y.length<=6:=λy hy=>(eE (h y hy)).2
 constructor
 .unfold JoinOk
  rw[StrLaws.joinFits h6 (by rw[b1];omega)];rfl
 .rw[tY]
  have h1:=StrLaws.join_length_le " " ws;have h2:=StrLaws.sumLen_le ws h6;rw[b1] at h1;omega
theorem aT:∀k:List È,strsOf (k.map .str)=À k
 | []=>rfl
 | x::k=>by erw[zx,strsOf,aT k]
theorem rD(x:È):low m (.str x)=Ã:=by unfold low;rfl
def KD{H:List È}(hw:Wr rl k H n w)(hn:n<=3):(step (step F)).aL [w] h=À (.str (jw (tw n w)),h):=by
 have e1:=λ(w:W) (h:MH) (d:dt 60 w=Ã) (sh:Sh rl k H w)=>BU (F:=F) (h:=h) d (zF _) sh
 generalize step F=G at e1;have tl:=ou n w hw;have l1:(tw n w).length<=8000:=zG tl.2.2 (zG (Nat.pow_le_pow_right ∅ hn) (by decide));obtain⟨o',g⟩:=JC (G:=G) (d:=w) (h0:=h) e1 n w hw [] [] Á (by simp;omega) (by simp;omega);have we:=g.end (by rw[gr];simp);rw[zM,zM] at we;have jo:=YC tl.1 ∅;refine vw (h':=hy h (tw n w) []) ?_ (rD _) (je _ _);have c0:(0:Nat)<=cap:=by decide
 have c1:(1:Nat)<=cap:=by decide
 have jm:joinM (.str " ") [.ref h.length] (hy h (tw n w) [])=À (.str (jw (tw n w)),hy h (tw n w) []):=by
  have e2:(getL (hy h (tw n w) []) (.ref h.length)).bind strsOf=À (tw n w):=by
   have:getL (hy h (tw n w) []) (.ref h.length)=À (zh (tw n w)):=by erw[getL,nv]
   rw[this];exact aT (tw n w)
  erw[joinM,e2];rw[zW jo.1];rfl
 have row:aZ G [À w,Á,Á,Á] h=À (.ret (.str (jw (tw n w))),hy h (tw n w) []):=by
  rw[JN];rw[zo (ρ':=[À w,À (.ref h.length),Á,Á]) (h':=h++[.lst []]) (by simp![vj,c0])];rw[zo (ρ':=ρy w h.length Á) (h':=hy h [] [w]) (by simp![vj,c1,zh])];rw[zo we];generalize jw (tw n w)=J at jm;generalize hy h (tw n w) []=HH at jm;simp![qB,jm]
 erw[k8,zr,zR,jn,zx,jh,Æ,zQ,zM];erw[row]
def Dd:∀c∈[48,49,50,51,52,53,54,55,56,57],uT "0123456789" ⟨#[c]⟩=Ã:=by decide +kernel
def Y0:∀i:Fin 1009,((uD ((i.val:Nat):Int)).cps.toList.all (λc=>[48,49,50,51,52,53,54,55,56,57].contains c)&&decide ((uD ((i.val:Nat):Int)).length<=4))=Ã:=by decide +kernel
def BF(h0:0<=i)(h1:i<=1008):dO (uD i)=Ã/\1<=(uD i).length/\(uD i).length<=4:=by
 have:=Y0 ⟨i.toNat,by omega⟩;simp only at this;rw[qg h0,zb,ji] at this;refine⟨?_,(eE (mY h0 h1)).1,this.2⟩;unfold dO;rw[zY] at this ⊢;exactλc hc=>Dd c (by simpa using this.1 c hc)
def Zi(h:n<=1000):n<=cap:=zG h (by decide)
structure Stk(h0 H:MH)(R:Nat)(st:List (Nat×List W)):Prop where
 pre:h0<+:H
 lo:h0.length<=R
 out:H[R]?=À (.lst ((st.map λp=>W.ref p.1).reverse))
 row:∀p∈st,H[p.1]?=À (.lst p.2)/\h0.length<=p.1/\p.1≠R
 nd:(st.map (·.1)).Nodup
def gq{α:Type}{a b:List α}{k:Nat}{o:α}(p:a<+:b)(h:a.length<=k):a<+:b.set k o:=by
 obtain⟨t,rfl⟩:=p;rw[jH _ _ h];exact je _ _
def eX{α:Type}{l:List α}{k:Nat}{x:α}(h:l[k]?=À x):k<l.length:=(zJ.mp h).1
def Stk.push{H:MH}{st:List (Nat×List W)}(s:Stk h0 H R st):Stk h0 ((H++[MO.lst []]).set R (MO.lst ((st.map λp=>W.ref p.1).reverse++[.ref H.length]))) R ((H.length,[])::st):=by
 have lR:=eX s.out;refine⟨gq (s.pre.trans (je _ _)) s.lo,s.lo,?_,?_,?_⟩
 .rw[jc (by rw[zK];omega),zx,jj]
 .intro p hp
  rcases zp.mp hp with rfl | hp
  .refine⟨?_,s.pre.length_le,by simp;omega⟩
   rw[jd (by simp;omega)];simp
  .obtain⟨h1,h2,h3⟩:=s.row p hp
   refine⟨?_,h2,h3⟩;rw[jd (kZ h3),zV (eX h1),h1]
 .rw[zx,jy]
  refine⟨λhm=>?_,s.nd⟩;obtain⟨p,hp,e⟩:=kI.mp hm;have:=eX (s.row p hp).1;simp only at e;omega
def Stk.top{h0 H:MH}{R k:Nat}{row:List W}{st:List (Nat×List W)}(s:Stk h0 H R ((k,row)::st))(r2:List W):Stk h0 (H.set k (.lst r2)) R ((k,r2)::st):=by
 obtain⟨h1,h2,h3⟩:=s.row _ (zu ..);have nd:=s.nd;rw[zx,jy] at nd;refine⟨gq s.pre h2,s.lo,?_,?_,by rw[zx,jy];exact nd⟩
 .rw[jd h3,s.out];rfl
 .intro p hp
  rcases zp.mp hp with rfl | hp
  .exact⟨jc (eX h1),h2,h3⟩
  .obtain⟨g1,g2,g3⟩:=s.row p (zq _ hp)
   refine⟨?_,g2,g3⟩;rw[jd (λe=>nd.1 (kI.mpr ⟨p,hp,e.symm⟩)),g1]
def Stk.pop{H:MH}{p:Nat×List W}{st:List (Nat×List W)}(s:Stk h0 H R (p::st)):Stk h0 (H.set R (.lst ((st.map λp=>W.ref p.1).reverse))) R st:=by
 have nd:=s.nd;rw[zx,jy] at nd;refine⟨gq s.pre s.lo,s.lo,jc (eX s.out),?_,nd.2⟩;intro p hp;obtain⟨g1,g2,g3⟩:=s.row p (zq _ hp);exact⟨by rw[jd (kZ g3),g1],g2,g3⟩
noncomputable abbrev ρz(D:W)(R:Nat)(o2 o3:Option W):En:=[À D,À (.ref R),o2,o3]
noncomputable def opn:List È:=["(","["]
noncomputable def cls:List È:=[")","]"]
def fQ(d:dt 1 (.str x)=Ã):inB h (.str x) (.tup [.str "(",.str "["])=À (kQ opn (.str x)):=xE (l:=opn) d ∅ ⋯
def lu(d:dt 1 (.str x)=Ã):inB h (.str x) (.tup [.str ")",.str "]"])=À (kQ cls (.str x)):=xE (l:=cls) d ∅ ⋯
def Km:∀x∈opn,(dt 1 (.str x)&&kQ opn (.str x))=Ã:=by decide +kernel
def iU:∀x∈cls,(dt 1 (.str x) && !kQ opn (.str x)&&kQ cls (.str x))=Ã:=by decide +kernel
noncomputable def nz(x:È):Bool:=dt 1 (.str x) && !kQ opn (.str x) && !kQ cls (.str x)
def Bs:∀i:Fin 1009,(Õ (uD ((i.val:Nat):Int)) && !opn.any (· == uD ((i.val:Nat):Int)) && !cls.any (· == uD ((i.val:Nat):Int)))=Ã:=by decide +kernel
theorem BC(g0:0<=i)(g1:i<=1008):nz (uD i)=Ã:=by
 have:=Bs ⟨i.toNat,by omega⟩;simp only at this;rw[qg g0] at this;erw[zb,zZ] at this;obtain⟨⟨a,b⟩,c⟩:=this;have l:=BF g0 g1;unfold nz;erw[zb,zZ];refine⟨⟨?_,b⟩,c⟩;unfold dt;rw[a,jq ∅];rfl
section
variable{h0:MH}{R:Nat}{D:W}
def c2:(2:Nat)<=cap:=by decide
def Co:(0:Nat)<=cap:=by decide
def z_open{H:MH}{st:List (Nat×List W)}(hx:x∈opn)(s:Stk h0 H R st)(hl:st.length<=1000):∃H',zB G (ρz D R (À (.str x)) o3) H=À (.nx (ρz D R (À (.str x)) o3),H')/\Stk h0 H' R ((H.length,[])::st):=by
 refine⟨_,?_,s.push⟩;have h1:=Km x hx;rw[zb] at h1;have e1:=λh=>fQ (h:=h) h1.1
 have ho:=s.out;have AH:(H++[MO.lst []])[R]?=_:=(zV (eX s.out)).trans s.out;have lc:((st.map λp=>W.ref p.1).reverse).length<cap:=by erw[qF,jb];exact ql hl (by decide)
 generalize (st.map λp=>W.ref p.1).reverse=L at ho AH lc ⊢;unfold zB;simp[ki,zI,zk,zd,bnd,zi,ke,eC,zw,c2,xh,e1,h1.2,wb,vn,kA,getL,ho,vj,Co,qf,AH,lc]
def VX{α:Type}(l:List α)(x:α):L2.atI (l++[x]) (-1)=À x:=by
 exact ii _ _
def Xw{G:Fs}{H:MH}{row:List W}(hx:nz x=Ã)(em:∀h,G.bK [.str x] h=À (v,h))(s:Stk h0 H R ((k,row)::st))(hl:row.length<=1000):∃H',zB G (ρz D R (À (.str x)) o3) H=À (.nx (ρz D R (À (.str x)) o3),H')/\Stk h0 H' R ((k,row++[v])::st):=by
 refine⟨_,?_,s.top (row++[v])⟩;unfold nz at hx;erw[zb,zZ] at hx;have e1:=λh=>fQ (h:=h) hx.1.1
 have e2:=λh=>lu (h:=h) hx.1.1
 have ho:=s.out;rw[zx,jj] at ho;have lk:=VX (st.map λp=>W.ref p.1).reverse (W.ref k);obtain⟨r1,-,-⟩:=s.row _ (zu ..);simp only at r1;have lc:row.length<cap:=ql hl (by decide);generalize (st.map λp=>W.ref p.1).reverse++[W.ref k]=L at ho lk;unfold zB;simp[ki,zI,zk,zd,bnd,zi,ke,eC,zw,c2,xh,e1,e2,hx.1.2,hx.2,wb,vn,kA,getL,ho,qf,em,jp,uE,zt,lk,r1,lc]
def WL{H:MH}{Ae:List W}{st:List (Nat×List W)}(hx:x∈cls)(s:Stk h0 H R ((k,row)::(k2,Ae)::st))(hl:Ae.length<=1000)(hs:st.length<=1000):∃H',zB G (ρz D R (À (.str x)) o3) H=À (.nx (ρz D R (À (.str x)) (À (.ref k))),H')/\Stk h0 H' R ((k2,Ae++[.tup row])::st):=by
 have s2:=s.pop;refine⟨_,?_,s2.top (Ae++[.tup row])⟩;have h1:=iU x hx;erw[zb,zZ] at h1;have e1:=λh=>fQ (h:=h) h1.1.1
 have e2:=λh=>lu (h:=h) h1.1.1
 have ho:=s.out;rw[zx,jj] at ho;have ll:(((k2,Ae)::st).map λp=>W.ref p.1).reverse.length=st.length+1:=by simp
 have lk:=sv (((k2,Ae)::st).map λp=>W.ref p.1).reverse (W.ref k);have ld:((((k2,Ae)::st).map λp=>W.ref p.1).reverse++[W.ref k]).dropLast=_:=List.dropLast_concat;have lg:(1:Int)<(((((k2,Ae)::st).map λp=>W.ref p.1).reverse++[W.ref k]).length:Int):=by rw[zK,ll];simp;omega
 have AH:=s2.out;have IM:L2.atI ((((k2,Ae)::st).map λp=>W.ref p.1).reverse) (-1)=À (.ref k2):=by rw[zx,jj];exact VX _ _
 obtain⟨r1,-,n1⟩:=s.row _ (zu ..);obtain⟨r2,-,n2⟩:=s2.row _ (zu ..);simp only at r1 r2 n1;have lc:Ae.length<cap:=ql hl (by decide);generalize (((k2,Ae)::st).map λp=>W.ref p.1).reverse++[W.ref k]=L at ho lk ld lg;generalize (((k2,Ae)::st).map λp=>W.ref p.1).reverse=L2 at AH IM r2 ld ⊢;have r3:(H.set R (.lst L2))[k]?=À (.lst row):=by rw[jd (kZ n1),r1]
 have pp:(zS (kA uz (zd 1) []) (zD 3)) (ρz D R (À (.str x)) o3) H=À (.nx (ρz D R (À (.str x)) (À (.ref k))),H.set R (.lst L2)):=by
  simp[zS,kA,zd,bnd,ke,uz,getL,ho,lk,zD,ld]
 generalize H.set R (.lst L2)=H2 at AH r2 r3 pp ⊢;have zc:zC G (ρz D R (À (.str x)) o3) H=À (.nx (ρz D R (À (.str x)) (À (.ref k))),H2.set k2 (.lst (Ae++[.tup row]))):=by
  unfold zC;rw[zo pp];simp[vn,kA,zk,zd,bnd,jp,eC,uE,zt,getL,AH,IM,r2,ke,zi,ap,r3,qf,lc]
 unfold zB;simp[ki,zI,zk,zd,bnd,zi,ke,eC,zw,c2,xh,e1,e2,h1.1.2,h1.2,wb,kb,getL,ho,kL,gI,lg,zc]
end
noncomputable def cond(x:È):Bool:=decide (1<=x.length)&&decide (x.length<=4)&&dO x
noncomputable def mv(x:È):W:=if cond x=Ã then .int ((intText? x).getD 0) else .str x
structure Wf(x:È):Prop where
 len:x.length<=6
 fr:free x
 ok:dt 1 (.str x)=Ã
 int:cond x=Ã->∃i,intText? x=À i/\0<=i/\i<=1009
def eQ(h:x∈vocab\/x∈brks):Wf x:=by
 have key:∀y∈vocab++brks,(x4 y&&dt 1 (.str y) && !cond y)=Ã:=by decide +kernel
 have k:=key x (zA.mpr h);erw[zb,zZ] at k;exact⟨(eE k.1.1).2,mE k.1.1,k.1.2,λz=>by rw[k.2] at z;cases z⟩
def CY(h0:0<=i)(h1:i<=1008):Wf (uD i):=by
 have z:=BC h0 h1;unfold nz at z;erw[zb] at z;have w:=mY h0 h1;exact⟨(eE w).2,mE w,z.1.1,λ_=>⟨i,PySem.W.KIN.num_reads h0 ∅,h0,by omega⟩⟩
def QI(h:x∈([("01":È),"1009","7",""]:List È)):Wf x:=by
 have key:∀y∈([("01":È),"1009","7",""]:List È),(decide (y.length<=6) && !(y.cps.toList.any (· == 32))&&dt 1 (.str y))=Ã:=by decide +kernel
 have k:=key x h;erw[zb,zZ,wR,ji] at k;refine⟨k.1.1,λm=>k.1.2 32 m (by simp),k.2,λc=>?_⟩;erw[zp,zm,zU] at h;rcases h with rfl | rfl | rfl | rfl
 .exact⟨1,by decide +kernel,by omega,by omega⟩
 .exact⟨1009,by decide +kernel,by omega,by omega⟩
 .exact⟨7,by decide +kernel,by omega,by omega⟩
 .exact absurd c ⋯
def m8(w:Wf x):(cond x=Ã/\∃i,intText? x=À i/\0<=i/\i<=1009/\mv x=.int i)\/(cond x=Â/\mv x=.str x):=by
 unfold mv;cases c:cond x with
 | true=>
  obtain⟨i,e,h0,h1⟩:=w.int c;exact .inl ⟨rfl,i,e,h0,h1,by rw[e];rfl⟩
 | false=>exact .inr ⟨rfl,rfl⟩
def BH(w:Wf x):dt 1 (mv x)=Ã:=by
 rcases m8 w with ⟨_,i,_,_,_,e⟩ | ⟨_,e⟩
 .rw[e];rfl
 .rw[e];exact w.ok
def int_of(w:Wf x)(e:intText? x=À i)(h:MH):gX [.str x] h=À (.int i,h):=by
 have:=w.len;erw[gX,e];rw[zW ∅]
def WN(w:Wf x):(step (step F)).bK [.str x] h=À (mv x,h):=by
 refine vt (n:=1) ?_ (BH w);have e:=λh=>fB (F:=F) (x:=x) (h:=h) (by have:=w.len;omega)
 have hl:=w.len;have hc:x.length<=cap:=Zi ∅;generalize step F=G at e;rcases m8 w with ⟨c,i,ei,_,_,em⟩ | ⟨c,em⟩
 .unfold cond at c
  erw[zb,ji] at c;have q1:(1:Int)<=(x.length:Int):=by omega
  have q2:(x.length:Int)<=4:=by omega
  rw[c.2] at e;have hi:=int_of w ei;rw[em];simp![bx,kb,hc,qv,kL,uG,q1,q2,e,hi]
 .rw[em]
  unfold cond at c;by_cases q1:(1:Int)<=(x.length:Int)
  .by_cases q2:(x.length:Int)<=4
   .have f:dO x=Â:=by
     rw[jq (show 1<=x.length by omega),jq (show x.length<=4 by omega)] at c;simpa using c
    rw[f] at e;simp![bx,kb,hc,qv,kL,uG,q1,q2,e]
   .simp![bx,kb,hc,qv,kL,uG,q1,q2]
  .simp![bx,kb,hc,qv,kL,uG,q1]
noncomputable def odd(x:È):List W:=((signs x).filter λw=>!(fh (uT "0123456789") w)).map id
def YN(x:È):(odd x).isEmpty=dO x:=by
 unfold odd signs dO;rw[List.map_id,qu,List.isEmpty_iff,List.filter_eq_nil_iff,zY];constructor
 .intro h c hc
  have:=h _ (kI.mpr ⟨c,hc,rfl⟩);simpa[fh] using this
 .intro h w hw
  obtain⟨c,hc,rfl⟩:=kI.mp hw;simp[fh,h c hc]
def B9{x:È}(hx:Õ x=Ã)(hc:c∈x.cps.toList):Õ ⟨#[c]⟩=Ã:=by
 unfold Õ at hx ⊢;simp_all
 obtain⟨i,hi,rfl⟩:=Array.getElem_of_mem hc;exact hx i hi
def YE{x:È}(hl:x.length<=1000):Qy [a,b,d,À (.str x),e,f] h=À (.fls (odd x),h):=by
 unfold Qy odd;refine iy (λw=>!(fh (uT "0123456789") w)) id ?_ ?_ ?_ ?_ ?_
 .simp![il]
 .intro w hw H'
  unfold signs at hw;obtain⟨c,_,rfl⟩:=kI.mp hw;simp![lT,fh]
 .intro w _ _ H';rfl
 .intro w hw _
  unfold signs at hw;obtain⟨c,_,rfl⟩:=kI.mp hw;unfold low;rfl
 .unfold signs
  rw[jb,fX];exact zG hl (by decide)
theorem XR(w:Wf x):dt 2 (.fls (odd x))=Ã:=by
 have ok:=w.ok;unfold dt at ok;rw[zb] at ok;unfold odd;rw[List.map_id];refine X2 ?_ λv hv=>?_
 .refine zG (List.length_filter_le ..) ?_
  unfold signs;rw[jb,fX];have:=w.len;omega
 .have hv:=(j8.mp hv).1
  unfold signs at hv;obtain⟨c,hc,rfl⟩:=kI.mp hv;unfold dt;rw[B9 ok.1 hc];rfl
def QE(w:Wf x):Zj [a,b,d,À (.str x),À (.fls (odd x)),f] h=À (mv x,h):=by
 have hl:=w.len;have hc:x.length<=cap:=Zi ∅;have c0:(0:Nat)<=cap:=by decide
 have eo:=λh=>nQ (h:=h) (XR w) ∅
 rw[YN] at eo;generalize odd x=O at eo;unfold Zj;rcases m8 w with ⟨c,i,ei,_,_,em⟩ | ⟨c,em⟩
 .unfold cond at c
  erw[zb,ji] at c;have q1:(0:Int)<(x.length:Int):=by omega
  have q0:0<x.length:=by omega
  have q2:(x.length:Int)<5:=by omega
  rw[c.2] at eo;have hi:=int_of w ei;rw[em];simp![kb,hc,kL,q0,q1,q2,kf,c0,eo,hi]
 .rw[em]
  unfold cond at c;by_cases q1:(0:Int)<(x.length:Int)
  .have q0:0<x.length:=by omega
   by_cases q2:(x.length:Int)<5
   .have f:dO x=Â:=by
     rw[jq (show 1<=x.length by omega),jq (show x.length<=4 by omega)] at c;simpa using c
    rw[f] at eo;simp![kb,hc,kL,q0,q1,q2,kf,c0,eo]
   .simp![kb,hc,kL,q0,q1,q2]
  .have q0:¬0<x.length:=by omega
   simp![kb,hc,kL,q0,q1]
noncomputable def uk(rows:List (List W))(x:È):Option (List (List W)):=
 if kQ opn (.str x)=Ã then À ([]::rows)
 else if kQ cls (.str x)=Ã then (match rows with
  | r::r2::st=>À ((r2++[.tup r])::st)
  | _=>Á)
 else (match rows with
  | r::st=>À ((r++[mv x])::st)
  | []=>Á)
noncomputable def xl:List È->List (List W)->Option (List (List W))
 | [],rows=>À rows
 | x::ws,rows=>match uk rows x with
  | some r=>xl ws r
  | none=>Á
noncomputable def one:List (List W)->Option W
 | [[t]]=>À t
 | _=>Á
noncomputable def thing(ws:List È):Option W:=(xl ws [[]]).bind one
inductive Gd:Nat->W->Prop
 | str (n:Nat) (x:È) (w:Wf x):Gd (n+1) (.str x)
 | int (n:Nat) (i:Int) (h0:0<=i) (h1:i<=1009):Gd (n+1) (.int i)
 | nil (n:Nat):Gd (n+1) (.tup [])
 | cons (n m k:Nat) (v:W) (l:List W) (hv:Gd n v) (hl:Gd (m+1) (.tup l)) (hk:n+m<=k):Gd (k+1) (.tup (v::l))
def Gd.mono(h:Gd n w):∀{m:Nat},n<=m->Gd m w:=by
 induction h with
 | str n x w=>intro m hm;obtain⟨m,rfl⟩:∃k,m=k+1:=⟨m-1,by omega⟩;exact .str m x w
 | int n i h0 h1=>intro m hm;obtain⟨m,rfl⟩:∃k,m=k+1:=⟨m-1,by omega⟩;exact .int m i h0 h1
 | nil n=>intro m hm;obtain⟨m,rfl⟩:∃k,m=k+1:=⟨m-1,by omega⟩;exact .nil m
 | cons n a k v l hv hl hk _ _=>intro m hm;obtain⟨m,rfl⟩:∃k,m=k+1:=⟨m-1,by omega⟩;exact .cons n a m v l hv hl ∅
def Gd.pos(h:Gd n w):1<=n:=by cases h<;>omega
def Gd.snoc(hv:Gd b v):∀{l:List W} {n:Nat},Gd (n+1) (.tup l)->Gd (n+b+1) (.tup (l++[v])):=by
 intro l;induction l with
 | nil=>intro n h;exact .cons b 0 _ v [] hv (.nil 0) ∅
 | cons u l ih=>
  intro n h;cases h with
  | cons a m k _ _ hu hl hk=>exact .cons a (m+b) _ u _ hu (ih hl) ∅
def Gd.all{l:List W}(h:Gd (n+1) (.tup l)):l.length<=n/\∀v∈l,Gd n v:=by
 induction l generalizing n with
 | nil=>exact⟨by simp,λv hv=>by cases hv⟩
 | cons u l ih=>
  cases h with
  | cons a m k _ _ hu hl hk=>
   obtain⟨i1,i2⟩:=ih hl;have:=hu.pos;refine⟨by simp;omega,λv hv=>?_⟩;rcases zp.mp hv with rfl | hv
   .exact hu.mono ∅
   .exact(i2 v hv).mono ∅
theorem Gd.dt:∀{n:Nat} {w:W},Gd n w->n<=1000->ML.dt n w=Ã
 | 0,w,h,_=>by have:=h.pos;omega
 | n+1,w,h,hn=>by
  cases h with
  | str _ x w=>exact qh w.ok ∅
  | int _ i _ _=>rfl
  | nil _=>exact be (by simp) λv hv=>by cases hv
  | cons a m _ v l hv hl hk=>
   have h:Gd (n+1) (.tup (v::l)):=.cons a m n v l hv hl hk;obtain⟨h1,h2⟩:=h.all;exact be ∅ λu hu=>(h2 u hu).dt ∅
def Cj(w:Wf x):Gd 1 (mv x):=by
 rcases m8 w with ⟨_,i,_,h0,h1,e⟩ | ⟨_,e⟩
 .rw[e];exact .int 0 i h0 h1
 .rw[e];exact .str 0 x w
inductive Rs:Nat->List (List W)->Prop
 | nil (n:Nat):Rs n []
 | cons (n m k:Nat) (r:List W) (rs:List (List W)) (hr:Gd (n+1) (.tup r)) (hs:Rs m rs) (hk:n+1+m<=k):Rs k (r::rs)
def Rs.step(h:Rs n rows)(w:Wf x)(e:uk rows x=À r):Rs (n+1) r:=by
 unfold uk at e;split at e
 .cases e
  exact .cons 0 n _ [] rows (.nil 0) h ∅
 .split at e
  .split at e
   .rename_i r1 r2 st
    cases e;cases h with
    | cons a b _ _ _ hr hs hk=>cases hs with
     | cons c d _ _ _ hr2 AZ Nb=>exact .cons (c+(a+1)) d _ _ _ (hr.snoc hr2) AZ ∅
   .cases e
  .split at e
   .rename_i r1 st
    cases e;cases h with
    | cons a b _ _ _ hr hs hk=>exact .cons (a+1) b _ _ _ ((Cj w).snoc hr) hs ∅
   .cases e
theorem Rs.run:∀(ws:List È) {n:Nat} {rows r:List (List W)},Rs n rows->(∀x∈ws,Wf x)->xl ws rows=À r->Rs (n+ws.length) r
 | [],n,rows,r,h,_,e=>by cases e;exact h
 | x::ws,n,rows,r,h,w,e=>by
  unfold xl at e;split at e
  .rename_i r1 e1
   have:=Rs.run ws (h.step (w x zu) e1) (λy hy=>w y (zq _ hy)) e;rw[zr,show n+(ws.length+1)=n+1+ws.length by omega];exact this
  .cases e
def uy{ws:List È}(w:∀x∈ws,Wf x)(e:thing ws=À t):Gd (ws.length+1) t:=by
 unfold thing at e;obtain⟨r,e1,e2⟩:=zf.mp e;unfold one at e2;split at e2
 .cases e2
  have:=Rs.run ws (n:=1) (.cons 0 0 _ [] [] (.nil 0) (.nil 0) ∅) w e1;cases this with
  | cons a b _ _ _ hr hs hk=>exact(hr.all.2 t zu).mono ∅
 .cases e2
theorem Bt(F:Fs):bJ F=zl (zS (zi vj [zi vj []]) (zD 1)) (zl (xi (wn (zd 0)) (zD 2) (zB F)) (zE F)):=rfl
def str_in:kQ l (.str x)=Ã↔x∈l:=by
 show l.any (· == x)=Ã↔_
 rw[vU];constructor
 .rintro⟨y,hy,e⟩;rw[<-eq_of_beq e];exact hy
 .intro h;exact⟨x,h,by simp⟩
noncomputable def tot(st:List (Nat×List W)):Nat:=(st.map λp=>p.2.length+1).sum
def ud(p:Nat×List W)(st:List (Nat×List W)):tot (p::st)=p.2.length+1+tot st:=by simp[tot]
theorem lM:∀st:List (Nat×List W),st.length<=tot st
 | []=>by simp[tot]
 | p::st=>by rw[ud,zr];have:=lM st;omega
section
variable{h0:MH}{R:Nat}{D:W}
def YQ{H:MH}(hx:x∈cls)(s:Stk h0 H R [p]):zB G (ρz D R (À (.str x)) o3) H=À (.ex,H):=by
 have h1:=iU x hx;erw[zb,zZ] at h1;have e1:=λh=>fQ (h:=h) h1.1.1
 have e2:=λh=>lu (h:=h) h1.1.1
 have ho:=s.out;erw[zx,jh,jj,yj,zM] at ho;unfold zB;simp[ki,zI,zk,zd,bnd,zi,ke,eC,zw,c2,xh,e1,e2,h1.1.2,h1.2,wb,getL,ho,kb,gI,kL,xS]
theorem i5{G:Fs}(em:∀x h,Wf x->G.bK [.str x] h=À (mv x,h)):∀(ws:List È) (st:List (Nat×List W)) (H:MH) (o2 o3:Option W),(∀x∈ws,Wf x)->st≠[]->Stk h0 H R st->tot st+ws.length<=900->
  (∀rows,xl ws (st.map (·.2))=À rows->∃H' o2' o3' AL,Stk h0 H' R AL/\AL.map (·.2)=rows/\forL (zD 2) (zB G) (zh ws) (ρz D R o2 o3) H=À (.nx (ρz D R o2' o3'),H')) /\
  (xl ws (st.map (·.2))=Á->∃H',h0<+:H'/\forL (zD 2) (zB G) (zh ws) (ρz D R o2 o3) H=À (.ex,H'))
 | [],st,H,o2,o3,_,_,s,_=>⟨λrows e=>by cases e;exact⟨H,o2,o3,st,s,rfl,rfl⟩,λe=>by cases e⟩
 | x::ws,st,H,o2,o3,w,ne,s,hl=>by
  erw[zr] at hl;have wx:=w x zu;have oj:∀(ρ':En) (H':MH) (r:List (List W)),uk (st.map (·.2)) x=À r->zB G (ρz D R (À (.str x)) o3) H=À (.nx ρ',H')->xl (x::ws) (st.map (·.2))=xl ws r/\forL (zD 2) (zB G) (zh (x::ws)) (ρz D R o2 o3) H=forL (zD 2) (zB G) (zh ws) ρ' H':=λρ' H' r e1 e2=>by
   constructor
   .conv=>lhs;unfold xl
    rw[e1]
   .have g:zD 2 (.str x) (ρz D R o2 o3) H=À (ρz D R (À (.str x)) o3,H):=by simp[zD]
    show forL (zD 2) (zB G) (.str x::zh ws) (ρz D R o2 o3) H=_
    conv=>lhs;rw[forL]
    erw[g,e2]
  have w':∀y∈ws,Wf y:=λy hy=>w y (zq _ hy)
  by_cases ho:x∈opn
  .obtain⟨H',e,s'⟩:=z_open (G:=G) (D:=D) (o3:=o3) ho s (by have:=lM st;omega)
   have ep:uk (st.map (·.2)) x=À ([]::st.map (·.2)):=by unfold uk;rw[zW (str_in.mpr ho)]
   obtain⟨a,b⟩:=oj _ _ _ ep e;rw[a,b];exact i5 em ws ((H.length,[])::st) H' _ _ w' (by simp) s' (by rw[ud];simp;omega)
  have no:¬kQ opn (.str x)=Ã:=λz=>ho (str_in.mp z)
  by_cases hc:x∈cls
  .match st,ne,s,hl,oj with
   | [p],_,s,hl,oj=>
    have ep:uk ([p].map (·.2)) x=Á:=by unfold uk;rw[kY no,zW (str_in.mpr hc)];rfl
    have en:xl (x::ws) ([p].map (·.2))=Á:=by unfold xl;rw[ep]
    refine⟨λrows e=>(by rw[en] at e;cases e),λ_=>⟨H,s.pre,?_⟩⟩;have g:zD 2 (.str x) (ρz D R o2 o3) H=À (ρz D R (À (.str x)) o3,H):=by simp[zD]
    show forL (zD 2) (zB G) (.str x::zh ws) (ρz D R o2 o3) H=_
    rw[forL];erw[g,YQ (G:=G) (D:=D) (o3:=o3) hc s]
   | (k,row)::(k2,Ae)::st,_,s,hl,oj=>
    rw[ud,ud] at hl;simp only at hl;obtain⟨H',e,s'⟩:=WL (G:=G) (D:=D) (o3:=o3) hc s ∅ (by have:=lM st;omega);have ep:uk (((k,row)::(k2,Ae)::st).map (·.2)) x=À ((Ae++[.tup row])::st.map (·.2)):=by unfold uk;rw[kY no,zW (str_in.mpr hc)];rfl
    obtain⟨a,b⟩:=oj _ _ _ ep e;rw[a,b];exact i5 em ws ((k2,Ae++[.tup row])::st) H' _ _ w' (by simp) s' (by rw[ud];simp;omega)
  have nc:¬kQ cls (.str x)=Ã:=λz=>hc (str_in.mp z)
  match st,ne,s,hl,oj with
  | (k,row)::st,_,s,hl,oj=>
   rw[ud] at hl;simp only at hl;have hz:nz x=Ã:=by
    unfold nz;rw[wx.ok];erw[zb,zZ,true_and];exact⟨qQ.mpr no,qQ.mpr nc⟩
   obtain⟨H',e,s'⟩:=Xw (G:=G) (D:=D) (o3:=o3) hz (λh=>em x h wx) s ∅;have ep:uk (((k,row)::st).map (·.2)) x=À ((row++[mv x])::st.map (·.2)):=by unfold uk;rw[kY no,kY nc];rfl
   obtain⟨a,b⟩:=oj _ _ _ ep e;rw[a,b];exact i5 em ws ((k,row++[mv x])::st) H' _ _ w' (by simp) s' (by rw[ud];simp;omega)
end
def z_end{H:MH}{st:List (Nat×List W)}(s:Stk h0 H R st)(hl:tot st<=900):zE G (ρz D R o2 o3) H=(match one (st.map (·.2)) with | some t=>À (.ret t,H) | none=>À (.ex,H)):=by
 have ho:=s.out;have ll:((st.map λp=>W.ref p.1).reverse).length=st.length:=by simp
 match st,s,ho,ll,hl with
 | [],s,ho,ll,hl=>
  erw[jh,yj] at ho;show zE G (ρz D R o2 o3) H=À (.ex,H)
  unfold zE;simp[zl,ki,vE,zI,zk,zd,bnd,zi,ke,eC,kb,getL,ho,kM,kD,wb,xS]
 | [(k,row)],s,ho,ll,hl=>
  obtain⟨r1,-,-⟩:=s.row _ (zu ..);erw[zx,jh,jj,yj,zM] at ho r1;have i0:∀h,h[R]?=À (.lst [.ref k])->zt (.ref R) (.int 0) h=À (.ref k,h):=λh e=>by simp[zt,getL,e,atI,wm]
  have Az:=i0 H ho;match row,r1 with
  | [t],r1=>
   have i1:zt (.ref k) (.int 0) H=À (t,H):=by simp[zt,getL,r1,atI,wm]
   show zE G (ρz D R o2 o3) H=À (.ret t,H)
   unfold zE;simp[zl,ki,vE,zI,zk,zd,bnd,zi,ke,eC,kb,getL,ho,Az,r1,i1,kM,kD,wb,kg,ka]
  | [],r1=>
   show zE G (ρz D R o2 o3) H=À (.ex,H)
   unfold zE;simp[zl,ki,vE,zI,zk,zd,bnd,zi,ke,eC,kb,getL,ho,Az,r1,kM,kD,wb,xS]
  | a::b::r,r1=>
   have ne:¬(a::b::r).length=1:=by simp
   have n2:¬(((a::b::r).length:Int)=1):=by simp;omega
   show zE G (ρz D R o2 o3) H=À (.ex,H)
   generalize a::b::r=row at r1 ne n2;unfold zE;simp[zl,ki,vE,zI,zk,zd,bnd,zi,ke,eC,kb,getL,ho,Az,r1,kM,kD,wb,xS,ne,n2]
 | p::q::st,s,ho,ll,hl=>
  have ne:¬((p::q::st).map λp=>W.ref p.1).reverse.length=1:=by rw[ll];simp
  have n2:¬((((p::q::st).map λp=>W.ref p.1).reverse.length:Int)=1):=by rw[ll];simp;omega
  have n3:one ((p::q::st).map (·.2))=Á:=by
   obtain⟨k,row⟩:=p;cases row with
   | nil=>rfl
   | cons a r=>cases r<;>rfl
  rw[n3];show zE G (ρz D R o2 o3) H=À (.ex,H)
  generalize ((p::q::st).map λp=>W.ref p.1).reverse=L at ho ne n2;unfold zE;simp[zl,ki,vE,zI,zk,zd,bnd,zi,ke,eC,kb,getL,ho,kM,kD,wb,xS,ne,n2]
def UQ(h:Rs n rows):∀{st:List (Nat×List W)},st.map (·.2)=rows->tot st<=n:=by
 induction h with
 | nil n=>intro st e;rw[List.map_eq_nil_iff.mp e];simp[tot]
 | cons a b k r rs hr hs hk ih=>
  intro st e;match st,e with
  | p::st,e=>
   rw[zx] at e;have e1:=(yV e).1;have:=ih (yV e).2;have:=hr.all.1;rw[ud,e1];omega
def W5{ws:List È}(w:∀x∈ws,Wf x)(hl:ws.length<=58):(step (step (step F))).aP [.fls (zh ws)] h=À (thing ws,h):=by
 have em:∀x h,Wf x->(step (step F)).bK [.str x] h=À (mv x,h):=λx h w=>WN w
 generalize step (step F)=G at em;have s0:Stk h (h++[.lst []]++[.lst [.ref h.length]]) (h.length+1) [(h.length,[])]:=by
  refine⟨?_,by omega,?_,?_,by simp⟩
  .rw[jG];exact je _ _
  .rw[jG];exact at1 h _ _
  .intro p hp
   rw[kJ] at hp;subst hp;exact⟨by rw[jG];exact nv h _ _,by simp,by simp⟩
 have lp:=i5 (D:=.fls (zh ws)) em ws [(h.length,[])] _ Á Á w (by simp) s0 (by simp[tot];omega);have c0:(0:Nat)<=cap:=by decide
 have c1:(1:Nat)<=cap:=by decide
 have it:∀H,wn (zd 0) (ρz (.fls (zh ws)) (h.length+1) Á Á) H=À (.items (zh ws),H):=λH=>by simp![wn,srcOf]
 have pre:∀f,zl (zS (zi vj [zi vj []]) (zD 1)) f [À (.fls (zh ws)),Á,Á,Á] h=f (ρz (.fls (zh ws)) (h.length+1) Á Á) (h++[.lst []]++[.lst [.ref h.length]]):=λf=>by
  rw[zo (ρ':=ρz (.fls (zh ws)) (h.length+1) Á Á) (h':=h++[.lst []]++[.lst [.ref h.length]]) (by simp![vj,c0,c1])]
 suffices hs:∃H',h<+:H'/\bJ G [À (.fls (zh ws)),Á,Á,Á] h=(match thing ws with | some t=>À (.ret t,H') | none=>À (.ex,H')) by
  obtain⟨H',p,e⟩:=hs;refine ZC (h':=H') ?_ p ?_
  .erw[fnX,zr,zR,jn,zx,jh,Æ,zQ,zM]
   rw[e];cases thing ws<;>rfl
  .cases et:thing ws with
   | none=>rfl
   | some t=>exact qE ((uy w et).dt ∅)
 rw[Bt,pre];cases er:xl ws [[]] with
 | none=>
  obtain⟨H',p,e⟩:=lp.2 er;refine⟨H',p,?_⟩;have:thing ws=Á:=by unfold thing;rw[er];rfl
  rw[this];unfold zl xi;rw[it];erw[e]
 | some rows=>
  obtain⟨H',o2,o3,st,s,IP,e⟩:=lp.1 rows er;refine⟨H',s.pre,?_⟩;have rs:=Rs.run ws (n:=1) (.cons 0 0 _ [] [] (.nil 0) (.nil 0) ∅) w er;have ze:=z_end (G:=G) (D:=.fls (zh ws)) (o2:=o2) (o3:=o3) s (by have:=UQ rs IP;omega);have:thing ws=one (st.map (·.2)):=by unfold thing;rw[er,IP];rfl
  rw[this,<-ze];have fr:(xi (wn (zd 0)) (zD 2) (zB G)) (ρz (.fls (zh ws)) (h.length+1) Á Á) (h++[.lst []]++[.lst [.ref h.length]])=À (.nx (ρz (.fls (zh ws)) (h.length+1) o2 o3),H'):=by
   unfold xi;rw[it];exact e
  rw[zo fr]
def YJ{p:Int×Int}(ho:qS rl ks (.tup (.str x::r))=Ã)(e:r0 r=.tup l)(hc:(x==("call":È))=Â)(hf:fm x=À p):p.2=1:=by
 unfold qS at ho;rw[zb] at ho;have h3:=ho.2;erw[e,dS,isWord,fY,kQ,Bool.false_and,Bool.or_self] at h3;have hm:(x,p)∈forms:=jT hf;erw[forms,zp,wG,zm,zU] at hm;rcases hm with ⟨rfl,rfl⟩ | ⟨rfl,rfl⟩ | ⟨rfl,rfl⟩ | ⟨rfl,rfl⟩ | ⟨rfl,rfl⟩ | ⟨rfl,rfl⟩ | ⟨rfl,rfl⟩ | ⟨rfl,rfl⟩ | ⟨rfl,rfl⟩ | ⟨rfl,rfl⟩ | ⟨rfl,rfl⟩ | ⟨rfl,rfl⟩ | ⟨rfl,rfl⟩ | ⟨rfl,rfl⟩ | ⟨rfl,rfl⟩<;>first
  | rfl
  | exact absurd hc ⋯
  | (exfalso;revert h3;repeat (first | rw[zW ⋯] | rw[kY ⋯]);simp;done)
def Qq(ho:qS rl ks (.tup (.str x::r))=Ã)(hc:(x==("call":È))=Â)(hv:W.tup l∈r):∃Ay,(W.tup l,Ay)∈kG ks (.tup (.str x::r)):=by
 unfold kG;dsimp only;by_cases t:(x==("let":È)||x=="own")=Ã
 .obtain⟨v,a,b,rfl⟩:=sg ho t
  rw[zW t];erw[zp,zm,zU,wG] at hv ⊢;rcases hv with hv | hv | hv
  .cases hv
  .exact⟨ks,.inl ⟨hv,rfl⟩⟩
  .exact⟨ks++[v],.inr ⟨hv,rfl⟩⟩
 .rw[kY t]
  obtain⟨_,_,p,e,hf⟩:=ur (ue ho);cases e;refine⟨ks,kI.mpr ⟨.tup l,?_,rfl⟩⟩;unfold kr;dsimp only;rw[if_neg (by rw[hc];simp),hf];show W.tup l∈r.drop (p.2.toNat-1)
  have fp:=K6 hf;match r,hv with
  | u::r,hv=>
   rcases zp.mp hv with rfl | hv
   .rw[YJ ho rfl hc hf]
    exact zu
   .have hm:(x,p)∈forms:=jT hf
    have:p.2<=2:=by
     have key:∀q∈forms,q.2.2<=2:=by decide +kernel
     exact key _ hm
    rcases(show p.2=1\/p.2=2 by omega) with q | q
    .rw[q];exact zq _ hv
    .rw[q];exact hv
def Bk(d:dt n w=Ã)(ho:qS rl ks w=Ã):(step F).au [w] h=À (.fls (wps w),h):=by
 have c1:1<=cap:=by decide
 have c2:2<=cap:=by decide
 have c3:3<=cap:=by decide
 obtain⟨x,r,p,rfl,hf⟩:=ur (ue ho);cases hc:x==("call":È) with
 | false=>
  obtain⟨m,rfl,hl,hd⟩:=kR d;have lw:low h.length (.fls (wps (th x r)))=Ã:=by
   rw[uY hc];unfold low;refine vF λv hv=>?_
   erw[zQ,zM,zp,zA,zm,zU] at hv;rcases hv with rfl | rfl | hv | rfl
   .unfold low;rfl
   .unfold low;rfl
   .exact qE (hd v (zq _ hv))
   .unfold low;rfl
  refine vw (h':=h) ?_ lw (kW _);rw[uY hc];erw[zr] at hl;have a1:=qr (a:=[.str "("]) (b:=.str x::r) h (by simp;omega);have a2:=qr (a:=[.str "("]++(.str x::r)) (b:=[.str ")"]) h (by simp;omega);have l1:=uO (a:=.str x::r) h;have j0:∀h,zt (.tup (.str x::r)) (.int 0) h=À (.str x,h):=λh=>xA
  have EJ:(x=("call":È))=False:=eq_false λq=>by rw[q] at hc;simp at hc
  generalize [W.str "("]++(.str x::r)=Y at a1 a2 ⊢;generalize Y++[W.str ")"]=Y2 at a2 ⊢;generalize hz:W.str x::r=Z at a1 l1 j0;simp![az,j0,kN,EJ,kf,c1,l1,a1,a2]
 | true=>
  obtain⟨i,a,b,rfl⟩:=ik ho hc;have hx:=eq_of_beq hc;subst hx;obtain⟨m,rfl,hl,hd⟩:=kR d;obtain⟨m1,rfl,la,da⟩:=kR (hd (.tup a) (by simp));obtain⟨m2,e2,lb,db⟩:=kR (hd (.tup b) (by simp));have lw:low h.length (.fls (wps (th "call" [.int i,.tup a,.tup b])))=Ã:=by
   rw[uf];unfold low;refine vF λv hv=>?_
   have q:v∈a\/v∈b\/v=.str "(" \/ v=.str ")" \/ v=.str "[" \/ v=.str "]" \/ v=.str "call" \/ v=.int i:=by
    erw[zQ,zM,zp,zA,zm,zU] at hv;grind
   rcases q with q | q | rfl | rfl | rfl | rfl | rfl | rfl
   .exact qE (da v q)
   .exact qE (db v q)
   all_goals unfold low;rfl
  refine vw (h':=h) ?_ lw (kW _);rw[uf];have a1:=qr (a:=[.str "["]) (b:=a) h (by simp;omega);have a2:=qr (a:=[.str "["]++a) (b:=[.str "]",.str "["]) h (by simp;omega);have a3:=qr (a:=[.str "["]++a++[.str "]",.str "["]) (b:=b) h (by simp;omega);have a4:=qr (a:=[.str "["]++a++[.str "]",.str "["]++b) (b:=[.str "]"]) h (by simp;omega);have a5:=qr (a:=[.str "(",.str "call",.int i]) (b:=[.str "["]++a++[.str "]",.str "["]++b++[.str "]"]) h (by simp;omega);have a6:=qr (a:=[.str "(",.str "call",.int i]++([.str "["]++a++[.str "]",.str "["]++b++[.str "]"])) (b:=[.str ")"]) h (by simp;omega);have l1:=uO (a:=a) h;have l2:=uO (a:=b) h;generalize [W.str "(",.str "call",.int i]++([.str "["]++a++[.str "]",.str "["]++b++[.str "]"])++[.str ")"]=Y6 at a6 ⊢;generalize [W.str "(",.str "call",.int i]++([.str "["]++a++[.str "]",.str "["]++b++[.str "]"])=Y5 at a5 a6;generalize [W.str "["]++a++[.str "]",.str "["]++b++[.str "]"]=Y4 at a4 a5;generalize [W.str "["]++a++[.str "]",.str "["]++b=Y3 at a3 a4;generalize [W.str "["]++a++[.str "]",.str "["]=Y2 at a2 a3;generalize [W.str "["]++a=Y1 at a1 a2;have j0:∀h,zt (th "call" [.int i,.tup a,.tup b]) (.int 0) h=À (.str "call",h):=λh=>xA
  have j1:∀h,zt (th "call" [.int i,.tup a,.tup b]) (.int 1) h=À (.int i,h):=λh=>xW
  have j2:∀h,zt (th "call" [.int i,.tup a,.tup b]) (.int 2) h=À (.tup a,h):=λh=>gH
  have j3:∀h,zt (th "call" [.int i,.tup a,.tup b]) (.int 3) h=À (.tup b,h):=λh=>mf
  show k8 _ _ _ [th "call" [.int i,.tup a,.tup b]] h=_
  generalize th "call" [.int i,.tup a,.tup b]=D at j0 j1 j2 j3 ⊢;simp![az,j0,j1,j2,j3,kN,kf,c1,c2,c3,l1,l2,a1,a2,a3,a4,a5,a6]
inductive Wg(rl:List W):Nat->W->Prop
 | str (n:Nat) (x:È) (w:Wf x):Wg rl n (.str x)
 | int (n:Nat) (i:Int) (h0:0<=i) (h1:i<=1009):Wg rl n (.int i)
 | deed (n:Nat) (l:List W) (ks:List È) (o:qS rl ks (.tup l)=Ã) (d:dt 60 (.tup l)=Ã) (lw:(wps (.tup l)).length<=200) (p:∀v∈wps (.tup l),Wg rl n v):Wg rl (n+1) (.tup l)
def UI{i:Int}(h0:0<=i)(h1:i<=1009):i.natAbs.log2<1920:=by
 by_cases z:i.natAbs=0
 .rw[z];decide
 .exact wY ((xK (k:=10) z).mpr ∅) ∅
def tQ{G:Fs}{h0:MH}(e1:∀(w:W) (ks:List È) (h:MH),dt 60 w=Ã->qS rl ks w=Ã->G.au [w] h=À (.fls (wps w),h)) :
  ∀(n:Nat) (w:W),Wg rl n w->∀(acc:List È) (st:List W) (o:Option W),acc.length+(tw n w).length<=100000->st.length+200*n<=100000->
   ∃o',Goes yT (yB G) (ρy d h0.length o) (hy h0 acc (st++[w])) (ρy d h0.length o') (hy h0 (acc++tw n w) st):=by
 intro n;have leaf:∀(v:W) (x:È) (acc:List È) (st:List W) (o:Option W),tyB .tuple v=Â->(∀h,isW .tuple v h=À (.bl Â,h))->(∀h,eO [v] h=À (.str x,h))->acc.length+1<=100000->∃o',Goes yT (yB G) (ρy d h0.length o) (hy h0 acc (st++[v])) (ρy d h0.length o') (hy h0 (acc++[x]) st):=by
  intro v x acc st o _ hi hs hl;refine⟨À v,Goes.one ?_ ?_⟩
  .rw[gr];simp
  .have pp:=ni (G:=G) (d:=d) (w:=v) (h0:=h0) (o:=o) (acc:=acc) (st:=st)
   unfold yB;rw[zo pp];have c:(zh acc).length<cap:=by rw[ku];exact ql (show acc.length<=100000 by omega) (by decide)
   have sx:zh acc++[.str x]=zh (acc++[x]):=by simp[zh]
   simp[ki,zI,jp,zd,bnd,hi,wb,vn,kA,getL,nv,ke,zi,hs,qf,c,Wa,sx]
 have ls:∀{n x} {acc:List È},acc.length+(tw n (.str x)).length<=100000->acc.length+1<=100000:=λ{n x acc} h=>by rw[ug] at h;exact h
 have li:∀{n i} {acc:List È},acc.length+(tw n (.int i)).length<=100000->acc.length+1<=100000:=λ{n i acc} h=>by rw[uF] at h;exact h
 have IQ:∀(n:Nat) (x:È) (acc:List È) (st:List W) (o:Option W),acc.length+(tw n (.str x)).length<=100000->∃o',Goes yT (yB G) (ρy d h0.length o) (hy h0 acc (st++[.str x])) (ρy d h0.length o') (hy h0 (acc++tw n (.str x)) st):=λn x acc st o hl=>by
  rw[ug];exact leaf (.str x) x acc st o rfl (λh=>rfl) (λh=>rfl) (ls hl)
 have IR:∀(n:Nat) (i:Int) (acc:List È) (st:List W) (o:Option W),0<=i->i<=1009->acc.length+(tw n (.int i)).length<=100000->∃o',Goes yT (yB G) (ρy d h0.length o) (hy h0 acc (st++[.int i])) (ρy d h0.length o') (hy h0 (acc++tw n (.int i)) st):=λn i acc st o g0 g1 hl=>by
  rw[uF];exact leaf (.int i) (uD i) acc st o rfl (λh=>rfl) (λh=>by erw[eO];rw[zW (UI g0 g1)];rfl) (li hl)
 induction n with
 | zero=>
  intro w hw acc st o hl hs;cases hw with
  | str _ x _=>exact IQ 0 x acc st o hl
  | int _ i g0 g1=>exact IR 0 i acc st o g0 g1 hl
 | succ n ih=>
  intro w hw acc st o hl hs;cases hw with
  | str _ x _=>exact IQ (n+1) x acc st o hl
  | int _ i g0 g1=>exact IR (n+1) i acc st o g0 g1 hl
  | deed _ l ks od dd wl pp=>
   have et:tw (n+1) (.tup l)=(wps (.tup l)).flatMap (tw n):=rfl;rw[et] at hl ⊢;have g1:Goes yT (yB G) (ρy d h0.length o) (hy h0 acc (st++[.tup l])) (ρy d h0.length (À (.tup l))) (hy h0 acc (st++(wps (.tup l)).reverse)):=by
    refine Goes.one (by rw[gr];simp) ?_;have pq:=ni (G:=G) (d:=d) (w:=.tup l) (h0:=h0) (o:=o) (acc:=acc) (st:=st);unfold yB;rw[zo pq];have e2:=λh=>e1 (.tup l) ks h dd od
    have rv:∀h,gS (.fls (wps (.tup l))) h=À (.fls (wps (.tup l)).reverse,h):=λh=>by
     erw[gS,getL,jL];rw[zW ∅]
    have c:st.length+(wps (.tup l)).reverse.length<=cap:=by rw[qF];exact zG (show st.length+(wps (.tup l)).length<=100200 by omega) (by decide)
    have it:∀h,isW .tuple (.tup l) h=À (.bl Ã,h):=λh=>rfl
    generalize (wps (.tup l)).reverse=Y at rv c ⊢;generalize wps (.tup l)=Z at e2 rv;simp[ki,zI,jp,zd,bnd,it,wb,vn,kA,getL,at1,ke,zi,e2,rv,xY,xb,c,Q0]
   have g2:∀(ls:List W) (acc:List È) (o:Option W),(∀v∈ls,Wg rl n v)->acc.length+(ls.flatMap (tw n)).length<=100000->ls.length<=200->∃o',Goes yT (yB G) (ρy d h0.length o) (hy h0 acc (st++ls.reverse)) (ρy d h0.length o') (hy h0 (acc++ls.flatMap (tw n)) st):=by
    intro ls;induction ls with
    | nil=>intro acc o _ _ _;exact⟨o,by simpa using Goes.refl⟩
    | cons v ls ih2=>
     intro acc o hv hl hn;erw[jk,zK,zr] at hl hn;obtain⟨o1,s1⟩:=ih v (hv v (zu ..)) acc (st++ls.reverse) o ∅ (by simp;omega);obtain⟨o2,s2⟩:=ih2 (acc++tw n v) o1 (λu hu=>hv u (zq _ hu)) (by rw[zK];omega) ∅;refine⟨o2,?_⟩;rw[jj,<-jG,jk,<-jG];exact s1.trans s2
   obtain⟨o',g3⟩:=g2 _ acc (À (.tup l)) pp hl wl;exact⟨o',g1.trans g3⟩
def YZ(h0:0<=i)(h1:i<=1009):(uD i).length<=6:=by
 have key:∀i:Fin 1010,(uD ((i.val:Nat):Int)).length<=6:=by decide +kernel
 have:=key ⟨i.toNat,by omega⟩;simp only at this;rw[qg h0] at this;exact this
def u0(h:x∈brks):Gd (n+1) (.str x):=.str n x (eQ (.inr h))
def ZJ(h:Gd (n+1) (.tup l)):∀v∈wps (.tup l),Gd (n+1) v:=by
 have b1:("(":È)∈brks:=by decide +kernel
 have b2:(")":È)∈brks:=by decide +kernel
 have b3:("[":È)∈brks:=by decide +kernel
 have b4:("]":È)∈brks:=by decide +kernel
 have hl:=h.all.2;intro v hv;unfold wps at hv;split at hv
 .rename_i x i a b e
  cases e;have ga:=(hl (.tup a) (by simp));have gb:=(hl (.tup b) (by simp));have da:∀u∈a,Gd (n+1) u:=λu hu=>by
   obtain⟨m,rfl⟩:∃k,n=k+1:=⟨n-1,by have:=ga.pos;omega⟩;exact(ga.all.2 u hu).mono ∅
  have db:∀u∈b,Gd (n+1) u:=λu hu=>by
   obtain⟨m,rfl⟩:∃k,n=k+1:=⟨n-1,by have:=gb.pos;omega⟩;exact(gb.all.2 u hu).mono ∅
  have dx:=(hl (.str x) (by simp)).mono (jZ n);have di:=(hl (.int i) (by simp)).mono (jZ n);split at hv
  .have q:v∈a\/v∈b\/v=.str "(" \/ v=.str ")" \/ v=.str "[" \/ v=.str "]" \/ v=.str x\/v=.int i:=by
    erw[zQ,zM,zp,zA,zm,zU] at hv;grind
   rcases q with q | q | rfl | rfl | rfl | rfl | rfl | rfl
   .exact da v q
   .exact db v q
   .exact u0 b1
   .exact u0 b2
   .exact u0 b3
   .exact u0 b4
   .exact dx
   .exact di
  .erw[zQ,zM,zp,zA,zm,zU] at hv
   rcases hv with rfl | rfl | rfl | rfl | rfl | rfl
   .exact u0 b1
   .exact dx
   .exact di
   .exact ga.mono (jZ n)
   .exact gb.mono (jZ n)
   .exact u0 b2
 .rename_i l' _ e
  cases e;erw[zQ,zM,zp,zA,zm,zU] at hv;rcases hv with rfl | hv | rfl
  .exact u0 b1
  .exact(hl v hv).mono (jZ n)
  .exact u0 b2
 .cases hv
theorem ZF:∀(m:Nat) {n:Nat} {w:W},Gd n w->∀x∈tw m w,x.length<=6
 | 0,n,w,h,x,hx=>by
  cases h with
  | str _ y w=>rw[ug] at hx;rw[kJ.mp hx];exact w.len
  | int _ i h0 h1=>rw[uF] at hx;rw[kJ.mp hx];exact YZ h0 h1
  | nil _=>cases hx
  | cons _ _ _ _ _ _ _ _=>cases hx
 | m+1,n,w,h,x,hx=>by
  have tp:∀l,w=.tup l->x.length<=6:=λl e=>by
   subst e;obtain⟨n,rfl⟩:∃k,n=k+1:=⟨n-1,by have:=h.pos;omega⟩;have hx:x∈(wps (.tup l)).flatMap (tw m):=hx;obtain⟨v,hv,hx⟩:=vO.mp hx;exact ZF m (ZJ h v hv) x hx
  cases h with
  | str _ y w=>rw[ug] at hx;rw[kJ.mp hx];exact w.len
  | int _ i h0 h1=>rw[uF] at hx;rw[kJ.mp hx];exact YZ h0 h1
  | nil _=>exact tp _ rfl
  | cons _ _ _ _ _ _ _ _=>exact tp _ rfl
def sY{f:W->List È}(hf:∀n w,Gd n w->(f w).length<=10*n):∀{l:List W} {n:Nat},Gd (n+1) (.tup l)->(l.flatMap f).length<=10*n:=by
 intro l;induction l with
 | nil=>intro n h;simp
 | cons u l ih=>
  intro n h;cases h with
  | cons a m k _ _ hu hl hk=>
   have:=hf a u hu;have:=ih hl;rw[jk,zK];omega
theorem VH:∀(m n:Nat) (w:W),Gd n w->(tw m w).length<=10*n
 | 0,n,w,h=>by
  have:=h.pos;have:(cq w).length<=1:=by cases w<;>simp[cq]
  show(cq w).length<=_
  omega
 | m+1,n,w,h=>by
  have ih:=VH m;have hp:=h.pos;have lf:(cq w).length<=10*n:=by
   have:(cq w).length<=1:=by cases w<;>simp[cq]
   omega
  have tp:∀l,w=.tup l->(tw (m+1) w).length<=10*n:=λl e=>by
   subst e;obtain⟨n,rfl⟩:∃k,n=k+1:=⟨n-1,by omega⟩;show((wps (.tup l)).flatMap (tw m)).length<=_
   have fl:=sY ih h;unfold wps;split
   .rename_i x i a b e
    cases e;cases h with
    | cons n1 m1 _ _ _ hx h1 k1=>cases h1 with
     | cons n2 m2 _ _ _ hi h2 k2=>cases h2 with
      | cons n3 m3 _ _ _ ga h3 k3=>cases h3 with
       | cons n4 m4 _ _ _ gb h4 k4=>
        obtain⟨n3,rfl⟩:∃k,n3=k+1:=⟨n3-1,by have:=ga.pos;omega⟩;obtain⟨n4,rfl⟩:∃k,n4=k+1:=⟨n4-1,by have:=gb.pos;omega⟩;have fa:=sY ih ga;have fb:=sY ih gb;have:=hx.pos;have:=hi.pos;split
        .erw[qG,jk,qU,zK,ug,uF,zr,zR]
         omega
        .erw[qG,jk,qU,zK,ug,uF,zr,zR]
         have:=ih _ _ ga;have:=ih _ _ gb;omega
   .rename_i l' _ e
    cases e;erw[qG,jk,qU,zK,ug,zr,zR];omega
   .simp
  cases h with
  | str _ y w=>exact lf
  | int _ i h0 h1=>exact lf
  | nil _=>exact tp _ rfl
  | cons _ _ _ _ _ _ _ _=>exact tp _ rfl
def eP{ws:List È}(h6:∀y∈ws,y.length<=6)(l:ws.length<=10000):JoinOk " " ws=Ã/\(jw ws).length<=100000:=by
 have b1:(" ":È).length=1:=by decide +kernel
 constructor
 .unfold JoinOk
  rw[StrLaws.joinFits h6 (by rw[b1];omega)];rfl
 .rw[tY]
  have h1:=StrLaws.join_length_le " " ws;have h2:=StrLaws.sumLen_le ws h6;rw[b1] at h1;omega
theorem mj:∀{l:List (Option Nat)} {t:Nat},jv l=À t->∀o∈l,∃u,o=À u
 | [],_,_,o,ho=>by cases ho
 | none::l,t,e,o,ho=>by cases e
 | some a::l,t,e,o,ho=>by
  rcases zp.mp ho with rfl | ho
  .exact⟨a,rfl⟩
  .unfold jv at e
   cases q:jv l with
   | none=>rw[q] at e;cases e
   | some b=>exact mj q o ho
def W6(h:Gd (n+1) (.tup l))(hn:n<=59):(wps (.tup l)).length<=200:=by
 have hl:=h.all;unfold wps;split
 .rename_i x i a b e
  cases e;have ga:=(hl.2 (.tup a) (by simp));have gb:=(hl.2 (.tup b) (by simp));obtain⟨m,rfl⟩:∃k,n=k+1:=⟨n-1,by have:=ga.pos;omega⟩;have:=ga.all.1;have:=gb.all.1;split
  .simp;omega
  .simp
 .rename_i l' _ e
  cases e;simp;have:=hl.1;omega
 .simp
theorem tq:∀(n m:Nat) (w:W) (ks:List È),Gd n w->n<=59->(∃t,nodes rl m (w,ks)=À t)->Wg rl n w
 | 0,_,_,_,g,_,_=>by have:=g.pos;omega
 | n+1,0,w,ks,g,hn,⟨t,e⟩=>by cases e
 | n+1,m+1,w,ks,g,hn,⟨t,e⟩=>by
  unfold nodes at e;split at e
  .rename_i ho
   dsimp only at ho e;cases sm:jv ((kG ks w).map (nodes rl m)) with
   | none=>rw[sm] at e;cases e
   | some t'=>
    have pt:∀p∈kG ks w,∃u,nodes rl m p=À u:=λp hp=>mj sm _ (kI.mpr ⟨p,hp,rfl⟩)
    obtain⟨x,r,p,rfl,hf⟩:=ur (ue ho);have gl:=g.all.2;have lf:∀v,Gd (n+1) v->(∀l,v=.tup l->Wg rl n v)->Wg rl n v:=λv gv ht=>by
     cases gv with
     | str _ x w=>exact .str n x w
     | int _ i h0 h1=>exact .int n i h0 h1
     | nil _=>exact ht _ rfl
     | cons _ _ _ _ _ _ _ _=>exact ht _ rfl
    refine .deed n _ ks ho (qh (g.dt ∅) ∅) (W6 g ∅) λv hv=>?_
    refine lf v (ZJ g v hv) λl el=>?_
    subst el;cases hc:x==("call":È) with
    | false=>
     have hw:=uY (r:=r) hc;unfold th at hw;rw[hw] at hv;erw[zQ,zM,zp,zA,zm,zU,reduceCtorEq,false_or] at hv;obtain⟨Ay,hp⟩:=Qq ho hc hv;exact tq n m _ Ay (gl _ (zq _ hv)) ∅ (pt _ hp)
    | true=>
     obtain⟨i,a,b,rfl⟩:=ik ho hc;have hx:=eq_of_beq hc;subst hx;have hw:=uf i a b;unfold th at hw;rw[hw] at hv;have q:W.tup l∈a\/W.tup l∈b:=by
      erw[zQ,zM,zp,zA,zm,zU,reduceCtorEq,false_or] at hv;grind
     have pk:kG ks (.tup [.str "call",.int i,.tup a,.tup b])=(a++b).map λp=>(p,ks):=by
      unfold kG;dsimp only;rw[if_neg ⋯];rfl
     rw[pk] at pt;have ga:=gl (.tup a) (by simp);have gb:=gl (.tup b) (by simp);obtain⟨n',rfl⟩:∃k,n=k+1:=⟨n-1,by have:=ga.pos;omega⟩;have gv:Gd (n'+1) (.tup l):=by
      rcases q with q | q
      .exact(ga.all.2 _ q).mono ∅
      .exact(gb.all.2 _ q).mono ∅
     exact tq (n'+1) m _ ks gv ∅ (pt _ (kI.mpr ⟨_,zA.mpr q,rfl⟩))
  .cases e
def sW(g:Gd n w)(hn:n<=59)(hw:Wg rl n w):(step (step F)).aL [w] h=À (.str (jw (tw n w)),h):=by
 have e1:=λ(w:W) (ks:List È) (h:MH) (d:dt 60 w=Ã) (sh:qS rl ks w=Ã)=>Bk (F:=F) (h:=h) d sh
 generalize step F=G at e1;have l1:=VH n n w g;obtain⟨o',g1⟩:=tQ (G:=G) (d:=w) (h0:=h) e1 n w hw [] [] Á (by simp;omega) (by simp;omega);have we:=g1.end (by rw[gr];simp);rw[zM,zM] at we;have jo:=eP (ZF n g) ∅;refine vw (h':=hy h (tw n w) []) ?_ (rD _) (je _ _);have c0:(0:Nat)<=cap:=by decide
 have c1:(1:Nat)<=cap:=by decide
 have jm:joinM (.str " ") [.ref h.length] (hy h (tw n w) [])=À (.str (jw (tw n w)),hy h (tw n w) []):=by
  have e2:(getL (hy h (tw n w) []) (.ref h.length)).bind strsOf=À (tw n w):=by
   have:getL (hy h (tw n w) []) (.ref h.length)=À (zh (tw n w)):=by erw[getL,nv]
   rw[this];exact aT (tw n w)
  erw[joinM,e2];rw[zW jo.1];rfl
 have row:aZ G [À w,Á,Á,Á] h=À (.ret (.str (jw (tw n w))),hy h (tw n w) []):=by
  rw[JN];rw[zo (ρ':=[À w,À (.ref h.length),Á,Á]) (h':=h++[.lst []]) (by simp![vj,c0])];rw[zo (ρ':=ρy w h.length Á) (h':=hy h [] [w]) (by simp![vj,c1,zh])];rw[zo we];generalize jw (tw n w)=J at jm;generalize hy h (tw n w) []=HH at jm;simp![qB,jm]
 erw[k8,zr,zR,jn,zx,jh,Æ,zQ,zM];erw[row]
def pC(ne:ws≠[])(h:∀x∈ws,free x):Txt.split (jw ws) " " = ws:=by
 refine(oP ne ?_ h (λx hx=>?_) ?_).symm
 .intro e
  have:=PyProof.Rows.split_pos (jw ws) " ";rw[e] at this;simp at this
 .rw[KG] at hx
  exact StrLaws.split_free _ 32 x hx
 .rw[StrLaws.join_split,tY]
noncomputable def good(rl:List W)(t:W):Bool:=fits 60 (nodes rl 60 (t,[]))
noncomputable def rd(rl:List W)(ws:List È):Option W:=(thing ws).bind λt=>if (good rl t&&(jw (tw (ws.length+1) t)==jw ws))=Ã then À t else Á
structure RdOk(G:Fs)(rl:List W):Prop where
 th:∀ws h,(∀x∈ws,Wf x)->ws.length<=58->G.aP [.fls (zh ws)] h=À (thing ws,h)
 dd:∀w h,dt 60 w=Ã->G.bz [.tup rl,w] h=À (.bl (good rl w),h)
 wr:∀n w h,Gd n w->n<=59->Wg rl n w->G.aL [w] h=À (.str (jw (tw n w)),h)
def VL(hr:uM rl)(m:Nat):RdOk (up (m+7) F) rl:=
 ⟨λws h w l=>W5 (F:=up (m+4) F) w l,λw h d=>Kf (F:=up m F) d hr,λn w h g hn hw=>sW (F:=up (m+5) F) g hn hw⟩
def si(g:Gd n t)(hn:n<=59)(h:good rl t=Ã):Wg rl n t:=by
 unfold good fits at h;split at h
 .rename_i u e
  exact tq n 60 t [] g hn ⟨u,e⟩
 .cases h
def mw{ws:List È}{ρ:En}(w:∀x∈ws,Wf x)(ne:ws≠[])(hl:ws.length<=58)(hk:ρ[k]?=À (À (.str (jw ws)))):qB splitM (zd k) [Mf " "] ρ h=À (.fls (zh ws),h):=by
 have b1:((" ":È).length==0)=Â:=by decide +kernel
 have jl:=(eP (λy hy=>(w y hy).len) (show ws.length<=10000 by omega)).2;have sp:=pC ne λx hx=>(w x hx).fr
 have e:splitM (.str (jw ws)) [.str " "] h=À (.fls (zh ws),h):=by
  erw[splitM];rw[zW ⟨b1,jl⟩,sp];rfl
 simp[qB,bnd,zd,hk,ke,eC,e]
def UZ{ws:List È}(K:RdOk G rl)(w:∀x∈ws,Wf x)(ne:ws≠[])(hl:ws.length<=58):gA (fnX 2 1 (cC G)) [.tup rl,.str (jw ws)] h=À (rd rl ws,h):=by
 have lw:(rd rl ws).all (low h.length)=Ã:=by
  cases e:rd rl ws with
  | none=>rfl
  | some t=>
   unfold rd at e;obtain⟨u,e1,e2⟩:=zf.mp e;split at e2
   .cases e2
    exact qE ((uy w e1).dt ∅)
   .cases e2
 refine ZC (h':=h) ?_ (kW _) lw;erw[fnX,zr,zR,jn,zx,jh,Æ,zQ,zM];have sp:=mw (ρ:=[À (.tup rl),À (.str (jw ws)),Á]) (h:=h) (k:=1) w ne hl rfl;have s1:=K.th ws h w hl;have ma:ke [qB splitM (zd 1) [Mf " "]] [À (.tup rl),À (.str (jw ws)),Á] h=À ([.fls (zh ws)],h):=by
  simp[ke,bnd,sp]
 unfold cC;cases et:thing ws with
 | none=>
  rw[et] at s1;have a1:cK G.aP [qB splitM (zd 1) [Mf " "]] 2 [À (.tup rl),À (.str (jw ws)),Á] h=À (.ex,h):=by
   unfold cK;rw[ma];erw[s1]
  have r0:rd rl ws=Á:=by unfold rd;rw[et];rfl
  rw[r0];unfold zl;rw[a1]
 | some t=>
  rw[et] at s1;have g:=uy w et;have a1:cK G.aP [qB splitM (zd 1) [Mf " "]] 2 [À (.tup rl),À (.str (jw ws)),Á] h=À (.nx [À (.tup rl),À (.str (jw ws)),À t],h):=by
   unfold cK;rw[ma];erw[s1];rfl
  have dd:=K.dd t h (qh (g.dt ∅) ∅);have r0:rd rl ws=if (good rl t&&(jw (tw (ws.length+1) t)==jw ws))=Ã then À t else Á:=by unfold rd;rw[et];rfl
  rw[r0,zo a1];cases gb:good rl t with
  | false=>
   rw[gb] at dd;generalize jw ws=J;simp![dd,xS]
  | true=>
   rw[gb] at dd;have wr:=K.wr _ t h g ∅ (si g ∅ gb);generalize jw ws=J;generalize jw (tw (ws.length+1) t)=J2 at wr;cases q:J2==J with
   | false=>
    have q':¬J2=J:=λz=>by rw[z] at q;simp at q
    simp![dd,wr,kN,q',xS]
   | true=>
    have q':J2=J:=eq_of_beq q;simp![dd,wr,kN,q']
def Y9{G:Fs}{ws:List È}(e:∀h,G.cH [.tup rl,.str (jw ws)] h=À (rd rl ws,h))(w:∀x∈ws,Wf x)(hl:ws.length<=58):(step G).aV [.tup rl,.str (jw ws)] h=À ((rd rl ws).getD .non,h):=by
 have lw:low h.length ((rd rl ws).getD .non)=Ã:=by
  cases e:rd rl ws with
  | none=>rfl
  | some t=>
   unfold rd at e;obtain⟨u,e1,e2⟩:=zf.mp e;split at e2
   .cases e2
    exact qE ((uy w e1).dt ∅)
   .cases e2
 refine vw (h':=h) ?_ lw (kW _);have e:=e h;generalize jw ws=J at e;have t1:lG G.cH [zd 0,zd 1] [À (.tup rl),À (.str J),Á,Á] h=À (.ret ((rd rl ws).getD .non),h):=by
  unfold lG;have ma:ke [zd 0,zd 1] [À (.tup rl),À (.str J),Á,Á] h=À ([.tup rl,.str J],h):=by simp[ke,bnd,zd]
  rw[ma];erw[e];cases rd rl ws<;>rfl
 erw[k8,zr,zR,jn,zx,jh,Æ,zQ,zM];unfold bU;rw[yA t1]
def XD(l:List W)(v:W):cutW (l++[v]) Á (À (-1))=l:=by
 unfold cutW;simp[HT.sIx];rw[show(-1+((l.length:Int)+1)).toNat=l.length by omega,List.take_left]
def X1(l:List W)(u v:W):cutW (l++[u,v]) Á (À (-2))=l:=by
 unfold cutW;simp[HT.sIx];rw[show(-2+((l.length:Int)+2)).toNat=l.length by omega,List.take_left]
def BR(l:List W)(u v:W):L2.atI (l++[u,v]) (-2)=À u:=by
 unfold L2.atI wm;simp;rw[zW ∅,jL,show(-2+((l.length:Int)+2)).toNat=l.length by omega];simp
def Ca(l:List W)(u v:W):L2.atI (l++[u,v]) (-1)=À v:=by
 rw[show l++[u,v]=(l++[u])++[v] by simp];exact ii _ _
theorem YW(F:Fs):bI F=zl (zS (zi vj [zi zw []]) (zD 2)) (zl (xi (wn (qB splitM (zd 1) [Mf " "])) (zD 3) lB) (lE F)):=rfl
noncomputable abbrev ρr(D T:W)(k:Nat)(o3 o4 o5:Option W):En:=[À D,À T,À (.ref k),o3,o4,o5]
noncomputable def Lr(rows:List (List W)):List W:=(rows.map W.tup).reverse
def bi(r:List W)(rows:List (List W)):Lr (r::rows)=Lr rows++[.tup r]:=by simp[Lr]
def dR(rows:List (List W)):(Lr rows).length=rows.length:=by simp[Lr]
def rY{a b:List W}(h:MH)(l:a.length+b.length<=1000):addW (.tup a) (.tup b) h=À (.tup (a++b),h):=by
 erw[addW,kT];rw[zW (zG l (by decide))]
section
variable{D T:W}
def Bh{H:MH}{rows:List (List W)}(hx:x∈opn)(hk:H[k]?=À (.lst (Lr rows)))(hl:rows.length<=900) :
  lB (ρr D T k (À (.str x)) o4 o5) H=À (.nx (ρr D T k (À (.str x)) o4 o5),H.set k (.lst (Lr ([]::rows)))):=by
 have h1:=Km x hx;rw[zb] at h1;have e1:=λh=>fQ (h:=h) h1.1
 have lc:(Lr rows).length<cap:=by rw[dR];exact ql hl (by decide)
 rw[bi];generalize Lr rows=L at hk lc ⊢;unfold lB;simp[ki,zI,zk,zd,bnd,zi,ke,eC,zw,c2,xh,e1,h1.2,wb,vn,kA,getL,hk,Co,qf,lc]
def UN{H:MH}{rows:List (List W)}(hx:x∈cls)(hk:H[k]?=À (.lst (Lr rows)))(hl:rows.length<2) :
  lB (ρr D T k (À (.str x)) o4 o5) H=À (.ret .non,H):=by
 have h1:=iU x hx;erw[zb,zZ] at h1;have e1:=λh=>fQ (h:=h) h1.1.1
 have e2:=λh=>lu (h:=h) h1.1.1
 have lc:((Lr rows).length:Int)<2:=by rw[dR];omega
 have FQ:(Lr rows).length<2:=by rw[dR];omega
 generalize Lr rows=L at hk lc FQ;unfold lB;simp[zl,ki,zI,zk,zd,bnd,zi,ke,eC,zw,c2,xh,e1,e2,h1.1.2,h1.2,wb,getL,hk,kb,ac,kL,lc,FQ,ka]
def YS{H:MH}{r2:List W}{rows:List (List W)}(hx:x∈cls)(hk:H[k]?=À (.lst (Lr (r::r2::rows))))(hl:rows.length<=900)(hr:r2.length<=900) :
  lB (ρr D T k (À (.str x)) o4 o5) H=À (.nx (ρr D T H.length (À (.str x)) o4 o5),H++[.lst (Lr ((r2++[.tup r])::rows))]):=by
 have h1:=iU x hx;erw[zb,zZ] at h1;have e1:=λh=>fQ (h:=h) h1.1.1
 have e2:=λh=>lu (h:=h) h1.1.1
 rw[bi,bi,jG] at hk;have hk:H[k]?=À (.lst (Lr rows++[.tup r2,.tup r])):=hk;have m1:=Ca (Lr rows) (.tup r2) (.tup r);have m2:=BR (Lr rows) (.tup r2) (.tup r);have cu:=X1 (Lr rows) (.tup r2) (.tup r);have ll:(Lr rows).length=rows.length:=dR rows;have lc:¬((Lr rows++[W.tup r2,.tup r]).length:Int)<2:=by simp;omega
 have FQ:¬(Lr rows++[W.tup r2,.tup r]).length<2:=by simp
 have ad:=λh=>rY (a:=r2) (b:=[.tup r]) h (by simp;omega)
 have c1:(1:Nat)<=cap:=by decide
 have lk:(Lr rows).length+1<=cap:=zG (show(Lr rows).length+1<=1000 by omega) (by decide);rw[bi];generalize Lr rows++[W.tup r2,.tup r]=L at hk m1 m2 cu lc FQ;generalize Lr rows=L0 at cu lk ⊢;generalize r2++[.tup r]=R2 at ad ⊢;have ce:QZ (ρr D T k (À (.str x)) o4 o5) H=À (.ref H.length,H++[.lst (L0++[.tup R2])]):=by
  unfold QZ;simp[zk,jS,xt,zd,bnd,jp,uE,eC,aw,getL,hk,cu,zi,ke,zt,m1,m2,zw,c1,ad,kf,gU,lk]
 unfold lB;simp[zl,ki,zI,zk,zd,bnd,zi,ke,eC,zw,c2,xh,e1,e2,h1.1.2,h1.2,wb,getL,hk,kb,ac,kL,lc,FQ,kg,zS,ce,zD]
def X5{H:MH}{r:List W}{rows:List (List W)}(w:Wf x)(no:kQ opn (.str x)=Â)(nc:kQ cls (.str x)=Â)(hk:H[k]?=À (.lst (Lr (r::rows))))(hl:rows.length<=900)(hr:r.length<=900) :
  lB (ρr D T k (À (.str x)) o4 o5) H=À (.nx (ρr D T H.length (À (.str x)) (À (.fls (odd x))) (À (mv x))),H++[.lst (Lr ((r++[mv x])::rows))]):=by
 have e1:=λh=>fQ (h:=h) w.ok
 have e2:=λh=>lu (h:=h) w.ok
 rw[bi] at hk;have m1:=ii (Lr rows) (W.tup r);have cu:=XD (Lr rows) (.tup r);have ll:(Lr rows).length=rows.length:=dR rows;have ad:=λh=>rY (a:=r) (b:=[mv x]) h (by simp;omega)
 have c1:(1:Nat)<=cap:=by decide
 have lk:(Lr rows).length+1<=cap:=zG (show(Lr rows).length+1<=1000 by omega) (by decide);have oe:=YE (x:=x) (a:=À D) (b:=À T) (d:=À (.ref k)) (e:=o4) (f:=o5) (h:=H) (by have:=w.len;omega);have pe:=QE (x:=x) (a:=À D) (b:=À T) (d:=À (.ref k)) (f:=o5) (h:=H) w;rw[bi];generalize Lr rows++[W.tup r]=L at hk m1 cu;generalize Lr rows=L0 at cu lk ⊢;generalize r++[mv x]=R2 at ad ⊢;generalize mv x=V at ad pe ⊢;generalize odd x=O at oe pe ⊢;have we:JX (ρr D T k (À (.str x)) (À (.fls O)) (À V)) H=À (.ref H.length,H++[.lst (L0++[.tup R2])]):=by
  unfold JX;simp[zk,jS,xt,zd,bnd,jp,uE,eC,aw,getL,hk,cu,zi,ke,zt,m1,zw,c1,ad,kf,gU,lk]
 unfold lB;simp[zl,ki,zI,zk,zd,bnd,zi,ke,eC,zw,c2,xh,e1,e2,no,nc,wb,zS,oe,pe,we,zD]
end
def KS{rows:List (List W)}(h:Rs n rows):rows.length<=n/\∀r∈rows,r.length<=n:=by
 induction h with
 | nil n=>exact⟨by simp,λr hr=>by cases hr⟩
 | cons a b k r rs hr hs hk ih=>
  have:=hr.all.1;refine⟨by simp;omega,λq hq=>?_⟩;rcases zp.mp hq with rfl | hq
  .omega
  .have:=ih.2 q hq;omega
theorem iK{h0:MH}:∀(ws:List È) (rows:List (List W)) (n:Nat) (H:MH) (k:Nat) (o3 o4 o5:Option W),(∀x∈ws,Wf x)->rows≠[]->h0<+:H->h0.length<=k->H[k]?=À (.lst (Lr rows))->Rs n rows->n+ws.length<=900->
  (∀DJ,xl ws rows=À DJ->∃H' k' o3' o4' o5',h0<+:H'/\H'[k']?=À (.lst (Lr DJ))/\forL (zD 3) lB (zh ws) (ρr D T k o3 o4 o5) H=À (.nx (ρr D T k' o3' o4' o5'),H')) /\
  (xl ws rows=Á->∃H',h0<+:H'/\forL (zD 3) lB (zh ws) (ρr D T k o3 o4 o5) H=À (.ret .non,H'))
 | [],rows,n,H,k,o3,o4,o5,_,_,p,_,hk,_,_=>⟨λDJ e=>by cases e;exact⟨H,k,o3,o4,o5,p,hk,rfl⟩,λe=>by cases e⟩
 | x::ws,rows,n,H,k,o3,o4,o5,w,ne,p,lk,hk,rs,hl=>by
  erw[zr] at hl;have wx:=w x zu;have w':∀y∈ws,Wf y:=λy hy=>w y (zq _ hy)
  have rl:=KS rs;have g:zD 3 (.str x) (ρr D T k o3 o4 o5) H=À (ρr D T k (À (.str x)) o4 o5,H):=by simp[zD]
  have oj:∀(ρ':En) (H':MH) (r:List (List W)),uk rows x=À r->lB (ρr D T k (À (.str x)) o4 o5) H=À (.nx ρ',H')->xl (x::ws) rows=xl ws r/\forL (zD 3) lB (zh (x::ws)) (ρr D T k o3 o4 o5) H=forL (zD 3) lB (zh ws) ρ' H':=λρ' H' r e1 e2=>by
   constructor
   .conv=>lhs;unfold xl
    rw[e1]
   .show forL (zD 3) lB (.str x::zh ws) (ρr D T k o3 o4 o5) H=_
    conv=>lhs;rw[forL]
    erw[g,e2]
  have ES:k<H.length:=eX hk;have pl:h0.length<=H.length:=p.length_le;by_cases ho:x∈opn
  .have e:=Bh (D:=D) (T:=T) (o4:=o4) (o5:=o5) ho hk ∅
   have ep:uk rows x=À ([]::rows):=by unfold uk;rw[zW (str_in.mpr ho)]
   obtain⟨a,b⟩:=oj _ _ _ ep e;rw[a,b];exact iK ws ([]::rows) (n+1) _ k _ _ _ w' (by simp) (gq p lk) lk (by rw[jc ES]) (rs.step wx ep) ∅
  have no:¬kQ opn (.str x)=Ã:=λz=>ho (str_in.mp z)
  have DK:∀(o:MO),(H++[o])[H.length]?=À o:=λo=>by simp
  by_cases hc:x∈cls
  .match rows,ne,hk,rs,rl,oj with
   | [r],_,hk,rs,rl,oj=>
    have ep:uk [r] x=Á:=by unfold uk;rw[kY no,zW (str_in.mpr hc)]
    have en:xl (x::ws) [r]=Á:=by unfold xl;rw[ep]
    refine⟨λrows e=>(by rw[en] at e;cases e),λ_=>⟨H,p,?_⟩⟩;show forL (zD 3) lB (.str x::zh ws) (ρr D T k o3 o4 o5) H=_
    rw[forL];erw[g,UN (D:=D) (T:=T) (o4:=o4) (o5:=o5) hc hk (by simp)]
   | r::r2::rows,_,hk,rs,rl,oj=>
    have e:=YS (D:=D) (T:=T) (o4:=o4) (o5:=o5) hc hk (by have:=rl.1;simp at this;omega) (by have:=rl.2 r2 (by simp);omega);have ep:uk (r::r2::rows) x=À ((r2++[.tup r])::rows):=by unfold uk;rw[kY no,zW (str_in.mpr hc)]
    obtain⟨a,b⟩:=oj _ _ _ ep e;rw[a,b];exact iK ws ((r2++[.tup r])::rows) (n+1) _ _ _ _ _ w' (by simp) (p.trans (je _ _)) pl (DK _) (rs.step wx ep) ∅
  have nc:¬kQ cls (.str x)=Ã:=λz=>hc (str_in.mp z)
  match rows,ne,hk,rs,rl,oj with
  | r::rows,_,hk,rs,rl,oj=>
   have e:=X5 (D:=D) (T:=T) (o4:=o4) (o5:=o5) wx (qQ.mpr no) (qQ.mpr nc) hk (by have:=rl.1;simp at this;omega) (by have:=rl.2 r (by simp);omega);have ep:uk (r::rows) x=À ((r++[mv x])::rows):=by unfold uk;rw[kY no,kY nc]
   obtain⟨a,b⟩:=oj _ _ _ ep e;rw[a,b];exact iK ws ((r++[mv x])::rows) (n+1) _ _ _ _ _ w' (by simp) (p.trans (je _ _)) pl (DK _) (rs.step wx ep) ∅
def BD{ws:List È}{H:MH}(K:RdOk G rl)(w:∀x∈ws,Wf x)(hl:ws.length<=58)(e:xl ws [[]]=À rows)(hk:H[k]?=À (.lst (Lr rows))) :
  lE G (ρr (.tup rl) (.str (jw ws)) k o3 o4 o5) H=À (.ret ((rd rl ws).getD .non),H):=by
 have th:thing ws=one rows:=by unfold thing;rw[e];rfl
 have rn:one rows=Á->rd rl ws=Á:=λz=>by unfold rd;rw[th,z];rfl
 have ll:=dR rows;match rows,e,hk,th,rn,ll with
 | [],e,hk,th,rn,ll=>
  rw[rn rfl];have hk:H[k]?=À (.lst []):=hk;unfold lE;generalize jw ws=J;simp[zl,ki,vE,zI,zk,zd,bnd,zi,ke,eC,kb,getL,hk,kM,kD,wb,ka]
 | r::r2::rows,e,hk,th,rn,ll=>
  have n3:one (r::r2::rows)=Á:=by
   cases r with
   | nil=>rfl
   | cons a r=>cases r<;>rfl
  rw[rn n3];have ne:¬(Lr (r::r2::rows)).length=1:=by rw[ll];simp
  have n2:¬((Lr (r::r2::rows)).length:Int)=1:=by rw[ll];simp;omega
  generalize Lr (r::r2::rows)=L at hk ne n2;unfold lE;generalize jw ws=J;simp[zl,ki,vE,zI,zk,zd,bnd,zi,ke,eC,kb,getL,hk,kM,kD,wb,ka,ne,n2]
 | [[]],e,hk,th,rn,ll=>
  rw[rn rfl];have hk:H[k]?=À (.lst [.tup []]):=hk;have i0:zt (.ref k) (.int 0) H=À (.tup [],H):=by simp[zt,getL,hk,atI,wm]
  unfold lE;generalize jw ws=J;simp[zl,ki,vE,zI,zk,zd,bnd,zi,ke,eC,kb,getL,hk,i0,kM,kD,wb,ka]
 | [a::b::r],e,hk,th,rn,ll=>
  rw[rn rfl];have hk:H[k]?=À (.lst [.tup (a::b::r)]):=hk;have rs:=Rs.run ws (n:=1) (.cons 0 0 _ [] [] (.nil 0) (.nil 0) ∅) w e;have lr:=(KS rs).2 (a::b::r) (by simp);have lc:(a::b::r).length<=cap:=Zi ∅;have ne:¬(a::b::r).length=1:=by simp
  have n2:¬((a::b::r).length:Int)=1:=by simp;omega
  generalize a::b::r=row at hk ne n2 lc;have i0:zt (.ref k) (.int 0) H=À (.tup row,H):=by simp[zt,getL,hk,atI,wm]
  unfold lE;generalize jw ws=J;simp[zl,ki,vE,zI,zk,zd,bnd,zi,ke,eC,kb,getL,hk,i0,kM,kD,wb,ka,ne,n2,lc]
 | [[t]],e,hk,th,rn,ll=>
  have th:thing ws=À t:=th;have hk:H[k]?=À (.lst [.tup [t]]):=hk;have g:=uy w th;have dd:=K.dd t H (qh (g.dt ∅) ∅);have i0:zt (.ref k) (.int 0) H=À (.tup [t],H):=by simp[zt,getL,hk,atI,wm]
  have i1:zt (.tup [t]) (.int 0) H=À (t,H):=by simp[zt,atI,wm]
  have r0:rd rl ws=if (good rl t&&(jw (tw (ws.length+1) t)==jw ws))=Ã then À t else Á:=by unfold rd;rw[th];rfl
  rw[r0];unfold lE;cases gb:good rl t with
  | false=>
   rw[gb] at dd;generalize jw ws=J;simp[zl,ki,vE,yn,zI,zk,zd,bnd,zi,ke,eC,kb,getL,hk,i0,i1,kM,kD,wb,ka,dd]
  | true=>
   rw[gb] at dd;have wr:=K.wr _ t H g ∅ (si g ∅ gb);generalize jw ws=J;generalize jw (tw (ws.length+1) t)=J2 at wr;cases q:J2==J with
   | false=>
    have q':¬J2=J:=λz=>by rw[z] at q;simp at q
    simp[zl,ki,vE,yn,zI,zk,zd,bnd,zi,ke,eC,kb,getL,hk,i0,i1,kM,kD,kN,wb,ka,kg,oO,dd,wr,q']
   | true=>
    have q':J2=J:=eq_of_beq q;simp[zl,ki,vE,yn,zI,zk,zd,bnd,zi,ke,eC,kb,getL,hk,i0,i1,kM,kD,kN,wb,ka,kg,oO,dd,wr,q']
def U0{ws:List È}(w:∀x∈ws,Wf x)(hl:ws.length<=58):dt 60 ((rd rl ws).getD .non)=Ã:=by
 cases e:rd rl ws with
 | none=>rfl
 | some t=>
  unfold rd at e;obtain⟨u,e1,e2⟩:=zf.mp e;split at e2
  .cases e2
   exact qh ((uy w e1).dt ∅) ∅
  .cases e2
def Wq{ws:List È}(K:RdOk G rl)(w:∀x∈ws,Wf x)(ne:ws≠[])(hl:ws.length<=58):(step G).aW [.tup rl,.str (jw ws)] h=À ((rd rl ws).getD .non,h):=by
 suffices hs:∃H',h<+:H'/\bI G [À (.tup rl),À (.str (jw ws)),Á,Á,Á,Á] h=À (.ret ((rd rl ws).getD .non),H') by
  obtain⟨H',p,e⟩:=hs;refine vw (h':=H') ?_ (qE (U0 w hl)) p;erw[k8,zr,zR,jn,zx,jh,Æ,zQ,zM];erw[e]
 have c0:(0:Nat)<=cap:=by decide
 have c1:(1:Nat)<=cap:=by decide
 have a1:(zS (zi vj [zi zw []]) (zD 2)) [À (.tup rl),À (.str (jw ws)),Á,Á,Á,Á] h=À (.nx (ρr (.tup rl) (.str (jw ws)) h.length Á Á Á),h++[.lst [.tup []]]):=by
  generalize jw ws=J;simp![vj,zw,c0,c1]
 have sp:=mw (ρ:=ρr (.tup rl) (.str (jw ws)) h.length Á Á Á) (h:=h++[.lst [.tup []]]) (k:=1) w ne hl rfl;have it:wn (qB splitM (zd 1) [Mf " "]) (ρr (.tup rl) (.str (jw ws)) h.length Á Á Á) (h++[.lst [.tup []]])=À (.items (zh ws),h++[.lst [.tup []]]):=by
  unfold wn;rw[Qe sp];rfl
 have lp:=iK (D:=.tup rl) (T:=.str (jw ws)) (h0:=h) ws [[]] 1 (h++[.lst [.tup []]]) h.length Á Á Á w (by simp) (je _ _) (zF _) (by simp[Lr]) (.cons 0 0 _ [] [] (.nil 0) (.nil 0) ∅) ∅;rw[YW,zo a1];cases er:xl ws [[]] with
 | none=>
  obtain⟨H',p,e⟩:=lp.2 er;have r0:rd rl ws=Á:=by unfold rd thing;rw[er];rfl
  refine⟨H',p,?_⟩;rw[r0];unfold zl xi;rw[it];erw[e];rfl
 | some rows=>
  obtain⟨H',k',o3,o4,o5,p,hk,e⟩:=lp.1 rows er;refine⟨H',p,?_⟩;rw[zo (by unfold xi;rw[it];exact e)];exact BD K w hl er hk
def Xx{f:W->List È}{l:List W}(h:∀u∈l,(f u).length<=8):(l.flatMap f).length<=8*l.length:=by
 induction l with
 | nil=>simp
 | cons u l ih=>
  have:=h u zu;have:=ih λv hv=>h v (zq _ hv)
  rw[jk,zK,zr];omega
def Dj{f:W->List È}{l:List W}(h:∀u∈l,(f u).length<=1):(l.flatMap f).length<=l.length:=by
 induction l with
 | nil=>simp
 | cons u l ih=>
  have:=h u zu;have:=ih λv hv=>h v (zq _ hv)
  rw[jk,zK,zr];omega
def Dv(u:W):(tw 0 u).length<=1:=by
 show(cq u).length<=1
 cases u<;>simp[cq]
def iN(i:Int)(a b:List W):kr (th "call" [.int i,.tup a,.tup b])=a++b:=by
 unfold kr;dsimp only;rw[if_pos ⋯]
def WD{rl:List W}{k n:Nat}{H:List È}(o:okd rl k H 1 v)(p:pl n v=Ã):(tw 1 v).length<=8:=by
 have key:∀l,v=.tup l->(tw 1 v).length<=(wps v).length:=λl e=>by
  subst e;exact Dj (f:=tw 0) λu _=>Dv u
 rcases o.1.split with pn | ⟨i,a,b,ns,hs,body,rfl,hi,e⟩
 .cases pn with
  | mk x r q hc hf hp=>
   obtain⟨m,rfl,hl,hd⟩:=wq p;have:=key _ rfl;rw[uY hc] at this;simp at this hl;omega
 .have np:=o.2
  rw[iN] at np;have ea:a=[]:=yh.mpr λu hu=>np u (jO _ hu)
  have eb:b=[]:=yh.mpr λu hu=>np u (kh _ hu)
  subst ea eb;have:=key _ rfl;rw[uf] at this;simpa using this
def W3{rl:List W}{H:List È}(hr:RG rl)(o:okd rl rl.length H 2 w)(p:pl n w=Ã):(tw 2 w).length<=56:=by
 have part:∀u∈kr w,(tw 1 u).length<=8:=λu hu=>WD (o.2 u hu) ((oC p).2 u hu)
 have l1:∀u,(∀l,u≠.tup l)->(tw 1 u).length<=8:=λu hu=>by
  cases u with
  | tup l=>exact absurd rfl (hu l)
  | str x=>rw[ug];simp
  | int i=>rw[uF];simp
  | _=>simp[tw,cq]
 rcases o.1.split with pn | ⟨i,a,b,ns,hs,body,rfl,hi,e⟩
 .cases pn with
  | mk x r q hc hf hp=>
   obtain⟨m,rfl,hl,hd⟩:=wq p;erw[zr] at hl;show((wps (th x r)).flatMap (tw 1)).length<=56
   rw[uY hc];have fr:=Xx (f:=tw 1) (l:=r) λu hu=>by
    by_cases t:∃l,u=.tup l
    .obtain⟨l,rfl⟩:=t
     refine part _ ?_;rw[<-hp];exact j8.mpr ⟨hu,rfl⟩
    .exact l1 u λl z=>t ⟨l,z⟩
   erw[qG,jk,qU,zK,ug,zr,zR];omega
 .obtain⟨m,rfl,hl,hd⟩:=wq p
  obtain⟨m1,_,la,da⟩:=wq (hd (.tup a) (by simp));have lb:b.length<=2:=by
   have sh:=o.1;obtain⟨N,Ar,As,e',NM,NN,_⟩:=hr.g i hi;generalize hz:th "call" [.int (i:Int),.tup a,.tup b]=z at sh;cases sh with
   | call j a' b' hj MU AZ body2 e2 lb2=>
    unfold th at hz;erw[W.tup.injEq,qK,W.int.injEq,true_and,xO] at hz;obtain⟨h1,h2,h3⟩:=hz;have h1:i=j:=by omega
    subst h1 h2 h3;rw[e2] at e';erw[Option.some.injEq,W.tup.injEq,qK,true_and,xO] at e';have e3:=e'.2.1;have:AZ.length=Ar.length:=by
     have:=jY List.length e3;simpa[zh] using this
    omega
   | _=>unfold th at hz;simp at hz
  rw[iN] at part;have fa:=Xx (f:=tw 1) (l:=a) λu hu=>part u (jO _ hu)
  have fb:=Xx (f:=tw 1) (l:=b) λu hu=>part u (kh _ hu)
  show((wps (th "call" [.int (i:Int),.tup a,.tup b])).flatMap (tw 1)).length<=56
  rw[uf];erw[qG,jk,qU,zK,ug,uF,zr,zR];omega
def By{H:List È}:∀(n:Nat) (w:W),Wr rl k H n w->∀x∈tw n w,Wf x:=by
 intro n;have leaf:∀m w,Wr rl k H m w->(∀l,w≠.tup l)->∀x∈tw m w,Wf x:=λm w hw nt x hx=>by
  cases hw with
  | str _ y hy=>rw[ug] at hx;rw[kJ.mp hx];exact eQ hy
  | int _ i h0 h1=>rw[uF] at hx;rw[kJ.mp hx];exact CY h0 h1
  | deed m _ o _ _ _ _=>obtain⟨l,rfl⟩:=o.tup;exact absurd rfl (nt l)
 induction n with
 | zero=>
  intro w hw;cases hw with
  | str _ y hy=>exact leaf 0 _ (.str 0 y hy) (λl z=>by cases z)
  | int _ i h0 h1=>exact leaf 0 _ (.int 0 i h0 h1) (λl z=>by cases z)
 | succ n ih=>
  intro w hw x hx;cases hw with
  | str _ y hy=>exact leaf (n+1) _ (.str _ y hy) (λl z=>by cases z) x hx
  | int _ i h0 h1=>exact leaf (n+1) _ (.int _ i h0 h1) (λl z=>by cases z) x hx
  | deed _ _ o d lw p nb=>
   obtain⟨l,rfl⟩:=o.tup;have hx:x∈(wps (.tup l)).flatMap (tw n):=hx;obtain⟨v,hv,hx⟩:=vO.mp hx;exact ih v (p v hv) x hx
theorem Jw:∀(n:Nat) {m:Nat} {w:W},Gd m w->m<=n->ë (toD n w) (toD n w)=Ã
 | 0,m,w,g,hm=>by have:=g.pos;omega
 | n+1,m,w,g,hm=>by
  have tp:∀l,w=.tup l->ë (toD (n+1) w) (toD (n+1) w)=Ã:=λl e=>by
   subst e;obtain⟨m,rfl⟩:∃k,m=k+1:=⟨m-1,by have:=g.pos;omega⟩;have ga:=g.all.2;have:∀ls:List W,(∀v∈ls,Gd m v)->ħ (ls.map (toD n)) (ls.map (toD n))=Ã:=by
    intro ls;induction ls with
    | nil=>intro _;rfl
    | cons v ls ih=>
     intro hv;erw[zx,ħ];rw[Jw n (hv v (zu ..)) ∅,ih λu hu=>hv u (zq _ hu)];rfl
   erw[toD,ë];exact this l ga
  cases g with
  | str _ x w=>simp[toD,ë]
  | int _ i h0 h1=>simp[toD,ë]
  | nil _=>exact tp _ rfl
  | cons _ _ _ _ _ _ _ _=>exact tp _ rfl
theorem W8(g:Gd n w)(hn:n<=60)(h:MH):eqB h w w=À Ã:=by
 have d:=g.dt ∅;have tp:∀l,w=.tup l->eqB h w w=À Ã:=λl e=>by
  subst e;rw[pZ d hn d hn,Jw n g (zF _)]
 cases g with
 | str _ x w=>rw[kN];simp
 | int _ i h0 h1=>rw[kD];simp
 | nil _=>exact tp _ rfl
 | cons _ _ _ _ _ _ _ _=>exact tp _ rfl
def B6{ws:List È}(w:∀x∈ws,Wf x)(hl:ws.length<=58)(h:MH):eqB h ((rd rl ws).getD .non) ((rd rl ws).getD .non)=À Ã:=by
 cases e:rd rl ws with
 | none=>rfl
 | some t=>
  unfold rd at e;obtain⟨u,e1,e2⟩:=zf.mp e;split at e2
  .cases e2
   exact W8 (uy w e1) ∅ h
  .cases e2
noncomputable def sp:List È->List È
 | []=>[""]
 | r=>r
theorem Bw(r:List È):jw (sp r)=jw r:=by
 cases r with
 | nil=>decide +kernel
 | cons x r=>rfl
def VF(r:List È):sp r≠[]:=by cases r<;>simp[sp]
def sL(w:∀x∈r,Wf x):∀x∈sp r,Wf x:=by
 cases r with
 | nil=>intro x hx;rw[kJ.mp hx];exact QI ⋯
 | cons y r=>exact w
def oA{r:List È}(h:r.length<=58):(sp r).length<=58:=by
 cases r with
 | nil=>simp[sp]
 | cons y r=>exact h
noncomputable def ox(F:Fs):MS:=(zl (zS (qB joinM (Mf " ") [zd 8]) (zD 9))
 (ki (zI (zk (kM Ã) (zi F.aV [zd 1,zd 9]) (zi F.aW [zd 1,zd 9])))
 (ka (eC (.bl Â)))
 kg))
structure LwOk(G:Fs)(rl:List W):Prop where
 tl:∀ws h,(∀x∈ws,Wf x)->ws≠[]->ws.length<=58->G.aV [.tup rl,.str (jw ws)] h=À ((rd rl ws).getD .non,h)
 lr:∀ws h,(∀x∈ws,Wf x)->ws≠[]->ws.length<=58->G.aW [.tup rl,.str (jw ws)] h=À ((rd rl ws).getD .non,h)
def Ci(hr:uM rl)(m:Nat):LwOk (up (m+9) F) rl:=
 ⟨λws h w ne l=>Y9 (G:=up (m+8) F) (λh=>UZ (VL hr m) w ne l) w l,λws h w ne l=>Wq (G:=up (m+8) F) (VL hr (m+1)) w ne l⟩
noncomputable abbrev ρk(rl:List W)(s a b c d e f o8 o9:Option W):En:=[s,À (.tup rl),a,b,c,d,e,f,o8,o9]
theorem oK(K:LwOk G rl):∀(l:List W) (o8 o9:Option W),(∀E∈l,∃r,getL h E=À (zh r)/\(∀x∈r,Wf x)/\r.length<=58)->∃p8 p9,forL (zD 8) (ox G) l (ρk rl s a b c d e f o8 o9) h=À (.nx (ρk rl s a b c d e f p8 p9),h)
 | [],o8,o9,_=>⟨o8,o9,rfl⟩
 | E::l,o8,o9,hl=>by
  obtain⟨r,er,w,lr⟩:=hl E zu;have jo:=eP (λy hy=>(w y hy).len) (show r.length<=10000 by omega);have ej:joinM (.str " ") [E] h=À (.str (jw r),h):=by
   have q:(getL h E).bind strsOf=À r:=by rw[er];exact aT r
   erw[joinM,q];rw[zW jo.1];rfl
  have t1:=K.tl (sp r) h (sL w) (VF r) (oA lr);have t2:=K.lr (sp r) h (sL w) (VF r) (oA lr);have qq:=B6 (rl:=rl) (sL w) (oA lr) h;rw[Bw] at t1 t2;generalize (rd rl (sp r)).getD .non=V at t1 t2 qq;generalize jw r=J at ej t1 t2;have g:zD 8 E (ρk rl s a b c d e f o8 o9) h=À (ρk rl s a b c d e f (À E) o9,h):=by simp[zD]
  have st:ox G (ρk rl s a b c d e f (À E) o9) h=À (.nx (ρk rl s a b c d e f (À E) (À (.str J))),h):=by
   unfold ox;rw[zo (ρ':=ρk rl s a b c d e f (À E) (À (.str J))) (h':=h) (by simp[zS,qB,eC,bnd,ke,zd,ej,zD])];simp[ki,zI,zk,zi,ke,zd,bnd,t1,t2,kM,qq,wb,kg]
  obtain⟨p8,p9,ih⟩:=oK (s:=s) (a:=a) (b:=b) (c:=c) (d:=d) (e:=e) (f:=f) K l (À E) (À (.str J)) (λE' h'=>hl E' (zq _ h'));refine⟨p8,p9,?_⟩;rw[forL];erw[g,st];exact ih
section
variable{wd:List È}{a:Nat}{ρ:En}{h:MH}
def BI(h2:ρ[2]?=À (À (.fls (zh wd))))(h3:ρ[3]?=À (À (.int (a:Int))))(ha:a<=wd.length):jS (zd 2) Á (À (zd 3)) ρ h=À (.fls (zh (wd.take a)),h):=by
 have c:=nK (l:=zh wd) (k:=a) (by rw[ku];exact ha);have t:(zh wd).take a=zh (wd.take a):=by simp[zh]
 rw[t] at c;simp[jS,bnd,zd,h2,xt,h3,aw,getL,c]
def XT(h2:ρ[2]?=À (À (.fls (zh wd))))(h3:ρ[3]?=À (À (.int (a:Int))))(ha:a<wd.length):jS (zd 2) Á (À (zk addW (zd 3) (LW 1))) ρ h=À (.fls (zh (wd.take (a+1))),h):=by
 have c:=nK (l:=zh wd) (k:=a+1) (by rw[ku];exact ha);have t:(zh wd).take (a+1)=zh (wd.take (a+1)):=by simp[zh]
 rw[t] at c;have ad:addW (.int (a:Int)) (.int 1) h=À (.int ((a+1:Nat):Int),h):=by simp[addW,kT]
 generalize ((a+1:Nat):Int)=Q at c ad;simp[jS,bnd,zd,h2,xt,zk,eC,h3,ad,aw,getL,c]
def WV(h2:ρ[2]?=À (À (.fls (zh wd))))(h3:ρ[3]?=À (À (.int (a:Int)))):jS (zd 2) (À (zd 3)) Á ρ h=À (.fls (zh (wd.drop a)),h):=by
 have c:=bv (l:=zh wd) (k:=a);have t:(zh wd).drop a=zh (wd.drop a):=by simp[zh]
 rw[t] at c;simp[jS,bnd,zd,h2,xt,h3,aw,getL,c]
def Vg(h2:ρ[2]?=À (À (.fls (zh wd))))(h3:ρ[3]?=À (À (.int (a:Int)))):jS (zd 2) (À (zk addW (zd 3) (LW 1))) Á ρ h=À (.fls (zh (wd.drop (a+1))),h):=by
 have c:=bv (l:=zh wd) (k:=a+1);have t:(zh wd).drop (a+1)=zh (wd.drop (a+1)):=by simp[zh]
 rw[t] at c;have ad:addW (.int (a:Int)) (.int 1) h=À (.int ((a+1:Nat):Int),h):=by simp[addW,kT]
 generalize ((a+1:Nat):Int)=Q at c ad;simp[jS,bnd,zd,h2,xt,zk,eC,h3,ad,aw,getL,c]
end
def dZ{A C:List È}(h:MH)(hl:A.length+C.length<=10000):addW (.fls (zh A)) (.fls (zh C)) h=À (.fls (zh (A++C)),h):=by
 have:=qr (a:=zh A) (b:=zh C) h (by rw[ku,ku];exact hl);rw[this];simp[zh]
def uW(e1:ma ρ h=À (x,h))(e2:mb ρ h=À (y,h))(e3:f x y h=À (z,h)):zk f ma mb ρ h=À (z,h):=by
 simp[zk,bnd,e1,e2,e3]
def mem_set{l:List È}(w:∀y∈l,Wf y)(wx:Wf x):∀y∈l.set i x,Wf y:=λy hy=>by
 rcases List.mem_or_eq_of_mem_set hy with h | h
 .exact w y h
 .rw[h];exact wx
noncomputable def w12:List È:=["(",")","[","]","a","number","01","1009","7","x","ask","p"]
def Bn:∀x∈w12,Wf x:=by
 intro x hx;have key:∀y∈w12,(vocab.contains y||brks.contains y||([("01":È),"1009","7",""]:List È).contains y)=Ã:=by decide +kernel
 have k:=key x hx;erw[yE,List.contains_iff_mem] at k;rcases k with (k | k) | k
 .exact eQ (.inl k)
 .exact eQ (.inr k)
 .exact QI k
def XQ{wd:List È}{h:MH}(ha:a<wd.length):ny (.ref h.length) (.int (a:Int)) (.str x) (h++[.lst (zh wd)])=À (.non,h++[.lst (zh (wd.set a x))]):=by
 have e1:(h++[MO.lst (zh wd)])[h.length]?=À (.lst (zh wd)):=by simp
 have e2:wm (zh wd).length (a:Int)=À a:=by
  unfold wm;rw[ku,zW ∅,zW ∅];simp
 have e3:(zh wd).set a (.str x)=zh (wd.set a x):=by simp[zh]
 have e4:∀o:MO,(h++[MO.lst (zh wd)]).set h.length o=h++[o]:=λo=>by rw[jH _ _ (zF _)];simp
 erw[ny,e1,e2,e3,e4]
def Vy{wd:List È}(ha:a<wd.length)(h:MH):zt (.fls (zh wd)) (.int (a:Int)) h=À (.str (wd[a]),h):=by
 have e2:wm (zh wd).length (a:Int)=À a:=by
  unfold wm;rw[ku,zW ∅,zW ∅];simp
 have e3:(zh wd)[a]?=À (.str wd[a]):=by simp[zh,ha]
 simp[zt,getL,atI,e2,e3]
def rX{ρ:En}{h:MH}{wd:List È}(em:m ρ (h++[.lst (zh wd)])=À (.str x,h++[.lst (zh wd)]))(h6:ρ[6]?=À (À (.ref h.length)))(hk:ρ[k]?=À (À (.int (a:Int))))(ha:a<wd.length) :
  (zS m (lU (zd 6) (zd k))) ρ (h++[.lst (zh wd)])=À (.nx ρ,h++[.lst (zh (wd.set a x))]):=by
 have pp:=XQ (x:=x) (h:=h) ha;simp[zS,em,lU,bnd,zd,h6,hk,pp]
def BX{ns:List Int}(hl:ns.length<=63):(step (up 34 F)).cN [kx ns] h=À (.bl Ã,h):=by
 obtain⟨rl,hr,e1⟩:=YR (F:=F) (m:=33) hl ∅;obtain⟨w,p,o,e2⟩:=WP (F:=F) (m:=33) (a:=90) hl ∅ hr;have hw:=VN 2 4 w o p ∅;obtain⟨l,rfl⟩:=o.tup;have e3:∀h,(up 34 F).aL [.tup l] h=À (.str (jw (tw 2 (.tup l))),h):=λh=>KD (F:=up 32 F) (h:=h) hw ∅
 have e1:∀h,(up 34 F).bf [kx ns,.int 1] h=À (.tup rl,h):=e1;have e2:∀h,(up 34 F).aY [kx ns,.int 90,.int 1,.tup rl] h=À (.tup l,h):=e2;have wf:=By 2 _ hw;have ln:=W3 hr o p;have l1:=(ou 2 _ hw).2.1;have ed:∀(k many:Int) (h:MH),0<many->(up 34 F).aa [kx ns,.int k,.int many] h=À (.int (vT ns k many),h):=λk many h hm=>uK (F:=up 32 F) hl hm
 have K:LwOk (up 34 F) rl:=Ci (F:=F) hr.ok 25;generalize up 34 F=G at e1 e2 e3 ed K;generalize tw 2 (.tup l)=wd at e3 wf ln l1;generalize W.tup l=ww at e2 e3;have hN:(0:Int)<(wd.length:Int):=by omega
 have d4:=λh=>ed 400 wd.length h hN
 have d5:=λh=>ed 401 wd.length h hN
 have d6:=λh=>ed 402 12 h ∅
 have r4:=ko (ns:=ns) (k:=400) (many:=wd.length) hN;have r5:=ko (ns:=ns) (k:=401) (many:=wd.length) hN;have r6:=ko (ns:=ns) (k:=402) (many:=12) ∅;obtain⟨a,ha⟩:∃a:Nat,vT ns 400 wd.length=(a:Int):=⟨(vT ns 400 wd.length).toNat,by omega⟩;obtain⟨t,ht⟩:∃a:Nat,vT ns 401 wd.length=(a:Int):=⟨(vT ns 401 wd.length).toNat,by omega⟩;rw[ha] at d4 r4;rw[ht] at d5 r5;have la:a<wd.length:=by omega
 have lt:t<wd.length:=by omega
 obtain⟨v,hv,ev⟩:=bS (l:=zh w12) r6.1 (by rw[ku];exact r6.2);unfold zh at hv;obtain⟨wo,Nc,rfl⟩:=kI.mp hv;have Nd:=Bn wo Nc;have ev:∀h,zt (.fls [.str "(",.str ")",.str "[",.str "]",.str "a",.str "number",.str "01",.str "1009",.str "7",.str "x",.str "ask",.str "p"]) (.int (vT ns 402 12)) h=À (.str wo,h):=ev;generalize vT ns 402 12=y at d6 ev;have b1:((" ":È).length==0)=Â:=by decide +kernel
 have jo:=eP (λy hy=>(wf y hy).len) (show wd.length<=10000 by omega);have Nf:=pC (ws:=wd) (by intro z;rw[z] at l1;simp at l1) λx hx=>(wf x hx).fr
 have es:∀h,splitM (.str (jw wd)) [.str " "] h=À (.fls (zh wd),h):=λh=>by
  erw[splitM];rw[zW ⟨b1,jo.2⟩,Nf];rfl
 have lc:wd.length<=cap:=Zi ∅;have lz:∀h,kb [.fls (zh wd)] h=À (.int (wd.length:Int),h):=λh=>by simp[kb,getL,ku]
 have c1:(1:Nat)<=cap:=by decide
 have c4:(4:Nat)<=cap:=by decide
 have Ng:(12:Nat)<=cap:=by decide
 refine vw (h':=h++[.lst (zh ((wd.set a wd[t]).set t wd[a]))]) ?_ rfl (je _ _);erw[k8,zr,zR,jn,zx,jh,Æ,zQ,zM];have row:cA G [À (kx ns),Á,Á,Á,Á,Á,Á,Á,Á,Á] h=À (.ret (.bl Ã),h++[.lst (zh ((wd.set a wd[t]).set t wd[a]))]):=by
  unfold cA;rw[zo (ρ':=ρk rl (À (kx ns)) Á Á Á Á Á Á Á Á) (h':=h) (by simp[zS,zi,ke,bnd,zd,eC,e1,zD])];generalize jw wd=J at e3 es;rw[zo (ρ':=ρk rl (À (kx ns)) (À (.fls (zh wd))) Á Á Á Á Á Á Á) (h':=h) (by simp[zS,qB,zi,ke,bnd,zd,eC,e2,e3,es,zD])];rw[zo (ρ':=ρk rl (À (kx ns)) (À (.fls (zh wd))) (À (.int (a:Int))) Á Á Á Á Á Á) (h':=h) (by simp[zS,zi,ke,bnd,zd,eC,lz,d4,zD])];rw[zo (ρ':=ρk rl (À (kx ns)) (À (.fls (zh wd))) (À (.int (a:Int))) (À (.int (t:Int))) Á Á Á Á Á) (h':=h) (by simp[zS,zi,ke,bnd,zd,eC,lz,d5,zD])];rw[zo (ρ':=ρk rl (À (kx ns)) (À (.fls (zh wd))) (À (.int (a:Int))) (À (.int (t:Int))) (À (.str wo)) Á Á Á Á) (h':=h) (by simp[zS,zk,zi,ke,bnd,zd,eC,kf,Ng,d6,ev,zD])];rw[zo (ρ':=ρk rl (À (kx ns)) (À (.fls (zh wd))) (À (.int (a:Int))) (À (.int (t:Int))) (À (.str wo)) (À (.ref h.length)) Á Á Á) (h':=h++[.lst (zh wd)]) (by simp[zS,zi,ke,bnd,zd,i4,xb,getL,zD])];rw[zo (rX (x:=wd[t]) (k:=3) (uW (x:=.fls (zh wd)) (y:=.int (t:Int)) rfl rfl (Vy lt _)) rfl rfl la)];rw[zo (rX (wd:=wd.set a wd[t]) (x:=wd[a]) (k:=4) (uW (x:=.fls (zh wd)) (y:=.int (a:Int)) rfl rfl (Vy la _)) rfl rfl (by rw[v7];exact lt))];have IS:∀x∈(wd.set a wd[t]).set t wd[a],Wf x:=mem_set (mem_set wf (wf _ (vP lt))) (wf _ (vP la));have l4:((wd.set a wd[t]).set t wd[a]).length<=58:=by rw[v7,v7];omega
  generalize (wd.set a wd[t]).set t wd[a]=q4 at IS l4;generalize hH:h++[MO.lst (zh q4)]=H8;have gk:getL H8 (.ref h.length)=À (zh q4):=by rw[<-hH];simp[getL]
  generalize h.length=kk at gk;have F:=λ(o7:Option W)=>BI (ρ:=ρk rl (À (kx ns)) (À (.fls (zh wd))) (À (.int (a:Int))) (À (.int (t:Int))) (À (.str wo)) (À (.ref kk)) o7 Á Á) (h:=H8) (wd:=wd) (a:=a) rfl rfl ∅
  have F1:=λ(o7:Option W)=>XT (ρ:=ρk rl (À (kx ns)) (À (.fls (zh wd))) (À (.int (a:Int))) (À (.int (t:Int))) (À (.str wo)) (À (.ref kk)) o7 Á Á) (h:=H8) (wd:=wd) (a:=a) rfl rfl la
  have B:=λ(o7:Option W)=>WV (ρ:=ρk rl (À (kx ns)) (À (.fls (zh wd))) (À (.int (a:Int))) (À (.int (t:Int))) (À (.str wo)) (À (.ref kk)) o7 Á Á) (h:=H8) (wd:=wd) (a:=a) rfl rfl
  have B1:=λ(o7:Option W)=>Vg (ρ:=ρk rl (À (kx ns)) (À (.fls (zh wd))) (À (.int (a:Int))) (À (.int (t:Int))) (À (.str wo)) (À (.ref kk)) o7 Á Á) (h:=H8) (wd:=wd) (a:=a) rfl rfl
  have Nh:(wd.take a).length<=56:=by rw[jW];omega
  have NO:(wd.take (a+1)).length<=56:=by rw[jW];omega
  have NP:(wd.drop a).length=wd.length-a:=jX ..;have NQ:(wd.drop (a+1)).length=wd.length-(a+1):=jX ..;have NR:(wd.take a).length=a:=by rw[jW];omega
  have NS:(wd.take (a+1)).length=a+1:=by rw[jW];omega
  have wt:∀n,∀x∈wd.take n,Wf x:=λn x hx=>wf x (wu hx)
  have Gg:∀n,∀x∈wd.drop n,Wf x:=λn x hx=>wf x (j6 hx)
  have m2:=uW (F Á) (B1 Á) (dZ H8 ∅);have m3:=uW (F1 Á) (B Á) (dZ H8 ∅);have f5:∀o7:Option W,zi kf [zd 5] (ρk rl (À (kx ns)) (À (.fls (zh wd))) (À (.int (a:Int))) (À (.int (t:Int))) (À (.str wo)) (À (.ref kk)) o7 Á Á) H8=À (.fls (zh [wo]),H8):=λo7=>by simp[zi,ke,bnd,zd,kf,c1,zh]
  have f6:∀o7:Option W,zi kf [Mf ""] (ρk rl (À (kx ns)) (À (.fls (zh wd))) (À (.int (a:Int))) (À (.int (t:Int))) (À (.str wo)) (À (.ref kk)) o7 Á Á) H8=À (.fls (zh [""]),H8):=λo7=>by simp[zi,ke,bnd,eC,kf,c1,zh]
  have f8:∀o7:Option W,zi kf [Mf "("] (ρk rl (À (kx ns)) (À (.fls (zh wd))) (À (.int (a:Int))) (À (.int (t:Int))) (À (.str wo)) (À (.ref kk)) o7 Á Á) H8=À (.fls (zh ["("]),H8):=λo7=>by simp[zi,ke,bnd,eC,kf,c1,zh]
  have f9:∀o7:Option W,zi kf [Mf "(",Mf "ask",Mf ")",Mf ")"] (ρk rl (À (kx ns)) (À (.fls (zh wd))) (À (.int (a:Int))) (À (.int (t:Int))) (À (.str wo)) (À (.ref kk)) o7 Á Á) H8=À (.fls (zh ["(","ask",")",")"]),H8):=λo7=>by simp[zi,ke,bnd,eC,kf,c4,zh]
  have m5:=λo7=>uW (uW (F o7) (f5 o7) (dZ H8 (by simp;omega))) (B1 o7) (dZ H8 (by simp;omega))
  have m6:=λo7=>uW (uW (F o7) (f6 o7) (dZ H8 (by simp;omega))) (B o7) (dZ H8 (by simp;omega))
  have v2:∀o7:Option W,zd 2 (ρk rl (À (kx ns)) (À (.fls (zh wd))) (À (.int (a:Int))) (À (.int (t:Int))) (À (.str wo)) (À (.ref kk)) o7 Á Á) H8=À (.fls (zh wd),H8):=λ_=>rfl
  have v6:∀o7:Option W,zd 6 (ρk rl (À (kx ns)) (À (.fls (zh wd))) (À (.int (a:Int))) (À (.int (t:Int))) (À (.str wo)) (À (.ref kk)) o7 Á Á) H8=À (.ref kk,H8):=λ_=>rfl
  have w2:∀x∈wd.take a++wd.drop (a+1),Wf x:=λx hx=>(zA.mp hx).elim (wt _ x) (Gg _ x)
  have w3:∀x∈wd.take (a+1)++wd.drop a,Wf x:=λx hx=>(zA.mp hx).elim (wt _ x) (Gg _ x)
  have w5:∀x∈wd.take a++[wo]++wd.drop (a+1),Wf x:=λx hx=>(zA.mp hx).elim (λz=>(zA.mp z).elim (wt _ x) λz=>by rw[kJ.mp z];exact Nd) (Gg _ x)
  have w6:∀x∈wd.take a++[("":È)]++wd.drop a,Wf x:=λx hx=>(zA.mp hx).elim (λz=>(zA.mp z).elim (wt _ x) λz=>by rw[kJ.mp z];exact QI ⋯) (Gg _ x)
  have w8:∀x∈([("(":È)]:List È),Wf x:=λx hx=>eQ (.inr (by rw[kJ.mp hx];decide +kernel))
  have w9:∀x∈([("(":È),"ask",")",")"]:List È),Wf x:=λx hx=>by
   erw[zp,zm,zU] at hx;rcases hx with rfl | rfl | rfl | rfl
   .exact eQ (.inr ⋯)
   .exact eQ (.inl ⋯)
   .exact eQ (.inr ⋯)
   .exact eQ (.inr ⋯)
  have L2:(wd.take a++wd.drop (a+1)).length<=58:=by rw[zK];omega
  have L3:(wd.take (a+1)++wd.drop a).length<=58:=by rw[zK];omega
  have L5:(wd.take a++[wo]++wd.drop (a+1)).length<=58:=by erw[zK,zr,zR];omega
  have L6:(wd.take a++[("":È)]++wd.drop a).length<=58:=by erw[zK,zr,zR];omega
  have m7:=F;have w7:=wt a;generalize wd.take a++wd.drop (a+1)=q2 at m2 w2 L2;generalize wd.take (a+1)++wd.drop a=q3 at m3 w3 L3;generalize wd.take a++[wo]++wd.drop (a+1)=q5 at m5 w5 L5;generalize wd.take a++[("":È)]++wd.drop a=q6 at m6 w6 L6;generalize wd.take a=q7 at m7 w7 Nh;have a9:zi kf [zd 2,zk addW (jS (zd 2) Á (À (zd 3))) (jS (zd 2) (À (zk addW (zd 3) (LW 1))) Á),zk addW (jS (zd 2) Á (À (zk addW (zd 3) (LW 1)))) (jS (zd 2) (À (zd 3)) Á),zd 6] (ρk rl (À (kx ns)) (À (.fls (zh wd))) (À (.int (a:Int))) (À (.int (t:Int))) (À (.str wo)) (À (.ref kk)) Á Á Á) H8=À (.fls [.fls (zh wd),.fls (zh q2),.fls (zh q3),.ref kk],H8):=by
   erw[zi,ke,bnd,v2,m2,m3,v6];simp[kf,c4]
  rw[zo (fR (ρ':=ρk rl (À (kx ns)) (À (.fls (zh wd))) (À (.int (a:Int))) (À (.int (t:Int))) (À (.str wo)) (À (.ref kk)) (À (.fls [.fls (zh wd),.fls (zh q2),.fls (zh q3),.ref kk])) Á Á) (h2:=H8) a9 rfl)];have V7:∀z,zd 7 (ρk rl (À (kx ns)) (À (.fls (zh wd))) (À (.int (a:Int))) (À (.int (t:Int))) (À (.str wo)) (À (.ref kk)) (À (.fls z)) Á Á) H8=À (.fls z,H8):=λ_=>rfl
  have Hl:zi kf [zk addW (zk addW (jS (zd 2) Á (À (zd 3))) (zi kf [zd 5])) (jS (zd 2) (À (zk addW (zd 3) (LW 1))) Á)] (ρk rl (À (kx ns)) (À (.fls (zh wd))) (À (.int (a:Int))) (À (.int (t:Int))) (À (.str wo)) (À (.ref kk)) (À (.fls [.fls (zh wd),.fls (zh q2),.fls (zh q3),.ref kk])) Á Á) H8=À (.fls [.fls (zh q5)],H8):=by
   erw[zi,ke,bnd,zi,ke,bnd] at m5 ⊢;erw[m5];simp[kf,c1]
  rw[zo (fR (ρ':=ρk rl (À (kx ns)) (À (.fls (zh wd))) (À (.int (a:Int))) (À (.int (t:Int))) (À (.str wo)) (À (.ref kk)) (À (.fls [.fls (zh wd),.fls (zh q2),.fls (zh q3),.ref kk,.fls (zh q5)])) Á Á) (h2:=H8) (uW (V7 _) Hl (qr H8 (by simp))) rfl)];have Ni:zi kf [zk addW (zk addW (jS (zd 2) Á (À (zd 3))) (zi kf [Mf ""])) (jS (zd 2) (À (zd 3)) Á),jS (zd 2) Á (À (zd 3)),zi kf [Mf "("],zi kf [Mf "(",Mf "ask",Mf ")",Mf ")"]] (ρk rl (À (kx ns)) (À (.fls (zh wd))) (À (.int (a:Int))) (À (.int (t:Int))) (À (.str wo)) (À (.ref kk)) (À (.fls [.fls (zh wd),.fls (zh q2),.fls (zh q3),.ref kk,.fls (zh q5)])) Á Á) H8=À (.fls [.fls (zh q6),.fls (zh q7),.fls (zh ["("]),.fls (zh ["(","ask",")",")"])],H8):=by
   have z6:=m6 (À (.fls [.fls (zh wd),.fls (zh q2),.fls (zh q3),.ref kk,.fls (zh q5)]));have z7:=m7 (À (.fls [.fls (zh wd),.fls (zh q2),.fls (zh q3),.ref kk,.fls (zh q5)]));have z8:=f8 (À (.fls [.fls (zh wd),.fls (zh q2),.fls (zh q3),.ref kk,.fls (zh q5)]));have z9:=f9 (À (.fls [.fls (zh wd),.fls (zh q2),.fls (zh q3),.ref kk,.fls (zh q5)]));generalize zh ["("]=y8 at z8 ⊢;generalize zh ["(","ask",")",")"]=y9 at z9 ⊢;generalize zi kf [Mf "(",Mf "ask",Mf ")",Mf ")"]=x9 at z9 ⊢;generalize zi kf [Mf "("]=x8 at z8 ⊢;generalize (zk addW (zk addW (jS (zd 2) Á (À (zd 3))) (zi kf [Mf ""])) (jS (zd 2) (À (zd 3)) Á))=x6 at z6 ⊢;generalize (jS (zd 2) Á (À (zd 3)))=x7 at z7 ⊢;generalize (ρk rl (À (kx ns)) (À (.fls (zh wd))) (À (.int (a:Int))) (À (.int (t:Int))) (À (.str wo)) (À (.ref kk)) (À (.fls [.fls (zh wd),.fls (zh q2),.fls (zh q3),.ref kk,.fls (zh q5)])) Á Á)=ρq at z6 z7 z8 z9 ⊢;simp[zi,ke,bnd,z6,z7,z8,z9,kf,c4]
  rw[zo (fR (ρ':=ρk rl (À (kx ns)) (À (.fls (zh wd))) (À (.int (a:Int))) (À (.int (t:Int))) (À (.str wo)) (À (.ref kk)) (À (.fls [.fls (zh wd),.fls (zh q2),.fls (zh q3),.ref kk,.fls (zh q5),.fls (zh q6),.fls (zh q7),.fls (zh ["("]),.fls (zh ["(","ask",")",")"])])) Á Á) (h2:=H8) (uW (V7 _) Ni (qr H8 (by simp))) rfl)];obtain⟨p8,p9,lp⟩:=oK (s:=À (kx ns)) (a:=À (.fls (zh wd))) (b:=À (.int (a:Int))) (c:=À (.int (t:Int))) (d:=À (.str wo)) (e:=À (.ref kk)) (f:=À (.fls [.fls (zh wd),.fls (zh q2),.fls (zh q3),.ref kk,.fls (zh q5),.fls (zh q6),.fls (zh q7),.fls (zh ["("]),.fls (zh ["(","ask",")",")"])])) (h:=H8) K
   [.fls (zh wd),.fls (zh q2),.fls (zh q3),.ref kk,.fls (zh q5),.fls (zh q6),.fls (zh q7),.fls (zh ["("]),.fls (zh ["(","ask",")",")"])] Á Á (λE hE=>by
    erw[zp,zm,zU] at hE;rcases hE with rfl | rfl | rfl | rfl | rfl | rfl | rfl | rfl | rfl
    .exact⟨wd,rfl,wf,by omega⟩
    .exact⟨q2,rfl,w2,L2⟩
    .exact⟨q3,rfl,w3,L3⟩
    .exact⟨q4,gk,IS,l4⟩
    .exact⟨q5,rfl,w5,L5⟩
    .exact⟨q6,rfl,w6,L6⟩
    .exact⟨q7,rfl,w7,by omega⟩
    .exact⟨["("],rfl,w8,by simp⟩
    .exact⟨["(","ask",")",")"],rfl,w9,by simp⟩)
  generalize [W.fls (zh wd),.fls (zh q2),.fls (zh q3),.ref kk,.fls (zh q5),.fls (zh q6),.fls (zh q7),.fls (zh ["("]),.fls (zh ["(","ask",")",")"])]=LL at lp ⊢;have fr:(xi (wn (zd 7)) (zD 8) (ox G)) (ρk rl (À (kx ns)) (À (.fls (zh wd))) (À (.int (a:Int))) (À (.int (t:Int))) (À (.str wo)) (À (.ref kk)) (À (.fls LL)) Á Á) H8=À (.nx (ρk rl (À (kx ns)) (À (.fls (zh wd))) (À (.int (a:Int))) (À (.int (t:Int))) (À (.str wo)) (À (.ref kk)) (À (.fls LL)) p8 p9),H8):=by
   unfold xi;have it:wn (zd 7) (ρk rl (À (kx ns)) (À (.fls (zh wd))) (À (.int (a:Int))) (À (.int (t:Int))) (À (.str wo)) (À (.ref kk)) (À (.fls LL)) Á Á) H8=À (.items LL,H8):=rfl;rw[it];exact lp
  refine(zo (a:=xi (wn (zd 7)) (zD 8) (ox G)) fr).trans ?_;rfl
 erw[row]
theorem VZ:∀n,lv n=up n Fs.bot
 | 0=>rfl
 | n+1=>by show step (lv n)=step (up n Fs.bot);rw[VZ n]
def main(ns:List Int)(hl:ns.length<=63):∃h',(lv 200).cN [.fls (ns.map W.int)] []=À (.bl Ã,h'):=by
 refine⟨[],?_⟩;rw[VZ];exact BX (F:=up 165 Fs.bot) hl
end K81
namespace K81
open PySem PySem.W PyProof.Rows ML
set_option maxHeartbeats 0 in
def txt{XP:(È->Option Ä)->Ï->Prop}{w:Ð}{s₀:Å}{mg mb:È->Option Ä}{h:Ï}(G:Ground q ["FORMS"] [] XP w s₀ mg mb h):nZ (uU (Kw h) mg) defs:=by
 repeat refine⟨by
  first
  | exact oU G Nu (ML.hb1 λ_ _ _ _ _ _ _=>Nu) rfl
  | exact oU G Nu (ML.hb2 λ_ _ _ _ _ _ _ _=>Nu) rfl
  | exact oU G Nu (ML.hb3 λ_ _ _ _ _ _ _ _ _=>Nu) rfl
  | exact oU G Nu (ML.hb4 λ_ _ _ _ _ _ _ _ _ _=>Nu) rfl
  | exact oU G Nu (ML.hb5 λ_ _ _ _ _ _ _ _ _ _ _=>Nu) rfl,?_⟩
 trivial
end K81
open PySem PySem.W PyProof.Rows ML
set_option maxRecDepth 100000 in
set_option maxHeartbeats 0 in
theorem PySem.Challenge.cw_shelfwork_k81_whole_read_holds : PySem.Challenge.rw_shelfwork_k81_whole_read.Holds := by
 refine holds_law K81.said λsaid=>?_
 refine holds_open (q:=K81.q) (loose:=["FORMS"]) (Xt:=λs=>xlAt K81.q [] s&&recOk [] s) (XP:=XL K81.q []) (Yf:=K81.H.obs) (Ya:=K81.H.val) (YP:=K81.H.says) (N:=8000) K81.left (Hook.of K81.H) (Hook.keeps K81.H) (λs e=>xl_of s (zX.mp e).1) XL.keeps rfl rfl rfl (λs e=>recFacts_of (zX.mp e).2) rfl said ⋯ ⟨rfl,rfl,rfl,rfl,rfl,by decide +kernel⟩ ?hw ?hc
 case hw=>w_witness2
 case hc=>
  exact ML.walk_lawX (l:=PySem.Challenge.rw_shelfwork_k81_whole_read) (D:=K81.dF) (g:=(K81.lv 200).cN) (b:=K81.cA (K81.lv 199)) (Γ:=K81.rc (K81.lv 199)) (ds:=K81.defs) (y:="_law_script") (room:=199) (cons:=K81.consC) (tabs:=K81.tabsC) Nu Nu rfl rfl ⟨rfl,by decide,by decide⟩ rfl rfl (ML.hb1 λ_ _ _ _ _ _ _=>Nu) Nu rfl rfl Nu rfl K81.main (λw K mg base T c t z=>λ{C} xc ek=>K81.lvl T c t z xc ek 199) λw s₀ mg mb h G=>⟨(K81.txt G).2.2.2.2.2.2.2.2.2.2.2.2.2.2.2.2.2.2.2.2.2.2.2.2.2.2.2.2.2.2.1,K81.txt G⟩

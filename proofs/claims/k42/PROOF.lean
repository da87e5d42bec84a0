import PyProof.Rows.All
import PyProof.ReprRoads
import PyProof.Rows.CatFin
import PyProof.Rows.StrClip
import PyProof.Rows.StrPartPair
import PyProof.StrLawsTight
import PyProof.AutoRange
import PyProof.RangeFor
import PyProof.StrLawsChain
import PyProof.Rows.StrSplitCount
import PyProof.Rows.StrMul
import Wide.All
import OpenK.AllK
import Wide.FinOn
import PyProof.EqAt
import PyProof.EqKinds
import PyProof.NeKinds
import PyProof.TupleCall
import PyProof.StrWalks
import PyProof.ConsumeWalk
import PyProof.EnumMake
import PyProof.EnumFor
import PyProof.ListNew
import PyProof.ListRange
import PyProof.Rows.SortWalk
import PyProof.Rows.Range3
import PyProof.Rows.ChunkEnd
import PyProof.Rows.ChunkLeaf
import PyProof.Rows.StrInSeq
import Wide.Txt
import PyProof.DictIter
import PyProof.DictWalks
import PyProof.AttrMissHeap
import KE.KDictOf
import KE.KSortTup
import KE.KDictList
import KE.KRevIter
import PyProof.Rows.Own
import PyProof.ExcBaseAll.ValueError
import PyProof.RulesAs
import PyProof.NsDelKeeps
import PyProof.ExcClass3
import PyProof.ExcArgsOwn
import KE.KIsAll
import KE.IntBitsLaws
import PyProof.Rows.StrRev
import PyProof.PureStr
import PyProof.ToksMono
import PyProof.MeetsStr3
import PyProof.StrCalls6
import KE.KDictSum
import KE.KIntText
import KE.KEqDict
import PyProof.Rows.SortStr
import PyProof.Rows.SortShellK
import PyProof.Rows.StrKeys3
import Lean
import PySem.Challenge.RW_laidfields_k42_whole_apart_and_steady
set_option Elab.async false
set_option hygiene false
set_option compiler.extract_closed false
set_option bootstrap.genMatcherCode false
set_option genSizeOf false
set_option genInjectivity false
set_option backward.eqns.nonrecursive false
set_option linter.all false
set_option maxRecDepth 100000
set_option maxHeartbeats 16000000
namespace Lean
def zD(s:Syntax):=if s[0][4].getNumArgs==0&&[`definition,`abbrev,`instance].any λk=>s[1].isOfKind (`Lean.Parser.Command++k) then s.setArg 0 (s[0].setArg 4 (mkNullNode #[mkNode `Lean.Parser.Command.noncomputable #[mkAtom "noncomputable"]])) else .missing
def zE(s t:Syntax):MacroM Syntax:=if t.getArgs.any λs=>(zD s).isMissing then Macro.throwUnsupported else return s
end Lean
local macro_rules(kind:=Lean.Parser.Command.declaration)|s=>Lean.zE (Lean.zD s) (Lean.mkNullNode #[s])
local macro_rules(kind:=Lean.Parser.Command.mutual)|s=>Lean.zE (s.setArg 1 (Lean.mkNullNode (s[1].getArgs.map Lean.zD))) s[1]
abbrev AA:List PySem.Str:=["self","make"]
abbrev AB:List PySem.Str:=["thing"]
abbrev AC:List PySem.Str:=["number","m"]
abbrev AD:List PySem.Str:=["house","steady","a","b","both","first","second","names","others","places"]
abbrev AE:List PySem.Str:=["things","depth"]
abbrev AG:List PySem.Str:=["thing","word","length"]
abbrev AH:List PySem.Str:=["places","others"]
abbrev AI:List PySem.Str:=["fields","change"]
abbrev AJ:List PySem.Str:=["fields","name"]
abbrev AL:List PySem.Str:=["kinds"]
abbrev AM:List PySem.Str:=["house","a","b"]
abbrev AN:List PySem.Str:=["kind","thing"]
abbrev AO:List PySem.Str:=["self","there","changes"]
abbrev AQ:List PySem.Str:=["thing","depth"]
abbrev AR:List PySem.Str:=["kind","deck"]
abbrev AS:List PySem.Str:=["deck","now","known","changes","most","turn","name","here","kind"]
abbrev AT:List PySem.Str:=["deck","deep","most"]
abbrev AU:List PySem.Str:=["group","ways","rooms","lying"]
abbrev AV:List PySem.Str:=["self","changes"]
abbrev AW:List PySem.Str:=["thing","greatest"]
abbrev AX:List PySem.Str:=["kind"]
abbrev AY:List PySem.Str:=["kind","n","thing"]
abbrev AZ:List PySem.Str:=["rooms"]
abbrev BB:List PySem.Str:=["thing","longest"]
abbrev BC:List PySem.Str:=["rooms","places"]
abbrev BD:List PySem.Str:=["fields","thing"]
abbrev BE:List PySem.Str:=["deck","deep"]
abbrev BF:List PySem.Str:=["deck"]
abbrev BG:List PySem.Str:=["house","steady","a","b"]
abbrev BH:List PySem.Str:=["house","makes","steady"]
abbrev BI:List PySem.Str:=["kinds","thing"]
abbrev BJ:List PySem.Str:=["self","fields"]
abbrev BK:List PySem.Str:=["script"]
abbrev BL:List PySem.Str:=["begin","room","lying"]
abbrev BM:List PySem.Str:=["name","kind","agreed"]
abbrev BN:List PySem.Str:=["deck","now","known"]
abbrev BO:List PySem.Str:=["stretches"]
abbrev T4(x:PySem.Str):Prop:=(x==("__classdict__":PySem.Str))=false
abbrev T3(x:PySem.Str):Prop:=(x==("__debug__":PySem.Str))=false
abbrev S5:=Array PySem.Value
abbrev S4:=Option Int
abbrev S3:=List PySem.Expr
abbrev R9:=List PySem.Addr
abbrev R8:=List Nat
abbrev Q7:=List PySem.Value
abbrev Q6:=List Int
abbrev Q4:=List<|Int×Int
abbrev Q3:=List PySem.Str
abbrev dN:=PySem.W.Frag
abbrev mH:=PySem.Str->Option PySem.Value
variable{P:PySem.Program}{w:PySem.World}{K:dN}{mg:mH}{base:PySem.Heap}{fd:PySem.FuncData}
abbrev dzT:=@decide_eq_true
abbrev dzF:=@decide_eq_false
abbrev ozI:=@Option.some.inj
abbrev nzL:=@Nat.le_trans
abbrev gQ:=List<|PySem.Addr×PySem.Obj
abbrev iE:=PySem.Value->PySem.Shared->Prop
section
open PySem PySem.Spec PyProof.Rows
abbrev aA:=@List.mem_cons_self
abbrev aB:=@List.length_map
abbrev aC:=@List.mem_cons_of_mem
abbrev aD:=@Heap.get?_push_of_some
abbrev aE:=@List.mem_singleton
abbrev aF:=@List.mem_cons
abbrev aG:=@List.mem_append_right
abbrev aI:=@List.length_append
abbrev aJ:=@List.getElem?_eq_getElem
abbrev aK:=@List.getElem?_eq_some_iff
abbrev aL:=@List.length_cons
abbrev aM:=@List.mem_append_left
abbrev aO:=@Nat.le_refl
abbrev aQ:=@List.mem_of_getElem?
abbrev aR:=@Heap.lt_size
abbrev aS:=@List.size_toArray
abbrev aU:=@List.append_nil
abbrev aV:=@List.mem_append
abbrev aW:=@Heap.get?_push_size
abbrev aX:=@Nat.lt_of_lt_of_le
abbrev aY:=@List.mem_map
abbrev aZ:=@List.map_append
abbrev bA:=@List.getD_eq_getElem?_getD
abbrev bD:=@Heap.get?_update_other
abbrev bE:=@List.length_nil
abbrev bF:=@Nat.ne_of_lt
abbrev bG:=@List.map_cons
abbrev bH:=@List.map_map
abbrev bI:=@List.getElem?_map
abbrev bJ:=@Bool.false_ne_true
abbrev bK:=@List.append_assoc
abbrev bL:=@Nat.zero_le
abbrev bM:=@List.lookup_cons
abbrev bN:=@List.length_replicate
abbrev bO:=@List.nodup_append
abbrev bP:=@Option.bind_eq_some_iff
abbrev bQ:=@Int.emod_lt_of_pos
abbrev bR:=@List.nodup_cons
abbrev bS:=@List.length_set
abbrev bT:=@Int.emod_nonneg
abbrev bU:=@List.nil_append
abbrev bV:=@List.not_mem_nil
abbrev bW:=@List.getElem?_append_right
abbrev bY:=@List.length_range
abbrev cA:=@List.mem_filter
abbrev cD:=@Int.mul_le_mul_of_nonneg_right
abbrev cE:=@Heap.get?_update_self
abbrev cI:=@Bool.and_eq_true
abbrev cJ:=@Nat.le_of_lt_succ
abbrev cK:=@Heap.size_push
abbrev cL:=@Option.isSome_iff_exists
abbrev cM:=@List.length_filter_le
abbrev cO:=@PyProof.Rows.callWith_type1
abbrev cS:=@List.getElem?_set_ne
abbrev cV:=@Option.map_eq_some_iff
abbrev cW:=@List.getElem?_zip_eq_some
abbrev cX:=@List.getElem?_append_left
abbrev dB:=@Nat.lt_irrefl
abbrev dE:=@List.map_nil
abbrev dF:=@Nat.lt_of_lt_of_eq
abbrev dG:=@List.filter_append
abbrev dI:=@List.mem_flatMap
abbrev dJ:=@List.cons_append
abbrev dQ:=@List.filter_eq_nil_iff
abbrev dR:=@List.filter_sublist
abbrev dU:=@List.length_zip
abbrev dW:=@List.find?_cons
abbrev dX:=@Bool.eq_iff_iff
abbrev eC:=@Nat.zero_testBit
abbrev eF:=@Nat.le_add_right
abbrev eI:=@List.length_take
abbrev eK:=@List.set_eq_of_length_le
abbrev eP:=@List.mem_range
abbrev eV:=@Nat.lt_succ_of_le
abbrev eW:=@Nat.le_of_succ_le
abbrev eX:=@Int.toNat_natCast
abbrev eY:=@Nat.two_pow_pos
abbrev fA:=@List.replicate_succ
abbrev fE:=@Nat.ne_of_gt
abbrev fG:=@Nat.le_max_right
abbrev fH:=@List.perm_middle
abbrev fM:=@List.perm_append_comm
abbrev fS:=@Nat.le_max_left
abbrev fV:=@Nat.lt_succ_of_lt
abbrev fW:=@Nat.add_le_add_right
abbrev fX:=@List.getElem?_of_mem
abbrev gC:=@List.map_eq_nil_iff
abbrev gF:=@List.nodup_nil
abbrev gG:=@List.length_drop
abbrev gH:=@List.filter_cons
abbrev gM:=@Nat.le_add_right_of_le
abbrev gN:=@List.getElem?_set_self
abbrev gO:=@Bool.false_eq_true
abbrev gR:=@List.lookup_cons_self
abbrev gU:=@Nat.lt_of_succ_lt
abbrev gX:=@Int.lt_of_add_one_le
abbrev gY:=@Bool.and_eq_true_iff
abbrev iA:=@Nat.sub_self
abbrev iB:=@Nat.le_of_not_lt
abbrev iC:=@Int.zero_add
abbrev iD:=@Heap.size_update
abbrev iF:=@List.getElem?_range
abbrev iG:=@List.flatMap_append
abbrev iH:=@List.filter_eq_self
abbrev iI:=@List.filterMap_cons
abbrev iN:=@List.any_cons
abbrev iO:=@Nat.le_add_left
abbrev iU:=@List.getElem?_replicate
abbrev iV:=@Int.le_refl
abbrev iZ:=@Nat.le_of_lt
abbrev jA:=@Nat.le_of_eq
abbrev jB:=@List.pairwise_map
abbrev jC:=@Int.le_trans
abbrev jI:=@PyProof.Rows.slot_tuple_getitem
abbrev jN:=@List.length_singleton
abbrev jO:=@List.getElem?_eq_none
end
namespace L2
open PySem PySem.Spec PyProof.Rows
set_option genInjectivity true in
inductive V where
 |non | bl (b:Bool) | int (i:Int) | str (x:Str) | byt (b:Array UInt8) | flt (b:UInt64) | ref (a:Addr) | ty (n:String)
 deriving DecidableEq
abbrev S1:=Option V
def aMm:Value->S1
 | .none=>some .non
 | .bool b=>some (.bl b)
 | .int i _=>some (.int i)
 | .str x _=>some (.str x)
 | .bytes b _=>some (.byt b)
 | .float b _=>some (.flt b)
 | .ref a=>some (.ref a)
 | .type n=>some (.ty n)
 |_=>none
def fC(s:Stmt)(j:Nat):Stmt:=match s with
 | .ClassDef _ _ _ body _ _ _ _ _ _ _=>body.getD j (.Pass ⟨0,0,0,0⟩)
 |_=>.Pass ⟨0,0,0,0⟩
def lP(s:Stmt):Arguments:=match s with
 | .FunctionDef _ a _ _ _ _ _ _ _ _=>a
 |_=>{ posonlyargs:=[],args:=[],vararg:=none,kwonlyargs:=[],kw_defaults:=[],kwarg:=none,defaults:=[] }
def fL(s:Stmt):List Stmt:=match s with
 | .FunctionDef _ _ b _ _ _ _ _ _ _=>b
 |_=>[]
def aP(s:Stmt):Scope:=match s with
 | .FunctionDef _ _ _ _ _ _ sc _ _ _=>sc
 |_=>{ kind:=.function,names:=[],isGenerator:=false,isCoroutine:=false }
end L2
namespace L2
open PySem PySem.W PySem.Spec PyProof.Rows PySem.Calls
def aRq(h:Heap):Frag:=(List.range h.objs.size).filterMap λa=>(h.get? a).map λo=>(a,o)
noncomputable def onceSeen (h:(String->Option Builtin)->Program->World->Nat->Option Value->Nat->Shared->Thread->Option Shared) (g:String->Option Builtin) (b:List Stmt->Q3) {e:Type} (os:Q3->Shared->e) (p:Program) (N:Nat) {c:Type} (f:Frag->c) (w:World) (o:OsState):Option<|Bool×e×c:=
 (h g p w 11 (some<|.ref 6) N ⟨boot_heap w.params,Array.mk [],boot_drawn,boot_toks,o⟩<|topStub p).map fun a =>
  (staticsOk (b p.main.body) (boot_heap w.params) a.heap&&namesBound p a.heap&&gensDone a&&laidKept (boot_heap w.params) a.heap,os (b p.main.body) a,f<|aRq a.heap)
def fN(p:Program)(i:Nat):Stmt:=p.main.body.getD i<|.Pass ⟨0,0,0,0⟩
def fD(s:Stmt):Str:=match s with
 | .FunctionDef n ..=>n
 | .Assign [.Name n _] _ _=>n
 |_=>⟨#[]⟩
abbrev FO:=Option<|(Str×Str×Arguments×FuncBody×Scope)×(Addr×List (Str×Addr)×Value×Addr)×Bool
def vW(K:Frag)(n:Str):FO:=match nsIn K mainGlobals n with
 |some (some<|.ref f)=>(match K.lookup f with
  |some ⟨_,_,.func fd,_⟩=>some ((fd.name,fd.qualname,fd.params,fd.body,fd.scope),(fd.globals,fd.closure,fd.defaults,fd.builtins),codeIn K fd.code n)
  |_=>none)
 |_=>none
def wS(s:Stmt):FO:=some ((fD s,fD s,lP s,.stmts<|fL s,aP s),(mainGlobals,[],.none,builtinsNs),true)
def zA(K:Frag)(n:Str):Bool:=match nsIn K mainGlobals n with
 |some none=>true
 |_=>false
def vU(K:Frag)(n:Str):S1:=match nsIn K mainGlobals n with
 |some (some v)=>aMm v
 |_=>none
def vV(K:Frag)(n:Str):Option<|List S1:=match nsIn K mainGlobals n with
 |some (some<|.ref a)=>(match K.lookup a with
  |some ⟨.type "tuple",_,.seq xs _,_⟩=>some (xs.toList.map aMm)
  |_=>none)
 |_=>none
def bltNs:Q3:=[⟨#[105,115,105,110,115,116,97,110,99,101]⟩,⟨#[105,110,116]⟩,⟨#[98,111,111,108]⟩,⟨#[108,105,115,116]⟩,⟨#[108,101,110]⟩,⟨#[115,116,114]⟩,⟨#[116,117,112,108,101]⟩,⟨#[97,108,108]⟩,⟨#[100,105,99,116]⟩,⟨#[109,97,120]⟩,⟨#[109,105,110]⟩,⟨#[114,97,110,103,101]⟩,⟨#[122,105,112]⟩,⟨#[101,110,117,109,101,114,97,116,101]⟩,⟨#[115,111,114,116,101,100]⟩,⟨#[115,117,109]⟩,⟨#[114,101,118,101,114,115,101,100]⟩]
end L2
namespace Lf
open PySem L2
abbrev veM:Q7:=[.type "ValueError",.type "Exception",.type "BaseException",.type "object"]
end Lf
namespace PySem.W
open PySem PySem.Spec PySem.Calls PyProof.Rows
def excKit(K:Frag)(D:Addr):Bool:=(findIn K (.ref D) "__getattribute__" == some (some<|.builtin "BaseException.__getattribute__"))&&(findIn K (.ref D) "__getattr__" == some none)&&(mroIn K D (.type "BaseException") == some true)&&(mroIn K D (.type "object") == some true) &&
 (findIn K (.ref D) "__class__" == some (some<|.builtin "object.__class__"))&&(specialIn K (.builtin "object.__class__") "__get__" == some (some<|.builtin "getset_descriptor.__get__"))&&(takesIn K (.builtin "object.__class__") == some true)
end PySem.W
namespace Lf
open PySem L2
open PySem.W (Frag nsIn)
def vX(K:Frag)(N:Addr)(n:Str):Bool:=match K.lookup N with
 |some ⟨_,_,.dict es _,_⟩=>es.toList.all (λe=>match e.key with | .str _ _=>true | _=>false)&&(es.toList.find? (·.key.isStr n)).isNone
 |_=>false
def gJ(K:Frag):Nat->Q7->Bool
 |n+1,.ref A::r=>(match K.lookup A with
  |some ⟨_,_,.cls cd,_⟩=>vX K cd.ns "__init__" && gJ K n r
  |_=>false)
 |_,l=>l == veM
def c7(K:Frag)(C:Addr):Bool:=match K.lookup C with
 |some ⟨.type "type",_,.cls cd,sl⟩=>(match cd.mro with
  | .ref C'::tl=>C' == C&&cd.hasDel == false&&sl.size == 6&&sl[4]? == some (some<|.builtin "ValueError.__new__")&&vX K cd.ns "__init__" && gJ K 4 tl
  |_=>false)&&PySem.W.excKit K C
 |_=>false
def mM(K:Frag)(n:Str):Option Addr:=match nsIn K mainGlobals n with
 |some (some<|.ref C)=>some C
 |_=>none
def aUl(K:Frag)(C D:Addr):Bool:=match K.lookup C with
 |some ⟨_,_,.cls cd,_⟩=>cd.mro.contains (.ref D)
 |_=>false
def bDl(K:Frag)(a:Q3):List<|Bool×List (Option Bool×Bool)×Option Bool×Option Bool:=a.map λn=>match mM K n with
 |some C=>(c7 K C,a.map (λm=>match mM K m with | some D=>(PySem.W.kitOne K (.ref C)<|.ref D,aUl K C D) | none=>(none,false)),PySem.W.kitOne K (.ref C)<|.type "ValueError",PySem.W.kitOne K (.type "NoneType")<|.ref C)
 |none=>(false,[],none,none)
abbrev OX:=Bool×List (Option Bool×Bool)×Option Bool×Option Bool
end Lf
namespace L2
open PySem PySem.W PySem.Spec PyProof.Rows PySem.Calls
def nF(K:Frag)(C:Addr)(m q:Str):FO:=match findIn K (.ref C) m with
 |some (some<|.ref f)=>(match K.lookup f with
  |some ⟨_,_,.func fd,_⟩=>some ((fd.name,fd.qualname,fd.params,fd.body,fd.scope),(fd.globals,fd.closure,fd.defaults,fd.builtins),codeIn K fd.code q)
  |_=>none)
 |_=>none
def aAy(K:Frag)(C:Addr)(m:Str):Bool:=match findIn K (.ref C) m with
 |some (some v)=>isFn K v
 |_=>false
def hY(m q:Str)(s:Stmt):FO:=some ((m,q,lP s,.stmts<|fL s,aP s),(mainGlobals,[],.none,builtinsNs),true)
abbrev OCl:=Option<|(Bool×Bool×Bool×Option (Option Value)×Bool×Bool)×List FO×List Bool×List (Option<|Option Value)
def aJu(K:Frag)(n:Str)(a:List<|Str×Str)(fs:Q3):OCl:=match nsIn K mainGlobals n with
 |some (some<|.ref C)=>some ((plainGet K C Str.empty,hasDictIn K C,plainOver K C,findIn K (.ref C) "__setattr__",makesIn K C,keepIn K<|.ref C),a.map<|λp=>nF K C p.1 p.2,a.map<|λp=>aAy K C p.1,fs.map λf=>findIn K (.ref C) f)
 |_=>none
def aLs(a:List FO)(b:List<|Str×Str)(fs:Q3):OCl:=some ((true,true,true,some<|some<|.builtin "object.__setattr__",true,true),a,List.replicate b.length true,List.replicate fs.length<|some none)
end L2
namespace Lf
open PySem L2
def _root_.PySem.W.Fast.tw40856714860355446:=PySem.Challenge.pw_laidfields_k42_whole_apart_and_steady
theorem _root_.PySem.W.Fast.te40856714860355446:PySem.Challenge.pw_laidfields_k42_whole_apart_and_steady=PySem.W.Fast.tw40856714860355446:=rfl
def bFy(s:Stmt):S1:=match s with
 | .Assign _ (.Constant (.int i) _ _) _=>some (.int i)
 | .Assign _ (.Constant (.str x) _ _) _=>some (.str x)
 |_=>none
def bIu(e:Expr):S1:=match e with
 | .Constant (.int i) _ _=>some (.int i)
 |_=>none
def bFz(s:Stmt):Option<|List S1:=match s with
 | .Assign _ (.Tuple es _ _) _=>some (es.map bIu)
 |_=>none
theorem rPair{r:OsState->Option Shared}{α β}{f:Shared->α}{g:Shared->β}{a b}(h:(λo=>(r o).map f)=λ_=>some a)(k:(λo=>(r o).map g)=λ_=>some b):(λo=>(r o).map λs=>(f s,g s))=λ_=>some (a,b):=by
 funext o;obtain⟨s,x,e⟩:=Option.map_eq_some_iff.mp (congrFun h o);obtain⟨t,y,d⟩:=Option.map_eq_some_iff.mp (congrFun k o);rw[x]at y;cases y;exact Option.map_eq_some_iff.mpr ⟨s,x,Prod.ext e d⟩
theorem rMap{r:OsState->Option Shared}{α β}{f:Shared->α}{g:Shared->β}{a b}(h:(λo=>(r o).map f)=λ_=>some a)(k:∀s,f s=a->g s=b):(λo=>(r o).map g)=λ_=>some b:=by
 funext o;obtain⟨s,x,e⟩:=Option.map_eq_some_iff.mp (congrFun h o);exact Option.map_eq_some_iff.mpr ⟨s,x,k s e⟩
def seenF(p:Program)(K:dN):List FO×List Bool×List S1×List (Option<|List S1)×List OX×List OCl:=([5,6,7,8,18,19,20,21,22,23,24,25,26,27,28,29,30,31,32,33,34,35,36,38,39,40,41,42,43,44,47,48,49,50,51,55,56,57,58,59,60,62,63,64,65,66,67,68,69,70,71,72,73,74,75,76,77,78].map λi=>vW K<|fD<|fN p i,bltNs.map<|zA K,[10,11,12,14,15,16,17,46,53].map λi=>vU K<|fD<|fN p i,[13].map λi=>vV K<|fD<|fN p i,bDl K ["NoMake"],[aJu K "House" [("__init__","House.__init__"),("next_make","House.next_make"),("begin_make","House.begin_make"),("how_many_makes","House.how_many_makes"),("fields_of","House.fields_of"),("places_of","House.places_of"),("room_at","House.room_at"),("make_at","House.make_at")] ["lying","makes","multiple"]])
def seenV(p:Program):List FO×List Bool×List S1×List (Option<|List S1)×List OX×List OCl:=([5,6,7,8,18,19,20,21,22,23,24,25,26,27,28,29,30,31,32,33,34,35,36,38,39,40,41,42,43,44,47,48,49,50,51,55,56,57,58,59,60,62,63,64,65,66,67,68,69,70,71,72,73,74,75,76,77,78].map λi=>wS<|fN p i,List.replicate 17 true,[10,11,12,14,15,16,17,46,53].map λi=>bFy<|fN p i,[13].map λi=>bFz<|fN p i,[(true,[(some true,true)],some true,some false)],[aLs [hY "__init__" "House.__init__"<|fC (fN p 54) 0,hY "next_make" "House.next_make"<|fC (fN p 54) 1,hY "begin_make" "House.begin_make"<|fC (fN p 54) 2,hY "how_many_makes" "House.how_many_makes"<|fC (fN p 54) 3,hY "fields_of" "House.fields_of"<|fC (fN p 54) 4,hY "places_of" "House.places_of"<|fC (fN p 54) 5,hY "room_at" "House.room_at"<|fC (fN p 54) 6,hY "make_at" "House.make_at"<|fC (fN p 54) 7] [("__init__","House.__init__"),("next_make","House.next_make"),("begin_make","House.begin_make"),("how_many_makes","House.how_many_makes"),("fields_of","House.fields_of"),("places_of","House.places_of"),("room_at","House.room_at"),("make_at","House.make_at")] ["lying","makes","multiple"]])
def seenFA(p:Program)(K:dN):List FO:=[5,6,7,8,18,19,20,21,22,23,24,25,26,27,28,29,30,31,32,33,34,35,36,38,39,40,41,42,43,44].map λi=>vW K<|fD<|fN p i
def seenVA(p:Program):List FO:=[5,6,7,8,18,19,20,21,22,23,24,25,26,27,28,29,30,31,32,33,34,35,36,38,39,40,41,42,43,44].map λi=>wS<|fN p i
def seenFB(p:Program)(K:dN):List FO:=[47,48,49,50,51,55,56,57,58,59,60,62,63,64,65,66].map λi=>vW K<|fD<|fN p i
def seenVB(p:Program):List FO:=[47,48,49,50,51,55,56,57,58,59,60,62,63,64,65,66].map λi=>wS<|fN p i
def seenFC(p:Program)(K:dN):List FO:=[67,68,69,70,71,72,73,74,75,76,77,78].map λi=>vW K<|fD<|fN p i
def seenVC(p:Program):List FO:=[67,68,69,70,71,72,73,74,75,76,77,78].map λi=>wS<|fN p i
def seenFD(p:Program)(K:dN):List Bool×List S1×List (Option<|List S1)×List OX×List OCl:=(bltNs.map<|zA K,[10,11,12,14,15,16,17,46,53].map λi=>vU K<|fD<|fN p i,[13].map λi=>vV K<|fD<|fN p i,bDl K ["NoMake"],[aJu K "House" [("__init__","House.__init__"),("next_make","House.next_make"),("begin_make","House.begin_make"),("how_many_makes","House.how_many_makes"),("fields_of","House.fields_of"),("places_of","House.places_of"),("room_at","House.room_at"),("make_at","House.make_at")] ["lying","makes","multiple"]])
def seenVD(p:Program):List Bool×List S1×List (Option<|List S1)×List OX×List OCl:=(List.replicate 17 true,[10,11,12,14,15,16,17,46,53].map λi=>bFy<|fN p i,[13].map λi=>bFz<|fN p i,[(true,[(some true,true)],some true,some false)],[aLs [hY "__init__" "House.__init__"<|fC (fN p 54) 0,hY "next_make" "House.next_make"<|fC (fN p 54) 1,hY "begin_make" "House.begin_make"<|fC (fN p 54) 2,hY "how_many_makes" "House.how_many_makes"<|fC (fN p 54) 3,hY "fields_of" "House.fields_of"<|fC (fN p 54) 4,hY "places_of" "House.places_of"<|fC (fN p 54) 5,hY "room_at" "House.room_at"<|fC (fN p 54) 6,hY "make_at" "House.make_at"<|fC (fN p 54) 7] [("__init__","House.__init__"),("next_make","House.next_make"),("begin_make","House.begin_make"),("how_many_makes","House.how_many_makes"),("fields_of","House.fields_of"),("places_of","House.places_of"),("room_at","House.room_at"),("make_at","House.make_at")] ["lying","makes","multiple"]])
theorem seenF_two(p:Program)(K:dN):seenF p K=(seenFA p K++(seenFB p K++(seenFC p K)),seenFD p K):=rfl
theorem seenV_two(p:Program):seenV p=(seenVA p++(seenVB p++(seenVC p)),seenVD p):=rfl
section
open PySem.W PySem.Spec PyProof.Rows PySem.Calls
abbrev pp:Program:=PySem.Challenge.pw_laidfields_k42_whole_apart_and_steady
abbrev pq:Program:=PySem.W.view pp [0,2,3,5,6,7,8,10,11,12,13,14,15,16,17,18,19,20,21,22,23,24,25,26,27,28,29,30,31,32,33,34,35,36,38,39,40,41,42,43,44,46,47,48,49,50,51,53,54,55,56,57,58,59,60,62,63,64,65,66,67,68,69,70,71,72,73,74,75,76,77,78]
abbrev onS{α}(f:Shared->α)(v:α)(w:World):Prop:=(λo:OsState=>(topRun treeTable pp w 11 (some (.ref 6)) 4000 ⟨boot_heap w.params,Array.mk [],boot_drawn,boot_toks,o⟩ (topStub pp)).map f)=λ_=>some v
theorem rn_C:∀w:World,onS (λs=>seenFC pp (aRq s.heap)) (seenVC pp) w:=by unfold onS pp;rw[PySem.W.Fast.te14082659384304107361,PySem.W.Fast.te14364793385576792824];exact λw=>by kernel_rfl
theorem rn_B:∀w:World,onS (λs=>seenFB pp (aRq s.heap)) (seenVB pp) w:=by unfold onS pp;rw[PySem.W.Fast.te14082659384304107361,PySem.W.Fast.te14364793385576792824];exact λw=>by kernel_rfl
theorem rn_A:∀w:World,onS (λs=>seenFA pp (aRq s.heap)) (seenVA pp) w:=by unfold onS pp;rw[PySem.W.Fast.te14082659384304107361,PySem.W.Fast.te14364793385576792824];exact λw=>by kernel_rfl
theorem rn_D:∀w:World,onS (λs=>seenFD pp (aRq s.heap)) (seenVD pp) w:=by unfold onS pp;rw[PySem.W.Fast.te14082659384304107361,PySem.W.Fast.te14364793385576792824];exact λw=>by kernel_rfl
theorem rn_8:∀w:World,onS (λs=>wideSeen pq s) (wideGood pq) w:=by unfold onS pq pp;rw[PySem.W.Fast.te14082659384304107361,PySem.W.Fast.te14364793385576792824];exact λw=>by kernel_rfl
theorem rn_1:∀w:World,onS (λs=>seen ((recsOf pq).map (·.name)) (ownsOf pq) [] { s with gens:=#[] }) (expectedOf pq) w:=by unfold onS pq pp;rw[PySem.W.Fast.te14082659384304107361,PySem.W.Fast.te14364793385576792824];exact λw=>by kernel_rfl
theorem rn_6:∀w:World,onS (λs=>plainSeenE pq (looseW pq []) s) (plainGoodE pq (looseW pq [])) w:=by unfold onS pq pp;rw[PySem.W.Fast.te14082659384304107361,PySem.W.Fast.te14364793385576792824];exact λw=>by kernel_rfl
theorem rn_3:∀w:World,onS (λs=>s.heap.keysOk (looseW pq []) ((recsOf pq).map (·.name)) ((litsOf pq).map (·.1)) ((clssOf pq (looseW pq [])).map (·.name))&&s.heap.accountedOkI (importedModules pp.main.body)&&s.heap.isNs mainGlobals&&s.heap.isNs builtinsNs&&tablesOk pq s.heap&&(λs=>PySem.W.xlAt pq [] s&&PySem.W.recOk [] s) s&&(if true then s.gens.size == 0 else !leftWithCleanup s.gens)) (true) w:=by unfold onS pq pp;rw[PySem.W.Fast.te14082659384304107361,PySem.W.Fast.te14364793385576792824,PySem.W.Fast.te5923862056798008813];exact λw=>by kernel_rfl
theorem rn_4:∀w:World,onS (λs=>(s.heap.bltView,tabsOk pq s)) ((bltViewBooted,true)) w:=by unfold onS pq pp;rw[PySem.W.Fast.te14082659384304107361,PySem.W.Fast.te14364793385576792824];exact λw=>by kernel_rfl
theorem rn_0:∀w:World,onS (λs=>(staticsOk (importedModules pp.main.body) (boot_heap w.params) s.heap&&namesBound pp s.heap&&gensDone s&&laidKept (boot_heap w.params) s.heap,pinSeenD pq (drecsOf pq) s,plainSeenD pq [] s,clsSeenW pq [] s)) ((true,pinGoodD (drecsOf pq),plainGoodD pq [],clsGoodW pq [])) w:=by unfold onS pq pp;rw[PySem.W.Fast.te14082659384304107361,PySem.W.Fast.te14364793385576792824,PySem.W.Fast.te5923862056798008813];exact λw=>by kernel_rfl
end
theorem aJl:∀w:World,onceSeen PySem.W.topRun treeTable importedModules (λm s=>PySem.W.openSeen (PySem.W.view PySem.Challenge.pw_laidfields_k42_whole_apart_and_steady [0,2,3,5,6,7,8,10,11,12,13,14,15,16,17,18,19,20,21,22,23,24,25,26,27,28,29,30,31,32,33,34,35,36,38,39,40,41,42,43,44,46,47,48,49,50,51,53,54,55,56,57,58,59,60,62,63,64,65,66,67,68,69,70,71,72,73,74,75,76,77,78]) [] m (λs=>PySem.W.xlAt (PySem.W.view PySem.Challenge.pw_laidfields_k42_whole_apart_and_steady [0,2,3,5,6,7,8,10,11,12,13,14,15,16,17,18,19,20,21,22,23,24,25,26,27,28,29,30,31,32,33,34,35,36,38,39,40,41,42,43,44,46,47,48,49,50,51,53,54,55,56,57,58,59,60,62,63,64,65,66,67,68,69,70,71,72,73,74,75,76,77,78]) [] s&&PySem.W.recOk [] s) true s) PySem.Challenge.pw_laidfields_k42_whole_apart_and_steady 4000 (seenF PySem.Challenge.pw_laidfields_k42_whole_apart_and_steady) w=λ_=>some (true,PySem.W.openGood (PySem.W.view PySem.Challenge.pw_laidfields_k42_whole_apart_and_steady [0,2,3,5,6,7,8,10,11,12,13,14,15,16,17,18,19,20,21,22,23,24,25,26,27,28,29,30,31,32,33,34,35,36,38,39,40,41,42,43,44,46,47,48,49,50,51,53,54,55,56,57,58,59,60,62,63,64,65,66,67,68,69,70,71,72,73,74,75,76,77,78]) [],seenV PySem.Challenge.pw_laidfields_k42_whole_apart_and_steady):=λw=>rMap (rPair (rn_0 w) (rPair (rn_1 w) (rPair (rn_3 w) (rPair (rn_4 w) (rPair (rn_6 w) (rPair (rn_8 w) (rPair (rn_D w) (rPair (rn_A w) (rPair (rn_B w) (rn_C w)))))))))) λs h=>by
 obtain⟨h0,h⟩:=Prod.mk.inj h;obtain⟨h1,h⟩:=Prod.mk.inj h;obtain⟨h3,h⟩:=Prod.mk.inj h;obtain⟨h4,h⟩:=Prod.mk.inj h;obtain⟨h6,h⟩:=Prod.mk.inj h;obtain⟨h8,h⟩:=Prod.mk.inj h;obtain⟨hD,h⟩:=Prod.mk.inj h;obtain⟨hA,h⟩:=Prod.mk.inj h;obtain⟨hB,h⟩:=Prod.mk.inj h;obtain⟨x0,h0⟩:=Prod.mk.inj h0;obtain⟨x2,x4⟩:=Prod.mk.inj h4;obtain⟨x5,h0⟩:=Prod.mk.inj h0;obtain⟨x7,x9⟩:=Prod.mk.inj h0;exact Prod.ext x0 (Prod.ext (Prod.ext h1 (Prod.ext x2 (Prod.ext h3 (Prod.ext x4 (Prod.ext x5 (Prod.ext h6 (Prod.ext x7 (Prod.ext h8 x9)))))))) ((seenF_two _ _).trans ((by rw[hD,hA,hB,h]:_=_).trans (seenV_two _).symm)))
end Lf
local macro_rules|`(#[$a,*])=>`(⟨$a,*⟩)
local macro_rules|`(`a)=>`(by decide)|`(`b)=>`(by lia)|`(`c)=>`(by decide +kernel)|`(`d)=>`(model X.prog X.w)|`(`e)=>`(xv 0)|`(`f)=>`(model prog w)|`(`g)=>`(fN PySem.Challenge.pw_laidfields_k42_whole_apart_and_steady i)|`(`h)=>`(by simp)|`(`i)=>`(.ref a)|`(`j)=>`(dH K `e)|`(`k)=>`(xv 1)|`(`l)=>`(Or.inl rfl)|`(`m)=>`(F.vis H)|`(`n)=>`(s.heap.objs.size+1)|`(`o)=>`(.ref s.heap.objs.size)|`(`p)=>`(λ_ _ _ _ _=>(kh_ K (n:=3) rfl rfl (lD (iK (i:=0) (show(["name","kind","agreed"]:Q3).Nodup by decide +kernel) rfl `l (.inr rfl)) (lD (iK (i:=1) (show(["name","kind","agreed"]:Q3).Nodup by decide +kernel) rfl `l (.inr rfl)) (lD (iK (i:=2) (show(["name","kind","agreed"]:Q3).Nodup by decide +kernel) rfl `l (.inr rfl)) cv_)))))|`(`q)=>`(by simp only[aF,true_or,or_true])|`(`r)=>`(#[_,rfl])|`(`s)=>`(#[by lia,by lia])|`(`t)=>`(by rfl)
namespace L2
open PySem PySem.Spec PyProof.Rows
abbrev Key:=Sum Int Str
def sZ:Key->Value->Bool
 | .inl k,v=>Value.isInt k v
 | .inr x,v=>Value.isStrOf x v
def bJf(w:World):Key->Int
 | .inl k=>hashInt k
 | .inr x=>hashStr w x
def bt_:∀{k} {v},sZ k v=true->(∃i t,k=Sum.inl i/\v=Value.int i t)\/(∃x t,k=Sum.inr x/\v=Value.str x t)
 | .inl i,v,h=>by obtain⟨t,e⟩:=Value.isInt_shape (k:=i) (v:=v) h;exact .inl #[i,t,rfl,e]
 | .inr x,v,h=>by obtain⟨t,e⟩:=Value.isStrOf_shape (x:=x) (v:=v) h;exact .inr #[x,t,rfl,e]
def aEr(i:Int)(t:Tok):sZ (.inl i) (.int i t)=true:=by simp[sZ,Value.isInt]
def aEq(x:Str)(t:Tok):sZ (.inr x) (.str x t)=true:=by simp[sZ,Value.isStrOf]
def aZh(a b:Int):decide ((Sum.inl a:Key)=Sum.inl b)=(a == b):=by grind
def aZe(a b:Str):decide ((Sum.inr a:Key)=Sum.inr b)=decide (a=b):=by grind
def aZg(a:Int)(b:Str):decide ((Sum.inl a:Key)=Sum.inr b)=false:=by grind
def aZf(a:Str)(b:Int):decide ((Sum.inr a:Key)=Sum.inl b)=false:=by grind
def cN(prog:Program)(w:World):PySem.KeyKind prog w Key where
 is:=sZ
 hash:=bJf w
 inj:=λv a b g f=>by
  rcases bt_ g with⟨i,t,rfl,rfl⟩ | ⟨x,t,rfl,rfl⟩
  rcases bt_ f with ⟨j,u,rfl,e⟩ | ⟨y,u,rfl,e⟩
  injection e with c _;rw[c]
  exact nomatch e;rcases bt_ f with ⟨j,u,rfl,e⟩ | ⟨y,u,rfl,e⟩
  exact nomatch e;injection e with c _;rw[c]
 byValue:=λk v h=>by rcases bt_ h with⟨i,t,rfl,rfl⟩ | ⟨x,t,rfl,rfl⟩<;>rfl
 pyHash:=λhv h=>by
  rcases bt_ hv with⟨i,t,rfl,rfl⟩ | ⟨x,t,rfl,rfl⟩
  exact wpAny_pyHash_int h;exact wpAny_pyHash_str h
 eqBool:=λl hv h=>by
  rcases bt_ l with⟨i,t,rfl,rfl⟩ | ⟨x,t,rfl,rfl⟩
  rcases bt_ hv with ⟨j,u,rfl,rfl⟩ | ⟨y,u,rfl,rfl⟩
  rw[aZh]at h;exact wpAny_eqBool_int h;rw[aZg]at h;exact SeqAt.EqAt.int_str i t y u _ _ _ _ h;rcases bt_ hv with ⟨j,u,rfl,rfl⟩ | ⟨y,u,rfl,rfl⟩
  rw[aZf]at h;exact SeqAt.EqAt.str_int x t j u _ _ _ _ h;rw[aZe]at h;exact wpAny_eqBool_str h
 «strs»:=λk x t v h=>by
  rcases bt_ h with⟨i,u,rfl,e⟩ | ⟨y,u,rfl,e⟩
  exact nomatch e;injection e with c _
  subst c;cases v<;>rfl
def zH(prog:Program)(w:World)(i:Int)(t:Tok):(cN prog w).is (.inl i) (.int i t)=true:=aEr i t
def zG(prog:Program)(w:World)(x:Str)(t:Tok):(cN prog w).is (.inr x) (.str x t)=true:=aEq x t
abbrev S9:=List<|Key×V
abbrev S7:=List<|Str×V
abbrev Q1:=List V
def RelV:V->Value->Prop
 | .non,u=>u=Value.none
 | .bl b,u=>u=Value.bool b
 | .int i,u=>∃t,u=Value.int i t
 | .str x,u=>∃t,u=Value.str x t
 | .byt b,u=>∃t,u=Value.bytes b t
 | .flt b,u=>∃t,u=Value.float b t
 | .ref a,u=>u=Value.ref a
 | .ty n,u=>u=Value.type n
abbrev Vals:Q1->Q7->Prop:=Paired RelV
def Vals.length(r:Vals xs us):xs.length=us.length:=Paired.length r
def Vals.get:∀{xs} {us} {i:Nat} {x:V},Vals xs us->xs[i]? = some x->∃u,us[i]? = some u/\RelV x u
 |_,_,_,_,.nil,e=>by simp at e
 |_,_,0,_,.cons r _,e=>by simp at e;subst e;exact#[_,rfl,r]
 |_,_,i+1,x,.cons _ t,e=>by obtain⟨u,a,b⟩:=Vals.get (i:=i) (x:=x) t (by simpa using e);exact#[u,by simpa using a,b]
def Vals.set(r:RelV x u):∀{xs} {us} (i:Nat),Vals xs us->Vals (xs.set i x) (us.set i u)
 |_,_,_,.nil=>.nil
 |_,_,0,.cons _ t=>.cons r t
 |_,_,i+1,.cons q t=>.cons q<|Vals.set r i t
def Vals.append:∀{xs ys} {us ws},Vals xs us->Vals ys ws->Vals (xs++ys) (us++ws)
 |_,_,_,_,.nil,s=>s
 |_,_,_,_,.cons r t,s=>.cons r<|Vals.append t s
def Vals.take:∀{xs} {us} (n:Nat),Vals xs us->Vals (xs.take n) (us.take n)
 |_,_,0,_=>.nil
 |_,_,_+1,.nil=>.nil
 |_,_,n+1,.cons r t=>.cons r<|Vals.take n t
def Vals.drop:∀{xs} {us} (n:Nat),Vals xs us->Vals (xs.drop n) (us.drop n)
 |_,_,0,r=>r
 |_,_,_+1,.nil=>.nil
 |_,_,n+1,.cons _ t=>Vals.drop n t
def RelO:S1->Option Value->Prop
 |some v,some u=>RelV v u
 |none,none=>True
 |_,_=>False
def KV{a:Type}:List (a×V)->List (a×Value)->Prop:=Paired λ(p:a×V) (q:a×Value)=>p.1=q.1/\RelV p.2 q.2
def kV:Key->V
 | .inl i=>.int i
 | .inr x=>.str x
inductive HO where
 /-- a list -/
 |lst (xs:Q1)
 /-- a tuple (never changes) -/
 |tup (xs:Q1)
 /-- a dict whose keys are ints and texts;one whose keys are tuples of ints and texts (the empty one is both) -/
 |dK (kvs:S9) | dT (kvs:List (List Key×V))
 /-- a set of ints: its members,its size -/
 |set (S:Int->Bool) (n:Nat)
 /-- an instance of the class at C,its dict at dx,its attributes -/
 |ins (C dx:Addr) (fs:S7)
 /-- the dict of the instance at x -/
 |own (x:Addr)
 /-- the dict of an exception -/
 |xd (fs:S7)
 /-- a bound method,f of x -/
 |met (f x:Addr)
 /-- a range object lo,lo+1,.. below hi -/
 |rng (lo hi:Int)
 /-- a thing that is known to the object (the script;a dict while a loop walks it): read,never written while it is so -/
 |frz (o:Obj) (u:HO)
 /-- a code object's table -/
 |tbl (ps:S5)
 /-- any other thing,by what is true of its one object (a def of one's own: SetO a S n:=HO.ext λh=>..) -/
 |ext (φ:Heap->Prop)
abbrev Hp:=Addr->Option HO
def upd(H:Hp)(a:Addr)(o:HO):Hp:=λb=>if b=a then some o else H b
def bZ:upd H a o a=some o:=by unfold upd;rw[if_pos rfl]
def eT(h:b≠a):upd H a o b=H b:=by unfold upd;rw[if_neg h]
def bDo{H:Hp}{a b:Addr}{o u:HO}(h:H a=some o)(h':H b=some u)(d:o≠u):a≠b:=by intro e;subst e;rw[h]at h';exact d<|ozI h'
def g8{H:Hp}{a b}{o}(h:H a=some o)(h':H b=none):a≠b:=by grind
section
variable(P:Program)(w:World)
def ObjOk(H:Hp)(h:Heap)(a:Addr):HO->Prop
 | .lst c=>c.length<=sizeLine/\∃(b:Q7) (n:Nat),Vals c b/\h.get? a=some { cls:=.type "list",data:=.seq b.toArray n }
 | .tup c=>c.length<=sizeLine/\∃b:Q7,Vals c b/\IsTup h a b.toArray
 | .dK kvs=>kvs.length<=sizeLine/\(a == sysModules)=false/\∃l,KV kvs l/\h.DictOf (cN P w) a l
 | .dT kvs => kvs.length ≤ sizeLine ∧ (a == sysModules) = false ∧ ∃ c : List<|List Key × Addr × Value,
   Paired (λ(p:List Key×V) (q:List Key×Addr×Value)=>p.1=q.1/\H q.2.1=some (.tup<|p.1.map kV)/\RelV p.2 q.2.2) kvs c /\
   ∃o g m,h.get? a=some o/\o.ExactDict/\o.data=.dict g m/\g.toList=c.map (entryOfKey<|tupleKind<|cN P w)/\(c.map (·.1)).Nodup
 | .set S n=>h.SetOf (intKind P w) a S n
 | .ins C dx fs => H dx = some (.own a) ∧ fs.length ≤ 1000 ∧ dx ≠ a ∧ h.get? a = some (PySem.W.instObj C dx) ∧
   ∃e,h.Ns1 dx e/\(∀f,RelO (fs.lookup f)<|e f)/\PySem.Within e (fs.map (·.1))
 | .own _=>∃o,h.get? a=some o
 | .xd fs=>∃e,h.Ns1 a e/\∀f,RelO (fs.lookup f) (e f)
 | .rng lo hi=>∃t u v,h.get? a=some { cls:=.type "range",data:=.fields [.int lo t,.int hi u,.int 1 v].toArray }
 | .frz o u=>h.get? a=some o/\ObjOk H h a u
 | .tbl ps=>h.get? a=some { cls:=.none,data:=.fields ps }
 | .met f x=>h.get? a=some (PySem.W.methodObj (.ref f)<|.ref x)
 | .ext φ=>φ h/\(∃o,h.get? a=some o)/\∀i j:Heap,φ i->(∀o,i.get? a=some o->j.get? a=some o)->φ j
def HOk(H:Hp)(h:Heap):Prop:=∀a o,H a=some o->ObjOk P w H h a o
end
section
variable{P:Program}{w:World}{H g:Hp}{h h':Heap}{a:Addr}{o:HO}
def ObjOk.lt(x:ObjOk P w H h a o):a<h.objs.size:=by
 cases o with
 |lst c=>obtain⟨_,_,_,_,e⟩:=x;exact aR e
 |tup c=>obtain⟨_,_,_,p⟩:=x;exact p.lt
 |dK b=>obtain⟨_,_,_,_,o,_,_,e,_⟩:=x;exact aR e
 |dT b=>obtain⟨_,_,_,_,o,_,_,e,_⟩:=x;exact aR e
 |set S n=>obtain⟨o,_,_,_,e,_⟩:=x;exact aR e
 |ins C i fs=>obtain⟨_,_,_,e,_⟩:=x;exact aR e
 |own y=>obtain⟨_,e⟩:=x;exact aR e
 |xd fs=>obtain⟨_,⟨_,_,_,e,_⟩,_⟩:=x;exact aR e
 |rng l j=>obtain⟨_,_,_,e⟩:=x;exact aR e
 |frz ob u=>obtain⟨e,_⟩:=x;exact aR e
 |tbl m=>exact aR (x)
 |met f y=>exact aR (x)
 |ext q=>obtain⟨_,⟨_,e⟩,_⟩:=x;exact aR e
def Paired.mapP:∀{l₁:List α} {c:List β},Paired F l₁ c->(∀a b,F a b->G a b)->Paired G l₁ c
 |_,_,.nil,_=>.nil
 |_,_,.cons r t,f=>.cons (f _ _ r)<|Paired.mapP t f
def ObjOk.stay(x:ObjOk P w H h a o)(k:∀b u,(b=a\/H b=some (.own a))->h.get? b=some u->h'.get? b=some u)
  (F:∀b,H b=some (.own a)->g b=some (.own a)) (G:∀b xs,H b=some (.tup xs)->g b=some (.tup xs)):ObjOk P w g h' a o:=by
 induction o with
 |lst xs=>obtain⟨z,l,n,r,e⟩:=x;exact#[z,l,n,r,k _ _ (.inl rfl) e]
 |tup xs=>obtain⟨z,l,r,ob,e,c⟩:=x;exact#[z,l,r,ob,k _ _ (.inl rfl) e,c]
 |dK m=>obtain⟨z,y,L,r,ob,j,i,e,c⟩:=x;exact#[z,y,L,r,ob,j,i,k _ _ (.inl rfl) e,c]
 |dT m => obtain⟨z,y,xs,r,ob,j,i,e,c⟩:=x;exact#[z,y,xs,Paired.mapP r λp q z=>#[z.1,G _ _ z.2.1,z.2.2],ob,j,i,k _ _ (.inl rfl) e,c]
 |set S n=>obtain⟨ob,j,i,t,e,c⟩:=x;exact#[ob,j,i,t,k _ _ (.inl rfl) e,c]
 |ins C M fs => obtain⟨d,z,J,e,s,⟨A,j,i,E,c⟩,r⟩:=x;exact#[F _ d,z,J,k _ _ (.inl rfl) e,s,#[A,j,i,k _ _ (.inr d) E,c],r]
 |own y=>obtain⟨ob,e⟩:=x;exact#[ob,k _ _ (.inl rfl) e]
 |xd fs=>obtain⟨s,⟨A,j,i,e,c⟩,r⟩:=x;exact#[s,#[A,j,i,k _ _ (.inl rfl) e,c],r]
 |rng O N=>obtain⟨t,u,v,e⟩:=x;exact#[t,u,v,k _ _ (.inl rfl) e]
 |frz ob u I=>obtain⟨e,q⟩:=x;exact#[k _ _ (.inl rfl) e,I q]
 |tbl B => have e:h.get? a=some { cls:=.none,data:=.fields B }:=x;show h'.get? a=some { cls:=.none,data:=.fields B };exact k a _ (.inl rfl) e
 |met f y => have e:h.get? a=some (PySem.W.methodObj (.ref f)<|.ref y):=x;show h'.get? a=some (PySem.W.methodObj (.ref f)<|.ref y);exact k a _ (.inl rfl) e
 |ext Q=>obtain⟨p,⟨o,e⟩,D⟩:=x;exact#[D _ _ p λo q=>k _ _ (.inl rfl) q,#[o,k _ _ (.inl rfl) e],D]
def HOk.lt(x:HOk P w H h)(e:H a=some o):a<h.objs.size:=(x a o e).lt
def HOk.fresh(x:HOk P w H h)(e:h.objs.size<=a):H a=none:=by
 cases q:H a with
 |none=>rfl
 |some u=>exact absurd (aX (x.lt q) e)<|dB _
def HOk.kept(x:HOk P w H h)(k:∀b u,h.get? b=some u->h'.get? b=some u):HOk P w H h':=λa o e =>
 (x a o e).stay (λb u _ q=>k b u q) (λ_ q=>q) λ_ _ q=>q
def HOk.laid(x:HOk P w H h)(k:∀b u,h.get? b=some u->h'.get? b=some u)(j:h.objs.size<=a)(new:ObjOk P w (upd H a o) h' a o):HOk P w (upd H a o) h':=λb u e=>by have i:=x.fresh j;by_cases f:b=a;subst f;rw[bZ]at e;cases e;exact new;rw [eT f] at e;exact(x b u e).stay (λc v _ q=>k c v q) (λc q=>by rw[eT<|g8 q i];exact q) λc l q=>by rw[eT<|g8 q i];exact q
end
def Rd(H:Hp)(a:Addr)(u:HO):Prop:=H a=some u\/∃o,H a=some (.frz o u)
def Rd.ok(r:Rd H a u)(x:HOk P w H h):ObjOk P w H h a u:=by
 rcases r with r | ⟨o,r⟩
 exact x a u r;obtain ⟨_,q⟩:=x a _ r;exact q
def Mut:Option HO->Prop
 |some (.lst _)=>True
 |some (.dK _)=>True
 |some (.dT _)=>True
 |some (.set _ _)=>True
 |some (.ins _ _ _)=>True
 |some (.ext _)=>True
 |_=>False
section
variable{P:Program}{w:World}{H:Hp}{h h':Heap}{x e:Addr}{a:HO}
def HOk.write(ok:HOk P w H h)(m:Mut<|H x)(p:e=x\/H e=some (.own x))(k:∀b u,b≠e->h.get? b=some u->h'.get? b=some u)(A:∃u,h'.get? e=some u)
  (new:ObjOk P w (upd H x a) h' x a):HOk P w (upd H x a) h':=λb u q=>by
 have f:∀c y,H c=some (.own y)->c≠x:=λc y r z=>by subst z;rw[r]at m;exact m
 have g:∀c o,H c=some (.tup o)->c≠x:=λc o r z=>by subst z;rw[r]at m;exact m
 by_cases j:b=x;subst j;rw[bZ]at q;cases q;exact new;rw [eT j] at q;by_cases i:b=e;have s:H b=some (.own x):=by
  rcases p with z | z
  exact absurd (i.trans z) j;rw[i];exact z
 rw[q]at s;cases s;obtain⟨v,hv⟩:=A;exact#[v,by rw[i];exact hv];refine (ok b u q).stay (fun c v l r=>k c v ?_ r) (fun c r=>by rw [eT<|f c b r]; exact r) fun c o r=>by rw [eT<|g c o r]; exact r
 rcases l with rfl | l
 exact i;rintro rfl;rcases p with z | z
 exact f c b l z;rw[l]at z;cases z;exact j rfl
end
structure Un(fs ex:R9)(H H':Hp)(h h':Heap):Prop where
 keep:∀b o,h.get? b=some o->H b=none->b∉fs->b∉ex->h'.get? b=some o
 slot:∀b o,h.get? b=some o->H b=none->b∈fs->b∉ex->∃sl,h'.get? b=some { o with slots:=sl }
 free:∀b o,h.get? b=some o->H b=none->b∉ex->H' b=none
 there:∀b o,h.get? b=some o->b∉ex->∃o',h'.get? b=some o'
 tups:∀b xs,H b=some (.tup xs)->H' b=some (.tup xs)
 frzs:∀b o u,H b=some (.frz o u)->H' b=some (.frz o u)
 tbls:∀b ps,H b=some (.tbl ps)->∃more,H' b=some (.tbl (ps++more))
section
variable{fs f ex g:R9}{H i l:Hp}{h c j h':Heap}{a x e:Addr}{o:HO}
def Un.any(u:Un fs ex H i h c)(q:h.get? b=some ob)(n:H b=none)(p:b∉ex):∃r,c.get? b=some { ob with slots:=r }:=by by_cases m:b∈fs;exact u.slot b ob q n m p;exact#[ob.slots,u.keep b ob q n m p]
def Un.kept(k:∀b u,h.get? b=some u->h'.get? b=some u):Un fs ex H H h h':=
 #[λb ob q _ _ _=>k b ob q,λb ob q _ _ _=>#[ob.slots,k b ob q],λ_ _ _ n _=>n,λb ob q _=>#[ob,k b ob q],λ_ _ q=>q,λ_ _ _ q=>q,λ_ m q=>#[[].toArray,by rw[q];simp]]
def Un.refl:Un fs ex H H h h:=Un.kept λ_ _ q=>q
def Un.laid(k:∀b u,h.get? b=some u->h'.get? b=some u)(p:h.objs.size<=a)(m:H a=none):Un fs ex H (upd H a o) h h' where
 keep:=λb u q _ _ _=>k b u q
 slot:=λb u q _ _ _=>#[u.slots,k b u q]
 free:=λb u q n _=>by rw[eT<|bF<|aX (aR q) p];exact n
 there:=λb u q _=>#[u,k b u q]
 tups:=λb r q=>by rw[eT<|g8 q m];exact q
 frzs:=λb u r q=>by rw[eT<|g8 q m];exact q
 tbls:=λb s q=>#[[].toArray,by rw[eT<|g8 q m,q];simp]
def Un.write(r:Mut<|H x)(B:e=x\/H e=some (.own x))(k:∀b u,b≠e->h.get? b=some u->h'.get? b=some u)(A:∃u,h'.get? e=some u):Un fs ex H (upd H x o) h h':=by
 have v:∀b,H b=none->b≠x:=λb n z=>by subst z;rw[n]at r;exact r
 have p:∀b,H b=none->b≠e:=by grind
 have m:∀b u,H b=some u->¬Mut (some u)->b≠x:=by grind
 refine#[λb u q n _ _=>k b u (p b n) q,λb u q n _ _=>#[u.slots,k b u (p b n) q],λb u q n _=>by rw[eT<|v b n];exact n,λb u q _=>?_,
  λb y q=>by rw[eT<|m b _ q λz=>z];exact q,λb u y q=>by rw[eT<|m b _ q λz=>z];exact q,λb C q=>#[[].toArray,by rw[eT<|m b _ q λz=>z,q];simp]]
 by_cases s:b=e;grind;exact#[u,k b u s q]
end
def trk(h:Heap)(H:Hp):R9:=(List.range h.objs.size).filter λa=>(H a).isSome
def wK(h:Heap)(H:Hp):Heap:=PySem.W.hideAll h<|trk h H
def aEw(h:Heap)(H:Hp):(wK h H).objs.size=h.objs.size:=PySem.W.hideAll_size _ _
def aKy{h}{H}{b}{o}(e:h.get? b=some o)(n:H b=none):(wK h H).get? b=some o:=
 PySem.W.hideAll_get _ e λa=>by have q:=(cA.mp a).2;rw[n]at q;simp at q
def aPi(e:(wK h H).get? b=some o):h.get? b=some o/\H b=none:=by
 have a:=PySem.W.of_hideAll (trk h H) e;refine#[a,?_];cases q:H b with
 |none=>rfl
 |some x => have c:b∈trk h H:=cA.mpr #[eP.mpr<|aR a,by simp[q]];have z:(wK h H).get? b=none:=PySem.W.hideAll_none (trk h H) c;rw[z]at e;cases e
def aRo(g h:Heap)(L:Addr):List<|Addr×Obj:=(List.range h.objs.size).filterMap λa=>if a=L\/(g.get? a).isSome=true then none else(h.get? a).map λo=>(a,o)
def rest(g h:Heap)(L d:Addr):List<|Addr×Obj:=(aRo g h L).filter λp=>decide (p.1≠d)
structure Mod(K:dN)(mg:mH)(base:Heap):Prop where
 kin:K.In base
 glob:base.Ns mainGlobals mg
 blt:∃mb,base.Ns builtinsNs mb/\∀x:Str,x ≠ "__name__" -> mb x=bootBuiltins x
 nolimit:base.NoLimit
structure Cx where
 prog:Program
 w:World
 K:PySem.W.Frag
 mg:Str->Option Value
 base:Heap
 A:Around
 N:Q3
 s₀:Shared
 H₀:Hp
 env:Env
 outer:List Env
 stack:List Env
 ex:R9
 fn:Str->Bool
 calm:Bool
 pn:List (Addr×Obj)
 xe:Value->Shared->Prop
abbrev T5(X:Cx)(e:Expr)(a:List Expr):Prop:=starEach (e::a) X.env=(false,eval e X.env)::starEach a X.env
abbrev T6(X:Cx)(p:Pos)(a:List Expr):Prop:=(backTo p<|starEach a X.env).any (·.1)=false
def frs(l:List Env):R9:=l.filterMap (·.frame)
abbrev Cx.fs(X:Cx):R9:=frs X.outer
def Vis(sc:Scope)(x:Str):Prop:=sc.names.lookup x=some .local\/sc.names.lookup x=some .cell\/sc.names.lookup x=some .free
def Loc(sc:Scope)(x:Str):Prop:=sc.names.lookup x=some .local\/sc.names.lookup x=some .cell
def bLd(env:Env)(h:Heap)(m:mH)(x:Str)(u:Value):Prop:=
 (env.kindOf x=some .local/\m x=some u)\/((env.kindOf x=some .cell\/env.kindOf x=some .free)/\∃c,env.cells.lookup x=some c/\h.IsCell c (some u))
structure Cx.Ok(X:Cx):Prop where
 mod:Mod X.K X.mg X.base
 kind:X.env.scope.kind=.function
 glob:X.env.globals=mainGlobals
 blt:X.env.builtins=builtinsNs
 above:X.s₀.heap.objs.size<=X.env.locals
 inj:∀x y c,X.env.cells.lookup x=some c->X.env.cells.lookup y=some c->x=y
 has:∀x,(X.env.kindOf x=some .cell\/X.env.kindOf x=some .free)->∃c,X.env.cells.lookup x=some c
 cab:∀x c,X.fn x=true->X.env.cells.lookup x=some c->X.s₀.heap.objs.size<=c
 hd:X.calm=true->X.A.handled=none
 frames:X.A.frames=some X.stack
 stk:X.stack=X.outer\/(X.stack=X.env::X.outer/\X.env.frame=some X.env.locals)
 exf:∀b∈X.ex,b≠X.env.locals/\∀x c,X.env.cells.lookup x=some c->c≠b
 bs:∀b o,X.base.get? b=some o->X.s₀.heap.get? b=some o/\X.H₀ b=none
 bsz:X.base.objs.size<=X.s₀.heap.objs.size
 noex:∀b o,X.base.get? b=some o->b∉X.ex
 exfs:∀b∈X.ex,b∉X.fs
 funs:X.s₀.heap.FunFrames X.base X.outer
 frf:∀b∈X.fs,X.H₀ b=none
structure Inv(X:Cx)(Aa:gQ)(σ:List S1)(H:Hp)(s:Shared):Prop where
 ok:X.Ok
 os:s.os=X.s₀.os
 bare:AllBare s.gens
 base:Un X.fs X.ex X.H₀ H X.s₀.heap s.heap
 loc:∃m,s.heap.Ns X.env.locals m/\∀(i:Nat) (x:Str) (v:V),X.N[i]? = some x->σ[i]? = some (some v)->Vis X.env.scope x->∃u,RelV v u/\bLd X.env s.heap m x u
 cell:∀x c,X.env.cells.lookup x=some c->∃v,s.heap.IsCell c v
 free:H X.env.locals=none
 freeC:∀x c,X.env.cells.lookup x=some c->H c=none
 pin:∀p∈X.pn++Aa,s.heap.get? p.1=some p.2/\H p.1=none/\p.1≠X.env.locals/\p.1∉X.fs/\∀v,p.2.data ≠ .cell v
 hok:HOk X.prog X.w H s.heap
 len:σ.length=X.N.length
section
variable{X:Cx}{f:gQ}{g:List S1}{H B:Hp}{s:Shared}{h':Heap}
def Cx.Ok.nofr(ok:X.Ok)(e:X.base.get? b=some o):b∉X.fs:=λa=>by have:=(ok.funs.mem a).1;rw[e]at this;cases this
def Inv.bs(I:Inv X f g H s):∀b o,X.base.get? b=some o->s.heap.get? b=some o/\H b=none:=λb o e =>
 #[I.base.keep b o (I.ok.bs b o e).1 (I.ok.bs b o e).2 (I.ok.nofr e)<|I.ok.noex b o e,I.base.free b o (I.ok.bs b o e).1 (I.ok.bs b o e).2<|I.ok.noex b o e]
def Inv.bk(I:Inv X f g H s):∀b o,X.base.get? b=some o->s.heap.get? b=some o:=λb o e=>(I.bs b o e).1
def Inv.mod(I:Inv X f g H s):Mod X.K X.mg X.base:=I.ok.mod
def Inv.kIn(I:Inv X f g H s):X.K.In s.heap:=I.ok.mod.kin.keeps I.bk
def Inv.fr(I:Inv X f g H s):∃m,Fr X.base X.env.locals s.heap m:=
 let ⟨m,hn,_⟩:=I.loc
 #[m,hn,I.bk,nzL I.ok.bsz I.ok.above]
def Inv.lt(I:Inv X f g H s):X.env.locals<s.heap.objs.size:=let ⟨_,hn,_⟩:=I.loc;hn.lt
def Inv.sz(I:Inv X f g H s):X.s₀.heap.objs.size<=s.heap.objs.size:=nzL I.ok.above<|iZ I.lt
def Inv.nofs(I:Inv X f g H s)(h:s.heap.objs.size<=a):a∉X.fs:=λb=>by obtain⟨_,o,c,_⟩:=I.ok.funs.mem b;exact absurd (aX (aR c)<|nzL I.sz h)<|dB _
def Inv.cne(I:Inv X f g H s):∀x c,X.env.cells.lookup x=some c->c≠X.env.locals:=λx c e z=>by obtain⟨v,o,b,a⟩:=I.cell x c e;obtain⟨m,⟨p,l,j,h,i,_⟩,_⟩:=I.loc;rw[z,h]at b;cases b;rw[i]at a;cases a
def Inv.funs(I:Inv X f g H s):s.heap.FunFrames X.base X.outer:=by
 have all:∀(l:List Env),(∀b∈frs l,b∈X.fs)->X.s₀.heap.FunFrames X.base l->s.heap.FunFrames X.base l:=by
  intro l
  induction l with
  |nil=>intro _ _;trivial
  |cons j r A => intro i q;obtain⟨p,⟨L,o,h,u,v,m⟩,y⟩:=q;have a:=i L (by unfold frs;rw[iI,h];exact aA);obtain⟨C,e⟩:=I.base.slot L o v (I.ok.frf L a) a λz=>I.ok.exfs L z a;exact#[p,#[L,_,h,u,e,m],A (λb c=>i b (by unfold frs;rw[iI,h];exact aC _ c)) y]
 exact all X.outer (λ_ c=>c) I.ok.funs
def Inv.stack(I:Inv X f g H s):s.heap.FunFrames X.base X.stack:=by
 rcases I.ok.stk with e | ⟨e,a⟩
 rw[e];exact I.funs;rw [e];obtain⟨m,b,_⟩:=I.loc;refine .cons (by rw[I.ok.kind];decide) a b ?_ I.funs;exact Heap.get?_none_of_le<|nzL I.ok.bsz I.ok.above
def Inv.stkSub(I:Inv X f g H s):∀b∈frs X.stack,b∈X.env.locals::X.fs:=λb a=>by
 rcases I.ok.stk with e | ⟨e,c⟩
 grind;rw [e] at a;unfold frs at a;rw[iI,c]at a;exact a
def Inv.stkFree(I:Inv X f g H s):∀b∈frs X.stack,H b=none:=λb a=>by
 rcases aF.mp (I.stkSub b a)with e | a
 rw[e];exact I.free;obtain ⟨_,o,c,_⟩:=I.ok.funs.mem a;exact I.base.free b o c (I.ok.frf b a) λz=>I.ok.exfs b z a
def Inv.step{ch:R9}(I:Inv X f g H s)
  (G:∀b∈ch,(b∈X.ex\/X.s₀.heap.objs.size<=b)/\b≠X.env.locals/\(∀x c,X.env.cells.lookup x=some c->c≠b)/\∀p∈X.pn++f,p.1≠b)
  (keep:∀b o,b≠X.env.locals->b∉X.fs->b∉ch->s.heap.get? b=some o->H b=none->h'.get? b=some o)
  (D:∀b o,b≠X.env.locals->b∈X.fs->b∉ch->s.heap.get? b=some o->H b=none->∃T,h'.get? b=some { o with slots:=T }) (h:∀b o,b∉ch->s.heap.get? b=some o->H b=none->B b=none)
  (there:∀b o,b∉ch->s.heap.get? b=some o->∃N,h'.get? b=some N)
  (Q:∀b xs,H b=some (.tup xs)->B b=some (.tup xs)) (L:∀b o u,H b=some (.frz o u)->B b=some (.frz o u)) (O:∀b ps,H b=some (.tbl ps)->∃M,B b=some (.tbl<|ps++M))
  (ns:∀m,s.heap.Ns X.env.locals m->h'.Ns X.env.locals m) (S:HOk X.prog X.w B h') (V:AllBare g') :
  Inv X f g B { s with heap:=h',gens:=g',drawn:=d',toks:=t' }:=by
 have neL:∀b o,X.s₀.heap.get? b=some o->b≠X.env.locals:=λb o e=>bF<|aX (aR e) I.ok.above;have C:∀b o,X.s₀.heap.get? b=some o->b∉X.ex->b∉ch:=λb o e a E=>by
  rcases(G b E).1 with z | z
  exact a z;exact absurd (aX (aR e) z)<|dB _
 have j:∀x c,X.env.cells.lookup x=some c->∀v,s.heap.IsCell c v->h'.IsCell c v:=λx c e v ⟨o,F,R⟩=>by have y:c∉ch:=λz=>(G c z).2.2.1 x c e rfl;by_cases W:c∈X.fs;obtain ⟨T,q⟩:=D c o (I.cne x c e) W y F<|I.freeC x c e;exact#[_,q,R];exact#[o,keep c o (I.cne x c e) W y F<|I.freeC x c e,R]
 refine#[I.ok,I.os,V,#[λb o e n E a=>?_,λb o e n E a=>?_,λb o e n a=>?_,λb o e a=>?_,λb xs e=>Q b xs<|I.base.tups b xs e,λb o xs e=>L b o xs<|I.base.frzs b o xs e,λb ps e=>?_],?_,λx c e=>?_,?_,λx c e=>?_,λp Y=>?_,S,I.len];exact keep b o (neL b o e) E (C b o e a) (I.base.keep b o e n E a)<|I.base.free b o e n a;obtain ⟨T,A⟩:=I.base.slot b o e n E a;obtain⟨U,J⟩:=D b _ (neL b o e) E (C b o e a) A<|I.base.free b o e n a;exact#[U,J];obtain ⟨N,A⟩:=I.base.there b o e a;exact h b N (C b o e a) A<|I.base.free b o e n a;obtain ⟨N,A⟩:=I.base.there b o e a;exact there b N (C b o e a) A;obtain ⟨m1,A⟩:=I.base.tbls b ps e;obtain⟨m2,J⟩:=O b _ A;exact#[m1++m2,by rw[J,Array.append_assoc]];obtain ⟨m,hn,hl⟩:=I.loc;refine#[m,ns m hn,λi x v A J t=>?_];obtain⟨u,r,l⟩:=hl i x v A J t;refine#[u,r,?_];rcases l with l | ⟨k,c,e,z⟩
 exact .inl l;exact .inr #[k,c,e,j x c e _ z];obtain ⟨v,z⟩:=I.cell x c e;exact#[v,j x c e v z];obtain ⟨m,⟨o,_,_,F,_⟩,_⟩:=I.loc;exact h _ o (λz=>(G _ z).2.1 rfl) F I.free;obtain ⟨v,o,F,R⟩:=I.cell x c e;exact h c o (λz=>(G c z).2.2.1 x c e rfl) F<|I.freeC x c e;obtain ⟨e,n,Z,nf,d⟩:=I.pin p Y;have y:p.1∉ch:=λz=>(G p.1 z).2.2.2 p Y rfl;exact#[keep p.1 p.2 Z nf y e n,h p.1 p.2 y e n,Z,nf,d]
def Inv.un(I:Inv X f g H s)(u:Un X.fs [] H B s.heap h')(i:HOk X.prog X.w B h'):Inv X f g B { s with heap:=h',toks:=t' }:=by obtain⟨m,⟨o,A,y,l,r⟩,_⟩:=id I.loc;obtain⟨E,p⟩:=u.any l I.free `h;exact I.step (g':=s.gens) (d':=s.drawn) (ch:=[]) (λ_ z=>nomatch z) (λb o _ h _ e n=>u.keep b o e n h `h) (λb o _ h _ e n=>u.slot b o e n h `h) (λb o _ e n=>u.free b o e n `h) (λb o _ e=>u.there b o e `h) u.tups u.frzs u.tbls (λC q=>by obtain⟨D,c,a,j,v⟩:=q;rw[l]at j;cases j;exact#[_,c,a,p,v]) i I.bare
def Inv.call(I:Inv X f g H s)(u:Un (frs X.stack) ch H B s.heap h')(l:HOk X.prog X.w B h')(C:AllBare g')
  (q:∀b∈ch,(b∈X.ex\/X.s₀.heap.objs.size<=b)/\b≠X.env.locals/\(∀x c,X.env.cells.lookup x=some c->c≠b)/\∀p∈X.pn++f,p.1≠b) :
  Inv X f g B { s with heap:=h',gens:=g',drawn:=d',toks:=t' }:=by
 obtain⟨m,⟨o,G,F,y,r⟩,_⟩:=id I.loc;obtain⟨M,j⟩:=u.any y I.free λz=>(q _ z).2.1 rfl;exact I.step (ch:=ch) q (λb o j A a e n=>u.keep b o e n (λz=>(aF.mp<|I.stkSub b z).elim j A) a) (λb o _ _ a e n=>u.any e n a) (λb o a e n=>u.free b o e n a) (λb o a e=>u.there b o e a) u.tups u.frzs u.tbls (λJ D=>by obtain⟨L,i,h,v,E⟩:=D;rw[y]at v;cases v;exact#[_,i,h,j,E]) l C
def Inv.turned(I:Inv X f g H s)(k:∀b o,b≠it->s.heap.get? b=some o->h'.get? b=some o)(F:H it=none)(i:it≠X.env.locals)
  (y:it∈X.ex\/X.s₀.heap.objs.size<=it) (A:∀x c,X.env.cells.lookup x=some c->c≠it) (C:∀p∈X.pn++f,p.1≠it):Inv X f g H { s with heap:=h',toks:=t' }:=by
 have h:∀b u,H b=some u->b≠it:=λb u e z=>by rw[z,F]at e;cases e
 refine I.step (g':=s.gens) (d':=s.drawn) (ch:=[it]) (λb D=>?_) (λb o _ _ a e _=>k b o (λz=>a<|by simp[z]) e) (λb o _ _ a e _=>#[o.slots,k b o (λz=>a<|by simp[z]) e]) (λ_ _ _ _ n=>n)
  (λb o a e=>#[o,k b o (λz=>a<|by simp[z]) e]) (λ_ _ e=>e) (λ_ _ _ e=>e) (λb J e=>#[[].toArray,by rw[e];simp]) (λm E=>?_) (λb u e=>?_) I.bare
 have e:b=it:=by simpa using D
 subst e;exact#[y,i,A,C];obtain ⟨o,l,j,G,r⟩:=E;exact#[o,l,j,k _ o (Ne.symm i) G,r];refine (I.hok b u e).stay (fun c v a q=>k c v ?_ q) (fun _ q=>q) fun _ _ q=>q;rcases a with z | z
 rw[z];exact h b u e;exact h c _ z
def Inv.tok(I:Inv X f g H s)(t:Nat):Inv X f g H { s with toks:=t }:=I.un (h':=s.heap) (t':=t) Un.refl I.hok
def Inv.kept(I:Inv X f g H s)(k:∀b u,s.heap.get? b=some u->h'.get? b=some u):Inv X f g H { s with heap:=h',toks:=t' }:=I.un (Un.kept k)<|I.hok.kept k
def Inv.laid(I:Inv X f g H s)(k:∀b u,s.heap.get? b=some u->h'.get? b=some u)(c:s.heap.objs.size<=a)(new:ObjOk X.prog X.w (upd H a o) h' a o) :
  Inv X f g (upd H a o) { s with heap:=h',toks:=t' }:=I.un (Un.laid k c<|I.hok.fresh c)<|I.hok.laid k c new
def Inv.write(I:Inv X f g H s)(h:Mut<|H x)(c:e=x\/H e=some (.own x))(k:∀b u,b≠e->s.heap.get? b=some u->h'.get? b=some u)(a:∃u,h'.get? e=some u)
  (new:ObjOk X.prog X.w (upd H x o) h' x o):Inv X f g (upd H x o) { s with heap:=h',toks:=t' }:=I.un (Un.write h c k a)<|I.hok.write h c k a new
def Inv.weak(I:Inv X f g H s)(h:a.length=g.length)(w:∀(i:Nat) v,a[i]? = some (some v)->g[i]? = some (some v)):Inv X f a H s:=
 #[I.ok,I.os,I.bare,I.base,let ⟨m,hn,Cz⟩:=I.loc;#[m,hn,λi x v b c e=>Cz i x v b (w i v c) e],I.cell,I.free,I.freeC,I.pin,I.hok,h.trans I.len]
def Inv.pins_of(I:Inv X f g H s)(h:∀p∈pins',s.heap.get? p.1=some p.2/\H p.1=none/\p.1≠X.env.locals/\p.1∉X.fs/\∀v,p.2.data ≠ .cell v):Inv X pins' g H s:=
 #[I.ok,I.os,I.bare,I.base,I.loc,I.cell,I.free,I.freeC,λp a=>(aV.mp a).elim (λz=>I.pin p<|aM _ z)<|h p,I.hok,I.len]
def zB{N:Q3}(h:N.Nodup){i j:Nat}(a:N[i]? = some x)(b:N[j]? = some x):i=j:=by obtain⟨l,c⟩:=aK.mp a;obtain⟨m,e⟩:=aK.mp b;exact(List.getElem_inj h).mp<|c.trans e.symm
def sD{M:Model}{A:Around}{E:iE}{i:Nat}{x:Str}{v:V}{u:Value}{Q:Unit->Shared->Prop}(I:Inv X f g H s)(hN:X.N.Nodup)(S:X.N[i]? = some x)(G:Loc X.env.scope x)(r:RelV v u)
  (h:∀s',Inv X f (g.set i<|some v) H s'->(∃a,Heap.SameBut a s.heap s'.heap/\(a=X.env.locals\/X.env.cells.lookup x=some a))->Q () s') (hf:X.fn x=true\/X.env.scope.names.lookup x=some .local:=by first | exact .inl rfl | exact .inr rfl | assumption):wpAny M A (storeName X.env x u) Q E s:=by
 obtain⟨m,t,hl⟩:=id I.loc;have Nl:(X.env.scope.kind == .class||(X.env.scope.kind == .module&&X.env.locals != X.env.globals))=false:=by rw[I.ok.kind];rfl
 have L:i<g.length:=by rw[I.len];exact(aK.mp S).1
 have cne:=I.cne;have D:∀{a:Addr} {h':Heap},(∃o,s.heap.get? a=some o/\H a=none)->Heap.SameBut a s.heap h'->HOk X.prog X.w H h':=λ{a h'} ha l b ob e=>by
  obtain⟨_,_,Hd⟩:=ha;refine(I.hok b ob e).stay (λc W F q=>(l.2 c ?_).trans q) (λ_ q=>q) λ_ _ q=>q;rintro rfl;rcases F with rfl | F
  rw[Hd]at e;cases e;rw[Hd]at F;cases F
 rcases G with N | N
 refine wpAny_storeName_local N t (fun h' D5 l => ?_) Nl;obtain⟨oL,_,_,Hy,_⟩:=id t;refine h _ #[I.ok,I.os,I.bare,#[λb o e n O G=>?_,λb o e n O G=>?_,I.base.free,λb o e G=>?_,I.base.tups,I.base.frzs,I.base.tbls],#[_,D5,λj y v' C J Z=>?_],λy c e=>?_,I.free,I.freeC,λp hp=>?_,D #[oL,Hy,I.free] l,by simpa using I.len] #[_,l,.inl rfl];exact(l.2 b<|bF<|aX (aR e) I.ok.above).trans<|I.base.keep b o e n O G;obtain ⟨sl,C⟩:=I.base.slot b o e n O G;exact#[sl,(l.2 b<|bF<|aX (aR e) I.ok.above).trans C];obtain ⟨o',C⟩:=I.base.there b o e G;exact#[o',(l.2 b<|bF<|aX (aR e) I.ok.above).trans C];by_cases R:j=i;subst R;rw[S]at C;cases C;rw[gN L]at J;cases J;exact#[u,r,.inl #[N,by simp]];rw [cS<|Ne.symm R] at J;obtain⟨u',r',q⟩:=hl j y v' C J Z;refine#[u',r',?_];rcases q with⟨k,e⟩ | ⟨k,c,e,z⟩
 refine .inl #[k,?_];have:y≠x:=λe=>R<|zB hN C<|e ▸ S;simp[this,e];exact .inr #[k,c,e,z.sameBut l<|cne y c e];obtain ⟨W,z⟩:=I.cell y c e;exact#[W,z.sameBut l<|cne y c e];obtain ⟨e,n,U,nf,d⟩:=I.pin p hp;exact#[(l.2 p.1 U).trans e,n,U,nf,d];have Y:X.fn x=true:=by
  rcases hf with z | z
  exact z;rw[z]at N;cases N
 obtain⟨c,F⟩:=I.ok.has x<|.inl N;obtain⟨W,z⟩:=I.cell x c F;refine wpAny_storeName_cell I.ok.kind N F z<|λh' Lb l=>?_;obtain⟨oc,Gd,Mg⟩:=id z;refine h { s with heap:=h' } #[I.ok,I.os,I.bare,#[λb o e n O G=>?_,λb o e n O G=>?_,I.base.free,λb o e G=>?_,I.base.tups,I.base.frzs,I.base.tbls],#[m,t.sameBut l<|Ne.symm<|cne x c F,λj y v' C J Z=>?_],λy T e=>?_,I.free,I.freeC,λp hp=>?_,D #[oc,Gd,I.freeC x c F] l,by simpa using I.len] #[c,l,.inr F];exact(l.2 b<|bF<|aX (aR e)<|I.ok.cab x c Y F).trans<|I.base.keep b o e n O G;obtain ⟨sl,C⟩:=I.base.slot b o e n O G;exact#[sl,(l.2 b<|bF<|aX (aR e)<|I.ok.cab x c Y F).trans C];obtain ⟨o',C⟩:=I.base.there b o e G;exact#[o',(l.2 b<|bF<|aX (aR e)<|I.ok.cab x c Y F).trans C];by_cases R:j=i;subst R;rw[S]at C;cases C;rw[gN L]at J;cases J;exact#[u,r,.inr #[.inl N,c,F,Lb]];rw [cS<|Ne.symm R] at J;obtain⟨u',r',q⟩:=hl j y v' C J Z;refine#[u',r',?_];rcases q with q | ⟨k,T,e,z'⟩
 exact .inl q;refine .inr #[k,T,e,z'.sameBut l ?_];rintro rfl;exact R<|zB hN C<|I.ok.inj _ _ _ e F ▸ S;by_cases Pf:T=c;subst Pf;exact#[_,Lb];obtain ⟨w2,z2⟩:=I.cell y T e;exact#[w2,z2.sameBut l Pf];obtain ⟨e,n,U,nf,d⟩:=I.pin p hp;refine#[(l.2 p.1 ?_).trans e,n,U,nf,d];intro q;rw[q,Gd]at e;have q':oc=p.2:=ozI e;exact d W (by rw[<-q'];exact Mg)
def yI{M}{A}{E}{i}{x}{v:V}{u}{Q}(I:Inv X f g H s)(c:X.N.Nodup)(j:X.N[i]? = some x)(l:Loc X.env.scope x)(r:RelV v u)
  (h:∀a,Inv X f (g.set i<|some v) H a->Q () a) (e:X.fn x=true\/X.env.scope.names.lookup x=some .local:=by first | exact .inl rfl | exact .inr rfl | assumption):wpAny M A (storeName X.env x u) Q E s:=
 sD I c j l r (λa b _=>h a b) e
def Inv.call'(I:Inv X f g H s)(l:a.os=s.os)(u:Un (frs X.stack) ch H B s.heap a.heap)(h:HOk X.prog X.w B a.heap)(j:AllBare a.gens)
  (i:∀b∈ch,(b∈X.ex\/X.s₀.heap.objs.size<=b)/\b≠X.env.locals/\(∀x c,X.env.cells.lookup x=some c->c≠b)/\∀p∈X.pn++f,p.1≠b):Inv X f g B a:=by
 obtain⟨h',g',d',t',m⟩:=a;have e:m=s.os:=l;subst e;exact I.call (g':=g') (t':=t') (d':=d') u h j i
end
abbrev XK:=Value->Option Addr->Hp->Prop
abbrev St:=List S1
abbrev VK:=V->Hp->Prop
abbrev TE:=St->Hp->VK->Prop
abbrev TT:=St->Hp->(Bool->Hp->Prop)->Prop
abbrev TA:=St->Hp->(Q1->Hp->Prop)->Prop
structure Ends where
 nx:St->Hp->Prop
 rt:VK
 bk:St->Hp->Prop:=λ_ _=>False
 ct:St->Hp->Prop:=λ_ _=>False
abbrev TS:=Ends->St->Hp->Prop
def EP(X:Cx)(b:gQ)(e:St)(Q:VK)(u:Value)(c:Shared):Prop:=∃v a,Inv X b e a c/\RelV v u/\Q v a
def TP(X:Cx)(c:gQ)(f:St)(Q:Bool->Hp->Prop)(b:Bool)(e:Shared):Prop:=∃a,Inv X c f a e/\Q b a
def AP(X:Cx)(c:gQ)(f:St)(Q:Q1->Hp->Prop)(us:Q7)(e:Shared):Prop:=∃b a,Inv X c f a e/\Vals b us/\Q b a
def SP(X:Cx)(c:gQ)(D:Ends)(f:Flow)(e:Shared):Prop:=
 match f with
 | .next=>∃a b,Inv X c a b e/\D.nx a b
 | .brk=>∃a b,Inv X c a b e/\D.bk a b
 | .cont=>∃a b,Inv X c a b e/\D.ct a b
 | .ret u=>∃v a b,Inv X c a b e/\RelV v u/\D.rt v b
def PE(X:Cx)(e:Expr)(t:TE):Prop:=
 ∀(b:gQ) (s:Shared) (a:St) (H:Hp) (Q:VK),Inv X b a H s->t a H Q->wpAny `d X.A (eval e X.env) (EP X b a Q) X.xe s
def PT(X:Cx)(e:Expr)(t:TT):Prop:=
 ∀(b:gQ) (s:Shared) (a:St) (H:Hp) (Q:Bool->Hp->Prop),Inv X b a H s->t a H Q->wpAny `d X.A (isTrue e X.env<|eval e X.env) (TP X b a Q) X.xe s
def PW(X:Cx)(e:Expr)(t:TT):Prop:=
 ∀(a:Sem Value) (c:gQ) (s:Shared) (b:St) (H:Hp) (Q:Bool->Hp->Prop),Inv X c b H s->t b H Q->wpAny `d X.A (isTrue e X.env a) (TP X c b Q) X.xe s
def PW.pt(h:PW X e t):PT X e t:=h _
def PA(X:Cx)(e:S3)(t:TA):Prop:=
 ∀(a:Pos) (c:gQ) (s:Shared) (b:St) (H:Hp) (Q:Q1->Hp->Prop),Inv X c b H s->t b H Q->wpAny `d X.A (spliced<|backTo a<|starEach e X.env) (AP X c b Q) X.xe s
def PS(X:Cx)(st:Stmt)(t:TS):Prop:=
 ∀(a:gQ) (s:Shared) (b:St) (H:Hp) (D:Ends),Inv X a b H s->t D b H->wpAny `d X.A (exec st X.env) (SP X a D) X.xe s
def PSs(X:Cx)(st:List Stmt)(t:TS):Prop:=
 ∀(a:gQ) (s:Shared) (b:St) (H:Hp) (D:Ends),Inv X a b H s->t D b H->wpAny `d X.A (execs st X.env) (SP X a D) X.xe s
def dY{Q b:c->Shared->Prop}(h:wpAny M A t Q E s)(e:∀a s,Q a s->b a s):wpAny M A t b E s:=wpAny_mono h e λ_ _ x=>x
section
variable{X:Cx}
def fQ(i:Nat):TE:=λa H Q=>∃v,a[i]? = some (some v)/\Q v H
def tC(v:V):TE:=λ_ H Q=>Q v H
def aVz(y:X.N[i]? = some x)(hv:Vis X.env.scope x)(g:T3 x:=by decide)(q:T4 x:=by decide):PE X (.Name x f)<|fQ i:=by
 intro p s C H Q I h;obtain⟨v,e,h⟩:=h;obtain⟨m,B,z⟩:=I.loc;obtain⟨u,r,l⟩:=z i x v y e hv;have a:EP X p C Q u s:=#[v,H,I,r,h];rcases l with⟨b,A⟩ | ⟨b,c,o,j⟩
 exact wpAny_Name (wpAny_loadName_local I.ok.kind b B A a) g;rcases b with b | b
 exact wpAny_Name (wpAny_loadName_cell I.ok.kind b o j a) g;exact wpAny_Name (wpAny_loadName_free I.ok.kind b o j a q) g
def ki_:PE X (.Constant (.int i) j f)<|tC<|.int i:=λ_ _ _ H _ I h=>wpAny_Constant_int #[.int i,H,I.tok _,`r,h]
def bDd:PE X (.Constant (.bool b) j f)<|tC<|.bl b:=λ_ _ _ H _ I h=>Constant_bool #[.bl b,H,I,rfl,h]
def aWc:PE X (.Constant .none j f)<|tC .non:=λ_ _ _ H _ I h=>Constant_none #[.non,H,I,rfl,h]
def aIw:PE X (.Constant (.str x) j f)<|tC<|.str x:=λ_ _ _ H _ I h=>Calls.Constant_str #[.str x,H,I.tok _,`r,h]
def Gl(X:Cx)(x:Str):Prop:=X.env.kindOf x=some .globalImplicit
def kt_{E}{Aa}{s}{e:St}{H}{x}{u}{f}{Q}(I:Inv X Aa e H s)(b:Gl X x)(c:X.mg x=some u)(h:Q u s)
  (a:T3 x:=by decide):wpAny `d X.A (eval (.Name x f) X.env) Q E s:=
 Calls.Name_function_global I.ok.kind b (Calls.loadGlobal_global (by rw[I.ok.glob];exact I.mod.glob.keeps I.bk) c h) a
def gq_{E}{Aa}{s}{j:St}{H}{x}{u}{f}{Q}(I:Inv X Aa j H s)(e:Gl X x)(g:X.mg x=none)(hv:bootBuiltins x=some u)(h:Q u s)
  (i:x ≠ "__name__":=by decide) (c:T3 x:=by decide):wpAny `d X.A (eval (.Name x f) X.env) Q E s:=by
 obtain⟨l,a,b⟩:=I.mod.blt;exact Calls.Name_function_global I.ok.kind e (Calls.loadGlobal_builtin (by rw[I.ok.glob];exact I.mod.glob.keeps I.bk) g (by rw[I.ok.blt];exact a.keeps I.bk) ((b x i).trans hv) h) c
def vL(b:Gl X x)(c:X.mg x=some u)(r:RelV v u)(a:T3 x:=by decide):PE X (.Name x f)<|tC v:=
 λ_ _ _ H _ I h=>kt_ I b c #[v,H,I,r,h] a
def aOs(b:Gl X x)(c:X.mg x=none)(hv:bootBuiltins x=some u)(r:RelV v u)(e:x ≠ "__name__":=by decide)(a:T3 x:=by decide):PE X (.Name x f)<|tC v:=
 λ_ _ _ H _ I h=>gq_ I b c hv #[v,H,I,r,h] e a
variable{a b:Expr}{p w:TE}{f:Pos}
def PC(X:Cx)(op:CmpOp)(a b:Expr)(t:TE):Prop:=
 ∀(h:gQ) (s:Shared) (g:St) (H:Hp) (Q:VK),Inv X h g H s->t g H Q ->
  wpAny `d X.A (eval a X.env) (λv c=>wpAny `d X.A (eval b X.env) (λu e=>wpAny `d X.A (compareOp op v u) (EP X h g Q) X.xe e) X.xe c) X.xe s
def zC(b:Expr)(h:op ≠ .In)(g:op ≠ .NotIn):behindInMarks op b=false:=by
 have c:(op == CmpOp.In)=false:=by grind
 have e:(op == CmpOp.NotIn)=false:=by grind
 cases b<;>simp[behindInMarks,c,e]
def tB(t:TE):TT:=λg H Q=>t g H λx e=>∃c,x=.bl c/\Q c e
def aWf(h:PC X op a b t)(e:behindInMarks op b=false:=by first | exact zC _ `a `a | rfl):PE X (.Compare a [op] [b] f) t:=λc s i H Q I g=>wpAny_Compare1 (h c s i H Q I g) e
def aVp(h:PC X op a b t)(e:behindInMarks op b=false:=by first | exact zC _ `a `a | rfl):PT X (.Compare a [op] [b] f)<|tB t:=by intro g s z H Q I o;refine wpAny_isTrue_Compare1 (dY (h g s z H _ I o) λv A e=>dY e λu B m=>dY m λc C i=>?_) e;obtain⟨x,j,l,y,r⟩:=i;obtain⟨d,rfl,q⟩:=r;cases y;exact wpAny_truthy_bool #[j,l,q]
def aVn(h:PE X e t)(m:∀c,isTrue e X.env c=(do let v <-c;standAt e.pos;holding [v] (truthy v)):=by intro _;rfl):PT X e<|tB t:=by intro g s y H Q I o;refine isTrue_plain (dY (h g s y H _ I o) λv z i=>?_)<|m _;obtain⟨x,j,l,u,r⟩:=i;obtain⟨d,rfl,q⟩:=r;cases u;exact wpAny_truthy_bool #[j,l,q]
variable{g o:TT}{rest:S3}
def bIh(t u:TT):TT:=λh H Q=>t h H λc e=>if c=true then u h e Q else Q false e
def tOr(t u:TT):TT:=λh H Q=>t h H λc e=>if c=true then Q true e else u h e Q
def bIc(t:TT):TT:=λh H Q=>t h H λc e=>Q (!c) e
def aOe(ha:PT X a g):PW X (.BoolOp .And [a] f) g:=by
 intro m i s j H Q I h;refine isTrue_and<|dY (ha i s j H Q I h) λc l e=>?_;cases c with
 |true=>exact isTrue_and_nil e
 |false=>exact e
def aVi(ha:PT X a g):PW X (.BoolOp .Or [a] f) g:=by
 intro m i s j H Q I h;refine isTrue_or<|dY (ha i s j H Q I h) λc l e=>?_;cases c with
 |false=>exact isTrue_or_nil e
 |true=>exact e
def aVj(ha:PT X a g)(r:PW X (.BoolOp .And (b::rest) f) o):PW X (.BoolOp .And (a::b::rest) f)<|bIh g o:=by
 intro v e s m H Q I h;refine isTrue_and<|dY (ha e s m H _ I h) λc u q=>?_;obtain⟨i,j,l⟩:=q;cases c with
 |true=>exact r v e u m i Q j l
 |false=>exact#[i,j,l]
def bCw(ha:PT X a g)(r:PW X (.BoolOp .Or (b::rest) f) o):PW X (.BoolOp .Or (a::b::rest) f)<|tOr g o:=by
 intro v e s m H Q I h;refine isTrue_or<|dY (ha e s m H _ I h) λc u q=>?_;obtain⟨i,j,l⟩:=q;cases c with
 |true=>exact#[i,j,l]
 |false=>exact r v e u m i Q j l
def aVo(ha:PT X a g):PT X (.UnaryOp .Not a f)<|bIc g:=by intro e s j H Q I h;exact isTrue_not<|ha e s j H (λc i=>Q (!c) i) I h
def bCo(p w:TE):TE:=λh H Q=>p h H λx e=>∃c,x=.bl c/\if c=true then w h e Q else Q (.bl false) e
def bCg(p:TE):TE:=λh H Q=>p h H λx e=>∃c,x=.bl c/\Q (.bl<|!c) e
def aWa(h:PE X a t):PE X (.BoolOp op [a] f) t:=λc s i H Q I e=>BoolOp_one<|h c s i H Q I e
def aWg(ha:PE X a p)(r:PE X (.BoolOp .And (b::rest) f) w):PE X (.BoolOp .And (a::b::rest) f)<|bCo p w:=by
 intro i s m H Q I h;refine BoolOp_and<|dY (ha i s m H _ I h) λv y q=>?_;obtain⟨x,j,l,u,e⟩:=q;obtain⟨c,rfl,e⟩:=e;cases u;refine wpAny_truthy_bool ?_;cases c with
 |true=>exact r i y m j Q l e
 |false=>exact#[.bl false,j,l,rfl,e]
def aWb(ha:PE X a p):PE X (.UnaryOp .Not a f)<|bCg p:=by intro i s r H Q I h;refine UnaryOp_<|dY (ha i s r H _ I h) λv u j=>?_;obtain⟨x,l,m,q,e⟩:=j;obtain⟨c,rfl,e⟩:=e;cases q;exact not_of<|wpAny_truthy_bool #[.bl<|!c,l,m,rfl,e]
end
def SqL(K:dN)(H:Hp)(a:Addr)(xs:Q1):Prop:=
 Rd H a (.lst xs) \/
  ∃(o:Obj) (b:S5) (n:Nat),K.lookup a=some o/\o.cls=.type "list" /\ o.dict=none/\o.data=.seq b n/\b.size<=sizeLine/\Vals xs b.toList
def SqT(K:dN)(H:Hp)(a:Addr)(xs:Q1):Prop:=
 Rd H a (.tup xs) \/
  ∃(o:Obj) (b:S5) (n:Nat),K.lookup a=some o/\o.cls=.type "tuple" /\ o.data=.seq b n/\b.size<=sizeLine/\Vals xs b.toList
def RelV.abs(r:RelV x u):aMm u=some x:=by
 cases x with
 |non=>cases r;rfl
 |bl _=>cases r;rfl
 |int _=>obtain⟨t,rfl⟩:=r;rfl
 |str _=>obtain⟨t,rfl⟩:=r;rfl
 |byt _=>obtain⟨t,rfl⟩:=r;rfl
 |flt _=>obtain⟨t,rfl⟩:=r;rfl
 |ref _=>cases r;rfl
 |ty _=>cases r;rfl
def RelV.inj(r:RelV x u)(q:RelV y u):x=y:=ozI<|r.abs.symm.trans q.abs
def Vals.inj:∀{xs ys} {us},Vals xs us->Vals ys us->xs=ys
 |_,_,_,.nil,.nil=>rfl
 |_,_,_,.cons r t,.cons r' t'=>by rw[r.inj r',Vals.inj t t']
section
variable{X:Cx}{c:gQ}{b:St}{H:Hp}{s:Shared}{a:Addr}{xs ys:Q1}
def SqL.of{K}(h:H a=some (.lst xs)):SqL K H a xs:=.inl<|.inl h
def SqT.of{K}(h:H a=some (.tup xs)):SqT K H a xs:=.inl<|.inl h
def Inv.list(I:Inv X c b H s)(h:SqL X.K H a xs):∃f:Q7,Vals xs f/\PlainL s.heap a f.toArray/\xs.length<=sizeLine:=by
 rcases h with h | ⟨o,f,n,j,g,i,l,m,r⟩
 obtain ⟨z,f,n,r,e⟩:=h.ok I.hok;exact#[f,r,#[_,n,e,rfl,rfl,rfl],z];refine #[f.toList,r,#[o,n,I.kIn a o j,g,i,by simpa using l],?_];have e:=r.length;simp only[Array.length_toList]at e;lia
def Inv.tuple(I:Inv X c b H s)(h:SqT X.K H a xs):∃f:Q7,Vals xs f/\IsTup s.heap a f.toArray/\xs.length<=sizeLine:=by
 rcases h with h | ⟨o,f,n,i,g,j,l,r⟩
 obtain ⟨z,f,r,p⟩:=h.ok I.hok;exact#[f,r,p,z];refine #[f.toList,r,#[o,I.kIn a o i,g,n,by simpa using j],?_];have e:=r.length;simp only[Array.length_toList]at e;lia
def Inv.list_inj(I:Inv X c b H s)(h:SqL X.K H a xs)(h':SqL X.K H a ys):xs=ys:=by
 obtain⟨g,r,⟨o,n,e,_,_,d⟩,_⟩:=I.list h;obtain⟨f,l,⟨q,p,j,_,_,i⟩,_⟩:=I.list h';rw[e]at j;cases j;rw[d]at i;injection i with m _
 have:g=f:=by grind
 subst this;exact r.inj l
def Inv.tuple_inj(I:Inv X c b H s)(h:SqT X.K H a xs)(h':SqT X.K H a ys):xs=ys:=by
 obtain⟨g,r,⟨o,e,_,n,d⟩,_⟩:=I.tuple h;obtain⟨f,l,⟨q,j,_,p,i⟩,_⟩:=I.tuple h';rw[e]at j;cases j;rw[d]at i;injection i with m _
 have:g=f:=by grind
 subst this;exact r.inj l
end
abbrev Cx.wish(X:Cx)(E:iE):Cx:={ X with xe:=E }
abbrev Cx.nox(X:Cx):Cx:=X.wish λ_ _=>False
def Cx.Ok.wish{X:Cx}(ok:X.Ok)(E:iE):(X.wish E).Ok:=
 #[ok.mod,ok.kind,ok.glob,ok.blt,ok.above,ok.inj,ok.has,ok.cab,ok.hd,ok.frames,ok.stk,ok.exf,ok.bs,ok.bsz,ok.noex,ok.exfs,ok.funs,ok.frf]
def Cx.Ok.unwish{X:Cx}(ok:(X.wish E).Ok):X.Ok:=
 #[ok.mod,ok.kind,ok.glob,ok.blt,ok.above,ok.inj,ok.has,ok.cab,ok.hd,ok.frames,ok.stk,ok.exf,ok.bs,ok.bsz,ok.noex,ok.exfs,ok.funs,ok.frf]
section
variable{X:Cx}{a:gQ}{b:St}{H:Hp}{s:Shared}{E:iE}
def Inv.wish(I:Inv X a b H s)(E:iE):Inv (X.wish E) a b H s:=#[I.ok.wish E,I.os,I.bare,I.base,I.loc,I.cell,I.free,I.freeC,I.pin,I.hok,I.len]
def Inv.unwish(I:Inv (X.wish E) a b H s):Inv X a b H s:=#[I.ok.unwish,I.os,I.bare,I.base,I.loc,I.cell,I.free,I.freeC,I.pin,I.hok,I.len]
def SP.unwish(h:SP (X.wish E) a D f s'):SP X a D f s':=by
 cases f with
 |next=>obtain⟨c,e,I,q⟩:=h;exact#[c,e,I.unwish,q]
 |brk=>obtain⟨c,e,I,q⟩:=h;exact#[c,e,I.unwish,q]
 |cont=>obtain⟨c,e,I,q⟩:=h;exact#[c,e,I.unwish,q]
 |ret u=>obtain⟨v,c,e,I,r,q⟩:=h;exact#[v,c,e,I.unwish,r,q]
def PSs.nox{st}(h:PSs X.nox st t):PSs X st t:=λa s b H D I c =>
 wpAny_mono (h a s b H D (I.wish _) c) (λ_ _ q=>q.unwish) λ_ _ z=>False.elim z
end
section
variable{X:Cx}{st:Stmt}{rest:List Stmt}{t u:TS}{e:Expr}{i:TE}{g:Pos}
def bCh:TS:=λD a H=>D.nx a H
def bIa(t u:TS):TS:=λD a H=>t { D with nx:=u D } a H
def aOg:PSs X [] bCh:=λ_ _ a H _ I h=>wpAny_execs_nil #[a,H,I,h]
def aIm(l:PS X st t)(m:PSs X rest u):PSs X (st::rest)<|bIa t u:=by
 intro b s p H D I h;refine wpAny_execs_cons (dY (l b s p H { D with nx:=u D } I h) λf o q=>?_);cases f with
 |next => obtain⟨a,c,j,q⟩:=q;exact m b o a c D j q
 |ret v=>exact q
 |brk=>exact q
 |cont=>exact q
def aOf(b:PS X st t):PSs X [st] t:=by
 intro a s c H D I h;refine wpAny_execs_cons<|dY (b a s c H D I h) λf j q=>?_;cases f with
 |next=>exact wpAny_execs_nil q
 |ret v=>exact q
 |brk=>exact q
 |cont=>exact q
def Inv.quiet(I:Inv X a b H s):interactive X.env=false:=by simp[interactive,I.ok.kind]
def x_(i:TE):TS:=λD a H=>i a H λ_ b=>D.nx a b
def nA(l:PE X e i)(m:swapsWith e none g.line X.env=pure false:=by rfl):PS X (.Expr e g)<|x_ i:=by intro b s a H D I h;refine wpAny_Expr_any (dY (l b s a H _ I h) λv q c=>?_) I.quiet m;obtain⟨x,f,j,p,o⟩:=c;exact#[a,f,j,o]
def bIb(i:TE):TS:=λD a H=>i a H D.rt
def aVr(l:PE X e i):PS X (.Return (some e) g)<|bIb i:=by intro b s a H D I h;refine wpAny_Return_some<|dY (l b s a H _ I h) λv p c=>?_;obtain⟨x,f,j,o,m⟩:=c;exact#[x,a,f,j,o,m]
def bIe(c:TT)(t u:TS):TS:=λD a H=>c a H λb f=>if b=true then t D a f else u D a f
def bCx(v:PT X c tc)(ha:PSs X a t)(r:PSs X b u):PS X (.If c a b g)<|bIe tc t u:=by
 intro f s j H D I h;refine wpAny_If<|dY (v f s j H _ I h) λd p q=>?_;obtain⟨l,m,o⟩:=q;cases d with
 |true=>exact ha f p j l D m o
 |false=>exact r f p j l D m o
end
abbrev TG:=V->St->Hp->(St->Hp->Prop)->Prop
abbrev TGs:=Q1->St->Hp->(St->Hp->Prop)->Prop
def PG(X:Cx)(a:Expr)(t:TG):Prop:=
 ∀(c:gQ) (s:Shared) (f:St) (H:Hp) (v:V) (u:Value) (Q:St->Hp->Prop),Inv X c f H s->RelV v u->t v f H Q ->
  wpAny `d X.A (assign a X.env u) (λ_ g=>∃b e,Inv X c b e g/\Q b e) X.xe s
def PGs(X:Cx)(ts:S3)(t:TGs):Prop:=
 ∀(b:gQ) (s:Shared) (g:St) (H:Hp) (f:Q1) (e:Q7) (Q:St->Hp->Prop),Inv X b g H s->Vals f e->t f g H Q ->
  wpAny `d X.A (assignInOrder ((assignEach ts X.env).map (·.2)) e) (λ_ h=>∃a c,Inv X b a c h/\Q a c) X.xe s
abbrev bGb:=V->V->V->Hp->(Hp->Prop)->Prop
def bGc(X:Cx)(t:bGb):Prop:=
 ∀(a:gQ) (s:Shared) (f:St) (H:Hp) (o i v:V) (e c u:Value) (Q:Hp->Prop),Inv X a f H s->RelV o e->RelV i c->RelV v u->t o i v H Q ->
  wpAny `d X.A (setItem e c u) (λ_ g=>∃b,Inv X a f b g/\Q b) X.xe s
section
variable{X:Cx}{c:Pos}
def kL(i:Nat):TG:=λv a H Q=>Q (a.set i<|some v) H
def iK(b:X.N.Nodup)(f:X.N[i]? = some x)(g:Loc X.env.scope x)(e:X.fn x=true\/X.env.scope.names.lookup x=some .local:=by first | exact .inl rfl | exact .inr rfl | assumption):PG X (.Name x c)<|kL i:=by intro j s m H v u Q I r h;exact wpAny_assign_Name<|yI I b f g r (λl a=>#[_,H,a,h]) e
def aQl:TGs:=λa b H Q=>a=[]/\Q b H
def aCb(t:TG)(u:TGs):TGs:=λe f H Q=>∃v r,e=v::r/\t v f H λa b=>u r a b Q
def cv_:PGs X [] aQl:=by intro b s a H g f Q I r h;obtain⟨e,h⟩:=h;subst e;cases r;exact assignInOrder_nil #[a,H,I,h]
def lD(m:PG X e t)(o:PGs X a u)
  (p:(assignEach (e::a) X.env).map (·.2)=assign e X.env::(assignEach a X.env).map (·.2):=by rfl):PGs X (e::a)<|aCb t u:=by
 intro f s A H D B Q I r h;obtain⟨v,C,l,h⟩:=h;subst l;cases r with
 |cons r y => rw[p];refine assignInOrder_cons<|dY (m f s A H _ _ _ I r h) λ_ z g=>?_;obtain⟨b,i,j,q⟩:=g;exact o f z b i _ _ Q j y q
def aLg(K:dN)(n:Nat)(t:TGs):TG:=λv e H Q=>∃a b,v=.ref a/\SqT K H a b/\b.length=n/\t b e H Q
def hq_{k}(q:X.calm=true)(h:PGs X f t)
  (z:(assignEach f X.env).length=n:=by rfl) (l:(assignEach f X.env).findIdx? (·.1)=none:=by rfl):PG X (.Tuple f k c)<|aLg X.K n t:=by
 intro j s F H v u Q I r g;obtain⟨a,E,p,A,y,g⟩:=g;subst p;cases r;obtain⟨D,i,B,J⟩:=I.tuple A;refine assign_Tuple_tuple (I.ok.hd q) B (by simp[z,<-y,i.length]) l λG C=>?_;have m:=I.kept (t':=s.toks) λb o e=>C b o (bF<|aR e) e;exact h j _ F H E _ Q m (by simpa using i) g
def bEu(to g:TE)(t:bGb):TG:=λv a H Q=>to a H λo b=>g a b λi e=>t o i v e λf=>Q a f
def aIu(B:PE X o to)(A:PE X i ti)(C:bGc X t)
  (ha:∀ v,assign (.Subscript o i c) X.env v=(do
   let a <-holding [v] (eval o X.env)
   let e <-holding [v,a] (eval i X.env)
   standAt c
   holding [v,a,e] (setItem a e v)
   release [v,a,e] []):=by intro _;rfl):PG X (.Subscript o i c)<|bEu to ti t:=by
 intro g s f H v u Q I r h;rw[ha];refine wpAny_bind<|wpAny_holding<|dY (B g s f H _ I h) λa L b=>?_;obtain⟨x,j,p,G,D⟩:=b;refine wpAny_bind<|wpAny_holding<|dY (A g L f j _ p D) λe M b=>?_;obtain⟨y,l,q,J,E⟩:=b;refine wpAny_bind<|wpAny_standAt<|wpAny_bind<|wpAny_holding<|dY (C g M f l x y v a e u _ q G J r E) λ_ N b=>?_;obtain⟨m,z,F⟩:=b;exact wpAny_release #[f,m,z,F]
def uQ(e:TE)(g:TG):TS:=λD a H=>e a H λx b=>g x a b D.nx
def kf_(m:PE X e te)(o:PG X tg g)(p:swapsWithSole [tg] e c.line X.env=pure false:=by rfl)(r:swappedStores [tg] e X.env=pure none:=by rfl)
  (l:(assignEach [tg] X.env).map (·.2)=[assign tg X.env]:=by rfl):PS X (.Assign [tg] e c)<|uQ te g:=by
 intro a s b H D I h;refine wpAny_Assign_stores (dY (m a s b H _ I h) λv z f=>?_) p r;obtain⟨x,i,j,y,u⟩:=f;rw[l];exact dY (o a z b i x v _ j y u) λ_ A q=>q
def aVq(o:X.N.Nodup)(r:X.N[i]? = some x)(z:Loc X.env.scope x)(p:PE X e b)(u:swapsWith e (some<|.Name x a) c.line X.env=pure false:=by rfl)(q:X.fn x=true\/X.env.scope.names.lookup x=some .local:=by first | exact .inl rfl | exact .inr rfl | assumption) :
  PS X (.Assign [.Name x a] e c) (uQ b<|kL i):=by
 intro f s C H D I h;refine wpAny_Assign_Name (dY (p f s C H _ I h) λv E g=>?_) u;obtain⟨y,j,l,B,A⟩:=g;exact yI l o r z B (λF m=>#[_,j,m,A]) q
end
section
variable{X:Cx}{a:Pos}
def aUp(c:TT)(j:TS):TS:=λD e H=>∃W:Nat->St->Hp->Prop,(∃m,W m e H)/\∀m e H,W m e H ->
 c e H λb h=>if b=true then ∃N:St->Hp->Prop,(∀f g,N f g->∃i,i<m/\W i f g)/\j { D with nx:=N,ct:=N,bk:=D.nx } e h else D.nx e h
def aIn(F:PassesOwn `d X.A X.env X.xe)(M:PT X c tc)(L:PSs X body tb):PS X (.While c body [] a)<|aUp tc tb:=by
 intro o s U H D I h;obtain⟨W,⟨O,w0⟩,turn⟩:=h;refine wpAny_While<|codeAny_whileLoop (λn Q=>∃j z,Inv X o j z Q/\W n j z) ?_ O #[U,H,I,w0];rintro n R ⟨g,A,J,T⟩;refine wpAny_passesOwn F<|dY (M o R g A _ J<|turn n g A T) λb S G=>?_;obtain⟨B,C,l⟩:=G;cases b with
 |true =>
  obtain⟨N,E,l⟩:=l;refine wpAny_passesOwn F<|dY (L o S g B _ C l) λf Y m=>?_;cases f with
  |next => obtain⟨e,i,p,u⟩:=m;obtain⟨r,q,y⟩:=E e i u;exact#[r,q,e,i,p,y]
  |cont => obtain⟨e,i,p,u⟩:=m;obtain⟨r,q,y⟩:=E e i u;exact#[r,q,e,i,p,y]
  |brk=>exact m
  |ret v=>exact m
 |false => exact wpAny_execs_nil #[g,B,C,l]
end
structure It where
 go:Nat->Hp->Prop
 yld:Nat->Hp->V->Hp->Prop
 stop:Nat->Hp->Prop
def lE(X:Cx)(a:gQ)(H:Hp)(b:Addr):Prop:=
 H b=none/\b≠X.env.locals/\b∉X.fs/\(b∈X.ex\/X.s₀.heap.objs.size<=b)/\(∀x c,X.env.cells.lookup x=some c->c≠b)/\∀p∈X.pn++a,p.1≠b
def Inv.fpOk{X}{Aa}{h:St}{H H'}{s}{b:Addr}(I:Inv X Aa h H s)(a:s.heap.objs.size<=b)(f:H' b=none):lE X Aa H' b:=by refine#[f,fE<|aX I.lt a,I.nofs a,.inr<|nzL I.sz a,λx c e z=>?_,λp g z=>?_];obtain ⟨v,q⟩:=I.cell x c e;exact absurd (aX q.lt (by rw[z];exact a))<|dB _;exact absurd (aX (aR (I.pin p g).1) (by rw[z];exact a))<|dB _
structure Turn(P:Program)(w:World)(K:dN)(tg:Expr)(J:It)(fp:R9)(it:Addr)(tn:Nat->Heap->Prop):Prop where
 mem:it∈fp
 obj:∀i h,tn i h->∀b∈fp,∃o,h.get? b=some o/\∀v,o.data ≠ .cell v
 keep:∀i h h',tn i h->(∀b∈fp,∀o,h.get? b=some o->h'.get? b=some o)->tn i h'
 item:∀(X:Cx),X.prog=P->X.w=w->X.K=K->X.calm=true->∀(i:Nat) (Aa:gQ) (s:Shared) (σ:St) (H:Hp) (E:iE),Inv X Aa σ H s->(∀b∈fp,lE X Aa H b)->tn i s.heap->J.go i H ->
  wpAny (model P w) X.A (pyNext (.ref it)) (λr s1=>∃u,r=some u /\
   wpAny (model P w) X.A (letOwnedTupleGo tg (.ref it) u) (λ_ s2=>∃x H',Inv X Aa σ H' s2/\RelV x u/\J.yld i H x H'/\tn (i+1) s2.heap/\∀b∈fp,H' b=none) E s1) E s
 done:∀(X:Cx),X.prog=P->X.w=w->X.K=K->X.calm=true->∀(i:Nat) (Aa:gQ) (s:Shared) (σ:St) (H:Hp) (E:iE),Inv X Aa σ H s->(∀b∈fp,lE X Aa H b)->tn i s.heap->J.stop i H ->
  wpAny (model P w) X.A (pyNext (.ref it)) (λr s1=>r=none/\Inv X Aa σ H s1) E s
 self:∀(A:Around) (i:Nat) (s:Shared) (Q:iE) (E:iE),tn i s.heap->Q (.ref it) s->wpAny (model P w) A (pyIter (.ref it)) Q E s
abbrev TI:=St->Hp->(It->Hp->Prop)->Prop
def PIE(X:Cx)(e:gQ)(j:St)(i:Expr)(R:It->Hp->Prop)(c:Value)(g:Shared):Prop:=
 ∃(f:Addr) (fp:R9) (h:Nat->Heap->Prop) (J:It) (a:Hp),c=.ref f/\Inv X e j a g/\Turn X.prog X.w X.K i J fp f h/\h 0 g.heap/\(∀b∈fp,lE X e a b)/\R J a
def PI(X:Cx)(f a:Expr)(g:TI):Prop:=
 ∀(c:gQ) (s:Shared) (b:St) (H:Hp) (R:It->Hp->Prop),Inv X c b H s->g b H R ->
  wpAny `d X.A (eval a X.env) (λv e=>wpAny `d X.A (pyIter v) (PIE X c b f R) X.xe e) X.xe s
def tH{M:Model}{A:Around}{E:iE}{s:Shared}{b:Expr}{it:Addr}{u:Value}{o:Obj}{n:String}{vs:S5}{Q:Unit->Shared->Prop}(g:s.heap.get? it=some o)(c:o.cls=.type n)(e:o.data=.fields vs)
    (f:["enumerate","zip","dict_itemiterator","dict_reverseitemiterator","odict_iterator","itertools.zip_longest","itertools.pairwise"].contains n=false) (a:Q () s):wpAny M A (letOwnedTupleGo b (.ref it) u) Q E s:=by
  unfold letOwnedTupleGo;cases b<;>first
    |exact wpAny_pure a
    |(cases u<;>first
        |exact wpAny_pure a
        | (refine wpAny_bind (wpAny_load g ?_)
           rw[c,e];show wpAny M A (if(["enumerate","zip","dict_itemiterator","dict_reverseitemiterator","odict_iterator","itertools.zip_longest","itertools.pairwise"].contains n&&vs[0]? == some (rawInt _))=true then _ else _) Q E s;rw[if_neg (by intro h;rw[f,Bool.false_and]at h;cases h)];exact wpAny_pure a))
def Itl(K:dN)(a:Addr):It:=
 #[λi H=>∃b x,SqL K H a b/\b[i]? = some x,λi H x c=>c=H/\∀b,SqL K H a b->b[i]? = some x,λi H=>∃b,SqL K H a b/\b.length<=i]
def Itt(K:dN)(a:Addr):It:=
 #[λi H=>∃b x,SqT K H a b/\b[i]? = some x,λi H x c=>c=H/\∀b,SqT K H a b->b[i]? = some x,λi H=>∃b,SqT K H a b/\b.length<=i]
def Itr(b:Int)(n:Nat):It:=#[λi _=>i<n,λi H x a=>a=H/\x=.int (b+i),λi _=>n<=i]
def aDj{P}{w}{K}{tg}(a it:Addr):Turn P w K tg (Itl K a) [it] it (λi h=>h.IsListIter it a i)where
 mem:=by simp
 obj:=λi h f b g=>by
  have e:b=it:=by simpa using g
  subst e;obtain⟨o,e,c,d⟩:=f;exact#[o,e,λv z=>by rw[d]at z;cases z]
 keep:=λi h M f k=>f.at λo e=>k it `h o e
 item:=by intro X D G C N i O s V H E I l f F;subst D G C;obtain⟨t,x,m,q⟩:=F;obtain⟨J,L,p,Y⟩:=I.list m;obtain⟨u,U,Z⟩:=L.get q;obtain⟨r,y,S,f3,A,B⟩:=l it `h;refine wpAny_pyNext_list_item f p.isList (x:=u) (by simpa using U) λM j n=>?_;have Q:=I.turned (t':=s.toks) (λb o g e=>(n.2 b g).trans e) r y f3 A B;obtain⟨o,e,c,d⟩:=id j;exact#[u,rfl,tH e c d rfl #[x,H,Q,Z,#[rfl,λys W=>by rw[I.list_inj W m];exact q],j,λb g=>(l b g).1]]
 done:=by intro X D G C N i O s V H E I l f F;subst D G C;obtain⟨t,m,q⟩:=F;obtain⟨J,L,p,Y⟩:=I.list m;obtain⟨r,y,S,f3,A,B⟩:=l it `h;have T:=L.length;exact wpAny_pyNext_list_end (I.ok.hd N) f p.isList (by simp;exact le_of_eq_of_le (id<|Eq.symm T) q) λM R=>#[rfl,I.turned (t':=s.toks) (λb o g e=>R b o g e) r y f3 A B]
 self:=λ_ _ _ _ _ f h=>wpAny_pyIter_listiter f h
def j4{P}{w}{K}{tg}(a it:Addr):Turn P w K tg (Itt K a) [it] it (λi h=>h.IsTupleIter it a i)where
 mem:=by simp
 obj:=λi h f b g=>by
  have e:b=it:=by simpa using g
  subst e;obtain⟨o,e,c,d⟩:=f;exact#[o,e,λv z=>by rw[d]at z;cases z]
 keep:=λi h M f k=>f.at λo e=>k it `h o e
 item:=by intro X C F B N i O s t H E I l f D;subst C F B;obtain⟨n,x,m,G⟩:=D;obtain⟨J,L,p,W⟩:=I.tuple m;obtain⟨u,T,Y⟩:=L.get G;obtain⟨q,r,S,f3,y,A⟩:=l it `h;refine wpAny_pyNext_tuple_item f (p) (x:=u) (by simpa using T) λM j Z=>?_;have Q:=I.turned (t':=s.toks) (λb o g e=>(Z.2 b g).trans e) q r f3 y A;obtain⟨o,e,c,d⟩:=id j;exact#[u,rfl,tH e c d rfl #[x,H,Q,Y,#[rfl,λys U=>by rw[I.tuple_inj U m];exact G],j,λb g=>(l b g).1]]
 done:=by intro X C F B N i O s t H E I l f D;subst C F B;obtain⟨n,m,G⟩:=D;obtain⟨J,L,p,W⟩:=I.tuple m;obtain⟨q,r,S,f3,y,A⟩:=l it `h;have V:=L.length;exact wpAny_pyNext_tuple_end (I.ok.hd N) f (p) (by simp;lia) λM R=>#[rfl,I.turned (t':=s.toks) (λb o g e=>R b o g e) q r f3 y A]
 self:=λ_ _ _ _ _ f h=>wpAny_pyIter_tupleiter f h
def j5{P}{w}{K}{tg}(it:Addr)(j:Int)(n:Nat):Turn P w K tg (Itr j n) [it] it (λi h=>IsRangeIter h it (j+(i:Nat)*1) ((n:Int)-(i:Nat)) 1)where
 mem:=by simp
 obj:=λi h a b c=>by
  have e:b=it:=by simpa using c
  subst e;exact#[_,a,λv z=>by have N:=z;cases N]
 keep:=λi h r a k=>k it `h _ a
 item:=by intro X C D B u i A s F H E I g a y;subst C D B;obtain⟨l,m,L,f3,p,q⟩:=g it `h;have W:=Walks.range (prog:=X.prog) (w:=X.w) (I.ok.hd u) it j 1 n;refine W.item i s _ _ y a λv r tk hv f M=>?_;obtain⟨t,rfl⟩:=hv;have G:Inv X A F H { s with heap:=r,toks:=tk }:=I.turned (λb o c e=>M b o (by simpa using c) e) l m f3 p q;refine#[_,rfl,tH f rfl rfl rfl #[.int<|j+i,H,G,#[t,?_],#[rfl,rfl],f,λb c=>(g b c).1]];rw[Int.mul_one]
 done:=by intro X C D B u i A s F H E I g a y;obtain⟨l,m,L,f3,p,q⟩:=g it `h;exact wpAny_pyNext_range_end (I.ok.hd u) a (by have:n<=i:=y;lia) λr J=>#[rfl,I.turned (t':=s.toks) (λb o c e=>J b o c e) l m f3 p q]
 self:=λ_ _ _ _ _ a h=>wpAny_pyIter_rangeiter a h
section
variable{X:Cx}{c:Expr}
def aKv(K:dN)(e:TE):TI:=λg H R=>e g H λx b=>∃a,x=.ref a/\(∃f,SqL K b a f)/\R (Itl K a) b
def bJv(K:dN)(e:TE):TI:=λg H R=>e g H λx b=>∃a,x=.ref a/\(∃f,SqT K b a f)/\R (Itt K a) b
def aAk(u:PE X l tl):PI X c l<|aKv X.K tl:=by
 intro i s C H R I h;refine dY (u i s C H _ I h) λv g j=>?_;obtain⟨x,m,f,B,A⟩:=j;obtain⟨a,e,⟨F,y⟩,q⟩:=A;subst e;cases B;obtain⟨z,E,p,D⟩:=f.list y;refine wpAny_pyIter_list p.isList ?_;refine#[g.heap.objs.size,[g.heap.objs.size],_,_,m,rfl,f.kept (t':=g.toks) λb o e=>aD _ e,aDj a _,#[_,aW _ rfl,rfl,rfl],λb r=>?_,q];have e:b=g.heap.objs.size:=by simpa using r
 subst e;exact f.fpOk (aO _)<|f.hok.fresh<|aO _
def aVx(u:PE X l tl):PI X c l<|bJv X.K tl:=by
 intro i s C H R I h;refine dY (u i s C H _ I h) λv g j=>?_;obtain⟨x,m,f,B,A⟩:=j;obtain⟨a,e,⟨F,y⟩,q⟩:=A;subst e;cases B;obtain⟨z,E,p,D⟩:=f.tuple y;refine wpAny_pyIter_tuple (p) ?_;refine#[g.heap.objs.size,[g.heap.objs.size],_,_,m,rfl,f.kept (t':=g.toks) λb o e=>aD _ e,j4 a _,#[_,aW _ rfl,rfl,rfl],λb r=>?_,q];have e:b=g.heap.objs.size:=by simpa using r
 subst e;exact f.fpOk (aO _)<|f.hok.fresh<|aO _
def yU{g:gQ}{i:St}{H:Hp}{s:Shared}{R:It->Hp->Prop}{E:iE}{a f:Int}{t u v:Tok}{tk:Nat}(I:Inv X g i H s)(m : -(2^62)<=a)(p:a<2^62)(r : -(2^62)<=f)(y:f<2^62)
  (q:R (Itr a (f-a).toNat) H):wpAny `d X.A (pyIter `o) (PIE X g i c R) E { s with heap:=s.heap.push { cls:=.type "range",data:=.fields [.int a t,.int f u,.int 1 v].toArray },toks:=tk }:=by
 refine wpAny_pyIter_range (IsRange.new ..) (small_one m p r y) ?_;have h:Inv X g i H { s with heap:=s.heap.push { cls:=.type "range",data:=.fields [.int a t,.int f u,.int 1 v].toArray },toks:=tk }:=I.kept λb o e=>aD _ e;refine#[(s.heap.push { cls:=.type "range",data:=.fields [.int a t,.int f u,.int 1 v].toArray }).objs.size,[(s.heap.push { cls:=.type "range",data:=.fields [.int a t,.int f u,.int 1 v].toArray }).objs.size],_,_,H,rfl,
  h.kept (t':=tk) λb o e=>aD _ e,j5 _ a (f-a).toNat,?_,λb z=>?_,q]
 have j:a + ((0:Nat):Int) * 1=a:=by simp
 have l:(((f-a).toNat:Nat):Int)-((0:Nat):Int)=Builtin.Range.rangeSize a f 1:=by rw[rangeSize_one];split<;>lia
 show IsRangeIter _ _ (a+((0:Nat):Int)*1) ((((f-a).toNat:Nat):Int)-((0:Nat):Int)) 1;rw[j,l];exact aW _ rfl;have e:b=(s.heap.push { cls:=.type "range",data:=.fields [.int a t,.int f u,.int 1 v].toArray }).objs.size:=by simpa using z
 subst e;exact h.fpOk (aO _)<|h.hok.fresh<|aO _
def bEj(b:TA):TI:=λf H R=>b f H λe a=>∃j:Int,e=[.int j] /\ -(2^62)<=j/\j<2^62/\R (Itr 0 j.toNat) a
def bEi(b:TA):TI:=λf H R=>b f H λe a=>∃i j:Int,e=[.int i,.int j]/\(-(2^62)<=i/\i<2^62 /\ -(2^62)<=j/\j<2^62)/\R (Itr i (j-i).toNat) a
def aDw(l:Gl X "range")(m:X.mg "range" = none)(ha:PA X [a] ta)(o:starEach [a] X.env=[(false,eval a X.env)]:=by rfl):PI X c (.Call (.Name "range" p) [a] [] pos)<|bEj ta:=by
 intro f s z H R I h;refine Call_<|gq_ I l m boot_range<|cO (dY (ha pos f s z H _ I h) λC B g=>?_) o rfl;obtain⟨D,A,i,v,b⟩:=g;obtain⟨j,e,b,u,q⟩:=b;subst e;cases v with
 |cons r y => cases y;obtain⟨t,rfl⟩:=r;exact call_range_1<|yU i `b (W.kbt_pos 62) b u (by simpa using q)
def aDv(u:Gl X "range")(v:X.mg "range" = none)(ha:PA X [a,b] ta)(y:starEach [a,b] X.env=[(false,eval a X.env),(false,eval b X.env)]:=by rfl)(hs2:starEach [b] X.env=[(false,eval b X.env)]:=by rfl) :
  PI X c (.Call (.Name "range" p) [a,b] [] pos) (bEi ta):=by
 intro l s E H R I h;refine Call_<|gq_ I u v boot_range<|cO (dY (ha pos l s E H _ I h) λL G m=>?_) (by rw[y,hs2]) (by rw[hs2];rfl);obtain⟨M,F,o,D,f⟩:=m;obtain⟨i,j,e,⟨f,z,A,B⟩,q⟩:=f;subst e;cases D with
 |cons r g =>
  cases g with
  |cons C g => cases g;obtain⟨t,rfl⟩:=r;obtain⟨J,rfl⟩:=C;exact call_range_2<|yU o f z A B q
def bCk(p:TI)(g:TG)(o:TS):TS:=λD a H=>p a H λJ j=>∃W:Nat->Nat->St->Hp->Prop,(∃m,W 0 m a j)/\∀i m a H,W i m a H ->
 (J.stop i H/\D.nx a H)\/(J.go i H/\∃N:St->Hp->Prop,(∀e b,N e b->∃h,h<m/\W (i+1) h e b)/\∀x b,J.yld i H x b->g x a b λf l=>o { D with nx:=N,ct:=N,bk:=D.nx } f l)
def pP(fp:R9)(h:Heap):List<|Addr×Obj:=fp.filterMap λb=>(h.get? b).map λo=>(b,o)
def ga_(a:b∈fp)(e:h.get? b=some o):(b,o)∈pP fp h:=List.mem_filterMap.mpr #[b,a,by rw[e];rfl]
def aEc(g:p∈pP fp h):p.1∈fp/\h.get? p.1=some p.2:=by
 obtain⟨b,f,e⟩:=List.mem_filterMap.mp g;cases q:h.get? b with
 |none=>rw[q]at e;cases e
 |some o => rw[q]at e;have a:=ozI e;subst a;exact#[f,q]
def Inv.pinned(I:Inv X Aa g H s)(l:∀b∈fp,lE X Aa H b)(m:∀b∈fp,∃o,s.heap.get? b=some o/\∀v,o.data ≠ .cell v):Inv X (Aa++pP fp s.heap) g H s:=
 I.pins_of λp q=>(aV.mp q).elim (λz=>I.pin p<|aG _ z) λz=>by obtain⟨f,e⟩:=aEc z;obtain⟨h,i,j,_⟩:=l p.1 f;obtain⟨o,a,d⟩:=m p.1 f;rw[e]at a;cases a;exact#[e,h,i,j,d]
def Inv.unpinned(I:Inv X (Aa++pl) a H s):Inv X Aa a H s:=I.pins_of λp b=>I.pin p<|aG _<|aM _ b
def aVs(G:PassesOwn `d X.A X.env X.xe)(hc:X.calm=true)(hi:PI X c iter wi)(hg:PG X c g)(q:PSs X body tb)
  (hs:∀x,foldedSetIterable iter X.env x=pure x:=by intro _;rfl):PS X (.For c iter body [] pos)<|bCk wi g tb:=by
 intro E s σ H D I h;refine wpAny_For (dY (hi E s σ H _ I h) λv s1 h1=>dY h1 λa0 s2 h2=>?_) hs;obtain⟨it,fp,tn,J,H2,e,I2,T,G3,V,W,⟨m0,w0⟩,turn⟩:=h2;subst e;have y:∀{B:Hp},(∀b∈fp,B b=none)->∀b∈fp,lE X E B b:=λhn b q=>#[hn b q,(V b q).2];refine codeAny_forLoop_any (λn s'=>∃i z B,Inv X E z B s'/\tn i s'.heap/\(∀b∈fp,B b=none)/\W i n z B) ?_ m0 #[0,σ,H2,I2,G3,λb q=>(V b q).1,w0];rintro n s3 ⟨i,A,O,k,st3,t,w3⟩;rcases turn i n A O w3 with⟨M,qn⟩ | ⟨go,N,hN,step⟩
 refine wpAny_passesOwn G<|dY (T.done X rfl rfl rfl hc i E s3 A O X.xe k (y t) st3 M) fun r s4 F => ?_;obtain⟨S,I4⟩:=F;subst S;exact wpAny_execs_nil #[A,O,I4,qn]
 ·refine wpAny_passesOwn G<|dY (T.item X rfl rfl rfl hc i E s3 A O X.xe k (y t) st3 go) fun r s4 F => ?_;obtain⟨u,S,h4⟩:=F;subst S;refine wpAny_passesOwn G<|dY h4 λ_ s5 F=>?_;obtain⟨x,Z,I5,r5,y5,Q,N2⟩:=F;have R:=I5.pinned (y N2)<|T.obj _ _ Q;refine wpAny_passesOwn G<|dY (hg _ s5 A Z x u _ R r5<|step x Z y5) λ_ s6 F=>?_;obtain⟨Y,H6,I6,q6⟩:=F;refine wpAny_passesOwn G<|dY (q _ s6 Y H6 _ I6 q6) λf U C=>?_;have p:∀{a:St} {j:Hp},Inv X (E++pP fp s5.heap) a j U->N a j->∃m,m<n/\∃i z B,Inv X E z B U/\tn i U.heap/\(∀b∈fp,B b=none)/\W i m z B:=λ{a j} l L=>by obtain⟨m',hm,w7⟩:=hN a j L;refine#[m',hm,i+1,a,j,l.unpinned,T.keep _ _ _ Q λb q o e=>(l.pin (b,o)<|aG _<|aG _<|ga_ q e).1,λb q=>?_,w7];obtain⟨o,e,d⟩:=T.obj _ _ Q b q;exact(l.pin (b,o)<|aG _<|aG _<|ga_ q e).2.1
  cases f with
  |next=>obtain⟨a,j,l,L⟩:=C;exact p l L
  |cont=>obtain⟨a,j,l,L⟩:=C;exact p l L
  |brk=>obtain⟨a,j,l,C⟩:=C;exact#[a,j,l.unpinned,C]
  |ret v=>obtain⟨x7,a,j,l,r7,C⟩:=C;exact#[x7,a,j,l.unpinned,r7,C]
end
abbrev R2:=V->V->Hp->VK->Prop
def OpR(X:Cx)(f:Value->Value->Sem Value)(r:R2):Prop:=
 ∀(a:gQ) (s:Shared) (b:St) (H:Hp) (x y:V) (v u:Value) (Q:VK),Inv X a b H s->RelV x v->RelV y u->r x y H Q ->
  wpAny `d X.A (f v u) (EP X a b Q) X.xe s
def UnR(X:Cx)(f:Value->Sem Value)(r:V->Hp->VK->Prop):Prop:=
 ∀(a:gQ) (s:Shared) (b:St) (H:Hp) (x:V) (v:Value) (Q:VK),Inv X a b H s->RelV x v->r x H Q ->
  wpAny `d X.A (f v) (EP X a b Q) X.xe s
def CallR(X:Cx)(f:Value)(r:Q1->Hp->VK->Prop):Prop:=
 ∀(a:gQ) (s:Shared) (e:St) (H:Hp) (c:Q1) (b:Q7) (Q:VK),Inv X a e H s->Vals c b->r c H Q ->
  wpAny `d X.A (call f b) (EP X a e Q) X.xe s
def bLb(X:Cx)(r:V->Hp->(Bool->Hp->Prop)->Prop):Prop:=
 ∀(a:gQ) (s:Shared) (b:St) (H:Hp) (x:V) (v:Value) (Q:Bool->Hp->Prop),Inv X a b H s->RelV x v->r x H Q ->
  wpAny `d X.A (truthy v) (TP X a b Q) X.xe s
def tOp(r:R2)(e f:TE):TE:=λa H Q=>e a H λx b=>f a b λy c=>r x y c Q
def tUn(r:V->Hp->VK->Prop)(b:TE):TE:=λc H Q=>b c H λx a=>r x a Q
def rI(C:Int->Int->Prop)(g:Int->Int->V):R2:=λx y H Q=>∃i j,x=.int i/\y=.int j/\C i j/\Q (g i j) H
def rI0(g:Int->Int->V):R2:=λx y H Q=>∃i j,x=.int i/\y=.int j/\Q (g i j) H
def rU(g:Int->V):V->Hp->VK->Prop:=λx H Q=>∃i,x=.int i/\Q (g i) H
section
variable{X:Cx}{a b c:Expr}{e m o:TE}{l:Pos}
def bAt(ha:PE X a e)(C:PE X b m){R:V->V->Hp->Prop}(I:Inv X Aa i H s)
  (h:e i H λx z=>m i z λy g=>R x y g) {f:Value->Value->Sem Value}
  (D:∀v u q x y g,Inv X Aa i g q->RelV x v->RelV y u->R x y g->wpAny `d X.A (f v u) Q X.xe q) :
  wpAny `d X.A (eval a X.env) (λv j=>wpAny `d X.A (eval b X.env) (λu p=>wpAny `d X.A (f v u) Q X.xe p) X.xe j) X.xe s:=by
 refine dY (ha Aa s i H _ I h) λv L r=>?_;obtain⟨x,z,A,G,E⟩:=r;refine dY (C Aa L i z _ A E) λu q r=>?_;obtain⟨y,g,B,J,F⟩:=r;exact D v u q x y g B G J F
def bDc(p:OpR X (binaryOp op) r)(ha:PE X a e)(j:PE X b m):PE X (.BinOp a op b l)<|tOp r e m:=by intro f s C H Q I h;exact wpAny_BinOp<|bAt ha j I h λv u B x y g i z A q=>p f B C g x y v u Q i z A q
def aSk(q:UnR X (unaryOp op) r)(ha:PE X a e):PE X (.UnaryOp op a l)<|tUn r e:=by intro f s g H Q I h;refine UnaryOp_<|dY (ha f s g H _ I h) λv z i=>?_;obtain⟨x,j,p,y,u⟩:=i;exact q f z g j x v Q p y u
def opI{f}{C}{g:Int->Int->Int}
  (p:∀(i j:Int) (t u:Tok) (s:Shared) (Q:iE) (E:iE),C i j->Q (.int (g i j) s.toks) { s with toks:=s.toks+1 }->wpAny `d X.A (f (.int i t)<|.int j u) Q E s) :
  OpR X f (rI C λi j=>.int<|g i j):=by
 intro D s F H x y v u Q I z A h;obtain⟨i,j,rfl,rfl,r,q⟩:=h;obtain⟨t,rfl⟩:=z;obtain⟨B,rfl⟩:=A;exact p i j t B s _ _ r #[.int<|g i j,H,I.tok _,`r,q]
def aWv{f}{g:Int->Int->Int}
  (p:∀(i j:Int) (t u:Tok) (s:Shared) (Q:iE) (E:iE),Q (.int (g i j) s.toks) { s with toks:=s.toks+1 }->wpAny `d X.A (f (.int i t)<|.int j u) Q E s) :
  OpR X f (rI0 λi j=>.int<|g i j):=by
 intro B s C H x y v u Q I r z h;obtain⟨i,j,rfl,rfl,q⟩:=h;obtain⟨t,rfl⟩:=r;obtain⟨A,rfl⟩:=z;exact p i j t A s _ _ #[.int<|g i j,H,I.tok _,`r,q]
def aPb{f}{g:Int->Int->Bool}
  (p:∀(i j:Int) (t u:Tok) (s:Shared) (Q:iE) (E:iE),Q (.bool<|g i j) s->wpAny `d X.A (f (.int i t)<|.int j u) Q E s) :
  OpR X f (rI0 λi j=>.bl<|g i j):=by
 intro B s C H x y v u Q I r z h;obtain⟨i,j,rfl,rfl,q⟩:=h;obtain⟨t,rfl⟩:=r;obtain⟨A,rfl⟩:=z;exact p i j t A s _ _ #[.bl<|g i j,H,I,rfl,q]
def aMo(i j:Int):Prop:=0<=j/\j<=1000000/\i.natAbs<2^64
def aWu:OpR X (binaryOp .Add)<|rI0 λi j=>.int<|i+j:=aWv λ_ _ _ _ _ _ _ q=>add_int q
def aWm:OpR X (binaryOp .Sub)<|rI0 λi j=>.int<|i-j:=aWv λ_ _ _ _ _ _ _ q=>sub_int q
def aWq:OpR X (binaryOp .Mod)<|rI (λ_ j=>0<j) λi j=>.int<|i%j:=opI λi j _ _ _ _ _ f q=>by have g:(0:Int)<j:=f;exact mod_int' `b (by rw[Int.fmod_eq_emod_of_nonneg i `b];exact q)
def aWp:OpR X (binaryOp .Pow)<|rI aMo λi j=>.int<|i^j.toNat:=opI λ_ _ _ _ _ _ _ f q=>pow_int_small f.1 f.2.1 f.2.2 q
def aWn:OpR X (binaryOp .LShift)<|rI aMo λi j=>.int<|i*2^j.toNat:=opI λ_ _ _ _ _ _ _ f q=>lshift_int_small f.1 f.2.1 f.2.2 q
def aWt:OpR X (binaryOp .BitAnd)<|rI0 λi j=>.int<|Builtin.bitAnd i j:=aWv λ_ _ _ _ _ _ _ q=>and_int q
def unI{f}{g:Int->Int}
  (j:∀(i:Int) (t:Tok) (s:Shared) (Q:iE) (E:iE),Q (.int (g i) s.toks) { s with toks:=s.toks+1 }->wpAny `d X.A (f<|.int i t) Q E s) :
  UnR X f (rU λi=>.int<|g i):=by
 intro r s u H x v Q I p h;obtain⟨i,rfl,q⟩:=h;obtain⟨t,rfl⟩:=p;exact j i t s _ _ #[.int<|g i,H,I.tok _,`r,q]
def aHg:UnR X (unaryOp .USub)<|rU λi=>.int<|-i:=unI λ_ _ _ _ _ q=>neg_int q
end
def aVe:V->V->Bool
 | .non,.non=>true | .non,.int _=>true | .int _,.non=>true | .non,.bl _=>true | .bl _,.non=>true | .non,.str _=>true | .str _,.non=>true
 | .int _,.int _=>true | .bl _,.bl _=>true | .str _,.str _=>true | .byt _,.byt _=>true
 | .int _,.str _=>true | .str _,.int _=>true | .bl _,.str _=>true | .str _,.bl _=>true
 |_,_=>false
def rEq:R2:=λx y H Q=>aVe x y=true/\Q (.bl<|decide (x=y)) H
def rNe:R2:=λx y H Q=>aVe x y=true/\Q (.bl<|!decide (x=y)) H
def aCm:decide (V.int i=V.int j)=(i == j):=by rw[dX];simp
def aMa:decide (V.bl i=V.bl j)=(i == j):=by rw[dX];simp
def aCl:decide (V.str i=V.str j)=(i == j):=by rw[dX];simp
def aCn:decide (V.byt i=V.byt j)=(i.toList == j.toList):=by rw[dX];cases i;cases j;simp
section
variable{X:Cx}{a b c:Expr}{g l w:TE}{o:Pos}
def kS{Aa}{f:St}{H}{s}{Q}{k k'}(I:Inv X Aa f H s)(q:Q (.bl k) H)(e:k=k'):EP X Aa f Q (.bool k') s:=by subst e;exact#[.bl k,H,I,rfl,q]
def bDi:OpR X (compareOp .Eq) rEq:=by
 intro r s z H x y v u Q I p e h;obtain⟨m,q⟩:=h;cases x with
 |non =>
  cases p;cases y with
  |non=>cases e;exact PySem.EqNone.eq_none_none (kS I q `h)
  |bl j=>cases e;exact PySem.EqNone.eq_none_bool (kS I q `h)
  |int j=>obtain⟨f,rfl⟩:=e;exact PySem.EqNone.eq_none_int (kS I q `h)
  |str j=>obtain⟨f,rfl⟩:=e;exact PySem.EqNone.eq_none_str (kS I q `h)
  |_=>exact absurd (m) bJ
 |bl i =>
  cases p;cases y with
  |non=>cases e;exact PySem.EqNone.eq_bool_none (kS I q `h)
  |bl j=>cases e;exact eq_bool (kS I q aMa)
  |str j=>obtain⟨f,rfl⟩:=e;exact PySem.EqMixed.eq_bool_str (kS I q `h)
  |_=>exact absurd (m) bJ
 |int i =>
  obtain⟨t,rfl⟩:=p;cases y with
  |non=>cases e;exact PySem.EqNone.eq_int_none (kS I q `h)
  |int j=>obtain⟨f,rfl⟩:=e;exact eq_int (kS I q aCm)
  |str j=>obtain⟨f,rfl⟩:=e;exact PySem.EqMixed.eq_int_str (kS I q `h)
  |_=>exact absurd (m) bJ
 |str i =>
  obtain⟨t,rfl⟩:=p;cases y with
  |non=>cases e;exact PySem.EqNone.eq_str_none (kS I q `h)
  |bl j=>cases e;exact PySem.EqMixed.eq_str_bool (kS I q `h)
  |int j=>obtain⟨f,rfl⟩:=e;exact PySem.EqMixed.eq_str_int (kS I q `h)
  |str j=>obtain⟨f,rfl⟩:=e;exact eq_str (kS I q aCl)
  |_=>exact absurd (m) bJ
 |byt i =>
  obtain⟨t,rfl⟩:=p;cases y with
  |byt j=>obtain⟨f,rfl⟩:=e;exact PySem.W.eq_bytes (kS I q aCn)
  |_=>exact absurd (m) bJ
 |_=>cases y<;>exact absurd (show false=true from m) bJ
def bDh:OpR X (compareOp .NotEq) rNe:=by
 intro r s z H x y v u Q I p e h;obtain⟨m,q⟩:=h;cases x with
 |non =>
  cases p;cases y with
  |non=>cases e;exact PySem.EqNone.ne_none_none (kS I q `h)
  |bl j=>cases e;exact PySem.EqNone.ne_none_bool (kS I q `h)
  |int j=>obtain⟨f,rfl⟩:=e;exact PySem.EqNone.ne_none_int (kS I q `h)
  |str j=>obtain⟨f,rfl⟩:=e;exact PySem.EqNone.ne_none_str (kS I q `h)
  |_=>exact absurd (m) bJ
 |bl i =>
  cases p;cases y with
  |non=>cases e;exact PySem.EqNone.ne_bool_none (kS I q `h)
  |bl j=>cases e;exact ne_bool (kS I q<|congrArg not aMa)
  |str j=>obtain⟨f,rfl⟩:=e;exact PySem.EqMixed.ne_bool_str (kS I q `h)
  |_=>exact absurd (m) bJ
 |int i =>
  obtain⟨t,rfl⟩:=p;cases y with
  |non=>cases e;exact PySem.EqNone.ne_int_none (kS I q `h)
  |int j=>obtain⟨f,rfl⟩:=e;exact ne_int (kS I q<|congrArg not aCm)
  |str j=>obtain⟨f,rfl⟩:=e;exact PySem.EqMixed.ne_int_str (kS I q `h)
  |_=>exact absurd (m) bJ
 |str i =>
  obtain⟨t,rfl⟩:=p;cases y with
  |non=>cases e;exact PySem.EqNone.ne_str_none (kS I q `h)
  |bl j=>cases e;exact PySem.EqMixed.ne_str_bool (kS I q `h)
  |int j=>obtain⟨f,rfl⟩:=e;exact PySem.EqMixed.ne_str_int (kS I q `h)
  |str j=>obtain⟨f,rfl⟩:=e;exact ne_str (kS I q<|congrArg not aCl)
  |_=>exact absurd (m) bJ
 |byt i =>
  obtain⟨t,rfl⟩:=p;cases y with
  |byt j=>obtain⟨f,rfl⟩:=e;exact PySem.W.ne_bytes (kS I q<|congrArg not aCn)
  |_=>exact absurd (m) bJ
 |_=>cases y<;>exact absurd (show false=true from m) bJ
def kl_:OpR X (compareOp .Lt)<|rI0 λi j=>.bl<|decide (i<j):=aPb λ_ _ _ _ _ _ _ q=>lt_int q
def lL:OpR X (compareOp .LtE)<|rI0 λi j=>.bl<|decide (i<=j):=aPb λ_ _ _ _ _ _ _ q=>le_int q
def aAv:OpR X (compareOp .Gt)<|rI0 λi j=>.bl<|decide (j<i):=aPb λ_ _ _ _ _ _ _ q=>gt_int q
def aSn:OpR X (compareOp .GtE)<|rI0 λi j=>.bl<|decide (j<=i):=aPb λ_ _ _ _ _ _ _ q=>ge_int q
def aEa:OpR X (compareOp .In) (λx y H Q=>∃i j,x=.str i/\y=.str j/\Q (.bl<|!(Builtin.Str.occurrences j i 0 j.length 1).isEmpty) H):=by intro m s r H x y v u Q I e f h;obtain⟨i,j,rfl,rfl,q⟩:=h;obtain⟨t,rfl⟩:=e;obtain⟨p,rfl⟩:=f;exact in_str<|kS I q rfl
def aWr:OpR X (compareOp .Is)<|λx y H Q=>y=.non/\Q (.bl<|decide (x=.non)) H:=by
 intro i s j H x y v u Q I e f h;obtain⟨rfl,q⟩:=h;cases f;refine is_none_gen<|kS I q ?_;cases x<;>first
  |(cases e;rfl)
  |(obtain⟨t,rfl⟩:=e;rfl)
def aOy:OpR X (compareOp .IsNot)<|λx y H Q=>y=.non/\Q (.bl<|!decide (x=.non)) H:=by
 intro i s j H x y v u Q I e f h;obtain⟨rfl,q⟩:=h;cases f;refine isnot_none_gen<|kS I q ?_;cases x<;>first
  |(cases e;rfl)
  |(obtain⟨t,rfl⟩:=e;rfl)
def OpR.or(h:OpR X f r)(h':OpR X f i):OpR X f<|λx y H Q=>r x y H Q\/i x y H Q:=by
 intro e s p H x y v u Q I j m q;rcases q with q | q
 exact h e s p H x y v u Q I j m q;exact h' e s p H x y v u Q I j m q
def cP(b:Expr)(h:op ≠ .In:=by decide)(i:op ≠ .NotIn:=by decide):behindInMarks op b=false:=by
 have e:(op == CmpOp.In)=false:=by grind
 have f:(op == CmpOp.NotIn)=false:=by grind
 cases b<;>simp[behindInMarks,e,f]
def aAo(p:OpR X (compareOp op) r)(ha:PE X a g)(j:PE X b l)(m:behindInMarks op b=false):PE X (.Compare a [op] [b] o)<|tOp r g l:=by intro e s C H Q I h;exact wpAny_Compare1 (bAt ha j I h λv u B x y f i z A q=>p e B C f x y v u Q i z A q) m
def aHk(t:TE):TT:=λf H Q=>t f H λx e=>∃k,x=.bl k/\Q k e
def vH(E:OpR X (compareOp op) r)(ha:PE X a g)(C:PE X b l)(D:behindInMarks op b=false):PT X (.Compare a [op] [b] o)<|aHk<|tOp r g l:=by intro f s i H Q I h;refine wpAny_isTrue_Compare1 (dY (ha f s i H _ I h) λv O ⟨x,j,q,L,F⟩=>dY (C f O i j _ q F) λu R ⟨y,m,A,M,G⟩ => dY (E f R i m x y v u _ A L M G) λc S ⟨z,p,B,N,k,e,J⟩=>?_) D;subst e;cases N;exact wpAny_truthy_bool #[p,B,J]
def j6(r m:R2)(g l w:TE):TE:=λe H Q=>g e H λx h=>l e h λy i=>r x y i λz f=>∃k,z=.bl k /\
 (if k=true then w e f λp j=>m y p j Q else Q (.bl false) f)
def aJa(N:OpR X (compareOp op) r)(A:OpR X (compareOp op') r')(ha:PE X a g)(J:PE X b l)(L:PE X c w)
  (M:lastMarks [op,op'] [b,c]=false:=by with_unfolding_all rfl):PE X (.Compare a [op,op'] [b,c] o)<|j6 r r' g l w:=by
 intro f s i H Q I h;refine Compare_chain (dY (ha f s i H _ I h) λv Y ⟨x,B,E,T,O⟩=>chain_link<|dY (J f Y i B _ E O) λu Z ⟨y,C,F,q,R⟩ => dY (N f Z i C x y v u _ F T q R) λd n ⟨z,j,m,U,k,e,p⟩=>?_) M;subst e;cases U;refine wpAny_truthy_bool ?_;cases k with
 |false=>exact ite_ff #[.bl false,j,m,rfl,p]
 |true=>exact ite_tt<|chain_last<|dY (L f n i j _ m p) λV t ⟨z',D,G,W,S⟩=>A f t i D y z' u V Q G q W S
def aIl(W:OpR X (compareOp op) r)(C:OpR X (compareOp op') r')(ha:PE X a g)(S:PE X b l)(T:PE X c w)
  (U:lastMarks [op,op'] [b,c]=false:=by with_unfolding_all rfl):PT X (.Compare a [op,op'] [b,c] o)<|aHk<|j6 r r' g l w:=by
 intro f s i H Q I h;refine isTrue_chain (dY (ha f s i H _ I h) λv s1 ⟨x,D,J,r1,Z⟩=>test_link<|dY (S f s1 i D _ J Z) λu s2 ⟨y,E,L,q,n⟩ => dY (W f s2 i E x y v u _ L r1 q n) λd s3 ⟨z,j,m,r3,k,e,p⟩=>?_) U;subst e;cases r3;refine wpAny_truthy_bool ?_;cases k with
 |false => obtain⟨k',O,Y⟩:=p;cases O;exact ite_ff #[j,m,Y]
 |true => refine ite_tt<|test_last<|dY (T f s3 i j _ m p) λw' s4 A=>?_;obtain⟨z',F,M,r4,t⟩:=A;refine dY (C f s4 i F y z' u w' _ M q r4 t) λd' s5 B=>?_;obtain⟨z2,G,N,r5,k2,R,V⟩:=B;subst R;cases r5;exact wpAny_truthy_bool #[G,N,V]
def bGa(K:dN)(x:V)(H:Hp)(k:Bool):Prop:=
 match x with
 | .non=>k=false
 | .bl b=>k=b
 | .int i=>k=(i != 0)
 | .str y=>y.length<=sizeLine/\k=((y.length:Int) != 0)
 | .byt y=>y.size<=sizeLine/\k=((y.size:Int) != 0)
 | .ref p=>(∃f,SqL K H p f/\k = !f.isEmpty)\/(∃f,SqT K H p f/\k = !f.isEmpty)\/∃e,H p=some (.dK e)/\k = !e.isEmpty
 |_=>False
def o9{kvs:List<|κ×V}(r:KV kvs vs):(!vs.isEmpty) = !kvs.isEmpty:=by cases r<;>rfl
def qF(r:Vals xs its):(!its.toArray.isEmpty) = !xs.isEmpty:=by cases r<;>simp
def mB:(sizeLine:Nat)<2^63:=by rw[sizeLine_eq];decide
def aUm:bLb X (λx H Q=>∃k,bGa X.K x H k/\Q k H):=by
 intro L s N H x v Q I j h;obtain⟨k,e,q⟩:=h;have M:=sizeLine_eq;cases x with
 |non => cases j;have f:=e;subst f;exact truthy_none #[H,I,q]
 |bl b => cases j;have f:=e;subst f;exact wpAny_truthy_bool #[H,I,q]
 |int i => obtain⟨t,rfl⟩:=j;have f:=e;subst f;exact PySem.P.truthy_int #[H,I,q]
 |str y => obtain⟨t,rfl⟩:=j;obtain⟨G,f⟩:y.length<=sizeLine/\k=((y.length:Int) != 0):=e;subst f;exact PySem.P.truthy_str `b #[H,I.tok _,q]
 |byt y => obtain⟨t,rfl⟩:=j;obtain⟨G,f⟩:y.size<=sizeLine/\k=((y.size:Int) != 0):=e;subst f;exact PySem.W.truthy_bytes `b #[H,I.tok _,q]
 |ref p =>
  cases j;have f:=e;rcases f with⟨J,u,f⟩ | ⟨J,u,f⟩ | ⟨z,u,f⟩
  subst f;obtain⟨A,r,B,E⟩:=I.list u;have D:=r.length;exact wpAny_truthy_list B.isList (by simp only[aS];lia) #[H,I.tok _,by rw[qF r];exact q];subst f;obtain⟨A,r,B,E⟩:=I.tuple u;have D:=r.length;exact truthy_tuple B (by simp only[aS];lia) #[H,I.tok _,by rw[qF r];exact q];subst f;obtain⟨E,F,C,r,m⟩:z.length<=sizeLine/\(p == sysModules)=false/\∃C,KV z C/\s.heap.DictOf (cN X.prog X.w) p C:=I.hok p _ u;have D:=Paired.length r;exact wpAny_truthy_dict F m `b #[H,I.tok _,by rw[o9 r];exact q]
 |_=>exact(e).elim
def aIk(ha:PE X a g)(r:∀e,isTrue a X.env e=(do let v <-e;standAt a.pos;holding [v] (truthy v))) :
  PT X a (λf H Q=>g f H λx j=>∃k,bGa X.K x j k/\Q k j):=by
 intro i s f H Q I h;refine isTrue_plain (dY (ha i s f H _ I h) λv z m=>?_)<|r _;obtain⟨x,p,q,y,u⟩:=m;exact aUm i z f p x v Q q y u
def m9:OpR X (binaryOp .Add) (λx y H Q=>∃i j,x=.str i/\y=.str j/\i.length+j.length<=sizeLine/\Q (.str<|i++j) H):=by intro r s z H x y v u Q I f m h;obtain⟨i,j,rfl,rfl,e,q⟩:=h;obtain⟨t,rfl⟩:=f;obtain⟨p,rfl⟩:=m;exact add_str (λp tk=>#[.str<|i++j,H,I.tok _,`r,q]) e
def jK(r:Vals [x] us):∃u,us=[u]/\RelV x u:=by
 cases r with
 |cons e f=>cases f;exact#[_,rfl,e]
def aHe(r:Vals [x,y] us):∃u e,us=[u,e]/\RelV x u/\RelV y e:=by
 cases r with
 |cons f h =>
  cases h with
  |cons i j=>cases j;exact#[_,_,rfl,f,i]
def lj_(f:X.calm=true):CallR X (.builtin "max") (λxs H Q=>∃i j,xs=[.int i,.int j]/\Q (.int (if j>i then j else i)) H):=by intro m s A H xs y Q I r h;obtain⟨i,j,rfl,q⟩:=h;obtain⟨u,z,rfl,⟨t,rfl⟩,⟨v,rfl⟩⟩:=aHe r;refine max_two_ints (I.ok.hd f) λp tk k=>#[_,H,I.kept k,?_,q];by_cases e:j>i;rw[if_pos e,if_pos e];exact`r;rw[if_neg e,if_neg e];exact`r
def tV(f:X.calm=true):CallR X (.builtin "min") (λxs H Q=>∃i j,xs=[.int i,.int j]/\Q (.int (if j<i then j else i)) H):=by intro m s A H xs y Q I r h;obtain⟨i,j,rfl,q⟩:=h;obtain⟨u,z,rfl,⟨t,rfl⟩,⟨v,rfl⟩⟩:=aHe r;refine min_two_ints (I.ok.hd f) λp tk k=>#[_,H,I.kept k,?_,q];by_cases e:j<i;rw[if_pos e,if_pos e];exact`r;rw[if_neg e,if_neg e];exact`r
end
structure ObjM(h:Heap)(x dx C:Addr)(mA:mH):Prop where
 obj:h.get? x=some (PySem.W.instObj C dx)
 ns:h.Ns1 dx mA
 ne:dx≠x
def aEk{h:Heap}(n:h.Ns1 dx mA):∃f,h.get? dx=some f/\∀b,PySem.W.lookIn b f=some (mA b):=by
 obtain⟨o,c,s,p,j,l,_,m⟩:=n;refine#[o,p,λb=>?_];have e:=m b;unfold nsFind findBy at e;rw[<-Array.find?_toList]at e;unfold PySem.W.lookIn;rw[j];dsimp only;split;grind;rename_i q;rw[q]at e;have a:c.toList.any (·.refKey)=false:=by rw[List.any_eq_false];intro y r;obtain⟨z,t,g⟩:=l y<|Array.mem_toList_iff.mp r;simp[DictEntry.refKey,g]
 have i:¬c.toList.any (·.refKey)=true:=by grind
 rw[if_neg i];exact congrArg some e
def ObjM.look(I:ObjM h x dx C mA):∃b,PySem.W.InstAt h x (PySem.W.instObj C dx) C (some b)/\∀a,PySem.W.lookIn a b=some (mA a):=
 let ⟨b,ho,hl⟩:=aEk I.ns
 #[b,#[I.obj,rfl,rfl,ho],hl]
section
variable{prog:Program}{w:World}{A:Around}{E:iE}{s:Shared}{K:dN}{x e C f:Addr}{c:mH}{a:Str}{v:Value}
def aQj{expr}{Q}(X:K.In s.heap)(I:ObjM s.heap x e C c)(g:PySem.W.plainGet K C a=true)(i:PySem.W.hasDictIn K C=true)
  (ha:PySem.W.findIn K (.ref C) a=some none) (hv:c a=some v) (b:PySem.W.handedIn v=true) (h:Q v { s with toks:=s.toks+1 }) :
  wpAny `f A (getAttr (.ref x) a expr) Q E s:=by
 obtain⟨l,J,j⟩:=I.look;exact PySem.W.get_value X J (PySem.W.plainGet_of g).1 (PySem.W.findObj_own i ha rfl<|by rw[j,hv]) b h
def aLf{pl}{Q}(X:K.In s.heap)(I:ObjM s.heap x e C c)(b:PySem.W.plainGet K C a=true)
  (g:PySem.W.findIn K (.ref C) a=some (some<|.ref f)) (j:PySem.W.isFn K (.ref f)=true) (hv:c a=none) (h:Q (.ref f,[.ref x]) s) :
  wpAny `f A (getMethod (.ref x) a pl) Q E s:=by
 obtain⟨l,J,i⟩:=I.look;exact PySem.W.method_fn X J (PySem.W.plainGet_of b).1 (PySem.W.plainGet_of b).2 g (beq_iff_eq.mp j) (by show(PySem.W.lookIn a l).map (·.isSome)=some false;rw[i,hv];rfl) h
def aOa{ns}{Q}(X:K.In s.heap)(I:ObjM s.heap x e C c)
  (B:PySem.W.findIn K (.ref C) "__setattr__" = some (some<|.builtin "object.__setattr__")) (z:PySem.W.plainOver K C=true) (D:PySem.W.takerIn K C a=some none) (u:PySem.W.hasDictIn K C=true)
  (F:PySem.Within c ns) (hsz:ns.length<=sizeLine)
  (h:∀h',ObjM h' x e C (λy=>if y=a then some v else c y)->Heap.SameBut e s.heap h'->Q () { s with heap:=h',toks:=s.toks+2 }) :
  wpAny `f A (setAttr (.ref x) a v) Q E s:=by
 obtain⟨N,J,L⟩:=I.look;refine PySem.W.set_plain X J B<|PySem.W.osa_open (r:=none) X J z D λb=>?_;obtain⟨H,q,m⟩:=PySem.W.any_some u;have G:=I.obj;refine wpAny_bind<|wpAny_pure<|wpAny_bind<|wpAny_bind<|wpAny_loadPart G<|wpAny_bind<|PySem.W.Looks.here (PySem.W.looks_clsIn X q) ?_;rw[m];refine wpAny_pure<|wpAny_bind<|wpAny_pure<|wpAny_bind ?_;refine wpAny_nsSet1 I.ns λh' l hs2=>?_;obtain⟨M,p,o,j,i,g⟩:=l.count<|PySem.Within.cons a v F;refine wpAny_bind<|wpAny_lookBehind j (by rw[i];exact pastItsLine_dict<|nzL g (by rw[aL];exact fW hsz 1)) ?_;exact wpAny_pure<|h _ #[(hs2.2 _<|Ne.symm I.ne).trans I.obj,l,I.ne] hs2
def aKc(X:K.In s.heap)(m:PySem.W.makesIn K C=true)
  (l:PySem.W.findIn K (.ref C) "__init__" = some (some<|.ref f)) (j:PySem.W.typeIn K (.ref f)=some (.type "function"))
  (h:codeAny `f (A.under<|.builtin "type.__call__" #[.ref C :: vs,i]) (.call (.ref f) #[.ref (s.heap.objs.size + 1) :: vs,i]) (PySem.W.InitBack (s.heap.objs.size + 1) R)
   { s with heap:=(s.heap.push PySem.W.emptyDict).push (PySem.W.instObj C s.heap.objs.size) }) :
  codeAny `f A (.call (.ref C) #[vs,i]) R s:=by
 obtain⟨o,g,d,t,p⟩:=s;exact PySem.W.make_core (PySem.W.makes_of X m) (PySem.W.looks_findIn X l) (λb=>PySem.W.bind_fn X b j) (.inl rfl) h
end
def iP(f:Str)(v:V):S7->S7
 | []=>[(f,v)]
 |(g,x)::r=>if g=f then(g,v)::r else(g,x)::iP f v r
def kp_(f g:Str)(v:V):∀fs:S7,(iP f v fs).lookup g=if g=f then some v else fs.lookup g
 | []=>by show List.lookup g [(f,v)]=_;by_cases h:g=f;grind;grind
 |(k,x)::r=>by have b:=kp_ f g v r;rw[show iP f v ((k,x)::r)=(if k=f then(k,v)::r else(k,x)::iP f v r)from rfl];by_cases a:k=f;grind;grind
def kw_(f:Str)(v:V):∀fs:S7,f∈(iP f v fs).map (·.1)/\∀g,g∈fs.map (·.1)->g∈(iP f v fs).map (·.1)
 | []=>#[by simp[iP],λg h=>by simp at h]
 |(k,x)::r=>by obtain⟨b,c⟩:=kw_ f v r;rw[show iP f v ((k,x)::r)=(if k=f then(k,v)::r else(k,x)::iP f v r)from rfl];by_cases a:k=f;rw [if_pos a];subst a;exact#[List.mem_of_mem_head? rfl,λg h=>by simpa using h];grind
def ks_(f:Str)(v:V):∀fs:S7,(iP f v fs).length<=fs.length+1
 | []=>by exact iO (iP f v []).length [].length
 |(k,x)::r=>by have b:=ks_ f v r;rw[show iP f v ((k,x)::r)=(if k=f then(k,v)::r else(k,x)::iP f v r)from rfl];by_cases a:k=f;rw[if_pos a,aL,aL];exact eF (r.length+1) 1;rw[if_neg a,aL,aL];exact fW b 1
def RelO.some_of(r:RelO (some v) o):∃u,o=some u/\RelV v u:=by
 cases o with
 |none=>exact(r).elim
 |some u=>exact#[u,rfl,r]
def RelO.none_of(r:RelO none o):o=none:=by
 cases o with
 |none=>rfl
 |some u=>exact(r).elim
def aEx(r:RelV v u):PySem.W.handedIn u=true:=by
 cases v with
 |non=>cases(r);rfl
 |bl b=>cases(r);rfl
 |int i=>obtain⟨t,e⟩:=(r);cases e;rfl
 |str x=>obtain⟨t,e⟩:=(r);cases e;rfl
 |byt b=>obtain⟨t,e⟩:=(r);cases e;rfl
 |flt b=>obtain⟨t,e⟩:=(r);cases e;rfl
 |ref a=>cases(r);rfl
 |ty n=>cases(r);rfl
section
variable{P:Program}{w:World}{H g:Hp}{h h':Heap}{a C b:Addr}{fs c:S7}
def nJ(j:HOk P w H h)(e:H a=some (.ins C b fs)):∃i,ObjM h a b C i/\(∀f,RelO (fs.lookup f)<|i f)/\PySem.Within i (fs.map (·.1))/\fs.length<=1000/\H b=some (.own a):=by obtain⟨d,z,l,ob,i,n,r,q⟩:=(j a _ e);exact#[i,#[ob,n,l],r,q,z,d]
end
structure Cls(K:dN)(C:Addr):Prop where
 pg:PySem.W.plainGet K C Str.empty=true
 hd:PySem.W.hasDictIn K C=true
 po:PySem.W.plainOver K C=true
 sa:PySem.W.findIn K (.ref C) "__setattr__" = some (some (.builtin "object.__setattr__"))
def Cls.get(c:Cls K C)(f:Str):PySem.W.plainGet K C f=true:=c.pg
def NoAttr(K:dN)(C:Addr)(f:Str):Prop:=PySem.W.findIn K (.ref C) f=some none
def NoAttr.taker(n:NoAttr K C f):PySem.W.takerIn K C f=some none:=by unfold PySem.W.takerIn;rw[show PySem.W.findIn K (.ref C) f=some none from n];rfl
structure Meth(K:dN)(C:Addr)(m:Str)(f:Addr):Prop where
 at_:PySem.W.findIn K (.ref C) m=some (some (.ref f))
 fn:PySem.W.isFn K (.ref f)=true
 kp:PySem.W.keepIn K (.ref f)=true
section
variable{X:Cx}{j:gQ}{i:St}{H:Hp}{s:Shared}{a C p:Addr}{fs:S7}{f:Str}{v:V}{A:Around}{E:iE}
def p_(I:Inv X j i H s)(e:H a=some (.ins C p fs))(c:Cls X.K C)(n:NoAttr X.K C f)(l:fs.lookup f=some v)
  (h:∀u m,Inv X j i H m->RelV v u->Q u m):wpAny `d A (getAttr `i f b) Q E s:=by
 obtain⟨y,O,r,_,_,_⟩:=nJ I.hok e;obtain⟨u,q,g⟩:=RelO.some_of (v:=v) (o:=y f) (by rw[<-l];exact r f);exact aQj I.kIn O (c.get f) c.hd n q (aEx g)<|h u _ (I.tok _) g
def p9{m}{g}{pl}{Q}(I:Inv X j i H s)(e:H a=some (.ins C p fs))(c:Cls X.K C)(k:Meth X.K C m g)(l:fs.lookup m=none)
  (h:Q (.ref g,[.ref a]) s):wpAny `d A (getMethod `i m pl) Q E s:=by
 obtain⟨o,O,r,_,_,_⟩:=nJ I.hok e;have b:=RelO.none_of (by rw[<-l];exact r m);exact aLf I.kIn O (c.get m) k.at_ k.fn b h
def k8{y:V}{u}{Q}(I:Inv X j i H s)(e:H a=some (.ins C p fs))(c:Cls X.K C)(n:NoAttr X.K C f)(M:fs.length<1000)(S:RelV y u)
  (h:∀B,Inv X j i (upd H a<|.ins C p<|iP f y fs) B->Q () B):wpAny `d A (setAttr `i f u) Q E s:=by
 obtain⟨R,O,r,D,_,m⟩:=nJ I.hok e;have N:(fs.map (·.1)).length<=sizeLine:=by rw[aB,sizeLine_eq];lia
 refine aOa I.kIn O c.sa c.po n.taker c.hd D N λF l T=>h _ ?_;have J:∃o,F.get? p=some o:=let ⟨o,_,_,e',_⟩:=l.ns;#[o,e'];refine I.write (x:=a) (e:=p) (by rw[e];exact True.intro) (.inr m) (λb q G z=>(T.2 b G).trans z) J ?_;refine#[by rw[eT O.ne];exact m,?_,O.ne,l.obj,_,l.ns,λg=>?_,λg L=>?_];have:=ks_ f y fs;exact nzL this M;rw [kp_];by_cases q:g=f;rw[if_pos q,if_pos q];exact S;rw[if_neg q,if_neg q];exact r g;by_cases q:g=f;rw[q];exact(kw_ f y fs).1;refine (kw_ f y fs).2 g<|D g fun z=>L ?_;show(if g=f then some u else R g)=none;rw[if_neg q];exact z
def Inv.made(I:Inv X j i H s):Inv X j i (upd (upd H s.heap.objs.size<|.own `n) `n (.ins C s.heap.objs.size []))
  { s with heap:=(s.heap.push PySem.W.emptyDict).push (PySem.W.instObj C s.heap.objs.size) }:=by
 have c:(s.heap.push PySem.W.emptyDict).get? s.heap.objs.size=some PySem.W.emptyDict:=aW s.heap rfl;have l:((s.heap.push PySem.W.emptyDict).push<|PySem.W.instObj C s.heap.objs.size).get? `n=some (PySem.W.instObj C s.heap.objs.size):=by have:=aW (s.heap.push PySem.W.emptyDict) (o:=PySem.W.instObj C s.heap.objs.size) rfl;rwa [cK]at this
 have m:(s.heap.push PySem.W.emptyDict).Ns s.heap.objs.size<|λ_=>none:=#[PySem.W.emptyDict,[].toArray,_,c,rfl,(λe r=>absurd r `h),λ_=>rfl];have h:=I.laid (a:=s.heap.objs.size) (o:=.own `n) (h':=s.heap.push PySem.W.emptyDict) (t':=s.toks) (λb u q=>aD _ q) (aO _) #[_,c];refine h.laid (a:=s.heap.objs.size+1) (o:=.ins C s.heap.objs.size []) (t':=s.toks) (λb u q=>aD _ q) (jA<|cK _ _) ?_;have g:s.heap.objs.size≠s.heap.objs.size+1:=bF<|Nat.lt_succ_self _;refine#[by rw[eT g,bZ],bL _,g,l,λ_=>none,(Heap.Ns1.of_empty m).at λo q=>aD _ q,λ_=>True.intro,λy z=>absurd rfl z]
def aRl(g:attributeBase e f env (eval e env)=eval e env)
  (h:wpAny `f A (eval e env) (λo b=>wpAny `f A (getAttr o f true) Q E b) E s):wpAny `f A (eval (.Attribute e f c) env) Q E s:=
 Attribute_any_ h (by rw[arm_eval_Attribute,g])
end
def bCl(K:dN)(e:TE)(f:Str):TE:=λg H Q=>e g H λx b=>∃a C c fs v,x=.ref a/\b a=some (.ins C c fs)/\Cls K C/\NoAttr K C f/\fs.lookup f=some v/\Q v b
def bIk(K:dN)(h i:TE)(f:Str):TS:=λD b H=>i b H λy g=>h b g λx c=>∃a C e fs,x=.ref a/\c a=some (.ins C e fs)/\Cls K C/\NoAttr K C f/\fs.length<1000 /\
 D.nx b (upd c a<|.ins C e<|iP f y fs)
section
variable{X:Cx}{o e b:Expr}{f:Str}{i g p:Pos}{j m:TE}
def pR(F:PE X e j)(E:attributeBase e f X.env (eval e X.env)=eval e X.env):PE X (.Attribute e f i)<|bCl X.K j f:=by intro r s L H Q I h;refine aRl E<|dY (F r s L H _ I h) λu N y=>?_;obtain⟨x,z,A,J,a,C,M,fs,v,ex,D,c,n,l,q⟩:=y;subst ex;obtain rfl:u=Value.ref a:=J;exact p_ A D c n l λR O B G=>#[v,z,B,G,q]
def aIo(ha:PE X o j)(hv:PE X b m)(L:swapsWith b (some<|.Attribute o f g) i.line X.env=pure false):PS X (.Assign [.Attribute o f g] b i)<|bIk X.K j m f:=by intro v s r H D I h;refine plainObj_wpAny_Assign_Attribute (dY (hv v s r H _ I h) λu R z=>?_) L;obtain⟨y,B,E,Q,q⟩:=z;refine dY (ha v R r B _ E q) λM U A=>?_;obtain⟨x,S,F,O,a,C,T,fs,ex,J,c,n,l,N⟩:=A;subst ex;obtain rfl:M=Value.ref a:=O;exact k8 F J c n l Q λW G=>#[r,_,G,N]
end
section
variable{X:Cx}{g:gQ}{f:St}{H:Hp}{s:Shared}{A:Around}{E:iE}{Q:iE}{c:Value}{b:Bool}
inductive TyOf(K:dN)(H:Hp):V->Value->Prop where
 |non:TyOf K H .non (.type "NoneType")
 |bl (x:Bool):TyOf K H (.bl x) (.type "bool")
 |int (i:Int):TyOf K H (.int i) (.type "int")
 |str (x:Str):TyOf K H (.str x) (.type "str")
 |flt (x:UInt64):TyOf K H (.flt x) (.type "float")
 |lst {a:Addr} {xs:Q1} (e:H a=some (.lst xs)):TyOf K H (.ref a) (.type "list")
 |frz {a:Addr} {o:Obj} {xs:Q1} (e:H a=some (.frz o (.lst xs))):TyOf K H (.ref a) (.type "list")
 |tup {a:Addr} {xs:Q1} (e:H a=some (.tup xs)):TyOf K H (.ref a) (.type "tuple")
 |dK {a:Addr} {kvs:S9} (e:H a=some (.dK kvs)):TyOf K H (.ref a) (.type "dict")
 |dT {a:Addr} {kvs:List (List Key×V)} (e:H a=some (.dT kvs)):TyOf K H (.ref a) (.type "dict")
 | ins {a C dx : Addr} {fs : List (Str × V)} (e : H a = some (.ins C dx fs)) (cl : Cls K C) (ha : PySem.W.findIn K (.ref C) "__class__" = some (some (.builtin "object.__class__")))
   (hn:PySem.W.specialIn K (.builtin "object.__class__") "__get__" = some (some (.builtin "getset_descriptor.__get__"))) (Ou:PySem.W.takesIn K (.builtin "object.__class__")=some true)
   (hm:PySem.W.mroIn K C (.type "object")=some true):TyOf K H (.ref a) (.ref C)
def dt_{x:V}{u t:Value}(I:Inv X g f H s)(j:RelV x u)(ty:TyOf X.K H x t)(e:PySem.W.kitOne X.K t c=some b)(h:∀tk,Q (.bool b) { s with toks:=tk }) :
  wpAny `d A (call (.builtin "isinstance") [u,c]) Q E s:=by
 cases ty with
 |non=>cases(show u=Value.none from j);exact PySem.W.kia_one PySem.W.kitx_none I.kIn True.intro e (λz=>nomatch z) h
 |bl y=>cases(show u=Value.bool y from j);exact PySem.W.kia_one PySem.W.kitx_bool I.kIn True.intro e (λz=>nomatch z) h
 |int i=>obtain⟨t,q⟩:=(show ∃t,u=Value.int i t from j);cases q;exact PySem.W.kia_one PySem.W.kitx_int I.kIn True.intro e (λz=>nomatch z) h
 |str y=>obtain⟨t,q⟩:=(show ∃t,u=Value.str y t from j);cases q;exact PySem.W.kia_one PySem.W.kitx_str I.kIn True.intro e (λz=>nomatch z) h
 |flt y=>obtain⟨t,q⟩:=(show ∃t,u=Value.float y t from j);cases q;exact PySem.W.kia_one PySem.W.kitx_float I.kIn True.intro e (λz=>nomatch z) h
 | @lst a m ea => cases(show u=Value.ref a from j);obtain⟨_,_,n,_,l⟩:=(show ObjOk X.prog X.w H s.heap a (.lst m)from I.hok a _ ea);exact PySem.W.kia_one PySem.W.kitx_list I.kIn #[_,l,rfl] e (λz=>nomatch z) h
 | @frz a ob m ea => cases(show u=Value.ref a from j);obtain⟨_,_,_,n,_,l⟩:=(show ObjOk X.prog X.w H s.heap a (.frz ob<|.lst m)from I.hok a _ ea);exact PySem.W.kia_one PySem.W.kitx_list I.kIn #[_,l,rfl] e (λz=>nomatch z) h
 | @tup a m ea => cases(show u=Value.ref a from j);obtain⟨_,_,_,p⟩:=(show ObjOk X.prog X.w H s.heap a (.tup m)from I.hok a _ ea);obtain⟨o,l,r,_⟩:=p;exact PySem.W.kia_one PySem.W.kitx_tuple I.kIn #[o,l,r] e (λz=>nomatch z) h
 | @dK a kvs ea => cases(show u=Value.ref a from j);obtain⟨_,_,G,_,p⟩:=(show ObjOk X.prog X.w H s.heap a (.dK kvs)from I.hok a _ ea);obtain⟨o,B,v,l,r,_⟩:=p;exact PySem.W.kia_one PySem.W.kitx_dict I.kIn #[o,l,r.1] e (λz=>nomatch z) h
 | @dT a kvs ea => cases(show u=Value.ref a from j);obtain⟨_,_,m,_,o,B,v,l,r,_⟩:=(show ObjOk X.prog X.w H s.heap a (.dT kvs)from I.hok a _ ea);exact PySem.W.kia_one PySem.W.kitx_dict I.kIn #[o,l,r.1] e (λz=>nomatch z) h
 | @ins a C dx fs ea cl ha hn Ou hm => cases(show u=Value.ref a from j);obtain⟨D,O,_⟩:=nJ I.hok ea;obtain⟨F,J,_⟩:=O.look;exact PySem.W.kia_one (PySem.W.kitx_own (cl.get _) cl.hd ha hn Ou hm) I.kIn J e (λz=>nomatch z) h
end
structure Room(k:Nat)(A:Around):Prop where
 hd:A.handled=none
 dp:A.depth+3*k+5<recursionLimit
 un:A.units+16*k+200<cLine
 gd:A.guards=some []
def Room.mono(r:Room k A)(h:j<=k):Room j A:=#[r.hd,by have:=r.dp;lia,by have:=r.un;lia,r.gd]
def Room.deeper(r:Room (k+1) A)(env:Env):Room k<|A.deeper env:=
 #[r.hd,by have:=r.dp;show A.depth+1+3*k+5<_;lia,by have:=r.un;show A.units+3+16*k+200<_;lia,r.gd]
def o6{A:Around}:(A.under<|.builtin "type.__call__" #[.ref C::us,kw]).depth=A.depth+1:=by first | rfl | simp[Around.under,Code.weight,Code.isCreation,Code.isGuard,Code.isCaller,Code.frames,Code.isFrame,guardIds]
def n_{A:Around}:(A.under<|.builtin "type.__call__" #[.ref C::us,kw]).units=A.units+1:=by first | rfl | simp[Around.under,Code.cUnits,Code.frames,Code.isFrame]
def zI{A:Around}:(A.under<|.builtin "type.__call__" #[.ref C::us,kw]).guards=A.guards:=rfl
def Room.make(r:Room (k+1) A)(C:Addr)(us:Q7)(a:List<|Str×Value):Room k<|A.under<|.builtin "type.__call__" #[.ref C::us,a]:=
 #[r.hd,by have:=r.dp;rw[o6];lia,by have:=r.un;rw[n_];lia,by rw[zI];exact r.gd]
def Room.depth(r:Room k A):A.depth<recursionLimit:=by have:=r.dp;lia
def Room.units(r:Room k A):A.units+64<cLine:=by have:=r.un;lia
def yE:TA:=λ_ H Q=>Q [] H
def oQ(e:TE)(f:TA):TA:=λa H Q=>e a H λx b=>f a b λg c=>Q (x::g) c
section
variable{X:Cx}{e:Expr}{c:S3}{f:TE}{t:TA}{a:Pos}
def fq_:PA X [] yE:=λ_ _ _ _ H Q I h=>Calls.spliced_nil #[[],H,I,.nil,h]
def g7(ha:PE X e f)(p:PA X c t)(q:T5 X e c:=by rfl):PA X (e::c)<|oQ f t:=by intro a g s i H Q I h;rw[q];refine Calls.spliced_cons<|dY (ha g s i H _ I h) λu A b=>?_;obtain⟨x,j,m,y,r⟩:=b;refine dY (p a g A i j _ m r) λD C b=>?_;obtain⟨B,l,o,z,v⟩:=b;exact#[x::B,l,o,.cons y z,v]
def bHz(t:TA):TE:=λh H Q=>t h H λg b=>g.length<=sizeLine/\∀p,b p=none->Q (.ref p) (upd b p<|.tup g)
def bId(t:TA):TE:=λh H Q=>t h H λg b=>g.length<=sizeLine/\∀p,b p=none->Q (.ref p) (upd b p<|.lst g)
def aIv(h:PA X c t):PE X (.Tuple c x1 a)<|bHz t:=by intro j s A H Q I p;refine wpAny_Tuple_spliced<|dY (h a j s A H _ I p) λv g l=>?_;obtain⟨y,m,i,r,z,q⟩:=l;refine#[by rw[<-r.length];exact z,?_];have o:=i.hok.fresh<|aO _;refine#[.ref g.heap.objs.size,upd m g.heap.objs.size<|.tup y,i.laid (t':=g.toks) (λb u e=>aD _ e) (aO _) ?_,rfl,q _ o];exact#[z,v,r,#[_,aW _ rfl,rfl,_,rfl]]
def aWd(h:PA X c t):PE X (.List c a)<|bId t:=by intro j s A H Q I p;refine wpAny_List_spliced<|dY (h a j s A H _ I p) λv g l=>?_;obtain⟨y,m,i,r,z,q⟩:=l;refine#[by rw[<-r.length];exact z,?_];have o:=i.hok.fresh<|aO _;refine#[.ref g.heap.objs.size,upd m g.heap.objs.size<|.lst y,i.laid (t':=g.toks) (λb u e=>aD _ e) (aO _) ?_,rfl,q _ o];exact#[z,v,0,r,aW _ rfl]
end
abbrev Sp:=Q1->Hp->VK->XK->Prop
abbrev CXT:=List Env->Hp->Shared->XK->Value->Shared->Prop
structure Env0(P:Program)(w:World)(K:dN)(mg:mH)(base:Heap)(A:Around)(outer:List Env)(s:Shared)(H:Hp):Prop where
 frames:A.frames=some outer
 mod:Mod K mg base
 bs:∀b o,base.get? b=some o->s.heap.get? b=some o/\H b=none
 bsz:base.objs.size<=s.heap.objs.size
 funs:s.heap.FunFrames base outer
 frf:∀b∈frs outer,H b=none
 hok:HOk P w H s.heap
 bare:AllBare s.gens
def CE(a:List Env)(P:Program)(w:World)(H:Hp)(s:Shared)(Q:VK)(u:Value)(b:Shared):Prop:=
 ∃v c,b.os=s.os/\AllBare b.gens/\Un (frs a) [] H c s.heap b.heap/\HOk P w c b.heap/\RelV v u/\Q v c
def CR(CX:CXT)(a:List Env)(P:Program)(w:World)(H:Hp)(s:Shared)(Q:VK)(E:XK)(r:Result)(b:Shared):Prop:=
 match r with
 | .ok (.ret u)=>CE a P w H s Q u b
 | .ok _=>False
 | .error e=>CX a H s E e b
structure FnOk(P:Program)(w:World)(K:dN)(mg:mH)(base:Heap)(CX:CXT)(k:Nat)(f:Addr)(fd:FuncData)(ps:Q3)(sp:Sp):Prop where
 len:∀vs H Q E,sp vs H Q E->vs.length=ps.length
 run:∀(A:Around) (outer:List Env) (s:Shared) (H:Hp) (args:Args) (us:Q7) (vs:Q1) (Q:VK) (E:XK),Room k A->Env0 P w K mg base A outer s H->BindsTo s fd args (ps.zip us)->Vals vs us->sp vs H Q E ->
  codeAny (model P w) A (.call (.ref f) args) (CR CX outer P w H s Q E) s
def FnOk.mono(F:FnOk P w K mg base CX j f fd ps sp)(h:j<=k) :
  FnOk P w K mg base CX k f fd ps sp:=#[F.len,λA a s H b e g Q E c=>F.run A a s H b e g Q E<|c.mono h]
def FnOk.imp(F:FnOk P w K mg base CX k f fd ps sp)
  (h:∀vs H Q E,c vs H Q E->sp vs H Q E):FnOk P w K mg base CX k f fd ps c:=
 #[λvs H Q E q=>F.len vs H Q E<|h _ _ _ _ q,λA a s H b l vs Q E i g e hv j=>F.run A a s H b l vs Q E i g e hv<|h _ _ _ _ j]
def Env0.make(e:Env0 P w K mg base A outer s H)(C:Addr)(us:Q7)(a:List<|Str×Value) :
  Env0 P w K mg base (A.under<|.builtin "type.__call__" #[.ref C::us,a]) outer s H:=#[by first | exact e.frames | (simpa [Around.under,Code.envs,Code.isFrame,pushEnvs]using e.frames),e.mod,e.bs,e.bsz,e.funs,e.frf,e.hok,e.bare]
section
variable{X:Cx}{e:gQ}{a:St}{H:Hp}{s c:Shared}
def Inv.env0(I:Inv X e a H s):Env0 X.prog X.w X.K X.mg X.base X.A X.stack s H:=
 #[I.ok.frames,I.ok.mod,I.bs,nzL I.ok.bsz I.sz,I.stack,I.stkFree,I.hok,I.bare]
def Inv.after(I:Inv X e a H s)(h:CE X.stack X.prog X.w H s Q u c):EP X e a Q u c:=by obtain⟨v,l,o,f,un,i,r,q⟩:=h;obtain⟨m,g,d,t,j⟩:=c;obtain rfl:j=s.os:=o;exact#[v,l,I.call (h':=m) (g':=g) (d':=d) (t':=t) (ch:=[]) un i f<|λb z=>absurd z `h,r,q]
end
def z9(sp:Sp)(a:Q1)(E:XK)(t:TA):TE:=λe H Q=>t e H λc b=>sp (c++a) b Q E
def bCi(C:Addr)(m:Str)(sp:Sp)(b:Q1)(E:XK)(h:TE)(t:TA):TE:=λe H Q=>h e H λx c=>∃a g fs,x=.ref a/\c a=some (.ins C g fs)/\fs.lookup m=none /\
 t e c λi f=>sp (x::(i++b)) f Q E
def bCj(C:Addr)(sp:Sp)(c:Q1)(E:XK)(t:TA):TE:=λg H Q=>t g H λf b=>∀x a,b x=none->b a=none->a≠x ->
 sp (.ref x::(f++c)) (upd (upd b a<|.own x) x<|.ins C a []) (λv e=>v=.non/\Q (.ref x) e) E
def Binds(K:dN)(fd:FuncData)(ps:Q3)(ds:Q7):Prop:=
 ∀(s:Shared) (a:Q7),K.In s.heap->(a++ds).length=ps.length->BindsTo s fd #[a,[]] (ps.zip<|a++ds)
def Binds.all(h:∀us:Q7,us.length=ps.length->bindArgs fd #[us,[]]=pure (ps.zip us)):Binds K fd ps []:=λs us _ a=>by rw[aU]at a ⊢;exact .of_eq<|h us a
def kN(CX:CXT)(X:Cx)(E:XK):Prop:=∀(b:gQ) (c:St) (H:Hp) (s:Shared) (e:Value) (a:Shared),Inv X b c H s->CX X.stack H s E e a->X.xe e a
section
variable{X:Cx}{CX:CXT}{k:Nat}{f C:Addr}{ps:Q3}{sp:Sp}{b:Q1}{ds:Q7}{E:XK}{x m:Str}{p g j:Pos}{e o:Expr}{i:S3}{w:TE}{t:TA}
def m4(F:FnOk X.prog X.w X.K X.mg X.base CX k f fd ps sp)(B:Room k X.A)(y:Binds X.K fd ps ds)(z:Vals b ds)(D:kN CX X E)
  (I:Inv X c l H s) (r:Vals vs us) (h:sp (vs++b) H Q E):wpAny `d X.A (call (.ref f) us) (EP X c l Q) X.xe s:=by
 have q:Vals (vs++b)<|us++ds:=r.append z;have A:(us++ds).length=ps.length:=by rw[<-q.length];exact F.len _ _ _ _ h
 refine wpAny_call<|codeAny_mono (F.run X.A X.stack s H #[us,[]] (us++ds) (vs++b) Q E B I.env0 (y s us I.kIn A) q h) λr G a=>?_;cases r with
 |error e=>exact D c l H s e G I a
 |ok v =>
  cases v with
  |ret u=>exact I.after a
  |next=>exact False.elim a
  |brk=>exact False.elim a
  |cont=>exact False.elim a
def aAp(F:FnOk X.prog X.w X.K X.mg X.base CX k f fd ps sp)(J:Room k X.A)(B:Gl X x)(G:X.mg x=some (.ref f))(D:PySem.W.keepIn X.K (.ref f)=true)(y:Binds X.K fd ps ds)(z:Vals b ds)(L:kN CX X E)
  (ha:PA X (e::i) t) (v:T3 x:=by decide) (A:T5 X e i:=by rfl) (u:T6 X g i:=by rfl) :
  PE X (.Call (.Name x p) (e::i) [] g) (z9 sp b E t):=by
 intro c s M H Q I h;refine wpAny_Call_Name_kw<|kt_ I B G ?_ v;refine PySem.W.callWith_K I.ok.mod.kin D (dY (ha g c s M H _ I h) λR O l=>?_) A u;obtain⟨S,N,a,r,q⟩:=l;refine#[a.kIn,?_];exact m4 F J y z L a r q
def aJb(F:FnOk X.prog X.w X.K X.mg X.base CX k f fd ps sp)(v:Room k X.A)(q:Gl X x)(u:X.mg x=some (.ref f))(r:PySem.W.keepIn X.K (.ref f)=true)(c:Binds X.K fd ps ds)(l:Vals b ds)(y:kN CX X E)
  (a:T3 x:=by decide):PE X (.Call (.Name x p) [] [] g)<|z9 sp b E yE:=by
 intro z s A H Q I h;refine wpAny_Call_Name_kw<|kt_ I q u ?_ a;exact PySem.W.callWith_K0 I.kIn r<|m4 (us:=[]) F v c l y I .nil h
def aAm{pl:Sem Bool}(R:PE X o w)(c:Cls X.K C)(B:Meth X.K C m f)(F:FnOk X.prog X.w X.K X.mg X.base CX k f fd ps sp)(S:Room k X.A)(N:Binds X.K fd ps ds)(O:Vals b ds)(U:kN CX X E)(ha:PA X (e::i) t)
  (J:T5 X e i:=by rfl) (G:T6 X g i:=by rfl)
  (T:eval (.Call (.Attribute o m j) (e :: i) [] g) X.env=(do
   let ov <-eval o X.env
   standAt j.atName
   let (f,first) <-holding [ov] (getMethod ov m pl)
   callWith g f first (backTo g<|starEach (e::i) X.env) (backToKw g<|keywordEach [] X.env)):=by rfl) :
  PE X (.Call (.Attribute o m j) (e::i) [] g) (bCi C m sp b E w t):=by
 intro y s D H Q I h;refine PySem.W.methodCall_KW (pl:=pl) (dY (R y s D H _ I h) λu Z v=>?_) T;obtain⟨x,L,z,Y,a,n,fs,ex,M,l,q⟩:=v;subst ex;obtain rfl:u=Value.ref a:=Y;refine p9 z M c B l ?_;refine PySem.W.callWith_K (first:=[.ref a]) (h₀:=X.base) I.ok.mod.kin B.kp (dY (ha g y Z D L _ z q) λus V v=>?_) J G;obtain⟨vs,d,A,r,W⟩:=v;refine#[A.kIn,?_];exact m4 (us:=.ref a::us) (vs:=.ref a::vs) F S N O U A (.cons rfl r) W
structure Mk(K:dN)(C f:Addr):Prop where
 makes:PySem.W.makesIn K C=true
 init:PySem.W.findIn K (.ref C) "__init__" = some (some (.ref f))
 fn:PySem.W.isFn K (.ref f)=true
 kp:PySem.W.keepIn K (.ref C)=true
def aHu{Aa}{q:St}{H}{s}{Q}{us}{vs}(M:Mk X.K C f)(F:FnOk X.prog X.w X.K X.mg X.base CX k f fd ps sp)(R:Room (k+1) X.A)(L:Binds X.K fd ps ds)(N:Vals b ds)
  (S:kN CX X E) (I:Inv X Aa q H s) (r:Vals vs us)
  (h:∀x l,H x=none->H l=none->l≠x->sp (.ref x::(vs++b)) (upd (upd H l<|.own x) x<|.ins C l []) (λv B=>v=.non/\Q (.ref x) B) E) :
  wpAny `d X.A (call (.ref C) us) (EP X Aa q Q) X.xe s:=by
 have y:=h `n s.heap.objs.size (I.hok.fresh<|Nat.le_succ _) (I.hok.fresh<|aO _) (bF<|Nat.lt_succ_self _);have c:=Inv.made (C:=C) I;have z:Vals (V.ref `n::(vs++b)) (Value.ref `n::(us++ds)):=.cons rfl<|r.append N;have O:(Value.ref `n::us++ds).length=ps.length:=by have e:=z.length;rw[F.len _ _ _ _ y]at e;exact e.symm
 refine wpAny_call (aKc (f:=f) I.kIn M.makes M.init (beq_iff_eq.mp M.fn) (codeAny_mono (F.run _ X.stack _ _ #[Value.ref `n::us,[]] (Value.ref `n::(us++ds)) _ _ E (R.make C us [])
  (c.env0.make C us []) (L _ (Value.ref `n::us) c.kIn O) z y) λr W a=>?_))
 cases r with
 |error e=>exact S Aa q _ _ e W c a
 |ok J =>
  cases J with
  |ret u => obtain⟨v,A,D,U,G,T⟩:=c.after a;subst G;exact#[U,#[V.ref `n,A,D,rfl,T]]
  |next=>exact False.elim a
  |brk=>exact False.elim a
  |cont=>exact False.elim a
def aOp(M:Mk X.K C f)(F:FnOk X.prog X.w X.K X.mg X.base CX k f fd ps sp)(G:Room (k+1) X.A)(B:Gl X x)(D:X.mg x=some (.ref C))(y:Binds X.K fd ps ds)(z:Vals b ds)(J:kN CX X E)
  (ha:PA X (e::i) t) (v:T3 x:=by decide) (A:T5 X e i:=by rfl) (u:T6 X g i:=by rfl) :
  PE X (.Call (.Name x p) (e::i) [] g) (bCj C sp b E t):=by
 intro c s L H Q I h;refine wpAny_Call_Name_kw<|kt_ I B D ?_ v;refine PySem.W.callWith_K I.ok.mod.kin M.kp (dY (ha g c s L H _ I h) λR O l=>?_) A u;obtain⟨S,N,a,r,q⟩:=l;refine#[a.kIn,?_];exact aHu M F G y z J a r q
end
def PK(X:Cx)(a:List Keyword)(t:TA):Prop:=
 ∀(b:Pos) (e:gQ) (s:Shared) (c:St) (H:Hp) (Q:Q1->Hp->Prop),Inv X e c H s->t c H Q->wpAny `d X.A (evalAll ((backToKw b<|keywordEach a X.env).map (·.2))) (AP X e c Q) X.xe s
section
variable{X:Cx}{CX:CXT}{k:Nat}{f C:Addr}{ps ks:Q3}{sp:Sp}{E:XK}{x m:Str}{p a j c:Pos}{e o:Expr}{r:S3}{b:List Keyword}{i l:TE}{t tk:TA}{nm:Option Str}
def vK:PK X [] yE:=λ_ _ _ _ H Q I h=>wpAny_evalAll_nil #[[],H,I,.nil,h]
def nE(ha:PE X e i)(D:PK X b t):PK X (#[nm,e,c]::b)<|oQ i t:=by intro a q s v H Q I h;refine wpAny_evalAll_cons<|wpAny_bind<|dY (ha q s v H _ I h) λu M g=>?_;obtain⟨x,y,A,J,F⟩:=g;refine wpAny_bind<|wpAny_standAt<|wpAny_pure ?_;refine dY (D a q M v y _ A F) λR O g=>?_;obtain⟨N,z,B,L,G⟩:=g;exact#[x::N,z,B,.cons J L,G]
variable{g:Q7->Q7->Q7}{q:Q1->Q1->Q1}
end
structure FnScope(N P:Q3)(sc:Scope):Prop where
 kind:sc.kind=.function
 co:sc.isCoroutine=false
 gen:sc.isGenerator=false
 nd:N.Nodup
 pre:N.take P.length=P
 par:∀x∈P,sc.names.lookup x=some .local\/sc.names.lookup x=some .cell
 nofree:∀y∈sc.names,y.2 ≠ .free
def gL{N P:Q3}(h:(sc.kind=.function/\sc.isCoroutine=false/\sc.isGenerator=false)/\N.Nodup/\N.take P.length=P/\(∀x∈P,sc.names.lookup x=some .local\/sc.names.lookup x=some .cell)/\∀y∈sc.names,y.2 ≠ .free):FnScope N P sc:=#[h.1.1,h.1.2.1,h.1.2.2,h.2.1,h.2.2.1,h.2.2.2.1,h.2.2.2.2]
def uA{kindOf}:∀{binds} {m},(∀v,(x,v)∉binds)->bindL kindOf binds m x=m x
 | [],_,_=>rfl
 |(n,v)::r,m,h=>by
  unfold bindL;rw[uA λw a=>h w<|aC _ a];split;have:x≠n:=by grind
  exact if_neg this;rfl
def uD{kindOf}:∀{binds} {m},(∀v,(x,v)∉binds)->bindC kindOf binds m x=m x
 | [],_,_=>rfl
 |(n,v)::r,m,h=>by
  unfold bindC;rw[uD λw a=>h w<|aC _ a];split;rfl;have:x≠n:=by grind
  exact if_neg this
def uC{kindOf}{x}{v}:∀{P:Q3} {vs} {i:Nat} {m},P.Nodup->P[i]? = some x->vs[i]? = some v->kindOf x=some .local ->
  bindL kindOf (P.zip vs) m x=some v
 | [],_,_,_,_,h,_,_=>by simp at h
 |_::_,[],_,_,_,_,h,_=>by simp at h
 |p::P,w::vs,0,m,nd,h1,h2,hk=>by simp at h1 h2;subst h1;subst h2;show bindL kindOf ((p,w)::P.zip vs) m p=_;unfold bindL;rw[uA λv hv=>(bR.mp nd).1 (List.of_mem_zip hv).1,if_pos hk];simp
 |p::P,w::vs,i+1,m,nd,h1,h2,hk=>by unfold bindL;exact uC (i:=i) (bR.mp nd).2 (by simpa using h1) (by simpa using h2) hk
def uE{kindOf}{x}{v}:∀{P:Q3} {vs} {i:Nat} {m},P.Nodup->P[i]? = some x->vs[i]? = some v->kindOf x≠some .local ->
  bindC kindOf (P.zip vs) m x=some v
 | [],_,_,_,_,h,_,_=>by simp at h
 |_::_,[],_,_,_,_,h,_=>by simp at h
 |p::P,w::vs,0,m,nd,h1,h2,hk=>by simp at h1 h2;subst h1;subst h2;show bindC kindOf ((p,w)::P.zip vs) m p=_;unfold bindC;rw[uD λv hv=>(bR.mp nd).1 (List.of_mem_zip hv).1,if_neg hk];simp
 |p::P,w::vs,i+1,m,nd,h1,h2,hk=>by unfold bindC;exact uE (i:=i) (bR.mp nd).2 (by simpa using h1) (by simpa using h2) hk
def start(N:Q3)(vs:Q1):St:=vs.map some++List.replicate (N.length-vs.length) none
def kE(CX:CXT)(P:Program)(w:World)(K:dN)(mg:mH)(base:Heap)(N:Q3)(b:Str)(scope:Scope)(f:Addr)(g:Value)(A:Around)(a:List Env)(s:Shared)(H:Hp)(E:XK):Cx where
 prog:=P
 w:=w
 K:=K
 mg:=mg
 base:=base
 A:=A.deeper<|envOfC b scope s.heap.objs.size f g
 N:=N
 s₀:=s
 H₀:=H
 env:=envOfC b scope s.heap.objs.size f g
 outer:=a
 stack:=envOfC b scope s.heap.objs.size f g::a
 ex:=[]
 calm:=true
 fn:=λ_=>true
 pn:=[]
 xe:=λe i=>wpAny (model P w) (A.deeper<|envOfC b scope s.heap.objs.size f g) (leaving (envOfC b scope s.heap.objs.size f g) e) (λ_ c=>CX a H s E e c) (λh c=>CX a H s E h c) i
def c8{sc:Scope}(h:sc.names.lookup x=some .cell):∃c,(cellsFrom n sc.names []).lookup x=some c:=by have q:=PySem.W.cellsFrom_some sc.names n [] (.inl h);exact cL.mp q
def aEu
  (S:FnScope N ps scope) (L:A.handled=none) (l:Env0 P w K mg base A g s H) (M:vs.length=ps.length) (r:Vals vs us)
  (x:InCallC s s.heap.objs.size (bindL (envOfC qual scope s.heap.objs.size f cd).kindOf (ps.zip us) λ_=>none) (cellsFrom `n scope.names []) (bindC (envOfC qual scope s.heap.objs.size f cd).kindOf (ps.zip us) λ_=>none) s1) :
  Inv (kE CX P w K mg base N qual scope f cd A g s H E) [] (start N vs) H s1:=by
 have Q:ps.length<=N.length:=by have:=congrArg List.length S.pre;rw[eI]at this;lia
 obtain⟨F,tk,rfl,G⟩:=x.done;have m:∀b:Addr,b∉(kE CX P w K mg base N qual scope f cd A g s H E).ex:=λb z=>absurd (z) bV;refine#[#[l.mod,S.kind,rfl,rfl,aO _,λy z c F j=>?_,λy C=>?_,λy c _ h=>?_,λ_=>L,Around.frames_deeper l.frames,.inr #[rfl,rfl],λb z=>absurd z<|m b,l.bs,l.bsz,λb _ _=>m b,λb z=>absurd z<|m b,l.funs,l.frf],
  rfl,l.bare,Un.kept G,#[_,x.toInCall.ns,λi y v F j R=>?_],λy c h=>#[_,x.cell y c h],l.hok.fresh<|aO _,λy c h=>?_,λp B=>absurd (B) bV,l.hok.kept G,?_]
 exact name_of_addr x.apart (PySem.mem_of_lookup F)<|PySem.mem_of_lookup j;rcases C with C | C
 exact c8 C;exact absurd rfl<|S.nofree _<|PySem.mem_of_lookup C;exact iZ<|x.above y c<|PySem.mem_of_lookup h;have o:i < vs.length:=by unfold start at j;by_cases o:i<vs.length;exact o;rw [bW<|by simpa using o] at j;rw[iU]at j;split at j<;>cases j
 have J:vs[i]? = some v:=by
  unfold start at j;rw[cX<|by simpa using o,bI]at j;cases e:vs[i]? with
  |none=>rw[e]at j;cases j
  |some a=>rw[e]at j;cases j;rfl
 obtain⟨u,I,O⟩:=r.get J;have B:ps[i]? = some y:=by rw[<-S.pre,List.getElem?_take_of_lt<|dF o M];exact F
 have D:ps.Nodup:=by rw[<-S.pre];exact S.nd.sublist<|List.take_sublist _ _
 refine#[u,O,?_];rcases S.par y (aQ B)with k | k
 exact .inl #[k,uC D B I k];obtain ⟨c,e⟩:=c8 k;refine .inr #[.inl k,c,e,?_];have q:=x.cell y c e;rw[uE D B I (by show scope.names.lookup y≠_;rw[k];decide)]at q;exact q;exact l.hok.fresh<|iZ<|x.above y c<|PySem.mem_of_lookup h;unfold start;show _=N.length;rw[aI,aB,bN];lia
def aSz{W kV z X m ct oc:Value}
  (lk:K.lookup f=some #[oc,od,.func<|PySem.W.fnOf l c g h scope W kV z X T m ct,G]) (d:PySem.W.codeIn K m c=true) (S:FnScope N ps scope)
  (len:∀vs H Q E,sp vs H Q E->vs.length=ps.length)
  (Z:∀ (A:Around) (a:List Env) (s:Shared) (H:Hp) (vs:Q1) (Q:VK) (E:XK),Room k (A.deeper<|envOfC c scope s.heap.objs.size f m)→sp vs H Q E →
   ∃t,PSs (kE CX P w K mg base N c scope f m A a s H E) h t/\t { nx:=λ_ j=>Q .non j,rt:=Q } (start N vs) H) :
  FnOk P w K mg base CX (k+1) f (PySem.W.fnOf l c g h scope W kV z X T m ct) ps sp:=by
 refine#[len,λA a s H U us vs Q E D B hb r O=>?_];have hl:=len _ _ _ _ O;have R:K.In s.heap:=B.mod.kin.keeps λb o e=>(B.bs b o e).1;have F:s.heap.NoLimit:=B.mod.nolimit.keeps λb o e=>(B.bs b o e).1;have Fk:∀y∈ps.zip us,scope.names.lookup y.1=some .local\/(scope.names.lookup y.1=some .cell/\((cellsFrom `n scope.names []).lookup y.1).isSome=true):=λ⟨n,v⟩ hy=>by
  rcases S.par n (List.of_mem_zip hy).1 with q | q
  exact .inl q;exact .inr #[q,PySem.W.cellsFrom_some _ _ _<|.inl q]
 refine codeAny_call_function D.depth (R _ _ lk) rfl S.co S.gen rfl (PySem.W.codeRec_of R d)<|hb _ _ _ _ ?_;refine wpAny_newFunctionEnv_cells S.kind Fk λa0 he Y x=>?_;subst he;refine#[F.keeps x.toInCall.keep,codeAny_func ?_];obtain⟨t,ht,hq⟩:=Z A a s H vs Q E (D.deeper _) O;have I:Inv (kE CX P w K mg base N c scope f m A a s H E) [] (start N vs) H Y:=aEu S D.hd B hl r x;refine wpAny_mono (ht [] Y (start N vs) H _ I hq) (λfl M p=>?_) λe M p=>p;have C:∀{i:St} {j:Hp} {v:V} {u:Value},Inv (kE CX P w K mg base N c scope f m A a s H E) [] i j M->RelV v u->Q v j->CE a P w H s Q u M:=
  λ{i j v u} J L q=>#[v,j,J.os,J.bare,J.base,J.hok,L,q]
 cases fl with
 |ret u => obtain⟨v,i,j,J,L,q⟩:=p;exact C J L q
 |next => obtain⟨i,j,J,q⟩:=p;exact C (v:=V.non) (u:=Value.none) J rfl q
 |brk => obtain⟨_,_,_,q⟩:=p;exact False.elim q
 |cont => obtain⟨_,_,_,q⟩:=p;exact False.elim q
section
variable{X:Cx}{x:Str}{p a:Pos}{e:Expr}{b:S3}{t:TA}{c T:String}{r:Q1->Hp->VK->Prop}
def tCB(r:Q1->Hp->VK->Prop)(t:TA):TE:=λh H Q=>t h H λg f=>r g f Q
def ji_(q:CallR X (.builtin c) r)(v:Gl X x)(y:X.mg x=none)(hv:bootBuiltins x=some (.builtin c))(ha:PA X (e::b) t)(z:x ≠ "__name__":=by decide)(l:T3 x:=by decide)
  (u:T5 X e b:=by rfl) (j:T6 X a b:=by rfl):PE X (.Call (.Name x p) (e::b) [] a)<|tCB r t:=by
 intro f s g H Q I h;refine wpAny_Call_Name_kw<|gq_ I v y hv ?_ z l;refine PyProof.Rows.callWith_builtin1 (dY (ha a f s g H _ I h) λD C i=>?_) u j;obtain⟨E,m,o,B,A⟩:=i;exact q f C g m E D Q o B A
def sM(q:CallR X (.type T) r)(v:Gl X x)(y:X.mg x=none)(hv:bootBuiltins x=some (.type T))(ha:PA X (e::b) t)(z:x ≠ "__name__":=by decide)(l:T3 x:=by decide)
  (u:T5 X e b:=by rfl) (j:T6 X a b:=by rfl):PE X (.Call (.Name x p) (e::b) [] a)<|tCB r t:=by
 intro f s g H Q I h;refine wpAny_Call_Name_kw<|gq_ I v y hv ?_ z l;refine cO (dY (ha a f s g H _ I h) λD C i=>?_) u j;obtain⟨E,m,o,B,A⟩:=i;exact q f C g m E D Q o B A
end
end L2
namespace HT
open PySem PyProof.Rows
def lexLt:Q6->Q6->Bool
 | [],[]=>false
 | [],_::_=>true
 |_::_,[]=>false
 |x::xs,y::ys=>if x=y then lexLt xs ys else decide (x<y)
def lexLt_cons(x y:Int)(xs ys:Q6):lexLt (x::xs) (y::ys)=if x=y then lexLt xs ys else decide (x<y):=rfl
def lexLt_nil_nil:lexLt [] []=false:=rfl
def lexLt_nil_cons(y:Int)(ys:Q6):lexLt [] (y::ys)=true:=rfl
def lexLt_cons_nil(x:Int)(xs:Q6):lexLt (x::xs) []=false:=rfl
def aLu(A:Around)(s:Shared)(a:Int)(t:Tok)(c:Int)(u:Tok):∃e,SeqAt.EqAt A s (.int a t) (.int c u) e/\(e=true↔a=c):=
 #[(a == c),SeqAt.EqAt.int_int a t c u,bi_ieq]
def aHz(A:Around)(s:Shared)(a:Int)(t:Tok)(c:Int)(u:Tok)(prog:Program)(w:World)(E:iE)(Q:iE)(h:Q (.bool<|decide (a<c)) s) :
  wpAny `f A (richCompare .Lt (.int a t)<|.int c u) Q E s:=
 (PyProof.Rows.lt_int h:wpAny `f A (compareOp .Lt (.int a t)<|.int c u) Q E s)
section
open PySem.SeqAt
open PySem.AutoSeq1 (wpAny_loadPart')
open PySem.MeetsSeq PySem.MeetsSeq2 PySem.MeetsSeq3
def rH(l b:Addr)(i f:S5)(n n2:Nat)(dd Q:Option Addr)(sl O:Array<|Option Value)(D C:Q6)(M:IntsAre i.toList D)(N:IntsAre f.toList C) :
  Meets (Builtin.«tuple.__lt__» #[[.ref l,.ref b],[]])
   (fun _ R s=>s.heap.get? l=some { cls:=.type "tuple",dict:=dd,data:=.seq i n,slots:=sl }∧s.heap.get? b=some { cls:=.type "tuple",dict:=Q,data:=.seq f n2,slots:=O } ∧
    R (.ok<|.ret<|.bool<|lexLt D C) s):=
 .of_wp fun p w A R s h=>by
  obtain⟨B,g,d,tk,E⟩:=s;obtain⟨k,Y,h⟩:=h;have f2:=AutoSeq1.sub_tuple_tuple;have z1:i.size=D.length:=by rw[<-M.length];simp
  have z2:f.size=C.length:=by rw[<-N.length];simp
  wp_walk using wpAny_loadPart' k,wpAny_loadPart' Y,wpAny_forIn_list _ (λrest b I=>b.1=none/\I=#[B,g,d,tk,E]/\∃(F G:Q7) (m j:Q6),rest=F.zip G /\
   IntsAre F m/\IntsAre G j/\m.length+f.size=j.length+i.size/\R (.ok<|.ret<|.bool<|lexLt m j) #[B,g,d,tk,E]) _
  case turn =>
   rintro⟨y,x⟩ rest b I ⟨J,rfl,F,G,m,j,r,H,z,v,o⟩;cases H with
   |nil=>rw[List.zip_nil_left]at r;cases r
   |cons a t X =>
    cases z with
    |nil=>rw[List.zip_nil_right]at r;cases r
    |cons c u W =>
     injection r with U S
     injection U with hy hx
     subst hy hx;rw[lexLt_cons]at o;simp only[aL]at v;obtain⟨e,Z,L⟩:=aLu A.in1 #[B,g,d,tk,E] a t c u;refine wpAny_bind<|Z p w _ _ ?_;cases e with
     |true =>
      rw[if_pos<|L.mp rfl]at o
      wp_walk
      exact#[rfl,rfl,_,_,_,_,S,X,W,by lia,o]
     |false =>
      rw[if_neg<|λq=>absurd (L.mpr q) bJ]at o;have T:=aHz A.in1 #[B,g,d,tk,E] a t c u p w
      wp_walk using T
      exact#[_,rfl,by simpa using o]
  case fin =>
   rintro⟨b1,b2⟩ I ⟨J,rfl,F,G,m,j,r,H,z,v,o⟩;subst J;have hv:lexLt m j=decide (i.size<f.size):=by
    cases H with
    |nil =>
     cases z with
     |nil => exact(dzF `b).symm
     |cons c u V => simp only[bE,aL]at v;exact(dzT `b).symm
    |cons a t hv =>
     cases z with
     |nil => simp only[bE,aL]at v;exact(dzF `b).symm
     |cons c u V => cases r
   rw[hv]at o
   wp_walk
   exact#[_,rfl,by simpa [Builtin.Tuple.tupleCompareSizes]using o]
  case h => exact#[rfl,rfl,i.toList,f.toList,D,C,rfl,M,N,by lia,h]
end
section
variable{prog:Program}{w:World}{A:Around}{E:iE}{s:Shared}
def lt_tupInts{l b}{items items2}{ns ms}{Q}(B:IsTup s.heap l items)(r:IsTup s.heap b items2)(y:IntsAre items.toList ns)(z:IntsAre items2.toList ms)
  (C:A.units<cLine) (h:Q (.bool<|lexLt ns ms) s):wpAny `f A (compareOp .Lt (.ref l)<|.ref b) Q E s:=by
 obtain⟨⟨p,q,f,F⟩,g,u,n,v⟩:=id B;obtain⟨⟨e,j,a,i⟩,c,o,D,m⟩:=id r;subst u v o m;exact richCompare_meets_room (op:=.Lt) #[_,g,rfl] #[_,c,rfl] PySem.F.slot_tuple_lt PySem.F.entry_tuple_lt (PySem.F.args_tuple_lt_2 _ _) (rH l b items items2 n D q j F i ns ms y z)
  #[g,c,show Value.bool (lexLt ns ms)≠Value.notImplemented/\Q (.bool<|lexLt ns ms) s from#[(λx=>nomatch x),h]] C
def cat_tup{t b:Addr}{vs ws:Q7}{Q:iE}(B:IsTup s.heap t vs.toArray)(z:IsTup s.heap b ws.toArray)(hv:vs≠[])
  (v:ws=[]->Q (.ref t) s) (y:ws≠[]->Q `o { s with heap:=s.heap.push { cls:=.type "tuple",data:=.seq (vs++ws).toArray } })
  (hsz:vs.length+ws.length<=sizeLine):wpAny `f A (binaryOp .Add (.ref t)<|.ref b) Q E s:=by
 obtain⟨⟨cls,o,data,u⟩,c,p,n,q⟩:=id B;obtain⟨⟨m,i,g,h⟩,a,l,r,j⟩:=id z;simp only at p q l j;subst p q l j;have e:vs.toArray++ws.toArray=(vs++ws).toArray:=by simp
 by_cases f:ws=[];exact concat_meets #[_,c,rfl] #[_,a,rfl] noFill_tuple_add seq_tuple_add PySem.F.slot_tuple_add PySem.F.entry_tuple_add (PySem.F.args_tuple_add_2 _ _)
  (tuple_addW1 t b vs.toArray ws.toArray n r o i u h (by simpa using hv)<|by simp[f]) #[c,a,v f]
 refine concat_meets #[_,c,rfl] #[_,a,rfl] noFill_tuple_add seq_tuple_add PySem.F.slot_tuple_add PySem.F.entry_tuple_add (PySem.F.args_tuple_add_2 _ _)
  (tuple_addW2 t b vs.toArray ws.toArray n r o i u h (by simpa using hv) (by simpa using f) (by rw[aS,aS];exact hsz)) #[c,a,?_]
 rw[e];exact y f
def sIx(n d:Nat):S4->Nat
 |none=>d
 |some v=>if v<0 then(v+(n:Int)).toNat else min v.toNat n
def sIx_nat(n d k:Nat):sIx n d (some (k:Int))=min k n:=by show(if(k:Int)<0 then((k:Int)+(n:Int)).toNat else min (k:Int).toNat n)=min k n;rw[if_neg<|Int.not_ofNat_neg k,eX]
def aCt(v:Int)(n d:Nat):(if v<0 then max (v+(n:Int)) 0 else min v (n:Int))=((sIx n d (some v):Nat):Int):=by show(if v<0 then max (v+(n:Int)) 0 else min v (n:Int))=(((if v<0 then(v+(n:Int)).toNat else min v.toNat n):Nat):Int);by_cases hv:v<0;simp only[if_pos hv];lia;grind
def u4(b a:S4)(n:Nat):Builtin.Slice.sliceAdjust b a 1 (n:Int)=(((sIx n 0 b:Nat):Int),((sIx n n a:Nat):Int)):=by
 have c:¬((1:Int)<0):=by lia
 unfold Builtin.Slice.sliceAdjust;refine Prod.ext ?_ ?_;cases b with
 |none=>rfl
 |some v=>exact aCt v n 0
 cases a with
 |none=>rfl
 |some v=>exact aCt v n n
def m6(i j:Nat):Builtin.Slice.slicePlaces (i:Int) (j:Int) 1=j-i:=by unfold Builtin.Slice.slicePlaces;have a:(1:Int)>0:=Int.one_pos;simp only[a,if_true,Int.ediv_one];split<;>lia
def oW{v}{o}{Q}(p:IsPart v o)(h:Q o s):wpAny `f A (Builtin.Slice.slicePartIndex v) Q E s:=by
 cases p with
 |none=>exact slicePart_none h
 |int i t=>exact slicePart_int h
def jc_{sl}{vl vu}{lo hi}{n:Nat}{Q}(c:s.heap.IsSliceOf sl vl vu .none)(pl:IsPart vl lo)(e:IsPart vu hi)
  (h:Q (((sIx n 0 lo:Nat):Int),1,sIx n n hi-sIx n 0 lo) s):wpAny `f A (Builtin.Slice.sliceApplied (.ref sl)<|pure (n:Int)) Q E s:=by
 obtain⟨g,b,f,a⟩:=id c;refine wpAny_bind<|wpAny_bind<|wpAny_field b a (x:=vl) rfl<|wpAny_bind<|wpAny_field b a (x:=vu) rfl<|wpAny_bind<|wpAny_field b a (x:=.none) rfl<|wpAny_pure ?_;refine wpAny_bind<|slicePart_none ?_;refine wpAny_bind<|oW pl<|wpAny_bind<|oW e<|wpAny_bind<|wpAny_pure ?_;show wpAny _ _ (match Builtin.Slice.sliceAdjust lo hi 1 (n:Int)with | (lo,hi)=>pure (lo,(1:Int),Builtin.Slice.slicePlaces lo hi 1)) _ _ s;rw[u4 lo hi n];show wpAny _ _ (pure (((sIx n 0 lo:Nat):Int),(1:Int),Builtin.Slice.slicePlaces ((sIx n 0 lo:Nat):Int) ((sIx n n hi:Nat):Int) 1)) _ _ s;rw[m6];exact wpAny_pure h
def aIt(xs:S5)(i k:Nat):((List.range k).filterMap λ(m:Nat)=>xs[((i:Int)+(m:Int)*1).toNat]?).toArray=((xs.toList.drop i).take k).toArray:=by
 have e:(λ(m:Nat)=>xs[((i:Int)+(m:Int)*1).toNat]?)=λm=>xs[i+m]?:=by
  funext m;have:((i:Int)+(m:Int)*1).toNat=i+m:=by lia
  rw[this]
 rw[e];have:=pick_run xs i k;rw[List.filterMap_map]at this;have a:((λx=>xs[x]?) ∘ λx=>i+x)=λm=>xs[i+m]?:=rfl;rw[a]at this;rw[this]
def getItem_tuple_cut{t sl}{items}{vl vu}{lo hi}{Q}(b:IsTup s.heap t items)(e:s.heap.IsSliceOf sl vl vu .none)(pl:IsPart vl lo)(m:IsPart vu hi)
  (j:¬(sIx items.size 0 lo=0/\sIx items.size items.size hi=items.size))
  (h:Q `o { s with heap:=s.heap.push { cls:=.type "tuple",data:=.seq ((items.toList.drop<|sIx items.size 0 lo).take<|sIx items.size items.size hi-sIx items.size 0 lo).toArray } })
  (hsz:items.size<=sizeLine):wpAny `f A (getItem (.ref t)<|.ref sl) Q E s:=by
 have a:sizeOk<|.seq ((items.toList.drop<|sIx items.size 0 lo).take<|sIx items.size items.size hi-sIx items.size 0 lo).toArray:=by show((items.toList.drop<|sIx items.size 0 lo).take<|sIx items.size items.size hi-sIx items.size 0 lo).toArray.size<=sizeLine;rw[aS,eI,gG,Array.length_toList];lia
 obtain⟨l,i,g,p⟩:=id e;have c:s.TypeIs (.ref sl) "slice":=#[l,i,g];unfold getItem
 try with_reducible refine wpAny_holding ?_
 first | refine wpAny_bind (wpAny_pure ?_) | skip
 refine wpAny_bind<|wpAny_sequenceKey b.typeIs rfl ?_;refine wpAny_bind (wpAny_callSpecial?_slot b.typeIs jI
  (wpAny_call_entry jI b.typeIs entry_tuple_getitem ?_<|args_tuple_getitem _ _))
 show wpAny _ _ (Builtin.Tuple.tupleItemsOf (.ref t) >>= _) _ _ s;refine wpAny_bind<|tupleItemsOf_ b ?_;refine wpAny_bind<|wpAny_typeOf c ?_;refine wpAny_bind<|jc_ e pl m ?_;have f:¬((((sIx items.size 0 lo:Nat):Int) == 0&&(1:Int) == 1&&(sIx items.size items.size hi-sIx items.size 0 lo) == items.size)=true):=by intro q;rw[cI,cI]at q;have o:=eq_of_beq q.1.1;exact j #[Int.ofNat_eq_zero.mp o,by lia]
 show wpAny _ _ (if(((sIx items.size 0 lo:Nat):Int) == 0&&(1:Int) == 1&&(sIx items.size items.size hi-sIx items.size 0 lo) == items.size)=true then _ else _) _ _ s;rw[if_neg f,aIt]
 first
  |exact wpAny_bind (wpAny_newObj_type (wpAny_pure #[_,rfl,wpAny_pure h]) a)
  |exact wpAny_bind (wpAny_newObj_type (wpAny_bind<|wpAny_pure<|wpAny_pure #[_,rfl,wpAny_pure h]) a)
  |exact wpAny_bind (wpAny_bind<|wpAny_newObj_type (wpAny_pure<|wpAny_pure #[_,rfl,wpAny_pure h]) a)
  |exact wpAny_bind<|wpAny_bind<|wpAny_newObj_type (wpAny_pure #[_,rfl,wpAny_pure h]) a
end
end HT
namespace L2
open PySem PySem.Spec PyProof.Rows
abbrev TO:=St->Hp->(S4->Hp->Prop)->Prop
def PO(X:Cx)(e:Option Expr)(t:TO):Prop:=
 ∀(b:gQ) (s:Shared) (a:St) (H:Hp) (Q:S4->Hp->Prop),Inv X b a H s->t a H Q ->
  wpAny `d X.A (evalPart e X.env) (λu f=>∃o c,Inv X b a c f/\IsPart u o/\Q o c) X.xe s
def aNq:TO:=λ_ H Q=>Q none H
def bCf(t:TE):TO:=λb H Q=>t b H λx a=>∃i,x=.int i/\Q (some i) a
def ei_:∀{us},Vals (a.map V.int) us->IntsAre us a:=by
 induction a with
 |nil=>intro us r;rw[dE]at r;cases r;exact .nil
 |cons n a b =>
  intro us r;cases r with
  |cons c f => obtain⟨t,e⟩:=c;subst e;exact .cons n t<|b f
section
variable{X:Cx}{e:Expr}{g:TE}{c f:Option Expr}{j m:TO}{A o:Pos}
def aOl:PO X none aNq:=by intro a s b H Q I h;exact wpAny_pure #[none,H,I,.none,h]
def aOk(h:PE X e g):PO X (some e)<|bCf g:=by intro a s z H Q I r;refine dY (h a s z H _ I r) λu B b=>?_;obtain⟨x,l,p,y,v⟩:=b;obtain⟨i,rfl,q⟩:=v;obtain⟨t,rfl⟩:=y;exact#[some i,l,p,.int i t,q]
def SlR(X:Cx)(r:V->S4->S4->Hp->VK->Prop):Prop:=
 ∀(a:gQ) (s:Shared) (l:St) (H:Hp) (x:V) (v h i:Value) (c f:S4) (b:Addr) (Q:VK),Inv X a l H s->RelV x v->s.heap.IsSliceOf b h i .none->IsPart h c->IsPart i f->r x c f H Q ->
  ∃T p,typeLookup (.type T) "__getitem__" = pure (some<|.builtin p)/\s.TypeIs v T/\wpAny `d X.A (getItem v<|.ref b) (EP X a l Q) X.xe s
def SlR.or(h:SlR X r)(h':SlR X r'):SlR X<|λx c f H Q=>r x c f H Q\/r' x c f H Q:=by
 intro a s B H x v y z c f u Q I p b i l q;rcases q with q | q
 exact h a s B H x v y z c f u Q I p b i l q;exact h' a s B H x v y z c f u Q I p b i l q
def tSl(r:V->S4->S4->Hp->VK->Prop)(g:TE)(j m:TO):TE:=λa H Q=>g a H λx b=>j a b λl h=>m a h λu i=>r x l u i Q
def jh_(U:SlR X r)(O:PE X e g)(S:PO X c j)(Y:PO X f m):PE X (.Subscript e (.Slice c f none o) A)<|tSl r g j m:=by intro i s p H Q I h;refine Subscript_<|dY (O i s p H _ I h) λv s1 B=>?_;obtain⟨x,E,G,r1,k⟩:=B;refine wpAny_Slice<|dY (S i s1 p E _ G k) λy s2 B=>?_;obtain⟨l,F,J,Z,n⟩:=B;refine dY (Y i s2 p F _ J n) λz a D=>?_;obtain⟨u,C,L,d,t⟩:=D;rw[evalPart_none];refine wpAny_pure ?_;have M:Inv X i p C { a with heap:=a.heap.push { cls:=.type "slice",data:=.fields [y,z,.none].toArray } }:=L.kept (t':=a.toks) λb ob q=>aD _ q;obtain⟨T,id,N,W,R⟩:=U i { a with heap:=a.heap.push { cls:=.type "slice",data:=.fields [y,z,.none].toArray } } p C x v y z l u a.heap.objs.size Q M r1 (Heap.IsSliceOf.new ..) Z d t;show wpAny `d X.A (subscriptTail e (.Slice c f none o) v<|.ref a.heap.objs.size) (EP X i p Q) X.xe { a with heap:=a.heap.push { cls:=.type "slice",data:=.fields [y,z,.none].toArray } };exact tail_any (ops:=[.ref a.heap.objs.size,v]) W N R<|by with_unfolding_all rfl
def c6(xs:Q1)(c f:S4):Q1:=(xs.drop<|HT.sIx xs.length 0 c).take<|HT.sIx xs.length xs.length f-HT.sIx xs.length 0 c
def lf_(xs:Q1)(c f:S4):(c6 xs c f).length<=xs.length:=by unfold c6;rw[eI,gG];lia
def bIl(K:dN):V->S4->S4->Hp->VK->Prop:=λx c f H Q=>∃a b,x=.ref a/\SqT K H a b /\
 ¬(HT.sIx b.length 0 c=0/\HT.sIx b.length b.length f=b.length)/\∀p,H p=none->Q (.ref p) (upd H p<|.tup<|c6 b c f)
def aVa:SlR X<|bIl X.K:=by
 intro G s N H x v L M c f J Q I F z D E h;obtain⟨a,i,rfl,C,B,q⟩:=h;cases F;obtain⟨p,r,u,y⟩:=I.tuple C;have l:p.toArray.size=i.length:=by rw[aS];exact r.length.symm
 refine#["tuple",_,jI.lookup,u.typeIs,?_];refine HT.getItem_tuple_cut u z D E (by rw[l];exact B) ?_ (by rw[l];exact y);rw[l];refine#[.ref s.heap.objs.size,_,I.laid (t':=s.toks) (λb ob q=>aD _ q) (aO _) ?_,rfl,q _<|I.hok.fresh<|aO _];exact#[nzL (lf_ i c f) y,_,(r.drop<|HT.sIx i.length 0 c).take<|HT.sIx i.length i.length f-HT.sIx i.length 0 c,IsTup.new _ _]
def aSf(K:dN):R2:=λx y H Q=>∃a b i h,x=.ref a/\y=.ref b/\SqT K H a i/\SqT K H b h/\i≠[]/\i.length+h.length<=sizeLine /\
 (h=[]->Q `i H)/\(h≠[]->∀p,H p=none->Q (.ref p) (upd H p<|.tup<|i++h))
def Vals.nil_iff(r:Vals xs us):us=[]↔xs=[]:=by
 cases r with
 |nil=>simp
 |cons _ _=>simp
def aPa:OpR X (binaryOp .Add)<|aSf X.K:=by intro N s S H x y v u Q I L M h;obtain⟨a,b,O,R,rfl,rfl,B,C,D,p,G,J⟩:=h;cases L;cases M;obtain⟨E,l,F,_⟩:=I.tuple B;obtain⟨r,i,o,_⟩:=I.tuple C;refine HT.cat_tup F o (λz=>D<|l.nil_iff.mp z) (λz=>#[.ref a,H,I,rfl,G<|i.nil_iff.mp z]) (λz=>?_) (by rw[<-l.length,<-i.length];exact p);refine#[.ref s.heap.objs.size,_,I.laid (t':=s.toks) (λb ob q=>aD _ q) (aO _) ?_,rfl,J (λw=>z<|i.nil_iff.mpr w) _<|I.hok.fresh<|aO _];exact#[by rw[aI];exact p,_,l.append i,IsTup.new _ _]
end
def ixN(n:Nat)(i:Int):Option Nat:=if 0<=i then(if i<n then some i.toNat else none)else if -(n:Int)<=i then some (i+n).toNat else none
def atI{a:Type}(xs:List a)(i:Int):Option a:=(ixN xs.length i).bind λj=>xs[j]?
def aBs(h:ixN n i=some j):seqIndex? i n=some j/\j<n /\ -(n:Int)<=i/\i<n:=by unfold ixN at h;by_cases b:0<=i;rw [if_pos b] at h;by_cases a:i<n;rw [if_pos a] at h;have e:=ozI h;exact#[by rw[seqIndex_of b a,e],by lia,by lia,a];rw[if_neg a]at h;cases h;rw [if_neg b] at h;by_cases a : -(n:Int)<=i;rw [if_pos a] at h;have e:=ozI h;exact#[by rw[seqIndex_neg (Int.lt_of_not_ge b) a,e],by lia,a,by lia];rw[if_neg a]at h;cases h
def xL{v:α}(h:atI xs i=some v):∃j,seqIndex? i xs.length=some j/\xs[j]? = some v/\j<xs.length /\ -(xs.length:Int)<=i/\i<xs.length:=by
 unfold atI at h;cases e:ixN xs.length i with
 |none=>rw[e]at h;cases h
 |some j => rw[e]at h;obtain⟨a,b,c,f⟩:=aBs e;exact#[j,a,h,b,c,f]
def dh_{j:Nat}{v:α}(h:xs[j]? = some v):atI xs (j:Int)=some v:=by
 have a:=(aK.mp h).1;have e:ixN xs.length (j:Int)=some j:=by unfold ixN;rw[if_pos<|Int.natCast_nonneg j,if_pos<|Int.ofNat_lt.mpr a];simp
 unfold atI;rw[e];exact h
def jX(b:Expr):Prop:=∀o i,subscripted b false o i=operate [o,i] (getItem o i)
def IxR(X:Cx)(r:R2):Prop:=
 ∀(b a:Expr) (c:gQ) (s:Shared) (e:St) (H:Hp) (x y:V) (v u:Value) (Q:VK),Inv X c e H s->RelV x v->RelV y u->r x y H Q ->
  subscripted a false v u=operate [v,u] (getItem v u)->wpAny `d X.A (subscriptTail b a v u) (EP X c e Q) X.xe s
def MtR(X:Cx)(f:String)(r:V->Q1->Hp->VK->Prop):Prop:=
 ∀(a:gQ) (s:Shared) (e:St) (H:Hp) (x:V) (c:Q1) (v:Value) (b:Q7) (Q:VK),Inv X a e H s->RelV x v->Vals c b->r x c H Q ->
  wpAny `d X.A (call (.builtin f) (v::b)) (EP X a e Q) X.xe s
section
variable{X:Cx}{a b:Expr}{G F:TE}{E:Pos}
def IxR.or(h:IxR X r)(h':IxR X r'):IxR X<|λx y H Q=>r x y H Q\/r' x y H Q:=by
 intro e c f s l H x y v u Q I i j q g;rcases q with q | q
 exact h e c f s l H x y v u Q I i j q g;exact h' e c f s l H x y v u Q I i j q g
def yX(i:IxR X r)(ha:PE X a G)(g:PE X b F)(j:jX b):PE X (.Subscript a b E)<|tOp r G F:=by intro c s p H Q I h;exact Subscript_<|bAt ha g I h λv u o x y e f l m q=>i a b c o p e x y v u Q f l m q<|j _ _
def aId(K:dN):R2:=λx y H Q=>∃p c i v,x=.ref p/\y=.int i/\SqL K H p c/\atI c i=some v/\Q v H
def aVh(K:dN):R2:=λx y H Q=>∃p c i v,x=.ref p/\y=.int i/\SqT K H p c/\atI c i=some v/\Q v H
def bCv:R2:=λx y H Q=>∃z i c,x=.str z/\y=.int i/\z.length<=sizeLine/\atI z.cps.toList i=some c/\Q (.str #[[c].toArray]) H
def wF:IxR X<|aId X.K:=by
 intro A o J s W H x y v u Q I T U h D;obtain⟨p,k,i,z,rfl,rfl,S,O,q⟩:=h;cases T;obtain⟨t,rfl⟩:=U;obtain⟨g,r,l,d⟩:=I.list S;obtain⟨j,e,L,Y,M,N⟩:=xL O;obtain⟨w,B,m⟩:=r.get L;have R:=r.length;have Z:=mB;have c:EP X J W Q w s:=#[z,H,I,m,q];by_cases C:0<=i;have f:i.toNat=j:=by rw[seqIndex_of C N]at e;exact ozI e
 exact item_listR l.isList C `b (by rw[f];simpa using B) c D;have f:(i + (g.toArray.size:Int)).toNat=j:=by rw[seqIndex_neg `b M]at e;rw[aS,<-R];exact ozI e
 exact subscriptTail_builtinR (x:=w) l.isList.typeIs slot_list_getitem.lookup
  (wpAny_getItem_list_neg l.isList `b (by rw[aS]<;>lia) `b (by rw[f];simpa using B) #[rfl,c]) D
def aZl:IxR X<|aVh X.K:=by
 intro g f m s R H x y v u Q I N O h L;obtain⟨p,Z,i,z,rfl,rfl,J,C,q⟩:=h;cases N;obtain⟨t,rfl⟩:=O;obtain⟨M,r,l,Y⟩:=I.tuple J;obtain⟨j,A,B,S,T,U⟩:=xL C;obtain⟨w,o,e⟩:=r.get B;have D:=r.length;have W:=mB;have c:EP X m R Q w s:=#[z,H,I,e,q];exact subscriptTail_builtinR (x:=w) l.typeIs slot_tuple_getitem.lookup
  (getItem_tuple (j:=j) l `b `b (by rw[aS,<-D];exact A) (by simpa using o) #[rfl,c]) L
def aZm:IxR X bCv:=by
 intro f e L s S H x y v u Q I D J h C;obtain⟨z,i,c,rfl,rfl,O,A,q⟩:=h;obtain⟨t,rfl⟩:=D;obtain⟨R,rfl⟩:=J;obtain⟨j,g,o,M,p,r⟩:=xL A;have B:z.cps.toList.length=z.length:=by simp[Str.length]
 rw[B]at g p r;have N:=mB;exact tail_any (typeIs_str s z t) slot_str_getitem.lookup (getItem_str (c:=c) (by
  have l:decide (i < -(2^63:Int))=false:=by grind
  have m:decide (i>=2^63)=false:=dzF `b;rw[l,m,Bool.or_false]) (by rw[g];simpa using o) #[.str #[[c].toArray],H,I.tok _,`r,q]) C
def n9(c:Q7)(n j:Nat)(u:Value):Obj.mapSeq (·.setIfInBounds j u) { cls:=.type "list",data:=.seq c.toArray n }={ cls:=.type "list",data:=.seq (c.set j u).toArray n }:=by simp[Obj.mapSeq]
def Inv.lst(I:Inv X Aa f H s)(h:H p=some (.lst xs)) :
  ∃(c:Q7) (n:Nat),Vals xs c/\s.heap.get? p=some { cls:=.type "list",data:=.seq c.toArray n }/\xs.length<=sizeLine:=by
 obtain⟨z,c,n,r,e⟩:=I.hok p _ h;exact#[c,n,r,e,z]
def Inv.lstUpd{i:gQ}{l:St}{H:Hp}{s:Shared}{p:Addr}{xs ys:Q1}{c its':Q7}{n g:Nat}{f:Obj->Obj}(I:Inv X i l H s)(h:H p=some (.lst xs))
  (o:s.heap.get? p=some { cls:=.type "list",data:=.seq c.toArray n }) (j:f { cls:=.type "list",data:=.seq c.toArray n }={ cls:=.type "list",data:=.seq its'.toArray g }) (r:Vals ys its') (hz:ys.length<=sizeLine) (t:Nat) :
  Inv X i l (upd H p<|.lst ys) { s with heap:=s.heap.update p f,toks:=t }:=by
 have e:(s.heap.update p f).get? p=some { cls:=.type "list",data:=.seq its'.toArray g }:=by rw[cE f o (by rw[j]<;>rfl),j]
 refine I.write (x:=p) (e:=p) (by rw[h];trivial) (.inl rfl) (λb u m q=>(bD _ _<|Ne.symm m).trans q) #[_,e] ?_;exact#[hz,its',g,r,e]
def aSe:V->V->V->Hp->(Hp->Prop)->Prop:=λo i v H Q=>∃p c k j,o=.ref p/\i=.int k/\H p=some (.lst c)/\ixN c.length k=some j/\Q (upd H p<|.lst<|c.set j v)
def yK:bGc X aSe:=by
 intro N s W H o i v T S u Q I L J M h;obtain⟨p,U,k,j,rfl,rfl,B,C,q⟩:=h;cases L;obtain⟨t,rfl⟩:=J;obtain⟨c,n,r,l,D⟩:=I.lst B;obtain⟨e,O,z,A⟩:=aBs C;have g:=r.length;have R:=mB;have m:=
  I.lstUpd B l (n9 c n j u) (r.set M j) (by rw[bS];exact D) s.toks
 by_cases y:0<=k;have f:k.toNat=j:=by rw[seqIndex_of y A]at e;exact ozI e
 exact PySem.W.ki_setAt l y `b (by rw[aS,<-g];exact A) (by rw[f];exact#[_,m,q]);have f:(k + (c.toArray.size:Int)).toNat=j:=by rw[seqIndex_neg `b z]at e;rw[aS,<-g];exact ozI e
 exact PySem.W.ki_setBack l `b (by rw[aS,<-g];exact z) `b (by rw[f];exact#[_,m,q])
def uW(e c:S4)(n:Nat):(sliceBounds e c none n).1=((HT.sIx n 0 e:Nat):Int)/\(sliceBounds e c none n).2.1=((HT.sIx n n c:Nat):Int)/\(sliceBounds e c none n).2.2=1:=by
 refine#[?_,?_,rfl];cases e with
 |none=>exact Int.mem_toNat?.mp rfl
 |some i =>
  simp only[sliceBounds,HT.sIx,Option.getD_none,show(1:Int)>0 by decide,if_true];by_cases h:i<0;simp only[h,if_true]<;>lia
  simp only[h,if_false]<;>lia
 cases c with
 |none=>exact Int.mem_toNat?.mp rfl
 |some i =>
  simp only[sliceBounds,HT.sIx,Option.getD_none,show(1:Int)>0 by decide,if_true];by_cases h:i<0;simp only[h,if_true]<;>lia
  simp only[h,if_false]<;>lia
def rJ(c:Q7)(e f:S4):slicePick c.toArray e f none=((c.drop<|HT.sIx c.length 0 e).take<|HT.sIx c.length c.length f-HT.sIx c.length 0 e).toArray:=by obtain⟨g,h,i⟩:=uW e f c.toArray.size;unfold slicePick;rw[g,h,i];simp only[sliceRange_one,pick_run,aS]<;>rfl
def bCs(K:dN):V->S4->S4->Hp->VK->Prop:=λx f e H Q=>∃a c,x=.ref a/\SqL K H a c/\∀p,H p=none->Q (.ref p) (upd H p<|.lst<|c6 c f e)
def aNy:SlR X<|bCs X.K:=by intro z s D H x v B C e f A Q I y j p u h;obtain⟨a,c,rfl,l,q⟩:=h;cases y;obtain⟨o,r,g,m⟩:=I.list l;have i:=r.length;refine#["list",_,slot_list_getitem.lookup,g.isList.typeIs,?_];refine wpAny_getItem_list_slice g.isList j p u .none `h ?_ (by rw[aS]<;>lia);rw[rJ,<-i];refine#[.ref s.heap.objs.size,_,I.laid (t':=s.toks) (λb ob q=>aD _ q) (aO _) ?_,rfl,q _<|I.hok.fresh<|aO _];exact#[nzL (lf_ c e f) m,_,0,(r.drop<|HT.sIx c.length 0 e).take<|HT.sIx c.length c.length f-HT.sIx c.length 0 e,aW _ rfl]
def jZ:V->Bool
 | .non=>true
 | .bl _=>true
 | .int _=>true
 | .str _=>true
 |_=>false
def eqV:V->V->Bool
 | .non,.non=>true
 | .bl a,.bl b=>a == b
 | .bl a,.int b=>(if a then 1 else 0) == b
 | .int a,.bl b=>a == (if b then 1 else 0)
 | .int a,.int b=>a == b
 | .str a,.str b=>a == b
 |_,_=>false
def bAc(f:RelV y u)(c:RelV x v)(g:jZ y=true)(fx:jZ x=true):SeqAt.EqAt A s u v<|eqV y x:=by
 cases y with
 |non =>
  cases f;cases x with
  |non=>cases c;exact SeqAt.EqAt.same _
  |bl b=>cases c;exact SeqAt.EqAt.none_bool b
  |int b=>obtain⟨t,rfl⟩:=c;exact SeqAt.EqAt.none_int b t
  |str b=>obtain⟨t,rfl⟩:=c;exact SeqAt.EqAt.none_str b t
  |_=>exact absurd (fx) bJ
 |bl a =>
  cases f;cases x with
  |non=>cases c;exact SeqAt.EqAt.bool_none a
  |bl b=>cases c;exact SeqAt.EqAt.bool_bool a b
  |int b=>obtain⟨t,rfl⟩:=c;exact SeqAt.EqAt.bool_int a b t
  |str b=>obtain⟨t,rfl⟩:=c;exact SeqAt.EqAt.bool_str a b t
  |_=>exact absurd (fx) bJ
 |int a =>
  obtain⟨e,rfl⟩:=f;cases x with
  |non=>cases c;exact SeqAt.EqAt.int_none a e
  |bl b=>cases c;exact SeqAt.EqAt.int_bool a e b
  |int b=>obtain⟨t,rfl⟩:=c;exact SeqAt.EqAt.int_int a e b t
  |str b=>obtain⟨t,rfl⟩:=c;exact SeqAt.EqAt.int_str a e b t
  |_=>exact absurd (fx) bJ
 |str a =>
  obtain⟨e,rfl⟩:=f;cases x with
  |non=>cases c;exact SeqAt.EqAt.str_none a e
  |bl b=>cases c;exact SeqAt.EqAt.str_bool a e b
  |int b=>obtain⟨t,rfl⟩:=c;exact SeqAt.EqAt.str_int a e b t
  |str b=>obtain⟨t,rfl⟩:=c;exact SeqAt.EqAt.str_str a e b t
  |_=>exact absurd (fx) bJ
 |_=>exact absurd (g) bJ
def eqU(x:V)(u:Value):Bool:=match u with
 | .none=>eqV .non x
 | .bool b=>eqV (.bl b) x
 | .int i _=>eqV (.int i) x
 | .str z _=>eqV (.str z) x
 |_=>false
def aLt(r:RelV y u)(f:jZ y=true):eqU x u=eqV y x:=by
 cases y with
 |non=>cases r;rfl
 |bl b=>cases r;rfl
 |int i=>obtain⟨t,rfl⟩:=r;rfl
 |str z=>obtain⟨t,rfl⟩:=r;rfl
 |_=>exact absurd (f) bJ
def ll_:∀{xs} {us},Vals xs us->xs.all jZ=true->us.any (eqU x)=xs.any λy=>eqV y x
 |_,_,.nil,_=>rfl
 |y::xs,u::us,.cons r t,f=>by rw[List.all_cons,cI]at f;rw[iN,iN,aLt r f.1,ll_ t f.2]
def ht_(e:RelV x v)(fx:jZ x=true):∀{xs} {us},Vals xs us->xs.all jZ=true->∀u∈us,SeqAt.EqAt A s u v (eqU x u)
 |_,_,.nil,_=>λu c=>by cases c
 |y::xs,u::us,.cons r t,f=>λg c=>by
  rw[List.all_cons,cI]at f;rcases aF.mp c with rfl | c
  rw[aLt r f.1];exact bAc r e f.1 fx;exact ht_ e fx t f.2 g c
def inV(x:V)(xs:Q1):Bool:=xs.any λy=>eqV y x
def rIn(K:dN)(e:Bool):R2:=λx y H Q=>∃p c,y=.ref p/\(SqL K H p c\/SqT K H p c)/\jZ x=true/\c.all jZ=true/\Q (.bl (if e then !inV x c else inV x c)) H
def aEb:OpR X (compareOp .In)<|rIn X.K false:=by
 intro m s z H x y v u Q I i l h;obtain⟨p,o,rfl,e,fx,fs,q⟩:=h;cases l;rcases e with e | e
 obtain ⟨c,r,g,j⟩:=I.list e;refine SeqAt.in_listAt (eqU x) g.isList (λw f=>ht_ i fx r fs w<|by simpa using f) #[.bl _,H,I,rfl,?_];rw[show c.toArray.any (eqU x)=c.any (eqU x) by simp,ll_ r fs];exact q;obtain ⟨c,r,g,j⟩:=I.tuple e;refine SeqAt.in_tupleAt (eqU x) g (λw f=>ht_ i fx r fs w<|by simpa using f) #[.bl _,H,I,rfl,?_];rw[show c.toArray.any (eqU x)=c.any (eqU x) by simp,ll_ r fs];exact q
def vQ:OpR X (compareOp .NotIn)<|rIn X.K true:=by
 intro m s z H x y v u Q I i l h;obtain⟨p,o,rfl,e,fx,fs,q⟩:=h;cases l;rcases e with e | e
 obtain ⟨c,r,g,j⟩:=I.list e;refine SeqAt.notIn_listAt (eqU x) g.isList (λw f=>ht_ i fx r fs w<|by simpa using f) #[.bl _,H,I,rfl,?_];rw[show c.toArray.any (eqU x)=c.any (eqU x) by simp,ll_ r fs];exact q;obtain ⟨c,r,g,j⟩:=I.tuple e;refine SeqAt.notIn_tupleAt (eqU x) g (λw f=>ht_ i fx r fs w<|by simpa using f) #[.bl _,H,I,rfl,?_];rw[show c.toArray.any (eqU x)=c.any (eqU x) by simp,ll_ r fs];exact q
def jU:CallR X (.builtin "len") (λxs H Q=>∃p ys,xs=[.ref p]/\(SqL X.K H p ys\/SqT X.K H p ys)/\Q (.int ys.length) H):=by
 intro m s y H xs v Q I r h;obtain⟨p,ys,rfl,c,q⟩:=h;obtain⟨u,rfl,l⟩:=jK r;cases l;have o:=mB;rcases c with c | c
 obtain ⟨f,i,g,j⟩:=I.list c;have e:=i.length;exact Calls.call_len_list g.isList (by simp only[aS]<;>lia) #[.int ys.length,H,I.tok _,#[s.toks+1,by rw[aS,e]],q];obtain ⟨f,i,g,j⟩:=I.tuple c;have e:=i.length;exact len_tuple g (by simp only[aS]<;>lia) #[.int ys.length,H,I.tok _,#[s.toks+1,by rw[aS,e]],q]
def xG:CallR X (.builtin "len") (λxs H Q=>∃z,xs=[.str z]/\z.length<=sizeLine/\Q (.int z.length) H):=by intro c s i H xs g Q I r h;obtain⟨z,rfl,f,q⟩:=h;obtain⟨u,rfl,t,rfl⟩:=jK r;have e:=mB;exact len_str `b #[.int z.length,H,I.tok _,`r,q]
def CallR.or(h:CallR X f r)(h':CallR X f r'):CallR X f<|λxs H Q=>r xs H Q\/r' xs H Q:=by
 intro c s i H xs g Q I e q;rcases q with q | q
 exact h c s i H xs g Q I e q;exact h' c s i H xs g Q I e q
def xE:CallR X (.type "list") (λxs H Q=>∃p ys,xs=[.ref p]/\(SqL X.K H p ys\/SqT X.K H p ys)/\∀l,H l=none->Q (.ref l) (upd H l<|.lst ys)):=by
 intro J s N H xs O Q I r h;obtain⟨p,ys,rfl,m,q⟩:=h;obtain⟨u,rfl,M⟩:=jK r;cases M;have j:∀(c:Q7),Vals ys c->ys.length<=sizeLine->∀(f:Heap) (g:Nat),(∀b D,s.heap.get? b=some D->f.get? b=some D) ->
   f.get? s.heap.objs.size=some { cls:=.type "list",dict:=none,data:=.seq c.toArray g,slots:= [].toArray }->EP X J N Q `o { s with heap:=f }:=λc i v f g y e =>
  #[.ref s.heap.objs.size,_,I.laid (t':=s.toks) y (aO _)<|show ObjOk X.prog X.w _ f _ (.lst ys)from#[v,c,g,i,e],rfl,q _<|I.hok.fresh<|aO _]
 rcases m with m | m
 obtain ⟨c,i,C,v⟩:=I.list m;have L:=i.length;obtain⟨o,B,z,n,A⟩:=C.isList;exact call_list_seq p (.inl rfl) B z A (λf g y e=>j c i v f g y e) (by simp only[aS]<;>lia);obtain ⟨c,i,C,v⟩:=I.tuple m;have L:=i.length;obtain⟨o,B,z,n,A⟩:=C;exact call_list_seq p (.inr rfl) B z A (λf g y e=>j c i v f g y e) (by simp only[aS]<;>lia)
def rQ:CallR X (.type "tuple") (λxs H Q=>∃p ys,xs=[.ref p]/\((SqL X.K H p ys/\∀l,H l=none->Q (.ref l) (upd H l<|.tup ys))\/(SqT X.K H p ys/\Q (.ref p) H))):=by
 intro B s J H xs D Q I r h;obtain⟨p,ys,rfl,h⟩:=h;obtain⟨u,rfl,A⟩:=jK r;cases A;rcases h with⟨f,q⟩ | ⟨f,q⟩
 obtain ⟨c,i,g,m⟩:=I.list f;have C:=i.length;refine call_tuple_list g.isList (λy z=>?_) (by simp only[aS]<;>lia);have j:=I.kept (t':=s.toks) z;have v:=
  j.laid (t':=s.toks) (λb o e=>aD _ e) (aO _) (show ObjOk X.prog X.w _ _ _ (.tup ys)from#[m,c,i,IsTup.new _ _])
 exact#[.ref y.objs.size,_,v,rfl,q _<|j.hok.fresh<|aO _];obtain ⟨c,i,g,m⟩:=I.tuple f;exact call_tuple_same g #[.ref p,H,I,rfl,q]
def tyV(K:dN)(T:String)(x:V)(H:Hp):Prop:=match x with
 | .str _=>T = "str"
 | .int _=>T = "int"
 | .ref p => (T = "list" ∧ ∃ e, SqL K H p e) ∨ (T = "tuple" ∧ ∃ o, K.lookup p = some o ∧ o.cls = .type "tuple" ∧ o.dict = none) ∨
   (T = "dict" /\ ((∃c,H p=some (.dK c))\/∃c,H p=some (.dT c)))\/(T = "set" /\ ∃S n,H p=some (.set S n))
 |_=>False
def aHh(I:Inv X Aa y H s)(r:RelV x v)(ty:tyV X.K T x H) :
  s.TypeIs v T/\∀a,v=.ref a->∃ob,s.heap.get? a=some ob/\ob.dict=none:=by
 cases x with
 |str z => obtain⟨t,rfl⟩:=r;cases(ty);exact#[typeIs_str s z t,λ_ e=>nomatch e]
 |int i => obtain⟨t,rfl⟩:=r;cases(ty);exact#[typeIs_int s i t,λ_ e=>nomatch e]
 |ref p =>
  cases r;rcases ty with⟨rfl,A,q⟩ | ⟨rfl,o,f,m,h⟩ | ⟨rfl,f⟩ | ⟨rfl,S,n,f⟩
  obtain ⟨u,_,l,_⟩:=I.list q;refine#[l.isList.typeIs,λa e=>?_];cases e;obtain⟨o,n,e,c,h,_⟩:=l;exact#[o,e,h];refine #[#[o,I.kIn p o f,m],fun a e => ?_];cases e;exact#[o,I.kIn _ o f,h];have z:∃ o,s.heap.get? p=some o∧o.ExactDict:=by
   rcases f with⟨j,f⟩ | ⟨j,f⟩
   obtain ⟨_,_,_,_,o,_,_,e,ex,_⟩:=I.hok p _ f;exact#[o,e,ex];obtain ⟨_,_,_,_,o,_,_,e,ex,_⟩:=I.hok p _ f;exact#[o,e,ex]
  obtain⟨o,e,ex⟩:=z;refine#[#[o,e,ex.1],λa g=>?_];cases g;exact#[o,e,ex.2.1];obtain ⟨o,_,_,_,e,ex,_⟩:=I.hok p _ f;refine#[#[o,e,ex.1],λa g=>?_];cases g;exact#[o,e,ex.2.1]
 |_=>exact False.elim ty
def aUw(K:dN)(T:String)(r:V->Q1->Hp->VK->Prop)(to:TE):TE:=λe H Q=>to e H λx c=>tyV K T x c/\r x [] c Q
def tBM(K:dN)(T:String)(r:V->Q1->Hp->VK->Prop)(to:TE)(t:TA):TE:=λe H Q=>to e H λx c=>tyV K T x c/\t e c λg f=>r x g f Q
variable{o e:Expr}{D:S3}{to:TE}{t:TA}{m:Str}{B g:Pos}{T C:String}{r:V->Q1->Hp->VK->Prop}
def aJc(N:PlainAttrs T)(c:Slot T m C)(z:typeOf (.builtin C)=pure (.type "method_descriptor"))(L:MtR X C r)(M:PE X o to)
  (u:attributeBase o m X.env (eval o X.env)=eval o X.env:=by rfl) (q:(B.endLine == g.line)=true:=by rfl):PE X (.Call (.Attribute o m B) [] [] g)<|aUw X.K T r to:=by
 intro f s l H Q I h;refine wpAny_Call_method0_late u q<|dY (M f s l H _ I h) λv R p=>?_;obtain⟨x,y,i,j,ty,O⟩:=p;obtain⟨A,J⟩:=aHh i j ty;exact#[T,C,N,c,z,A,J,Calls.callWith_builtin rfl<|PySem.evalArgs_none<|L f R l y x [] v [] Q i j .nil O]
def aJd(Y:PlainAttrs T)(c:Slot T m C)(M:typeOf (.builtin C)=pure (.type "method_descriptor"))(S:MtR X C r)(U:PE X o to)(ha:PA X (e::D) t)
  (y:attributeBase o m X.env (eval o X.env)=eval o X.env:=by rfl)
  (N:((backTo g<|starEach (e :: D) X.env).all (fun x => !x.1) && (backToKw g<|keywordEach [] X.env).all (fun x=>x.1.isSome)
   && decide ((e::D).length+([]:List Keyword).length+(if([]:List Keyword).isEmpty then 0 else 1)<30))=true:=by rfl)
  (u:(B.endLine == g.line)=true:=by rfl) (W:T5 X e D:=by rfl) (J:T6 X g D:=by rfl) :
  PE X (.Call (.Attribute o m B) (e::D) [] g) (tBM X.K T r to t):=by
 intro f s j H Q I h;refine wpAny_Call_method_late y N u rfl<|dY (U f s j H _ I h) λv n i=>?_;obtain⟨x,z,l,q,ty,Z⟩:=i;obtain⟨O,R⟩:=aHh l q ty;refine#[T,C,Y,c,M,O,R,?_];have p:=ha g f n j z _ l Z;rw[W]at p ⊢;refine Calls.callWith_builtin (by show(false||(backTo g<|starEach D X.env).any (·.1))=false;rw[J]<;>rfl)<|Calls.evalArgs_plain ?_;refine dY p λus V i=>?_;obtain⟨vs,A,L,k,d⟩:=i;exact S f V j A x vs v us Q L q k d
end
def MtM(X:Cx)(f:String)(r:V->Q1->Hp->VK->Prop):Prop:=
 ∀(a:gQ) (s:Shared) (e:St) (H:Hp) (x:V) (c:Q1) (v:Value) (b:Q7) (Q:VK),Inv X a e H s->RelV x v->Vals c b->r x c H Q ->
  wpAny `d X.A (call (.builtin f) (v::b)) (EP X a e Q) X.xe s
def Vals.one:∀{x:V} {us},Vals [x] us->∃u,us=[u]/\RelV x u
 |_,_,.cons r .nil=>#[_,rfl,r]
def Vals.two:∀{x y:V} {us},Vals [x,y] us->∃u v,us=[u,v]/\RelV x u/\RelV y v:=by
 intro x y us h;cases h with
 |cons r t=>cases t with
  |cons q z=>cases z;exact#[_,_,rfl,r,q]
def Vals.zero:∀{us},Vals [] us->us=[]
 |_,.nil=>rfl
def Vals.dropLast(h:Vals xs us):Vals xs.dropLast us.dropLast:=by
 induction h with
 |nil=>exact .nil
 |cons r t a =>
  cases t with
  |nil=>exact .nil
  |cons q b=>exact .cons r a
def Vals.eraseIdx:∀{xs} {us} (i:Nat),Vals xs us->Vals (xs.eraseIdx i) (us.eraseIdx i)
 |_,_,_,.nil=>.nil
 |_,_,0,.cons _ t=>t
 |_,_,i+1,.cons r t=>.cons r<|Vals.eraseIdx i t
def Vals.reverse(h:Vals xs us):Vals xs.reverse us.reverse:=by
 induction h with
 |nil=>exact .nil
 |cons r t a=>rw[List.reverse_cons,List.reverse_cons];exact Vals.append a<|.cons r .nil
def Vals.rep(h:Vals xs us):∀k:Nat,Vals (List.replicate k xs).flatten (List.replicate k us).flatten
 | 0=>.nil
 |k+1=>by exact Vals.append h<|Vals.rep h k
def r_{f:Type}(l:List f):l.eraseIdx (l.length-1)=l.dropLast:=by
 induction l with
 |nil=>rfl
 |cons a r c =>
  cases r with
  |nil=>rfl
  |cons b r =>
   have e:(a::b::r).length-1=((b::r).length-1)+1:=by exact Nat.add_one_sub_one (b::r).length
   rw[e,List.eraseIdx_cons_succ,c]
   all_goals rfl
def tL(a:Q7):∀(k:Nat) (b:Q7),
  List.foldl (λf g=>f++g) b.toArray (List.replicate k a.toArray)=(b++(List.replicate k a).flatten).toArray
 | 0,b=>by simp
 |k+1,b=>by
  have e:b.toArray++a.toArray=(b++a).toArray:=by simp
  have c:(b++a)++(List.replicate k a).flatten=b++(List.replicate (k+1) a).flatten:=by grind
  rw[<-c,<-tL a k (b++a),<-e,fA,List.foldl_cons]
section
variable{X:Cx}{c:gQ}{a:St}{H:Hp}{s:Shared}{l b:Addr}{xs ys zs:Q1}
def Inv.lset{g its':Q7}{n}{f}{t'}(I:Inv X c a H s)(h:H l=some (.lst xs))
  (e:s.heap.get? l=some { cls:=.type "list",data:=.seq g.toArray n }) (j:f g.toArray=its'.toArray) (hv:Vals ys its') (hz:ys.length<=sizeLine) :
  Inv X c a (upd H l<|.lst ys) { s with heap:=s.heap.update l<|Obj.mapSeq f,toks:=t' }:=by
 have q:=PySem.IsL.update e f;rw[j]at q;refine I.write (x:=l) (e:=l) (by rw[h];exact trivial) (.inl rfl) (λo u i m=>(bD s.heap (Obj.mapSeq f)<|Ne.symm i).trans m) #[_,q] ?_;exact#[hz,its',_,hv,q]
def Inv.lnew(I:Inv X c a H s)(hv:Vals ys its)(hz:ys.length<=sizeLine) :
  Inv X c a (upd H s.heap.objs.size<|.lst ys) { s with heap:=s.heap.push { cls:=.type "list",data:=.seq its.toArray },toks:=t' }:=
 I.laid (λ_ _ q=>aD _ q) (aO _) #[hz,its,0,hv,aW _ rfl]
def Inv.fresh(I:Inv X c a H s):H s.heap.objs.size=none:=I.hok.fresh<|aO _
def Inv.lstM(I:Inv X c a H s)(g:H l=some (.lst xs)):xs.length<=sizeLine/\∃(f:Q7) (n:Nat),Vals xs f/\xs.length=f.length/\s.heap.get? l=some { cls:=.type "list",data:=.seq f.toArray n }:=by obtain⟨z,f,n,r,e⟩:=I.hok l _ g;exact#[z,f,n,r,r.length,e]
def aJy(h:n<=sizeLine):Builtin.List.listTooLong n=false:=by exact dzF<|Nat.not_lt.mpr h
end
section
variable{X:Cx}
def mZ:V->Q1->Hp->VK->Prop:=λx b H Q=>∃l a y,x=.ref l/\b=[y]/\H l=some (.lst a)/\a.length<sizeLine/\Q .non (upd H l<|.lst<|a++[y])
def sV:MtM X "list.append" mZ:=by intro j s B H x p v o Q I i g h;obtain⟨l,A,y,rfl,rfl,b,c,q⟩:=h;cases i;obtain⟨u,rfl,f⟩:=g.one;obtain⟨z,a,n,r,m,e⟩:=I.lstM b;refine call_meets F.slot_list_append #[_,e,rfl] F.entry_list_append (F.args_list_append_2 _ _) (PySem.list_append l a.toArray n u (by rw[aS];lia)) #[e,?_];refine#[.non,_,I.lset (its':=a++[u]) b e (List.push_toArray a u) (r.append<|.cons f .nil) ?_,rfl,q];rw[aI,jN];exact W.kdl_size c
def bCu:V->Q1->Hp->VK->Prop:=λx b H Q=>∃l a y,x=.ref l/\b=[]/\H l=some (.lst a)/\a[a.length-1]? = some y/\Q y (upd H l<|.lst a.dropLast)
def aYv:MtM X "list.pop" bCu:=by
 intro A s E H x C v B Q I p o h;obtain⟨l,D,y,rfl,rfl,c,j,q⟩:=h;cases p;have f:=o.zero;subst f;obtain⟨z,a,n,r,g,e⟩:=I.lstM c;obtain⟨u,i,m⟩:=r.get j;have b:a.toArray[a.toArray.size-1]? = some u:=by show a.toArray[a.length-1]? = some u;rw[<-Array.getElem?_toList,<-g];exact i
 refine call_meets F.slot_list_pop #[_,e,rfl] F.entry_list_pop (F.args_list_pop_1 _) (MeetsSeq.list_pop_last l a.toArray n u b (by rw[aS];lia)) #[e,?_];refine#[y,_,I.lset (its':=a.dropLast) c e ?_ r.dropLast ?_,m,q];rw[aS,List.eraseIdxIfInBounds_toArray,r_];rw [List.length_dropLast];lia
def bIn:R2:=λx y H Q=>∃l b a c,x=.ref l/\y=.ref b/\H l=some (.lst a)/\H b=some (.lst c)/\a.length+c.length<=sizeLine/\∀p,H p=none->Q (.ref p) (upd H p<|.lst<|a++c)
def aWs:OpR X (binaryOp .Add) bIn:=by
 intro A s L H x y v u Q I o p h;obtain⟨l,b,F,J,rfl,rfl,j,i,D,q⟩:=h;cases o;cases p;obtain⟨z,c,n,r,C,e⟩:=I.lstM j;obtain⟨G,a,E,m,B,f⟩:=I.lstM i;refine PySem.P.add_list e f ?_ (by rw[aS,aS];lia);have g:c.toArray++a.toArray=(c++a).toArray:=by simp
 rw[g];exact#[.ref _,_,I.lnew (t':=s.toks) (r.append m) (by rw[aI];lia),rfl,q _ I.fresh]
def bIm:R2:=λx y H Q=>∃l k a,x=.ref l/\y=.int k/\H l=some (.lst a) /\ -(2^63)<=k/\k<2^63/\a.length*k.toNat<=sizeLine /\
 ∀p,H p=none->Q (.ref p) (upd H p<|.lst (List.replicate k.toNat a).flatten)
def aPq{b:Type}(xs:List b)(k:Nat):(List.replicate k xs).flatten.length=k*xs.length:=by
 induction k with
 |zero=>simp
 |succ k a=>rw[fA,List.flatten_cons,aI,a,Nat.succ_mul,Nat.add_comm]
def aWo:OpR X (binaryOp .Mult) bIm:=by
 intro N s S H x y v u Q I E G h;obtain⟨l,k,R,rfl,rfl,C,A,B,c,q⟩:=h;cases E;obtain⟨t,rfl⟩:=G;obtain⟨z,b,n,r,D,e⟩:=I.lstM C;have f:b.toArray.size*k.toNat<=sizeLine:=by rw[aS,<-D];exact c
 have o:¬b.toArray.size*k.toNat>(2^63-1)/8:=by
  have:(sizeLine:Nat)<=(2^63-1)/8:=by decide
  lia
 have i:¬(!Builtin.List.listFitsIndex k)=true:=by rw[fitsIndex_both A B];exact bJ
 have j:¬Builtin.List.listTooLong (b.toArray.size*k.toNat)=true:=by rw[aJy f];exact bJ
 have g:List.foldl (λL M=>L++M) [].toArray (List.replicate (if b.toArray.isEmpty=true then 0 else k.toNat) b.toArray)=(List.replicate k.toNat b).flatten.toArray:=by
  have p:=λm=>by have:=tL b m [];rw[bU]at this;exact this
  rw[p];cases b with
  |nil=>simp
  |cons a O=>rw[if_neg `h]
 refine wpAny_binaryOp_repeat_ref (U:= "int") rfl #[_,e,rfl] (λJ=>typeIs_int J k t) noFill_list_mul F.fills_int_mul F.slot_int_rmul repeat_list F.slot_int_index.lookup
  (call_meets F.slot_int_rmul (typeIs_int s k t) F.entry_int_rmul (F.args_int_rmul_2 _ _) (int___rmul___int_list k t l b.toArray n)
   #[e,rfl,#[_,e,rfl],call_meets F.slot_list_mul #[_,e,rfl] F.entry_list_mul (F.args_list_mul_2 _ _) (AutoListH.list___mul___list_int_3 l b.toArray n k t i o j) #[e,?_]])
 rw[g];exact#[.ref _,_,I.lnew (t':=s.toks) (r.rep k.toNat) (by rw[aPq,Nat.mul_comm];exact c),rfl,q _ I.fresh]
end
end L2
namespace Att
open PySem PySem.W PySem.Calls PyProof.Rows
def kz_{P}:∀(c:Q6) (vs:Q7),WellAll P h vs (c.map WData.int)->IntsAre vs c:=by
 intro c
 induction c with
 |nil => intro vs w;cases w;exact .nil
 |cons n c e =>
  intro vs w;cases w with
  |cons a b => cases a;exact .cons _ _<|e _ b
def aDo{l:OpenLaw}(v:l.most=some n){P}
  (g:l.row.toRowW.claim.pre args=true) (o:WellAll P h lU args) :
  ∃a vs b,lU=[Value.ref a]/\args=[WData.list<|b.map WData.int]/\h.get? a=some { cls:=.type "list",data:=.seq vs.toArray }/\IntsAre vs b/\b.length<=n:=by
 have f:=(pre_splitW g).1;have i:l.pre.holds [] { args:=args }=true:=(pre_splitW g).2;obtain⟨d,r,rfl,p,s⟩:=hasAllW_cons f;obtain rfl:=hasAllW_nil s;obtain⟨B,rfl,u⟩:=hasW_list p;obtain⟨b,rfl⟩:=items_int u;have j:b.length<=n:=by
  unfold OpenLaw.pre at i;have c:(WTm.not<|.lt (.lit<|.int (n:Int))<|.len<|.arg 0).holds [] { args:=[.list<|b.map .int] }=true:=by have c:=(holds_andW i).1;rw[v]at c;exact c
  have e:=condW_of c<|w_not<|w_lt w_lit<|w_len_list<|w_arg rfl;refine iB λq=>?_
  first
   |(rw[dzT q']at e;exact absurd e rfl)
   |(simp at e;lia)
 cases o with
 |cons z A =>
  cases A;cases z with
  |list y m=>exact#[_,_,b,rfl,rfl,y,kz_ b _ m,j]
def aDu(l:OpenLaw)(args:List WData):l.row.toRowW.claim.post args (.bool true) args=true:=
 postW_of
  (show WShape.has [] (.bool true) .bool=true by first | rfl | decide | simp[WShape.has,WShape.arms,WShape.armsAll])
  (w_eq_bool (w_res rfl) w_lit) rfl
def attach_call{l:OpenLaw}{n:Nat}{q:Program}{c:Q3}{u:(Str->Option Value)->Heap->Prop}{v:World->Heap->Prop}{d:DefRec}
  (U:l.most=some n) (J:d.params.defaults=[])
  (call:∀ (w:World) (e b:Shared) (mg p:mH) (h:Addr) (o:Obj) (s i g:Value) (a:Addr) (vs:Q7) (j:Q6),
   Ground q c [] u w e mg p b.heap->v w b.heap ->
   b.heap.get? h=some o->o.data=.func (docDef d.name d.params d.body d.scope s i g)->b.heap.CodeRec i d.name->mg d.name=some (.ref h) ->
   b.heap.get? a=some { cls:=.type "list",data:=.seq vs.toArray }->IntsAre vs j->j.length<=n->b.gens = [].toArray ->
   codeAny (model l.prog w) callerA (.call (.ref h) #[[.ref a],[]]) (λr m=>r=.ok (.ret<|.bool true)/\OldK b.heap m.heap/\m.os=b.os/\AllBare m.gens) b) :
  WalkO q c u v l.row.toRowW d [] (λf vs=>PySem.call f vs):=by
 intro w e b mg p G Y h o s i g L kV W Q C z I R y lU k E A Z H S;obtain rfl:L=.none:=Dflts.none z J;obtain rfl:kV=.none:=Dflts.noKw z;obtain⟨a,vs,j,rfl,rfl,F,D,B⟩:=aDo U E H;refine enter_call<|codeAny_mono (call w e b mg p h o s i g a vs j G Y W (fd_plain Q) C I F D B R) λr m X=>?_;obtain⟨rfl,M,N,O⟩:=X;exact#[.inl #[.bool true,.bool true,[],rfl,λ_=>rfl,.bool true,aDu l _,λ_=>#[List.Pairwise.nil,λ_ T=>(nomatch T)]],M,N,O]
end Att
namespace L2
open PySem PySem.Spec PyProof.Rows
def sA:∀{vs} {a},IntsAre vs a->Vals (a.map V.int) vs
 |_,_,.nil=>.nil
 |_,_,.cons n t h=>.cons #[t,rfl]<|sA h
def bAv(H:Hp):Prop:=∀b,H b=none\/∃o a,H b=some (.frz o<|.lst a)
def aKj
  (Q:K.In c.heap) (O:c.heap.Ns mainGlobals mg) (g:c.heap.Ns builtinsNs M) (J:∀x:Str,x ≠ "__name__" -> M x=bootBuiltins x) (Ms:c.heap.NoLimit) (hg:c.gens = [].toArray)
  (ha:c.heap.get? a=some { cls:=.type "list",data:=.seq vs.toArray }) (W:IntsAre vs D) (X:D.length<=sizeLine) (hr:Room k callerA)
  (F:∀base:Heap,K.In base->base.Ns mainGlobals mg->FnOk P w K mg base CX k I fd [x] sp) (Kf:∀(s:Shared) (u:Value),BindsTo s fd #[[u],[]] [(x,u)])
  (Z:∀H:Hp,bAv H->SqL K H a (D.map V.int)->sp [.ref a] H (λv _=>v=.bl true) λ_ _ _=>False)
  (N1:∀H e i,CX [] H c (λ_ _ _=>False) e i->False) :
  codeAny (model P w) callerA (.call (.ref I) #[[.ref a],[]]) (λr i=>r=.ok (.ret<|.bool true)/\OldK c.heap i.heap/\i.os=c.os/\AllBare i.gens) c:=by
 have Y:=sA W;have C:=W.length;have l:∀H:Hp,bAv H->SqL K H a (D.map V.int)->HOk P w H c.heap->(∀b,H b≠none->b=a)->(H a≠none->K.lookup a=none) ->
   codeAny (model P w) callerA (.call (.ref I) #[[.ref a],[]]) (λr i=>r=.ok (.ret<|.bool true)/\OldK c.heap i.heap/\i.os=c.os/\AllBare i.gens) c:=by
  intro H U hS B T hK;have f:∀{b:Addr} {o:Obj},c.heap.get? b=some o->H b=none->(wK c.heap H).get? b=some o:=λe n=>aKy e n;have N:∀{b:Addr} {o:Obj} {A:Array DictEntry} {y:Nat},c.heap.get? b=some o->o.data=.dict A y->H b=none:=λ{b o A y} e d=>by
   cases q:H b with
   |none=>rfl
   |some u => have G:b=a:=T b (by rw[q];simp);subst G;rw[ha]at e;cases e;have d':Data.seq vs.toArray _=Data.dict A y:=d;cases d'
  have j:∀{b:Addr} {m:mH},c.heap.Ns b m->(wK c.heap H).Ns b m:=λ{b m} ⟨o,A,y,e,d,r⟩=>#[o,A,y,f e<|N e d,d,r];have R:K.In<|wK c.heap H:=λb o e=>f (Q b o e) (by
   cases q:H b with
   |none=>rfl
   |some u => have G:b=a:=T b (by rw[q];simp);subst G;rw[hK (by rw[q];simp)]at e;cases e)
  have hM:Mod K mg<|wK c.heap H:=#[R,j O,#[M,j g,J],let ⟨mc,h1,h2⟩:=Ms;#[mc,j h1,h2]];have e0:Env0 P w K mg (wK c.heap H) callerA [] c H:=#[rfl,hM,λb o e=>aPi e,jA<|aEw _ _,trivial,λb g=>absurd (show b∈([]:R9)from g) `h,B,.of_eq hg];refine codeAny_mono ((F _ R<|j O).run callerA [] c H #[[.ref a],[]] [.ref a] [.ref a] _ _ hr e0 (Kf c `i) (.cons rfl .nil) (Z H U hS)) λr i h=>?_;cases r with
  |error e=>exact(N1 H e i h).elim
  |ok fl =>
   cases fl with
   |next=>exact False.elim h
   |brk=>exact False.elim h
   |cont=>exact False.elim h
   |ret u =>
    obtain⟨v,H',os,p,un,t,r',q⟩:=h;have q':v=.bl true:=q;subst q';obtain rfl:u=Value.bool true:=r';refine#[rfl,OldK.of_keep λb o e=>?_,os,p];cases q:H b with
    |none=>exact un.keep b o e q (by intro z;exact absurd (show b∈([]:R9)from z) `h) `h
    |some u =>
     rcases U b with z | ⟨ob,xs,z⟩
     rw[q]at z;cases z;have z2:=un.frzs b ob _ z;obtain⟨S,_⟩:=B b _ z;obtain⟨e2,_⟩:=t b _ z2;rw[e]at S;cases S;exact e2
 cases L:K.lookup a with
 |some o => have e:=Q a o L;rw[ha]at e;cases e;refine l (λ_=>none) (λ_=>.inl rfl) (.inr #[_,vs.toArray,_,L,rfl,rfl,rfl,by rw[aS,C];exact X,by simpa using Y]) (λb u z=>by have E:(none:Option HO)=some u:=z;cases E) (λb z=>absurd rfl z) λz=>absurd rfl z
 |none => refine l (λb=>if b=a then some (.frz { cls:=.type "list",data:=.seq vs.toArray } (.lst<|D.map V.int))else none) (λb=>?_) (.inl<|.inr #[{ cls:=.type "list",data:=.seq vs.toArray },if_pos rfl]) (λb u z=>?_) (λb z=>?_) λ_=>L;by_cases g:b=a;exact .inr #[_,_,if_pos g];exact .inl<|if_neg g;by_cases g:b=a;have E:=(if_pos g).symm.trans z;cases E;subst g;exact#[ha,by rw[aB];exact X,vs,_,Y,ha];have E:=(if_neg g).symm.trans z;cases E;by_cases g:b=a;exact g;exact absurd (if_neg g) z
abbrev CX0:CXT:=λ_ _ _ _ _ _=>False
abbrev E0:XK:=λ_ _ _=>False
def aAq:kN CX0 X E0:=λ_ _ _ _ _ _ _ h=>h.elim
structure Fun(K:dN)(x qual:Str)(st:Stmt)(f:Addr)(fd:FuncData):Prop where
 ex:∃(oc:Value) (od:Option Addr) (kV doc pm:Value) (an:Option Addr) (Aj ct:Value) (osl:Array (Option Value)),
  fd=PySem.W.fnOf x qual (lP st) (fL st) (aP st) .none kV doc pm an Aj ct/\K.lookup f=some ⟨oc,od,.func fd,osl⟩/\PySem.W.codeIn K Aj qual=true
 kp:PySem.W.keepIn K (.ref f)=true
section
def Fun.ok{st:Stmt}(F:Fun K x b st f fd)(S:FnScope N ps<|aP st)(len:∀vs H Q E,sp vs H Q E->vs.length=ps.length)
  (e:∀ (c:Value) (A:Around) (a:List Env) (s:Shared) (H:Hp) (vs:Q1) (Q:VK) (E:XK),Room k (A.deeper<|envOfC b (aP st) s.heap.objs.size f c)→sp vs H Q E →
   ∃t,PSs (kE CX0 P w K mg base N b (aP st) f c A a s H E).nox (fL st) t/\t { nx:=λ_ j=>Q .non j,rt:=Q } (start N vs) H):FnOk P w K mg base CX0 (k+1) f fd ps sp:=by
 obtain⟨u,v,kV,l,y,r,c,ct,p,rfl,o,i⟩:=F.ex;refine aSz o i S len λA a s H vs Q E m g=>?_;obtain⟨t,h,q⟩:=e c A a s H vs Q E m g;exact#[t,h.nox,q]
def Fun.binds{st:Stmt}(F:Fun K x a st f fd)
  (h:∀(kV b g:Value) (e:Option Addr) (c ct:Value) (us:Q7),us.length=ps.length->bindArgs (PySem.W.fnOf x a (lP st) (fL st) (aP st) .none kV b g e c ct) #[us,[]]=pure (ps.zip us)):Binds K fd ps []:=by
 obtain⟨m,o,kV,b,g,e,c,ct,i,rfl,l,j⟩:=F.ex;exact .all<|h kV b g e c ct
end
def rB(a:Room k A):A.units+1<cLine:=Nat.lt_of_le_of_lt (Nat.add_le_add_left (by decide:1<=64) _) a.units
section
variable{X:Cx}
def pv(i:Nat){pos}(b:X.N[i]? = some x:=by rfl)(hv:Vis X.env.scope x:=by first | exact Or.inl rfl | exact Or.inr `l | exact Or.inr<|Or.inr rfl)(c:T3 x:=by decide)
  (a:T4 x:=by decide):PE X (.Name x pos)<|fQ i:=aVz b hv c a
end
def aPy{c A B:Prop}[Decidable c](a:c->A)(b:¬c->B):if c then A else B:=by grind
def Same(H a:Hp):Prop:=∀b o,H b=some o->a b=some o
def Same.refl(H:Hp):Same H H:=λ_ _ h=>h
end L2
namespace L2
open PySem PySem.W PySem.Spec PyProof.Rows PySem.Calls
def pX{f g:Type}[BEq f][LawfulBEq f]{a:f}{b:g}:∀{l:List<|f×g},l.lookup a=some b->(a,b)∈l
 | [],h=>by simp at h
 |(c,d)::r,h=>by by_cases e:a=c;subst e;simp at h;subst h;exact aA;rw [bM,beq_eq_false_iff_ne.mpr e] at h;exact aC _<|pX h
def aRp(h:Heap):(aRq h).In h:=λa o e=>by obtain⟨b,_,g⟩:=List.mem_filterMap.mp<|pX e;obtain⟨i,c,f⟩:=cV.mp g;cases f;exact c
def exHook{b:Type}(f:Frag->b)(v:b):Hook where
 α:=b
 obs:=λs=>f<|aRq s.heap
 val:=λ_=>v
 says:=λ_ h=>∃K:Frag,K.In h/\f K=v
 of:=λ_ s e=>#[aRq s.heap,aRp _,e]
 keeps:=λ_ _ _ e g=>by obtain⟨K,k,e⟩:=e;exact#[K,λa o q=>g _ _<|k a o q,e]
def aFm:∀w:World,((boot_heap w.params).isNs mainGlobals&&(Array.mk []:Array GenState).size == 0,(boot_heap w.params).objs.size,(boot_heap w.params).nsMap mainGlobals "__annotations__")=(true,11,some<|.ref 6):=λw=>by kernel_rfl
def aEm{v:α}(u:Nat.ble 600 N=true)(e:opening p=plainProg p.main.scope.names)(f:∀s,fenceModules? p s=some s)
  (all:∀w:World,onceSeen topRun treeTable importedModules (λm s=>openSeen q b m g g0 s) p N c w=λ_=>some (true,openGood q b,v)) :
  LeftO p q b g (exHook c v).obs (exHook c v).val N g0:=λw=>by
 obtain⟨⟨h,o,d,k,i⟩,l,j⟩:=cV.mp<|boot_open e u f w;obtain⟨rfl,rfl,rfl,rfl⟩:h=boot_heap w.params/\o=Array.mk []/\d=boot_drawn/\k=boot_toks:=by simpa using j
 obtain⟨C,D,E⟩:_/\_/\_:=by simpa only[Prod.mk.injEq]using aFm w
 obtain⟨a,r,B⟩:=cV.mp<|congrFun (all w) i;obtain⟨y,z,A⟩:_/\_/\_:=by simpa only[Prod.mk.injEq]using B
 have t:topFrom treeTable p w N #[boot_heap w.params,Array.mk [],boot_drawn,boot_toks,i]=some a:=by unfold topFrom;rw[C,D,E];rw[r];show(match staticsOk (importedModules p.main.body) (boot_heap w.params) a.heap&&namesBound p a.heap&&gensDone a&&laidKept (boot_heap w.params) a.heap with | true=>_ | false=>_)=_;rw[y]
 unfold openEnds;rw[l];show(topFrom treeTable p w N _).map _=_;rw[t];exact congrArg some<|Prod.ext z A
def walk_ex{l:PySem.W.OpenLaw}{v:y}{sp:PySem.W.Frag->Sp}
  (T:l.most=some n) (C:n<=sizeLine) (I:d.params.defaults=[]) (U:Room k callerA)
  (F:∀ (w:World) (K:Frag) (mg:mH) (g:Addr) (h:Heap),f K=v→K.In h→h.Ns mainGlobals mg→mg d.name=some (.ref g) →
   ∃fd:FuncData,(∀(s:Shared) (u:Value),BindsTo s fd #[[u],[]] [(x,u)]) /\
    ∀base:Heap,K.In base->base.Ns mainGlobals mg->FnOk l.prog w K mg base CX k g fd [x] (sp K))
  (z:∀(K:dN) (H:Hp) (a:Addr) (i:Q6),i.length<=n->bAv H->SqL K H a (i.map V.int)->sp K [.ref a] H (λv _=>v=.bl true) λ_ _ _=>False)
  (E:∀(H:Hp) (s:Shared) (e:Value) (j:Shared),CX [] H s (λ_ _ _=>False) e j->False) :
  PySem.W.WalkO q b J (exHook f v).says l.row.toRowW d [] (λf vs=>PySem.call f vs):=by
 refine Att.attach_call T I λw r c mg mb g o pm X L a vs i G Y t Z W D B A m S=>?_;obtain⟨K,p,N⟩:=Y;obtain⟨fd,R,M⟩:=F w K mg g _ N p G.T.g D;exact aKj p G.T.g G.T.b G.T.builtins G.T.nolimit S B A (nzL m C) U M R (λH O Q=>z K H a i m O Q) λH e j=>E H c e j
def aEe(h:vW K (fD s)=wS s):∃f fd,nsIn K mainGlobals (fD s)=some (some<|.ref f)/\Fun K (fD s) (fD s) s f fd:=by
 unfold vW at h;cases e:nsIn K mainGlobals (fD s)with
 |none=>rw[e]at h;cases h
 |some o =>
  cases o with
  |none=>rw[e]at h;cases h
  |some v =>
   cases v with
   |ref f =>
    rw[e]at h;dsimp only at h;cases a:K.lookup f with
    |none=>rw[a]at h;cases h
    |some ob =>
     obtain⟨m,p,g,r⟩:=ob;rw[a]at h;cases g with
     |func fd => obtain⟨nm,D,C,y,sc,B,z,A,l,i,q,b,c,ct,u⟩:=fd;simp only[wS,Option.some.injEq,Prod.mk.injEq]at h;obtain⟨⟨rfl,rfl,rfl,rfl,rfl⟩,⟨rfl,rfl,rfl,rfl⟩,j⟩:=h;refine#[f,_,rfl,#[m,p,l,i,q,b,c,ct,r,rfl,a,j],?_];unfold keepIn;dsimp only;rw[a]
     |_=>cases h
   |_=>rw[e]at h;cases h
def aJs(h:zA K n=true):nsIn K mainGlobals n=some none:=by unfold zA at h;split at h;assumption;cases h
def e_:∀{v} {x:V},aMm v=some x->RelV x v
 | .none,x,h=>by cases h;rfl
 | .bool b,x,h=>by cases h;rfl
 | .int i t,x,h=>by cases h;exact#[t,rfl]
 | .str i t,x,h=>by cases h;exact#[t,rfl]
 | .bytes i t,x,h=>by cases h;exact#[t,rfl]
 | .float i t,x,h=>by cases h;exact#[t,rfl]
 | .ref a,x,h=>by cases h;rfl
 | .type n,x,h=>by cases h;rfl
 | .builtin _,x,h=>by cases h
def cm_(h:vU K n=some x):∃v,nsIn K mainGlobals n=some (some v)/\RelV x v:=by unfold vU at h;split at h;exact#[_,by assumption,e_ h];cases h
def yB:∀{xs} {vs},xs.map aMm=vs.map some->Vals vs xs
 | [],[],_=>.nil
 |x::xs,v::vs,h=>by simp only[bG,List.cons.injEq]at h;exact .cons (e_ h.1) (yB h.2)
 | [],_::_,h=>by simp at h
 |_::_,[],h=>by simp at h
def aEd(h:vV K n=some (vs.map some)):∃a b xs m c,nsIn K mainGlobals n=some (some `i)/\K.lookup a=some #[.type "tuple",b,.seq xs m,c]/\Vals vs xs.toList:=by unfold vV at h;split at h;split at h;exact#[_,_,_,_,_,by assumption,by assumption,yB<|ozI h];cases h;cases h
section
variable{K:Frag}{x a:Str}{st:Stmt}{f:Addr}{i h g e c b:Str}
abbrev BA(x a:Str)(st:Stmt)(us:Q7)(r:List<|Str×Value):Prop:=∀(kV j o:Value) (m:Option Addr) (l ct:Value),bindArgs (PySem.W.fnOf x a (lP st) (fL st) (aP st) .none kV j o m l ct) #[us,[]]=pure r
end
def zW(h:bltNs.map (zA K)=List.replicate 17 true)(i:Nat)(a:i<17)(e:bltNs[i]? = some n):nsIn K mainGlobals n=some none:=by refine aJs ?_;have:=congrArg (λl=>l[i]?) h;simp only[bI,e,Option.map_some,iU,a,if_true,Option.some.injEq]at this;exact this
end L2
namespace Lf
open PySem
inductive Kd where
 |num (w m:Int)
 |row (k:Kd) (n:Int)
 |rcd (fs:List (Str×Kd))
 |cho (ks:List Kd)
abbrev S6:=List<|Str×Kd
abbrev R6:=List Kd
def up(n m:Int):Int:=(n+m-1)/m*m
def bCc(a:0<m):up n m=n+m-1-(n+m-1)%m:=by have:=Int.mul_ediv_add_emod (n+m-1) m;exact Int.ediv_mul_self (n+m-1) m
def rC(c:0<m):n<=up n m/\up n m<n+m:=by have a:=bT (n+m-1)<|Int.ne_of_gt c;have b:=bQ (n+m-1) c;rw[bCc c];lia
def aHf:up n m%m=0:=Int.mul_emod_left _ _
def fK(d:Int)(l:Q6):Int:=l.foldr max d
def aBe:∀{l} {a},a∈l->a<=fK d l
 |b::r,a,h=>by
  rcases aF.mp h with rfl | h
  exact Int.le_max_left _ _;exact jC (aBe h)<|Int.le_max_right _ _
def vZ(e:M∈l)(g:d<=M)(c:∀a∈l,a<=M):M=fK d l:=by
 refine Int.le_antisymm (aBe e) ?_;clear e
 induction l with
 |nil=>exact g
 |cons b r h => exact Int.max_le.mpr #[c b aA,h λa f=>c a<|aC _ f]
def ends(e:Int):Q4->Q6
 | []=>[]
 |r::rs=>(up e r.2+r.1)::ends (up e r.2+r.1) rs
def dL(e:Int):Q4->Int
 | []=>e
 |r::rs=>dL (up e r.2+r.1) rs
def lI(e:Int):Q4->Q6
 | []=>[]
 |r::rs=>up e r.2::lI (up e r.2+r.1) rs
def Rms(rs:Q4):Prop:=∀r∈rs,0<=r.1/\0<r.2
def ip_:∀{rs} {e},Rms rs->e<=dL e rs
 | [],e,_=>iV e
 |r::rs,e,h=>by obtain⟨a,b⟩:=h r aA;have:=ip_ (rs:=rs) (e:=up e r.2+r.1) λx c=>h x<|aC _ c;have:=(rC (n:=e) b).1;show e<=dL (up e r.2+r.1) rs;lia
def b9:∀{rs} {e},Rms rs->rs≠[]->dL e rs∈ends e rs/\∀a∈ends e rs,a<=dL e rs
 | [],_,_,h=>absurd rfl h
 | [r],e,h,_=>by
  refine#[aA,λa b=>?_];rcases aF.mp b with rfl | b
  exact iV _;cases b
 |r::s::rs,e,h,_=>by
  have f:=b9 (e:=up e r.2+r.1) (λx c=>h x<|aC _ c) `h;refine#[aC _ f.1,λa b=>?_];rcases aF.mp b with rfl | b
  exact ip_ λx c=>h x<|aC _ c;exact f.2 a b
def kg_:∀(rs:Q4) (e:Int),(lI e rs).length=rs.length
 | [],_=>rfl
 |r::rs,e=>by show(lI _ rs).length+1=_;rw[kg_ rs];rfl
def sK:∀(rs:Q4) (r:Int×Int) (e:Int),lI e (rs++[r])=lI e rs++[up (dL e rs) r.2]
 | [],_,_=>rfl
 |s::rs,r,e=>by show up e s.2::lI _ (rs++[r])=up e s.2::(lI _ rs++_);rw[sK rs];rfl
def ja_:∀(rs:Q4) (r:Int×Int) (e:Int),dL e (rs++[r])=up (dL e rs) r.2+r.1
 | [],_,_=>rfl
 |s::rs,r,e=>ja_ rs r _
def b8:∀(rs:Q4) (e:Int),ends e rs=((lI e rs).zip rs).map λp=>p.1+p.2.1
 | [],_=>rfl
 |r::rs,e=>by show _::ends _ rs=_::_;rw[b8 rs];rfl
def yT(rs:Q4):Int×Int:=(up (dL 0 rs) (fK 1 (rs.map (·.2))),fK 1 (rs.map (·.2)))
def tR(rs:Q4):Int×Int:=(up (up 1 (fK 1 (rs.map (·.2)))+fK 0 (rs.map (·.1))) (fK 1 (rs.map (·.2))),fK 1 (rs.map (·.2)))
mutual
def Kd.rm:Kd->Int×Int
 | .num w m=>(w,m)
 | .row k n=>(n*up k.rm.1 k.rm.2,k.rm.2)
 | .rcd fs=>yT (rmF fs)
 | .cho ks=>tR<|rmK ks
def rmF:S6->Q4
 | []=>[]
 |f::r=>f.2.rm::rmF r
def rmK:R6->Q4
 | []=>[]
 |k::r=>k.rm::rmK r
end
mutual
def Kd.deep:Kd->Nat
 | .num _ _=>1
 | .row k _=>k.deep+1
 | .rcd fs=>gE fs+1
 | .cho ks=>dS ks+1
def gE:S6->Nat
 | []=>0
 |f::r=>max f.2.deep<|gE r
def dS:R6->Nat
 | []=>0
 |k::r=>max k.deep<|dS r
end
mutual
def Kd.Ok:Kd->Prop
 | .num w m=>1<=w/\w<=8/\1<=m/\m<=8
 | .row k n=>k.Ok/\0<=n/\n<=100
 | .rcd fs=>okF fs/\fs.length<=10
 | .cho ks=>okK ks/\ks.length<=10
def okF:S6->Prop
 | []=>True
 |f::r=>f.2.Ok/\okF r
def okK:R6->Prop
 | []=>True
 |k::r=>k.Ok/\okK r
end
def io_:∀{l},d<=M->(∀a∈l,a<=M)->fK d l<=M
 | [],hd,_=>hd
 |b::r,hd,h=>Int.max_le.mpr #[h b aA,io_ hd λa c=>h a<|aC _ c]
def lZ:∀(l:Q6),d<=fK d l
 | []=>iV _
 |b::r=>jC (lZ r)<|Int.le_max_right _ _
def Bd(B:Int)(r:Int×Int):Prop:=0<=r.1/\r.1<=B/\1<=r.2/\r.2<=8
def gb_:∀{rs} {e},0<=e->(∀r∈rs,Bd B r)->0<=dL e rs/\dL e rs<=e+(rs.length:Int)*(B+8)
 | [],e,h0,_=>#[h0,by simp[dL]]
 |r::rs,e,h0,h=>by
  obtain⟨a,b,c,d⟩:=h r aA;obtain⟨j,l⟩:=rC (n:=e) (m:=r.2)<|gX c;have i:=gb_ (B:=B) (rs:=rs) (e:=up e r.2+r.1) `b λx g=>h x<|aC _ g;refine#[i.1,?_];show dL (up e r.2+r.1) rs<=_;have f:((r::rs).length:Int)*(B+8)=(rs.length:Int)*(B+8)+(B+8):=by
   rw[aL]
   push_cast
   rw[Int.add_mul];lia
  rw[f];lia
def sU{rs:Q4}(h:∀r∈rs,Bd B r):1<=fK 1 (rs.map (·.2))/\fK 1 (rs.map (·.2))<=8:=
 #[lZ _,io_ `a λa b=>by obtain⟨r,c,rfl⟩:=aY.mp b;exact(h r c).2.2.2]
def aVf(h:∀r∈rs,Bd B r)(g:rs.length<=10)(f:0<=B):Bd (1000*(B+8))<|yT rs:=by obtain⟨a,b⟩:=sU h;obtain⟨c,d⟩:=gb_ (e:=0) `b h;obtain⟨i,j⟩:=rC (n:=dL 0 rs) (m:=fK 1 (rs.map (·.2))) `b;have:(rs.length:Int)*(B+8)<=10*(B+8):=cD `b `b;exact#[by show 0<=up _ _;lia,by show up _ _<=_;lia,a,b]
def bAn(h:∀r∈rs,Bd B r)(e:0<=B):Bd (1000*(B+8))<|tR rs:=by
 obtain⟨a,b⟩:=sU h;have c:0<=fK 0 (rs.map (·.1)):=lZ _;have d:=io_ e λz g=>by obtain⟨r,f,rfl⟩:=aY.mp g;exact(h r f).2.1
 obtain⟨i,j⟩:=rC (n:=1) (m:=fK 1 (rs.map (·.2))) `b;obtain⟨l,o⟩:=rC (n:=up 1 (fK 1 (rs.map (·.2)))+fK 0 (rs.map (·.1))) (m:=fK 1 (rs.map (·.2))) `b;exact#[by show 0<=up _ _;lia,by show up _ _<=_;lia,a,b]
def bnd:Nat->Int
 | 0=>0
 |n+1=>1000*(bnd n+8)
def gd_:∀n,0<=bnd n
 | 0=>iV _
 |n+1=>by have:=gd_ n;show 0<=1000*(bnd n+8);lia
def ic_(h:n<=m):bnd n<=bnd m:=by
 induction m with
 |zero=>cases(Nat.le_zero.mp h);exact iV _
 |succ m a => by_cases e:n=m+1;grind;have:=gd_ m;show bnd n<=1000*(bnd m+8);lia
def Bd.mono(h:Bd B r)(a:B<=C):Bd C r:=#[h.1,jC h.2.1 a,h.2.2]
mutual
def Kd.bd:∀(k:Kd),k.Ok->Bd (bnd k.deep) k.rm
 | .num w m,h=>by obtain⟨a,b,c,d⟩:=h;refine#[by show 0<=w;lia,?_,c,d];show w<=1000*(0+8);lia
 | .row k n,h=>by obtain⟨g,e,f⟩:=h;obtain⟨a,b,c,d⟩:=Kd.bd k g;obtain⟨j,l⟩:=rC (n:=k.rm.1) (m:=k.rm.2) `b;refine#[Int.mul_nonneg e `b,?_,c,d];have i:n*up k.rm.1 k.rm.2<=100*up k.rm.1 k.rm.2:=cD f `b;show n*up k.rm.1 k.rm.2<=1000*(bnd k.deep+8);lia
 | .rcd fs,h=>by refine aVf (rs:=rmF fs) (bdF fs h.1) ?_<|gd_ _;have:(rmF fs).length=fs.length:=bDt fs;rw[this];exact h.2
 | .cho ks,h=>bAn (rs:=rmK ks) (bdK ks h.1)<|gd_ _
def bdF:∀(fs:S6),okF fs->∀r∈rmF fs,Bd (bnd<|gE fs) r
 | [],_,_,h=>nomatch h
 |f::fs,h,r,hr=>by
  have a:r∈f.2.rm::rmF fs:=hr;rcases aF.mp a with rfl | a
  exact(Kd.bd f.2 h.1).mono<|ic_<|fS _ _;exact(bdF fs h.2 r a).mono<|ic_<|fG _ _
def bdK:∀(ks:R6),okK ks->∀r∈rmK ks,Bd (bnd<|dS ks) r
 | [],_,_,h=>nomatch h
 |k::ks,h,r,hr=>by
  have a:r∈k.rm::rmK ks:=hr;rcases aF.mp a with rfl | a
  exact(Kd.bd k h.1).mono<|ic_<|fS _ _;exact(bdK ks h.2 r a).mono<|ic_<|fG _ _
def bDt:∀(fs:S6),(rmF fs).length=fs.length
 | []=>rfl
 |f::fs=>by show(rmF fs).length+1=_;rw[bDt fs];rfl
end
def aYx:∀(ks:R6),(rmK ks).length=ks.length
 | []=>rfl
 |f::fs=>by show(rmK fs).length+1=_;rw[aYx fs];rfl
inductive Dt where
 |int (i:Int)
 |str (x:Str)
 |bl (b:Bool)
 |tup (ds:List Dt)
 |lst (ds:List Dt)
mutual
def Kd.dt:Kd->Dt
 | .num w m=>.tup [.str "number",.int w,.int m]
 | .row k n=>.tup [.str "row",k.dt,.int n]
 | .rcd fs=>.tup [.str "record",.lst<|dtF fs]
 | .cho ks=>.tup [.str "choice",.lst<|dtK ks]
def dtF:S6->List Dt
 | []=>[]
 |f::r=>.tup [.str f.1,f.2.dt]::dtF r
def dtK:R6->List Dt
 | []=>[]
 |k::r=>k.dt::dtK r
end
mutual
def Dt.deep:Dt->Nat
 | .int _=>1
 | .str _=>1
 | .bl _=>1
 | .tup ds=>gP ds+1
 | .lst ds=>gP ds+1
def gP:List Dt->Nat
 | []=>0
 |d::r=>max d.deep<|gP r
end
def Kd.deep_pos:∀k:Kd,1<=k.deep
 | .num _ _=>aO _
 | .row k _=>iO 1 k.deep
 | .rcd fs=>iO 1 (gE fs)
 | .cho ks=>iO 1<|dS ks
end Lf
namespace L2
open PySem PySem.Spec PyProof.Rows
section
variable{X:Cx}
def aMp(_ j:Int):Prop:=0<j/\j<2^250
def aKd{j:Int}(c:0<j)(e:j<2^250):j.natAbs.log2<9000:=by
 have a:j.natAbs≠0:=by lia
 have b:j.natAbs<2^250:=by lia
 exact Nat.lt_trans ((Nat.log2_lt a).mpr b) `a
def aJj:OpR X (binaryOp .FloorDiv)<|rI aMp λi j=>.int<|i/j:=opI λi j _ _ _ _ _ a q=>by have b:=a.1;exact floordiv_int (Ne.symm<|Int.ne_of_lt b) (by rw[Int.fdiv_eq_ediv_of_nonneg i<|Int.le_of_lt b];exact q)<|.inl<|PyProof.noPylong_of_log2<|aKd a.1 a.2
def CMulB(i j:Int):Prop:=i.natAbs<2^250/\j.natAbs<2^250
def CMulB.ok(h:CMulB i j):IntMulOk i j:=by have a:=intBits_le h.1;have b:=intBits_le h.2;intro z;rw[cI]at z;have c:=of_decide_eq_true z.2;rw[bitsLine_eq]at c;lia
def aOz:OpR X (binaryOp .Mult)<|rI CMulB λi j=>.int<|i*j:=opI λ_ _ _ _ _ _ _ a q=>mul_int q a.ok
end
section
variable{K:dN}
def aKo(T:String):PySem.W.kitOne K (.type T) (.type T)=some true:=by unfold PySem.W.kitOne;rw[if_pos<|beq_self_eq_true _]
def aZb(a:(Value.type T == Value.type S)=false)(c:PySem.W.kitMeta S=true)(e:(fastBuiltinMro T).map (·.contains (Value.type S))=some b):PySem.W.kitOne K (.type T) (.type S)=some b:=by unfold PySem.W.kitOne;rw[if_neg (by rw[a];exact bJ)];show(if PySem.W.kitMeta S=true then PySem.W.subIn K (.type T) (.type S)else none)=some b;rw[if_pos c];exact e
def rT:bootBuiltins "isinstance" = some (.builtin "isinstance"):=by decide +kernel
def mE:bootBuiltins "max" = some (.builtin "max"):=by decide +kernel
def t7:bootBuiltins "min" = some (.builtin "min"):=by decide +kernel
def bAp:bootBuiltins "int" = some (.type "int"):=by decide +kernel
def aRg:bootBuiltins "bool" = some (.type "bool"):=by decide +kernel
def bAo:bootBuiltins "str" = some (.type "str"):=by decide +kernel
def xH:bootBuiltins "list" = some (.type "list"):=by decide +kernel
def c_:bootBuiltins "tuple" = some (.type "tuple"):=by decide +kernel
def nX:bootBuiltins "dict" = some (.type "dict"):=by decide +kernel
end
def qT(h:∀y∈scope.names,y.2=.free->∃c,env.cells.lookup y.1=some c) :
  ∃a,closureFor scope env=pure a/\(∀x c,a.lookup x=some c->env.cells.lookup x=some c)/\(∀y∈scope.names,y.2=.free->∃c,a.lookup y.1=some c):=by
 have z:∀(m:List<|Str×NameKind) (b:List<|Str×Addr),(∀y∈m,y.2=.free->∃c,env.cells.lookup y.1=some c)->(∀x c,b.lookup x=some c->env.cells.lookup x=some c) ->
   ∃a,(forIn m b λ(x:Str×NameKind) (b:List<|Str×Addr)=>(if x.2 == .free then do let c <-cellOf env x.1;pure (ForInStep.yield ((x.1,c)::b))else pure (ForInStep.yield b):Sem _))=pure a /\
    (∀x c,a.lookup x=some c->env.cells.lookup x=some c)/\(∀x c,b.lookup x=some c->∃c,a.lookup x=some c)/\(∀y∈m,y.2=.free->∃c,a.lookup y.1=some c):=by
  intro m
  induction m with
  |nil=>intro b _ p;exact#[b,rfl,p,λx c e=>#[c,e],λy f=>nomatch f]
  |cons y r A =>
   intro b v p;obtain⟨n,k⟩:=y;by_cases C:k=.free;subst C;obtain⟨c,e⟩:=v (n,.free) aA rfl;obtain⟨a,o,i,j,l⟩:=A ((n,c)::b) (λy f=>v y<|aC _ f) (λx u q=>by
    rw[bM]at q;cases g:x == n with
    |true =>
     rw[g]at q;cases q;have:x=n:=by simpa using g
     rw[this];exact e
    |false => rw[g]at q;exact p x u q)
   refine#[a,?_,i,λx u q=>?_,λy f s=>?_];rw [List.forIn_cons];have B:=e;simp only[beq_self_eq_true,if_true,cellOf,B];exact o;cases g:x == n with
   |true=>exact j x c (by rw[bM,g])
   |false=>exact j x u (by rw[bM,g];exact q)
   rcases aF.mp f with rfl | f
   exact j n c (by rw[bM];simp);exact l y f s;obtain ⟨a,o,i,j,l⟩:=A b (fun y f=>v y<|aC _ f) p;refine#[a,?_,i,j,λy f s=>?_];grind;rcases aF.mp f with rfl | f
   grind;exact l y f s
 obtain⟨a,o,i,_,l⟩:=z scope.names [] h (λx c e=>by simp at e);refine#[a,?_,i,l];simp only[closureFor];rw[show(forIn scope.names ([]:List<|Str×Addr) λ(x:Str×NameKind) (b:List<|Str×Addr)=>(if x.2 == .free then do let c <-cellOf env x.1;pure (ForInStep.yield ((x.1,c)::b))else pure (ForInStep.yield b):Sem _))=pure a from o];rfl
def kd_(h:(relabel scope env).names.lookup x=some k):∃k0,scope.names.lookup x=some k0/\(k0=k\/(k0=.free/\k=.cell)):=by
 unfold relabel at h;dsimp only at h;revert h;generalize scope.names=ns
 induction ns with
 |nil=>intro h;simp at h
 |cons y r c =>
  obtain⟨n,e⟩:=y;intro h;rw[bG]at h;cases a:x == n with
  |true => rw[bM,a];refine#[e,rfl,?_];dsimp only at h;split at h;rename_i b;rw[bM,a]at h;cases h;rw[cI,cI]at b;exact .inr #[by simpa using b.1.1,rfl];rw [bM,a] at h;cases h;exact .inl rfl
  |false => rw[bM,a];dsimp only at h;apply c;split at h;rw[bM,a]at h;exact h;rw[bM,a]at h;exact h
def vE(h:scope.names.lookup x=some .free)(e:env.scope.kind=.function)(c:env.kindOf x=some .cell):(relabel scope env).names.lookup x=some .cell:=by
 unfold relabel;dsimp only;revert h;generalize scope.names=ns
 induction ns with
 |nil=>intro h;simp at h
 |cons y r b =>
  obtain⟨n,f⟩:=y;intro h;rw[bG];cases a:x == n with
  |true =>
   rw[bM,a]at h;cases h;have:x=n:=by simpa using a
   subst this;rw[if_pos (by rw[e,c];rfl),bM,a]
  |false => rw[bM,a]at h;split;rw[bM,a];exact b h;rw[bM,a];exact b h
section
variable{prog:Program}{w:World}{A:Around}{R:Result->Shared->Prop}{s:Shared}
def xA{elt target iter}{z:S3}{scope}{pos}{it Ac}{env}(I:Nat->Shared->Prop)
  (turn:∀ n s,I n s→wpAny `f A (pyNext it) (fun r b=>match r with
   |none=>R (.ok .next) b
   | some v => wpAny `f A (letOwnedTupleGo target it v) (fun _ i => wpAny `f A (assign target env v) (fun _ j =>
     wpAny `f A (forIn z true λc r=>if r=true then do let ok <-isTrue c env (eval c env);pure (ForInStep.yield ok)else pure (ForInStep.yield r)) (λok e =>
      if ok=true then wpAny `f A (eval elt env) (λx l => wpAny `f A (call (.builtin "list.append") [Ac,x]) (λ_ o=>∃m,m<n/\I m o) (λ_ _=>False) l) (λ_ _=>False) e
      else ∃m,m<n/\I m e) (λ_ _=>False) j) (λ_ _=>False) i) (λ_ _=>False) b) (λ_ _=>False) s)
  (n:Nat) (h:I n s) :
  codeAny `f A (.compLoop (.ListComp elt [#[target,iter,z,0]] scope pos) 0 it Ac env) R s:=by
 refine codeAny_loop rfl I (λn s B=>?_) n h;refine wpAny_noted ?_;rw[compTurn_list];refine wpAny_bind<|wpAny_standAt<|wpAny_bind<|wpAny_mono (turn n s B) (λr b f=>?_) λ_ _ a=>a.elim;cases r with
 |none=>exact wpAny_pure f
 |some v =>
  refine wpAny_bind<|wpAny_mono f (λ_ i p=>?_) λ_ _ a=>a.elim;refine wpAny_bind<|wpAny_mono p (λ_ j q=>wpAny_bind<|wpAny_mono q (λok e g=>?_) λ_ _ a=>a.elim) λ_ _ a=>a.elim;cases ok with
  |false=>exact wpAny_pure #[rfl,g]
  |true => exact wpAny_bind<|wpAny_bind<|wpAny_mono g (λx l u=>wpAny_bind<|wpAny_mono u (λ_ o y=>wpAny_pure<|wpAny_pure #[rfl,y]) λ_ _ a=>a.elim) λ_ _ a=>a.elim
end
section
variable{X:Cx}{b:gQ}{a:St}{H:Hp}{s:Shared}
def PCs(X:Cx)(e:S3)(t:TT):Prop:=
 ∀(b:gQ) (s:Shared) (a:St) (H:Hp) (Q:Bool->Hp->Prop),Inv X b a H s->t a H Q ->
  wpAny `d X.A (forIn e true λc r=>if r=true then do let ok <-isTrue c X.env (eval c X.env);pure (ForInStep.yield ok)else pure (ForInStep.yield r)) (TP X b a Q) X.xe s
def bHy:TT:=λ_ H Q=>Q true H
def aOu:PCs X [] bHy:=λb s a H Q I h=>wpAny_tests_nil #[H,I,h]
def aOt(h:PT X c t):PCs X [c] t:=λb s a H Q I q=>wpAny_tests_one<|h b s a H Q I q
end
def kD(n:Nat)(outs:R8)(a:St):St:=List.replicate n none++outs.map λj=>(a[j]?).join
def pQ(n:Nat)(outs:R8)(a:St):(kD n outs a).length=n+outs.length:=by unfold kD;rw[aI,bN,aB]
def cF(X:Cx)(N':Q3)(scope:Scope)(a:List<|Str×Addr)(C:Addr)(s:Shared)(H:Hp)(ex:R9):Cx where
 prog:=X.prog
 w:=X.w
 K:=X.K
 mg:=X.mg
 base:=X.base
 A:=X.A
 N:=N'
 s₀:=s
 H₀:=H
 env:=compEnvC scope a C X.env
 outer:=X.stack
 stack:=X.stack
 ex:=ex
 fn:=λ_=>false
 calm:=X.calm
 pn:=[]
 xe:=λ_ _=>False
structure CompScope(dsc scope:Scope)(N tgs:Q3)(outs:R8)(N':Q3):Prop where
 kind:scope.kind=.function
 names:∀x∈scope.names,x.2=.local->scope.names.lookup x.1=some .local
 nocell:∀y∈scope.names,y.2 ≠ .cell
 free:∀y∈scope.names,y.2=.free->dsc.names.lookup y.1=some .cell
 isN:N'=tgs++outs.map (λj=>N.getD j "")
 lts:∀j∈outs,j<N.length
 outF:∀j∈outs,scope.names.lookup (N.getD j "")=some .free
 nd:N'.Nodup
def Tgt(n:Nat)(g:TG):Prop:=∀x b H Q,g x b H Q->g x b H (λa c=>Q a c/\a.length=b.length/\∀i,n<=i->a[i]? = b[i]?)
def je_(h:i<n):Tgt n<|kL i:=λx b H Q q=>#[q,by rw[bS],λj a=>cS `b]
def aRs(n:Nat)(g:TGs):Prop:=∀c b H Q,g c b H Q->g c b H (λa e=>Q a e/\a.length=b.length/\∀i,n<=i->a[i]? = b[i]?)
def fw_:aRs n aQl:=λa b H Q ⟨e,q⟩=>#[e,q,rfl,λ_ _=>rfl]
def aCy(g:TGs):Prop:=∀e f H Q c,(∀a b,Q a b->c a b)->g e f H Q->g e f H c
def t9(h:i<n)(l:aRs n u)(m:aCy u):aRs n<|aCb (kL i) u:=λy o H Q ⟨v,r,e,q⟩=>by refine#[v,r,e,?_];have z:=l r (o.set i<|some v) H Q q;refine m r _ H _ _ (λp s f=>?_) z;obtain⟨a,b,c⟩:=f;refine#[a,?_,λj g=>?_];grind;rw[c j g,cS `b]
def t_:aCy aQl:=λb c H Q a h ⟨e,q⟩=>#[e,h _ _ q]
def bm_(a:aCy u):aCy<|aCb (kL i) u:=λc f H Q b h ⟨v,r,e,q⟩=>#[v,r,e,a r _ H _ _ h q]
def ie_(h:aRs n t):Tgt n<|aLg K k t:=λx g H Q ⟨a,b,e,f,c,q⟩=>#[a,b,e,f,c,h b g H Q q]
def mK(n:Nat)(outs:R8)(v:TI)(g:TG)(s:TT)(u:TE):TE:=λo H Q=>v o H λJ p =>
 ∃W:Nat->Nat->Q1->Hp->Prop,(∃m,W 0 m [] p)/\∀i m c H,W i m c H ->
  (J.stop i H/\c.length<=sizeLine/\∀l,H l=none->Q (.ref l) (upd H l<|.lst c)) \/
  (J.go i H∧c.length < sizeLine∧∃ N:Q1→Hp→Prop,(∀ a e,N a e→∃ j,j < m∧W (i + 1) j a e)∧∀ x e,J.yld i H x e→g x (kD n outs o) e fun f q=>s f q fun b h => if b=true then u f h λy r=>N (c++[y]) r else N c h)
section
variable{X:Cx}{l:gQ}{f:St}{g:Hp}{a:Shared}{dsc scope:Scope}{tgs N':Q3}{outs:R8}{s:List (Str×Addr)}{fp:R9}{C D:Addr}{w:Heap}{tk:Nat}{A:mH}
def s9(S:CompScope dsc scope X.N tgs outs N')(t:X.env.scope=dsc)(r:Inv X l f g a)(N:∀b∈fp,lE X l g b)(D6:∀b∈fp,b<a.heap.objs.size)
  (H:∀x c,s.lookup x=some c->X.env.cells.lookup x=some c) (V:∀y∈scope.names,y.2=.free->∃c,s.lookup y.1=some c)
  (Z:a.heap.objs.size<=C) (O:∀b o,a.heap.get? b=some o->w.get? b=some o) (nC:w.Ns C A) :
  Inv (cF X N' scope s C a g fp) [] (kD tgs.length outs f) g { a with heap:=w,toks:=tk }:=by
 have E:∀x,scope.names.lookup x=some .free->(relabel scope X.env).names.lookup x=some .cell:=λx e => vE e r.ok.kind (by show X.env.scope.names.lookup x=some .cell;rw[t];exact S.free (x,.free) (PySem.mem_of_lookup e) rfl);refine#[#[r.ok.mod,?_,r.ok.glob,r.ok.blt,Z,λx y c T U=>r.ok.inj x y c (H x c T)<|H y c U,λx hx=>?_,(λx c h=>nomatch h),r.ok.hd,r.ok.frames,.inl rfl,λb G=>?_,r.bs,nzL r.ok.bsz r.sz,λb o e G=>?_,λb G=>?_,r.stack,r.stkFree],
  rfl,r.bare,Un.kept O,#[A,nC,λi x v T U e3=>?_],λx c e=>?_,r.hok.fresh Z,λx c e=>r.freeC x c<|H x c e,λp hp=>absurd (show p∈([]:gQ)from hp) `h,r.hok.kept O,?_]
 exact S.kind;have I:(relabel scope X.env).names.lookup x=some .cell∨(relabel scope X.env).names.lookup x=some .free:=hx;have z:scope.names.lookup x=some .free:=by
  rcases I with I | I
  obtain ⟨k0,e,h | ⟨h,_⟩⟩:=kd_ I;rw [h] at e;exact absurd rfl<|S.nocell _<|PySem.mem_of_lookup e;rw[h]at e;exact e;obtain ⟨k0,e,h | ⟨h,_⟩⟩:=kd_ I;rw[h]at e;exact e;rw[h]at e;exact e
 exact V (x,.free) (PySem.mem_of_lookup z) rfl;refine #[fun z => ?_,fun x c e=>(N b G).2.2.2.2.1 x c<|H x c e];have z':b=C:=z;exact absurd (aX (D6 b G) Z) (by rw[z'];exact dB _);rcases (N b G).2.2.2.1 with z | z
 exact r.ok.noex b o e z;exact absurd (aX (aR e)<|nzL r.ok.bsz z)<|dB _;intro z;rcases aF.mp (r.stkSub b z)with z | z
 exact(N b G).2.1 z;exact(N b G).2.2.1 z;have B:(List.replicate tgs.length (none:S1) ++ outs.map fun j=>(f[j]?).join)[i]? = some (some v):=U;have F:N'[i]? = some x:=T;by_cases hi:i<tgs.length;rw [cX (by rw [bN]; exact hi),iU,if_pos hi] at B;cases B;rw [bW (by rw [bN]; lia),bN,bI] at B;rw[S.isN,bW `b,bI]at F;cases W:outs[i-tgs.length]? with
 |none=>rw[W]at B;cases B
 |some j =>
  rw[W]at F B;have hj:j∈outs:=aQ W;have ex:X.N.getD j "" = x:=ozI F;have M:(f[j]?).join=some v:=ozI B;have Y:f[j]? = some (some v):=by
   cases q:f[j]? with
   |none=>rw[q]at M;cases M
   |some o=>rw[q]at M;exact congrArg some M
  have eN:X.N[j]? = some x:=by have d:=S.lts j hj;rw[<-ex,bA,aJ d];rfl
  have fx:scope.names.lookup x=some .free:=by rw[<-ex];exact S.outF j hj
  have cx:X.env.scope.names.lookup x=some .cell:=by rw[t];exact S.free (x,.free) (PySem.mem_of_lookup fx) rfl
  obtain⟨m,hn,d⟩:=r.loc;obtain⟨u,ru,lk⟩:=d j x v eN Y<|.inr<|.inl cx;refine#[u,ru,?_];rcases lk with⟨k,_⟩ | ⟨k,c,ec,⟨n,Q,R⟩⟩
  have k':X.env.scope.names.lookup x=some .local:=k;rw[cx]at k';cases k';obtain ⟨c',J⟩:=V (x,.free) (PySem.mem_of_lookup fx) rfl;have L:=H x c' J;rw[ec]at L;cases L;exact .inr #[.inl<|E x fx,c,J,n,O _ _ Q,R]
 obtain ⟨v,n,Q,R⟩:=r.cell x c<|H x c e;exact#[v,n,O _ _ Q,R];show (kD tgs.length outs f).length=N'.length;rw[pQ,S.isN,aI,aB]
def aMd(J:Inv X l f g a)(i:Inv (cF X N' scope s C a g fp) [] H F G)(B:∀b∈fp,lE X l g b)
  (M:a.heap.objs.size<=D) (L:G.heap.get? D=some { cls:=.type "list",data:=.seq m.toArray n }) (r:Vals E m) (hz:E.length<=sizeLine) (p:F D=none):Inv X l f (upd F D<|.lst E) G:=by
 have N:∀b o,a.heap.get? b=some o->b≠D:=λb o e z=>absurd (aX (aR e) (by rw[z];exact M))<|dB _;refine J.call' (ch:=fp) i.os #[λb o e nn h j=>?_,λb o e nn h j=>?_,λb o e nn j=>?_,λb o e j=>?_,λb I e=>?_,λb o u e=>?_,λb O e=>?_] (λb u e=>?_) i.bare λb h=>#[(B b h).2.2.2.1,(B b h).2.1,(B b h).2.2.2.2.1,(B b h).2.2.2.2.2];exact i.base.keep b o e nn h j;exact i.base.slot b o e nn h j;rw [eT<|N b o e];exact i.base.free b o e nn j;exact i.base.there b o e j;have q:=i.base.tups b I e;rw[eT<|g8 q p];exact q;have q:=i.base.frzs b o u e;rw[eT<|g8 q p];exact q;obtain ⟨y,q⟩:=i.base.tbls b O e;refine#[y,?_];rw[eT<|g8 q p];exact q;by_cases h:b=D;subst h;rw[bZ]at e;cases e;exact#[hz,m,n,r,L];rw [eT h] at e;exact(i.hok b u e).stay (λc v _ q=>q) (λc q=>by rw[eT<|g8 q p];exact q) λc I q=>by rw[eT<|g8 q p];exact q
end
def sL{c a:St}(f:∀i,n<=i->a[i]? = (kD n outs c)[i]?):∀(i:Nat) v,(kD n outs c)[i]? = some (some v)->a[i]? = some (some v):=λi v e=>by by_cases b:n<=i;rw[f i b];exact e;unfold kD at e;rw[cX (by rw[bN];exact Nat.lt_of_not_le b),iU,if_pos<|Nat.lt_of_not_le b]at e;cases e
section
variable{X:Cx}{B w f:Expr}{j:S3}{dsc scope:Scope}{tgs N':Q3}{outs:R8}{L:TI}{g:TG}{K:TT}{G:TE}{A:Pos}
def qR{Aa}{σ:St}{Q}{s2}{I}{it}{fp}{tn}{J}(S:CompScope dsc scope X.N tgs outs N')(Cy:X.env.scope=dsc)(hc:X.calm=true)
  (hg:∀I C s H ex,PG (cF X N' scope I C s H ex) B g) (Fo:Tgt tgs.length g) (Dc:∀I C s H ex,PCs (cF X N' scope I C s H ex) j K) (he:∀I C s H ex,PE (cF X N' scope I C s H ex) w G)
  (D7:∀x c,I.lookup x=some c->X.env.cells.lookup x=some c) (Go:∀y∈scope.names,y.2=.free->∃c,I.lookup y.1=some c)
  (I2:Inv X Aa σ Q s2) (T:Turn X.prog X.w X.K B J fp it tn) (G3:tn 0 s2.heap) (f2:∀b∈fp,lE X Aa Q b)
  {W:Nat->Nat->Q1->Hp->Prop} {m0} (w0:W 0 m0 [] Q) {Qf:Q1->Hp->Prop}
  (turn:∀ i m l H,W i m l H→(J.stop i H∧l.length≤sizeLine∧Qf l H)∨(J.go i H∧l.length < sizeLine∧∃ N:Q1→Hp→Prop,(∀ acc' O,N acc' O→∃ m',m' < m∧W (i + 1) m' acc' O)∧∀ x O,J.yld i H x O→g x (kD tgs.length outs σ) O fun b3 Q=>K b3 Q fun b H3 => if b=true then G b3 H3 λy H4=>N (l++[y]) H4 else N l H3))
  {E} {RR:Value->Addr->Result->Shared->Prop}
  (b5:∀D C s5 mC l H5,Inv X Aa σ (upd H5 D<|.lst l) s5->H5 D=none->Qf l H5->s5.heap.Ns C mC->lE X Aa (upd H5 D<|.lst l) C->RR (.ref D) C (.ok .next) s5) :
  wpAny `d X.A (newList []) (λl R=>wpAny `d X.A (newFunctionEnv scope X.env.globals I [] X.env.qual none .none (some X.env)) (λa0 b2 => codeAny `d X.A (.compStart (.ListComp w [#[B,f,j,0]] scope A) 0 (.ref it) l { a0 with scope:=relabel scope X.env }) (RR l a0.locals) b2) E R) E s2:=by
 have D6:=λb h=>let ⟨o,e,_⟩:=T.obj 0 _ G3 b h;aR e;refine wpAny_newObj_type (wpAny_newFunctionEnv S.nocell (by intro y hy;simp at hy) (λa6 U M=>?_) S.kind);generalize Nz:s2.heap.push { cls:=.type "list",dict:=none,data:=.seq ([]:Q7).toArray }=HH at U M ⊢;have hC:HH.objs.size=s2.heap.objs.size+1:=by rw[<-Nz,cK]
 have Lh:s2.heap.objs.size≠HH.objs.size:=by grind
 have Kp:s2.heap.objs.size<=HH.objs.size:=by rw[hC];exact Nat.le_succ _
 have a7:=λb o e=>M.extBut b o (by rw[hC];exact bF<|fV<|aR e)<|aD _<|Nz ▸ aD _ e;have Gq:=M.extBut _ _ Lh<|aD _<|Nz ▸ aW _ rfl;have Ko:=λb h=>fE<|D6 b h;have t:=I2.hok.fresh<|aO _;have I4:=s9 (tk:=s2.toks+([]:List<|Str×Value).length) S Cy I2 f2 D6 D7 Go Kp a7 U;have Oj:=T.keep 0 _ _ G3 λb h o e=>a7 b o e;generalize c1:HH.objs.size=C at *;generalize Lg:s2.heap.objs.size=D at *;have nofs:D∉(cF X N' scope I C s2 Q fp).fs:=λz=>by obtain⟨_,o,ho,_⟩:=I2.stack.mem<|z;have:=aR ho;rw[Lg]at this;exact dB _ this
 have a2:∀{a3:St} {O:Hp} {Y:Shared} {a:Q7} {n:Nat},Inv (cF X N' scope I C s2 Q fp) [] a3 O Y->Y.heap.get? D=some { cls:=.type "list",data:=.seq a.toArray n }->O D=none ->
   Inv (cF X N' scope I C s2 Q fp) [(D,{ cls:=.type "list",data:=.seq a.toArray n })] a3 O Y:=λ{a3 O Y a n} J e hn=>J.pins_of λp V=>by
  have ep:p=(D,{ cls:=.type "list",data:=.seq a.toArray n }):=by simpa using V
  subst ep;exact#[e,hn,Lh,nofs,λv z=>by cases z]
 have k:∀{O:Hp} {o:Obj},(∀b∈fp,O b=none)->∀b∈fp,lE (cF X N' scope I C s2 Q fp) [(D,o)] O b:=λ{O o} hn b h=>by
  refine#[hn b h,(I4.ok.exf b h).1,I4.ok.exfs b h,.inl h,(I4.ok.exf b h).2,λp V=>?_];have Cd:p∈([]:gQ)++[(D,o)]:=V;have ep:p=(D,o):=by simpa using Cd
  subst ep;exact Ko b h
 have a1:∀R:Shared,R={ s2 with heap:=a6,toks:=s2.toks+([]:List<|Str×Value).length } ->
   codeAny `d X.A (.compLoop (.ListComp w [#[B,f,j,0]] scope A) 0 (.ref it) (.ref D)<|compEnvC scope I C X.env) (RR (.ref D) C) R:=by
  rintro R rfl;refine xA (λm Y=>∃i l H a n,Inv (cF X N' scope I C s2 Q fp) [(D,{ cls:=.type "list",data:=.seq a.toArray n })] (kD tgs.length outs σ) H Y/\tn i Y.heap/\(∀b∈fp,H b=none)/\Vals l a/\W i m l H) ?_ m0
   #[0,[],Q,[],0,a2 I4 Gq t,Oj,λb h=>(f2 b h).1,.nil,w0]
  rintro m Y ⟨i,l,H,a,n,I',b0,a5,rD,w'⟩;rcases turn i m l H w' with⟨b1,hz,q⟩ | ⟨go,hz,N,hN,step⟩
  refine dY (T.done (cF X N' scope I C s2 Q fp) rfl rfl rfl hc i _ Y _ H _ I' (k a5) b0 b1) fun r s4 Z => ?_;obtain⟨hr,J4⟩:=Z;subst hr;obtain⟨eD,nD,_⟩:=J4.pin (D,{ cls:=.type "list",data:=.seq a.toArray n })<|aG _ aA;obtain⟨mC,c0,_⟩:=J4.loc;have I5:=aMd (D:=D) I2 (J4.pins_of (pins':=[])<|λp V=>nomatch V) f2 (by rw[Lg];exact aO _) eD rD hz nD;refine b5 D C s4 mC l H I5 nD q c0<|I2.fpOk (by rw[Lg];exact Kp) ?_;rw[eT<|Ne.symm Lh];exact J4.free;refine dY (T.item (cF X N' scope I C s2 Q fp) rfl rfl rfl hc i _ Y _ H _ I' (k a5) b0 go) fun r s4 Z => ?_;obtain⟨u,hr,h4⟩:=Z;subst hr;refine dY h4 λ_ s5 Z=>?_;obtain⟨x,H5,I5,r5,y5,G1,N2⟩:=Z;have b4:=I5.pinned (k N2)<|T.obj _ _ G1;refine dY (hg I C s2 Q fp _ s5 _ H5 x u _ b4 r5<|Fo x _ H5 _<|step x H5 y5) λ_ s6 Z=>?_;obtain⟨a4,H6,I6,q6,l6,k6⟩:=Z;refine dY (Dc I C s2 Q fp _ s6 a4 H6 _ I6 q6) λb s7 Z=>?_;obtain⟨H7,I7,q7⟩:=Z;have tail:∀{O:Hp} {Y:Shared},Inv (cF X N' scope I C s2 Q fp) ([(D,{ cls:=.type "list",data:=.seq a.toArray n })]++pP fp s5.heap) a4 O Y->(∀b∈fp,∀o,s5.heap.get? b=some o->Y.heap.get? b=some o)/\∀b∈fp,O b=none:=λ{O Y} J => #[fun b h o e=>(J.pin (b,o)<|aG _<|aG _<|ga_ h e).1,fun b h=>by obtain⟨o,e,d⟩:=T.obj _ _ G1 b h;exact(J.pin (b,o)<|aG _<|aG _<|ga_ h e).2.1];cases b with
  |false => rw[if_neg bJ]at q7 ⊢;obtain⟨m',hm,w7⟩:=hN _ _ q7;obtain⟨t1,t2⟩:=tail I7;exact#[m',hm,i+1,l,H7,a,n,I7.unpinned.weak l6.symm<|sL k6,T.keep _ _ _ G1 t1,t2,rD,w7]
  |true =>
   refine dY (he I C s2 Q fp _ s7 a4 H7 _ I7 q7) λv s8 Z=>?_;obtain⟨y,H8,I8,r8,q8⟩:=Z;obtain⟨m',hm,w8⟩:=hN _ _ q8;obtain⟨t1,t2⟩:=tail I8;obtain⟨eD,nD,_⟩:=I8.pin (D,{ cls:=.type "list",data:=.seq a.toArray n })<|aG _<|aM _ aA;have hl:=rD.length;refine call_meets F.slot_list_append #[_,eD,rfl] F.entry_list_append (F.args_list_append_2 _ _) (PySem.list_append D a.toArray n v (by rw[aS];lia)) #[eD,?_];have q:=PySem.IsL.update eD (·.push v);have eA:a.toArray.push v=(a++[v]).toArray:=by simp
   rw[eA]at q;refine#[m',hm,i+1,l++[y],H8,a++[v],_,a2 (Inv.weak (Inv.turned (it:=D) (I8.pins_of (pins':=[])<|λp V=>nomatch V) (λb o h e=>(bD _ _<|Ne.symm h).trans e) nD Lh (.inr (by show s2.heap.objs.size<=D;rw[Lg];exact aO _)) (λx c e z=>?_)<|λp V=>nomatch V) l6.symm<|sL k6) q nD,
    T.keep _ _ _ G1 (λb h o e=>(bD _ _<|Ko b h).trans<|t1 b h o e),t2,rD.append<|.cons r8 .nil,w8]
   obtain⟨v',oc,Gd,Kc⟩:=I8.cell x c e;rw[z,eD]at Gd;cases Gd;cases Kc
 exact codeAny_compStart_list (a1 _ rfl)<|T.self X.A 0 _ _ _ Oj<|a1 _ rfl
def vM(S:CompScope dsc scope N tgs outs N')(hi:PI X B f L)(hg:∀a C s H ex,PG (cF X N' scope a C s H ex) B g)(F:Tgt tgs.length g)(v:∀a C s H ex,PCs (cF X N' scope a C s H ex) j K)
  (he:∀a C s H ex,PE (cF X N' scope a C s H ex) w G) (z:X.N=N:=by rfl) (r:X.env.scope=dsc:=by rfl) (V:X.calm=true:=by rfl) (hs:∀x,foldedSetIterable f X.env x=pure x:=by intro _;rfl) :
  PE X (.ListComp w [#[B,f,j,0]] scope A) (mK tgs.length outs L g K G):=by
 subst z;intro p s u H Q I h;obtain⟨a,U,Y,Z⟩:=qT (scope:=scope) (env:=X.env)<|λy hy hk=>I.ok.has y.1<|.inl (by show X.env.scope.names.lookup y.1=_;rw[r];exact S.free y hy hk);rw[eval_ListComp];refine wpAny_comprehension_free (use:=none) rfl hs U S.kind S.names<|wpAny_mono (hi p s u H _ I h) (λxv s1 k=>wpAny_mono k (λa0 s2 n=>?_) λ_ _ e=>e) λ_ _ e=>e;obtain⟨it,fp,tn,J,H2,rfl,O,T,M,d,W,⟨m0,w0⟩,turn⟩:=n;refine qR (RR:=λi C=>compPost `d X.A X.xe none (EP X p u Q) i C) S r V hg F v he Y Z O T M d w0 (Qf:=λi H=>∀l,H l=none->Q (.ref l) (upd H l<|.lst i)) turn ?_;intro D C s5 mC i H5 R nD q m c;refine#[mC,m,λh' E=>#[.ref D,_,?_,rfl,q D nD]];exact R.turned (it:=C) (t':=s5.toks) (λb o t e=>(E.2 b t).trans e) c.1 c.2.1 c.2.2.2.1 c.2.2.2.2.1 c.2.2.2.2.2
def gz_{r c:Pos}(hN:X.N.Nodup)(hx:X.N[i]? = some x)(U:X.env.scope.names.lookup x=some .local)(S:CompScope dsc scope N tgs outs N')(hi:PI X B f L)(hg:∀p C s H ex,PG (cF X N' scope p C s H ex) B g)(t:Tgt tgs.length g)
  (d:∀p C s H ex,PCs (cF X N' scope p C s H ex) j K) (he:∀p C s H ex,PE (cF X N' scope p C s H ex) w G)
  (L3:swapsWith (.ListComp w [#[B,f,j,0]] scope A) (some<|.Name x r) c.line X.env=pure true:=by rfl)
  (k:X.N=N:=by rfl) (R:X.env.scope=dsc:=by rfl) (hc:X.calm=true:=by rfl) (hs:∀x,foldedSetIterable f X.env x=pure x:=by intro _;rfl) :
  PS X (.Assign [.Name x r] (.ListComp w [#[B,f,j,0]] scope A) c) (uQ (mK tgs.length outs L g K G)<|kL i):=by
 subst k;intro E s Y H F I h;obtain⟨p,e1,e2,e3⟩:=qT (scope:=scope) (env:=X.env)<|λy hy hk=>I.ok.has y.1<|.inl (by show X.env.scope.names.lookup y.1=_;rw[R];exact S.free y hy hk);rw[exec_Assign_Name_used _ _ _ _ L3];refine wpAny_bind<|wpAny_standAt<|wpAny_bind ?_;show wpAny _ X.A (do let _ <-comprehension (.ListComp w [⟨B,f,j,0⟩] scope A) scope X.env _ (newList []) false (eval f X.env) (some<|assign (.Name x r) X.env)) _ _ s;refine wpAny_bind (wpAny_mono (wpAny_comprehension_free (use:=some<|assign (.Name x r) X.env) (Q:=λ_ u=>SP X E F .next u) rfl hs e1 S.kind S.names
  (wpAny_mono (hi E s Y H _ I h) (λxv s1 h1=>wpAny_mono h1 (λa0 s2 h2=>?_) λ_ _ e=>e) λ_ _ e=>e)) (λ_ u hq=>wpAny_pure<|wpAny_pure hq) λ_ _ e=>e)
 obtain⟨it,fp,tn,J,H2,rfl,I2,T,V,f2,W,⟨m0,w0⟩,turn⟩:=h2;refine qR (RR:=λz C=>compPost `d X.A X.xe (some<|assign (.Name x r) X.env) (λ_ u=>SP X E F .next u) z C) S R hc hg t d he e2 e3 I2 T V f2 w0
  (Qf:=λz H=>∀l,H l=none->F.nx (Y.set i<|some<|.ref l) (upd H l<|.lst z)) turn ?_
 intro D C s5 mC z H5 I5 nD q O m;show wpAny _ X.A (assign (.Name x r) X.env<|.ref D) _ _ _;refine wpAny_assign_Name<|sD I5 hN hx (.inl U) (show RelV (.ref D) (.ref D)from rfl) (λu I' Z=>?_)<|.inr U;obtain⟨a,sb,v⟩:=Z;have M:C≠a:=by
  rcases v with v | v
  rw[v];exact m.2.1;exact Ne.symm<|m.2.2.2.2.1 x a v
 refine#[mC,O.sameBut sb M,λh' n=>#[_,_,I'.turned (it:=C) (t':=u.toks) (λb o hb e=>(n.2 b hb).trans e) m.1 m.2.1 m.2.2.2.1 m.2.2.2.2.1 m.2.2.2.2.2,q D nD]]
end
def SIter(t:Bool)(h:Heap)(it l:Addr)(k:Nat):Prop:=if t=true then h.IsTupleIter it l k else h.IsListIter it l k
def SSeq(t:Bool)(h:Heap)(l:Addr)(xs:S5):Prop:=if t=true then h.IsTuple l xs else h.IsList l xs
def SIter.obj(x:SIter t h it l k):∃o,h.get? it=some o/\∀v,o.data ≠ .cell v:=by cases t;obtain⟨o,e,_,d⟩:=(x);exact#[o,e,λv z=>by rw[d]at z;cases z];obtain⟨o,e,_,d⟩:=(x);exact#[o,e,λv z=>by rw[d]at z;cases z]
def SIter.to(x:SIter t h it l k)(e:∀o,h.get? it=some o->h'.get? it=some o):SIter t h' it l k:=by cases t;obtain⟨o,a,r⟩:=(x);exact#[o,e o a,r];obtain⟨o,a,r⟩:=(x);exact#[o,e o a,r]
def SSeq.to(x:SSeq t h l xs)(e:∀o,h.get? l=some o->h'.get? l=some o):SSeq t h' l xs:=by cases t;obtain⟨o,a,r⟩:=(x);exact#[o,e o a,r];obtain⟨o,a,r⟩:=(x);exact#[o,e o a,r]
section
variable{prog:Program}{w:World}{A:Around}{E:iE}{s:Shared}
def n6{it l}{i}{items}{x}{Q}(c:s.heap.IsTupleIter it l i)(j:s.heap.IsTuple l items)(m:items[i]? = some x)
  (g:∀h',h'.IsTupleIter it l (i+1)->Heap.SameBut it s.heap h'->Q x { s with heap:=h' }):wpAny `f A (Builtin.SmallTypes.nextOf<|.ref it) Q E s:=by
 obtain⟨o,b,h,a⟩:=id c;obtain⟨q,f,_,p,e⟩:=j;refine wpAny_bind<|wpAny_callSpecial?_slot c.typeIs F.slot_tuple_iterator_next<|wpAny_call_entry F.slot_tuple_iterator_next c.typeIs F.entry_tuple_iterator_next ?_<|F.args_tuple_iterator_next_1 _;show wpAny _ _ (field (.ref it) 0 >>= _) _ _ s;refine wpAny_bind<|wpAny_field b a (x:=.ref l) rfl ?_;show wpAny _ _ (field (.ref it) 1 >>= _) _ _ s;refine wpAny_bind<|wpAny_field b a rfl ?_;show wpAny _ _ (seqItems? (.ref l) >>= _) _ _ s;refine wpAny_bind<|wpAny_seqItems f e ?_;simp only[eX,m];exact wpAny_bind<|wpAny_setField b a `h (wpAny_pure #[x,rfl,wpAny_pure<|g _ #[_,cE _ b<|Obj.isFreed_of_fields<|Obj.data_mapFields a _,(Obj.cls_mapFields ..).trans h,by rw[Obj.data_mapFields a];simp[rawInt]]<|Heap.SameBut.update ..])
def zD{it l}{i}{items}{Q}(f:A.handled=none)(a:s.heap.IsTupleIter it l i)(m:s.heap.IsTuple l items)(p:items[i]? = none)
  (j:∀h' e,Heap.ExtBut it s.heap h'->(∃o,h'.get? e=some o/\o.cls=.type "StopIteration")->E (.ref e) { s with heap:=h' }):wpAny `f A (Builtin.SmallTypes.nextOf<|.ref it) Q E s:=by
 obtain⟨o,c,q,b⟩:=id a;obtain⟨u,h,_,r,g⟩:=m;refine wpAny_bind<|wpAny_callSpecial?_slot a.typeIs F.slot_tuple_iterator_next<|wpAny_call_entry F.slot_tuple_iterator_next a.typeIs F.entry_tuple_iterator_next ?_<|F.args_tuple_iterator_next_1 _;show wpAny _ _ (field (.ref it) 0 >>= _) _ _ s;refine wpAny_bind<|wpAny_field c b (x:=.ref l) rfl ?_;show wpAny _ _ (field (.ref it) 1 >>= _) _ _ s;refine wpAny_bind<|wpAny_field c b rfl ?_;show wpAny _ _ (seqItems? (.ref l) >>= _) _ _ s;refine wpAny_bind<|wpAny_seqItems h g ?_;simp only[eX,p];refine wpAny_bind<|wpAny_rule<|wpAny_bind<|wpAny_setField c b `h ?_;show wpAny _ _ (newExc (.type "StopIteration") [] >>= _) _ _ _;refine wpAny_bind ?_;simp only[newExc,newTuple];refine wpAny_bind<|wpAny_newObj_type ?_ (by size_fits);refine wpAny_bind<|wpAny_of_eq (by first | rfl | (simp only[firstArgMember];rfl)) ?_;refine wpAny_newObj_type ?_ (by size_fits);simp only[raiseNew];refine wpAny_bind<|wpAny_handled ?_;first | rw[show A.in1.handled=none from f] | rw[f]
 refine wpAny_bind<|wpAny_pure<|wpAny_throw ?_;exact j _ _ (((Heap.SameBut.update ..).extBut.push _).push _) #[_,aW _ rfl,rfl]
def hs_{t}{it l}{i}{items}{x}{Q}(a:SIter t s.heap it l i)(c:SSeq t s.heap l items)(e:items[i]? = some x)
  (b:∀h',SIter t h' it l (i+1)->Heap.SameBut it s.heap h'->Q x { s with heap:=h' }):wpAny `f A (Builtin.SmallTypes.nextOf<|.ref it) Q E s:=by
 cases t;exact wpAny_nextOf_list_item a c e b;exact n6 a c e b
def ko_{t}{it l}{i}{items}{Q}(c:A.handled=none)(a:SIter t s.heap it l i)(f:SSeq t s.heap l items)(g:items[i]? = none)
  (b:∀h' e,Heap.ExtBut it s.heap h'->(∃o,h'.get? e=some o/\o.cls=.type "StopIteration")->E (.ref e) { s with heap:=h' }):wpAny `f A (Builtin.SmallTypes.nextOf<|.ref it) Q E s:=by
 cases t;exact wpAny_nextOf_list_end c a f g b;exact zD c a f g b
section
variable{t1 t2:Bool}{z TI TO g f l j:Addr}{k1 k2:Nat}{xs ys:S5}{a b:Value}(D:ZipApart z TI TO g f l j)
  (hz:IsZip s.heap z TI TO .none) (q:IsPair s.heap TI (.ref g) (.ref f)) (p:IsPair s.heap TO a b)
  (h:SIter t1 s.heap g l k1) (m:SIter t2 s.heap f j k2) (i:SSeq t1 s.heap l xs) (r:SSeq t2 s.heap j ys)
include D hz q p h m i r
theorem aDa{x y}{Q:iE}(hx:xs[k1]? = some x)(hy:ys[k2]? = some y)
  (hQ:∀ h',IsZip h' z TI TO (rawInt s.heap.objs.size)→IsPair h' TO x y→SIter t1 h' g l (k1 + 1)→SIter t2 h' f j (k2 + 1)→IsPair h' s.heap.objs.size x y→h'.objs.size=s.heap.objs.size + 1 →
   (∀c o,c≠z->c≠TO->c≠g->c≠f->s.heap.get? c=some o->h'.get? c=some o)->Q `o { s with heap:=h' }) :
  wpAny `f A (Builtin.«zip.__next__» #[[.ref z],[]]) (λX s'=>∃v,X=.done (.ret v)/\Q v s') E s:=by
 show wpAny _ _ (field (.ref z) 2 >>= _) _ _ _;refine wpAny_bind<|wpAny_field hz rfl (x:=.bool false) rfl ?_;show wpAny _ _ (field (.ref z) 3 >>= _) _ _ _;refine wpAny_bind<|wpAny_field hz rfl rfl ?_;refine wpAny_bind<|wpAny_seqItems q rfl ?_;show wpAny _ _ (Builtin.SmallTypes.ownedTupleIsFree (.ref z) >>= _) _ _ _;refine wpAny_bind ?_;unfold Builtin.SmallTypes.ownedTupleIsFree;refine wpAny_bind<|wpAny_field hz rfl (x:=.none) rfl<|wpAny_pure ?_;simp only[if_true];refine wpAny_bind<|wpAny_rule ?_;refine wpAny_bind<|wpAny_field hz rfl rfl ?_;refine wpAny_bind<|wpAny_setField_rec hz (size_pos_of_not_empty rfl) λq1 u F=>?_;replace u:IsZip q1 z TI TO .ellipsis:=u;refine wpAny_bind ?_;simp only[List.zipIdx_cons,List.zipIdx_nil,List.forIn_cons,List.forIn_nil];refine wpAny_bind<|wpAny_bind<|wpAny_onRaise ?_;show wpAny _ _ (Builtin.SmallTypes.nextOf (.ref g) >>= _) _ _ _;refine wpAny_bind<|hs_ (h.to λo e=>F.extBut _ _ D.i1z e) (i.to λo e=>F.extBut _ _ D.l1z e) hx λq2 a2 G=>wpAny_pure ?_;have k:=G.extBut _ _ D.TOi1<|F.extBut _ _ D.TOz p;refine wpAny_bind<|wpAny_seqItems k rfl ?_;refine wpAny_bind<|wpAny_updateSeq_pair k λq3 T H=>?_;replace T:IsPair q3 TO x b:=T;refine wpAny_bind<|wpAny_letGo<|wpAny_pure ?_;refine wpAny_bind<|wpAny_bind<|wpAny_onRaise ?_;show wpAny _ _ (Builtin.SmallTypes.nextOf (.ref f) >>= _) _ _ _;refine wpAny_bind<|hs_ (m.to λo e=>H.extBut _ _ D.TOi2.symm<|G.extBut _ _ D.i12.symm<|F.extBut _ _ D.i2z e) (r.to λo e=>H.extBut _ _ D.l2TO<|G.extBut _ _ D.l2i1<|F.extBut _ _ D.l2z e) hy λq4 a4 J=>wpAny_pure ?_;have n:=J.extBut _ _ D.TOi2 T;refine wpAny_bind<|wpAny_seqItems n rfl ?_;refine wpAny_bind<|wpAny_updateSeq_pair n λB N L=>?_;replace N:IsPair B TO x y:=N;refine wpAny_bind<|wpAny_letGo<|wpAny_pure<|wpAny_pure ?_;refine wpAny_bind<|wpAny_seqItems N rfl ?_;refine wpAny_bind<|wpAny_newTuple ?_;have I:B.objs.size=s.heap.objs.size:=by rw[L.1,J.1,H.1,G.1,F.1]
 have z5:=L.extBut _ _ D.TOz.symm<|J.extBut _ _ D.i2z.symm<|H.extBut _ _ D.TOz.symm<|G.extBut _ _ D.i1z.symm u;have k5:∀c o,c≠z->c≠TO->c≠g->c≠f->s.heap.get? c=some o->B.get? c=some o:=λc o C O U W e=>L.extBut _ _ O<|J.extBut _ _ W<|H.extBut _ _ O<|G.extBut _ _ U<|F.extBut _ _ C e;have d1:=a2.to λo e=>L.extBut _ _ D.TOi1.symm<|J.extBut _ _ D.i12<|H.extBut _ _ D.TOi1.symm e;have d2:=a4.to λo e=>L.extBut _ _ D.TOi2.symm e;have M:=aR z5;show wpAny _ _ (Builtin.SmallTypes.ownedTupleHandOut (.ref z) (.ref B.objs.size) >>= _) _ _ _;refine wpAny_bind ?_;unfold Builtin.SmallTypes.ownedTupleHandOut;have z6:IsZip (B.push { cls:=.type "tuple",data:=.seq [x,y].toArray }) z TI TO .ellipsis:=aD _ z5;refine wpAny_bind<|wpAny_setField_rec z6 (size_pos_of_not_empty rfl) λq7 d Y=>?_;replace d:IsZip q7 z TI TO<|rawInt B.objs.size:=d;refine wpAny_setField_rec d `h λR S Z=>?_;replace S:IsZip R z TI TO<|rawInt B.objs.size:=S;have up:∀c o,c≠z->B.get? c=some o->R.get? c=some o:=λc o C e=>Z.extBut _ _ C<|Y.extBut _ _ C<|aD _ e;have V:=Z.extBut _ _ (fE M)<|Y.extBut _ _ (fE M)<|aW _ rfl;have t:R.objs.size=B.objs.size+1:=by rw[Z.1,Y.1,cK]
 rw[I]at S V t;refine wpAny_pure #[_,rfl,?_];show Q (.ref B.objs.size) _;rw[I];exact hQ R S (up _ _ D.TOz N) (d1.to λo e=>up _ o D.i1z e) (d2.to λo e=>up _ o D.i2z e) V t λc o C O U W e=>up c o C<|k5 c o C O U W e
theorem aGd{Q}(O:A.handled=none)(V:xs[k1]? = none\/ys[k2]? = none)
  (N:∀h' e,(∀c o,c≠z->c≠TO->c≠g->c≠f->s.heap.get? c=some o->h'.get? c=some o)->(∃o,h'.get? e=some o/\o.cls=.type "StopIteration")->E (.ref e) { s with heap:=h' }) :
  wpAny `f A (Builtin.«zip.__next__» #[[.ref z],[]]) Q E s:=by
 show wpAny _ _ (field (.ref z) 2 >>= _) _ _ _;refine wpAny_bind<|wpAny_field hz rfl (x:=.bool false) rfl ?_;show wpAny _ _ (field (.ref z) 3 >>= _) _ _ _;refine wpAny_bind<|wpAny_field hz rfl rfl ?_;refine wpAny_bind<|wpAny_seqItems q rfl ?_;show wpAny _ _ (Builtin.SmallTypes.ownedTupleIsFree (.ref z) >>= _) _ _ _;refine wpAny_bind ?_;unfold Builtin.SmallTypes.ownedTupleIsFree;refine wpAny_bind<|wpAny_field hz rfl (x:=.none) rfl<|wpAny_pure ?_;simp only[if_true];refine wpAny_bind<|wpAny_rule ?_;refine wpAny_bind<|wpAny_field hz rfl rfl ?_;refine wpAny_bind<|wpAny_setField_rec hz (size_pos_of_not_empty rfl) λZ u v=>?_;replace u:IsZip Z z TI TO .ellipsis:=u;refine wpAny_bind ?_;simp only[List.zipIdx_cons,List.zipIdx_nil,List.forIn_cons,List.forIn_nil];refine wpAny_bind<|wpAny_bind<|wpAny_onRaise ?_;show wpAny _ _ (Builtin.SmallTypes.nextOf (.ref g) >>= _) _ _ _;cases R:xs[k1]? with
 |none =>
  refine wpAny_bind<|ko_ O (h.to λo e=>v.extBut _ _ D.i1z e) (i.to λo e=>v.extBut _ _ D.l1z e) R λd e y J=>?_;obtain⟨L,F,G⟩:=J;have n:=y _ _ D.i1z.symm u;have I:e≠z:=by grind
  exact wpAny_setField_rec n (size_pos_of_not_empty rfl) λS _ B=>N S e (λc o C _ H _ x=>B.extBut _ _ C<|y _ _ H<|v.extBut _ _ C x) #[L,B.extBut _ _ I F,G]
 |some x =>
  have Y:ys[k2]? = none:=by grind
  refine wpAny_bind<|hs_ (h.to λo e=>v.extBut _ _ D.i1z e) (i.to λo e=>v.extBut _ _ D.l1z e) R λd a2 y=>wpAny_pure ?_;have M:=y.extBut _ _ D.TOi1<|v.extBut _ _ D.TOz p;refine wpAny_bind<|wpAny_seqItems M rfl ?_;refine wpAny_bind<|wpAny_updateSeq_pair M λS b3 B=>?_;refine wpAny_bind<|wpAny_letGo<|wpAny_pure ?_;refine wpAny_bind<|wpAny_bind<|wpAny_onRaise ?_;show wpAny _ _ (Builtin.SmallTypes.nextOf (.ref f) >>= _) _ _ _;refine wpAny_bind<|ko_ O (m.to λo e=>B.extBut _ _ D.TOi2.symm<|y.extBut _ _ D.i12.symm<|v.extBut _ _ D.i2z e) (r.to λo e=>B.extBut _ _ D.l2TO<|y.extBut _ _ D.l2i1<|v.extBut _ _ D.l2z e) Y λq4 e T J=>?_;obtain⟨L,F,G⟩:=J;have t:=T _ _ D.i2z.symm<|B.extBut _ _ D.TOz.symm<|y.extBut _ _ D.i1z.symm u;have I:e≠z:=by grind
  exact wpAny_setField_rec t (size_pos_of_not_empty rfl) λk _ U=>N k e (λc o C W H X x=>U.extBut _ _ C<|T _ _ X<|B.extBut _ _ W<|y.extBut _ _ H<|v.extBut _ _ C x) #[L,U.extBut _ _ I F,G]
theorem ke_{x y}{Q}(L:xs[k1]? = some x)(M:ys[k2]? = some y)
  (J:∀ h',IsZip h' z TI TO (rawInt s.heap.objs.size)→IsPair h' TO x y→SIter t1 h' g l (k1 + 1)→SIter t2 h' f j (k2 + 1)→IsPair h' s.heap.objs.size x y→h'.objs.size=s.heap.objs.size + 1 →
   (∀c o,c≠z->c≠TO->c≠g->c≠f->s.heap.get? c=some o->h'.get? c=some o)->Q (some `o) { s with heap:=h' }) :
  wpAny `f A (pyNext<|.ref z) Q E s:=by
 have e:s.TypeIs (.ref z) "zip":=#[_,hz,rfl];exact wpAny_bind<|wpAny_attempt<|wpAny_callSpecial?_slot e F.slot_zip_next<|wpAny_call_entry F.slot_zip_next e F.entry_zip_next (aDa D hz q p h m i r L M λh' u v B C G H I=>wpAny_pure<|J h' u v B C G H I)<|F.args_zip_next_1 _
theorem iz_{Q}(G:A.handled=none)(v:xs[k1]? = none\/ys[k2]? = none)
  (y:∀h',(∀c o,c≠z->c≠TO->c≠g->c≠f->s.heap.get? c=some o->h'.get? c=some o)->Q none { s with heap:=h' }):wpAny `f A (pyNext<|.ref z) Q E s:=by
 have u:s.TypeIs (.ref z) "zip":=#[_,hz,rfl];refine wpAny_bind<|wpAny_attempt<|wpAny_callSpecial?_slot u F.slot_zip_next<|wpAny_call_entry F.slot_zip_next u F.entry_zip_next (aGd D hz q p h m i r G v λh' e H C=>?_)<|F.args_zip_next_1 _;obtain⟨o,I,B⟩:=C;exact wpAny_bind<|wpAny_isInstance (b:=true) #[o,I,B] isSubtype_stop<|wpAny_pure<|y _ H
end
end
abbrev aKt(t:Bool):String:=if t=true then "tuple_iterator" else "list_iterator"
abbrev zq1(t1:Bool)(h:Heap)(a:Addr):Heap:=h.push { cls:=.type<|aKt t1,data:=.fields [.ref a,.int 0 0].toArray }
abbrev zq2(t1 t2:Bool)(h:Heap)(a b:Addr):Heap:=(zq1 t1 h a).push { cls:=.type<|aKt t2,data:=.fields [.ref b,.int 0 0].toArray }
abbrev zq3(t1 t2:Bool)(h:Heap)(a b:Addr):Heap:=(zq2 t1 t2 h a b).push { cls:=.type "tuple",data:=.seq [.ref h.objs.size,.ref (zq1 t1 h a).objs.size].toArray }
abbrev zq4(t1 t2:Bool)(h:Heap)(a b:Addr):Heap:=(zq3 t1 t2 h a b).push { cls:=.type "tuple",data:=.seq [.none,.none].toArray }
abbrev zq5(t1 t2:Bool)(h:Heap)(a b:Addr):Heap:=(zq4 t1 t2 h a b).push { cls:=.type "zip",data:=.fields [.none,.bool false,.bool false,.ref (zq2 t1 t2 h a b).objs.size,.ref (zq3 t1 t2 h a b).objs.size].toArray }
def yW{prog}{w}{A}{E}{s}{t}{l}{xs}{Q}(b:SSeq t s.heap l xs)
  (a:Q `o { s with heap:=zq1 t s.heap l }):wpAny `f A (pyIter<|.ref l) Q E s:=by
 cases t;exact wpAny_pyIter_list b a;exact wpAny_pyIter_tuple b a
def aGc(t1 t2:Bool)(a b:Addr)(xs ys:S5) :
  Meets (Builtin.«zip.__new__» #[[.type "zip",.ref a,.ref b],[]]) (λ_ R s=>SSeq t1 s.heap a xs/\SSeq t2 s.heap b ys/\R (.ok<|.ret<|.ref (zq4 t1 t2 s.heap a b).objs.size) { s with heap:=zq5 t1 t2 s.heap a b }):=
 .of_wp fun i w A R s h=>by
  obtain⟨m,g,d,tk,p⟩:=s;obtain⟨l,j,h⟩:=h;have q:=sub_zip;have c:=l;have f:SSeq t2 (Shared.heap #[zq1 t1 m a,g,d,tk,p]) b ys:=j.to λo e=>aD _ e
  wp_walk using yW c,yW f
  exact#[_,rfl,h]
def tU{prog}{w}{A}{E}{s:Shared}{t1 t2}{l1 l2}{xs ys}{Q}(p:SSeq t1 s.heap l1 xs)(m:SSeq t2 s.heap l2 ys)
  (h:∀ h',IsZip h' (s.heap.objs.size + 4) (s.heap.objs.size + 2) (s.heap.objs.size + 3) .none→IsPair h' (s.heap.objs.size + 2) `o (.ref<|s.heap.objs.size + 1) →
   IsPair h' (s.heap.objs.size+3) .none .none->SIter t1 h' s.heap.objs.size l1 0->SIter t2 h' `n l2 0->(∀c o,s.heap.get? c=some o->h'.get? c=some o)->Q (.ref<|s.heap.objs.size+4) { s with heap:=h' }) :
  wpAny `f A (call (.type "zip") [.ref l1,.ref l2]) Q E s:=by
 refine callType_new F.called_zip rfl (F.typeCall_zip_2 _ _) (F.newCall_zip_2 _ _) (λobj=>F.args_object_init_3 obj _ _) F.entry_zip_new (aGc t1 t2 l1 l2 xs ys) #[p,m,?_];have b:(zq1 t1 s.heap l1).objs.size=s.heap.objs.size+1:=cK ..;have e:(zq2 t1 t2 s.heap l1 l2).objs.size=s.heap.objs.size+2:=by rw[cK,b]
 have f:(zq3 t1 t2 s.heap l1 l2).objs.size=s.heap.objs.size+3:=by rw[cK,e]
 have l:(zq4 t1 t2 s.heap l1 l2).objs.size=s.heap.objs.size+4:=by rw[cK,f]
 have a:(zq5 t1 t2 s.heap l1 l2).get? (zq4 t1 t2 s.heap l1 l2).objs.size=some _:=aW _ rfl;have j:(zq5 t1 t2 s.heap l1 l2).get? (zq3 t1 t2 s.heap l1 l2).objs.size=some _:=aD _<|aW _ rfl;have i:(zq5 t1 t2 s.heap l1 l2).get? (zq2 t1 t2 s.heap l1 l2).objs.size=some _:=aD _<|aD _<|aW _ rfl;have g:(zq5 t1 t2 s.heap l1 l2).get? (zq1 t1 s.heap l1).objs.size=some _:=aD _<|aD _<|aD _<|aW _ rfl;have q:(zq5 t1 t2 s.heap l1 l2).get? s.heap.objs.size=some _:=aD _<|aD _<|aD _<|aD _<|aW _ rfl;rw[e,f,l]at a;rw[b,e]at i;rw[f]at j;rw[b]at g;rw[l];refine#[#[_,a,rfl],h _ a i j ?_ ?_ λc o x=>aD _<|aD _<|aD _<|aD _<|aD _ x];cases t1<;>exact#[_,q,rfl,rfl]
 cases t2<;>exact#[_,g,rfl,rfl]
section
variable{prog:Program}{w:World}{A:Around}{R:Result->Shared->Prop}{I:Addr}{fp a:R9}{n:Nat}{P:Nat->Value->Prop}{St:Nat->Heap->Prop}
def aPm(q:Bool)(kw:List<|Str×Value)(W:Walks prog w A.in1 I fp a n P St)(u:Nat->Nat->Bool)(S:Addr)(C:Heap->Prop)(T:∀h h':Heap,C h->(∀b o,b∉a->b≠S->h.get? b=some o->h'.get? b=some o)->C h')(Ij:∀i j vi vj (s:Shared) (Q:iE) (E:iE),C s.heap->P i vi->P j vj->Q (.bool<|u i j) s->wpAny `f A.in1 (richCompare (bif q then .Gt else .Lt) vi vj) Q E s)(d:S∉fp) :
  ∀(k j:Nat) (s:Shared) (l:Value) (c:Nat),C s.heap->n-(j+1)=k->j+1<=n->St (j+1) s.heap->P (argBest u j) l->s.heap.get? S=some { cls:=.type "list",dict:=none,data:=.seq [l,l].toArray c,slots:= [].toArray } ->
  (∀v h' tk,P (argBest u<|n-1) v->(∀b o,b∉a->b≠S->s.heap.get? b=some o->h'.get? b=some o)->R (.ok<|.ret v) { s with heap:=h',toks:=tk }) ->
  codeAny `f A (.builtin (bif q then "max.loop" else "min.loop") #[[.ref I,.none,.ref S],kw]) R s:=by
 have H:plainId (bif q then "max.loop" else "min.loop")=true:=by cases q<;>first | exact F.plain_min_loop | exact F.plain_max_loop
 have X:(toString (bif q then "max" else "min")++toString ".loop" : String)=(bif q then "max.loop" else "min.loop"):=by cases q<;>decide
 cases q<;>dsimp only[cond]at *
 all_goals
  have t:S∉a:=λh=>d<|W.sub _ h;intro k
  induction k with
  |zero =>
   intro j s l c B hk hj L D z G;have Y:j+1=n:=by lia
   refine codeAny_builtin (by first | exact F.entry_min_loop | exact F.entry_max_loop) ?_;rw[Around.under_plainId H _];show wpAny _ A.in1 (seqItems? (.ref S) >>= _) _ _ s;refine wpAny_bind<|wpAny_seqItems z rfl ?_;show wpAny _ A.in1 (tryCatch (pyNext<|.ref I) _ >>= _) _ _ s;refine wpAny_bind<|wpAny_tryCatch<|W.done s _ _ (Y ▸ L) λh' tk g=>?_;have y:=g S _ t z;show wpAny _ A.in1 (updateSeq S (λ_=>[].toArray) >>= _) _ _ _;refine wpAny_bind ?_;refine wpAny_updateSeq y rfl<|wpAny_bind<|wpAny_letGo<|wpAny_pure ?_;exact G l _ tk (by rw[<-Y];exact D) λb o r m e=>(bD _ _<|Ne.symm m).trans (g b o r e)
  |succ k V =>
   intro j s l c B hk hj L D z G;have J:j+1<n:=by lia
   refine codeAny_builtin (by first | exact F.entry_min_loop | exact F.entry_max_loop) ?_;rw[Around.under_plainId H _];show wpAny _ A.in1 (seqItems? (.ref S) >>= _) _ _ s;refine wpAny_bind<|wpAny_seqItems z rfl ?_;show wpAny _ A.in1 (tryCatch (pyNext<|.ref I) _ >>= _) _ _ s;refine wpAny_bind<|wpAny_tryCatch<|W.item (j+1) s _ _ J L λv h' tk x Z g=>?_;have y:=g S _ t z;show wpAny _ A.in1 (tryCatch (holding [v,v] (richCompare _ v l >>= _)) _ >>= _) _ _ _;refine wpAny_bind<|wpAny_tryCatch<|wpAny_holding<|wpAny_bind<|Ij (j+1) (argBest u j) v l _ _ _ (T _ _ B λb o p _ e=>g b o p e) x D ?_;refine wpAny_bind<|wpAny_holding<|wpAny_truthy_bool ?_;refine wpAny_bind<|wpAny_letGo<|wpAny_pure ?_;cases p:u (j+1) (argBest u j)with
   |true => simp only[if_true];refine wpAny_bind ?_;refine wpAny_updateSeq y rfl<|wpAny_bind<|wpAny_letGo ?_;rw[X];refine wpAny_pure #[plainId_quiet H _,V (j+1) _ v _ (T _ _ B λb o p m e=>(bD _ _<|Ne.symm m).trans<|g b o p e) `b J (W.frame _ _ _ Z λb Kg o e=>?_) (by simp only[argBest,p,if_true];exact x) (cE _ y rfl) λU N f O M=>?_];exact(bD _ _ (λh:S=b=>d (by rw[h];exact Kg))).trans e;exact G U N f O λb o r m e=>M b o r m ((bD _ _<|Ne.symm m).trans<|g b o r e)
   |false => simp only[gO,if_false];refine wpAny_bind<|wpAny_letGo ?_;rw[X];refine wpAny_pure #[plainId_quiet H _,V (j+1) _ l c (T _ _ B λb o p _ e=>g b o p e) `b J Z (by simp only[argBest,p,gO,if_false];exact D) y λU N f O M=>?_];exact G U N f O λb o r m e=>M b o r m<|g b o r e
def zE(f:Bool)(D:List<|Str×Value)(W:Walks prog w A.in1 I fp a n P St)(q:Nat->Nat->Bool)(S:Addr)(C:Heap->Prop)(y:∀h h':Heap,C h->(∀b o,b∉a->b≠S->h.get? b=some o->h'.get? b=some o)->C h')(Y:∀i j H J (s:Shared) (Q:iE) (E:iE),C s.heap->P i H->P j J->Q (.bool<|q i j) s->wpAny `f A.in1 (richCompare (bif f then .Gt else .Lt) H J) Q E s)(p:S∉fp)(B:0<n){s:Shared}{c:Nat}(X:C s.heap)(N:St 0 s.heap)
  (z:s.heap.get? S=some { cls:=.type "list",dict:=none,data:=.seq [].toArray c,slots:= [].toArray })
  (x:∀v h' tk,P (argBest q<|n-1) v->(∀b o,b∉a->b≠S->s.heap.get? b=some o->h'.get? b=some o)->R (.ok<|.ret v) { s with heap:=h',toks:=tk }) :
  codeAny `f A (.builtin (bif f then "max.loop" else "min.loop") #[[.ref I,.none,.ref S],D]) R s:=by
 have G:plainId (bif f then "max.loop" else "min.loop")=true:=by cases f<;>first | exact F.plain_min_loop | exact F.plain_max_loop
 have M:(toString (bif f then "max" else "min")++toString ".loop" : String)=(bif f then "max.loop" else "min.loop"):=by cases f<;>decide
 have L:=aPm (R:=R) f D W q S C y Y p;cases f<;>dsimp only[cond]at *
 all_goals
  have k:S∉a:=λh=>p<|W.sub _ h;refine codeAny_builtin (by first | exact F.entry_min_loop | exact F.entry_max_loop) ?_;rw[Around.under_plainId G _];show wpAny _ A.in1 (seqItems? (.ref S) >>= _) _ _ s;refine wpAny_bind<|wpAny_seqItems z rfl ?_;show wpAny _ A.in1 (tryCatch (pyNext<|.ref I) _ >>= _) _ _ s;refine wpAny_bind<|wpAny_tryCatch<|W.item 0 s _ _ B N λv h' tk t U m=>?_;have r:=m S _ k z;show wpAny _ A.in1 (updateSeq S (λ_=>[v,v].toArray) >>= _) _ _ _;refine wpAny_bind ?_;refine wpAny_updateSeq r rfl ?_;rw[M];refine wpAny_pure #[plainId_quiet G _,L _ 0 _ v _ (y _ _ X λb o V l e=>(bD _ _<|Ne.symm l).trans<|m b o V e) rfl B (W.frame _ _ _ U λb Z o e=>?_) t (cE _ r rfl) λv' T g d O=>?_];exact(bD _ _ (λh:S=b=>p (by rw[h];exact Z))).trans e;exact x v' T g d λb o u l e=>O b o u l<|(bD _ _<|Ne.symm l).trans<|m b o u e
def aEj{d}{nm}(W:Walks prog w A.in1 I fp a 0 P St)(S:Addr)(i:S∉fp){s}{c}(f:St 0 s.heap)
  (h:s.heap.get? S=some { cls:=.type "list",dict:=none,data:=.seq [].toArray c,slots:= [].toArray })
  (g:∀h' tk,(∀b o,b∉a->s.heap.get? b=some o->h'.get? b=some o)->R (.ok<|.ret d) { s with heap:=h',toks:=tk }) :
  codeAny `f A (.builtin "max.loop" #[[.ref I,.none,.ref S],[(nm,d)]]) R s:=by
 refine codeAny_builtin F.entry_max_loop ?_;rw[Around.under_plainId F.plain_max_loop _];show wpAny _ A.in1 (seqItems? (.ref S) >>= _) _ _ s;refine wpAny_bind<|wpAny_seqItems h rfl ?_;show wpAny _ A.in1 (tryCatch (pyNext<|.ref I) _ >>= _) _ _ s;refine wpAny_bind<|wpAny_tryCatch<|W.done s _ _ f λh' tk e=>?_;refine wpAny_bind<|wpAny_rule<|wpAny_pure ?_;exact g h' tk e
end
def aFp(a d:Value):argsOk "max" #[[a],[(Str.ofString "default",d)]]:=by unfold argsOk;kernel_rfl
def Sq(t:Bool)(K:dN)(H:Hp)(a:Addr)(xs:Q1):Prop:=if t=true then SqT K H a xs else SqL K H a xs
def Inv.sseq(I:Inv X Aa c H s)(h:Sq t X.K H a xs):∃b:Q7,Vals xs b/\SSeq t s.heap a b.toArray/\xs.length<=sizeLine:=by cases t;obtain ⟨b,r,p,z⟩:=I.list h;exact#[b,r,p.isList,z];obtain ⟨b,r,p,z⟩:=I.tuple h;exact#[b,r,p,z]
def Inv.sseq_inj(I:Inv X Aa b H s)(h:Sq t X.K H a xs)(h':Sq t X.K H a ys):xs=ys:=by cases t;exact I.list_inj h h';exact I.tuple_inj h h'
def Itz(t1 t2:Bool)(K:dN)(a b:Addr):It:=
  #[fun i H => ∃ c e x y,Sq t1 K H a c∧Sq t2 K H b e∧c[i]? = some x∧e[i]? = some y,
   λi H v f=>∃p x y,v=.ref p/\H p=none/\f=upd H p (.tup [x,y])/\∀c e,Sq t1 K H a c->Sq t2 K H b e->c[i]? = some x/\e[i]? = some y,
   λi H=>∃c e,Sq t1 K H a c/\Sq t2 K H b e/\(c.length<=i\/e.length<=i)]
section
variable{X:Cx}{a:gQ}{f:St}{H:Hp}{s:Shared}
def Inv.turnedL{ch:R9}(I:Inv X a f H s)(h:∀b∈ch,lE X a H b)(k:∀b o,b∉ch->s.heap.get? b=some o->h'.get? b=some o):Inv X a f H { s with heap:=h',toks:=t' }:=by
 have i:∀b u,H b=some u->b∉ch:=λb u e z=>by rw[(h b z).1]at e;cases e
 refine I.step (g':=s.gens) (d':=s.drawn) (ch:=ch) (λb j=>#[(h b j).2.2.2.1,(h b j).2.1,(h b j).2.2.2.2.1,(h b j).2.2.2.2.2]) (λb o _ _ g e _=>k b o g e) (λb o _ _ g e _=>#[o.slots,k b o g e]) (λ_ _ _ _ n=>n)
  (λb o g e=>#[o,k b o g e]) (λ_ _ e=>e) (λ_ _ _ e=>e) (λb B e=>#[[].toArray,by rw[e];simp]) (λm y=>?_) (λb u e=>?_) I.bare
 obtain ⟨o,p,l,A,r⟩:=y;exact#[o,p,l,k _ o (λz=>(h _ z).2.1 rfl) A,r];refine (I.hok b u e).stay (fun c v g q=>k c v ?_ q) (fun _ q=>q) fun _ _ q=>q;rcases g with z | z
 rw[z];exact i b u e;exact i c _ z
def Inv.turnedT{ch:R9}(I:Inv X a f H s)(j:∀b∈ch,lE X a H b)(k:∀b o,b∉ch->s.heap.get? b=some o->h'.get? b=some o)
  (y:s.heap.objs.size<=T) (r:Vals xs i) (hz:xs.length<=sizeLine) (e:IsTup h' T i.toArray):Inv X a f (upd H T<|.tup xs) { s with heap:=h',toks:=t' }:=by
 have l:H T=none:=I.hok.fresh y;have p:∀b u,H b=some u->b∉ch:=λb u e z=>by rw[(j b z).1]at e;cases e
 have neT:∀b o,s.heap.get? b=some o->b≠T:=λb o e z=>absurd (aX (aR e) (by rw[z];exact y))<|dB _;refine I.step (g':=s.gens) (d':=s.drawn) (ch:=ch) (λb g=>#[(j b g).2.2.2.1,(j b g).2.1,(j b g).2.2.2.2.1,(j b g).2.2.2.2.2]) (λb o _ _ h e _=>k b o h e) (λb o _ _ h e _=>#[o.slots,k b o h e])
  (λb o _ e n=>by rw[eT<|neT b o e];exact n) (λb o h e=>#[o,k b o h e]) (λb F q=>by rw[eT<|g8 q l];exact q) (λb o u q=>by rw[eT<|g8 q l];exact q)
  (λb G q=>#[[].toArray,by rw[eT<|g8 q l,q];simp]) (λm C=>?_) (λb u q=>?_) I.bare
 obtain ⟨o,B,A,D,E⟩:=C;exact#[o,B,A,k _ o (λz=>(j _ z).2.1 rfl) D,E];by_cases g:b=T;subst g;rw[bZ]at q;cases q;exact#[hz,i,r,e];rw [eT g] at q;refine(I.hok b u q).stay (λc v h z=>k c v ?_ z) (λc z=>by rw[eT<|g8 z l];exact z) λc F z=>by rw[eT<|g8 z l];exact z
 rcases h with z | z
 rw[z];exact p b u q;exact p c _ z
end
def aHi{P}{w}{K}{es}{S}{tpos}{t1 t2}{a b z TI TO i1 i2}(D:ZipApart z TI TO i1 i2 a b) :
  Turn P w K (.Tuple es S tpos) (Itz t1 t2 K a b) [z,TI,TO,i1,i2] z (λi h=>IsZip h z TI TO .none/\IsPair h TI (.ref i1) (.ref i2)/\(∃u v,IsPair h TO u v)/\SIter t1 h i1 a i/\SIter t2 h i2 b i)where
 mem:=aA
 obj:=λi h m c V=>by
  obtain⟨l,j,⟨u,v,p⟩,q,r⟩:=m;simp only[aF,bV,or_false]at V;rcases V with rfl | rfl | rfl | rfl | rfl
  exact#[_,l,λv e=>nomatch e];exact#[_,j,λv e=>nomatch e];exact#[_,p,λv e=>nomatch e];exact q.obj;exact r.obj
 keep:=λi h t m k=>by obtain⟨l,j,⟨u,v,p⟩,q,r⟩:=m;exact#[k z aA _ l,k TI `h _ j,#[u,v,k TO `h _ p],q.to λo e=>k i1 `h o e,r.to λo e=>k i2 (List.mem_of_getLast? rfl) o e]
 item:=by
  intro X N R M f i G s σ H E I hf m O;subst N R M;obtain⟨xs,ys,x,y,C,F,d,n⟩:=O;obtain⟨A,W,T,z1⟩:=I.sseq C;obtain⟨B,Y,U,z2⟩:=I.sseq F;obtain⟨u1,Kr,Jc⟩:=W.get d;obtain⟨u2,L,Z⟩:=Y.get n;obtain⟨l,j,⟨u,v,p⟩,q,r⟩:=m;have J:∀c∈[z,TO,i1,i2],lE X G H c:=by grind
  have lt:∀{c o},s.heap.get? c=some o->s.heap.objs.size≠c:=λe=>fE<|aR e;refine ke_ D l j p q r T U (x:=u1) (y:=u2) (by simpa using Kr) (by simpa using L) λt a1 a2 a3 a4 a5 a6 Q=>?_;refine#[_,rfl,wpAny_letOwnedTupleGo_zip a1 λEa b1 b2=>?_];have g:=b2;have S:∀c o,c∉[z,TO,i1,i2]->s.heap.get? c=some o->Ea.get? c=some o:=λc o f e=>by simp only[aF,bV,or_false,not_or]at f;exact g.extBut _ _ f.1<|Q c o f.1 f.2.1 f.2.2.1 f.2.2.2 e
  have tT:=g.extBut _ _ (lt l) a5;have nT:=I.hok.fresh<|aO _;have I':=I.turnedT (t':=s.toks) J S (aO _) (.cons Jc<|.cons Z .nil) (by show 2<=sizeLine;decide) #[_,tT,rfl,_,rfl];refine#[.ref s.heap.objs.size,upd H s.heap.objs.size<|.tup [x,y],I',rfl,
   #[_,x,y,rfl,nT,rfl,λa0 a7 w1 w2=>#[by rw[I.sseq_inj w1 C];exact d,by rw[I.sseq_inj w2 F];exact n]],#[b1,g.extBut _ _ D.TIz<|Q _ _ D.TIz D.TITO D.TIi1 D.TIi2 j,#[_,_,g.extBut _ _ D.TOz a2],a3.to λo e=>g.extBut _ _ D.i1z e,a4.to λo e=>g.extBut _ _ D.i2z e],λc f=>?_]
  obtain⟨o,eo,_⟩:∃o,s.heap.get? c=some o/\True:=by
   simp only[aF,bV,or_false]at f;rcases f with rfl | rfl | rfl | rfl | rfl
   exact#[_,l,trivial];exact#[_,j,trivial];exact#[_,p,trivial];obtain⟨o,e,_⟩:=q.obj;exact#[o,e,trivial];obtain⟨o,e,_⟩:=r.obj;exact#[o,e,trivial]
  rw[eT<|Ne.symm<|lt eo];exact(hf c f).1
 done:=by
  intro X N R M f i G s σ H E I hf m O;subst N R M;obtain⟨xs,ys,C,F,e⟩:=O;obtain⟨A,W,T,z1⟩:=I.sseq C;obtain⟨B,Y,U,z2⟩:=I.sseq F;obtain⟨l,j,⟨u,v,p⟩,q,r⟩:=m;have J:∀c∈[z,TO,i1,i2],lE X G H c:=by grind
  have l1:=W.length;have l2:=Y.length;refine iz_ D l j p q r T U (I.ok.hd f) ?_ λt Q=>#[rfl,I.turnedL (t':=s.toks) J λc o f e=>?_];rcases e with e | e
  exact .inl (by simp;lia);exact .inr (by simp;lia);grind
 self:=λ_ _ _ _ _ m h=>wpAny_pyIter_zip m.1 h
def aMi:bootBuiltins "zip" = some (.type "zip"):=by decide +kernel
def bJu(t1 t2:Bool)(K:dN)(e:TA):TI:=λi H R=>e i H λf c=>∃a b,f=[.ref a,.ref b]/\(∃g,Sq t1 K c a g)/\(∃h,Sq t2 K c b h)/\R (Itz t1 t2 K a b) c
def aVw(M:Gl X "zip")(O:X.mg "zip" = none)(ha:PA X [ea,eb] ta)(Q:starEach [ea,eb] X.env=[(false,eval ea X.env),(false,eval eb X.env)]:=by rfl)(hs2:starEach [eb] X.env=[(false,eval eb X.env)]:=by rfl) :
  PI X (.Tuple es kk tpos) (.Call (.Name "zip" p) [ea,eb] [] pos) (bJu t1 t2 X.K ta):=by
 intro A s Z H R I h;refine Call_<|gq_ I M O aMi<|cO (dY (ha pos A s Z H _ I h) λn g B=>?_) (by rw[Q,hs2]) (by rw[hs2];rfl);obtain⟨t,F,f,z,S⟩:=B;obtain⟨a,b,e,⟨x,W⟩,⟨V,Y⟩,q⟩:=S;subst e;obtain⟨u,v,rfl,T,U⟩:=z.two;cases T;cases U;obtain⟨m,z,r,z1⟩:=f.sseq W;obtain⟨o,k,y,z2⟩:=f.sseq Y;have L:a<g.heap.objs.size:=by cases t1<;>(obtain⟨_,e,_⟩:=r;exact aR e)
 have J:b<g.heap.objs.size:=by cases t2<;>(obtain⟨_,e,_⟩:=y;exact aR e)
 refine tU r y λd l C D G E N=>wpAny_pyIter_zip l ?_;refine#[_,_,_,_,F,rfl,f.kept (t':=g.toks) N,aHi (t1:=t1) (t2:=t2)<|zipApart_new L J,#[l,C,#[_,_,D],G,E],λc j=>?_,q];have i:g.heap.objs.size<=c:=by simp only[aF,bV,or_false]at j;rcases j with rfl | rfl | rfl | rfl | rfl<;>lia
 exact f.fpOk i<|f.hok.fresh i
section
variable{X:Cx}
def aFi(A:X.calm=true):CallR X (.builtin "max") (λxs H Q=>∃p c,xs=[.ref p]/\SqL X.K H p (c.map V.int)/\c≠[]/\∀M,M∈c->(∀a∈c,a<=M)->Q (.int M) H):=by
 intro J s S H xs R Q I r h;obtain⟨p,c,rfl,C,L,q⟩:=h;obtain⟨u,rfl,G⟩:=jK r;cases G;obtain⟨D,F,E,O⟩:=I.list C;have m:=ei_ F;obtain⟨g,e⟩:=m.allInts.items;have i:c=g.toList.map (·.1):=by rw[<-m.numsOf,<-nums_intItems,<-e]
 have b:0<g.size:=by grind
 have f:=E.isList;rw[e]at f;refine max_intList (I.ok.hd A) f b λv N tk hv B=>?_;obtain⟨t,rfl⟩:=intItems_at hv;obtain⟨y,z⟩:=argBest_gt (numAt g)<|g.size-1;refine#[.int _,H,I.kept B,#[t,rfl],q _ ?_ λa l=>?_];rw [i,numAt_eq];exact getD_mem (by rw[aB,Array.length_toList];exact Nat.lt_of_le_pred b y);rw [i] at l;obtain⟨j,o,rfl⟩:=mem_getD l;rw[aB,Array.length_toList]at o;rw[<-numAt_eq];exact z j<|(Nat.le_sub_one_iff_lt b).mpr o
def aMn(X:Cx)(f:Value)(ks:Q3)(r:Q1->Q1->Hp->VK->Prop):Prop:=
 ∀(a:gQ) (s:Shared) (h:St) (H:Hp) (e g:Q1) (b c:Q7) (Q:VK),Inv X a h H s->Vals e b->Vals g c->r e g H Q ->
  wpAny `d X.A (call f b<|ks.zip c) (EP X a h Q) X.xe s
def bIg(r:Q1->Q1->Hp->VK->Prop)(t tk:TA):TE:=λa H Q=>t a H λe b=>tk a b λf c=>r e f c Q
def aDy{p pos}{id}(B:aMn X (.builtin id) ks r)(D:Gl X x)(E:X.mg x=none)(hv:bootBuiltins x=some (.builtin id))
  (ha:PA X (e::b) t) (z:PK X a tk) (y:(backToKw pos<|keywordEach a X.env).filterMap (·.1)=ks:=by rfl) (F:x ≠ "__name__":=by decide) (l:T3 x:=by decide)
  (C:backTo pos (starEach (e::b) X.env)=(false,eval e X.env)::backTo pos (starEach b X.env):=by rfl) (i:(backTo pos<|starEach (e::b) X.env).any (·.1)=false:=by rfl)
  (m:(backToKw pos<|keywordEach a X.env).all (·.1.isSome)=true:=by rfl) (A:(backToKw pos<|keywordEach a X.env).any (·.1.isNone)=false:=by rfl):PE X (.Call (.Name x p) (e::b) a pos)<|bIg r t tk:=by
 intro c s f H Q I h;refine wpAny_Call_Name_kw<|gq_ I D E hv ?_ F l;refine PyProof.Rows.callWith_kw (dY (ha pos c s f H _ I h) λR N g=>?_) C i m A;obtain⟨S,o,u,L,G⟩:=g;refine dY (z pos c N f o _ u G) λT O j=>?_;obtain⟨U,q,v,M,J⟩:=j;rw[y];exact B c O f q S U R T Q v L M J
def aFj(U:X.calm=true):aMn X (.builtin "max") ["default"] (λxs zs H Q=>∃p f d,xs=[.ref p]/\zs=[.int d]/\SqL X.K H p (f.map V.int)/\(f=[]->Q (.int d) H)/\(∀M,M∈f->(∀a∈f,a<=M)->Q (.int M) H)):=by
 intro Aa s σ H xs zs us ws Q I r rz h;obtain⟨p,f,d,rfl,rfl,x,q0,q⟩:=h;obtain⟨u,rfl,rx⟩:=jK r;cases rx;obtain⟨v,rfl,y,rfl⟩:=jK rz;obtain⟨a0,r',pl,hz⟩:=I.list x;have F:=ei_ r';obtain⟨c,e⟩:=F.allInts.items;have z:f=c.toList.map (·.1):=by rw[<-F.numsOf,<-nums_intItems,<-e]
 have l:=pl.isList;rw[e]at l;have G:(toString "max" ++ toString ".loop" : String) = "max.loop":=by decide
 have Y:X.A.handled=none:=I.ok.hd U;refine kmk_tree PySem.F.kind_max PySem.F.plain_max PySem.F.entry_max (aFp _ _) ?_;show wpAny _ X.A.in1 (Builtin.Builtins.bindParams "max" ["key","default"] 0 #[[],[(Str.ofString "default",.int d y)]] >>= _) _ _ s;refine wpAny_bind<|wpAny_of_eq (show Builtin.Builtins.bindParams "max" ["key","default"] 0 #[[],[(Str.ofString "default",.int d y)]]=pure [none,some<|.int d y]from rfl) ?_;refine wpAny_bind<|wpAny_pure ?_;refine wpAny_bind<|iter_intList l λs2 O st J L=>?_;subst O;refine wpAny_bind<|wpAny_newObj_type ?_;have W:=Walks.list (prog:=X.prog) (w:=X.w) (A:=X.A.in1) Y s.heap.objs.size p L<|intItems c;rw[G];have g:∀b o,s.heap.get? b=some o->b≠s.heap.objs.size:=λb o e=>bF<|aR e;refine wpAny_pure #[plainId_quiet PySem.F.plain_max_loop _,?_];have C:(s.heap.push { cls:=.type "list_iterator",data:=.fields [.ref p,.int 0 0].toArray }).objs.size∉[s.heap.objs.size,p]:=λk=>dB _<|J _ k;have m:=W.frame 0 _ ((s.heap.push { cls:=.type "list_iterator",data:=.fields [.ref p,.int 0 0].toArray }).push { cls:=.type "list",dict:=none,data:=.seq ([]:Q7).toArray }) st λb _ o e=>aD _ e;by_cases n:0<c.size;refine zE true _ W (fun i j=>decide (numAt c i > numAt c j)) _ (fun _=>True) (fun _ _ _ _=>trivial) (fun i j vi vj s Q E _=>CmpOf.ints_gt (numAt c) (fun _ _=>intItems_at) i j vi vj s Q E) C (by simpa [intItems] using n) trivial m (aW _ rfl) fun v R tk T B => ?_;have hv:(intItems c)[argBest (λi j=>decide (numAt c i>numAt c j))<|c.size-1]? = some v:=by simpa [intItems]using T
 obtain⟨t,rfl⟩:=intItems_at hv;obtain⟨h1,S⟩:=argBest_gt (numAt c)<|c.size-1;refine#[.int _,H,I.kept λb o e=>B b o (by simpa using g b o e) ?_<|aD _<|aD _ e,#[t,rfl],q _ ?_ λa D=>?_];have:=aR e;rw[cK];exact bF<|fV this;rw [z,numAt_eq];exact getD_mem (by rw[aB,Array.length_toList];lia);rw [z] at D;obtain⟨j,Z,rfl⟩:=mem_getD D;rw[aB,Array.length_toList]at Z;rw[<-numAt_eq];exact S j `b;have N:(intItems c).size=0:=by rw [intItems,Array.size_map]; lia
 rw[N]at W;refine aEj W _ C m (aW _ rfl) λR tk B=>?_;refine#[.int d,H,I.kept λb o e=>B b o (by simpa using g b o e)<|aD _<|aD _ e,#[y,rfl],q0 ?_];rw[z];have:c.toList.length=0:=by rw[Array.length_toList];lia
 rw[List.eq_nil_of_length_eq_zero this];rfl
def aJk(a:X.A.units<cLine):OpR X (compareOp .Eq) (λx y H Q=>∃p b xs,x=.ref p/\y=.ref b/\SqL X.K H p xs/\SqL X.K H b []/\Q (.bl xs.isEmpty) H):=by
 intro C s E H x y v u Q I A B h;obtain⟨p,b,xs,rfl,rfl,l,m,q⟩:=h;cases A;cases B;obtain⟨o,r,f,_⟩:=I.list l;obtain⟨c,z,g,_⟩:=I.list m;cases z;cases r with
 |nil=>exact PySem.SeqAt.eq_listAt (e:=λ_=>true) f.isList g.isList rfl a (λj i=>absurd i `h) #[.bl true,H,I,rfl,q]
 |cons D rb=>exact PySem.SeqAt.eq_list_lengthsAt f.isList g.isList `h a #[.bl false,H,I,rfl,q]
def aJh(a:X.A.units<cLine):OpR X (compareOp .NotEq) (λx y H Q=>∃p b xs,x=.ref p/\y=.ref b/\SqL X.K H p xs/\SqL X.K H b []/\Q (.bl<|!xs.isEmpty) H):=by
 intro C s E H x y v u Q I A B h;obtain⟨p,b,xs,rfl,rfl,l,m,q⟩:=h;cases A;cases B;obtain⟨o,r,f,_⟩:=I.list l;obtain⟨c,z,g,_⟩:=I.list m;cases z;cases r with
 |nil=>exact PySem.SeqAt.RcNeAt.lists (e:=λ_=>true) f.isList g.isList rfl a (λj i=>absurd i `h) _ _ _ _ #[.bl false,H,I,rfl,q]
 |cons D rb=>exact PySem.SeqAt.RcNeAt.lists_lengths f.isList g.isList `h a _ _ _ _ #[.bl true,H,I,rfl,q]
def aVb:SlR X (λx p m H Q=>∃z,x=.str z/\z.length<=sizeLine/\Q (.str<|Txt.slice z p m) H):=by
 intro D s J H x v F G p m E Q I C A B r h;obtain⟨z,rfl,e,q⟩:=h;obtain⟨t,rfl⟩:=C;refine#["str",_,PySem.F.slot_str_getitem.lookup,typeIs_str _ _ _,?_];obtain⟨o,a,b,c⟩:=A;cases B with
 |none =>
  cases r with
  |none=>exact wpAny_getItem_str_slice (l:=none) (u:=none) (st:=none) #[o,a,b,c] rfl (post_val_or_str #[nzL (Txt.slice_le z _ _) e,λf k=>#[.str _,H,I.tok _,`r,q]])
  |int j g=>exact wpAny_getItem_str_slice (l:=none) (u:=some (j,g)) (st:=none) #[o,a,b,c] rfl (post_val_or_str #[nzL (Txt.slice_le z _ _) e,λf k=>#[.str _,H,I.tok _,`r,q]])
 |int i y =>
  cases r with
  |none=>exact wpAny_getItem_str_slice (l:=some (i,y)) (u:=none) (st:=none) #[o,a,b,c] rfl (post_val_or_str #[nzL (Txt.slice_le z _ _) e,λf k=>#[.str _,H,I.tok _,`r,q]])
  |int j g=>exact wpAny_getItem_str_slice (l:=some (i,y)) (u:=some (j,g)) (st:=none) #[o,a,b,c] rfl<|post_val_or_str #[nzL (Txt.slice_le z _ _) e,λf k=>#[.str _,H,I.tok _,`r,q]]
def m7:OpR X (binaryOp .Mult) (λx y H Q=>∃z n,x=.str z/\y=.int n/\z.length<=1000/\0<=n/\n<=1000/\Q (.str<|Txt.mul z n) H):=by intro g s j H x y v u Q I c e h;obtain⟨z,n,rfl,rfl,b,i,a,q⟩:=h;obtain⟨t,rfl⟩:=c;obtain⟨f,rfl⟩:=e;exact SB.mul (mulOk_of 1000 1000 b (Int.le_def.mpr a) `b `a `a) λf k=>#[.str _,H,I.tok _,`r,q]
end
section
variable{X:Cx}(K:dN)(h:X.K=K:=by rfl)
include h
theorem aBr:IxR X<|aVh K:=h ▸ aZl
theorem zM:IxR X<|aId K:=h ▸ wF
theorem lY:OpR X (compareOp .In)<|rIn K false:=h ▸ aEb
theorem sR:OpR X (compareOp .NotIn)<|rIn K true:=h ▸ vQ
theorem oX:SlR X<|bCs K:=h ▸ aNy
theorem kh_{pos}{k}(c:X.calm=true)(e:PGs X a t)(f:(assignEach a X.env).length=n:=by rfl)(b:(assignEach a X.env).findIdx? (·.1)=none:=by rfl):PG X (.Tuple a k pos)<|aLg K n t:=h ▸ hq_ c e f b
end
def aIc(K:dN):Q1->Hp->VK->Prop:=λc H Q=>∃p b,c=[.ref p]/\SqL K H p (b.map V.int)/\b≠[]/\∀M,M∈b->(∀a∈b,a<=M)->Q (.int M) H
def aFh(a:X.calm=true):CallR X (.builtin "max")<|aIc X.K:=aFi a
end L2
namespace Lf
open PySem L2
mutual
def IsD(H:Hp):Dt->V->Prop
 | .int i,v=>v=.int i
 | .str x,v=>v=.str x
 | .bl b,v=>v=.bl b
 | .tup ds,v=>∃a c,v=.ref a/\H a=some (.tup c)/\IsDs H ds c
 | .lst ds,v=>∃a c,v=.ref a/\H a=some (.lst c)/\IsDs H ds c
def IsDs(H:Hp):List Dt->Q1->Prop
 | [],vs=>vs=[]
 |d::r,vs=>∃v a,vs=v::a/\IsD H d v/\IsDs H r a
end
mutual
def IsD.same{H b:Hp}(e:Same H b):∀{d:Dt} {v:V},IsD H d v->IsD b d v
 | .int _,_,h=>h
 | .str _,_,h=>h
 | .bl _,_,h=>h
 | .tup ds,_,⟨a,vs,h1,h2,h3⟩=>#[a,vs,h1,e _ _ h2,IsDs.same e h3]
 | .lst ds,_,⟨a,vs,h1,h2,h3⟩=>#[a,vs,h1,e _ _ h2,IsDs.same e h3]
def IsDs.same{H a:Hp}(e:Same H a):∀{ds:List Dt} {vs:Q1},IsDs H ds vs->IsDs a ds vs
 | [],_,h=>h
 |d::r,_,⟨v,vr,h1,h2,h3⟩=>#[v,vr,h1,IsD.same e h2,IsDs.same e h3]
end
def IsDs.len:∀{ds} {vs},IsDs H ds vs->vs.length=ds.length
 | [],_,h=>by cases(h);rfl
 |d::r,_,⟨v,vr,h1,_,h3⟩=>by subst h1;show vr.length+1=r.length+1;rw[IsDs.len h3]
def yQ{H}{p}(h:H p=none)(o:HO):Same H<|upd H p o:=λb u q=>by rw[eT<|g8 q h];exact q
def aQd(p:Addr)(H:Hp):Hp:=λb=>if b=p then none else H b
def wJ(h:b≠p):aQd p H b=H b:=if_neg h
abbrev SameX(p:Addr)(H a:Hp):Prop:=Same (aQd p H)<|aQd p a
def SameX.get(e:SameX p H H')(n:b≠p)(h:H b=some o):H' b=some o:=by have:=e b o (by rw[wJ n];exact h);rw[wJ n]at this;exact this
end Lf
namespace L2
open PySem PySem.Spec PyProof.Rows
section
variable{a:Type}[DecidableEq a]
def kP(kvs:List<|a×V)(k:a):S1:=(kvs.find? λb=>decide (b.1=k)).map (·.2)
def jR(kvs:List<|a×V)(k:a)(v:V):List<|a×V:=
 if(kvs.any λb=>decide (b.1=k))=true then kvs.map (λb=>if b.1=k then(b.1,v)else b)else kvs++[(k,v)]
theorem hg_{k:a}(e:p.1=k):kP (p::r) k=some p.2:=by simp[kP,dW,e]
theorem hh_{k:a}(e:¬p.1=k):kP (p::r) k=kP r k:=by simp[kP,dW,e]
theorem oK(k:a):∀kvs:List<|a×V,(kvs.any λb=>decide (b.1=k))=(kP kvs k).isSome
 | []=>rfl
 |p::r=>by rw[iN];by_cases e:p.1=k;simp only[hg_ e,dzT e,Bool.true_or,Option.isSome_some];rw[hh_ e,dzF e,Bool.false_or];exact oK k r
theorem kr_(kvs:List<|a×V)(k:a)(v:V):(jR kvs k v).length<=kvs.length+1:=by unfold jR;split;rw[aB];lia;rw[aI,aL,bE];lia
theorem putK_new{k:a}(v:V)(h:kP kvs k=none):jR kvs k v=kvs++[(k,v)]:=by unfold jR;rw[oK,h];exact if_neg `a
theorem RelO.isSome_eq(r:RelO o u):o.isSome=u.isSome:=by
 cases o with
 |none=>cases u with
  |none=>rfl
  |some _=>exact(r).elim
 |some _=>cases u with
  |none=>exact(r).elim
  |some _=>rfl
theorem RelO.getD(r:RelO o u)(rd:RelV d d'):RelV (o.getD d)<|u.getD d':=by
 cases o with
 |none=>cases u with
  |none=>exact rd
  |some _=>exact(r).elim
 |some _=>cases u with
  |none=>exact(r).elim
  |some _=>exact r
theorem KV.val(r:KV kvs vs)(k:a):RelO (kP kvs k)<|valueAt vs k:=by
 unfold KV at r
 induction r with
 |nil=>exact True.intro
 | @cons p q ps qs h t ih =>
  obtain⟨f,g⟩:=h;by_cases e:p.1=k;have c:q.1=k:=f.symm.trans e;have b:valueAt (q::qs) k=some q.2:=by simp[valueAt,dW,c]
  rw[hg_ e,b];exact g;have c:¬ q.1=k:=fun z=>e<|f.trans z;have b:valueAt (q::qs) k=valueAt qs k:=by simp[valueAt,dW,c]
  rw[hh_ e,b];exact ih
theorem KV.any(r:KV kvs vs)(k:a):(kvs.any λb=>decide (b.1=k))=vs.any λb=>decide (b.1=k):=by
 induction r with
 |nil=>rfl
 |cons h t c=>rw[iN,iN,c,h.1]
theorem KV.repl(r:KV kvs vs)(k:a)(g:RelV y u) :
  KV (kvs.map λb=>if b.1=k then(b.1,y)else b) (vs.map λb=>if b.1=k then(b.1,u)else b):=by
 induction r with
 |nil=>exact .nil
 | @cons p q ps qs h t ih => rw[bG,bG];refine .cons ?_ ih;obtain⟨c,f⟩:=h;by_cases e:p.1=k;rw[if_pos e,if_pos<|c.symm.trans e];exact#[c,g];rw[if_neg e,if_neg<|λz=>e<|c.trans z];exact#[c,f]
theorem KV.put(r:KV kvs vs)(k:a)(b:RelV y u):KV (jR kvs k y)<|stored vs k u:=by unfold jR stored;rw[r.any k];by_cases e:(vs.any λc=>decide (c.1=k))=true;rw[if_pos e,if_pos e];exact r.repl k b;rw[if_neg e,if_neg e];exact Paired.snoc r #[rfl,b]
theorem KV.keys{vs:List<|a×Value}(r:KV kvs vs):kvs.map (·.1)=vs.map (·.1):=by
 induction r with
 |nil=>rfl
 |cons h t b=>rw[bG,bG,b,h.1]
theorem KV.length{kvs:List<|a×V}(r:KV kvs vs):kvs.length=vs.length:=Paired.length r
end
def tD(r:RelV (kV k) u):(cN P w).is k u=true:=by
 cases k with
 |inl i=>obtain⟨t,e⟩:=(r);subst e;exact zH P w i t
 |inr x=>obtain⟨t,e⟩:=(r);subst e;exact zG P w x t
def tF:∀{ks} {us},Vals (ks.map kV) us->ItemsAre (cN P w) ks us
 | [],_,r=>by rw[dE]at r;cases r;exact .nil
 |k::ks,_,r=>by
  cases r with
  |cons h t=>exact .cons (tD h)<|tF t
abbrev KT(H:Hp):List (List Key×V)->List (List Key×Addr×Value)->Prop:=Paired λp q=>p.1=q.1/\H q.2.1=some (.tup<|p.1.map kV)/\RelV p.2 q.2.2
def KT.val(r:KT H kvs xs)(k:List Key):RelO (kP kvs k) ((atKey xs k).map (·.2)):=by
 induction r with
 |nil=>exact True.intro
 | @cons p q ps qs h t ih =>
  obtain⟨c,_,f⟩:=h;by_cases e:p.1=k;have a:=c.symm.trans e;have b:atKey (q::qs) k=some q.2:=by simp[atKey,dW,a]
  rw[hg_ e,b];exact f;have a:¬ q.1=k:=fun z=>e<|c.trans z;have b:atKey (q::qs) k=atKey qs k:=by simp[atKey,dW,a]
  rw[hh_ e,b];exact ih
def KT.repl(r:KT H kvs xs)(k:List Key)(g:RelV y u) :
  KT H (kvs.map λb=>if b.1=k then(b.1,y)else b) (xs.map<|putAt k u):=by
 induction r with
 |nil=>exact .nil
 | @cons p q ps qs h t ih => rw[bG,bG];refine .cons ?_ ih;obtain⟨a,c,f⟩:=h;unfold putAt;by_cases e:p.1=k;rw[if_pos e,if_pos<|a.symm.trans e];exact#[a,c,g];rw[if_neg e,if_neg<|λz=>e<|a.trans z];exact#[a,c,f]
def KT.put(r:KT H kvs xs)(k:List Key)(c:H b=some (.tup<|k.map kV))(a:RelV y u) :
  KT H (jR kvs k y) (storedH xs k b u):=by
 have e:(kvs.any λf=>decide (f.1=k))=(atKey xs k).isSome:=by rw[oK,(r.val k).isSome_eq,Option.isSome_map]
 unfold jR storedH;rw[e];by_cases q:(atKey xs k).isSome=true;rw[if_pos q,if_pos q];exact r.repl k a;rw[if_neg q,if_neg q];exact Paired.snoc r #[rfl,c,a]
def KT.keeps(r:KT H kvs xs)(a:∀b ys,H b=some (.tup ys)->H' b=some (.tup ys)):KT H' kvs xs:=
 Paired.mapP r λ_ _ z=>#[z.1,a _ _ z.2.1,z.2.2]
section
variable{P:Program}{w:World}{H:Hp}{h:Heap}{a:Addr}
def aSc(ok:HOk P w H h)(e:Rd H a u):ObjOk P w H h a u:=e.ok ok
def qK(ok:HOk P w H h)(e:Rd H a<|.dK kvs):kvs.length<=sizeLine/\(a == sysModules)=false/\∃vs,KV kvs vs/\h.DictOf (cN P w) a vs:=
 show ObjOk P w H h a (.dK kvs)from aSc ok e
def bFo(ok:HOk P w H h)(e:H a=some (.dK kvs)):kvs.length<=sizeLine/\(a == sysModules)=false/\∃vs,KV kvs vs/\h.DictOf (cN P w) a vs:=qK ok<|.inl e
def qC(ok:HOk P w H h)(e:H a=some (.tup<|ks.map kV)):(tupleKind<|cN P w).is h ks a:=by obtain⟨_,b,r,o,c,f,n,g⟩:=(show ObjOk P w H h a (.tup<|ks.map kV)from ok a _ e);exact#[o,b.toArray,n,c,f,g,by simpa using tF r]
def tO(ok:HOk P w H h)(e:Rd H a<|.dT kvs):kvs.length<=sizeLine/\(a == sysModules)=false /\
  ∃xs,KT H kvs xs/\h.DictOfH (tupleKind<|cN P w) a xs:=by
 obtain⟨z,y,xs,r,o,f,c,g,i,j,s,u⟩:=(aSc ok e);refine#[z,y,xs,r,o,f,c,g,i,j,s,λx b=>?_,u];have all:∀{l:List<|List Key×V} {m:List<|List Key×Addr×Value},KT H l m->∀x∈m,(tupleKind<|cN P w).is h x.1 x.2.1:=by
  intro l m q
  induction q with
  |nil=>intro x b;exact nomatch b
  | @cons p q ps qs hq t ih =>
   intro x b;rcases aF.mp b with e | b
   subst e;exact qC ok (by rw[<-hq.1];exact hq.2.1);exact ih x b
 exact all r x b
def bFn(ok:HOk P w H h)(e:H a=some (.dT kvs)):kvs.length<=sizeLine/\(a == sysModules)=false /\
  ∃xs,KT H kvs xs/\h.DictOfH (tupleKind<|cN P w) a xs:=tO ok<|.inl e
end
def DGet(H:Hp)(a:Addr)(y:V)(r:S1):Prop:=
 (∃c k,Rd H a (.dK c)/\y=kV k/\r=kP c k)\/∃c k b,Rd H a (.dT c)/\y=.ref b/\H b=some (.tup<|k.map kV)/\r=kP c k
def DPut(H:Hp)(a:Addr)(y v:V)(e:Hp):Prop:=
 (∃c k,H a=some (.dK c)/\y=kV k/\c.length<sizeLine/\e=upd H a (.dK<|jR c k v)) \/
 ∃c k b,H a=some (.dT c)/\y=.ref b/\H b=some (.tup<|k.map kV)/\c.length<sizeLine/\e=upd H a (.dT<|jR c k v)
def DGet.k{H}{a}{kvs}{k}(e:H a=some (.dK kvs)):DGet H a (kV k)<|kP kvs k:=.inl #[kvs,k,.inl e,rfl,rfl]
def DPut.k{H}{a}{kvs}{k}{v:V}(e:H a=some (.dK kvs))(b:kvs.length<sizeLine):DPut H a (kV k) v<|upd H a<|.dK<|jR kvs k v:=.inl #[kvs,k,e,rfl,b,rfl]
def DPut.t{H:Hp}{a b:Addr}{kvs:List<|List Key×V}{k:List Key}{v:V}(e:H a=some (.dT kvs))(c:H b=some (.tup<|k.map kV))(f:kvs.length<sizeLine) :
  DPut H a (.ref b) v (upd H a<|.dT<|jR kvs k v):=.inr #[kvs,k,b,e,rfl,c,f,rfl]
section
variable{X:Cx}{i:gQ}{f:St}{H:Hp}{s:Shared}{a:Addr}{y v:V}{u r:Value}{o:S1}{A:Around}{E:iE}
def Inv.big(I:Inv X i f H s):sysModules<s.heap.objs.size:=by have h:=(I.mod.glob.keeps I.bk).lt;exact Nat.lt_trans `a h
def aFd(O:A.units+1<cLine)(I:Inv X i f H s)(g:DGet H a y<|some v)(G:RelV y u)(h:∀m J,Inv X i f H J->RelV v m->Q m J) :
  wpAny `d A (getItem `i u) Q E s:=by
 rcases g with⟨F,k,e,B,l⟩ | ⟨F,k,b,e,B,L,l⟩
 subst B;obtain⟨z,M,R,c,q⟩:=qK I.hok e;obtain⟨m,D,j⟩:=RelO.some_of (v:=v) (o:=valueAt R k) (by rw[l];exact c.val k);exact wpAny_getItem_of (tD G) q.mapOf D<|h m _ (I.tok _) j;subst B;cases(show u=Value.ref b from G);obtain⟨z,M,S,c,q⟩:=tO I.hok e;obtain⟨m,D,j⟩:=RelO.some_of (v:=v) (o:=(atKey S k).map (·.2)) (by rw[l];exact c.val k);obtain⟨p,N,C⟩:=cV.mp D;refine wpAny_getItem_heap (tupleKind_room_in1 O) (qC I.hok L) q N ?_;rw[C];exact h m _ (I.tok _) j
def bKq{Q:iE}(G:A.units+1<cLine)(I:Inv X i f H s)(g:DGet H a y o)(C:RelV y u)(h:∀D,Inv X i f H D->Q (.bool o.isSome) D) :
  wpAny `d A (compareOp .In u `i) Q E s:=by
 rcases g with⟨B,k,e,m,l⟩ | ⟨B,k,b,e,m,F,l⟩
 subst m;obtain⟨z,p,J,c,j⟩:=qK I.hok e;refine wpAny_in_of (tD C) p j.mapOf ?_;rw[<-(c.val k).isSome_eq,<-l];exact h _<|I.tok _;subst m;cases(show u=Value.ref b from C);obtain⟨z,p,L,c,j⟩:=tO I.hok e;refine wpAny_in_heap (tupleKind_room_in1 G) (qC I.hok F) p j ?_;have q:=(c.val k).isSome_eq;rw[Option.isSome_map]at q;rw[<-q,<-l];exact h _<|I.tok _
def aCo(I:Inv X i f H s)(j:Mut<|H a)(h:Heap.SameBut a s.heap h')(g:∃q,h'.get? a=some q)(new:ObjOk X.prog X.w (upd H a ob) h' a ob) :
  Inv X i f (upd H a ob) { s with heap:=h',toks:=t' }:=
 I.write (x:=a) (e:=a) j (.inl rfl) (λb q c z=>(h.2 b c).trans z) g new
def aLy(z:kvs.length<=sizeLine)(c:(a == sysModules)=false)(b:KV kvs vs)(dd:h'.DictOf (cN P w) a vs) :
  ObjOk P w H' h' a (.dK kvs):=#[z,c,vs,b,dd]
def aFc{N:Hp}{Q:Unit->Shared->Prop}(hu:A.units+1<cLine)(I:Inv X i f H s)(g:DPut H a y v N)(U:RelV y u)(T:RelV v r)(h:∀W,Inv X i f N W->Q () W) :
  wpAny `d A (setItem `i u r) Q E s:=by
 rcases g with⟨j,k,e,F,l,D⟩ | ⟨j,k,b,e,F,O,l,D⟩
 subst F D;obtain⟨z,G,vs,m,C⟩:=bFo I.hok e;have M:vs.length<=sizeLine:=by rw[<-m.length];exact z
 have J:(jR j k v).length<=sizeLine:=by have:=kr_ j k v;lia
 refine wpAny_setItem_pairs (hsz:=M) (tD U) C λS p L=>h _ ?_;have V:∃q,S.get? a=some q:=let ⟨q,_,_,B,_⟩:=p;#[q,B];exact aCo I (by rw[e];exact True.intro) L V<|aLy J G (m.put k T) p;subst F D;cases(show u=Value.ref b from U);obtain⟨z,G,xs,m,C⟩:=bFn I.hok e;have M:xs.length<=sizeLine:=by rw[<-Paired.length m];exact z
 have J:(jR j k v).length<=sizeLine:=by have:=kr_ j k v;lia
 refine wpAny_setItem_heap (hsz:=M) (tupleKind_room_in1 hu) (qC I.hok O) C λS p L=>h _ ?_;obtain⟨q,Z,Y,B,d,n,t,_,x⟩:=p;refine aCo I (by rw[e];exact True.intro) L #[q,B] #[J,G,_,(m.put k O T).keeps λc ys R=>?_,q,Z,Y,B,d,n,t,x];rw[eT<|bDo R e<|λz=>nomatch z];exact R
end
section
variable{X:Cx}{c:gQ}{b:St}{H:Hp}{s:Shared}{a:Addr}{kvs:S9}{k:Key}{u:Value}{A:Around}{E:iE}
def bFr{Q:iE}(I:Inv X c b H s)(e:Rd H a<|.dK kvs)(h:∀t g,Inv X c b H g->Q (.int kvs.length t) g):wpAny `d A (call (.builtin "len") [.ref a]) Q E s:=by obtain⟨z,j,l,f,i⟩:=qK I.hok e;refine call_len_dict j i (by rw[<-f.length];rw[sizeLine_eq]at z;lia) ?_;rw[<-f.length];exact h _ _<|I.tok _
end
def aRt(i:Expr):Prop:=∀b a,subscripted i false b a=operate [b,a] (getItem b a)
def aNv{T id}
  (m:typeLookup (.type T) "__getitem__" = pure (some<|.builtin id)) (p:aRt slice)
  (h:wpAny `f A (eval value env) (λo c=>wpAny `f A (eval slice env) (λi a=>a.TypeIs o T/\wpAny `f A (getItem o i) Q E a) E c) E s) :
  wpAny `f A (eval (.Subscript value slice pos) env) Q E s:=by
 refine Subscript_<|wpAny_mono h (λo c g=>wpAny_mono g (λi a b=>?_) λ_ _ x=>x) λ_ _ x=>x;obtain⟨l,b⟩:=b;refine wpAny_bind ?_;refine wpAny_bind<|wpAny_specialOf l m ?_;have f:wpAny `f A (subscripted slice false o i) (λr e=>wpAny `f A (letTemporaryGo value o r >>= λ_=>pure r) Q E e) E a:=by rw[p o i];exact wpAny_operating<|wpAny_mono b (λr e j=>wpAny_bind<|wpAny_letTemporaryGo<|wpAny_pure j) λ_ _ x=>x
 first
  |exact wpAny_pure (wpAny_bind f)
  |exact wpAny_bind (wpAny_pure<|wpAny_bind f)
  |exact wpAny_bind f
def b_(I:Inv X Aa h H s)(g:DGet H a y o):s.TypeIs `i "dict":=by
 rcases g with⟨f,k,e,_,_⟩ | ⟨f,k,b,e,_,_,_⟩
 obtain ⟨_,_,i,_,c⟩:=qK I.hok e;exact c.typeIs;obtain ⟨_,_,j,_,c⟩:=tO I.hok e;exact c.typeIs
def bCn(f ty:TE):TE:=λc H Q=>f c H λx e=>ty c e λy b=>∃a v,x=.ref a/\DGet b a y (some v)/\Q v b
def bCm(ty f:TE):TE:=λc H Q=>ty c H λy e=>f c e λx b=>∃a o,x=.ref a/\DGet b a y o/\Q (.bl o.isSome) b
def aHt(h ty i:TE):TS:=λD b H=>i b H λv e=>h b e λx f=>ty b f λy g=>∃a c,x=.ref a/\DPut g a y v c/\D.nx b c
section
variable{X:Cx}{o i e b:Expr}{f c m:Pos}{j ty l:TE}
def aAn(M:X.A.units+1<cLine)(J:PE X o j)(G:PE X i ty)(L:aRt i):PE X (.Subscript o i f)<|bCn j ty:=by intro q s z H Q I h;refine aNv PySem.F.slot_dict_getitem.lookup L<|dY (J q s z H _ I h) λu T A=>?_;obtain⟨x,C,E,R,N⟩:=A;refine dY (G q T z C _ E N) λU W B=>?_;obtain⟨y,D,r,S,a,v,ex,g,O⟩:=B;subst ex;obtain rfl:u=Value.ref a:=R;exact#[b_ r g,aFd M r g S λZ Y F p=>#[v,D,F,p,O]]
def aJe(G:X.A.units+1<cLine)(E:PE X i ty)(F:PE X o j):PC X .In i o<|bCm ty j:=by intro p s q H Q I h;refine dY (E p s q H _ I h) λS R r=>?_;obtain⟨y,z,B,O,L⟩:=r;refine dY (F p R q z _ B L) λu T v=>?_;obtain⟨x,A,C,N,a,J,ex,g,M⟩:=v;subst ex;obtain rfl:u=Value.ref a:=N;exact bKq G C g O λU D=>#[.bl J.isSome,A,D,rfl,M]
def vI(R:X.A.units+1<cLine)(O:PE X o j)(N:PE X i ty)(hv:PE X b l)(Q:swapsWith b (some<|.Subscript o i c) f.line X.env=pure false) :
  PS X (.Assign [.Subscript o i c] b f) (aHt j ty l):=by
 intro q s p H D I h;refine wpAny_Assign_Subscript (dY (hv q s p H _ I h) λr d z=>?_) Q;obtain⟨v,B,F,W,S⟩:=z;refine dY (O q d p B _ F S) λu k A=>?_;obtain⟨x,C,G,Y,T⟩:=A;refine dY (N q k p C _ G T) λt V M=>?_;obtain⟨y,n,J,Z,a,E,ex,g,U⟩:=M;subst ex;obtain rfl:u=Value.ref a:=Y;exact aFc R J g Z W λs4 L=>#[p,E,L,U]
end
def aLz(h:Heap)(a:sysModules<h.objs.size):ObjOk P w H (h.push { cls:=.type "dict",data:=.dict [].toArray }) h.objs.size<|.dK []:=
 #[bL _,beq_eq_false_iff_ne.mpr<|Ne.symm<|bF a,[],.nil,Heap.DictOf.new h]
def aLv(h:Heap)(a:sysModules<h.objs.size):ObjOk P w H (h.push { cls:=.type "dict",data:=.dict [].toArray }) h.objs.size<|.dT []:=
 #[bL _,beq_eq_false_iff_ne.mpr<|Ne.symm<|bF a,[],.nil,_,[].toArray,0,aW _ rfl,#[rfl,rfl,rfl],rfl,rfl,gF]
def aUu:TE:=λ_ H Q=>∀p,H p=none->Q (.ref p) (upd H p<|.dK [])
def aUt:TE:=λ_ H Q=>∀p,H p=none->Q (.ref p) (upd H p<|.dT [])
section
variable{X:Cx}{b:Pos}
def aIy:PE X (.Dict [] [] b) aUu:=λa s c H Q I h =>
 wpAny_Dict_empty #[.ref s.heap.objs.size,_,I.laid (t':=s.toks) (λ_ _ q=>aD _ q) (aO _)<|aLz s.heap I.big,rfl,h _<|I.hok.fresh<|aO _]
def aIx:PE X (.Dict [] [] b) aUt:=λc s e H Q I h =>
 wpAny_Dict_empty #[.ref s.heap.objs.size,_,I.laid (a:=s.heap.objs.size) (o:=.dT []) (t':=s.toks) (λ_ _ q=>aD _ q) (aO _)<|aLv s.heap I.big,rfl,h _<|I.hok.fresh<|aO _]
end
structure M1(X:Cx)(o:Expr)(m:Str)(apos:Pos)(e:Expr)(cpos:Pos):Prop where
 base:attributeBase o m X.env (eval o X.env)=eval o X.env
 few:((backTo cpos (starEach [e] X.env)).all (λx=>!x.1)&&(backToKw cpos (keywordEach [] X.env)).all (λx=>x.1.isSome)
  && decide (([e]:S3).length+([]:List Keyword).length+(if([]:List Keyword).isEmpty then 0 else 1)<30))=true
 line:(apos.endLine == cpos.line)=true
 trees:backTo cpos (starEach [e] X.env)=[(false,eval e X.env)]
def IsD(H:Hp)(a:Addr):Prop:=(∃b,Rd H a<|.dK b)\/∃b,Rd H a<|.dT b
def aZp(I:Inv X Aa j H s)(d:IsD H a) :
  s.TypeIs `i "dict" /\ (∀b,Value.ref a=.ref b->∃ob,s.heap.get? b=some ob/\ob.dict=none)/\(a == sysModules)=false:=by
 rcases d with⟨i,e⟩ | ⟨i,e⟩
 obtain ⟨_,h,l,_,c⟩:=qK I.hok e;refine#[c.typeIs,λb q=>?_,h];cases q;obtain⟨ob,_,_,f,g,_⟩:=c;exact#[ob,f,g.2.1];obtain ⟨_,h,m,_,c⟩:=tO I.hok e;refine#[c.typeIs,λb q=>?_,h];cases q;obtain⟨ob,_,_,f,g,_⟩:=c;exact#[ob,f,g.2.1]
section
variable{X:Cx}{f:gQ}{c:St}{H:Hp}{s:Shared}{a:Addr}{y d:V}{u r:Value}{o:S1}{A:Around}{E:iE}
def bAj(F:A.units+1<cLine)(I:Inv X f c H s)(g:DGet H a y o)(v:RelV y u)(h:∀C B,Inv X f c H B->RelV (o.getD .non) C->Q C B) :
  wpAny `d A (call (.builtin "dict.get") [.ref a,u]) Q E s:=by
 rcases g with⟨q,k,e,m,l⟩ | ⟨q,k,b,e,m,D,l⟩
 subst m;obtain⟨z,p,J,i,j⟩:=qK I.hok e;refine call_meetsIn PySem.F.slot_dict_get j.typeIs PySem.F.entry_dict_get (PySem.F.args_dict_get_2 _ _) (meets_dict_get (cN X.prog X.w) a (tD v) p) #[_,j.mapOf,h _ _ (I.tok _) ?_];rw[l];exact(i.val k).getD rfl;subst m;cases(show u=Value.ref b from v);obtain⟨z,p,G,i,j⟩:=tO I.hok e;refine call_meetsIn PySem.F.slot_dict_get j.typeIs PySem.F.entry_dict_get (PySem.F.args_dict_get_2 _ _) (meetsH_dict_get (tupleKind<|cN X.prog X.w) a b p) #[tupleKind_room_in1 F,k,G,qC I.hok D,j,h _ _ (I.tok _) ?_];rw[l];exact(i.val k).getD rfl
end
def aUv(f ty:TE):TE:=λe H Q=>f e H λx b=>∃a,x=.ref a/\IsD b a/\ty e b λy c=>∃o,DGet c a y o/\Q (o.getD .non) c
section
variable{X:Cx}{o e f:Expr}{c b:Pos}{i ty j:TE}
def aIz(F:X.A.units+1<cLine)(E:PE X o i)(D:PE X e ty)(m:M1 X o "get" c e b):PE X (.Call (.Attribute o "get" c) [e] [] b)<|aUv i ty:=by intro q s v H Q I h;refine wpAny_Call_method m.base m.few m.line PySem.F.plainAttrs_dict PySem.F.slot_dict_get PySem.F.type_dict_get<|dY (E q s v H _ I h) λu N l=>?_;obtain⟨x,z,r,L,a,ex,d,G⟩:=l;subst ex;obtain rfl:u=Value.ref a:=L;obtain⟨O,R,_⟩:=aZp r d;refine#[O,R,?_];rw[m.trees];refine Calls.callWith_builtin rfl<|Calls.evalArgs_plain<|Calls.spliced_cons<|dY (D q N v z _ r G) λS U l=>?_;obtain⟨y,A,B,M,T,g,J⟩:=l;refine Calls.spliced_nil ?_;exact bAj F B g M λY W C p=>#[_,A,C,p,J]
end
def mF:bootBuiltins "all" = some (.builtin "all"):=by decide +kernel
def w_:∀{bs:List Bool} {us},Vals (bs.map V.bl) us->us=bs.map Value.bool
 | [],_,h=>by cases h;rfl
 |b::bs,_,h=>by
  cases h with
  |cons a rb => cases a;rw[w_ rb];rfl
def aDt:∀(bs:List Bool),(List.range bs.length).all (λi=>bs[i]?.getD false)=bs.all id:=by intro bs;rw[dX,List.all_eq_true,List.all_eq_true];constructor;intro h b e;obtain⟨i,a,rfl⟩:=List.getElem_of_mem e;have:=h i<|eP.mpr a;rw[aJ a]at this;exact this;intro h i a;have c:=eP.mp a;rw[aJ c];exact h _<|List.getElem_mem c
section
variable{X:Cx}
def aIf(K:dN):Q1->Hp->VK->Prop:=λa H Q=>∃(p:Addr) (bs:List Bool),a=[.ref p]/\SqL K H p (bs.map V.bl)/\Q (.bl<|bs.all id) H
def aFk(y:X.calm=true):CallR X (.builtin "all")<|aIf X.K:=by
 intro J s S H R O Q I r h;obtain⟨p,bs,rfl,C,q⟩:=h;obtain⟨u,rfl,F⟩:=jK r;cases F;obtain⟨D,E,f,N⟩:=I.list C;have A:=w_ E;subst A;have z:X.A.in1.handled=none:=I.ok.hd y;have lt:p<s.heap.objs.size:=by obtain⟨_,e,_⟩:=f.isList;exact aR e
 refine call_all_walk<|wpAny_pyIter_list f.isList #[_,_,_,_,_,_,λi=>bs[i]?.getD false,rfl,Walks.list z s.heap.objs.size p (bF lt) (bs.map Value.bool).toArray,#[#[_,aW _ rfl,rfl,rfl],?_],?_,λM tk B=>?_];obtain ⟨o,e,r⟩:=f.isList;exact#[o,aD _ e,r];intro i v G l L hv m;have a:(bs.map Value.bool)[i]? = some v:=by simpa using hv
 rw[bI]at a;cases c:bs[i]? with
 |none=>rw[c]at a;cases a
 |some b => rw[c]at a;cases a;have g:l (bs[i]?.getD false) G:=m;rw[c]at g;exact wpAny_truthy_bool g
 have j:=fun b o e=>B b o (by simp; exact bF<|aR e)<|aD _ e;refine#[.bl _,H,I.kept j,?_,q];show Value.bool _=Value.bool _;rw[aS,aB,aDt]
end
def Its(x:Str):It:=#[λi H=>i<x.cps.size,λi H v a=>a=H/\∃c,x.cps[i]? = some c/\v=.str #[[c].toArray],λi H=>x.cps.size<=i]
def aDi{P}{w}{K}{tg}(x:Str)(t:Tok)(it:Addr):Turn P w K tg (Its x) [it] it (λi h=>h.IsStrIter it "str_ascii_iterator" x t i)where
 mem:=by simp
 obj:=λi h a b f=>by
  have e:b=it:=by simpa using f
  subst e;obtain⟨o,e,c,d⟩:=a;exact#[o,e,λv z=>by rw[d]at z;cases z]
 keep:=λi h A a k=>let ⟨o,ho,r⟩:=a;#[o,k it `h o ho,r]
 item:=by intro X L M J B i C s O H E I j a u;obtain⟨l,m,G,f3,p,q⟩:=j it `h;have y:i<x.cps.size:=u;refine wpAny_pyNext_ascii_item a (c:=x.cps[i]) (by simp[y]) λA g N=>?_;have D:=I.turned (t':=s.toks+1) (λb o f e=>(N.2 b f).trans e) l m f3 p q;obtain⟨o,e,c,d⟩:=id g;exact#[_,rfl,tH e c d rfl #[.str #[[x.cps[i]].toArray],H,D,`r,#[rfl,_,by simp[y],rfl],g,λb f=>(j b f).1]]
 done:=by intro X L M J B i C s O H E I j a u;obtain⟨l,m,G,f3,p,q⟩:=j it `h;exact wpAny_pyNext_ascii_end (I.ok.hd B) a (Array.getElem?_eq_none u) λA F=>#[rfl,I.turned (t':=s.toks) (λb o f e=>F b o f e) l m f3 p q]
 self:=λ_ _ _ _ _ a h=>wpAny_pyIter_striter_ascii a h
def aDh{P}{w}{K}{tg}(x:Str)(t:Tok)(it:Addr):Turn P w K tg (Its x) [it] it (λi h=>h.IsStrIter it "str_iterator" x t i)where
 mem:=by simp
 obj:=λi h a b f=>by
  have e:b=it:=by simpa using f
  subst e;obtain⟨o,e,c,d⟩:=a;exact#[o,e,λv z=>by rw[d]at z;cases z]
 keep:=λi h A a k=>let ⟨o,ho,r⟩:=a;#[o,k it `h o ho,r]
 item:=by intro X L M J B i C s O H E I j a u;obtain⟨l,m,G,f3,p,q⟩:=j it `h;have y:i<x.cps.size:=u;refine wpAny_pyNext_wide_item a (c:=x.cps[i]) (by simp[y]) λA g N=>?_;have D:=I.turned (t':=s.toks+1) (λb o f e=>(N.2 b f).trans e) l m f3 p q;obtain⟨o,e,c,d⟩:=id g;exact#[_,rfl,tH e c d rfl #[.str #[[x.cps[i]].toArray],H,D,`r,#[rfl,_,by simp[y],rfl],g,λb f=>(j b f).1]]
 done:=by intro X L M J B i C s O H E I j a u;obtain⟨l,m,G,f3,p,q⟩:=j it `h;exact wpAny_pyNext_wide_end (I.ok.hd B) a (Array.getElem?_eq_none u) λA F=>#[rfl,I.turned (t':=s.toks) (λb o f e=>F b o f e) l m f3 p q]
 self:=λ_ _ _ _ _ a h=>wpAny_pyIter_striter_wide a h
def bJw(b:TE):TI:=λc H R=>b c H λv a=>∃x,v=.str x/\R (Its x) a
def aVy(z:PE X l tl):PI X tg l<|bJw tl:=by
 intro i s m H R I h;refine dY (z i s m H _ I h) λv a p=>?_;obtain⟨y,r,g,B,A⟩:=p;obtain⟨x,e,q⟩:=A;subst e;obtain⟨t,rfl⟩:=B;have c:∀(o:Obj) (f:Nat->Heap->Prop),Turn X.prog X.w X.K tg (Its x) [a.heap.objs.size] a.heap.objs.size f->f 0 (a.heap.push o)->PIE X i m tg R (.ref a.heap.objs.size) { a with heap:=a.heap.push o }:=λo f T C=>by
  refine#[a.heap.objs.size,[a.heap.objs.size],f,_,r,rfl,g.kept (t':=a.toks) λb o e=>aD _ e,T,C,λb u=>?_,q];have e:b=a.heap.objs.size:=by simpa using u
  subst e;exact g.fpOk (aO _)<|g.hok.fresh<|aO _
 cases j:x.cps.all (· < 128);exact wpAny_pyIter_wide j<|c _ _ (aDh x t _) #[_,aW _ rfl,rfl,rfl];exact wpAny_pyIter_ascii j<|c _ _ (aDi x t _) #[_,aW _ rfl,rfl,rfl]
def aKf:∀i,i<26->("abcdefghijklmnopqrstuvwxyz" : Str).cps.extract i (i+1) = [97+i].toArray:=by decide +kernel
def aKe:∀j,j<26->(!(Builtin.Str.occurrences ("abcdefghijklmnopqrstuvwxyz" : Str) #[[97+j].toArray] 0 ("abcdefghijklmnopqrstuvwxyz" : Str).length 1).isEmpty)=true:=by decide +kernel
def in_lets(c:Nat):(!(Builtin.Str.occurrences ("abcdefghijklmnopqrstuvwxyz" : Str) #[[c].toArray] 0 ("abcdefghijklmnopqrstuvwxyz" : Str).length 1).isEmpty)=(decide (97<=c)&&decide (c<=122)):=by
 by_cases h:97<=c/\c<=122;have e:c=97 + (c - 97):=by lia
 rw[dzT h.1,dzT h.2,e];exact aKe _ `b;have z:(decide (97≤c) && decide (c≤122))=false:=by grind
 rw[z,PySem.W.occ_nil_of_no];rfl;intro i b;have a:i<26:=by exact Nat.lt_of_succ_le b
 show(("abcdefghijklmnopqrstuvwxyz" : Str).cps.extract i (i+1) == [c].toArray)=false;rw[aKf i a];have:97+i≠c:=by lia
 simpa using this
def Ite(K:dN)(a:Addr):It:=
  #[fun i H => ∃ b x,SqL K H a b∧b[i]? = some x,
   λi H v c=>∃p x,v=.ref p/\H p=none/\c=upd H p (.tup [.int (i:Int),x])/\∀b,SqL K H a b->b[i]? = some x,
   λi H=>∃b,SqL K H a b/\b.length<=i]
def aDl{P}{w}{K}{es}{F}{tpos}{a e it}(M:e≠it) :
  Turn P w K (.Tuple es F tpos) (Ite K a) [e,it] e (λi h=>(∃b,IsEnum h e it (i:Int) b)/\h.IsListIter it a i)where
 mem:=aA
 obj:=λi h j c R=>by
  obtain⟨⟨b,g⟩,m⟩:=j;simp only[aF,bV,or_false]at R;rcases R with rfl | rfl
  exact#[_,g,λv e=>nomatch e];obtain⟨o,e,_,d⟩:=m;exact#[o,e,λv z=>by rw[d]at z;cases z]
 keep:=λi h Q j k=>by obtain⟨⟨b,g⟩,o,a,r⟩:=j;exact#[#[b,k e aA _ g],#[o,k it (List.mem_of_getLast? rfl) o a,r]]
 item:=by
  intro X A D y f i L s S H E I q j B;subst A D y;obtain⟨xs,x,u,O⟩:=B;obtain⟨p,J,G,z1⟩:=I.list u;obtain⟨u1,Y,W⟩:=J.get O;obtain⟨⟨b,g⟩,m⟩:=j;have lt:∀{c o},s.heap.get? c=some o->s.heap.objs.size≠c:=λe=>fE<|aR e;refine wpAny_pyNext_enum_item g m G.isList (x:=u1) (by simpa using Y) M λQ Z n t a4 C=>?_;refine#[_,rfl,wpAny_letOwnedTupleGo_enum Z λN V b2=>?_];have l:=b2;have F:∀c o,c∉[e,it]->s.heap.get? c=some o->N.get? c=some o:=λc o f e=>by simp only[aF,bV,or_false,not_or]at f;exact l.extBut _ _ f.1<|C c o f.1 f.2 e
  have tT:=l.extBut _ _ (lt g) t;have nT:=I.hok.fresh<|aO _;have U:Inv X L S (upd H s.heap.objs.size<|.tup [.int (i:Int),x]) { s with heap:=N,toks:=s.toks+1 }:=I.turnedT (t':=s.toks+1) q F (aO _) (.cons `r (.cons W .nil)) (by show 2<=sizeLine;decide) #[_,tT,rfl,_,rfl];obtain⟨o2,T,r2⟩:=n;refine#[.ref s.heap.objs.size,upd H s.heap.objs.size<|.tup [.int (i:Int),x],U,rfl,#[_,x,rfl,nT,rfl,λa0 w1=>by rw[I.list_inj w1 u];exact O],#[#[_,V],#[o2,l.extBut _ _ (Ne.symm M) T,r2]],λc f=>?_];obtain⟨o,eo⟩:∃o,s.heap.get? c=some o:=by
   simp only[aF,bV,or_false]at f;rcases f with rfl | rfl
   exact#[_,g];obtain⟨o,e,_⟩:=m;exact#[o,e]
  rw[eT<|Ne.symm<|lt eo];exact(q c f).1
 done:=by intro X A D y f i L s S H E I q j B;subst A D y;obtain⟨xs,u,e⟩:=B;obtain⟨p,J,G,z1⟩:=I.list u;obtain⟨⟨b,g⟩,m⟩:=j;have l1:=J.length;refine wpAny_pyNext_enum_end (I.ok.hd f) g m G.isList (by simp;exact le_of_eq_of_le (id<|Eq.symm l1) e) λQ C=>#[rfl,I.turnedL (t':=s.toks) q λc o f e=>?_];simp only[aF,bV,or_false,not_or]at f;exact C c o f.2 e
 self:=λ_ _ _ _ _ j h=>by obtain⟨⟨b,g⟩,_⟩:=j;exact wpAny_pyIter_enum g h
def xI:bootBuiltins "enumerate" = some (.type "enumerate"):=by decide +kernel
def bEk(K:dN)(c:TA):TI:=λg H R=>c g H λe b=>∃a,e=[.ref a]/\(∃f,SqL K b a f)/\R (Ite K a) b
def aOn(r:Gl X "enumerate")(z:X.mg "enumerate" = none)(ha:PA X [ea] ta)(A:starEach [ea] X.env=[(false,eval ea X.env)]:=by rfl) :
  PI X (.Tuple es kk tpos) (.Call (.Name "enumerate" p) [ea] [] pos) (bEk X.K ta):=by
 intro l s J H R I h;refine Call_<|gq_ I r z xI<|cO (dY (ha pos l s J H _ I h) λO j m=>?_) A rfl;obtain⟨Q,o,b,E,D⟩:=m;obtain⟨a,e,⟨S,G⟩,q⟩:=D;subst e;obtain⟨u,rfl,F⟩:=jK E;cases F;obtain⟨i,N,C,T⟩:=b.list G;refine call_enumerate_list C.isList λL g v B y=>wpAny_pyIter_enum g ?_;refine#[_,_,_,_,o,rfl,b.kept (t':=j.toks) y,aDl (a:=a)<|Nat.succ_ne_self _,#[#[_,g],v],λc M=>?_,q];have f:j.heap.objs.size<=c:=by grind
 exact b.fpOk f<|b.hok.fresh f
section
variable{X:Cx}
def bCt(K:dN):V->Hp->VK->Prop:=λx H Q=>∃a b,x=.ref a/\SqL K H a b/\∀p,H p=none->Q (.ref p) (upd H p<|.lst b.reverse)
def bCe(K:dN)(b:TE):TE:=λc H Q=>b c H λx a=>bCt K x a Q
def aOo(D:PE X e te):PE X (.Subscript e (.Slice none none (some<|.UnaryOp .USub (.Constant (.int 1) k p1) p2) p3) pos)<|bCe X.K te:=by intro f s l H Q I h;refine Subscript_<|dY (D f s l H _ I h) λv M g=>?_;obtain⟨x,m,z,J,G⟩:=g;obtain⟨a,R,rfl,E,q⟩:=G;cases J;refine wpAny_Slice ?_;refine wpAny_pure<|wpAny_pure ?_;refine dY ((aSk aHg ki_:PE X (.UnaryOp .USub (.Constant (.int 1) k p1) p2) _) f M l m (λx p=>x=.int (-1)/\p=m) z #[_,rfl,rfl,rfl]) λO c g=>?_;obtain⟨y,u,A,L,B,C⟩:=g;subst B C;obtain⟨t,rfl⟩:=L;have i:Inv X f l u { c with heap:=c.heap.push { cls:=.type "slice",data:=.fields [.none,.none,.int (-1) t].toArray } }:=A.kept (t':=c.toks) λb ob q=>aD _ q;obtain⟨j,r,o,F⟩:=i.list E;have N:=r.length;refine tail_any o.isList.typeIs slot_list_getitem.lookup ?_ (by with_unfolding_all rfl);refine wpAny_getItem_list_slice o.isList (Heap.IsSliceOf.new ..) .none .none (.int _ _) `h ?_ (by rw[aS]<;>lia);rw[PySem.W.krv_pick];refine#[.ref _,_,i.laid (t':=c.toks) (λb ob q=>aD _ q) (aO _) ?_,rfl,q _<|i.hok.fresh<|aO _];exact#[by rw[List.length_reverse];exact F,j.reverse,0,r.reverse,aW _ rfl]
end
abbrev jY(h:Heap)(z TI TO a:Addr)(b:Bool):Prop:=
 h.get? z=some { cls:=.type "zip",dict:=none,data:=.fields [rawInt a,.bool b,.bool false,.ref TI,.ref TO].toArray,slots:= [].toArray }
section
variable{prog:Program}{w:World}{A:Around}{E:iE}{s:Shared}
def rG{a}{Q}(h:Q (s.heap.get? a) s):wpAny `f A (loadIfAlive a) Q E s:=λ_ _ _=>h
def sP{z TI TO T0}{f1}{o0}{Q}(hz:jY s.heap z TI TO T0 f1)(e:s.heap.get? T0=some o0)
  (a:∀h',jY h' z TI TO T0 true->Heap.SameBut z s.heap h'->Q false { s with heap:=h' }):wpAny `f A (Builtin.SmallTypes.ownedTupleIsFree<|.ref z) Q E s:=by
 refine wpAny_bind<|wpAny_field hz rfl rfl ?_;refine wpAny_bind<|rG ?_;rw[eX,e];refine wpAny_bind<|wpAny_field hz rfl rfl ?_;cases f1 with
 |true => refine wpAny_pure (a s.heap hz #[rfl,λ_ _=>rfl])
 |false => exact wpAny_bind<|wpAny_setField_rec hz `h λh' b c=>wpAny_pure<|a h' b c
def aDb{t1 t2}{z TI TO T0 i1 i2 l1 l2}{f1}{o0}{k1 k2}{xs ys}{x y}{Q:iE}(D:ZipApart z TI TO i1 i2 l1 l2)
  (hz:jY s.heap z TI TO T0 f1) (F:s.heap.get? T0=some o0) (u:IsPair s.heap TI (.ref i1)<|.ref i2)
  (G:SIter t1 s.heap i1 l1 k1) (H:SIter t2 s.heap i2 l2 k2) (r:SSeq t1 s.heap l1 xs) (q:SSeq t2 s.heap l2 ys) (J:xs[k1]? = some x) (L:ys[k2]? = some y)
  (I:∀ h',jY h' z TI TO T0 true→SIter t1 h' i1 l1 (k1 + 1)→SIter t2 h' i2 l2 (k2 + 1)→IsPair h' s.heap.objs.size x y→h'.objs.size=s.heap.objs.size + 1 →
   (∀c o,c≠z->c≠i1->c≠i2->s.heap.get? c=some o->h'.get? c=some o)->Q `o { s with heap:=h' }) :
  wpAny `f A (Builtin.«zip.__next__» #[[.ref z],[]]) (λm N=>∃v,m=.done (.ret v)/\Q v N) E s:=by
 show wpAny _ _ (field (.ref z) 2 >>= _) _ _ _;refine wpAny_bind<|wpAny_field hz rfl (x:=.bool false) rfl ?_;show wpAny _ _ (field (.ref z) 3 >>= _) _ _ _;refine wpAny_bind<|wpAny_field hz rfl rfl ?_;refine wpAny_bind<|wpAny_seqItems u rfl ?_;show wpAny _ _ (Builtin.SmallTypes.ownedTupleIsFree (.ref z) >>= _) _ _ _;refine wpAny_bind<|sP hz F λS O a=>?_;refine wpAny_bind ?_;refine wpAny_bind<|wpAny_bind<|wpAny_holding ?_;refine wpAny_bind<|hs_ (G.to λo e=>a.extBut _ _ D.i1z e) (r.to λo e=>a.extBut _ _ D.l1z e) J λT B f=>wpAny_pure ?_;refine wpAny_pure ?_;refine wpAny_bind<|wpAny_bind<|wpAny_holding ?_;refine wpAny_bind<|hs_ (H.to λo e=>f.extBut _ _ D.i12.symm<|a.extBut _ _ D.i2z e) (q.to λo e=>f.extBut _ _ D.l2i1<|a.extBut _ _ D.l2z e) L λg C h=>wpAny_pure ?_;refine wpAny_pure<|wpAny_pure ?_;show wpAny _ _ (newTuple [x,y] >>= _) _ _ _;refine wpAny_bind<|wpAny_newTuple ?_;have b:g.objs.size=s.heap.objs.size:=by rw[h.1,f.1,a.1]
 refine wpAny_pure #[_,rfl,?_];have M:∀c o,c≠z->c≠i1->c≠i2->s.heap.get? c=some o->g.get? c=some o:=λc o i j l e=>h.extBut _ _ l<|f.extBut _ _ j<|a.extBut _ _ i e;have R:=h.extBut _ _ D.i2z.symm<|f.extBut _ _ D.i1z.symm O;have p:IsPair (g.push { cls:=.type "tuple",data:=.seq [x,y].toArray }) g.objs.size x y:=aW _ rfl;rw[b]at p ⊢;exact I _ (aD _ R) (B.to λo e=>aD _<|h.extBut _ _ D.i12 e) (C.to λo e=>aD _ e) p (by rw[cK,b]) λc o i j l e=>aD _<|M c o i j l e
def aGe{t1 t2:Bool}{z TI TO T0 i1 i2 l1 l2}{f1}{o0}{k1 k2:Nat}{xs ys:S5}{Q}(q:A.handled=none)(D:ZipApart z TI TO i1 i2 l1 l2)
  (hz:jY s.heap z TI TO T0 f1) (j:s.heap.get? T0=some o0) (f:IsPair s.heap TI (.ref i1)<|.ref i2)
  (l:SIter t1 s.heap i1 l1 k1) (b:SSeq t1 s.heap l1 xs) (g:xs[k1]? = none)
  (m:∀h' e,(∀c o,c≠z->c≠i1->s.heap.get? c=some o->h'.get? c=some o)->(∃o,h'.get? e=some o/\o.cls=.type "StopIteration")->E (.ref e) { s with heap:=h' }) :
  wpAny `f A (Builtin.«zip.__next__» #[[.ref z],[]]) Q E s:=by
 show wpAny _ _ (field (.ref z) 2 >>= _) _ _ _;refine wpAny_bind<|wpAny_field hz rfl (x:=.bool false) rfl ?_;show wpAny _ _ (field (.ref z) 3 >>= _) _ _ _;refine wpAny_bind<|wpAny_field hz rfl rfl ?_;refine wpAny_bind<|wpAny_seqItems f rfl ?_;show wpAny _ _ (Builtin.SmallTypes.ownedTupleIsFree (.ref z) >>= _) _ _ _;refine wpAny_bind<|sP hz j λv y a=>?_;refine wpAny_bind ?_;refine wpAny_bind<|wpAny_bind<|wpAny_holding ?_;exact wpAny_bind<|ko_ q (l.to λo e=>a.extBut _ _ D.i1z e) (b.to λo e=>a.extBut _ _ D.l1z e) g λr e u p=>m r e (λc o h i x=>u _ _ i<|a.extBut _ _ h x) p
def yV{t1 t2}{z TI TO T0 i1 i2 l1 l2}{f1}{o0}{k1 k2}{xs ys}{x y}{Q}(D:ZipApart z TI TO i1 i2 l1 l2)
  (hz:jY s.heap z TI TO T0 f1) (p:s.heap.get? T0=some o0) (f:IsPair s.heap TI (.ref i1)<|.ref i2)
  (q:SIter t1 s.heap i1 l1 k1) (r:SIter t2 s.heap i2 l2 k2) (e:SSeq t1 s.heap l1 xs) (b:SSeq t2 s.heap l2 ys) (v:xs[k1]? = some x) (B:ys[k2]? = some y)
  (u:∀ h',jY h' z TI TO T0 true→SIter t1 h' i1 l1 (k1 + 1)→SIter t2 h' i2 l2 (k2 + 1)→IsPair h' s.heap.objs.size x y→h'.objs.size=s.heap.objs.size + 1 →
   (∀c o,c≠z->c≠i1->c≠i2->s.heap.get? c=some o->h'.get? c=some o)->Q (some `o) { s with heap:=h' }) :
  wpAny `f A (pyNext<|.ref z) Q E s:=by
 have a:s.TypeIs (.ref z) "zip":=#[_,hz,rfl];exact wpAny_bind<|wpAny_attempt<|wpAny_callSpecial?_slot a F.slot_zip_next<|wpAny_call_entry F.slot_zip_next a F.entry_zip_next (aDb D hz p f q r e b v B λh' g h i j l m=>wpAny_pure<|u h' g h i j l m)<|F.args_zip_next_1 _
def vG{t1}{z TI TO T0 i1 i2 l1 l2}{f1}{o0}{k1}{xs}{Q}(q:A.handled=none)(D:ZipApart z TI TO i1 i2 l1 l2)
  (hz:jY s.heap z TI TO T0 f1) (i:s.heap.get? T0=some o0) (g:IsPair s.heap TI (.ref i1)<|.ref i2) (j:SIter t1 s.heap i1 l1 k1) (f:SSeq t1 s.heap l1 xs) (h:xs[k1]? = none)
  (l:∀h',(∀c o,c≠z->c≠i1->s.heap.get? c=some o->h'.get? c=some o)->Q none { s with heap:=h' }):wpAny `f A (pyNext<|.ref z) Q E s:=by
 have a:s.TypeIs (.ref z) "zip":=#[_,hz,rfl];refine wpAny_bind<|wpAny_attempt<|wpAny_callSpecial?_slot a F.slot_zip_next<|wpAny_call_entry F.slot_zip_next a F.entry_zip_next (aGe (t1:=t1) (t2:=false) (k1:=k1) (k2:=0) (xs:=xs) (ys:=xs) q D hz i g j f h λh' e r p=>?_)<|F.args_zip_next_1 _;obtain⟨o,u,m⟩:=p;exact wpAny_bind<|wpAny_isInstance (b:=true) #[o,u,m] isSubtype_stop<|wpAny_pure<|l _ r
end
def ZDrawn(N:Nat)(xs ys a:S5)(h:Heap)(i:Nat):Prop:=a.size=i/\∀j,j<i->∃T x y,a[j]? = some (.ref T)/\xs[j]? = some x/\ys[j]? = some y/\IsPair h T x y/\N<=T
def ZDrawn.keep(d:ZDrawn N xs ys Ac h i)(k:∀b o,N<=b->o.cls=.type "tuple" -> h.get? b=some o->h'.get? b=some o):ZDrawn N xs ys Ac h' i:=
 #[d.1,λj f=>by obtain⟨T,x,y,a,b,c,e,n⟩:=d.2 j f;exact#[T,x,y,a,b,c,k T _ n rfl e,n]]
def ZDrawn.push(d:ZDrawn N xs ys Ac h i)(o:xs[i]? = some x)(p:ys[i]? = some y)(l:IsPair h T x y)(n:N<=T):ZDrawn N xs ys (Ac.push<|.ref T) h<|i+1:=by refine#[by rw[Array.size_push,d.1],λj s=>?_];by_cases e:j=i;subst e;exact#[T,x,y,by rw[Array.getElem?_push,if_pos d.1.symm],o,p,l,n];obtain ⟨g,q,r,a,b,c,f,m⟩:=d.2 j `b;exact#[g,q,r,by rw[Array.getElem?_push,if_neg (by rw[d.1];exact e)];exact a,b,c,f,m]
section
variable{prog:Program}{w:World}{A:Around}{R:Result->Shared->Prop}
def a_{t1 t2}{z TI TO T0 i1 i2 l1 l2 S}{xs ys}{x0 y0}{N n}(hh:A.in1.handled=none)(D:ZipApart z TI TO i1 i2 l1 l2)(J:S≠z)(L:S≠i1)(V:S≠i2)(Gv:S≠TI)(Gu:S≠l1)(Gs:S≠l2)(X:T0≠S)
  (I:xs.size=n) (Ir:ys.size=n) (hn:n<=sizeLine) (res:Value) :
  ∀(k i:Nat) (s:Shared) (j:S5) (c:Nat) (O:Bool),n-i=k->i<=n->N<=s.heap.objs.size->jY s.heap z TI TO T0 O->IsPair s.heap T0 x0 y0->IsPair s.heap TI (.ref i1) (.ref i2)->SIter t1 s.heap i1 l1 i->SIter t2 s.heap i2 l2 i->SSeq t1 s.heap l1 xs->SSeq t2 s.heap l2 ys ->
  s.heap.get? S=some { cls:=.type "list",dict:=none,data:=.seq j c,slots:= [].toArray }->ZDrawn N xs ys j s.heap i ->
  (∀h' acc' M,(∀b o,b≠z->b≠i1->b≠i2->b≠S->s.heap.get? b=some o->h'.get? b=some o)->h'.get? S=some { cls:=.type "list",dict:=none,data:=.seq acc' M,slots:= [].toArray }->ZDrawn N xs ys acc' h' n->R (.ok<|.ret res) { s with heap:=h' }) ->
  codeAny `f A (.builtin "list.extend.loop" #[[.ref S,.ref z,res],[]]) R s:=by
 intro k
 induction k with
 |zero =>
  intro i s j c O hk hi T Y r B l Q v G W u U;have Df:i=n:=by lia
  subst Df;refine codeAny_builtin F.entry_extend_loop ?_;refine wpAny_bind<|vG hh D Y r B l v (by rw[Array.getElem?_eq_none<|jA I]) λh' f=>?_;refine wpAny_pure<|U h' j c (λb o C E _ _ e=>f b o C E e) (f S _ J L W)<|u.keep λb o _ g e=>f b o ?_ ?_ e;grind;intro q;subst q;obtain⟨o',e',_⟩:=l.obj;rw[e]at e';cases e';exact(by cases t1<;>(obtain⟨o2,h,p,_⟩:=l;rw[e]at h;cases h;rw[p]at g;simp at g))
 |succ k ih =>
  intro i s j c O hk hi T Y r B l Q v G W u U;have m:i<n:=Nat.lt_of_sub_eq_succ hk;refine codeAny_builtin F.entry_extend_loop ?_;refine wpAny_bind<|yV D Y r B l Q v G (x:=xs[i]'(dF m<|id<|Eq.symm I)) (y:=ys[i]'(dF m<|id<|Eq.symm Ir)) (Array.getElem?_eq_getElem _) (Array.getElem?_eq_getElem _) λh' a1 a2 a3 a4 a5 f=>?_;have H:=f S _ J L V W;have nz:∀b o,o.cls=.type "tuple" -> s.heap.get? b=some o->b≠z/\b≠i1/\b≠i2:=λb o g e=>by
   refine#[?_,?_,?_];grind;intro q;subst q;cases t1<;>(obtain⟨o2,h,p,_⟩:=l;rw[e]at h;cases h;rw[p]at g;simp at g)
   intro q;subst q;cases t2<;>(obtain⟨o2,h,p,_⟩:=Q;rw[e]at h;cases h;rw[p]at g;simp at g)
  refine wpAny_bind ?_;have a:∀b o,b≠S->h'.get? b=some o->(h'.update S (Obj.mapSeq (·.push `o))).get? b=some o:=λb o hb e=>(bD _ _<|Ne.symm hb).trans e;have d1:=u.keep λb o _ g e=>by obtain⟨Z,d,t⟩:=nz b o g e;exact f b o Z d t e
  have d2:=d1.push (Array.getElem?_eq_getElem<|dF m<|id<|Eq.symm I) (Array.getElem?_eq_getElem<|dF m<|id<|Eq.symm Ir) a4 T;refine wpAny_updateSeq H rfl (wpAny_pure #[plainId_quiet F.plain_extend_loop _,ih (i+1) _ (j.push `o) _ true `b m ?_ ?_ ?_ ?_ ?_ ?_ ?_ ?_ (cE _ H rfl) ?_ λEa acc' M Dr Il Ih=>?_])
   (by rw[u.1];exact nzL hi hn) (by show(j.push _).size<=sizeLine+1;rw[Array.size_push,u.1];lia)
  rw[(Heap.SameBut.update ..).1,a5];exact gM T;exact a _ _ (Ne.symm J) a1;exact a _ _ X (by obtain⟨Z,d,t⟩:=nz T0 _ rfl r;exact f T0 _ Z d t r);exact a _ _ (Ne.symm Gv)<|f TI _ D.TIz D.TIi1 D.TIi2 B;exact a2.to λo e=>a _ o (Ne.symm L) e;exact a3.to λo e=>a _ o (Ne.symm V) e;exact v.to λo e=>a _ o (Ne.symm Gu)<|f _ _ D.l1z D.l1i1 D.l1i2 e;exact G.to λo e=>a _ o (Ne.symm Gs)<|f _ _ D.l2z D.l2i1 D.l2i2 e;exact d2.keep λb o _ g e=>a b o (λq=>by subst q;rw[H]at e;cases e;simp at g) e;exact U Ea acc' M (λb o C E b3 b4 e=>Dr b o C E b3 b4<|a b o b4<|f b o C E b3 e) Il Ih
end
def g9:typeLookup (.type "zip") "__len__" = pure none:=by rw[typeLookup_type,builtinLookup_eq_fast];kernel_rfl
def xS:typeLookup (.type "zip") "__length_hint__" = pure none:=by rw[typeLookup_type,builtinLookup_eq_fast];kernel_rfl
section
variable{prog:Program}{w:World}{A:Around}{R:Result->Shared->Prop}
def b6{t1 t2}{z TI TO i1 i2 l1 l2 S}{xs ys}{u v}{N n}(t:A.in1.handled=none)(D:ZipApart z TI TO i1 i2 l1 l2)(i:S≠z)(l:S≠i1)(h:S≠i2)(U:S≠TI)(W:S≠TO)(T:S≠l1)(Q:S≠l2)
  (O:xs.size=n) (Ir:ys.size=n) (hn:n<=sizeLine) (res:Value) {s} {c} (hN:N<=s.heap.objs.size) (hz:IsZip s.heap z TI TO .none) (E:IsPair s.heap TI (.ref i1)<|.ref i2) (M:IsPair s.heap TO u v) (Z:SIter t1 s.heap i1 l1 0) (d:SIter t2 s.heap i2 l2 0) (C:SSeq t1 s.heap l1 xs) (B:SSeq t2 s.heap l2 ys)
  (J:s.heap.get? S=some { cls:=.type "list",dict:=none,data:=.seq [].toArray c,slots:= [].toArray })
  (k:∀h' acc' I,(∀b o,b≠z->b≠TO->b≠i1->b≠i2->b≠S->s.heap.get? b=some o->h'.get? b=some o)->h'.get? S=some { cls:=.type "list",dict:=none,data:=.seq acc' I,slots:= [].toArray }->ZDrawn N xs ys acc' h' n->R (.ok<|.ret res) { s with heap:=h' }) :
  codeAny `f A (.builtin "list.extend.loop" #[[.ref S,.ref z,res],[]]) R s:=by
 refine codeAny_builtin F.entry_extend_loop ?_;cases n with
 |zero => refine wpAny_bind<|iz_ D hz E M Z d C B t (.inl<|by rw[Array.getElem?_eq_none<|Nat.le_zero.mpr O]) λh' f=>?_;exact wpAny_pure (k h' [].toArray c (λb o m H p r _ e=>f b o m H p r e) (f S _ i W l h J) #[rfl,λj L=>absurd L<|Nat.not_lt_zero _])
 |succ n =>
  refine wpAny_bind<|ke_ D hz E M Z d C B (x:=xs[0]'`b) (y:=ys[0]'`b) (Array.getElem?_eq_getElem _) (Array.getElem?_eq_getElem _) λh' a1 a0 a2 a3 X a5 f=>?_;have G:=f S _ i W l h J;refine wpAny_bind ?_;have a:∀b o,b≠S->h'.get? b=some o->(h'.update S (Obj.mapSeq (·.push `o))).get? b=some o:=λb o hb e=>(bD _ _<|Ne.symm hb).trans e;have g:=fE<|aR J;have dd:ZDrawn N xs ys [].toArray h' 0:=#[rfl,λj L=>absurd L<|Nat.not_lt_zero _];have d2:=dd.push (Array.getElem?_eq_getElem `b) (Array.getElem?_eq_getElem `b) X hN;refine wpAny_updateSeq G rfl (wpAny_pure #[plainId_quiet F.plain_extend_loop _,a_ (t1:=t1) (t2:=t2) (x0:=xs[0]'`b) (y0:=ys[0]'`b) (n:=n+1) (N:=N) t D i l h U T Q g O Ir hn res n 1 _ (([].toArray:S5).push `o) _ false (Nat.add_sub_self_right n 1) (iO 1 n) ?_ ?_ ?_ ?_ ?_ ?_ ?_ ?_ (cE _ G rfl) ?_ λEa acc' I V Il Ih=>?_])
   `h (by show(([].toArray:S5).push _).size<=sizeLine+1;simp)
  rw[(Heap.SameBut.update ..).1,a5];lia;exact a _ _ (Ne.symm i) a1;exact a _ _ g X;exact a _ _ (Ne.symm U)<|f TI _ D.TIz D.TITO D.TIi1 D.TIi2 E;exact a2.to λo e=>a _ o (Ne.symm l) e;exact a3.to λo e=>a _ o (Ne.symm h) e;exact C.to λo e=>a _ o (Ne.symm T)<|f _ _ D.l1z D.l1TO D.l1i1 D.l1i2 e;exact B.to λo e=>a _ o (Ne.symm Q)<|f _ _ D.l2z D.l2TO D.l2i1 D.l2i2 e;exact d2.keep λb o _ hc e=>a b o (λq=>by subst q;rw[G]at e;cases e;simp at hc) e;exact k Ea acc' I (λb o m H p r Y e=>V b o m p r Y<|a b o Y<|f b o m H p r e) Il Ih
end
section
variable{prog:Program}{w:World}{A:Around}{E:iE}{s:Shared}
def rS{t1 t2}{z TI TO i1 i2 l1 l2}{xs ys}{u v}{N n}{Q}(hh:A.handled=none)(D:ZipApart z TI TO i1 i2 l1 l2)
  (S:xs.size=n) (T:ys.size=n) (hn:n<=sizeLine) (k:N<=s.heap.objs.size) (hz:IsZip s.heap z TI TO .none) (y:IsPair s.heap TI (.ref i1)<|.ref i2) (B:IsPair s.heap TO u v) (M:SIter t1 s.heap i1 l1 0) (O:SIter t2 s.heap i2 l2 0) (I:SSeq t1 s.heap l1 xs) (H:SSeq t2 s.heap l2 ys)
  (t:∀h' acc' G,(∀b o,b≠z->b≠TO->b≠i1->b≠i2->s.heap.get? b=some o->h'.get? b=some o)->h'.get? s.heap.objs.size=some { cls:=.type "list",dict:=none,data:=.seq acc' G,slots:= [].toArray }->ZDrawn N xs ys acc' h' n->Q `o { s with heap:=h' }) :
  wpAny `f A (call (.type "list") [.ref z]) Q E s:=by
 have lt:∀{b:Addr} {o:Obj},s.heap.get? b=some o->s.heap.objs.size≠b:=λe=>fE<|aR e;obtain⟨o1,Z,_⟩:=M.obj;obtain⟨o2,d,_⟩:=O.obj;have l:s.heap.objs.size≠l1:=by cases t1<;>(obtain⟨_,e,_⟩:=I;exact lt e)
 have m:s.heap.objs.size≠l2:=by cases t2<;>(obtain⟨_,e,_⟩:=H;exact lt e)
 refine callType_codes (Q₁:=λobj h=>obj=.ref s.heap.objs.size/\h={ s with heap:=s.heap.push { cls:=.type "list",data:=.seq [].toArray } }) F.called_list (F.typeCall_list_1 _) F.entry_list_init
  (code_list_new _ #[rfl,rfl]) λobj h j=>?_
 obtain⟨rfl,rfl⟩:=j;have p:(s.heap.push { cls:=.type "list",data:=.seq [].toArray }).get? s.heap.objs.size=some { cls:=.type "list",data:=.seq [].toArray }:=aW _ rfl;refine#[#[_,p,rfl],F.args_list_init_2 _ _,?_];refine wpAny_bind ?_;refine wpAny_bind<|wpAny_seqItems p rfl<|wpAny_pure ?_;refine wpAny_bind<|wpAny_updateSeq p rfl ?_;have a:=cE (Obj.mapSeq<|λ_=>([].toArray:S5)) p rfl;refine wpAny_bind<|wpAny_letGo ?_;have r:∀b o,s.heap.objs.size≠b->s.heap.get? b=some o->((s.heap.push { cls:=.type "list",data:=.seq [].toArray }).update s.heap.objs.size<|Obj.mapSeq<|λ_=>([].toArray:S5)).get? b=some o:=λb o i e=>(bD _ _ i).trans<|aD _ e;have L:s.heap.objs.size<=((s.heap.push { cls:=.type "list",data:=.seq [].toArray }).update s.heap.objs.size<|Obj.mapSeq<|λ_=>([].toArray:S5)).objs.size:=by rw[(Heap.SameBut.update ..).1,cK];lia
 generalize hg:(s.heap.push { cls:=.type "list",data:=.seq [].toArray }).update s.heap.objs.size (Obj.mapSeq<|λ_=>([].toArray:S5))=g1 at a r L ⊢;have C:Shared.TypeIs { s with heap:=g1 } (.ref z) "zip":=#[_,r _ _ (lt hz) hz,rfl];refine wpAny_bind<|wpAny_typeOf C ?_;have q1:Builtin.List.listSameRef `o (.ref z)=false:=by simp[Builtin.List.listSameRef,lt hz]
 have q2:(Value.type "zip" == Value.type "list")=false:=by decide
 have q3:(Value.type "zip" == Value.type "tuple")=false:=by decide
 simp only[q1,q2,q3,Bool.or_false,gO,if_false];refine wpAny_bind<|wpAny_pyIter_zip (r _ _ (lt hz) hz) ?_;refine wpAny_bind<|wpAny_holding ?_;refine wpAny_bind<|wpAny_specialOf C g9 ?_;refine wpAny_bind<|wpAny_specialOf C xS ?_;refine wpAny_pure ?_;refine wpAny_bind<|wpAny_rule ?_;refine wpAny_bind ?_;refine wpAny_bind<|wpAny_updateSeq a rfl ?_;have c:=cE (Obj.mapSeq (·.push Value.none)) a rfl;refine wpAny_updateSeq c rfl ?_;have f:=cE (Obj.mapSeq (·.pop)) c rfl;have g:∀b o,s.heap.objs.size≠b->s.heap.get? b=some o->((g1.update s.heap.objs.size (Obj.mapSeq (·.push Value.none))).update s.heap.objs.size (Obj.mapSeq (·.pop))).get? b=some o:=λb o i e=>(bD _ _ i).trans<|(bD _ _ i).trans<|r b o i e;have J:s.heap.objs.size<=((g1.update s.heap.objs.size (Obj.mapSeq (·.push Value.none))).update s.heap.objs.size (Obj.mapSeq (·.pop))).objs.size:=by rw[(Heap.SameBut.update ..).1,(Heap.SameBut.update ..).1];exact L
 generalize V:(g1.update s.heap.objs.size (Obj.mapSeq (·.push Value.none))).update s.heap.objs.size (Obj.mapSeq (·.pop))=g2 at f g J ⊢;refine wpAny_pure #[plainId_quiet F.plain_extend_loop _,b6 (A:=A.in1) (t1:=t1) (t2:=t2) (N:=N) (n:=n) hh D (lt hz) (lt Z) (lt d) (lt y) (lt B) l m S T hn .none (nzL k J) (g _ _ (lt hz) hz) (g _ _ (lt y) y) (g _ _ (lt B) B) (M.to λo e=>g _ o (lt e) e) (O.to λo e=>g _ o (lt e) e) (I.to λo e=>g _ o (lt e) e) (H.to λo e=>g _ o (lt e) e) f λh' acc' G hk R x=>?_];exact#[rfl,t h' acc' G (λb o U W X Y e=>hk b o U W X Y (λq=>lt e q.symm)<|g b o (lt e) e) R x]
end
def Inv.grown(I:Inv X Aa h H s)(k:∀b o,s.heap.get? b=some o->h'.get? b=some o)
  (a:∀b u,H b=some u->Hn b=some u) (f:∀b,b<s.heap.objs.size->H b=none->Hn b=none) (new:∀b u,H b=none->Hn b=some u->ObjOk X.prog X.w Hn h' b u):Inv X Aa h Hn { s with heap:=h',toks:=t' }:=by
 have fr:∀b o,s.heap.get? b=some o->H b=none->Hn b=none:=λb o e n=>f b (aR e) n;refine I.step (g':=s.gens) (d':=s.drawn) (ch:=[]) (λb g=>(nomatch g)) (λb o _ _ _ e _=>k b o e) (λb o _ _ _ e _=>#[o.slots,k b o e])
  (λb o _ e n=>fr b o e n) (λb o _ e=>#[o,k b o e]) (λb A q=>a b _ q) (λb o u q=>a b _ q)
  (λb C q=>#[[].toArray,by rw[a b _ q];simp]) (λm l=>?_) (λb u q=>?_) I.bare
 obtain ⟨o,j,i,p,r⟩:=l;exact#[o,j,i,k _ o p,r];cases g:H b with
 |some y => have e:=a b y g;rw[q]at e;cases e;exact(I.hok b u g).stay (λc v B z=>k c v z) (λc z=>a c _ z) λc A z=>a c _ z
 |none=>exact new b u g q
def Vals.of_get:∀{zs} {us},zs.length=us.length->(∀(j:Nat) (z:V) (u:Value),zs[j]? = some z->us[j]? = some u->RelV z u)->Vals zs us
 | [],[],_,_=>.nil
 |z::zs,u::us,hl,h=>.cons (h 0 z u rfl rfl) (Vals.of_get (by simpa using hl) λj a b c e=>h (j+1) a b (by simpa using c)<|by simpa using e)
 | [],_::_,hl,_=>by simp at hl
 |_::_,[],hl,_=>by simp at hl
end L2
namespace Lf
open PySem L2
mutual
def tN{X:Cx}{E:gQ}{S:St}{H:Hp}{s:Shared}(I:Inv X E S H s):∀(d:Dt) {v c:V} {u f:Value} {A:Around},A.units+d.deep<cLine->IsD H d v->IsD H d c->RelV v u->RelV c f->SeqAt.EqAt A s u f true
 | .int i,v,c,u,f,A,_,h,h',r,r'=>by cases(show v=.int i from h);cases(show c=.int i from h');obtain⟨t,rfl⟩:=r;obtain⟨D,rfl⟩:=r';have:=SeqAt.EqAt.int_int (A:=A) (s:=s) i t i D;rw[beq_self_eq_true]at this;exact this
 | .str x,v,c,u,f,A,_,h,h',r,r'=>by cases(show v=.str x from h);cases(show c=.str x from h');obtain⟨t,rfl⟩:=r;obtain⟨D,rfl⟩:=r';have:=SeqAt.EqAt.str_str (A:=A) (s:=s) x t x D;rw[beq_self_eq_true]at this;exact this
 | .bl b,v,c,u,f,A,_,h,h',r,r'=>by cases(show v=.bl b from h);cases(show c=.bl b from h');cases r;cases r';exact SeqAt.EqAt.same _
 | .tup ds,v,c,u,f,A,hA,h,h',r,r'=>by
  obtain⟨a,N,rfl,p,hv⟩:=h;obtain⟨b,O,rfl,y,j⟩:=h';cases r;cases r';by_cases g:a=b;subst g;exact SeqAt.EqAt.same _;obtain ⟨o,l,B,Q⟩:=I.tuple<|SqT.of (K:=X.K) p;obtain⟨z,m,C,R⟩:=I.tuple<|SqT.of (K:=X.K) y;have F:A.units+(gP ds+1)<cLine:=hA;refine SeqAt.EqAt.of_refs g ?_;have q:=SeqAt.RcAt.tuples (e:=λ_=>true) B C `b (ej_ I ds (A:=A.in1) (by show A.units+1+gP ds<cLine;lia) hv j l m);have L:=l.length;have M:=m.length;have G:=hv.len;have J:=j.len;have e:((List.range<|min o.toArray.size z.toArray.size).all (λ_=>true)&&o.toArray.size == z.toArray.size)=true:=by rw[cI];exact#[by simp,beq_iff_eq.mpr (by simp only[aS];lia)]
  rw[e]at q;exact q
 | .lst ds,v,c,u,f,A,hA,h,h',r,r'=>by
  obtain⟨a,N,rfl,p,hv⟩:=h;obtain⟨b,O,rfl,y,j⟩:=h';cases r;cases r';by_cases g:a=b;subst g;exact SeqAt.EqAt.same _;obtain ⟨o,l,B,Q⟩:=I.list<|SqL.of (K:=X.K) p;obtain⟨z,m,C,R⟩:=I.list<|SqL.of (K:=X.K) y;have F:A.units+(gP ds+1)<cLine:=hA;refine SeqAt.EqAt.of_refs g ?_;have L:=l.length;have M:=m.length;have G:=hv.len;have J:=j.len;have q:=SeqAt.RcAt.lists (e:=λ_=>true) B.isList C.isList (by simp only[aS];lia) `b (ej_ I ds (A:=A.in1) (by show A.units+1+gP ds<cLine;lia) hv j l m);have e:((List.range o.toArray.size).all<|λ_=>true)=true:=by simp
  rw[e]at q;exact q
def ej_{X:Cx}{g:gQ}{m:St}{H:Hp}{s:Shared}(I:Inv X g m H s):∀(ds:List Dt) {vs ws:Q1} {us a:Q7} {A:Around},A.units+gP ds<cLine->IsDs H ds vs->IsDs H ds ws->Vals vs us->Vals ws a ->
  ∀(j:Nat) (b:j<us.toArray.size) (f:j<a.toArray.size),SeqAt.EqAt A s us.toArray[j] a.toArray[j] true
 | [],_,_,us,_,_,_,h,h',r,r',j,b,_=>by cases(show _=[]from h);cases r;simp at b
 |d::ds,_,_,us,a,A,hA,⟨v,vr,e1,hv,Iv⟩,⟨v',vr',e2,hw,Iu⟩,r,r',j,b,f=>by
  subst e1;subst e2;cases r with
  |cons i l =>
  cases r' with
  |cons c e =>
  have o:A.units+max d.deep (gP ds)<cLine:=hA;cases j with
  |zero=>exact tN I d `b hv hw i c
  |succ j => have:=ej_ I ds (A:=A) `b Iv Iu l e j (by simpa using b) (by simpa using f);simpa using this
end
def aIb(b:Bool):R2:=λx y H Q=>∃(d:Dt),d.deep<=60/\((∃a,d=.lst a)\/∃a,d=.tup a)/\IsD H d x/\IsD H d y/\Q (.bl b) H
def cl_(Y:X.A.units+64<cLine):OpR X (compareOp .NotEq)<|aIb false:=by
 intro W s Z H x y v u Q I F G h;obtain⟨d,E,c,C,D,q⟩:=h;cases d with
 |lst f =>
  obtain⟨a,R,rfl,o,hv⟩:=C;obtain⟨b,S,rfl,p,g⟩:=D;cases F;cases G;obtain⟨m,j,z,T⟩:=I.list<|SqL.of (K:=X.K) o;obtain⟨r,l,B,U⟩:=I.list<|SqL.of (K:=X.K) p;have N:=j.length;have O:=l.length;have L:=hv.len;have M:=g.len;have J:gP f+1<=60:=E;refine PySem.SeqAt.RcNeAt.lists (e:=λ_=>true) z.isList B.isList (by simp only[aS];lia) `b (ej_ I f (A:=X.A.in1) (by show X.A.units+1+gP f<cLine;lia) hv g j l) _ _ _ _ ?_;refine#[.bl false,H,I,?_,q];show Value.bool _=Value.bool _;have e:((List.range m.toArray.size).all<|λ_=>true)=true:=by simp
  rw[e];rfl
 |tup f =>
  obtain⟨a,R,rfl,o,hv⟩:=C;obtain⟨b,S,rfl,p,g⟩:=D;cases F;cases G;obtain⟨m,j,z,T⟩:=I.tuple<|SqT.of (K:=X.K) o;obtain⟨r,l,B,U⟩:=I.tuple<|SqT.of (K:=X.K) p;have N:=j.length;have O:=l.length;have L:=hv.len;have M:=g.len;have J:gP f+1<=60:=E;refine PySem.SeqAt.RcNeAt.tuples (e:=λ_=>true) z B `b (ej_ I f (A:=X.A.in1) (by show X.A.units+1+gP f<cLine;lia) hv g j l) _ _ _ _ ?_;refine#[.bl false,H,I,?_,q];show Value.bool _=Value.bool _;have e:((List.range<|min m.toArray.size r.toArray.size).all (λ_=>true)&&m.toArray.size == r.toArray.size)=true:=by rw[cI];exact#[by simp,beq_iff_eq.mpr (by simp only[aS];lia)]
  rw[e];rfl
 |int i=>rcases c with⟨_,c⟩ | ⟨_,c⟩<;>cases c
 |str i=>rcases c with⟨_,c⟩ | ⟨_,c⟩<;>cases c
 |bl i=>rcases c with⟨_,c⟩ | ⟨_,c⟩<;>cases c
end Lf
namespace L2
open PySem PySem.Spec PyProof.Rows
section
variable{X:Cx}
def aFl:bootBuiltins "sorted" = some (.builtin "sorted"):=by decide +kernel
end
def e8(a:Nat->Nat->Bool)(lt:Nat->Nat->Bool)(g:∀i j,a i j=lt i j)(m:∀i j k,lt j i=false->lt k j=false->lt k i=false)(f:∀i,lt i i=false)(b:∀i j,lt i j=true->lt j i=false):∀n,argBest a n<=n/\∀j,j<=n->lt j (argBest a n)=false
 | 0=>#[aO _,λj e=>by have:j=0:=Nat.eq_zero_of_le_zero e;subst this;exact f _]
 |n+1=>by
  obtain⟨o,h⟩:=e8 a lt g m f b n;show(if a (n+1) (argBest a n)then n+1 else argBest a n)<=n+1/\∀j,j<=n+1->lt j (if a (n+1) (argBest a n)then n+1 else argBest a n)=false;rw[g];cases l:lt (n+1) (argBest a n)with
  |true => refine#[aO _,λj e=>?_];by_cases c:j=n+1;rw[c];exact f _;exact m _ _ _ (b _ _ l) (h j `b)
  |false => refine#[gM o,λj e=>?_];by_cases c:j=n+1;rw[c];exact l;exact h j `b
section
variable{X:Cx}
def kq_:∀{a b c},HT.lexLt b a=false->HT.lexLt c b=false->HT.lexLt c a=false
 | [],[],[],_,_=>rfl
 | [],[],_::_,_,h=>h
 | [],_::_,[],_,_=>rfl
 | [],_::_,_::_,h,_=>HT.lexLt_cons_nil _ _
 |_::_,[],_,h,_=>by rw[HT.lexLt_nil_cons]at h;cases h
 |_::_,_::_,[],_,h=>by rw[HT.lexLt_nil_cons]at h;cases h
 |x::xs,y::ys,z::zs,h1,h2=>by rw[HT.lexLt_cons]at h1 h2 ⊢;by_cases e:y=x;rw [if_pos e] at h1;by_cases f:z=y;rw [if_pos f] at h2;rw[if_pos<|f.trans e];exact kq_ h1 h2;grind;grind
def pZ:∀a:Q6,HT.lexLt a a=false
 | []=>rfl
 |x::xs=>by rw[HT.lexLt_cons,if_pos rfl];exact pZ xs
def qA:∀{a b},HT.lexLt a b=true->HT.lexLt b a=false
 | [],[],h=>by cases h
 | [],_::_,_=>HT.lexLt_cons_nil _ _
 |_::_,[],h=>by rw[HT.lexLt_cons_nil]at h;cases h
 |x::xs,y::ys,h=>by rw[HT.lexLt_cons]at h ⊢;by_cases c:x=y;rw [if_pos c] at h;rw[if_pos c.symm];exact qA h;rw [if_neg c] at h;have h:=of_decide_eq_true h;rw[if_neg<|λe=>c e.symm];exact dzF<|Int.lt_asymm h
def vF:∀{ts:List<|Addr×Q6} {us},Vals (ts.map λt=>V.ref t.1) us->us=ts.map λt=>Value.ref t.1
 | [],_,r=>by cases r;rfl
 |t::ts,_,r=>by
  cases r with
  |cons h r => rw[bG,<-vF r];cases h;rfl
def aFg(hc:X.calm=true)(hu:X.A.units+1<cLine):CallR X (.builtin "min") (λxs H Q=>∃(p:Addr) (ts:List<|Addr×Q6),xs=[.ref p]/\SqL X.K H p (ts.map λt=>V.ref t.1)/\(∀t∈ts,SqT X.K H t.1<|t.2.map V.int)/\ts≠[] /\
  ∀t,t∈ts->(∀u∈ts,HT.lexLt u.2 t.2=false)->Q (.ref t.1) H):=by
 intro T s σ H xs us Q I r h;obtain⟨p,ts,rfl,hq,R,Y,q⟩:=h;obtain⟨u,rfl,rx⟩:=jK r;cases rx;obtain⟨f,r',pl,hz⟩:=I.list hq;have M:=vF r';have g:=pl.isList;have U:(toString "min" ++ toString ".loop" : String) = "min.loop":=by decide
 have hh:X.A.handled=none:=I.ok.hd hc;have L:p<s.heap.objs.size:=by obtain⟨_,e,_⟩:=g;exact aR e
 refine call_function_tree PySem.F.kind_min PySem.F.plain_min PySem.F.entry_min (PySem.F.args_min1 _) ?_;show wpAny _ X.A.in1 (Builtin.Builtins.bindParams "min" ["key","default"] 0 #[[],[]] >>= _) _ _ s;refine wpAny_bind<|wpAny_of_eq (show Builtin.Builtins.bindParams "min" ["key","default"] 0 #[[],[]]=pure [none,none]from rfl) ?_;refine wpAny_bind<|wpAny_pure ?_;refine wpAny_bind<|wpAny_pyIter_list g ?_;refine wpAny_bind<|wpAny_newObj_type ?_;have W:=Walks.list (prog:=X.prog) (w:=X.w) (A:=X.A.in1) hh s.heap.objs.size p (bF L) f.toArray;rw[U];have m:∀b o,s.heap.get? b=some o->b≠s.heap.objs.size:=λb o e=>bF<|aR e;refine wpAny_pure #[plainId_quiet PySem.F.plain_min_loop _,?_];have Z:(s.heap.push { cls:=.type "list_iterator",data:=.fields [.ref p,.int 0 0].toArray }).objs.size∉[s.heap.objs.size,p]:=λB=>by
  rw[cK]at B;rcases aF.mp B with e | B
  exact absurd e<|Nat.succ_ne_self _;have:=aE.mp B;exact absurd L (by rw[<-this];exact Nat.not_lt_of_le<|Nat.le_succ _)
 have st:(s.heap.push { cls:=.type "list_iterator",data:=.fields [.ref p,.int 0 0].toArray }).IsListIter s.heap.objs.size p 0/\(s.heap.push { cls:=.type "list_iterator",data:=.fields [.ref p,.int 0 0].toArray }).IsList p f.toArray:=#[#[_,aW _ rfl,rfl,rfl],g.push _];have G:=W.frame 0 _ ((s.heap.push { cls:=.type "list_iterator",data:=.fields [.ref p,.int 0 0].toArray }).push { cls:=.type "list",dict:=none,data:=.seq ([]:Q7).toArray }) st λb _ o e=>aD _ e;have D:f.toArray.size=ts.length:=by rw[aS,M,aB]
 have hn:0<ts.length:=List.length_pos_iff.mpr Y;have get:∀{i:Nat} {v:Value},f.toArray[i]? = some v->∃t,ts[i]? = some t/\v=.ref t.1:=λ{i v} e=>by
  rw[List.getElem?_toArray,M,bI]at e;cases z:ts[i]? with
  |none=>rw[z]at e;cases e
  |some t=>rw[z]at e;cases e;exact#[t,rfl,rfl]
 refine zE false [] W (λi j=>HT.lexLt (ts.getD i (0,[])).2 (ts.getD j (0,[])).2) _ (λh=>∀b o,s.heap.get? b=some o->h.get? b=some o) (λh h' c k b o e=>k b o (by simpa using m b o e) (by rw[cK];exact bF<|fV<|aR e)<|c b o e) ?_ Z (by rw[D];exact hn) (λb o e=>aD _<|aD _ e) G (aW _ rfl) λv h' tk hP hk=>?_;intro i j vi vj F Q2 E2 hs hi y S;obtain⟨t,l,rfl⟩:=get hi;obtain⟨J,O,rfl⟩:=get y;have N:Inv X T σ H { s with heap:=F.heap,toks:=F.toks }:=I.kept hs;obtain⟨i1,r1,p1,_⟩:=N.tuple<|R t<|aQ l;obtain⟨i2,r2,p2,_⟩:=N.tuple<|R J<|aQ O;have d:IntsAre i1.toArray.toList t.2:=ei_ r1;have n:IntsAre i2.toArray.toList J.2:=ei_ r2;refine HT.lt_tupInts (s:=F) p1 p2 d n (by show X.A.units+1<cLine;exact hu) ?_;have C:ts.getD i (0,[])=t:=by rw[bA,l];rfl
 have x:ts.getD j (0,[])=J:=by rw[bA,O];rfl
 rw[C,x]at S;exact S;obtain ⟨h1,h2⟩:=e8 (fun i j=>HT.lexLt (ts.getD i (0,[])).2 (ts.getD j (0,[])).2) _ (fun _ _=>rfl) (fun i j k a b=>kq_ a b) (fun i=>pZ _) (fun i j a=>qA a)<|f.toArray.size - 1;obtain⟨t,l,rfl⟩:=get hP;have C:ts.getD (argBest (λi j=>HT.lexLt (ts.getD i (0,[])).2 (ts.getD j (0,[])).2)<|f.toArray.size-1) (0,[])=t:=by rw[bA,l];rfl
 refine#[.ref _,H,I.kept λb o e=>hk b o (by simpa using m b o e) ?_<|aD _<|aD _ e,rfl,q t (aQ l) λu E=>?_];rw [cK];exact bF<|fV<|aR e;obtain ⟨j,y⟩:=fX E;have a0:j<ts.length:=(aK.mp y).1;have:=h2 j `b;rw[C]at this;have e3:ts.getD j (0,[])=u:=by rw[bA,y];rfl
 rw[e3]at this;exact this
end
end L2
namespace Lf
open PySem PySem.W PyProof.Rows
def krun{b:Type}(lt:Nat->Nat->Bool):KasT b->b
 | .ret a=>a
 | .ask i j k=>krun lt<|k<|lt i j
def eh_(lt:Nat->Nat->Bool):∀(t:KasT α) (f:α->KasT β),krun lt (t.bind f)=krun lt (f<|krun lt t)
 | .ret a,f=>rfl
 | .ask i j k,f=>eh_ lt (k<|lt i j) f
def kok{a:Type}(n:Nat)(lt:Nat->Nat->Bool):KasT a->Prop
 | .ret _=>True
 | .ask i j k=>i<n/\j<n/\kok n lt (k<|lt i j)
def gc_{α β}{n}{lt}:∀{t} {f:α->KasT β},kok n lt t->kok n lt (f<|krun lt t)->kok n lt (t.bind f)
 | .ret a,f,_,h=>h
 | .ask i j k,f,⟨a,b,c⟩,h=>#[a,b,gc_ c h]
def krun_wp{α}{n}{lt}{cmp}{s}(e:∀i j (R:Bool->Shared->Prop),i<n->j<n->R (lt i j) s->cmp i j R s){G} :
  ∀(t:KasT α),kok n lt t->G (krun lt t) s->t.kasWp cmp G s
 | .ret a,_,hg=>hg
 | .ask i j k,⟨a,b,c⟩,hg=>e i j _ a b<|krun_wp e (k<|lt i j) c hg
section
variable{lt:Nat->Nat->Bool}
structure Ord(lt:Nat->Nat->Bool):Prop where
 tr:∀i j k,lt j i=false->lt k j=false->lt k i=false
 asy:∀i j,lt i j=true->lt j i=false
def Ord.rf(o:Ord lt)(i:Nat):lt i i=false:=by
 cases h:lt i i with
 |false=>rfl
 |true=>have:=o.asy i i h;rw[h]at this;exact this
abbrev gk(p:Array Nat)(k:Nat):Nat:=p.getD k 0
def zQ(h:p[k]? = q[j]?):gk p k=gk q j:=by unfold gk;rw[Array.getD_eq_getD_getElem?,Array.getD_eq_getD_getElem?,h]
def Srt(lt:Nat->Nat->Bool)(p:Array Nat)(n:Nat):Prop:=∀i j,i<=j->j<n->lt (gk p j) (gk p i)=false
def Dec(lt:Nat->Nat->Bool)(p:Array Nat)(n:Nat):Prop:=∀i j,i<=j->j<n->lt (gk p i) (gk p j)=false
def Srt.step(o:Ord lt)(e:1<=n)(h:Srt lt p n)(b:lt (gk p n) (gk p<|n-1)=false):Srt lt p<|n+1:=by intro i j a f;by_cases c:j=n;subst c;by_cases d:i=j;subst d;exact o.rf _;exact o.tr _ _ _ (h i (j-1) `b `b) b;exact h i j a `b
def Dec.step(o:Ord lt)(e:1<=n)(h:Dec lt p n)(b:lt (gk p<|n-1) (gk p n)=false):Dec lt p<|n+1:=by intro i j a f;by_cases c:j=n;subst c;by_cases d:i=j;subst d;exact o.rf _;exact o.tr _ _ _ b<|h i (j-1) `b `b;exact h i j a `b
def gr_(a:j<=p.size):gk (kas_rev p i j) k=if i<=k/\k<j then gk p (i+j-1-k)else gk p k:=by have:=getElem?_mirror_all (xs:=p) (i:=i) (j:=j) a k;by_cases c:i<=k/\k<j;rw [if_pos c] at this ⊢;exact zQ this;rw [if_neg c] at this ⊢;exact zQ this
def jf_(p:Array Nat)(i j:Nat):(kas_rev p i j).size=p.size:=mirror_size _ _ _ _
def dn_(p:Array Nat)(i j:Nat):(kas_rev p i j).Perm p:=mirror_perm _ _ _ _
def Dec.turn(h:Dec lt p n)(a:n<=p.size):Srt lt (kas_rev p 0 n) n:=by intro i j b c;rw[gr_ a,gr_ a,if_pos `s,if_pos `s];exact h _ _ `b `b
def Dec.alike(o:Ord lt)(h:Dec lt p n)(b:n<=p.size)(f:∀i j,a<=i->i<n->a<=j->j<n->lt (gk p i) (gk p j)=false):Dec lt (kas_rev p a n) n:=by intro i j e g;rw[gr_ b,gr_ b];by_cases c:a<=i/\i<n;rw [if_pos c,if_pos `s];exact f _ _ `b `b `b `b;rw [if_neg c];by_cases d:a<=j/\j<n;rw [if_pos d];exact h _ _ `b `b;rw [if_neg d];exact h _ _ e g
def qW(o:Ord lt):∀(f n:Nat),1<=n->Srt lt p n->n<=krun lt (kas_asc p f n)/\krun lt (kas_asc p f n)<=n+f/\Srt lt p (krun lt<|kas_asc p f n)/\(krun lt (kas_asc p f n)=n+f\/lt (gk p<|krun lt<|kas_asc p f n) (gk p<|krun lt (kas_asc p f n)-1)=true)
 | 0,n,h1,h=>#[aO _,aO _,h,.inl rfl]
 |f+1,n,h1,h=>by
  have e:krun lt (kas_asc p (f+1) n)=krun lt (if lt (p.getD n 0) (p.getD (n-1) 0)=true then KasT.ret n else kas_asc p f (n+1)):=rfl;rw[e];cases g:lt (p.getD n 0) (p.getD (n-1) 0)with
  |true => exact#[aO _,eF _ _,h,.inr g]
  |false =>
   obtain⟨a,b,c,d⟩:=qW o f (n+1) (gM h1)<|h.step o h1 g;refine#[eW a,by lia,c,?_];rcases d with d | d
   exact .inl `b;exact .inr d
structure Fal(lt:Nat->Nat->Bool)(N:Nat)(p₀ p:Array Nat)(n q:Nat):Prop where
 sz:p.size=p₀.size
 pm:p.Perm p₀
 dc:Dec lt p n
 q1:q+1<=n
 nN:n<=N
 eq:∀i j,n-(q+1)<=i->i<n->n-(q+1)<=j->j<n->lt (gk p i) (gk p j)=false
def hy_(o:Ord lt)(c:N<=p₀.size):∀(f:Nat) (p:Array Nat) (n q:Nat),n+f<=N->1<=n->Fal lt N p₀ p n q->Fal lt N p₀ (krun lt<|kas_desc f p n q).1 (krun lt<|kas_desc f p n q).2.1 (krun lt<|kas_desc f p n q).2.2/\n<=(krun lt<|kas_desc f p n q).2.1
 | 0,p,n,q,_,_,h=>#[h,aO _]
 |f+1,p,n,q,hf,h1,h=>by
  have e:krun lt (kas_desc (f+1) p n q)=krun lt (if lt (p.getD n 0) (p.getD (n-1) 0)=true then(if q>0 then kas_desc f (kas_rev p (n-(q+1)) n) (n+1) 0 else kas_desc f p (n+1) 0)
   else KasT.ask (p.getD (n-1) 0) (p.getD n 0) λd=>if d=true then .ret (p,n,q)else kas_desc f p (n+1) (q+1)):=rfl
  rw[e];have H:=h.q1;cases u:lt (p.getD n 0) (p.getD (n-1) 0)with
  |true =>
   have m:=o.asy _ _ u;by_cases s:q>0;rw [if_pos s];have g:n<=p.size:=by have:=h.nN;rw[h.sz];exact nzL this c
   have C:=h.dc.alike o g h.eq;have F:gk (kas_rev p (n-(q+1)) n) n=gk p n:=by rw[gr_ g,if_neg `b]
   have G:gk (kas_rev p (n-(q+1)) n) (n-1)=gk p (n-(q+1)):=by rw[gr_ g,if_pos `s];congr 1;lia
   have D:=C.step o h1 (by rw[F,G];exact o.tr _ _ _ m<|h.eq _ _ `b `b `b `b);obtain⟨a,b⟩:=hy_ o c f (kas_rev p (n-(q+1)) n) (n+1) 0 `b `b #[by rw[jf_];exact h.sz,(dn_ _ _ _).trans h.pm,D,by lia,by lia,λi j y z A B=>by
    have:i=j:=by lia
    subst this;exact o.rf _]
   exact#[a,eW b];rw [if_neg s];obtain⟨a,b⟩:=hy_ o c f p (n+1) 0 `b `b #[h.sz,h.pm,h.dc.step o h1 m,by lia,by lia,λi j y z A B=>by
    have:i=j:=by lia
    subst this;exact o.rf _]
   exact#[a,eW b]
  |false =>
   rw[if_neg `a];have E:krun lt (KasT.ask (p.getD (n-1) 0) (p.getD n 0) λd=>if d=true then .ret (p,n,q)else kas_desc f p (n+1) (q+1))=krun lt (if lt (p.getD (n-1) 0) (p.getD n 0)=true then KasT.ret (p,n,q)else kas_desc f p (n+1) (q+1)):=rfl;rw[E];cases v:lt (p.getD (n-1) 0) (p.getD n 0)with
   |true => exact#[h,aO _]
   |false => obtain⟨a,b⟩:=hy_ o c f p (n+1) (q+1) `b `b #[h.sz,h.pm,h.dc.step o h1 v,fW H 1,by lia,λi j y z A B=>by by_cases r:i=n;by_cases l:j=n;rw[r,l];exact o.rf _;rw [r];exact o.tr _ _ _ (h.eq (n-1) j `b `b `b `b) u;by_cases l:j=n;rw [l];exact o.tr _ _ _ v<|h.eq i (n-1) `b `b `b `b;exact h.eq i j `b `b `b `b];exact#[a,eW b]
structure Cnt(lt:Nat->Nat->Bool)(N:Nat)(p₀:Array Nat)(r:Nat×Array Nat):Prop where
 sz:r.2.size=p₀.size
 pm:r.2.Perm p₀
 n1:1<=r.1
 nN:r.1<=N
 st:Srt lt r.2 r.1
def sC(o:Ord lt)(g:N<=p₀.size)(e:1<=n)(h:n<=N)(sz:p.size=p₀.size)(i:p.Perm p₀)(f:Dec lt p n):Cnt lt N p₀<|krun lt<|kas_tail3 n N p:=by unfold kas_tail3;rw[eh_];have s:=f.turn (by rw[sz];exact nzL h g);obtain⟨a,b,c,_⟩:=qW o (N-n) n e s;exact#[by show(kas_rev p 0 n).size=_;rw[jf_];exact sz,(dn_ _ _ _).trans i,by show 1<=krun lt _;exact nzL e a,by show krun lt _<=N;lia,c]
def ia_(o:Ord lt)(f:N<=p₀.size)(q:1<=n)(l:n+1<=N)(sz:p.size=p₀.size)(m:p.Perm p₀)(h:Dec lt p<|n+1):Cnt lt N p₀<|krun lt<|kas_descPart n N p:=by
 unfold kas_descPart;rw[eh_];obtain⟨a,b⟩:=hy_ o f (N-(n+1)) p (n+1) 0 `b `b #[sz,m,h,by lia,l,λi j s u v y=>by
  have:i=j:=by lia
  subst this;exact o.rf _]
 generalize krun lt (kas_desc (N-(n+1)) p (n+1) 0)=r at a b;have g:=a.nN;have e:=a.sz;by_cases c:r.2.2>0;rw [if_pos c];exact sC o f `b g (by rw[jf_];exact e) ((dn_ _ _ _).trans a.pm) (a.dc.alike o `b a.eq);rw [if_neg c];exact sC o f `b g e a.pm a.dc
def qP(o:Ord lt)(q:N<=p.size)(z:1<=N):Cnt lt N p<|krun lt<|kas_count N p:=by
 unfold kas_count;rw[eh_];obtain⟨a,b,c,d⟩:=qW o (p:=p) (N-1) 1 (aO _) (λi j g f=>by
  have:i=j:=by lia
  subst this;exact o.rf _)
 generalize krun lt (kas_asc p (N-1) 1)=n at a b c d;by_cases l:(n == N)=true;rw [if_pos l];exact#[rfl,Array.Perm.refl _,a,by show n<=N;lia,c];rw [if_neg l];have r:lt (gk p n) (gk p<|n-1)=true:=by
  rcases d with d | d
  lia;exact d
 have h:=o.asy _ _ r;by_cases s:n>1;rw [if_pos s];show Cnt lt N p (krun lt (if lt (p.getD 0 0) (p.getD (n-1) 0)=true then KasT.ret (n,p)else kas_descPart n N (kas_rev p 0 n)));cases m:lt (p.getD 0 0) (p.getD (n-1) 0)with
 |true => exact#[rfl,Array.Perm.refl _,a,by show n<=N;lia,c]
 |false =>
  have all:=λi j y f=>o.tr _ _ _ (c j (n-1) ((Nat.le_sub_one_iff_lt a).mpr f) `b)<|o.tr _ _ _ m<|c 0 i `b y;have e:n<=p.size:=by lia
  refine ia_ o q a `b (jf_ _ _ _) (dn_ _ _ _) ?_;refine Dec.step o (Nat.one_le_of_lt a) (λi j g f=>?_) ?_;rw [gr_ e,gr_ e,if_pos `s,if_pos `s];exact all _ _ `b `b;rw [gr_ e,gr_ e,if_pos `s,if_neg `b];have u:0+n-1-(n-1)=0:=by lia
  rw[u];exact o.tr _ _ _ h m
 have v:n=1:=by lia
 subst v;refine ia_ o q (aO _) `b rfl (Array.Perm.refl _) ?_;exact Dec.step o (aO _) (λi j g f=>by
  have:i=j:=by lia
  subst this;exact o.rf _) h
def im_(o:Ord lt)(g:Srt lt p k):∀(f l r:Nat),r-l<=f->l<=r->r<=k->(∀i,i<l->lt (gk p k) (gk p i)=false)->(∀i,r<=i->i<k->lt (gk p i) (gk p k)=false) ->
  krun lt (kas_place p k f l r)<=k/\(∀i,i<krun lt (kas_place p k f l r)->lt (gk p k) (gk p i)=false)/\∀i,krun lt (kas_place p k f l r)<=i->i<k->lt (gk p i) (gk p k)=false
 | 0,l,r,hf,Gh,hr,h1,h2=>#[by show l<=k;exact nzL Gh hr,h1,λi a b=>h2 i (by have:l<=i:=a;lia) b]
 |f+1,l,r,hf,Gh,hr,h1,h2=>by
  have e:krun lt (kas_place p k (f+1) l r)=krun lt (if l>=r then KasT.ret l else .ask (p.getD k 0) (p.getD ((l+r)/2) 0) λc=>if c=true then kas_place p k f l ((l+r)/2)else kas_place p k f ((l+r)/2+1) r):=rfl;rw[e];by_cases c:l>=r;rw [if_pos c];exact#[by show l<=k;exact nzL Gh hr,h1,λi a b=>h2 i (by have:l<=i:=a;exact nzL c a) b];rw [if_neg c];have j:krun lt (.ask (p.getD k 0) (p.getD ((l+r)/2) 0) λc=>if c=true then kas_place p k f l ((l+r)/2)else kas_place p k f ((l+r)/2+1) r)=krun lt (if lt (p.getD k 0) (p.getD ((l+r)/2) 0)=true then kas_place p k f l ((l+r)/2)else kas_place p k f ((l+r)/2+1) r):=rfl;rw[j];cases h:lt (p.getD k 0) (p.getD ((l+r)/2) 0)with
  |true => refine im_ o g f l ((l+r)/2) `b `b `b h1 λi a b=>?_;exact o.tr _ _ _ (o.asy _ _ h) (g _ _ a b)
  |false => refine im_ o g f ((l+r)/2+1) r `b `b hr (λi a=>?_) h2;exact o.tr _ _ _ (g i ((l+r)/2) (cJ a) `b) h
def tI(a:k<p.size)(b:l<=k):gk (bubble p k<|k-l) j=if j=l then gk p k else if l<j/\j<=k then gk p (j-1)else gk p j:=by have:=getElem?_bubble (xs:=p) (src:=k) a (k-l) (Nat.sub_le k l) j;have e:k-(k-l)=l:=Nat.sub_sub_self b;rw[e]at this;by_cases c:j=l;rw [if_pos c] at this ⊢;exact zQ this;rw [if_neg c] at this ⊢;by_cases d:l<j/\j<=k;rw [if_pos d] at this ⊢;exact zQ this;rw [if_neg d] at this ⊢;exact zQ this
def d9(o:Ord lt):∀(f:Nat) (p:Array Nat) (k:Nat),1<=k->k+f<=p₀.size->p.size=p₀.size->p.Perm p₀->Srt lt p k->(krun lt<|kas_bin f p k).Perm p₀/\(krun lt<|kas_bin f p k).size=p₀.size/\Srt lt (krun lt<|kas_bin f p k) (k+f)
 | 0,p,k,_,_,sz,pm,hs=>#[pm,sz,hs]
 |f+1,p,k,h1,h,sz,pm,hs=>by
  show(krun lt<|(kas_place p k k 0 k).bind λl=>kas_bin f (bubble p k<|k-l)<|k+1).Perm p₀/\(krun lt<|(kas_place p k k 0 k).bind λl=>kas_bin f (bubble p k<|k-l)<|k+1).size=p₀.size/\Srt lt (krun lt<|(kas_place p k k 0 k).bind λl=>kas_bin f (bubble p k<|k-l)<|k+1) (k+(f+1));rw[eh_];obtain⟨a,b,c⟩:=im_ o hs k 0 k (Nat.sub_le k 0) (bL k) (aO _) (λi g=>absurd g<|Nat.not_lt_zero _) (λi g h=>by exact Bool.eq_true_imp_eq_false.mp λa=>hs k i g h);generalize krun lt (kas_place p k k 0 k)=l at a b c;have q:k<p.size:=by lia
  have v:k+(f+1)=(k+1)+f:=Eq.symm<|Nat.succ_add_eq_add_succ k f;rw[v];refine d9 o f (bubble p k<|k-l) (k+1) (gM h1) (le_of_eq_of_le (id<|Eq.symm v) h) (by rw[bubble_size];exact sz) ((bubble_perm _ _ _).trans pm) ?_;intro i j m y;rw[tI q a,tI q a];by_cases r:i=l;rw [if_pos r];by_cases e:j=l;rw[if_pos e];exact o.rf _;rw [if_neg e,if_pos #[by lia,cJ y]];exact c (j-1) `b `b;rw [if_neg r];by_cases e:j=l;rw [if_pos e,if_neg `b];exact b i `b;rw [if_neg e];by_cases s:l<i/\i<=k;rw [if_pos s,if_pos #[by lia,cJ y]];exact hs _ _ (Nat.sub_le_sub_right m 1) `b;rw [if_neg s];by_cases u:l<j/\j<=k;rw [if_pos u];exact hs _ _ `b `b;rw [if_neg u];exact hs _ _ m `b
def sort_spec(o:Ord lt)(j:2<=n):(krun lt<|kas_sort n).Perm (List.toArray<|List.range n)/\(krun lt<|kas_sort n).size=n/\Srt lt (krun lt<|kas_sort n) n:=by
 unfold kas_sort;rw[eh_];have a:(List.toArray<|List.range n).size=n:=by grind
 have h:=qP o (N:=n) (jA<|id<|Eq.symm a)<|Nat.one_le_of_lt j;generalize krun lt (kas_count n<|List.toArray<|List.range n)=r at h;have b:=h.n1;have g:=h.nN;have f:=h.sz;by_cases c:r.1<n;rw [if_pos c];have e:max r.1 1=r.1:=Nat.max_eq_left b;rw[e];obtain⟨x,y,z⟩:=d9 o (n-r.1) r.2 r.1 b `b f h.pm h.st;refine#[x,y.trans a,?_];have i:r.1+(n-r.1)=n:=Nat.add_sub_of_le g;rw[i]at z;exact z;rw [if_neg c];refine#[h.pm,f.trans a,?_];have e:r.1=n:=by lia
 have:=h.st;rw[e]at this;exact this
def Blw(n:Nat)(p:Array Nat):Prop:=0<n/\∀x∈p.toList,x<n
def Blw.at(h:Blw n p)(k:Nat):p.getD k 0<n:=by
 rw[Array.getD_eq_getD_getElem?];cases e:p[k]? with
 |none=>exact h.1
 |some x => refine h.2 x ?_;rw[<-Array.getElem?_toList]at e;exact aQ e
def Blw.perm(h:Blw n p)(a:q.Perm p):Blw n q:=#[h.1,λx b=>h.2 x<|(Array.perm_iff_toList_perm.mp a).mem_iff.mp b]
def wD(h:Blw n p):∀(f m:Nat),kok n lt (kas_asc p f m)
 | 0,_=>trivial
 |f+1,m=>by refine#[h.at _,h.at _,?_];show kok n lt (if lt (p.getD m 0) (p.getD (m-1) 0)=true then KasT.ret m else kas_asc p f (m+1));split;trivial;exact wD h f<|m+1
def jk_:∀(f:Nat) (p:Array Nat) (m q:Nat),Blw n p->kok n lt (kas_desc f p m q)
 | 0,_,_,_,_=>trivial
 |f+1,p,m,q,h=>by refine#[h.at _,h.at _,?_];show kok n lt (if lt (p.getD m 0) (p.getD (m-1) 0)=true then _ else _);split;split;exact jk_ f _ _ _<|h.perm<|dn_ _ _ _;exact jk_ f _ _ _ h;refine #[h.at _,h.at _,?_];show kok n lt (if lt (p.getD (m-1) 0) (p.getD m 0)=true then _ else _);split;trivial;exact jk_ f _ _ _ h
def hz_:∀(f:Nat) (p:Array Nat) (m q:Nat),Blw n p->Blw n (krun lt<|kas_desc f p m q).1
 | 0,_,_,_,h=>h
 |f+1,p,m,q,h=>by
  show Blw n (krun lt (if lt (p.getD m 0) (p.getD (m-1) 0)=true then(if q>0 then kas_desc f (kas_rev p (m-(q+1)) m) (m+1) 0 else kas_desc f p (m+1) 0)
   else KasT.ask (p.getD (m-1) 0) (p.getD m 0) λd=>if d=true then .ret (p,m,q)else kas_desc f p (m+1) (q+1))).1
  split;split;exact hz_ f _ _ _<|h.perm<|dn_ _ _ _;exact hz_ f _ _ _ h;show Blw n (krun lt (if lt (p.getD (m - 1) 0) (p.getD m 0)=true then KasT.ret (p,m,q) else kas_desc f p (m + 1) (q + 1))).1;split;exact h;exact hz_ f _ _ _ h
def zK(h:Blw n p):kok n lt<|kas_tail3 m N p:=gc_ (wD (h.perm<|dn_ _ _ _) _ _) trivial
def jb_(h:Blw n p):kok n lt<|kas_descPart m N p:=by refine gc_ (jk_ _ _ _ _ h) ?_;have:=hz_ (lt:=lt) (N-(m+1)) p (m+1) 0 h;split;exact zK<|this.perm<|dn_ _ _ _;exact zK this
def aEn(h:Blw n p):kok n lt<|kas_count N p:=by refine gc_ (wD h _ _) ?_;split;trivial;split;refine #[h.at _,h.at _,?_];dsimp only;split;trivial;exact jb_<|h.perm<|dn_ _ _ _;exact jb_ h
def kv_(h:Blw n p):∀(f l r:Nat),kok n lt (kas_place p k f l r)
 | 0,_,_=>trivial
 |f+1,l,r=>by unfold kas_place;split;trivial;refine #[h.at _,h.at _,?_];dsimp only;split;exact kv_ h f _ _;exact kv_ h f _ _
def aBm:∀(f:Nat) (p:Array Nat) (k:Nat),Blw n p->kok n lt (kas_bin f p k)
 | 0,_,_,_=>trivial
 |f+1,p,k,h=>gc_ (kv_ h _ _ _)<|aBm f _ _<|h.perm<|bubble_perm _ _ _
def kok_sort(o:Ord lt)(b:2<=n):kok n lt<|kas_sort n:=by
 have c:Blw n<|List.toArray<|List.range n:=#[Nat.zero_lt_of_lt b,λx e=>by simpa using e];refine gc_ (aEn c) ?_;have a:(List.toArray<|List.range n).size=n:=by grind
 have h:=qP o (N:=n) (jA<|id<|Eq.symm a)<|Nat.one_le_of_lt b;split;exact aBm _ _ _<|c.perm h.pm;trivial
end
end Lf
namespace L2
open PySem PySem.Spec PyProof.Rows PySem.W
def aBj:∀{c b} {a},a=decide (c.length<b.length)->(c=[]\/b=[])->HT.lexLt c b=a
 | [],[],_,h,_=>by rw[h];rfl
 | [],_::_,_,h,_=>by rw[h,HT.lexLt_nil_cons];exact(dzT `h).symm
 |_::_,[],_,h,_=>by rw[h,HT.lexLt_cons_nil];exact(dzF `h).symm
 |_::_,_::_,_,_,h=>by rcases h with h | h<;>cases h
section
variable{prog:Program}{w:World}{A:Around}{E:iE}{s:Shared}
def ky_{fin}{Q}:∀{vs ws} {b a} (i:Nat),IntsAre vs b->IntsAre ws a->fin=decide (b.length<a.length)->Q (HT.lexLt b a) s->KatLex prog w A true fin Q (vs.zip ws) i s
 |_,_,_,_,i,.nil,_,hf,h=>by rw[aBj hf<|.inl rfl]at h;exact kat_nil h
 |_,_,_,_,i,.cons _ _ _,.nil,hf,h=>by rw[aBj hf<|.inr rfl]at h;exact kat_nil h
 |_,_,_,_,i,.cons x t hx,.cons y u hy,hf,h=>by
  refine kat_cons<|wpAny_eqBool_int ?_;rw[HT.lexLt_cons]at h;by_cases c:x=y;rw [if_pos c] at h;have e:(x == y)=true:=by grind
  rw[e];refine kat_yes<|ky_ (i+1) hx hy ?_ h;rw[hf];simp;rw [if_neg c] at h;have e:(x == y)=false:=by grind
  rw[e];refine kat_no ?_;cases i with
  |zero=>exact oneLt_int h
  |succ k=>exact kat_one _ _<|lt_int h
def TupI(h:Heap)(a:Addr)(c:Q6):Prop:=∃b:Q7,IsTup h a b.toArray/\IntsAre b c
def TupI.keep(x:TupI h a ns)(k:∀o,h.get? a=some o->h'.get? a=some o):TupI h' a ns:=by obtain⟨b,⟨o,g,c,n,e⟩,f⟩:=x;exact#[b,#[o,k o g,c,n,e],f]
def aEp{x y}{ns ms}{Q}(p:TupI s.heap x ns)(q:TupI s.heap y ms)(h:Q (HT.lexLt ns ms) s):wpAny `f A (keyLt' (tuples' true) (.ref x)<|.ref y) Q E s:=by
 obtain⟨b,⟨o,m,u,n,l⟩,e⟩:=p;obtain⟨a,⟨z,f,r,v,g⟩,c⟩:=q;refine kat_lt m l f g<|ky_ 0 e c ?_ h;rw[aS,aS];have i:b.length=ns.length:=by rw[<-e.nums,aB]
 have j:a.length=ms.length:=by rw[<-c.nums,aB]
 rw[i,j]
abbrev TI2:=Addr×Q6
def t0:TI2:=(0,[])
def ltT(ts:List TI2)(i j:Nat):Bool:=HT.lexLt (ts.getD i t0).2 (ts.getD j t0).2
def aBi(ts:List TI2):Lf.Ord<|ltT ts:=#[λ_ _ _ a b=>kq_ a b,λ_ _ a=>qA a]
def qE:∀{ts:List TI2},(∀t∈ts,TupI h t.1 t.2/\t.2≠[])->∃fs:Q7,KatTups h (ts.map λt=>Value.ref t.1) fs/\fs.length=ts.length/\∀v∈fs,∃x t,v=Value.int x t
 | [],_=>#[[],KatTups.nil,rfl,λv hv=>by cases hv]
 |(a0,ns0)::ts,hT=>by
  obtain⟨fs,a,b,c⟩:=qE (ts:=ts) λu m=>hT u<|aC _ m;obtain⟨⟨p,⟨o,i,j,n,l⟩,g⟩,f⟩:=hT (a0,ns0) aA;dsimp only at g i f;cases g with
  |nil=>exact absurd rfl f
  | @cons x tk vs ns hr =>
   refine#[Value.int x tk::fs,KatTups.cons i j l (read_int_eq rfl rfl) a,by simp[b],λv hv=>?_];rcases aF.mp hv with e | e
   exact#[x,tk,e];exact c v e
def aHo{a:Addr}{ts:List TI2}{n:Nat}{P:Fin->Shared->Prop}(u:s.heap.get? a=some (seqObj "list" (ts.map λt=>Value.ref t.1).toArray n))(X:∀t∈ts,TupI s.heap t.1 t.2/\t.2≠[])(Fa:∀t∈ts,t.1≠a)(h2:2<=ts.length)(Li:ts.length<64)
  (q:∀us:List TI2,us.Perm ts->(us.Pairwise λx y=>HT.lexLt y.2 x.2=false)->P (.done<|.ret .none) { s with heap:=sortedHeap s.heap a (ts.map λt=>Value.ref t.1) (us.map λt=>Value.ref t.1).toArray }):wpAny `f A (Builtin.«list.sort» #[[.ref a],[]]) P E s:=by
 generalize m:(ts.map λt=>Value.ref t.1)=vs at *;have Af:vs.length=ts.length:=by rw[<-m,aB]
 rw[list_sort_plain];have Y:a<s.heap.objs.size:=aR u;have I:vs.toArray.size=vs.length:=by simp
 refine wpAny_bind<|listItems_at u rfl<|wpAny_bind<|listUpdate_at u rfl ?_ (by rw[I,sizeLine_eq];lia)<|bL _;obtain⟨e1,S⟩:∃e,(s.heap.update a<|Obj.mapSeq λ_=>[].toArray).get? a=some (seqObj "list" [].toArray e):=#[_,get?_update_seq u<|λ_=>[].toArray];refine wpAny_bind<|seqEpoch_at S rfl<|wpAny_bind<|wpAny_newTuple<|wpAny_bind<|wpAny_newList<|wpAny_holding ?_;have O:(((s.heap.update a<|Obj.mapSeq λ_=>[].toArray).push<|seqObj "tuple" vs.toArray 0).push<|seqObj "list" [].toArray 0).get? a=some (seqObj "list" [].toArray e1):=(Heap.get?_push_ne _ _ _ (by rw[size_push',iD];exact bF<|fV Y)).trans<|(Heap.get?_push_ne _ _ _ (by rw[iD];exact bF Y)).trans S;have keep:∀b o,b≠a->s.heap.get? b=some o->(((s.heap.update a<|Obj.mapSeq λ_=>[].toArray).push<|seqObj "tuple" vs.toArray 0).push<|seqObj "list" [].toArray 0).get? b=some o:=λb o hb e=>aD _<|aD _<|(bD _ _<|Ne.symm hb).trans e;show wpAny `f A _ P E { s with heap:=((s.heap.update a<|Obj.mapSeq λ_=>[].toArray).push<|seqObj "tuple" vs.toArray 0).push (seqObj "list" [].toArray 0) };have B:∀t∈ts,TupI (((s.heap.update a<|Obj.mapSeq λ_=>[].toArray).push<|seqObj "tuple" vs.toArray 0).push<|seqObj "list" [].toArray 0) t.1 t.2/\t.2≠[]:=λt J=>#[(X t J).1.keep λo e=>keep _ o (Fa t J) e,(X t J).2];dsimp only;have L:¬vs.toArray.size<2:=by lia
 rw[if_neg L,if_neg L];obtain⟨fs,d,k2,k3⟩:=qE B;rw[m]at d;refine wpAny_bind<|kat_kind (T:=Value.type "int") d `b (λv hv=>?_) rfl ?_;obtain ⟨x,tk,rfl⟩:=k3 v hv;exact λA Q E s _ h=>wpAny_pure h;have Fk:tuples' (Value.type "int" != Value.type "tuple")=tuples' true:=by
  have:(Value.type "int" != Value.type "tuple")=true:=by decide +kernel
  rw[this]
 rw[Fk];obtain⟨V,p2,p3⟩:=Lf.sort_spec (aBi ts) (n:=vs.length) `b;refine wpAny_bind (wpAny_mono (kat_run (ks:=vs) (vs:=vs) (Q:=λc g=>g={ s with heap:=((s.heap.update a<|Obj.mapSeq λ_=>[].toArray).push<|seqObj "tuple" vs.toArray 0).push (seqObj "list" [].toArray 0) }/\arrOf c=(Lf.krun (ltT ts)<|kas_sort vs.length).map (kas_item<|vs.toArray.zip vs.toArray)/\failedOf c=none)
  (G:=λp g=>p=Lf.krun (ltT ts) (kas_sort vs.length)/\g={ s with heap:=((s.heap.update a<|Obj.mapSeq λ_=>[].toArray).push<|seqObj "tuple" vs.toArray 0).push (seqObj "list" [].toArray 0) }) rfl `b `b
  (λp c g C D a3 U=>#[U.2,by rw[<-U.1];exact D,a3]) (Lf.krun_wp (n:=vs.length) (lt:=ltT ts) (λi j R f r hR=>?_) _ (Lf.kok_sort (aBi ts) `b) #[rfl,rfl])) ?_ λ_ _ e=>e)
 have W:∀ i,i < vs.length→vs.getD i Value.none=.ref (ts.getD i t0).1∧ts.getD i t0∈ts:=fun i f=>by
  have M:i<ts.length:=by lia
  rw[<-m,bA,bI,bA,aJ M];exact#[rfl,List.getElem_mem _]
 obtain⟨x1,x2⟩:=W i f;obtain⟨y1,y2⟩:=W j r;show wpAny `f A (keyLt' _ (vs.getD i Value.none)<|vs.getD j Value.none) R _ _;rw[x1,y1];exact aEp (B _ x2).1 (B _ y2).1 hR;rintro⟨⟨⟩,z⟩ g ⟨rfl,F,hf⟩;dsimp only;have N:=kat_snds (ks:=vs) (vs:=vs) rfl F;have Me:((arrOf z).map (·.2)).size=vs.length:=by rw[N,aS,aB,Array.length_toList,p2]
 refine wpAny_bind<|seqEpoch_at O rfl<|wpAny_bind<|listUpdate_at O rfl ?_ (hsz2:=nzL (jA Me) (by rw[sizeLine_eq];lia));rw[hf,N];simp only[bne_self_eq_false,gO,if_false];have Lz:((Lf.krun (ltT ts)<|kas_sort vs.length).toList.map λi=>vs.getD i Value.none)=(((Lf.krun (ltT ts)<|kas_sort vs.length).toList.map λi=>ts.getD i t0)).map λt=>Value.ref t.1:=by
  rw[bH];refine List.map_congr_left λi f=>?_;have M:i<vs.length:=by have:=(Array.perm_iff_toList_perm.mp V).mem_iff.mp f;simpa using this
  have H:i<ts.length:=by lia
  show vs.getD i Value.none=Value.ref (ts.getD i t0).1;rw[<-m,bA,bI,bA,aJ H];rfl
 rw[Lz];refine wpAny_pure<|q _ ?_ ?_;have C:((Lf.krun (ltT ts)<|kas_sort vs.length).toList.map fun i=>ts.getD i t0).Perm<|(List.range vs.length).map fun i=>ts.getD i t0:=(Array.perm_iff_toList_perm.mp V).map _;have D:((List.range vs.length).map λi=>ts.getD i t0)=ts:=by rw[Af];refine List.ext_getElem? λk=>?_;rw[bI];by_cases Z:k<ts.length;rw [iF Z];show some (ts.getD k t0)=_;rw[bA,aJ Z];rfl;rw [jO (l:=List.range ts.length) (by rw [bY]; lia),jO `b];rfl
 rw[D]at C;exact C;rw [List.pairwise_iff_getElem];intro i j f r Bq;rw[aB,Array.length_toList,p2]at f r;rw[List.getElem_map,List.getElem_map];have:=p3 i j (iZ Bq) r;unfold Lf.gk at this;rw[Array.getD_eq_getD_getElem?,Array.getD_eq_getD_getElem?,Array.getElem?_eq_getElem `b,Array.getElem?_eq_getElem `b]at this;simpa [ltT]using this
def j8{l}{ts}{Q}(p:s.heap.IsList l (ts.map λt=>Value.ref t.1).toArray)(f:∀t∈ts,TupI s.heap t.1 t.2/\t.2≠[])(m:2<=ts.length)(h:ts.length<64)
  (q:∀us:List TI2,us.Perm ts->(us.Pairwise λx y=>HT.lexLt y.2 x.2=false)->Q (.ref `n) { s with heap:=sortedAll s.heap (ts.map λt=>Value.ref t.1) (us.map λt=>Value.ref t.1).toArray }):wpAny `f A (call (.builtin "sorted") [.ref l]) Q E s:=by
 refine Calls.call_function_entry kind_sorted plain_sorted entry_sorted (args_sorted1 _) ?_;refine wpAny_bind<|wpAny_pure<|wpAny_bind<|collect_list p (wpAny_bind<|wpAny_newList ?_) (by rw[aB,sizeLine_eq];lia);have a:((s.heap.push<|seqObj "list" [].toArray 0).update s.heap.objs.size (Obj.mapSeq (· ++ (ts.map λt=>Value.ref t.1).toArray))).objs.size=s.heap.objs.size+1:=(iD ..).trans<|size_push' ..;have g:(((s.heap.push<|seqObj "list" [].toArray 0).update s.heap.objs.size (Obj.mapSeq (· ++ (ts.map λt=>Value.ref t.1).toArray))).push<|seqObj "list" (ts.map λt=>Value.ref t.1).toArray 0).get? `n=some (seqObj "list" (ts.map λt=>Value.ref t.1).toArray 0):=a ▸ aW _ rfl;have keep:∀b o,s.heap.get? b=some o->(((s.heap.push<|seqObj "list" [].toArray 0).update s.heap.objs.size (Obj.mapSeq (· ++ (ts.map λt=>Value.ref t.1).toArray))).push<|seqObj "list" (ts.map λt=>Value.ref t.1).toArray 0).get? b=some o:=λb o e => aD _<|(bD _ _<|fE<|aR e).trans<|aD _ e;rw[a];exact wpAny_bind<|wpAny_holding<|wpAny_call_entry slot_list_sort #[_,g,rfl] entry_list_sort (aHo g (λt c=>#[(f t c).1.keep λo e=>keep _ o e,(f t c).2]) (λt c=>by obtain⟨u,⟨o,r,_⟩,_⟩:=(f t c).1;exact bF<|fV<|aR r) m h λus i j=>#[_,rfl,wpAny_pure #[_,rfl,q us i j]])<|args_list_sort _
end
section
variable{X:Cx}
def jr_:∀(us:List TI2),Vals (us.map λt=>V.ref t.1) (us.map λt=>Value.ref t.1)
 | []=>.nil
 |t::us=>.cons rfl<|jr_ us
def u5(vs:Q7):((vs.toArray.zip vs.toArray).map (·.2))=vs.toArray:=by apply Array.toList_inj.mp;rw[Array.toList_map,Array.toList_zip];exact List.map_snd_zip<|aO _
def aHp{prog}{w}{A}{E}{s}{a}{vs}{n}{P}(c:s.heap.get? a=some (seqObj "list" vs.toArray n))(l:vs.length<2)
  (q:P (.done<|.ret .none) { s with heap:=sortedHeap s.heap a vs vs.toArray }):wpAny `f A (Builtin.«list.sort» #[[.ref a],[]]) P E s:=by
 rw[list_sort_plain];have i:=aR c;have b:vs.toArray.size=vs.length:=aS;refine wpAny_bind<|listItems_at c rfl<|wpAny_bind<|listUpdate_at c rfl ?_ (by rw[b,sizeLine_eq];lia)<|bL _;obtain⟨j,h⟩:∃e,(s.heap.update a<|Obj.mapSeq λ_=>[].toArray).get? a=some (seqObj "list" [].toArray e):=#[_,get?_update_seq c<|λ_=>[].toArray];refine wpAny_bind<|seqEpoch_at h rfl<|wpAny_bind<|wpAny_newTuple<|wpAny_bind<|wpAny_newList<|wpAny_holding ?_;have g:(((s.heap.update a<|Obj.mapSeq λ_=>[].toArray).push<|seqObj "tuple" vs.toArray 0).push<|seqObj "list" [].toArray 0).get? a=some (seqObj "list" [].toArray j):=(Heap.get?_push_ne _ _ _ (by rw[size_push',iD];exact bF<|fV i)).trans<|(Heap.get?_push_ne _ _ _ (by rw[iD];exact bF i)).trans h;have f:vs.toArray.size<2:=Nat.lt_of_succ_le l;rw[if_pos f,if_pos f];refine wpAny_bind<|wpAny_pure ?_;have m:((vs.toArray.zip vs.toArray).map (·.2)).size<=sizeLine:=by rw[u5,b,sizeLine_eq];lia
 refine wpAny_bind<|wpAny_pure<|wpAny_bind<|seqEpoch_at g rfl<|wpAny_bind<|listUpdate_at g rfl ?_ (hsz2:=Nat.le_succ_of_le m);simp only[bne_self_eq_false,gO,if_false];refine wpAny_pure ?_;have e:=u5 vs;rw[e];exact q
def j9{prog}{w}{A}{E}{s}{l}{vs}{Q}(e:s.heap.IsList l vs.toArray)(c:vs.length<2)
  (q:Q (.ref `n) { s with heap:=sortedAll s.heap vs vs.toArray }):wpAny `f A (call (.builtin "sorted") [.ref l]) Q E s:=by
 refine Calls.call_function_entry kind_sorted plain_sorted entry_sorted (args_sorted1 _) ?_;refine wpAny_bind<|wpAny_pure<|wpAny_bind<|collect_list e (wpAny_bind<|wpAny_newList ?_) (by rw[sizeLine_eq];lia);have a:((s.heap.push<|seqObj "list" [].toArray 0).update s.heap.objs.size (Obj.mapSeq (· ++ vs.toArray))).objs.size=s.heap.objs.size+1:=(iD ..).trans<|size_push' ..;have b:(((s.heap.push<|seqObj "list" [].toArray 0).update s.heap.objs.size (Obj.mapSeq (· ++ vs.toArray))).push<|seqObj "list" vs.toArray 0).get? `n=some (seqObj "list" vs.toArray 0):=a ▸ aW _ rfl;rw[a];exact wpAny_bind<|wpAny_holding<|wpAny_call_entry slot_list_sort #[_,b,rfl] entry_list_sort (aHp b c #[_,rfl,wpAny_pure #[_,rfl,q]])<|args_list_sort _
def xD:CallR X (.builtin "sorted") (λxs H Q=>∃(p:Addr) (ts:List TI2),xs=[.ref p]/\SqL X.K H p (ts.map λt=>V.ref t.1)/\(∀t∈ts,SqT X.K H t.1 (t.2.map V.int)/\t.2≠[])/\ts.length<64 /\
  ∀us:List TI2,us.Perm ts->(us.Pairwise λx y=>HT.lexLt y.2 x.2=false)->∀l,H l=none->Q (.ref l) (upd H l<|.lst<|us.map λt=>V.ref t.1)):=by
 intro L s M H xs us Q I r h;obtain⟨p,ts,rfl,A,i,v,q⟩:=h;obtain⟨u,rfl,J⟩:=jK r;cases J;obtain⟨C,F,E,b⟩:=I.list A;have o:=vF F;have a:=E.isList;rw[o]at a;by_cases g:ts.length<2;refine j9 a (by rw [aB]; exact g) ?_;obtain⟨e,c⟩:=sortedAll_at s.heap (ts.map λt=>Value.ref t.1) (ts.map λt=>Value.ref t.1).toArray;refine#[.ref `n,_,I.laid (t':=s.toks) (λ_ _=>sortedAll_old) (Nat.le_succ _)<|show ObjOk X.prog X.w _ _ _ (.lst<|ts.map λt=>V.ref t.1)from#[b,ts.map λt=>Value.ref t.1,e,jr_ ts,c],rfl,q ts (List.Perm.refl _) ?_ _<|I.hok.fresh<|Nat.le_succ _]
 match ts,g with
 | [],_=>exact List.Pairwise.nil
 | [t],_=>exact List.pairwise_singleton _ _
 refine j8 a (λt j=>?_) `b v λus f z=>?_;obtain ⟨B,G,D,_⟩:=I.tuple (i t j).1;exact#[#[B,D,ei_ G],(i t j).2];obtain⟨e,c⟩:=sortedAll_at s.heap (ts.map λt=>Value.ref t.1) (us.map λt=>Value.ref t.1).toArray;have m:us.length=ts.length:=f.length_eq;refine#[.ref `n,_,I.laid (t':=s.toks) (λ_ _=>sortedAll_old) (Nat.le_succ _) (show ObjOk X.prog X.w _ _ _ (.lst<|us.map λt=>V.ref t.1)from#[by rw[aB,m];rw[aB]at b;exact b,us.map λt=>Value.ref t.1,e,jr_ us,c]),rfl,q us f z _<|I.hok.fresh<|Nat.le_succ _]
end
end L2
namespace Lf
open PySem
end Lf
namespace Lf
end Lf
namespace Lf
open PySem
end Lf
namespace Lf
inductive Vd where
 |num (n:Int)
 |row (vs:List Vd)
 |rcd (vs:List Vd)
 |cho (k:Nat) (v:Vd)
def bDm:Nat->Int->Q6
 | 0,_=>[]
 |w+1,n=>n%256::bDm w (n/256)
def lay(l:Q6)(p:Nat)(some:Q6):Q6:=l.mapIdx λi b=>if p<=i/\i<p+some.length then some.getD (i-p) 0 else b
def aKh(f:Vd->Q6)(step:Nat):Nat->List Vd->Q6->Q6
 |_,[],l=>l
 |j,v::r,l=>aKh f step (j+1) r<|lay l (j*step)<|f v
mutual
def Kd.byt:Kd->Vd->Q6
 | .num w _,.num n=>bDm w.toNat n
 | .row k n,.row vs=>aKh k.byt (up k.rm.1 k.rm.2).toNat 0 vs (List.replicate (n*up k.rm.1 k.rm.2).toNat 0)
 | .rcd fs,.rcd vs=>bFv (lI 0<|rmF fs) fs vs (List.replicate (yT<|rmF fs).1.toNat 0)
 | .cho ks,.cho k v=>lay ((List.replicate (tR<|rmK ks).1.toNat (0:Int)).set 0 (k:Int)) (up 1 (tR<|rmK ks).2).toNat (bFu ks k v)
 |_,_=>[]
def bFv:Q6->List (PySem.Str×Kd)->List Vd->Q6->Q6
 |p::ps,f::r,v::vs,l=>bFv ps r vs (lay l p.toNat<|f.2.byt v)
 |_,_,_,l=>l
def bFu:R6->Nat->Vd->Q6
 | [],_,_=>[]
 |k::_,0,v=>k.byt v
 |_::r,j+1,v=>bFu r j v
end
mutual
def Kd.Val:Kd->Vd->Prop
 | .num w _,.num n=>0<=n/\n<256^w.toNat
 | .row k n,.row vs=>(vs.length:Int)=n/\∀v∈vs,k.Val v
 | .rcd fs,.rcd vs=>jD fs vs
 | .cho ks,.cho k v=>uP ks k v
 |_,_=>False
def jD:List (PySem.Str×Kd)->List Vd->Prop
 | [],[]=>True
 |f::r,v::vs=>f.2.Val v/\jD r vs
 |_,_=>False
def uP:R6->Nat->Vd->Prop
 | [],_,_=>False
 |k::_,0,v=>k.Val v
 |_::r,j+1,v=>uP r j v
end
end Lf
namespace Lf
end Lf
namespace Lf
end Lf
namespace L2
open PySem PySem.Spec PyProof.Rows
section
variable{X:Cx}{g:gQ}{f:St}{H:Hp}{s:Shared}{a:Addr}
def Inv.other(I:Inv X g f H s)(e:H a=some u)(G:∀y,u ≠ .own y)(A:∀xs,u ≠ .tup xs)(J:∀ps,u ≠ .tbl ps)(L:∀o v,X.H₀ a≠some (.frz o v))(j:ObjOk X.prog X.w (upd H a l) s.heap a l):Inv X g f (upd H a l) s:=by
 have i:∀{b:Addr},H b=none->b≠a:=λh z=>by rw[z,e]at h;cases h
 refine#[I.ok,I.os,I.bare,#[I.base.keep,I.base.slot,λb o C D E=>?_,I.base.there,λb xs h=>?_,λb o v h=>?_,λb ps h=>?_],I.loc,I.cell,?_,λx c h=>?_,λp F=>?_,λb v h=>?_,I.len];have:=I.base.free b o C D E;rw[eT<|i this];exact this;have:=I.base.tups b xs h;rw[eT (λz=>by rw[z,e]at this;exact A _<|ozI this)];exact this;have:=I.base.frzs b o v h;rw[eT<|λz=>L o v (by rw[<-z];exact h)];exact this;obtain ⟨m,q⟩:=I.base.tbls b ps h;exact#[m,by rw[eT (λz=>by rw[z,e]at q;exact J _<|ozI q)];exact q];rw[eT<|i I.free];exact I.free;rw[eT<|i<|I.freeC x c h];exact I.freeC x c h;obtain ⟨M,B,N⟩:=I.pin p F;exact#[M,by rw[eT<|i B];exact B,N];by_cases r:b=a;subst r;rw[bZ]at h;cases h;exact j;rw [eT r] at h;refine(I.hok b v h).stay (λ_ _ _ q=>q) (λc q=>?_) λc xs q=>?_;rw[eT (λz=>by rw[z,e]at q;exact G _<|ozI q)];exact q;rw[eT (λz=>by rw[z,e]at q;exact A _<|ozI q)];exact q
def aLx(x:ObjOk P w H h a<|.dK kvs):ObjOk P w H' h a<|.dK kvs:=x
def Inv.freeze(I:Inv X g f H s)(e:H a=some (.dK kvs)):∃o,Inv X g f (upd H a<|.frz o<|.dK kvs) s:=by have x:=I.hok a _ e;obtain⟨_,_,j,r,o,h,c,b,i⟩:=id x;refine#[o,I.other e (λ_ z=>by cases z) (λ_ z=>by cases z) (λ_ z=>by cases z) (λo v z=>?_) #[b,aLx x]];have:=I.base.frzs a o v z;rw[e]at this;cases this
def Inv.thaw(I:Inv X g f H s)(e:H a=some (.frz o<|.dK kvs))(n:∀o v,X.H₀ a≠some (.frz o v)):Inv X g f (upd H a<|.dK kvs) s:=
 I.other e (λ_ z=>by cases z) (λ_ z=>by cases z) (λ_ z=>by cases z) n (aLx (I.hok a _ e).2)
end
def bIf(e:Hp)(t:TE):TE:=λf H Q=>∃a b,H a=some (.dK b)/\(∀o v,e a≠some (.frz o v))/\∀o,t f (upd H a<|.frz o<|.dK b) λv c=>c a=some (.frz o<|.dK b)/\Q v (upd c a<|.dK b)
def aWe(h:PE X e t):PE X e<|bIf X.H₀ t:=by intro b s y H Q I ⟨a,m,j,l,q⟩;obtain⟨o,f⟩:=I.freeze j;refine dY (h b s y _ _ f<|q o) λu A c=>?_;obtain⟨v,z,g,r,i,p⟩:=c;refine#[v,_,g.thaw i l,r,p]
def Itd(a:Addr)(o:Obj)(kvs:S9):It:=
 #[λi H=>H a=some (.frz o<|.dK kvs)/\i<kvs.length,λi H x c=>c=H/\∃b,kvs[i]? = some b/\x=kV b.1,λi H=>H a=some (.frz o<|.dK kvs)/\kvs.length<=i]
def bEe(h:(cN P w).is k u=true):RelV (kV k) u:=by
 cases k with
 |inl i=>exact Value.isInt_shape (k:=i) h
 |inr x=>exact Value.isStrOf_shape (x:=x) h
def KV.at'(r:KV kvs vs):∀{i:Nat} {a:Key×V},kvs[i]? = some a->∃u,vs[i]? = some (a.1,u):=by
 induction r with
 |nil=>intro i a h;simp at h
 | @cons p q ps qs hq t ih =>
  intro i a h;cases i with
  |zero=>simp at h;subst h;exact#[q.2,by simp[hq.1]]
  |succ i=>obtain⟨u,e⟩:=ih (i:=i) (by simpa using h);exact#[u,by simpa using e]
def zV(I:Inv X j u H s)(e:H a=some (.frz o<|.dK kvs))(i:o.data=.dict c b) :
  (a == sysModules)=false/\∃vs,KV kvs vs/\s.heap.DictAt (cN X.prog X.w) a vs b:=by
 obtain⟨f,_,y,vs,r,v,m,l,g,p,h,q⟩:=(show ObjOk X.prog X.w H s.heap a (.frz o<|.dK kvs)from I.hok a _ e);rw[f]at g;cases g;rw[i]at h;cases h;exact#[y,vs,r,o,c,f,p,i,q]
def aDk{P}{w}{K}{tg}(a it:Addr)(Ce:a≠it)(o:Obj)(kvs:S9)(Y:Array DictEntry)(O:Nat)(S:o.data=.dict Y O):Turn P w K tg (Itd a o kvs) [it] it (λi h=>h.IsKeyIter it a i kvs.length O)where
 mem:=by simp
 obj:=λi h f b g=>by
  have e:b=it:=by simpa using g
  subst e;obtain⟨o,e,c,d⟩:=f;exact#[o,e,λv z=>by rw[d]at z;cases z]
 keep:=λi h Q f k=>f.at λo e=>k it `h o e
 item:=by intro X G M F R i T s σ H E I m f L;subst G M F;obtain⟨J,p⟩:=L;obtain⟨y,V,r,q⟩:=zV I J S;obtain⟨A,B,Z,f3,C,D⟩:=m it `h;have l:=r.length;obtain⟨u,t⟩:=r.at'<|aJ p;rw[l]at f;refine wpAny_pyNext_dict_item f q t λN Q n j x=>?_;have U:=I.turned (t':=s.toks) (λb o g e=>(x.2 b g).trans e) A B f3 C D;rw[<-l]at j;obtain⟨o',e,c,d⟩:=id j;exact#[N,rfl,tH e c d rfl #[kV kvs[i].1,H,U,bEe n,#[rfl,_,aJ p,rfl],j,λb g=>(m b g).1]]
 done:=by intro X G M F R i T s σ H E I m f L;subst G M F;obtain⟨J,p⟩:=L;obtain⟨y,V,r,q⟩:=zV I J S;obtain⟨A,B,Z,f3,C,D⟩:=m it `h;have l:=r.length;rw[l]at f;exact wpAny_pyNext_dict_end (I.ok.hd R) f q (by simp;exact le_of_eq_of_le (id<|Eq.symm l) p) λQ W=>#[rfl,I.turned (t':=s.toks) (λb o g e=>W b o g e) A B f3 C D]
 self:=λ_ _ _ _ _ f h=>wpAny_pyIter_keyiter f h
def aKw(e:TE):TI:=λf H R=>e f H λx c=>∃a o b,x=.ref a/\c a=some (.frz o<|.dK b)/\R (Itd a o b) c
def aAl(i:PE X l tl):PI X tg l<|aKw tl:=by
 intro A s N H R I h;refine dY (i A s N H _ I h) λv c B=>?_;obtain⟨x,C,f,L,J⟩:=B;obtain⟨a,o,j,e,F,q⟩:=J;subst e;cases L;obtain⟨g,_,y,M,r,O,p,m,u,D,z,E⟩:=(f.hok a _ F);rw[g]at u;cases u;have i:=r.length;refine wpAny_pyIter_dict y (#[o,p,g,D,z,E]:c.heap.DictAt (cN X.prog X.w) a M m) ?_;refine#[c.heap.objs.size,[c.heap.objs.size],_,_,C,rfl,f.kept (t':=c.toks) λb o e=>aD _ e,aDk a _ (bF<|aR g) o j p m z,#[_,aW _ rfl,rfl,by rw[i];rfl],λb G=>?_,q];have e:b=c.heap.objs.size:=by simpa using G
 subst e;exact f.fpOk (aO _)<|f.hok.fresh<|aO _
section
variable{X:Cx}
def hu_(a:Int)(t:Tok){prog}{w}{A}{E}{s}{Q}(h:∀t',Q (.int (Builtin.Int.intBits a) t') { s with toks:=s.toks+1 }) :
  wpAny `f A (call (.builtin "int.bit_length") [.int a t]) Q E s:=by
 refine wpAny_call_entry F.slot_int_bit_length (typeIs_int s a t) F.entry_int_bit_length ?_<|F.args_int_bit_length_1 _;obtain⟨b,g,d,tk,c⟩:=s
 wp_walk
 exact#[_,rfl,h _]
def aSg:V->Q1->Hp->VK->Prop:=λx a H Q=>∃i:Int,x=.int i/\a=[]/\Q (.int<|Builtin.Int.intBits i) H
def rM:MtR X "int.bit_length" aSg:=by intro c s j H x g v f Q I b a h;obtain⟨i,rfl,rfl,q⟩:=h;obtain⟨t,rfl⟩:=b;cases a;exact hu_ i t λe=>#[.int _,H,I.tok _,`r,q]
end
def wA:typeLookup (.type "list") "keys" = pure none:=by rw[typeLookup_type,builtinLookup_eq_fast];kernel_rfl
def cq_:entryFor table "dict.update.loop" = some Builtin.«dict.update.loop»:=entryFor_of_tree<|by kernel_rfl
def cp_:plainId "dict.update.loop" = true:=by decide +kernel
section
variable{prog:Program}{w:World}{A:Around}{E:iE}{s:Shared}
def pY{a}{xs}{k}{Q}(l:s.heap.get? a=some { cls:=.type "list",data:=.seq xs k })(p:A.handled=none)
  (h:∀h' tk,(∀b o,s.heap.get? b=some o->h'.get? b=some o)->Q none { s with heap:=h',toks:=tk }):wpAny `f A (getAttr? `i "keys") Q E s:=by
 obtain⟨q,g,d,tk,r⟩:=s;have j:∀c,(#[q,g,d,c,r]:Shared).TypeIs `i "list":=λ_=>#[_,l,rfl];have u:=sub_AttributeError;have f3:=F.slot_list_getattribute.lookup;have v:=F.slot_list_getattribute.bind `i;have y:=am_list_getattr_none;have m:(["__module__","__name__","__qualname__","__doc__","__annotations__"]:Q3).contains "keys" = false:=by decide
 have f:("keys" : Str).length+100<=sizeLine:=by size_fits
 repeat (any_goals (first | assumption | exact j _ | ((with_reducible show wpAny _ _ (call (Value.builtin "list.__getattribute__") _ _) _ _ _);refine call_meets F.slot_list_getattribute (j _) am_entry_list_getattribute (F.args_list_getattribute_2 _ _) (meets_getattribute_miss_list a xs k [].toArray "keys" _ wA m f) #[l,p,λh' c e i=>?_]) | wp_step))
 obtain⟨B,C,z⟩:=i.there;unfold getattributeRaised
 repeat (any_goals (first | assumption | wp_step))
 exact h _ _ i.of.keeps
end
section
variable{prog:Program}{w:World}{A:Around}{R:Result->Shared->Prop}
def PairsAt(P:Program)(w:World)(h:Heap)(I d:Addr)(a:S5)(ps:List<|Key×Value):Prop:=
 ∀(j:Nat) (p:Key×Value),ps[j]? = some p->∃(T:Addr) (b:Value) (n:Nat) (o:Obj),a[j]? = some (Value.ref T)/\T≠I/\T≠d/\(cN P w).is p.1 b=true/\h.get? T=some o/\o.cls=.type "tuple" /\ o.data=.seq [b,p.2].toArray n
def PairsAt.keep(x:PairsAt P w h I d items ps)(k:∀b o,b≠I->b≠d->h.get? b=some o->h'.get? b=some o):PairsAt P w h' I d items ps:=λj p l=>by obtain⟨T,m,n,o,e,a,c,f,g,i⟩:=x j p l;exact#[T,m,n,o,e,a,c,f,k T o a c g,i]
def aFb(hh:A.in1.handled=none)(l I d:Addr)(m:I≠d)(Z:l≠I)(B:l≠d)(a:S5)(ps:List<|Key×Value)(G:ps.length=a.size)(hsz:ps.length<=sizeLine)(res:Value) :
  ∀(k i:Nat) (s:Shared),a.size-i=k->i<=a.size->s.heap.IsListIter I l i->s.heap.IsList l a->s.heap.DictOf (cN prog w) d (merged [] (ps.take i))->PairsAt prog w s.heap I d a ps ->
   (∀h' tk,(∀b o,b≠I->b≠d->s.heap.get? b=some o->h'.get? b=some o)->h'.DictOf (cN prog w) d (merged [] ps)->R (.ok<|.ret res) { s with heap:=h',toks:=tk }) ->
   codeAny `f A (.builtin "dict.update.loop" #[[.ref d,.ref I,rawInt i,res],[]]) R s:=by
 intro k
 induction k with
 |zero =>
  intro i s N hi h g f u v;have Q:i=a.size:=by lia
  subst Q;refine codeAny_builtin cq_ ?_;refine wpAny_bind<|wpAny_pyNext_list_end hh h g Array.getElem?_size λh' M=>?_;refine wpAny_bind<|wpAny_pure<|wpAny_pure ?_;refine v h' s.toks (λb o hb _ e=>M b o hb e) ?_;rw[<-G,List.take_length]at f;exact f.extBut M (Ne.symm m)
 |succ k ih =>
  intro i s N hi h g f u v;have F:i<a.size:=Nat.lt_of_sub_eq_succ N;have D:i<ps.length:=dF F<|id<|Eq.symm G;have C:=aJ D;generalize ps[i]=p at C;obtain⟨T,kv,n,o,x,V,a3,a4,a5,a6,a7⟩:=u i p C;refine codeAny_builtin cq_ ?_;refine wpAny_bind<|wpAny_pyNext_list_item h g x λh' Y E=>?_;have c:=(E.2 T V).trans a5;refine wpAny_bind<|wpAny_holding ?_;refine wpAny_bind<|wpAny_tryCatch ?_;refine wpAny_bind<|wpAny_typeOf (#[o,c,a6]) ?_;refine wpAny_bind<|wpAny_seqItems c a7<|wpAny_pure ?_;refine wpAny_holding ?_;have W:=f.sameBut E<|Ne.symm m;have X:(merged [] (ps.take i)).length<=sizeLine:=by have:=merged_length_le ([]:List<|Key×Value)<|ps.take i;simp at this;lia
  refine wpAny_dictSet_pairs a4 W (λq S H=>?_) X;have j:∀b o,b≠I->b≠d->s.heap.get? b=some o->q.get? b=some o:=λb o y U e=>(H.2 b U).trans<|(E.2 b y).trans e;refine wpAny_pure #[plainId_quiet cp_ _,?_];have e1:rawInt ((i:Int)+1)=rawInt ((i+1:Nat):Int):=by simp
  refine ih (i+1) _ `b F ?_ ?_ ?_ (u.keep j) λr tk z t=>v r tk (λb o J L e=>z b o J L<|j b o J L e) t;exact Y.at λo e=>(H.2 I m).trans e;obtain ⟨O,h1,q,r⟩:=g;exact#[O,j l O Z B h1,q,r];rw [merged_take_succ [] ps i p C];exact S
end
section
variable{prog:Program}{w:World}{A:Around}{E:iE}{s:Shared}
def lk_{l}{xs}{c}{ps}{Q}(H:A.handled=none)(I:s.heap.get? l=some { cls:=.type "list",data:=.seq xs c })(J:ps.length=xs.size)(hsz:ps.length<=sizeLine)
  (W:∀(j:Nat) (p:Key×Value),ps[j]? = some p->∃(T:Addr) (q:Value) (n:Nat) (o:Obj),xs[j]? = some (Value.ref T)/\(cN prog w).is p.1 q=true/\s.heap.get? T=some o/\o.cls=.type "tuple" /\ o.data=.seq [q,p.2].toArray n)
  (h:∀h' tk,(∀b o,s.heap.get? b=some o->h'.get? b=some o)->h'.DictOf (cN prog w) s.heap.objs.size (merged [] ps)->Q `o { s with heap:=h',toks:=tk }) :
  wpAny `f A (call (.type "dict") [.ref l]) Q E s:=by
 have lt:∀{b:Addr} {o:Obj},s.heap.get? b=some o->b<s.heap.objs.size:=λe=>aR e;refine callType_codes (Q₁:=λobj a=>obj=.ref s.heap.objs.size/\a={ s with heap:=s.heap.push { cls:=.type "dict",data:=.dict [].toArray } }) F.kt_called_dict (F.kt_typeCall_dict_1 _) F.entry_dict_init (kt_code_dict_new _ #[rfl,rfl]) ?_;rintro obj a ⟨rfl,rfl⟩;have u:(s.heap.push { cls:=.type "dict",data:=.dict [].toArray }).DictOf (cN prog w) s.heap.objs.size []:=Heap.DictOf.new s.heap;have v:(s.heap.push { cls:=.type "dict",data:=.dict [].toArray }).get? l=some { cls:=.type "list",data:=.seq xs c }:=aD _ I;refine#[u.typeIs,F.args_dict_init_2 _ _,?_];refine wpAny_bind ?_;refine wpAny_bind<|wpAny_notOrdered_dict u.typeIs ?_;refine wpAny_pure ?_;show wpAny _ _ (Builtin.Dict.updateFrom "dict.__init__" s.heap.objs.size (.ref l) [] .none) _ _ _;refine wpAny_bind<|wpAny_typeOf (#[_,v,rfl]) ?_;refine wpAny_bind<|pY v H λi y f=>?_;refine wpAny_bind<|wpAny_rule ?_;have B:=f _ _ v;have g:=aR<|f _ _<|aW _ rfl;refine wpAny_bind (wpAny_pyIter_list (s:={ s with heap:=i,toks:=y }) #[_,B,rfl,c,rfl] ?_);have m:∀b o,i.get? b=some o->(i.push { cls:=.type "list_iterator",data:=.fields [.ref l,.int 0 0].toArray }).get? b=some o:=λb o e=>aD _ e;have C:=lt I;refine wpAny_pure #[plainId_quiet cp_ _,aFb (A:=A.in1) H l i.objs.size s.heap.objs.size (fE g) (bF<|Nat.lt_trans C g) (bF C) xs ps J hsz .none xs.size 0 _ (Nat.sub_zero xs.size) (bL _) #[_,aW _ rfl,rfl,rfl] #[_,m _ _ B,rfl,c,rfl] ?_ (λj p Y=>?_) λU z Z L=>?_];obtain ⟨o,S,R,X,r⟩:=u;exact#[o,S,R,m _ _<|f _ _ X,r];obtain ⟨T,q,n,o,M,N,D,O⟩:=W j p Y;have G:=lt D;exact#[T,q,n,o,M,bF<|Nat.lt_trans G g,bF G,N,m _ _<|f _ _<|aD _ D,O];exact#[rfl,h U z (λb o e=>Z b o (bF<|Nat.lt_trans (lt e) g) (bF<|lt e)<|m _ _<|f _ _<|aD _ e) L]
end
section
variable{X:Cx}
def pS(ok:HOk P w H h):∀{ys} {f} {kvs},Vals ys f->kvs.length=ys.length->(∀(j:Nat) (c:Key×V),kvs[j]? = some c->∃T:Addr,ys[j]? = some (.ref T)/\H T=some (.tup [kV c.1,c.2])) ->
  ∃ps:List<|Key×Value,KV kvs ps/\∀(j:Nat) (p:Key×Value),ps[j]? = some p->∃(T:Addr) (c:Value) (n:Nat) (o:Obj),f[j]? = some (Value.ref T)/\(cN P w).is p.1 c=true/\h.get? T=some o/\o.cls=.type "tuple" /\ o.data=.seq [c,p.2].toArray n
 |_,_,[],.nil,_,_=>#[[],.nil,λj p h=>by simp at h]
 |_,_,_::_,.nil,e,_=>by simp at e
 |_,_,[],.cons _ _,e,_=>by simp at e
 |_,_,c::kvs,.cons r t,e,hh=>by
  obtain⟨ps,k,q⟩:=pS ok t (kvs:=kvs) (by simpa using e) λj x A=>by obtain⟨T,a,b⟩:=hh (j+1) x (by simpa using A);exact#[T,by simpa using a,b]
  obtain⟨T,a,b⟩:=hh 0 c `h;simp at a;subst a;cases r;obtain⟨_,m,g,o,y,u,n,v⟩:=(ok T _ b);cases g with
  |cons D g =>
   cases g with
   |cons E g =>
    cases g;rename_i F G;refine#[(c.1,G)::ps,.cons #[rfl,E] k,λj p i=>?_];cases j with
    |zero => simp at i;subst i;exact#[T,F,n,o,by simp,tD D,y,u,v]
    |succ j => obtain⟨s,l,B,C,z⟩:=q j p (by simpa using i);exact#[s,l,B,C,by simpa using z.1,z.2]
def iu_(y:X.calm=true):CallR X (.type "dict") (λxs H Q=>∃(l:Addr) (ys:Q1) (kvs:S9),xs=[V.ref l]/\H l=some (.lst ys)/\kvs.length=ys.length/\(kvs.map (·.1)).Nodup /\
  (∀(j:Nat) (a:Key×V),kvs[j]? = some a->∃T:Addr,ys[j]? = some (.ref T)/\H T=some (.tup [kV a.1,a.2]))/\∀p,H p=none->Q (.ref p) (upd H p<|.dK kvs)):=by
 intro G s O H xs N Q I r h;obtain⟨l,ys,kvs,rfl,B,g,i,v,q⟩:=h;obtain⟨u,rfl,F⟩:=jK r;cases F;obtain⟨z,E,n,f,e⟩:=(I.hok l _ B);obtain⟨ps,k,o⟩:=pS I.hok f g v;have J:=k.length;have L:=f.length;have m:(ps.map (·.1)).Nodup:=by rw[<-KV.keys k];exact i
 refine lk_ (I.ok.hd y) e (ps:=ps) (by simp;lia) `b (λj p C=>by simpa using o j p C) λM tk A c=>?_;rw[merged_nil_of_nodup ps m]at c;exact#[.ref s.heap.objs.size,_,I.laid (t':=tk) (λb q D=>A b q D) (aO _)<|aLy `b (beq_eq_false_iff_ne.mpr<|Ne.symm<|bF I.big) k c,rfl,q _<|I.hok.fresh<|aO _]
end
end L2
namespace Lf
open PySem L2
def All2{b c:Type}(g:b->c->Prop):List b->List c->Prop
 | [],ys=>ys=[]
 |x::xs,ys=>∃y a,ys=y::a/\g x y/\All2 g xs a
section
variable{f c:Type}{g h:f->c->Prop}
def All2.nil:All2 g [] []:=rfl
def All2.imp(i:∀v x,g v x->h v x):∀{vs} {xs},All2 g vs xs->All2 h vs xs
 | [],_,e=>e
 |_::_,_,⟨x,xr,e,a,b⟩=>#[x,xr,e,i _ _ a,All2.imp i b]
def All2.len:∀{vs} {xs},All2 g vs xs->xs.length=vs.length
 | [],_,e=>by rw[show _=[]from e];rfl
 |_::_,_,⟨x,xr,e,a,b⟩=>by rw[e,aL,aL,All2.len b]
def All2.get:∀{vs} {xs} {i:Nat} {x:c},All2 g vs xs->xs[i]? = some x->∃v,vs[i]? = some v/\g v x
 | [],_,_,_,e,h=>by rw[show _=[]from e]at h;simp at h
 |v::vs,_,0,x,⟨y,yr,e,a,b⟩,h=>by rw[e]at h;cases(ozI h);exact#[v,rfl,a]
 |v::vs,_,i+1,x,⟨y,yr,e,a,b⟩,h=>by rw[e]at h;obtain⟨u,l,j⟩:=All2.get (i:=i) b (by simpa using h);exact#[u,by simpa using l,j]
def All2.at:∀{vs} {xs} {i:Nat} {v:f},All2 g vs xs->vs[i]? = some v->∃x,xs[i]? = some x/\g v x
 | [],_,_,_,e,h=>by simp at h
 |v::vs,_,0,w,⟨y,yr,e,a,b⟩,h=>by rw[e];cases(ozI h);exact#[y,rfl,a]
 |v::vs,_,i+1,w,⟨y,yr,e,a,b⟩,h=>by rw[e];obtain⟨u,l,j⟩:=All2.at (i:=i) b (by simpa using h);exact#[u,by simpa using l,j]
def All2.app(i:All2 g us ys):∀{vs} {xs},All2 g vs xs->All2 g (vs++us) (xs++ys)
 | [],_,e=>by rw[show _=[]from e];exact i
 |_::_,_,⟨y,yr,e,a,b⟩=>by rw[e];exact#[y,yr++ys,rfl,a,All2.app i b]
def All2.one{v:f}{x:c}(a:g v x):All2 g [v] [x]:=#[x,[],rfl,a,rfl]
def All2.snoc{v:f}{x:c}(a:g v x){vs}{xs}(h:All2 g vs xs):All2 g (vs++[v])<|xs++[x]:=All2.app (All2.one a) h
def All2.take:∀(n:Nat) {vs} {xs},All2 g vs xs->All2 g (vs.take n) (xs.take n)
 | 0,_,_,_=>by simp only[List.take_zero];rfl
 |n+1,[],_,e=>by rw[show _=[]from e];rfl
 |n+1,_::_,_,⟨y,yr,e,a,b⟩=>by rw[e];exact#[y,yr.take n,rfl,a,All2.take n b]
def All2.drop:∀(n:Nat) {vs} {xs},All2 g vs xs->All2 g (vs.drop n) (xs.drop n)
 | 0,_,_,h=>h
 |n+1,[],_,e=>by rw[show _=[]from e];rfl
 |n+1,_::_,_,⟨y,yr,e,a,b⟩=>by rw[e];exact All2.drop n b
def All2.rev:∀{vs} {xs},All2 g vs xs->All2 g vs.reverse xs.reverse
 | [],_,e=>by rw[show _=[]from e];rfl
 |_::_,_,⟨y,yr,e,a,b⟩=>by rw[e,List.reverse_cons,List.reverse_cons];exact All2.snoc a<|All2.rev b
def All2.set{v:f}{x:c}(j:g v x):∀(i:Nat) {vs} {xs},All2 g vs xs->All2 g (vs.set i v) (xs.set i x)
 |_,[],_,e=>by rw[show _=[]from e];rfl
 | 0,_::_,_,⟨y,yr,e,a,b⟩=>by rw[e];exact#[x,yr,rfl,j,b]
 |i+1,_::_,_,⟨y,yr,e,a,b⟩=>by rw[e];exact#[y,yr.set i x,rfl,a,All2.set j i b]
def All2.mk:∀{vs} {xs},xs.length=vs.length->(∀(i:Nat) (v:f) (x:c),vs[i]? = some v->xs[i]? = some x->g v x)->All2 g vs xs
 | [],xs,hl,_=>List.length_eq_zero_iff.mp hl
 |v::vs,[],hl,_=>by simp at hl
 |v::vs,x::xs,hl,hg=>#[x,xs,rfl,hg 0 v x rfl rfl,All2.mk (by simpa using hl) λi a b e j=>hg (i+1) a b (by simpa using e)<|by simpa using j]
end
inductive Dx where
 |non | bl (b:Bool) | int (i:Int) | str (x:Str) | tup (l:List Dx) | lst (l:List Dx) | dic (l:List (Key×Dx)) | scr (K:dN) (ns:Q6)
 |ins (C:Addr) (fs:List (Str×Dx)) | exc (c:Value) | dqt (ks:List (List Key)) (l:List Dx)
abbrev S8:=List<|Key×Dx
abbrev Q0:=List Dx
def bFj(a:Addr)(c:Value):Heap->Prop:=λh=>∃o b,h.get? a=some o/\o.cls=c/\o.data=.fields b/\o.dict=none
mutual
def IsX(H:Hp):Dx->V->Prop
 | .non,v=>v=.non
 | .bl b,v=>v=.bl b
 | .int i,v=>v=.int i
 | .str x,v=>v=.str x
 | .tup ds,v=>∃a f,v=.ref a/\H a=some (.tup f)/\IsXs H ds f
 | .lst ds,v=>∃a f,v=.ref a/\H a=some (.lst f)/\IsXs H ds f
 | .dic ks,v=>∃a e,v=.ref a/\Rd H a (.dK e)/\IsXk H ks e
 | .scr K ns,v=>∃a,v=.ref a/\SqL K H a (ns.map V.int)
 | .ins C fs,v=>∃a g e,v=.ref a/\H a=some (.ins C g e)/\IsXf H fs e
 | .exc c,v=>∃a,v=.ref a/\H a=some (.ext<|bFj a c)
 | .dqt ks l,v=>∃a e,v=.ref a/\Rd H a (.dT e)/\e.map (·.1)=ks/\IsXs H l (e.map (·.2))
def IsXs(H:Hp):Q0->Q1->Prop
 | [],vs=>vs=[]
 |d::r,vs=>∃v a,vs=v::a/\IsX H d v/\IsXs H r a
def IsXk(H:Hp):S8->S9->Prop
 | [],ws=>ws=[]
 |k::r,ws=>∃w a,ws=w::a/\(k.1=w.1/\IsX H k.2 w.2)/\IsXk H r a
def IsXf(H:Hp):List (Str×Dx)->S7->Prop
 | [],ws=>ws=[]
 |k::r,ws=>∃w a,ws=w::a/\(k.1=w.1/\IsX H k.2 w.2)/\IsXf H r a
end
def IsXs.all:∀{ds} {vs},IsXs H ds vs↔All2 (IsX H) ds vs
 | [],vs=>by simp only[IsXs,All2]
 |d::r,vs=>by constructor;rintro⟨v,c,e,a,b⟩;exact#[v,c,e,a,IsXs.all.mp b];rintro⟨v,c,e,a,b⟩;exact#[v,c,e,a,IsXs.all.mpr b]
abbrev KvX(H:Hp)(k:Key×Dx)(w:Key×V):Prop:=k.1=w.1/\IsX H k.2 w.2
def IsXk.all:∀{ds} {vs},IsXk H ds vs↔All2 (KvX H) ds vs
 | [],vs=>by simp only[IsXk,All2]
 |d::r,vs=>by constructor;rintro⟨v,c,e,a,b⟩;exact#[v,c,e,a,IsXk.all.mp b];rintro⟨v,c,e,a,b⟩;exact#[v,c,e,a,IsXk.all.mpr b]
abbrev FvX(H:Hp)(k:Str×Dx)(w:Str×V):Prop:=k.1=w.1/\IsX H k.2 w.2
def IsXf.all:∀{ds} {vs},IsXf H ds vs↔All2 (FvX H) ds vs
 | [],vs=>by simp only[IsXf,All2]
 |d::r,vs=>by constructor;rintro⟨v,c,e,a,b⟩;exact#[v,c,e,a,IsXf.all.mp b];rintro⟨v,c,e,a,b⟩;exact#[v,c,e,a,IsXf.all.mpr b]
def SameF(H c:Hp):Prop:=∀b o,H b=some o->c b=some o\/∃ob a,(o=.dK a/\c b=some (.frz ob<|.dK a))\/(o=.frz ob (.dK a)/\c b=some (.dK a))
def SameF.of(e:Same H H'):SameF H H':=λb o h=>.inl<|e _ _ h
def SameF.tup(e:SameF H H')(h:H a=some (.tup vs)):H' a=some (.tup vs):=by
 rcases e _ _ h with q | ⟨ob,b,q | q⟩
 exact q;cases q.1;cases q.1
def SameF.lst(e:SameF H H')(h:H a=some (.lst vs)):H' a=some (.lst vs):=by
 rcases e _ _ h with q | ⟨ob,b,q | q⟩
 exact q;cases q.1;cases q.1
def SameF.dic(e:SameF H H')(h:Rd H a<|.dK ws):Rd H' a<|.dK ws:=by
 rcases h with h | ⟨o,h⟩
 rcases e _ _ h with q | ⟨ob,ws,q | q⟩
 exact .inl q;obtain⟨b,c⟩:=q;cases b;exact .inr #[_,c];cases q.1;rcases e _ _ h with q | ⟨ob,ws,q | q⟩
 exact .inr #[_,q];cases q.1;obtain⟨b,c⟩:=q;cases b;exact .inl c
def SameF.dqt(e:SameF H b)(h:Rd H a<|.dT ws):Rd b a<|.dT ws:=by
 rcases h with h | ⟨o,h⟩
 rcases e _ _ h with q | ⟨ob,ws,q | q⟩
 exact .inl q;cases q.1;cases q.1;rcases e _ _ h with q | ⟨ob,ws,q | q⟩
 exact .inr #[_,q];cases q.1;obtain⟨c,f⟩:=q;cases c
def SameF.ins(e:SameF H H')(h:H a=some (.ins C dx ws)):H' a=some (.ins C dx ws):=by
 rcases e _ _ h with q | ⟨ob,ws,q | q⟩
 exact q;cases q.1;cases q.1
def SameF.ext(e:SameF H H')(h:H a=some (.ext φ)):H' a=some (.ext φ):=by
 rcases e _ _ h with q | ⟨ob,b,q | q⟩
 exact q;cases q.1;cases q.1
def SameF.sq(e:SameF H H')(h:SqL K H a xs):SqL K H' a xs:=by
 rcases h with(h | ⟨o,h⟩) | h
 exact .inl<|.inl<|e.lst h;rcases e _ _ h with q | ⟨ob,b,q | q⟩
 exact .inl<|.inr #[o,q];cases q.1;cases q.1;exact .inr h
mutual
def IsX.sameF{H m:Hp}(e:SameF H m):∀(d:Dx) (v:V),IsX H d v->IsX m d v
 | .non,v,h=>by simpa only[IsX]using h
 | .bl _,v,h=>by simpa only[IsX]using h
 | .int _,v,h=>by simpa only[IsX]using h
 | .str _,v,h=>by simpa only[IsX]using h
 | .tup ds,v,h=>by simp only[IsX]at h ⊢;obtain⟨a,j,b,f,g⟩:=h;exact#[a,j,b,e.tup f,IsXs.sameF e ds j g]
 | .lst ds,v,h=>by simp only[IsX]at h ⊢;obtain⟨a,j,b,f,g⟩:=h;exact#[a,j,b,e.lst f,IsXs.sameF e ds j g]
 | .dic ks,v,h=>by simp only[IsX]at h ⊢;obtain⟨a,i,b,f,g⟩:=h;exact#[a,i,b,e.dic f,IsXk.sameF e ks i g]
 | .scr K ns,v,h=>by simp only[IsX]at h ⊢;obtain⟨a,b,f⟩:=h;exact#[a,b,e.sq f]
 | .ins C fs,v,h=>by simp only[IsX]at h ⊢;obtain⟨a,o,i,b,f,g⟩:=h;exact#[a,o,i,b,e.ins f,IsXf.sameF e fs i g]
 | .exc c,v,h=>by simp only[IsX]at h ⊢;obtain⟨a,b,f⟩:=h;exact#[a,b,e.ext f]
 | .dqt ks l,v,h=>by simp only[IsX]at h ⊢;obtain⟨a,i,b,f,g,p⟩:=h;exact#[a,i,b,e.dqt f,g,IsXs.sameF e l _ p]
def IsXs.sameF{H a:Hp}(e:SameF H a):∀(ds:Q0) (vs:Q1),IsXs H ds vs->IsXs a ds vs
 | [],vs,h=>by simpa only[IsXs]using h
 |d::r,vs,h=>by simp only[IsXs]at h ⊢;obtain⟨v,b,c,f,g⟩:=h;exact#[v,b,c,IsX.sameF e d v f,IsXs.sameF e r b g]
def IsXk.sameF{H a:Hp}(e:SameF H a):∀(ds:S8) (ws:S9),IsXk H ds ws->IsXk a ds ws
 | [],vs,h=>by simpa only[IsXk]using h
 |d::r,vs,h=>by simp only[IsXk]at h ⊢;obtain⟨v,c,f,b,g⟩:=h;exact#[v,c,f,#[b.1,IsX.sameF e d.2 v.2 b.2],IsXk.sameF e r c g]
def IsXf.sameF{H a:Hp}(e:SameF H a):∀(ds:List<|Str×Dx) (ws:S7),IsXf H ds ws->IsXf a ds ws
 | [],vs,h=>by simpa only[IsXf]using h
 |d::r,vs,h=>by simp only[IsXf]at h ⊢;obtain⟨v,c,f,b,g⟩:=h;exact#[v,c,f,#[b.1,IsX.sameF e d.2 v.2 b.2],IsXf.sameF e r c g]
end
def IsX.toF(h:IsX H d v)(e:SameF H H'):IsX H' d v:=IsX.sameF e d v h
def IsX.to(h:IsX H d v)(e:Same H H'):IsX H' d v:=IsX.sameF (.of e) d v h
def IsX.int_eq(h:IsX H (.int i) v):v=.int i:=by simpa only[IsX]using h
def IsX.bl_eq(h:IsX H (.bl i) v):v=.bl i:=by simpa only[IsX]using h
def IsX.str_eq(h:IsX H (.str i) v):v=.str i:=by simpa only[IsX]using h
def IsX.non_eq(h:IsX H .non v):v=.non:=by simpa only[IsX]using h
def IsX.tup_eq(h:IsX H (.tup l) v):∃a vs,v=.ref a/\H a=some (.tup vs)/\All2 (IsX H) l vs:=by obtain⟨a,vs,b,c,e⟩:=h;exact#[a,vs,b,c,IsXs.all.mp e]
def IsX.lst_eq(h:IsX H (.lst l) v):∃a vs,v=.ref a/\H a=some (.lst vs)/\All2 (IsX H) l vs:=by obtain⟨a,vs,b,c,e⟩:=h;exact#[a,vs,b,c,IsXs.all.mp e]
def IsX.dic_eq(h:IsX H (.dic l) v):∃a ws,v=.ref a/\Rd H a (.dK ws)/\All2 (KvX H) l ws:=by obtain⟨a,f,b,c,e⟩:=h;exact#[a,f,b,c,IsXk.all.mp e]
def IsX.scr_eq(h:IsX H (.scr K ns) v):∃a,v=.ref a/\SqL K H a (ns.map V.int):=by simpa only[IsX]using h
def IsX.of_scr(h:SqL K H a<|ns.map V.int):IsX H (.scr K ns) `i:=by simp only[IsX];exact#[a,rfl,h]
def IsX.ins_eq(h:IsX H (.ins C fs) v):∃a b ws,v=.ref a/\H a=some (.ins C b ws)/\All2 (FvX H) fs ws:=by obtain⟨a,b,ws,c,e,f⟩:=h;exact#[a,b,ws,c,e,IsXf.all.mp f]
def IsX.exc_eq(h:IsX H (.exc c) v):∃a,v=.ref a/\H a=some (.ext<|bFj a c):=by simpa only[IsX]using h
def IsX.of_ins{H}{C a dx}{fs}{ws}(h:H a=some (.ins C dx ws))(h':All2 (FvX H) fs ws):IsX H (.ins C fs) `i:=by simp only[IsX];exact#[a,dx,ws,rfl,h,IsXf.all.mpr h']
def IsX.dqt_eq(h:IsX H (.dqt ks l) v):∃a ws,v=.ref a/\Rd H a (.dT ws)/\ws.map (·.1)=ks/\All2 (IsX H) l (ws.map (·.2)):=by simp only[IsX]at h;obtain⟨a,ws,b,c,e,f⟩:=h;exact#[a,ws,b,c,e,IsXs.all.mp f]
def IsX.of_dqt(h:Rd H a<|.dT ws)(b:ws.map (·.1)=ks)(h':All2 (IsX H) l (ws.map (·.2))):IsX H (.dqt ks l) `i:=by simp only[IsX];exact#[a,ws,rfl,h,b,IsXs.all.mpr h']
def IsX.of_int(i:Int):IsX H (.int i)<|.int i:=by simp only[IsX]
def IsX.of_bl(i:Bool):IsX H (.bl i)<|.bl i:=by simp only[IsX]
def IsX.of_str(i:Str):IsX H (.str i)<|.str i:=by simp only[IsX]
def IsX.of_non:IsX H .non .non:=by simp only[IsX]
def IsX.of_tup{H}{l}{a}{vs}(h:H a=some (.tup vs))(h':All2 (IsX H) l vs):IsX H (.tup l) `i:=by simp only[IsX];exact#[a,vs,rfl,h,IsXs.all.mpr h']
def IsX.of_lst{H}{l}{a}{vs}(h:H a=some (.lst vs))(h':All2 (IsX H) l vs):IsX H (.lst l) `i:=by simp only[IsX];exact#[a,vs,rfl,h,IsXs.all.mpr h']
def IsX.of_dic(h:Rd H a<|.dK vs)(h':All2 (KvX H) l vs):IsX H (.dic l) `i:=by simp only[IsX];exact#[a,vs,rfl,h,IsXk.all.mpr h']
inductive Ow where
 |tr (d:Dx) | ol (a:Addr) (l:List Ow) | od (a:Addr) (l:List (Key×Ow)) | oi (C a dx:Addr) (l:List (Str×Ow)) | ot (l:List Ow)
mutual
def Ow.d:Ow->Dx
 | .tr d=>d
 | .ol _ l=>.lst (lX l)
 | .od _ l=>.dic (aJg l)
 | .oi C _ _ l=>.ins C (aDz l)
 | .ot l=>.tup<|lX l
def lX:List Ow->Q0
 | []=>[]
 |o::r=>o.d::lX r
def aJg:List (Key×Ow)->S8
 | []=>[]
 |o::r=>(o.1,o.2.d)::aJg r
def aDz:List (Str×Ow)->List (Str×Dx)
 | []=>[]
 |o::r=>(o.1,o.2.d)::aDz r
end
mutual
def Ow.fp:Ow->R9
 | .tr _=>[]
 | .ol a l=>a::jS l
 | .od a l=>a::vO l
 | .oi _ a dx l=>a::dx::fO l
 | .ot l=>jS l
def jS:List Ow->R9
 | []=>[]
 |o::r=>o.fp++jS r
def vO:List (Key×Ow)->R9
 | []=>[]
 |o::r=>o.2.fp++vO r
def fO:List (Str×Ow)->R9
 | []=>[]
 |o::r=>o.2.fp++fO r
end
mutual
def OwOk(G H:Hp):Ow->V->Prop
 | .tr d,v=>IsX G d v
 | .ol a l,v=>v=.ref a/\∃b,H a=some (.lst b)/\OwOks G H l b
 | .od a l,v=>v=.ref a/\∃c,H a=some (.dK c)/\OwOkk G H l c
 | .oi C a dx l,v=>v=.ref a/\∃c,H a=some (.ins C dx c)/\H dx=some (.own a)/\OwOkf G H l c
 | .ot l,v=>∃a b,v=.ref a/\G a=some (.tup b)/\OwOks G H l b
def OwOks(G H:Hp):List Ow->Q1->Prop
 | [],vs=>vs=[]
 |o::r,vs=>∃v a,vs=v::a/\OwOk G H o v/\OwOks G H r a
def OwOkk(G H:Hp):List (Key×Ow)->S9->Prop
 | [],vs=>vs=[]
 |o::r,vs=>∃v a,vs=v::a/\(o.1=v.1/\OwOk G H o.2 v.2)/\OwOkk G H r a
def OwOkf(G H:Hp):List (Str×Ow)->S7->Prop
 | [],vs=>vs=[]
 |o::r,vs=>∃v a,vs=v::a/\(o.1=v.1/\OwOk G H o.2 v.2)/\OwOkf G H r a
end
section
variable{G f H c:Hp}
mutual
def OwOk.mono(e:SameF G f):∀(o:Ow) (v:V),(∀b∈o.fp,c b=H b)->OwOk G H o v->OwOk f c o v
 | .tr d,v,_,h=>by simp only[OwOk]at h ⊢;exact h.toF e
 | .ol a l,v,k,h=>by simp only[OwOk,Ow.fp]at h k ⊢;obtain⟨i,g,j,m⟩:=h;exact#[i,g,by rw[k a aA];exact j,OwOks.mono e l g (λb p=>k b<|aC _ p) m]
 | .od a l,v,k,h=>by simp only[OwOk,Ow.fp]at h k ⊢;obtain⟨i,g,j,m⟩:=h;exact#[i,g,by rw[k a aA];exact j,OwOkk.mono e l g (λb p=>k b<|aC _ p) m]
 | .oi C a dx l,v,k,h=>by simp only[OwOk,Ow.fp]at h k ⊢;obtain⟨i,g,j,q,m⟩:=h;exact#[i,g,by rw[k a aA];exact j,by rw[k dx<|aC _ aA];exact q,OwOkf.mono e l g (λb p=>k b<|aC _<|aC _ p) m]
 | .ot l,v,k,h=>by simp only[OwOk,Ow.fp]at h k ⊢;obtain⟨a,g,i,j,m⟩:=h;exact#[a,g,i,e.tup j,OwOks.mono e l g k m]
def OwOks.mono(e:SameF G f):∀(l:List Ow) (vs:Q1),(∀b∈jS l,c b=H b)->OwOks G H l vs->OwOks f c l vs
 | [],vs,_,h=>by simpa only[OwOks]using h
 |o::r,vs,k,h=>by simp only[OwOks,jS]at h k ⊢;obtain⟨v,g,i,j,m⟩:=h;exact#[v,g,i,OwOk.mono e o v (λb a=>k b<|aM _ a) j,OwOks.mono e r g (λb a=>k b<|aG _ a) m]
def OwOkk.mono(e:SameF G f):∀(l:List<|Key×Ow) (vs:S9),(∀b∈vO l,c b=H b)->OwOkk G H l vs->OwOkk f c l vs
 | [],vs,_,h=>by simpa only[OwOkk]using h
 |o::r,vs,k,h=>by simp only[OwOkk,vO]at h k ⊢;obtain⟨v,i,j,g,m⟩:=h;exact#[v,i,j,#[g.1,OwOk.mono e o.2 v.2 (λb a=>k b<|aM _ a) g.2],OwOkk.mono e r i (λb a=>k b<|aG _ a) m]
def OwOkf.mono(e:SameF G f):∀(l:List<|Str×Ow) (vs:S7),(∀b∈fO l,c b=H b)->OwOkf G H l vs->OwOkf f c l vs
 | [],vs,_,h=>by simpa only[OwOkf]using h
 |o::r,vs,k,h=>by simp only[OwOkf,fO]at h k ⊢;obtain⟨v,i,j,g,m⟩:=h;exact#[v,i,j,#[g.1,OwOk.mono e o.2 v.2 (λb a=>k b<|aM _ a) g.2],OwOkf.mono e r i (λb a=>k b<|aG _ a) m]
end
def aRu(H:Hp)(b:Addr):Prop:=∃o,H b=some o/\(∀ob u,o ≠ .frz ob u)/\∀a,o ≠ .tup a
mutual
def OwOk.there:∀(o:Ow) (v:V),OwOk G H o v->∀b∈o.fp,aRu H b
 | .tr d,v,_,b,c=>by simp only[Ow.fp]at c;cases c
 | .ol a l,v,h,b,c=>by
  simp only[OwOk,Ow.fp]at h c;obtain⟨i,f,g,e⟩:=h;rcases aF.mp c with rfl | c
  exact#[_,g,(λ_ _ z=>nomatch z),λ_ z=>nomatch z];exact OwOks.there l f e b c
 | .od a l,v,h,b,c=>by
  simp only[OwOk,Ow.fp]at h c;obtain⟨i,f,g,e⟩:=h;rcases aF.mp c with rfl | c
  exact#[_,g,(λ_ _ z=>nomatch z),λ_ z=>nomatch z];exact OwOkk.there l f e b c
 | .oi C a dx l,v,h,b,c=>by
  simp only[OwOk,Ow.fp]at h c;obtain⟨i,f,g,j,e⟩:=h;rcases aF.mp c with rfl | c
  exact#[_,g,(λ_ _ z=>nomatch z),λ_ z=>nomatch z];rcases aF.mp c with rfl | c
  exact#[_,j,(λ_ _ z=>nomatch z),λ_ z=>nomatch z];exact OwOkf.there l f e b c
 | .ot l,v,h,b,c=>by simp only[OwOk,Ow.fp]at h c;obtain⟨a,f,i,g,e⟩:=h;exact OwOks.there l f e b c
def OwOks.there:∀(l:List Ow) (vs:Q1),OwOks G H l vs->∀b∈jS l,aRu H b
 | [],vs,_,b,a=>by simp only[jS]at a;cases a
 |o::r,vs,h,b,a=>by
  simp only[OwOks,jS]at h a;obtain⟨v,f,g,c,e⟩:=h;rcases aV.mp a with a | a
  exact OwOk.there o v c b a;exact OwOks.there r f e b a
def OwOkk.there:∀(l:List<|Key×Ow) (vs:S9),OwOkk G H l vs->∀b∈vO l,aRu H b
 | [],vs,_,b,a=>by simp only[vO]at a;cases a
 |o::r,vs,h,b,a=>by
  simp only[OwOkk,vO]at h a;obtain⟨v,f,g,c,e⟩:=h;rcases aV.mp a with a | a
  exact OwOk.there o.2 v.2 c.2 b a;exact OwOkk.there r f e b a
def OwOkf.there:∀(l:List<|Str×Ow) (vs:S7),OwOkf G H l vs->∀b∈fO l,aRu H b
 | [],vs,_,b,a=>by simp only[fO]at a;cases a
 |o::r,vs,h,b,a=>by
  simp only[OwOkf,fO]at h a;obtain⟨v,f,g,c,e⟩:=h;rcases aV.mp a with a | a
  exact OwOk.there o.2 v.2 c.2 b a;exact OwOkf.there r f e b a
end
mutual
def OwOk.tree(e:SameF G G'):∀(o:Ow) (v:V),(∀b∈o.fp,G' b=H b)->OwOk G H o v->IsX G' o.d v
 | .tr d,v,_,h=>by simp only[OwOk,Ow.d]at h ⊢;exact h.toF e
 | .ol a l,v,k,h=>by simp only[OwOk,Ow.fp,Ow.d]at h k ⊢;obtain⟨c,i,f,g⟩:=h;subst c;exact IsX.of_lst (by rw[k a aA];exact f) (OwOks.tree e l i (λb j=>k b<|aC _ j) g)
 | .od a l,v,k,h=>by simp only[OwOk,Ow.fp,Ow.d]at h k ⊢;obtain⟨c,i,f,g⟩:=h;subst c;exact IsX.of_dic (.inl (by rw[k a aA];exact f)) (OwOkk.tree e l i (λb j=>k b<|aC _ j) g)
 | .oi C a dx l,v,k,h=>by simp only[OwOk,Ow.fp,Ow.d]at h k ⊢;obtain⟨c,i,f,m,g⟩:=h;subst c;exact IsX.of_ins (by rw[k a aA];exact f) (OwOkf.tree e l i (λb j=>k b<|aC _<|aC _ j) g)
 | .ot l,v,k,h=>by simp only[OwOk,Ow.fp,Ow.d]at h k ⊢;obtain⟨a,i,c,f,g⟩:=h;subst c;exact IsX.of_tup (e.tup f)<|OwOks.tree e l i k g
def OwOks.tree(e:SameF G G'):∀(l:List Ow) (vs:Q1),(∀b∈jS l,G' b=H b)->OwOks G H l vs->All2 (IsX G') (lX l) vs
 | [],vs,_,h=>by simpa only[OwOks,lX,All2]using h
 |o::r,vs,k,h=>by simp only[OwOks,jS,lX]at h k ⊢;obtain⟨v,c,f,g,i⟩:=h;exact#[v,c,f,OwOk.tree e o v (λb a=>k b<|aM _ a) g,OwOks.tree e r c (λb a=>k b<|aG _ a) i]
def OwOkk.tree(e:SameF G G'):∀(l:List<|Key×Ow) (vs:S9),(∀b∈vO l,G' b=H b)->OwOkk G H l vs->All2 (KvX G') (aJg l) vs
 | [],vs,_,h=>by simpa only[OwOkk,aJg,All2]using h
 |o::r,vs,k,h=>by simp only[OwOkk,vO,aJg]at h k ⊢;obtain⟨v,f,g,c,i⟩:=h;exact#[v,f,g,#[c.1,OwOk.tree e o.2 v.2 (λb a=>k b<|aM _ a) c.2],OwOkk.tree e r f (λb a=>k b<|aG _ a) i]
def OwOkf.tree(e:SameF G G'):∀(l:List<|Str×Ow) (vs:S7),(∀b∈fO l,G' b=H b)->OwOkf G H l vs->All2 (FvX G') (aDz l) vs
 | [],vs,_,h=>by simpa only[OwOkf,aDz,All2]using h
 |o::r,vs,k,h=>by simp only[OwOkf,fO,aDz]at h k ⊢;obtain⟨v,f,g,c,i⟩:=h;exact#[v,f,g,#[c.1,OwOk.tree e o.2 v.2 (λb a=>k b<|aM _ a) c.2],OwOkf.tree e r f (λb a=>k b<|aG _ a) i]
end
end
inductive Sv where
 |tr (d:Dx) | ol (l:Q0) | od (l:S8) | ow (o:Ow) | oq (ks:List (List Key)) (l:Q0)
def Sv.d:Sv->Dx
 | .tr d=>d
 | .ol l=>.lst l
 | .od l=>.dic l
 | .oq ks l=>.dqt ks l
 | .ow o=>o.d
inductive Sl where
 |un | v (s:Sv) | bw (l:Q0) | bo (o:Ow) | pn (v:V) | ba (a:Addr) (l:Q0)
abbrev Q9:=List Sl
abbrev vT(d:Dx):Sl:=.v<|.tr d
abbrev Rw:=Sl×S1
abbrev Q8:=List Rw
def eL:Rw->R9
 |(.v<|.ol _,some<|.ref a)=>[a]
 |(.v<|.od _,some<|.ref a)=>[a]
 |(.v<|.oq _ _,some<|.ref a)=>[a]
 |(.bw _,some<|.ref a)=>[a]
 |(.v<|.ow o,_)=>o.fp
 |(.bo o,_)=>o.fp
 |(.ba a _,_)=>[a]
 |_=>[]
def bB(P:Q8):R9:=P.flatMap eL
def hid(O:R9)(H:Hp):Hp:=λb=>if b∈O then none else H b
def bC:hid O H b=some o↔b∉O/\H b=some o:=by unfold hid;by_cases h:b∈O;rw[if_pos h];simp[h];rw[if_neg h];simp[h]
def jm_(e:Same H H'):Same (hid O H)<|hid O H':=λb o h=>bC.mpr #[(bC.mp h).1,e _ _ (bC.mp h).2]
def kH(e:∀a∈O',a∈O):Same (hid O H)<|hid O' H:=λb o h=>bC.mpr #[λz=>(bC.mp h).1<|e _ z,(bC.mp h).2]
def aBv:Same (hid O H) H:=λb o h=>(bC.mp h).2
def nf:Option HO->Option HO
 |some (.frz _ _)=>none
 |o=>o
def nH(h:nf x=some o):x=some o:=by unfold nf at h;split at h;cases h;exact h
def kn_(h:nf x=some o)(e:∀o,x=some o->y=some o):nf y=some o:=by have a:=nH h;rw[a]at h;rw[e o a];exact h
def ext(c a H:Hp):Hp:=λb=>match a b with | none=>nf (H b) | some _=>c b
def kG{Hs H0 H}{b}(h:H0 b=none):ext Hs H0 H b=nf (H b):=by unfold ext;rw[h]
def kA{Hs H0 H}{b}{o}(h:H0 b=some o):ext Hs H0 H b=Hs b:=by unfold ext;rw[h]
def ec_(e:Same H H'):Same (ext Hs H0 H)<|ext Hs H0 H':=λb o h=>by
 cases q:H0 b with
 |none=>rw[kG q]at h ⊢;exact kn_ h (e b)
 |some u=>rw[kA q]at h ⊢;exact h
def RowOk(O:R9)(G H:Hp):Rw->Prop
 |(.un,_)=>True
 |(.pn w,v)=>v=some w
 |(.v<|.tr d,v)=>∃x,v=some x/\IsX (hid O G) d x
 |(.v<|.ol l,v)=>∃a b,v=some `i/\H a=some (.lst b)/\All2 (IsX<|hid O G) l b
 |(.v<|.od l,v)=>∃a c,v=some `i/\H a=some (.dK c)/\All2 (KvX<|hid O G) l c
 |(.v<|.oq ks l,v)=>∃a c,v=some `i/\H a=some (.dT c)/\c.map (·.1)=ks/\All2 (IsX<|hid O G) l (c.map (·.2))
 |(.bw l,v)=>∃a b,v=some `i/\H a=some (.lst b)/\All2 (IsX<|hid O G) l b
 |(.v<|.ow o,v)=>∃x,v=some x/\OwOk (hid O G) H o x
 |(.bo o,v)=>∃x,v=some x/\OwOk (hid O G) H o x
 |(.ba a l,v)=>v=some `i/\∃b,H a=some (.lst b)/\All2 (IsX<|hid O G) l b
def KvX.toF{w}(h:KvX H k w)(e:SameF H H'):KvX H' k w:=#[h.1,h.2.toF e]
def KvX.to{w}(h:KvX H k w)(e:Same H H'):KvX H' k w:=#[h.1,h.2.to e]
def RowOk.mono(h:RowOk O G H r)(e:SameF (hid O G)<|hid O' c)(b:∀a∈eL r,f a=H a):RowOk O' c f r:=by
 match r,h,b with
 |(.un,_),_,_=>trivial
 |(.pn w,v),h,_=>exact h
 |(.v<|.tr d,v),⟨x,h1,h2⟩,_=>exact#[x,h1,h2.toF e]
 |(.v<|.ol l,v),⟨a,vs,h1,h2,h3⟩,b => subst h1;exact#[a,vs,rfl,by rw[b a<|aE.mpr rfl];exact h2,h3.imp λ_ _ z=>z.toF e]
 |(.v<|.od l,v),⟨a,vs,h1,h2,h3⟩,b => subst h1;exact#[a,vs,rfl,by rw[b a<|aE.mpr rfl];exact h2,h3.imp λ_ _ z=>z.toF e]
 |(.v<|.oq ks l,v),⟨a,vs,h1,h2,hk,h3⟩,b => subst h1;exact#[a,vs,rfl,by rw[b a<|aE.mpr rfl];exact h2,hk,h3.imp λ_ _ z=>z.toF e]
 |(.bw l,v),⟨a,vs,h1,h2,h3⟩,b => subst h1;exact#[a,vs,rfl,by rw[b a<|aE.mpr rfl];exact h2,h3.imp λ_ _ z=>z.toF e]
 |(.v<|.ow o,v),⟨x,h1,h2⟩,b=>exact#[x,h1,OwOk.mono e o x b h2]
 |(.bo o,v),⟨x,h1,h2⟩,b=>exact#[x,h1,OwOk.mono e o x b h2]
 |(.ba a l,v),⟨h1,vs,h2,h3⟩,b=>exact#[h1,vs,by rw[b a<|aE.mpr rfl];exact h2,h3.imp λ_ _ z=>z.toF e]
structure Fm where
 H0:Hp
 Hs:Hp
 B:R9
 sub:Same Hs H0
 nb:∀b∈B,Hs b=none
 ib:∀b∈B,∃o,H0 b=some o
abbrev Fm.vis(F:Fm)(H:Hp):Hp:=ext F.Hs F.H0 H
def FrOk(F:Fm)(r:Rw)(a:Addr):Prop:=match r.1 with
 | .bw _=>a∈F.B
 | .bo _=>a∈F.B\/F.H0 a=none
 | .ba _ _=>a∈F.B
 |_=>F.H0 a=none
def FrOk.or(h:FrOk F r a):a∈F.B\/F.H0 a=none:=by unfold FrOk at h;split at h;exact .inl h;exact h;exact .inl h;exact .inr h
structure Rep(F:Fm)(P:Q8)(H:Hp):Prop where
 nd:(bB P).Nodup
 ok:∀r∈P,RowOk (bB P) (F.vis H) H r
 fr:∀r∈P,∀a∈eL r,FrOk F r a
 kp:∀b o,F.H0 b=some o->b∉F.B->H b=some o
 lv:∀b∈F.B,∃o,H b=some o
section
variable{F:Fm}{P P':Q8}{H j:Hp}{r g:Rw}{d:Dx}{v:V}{a p:Addr}{l l':Q0}{vs m:Q1}{k i:S8}{ws f:S9}{s:Sv}{x:S1}
def iL:bB (r::P)=eL r++bB P:=by unfold bB;rw[List.flatMap_cons]
def nY:bB (P++P')=bB P++bB P':=by unfold bB;rw[iG]
def kY(h:eL r=[a]):bB (r::P)=a::bB P:=by rw[iL,h];rfl
def hr_(h:eL r=[]):bB (r::P)=bB P:=by rw[iL,h];rfl
def sO(h:P.Perm P'):(bB P).Perm<|bB P':=h.flatMap_right _
def Rep.vis(R:Rep F P H):Same `m H:=λb o h=>by
 cases q:F.H0 b with
 |none=>exact nH ((kG q).symm.trans h)
 |some u => have h:=(kA q).symm.trans h;have:=F.sub _ _ h;exact R.kp b o this λz=>by rw[F.nb b z]at h;cases h
def Rep.hv(R:Rep F P H):Same (hid O `m) H:=λb o h=>R.vis b o (bC.mp h).2
def Rep.fresh(R:Rep F P H)(b:H p=none):F.H0 p=none:=by
 cases q:F.H0 p with
 |none=>rfl
 |some o => by_cases c:p∈F.B;obtain⟨u,e⟩:=R.lv p c;rw[b]at e;cases e;rw[R.kp p o q c]at b;cases b
def Rep.perm(R:Rep F P H)(h:P.Perm P'):Rep F P' H:=by have c:=sO h;exact#[c.nodup_iff.mp R.nd,λr b=>(R.ok r<|h.mem_iff.mpr b).mono (.of<|kH λa e=>c.mem_iff.mpr e) λ_ _=>rfl,λr b=>R.fr r<|h.mem_iff.mpr b,R.kp,R.lv]
def Rep.tail(R:Rep F (r::P) H):Rep F P H:=by
 have e:∀a∈bB P,a∈bB (r::P):=λa c=>by rw[iL];exact aG _ c
 refine#[?_,λx b=>(R.ok x<|aC _ b).mono (.of<|kH e) λ_ _=>rfl,λx b=>R.fr x<|aC _ b,R.kp,R.lv];have:=R.nd;exact(bO.mp this).2.1
def f_(h:r∈P)(e:a∈eL r):a∈bB P:=dI.mpr #[r,h,e]
def bDr{b:Type}{x:b}{l}(h:l=[x]):x∈l:=by grind
def eq1{b:Type}{x y:b}{l}(h:l=[x])(c:y∈l):y=x:=by grind
def Rep.own_in(R:Rep F P H)(h:a∈bB P):∃o,H a=some o:=by
 obtain⟨⟨z,v⟩,A,e⟩:=dI.mp h;have t:=R.ok (z,v) A;cases z with
 |v s =>
  cases s with
  |tr d=>exact absurd (show a∈([]:R9)from e) bV
  |ol l => obtain⟨c,vs,q,b,_⟩:=t;cases q;rw[aE.mp<|show a∈[c]from e];exact#[_,b]
  |od l => obtain⟨c,vs,q,b,_⟩:=t;cases q;rw[aE.mp<|show a∈[c]from e];exact#[_,b]
  |oq B l => obtain⟨c,vs,q,b,_⟩:=t;cases q;rw[aE.mp<|show a∈[c]from e];exact#[_,b]
  |ow o => obtain⟨x,q,b⟩:=t;obtain⟨u,y,_⟩:=OwOk.there o x b a e;exact#[u,y]
 |bw l => obtain⟨c,vs,q,b,_⟩:=t;cases q;rw[aE.mp<|show a∈[c]from e];exact#[_,b]
 |bo o => obtain⟨x,q,b⟩:=t;obtain⟨u,y,_⟩:=OwOk.there o x b a e;exact#[u,y]
 |ba c l => obtain⟨_,vs,b,_⟩:=t;rw[aE.mp<|show a∈[c]from e];exact#[_,b]
 |un=>exact absurd (show a∈([]:R9)from e) bV
 |pn _=>exact absurd (show a∈([]:R9)from e) bV
def Rep.not_own(R:Rep F P H)(c:H p=none):p∉bB P:=λz=>by obtain⟨o,b⟩:=R.own_in z;rw[c]at b;cases b
def Rep.grow(R:Rep F P H)(e:Same H j):Rep F P j:=by refine#[R.nd,λr h=>(R.ok r h).mono (.of<|jm_<|ec_ e) λa y=>?_,R.fr,λb o q u=>e _ _<|R.kp b o q u,λb z=>?_];obtain ⟨o,c⟩:=R.own_in<|f_ h y;rw[c,e _ _ c];obtain ⟨o,c⟩:=R.lv b z;exact#[o,e _ _ c]
def Rep.cons0(R:Rep F P H)(c:eL r=[])(h:RowOk (bB P) `m H r):Rep F (r::P) H:=by
 refine#[by rw[hr_ c];exact R.nd,λx b=>?_,λx b a e=>?_,R.kp,R.lv];rw [hr_ c];rcases aF.mp b with rfl | b
 exact h;exact R.ok x b;rcases aF.mp b with rfl | b
 grind;exact R.fr x b a e
def Rep.add(R:Rep F P H)(h:IsX (hid (bB P) `m) d v):Rep F ((vT d,some v)::P) H:=R.cons0 rfl #[v,rfl,h]
def Rep.addU(R:Rep F P H):Rep F ((.un,x)::P) H:=R.cons0 rfl trivial
def Rep.head(R:Rep F ((.v s,x)::P) H):∃v,x=some v/\IsX (hid (bB P) `m) s.d v:=by
 have h:=R.ok _ aA;have y:∀a∈bB P,a∈bB ((.v s,x)::P):=λa G=>by rw[iL];exact aG _ G
 have c:=R.nd;have A:=R.fr _ aA
 match s,h with
 | .tr d,⟨v,h1,h2⟩=>exact#[v,h1,h2.to<|kH y]
 | .ol l,⟨a,vs,h1,h2,h3⟩ => subst h1;have q:F.H0 a=none:=A a<|aE.mpr rfl;rw[kY (a:=a) rfl]at c;exact#[.ref a,rfl,IsX.of_lst (vs:=vs) (bC.mpr #[(bR.mp c).1,(kG q).trans (by rw[h2];rfl)])<|h3.imp λ_ _ z=>z.to<|kH y]
 | .od l,⟨a,vs,h1,h2,h3⟩ => subst h1;have q:F.H0 a=none:=A a<|aE.mpr rfl;rw[kY (a:=a) rfl]at c;exact#[.ref a,rfl,IsX.of_dic (vs:=vs) (.inl<|bC.mpr #[(bR.mp c).1,(kG q).trans (by rw[h2];rfl)])<|h3.imp λ_ _ z=>z.to<|kH y]
 | .oq ks l,⟨a,vs,h1,h2,hk,h3⟩ => subst h1;have q:F.H0 a=none:=A a<|aE.mpr rfl;rw[kY (a:=a) rfl]at c;exact#[.ref a,rfl,IsX.of_dqt (ws:=vs) (.inl<|bC.mpr #[(bR.mp c).1,(kG q).trans (by rw[h2];rfl)]) hk<|h3.imp λ_ _ z=>z.to<|kH y]
 | .ow o,⟨v,h1,h2⟩ => refine#[v,h1,OwOk.tree (.of<|kH y) o v (λb B=>?_) h2];have q:F.H0 b=none:=A b B;obtain⟨u,C,D,_⟩:=OwOk.there o v h2 b B;rw[iL]at c;have E:b∉bB P:=λz=>(bO.mp c).2.2 b B b z rfl;rw[C];refine bC.mpr #[E,(kG q).trans ?_];rw[C];unfold nf;split;rename_i e;cases e;exact absurd rfl<|D _ _;rfl
def Rep.frz(R:Rep F ((.v s,x)::P) H):Rep F ((vT s.d,x)::P) H:=by obtain⟨v,rfl,h⟩:=R.head;exact R.tail.add h
def nK{O}{Hs H0}(y:H p=none){o}(A:H0 p=none):Same (hid O<|ext Hs H0 H)<|hid (p::O)<|ext Hs H0<|upd H p o:=λb u h=>by
 have c:=bC.mp h;have e:b≠p:=λz=>by have:=nH<|(kG A).symm.trans<|z ▸ c.2;rw[y]at this;cases this
 refine bC.mpr #[λz=>(aF.mp z).elim e c.1,?_];cases q:H0 b with
 |none=>exact(kG q).trans ((congrArg nf<|eT e).trans<|(kG q).symm.trans c.2)
 |some w=>exact(kA q).trans<|(kA q).symm.trans c.2
def Rep.new_own(R:Rep F P H)(e:H p=none)(y:eL (.v s,some<|.ref p)=[p])(h:RowOk (p::bB P) (F.vis<|upd H p o) (upd H p o) (.v s,some<|.ref p)):Rep F ((.v s,some<|.ref p)::P)<|upd H p o:=by
 have B:=R.not_own e;have C:=R.fresh e;refine#[by rw[kY y];exact bR.mpr #[B,R.nd],λr c=>?_,λr c a q=>?_,λb o D E=>?_,λb G=>?_];rw [kY y];rcases aF.mp c with rfl | c
 exact h;exact(R.ok r c).mono (.of<|nK e C) λa q=>eT λz=>B<|z ▸ f_ c q;rcases aF.mp c with rfl | c
 cases eq1 y q;exact C;exact R.fr r c a q;have:=R.kp b o D E;rw[eT λz=>by rw[z,e]at this;cases this];exact this;obtain ⟨u,A⟩:=R.lv b G;exact#[u,by rw[eT λz=>by rw[z,e]at A;cases A];exact A]
def Rep.newL(R:Rep F P H)(b:H p=none)(h:All2 (IsX<|hid (bB P) `m) l vs):Rep F ((.v<|.ol l,some<|.ref p)::P)<|upd H p<|.lst vs:=
 R.new_own b rfl #[p,vs,rfl,bZ,h.imp λ_ _ z=>z.to<|nK b<|R.fresh b]
def Rep.newD(R:Rep F P H)(b:H p=none)(h:All2 (KvX<|hid (bB P) `m) k ws):Rep F ((.v<|.od k,some<|.ref p)::P)<|upd H p<|.dK ws:=
 R.new_own b rfl #[p,ws,rfl,bZ,h.imp λ_ _ z=>z.to<|nK b<|R.fresh b]
def Rep.newQ(R:Rep F P H)(c:H p=none)(e:b.map (·.1)=kq)(h:All2 (IsX<|hid (bB P) `m) l (b.map (·.2))):Rep F ((.v<|.oq kq l,some<|.ref p)::P)<|upd H p<|.dT b:=
 R.new_own c rfl #[p,b,rfl,bZ,e,h.imp λ_ _ z=>z.to<|nK c<|R.fresh c]
def Rep.newT(R:Rep F P H)(b:H p=none)(h:All2 (IsX<|hid (bB P) `m) l vs):Rep F ((vT<|.tup l,some<|.ref p)::P)<|upd H p<|.tup vs:=by have e:Same H<|upd H p<|.tup vs:=yQ b _;exact(R.grow e).add<|IsX.of_tup (vs:=vs) (bC.mpr #[R.not_own b,(kG<|R.fresh b).trans (by rw[bZ];rfl)])<|h.imp λ_ _ z=>z.to<|jm_<|ec_ e
def la_:Same (hid (a::O)<|ext Hs H0 H)<|hid (a::O)<|ext Hs H0<|upd H a o:=λb u h=>by
 have c:=bC.mp h;have e:b≠a:=λz=>c.1 (by rw[z];exact aA);refine bC.mpr #[c.1,?_];cases q:H0 b with
 |none=>exact(kG q).trans ((congrArg nf<|eT e).trans<|(kG q).symm.trans c.2)
 |some w=>exact(kA q).trans<|(kA q).symm.trans c.2
def Rep.put(R:Rep F (r::P) H)(A:eL r=[a])(y:eL g=[a])(I:FrOk F r a->FrOk F g a)(h:RowOk (a::bB P) (F.vis<|upd H a o) (upd H a o) g):Rep F (g::P)<|upd H a o:=by
 have B:=R.nd;rw[kY A]at B;have E:=(bR.mp B).1;have C:=R.ok;rw[kY A]at C;have q:=R.fr r aA a<|bDr A;refine#[by rw[kY y];exact B,λx e=>?_,λx e b c=>?_,λb u G D=>?_,λb c=>?_];rw [kY y];rcases aF.mp e with rfl | e
 exact h;exact(C x<|aC _ e).mono (.of la_) λb c=>eT λz=>E<|z ▸ f_ e c;rcases aF.mp e with rfl | e
 cases eq1 y c;exact I q;exact R.fr x (aC _ e) b c;have c:=R.kp b u G D;by_cases z:b=a;subst z;rcases q.or with q | q
 exact absurd q D;grind;rw[eT z];exact c;by_cases z:b=a;subst z;exact#[o,bZ];rw[eT z];exact R.lv b c
def Rep.putD(R:Rep F ((.v<|.od k,some `i)::P) H)(h:All2 (KvX<|hid (a::bB P) `m) i f):Rep F ((.v<|.od i,some `i)::P)<|upd H a<|.dK f:=
 R.put (a:=a) rfl rfl id #[a,f,rfl,bZ,h.imp λ_ _ z=>z.to la_]
def Rep.putQ(R:Rep F ((.v<|.oq kq l,some `i)::P) H)(e:c.map (·.1)=b)(h:All2 (IsX<|hid (a::bB P) `m) l' (c.map (·.2))):Rep F ((.v<|.oq b l',some `i)::P)<|upd H a<|.dT c:=
 R.put (a:=a) rfl rfl id #[a,c,rfl,bZ,e,h.imp λ_ _ z=>z.to la_]
def Rep.atQ(R:Rep F ((.v<|.oq kq l,x)::P) H):∃a ws,x=some `i/\H a=some (.dT ws)/\ws.map (·.1)=kq/\All2 (IsX<|hid (a::bB P) `m) l (ws.map (·.2)):=by obtain⟨a,vs,b,c,h,e⟩:=R.ok _ aA;subst b;exact#[a,vs,rfl,c,h,by rw[<-kY (a:=a) (r:=(.v<|.oq kq l,some `i)) rfl];exact e]
def Rep.atL(R:Rep F ((.v<|.ol l,x)::P) H):∃a vs,x=some `i/\H a=some (.lst vs)/\All2 (IsX<|hid (a::bB P) `m) l vs:=by obtain⟨a,vs,b,c,e⟩:=R.ok _ aA;subst b;exact#[a,vs,rfl,c,by rw[<-kY (a:=a) (r:=(.v<|.ol l,some `i)) rfl];exact e]
def Rep.atB(R:Rep F ((.bw l,x)::P) H):∃a vs,x=some `i/\H a=some (.lst vs)/\All2 (IsX<|hid (a::bB P) `m) l vs:=by obtain⟨a,vs,b,c,e⟩:=R.ok _ aA;subst b;exact#[a,vs,rfl,c,by rw[<-kY (a:=a) (r:=(.bw l,some `i)) rfl];exact e]
def Rep.atD(R:Rep F ((.v<|.od k,x)::P) H):∃a ws,x=some `i/\H a=some (.dK ws)/\All2 (KvX<|hid (a::bB P) `m) k ws:=by obtain⟨a,vs,b,c,e⟩:=R.ok _ aA;subst b;exact#[a,vs,rfl,c,by rw[<-kY (a:=a) (r:=(.v<|.od k,some `i)) rfl];exact e]
def Rep.atT(R:Rep F ((vT d,x)::P) H):∃v,x=some v/\IsX (hid (bB P) `m) d v:=R.head
end
section
variable{f:Q9}{c:St}{i:Nat}{s j:Sl}{v g:S1}
def g_(a:f[i]? = some s)(b:c[i]? = some v):(f.zip c)[i]? = some (s,v):=(cW).mpr #[a,b]
def aSi{a:Type}:∀(l:List a) (i:Nat) (h:i<l.length),l.Perm (l[i]::l.eraseIdx i)
 |x::l,0,_=>.refl _
 |x::l,i+1,h=>((aSi l i<|by simpa using h).cons x).trans<|.swap _ _ _
def m5{a:Type}{l:List a}{x:a}(h:l[i]? = some x):l.Perm (x::l.eraseIdx i):=by obtain⟨b,e⟩:=aK.mp h;subst e;exact aSi l i b
def bu_(a:f[i]? = some s)(b:c[i]? = some v):(f.zip c).Perm ((s,v)::(f.zip c).eraseIdx i):=m5<|g_ a b
def mS:∀{f:Q9} {c:St} (i:Nat),(f.set i s).zip (c.set i v)=(f.zip c).set i (s,v)
 | [],_,_=>by simp
 |_::_,[],_=>by simp
 |a::f,b::c,0=>rfl
 |a::f,b::c,i+1=>by simp only[List.set_cons_succ,List.zip_cons_cons];rw[mS i]
def uH(b:f.length=c.length)(h:i<f.length):((f.set i s).zip<|c.set i v).Perm ((s,v)::(f.zip c).eraseIdx i):=by
 rw[mS];have a:i<(f.zip c).length:=by grind
 have:=m5 (x:=(s,v)) (i:=i) (by rw[gN a]);rwa [List.eraseIdx_set_eq]at this
def oY(h:c[i]? = some v):c.set i v=c:=by obtain⟨a,e⟩:=aK.mp h;subst e;exact List.set_getElem_self a
def cx_(b:f.length=c.length)(h:i<f.length)(a:c[i]? = some v):((f.set i s).zip c).Perm ((s,v)::(f.zip c).eraseIdx i):=by have:=uH (s:=s) (v:=v) b h;rwa [oY a]at this
end
end Lf
namespace L2
open PySem
def PE.weak(h:PE X e t)(w:∀a H Q,u a H Q->t a H Q):PE X e u:=λb s a H Q I q=>h b s a H Q I<|w a H Q q
def PT.weak(h:PT X e t)(w:∀a H Q,u a H Q->t a H Q):PT X e u:=λb s a H Q I q=>h b s a H Q I<|w a H Q q
def PW.weak(h:PW X e t)(w:∀a H Q,u a H Q->t a H Q):PW X e u:=λc b s a H Q I q=>h c b s a H Q I<|w a H Q q
def PA.weak(h:PA X e t)(w:∀a H Q,u a H Q->t a H Q):PA X e u:=λb c s a H Q I q=>h b c s a H Q I<|w a H Q q
def PE.or(h:PE X e t)(h':PE X e u):PE X e<|λa H Q=>t a H Q\/u a H Q:=λb s a H Q I q=>q.elim (h b s a H Q I)<|h' b s a H Q I
end L2
namespace Lf
open PySem L2
abbrev En:=Q9
abbrev XT:=En->(Sv->En->Prop)->Prop
abbrev XC:=En->(Bool->En->Prop)->Prop
abbrev XA:=En->(List Sv->En->Prop)->Prop
structure EOk(F:Fm)(ρ:En)(σ:St)(fr:Q8)(H:Hp):Prop where
 len:ρ.length=σ.length
 rep:Rep F (ρ.zip σ++fr) H
def tX(F:Fm)(t:XT):TE:=λf H Q=>∃e fr c,EOk F e f fr H/\t e c/\∀v s b a,EOk F a f ((.v s,some v)::fr) b->c s a->Q v b
def tXc(F:Fm)(t:XC):TT:=λg H Q=>∃f fr e,EOk F f g fr H/\t f e/\∀b c a,EOk F a g fr c->e b a->Q b c
def kQ(ss:List Sv)(vs:Q1):Q8:=(ss.zip vs).map λp=>(.v p.1,some p.2)
def tXa(F:Fm)(t:XA):TA:=λh H Q=>∃g fr f,EOk F g h fr H/\t g f/\∀c b e a,b.length=c.length->EOk F a h (kQ b c++fr) e->f b a->Q c e
abbrev ExT:=Value->Prop
abbrev cY:ExT:=λ_=>False
def aFs(F:Fm)(H:Hp):Prop:=∀b o,F.H0 b=some o->b∉F.B->H b=some o
def Air(nw:Addr->Prop)(h':Heap)(H:Hp)(a:Addr)(cls:Value):Prop:=nw a/\H a=none/\∃b c,h'.get? a=some b/\b.cls=cls/\b.data=.fields c/\b.dict=none/\1<c.size /\
 (c[1]? = some .none\/∃T e f,c[1]? = some (.ref T)/\T≠a/\nw T/\H T=none/\h'.get? T=some e/\e.data=.fields f/\3<f.size)
def CXe(P:Program)(w:World):CXT:=λa H s E e f=>∃(h:Addr) (c:Value) (g:Hp),e=.ref h/\f.os=s.os/\PyProof.Rows.AllBare f.gens/\Un (frs a) [] H g s.heap f.heap/\HOk P w g f.heap/\Air (λb=>s.heap.get? b=none) f.heap g h c/\E c none g
abbrev NwX(X:Cx)(a:gQ):Addr->Prop:=λb=>(X.s₀.heap.get? b=none\/b∈X.ex)/\∀p∈X.pn++a,p.1≠b
class OkF(X:Cx)(Ex:ExT)(F:Fm):Prop where
 pass1:∀(Aa:gQ) (σ:St) (H:Hp) (s':Shared) (ea:Addr) (cls:Value),Inv X Aa σ H s'->Air (NwX X Aa) s'.heap H ea cls->Ex cls->aFs F H->X.xe (.ref ea) s'
instance{X:Cx}{F:Fm}:OkF X cY F:=⟨λ_ _ _ _ _ _ _ _ h _=>h.elim⟩
def XE(X:Cx)(Ex:ExT)(e:Expr)(t:XT):Prop:=∀F,[OkF X Ex F]->PE X e (tX F t)
def XTe(X:Cx)(Ex:ExT)(e:Expr)(t:XC):Prop:=∀F,[OkF X Ex F]->PT X e (tXc F t)
def XW(X:Cx)(Ex:ExT)(e:Expr)(t:XC):Prop:=∀F,[OkF X Ex F]->PW X e (tXc F t)
def XAs(X:Cx)(Ex:ExT)(a:S3)(t:XA):Prop:=∀F,[OkF X Ex F]->PA X a (tXa F t)
section
variable{F:Fm}{g ρ':En}{f:St}{fr P:Q8}{H i:Hp}{s:Sv}{v x y:V}{a b:Dx}
def mid{c:Type}{x:c}{A B}:(A++x::B).Perm (x::(A++B)):=fH
def EOk.front(E:EOk F g f (r::fr) H):Rep F (r::(g.zip f++fr)) H:=E.rep.perm mid
def EOk.back(c:g.length=f.length)(R:Rep F (r::(g.zip f++fr)) H):EOk F g f (r::fr) H:=#[c,R.perm mid.symm]
def EOk.drop(E:EOk F g f (r::fr) H):EOk F g f fr H:=#[E.len,E.front.tail]
def EOk.one(E:EOk F g f ((.v s,some v)::fr) H):Rep F (g.zip f++fr) H/\IsX (hid (bB<|g.zip f++fr) `m) s.d v:=by obtain⟨c,e,h⟩:=E.front.head;cases e;exact#[E.front.tail,h]
def EOk.two(E:EOk F g f ((.v s2,some h)::(.v s1,some e)::fr) H) :
  Rep F (g.zip f++fr) H/\IsX (hid (bB<|g.zip f++fr) `m) s1.d e/\IsX (hid (bB<|g.zip f++fr) `m) s2.d h:=by
 obtain⟨j,l⟩:=E.drop.one;obtain⟨R2,m⟩:=E.one;refine#[j,l,m.to<|kH λc o=>?_];have:(bB ((.v s1,some e)::(g.zip f++fr))).Perm<|bB (g.zip f++(.v s1,some e)::fr):=mid.symm.flatMap_right _;refine this.mem_iff.mp ?_;exact aG _ o
end
def dC(i:Nat):XT:=λa Q=>match a[i]? with
 |some (.v s)=>Q (.tr s.d) (a.set i<|.v<|.tr s.d)
 |_=>False
def aGu(i:Nat):XT:=λa Q=>match a[i]? with
 |some (.v s)=>Q s (a.set i .un)
 |_=>False
def nM{a:En}{b:St}{i:Nat}(c:a.length=b.length)(h:a[i]? = some s):∃v,b[i]? = some v:=by have:=(aK.mp h).1;exact#[_,aJ<|dF this c]
section
variable{X:Cx}{Ex:ExT}{i:Nat}{x:Str}{a:Pos}
def xJ(E:EOk F ρ σ fr H)(h:ρ[i]? = some s):∃v,σ[i]? = some v/\i<ρ.length/\Rep F ((s,v)::((ρ.zip σ).eraseIdx i++fr)) H:=by obtain⟨v,hv⟩:=nM E.len h;exact#[v,hv,(aK.mp h).1,E.rep.perm<|(bu_ h hv).append_right fr]
def eq_{F}{b:En}{c:St}{fr}{H}{s}{v}(e:b.length=c.length)(f:i<b.length)(hv:c[i]? = some v)(R:Rep F ((s,v)::((b.zip c).eraseIdx i++fr)) H):EOk F (b.set i s) c fr H:=
 #[by rw[bS];exact e,R.perm ((cx_ e f hv).append_right fr).symm]
def aTo(h:PE X (.Name x a)<|fQ i):XE X Ex (.Name x a)<|dC i:=λF=>h.weak λl H Q=>by rintro⟨j,fr,g,E,t,k⟩;unfold dC at t;split at t;rename_i s e;obtain⟨v,hv,c,R⟩:=xJ E e;obtain⟨w,rfl,f⟩:=R.head;refine#[w,hv,k w _ H _ ?_ t];have R2:=R.frz;have b:=R2.add f;exact EOk.back (by rw[bS];exact E.len)<|b.perm<|((cx_ E.len c hv).append_right fr).symm.cons _;exact t.elim
def dp_(h:PE X (.Name x a)<|fQ i):XE X Ex (.Name x a)<|aGu i:=λF=>h.weak λl H Q=>by rintro⟨j,fr,f,E,t,k⟩;unfold aGu at t;split at t;rename_i s e;obtain⟨v,hv,c,R⟩:=xJ E e;obtain⟨w,rfl,g⟩:=R.head;refine#[w,hv,k w _ H _ ?_ t];have b:=(R.addU (x:=some w)).perm<|.swap _ _ _;exact EOk.back (by rw[bS];exact E.len)<|b.perm<|((cx_ E.len c hv).append_right fr).symm.cons _;exact t.elim
end
def xC(d:Dx):XT:=λa Q=>Q (.tr d) a
def aDf(h:PE X e<|tC v)(d:Dx)(a:∀H,IsX H d v):XE X Ex e<|xC d:=λF=>h.weak λf H Q=>by rintro⟨b,fr,c,E,t,k⟩;exact k v _ H b (EOk.back E.len<|E.rep.add<|a _) t
section
variable{X:Cx}{Ex:ExT}
def cZ:XE X Ex (.Constant (.int i) j pos)<|xC<|.int i:=aDf ki_ _ λ_=>IsX.of_int _
def v9:XE X Ex (.Constant (.bool b) j pos)<|xC<|.bl b:=aDf bDd _ λ_=>IsX.of_bl _
def i4:XE X Ex (.Constant .none j pos)<|xC .non:=aDf aWc _ λ_=>IsX.of_non
def lB:XE X Ex (.Constant (.str x) j pos)<|xC<|.str x:=aDf aIw _ λ_=>IsX.of_str _
end
abbrev G2:=Dx->Dx->(Sv->Prop)->Prop
def OpX(r:R2)(g:G2):Prop:=∀(F:Fm) (P:Q8) (H:Hp) (a b:Dx) (x y:V) (Q:VK) (e:Sv->Prop),Rep F P H->IsX (hid (bB P) `m) a x->IsX (hid (bB P) `m) b y->g a b e ->
 (∀v s c,Rep F ((.v s,some v)::P) c->e s->Q v c)->r x y H Q
def xOp(g:G2)(f h:XT):XT:=λi Q=>f i λa c=>h c λb e=>g a.d b.d λs=>Q s e
def mJ(p:OpX r g):∀c H Q,tX F (xOp g ta tb) c H Q->tOp r (tX F ta) (tX F tb) c H Q:=by rintro c H Q ⟨D,fr,j,E,t,k⟩;refine#[D,fr,_,E,t,λv s f b h A=>?_];refine#[b,_,_,h,A,λw y i a e B=>?_];obtain⟨R,m,o⟩:=e.two;exact p F _ i s.d y.d v w Q (λz=>j z a) R m o B λC u f l q=>k C u f a (EOk.back e.len l) q
def xB(t:XT):XC:=λc Q=>t c λs a=>match s with
 | .tr (.bl b)=>Q b a
 |_=>False
def if_(h:∀a H Q,tX F u a H Q->t a H Q):∀a H Q,tXc F (xB u) a H Q->aHk t a H Q:=by rintro a H Q ⟨i,fr,j,E,t,k⟩;refine h _ _ _ #[i,fr,_,E,t,λv s f c e q=>?_];split at q;rename_i b;obtain⟨_,g⟩:=e.one;cases g.bl_eq;exact#[b,rfl,k b f c e.drop q];exact q.elim
section
variable{X:Cx}{Ex:ExT}{a b c e:Expr}{f:Pos}{r m:R2}{g g':G2}{j i l:XT}
def lF(o:OpR X (binaryOp op) r)(p:OpX r g)(ha:XE X Ex a j)(h:XE X Ex b i):XE X Ex (.BinOp a op b f)<|xOp g j i:=λF=>(bDc o (ha F)<|h F).weak<|mJ p
def oF(p:OpR X (compareOp op) r)(q:OpX r g)(ha:XE X Ex a j)(h:XE X Ex b i)(o:behindInMarks op b=false):XE X Ex (.Compare a [op] [b] f)<|xOp g j i:=λF=>(aAo p (ha F) (h F) o).weak<|mJ q
def kT(p:OpR X (compareOp op) r)(q:OpX r g)(ha:XE X Ex a j)(h:XE X Ex b i)(o:behindInMarks op b=false):XTe X Ex (.Compare a [op] [b] f)<|xB<|xOp g j i:=λF=>(vH p (ha F) (h F) o).weak<|if_<|mJ q
def lC(h:XE X Ex e t)(p:∀o,isTrue e X.env o=(do let v <-o;standAt e.pos;holding [v] (truthy v)):=by intro _;rfl):XTe X Ex e<|xB t:=λF=>(aVn (h F) p).weak<|if_ λ_ _ _ z=>z
def aUg(t u:XC):XC:=λo Q=>t o λc h=>if c=true then u h Q else Q false h
def xOr(t u:XC):XC:=λo Q=>t o λc h=>if c=true then Q true h else u h Q
def bHr(t:XC):XC:=λo Q=>t o λc h=>Q (!c) h
def uI(h:XTe X Ex a t):XW X Ex (.BoolOp .And [a] f) t:=λF=>aOe<|h F
def xP(h:XTe X Ex a t):XW X Ex (.BoolOp .Or [a] f) t:=λF=>aVi<|h F
def h_{rest}(h:XTe X Ex a t)(h':XW X Ex (.BoolOp .And (b::rest) f) u):XW X Ex (.BoolOp .And (a::b::rest) f)<|aUg t u:=λF=>(aVj (h F)<|h' F).weak λz H Q=>by
 rintro⟨y,fr,v,E,t,k⟩;refine#[y,fr,_,E,t,λc s o p q=>?_];cases c with
 |true=>exact#[o,fr,v,p,q,k]
 |false=>exact k false s o p q
def xN{rest}(h:XTe X Ex a t)(h':XW X Ex (.BoolOp .Or (b::rest) f) u):XW X Ex (.BoolOp .Or (a::b::rest) f)<|xOr t u:=λF=>(bCw (h F)<|h' F).weak λz H Q=>by
 rintro⟨y,fr,v,E,t,k⟩;refine#[y,fr,_,E,t,λc s o p q=>?_];cases c with
 |true=>exact k true s o p q
 |false=>exact#[o,fr,v,p,q,k]
def qV(h:XTe X Ex a t):XTe X Ex (.UnaryOp .Not a f)<|bHr t:=λF=>(aVo<|h F).weak λy H Q=>by rintro⟨u,fr,v,E,t,k⟩;exact#[u,fr,_,E,t,λc s o p q=>k (!c) s o p q]
def XW.pt(h:XW X Ex e t):XTe X Ex e t:=λF=>(h F).pt
def aGy(t u:XT):XT:=λo Q=>xB t o λc h=>if c=true then u h Q else Q (.tr<|.bl false) h
def bBr(t:XT):XT:=λo Q=>xB t o λc h=>Q (.tr<|.bl<|!c) h
def er_(h:XE X Ex a t):XE X Ex (.BoolOp op [a] f) t:=λF=>aWa<|h F
def dx_{rest}(h:XE X Ex a t)(h':XE X Ex (.BoolOp .And (b::rest) f) u):XE X Ex (.BoolOp .And (a::b::rest) f)<|aGy t u:=λF=>(aWg (h F)<|h' F).weak λC H Q=>by
 rintro⟨B,fr,z,E,t,k⟩;refine#[B,fr,_,E,t,λv s y o p q=>?_];split at q;rename_i c;obtain⟨_,A⟩:=p.one;cases A.bl_eq;refine#[c,rfl,?_];cases c with
 |true=>exact#[o,fr,z,p.drop,q,k]
 |false=>exact k _ _ y o (EOk.back p.len<|p.drop.rep.add<|IsX.of_bl _) q
 exact q.elim
def aTq(h:XE X Ex a t):XE X Ex (.UnaryOp .Not a f)<|bBr t:=λF=>(aWb<|h F).weak λB H Q=>by rintro⟨z,fr,A,E,t,k⟩;refine#[z,fr,_,E,t,λv s u p o q=>?_];split at q;rename_i c;obtain⟨_,y⟩:=o.one;cases y.bl_eq;exact#[c,rfl,k _ _ u p (EOk.back o.len<|o.drop.rep.add<|IsX.of_bl _) q];exact q.elim
end
def eZ:XA:=λa Q=>Q [] a
def cH(t:XT)(u:XA):XA:=λe Q=>t e λs a=>u a λc b=>Q (s::c) b
section
variable{X:Cx}{Ex:ExT}{e:Expr}{a:S3}{t:XT}{u:XA}{b:Pos}
def kF:XAs X Ex [] eZ:=λF=>(fq_ (X:=X)).weak λg H Q=>by rintro⟨c,fr,f,E,t,k⟩;exact k [] [] H c rfl E t
def iW(h:XE X Ex e t)(h':XAs X Ex a u)(l:T5 X e a:=by rfl):XAs X Ex (e::a)<|cH t u:=λF=>(g7 (h F) (h' F) l).weak λB H Q=>by rintro⟨y,fr,A,E,t,k⟩;refine#[y,fr,_,E,t,λv s z c i q=>#[c,_,_,i,q,λr p j f m g o=>?_]];refine k (v::r) (s::p) j f (by rw[aL,aL,m]) #[g.len,g.rep.perm ?_] o;exact List.Perm.append_left _ fH
def EOk.many:∀{ss:List Sv} {vs:Q1},ss.length=vs.length->EOk F f g (kQ ss vs++fr) H->Rep F (f.zip g++fr) H/\All2 (IsX<|hid (bB<|f.zip g++fr) `m) (ss.map Sv.d) vs
 | [],[],_,E=>#[E.rep,rfl]
 | [],_::_,h,_=>by simp at h
 |_::_,[],h,_=>by simp at h
 |s::ss,v::vs,h,E=>by
  have j:EOk F f g ((.v s,some v)::(kQ ss vs++fr)) H:=E;obtain⟨R,m⟩:=EOk.many (ss:=ss) (vs:=vs) (by simpa using h) j.drop;obtain⟨_,o⟩:=j.one;refine#[R,v,vs,rfl,o.to<|kH λc i=>?_,m];have:bB (f.zip g++(kQ ss vs++fr))=bB (f.zip g)++(bB (kQ ss vs)++bB fr):=by unfold bB;rw[iG,iG]
  rw[this];have l:bB (f.zip g++fr)=bB (f.zip g)++bB fr:=by unfold bB;rw[iG]
  rw[l]at i;rcases aV.mp i with i | i
  exact aM _ i;exact aG _<|aG _ i
def aDg(u:XA):XT:=λg Q=>u g λf c=>f.length<=1000000/\Q (.tr<|.tup<|f.map Sv.d) c
def i7(u:XA):XT:=λg Q=>u g λf c=>f.length<=1000000/\Q (.ol<|f.map Sv.d) c
def iM:(1000000:Nat)<sizeLine:=by rw[sizeLine_eq];decide
def jQ(h:XAs X Ex a u):XE X Ex (.Tuple a j b)<|aDg u:=λF=>(aIv<|h F).weak λy H Q=>by rintro⟨o,fr,r,E,t,k⟩;refine#[o,fr,_,E,t,λv s q c g f m=>#[by have:=iM;lia,λp i=>?_]];obtain⟨R,l⟩:=f.many g;exact k _ _ _ c (EOk.back f.len<|R.newT i l) m.2
def mG(h:XAs X Ex a u):XE X Ex (.List a b)<|i7 u:=λF=>(aWd<|h F).weak λv H Q=>by rintro⟨m,fr,q,E,t,k⟩;refine#[m,fr,_,E,t,λs r o c g f l=>#[by have:=iM;lia,λp i=>?_]];obtain⟨R,j⟩:=f.many g;exact k _ _ _ c (EOk.back f.len<|R.newL i j) l.2
end
def gI(f:Int->Int->Dx):G2
 | .int i,.int j,Q=>Q (.tr<|f i j)
 |_,_,_=>False
def gIC(C:Int->Int->Prop)(f:Int->Int->Dx):G2
 | .int i,.int j,Q=>C i j/\Q (.tr<|f i j)
 |_,_,_=>False
def sQ{fd}(h:∀H i j,IsX H (fd i j)<|f i j):OpX (rI0 f)<|gI fd:=by intro F P H a b x y Q l R c e g k;unfold gI at g;split at g;cases c.int_eq; cases e.int_eq;exact#[_,_,rfl,rfl,k _ _ H (R.add<|h _ _ _) g];exact g.elim
def vP{fd}(h:∀H i j,IsX H (fd i j)<|f i j):OpX (rI C f)<|gIC C fd:=by intro F P H a b x y Q l R c e g k;unfold gIC at g;split at g;cases c.int_eq; cases e.int_eq;exact#[_,_,rfl,rfl,g.1,k _ _ H (R.add<|h _ _ _) g.2];exact g.elim
abbrev bIi:G2:=gI λi j=>.int<|i-j
abbrev bFh:G2:=gIC aMp λi j=>.int<|i/j
abbrev aEi:G2:=gIC (λ_ j=>0<j) λi j=>.int<|i%j
abbrev bIq:G2:=gIC aMo λi j=>.int<|i^j.toNat
abbrev ltX:G2:=gI λi j=>.bl<|decide (i<j)
abbrev leX:G2:=gI λi j=>.bl<|decide (i<=j)
abbrev gtX:G2:=gI λi j=>.bl<|decide (j<i)
abbrev geX:G2:=gI λi j=>.bl<|decide (j<=i)
def oi{f:Int->Int->Int}:∀H i j,IsX H (.int<|f i j)<|.int<|f i j:=λ_ _ _=>IsX.of_int _
def ob{f:Int->Int->Bool}:∀H i j,IsX H (.bl<|f i j)<|.bl<|f i j:=λ_ _ _=>IsX.of_bl _
def aMl:G2
 | .int i,.int j,Q=>Q (.tr<|.int<|i+j)
 | .str i,.str j,Q=>i.length+j.length<=1000000/\Q (.tr<|.str<|i++j)
 | .lst l,.lst m,Q=>l.length+m.length<=1000000/\Q (.ol<|l++m)
 |_,_,_=>False
def bDp:G2
 | .int i,.int j,Q=>CMulB i j/\Q (.tr<|.int<|i*j)
 | .lst l,.int j,Q=>(j<=1000000 /\ -1000000<=j/\l.length*j.toNat<=1000000)/\Q (.ol (List.replicate j.toNat l).flatten)
 | .str z,.int j,Q=>(z.length<=1000/\0<=j/\j<=1000)/\Q (.tr<|.str<|Txt.mul z j)
 |_,_,_=>False
section
variable{X:Cx}{Ex:ExT}{a b e:Expr}{c:Pos}{i f:XT}
def lS(ha:XE X Ex a i)(h:XE X Ex b f):XE X Ex (.BinOp a .Add b c)<|xOp aMl i f:=lF (aWu.or<|m9.or aWs) (by intro F P H a b x y Q z R ha h g k;unfold aMl at g;split at g;cases ha.int_eq; cases h.int_eq;exact .inl #[_,_,rfl,rfl,k _ _ H (R.add<|IsX.of_int _) g];cases ha.str_eq; cases h.str_eq;exact .inr<|.inl #[_,_,rfl,rfl,by have:=iM;lia,k _ _ H (R.add<|IsX.of_str _) g.2];obtain ⟨p,u,rfl,o,j⟩:=ha.lst_eq;obtain⟨q,v,rfl,r,m⟩:=h.lst_eq;refine .inr<|.inr #[p,q,u,v,rfl,rfl,R.hv _ _ o,R.hv _ _ r,by rw[j.len,m.len];have:=iM;lia,λl s=>k _ _ _ (R.newL s<|All2.app m j) g.2];exact g.elim) ha h
def uG{l:List α}{m:List β}(h:All2 g l m):∀n,All2 g (List.replicate n l).flatten (List.replicate n m).flatten
 | 0=>rfl
 |n+1=>by rw[fA,fA,List.flatten_cons,List.flatten_cons];exact All2.app (uG h n) h
def es_(ha:XE X Ex a i)(h:XE X Ex b f):XE X Ex (.BinOp a .Mult b c)<|xOp bDp i f:=lF (aOz.or<|aWo.or m7) (by intro F P H a b x y Q s R ha h g k;unfold bDp at g;split at g;cases ha.int_eq; cases h.int_eq;exact .inl #[_,_,rfl,rfl,g.1,k _ _ H (R.add<|IsX.of_int _) g.2];obtain ⟨p,r,rfl,o,j⟩:=ha.lst_eq;cases h.int_eq;obtain⟨⟨u,v,z⟩,m⟩:=g;refine .inr<|.inl #[p,_,r,rfl,rfl,R.hv _ _ o,by lia,by lia,by rw[j.len];have:=iM;lia,λl q=>k _ _ _ (R.newL q<|uG j _) m];cases ha.str_eq; cases h.int_eq;exact .inr<|.inr #[_,_,rfl,rfl,g.1.1,g.1.2.1,g.1.2.2,k _ _ H (R.add<|IsX.of_str _) g.2];exact g.elim) ha h
def fc_(ha:XE X Ex a i)(g:XE X Ex b f):XE X Ex (.BinOp a .Sub b c)<|xOp bIi i f:=lF aWm (sQ oi) ha g
def mW(ha:XE X Ex a i)(g:XE X Ex b f):XE X Ex (.BinOp a .FloorDiv b c)<|xOp bFh i f:=lF aJj (vP oi) ha g
def qU(ha:XE X Ex a i)(g:XE X Ex b f):XE X Ex (.BinOp a .Mod b c)<|xOp aEi i f:=lF aWq (vP oi) ha g
def aTp(ha:XE X Ex a i)(g:XE X Ex b f):XE X Ex (.BinOp a .Pow b c)<|xOp bIq i f:=lF aWp (vP oi) ha g
end
def kj_:OpX (rI0 λi j=>.bl<|decide (i<j)) ltX:=sQ ob
def lK:OpX (rI0 λi j=>.bl<|decide (i<=j)) leX:=sQ ob
def aAs:OpX (rI0 λi j=>.bl<|decide (j<i)) gtX:=sQ ob
def aSl:OpX (rI0 λi j=>.bl<|decide (j<=i)) geX:=sQ ob
def eqS:Dx->Dx->Option Bool
 | .int i,.int j=>some (decide (i=j))
 | .str i,.str j=>some (decide (i=j))
 | .bl i,.bl j=>some (decide (i=j))
 | .non,.non=>some true
 | .non,.int _=>some false | .int _,.non=>some false | .non,.bl _=>some false | .bl _,.non=>some false | .non,.str _=>some false | .str _,.non=>some false
 | .int _,.str _=>some false | .str _,.int _=>some false | .bl _,.str _=>some false | .str _,.bl _=>some false
 | .lst l,.lst []=>some l.isEmpty
 |_,_=>none
def eqX:G2:=λa b Q=>match eqS a b with
 |some c=>Q (.tr<|.bl c)
 |none=>False
def neX:G2:=λa b Q=>match eqS a b with
 |some c=>Q (.tr<|.bl<|!c)
 |none=>False
def scV:Dx->S1
 | .int i=>some (.int i)
 | .str i=>some (.str i)
 | .bl i=>some (.bl i)
 | .non=>some .non
 |_=>none
def jw_(h:IsX H d x)(e:scV d=some v):x=v:=by cases d<;>simp only[scV,Option.some.injEq]at e<;>first | (subst e;first | exact h.int_eq | exact h.str_eq | exact h.bl_eq | exact h.non_eq) | cases e
def b7(h:eqS a b=some c):(∃l,a=.lst l/\b=.lst []/\c=l.isEmpty)\/∃x y,scV a=some x/\scV b=some y/\aVe x y=true/\decide (x=y)=c:=by
 unfold eqS at h;split at h<;>(try simp only[Option.some.injEq]at h)<;>first
  |(subst h;exact .inr #[_,_,rfl,rfl,rfl,by simp])
  |(subst h;exact .inl #[_,rfl,rfl,rfl])
  |cases h
section
variable{K:dN}
def aIe(K:dN)(n:Bool):R2:=λx y H Q=>∃p b a,x=.ref p/\y=.ref b/\SqL K H p a/\SqL K H b []/\Q (.bl (if n then !a.isEmpty else a.isEmpty)) H
def aSm:OpX (λx y H Q=>rEq x y H Q\/aIe K false x y H Q) eqX:=by
 intro F P H a b x y Q C R f h g k;unfold eqX at g;split at g;rename_i c q;rcases b7 q with⟨l,rfl,rfl,rfl⟩ | ⟨u,w,i,j,m,o⟩
 obtain ⟨p,e,rfl,s,v⟩:=f.lst_eq;obtain⟨r,B,rfl,z,A⟩:=h.lst_eq;cases(A);refine .inr #[p,r,e,rfl,rfl,SqL.of<|R.hv _ _ s,SqL.of<|R.hv _ _ z,k _ (.tr<|.bl l.isEmpty) H (R.add ?_) g];have:e.isEmpty=l.isEmpty:=by have:=v.len;cases e<;>cases l<;>simp at this ⊢
 simp only[IsX,this];rfl;cases jw_ f i; cases jw_ h j;exact .inl #[m,k _ _ H (R.add (by rw[o];exact IsX.of_bl _)) g];exact g.elim
def bDe:OpX (λx y H Q=>rNe x y H Q\/aIe K true x y H Q) neX:=by
 intro F P H a b x y Q C R f h g k;unfold neX at g;split at g;rename_i c q;rcases b7 q with⟨l,rfl,rfl,rfl⟩ | ⟨u,w,i,j,m,o⟩
 obtain ⟨p,e,rfl,s,v⟩:=f.lst_eq;obtain⟨r,B,rfl,z,A⟩:=h.lst_eq;cases(A);refine .inr #[p,r,e,rfl,rfl,SqL.of<|R.hv _ _ s,SqL.of<|R.hv _ _ z,k _ (.tr<|.bl<|!l.isEmpty) H (R.add ?_) g];have:e.isEmpty=l.isEmpty:=by have:=v.len;cases e<;>cases l<;>simp at this ⊢
 simp only[IsX,this];rfl;cases jw_ f i; cases jw_ h j;exact .inl #[m,k _ _ H (R.add (by rw[o];exact IsX.of_bl _)) g];exact g.elim
end
section
variable{X:Cx}{Ex:ExT}(K:dN)(h:X.K=K)
theorem m8(a:X.A.units<cLine)(h:X.K=K:=by rfl):OpR X (compareOp .Eq)<|λx y H Q=>rEq x y H Q\/aIe K false x y H Q:=by subst h;exact bDi.or<|aJk a
theorem aJi(a:X.A.units<cLine)(h:X.K=K:=by rfl):OpR X (compareOp .NotEq)<|λx y H Q=>rNe x y H Q\/aIe K true x y H Q:=by subst h;exact bDh.or<|aJh a
end
def aPz(a:Bool):G2
 | .non,.non,Q=>Q (.tr<|.bl !a)
 |_,.non,Q=>Q (.tr<|.bl a)
 |_,_,_=>False
def aKu(h:IsX H a x)(ha:a ≠ .non):¬x=.non:=by
 intro z;subst z;cases a with
 |non=>exact ha rfl
 |bl _=>cases h.bl_eq
 |int _=>cases h.int_eq
 |str _=>cases h.str_eq
 |tup _=>obtain⟨_,_,e,_⟩:=h.tup_eq;cases e
 |lst _=>obtain⟨_,_,e,_⟩:=h.lst_eq;cases e
 |dic _=>obtain⟨_,_,e,_⟩:=h.dic_eq;cases e
 |scr _ _=>obtain⟨_,e,_⟩:=h.scr_eq;cases e
 |ins _ _=>obtain⟨_,_,_,e,_⟩:=h.ins_eq;cases e
 |exc _=>obtain⟨_,e,_⟩:=h.exc_eq;cases e
 |dqt _ _=>obtain⟨_,_,e,_⟩:=h.dqt_eq;cases e
def aWi:OpX (λx y H Q=>y=.non/\Q (.bl<|decide (x=.non)) H)<|aPz false:=by intro F P H a b x y Q h R c e g k;unfold aPz at g;split at g;cases c.non_eq; cases e.non_eq;exact#[rfl,k _ _ H (R.add<|IsX.of_bl _) g];rename_i f;cases e.non_eq;exact#[rfl,k _ _ H (R.add (by rw[dzF<|aKu c λz=>f z];exact IsX.of_bl _)) g];exact g.elim
def aOv:OpX (λx y H Q=>y=.non/\Q (.bl<|!decide (x=.non)) H)<|aPz true:=by intro F P H a b x y Q h R c e g k;unfold aPz at g;split at g;cases c.non_eq; cases e.non_eq;exact#[rfl,k _ _ H (R.add<|IsX.of_bl _) g];rename_i f;cases e.non_eq;exact#[rfl,k _ _ H (R.add (by rw[dzF<|aKu c λz=>f z];exact IsX.of_bl _)) g];exact g.elim
def ixX:G2
 | .lst l,.int i,Q=>(match atI l i with | some d=>Q (.tr d) | none=>False)
 | .tup l,.int i,Q=>(match atI l i with | some d=>Q (.tr d) | none=>False)
 | .str z,.int i,Q=>z.length<=1000000/\(match atI z.cps.toList i with | some c=>Q (.tr<|.str #[[c].toArray]) | none=>False)
 |_,_,_=>False
def qX{m:List β}{d:α}(h:All2 g l m)(e:atI l i=some d):∃v,atI m i=some v/\g d v:=by unfold atI at e ⊢;rw[h.len];obtain⟨j,a,b⟩:=bP.mp e;obtain⟨v,c,f⟩:=h.at b;exact#[v,bP.mpr #[j,a,c],f]
def bDf:OpX (λx y H Q=>aId K x y H Q\/aVh K x y H Q\/bCv x y H Q) ixX:=by intro F P H a b x y Q r R j l g k;unfold ixX at g;split at g;obtain ⟨p,o,rfl,e,f⟩:=j.lst_eq;cases l.int_eq;split at g;rename_i d m;obtain⟨v,h,i⟩:=qX f m;exact .inl #[p,o,_,v,rfl,rfl,SqL.of<|R.hv _ _ e,h,k _ _ H (R.add i) g];exact g.elim;obtain ⟨p,o,rfl,e,f⟩:=j.tup_eq;cases l.int_eq;split at g;rename_i d m;obtain⟨v,h,i⟩:=qX f m;exact .inr<|.inl #[p,o,_,v,rfl,rfl,SqT.of<|R.hv _ _ e,h,k _ _ H (R.add i) g];exact g.elim;cases j.str_eq; cases l.int_eq;obtain⟨s,g⟩:=g;split at g;rename_i c q;exact .inr<|.inr #[_,_,c,rfl,rfl,by have:=iM;lia,q,k _ _ H (R.add<|IsX.of_str _) g];exact g.elim;exact g.elim
def IxR.or(h:IxR X r)(h':IxR X r'):IxR X<|λx y H Q=>r x y H Q\/r' x y H Q:=λa b c s i H x y v u Q I f g q e=>q.elim (λq=>h a b c s i H x y v u Q I f g q e) λq=>h' a b c s i H x y v u Q I f g q e
def aRv(K:dN)(ha:XE X Ex a ta)(c:XE X Ex b tb)(e:jX b)(h:X.K=K:=by rfl):XE X Ex (.Subscript a b pos)<|xOp ixX ta tb:=λF =>
 (yX (IxR.or (zM K h)<|IxR.or (aBr K h) aZm) (ha F) (c F) e).weak (mJ bDf)
def fR(l:S8)(k:Key):Option Dx:=(l.find? λp=>decide (p.1=k)).map (·.2)
def hv_:∀{l} {ws},All2 (KvX G) l ws->(fR l k=none/\kP ws k=none)\/∃d v,fR l k=some d/\kP ws k=some v/\IsX G d v
 | [],_,h=>by rw[show _=[]from h];exact .inl #[rfl,rfl]
 |p::l,_,⟨w,wr,e,⟨h1,h2⟩,h3⟩=>by
  rw[e];by_cases a:p.1=k;refine .inr #[p.2,w.2,?_,hg_<|h1 ▸ a,h2];unfold fR;rw[dW,dzT a];rfl;rw [hh_<|h1 ▸ a];have:fR (p::l) k=fR l k:=by unfold fR;rw[dW,dzF a]
  rw[this];exact hv_ h3
def wE:Dx->Option Key
 | .int i=>some (.inl i)
 | .str x=>some (.inr x)
 |_=>none
def iq_(h:IsX H d x)(e:wE d=some k):x=kV k:=by cases d<;>simp only[wE,Option.some.injEq]at e<;>first | (subst e;first | exact h.int_eq | exact h.str_eq) | cases e
def dgX:G2:=λa b Q=>match a,wE b with
 | .dic l,some k=>(match fR l k with | some d=>Q (.tr d) | none=>False)
 |_,_=>False
def bAh(c:Bool):G2:=λa b Q=>match wE a,b with
 |some k,.dic l=>Q (.tr (.bl (if c then !(fR l k).isSome else(fR l k).isSome)))
 |_,_=>False
def DGet.rd(e:Rd H a<|.dK kvs):DGet H a (kV k)<|kP kvs k:=.inl #[kvs,k,e,rfl,rfl]
def sI{P}(R:Rep F P H)(h:Rd (hid O `m) a u):Rd H a u:=by
 rcases h with h | ⟨o,h⟩
 exact .inl<|R.hv _ _ h;exact .inr #[o,R.hv _ _ h]
def aOw:OpX (λx y H Q=>∃a v,x=.ref a/\DGet H a y (some v)/\Q v H) dgX:=by
 intro F P H a b x y Q s R h i g k;unfold dgX at g;split at g;rename_i l m j;obtain⟨p,A,rfl,e,f⟩:=h.dic_eq;cases iq_ i j;split at g;rename_i d c;rcases hv_ (k:=m) f with⟨z,_⟩ | ⟨u,v,o,q,r⟩
 grind;rw [o] at c; cases c;exact#[p,v,rfl,by rw[<-q];exact DGet.rd<|sI R e,k _ _ H (R.add r) g];exact g.elim;exact g.elim
def aWk(c:Bool):OpX (λy x H Q=>∃a o,x=.ref a/\DGet H a y o/\Q (.bl (if c then !o.isSome else o.isSome)) H)<|bAh c:=by
 intro F P H a b x y Q s R m q g k;unfold bAh at g;split at g;rename_i h l r;obtain⟨p,z,rfl,i,j⟩:=q.dic_eq;cases iq_ m r;refine#[p,_,rfl,DGet.rd (k:=h)<|sI R i,k _ _ H (R.add ?_) g];rcases hv_ (k:=h) j with⟨e,f⟩ | ⟨u,v,e,f,A⟩
 rw[e,f];simp only[IsX];rfl;rw[e,f];simp only[IsX];rfl;exact g.elim
section
variable{X:Cx}{Ex:ExT}{a b o i:Expr}{c:Pos}{f e:XT}
def ff_(l:X.A.units+1<cLine)(ha:XE X Ex o f)(g:XE X Ex i e)(j:aRt i):XE X Ex (.Subscript o i c)<|xOp dgX f e:=λF=>(aAn l (ha F) (g F) j).weak λm H Q h=>mJ aOw m H Q h
def aTw(l:X.A.units+1<cLine)(ha:XE X Ex i f)(g:XE X Ex o e)(j:behindInMarks .In o=false):XE X Ex (.Compare i [.In] [o] c)<|xOp (bAh false) f e:=λF=>(aWf (aJe l (ha F)<|g F) j).weak λm H Q h=>mJ (aWk false) m H Q h
def bBx:XT:=λg Q=>Q (.od []) g
def aNh:XE X Ex (.Dict [] [] c) bBx:=λF=>(aIy (X:=X)).weak λl H Q=>by rintro⟨h,fr,j,E,t,k⟩;exact λp g=>k _ _ _ h (EOk.back E.len<|E.rep.newD g All2.nil) t
end
abbrev GC:=Q0->(Sv->Prop)->Prop
def jM(r:Q1->Hp->VK->Prop)(g:GC):Prop:=∀(F:Fm) (P:Q8) (H:Hp) (c:Q0) (e:Q1) (Q:VK) (b:Sv->Prop),Rep F P H->All2 (IsX<|hid (bB P) `m) c e->g c b ->
 (∀v s a,Rep F ((.v s,some v)::P) a->b s->Q v a)->r e H Q
def gD(g:GC)(u:XA):XT:=λc Q=>u c λb a=>g (b.map Sv.d) λs=>Q s a
def aRz(m:jM r g):∀b H Q,tX F (gD g u) b H Q->tCB r (tXa F u) b H Q:=by rintro b H Q ⟨y,fr,h,E,t,k⟩;refine#[y,fr,_,E,t,λp z f a j c o=>?_];obtain⟨R,l⟩:=c.many j;exact m F _ f _ p Q (λs=>h s a) R l o λv s e i q=>k v s e a (EOk.back c.len i) q
section
variable{X:Cx}{Ex:ExT}{e:Expr}{b:S3}{x:Str}{p a:Pos}{r:Q1->Hp->VK->Prop}{g:GC}{u:XA}{c T:String}
def d4(i:CallR X (.builtin c) r)(q:jM r g)(l:Gl X x)(m:X.mg x=none)(hv:bootBuiltins x=some (.builtin c))(ha:XAs X Ex (e::b) u)(o:x ≠ "__name__":=by decide)(h:T3 x:=by decide)
  (j:T5 X e b:=by rfl) (f:T6 X a b:=by rfl):XE X Ex (.Call (.Name x p) (e::b) [] a)<|gD g u:=λF=>(ji_ i l m hv (ha F) o h j f).weak<|aRz q
def he_(i:CallR X (.type T) r)(q:jM r g)(l:Gl X x)(m:X.mg x=none)(hv:bootBuiltins x=some (.type T))(ha:XAs X Ex (e::b) u)(o:x ≠ "__name__":=by decide)(h:T3 x:=by decide)
  (j:T5 X e b:=by rfl) (f:T6 X a b:=by rfl):XE X Ex (.Call (.Name x p) (e::b) [] a)<|gD g u:=λF=>(sM i l m hv (ha F) o h j f).weak<|aRz q
end
def f7{a:α}{xs:List β}(h:All2 g [a] xs):∃x,xs=[x]/\g a x:=by obtain⟨x,e,rfl,b,c⟩:=h;cases(c);exact#[x,rfl,b]
def xM{a b:α}{xs:List β}(h:All2 g [a,b] xs):∃x y,xs=[x,y]/\g a x/\g b y:=by obtain⟨x,i,rfl,c,e⟩:=h;obtain⟨y,rfl,f⟩:=f7 e;exact#[x,y,rfl,c,f]
def aKg:GC
 | [.lst l],Q=>Q (.tr<|.int l.length)
 | [.tup l],Q=>Q (.tr<|.int l.length)
 | [.str z],Q=>z.length<=1000000/\Q (.tr<|.int z.length)
 | [.dic l],Q=>Q (.tr<|.int l.length)
 |_,_=>False
abbrev aVg(K:dN):Q1->Hp->VK->Prop:=λc H Q=>(∃p e,c=[.ref p]/\(SqL K H p e\/SqT K H p e)/\Q (.int e.length) H)\/(∃z,c=[.str z]/\z.length<=sizeLine/\Q (.int z.length) H)\/(∃a b,c=[V.ref a]/\Rd H a (.dK b)/\Q (.int b.length) H)
def tY(K:dN)(h:X.K=K:=by rfl):CallR X (.builtin "len")<|aVg K:=by subst h;refine jU.or<|xG.or ?_;intro g s m H l j Q I r h;obtain⟨a,b,rfl,e,q⟩:=h;obtain⟨u,rfl,f⟩:=jK r;cases f;exact bFr I e λt i c=>#[.int b.length,H,c,#[t,rfl],q]
def bAl:jM (aVg K) aKg:=by intro F P H j l Q i R h g k;unfold aKg at g;split at g;obtain ⟨x,rfl,b⟩:=f7 h;obtain⟨a,f,rfl,c,e⟩:=b.lst_eq;exact .inl #[a,f,rfl,.inl<|SqL.of<|R.hv _ _ c,k _ _ H (R.add (by rw[e.len];exact IsX.of_int _)) g];obtain ⟨x,rfl,b⟩:=f7 h;obtain⟨a,f,rfl,c,e⟩:=b.tup_eq;exact .inl #[a,f,rfl,.inr<|SqT.of<|R.hv _ _ c,k _ _ H (R.add (by rw[e.len];exact IsX.of_int _)) g];obtain ⟨x,rfl,b⟩:=f7 h;cases b.str_eq;exact .inr<|.inl #[_,rfl,by have:=iM;lia,k _ _ H (R.add<|IsX.of_int _) g.2];obtain ⟨x,rfl,b⟩:=f7 h;obtain⟨a,f,rfl,c,e⟩:=b.dic_eq;exact .inr<|.inr #[a,f,rfl,sI R c,k _ _ H (R.add (by rw[e.len];exact IsX.of_int _)) g];exact g.elim
def bNp:GC
 | [.int i],Q=>Q (.tr<|.int i)
 | [.bl b],Q=>Q (.tr (.int (if b then 1 else 0)))
 |_,_=>False
def bLj:GC
 | [.lst l],Q=>Q (.ol l)
 | [.tup l],Q=>Q (.ol l)
 |_,_=>False
def aHj:GC
 | [.lst l],Q=>Q (.tr<|.tup l)
 | [.tup l],Q=>Q (.tr<|.tup l)
 |_,_=>False
def t6(K:dN)(h:X.K=K:=by rfl):CallR X (.type "list") (λxs H Q=>∃p ys,xs=[.ref p]/\(SqL K H p ys\/SqT K H p ys)/\∀l,H l=none->Q (.ref l) (upd H l<|.lst ys)):=by subst h;exact xE
def c9(K:dN)(h:X.K=K:=by rfl):CallR X (.type "tuple") (λxs H Q=>∃p ys,xs=[.ref p]/\((SqL K H p ys/\∀l,H l=none->Q (.ref l) (upd H l<|.tup ys))\/(SqT K H p ys/\Q (.ref p) H))):=by subst h;exact rQ
def aMb:jM (λxs H Q=>∃p ys,xs=[.ref p]/\((SqL K H p ys/\∀l,H l=none->Q (.ref l) (upd H l<|.tup ys))\/(SqT K H p ys/\Q (.ref p) H))) aHj:=by intro F P H m xs Q j R h g k;unfold aHj at g;split at g;obtain ⟨x,rfl,e⟩:=f7 h;obtain⟨a,f,rfl,b,c⟩:=e.lst_eq;exact#[a,f,rfl,.inl #[SqL.of<|R.hv _ _ b,λl i=>k _ _ _ (R.newT i c) g]];obtain ⟨x,rfl,e⟩:=f7 h;obtain⟨a,f,rfl,b,c⟩:=e.tup_eq;exact#[a,f,rfl,.inr #[SqT.of<|R.hv _ _ b,k _ _ H (R.add<|IsX.of_tup b c) g]];exact g.elim
inductive Ty where
 |bool | int | str | tuple | list | dict
def Ty.nm:Ty->String
 | .bool => "bool" | .int => "int" | .str => "str" | .tuple => "tuple" | .list => "list" | .dict => "dict"
def tyN:Dx->String
 | .non => "NoneType" | .bl _ => "bool" | .int _ => "int" | .str _ => "str" | .tup _ => "tuple" | .lst _ => "list" | .dic _ => "dict" | .scr _ _ => "list" | .ins _ _ => "object" | .exc _ => "object" | .dqt _ _ => "dict"
def isT:Ty->Dx->Bool
 | .bool,.bl _=>true
 | .int,.int _=>true
 | .int,.bl _=>true
 | .str,.str _=>true
 | .tuple,.tup _=>true
 | .list,.lst _=>true
 | .dict,.dic _=>true
 | .list,.scr _ _=>true
 |_,_=>false
def kX:Dx->Prop
 | .scr _ _=>False
 | .ins _ _=>False
 | .exc _=>False
 | .dqt _ _=>False
 |_=>True
def aPt(b:kX d):PySem.W.kitOne K (.type<|tyN d) (.type n.nm)=some (isT n d):=by
 have h:∀T∈["NoneType","bool","int","str","tuple","list","dict"],∀n:Ty,PySem.W.kitOne K (.type T) (.type n.nm)=some (T == n.nm||(n.nm == "int" && T == "bool")):=by
  intro T a n;simp only[aF,bV,or_false]at a;rcases a with rfl | rfl | rfl | rfl | rfl | rfl | rfl<;>cases n<;>first
   |exact aKo _
   |exact aZb `c `c `c
 rw[h _ (by cases d<;>first | exact b.elim | simp[tyN]) n];cases d<;>cases n<;>first | rfl | exact b.elim
def aEt{X:Cx}{m:gQ}{r:St}{H:Hp}{s:Shared}{A:Around}{E:iE}{Q:iE}{b:Bool}{c:Value}{d:Dx}{x:V}{u:Value}(I:Inv X m r H s)(g:RelV x u)(i:IsX H d x)(j:kX d)(e:PySem.W.kitOne X.K (.type<|tyN d) c=some b)(h:∀tk,Q (.bool b) { s with toks:=tk }) :
  wpAny `d A (call (.builtin "isinstance") [u,c]) Q E s:=by
 cases d with
 |non=>cases i.non_eq;exact dt_ I g .non e h
 |bl _=>cases i.bl_eq;exact dt_ I g (.bl _) e h
 |int _=>cases i.int_eq;exact dt_ I g (.int _) e h
 |str _=>cases i.str_eq;exact dt_ I g (.str _) e h
 |tup _=>obtain⟨a,l,rfl,f,_⟩:=i.tup_eq;exact dt_ I g (.tup f) e h
 |lst _=>obtain⟨a,l,rfl,f,_⟩:=i.lst_eq;exact dt_ I g (.lst f) e h
 |dic _ =>
  obtain⟨a,l,rfl,f,_⟩:=i.dic_eq;rcases f with f | ⟨ob,f⟩
  exact dt_ I g (.dK f) e h;cases (show u=Value.ref a from g);obtain⟨_,_,_,_,_,p⟩:=(show ObjOk X.prog X.w H s.heap a (.frz ob<|.dK l)from I.hok a _ f);obtain⟨o,y,v,f,q,_⟩:=p;exact PySem.W.kia_one PySem.W.kitx_dict I.kIn #[o,f,q.1] e (λz=>nomatch z) h
 |scr _ _=>exact j.elim
 |ins _ _=>exact j.elim
 |exc _=>exact j.elim
 |dqt _ _=>exact j.elim
def aMh(n:Ty):CallR X (.builtin "isinstance") (λxs H Q=>∃x d,xs=[x,.ty n.nm]/\IsX H d x/\kX d/\Q (.bl<|isT n d) H):=by intro f s j H xs g Q I r h;obtain⟨x,d,rfl,b,a,q⟩:=h;obtain⟨u,i,rfl,c,e⟩:=aHe r;cases(e);exact aEt I c b a (aPt a)<|λtk=>#[.bl _,H,I.tok _,rfl,q]
def xIs(n:Ty)(t:XT):XT:=λb Q=>t b λs a=>match s.d with
 | .scr _ _=>False
 | .ins _ _=>False
 | .exc _=>False
 | .dqt _ _=>False
 |d=>Q (.tr<|.bl<|isT n d) a
def aDe{p q a:Pos}(n:Ty)(r:X.mg "isinstance" = none)(h:XE X Ex e t)(m:PE X (.Name nm q)<|tC<|.ty n.nm)(o:Gl X "isinstance":=by rfl)
  (f:starEach [e,.Name nm q] X.env=(false,eval e X.env)::starEach [.Name nm q] X.env:=by rfl) (j:starEach [.Name nm q] X.env=(false,eval (.Name nm q) X.env)::starEach [] X.env:=by rfl) (i:(backTo a<|starEach [.Name nm q] X.env).any (·.1)=false:=by rfl):XE X Ex (.Call (.Name "isinstance" p) [e,.Name nm q] [] a)<|xIs n t:=λF =>
 (ji_ (aMh n) o r rT (g7 (h F) (g7 m fq_ j) f) `a `a f i).weak fun A H Q=>by
  rintro⟨u,fr,y,E,t,k⟩;refine#[u,fr,_,E,t,λv s l b c q=>?_];obtain⟨R,g⟩:=c.one;generalize z:s.d=d at q g;cases d with
  |scr _ _=>exact q.elim
  |ins _ _=>exact q.elim
  |exc _=>exact q.elim
  |dqt _ _=>exact q.elim
  |_=>exact#[v,_,rfl,g.to R.hv,trivial,k _ _ l b (EOk.back c.len<|R.add<|IsX.of_bl _) q]
def Cal(P:Program)(w:World)(K:dN)(mg:mH)(base:Heap)(j:Nat)(x:Str)(ps:Q3)(sp:Sp):Prop:=∃f fd,FnOk P w K mg base CX0 j f fd ps sp/\Binds K fd ps []/\PySem.W.keepIn K (.ref f)=true/\mg x=some (.ref f)
def vN{p pos}(C:Cal X.prog X.w X.K X.mg X.base j x ps sp)(l:Room j X.A)(ha:PA X (e::a) t)(i:Gl X x:=by rfl)(g:T3 x:=by decide)
  (h:T5 X e a:=by rfl) (c:T6 X pos a:=by rfl):PE X (.Call (.Name x p) (e::a) [] pos)<|z9 sp [] E0 t:=by
 obtain⟨f,fd,G,b,k,m⟩:=C;exact aAp G l i m k b .nil aAq ha g h c
def aCz(e H b:Hp):Sv->V->Prop
 | .tr d,v=>IsX (ext e H b) d v
 | .ol l,v=>∃a f,v=.ref a/\H a=none/\b a=some (.lst f)/\All2 (IsX<|hid [a] (ext e H b)) l f
 | .od l,v=>∃a c,v=.ref a/\H a=none/\b a=some (.dK c)/\All2 (KvX<|hid [a] (ext e H b)) l c
 | .oq ks l,v=>∃a c,v=.ref a/\H a=none/\b a=some (.dT c)/\c.map (·.1)=ks/\All2 (IsX<|hid [a] (ext e H b)) l (c.map (·.2))
 | .ow o,v=>o.fp.Nodup/\(∀a∈o.fp,H a=none)/\OwOk (hid o.fp<|ext e H b) b o v
def spX(g:GC):Sp:=λf H Q _=>∃b e c,Same b H/\All2 (IsX b) e f/\g e c/\∀s v a,Same H a->aCz b H a s v->c s->Q v a
section
variable{F:Fm}{P:Q8}{H c:Hp}{a:Addr}{s:Sv}{v:V}
def wR(R:Rep F P H)(e:Same H c):Same (ext (hid (bB P) `m) H c)<|hid (bB P)<|F.vis c:=λb o f=>by
 cases q:H b with
 |none => rw[kG q]at f;exact bC.mpr #[R.not_own q,(kG<|R.fresh q).trans f]
 |some u => rw[kA q]at f;exact jm_ (ec_ e) _ _ f
def Rep.adopt(R:Rep F P H)(e:Same H c)(ha:H a=none)(j:eL (.v s,some `i)=[a])(h:RowOk (a::bB P) (F.vis c) c (.v s,some `i)):Rep F ((.v s,some `i)::P) c:=by
 have p:=R.not_own ha;have u:=R.fresh ha;have l:=R.grow e;refine#[by rw[kY j];exact bR.mpr #[p,R.nd],λr f=>?_,λr f b g=>?_,l.kp,l.lv];rw [kY j];rcases aF.mp f with rfl | f
 exact h;refine (R.ok r f).mono (.of fun b o g => ?_) fun b g => ?_;have i:=bC.mp g;have q:b≠a:=λz=>by have:=R.vis _ _ i.2;rw[z,ha]at this;cases this
 exact bC.mpr #[λz=>(aF.mp z).elim q i.1,ec_ e _ _ i.2];obtain ⟨o,m⟩:=R.own_in<|f_ f g;rw[m,e _ _ m];rcases aF.mp f with rfl | f
 cases eq1 j g;exact u;exact R.fr r f b g
def Rep.adoptW(R:Rep F P H)(e:Same H c)(A:o.fp.Nodup)(ha:∀a∈o.fp,H a=none)(h:OwOk (hid (o.fp++bB P)<|F.vis c) c o v):Rep F ((.v<|.ow o,some v)::P) c:=by
 have l:=R.grow e;have m:bB ((.v<|.ow o,some v)::P)=o.fp++bB P:=iL;have q:∀a∈o.fp,a∉bB P:=λa j=>R.not_own<|ha a j;refine#[?_,λr f=>?_,λr f b g=>?_,l.kp,l.lv];rw [m];exact bO.mpr #[A,R.nd,λa j b y z=>q a j<|z ▸ y];rw [m];rcases aF.mp f with rfl | f
 exact#[v,rfl,h];refine (R.ok r f).mono (.of fun b u g => ?_) fun b g => ?_;have i:=bC.mp g;refine bC.mpr #[λz=>(aV.mp z).elim (λz=>?_) i.1,ec_ e _ _ i.2];have:=R.vis _ _ i.2;rw[ha b z]at this;cases this;obtain ⟨u,p⟩:=R.own_in<|f_ f g;rw[p,e _ _ p];rcases aF.mp f with rfl | f
 exact R.fresh<|ha b g;exact R.fr r f b g
def qJ(R:Rep F P H)(e:Same H c)(ha:H a=none):Same (hid [a] (ext (hid (bB P) `m) H c))<|hid (a::bB P)<|F.vis c:=λb o g=>by have f:=bC.mp g;have:=bC.mp<|wR R e _ _ f.2;exact bC.mpr #[λz=>(aF.mp z).elim (λz=>f.1 (by rw[z];exact aA)) this.1,this.2]
def Rep.res(R:Rep F P H)(e:Same H c)(h:aCz (hid (bB P) `m) H c s v):Rep F ((.v s,some v)::P) c:=by
 match s,h with
 | .tr d,h=>exact(R.grow e).add (IsX.to h<|wR R e)
 | .ol l,⟨a,vs,h1,h2,h3,h4⟩ => subst h1;exact R.adopt e h2 rfl #[a,vs,rfl,h3,h4.imp λ_ _ z=>z.to<|qJ R e h2]
 | .od l,⟨a,vs,h1,h2,h3,h4⟩ => subst h1;exact R.adopt e h2 rfl #[a,vs,rfl,h3,h4.imp λ_ _ z=>z.to<|qJ R e h2]
 | .oq ks l,⟨a,vs,h1,h2,h3,hk,h4⟩ => subst h1;exact R.adopt e h2 rfl #[a,vs,rfl,h3,hk,h4.imp λ_ _ z=>z.to<|qJ R e h2]
 | .ow o,⟨h1,h2,h3⟩ => refine R.adoptW e h1 h2<|OwOk.mono (.of λb u g=>?_) o v (λ_ _=>rfl) h3;have f:=bC.mp g;have:=bC.mp<|wR R e _ _ f.2;exact bC.mpr #[λz=>(aV.mp z).elim f.1 this.1,this.2]
end
def aNi{p pos}(C:Cal X.prog X.w X.K X.mg X.base j x ps<|spX g)(b:Room j X.A)(ha:XAs X Ex (e::a) u)(o:Gl X x:=by rfl)(i:T3 x:=by decide)
  (m:T5 X e a:=by rfl) (h:T6 X pos a:=by rfl):XE X Ex (.Call (.Name x p) (e::a) [] pos)<|gD g u:=λF=>(vN C b (ha F) o i m h).weak λJ H Q=>by
 rintro⟨A,fr,D,E,t,k⟩;refine#[A,fr,_,E,t,λI G B c r f z=>?_];obtain⟨R,y⟩:=f.many r;rw[aU];exact#[_,_,_,R.hv,y,z,λs v l e b q=>k v s l c (EOk.back f.len<|R.res e b) q]
abbrev GB:=Q0->Q0->(Dx->Q0->Prop)->Prop
def spB(g:GB):Sp:=λm H Q _=>∃p j l i a f e,m=.ref p::i/\H p=some (.lst j)/\Same a H/\a p=none/\All2 (IsX a) l j/\All2 (IsX a) f i/\g l f e /\
 ∀d v h c b,SameX p H b->b p=some (.lst c)->All2 (IsX<|hid [p] (ext a H b)) h c->IsX (ext a H b) d v->e d h->Q v b
def iJ:Sl->Option (Q0×(Q0->Sl))
 | .bw l=>some (l,.bw)
 | .ba a l=>some (l,.ba a)
 | .v (.ol l)=>some (l,λb=>.v<|.ol b)
 |_=>none
def kJ(g:GB)(i:Nat)(u:XA):XT:=λb Q=>((b[i]?).bind iJ).isSome=true/\u b λe a=>match (a[i]?).bind iJ with
 |some (l,f)=>g l (e.map Sv.d) λd c=>Q (.tr d) (a.set i<|f c)
 |none=>False
section
variable{F:Fm}{P:Q8}{H c:Hp}{a p:Addr}{s:Sv}{v:V}{r f:Rw}
def Rep.called(R:Rep F (r::P) H)(C:eL r=[p])(y:eL f=[p])(L:FrOk F r p->FrOk F f p)(e:SameX p H c)(M:∃o,c p=some o)(h:RowOk (p::bB P) (F.vis c) c f):Rep F (f::P) c:=by
 have D:=R.nd;rw[kY C]at D;have I:=(bR.mp D).1;have E:=R.ok;rw[kY C]at E;have j:=R.fr r aA p<|bDr C;have J:Same (hid (p::bB P) `m)<|hid (p::bB P)<|F.vis c:=λb o g=>by
  have l:=bC.mp g;have A:b≠p:=λz=>l.1 (by rw[z];exact aA);refine bC.mpr #[l.1,?_];cases q:F.H0 b with
  |none=>exact(kG q).trans (kn_ ((kG q).symm.trans l.2) λo h=>e.get A h)
  |some u=>exact(kA q).trans<|(kA q).symm.trans l.2
 refine#[by rw[kY y];exact D,λx i=>?_,λx i b g=>?_,λb u B G=>?_,λb g=>?_];rw [kY y];rcases aF.mp i with rfl | i
 exact h;refine (E x<|aC _ i).mono (.of J) fun b g => ?_;have A:b≠p:=λz=>I<|z ▸ f_ i g;obtain⟨o,m⟩:=R.own_in<|f_ (aC _ i) g;rw[m,e.get A m];rcases aF.mp i with rfl | i
 cases eq1 y g;exact L j;exact R.fr x (aC _ i) b g;have g:=R.kp b u B G;by_cases z:b=p;subst z;rcases j.or with j | j
 exact absurd j G;rw[j]at B;cases B;exact e.get z g;by_cases z:b=p;subst z;exact M;obtain ⟨o,m⟩:=R.lv b g;exact#[o,e.get z m]
def r9(R:Rep F (r::P) H)(m:eL r=[p])(e:SameX p H c):Same (ext (hid (bB (r::P)) `m) H c)<|hid (bB (r::P))<|F.vis c:=λb o i=>by
 have l:p∈bB (r::P):=by rw[kY m];exact aA
 cases q:H b with
 |none => rw[kG q]at i;exact bC.mpr #[R.not_own q,(kG<|R.fresh q).trans i]
 |some u =>
  rw[kA q]at i;have g:=bC.mp i;have j:b≠p:=λz=>g.1 (by rw[z];exact l);refine bC.mpr #[g.1,?_];cases q:F.H0 b with
  |none=>exact(kG q).trans (kn_ ((kG q).symm.trans g.2) λo h=>e.get j h)
  |some u=>exact(kA q).trans<|(kA q).symm.trans g.2
end
def jj_{P}(h:iJ sl=some (l,f))(R:Rep F ((sl,x)::P) H):∃p ws,x=some (.ref p)/\H p=some (.lst ws)/\eL (sl,some<|.ref p)=[p]/\All2 (IsX<|hid (p::bB P) `m) l ws /\
  ∀l',eL (f l',some<|.ref p)=[p]/\(FrOk F (sl,some<|.ref p) p->FrOk F (f l',some<|.ref p) p)/\∀{O} {G j} {i},j p=some (.lst i)->All2 (IsX<|hid O G) l' i->RowOk O G j (f l',some<|.ref p):=by
 match sl,h with
 | .bw l,h => cases h;obtain⟨p,ws,c,e,g⟩:=R.atB;exact#[p,ws,c,e,rfl,g,λl'=>#[rfl,id,λa b=>#[p,_,rfl,a,b]]]
 | .v (.ol l),h => cases h;obtain⟨p,ws,c,e,g⟩:=R.atL;exact#[p,ws,c,e,rfl,g,λl'=>#[rfl,id,λa b=>#[p,_,rfl,a,b]]]
 | .ba a l,h => cases h;obtain⟨c,ws,e,g⟩:=R.ok _ aA;subst c;exact#[a,ws,rfl,e,rfl,by rw[<-kY (a:=a) (r:=(.ba a l,some `i)) rfl];exact g,λl'=>#[rfl,id,λa b=>#[rfl,_,a,b]]]
def aAa{F:Fm}{c:En}{h:St}{fr:Q8}{u:Hp}{i:Nat}{l ds:Q0}{f:Q0->Sl}{g:GB}{vs:Q1}{Qx:Sv->En->Prop}{Q:VK}{E:XK}(A:EOk F c h fr u)(m:(c[i]?).bind iJ=some (l,f))(n:All2 (IsX<|hid (bB<|c.zip h++fr)<|F.vis u) ds vs)(q2:g l ds λd l'=>Qx (.tr d)<|c.set i<|f l')(k:∀v s r ρ',EOk F ρ' h ((.v s,some v)::fr) r->Qx s ρ'->Q v r):∃p,h[i]? = some (some<|V.ref p)/\spB g (.ref p::vs) u Q E:=by obtain⟨C,G,S⟩:=bP.mp m;obtain⟨v',y,M,R2⟩:=xJ A G;obtain⟨p,ws,R,T,j,U,W⟩:=jj_ S R2;cases R;have X:(bB<|c.zip h++fr).Perm<|bB ((C,some<|V.ref p)::((c.zip h).eraseIdx i++fr)):=((bu_ G y).append_right fr).flatMap_right _;have B:∀a∈bB ((C,some<|V.ref p)::((c.zip h).eraseIdx i++fr)),a∈bB (c.zip h++fr):=λa Y=>X.mem_iff.mpr Y;refine#[p,y,p,ws,l,vs,hid (bB ((C,some<|V.ref p)::((c.zip h).eraseIdx i++fr)))<|F.vis u,_,_,rfl,T,R2.hv,?_,?_,n.imp λ_ _ z=>z.to<|kH B,q2,λd w l' a0 r e H L Z q=>?_];unfold hid;rw[if_pos (by rw[kY j];exact aA)];rw [kY j];exact U;obtain ⟨I,t,x⟩:=W l';have D:=r9 R2 j e;have N:=R2.called j I t e #[_,H] (x H (L.imp λ_ _ z=>z.to λb o m=>by have J:=bC.mp m;have:=D _ _ J.2;rw[kY j]at this;exact this));refine k w (.tr d) r _ (EOk.back (by rw[bS];exact A.len) ?_) q;have O:=N.add (d:=d) (v:=w) (Z.to λb o m=>by have:=D _ _ m;rw[kY j]at this;rw[kY I];exact this);exact O.perm<|((cx_ A.len M y).append_right fr).symm.cons _
def aGo{p pos}(C:Cal X.prog X.w X.K X.mg X.base j x ps<|spB g)(G:Room j X.A)(hv:PE X e<|fQ i)(ha:XAs X Ex a u)(B:Gl X x:=by rfl)(q:T3 x:=by decide)
  (m:T5 X e a:=by rfl) (o:T6 X pos a:=by rfl):XE X Ex (.Call (.Name x p) (e::a) [] pos)<|kJ g i u:=λF=>(vN C G (g7 hv (ha F) m) B q m o).weak λn H Q=>by
 rintro⟨J,fr,O,E,⟨t0,t⟩,k⟩;obtain⟨⟨W,T⟩,s⟩:=cL.mp t0;obtain⟨N,y,z⟩:=bP.mp s;obtain⟨v,hv,U,r⟩:=xJ E y;obtain⟨p,_,rfl,_⟩:=jj_ z r;refine#[.ref p,hv,J,fr,_,E,t,λd Z M L D h b=>?_];obtain⟨R,I⟩:=h.many D;split at b;rename_i l f A;obtain⟨Y,c,S⟩:=aAa #[h.len,R] A I b k;rw[hv]at c;cases c;rw[aU];exact S;exact b.elim
end Lf
variable{X:L2.Cx}{Ex:Lf.ExT}
namespace L2
open PySem
def PI.weak(h:PI X tg e t)(w:∀a H Q,u a H Q->t a H Q):PI X tg e u:=λb s a H Q I q=>h b s a H Q I<|w a H Q q
def PCs.weak(h:PCs X e t)(w:∀a H Q,u a H Q->t a H Q):PCs X e u:=λb s a H Q I q=>h b s a H Q I<|w a H Q q
end L2
namespace Lf
open PySem L2
abbrev XI:=En->(Q0->En->Prop)->Prop
structure ItX(F:Fm)(J:It)(row:Q8)(ds:Q0):Prop where
 go:∀P H i d,Rep F (row++P) H->ds[i]? = some d->J.go i H
 stop:∀P H i,Rep F (row++P) H->ds.length<=i->J.stop i H
 yld:∀P H i d x H',Rep F (row++P) H->ds[i]? = some d->J.yld i H x H'->Rep F ((vT d,some x)::(row++P)) H'
def tXi(F:Fm)(t:XI):TI:=λh H R=>∃g fr e,EOk F g h fr H/\t g e/\∀J c b a f,EOk F b h (a++fr) c->ItX F J a f->e f b->R J c
def XIt(X:Cx)(Ex:ExT)(b a:Expr)(t:XI):Prop:=∀F,[OkF X Ex F]->PI X b a (tXi F t)
def xiL(t:XT):XI:=λb Q=>t b λs a=>match s.d with
 | .lst l=>Q l a
 |_=>False
def xiT(t:XT):XI:=λb Q=>t b λs a=>match s.d with
 | .tup l=>Q l a
 |_=>False
def aKq{F}{K}{a}{l}:ItX F (Itl K a) [(vT<|.lst l,some `i)] l where
 go:=λP H i d R j=>by obtain⟨v,e,h⟩:=R.atT;cases e;obtain⟨_,f,e,b,c⟩:=h.lst_eq;cases e;obtain⟨x,g,_⟩:=c.at j;exact#[f,x,SqL.of<|R.hv _ _ b,g]
 stop:=λP H i R o=>by obtain⟨v,e,h⟩:=R.atT;cases e;obtain⟨_,f,e,b,c⟩:=h.lst_eq;cases e;exact#[f,SqL.of<|R.hv _ _ b,by rw[c.len];exact o]
 yld:=λP H i d x p R j q=>by obtain⟨rfl,q⟩:=q;obtain⟨v,e,h⟩:=R.atT;cases e;obtain⟨_,f,e,b,c⟩:=h.lst_eq;cases e;obtain⟨y,g,m⟩:=c.at j;rw[q f<|SqL.of<|R.hv _ _ b]at g;cases g;exact R.add m
def aPw{F}{K}{a}{l}:ItX F (Itt K a) [(vT<|.tup l,some `i)] l where
 go:=λP H i d R j=>by obtain⟨v,e,h⟩:=R.atT;cases e;obtain⟨_,f,e,b,c⟩:=h.tup_eq;cases e;obtain⟨x,g,_⟩:=c.at j;exact#[f,x,SqT.of<|R.hv _ _ b,g]
 stop:=λP H i R o=>by obtain⟨v,e,h⟩:=R.atT;cases e;obtain⟨_,f,e,b,c⟩:=h.tup_eq;cases e;exact#[f,SqT.of<|R.hv _ _ b,by rw[c.len];exact o]
 yld:=λP H i d x p R j q=>by obtain⟨rfl,q⟩:=q;obtain⟨v,e,h⟩:=R.atT;cases e;obtain⟨_,f,e,b,c⟩:=h.tup_eq;cases e;obtain⟨y,g,m⟩:=c.at j;rw[q f<|SqT.of<|R.hv _ _ b]at g;cases g;exact R.add m
section
variable{g l a b:Expr}{t:XT}{u:XA}{p f:Pos}
def jL(h:XE X Ex l t):XIt X Ex g l<|xiL t:=λF=>(aAk<|h F).weak λI H R=>by rintro⟨B,fr,C,E,t,k⟩;refine#[B,fr,_,E,t,λv s r j o q=>?_];split at q;rename_i m z;have i:=o.front.frz;rw[z]at i;obtain⟨G,e,h⟩:=i.atT;cases e;obtain⟨c,A,rfl,y,D⟩:=h.lst_eq;exact#[c,rfl,#[A,SqL.of<|i.hv _ _ y],k _ r j [(vT<|.lst m,some<|.ref c)] m (EOk.back o.len i) aKq q];exact q.elim
def aTm(h:XE X Ex l t):XIt X Ex g l<|xiT t:=λF=>(aVx<|h F).weak λI H R=>by rintro⟨B,fr,C,E,t,k⟩;refine#[B,fr,_,E,t,λv s r j o q=>?_];split at q;rename_i m z;have i:=o.front.frz;rw[z]at i;obtain⟨G,e,h⟩:=i.atT;cases e;obtain⟨c,A,rfl,y,D⟩:=h.tup_eq;exact#[c,rfl,#[A,SqT.of<|i.hv _ _ y],k _ r j [(vT<|.tup m,some<|.ref c)] m (EOk.back o.len i) aPw q];exact q.elim
def gZ(c:Int)(n:Nat):Q0:=(List.range n).map λk:Nat=>.int<|c+(k:Int)
def vB(h:(gZ lo n)[i]? = some d):i<n/\d=.int (lo+i):=by unfold gZ at h;rw[bI]at h;obtain⟨k,j,m⟩:=cV.mp h;obtain⟨c,e⟩:=aK.mp j;rw[List.getElem_range]at e;rw[bY]at c;subst e;exact#[c,m.symm]
def tE{F}{lo}{n}:ItX F (Itr lo n) [] (gZ lo n)where
 go:=λP H i d R c=>(vB c).1
 stop:=λP H i R e=>by unfold gZ at e;rw[aB,bY]at e;exact e
 yld:=λP H i d x h R c q=>by obtain⟨rfl,rfl⟩:=q;rw[(vB c).2];exact R.add<|IsX.of_int _
def bBl(u:XA):XI:=λh Q=>u h λe c=>match e.map Sv.d with
 | [.int j]=>(-(2^62)<=j/\j<2^62)/\Q (gZ 0 j.toNat) c
 |_=>False
def bHm(u:XA):XI:=λh Q=>u h λe c=>match e.map Sv.d with
 | [.int i,.int j]=>(-(2^62)<=i/\i<2^62 /\ -(2^62)<=j/\j<2^62)/\Q (gZ i (j-i).toNat) c
 |_=>False
def cf_(s:X.mg "range" = none)(ha:XAs X Ex [a] u)(m:Gl X "range":=by rfl)(c:starEach [a] X.env=[(false,eval a X.env)]:=by rfl):XIt X Ex g (.Call (.Name "range" p) [a] [] f)<|bBl u:=λF=>(aDw m s (ha F) c).weak λC H R=>by rintro⟨y,fr,z,E,t,k⟩;refine#[y,fr,_,E,t,λB A i e r h q=>?_];obtain⟨R,c⟩:=h.many r;split at q;rename_i j o;rw[o]at c;obtain⟨x,rfl,v⟩:=f7 c;cases v.int_eq;exact#[j,rfl,q.1.1,q.1.2,k _ i e [] _ #[h.len,R] tE q.2];exact q.elim
def hd_(v:X.mg "range" = none)(ha:XAs X Ex [a,b] u)(o:Gl X "range":=by rfl)(c:starEach [a,b] X.env=[(false,eval a X.env),(false,eval b X.env)]:=by rfl)(hs2:starEach [b] X.env=[(false,eval b X.env)]:=by rfl):XIt X Ex g (.Call (.Name "range" p) [a,b] [] f)<|bHm u:=λF=>(aDv o v (ha F) c hs2).weak λI H R=>by rintro⟨B,fr,C,E,t,k⟩;refine#[B,fr,_,E,t,λG D m e s h q=>?_];obtain⟨R,c⟩:=h.many s;split at q;rename_i i j r;rw[r]at c;obtain⟨x,y,rfl,z,A⟩:=xM c;cases z.int_eq;cases A.int_eq;exact#[i,j,rfl,q.1,k _ m e [] _ #[h.len,R] tE q.2];exact q.elim
def jJ(l m:Q0):Q0:=List.zipWith (λa b=>.tup [a,b]) l m
def xiZ(u:XA):XI:=λh Q=>u h λe c=>match e.map Sv.d with
 | [.lst l,.lst m]=>Q (jJ l m) c
 |_=>False
def aFa(l:Q0):Q0:=jJ (gZ 0 l.length) l
def xiE(u:XA):XI:=λh Q=>u h λe c=>match e.map Sv.d with
 | [.lst l]=>Q (aFa l) c
 |_=>False
def mT{l m}{i:Nat}(h:(jJ l m)[i]? = some d):∃a b,l[i]? = some a/\m[i]? = some b/\d=.tup [a,b]:=by
 unfold jJ at h;rw[List.getElem?_zipWith]at h;cases c:l[i]? with
 |none=>rw[c]at h;cases h
 |some a =>
  cases e:m[i]? with
  |none=>rw[c,e]at h;cases h
  |some b=>rw[c,e]at h;exact#[a,b,rfl,rfl,(ozI h).symm]
def aPv{F}{K}{a b}{l m}:ItX F (Itz false false K a b) [(vT<|.lst l,some `i),(vT<|.lst m,some<|.ref b)] (jJ l m)where
 go:=λP H i d R I=>by obtain⟨v,e,h⟩:=R.atT;cases e;obtain⟨_,A,e,o,r⟩:=h.lst_eq;cases e;obtain⟨v,e,j⟩:=R.tail.atT;cases e;obtain⟨_,B,e,s,z⟩:=j.lst_eq;cases e;obtain⟨c,L,E,G,_⟩:=mT I;obtain⟨x,C,_⟩:=r.at E;obtain⟨y,D,_⟩:=z.at G;exact#[A,B,x,y,SqL.of<|R.hv _ _ o,SqL.of<|R.hv _ _ s,C,D]
 stop:=λP H i R J=>by obtain⟨v,e,h⟩:=R.atT;cases e;obtain⟨_,A,e,o,r⟩:=h.lst_eq;cases e;obtain⟨v,e,j⟩:=R.tail.atT;cases e;obtain⟨_,B,e,s,z⟩:=j.lst_eq;cases e;refine#[A,B,SqL.of<|R.hv _ _ o,SqL.of<|R.hv _ _ s,?_];unfold jJ at J;rw[List.length_zipWith]at J;rw[r.len,z.len];exact Std.min_le.mp J
 yld:=λP H i d x T R I q=>by obtain⟨p,x,y,rfl,O,rfl,q⟩:=q;obtain⟨v,e,h⟩:=R.atT;cases e;obtain⟨_,A,e,o,r⟩:=h.lst_eq;cases e;obtain⟨v,e,j⟩:=R.tail.atT;cases e;obtain⟨_,B,e,s,z⟩:=j.lst_eq;cases e;obtain⟨c,L,E,G,rfl⟩:=mT I;obtain⟨U,C,M⟩:=r.at E;obtain⟨W,D,N⟩:=z.at G;obtain⟨Q,S⟩:=q A B (SqL.of<|R.hv _ _ o)<|SqL.of<|R.hv _ _ s;rw[Q]at C;cases C;rw[S]at D;cases D;exact R.newT O #[_,_,rfl,M,_,_,rfl,N,rfl]
def aKs{F}{K}{a}{l}:ItX F (Ite K a) [(vT<|.lst l,some `i)] (aFa l)where
 go:=λP H i d R z=>by obtain⟨v,e,h⟩:=R.atT;cases e;obtain⟨_,o,e,j,m⟩:=h.lst_eq;cases e;obtain⟨c,C,A,s,_⟩:=mT z;obtain⟨y,r,_⟩:=m.at s;exact#[o,y,SqL.of<|R.hv _ _ j,r]
 stop:=λP H i R B=>by obtain⟨v,e,h⟩:=R.atT;cases e;obtain⟨_,o,e,j,m⟩:=h.lst_eq;cases e;refine#[o,SqL.of<|R.hv _ _ j,?_];unfold aFa jJ gZ at B;rw[List.length_zipWith,aB,bY]at B;rw[m.len];lia
 yld:=λP H i d x G R z q=>by obtain⟨p,x,rfl,E,rfl,q⟩:=q;obtain⟨v,e,h⟩:=R.atT;cases e;obtain⟨_,o,e,j,m⟩:=h.lst_eq;cases e;obtain⟨c,C,A,s,rfl⟩:=mT z;obtain⟨I,r,D⟩:=m.at s;rw[q o<|SqL.of<|R.hv _ _ j]at r;cases r;rw[(vB A).2];exact R.newT E #[_,_,rfl,by rw[show(0:Int)+(i:Int)=i from iC _];exact IsX.of_int _,_,_,rfl,D,rfl]
def i0(I:X.mg "zip" = none)(ha:XAs X Ex [a,b] u)(C:Gl X "zip":=by rfl)(e:starEach [a,b] X.env=[(false,eval a X.env),(false,eval b X.env)]:=by rfl)(hs2:starEach [b] X.env=[(false,eval b X.env)]:=by rfl) :
  XIt X Ex (.Tuple es kk tpos) (.Call (.Name "zip" p) [a,b] [] f) (xiZ u):=λF=>(aVw (t1:=false) (t2:=false) C I (ha F) e hs2).weak λO H R=>by
 rintro⟨J,fr,L,E,t,k⟩;refine#[J,fr,_,E,t,λN M r h G i q=>?_];obtain⟨R,e⟩:=i.many G;split at q;rename_i l m D;rw[D]at e;obtain⟨x,y,rfl,j,o⟩:=xM e;obtain⟨c,v,rfl,A,_⟩:=j.lst_eq;obtain⟨d,z,rfl,B,_⟩:=o.lst_eq;have s:=(R.add o).add j;exact#[c,d,rfl,#[v,SqL.of<|R.hv _ _ A],#[z,SqL.of<|R.hv _ _ B],k _ r h [(vT<|.lst l,some<|.ref c),(vT<|.lst m,some<|.ref d)] _ #[i.len,s.perm<|(mid.symm.cons _).trans mid.symm] aPv q];exact q.elim
def aNd(z:X.mg "enumerate" = none)(ha:XAs X Ex [a] u)(s:Gl X "enumerate":=by rfl)(e:starEach [a] X.env=[(false,eval a X.env)]:=by rfl) :
  XIt X Ex (.Tuple es kk tpos) (.Call (.Name "enumerate" p) [a] [] f) (xiE u):=λF=>(aOn s z (ha F) e).weak λG H R=>by
 rintro⟨A,fr,B,E,t,k⟩;refine#[A,fr,_,E,t,λD C m h y i q=>?_];obtain⟨R,e⟩:=i.many y;split at q;rename_i l v;rw[v]at e;obtain⟨x,rfl,j⟩:=f7 e;obtain⟨c,o,rfl,r,_⟩:=j.lst_eq;exact#[c,rfl,#[o,SqL.of<|R.hv _ _ r],k _ m h [(vT<|.lst l,some<|.ref c)] _ (EOk.back i.len<|R.add j) aKs q];exact q.elim
end
abbrev XG:=Dx->En->(En->Prop)->Prop
def GX(n:Nat)(g:TG)(j:XG):Prop:=∀(F:Fm) (h:En) (c:St) (fr:Q8) (H:Hp) (d:Dx) (x:V) (Q:St->Hp->Prop) (f:En->Prop),EOk F h c ((vT d,some x)::fr) H->j d h f ->
 (∀a e b,EOk F b a fr e->a.length=c.length->(∀i,n<=i->a[i]? = c[i]?)->f b->Q a e)->g x c H Q
def gxN(i:Nat):XG:=λd a Q=>Q<|a.set i<|vT d
def ft_(E:EOk F ρ σ ((.v s,some x)::fr) H):EOk F (ρ.set i<|.v s) (σ.set i<|some x) fr H:=by by_cases a:i<ρ.length;refine #[by rw [bS,bS]; exact E.len,?_];have b:=m5 (l:=ρ.zip σ) (i:=i)<|aJ (by rw[dU];have:=E.len;lia);have R:=E.front.perm<|(b.append_right fr).cons _;exact(R.perm<|.swap _ _ _).tail.perm ((uH E.len a).append_right fr).symm;rw [eK<|iB a,eK (by have:=E.len; lia)];exact E.drop
def tZ(h:i<n):GX n (kL i)<|gxN i:=λF c e fr H d x Q a E g k=>k _ H _ (ft_ E) (bS) (λj b=>cS `b) g
@[reducible] def aQe:R8->TGs
 | []=>aQl
 |i::is=>aCb (kL i)<|aQe is
def gxs:R8->Q0->En->(En->Prop)->Prop
 | [],[],ρ,Q=>Q ρ
 |i::is,d::ds,ρ,Q=>gxs is ds (ρ.set i<|.v<|.tr d) Q
 |_,_,_,_=>False
def gxT(is:R8):XG:=λd a Q=>match d with
 | .tup ds=>gxs is ds a Q
 |_=>False
def aKz{n}{F}{fr}{H}{Q}{Qx}:∀{is} {ds} {xs} {m} {h},(∀i∈is,i<n)->EOk F m h fr H->All2 (IsX<|hid (bB<|m.zip h++fr) `m) ds xs->gxs is ds m Qx ->
  (∀f ρ',EOk F ρ' f fr H->f.length=h.length->(∀i,n<=i->f[i]? = h[i]?)->Qx ρ'->Q f H)->aQe is xs h H Q
 | [],[],xs,m,h,_,E,ha,g,k=>#[ha,k h m E rfl (λ_ _=>rfl) g]
 |i::is,d::ds,xs,m,h,hi,E,⟨x,xr,e,h1,h2⟩,g,k=>by
  have y:EOk F (m.set i<|vT d) (h.set i<|some x) fr H:=ft_<|EOk.back E.len<|E.rep.add h1;refine#[x,xr,e,aKz (λj p=>hi j<|aC _ p) y (h2.imp λa b z=>z.to<|kH λc o=>?_) g λf ρ' u A C q=>k f ρ' u (A.trans bS) (λj p=>(C j p).trans<|cS (by have:=hi i aA;lia)) q];by_cases r:i<m.length;have B:=((uH (s:=.v<|.tr d) (v:=some x) E.len r).append_right fr).flatMap_right eL;have D:=((m5 (l:=m.zip h) (i:=i)<|aJ (by rw[dU];have:=E.len;lia)).append_right fr).flatMap_right eL;refine D.mem_iff.mpr ?_;have:=B.mem_iff.mp o;rcases aV.mp this with z | z
  cases z;exact aG _ z;rw [eK<|iB r,eK (by have:=E.len; lia)] at o;exact o
 | [],_::_,_,_,_,_,_,_,g,_=>g.elim
 |_::_,[],_,_,_,_,_,_,g,_=>g.elim
def aBw:∀{is} {ds} {a},gxs is ds a Q->ds.length=is.length
 | [],[],_,_=>rfl
 |i::is,d::ds,a,g=>congrArg (· + 1) (aBw (is:=is) (ds:=ds) g)
 | [],_::_,_,g=>g.elim
 |_::_,[],_,g=>g.elim
def fs_(o:is.length=m)(h:∀i∈is,i<n):GX n (aLg K m<|aQe is)<|gxT is:=λF v y fr H d x Q u E g k=>by unfold gxT at g;split at g;obtain ⟨R,r⟩:=E.one;obtain⟨a,s,rfl,j,e⟩:=r.tup_eq;exact#[a,s,rfl,SqT.of<|R.hv _ _ j,by rw[e.len,aBw g,o],aKz h E.drop e g λc b f l p q=>k c H b f l p q];exact g.elim
def aNk:XC:=λa Q=>Q true a
def XCs(X:Cx)(Ex:ExT)(a:S3)(t:XC):Prop:=∀F,[OkF X Ex F]->PCs X a (tXc F t)
def kU:XCs X Ex [] aNk:=λF=>(aOu (X:=X)).weak λc H Q=>by rintro⟨a,fr,b,E,t,k⟩;exact k true H a E t
def ci_(h:XTe X Ex c t):XCs X Ex [c] t:=λF=>aOt<|h F
def cB(n:Nat)(c:XG)(e:XC)(f:XT)(Q:Q0->Q9->Prop):Q0->Q9->Q0->Prop
 | [],cs,Ac=>Q Ac cs
 |d::ds,cs,Ac=>c d (List.replicate n .un++cs) λg=>e g λb a=>if b=true then f a λs h=>cB n c e f Q ds (h.drop n) (Ac++[s.d])else cB n c e f Q ds (a.drop n) Ac
def cut:R8->En->En
 | [],ρ=>ρ
 |j::js,ρ=>cut js<|ρ.set j .un
def rP(outs:R8)(a:En):Q9:=outs.map λj=>(a[j]?).getD .un
def back:R8->Q9->En->En
 |j::js,c::cs,ρ=>back js cs (ρ.set j c)
 |_,_,ρ=>ρ
def rY(n:Nat)(outs:R8)(i:XI)(f:XG)(g:XC)(h:XT):XT:=λj Q=>i j λb a=>b.length<=1000000/\cB n f g h (λc e=>Q (.ol c)<|back outs e a) b (rP outs a) []
def sw{a:Type}{A B C:List a}:(A++(B++C)).Perm<|B++(A++C):=by rw[<-bK,<-bK];exact fM.append_right C
section
variable{F:Fm}{H:Hp}{a:St}
abbrev lU(a:St)(outs:R8):St:=outs.map λj=>(a[j]?).join
def aMg(h:j∉js):rP js (ρ.set j s)=rP js ρ:=by refine List.map_congr_left λk b=>?_;rw[cS<|λz=>h (by rw[z];exact b)]
def nR:∀{js} {b},(cut js b).length=b.length
 | [],_=>rfl
 |j::js,b=>(nR (js:=js)).trans bS
def aCr:∀{js} {j} {s} {b},j∉js->cut js (b.set j s)=(cut js b).set j s
 | [],_,_,_,_=>rfl
 |k::js,j,s,b,h=>by show cut js ((b.set j s).set k .un)=(cut js<|b.set k .un).set j s;rw[List.set_comm _ _<|λz=>h (by rw[z];exact aA),aCr λz=>h<|aC _ z]
def aAj:∀{outs} {b:En} {T},outs.Nodup->b.length=a.length->Rep F (b.zip a++T) H->Rep F ((rP outs b).zip (lU a outs)++((cut outs b).zip a++T)) H
 | [],_,_,_,_,R=>R
 |j::js,b,T,hn,hl,R=>by
  have e:=bR.mp hn;have step:Rep F ((b.set j .un).zip a++(((b[j]?).getD .un,(a[j]?).join)::T)) H:=by by_cases g:j<b.length;have f:=aJ g;have c:a[j]? = some (a[j]'`b):=aJ `b;have h:=R.perm<|(bu_ f c).append_right T;have R2:=h.addU (x:=a[j]'`b);rw[f,c];refine R2.perm ?_;refine(List.Perm.swap _ _ _).trans ?_;exact(((cx_ hl g c).append_right T).symm.cons _).trans mid.symm;rw [eK `b,jO `b,jO `b];exact(R.addU (x:=none)).perm mid.symm
  have:=aAj (outs:=js) e.2 (by rw[bS];exact hl) step;rw[aMg e.1]at this;refine this.perm ?_;refine List.Perm.trans ?_<|List.Perm.refl _;rw[<-bK];exact mid.trans (by rw[bK];exact .refl _)
def aIj:∀{outs} {cs:Q9} {b} {T},outs.Nodup->b.length=a.length->cs.length=outs.length->Rep F (cs.zip (lU a outs)++((cut outs b).zip a++T)) H->Rep F ((back outs cs b).zip a++T) H
 | [],[],_,_,_,_,_,R=>R
 | [],_::_,_,_,_,_,h,_=>by simp at h
 |_::_,[],_,_,_,_,h,_=>by simp at h
 |j::js,c::cs,b,T,hn,hl,hc,R=>by
  have g:=bR.mp hn;refine aIj (outs:=js) (cs:=cs) g.2 (by rw[bS];exact hl) (by simpa using hc) ?_;have e:Rep F ((c,(a[j]?).join)::(cs.zip (lU a js)++((cut js<|b.set j .un).zip a++T))) H:=R;rw[aCr g.1]at e ⊢;have i:(cut js b).length=a.length:=nR.trans hl;by_cases o:j<b.length;have l:j < (cut js b).length:=by rw [nR]; exact o
  have f:a[j]? = some (a[j]'`b):=aJ `b;rw[f]at e;have q:=((cx_ (s:=.un) i l f).append_right T);have r:=((cx_ (s:=c) i l f).append_right T);have R2:=e.perm<|(List.Perm.append_left _ q).cons _;have m:=R2.perm<|(mid.cons _).trans<|.swap _ _ _;exact m.tail.perm<|mid.symm.trans<|List.Perm.append_left _ r.symm;have p:(cut js b).length≤j:=by rw [nR]; lia
  rw[eK p]at e ⊢;exact e.tail
def Rep.drops:∀{A P},Rep F (A++P) H->Rep F P H
 | [],_,R=>R
 |_::_,_,R=>Rep.drops R.tail
def Rep.addUs{P}(R:Rep F P H):∀n,Rep F (List.replicate n (.un,none)++P) H
 | 0=>R
 |n+1=>(Rep.addUs R n).addU
def qY(ds:Q0)(xs:Q1):Q8:=(ds.zip xs).map λp=>(vT p.1,some p.2)
def Rep.accs:∀{ds} {xs} {P},ds.length=xs.length->Rep F (qY ds xs++P) H->Rep F P H/\All2 (IsX<|hid (bB P) `m) ds xs
 | [],[],P,_,R=>#[R,rfl]
 | [],_::_,_,h,_=>by simp at h
 |_::_,[],_,h,_=>by simp at h
 |d::ds,x::xs,P,h,R=>by obtain⟨v,e,i⟩:=Rep.atT<|show Rep F ((vT d,some x)::(qY ds xs++P)) H from R;cases e;obtain⟨b,f⟩:=Rep.accs (ds:=ds) (xs:=xs) (by simpa using h)<|Rep.tail<|R;refine#[b,x,xs,rfl,i.to<|kH λc g=>?_,f];unfold bB;rw[iG];exact aG _ g
end
section
variable{dsc scope:Scope}{tgs N':Q3}{outs:R8}{A p w:Expr}{u:S3}{r:Pos}{o:XI}{g:TG}{f:XG}{e:XC}{a:XT}
def qQ(Cu:GX n g f)(An:outs.Nodup){S:TT}{T:TE}(L1:∀C H Q,tXc F e C H Q->S C H Q)(L0:∀C H Q,tX F a C H Q->T C H Q){Q:VK}{Qx:Sv->En->Prop}
  (k:∀v s G ρ',EOk F ρ' C ((.v s,some v)::(row++fr)) G->Qx s ρ'->Q v G) (Z:EOk F ρ' C (row++fr) G) (hJ:ItX F J row ds) (q:ds.length<=1000000/\cB n f e a (λB cs=>Qx (.ol B)<|back outs cs ρ') ds (rP outs ρ') []) :
  ∃W:Nat->Nat->Q1->Hp->Prop,(∃m,W 0 m [] G)/\∀i m B H,W i m B H ->
  (J.stop i H/\B.length<=sizeLine/\∀l,H l=none->Q (.ref l) (upd H l<|.lst B)) \/
  (J.go i H∧B.length < sizeLine∧∃ N:Q1→Hp→Prop,(∀ acc' G,N acc' G→∃ L,L < m∧W (i + 1) L acc' G)∧∀ x G,J.yld i H x G→g x (kD n outs C) G fun D H2=>S D H2 fun b d => if b=true then T D d λy I=>N (B++[y]) I else N B d):=by
 obtain⟨hd,q⟩:=q;have zl:=iM;refine#[λi m B H=>m=ds.length-i/\i<=ds.length/\∃cs z,cs.length=outs.length/\z.length=B.length/\B.length<=i/\Rep F (cs.zip (lU C outs)++(qY z B++(row++((cut outs ρ').zip C++fr)))) H /\
  cB n f e a (λB cs=>Qx (.ol B)<|back outs cs ρ') (ds.drop i) cs z,#[ds.length,by simp,bL _,rP outs ρ',[],by simp[rP],rfl,aO _,?_,by simpa using q],?_]
 have R:=aAj An Z.len Z.rep;refine R.perm<|List.Perm.append_left _ ?_;exact sw;rintro i m B d ⟨rfl,hi,cs,z,Dw,V,Pk,R,hq⟩;have D3:Rep F (row++(cs.zip (lU C outs)++(qY z B++((cut outs ρ').zip C++fr)))) d:=by exact R.perm<|(List.Perm.append_left _ sw).trans sw
 by_cases U:i<ds.length;right;have Kb:=aJ U;rw[List.drop_eq_getElem_cons U]at hq;refine#[hJ.go _ _ i _ D3 Kb,by lia,λacc' I=>∃L,L<ds.length-i/\(L=ds.length-(i+1)/\i+1<=ds.length/\∃cs z,cs.length=outs.length/\z.length=acc'.length/\acc'.length<=i+1/\Rep F (cs.zip (lU C outs)++(qY z acc'++(row++((cut outs ρ').zip C++fr)))) I /\
  cB n f e a (λB cs=>Qx (.ol B)<|back outs cs ρ') (ds.drop<|i+1) cs z),λacc' I h=>h,λx I hy=>?_]
 have R4:=hJ.yld _ _ i _ x I D3 Kb hy;have Lr:∀(cs:Q9),cs.length=outs.length->(List.replicate n Sl.un++cs).zip (kD n outs C)=List.replicate n (Sl.un,none)++cs.zip (lU C outs):=λcs Dc=>by unfold kD;rw[List.zip_append<|by rw[bN,bN],List.zip_replicate];simp
 have Ei:EOk F (List.replicate n .un++cs) (kD n outs C) ((vT ds[i],some x)::(qY z B++(row++((cut outs ρ').zip C++fr)))) I:=by refine#[by rw[pQ,aI,bN,Dw],?_];rw[Lr cs Dw,bK];refine Rep.addUs (R4.perm ?_) n;exact((sw.trans<|List.Perm.append_left _ sw).cons _).trans mid.symm
 have O:∀{E:En} {D:St} {t:Hp} {accD':Q0} {acc':Q1},D.length=(kD n outs C).length->(∀j,n<=j->D[j]? = (kD n outs C)[j]?)->EOk F E D (qY accD' acc'++(row++((cut outs ρ').zip C++fr))) t->accD'.length=acc'.length->acc'.length<=i+1 ->
   cB n f e a (λB cs=>Qx (.ol B)<|back outs cs ρ') (ds.drop<|i+1) (E.drop n) accD' ->
   ∃L,L<ds.length-i/\(L=ds.length-(i+1)/\i+1<=ds.length/\∃cs z,cs.length=outs.length/\z.length=acc'.length/\acc'.length<=i+1/\Rep F (cs.zip (lU C outs)++(qY z acc'++(row++((cut outs ρ').zip C++fr)))) t /\
    cB n f e a (λB cs=>Qx (.ol B)<|back outs cs ρ') (ds.drop<|i+1) cs z):=λ{E D t accD' acc'} Y hs2 M h1 h2 h3=>by
  have Fb:E.length=n+outs.length:=by rw[M.len,Y,pQ]
  refine#[ds.length-(i+1),Nat.sub_succ_lt_self ds.length i U,rfl,U,E.drop n,accD',by rw[gG,Fb];exact Nat.add_sub_self_left n outs.length,h1,h2,?_,h3];have hv:D.drop n=lU C outs:=by apply List.ext_getElem?;intro j;rw[List.getElem?_drop,hs2 _<|eF n j];unfold kD;rw[bW (by rw[bN];lia),bN,Nat.add_sub_cancel_left]
  have hz:E.zip D=(E.take n).zip (D.take n)++(E.drop n).zip (D.drop n):=by rw[<-List.zip_append (by rw[eI,eI,M.len]),List.take_append_drop,List.take_append_drop]
  have R5:=M.rep;rw[hz,hv,bK]at R5;exact Rep.drops R5
 refine Cu F _ _ _ I _ x _ _ Ei hq λD t a0 E1 Y hs2 q1=>L1 _ _ _ #[a0,_,_,E1,q1,λb H6 a1 E2 q2=>?_];cases b with
 |false=>exact O Y hs2 E2 V (gM Pk) q2
 |true =>
  refine L0 _ _ _ #[a1,_,_,E2,q2,λy s H7 E M q3=>?_];refine O (accD':=z++[s.d]) (acc':=B++[y]) Y hs2 #[M.len,?_] (by rw[aI,aI,V];rfl) (by rw[aI];show B.length+1<=_;exact fW Pk 1) q3;have R7:=(EOk.front M).frz;have he:qY (z++[s.d]) (B++[y])=qY z B++[(vT s.d,some y)]:=by unfold qY;rw[List.zip_append V,aZ];rfl
  rw[he,bK];exact R7.perm<|mid.symm.trans<|List.Perm.append_left _ mid.symm
 left;have M7:i=ds.length:=by lia
 subst M7;rw[List.drop_length]at hq;refine#[hJ.stop _ _ _ D3<|aO _,by lia,λl hl=>?_];have R1:=R.perm<|sw.trans<|List.Perm.append_left _ sw;obtain⟨R2,ha⟩:=R1.accs V;have R4:=((R2.newL hl ha).perm<|(sw.trans<|List.Perm.append_left _ sw).cons _).perm<|mid.symm.trans<|List.Perm.append_left _ mid.symm;have Hi:∀{js:R8} {cs:Q9} {ρ:En},(back js cs ρ).length=ρ.length:=by
  intro js
  induction js with
  |nil=>intro cs ρ;cases cs<;>rfl
  |cons j js ih=>intro cs ρ;cases cs with
   |nil=>rfl
   |cons c cs=>exact(ih (cs:=cs)).trans bS
 exact k _ (.ol z) _ (back outs cs ρ') #[Hi.trans Z.len,aIj An Z.len Dw R4] hq
def lg_(L:GX n g f)(I:outs.Nodup){z:TT}{B:TE}(T:∀h H Q,tXc F e h H Q->z h H Q)(S:∀h H Q,tX F a h H Q->B h H Q){Q:VK}{Qx:Sv->En->Prop}
  (k:∀v s c ρ',EOk F ρ' h ((.v s,some v)::fr) c->Qx s ρ'->Q v c) (M:EOk F ρ' h (row++fr) c) (U:ItX F J row ds) (q:ds.length<=1000000/\cB n f e a (λj cs=>Qx (.ol j)<|back outs cs ρ') ds (rP outs ρ') []) :
  ∃W:Nat->Nat->Q1->Hp->Prop,(∃m,W 0 m [] c)/\∀i m j H,W i m j H ->
  (J.stop i H/\j.length<=sizeLine/\∀l,H l=none->Q (.ref l) (upd H l<|.lst j)) \/
  (J.go i H∧j.length < sizeLine∧∃ N:Q1→Hp→Prop,(∀ acc' c,N acc' c→∃ G,G < m∧W (i + 1) G acc' c)∧∀ x c,J.yld i H x c→g x (kD n outs h) c fun C O=>z C O fun b D => if b=true then B C D λy R=>N (j++[y]) R else N j D):=
 qQ L I T S (λv s c ρ' E q=>k v s c ρ' #[E.len,(E.rep.perm<|(List.Perm.append_left _ mid.symm).trans sw).drops] q) M U q
def y_(h:GX n g f)(c:outs.Nodup):∀b H Q,tX F (rY n outs o f e a) b H Q->mK n outs (tXi F o) g (tXc F e) (tX F a) b H Q:=by rintro b H Q ⟨m,fr,y,E,t,k⟩;exact#[m,fr,_,E,t,λJ v s l B i j q=>lg_ h c (λ_ _ _ z=>z) (λ_ _ _ z=>z) k i j q]
end
end Lf
namespace L2
open PySem
def PS.weak(h:PS X e t)(w:∀D a H,u D a H->t D a H):PS X e u:=λb s a H D I q=>h b s a H D I<|w D a H q
def PSs.weak(h:PSs X e t)(w:∀D a H,u D a H->t D a H):PSs X e u:=λb s a H D I q=>h b s a H D I<|w D a H q
end L2
namespace Lf
open PySem L2
def v7(S:CompScope dsc scope N tgs outs N')(u:XIt X Ex tg iter ti)(r:∀f C s H ex,PG (cF X N' scope f C s H ex) tg g)(i:GX tgs.length g gx)(o:Tgt tgs.length g)
  (l:∀f C s H ex,XCs (cF X N' scope f C s H ex) cY ifs tc) (q:∀f C s H ex,XE (cF X N' scope f C s H ex) cY elt te) (h:outs.Nodup:=by decide) (m:X.N=N:=by rfl) (j:X.env.scope=dsc:=by rfl) (p:X.calm=true:=by rfl) (v:∀x,foldedSetIterable iter X.env x=pure x:=by intro _;rfl) :
  XE X Ex (.ListComp elt [#[tg,iter,ifs,0]] scope pos) (rY tgs.length outs ti gx tc te):=λF =>
 (vM S (u F) r o (λa b c d e=>l a b c d e F) (λa b c d e=>q a b c d e F) m j p v).weak (y_ i h)
structure XD where
 nx:En->Prop
 rt:Sv->En->Prop
 bk:En->Prop
 ct:En->Prop
abbrev XS:=En->XD->Prop
structure DOk(F:Fm)(n:Nat)(fr:Q8)(D:Ends)(d:XD):Prop where
 nx:∀σ' H' ρ',σ'.length=n->EOk F ρ' σ' fr H'->d.nx ρ'->D.nx σ' H'
 rt:∀v s σ' H' ρ',σ'.length=n->EOk F ρ' σ' ((.v s,some v)::fr) H'->d.rt s ρ'->D.rt v H'
 bk:∀σ' H' ρ',σ'.length=n->EOk F ρ' σ' fr H'->d.bk ρ'->D.bk σ' H'
 ct:∀σ' H' ρ',σ'.length=n->EOk F ρ' σ' fr H'->d.ct ρ'->D.ct σ' H'
def tXS(F:Fm)(G:XS):TS:=λD b H=>∃a fr d,EOk F a b fr H/\G a d/\DOk F b.length fr D d
def XSt(X:Cx)(Ex:ExT)(st:Stmt)(G:XS):Prop:=∀F,[OkF X Ex F]->PS X st (tXS F G)
def XSs(X:Cx)(Ex:ExT)(st:List Stmt)(G:XS):Prop:=∀F,[OkF X Ex F]->PSs X st (tXS F G)
def mI:XS:=λa D=>D.nx a
def dO(G K:XS):XS:=λb D=>G b { D with nx:=λa=>K a D }
def iX(i:Nat)(t:XT):XS:=λb D=>t b λs a=>D.nx<|a.set i<|.v s
def bCa(t:XT)(b:XG):XS:=λc D=>t c λs a=>b s.d a D.nx
def aUd(t:XT):XS:=λb D=>t b λ_ a=>D.nx a
def aGt(t:XT):XS:=λb D=>t b λs a=>D.rt s a
def xIf(c:XC)(G K:XS):XS:=λe D=>c e λb a=>if b=true then G a D else K a D
def hU(a:XG)(G:XS)(D:XD):Q0->En->Prop
 | [],ρ=>D.nx ρ
 |d::ds,ρ=>a d ρ λb=>G b { D with nx:=hU a G D ds,ct:=hU a G D ds,bk:=D.nx }
def lT(e:XI)(c:XG)(G:XS):XS:=λf D=>e f λb a=>hU c G D b a
section
variable{st:Stmt}{rest:List Stmt}{G K:XS}{e c l j:Expr}{t:XT}{o:XC}{f:Pos}{i:Nat}
def jH:XSs X Ex [] mI:=λF=>(aOg (X:=X)).weak λD b H=>by rintro⟨a,fr,d,E,q,k⟩;exact k.nx b H a rfl E q
def cG(h:XSt X Ex st G)(h':XSs X Ex rest K):XSs X Ex (st::rest)<|dO G K:=λF=>(aIm (h F)<|h' F).weak λD u H=>by rintro⟨p,fr,d,E,q,k⟩;exact#[p,fr,_,E,q,#[λr s a g b m=>#[a,fr,d,b,m,by rw[g];exact k],k.rt,k.bk,k.ct]]
def cR(h:XSt X Ex st G):XSs X Ex [st] G:=λF=>aOf<|h F
def aNb(h:∀F,[OkF X Ex F]->PS X st (uQ (tX F t)<|kL i)):XSt X Ex st<|iX i t:=λF=>(h F).weak λD r H=>by rintro⟨m,fr,d,E,q,k⟩;exact#[m,fr,_,E,q,λv s b p a g=>k.nx _ b _ bS (ft_ a) g]
def uL(r:GX n g gx)(h:∀F,[OkF X Ex F]->PS X st (uQ (tX F t) g)):XSt X Ex st<|bCa t gx:=λF=>(h F).weak λD J H=>by rintro⟨I,fr,d,E,q,k⟩;exact#[I,fr,_,E,q,λv s y a p B=>r F a J fr y s.d v _ _ (EOk.back p.len p.front.frz) B λm z b u A _ C=>k.nx m z b A u C]
def uK(h:XE X Ex e t)(m:swapsWith e none f.line X.env=pure false:=by rfl):XSt X Ex (.Expr e f)<|aUd t:=λF=>(nA (h F) m).weak λD u H=>by rintro⟨r,fr,d,E,q,k⟩;exact#[r,fr,_,E,q,λv s g a b p=>k.nx u g a rfl b.drop p]
def eU(h:XE X Ex e t):XSt X Ex (.Return (some e) f)<|aGt t:=λF=>(aVr<|h F).weak λD r H=>by rintro⟨p,fr,d,E,q,k⟩;exact#[p,fr,_,E,q,λv s g a b m=>k.rt v s r g a rfl b m]
def iY(r:XTe X Ex c o)(ha:XSs X Ex a G)(p:XSs X Ex b K):XSt X Ex (.If c a b f)<|xIf o G K:=λF=>(bCx (r F) (ha F)<|p F).weak λD v H=>by
 rintro⟨s,fr,d,E,q,k⟩;refine#[s,fr,_,E,q,λb u g h m=>?_];cases b with
 |true=>exact#[g,fr,d,h,m,k]
 |false=>exact#[g,fr,d,h,m,k]
def aLl(Cu:GX n g gx){tb:TS}(Y:∀D q H,tXS F G D q H->tb D q H)(k:DOk F q.length fr D d)(E':EOk F ρ' q (row++fr) p)(U:ItX F J row ds)(q':hU gx G d ds ρ') :
  ∃W:Nat->Nat->St->Hp->Prop,(∃m,W 0 m q p)/\∀i m q H,W i m q H ->
  (J.stop i H/\D.nx q H)\/(J.go i H/\∃N:St->Hp->Prop,(∀a p,N a p->∃y,y<m/\W (i+1) y a p)/\∀x p,J.yld i H x p->g x q p λu z=>tb { D with nx:=N,ct:=N,bk:=D.nx } u z):=by
 refine#[λi m r T=>m=ds.length-i/\i<=ds.length/\r.length=q.length/\∃b,EOk F b r (row++fr) T/\hU gx G d (ds.drop i) b,#[ds.length,by simp,bL _,rfl,ρ',E',by simpa using q'],?_];rintro i m r T ⟨rfl,hi,O,b,S,Q⟩;have M:=S.rep.perm sw;by_cases L:i<ds.length;right;have V:=aJ L;rw[List.drop_eq_getElem_cons L]at Q;refine#[U.go _ _ i _ M V,λu z=>∃y,y<ds.length-i/\(y=ds.length-(i+1)/\i+1<=ds.length/\u.length=q.length/\∃b,EOk F b u (row++fr) z/\hU gx G d (ds.drop<|i+1) b),λ_ _ h=>h,λx z hy=>?_];have R2:=U.yld _ _ i _ x z M V hy;have E2:EOk F b r ((vT ds[i],some x)::(row++fr)) z:=#[S.len,R2.perm<|(sw.cons _).trans mid.symm];refine Cu F b r _ z _ x _ _ E2 Q λu H3 Z E3 R _ q2=>?_;have I:∀a p ρ',a.length=u.length->EOk F ρ' a (row++fr) p->hU gx G d (ds.drop<|i+1) ρ'->∃y,y<ds.length-i/\(y=ds.length-(i+1)/\i+1<=ds.length/\a.length=q.length/\∃b,EOk F b a (row++fr) p/\hU gx G d (ds.drop<|i+1) b):=λa p ρ' C B E => #[ds.length-(i+1),Nat.sub_succ_lt_self ds.length i L,rfl,L,by rw[C,R,O],ρ',B,E];have ends:∀{a:St} {p:Hp} {ρ':En} {Pz:Q8},EOk F ρ' a (row++Pz) p->EOk F ρ' a Pz p:=λh=>#[h.len,Rep.drops (A:=row)<|h.rep.perm sw];refine Y _ _ _ #[Z,row++fr,_,E3,q2,#[I,λv s a p ρ' C B E=>k.rt v s a p ρ' (by rw[C,R,O]) ?_ E,λa p ρ' C B E=>k.nx a p ρ' (by rw[C,R,O]) (ends B) E,I]];exact ends #[B.len,B.rep.perm<|List.Perm.append_left _ mid.symm];left;have M7:i=ds.length:=by lia
 subst M7;rw[List.drop_length]at Q;exact#[U.stop _ _ _ M<|aO _,k.nx r T b O #[S.len,Rep.drops (A:=row) M] Q]
def aUs(b:GX n g gx):∀D a H,tXS F (lT ti gx G) D a H->bCk (tXi F ti) g (tXS F G) D a H:=by rintro D a H ⟨s,fr,d,E,q,k⟩;exact#[s,fr,_,E,q,λJ v u r y h m p=>aLl b (λ_ _ _ z=>z) k h m p]
def xO(q:PassesOwn `d X.A X.env X.xe)(h:X.calm=true)(p:XIt X Ex l j ti)(m:PG X l g)(a:GX n g gx)(b:XSs X Ex body G)(r:∀x,foldedSetIterable j X.env x=pure x:=by intro _;rfl):XSt X Ex (.For l j body [] f)<|lT ti gx G:=λF =>
 (aVs q h (p F) m (b F) r).weak (aUs a)
def o_(h:∀F,[OkF X Ex F]->PS X st (tXS F G)):XSt X Ex st G:=h
end
section
variable{F:Fm}{c:En}{b:St}{fr:Q8}{H:Hp}{i:Nat}
def eb_(E:EOk F c b fr H)(h:(c[i]?).bind iJ=some (l,f)):∃p ws,b[i]? = some (some<|.ref p)/\H p=some (.lst ws)/\All2 (IsX<|hid (bB<|c.zip b++fr) `m) l ws /\
  ∀l' e,All2 (IsX<|hid (bB<|c.zip b++fr) `m) l' e->EOk F (c.set i<|f l') b fr (upd H p<|.lst e):=by
 obtain⟨G,m,r⟩:=bP.mp h;obtain⟨v,hv,A,R⟩:=xJ E m;obtain⟨p,ws,rfl,s,o,u,y⟩:=jj_ r R;have g:(bB<|c.zip b++fr).Perm<|bB ((G,some<|V.ref p)::((c.zip b).eraseIdx i++fr)):=((bu_ m hv).append_right fr).flatMap_right _;rw[kY o]at g;refine#[p,ws,hv,s,u.imp λ_ _ z=>z.to<|kH λa j=>g.mem_iff.mp j,λl' e q=>?_];obtain⟨B,C,D⟩:=y l';exact eq_ E.len A hv<|R.put o B C<|D bZ<|q.imp λ_ _ z=>(z.to<|kH λa j=>g.mem_iff.mpr j).to la_
def qL(E:EOk F c b fr H)(h:c[i]? = some (.v<|.od l)):∃p ws,b[i]? = some (some<|.ref p)/\H p=some (.dK ws)/\All2 (KvX<|hid (bB<|c.zip b++fr) `m) l ws /\
  ∀l' e,All2 (KvX<|hid (bB<|c.zip b++fr) `m) l' e->EOk F (c.set i<|.v<|.od l') b fr (upd H p<|.dK e):=by
 obtain⟨v,hv,q,R⟩:=xJ E h;obtain⟨p,ws,rfl,m,o⟩:=R.atD;have g:(bB<|c.zip b++fr).Perm<|bB ((.v<|.od l,some<|V.ref p)::((c.zip b).eraseIdx i++fr)):=((bu_ h hv).append_right fr).flatMap_right _;refine#[p,ws,hv,m,o.imp λ_ _ z=>z.to<|kH λa f=>g.mem_iff.mp f,λl' e j=>?_];exact eq_ E.len q hv<|R.putD<|j.imp λ_ _ z=>z.to<|kH λa f=>g.mem_iff.mpr f
def wB(E:EOk F c b fr H)(h:(c[i]?).bind iJ=some (l,f)):∃p ws,b[i]? = some (some<|.ref p)/\H p=some (.lst ws):=by obtain⟨p,ws,a,e,_⟩:=eb_ E h;exact#[p,ws,a,e]
end
def aGx(i:Nat)(t:XT):XS:=λb D=>((b[i]?).bind iJ).isSome=true/\t b λs a=>match (a[i]?).bind iJ with
 |some (l,f)=>l.length<1000000/\D.nx (a.set i<|f<|l++[s.d])
 |none=>False
def bNj(i:Nat)(t:XT):XS:=λb D=>((b[i]?).bind iJ).isSome=true/\t b λs a=>match (a[i]?).bind iJ,s.d with
 |some (l,f),.lst m=>l.length+m.length<=1000000/\D.nx (a.set i<|f<|l++m)
 |_,_=>False
def bBp(i:Nat):XT:=λa Q=>match (a[i]?).bind iJ with
 |some (l,f)=>(match l.getLast? with | some d=>Q (.tr d) (a.set i<|f l.dropLast) | none=>False)
 |none=>False
def aRx(i:Nat)(e c:XT):XS:=λg D=>c g λs a=>((a[i]?).bind iJ).isSome=true/\e a λk b=>match (b[i]?).bind iJ,k.d with
 |some (l,f),.int j=>(match ixN l.length j with | some n=>D.nx (b.set i<|f<|l.set n s.d) | none=>False)
 |_,_=>False
def aIi(l:S8)(k:Key)(d:Dx):S8:=if(l.any λa=>decide (a.1=k))=true then l.map (λa=>if a.1=k then(a.1,d)else a)else l++[(k,d)]
def bBw(i:Nat)(tk c:XT):XS:=λe D=>c e λs a=>(∃l,a[i]? = some (.v<|.od l))/\tk a λk b=>match b[i]?,wE k.d with
 |some (.v<|.od l),some key=>l.length<1000000/\D.nx (b.set i<|.v<|.od<|aIi l key s.d)
 |_,_=>False
def aIg(h:All2 (KvX G) l ws)(g:IsX G d v):All2 (KvX G) (aIi l k d)<|jR ws k v:=by
 have any:∀{l:S8} {ws:S9},All2 (KvX G) l ws->(l.any λa=>decide (a.1=k))=(ws.any λa=>decide (a.1=k)):=by
  intro l
  induction l with
  |nil=>intro ws h;rw[show ws=[]from h];rfl
  |cons p l c => intro ws h;obtain⟨w,i,rfl,⟨f,_⟩,b⟩:=h;rw[iN,iN,c b,f]
 have mp:∀{l:S8} {ws:S9},All2 (KvX G) l ws->All2 (KvX G) (l.map λa=>if a.1=k then(a.1,d)else a) (ws.map λa=>if a.1=k then(a.1,v)else a):=by
  intro l
  induction l with
  |nil=>intro ws h;rw[show ws=[]from h];rfl
  |cons p l c => intro ws h;obtain⟨w,i,rfl,⟨f,j⟩,b⟩:=h;refine#[_,_,rfl,?_,c b];by_cases e:p.1=k;grind;grind
 unfold aIi jR;rw[any h];split;exact mp h;exact h.snoc #[rfl,g]
section
variable{st:Stmt}{i:Nat}{t r u tk c:XT}{F:Fm}{K:dN}
def aUx:∀D a H,tXS F (aGx i t) D a H->x_ (tBM K "list" mZ (fQ i)<|oQ (tX F t) yE) D a H:=by rintro D a H ⟨I,fr,d,E,⟨C,q⟩,k⟩;obtain⟨⟨N,M⟩,v⟩:=cL.mp C;obtain⟨p,G,hv,A⟩:=wB E v;refine#[.ref p,hv,.inl #[rfl,G,SqL.of A],I,fr,_,E,q,λy s L J h b=>?_];split at b;rename_i l f z;obtain⟨R,B⟩:=h.one;obtain⟨O,e,g,o,j,m⟩:=eb_ h.drop z;rw[hv]at g;cases g;exact#[p,e,y,rfl,rfl,o,by rw[j.len];have:=iM;lia,k.nx a _ _ rfl (m _ _<|j.snoc B) b.2];exact b.elim
def aFr{m:List β}{d:α}(h:All2 g l m)(e:l.getLast? = some d):∃v,m[m.length-1]? = some v/\g d v:=by rw[List.getLast?_eq_getElem?]at e;obtain⟨v,a,b⟩:=h.at e;exact#[v,by rw[h.len];exact a,b]
def aRr{l:List α}{m:List β}(h:All2 g l m):All2 g l.dropLast m.dropLast:=by rw[List.dropLast_eq_take,List.dropLast_eq_take,h.len];exact h.take _
def aUr:∀e H Q,tX F (bBp i) e H Q->aUw K "list" bCu (fQ i) e H Q:=by rintro e H Q ⟨g,fr,Y,E,q,k⟩;unfold bBp at q;split at q;rename_i l f h;obtain⟨p,D,hv,C,B,G⟩:=eb_ E h;split at q;rename_i d T;obtain⟨v,J,L⟩:=aFr B T;refine#[.ref p,hv,.inl #[rfl,D,SqL.of C],p,D,v,rfl,rfl,C,J,k v (.tr d) _ _ ?_ q];have s:=G _ _<|aRr B;refine EOk.back s.len<|s.rep.add<|L.to ?_;obtain⟨W,z,M⟩:=bP.mp h;obtain⟨Z,m,U,R⟩:=xJ E z;rw[hv]at m;cases m;obtain⟨_,_,I,_,N,_,O⟩:=jj_ M R;cases I;have A:(bB<|g.zip e++fr).Perm<|bB ((W,some<|V.ref p)::((g.zip e).eraseIdx i++fr)):=((bu_ z hv).append_right fr).flatMap_right _;have y:(bB<|(g.set i<|f l.dropLast).zip e++fr).Perm<|bB ((f l.dropLast,some<|V.ref p)::((g.zip e).eraseIdx i++fr)):=((cx_ E.len U hv).append_right fr).flatMap_right _;rw[kY N]at A;rw[kY (O _).1]at y;intro b o h;have S:=kH (O':=p::bB ((g.zip e).eraseIdx i++fr)) (λa j=>A.mem_iff.mpr j) _ _ h;exact kH (λa j=>y.mem_iff.mp j) _ _<|la_ _ _ S;exact q.elim;exact q.elim
def x9:∀D b H,tXS F (aRx i r u) D b H->uQ (tX F u) (bEu (fQ i) (tX F r) aSe) D b H:=by rintro D b H ⟨Q,fr,d,E,q,k⟩;refine#[Q,fr,_,E,q,λy s T h o e=>?_];obtain⟨O,e⟩:=e;obtain⟨⟨Z,W⟩,J⟩:=cL.mp O;obtain⟨p,ws,hv,Y⟩:=wB o J;refine#[.ref p,hv,h,_,_,o,e,λz V U S v a=>?_];split at a;rename_i l f j L M;obtain⟨R,I,A⟩:=v.two;rw[M]at A;cases A.int_eq;obtain⟨x,g,m,G,B,C⟩:=eb_ (v.drop.drop) L;rw[hv]at m;cases m;split at a;rename_i n N;exact#[p,g,j,n,rfl,rfl,G,by rw[B.len];exact N,k.nx b _ _ rfl (C _ _<|B.set I n) a];exact a.elim;exact a.elim
def aNs:∀D a H,tXS F (bBw i tk c) D a H->aHt (fQ i) (tX F tk) (tX F c) D a H:=by rintro D a H ⟨M,fr,d,E,q,k⟩;refine#[M,fr,_,E,q,λy s O f h b=>?_];obtain⟨⟨T,C⟩,b⟩:=b;obtain⟨p,Y,hv,S,_⟩:=qL h C;refine#[.ref p,hv,f,_,_,h,b,λz W Q N j e=>?_];split at e;rename_i l J G I;obtain⟨R,B,A⟩:=j.two;obtain⟨U,L,g,v,m,o⟩:=qL (j.drop.drop) G;rw[hv]at g;cases g;cases iq_ A I;exact#[p,_,rfl,DPut.k v (by rw[m.len];have:=iM;lia),k.nx a _ _ rfl (o _ _<|aIg m B) e.2];exact e.elim
end
def aGr(c:XC)(G:XS):XS:=λf D=>∃W:Nat->En->Prop,(∃m,W m f)/\∀m f,W m f->c f λb e=>if b=true then ∃N:En->Prop,(∀a,N a->∃g,g<m/\W g a)/\G e { D with nx:=N,ct:=N,bk:=D.nx }else D.nx e
def aGg(R:PassesOwn `d X.A X.env X.xe)(Q:XTe X Ex c tc)(O:XSs X Ex body G):XSt X Ex (.While c body [] pos)<|aGr tc G:=λF=>(aIn R (Q F)<|O F).weak λD z H=>by
 rintro⟨U,fr,d,E,⟨W,⟨S,w0⟩,turn⟩,k⟩;refine#[λm g B=>g.length=z.length/\∃e,EOk F e g fr B/\W m e,#[S,rfl,U,E,w0],?_];rintro m g B ⟨u,e,C,T⟩;refine#[e,fr,_,C,turn m e T,λb I r A y=>?_];cases b with
 |false=>exact k.nx g I r u A y
 |true =>
  obtain⟨N,M,y⟩:=y;have q:∀a i f,a.length=g.length->EOk F f a fr i->N f->∃j,j<m/\a.length=z.length/\∃e,EOk F e a fr i/\W j e:=λa i f l o p=>by obtain⟨j,J,L⟩:=M f p;exact#[j,J,by rw[l,u],f,o,L]
  exact#[λa i=>∃j,j<m/\a.length=z.length/\∃e,EOk F e a fr i/\W j e,λa i h=>h,r,fr,_,A,y,#[q,λv s a i f l o p=>k.rt v s a i f (by rw[l,u]) o p,λa i f l o p=>k.nx a i f (by rw[l,u]) o p,q]]
def jE(N:Q3)(ds:Q0):En:=ds.map (λd=>.v<|.tr d)++List.replicate (N.length-ds.length) .un
abbrev aDr(Q:Sv->Prop):XD:=#[λ_=>Q<|.tr .non,λs _=>Q s,λ_=>False,λ_=>False]
def jg_(g:Rep F [] H):∀{ds} {vs},All2 (IsX `m) ds vs->Rep F ((ds.map (λd=>Sl.v<|.tr d)++List.replicate m Sl.un).zip<|vs.map some++List.replicate m none) H
 | [],_,h=>by rw[show _=[]from h];simp only[dE,bU];have:=g.addUs m;simpa using this
 |d::ds,_,⟨v,vr,e,h1,h2⟩=>by
  subst e;have R:=jg_ (m:=m) g h2;refine R.add<|h1.to λb o c=>bC.mpr #[λz=>?_,c];obtain⟨r,f,c⟩:=dI.mp z;have:∀{ds:Q0} {vs:List S1} {r:Rw},r∈((ds.map (λd=>Sl.v<|.tr d)++List.replicate m Sl.un).zip vs)->eL r=[]:=by
   intro ds vs r f;obtain⟨a,b⟩:=r;have:=(List.of_mem_zip f).1;rcases aV.mp this with h | h
   obtain⟨d,_,rfl⟩:=aY.mp h;rfl;rw[(List.mem_replicate.mp h).2];rfl
  rw[this f]at c;cases c
def vC{P:Q8}(R:Rep #[H,m,[],sub,A,y] ((.v s,some v)::P) p):Same H p/\aCz m H p s v:=by
 refine#[λb o h=>R.kp b o h `h,?_]
 match s with
 | .tr d => obtain⟨B,e,h⟩:=R.atT;cases e;exact h.to aBv
 | .ol l => obtain⟨a,j,e,g,i⟩:=R.atL;cases e;exact#[a,j,rfl,R.fr _ aA a<|aE.mpr rfl,g,i.imp λ_ _ z=>z.to (kH λc f=>by rw[aE.mp f];exact aA)]
 | .od l => obtain⟨a,j,e,g,i⟩:=R.atD;cases e;exact#[a,j,rfl,R.fr _ aA a<|aE.mpr rfl,g,i.imp λ_ _ z=>z.to (kH λc f=>by rw[aE.mp f];exact aA)]
 | .oq ks l => obtain⟨a,j,e,g,u,i⟩:=R.atQ;cases e;exact#[a,j,rfl,R.fr _ aA a<|aE.mpr rfl,g,u,i.imp λ_ _ z=>z.to (kH λc f=>by rw[aE.mp f];exact aA)]
 | .ow o => have q:=R.nd;rw[iL]at q;obtain⟨x,e,h⟩:=R.ok _ aA;cases e;refine#[(bO.mp q).1,λa r=>R.fr _ aA a r,OwOk.mono (.of<|kH λc f=>?_) o v (λ_ _=>rfl) h];rw[iL];exact aM _ f
def aEz(T:Fun K x c st f fd)(S:FnScope N ps<|aP st)(L:∀ds Q,g ds Q->ds.length=ps.length)(t:ps.length<=N.length)
  (O:∀ (p:Value) (A:Around) (a:List Env) (s:Shared) (H:Hp) (E:XK),Room k (A.deeper<|PyProof.Rows.envOfC c (aP st) s.heap.objs.size f p) →
   ∃G,XSs (kE CX0 P w K mg base N c (aP st) f p A a s H E).nox cY (fL st) G/\∀ds Q,g ds Q->G (jE N ds) (aDr Q)):FnOk P w K mg base CX0 (k+1) f fd ps<|spX g:=by
 refine T.ok S (λn H Q E h=>?_)<|λp A a s H n Q E m h=>?_;obtain ⟨e,ds,i,j,l,y,_⟩:=h;rw[l.len];exact L ds i y;obtain⟨e,ds,i,j,l,y,M⟩:=h;obtain⟨G,Y,Z⟩:=O p A a s H E m;have V:=L ds i y;refine#[_,Y #[H,e,[],j,by simp,by simp],jE N ds,[],aDr i,#[?_,?_],Z ds i y,#[λJ U I _ C q=>?_,λv s J U I _ C q=>?_,λ_ _ _ _ _ q=>q.elim,λ_ _ _ _ _ q=>q.elim]];unfold jE L2.start;simp only[aI,aB,bN];rw[l.len];rw [aU];have hv:(Fm.vis #[H,e,[],j,by simp,by simp] H)=ext e H H:=rfl;have W:Rep #[H,e,[],j,by simp,by simp] [] H:=#[gF,λr m=>by simp at m,λr m=>by simp at m,λb o h _=>h,λb B=>by simp at B];unfold jE L2.start;rw[l.len];refine jg_ W<|l.imp λ_ _ z=>z.to λb o B=>?_;cases q:H b with
 |none=>rw[j _ _ B]at q;cases q
 |some u=>exact(kA q).trans B
 have R:=C.rep.add (d:=.non) (v:=.non) IsX.of_non;obtain⟨D,F⟩:=vC R;exact M _ _ _ D F q;obtain ⟨D,F⟩:=vC C.front;exact M _ _ _ D F q
end Lf
namespace L2
open PySem
def aRy(t:TE):TE:=λe H Q=>∃a b,H a=some (.dK b)/\∀o,t e (upd H a<|.frz o<|.dK b) λv c=>c a=some (.frz o<|.dK b)/\Q v (upd c a<|.dK b)
def aOq(h:PE X e t):PE X e<|aRy t:=by intro f s g H Q I ⟨a,b,c,q⟩;exact aWe h f s g H Q I #[a,b,c,λo v z=>(by have:=I.base.frzs a o v z;rw[c]at this;cases this),q]
end L2
namespace Lf
open PySem L2
section
variable{F:Fm}{P:Q8}{H c:Hp}{a:Addr}{kvs:S9}{o:Obj}
def nem{B:R9}(h:b∈B)(h':a∉B):b≠a:=by grind
def Fm.fz(F:Fm)(a:Addr)(o:Obj)(kvs:S9)(ha:a∉F.B):Fm where
 H0:=upd F.H0 a<|.frz o<|.dK kvs
 Hs:=upd F.Hs a<|.frz o<|.dK kvs
 B:=F.B
 sub:=λb u h=>by by_cases e:b=a;subst e;rw[bZ]at h ⊢;exact h;rw[eT e]at h ⊢;exact F.sub _ _ h
 nb:=λb f=>by rw[eT<|nem f ha];exact F.nb b f
 ib:=λb f=>by rw[eT<|nem f ha];exact F.ib b f
def bCb(h:F.vis H a=some (.dK kvs)):a∉F.B:=λb=>by obtain⟨u,e⟩:=F.ib a b;have:=(kA e).symm.trans h;rw[F.nb a b]at this;cases this
def aHd{F:Fm}{ha}{b}{H c}(f:b≠a)(e:c b=H b):(F.fz a o kvs ha).vis c b=F.vis H b:=by have g:(F.fz a o kvs ha).H0 b=F.H0 b:=eT f;have h:(F.fz a o kvs ha).Hs b=F.Hs b:=eT f;show ext _ _ _ b=ext _ _ _ b;unfold ext;rw[g,h,e]
def Rep.fzD(R:Rep F P H)(hv:F.vis H a=some (.dK kvs))(i:a∉bB P)(ha:a∉F.B):Rep (F.fz a o kvs ha) P<|upd H a<|.frz o<|.dK kvs:=by
 refine#[R.nd,λr h=>(R.ok r h).mono (λb u f=>?_) λb f=>eT λz=>i<|z ▸ f_ h f,λr h b f=>?_,λb u j l=>?_,λb f=>?_];have g:=bC.mp f;by_cases e:b=a;subst e;rw[hv]at g;cases g.2;refine .inr #[o,kvs,.inl #[rfl,bC.mpr #[g.1,?_]]];exact(kA<|bZ).trans bZ;exact .inl<|bC.mpr #[g.1,by rw[aHd e<|eT e];exact g.2];have p:b≠a:=fun z=>i<|z ▸ f_ h f;have:=R.fr r h b f;unfold FrOk at this ⊢;split at this<;>simp_all [Fm.fz,eT]
 by_cases e:b=a;subst e;have:some (HO.frz o<|.dK kvs)=some u:=bZ.symm.trans j;rw[bZ];exact this;rw [eT e];exact R.kp b u ((eT e).symm.trans j) l;obtain ⟨u,m⟩:=R.lv b f;exact#[u,by rw[eT<|nem f ha];exact m]
def Rep.thD(R:Rep (F.fz a o kvs ha) P H)(hv:F.H0 a=none\/(F.H0 a=some (.dK kvs)/\F.Hs a=some (.dK kvs))):H a=some (.frz o<|.dK kvs)/\Rep F P (upd H a<|.dK kvs):=by
 have v:=R.kp a _ bZ ha;have p:a∉bB P:=λz=>by
  obtain⟨r,g,e⟩:=dI.mp z;have:=R.fr r g a e;rcases this.or with this | this
  exact ha this;have j:=bZ.symm.trans this;cases j
 refine#[v,R.nd,λr g=>(R.ok r g).mono (λb u f=>?_) λb f=>eT λz=>p<|z ▸ f_ g f,λr g b f=>?_,λb u i j=>?_,λb f=>?_];have h:=bC.mp f;by_cases e:b=a;subst e;have l:(F.fz b o kvs ha).vis H b=some (.frz o<|.dK kvs):=(kA<|bZ).trans bZ;rw[l]at h;cases h.2;refine .inr #[o,kvs,.inr #[rfl,bC.mpr #[h.1,?_]]];rcases hv with q | ⟨m,s⟩
 exact(kG q).trans (by rw[bZ];rfl);exact(kA m).trans s;exact .inl<|bC.mpr #[h.1,by rw[<-aHd (F:=F) (o:=o) (kvs:=kvs) (ha:=ha) e (eT e).symm];exact h.2];have y:b≠a:=fun z=>p<|z ▸ f_ g f;have:=R.fr r g b f;unfold FrOk at this ⊢;split at this<;>simp_all [Fm.fz,eT]
 by_cases e:b=a;subst e;rcases hv with q | ⟨m,s⟩
 rw[q]at i;cases i;rw[m]at i;rw[bZ];exact i;rw [eT e];exact R.kp b u ((eT e).trans i) j;obtain ⟨u,l⟩:=R.lv b f;exact#[u,by rw[eT<|nem f ha];exact l]
end
def kZ:Key->Dx
 | .inl i=>.int i
 | .inr x=>.str x
def aPu(k:Key):IsX H (kZ k)<|kV k:=by cases k<;>simp only[kZ,kV,IsX]
def iR(l:S8):Q0:=l.map λp=>kZ p.1
def kx_:(iR l).length=l.length:=aB _
def zN{F:Fm}{a:Addr}{o:Obj}{kvs:S9}{l:S8}{G:Hp}(h:∀P H,Rep F P H->H a=some (.frz o<|.dK kvs))(c:All2 (KvX G) l kvs):ItX F (Itd a o kvs) [] (iR l)where
 go:=λP H i d R b=>#[h _ _ R,by have:=(aK.mp b).1;rw[kx_]at this;rw[c.len];exact this]
 stop:=λP H i R e=>#[h _ _ R,by rw[kx_]at e;rw[c.len];exact e]
 yld:=λP H i d x f R b q=>by obtain⟨rfl,m,r,rfl⟩:=q;obtain⟨p,g,j⟩:=c.get r;unfold iR at b;rw[bI,g]at b;cases b;show Rep F ((Sl.v<|Sv.tr<|kZ p.1,some<|kV m.1)::([]++P)) f;rw[j.1];exact R.add<|aPu _
def tXe(t:XT):TE:=λa H Q=>∃F,tX F t a H Q
def aUo(t:XC):TT:=λa H Q=>∃F,tXc F t a H Q
def XE.ex(h:XE X cY e t):PE X e<|tXe t:=λa s b H D I ⟨F,q⟩=>h F a s b H D I q
def XCs.ex(h:XCs X cY e t):PCs X e<|aUo t:=λa s b H D I ⟨F,q⟩=>h F a s b H D I q
def bLh(i:Nat)(b:XG)(G:XS):XS:=λa D=>match a[i]? with
 |some (.v s)=>(match s.d with | .dic l=>hU b G D (iR l) (a.set i<|.v<|.tr s.d) | _=>False)
 |_=>False
def uN(i n:Nat)(outs:R8)(e:XG)(f:XC)(g:XT):XT:=λa Q=>match a[i]? with
 |some (.v s)=>(match s.d with | .dic l=>l.length<=1000000/\cB n e f g (λb c=>Q (.ol b)<|back outs c<|a.set i<|.v<|.tr s.d) (iR l) (rP outs<|a.set i<|.v<|.tr s.d) [] | _=>False)
 |_=>False
def aDn(E:EOk F b c fr H)(h:b[i]? = some (.v s))(u:s.d=.dic l) :
  ∃a ws,c[i]? = some (some `i)/\EOk F (b.set i<|vT s.d) c fr H/\Rd (hid (bB<|(b.set i<|vT s.d).zip c++fr) `m) a (.dK ws)/\All2 (KvX<|hid (bB<|(b.set i<|vT s.d).zip c++fr) `m) l ws:=by
 obtain⟨v,hv,g,R⟩:=xJ E h;have R2:=R.frz;have m:=eq_ E.len g hv R2;obtain⟨w,e,j⟩:=R2.atT;subst e;rw[u]at j;have f:(bB<|(b.set i<|vT s.d).zip c++fr).Perm<|bB ((vT s.d,some w)::((b.zip c).eraseIdx i++fr)):=((cx_ E.len g hv).append_right fr).flatMap_right _;rw[hr_ rfl]at f;have o:=j.to<|kH λa r=>f.mem_iff.mp r;obtain⟨a,ws,rfl,p,q⟩:=o.dic_eq;exact#[a,ws,hv,m,p,q]
def aUk{P}(R:Rep F P H)(h:F.vis H a=some (.dK kvs)):F.H0 a=none\/(F.H0 a=some (.dK kvs)/\F.Hs a=some (.dK kvs)):=by
 cases q:F.H0 a with
 |none=>exact .inl rfl
 |some u => have b:=(kA q).symm.trans h;have c:=F.sub _ _ b;rw[q]at c;exact .inr #[c,b]
def aQo(h:F.vis H a=some (.frz o<|.dK kvs)):∀P H,Rep F P H->H a=some (.frz o<|.dK kvs):=λP e R=>by
 cases q:F.H0 a with
 |none => have b:=(kG q).symm.trans h;rw[nH b]at b;cases b
 |some u => have b:=(kA q).symm.trans h;exact R.kp a _ (F.sub _ _ b) λc=>by rw[F.nb a c]at b;cases b
section
variable{st:Stmt}{i n:Nat}{g:TG}{j:XG}{G:XS}{outs:R8}{h:XC}{f:XT}
def aRc(I:GX n g j)(D:outs.Nodup):∀p H Q,tX F (uN i n outs j h f) p H Q->mK n outs (aKw<|fQ i) g (aUo h) (tXe f) p H Q\/aRy (mK n outs (aKw<|fQ i) g (aUo h)<|tXe f) p H Q:=by
 rintro p H Q ⟨U,fr,W,E,q,k⟩;unfold uN at q;split at q;rename_i s T;split at q;rename_i l r;obtain⟨a,e,hv,c,m,A⟩:=aDn E T r;rw[r]at c m A;rw[<-r]at c;have L:(iR l).length<=1000000/\_:=#[by rw[kx_];exact q.1,q.2];rcases m with m | ⟨o,m⟩
 have b:=bC.mp m;have y:=bCb b.2;have B:=aUk c.rep b.2;refine .inr #[a,e,c.rep.vis _ _ b.2,λo=>#[.ref a,hv,a,o,e,rfl,bZ,?_]];have M:EOk (F.fz a o e y) (U.set i<|vT s.d) p ([]++fr)<|upd H a<|.frz o<|.dK e:=#[c.len,c.rep.fzD b.2 (by rw[r];exact b.1) y];refine lg_ (Q:=λv u=>u a=some (.frz o<|.dK e)/\Q v (upd u a<|.dK e)) I D (λ_ _ _ z=>#[_,z]) (λ_ _ _ z=>#[_,z]) (λv s u C J S=>?_) M (zN (λP H R=>R.kp a _ bZ y) A) L;obtain⟨N,O⟩:=J.rep.thD B;exact#[N,k v s _ C #[J.len,O] S];have b:=bC.mp m;refine .inl #[.ref a,hv,a,o,e,rfl,c.rep.vis _ _ b.2,?_];exact lg_ (F:=F) (Q:=Q) I D (λ_ _ _ z=>#[_,z]) (λ_ _ _ z=>#[_,z]) k (row:=[]) c (zN (aQo b.2) A) L;exact q.elim;exact q.elim
def aGn(S:CompScope dsc scope N tgs outs N')(hv:PE X (.Name x px)<|fQ i)(v:∀l C s H ex,PG (cF X N' scope l C s H ex) tg g)(B:GX tgs.length g j)(q:Tgt tgs.length g)
  (o:∀l C s H ex,XCs (cF X N' scope l C s H ex) cY ifs h) (u:∀l C s H ex,XE (cF X N' scope l C s H ex) cY elt f) (A:outs.Nodup:=by decide) (p:X.N=N:=by rfl) (m:X.env.scope=dsc:=by rfl) (r:X.calm=true:=by rfl) (z:∀y,foldedSetIterable (.Name x px) X.env y=pure y:=by intro _;rfl) :
  XE X Ex (.ListComp elt [#[tg,.Name x px,ifs,0]] scope pos) (uN i tgs.length outs j h f):=λF =>
 (PE.or (vM S (aAl hv) v q (λa b c d e=>(o a b c d e).ex) (λa b c d e=>(u a b c d e).ex) p m r z)<|aOq<|vM S (aAl hv) v q (λa b c d e=>(o a b c d e).ex) (λa b c d e=>(u a b c d e).ex) p m r z).weak (aRc B A)
end
def i_(g g':G2)(j l m:XT):XT:=λo Q=>j o λa f=>l f λb e=>g a.d b.d λs=>match s with
 | .tr (.bl k)=>if k=true then m e λc h=>g' b.d c.d λi=>Q i h else Q (.tr<|.bl false) e
 |_=>False
def yG(d:OpX r g)(M:OpX r' g'):∀b H Q,tX F (i_ g g' ta tb tc) b H Q->j6 r r' (tX F ta) (tX F tb) (tX F tc) b H Q:=by
 rintro b H Q ⟨ρ,fr,O,E,t,k⟩;refine#[ρ,fr,_,E,t,λv s C y L t'=>#[y,_,_,L,t',λw f D a h t2=>?_]];obtain⟨R,U,h2⟩:=h.two;have l:EOk F a b ((.v f,some w)::fr) D:=#[h.len,((h.rep.perm<|List.Perm.append_left _<|.swap _ _ _).perm mid).tail.perm<|.refl _];have i:=EOk.back h.len<|l.front.frz;obtain⟨Rb,Z⟩:=i.one;have m:=U.to (kH λc p=>by have:(bB ((vT f.d,some w)::(a.zip b++fr))).Perm<|bB (a.zip b++(vT f.d,some w)::fr):=mid.symm.flatMap_right _;have:=this.mem_iff.mpr p;exact this);have o:=Z.to (kH λc p=>by have:(bB ((vT f.d,some w)::(a.zip b++fr))).Perm<|bB (a.zip b++(vT f.d,some w)::fr):=mid.symm.flatMap_right _;have:=this.mem_iff.mpr p;exact this);refine d F (a.zip b++(vT f.d,some w)::fr) D s.d f.d v w _ _ i.rep m o t2 λz s3 G I q=>?_;split at q;rename_i J;obtain⟨z',e,n⟩:=I.atT;cases e;cases n.bl_eq;refine#[J,rfl,?_];have A:EOk F a b ((vT f.d,some w)::fr) G:=#[h.len,I.tail];cases J with
 |true => refine#[a,_,_,A,q,λu s4 N j B x=>?_];obtain⟨T,W,Y⟩:=B.two;exact M F _ N f.d s4.d w u Q (λz=>O z j) T W Y x λv' V C S q=>k v' V C j (EOk.back B.len S) q
 |false=>exact k _ _ G a (EOk.back h.len<|A.drop.rep.add<|IsX.of_bl _) q
 exact q.elim
section
variable{a b c e:Expr}{h:Pos}{r m:R2}{g g':G2}{l j i o:XT}{op f:CmpOp}
def xW(y:OpR X (compareOp op) r)(z:OpX r g)(p:OpR X (compareOp f) m)(q:OpX m g')(ha:XE X Ex a l)(s:XE X Ex b j)(u:XE X Ex c i)(v:lastMarks [op,f] [b,c]=false:=by with_unfolding_all rfl):XE X Ex (.Compare a [op,f] [b,c] h)<|i_ g g' l j i:=λF=>(aJa y p (ha F) (s F) (u F) v).weak<|yG z q
def nZ(y:OpR X (compareOp op) r)(z:OpX r g)(p:OpR X (compareOp f) m)(q:OpX m g')(ha:XE X Ex a l)(s:XE X Ex b j)(u:XE X Ex c i)(v:lastMarks [op,f] [b,c]=false:=by with_unfolding_all rfl):XTe X Ex (.Compare a [op,f] [b,c] h)<|xB<|i_ g g' l j i:=λF=>(aIl y p (ha F) (s F) (u F) v).weak<|if_<|yG z q
end
abbrev XO:=En->(S4->En->Prop)->Prop
def tXo(F:Fm)(t:XO):TO:=λg H Q=>∃f fr e,EOk F f g fr H/\t f e/\∀b c a,EOk F a g fr c->e b a->Q b c
def XOp(X:Cx)(Ex:ExT)(e:Option Expr)(t:XO):Prop:=∀F,[OkF X Ex F]->PO X e (tXo F t)
def xoN:XO:=λa Q=>Q none a
def xoS(t:XT):XO:=λb Q=>t b λs a=>match s.d with
 | .int i=>Q (some i) a
 |_=>False
def mU:XOp X Ex none xoN:=λF _ a s c H Q I h=>by obtain⟨b,fr,e,E,t,k⟩:=h;exact aOl a s c H Q I<|k none H b E t
def id_(h:XE X Ex e t):XOp X Ex (some e)<|xoS t:=λF _ f s o H Q I l=>by refine aOk (h F) f s o H Q I ?_;obtain⟨m,fr,p,E,t,k⟩:=l;refine#[m,fr,_,E,t,λv s g a b q=>?_];split at q;rename_i i j;obtain⟨R,c⟩:=b.one;rw[j]at c;cases c.int_eq;exact#[i,rfl,k (some i) g a b.drop q];exact q.elim
def iT{b:Type}(xs:List b)(a c:S4):List b:=(xs.drop<|HT.sIx xs.length 0 a).take<|HT.sIx xs.length xs.length c-HT.sIx xs.length 0 a
def slX(a:Dx)(c b:S4)(Q:Sv->Prop):Prop:=match a with
 | .lst l=>Q (.ol<|iT l c b)
 | .str z=>z.length<=1000000/\Q (.tr<|.str<|Txt.slice z c b)
 |_=>False
def xSl(t:XT)(g f:XO):XT:=λi Q=>t i λa b=>g b λl c=>f c λh e=>slX a.d l h λs=>Q s e
def aGh(K:dN)(C:XE X Ex e t)(G:XOp X Ex lo tl)(D:XOp X Ex hi th)(h:X.K=K:=by rfl):XE X Ex (.Subscript e (.Slice lo hi none p2) pos)<|xSl t tl th:=λF =>
 (jh_ (SlR.or (oX K h) aVb) (C F) (G F)<|D F).weak fun W H Q=>by rintro⟨O,fr,U,E,t,k⟩;refine#[O,fr,_,E,t,λv s S i r q=>#[i,_,_,r,q,λl T j y M=>#[j,_,_,y,M,λu A c g b=>?_]]];obtain⟨R,f⟩:=g.one;unfold slX at b;split at b;rename_i m I;rw[I]at f;obtain⟨a,N,rfl,B,o⟩:=f.lst_eq;refine .inl #[a,N,rfl,SqL.of<|R.hv _ _ B,λp J=>k _ _ _ c (EOk.back g.len<|R.newL J ?_) b];unfold c6 iT;rw[o.len];exact(o.drop _).take _;rename_i z L;rw[L]at f;cases f.str_eq;exact .inr #[z,rfl,by have:=iM;lia,k _ _ A c (EOk.back g.len<|R.add<|IsX.of_str _) b.2];exact b.elim
def bBn(t:XT):XT:=λb Q=>t b λs a=>match s.d with
 | .lst l=>Q (.ol l.reverse) a
 |_=>False
def v4(i:XE X Ex e t):XE X Ex (.Subscript e (.Slice none none (some<|.UnaryOp .USub (.Constant (.int 1) k p1) p2) p3) pos)<|bBn t:=λF=>(aOo<|i F).weak λz H Q=>by rintro⟨r,fr,y,E,t,k⟩;refine#[r,fr,_,E,t,λv s u b c q=>?_];split at q;rename_i m j;obtain⟨R,f⟩:=c.one;rw[j]at f;obtain⟨a,o,rfl,g,h⟩:=f.lst_eq;exact#[a,o,rfl,SqL.of<|R.hv _ _ g,λp l=>k _ _ _ b (EOk.back c.len<|R.newL l h.rev) q];exact q.elim
def inX(c:Bool):G2:=λa b Q=>match scV a,(match b with | .lst l=>some l | .tup l=>some l | _=>none)with
 |some x,some l=>(l.all λd=>(scV d).isSome)=true/\Q (.tr (.bl (if c then !inV x (l.filterMap scV)else inV x (l.filterMap scV))))
 |_,_=>False
def mY(h:scV d=some v):jZ v=true:=by cases d<;>simp only[scV,Option.some.injEq]at h<;>first | (subst h;rfl) | cases h
def l9:∀{l} {vs},All2 (IsX G) l vs->(l.all λd=>(scV d).isSome)=true->vs=l.filterMap scV/\vs.all jZ=true
 | [],_,h,_=>by rw[show _=[]from h];exact#[rfl,rfl]
 |d::l,_,⟨v,vr,e,h1,h2⟩,h=>by rw[List.all_cons,cI]at h;obtain⟨x,a⟩:=cL.mp h.1;obtain⟨b,c⟩:=l9 h2 h.2;subst e;have:=jw_ h1 a;subst this;exact#[by rw[iI,a,<-b],by rw[List.all_cons,mY a,c];rfl]
def pU(c:Bool):OpX (rIn K c)<|inX c:=by intro F P H a b x y Q z R s r g k;unfold inX at g;split at g;rename_i u l m e;cases jw_ s m;obtain⟨o,q⟩:=g;split at e;cases e;obtain⟨p,v,rfl,i,j⟩:=r.lst_eq;obtain⟨f,h⟩:=l9 j o;subst f;exact#[p,_,rfl,.inl<|SqL.of<|R.hv _ _ i,mY m,h,k _ _ H (R.add<|IsX.of_bl _) q];cases e;obtain⟨p,v,rfl,i,j⟩:=r.tup_eq;obtain⟨f,h⟩:=l9 j o;subst f;exact#[p,_,rfl,.inr<|SqT.of<|R.hv _ _ i,mY m,h,k _ _ H (R.add<|IsX.of_bl _) q];cases e;exact g.elim
def bAu:GC
 | [.lst l],Q=>(∃bs:List Bool,l=bs.map Dx.bl/\Q (.tr<|.bl<|bs.all id))
 |_,_=>False
def aCw:∀{bs:List Bool} {vs},All2 (IsX G) (bs.map Dx.bl) vs->vs=bs.map V.bl
 | [],_,h=>h
 |b::bs,_,⟨v,vr,e,h1,h2⟩=>by rw[e,h1.bl_eq,aCw h2];rfl
def jl_:∀{bs:Q6} {vs},All2 (IsX G) (bs.map Dx.int) vs->vs=bs.map V.int
 | [],_,h=>h
 |b::bs,_,⟨v,vr,e,h1,h2⟩=>by rw[e,h1.int_eq,jl_ h2];rfl
def mD:jM (aIf K) bAu:=by intro F P H i l Q h R e g k;unfold bAu at g;split at g;obtain ⟨bs,rfl,g⟩:=g;obtain⟨x,rfl,f⟩:=f7 e;obtain⟨a,j,rfl,b,c⟩:=f.lst_eq;have:=aCw c;subst this;exact#[a,bs,rfl,SqL.of<|R.hv _ _ b,k _ _ H (R.add<|IsX.of_bl _) g];exact g.elim
def ek_(K:dN)(a:X.calm=true)(h:X.K=K:=by rfl):CallR X (.builtin "all")<|aIf K:=by subst h;exact aFk a
def aBf:GC
 | [.int i,.int j],Q=>Q (.tr (.int (if j>i then j else i)))
 |_,_=>False
def aBd:GC
 | [.int i,.int j],Q=>Q (.tr (.int (if j<i then j else i)))
 |_,_=>False
def wW:jM (λxs H Q=>∃i j,xs=[.int i,.int j]/\Q (.int (if j>i then j else i)) H) aBf:=by intro F P H f xs Q e R a g k;unfold aBf at g;split at g;obtain ⟨x,y,rfl,b,c⟩:=xM a;cases b.int_eq;cases c.int_eq;exact#[_,_,rfl,k _ _ H (R.add<|IsX.of_int _) g];exact g.elim
def aCp:jM (λxs H Q=>∃i j,xs=[.int i,.int j]/\Q (.int (if j<i then j else i)) H) aBd:=by intro F P H f xs Q e R a g k;unfold aBd at g;split at g;obtain ⟨x,y,rfl,b,c⟩:=xM a;cases b.int_eq;cases c.int_eq;exact#[_,_,rfl,k _ _ H (R.add<|IsX.of_int _) g];exact g.elim
def aSs:GC
 | [.lst l],Q=>(∃b:Q6,l=b.map Dx.int/\b≠[]/\∀M,M∈b->(∀a∈b,a<=M)->Q (.tr<|.int M))
 |_,_=>False
def aCq:jM (aIc K) aSs:=by intro F P H m p Q l R i g k;unfold aSs at g;split at g;obtain ⟨bs,rfl,b,g⟩:=g;obtain⟨x,rfl,j⟩:=f7 i;obtain⟨a,o,rfl,c,e⟩:=j.lst_eq;have:=jl_ e;subst this;exact#[a,bs,rfl,SqL.of<|R.hv _ _ c,b,λM f h=>k _ _ H (R.add<|IsX.of_int _)<|g M f h];exact g.elim
def tW(K:dN)(a:X.calm=true)(h:X.K=K:=by rfl):CallR X (.builtin "max")<|aIc K:=by subst h;exact aFh a
def lW(c:GX n g gx)(b:outs.Nodup):∀D a H,tXS F (iX i<|rY n outs ti gx tc te) D a H->uQ (mK n outs (tXi F ti) g (tXc F tc)<|tX F te) (kL i) D a H:=by rintro D a H ⟨j,fr,d,E,q,k⟩;exact y_ c b a H _ #[j,fr,_,E,q,λv s f l e h=>k.nx _ f _ bS (ft_ e) h]
def oV(N:Q3)(l:Q0)(ds:Q0):En:=.bw l::(ds.map (λd=>.v<|.tr d)++List.replicate (N.length-(ds.length+1)) .un)
def nI(Q:Dx->Q0->Prop)(d:Dx)(a:En):Prop:=match (a[0]? : Option Sl)with
 |some (Sl.bw l)=>Q d l
 |_=>False
abbrev bCq(Q:Dx->Q0->Prop):XD:=#[λa=>nI Q .non a,λs a=>nI Q s.d a,λ_=>False,λ_=>False]
def zJ{Q:VK}{Qx:Dx->Q0->Prop}(u:∀d v l' f e,SameX p H e->e p=some (.lst f)->All2 (IsX<|hid [p] (ext h H e)) l' f->IsX (ext h H e) d v->Qx d l'->Q v e){i:Nat}(m:EOk #[H,h,[p],s,G,F] ρ' j ((vT d,some v)::[]) e)(r:ρ'[i]? = some (.bw l'))(q:Qx d l'):Q v e:=by
 obtain⟨R,E⟩:=m.one;obtain⟨y,J,I,R2⟩:=xJ #[m.len,R] r;obtain⟨a,f,rfl,A,B⟩:=R2.atB;have C:a=p:=aE.mp<|R2.fr _ aA a<|aE.mpr rfl;subst C;refine u d v l' f e (λb o g=>?_) A (B.imp λ_ _ z=>z.to (kH λc D=>by rw[aE.mp D];exact aA)) (E.to aBv) q;have l:b≠a:=λz=>by rw[z]at g;unfold aQd at g;rw[if_pos rfl]at g;cases g
 rw[wJ l]at g ⊢;exact R.kp b o g λz=>l<|aE.mp z
def qB{H e:Hp}{p:Addr}{i:Same e H}{q:∀b∈[p],e b=none}{j:∀b∈[p],∃o,H b=some o}{l ds:Q0}{ws s:Q1}(D:H p=some (.lst ws))(G:All2 (IsX e) l ws)(F:All2 (IsX e) ds s)(m:Nat):Rep #[H,e,[p],i,q,j] ((.bw l,some<|.ref p)::(ds.map (λd=>Sl.v<|.tr d)++List.replicate m Sl.un).zip (s.map some++List.replicate m none)) H:=by
 have y:=q p aA;have E:Rep #[H,e,[p],i,q,j] [] H:=#[gF,λr c=>by simp at c,λr c=>by simp at c,λb o h _=>h,j];have v:Same e<|Fm.vis #[H,e,[p],i,q,j] H:=λb o f=>(kA<|i _ _ f).trans f;have g:=jg_ (m:=m) E<|F.imp λ_ _ z=>z.to v;have A:bB ((ds.map (λd=>Sl.v<|.tr d)++List.replicate (m) Sl.un).zip<|s.map some++List.replicate (m) none)=[]:=by
  unfold bB;refine List.flatMap_eq_nil_iff.mpr λr c=>?_;obtain⟨a,b⟩:=r;rcases aV.mp (List.of_mem_zip c).1 with h | h
  obtain⟨d,_,rfl⟩:=aY.mp h;rfl;rw[(List.mem_replicate.mp h).2];rfl
 refine#[by rw[kY (a:=p) rfl,A];simp,λr c=>?_,λr c a C=>?_,g.kp,g.lv];rw [kY (a:=p) rfl,A];rcases aF.mp c with rfl | c
 refine #[p,ws,rfl,D,G.imp fun _ _ z=>z.to fun b o f=>bC.mpr #[fun z => ?_,v _ _ f]];rw[aE.mp z,y]at f;cases f;refine (g.ok r c).mono (.of fun b o f => ?_) fun _ _=>rfl;have u:=bC.mp f;refine bC.mpr #[λz=>?_,u.2];have B:e p=some o:=(kA D).symm.trans<|aE.mp z ▸ u.2;rw[y]at B;cases B;rcases aF.mp c with rfl | c
 exact C;exact g.fr r c a C
def aQr(O:Fun K x x st f fd)(S:FnScope N ps<|aP st)(L:∀l ds Q,g l ds Q->ds.length+1=ps.length)(hN:ps.length<=N.length)
  (M:∀ (z:Value) (A:Around) (a:List Env) (s:Shared) (H:Hp) (E:XK),Room k (A.deeper<|PyProof.Rows.envOfC x (aP st) s.heap.objs.size f z) →
   ∃G,XSs (kE CX0 P w K mg base N x (aP st) f z A a s H E).nox cY (fL st) G/\∀l ds Q,g l ds Q->G (oV N l ds) (bCq Q)):FnOk P w K mg base CX0 (k+1) f fd ps<|spB g:=by
 refine O.ok S (λt H Q E h=>?_)<|λz A a s H t Q E n h=>?_;obtain ⟨p,ws,l,D,B,ds,r,rfl,_,_,_,_,y,C,_⟩:=h;rw[aL,y.len];exact L l ds r C;obtain⟨p,ws,l,D,B,ds,r,rfl,Y,F,Ec,W,y,C,T⟩:=h;obtain⟨G,U,Z⟩:=M z A a s H E n;have J:∀b∈[p],B b=none:=by grind
 have I:∀b∈[p],∃o,H b=some o:=by grind
 have u:∀{d:Dx} {v:V} {i:St} {m:Hp} {c:En},EOk #[H,B,[p],F,J,I] c i ((vT d,some v)::[]) m->nI r d c->Q v m:=λ{d v i m c} j q=>by unfold nI at q;split at q;rename_i l' R;exact zJ T j R q;exact q.elim
 refine#[_,U #[H,B,[p],F,J,I],oV N l ds,[],bCq r,#[?_,?_],Z l ds r C,#[λi m c _ j q=>u (EOk.back j.len<|j.rep.add (d:=.non) (v:=.non) IsX.of_non) q,λv s i m c _ j q=>u (EOk.back j.len j.front.frz) q,λ_ _ _ _ _ q=>q.elim,λ_ _ _ _ _ q=>q.elim]];unfold oV L2.start;simp only[aI,aB,bN,aL];rw[y.len];lia;rw [aU];have e:(oV N l ds).zip (L2.start N (.ref p::D))=(.bw l,some<|.ref p)::(ds.map (λd=>Sl.v<|.tr d)++List.replicate (N.length-(ds.length+1)) Sl.un).zip (D.map some++List.replicate (N.length-(ds.length+1)) none):=by unfold oV L2.start;rw[bG,dJ,List.zip_cons_cons,aL,y.len]
 rw[e];exact qB Y W y _
def Cal.mono(C:Cal P w K mg base i x ps sp)(h:i<=j):Cal P w K mg base j x ps sp:=by obtain⟨f,fd,G,b,k,m⟩:=C;exact#[f,fd,G.mono h,b,k,m]
def lh_{n:Nat}{e:XG}{g:XC}{i:XT}{Q:Q0->Q9->Prop}{cs:Q9}(f:Dx->Q0):∀{ds:Q0} {a:Q0},
  (∀d∈ds,∀(a:Q0) (P:Q0->Q9->Prop),P (a++f d) cs->e d (List.replicate n .un++cs) λj=>g j λb c=>if b=true then i c λs l=>P (a++[s.d]) (l.drop n)else P a (c.drop n)) ->
  Q (a++(ds.map f).flatten) cs->cB n e g i Q ds cs a
 | [],a,_,q=>by simpa [cB]using q
 |d::ds,a,h,q=>by show e d _ _;exact h d aA a (λa cs=>cB n e g i Q ds cs a)<|lh_ f (λm o=>h m<|aC _ o)<|by simpa [bK]using q
def zY{gx}{G}{D}(b:Q0->En->Prop)(e:∀a,b [] a->D.nx a)(f:∀d ds a (K:En->Prop),b (d::ds) a->(∀ρ',b ds ρ'->K ρ')->gx d a λc=>G c { D with nx:=K,ct:=K,bk:=D.nx }) :
  ∀{ds} {a},b ds a->hU gx G D ds a
 | [],a,h=>e a h
 |d::ds,a,h=>f d ds a (hU gx G D ds) h λρ' g=>zY b e f g
def u3{l:List α}{i:Int}(b:0<=i)(c:i<l.length):∃x,atI l i=some x/\l[i.toNat]? = some x:=by
 have a:i.toNat<l.length:=(Int.toNat_lt b).mpr c;refine#[l[i.toNat],?_,aJ a];unfold atI;have:ixN l.length i=some i.toNat:=by unfold ixN;split<;>simp_all<;>lia
 rw[this];exact aJ a
abbrev GP:=Q0->Dx->(Dx->Prop)->Prop
def OpL(r:R2)(g:GP):Prop:=∀(G:Hp) (H:Hp) (p:Addr) (c:Q1) (l:Q0) (b:Dx) (y:V) (Q:VK) (a:Dx->Prop),Same G H->H p=some (.lst c)->All2 (IsX G) l c->IsX G b y->g l b a->(∀v d,IsX G d v->a d->Q v H)->r (.ref p) y H Q
def rF(g:GP)(i:Nat)(t:XT):XT:=λb Q=>((b[i]?).bind iJ).isSome=true/\t b λk a=>match (a[i]?).bind iJ with
 |some (l,_)=>g l k.d λd=>Q (.tr d) a
 |none=>False
def aNl(i:Nat):XT:=λa Q=>match (a[i]?).bind iJ with
 |some (l,_)=>Q (.tr<|.int l.length) a
 |none=>False
section
variable{F:Fm}{i:Nat}{t:XT}{r:R2}{g:GP}{x:Str}{a b e:Expr}{p c:Pos}
def aIs(L:OpL r g):∀u H Q,tX F (rF g i t) u H Q->tOp r (fQ i) (tX F t) u H Q:=by rintro u H Q ⟨O,fr,S,E,⟨A,q⟩,k⟩;obtain⟨⟨l,f⟩,B⟩:=cL.mp A;obtain⟨p,W,hv,_⟩:=eb_ E B;refine#[.ref p,hv,O,fr,_,E,q,λw s z o h j=>?_];split at j;rename_i M T C;obtain⟨R,J⟩:=h.one;obtain⟨U,m,y,I,G,_⟩:=eb_ h.drop C;rw[hv]at y;cases y;exact L _ z p m M s.d w Q _ R.hv I G J j λv d D N=>k v (.tr d) z o (EOk.back h.len<|R.add D) N;exact j.elim
def bDa:∀h H Q,tX F (aNl i) h H Q->(∃p ws,h[i]? = some (some<|.ref p)/\SqL K H p ws/\Q (.int ws.length) H):=by rintro h H Q ⟨s,fr,u,E,q,k⟩;unfold aNl at q;split at q;rename_i l f j;obtain⟨p,ws,hv,o,m,_⟩:=eb_ E j;exact#[p,ws,hv,SqL.of o,k _ _ H s (EOk.back E.len<|E.rep.add (by rw[m.len];exact IsX.of_int _)) q];exact q.elim
def ixP:GP:=λl k Q=>match k with
 | .int j=>(match atI l j with | some d=>Q d | none=>False)
 |_=>False
def aSp:OpL (aId K) ixP:=by intro G H p z l b y Q s u q o j g k;unfold ixP at g;split at g;cases j.int_eq;split at g;rename_i d m;obtain⟨v,f,h⟩:=qX o m;exact#[_,_,_,_,rfl,rfl,SqL.of q,f,k v d h g];exact g.elim;exact g.elim
def jo_(K:dN)(hv:PE X (.Name x p)<|fQ i)(f:XE X Ex b t)(j:jX b)(h:X.K=K:=by rfl):XE X Ex (.Subscript (.Name x p) b c)<|rF ixP i t:=λF=>by exact(yX wF hv (f F) j).weak<|aIs aSp
def neP(n:Bool):GP:=λl k Q=>match k with
 | .lst []=>Q (.bl (if n then !l.isEmpty else l.isEmpty))
 |_=>False
def aSo(n:Bool):OpL (λx y H Q=>r x y H Q\/aIe K n x y H Q)<|neP n:=by
 intro G H p f l b y Q z o m j h g k;unfold neP at g;split at g;obtain ⟨q,v,rfl,s,u⟩:=h.lst_eq;cases(u);refine .inr #[p,q,f,rfl,rfl,SqL.of m,SqL.of<|o _ _ s,k _ _ ?_ g];have:f.isEmpty=l.isEmpty:=by have:=j.len;cases f<;>cases l<;>simp at this ⊢
 rw[this];exact IsX.of_bl _;exact g.elim
def aMz(K:dN)(l:X.A.units<cLine)(hv:PE X (.Name x p)<|fQ i)(f:XE X Ex b t)(j:behindInMarks .NotEq b=false)(h:X.K=K:=by rfl):XTe X Ex (.Compare (.Name x p) [.NotEq] [b] c)<|xB<|rF (neP true) i t:=λF=>(vH (aJi K l h) hv (f F) j).weak<|if_<|aIs<|aSo true
def aNa(K:dN)(l:X.A.units<cLine)(hv:PE X (.Name x p)<|fQ i)(f:XE X Ex b t)(j:behindInMarks .Eq b=false)(h:X.K=K:=by rfl):XTe X Ex (.Compare (.Name x p) [.Eq] [b] c)<|xB<|rF (neP false) i t:=λF=>(vH (m8 K l h) hv (f F) j).weak<|if_<|aIs<|aSo false
def aGi(K:dN)(o:Gl X y)(s:X.mg y=none)(hv:bootBuiltins y=some (.builtin "len"))(v:PE X (.Name x p)<|fQ i)(h:X.K=K:=by rfl)(u:y ≠ "__name__":=by decide)(f:T3 y:=by decide):XE X Ex (.Call (.Name y py) [.Name x p] [] c)<|aNl i:=λF=>by refine(ji_ jU o s hv (g7 v fq_) u f).weak λA H Q q=>?_;obtain⟨p,z,j,l,m⟩:=bDa (K:=X.K) A H Q q;exact#[.ref p,j,p,z,rfl,.inl l,m]
end
def XE.at(F:Fm)[OkF X Ex F](h:XE X Ex e t):PE X e<|tX F t:=h F
def XIt.at(F:Fm)[OkF X Ex F](h:XIt X Ex tg e t):PI X tg e<|tXi F t:=h F
def XCs.at(F:Fm)[OkF X Ex F](h:XCs X Ex e t):PCs X e<|tXc F t:=h F
section
variable{g:Type}{n:Nat}{c:XG}{f:XC}{e:XT}{Q:Q0->Q9->Prop}
abbrev oS(n:Nat)(c:XG)(f:XC)(e:XT)(P:Q0->Q9->Prop)(d:Dx)(cs:Q9)(j:Q0):Prop:=c d (List.replicate n .un++cs) λh=>f h λb a=>if b=true then e a λs i=>P (j++[s.d]) (i.drop n)else P j (a.drop n)
def lR{cs}(i j:g->Dx):∀{as:List g} {b},(∀a∈as,∀(b:Q0) (P:Q0->Q9->Prop),P (b++[j a]) cs->oS n c f e P (i a) cs b) ->
  Q (b++as.map j) cs->cB n c f e Q (as.map i) cs b
 | [],b,_,q=>by simpa [cB]using q
 |a::as,b,h,q=>by exact h a aA b (λb cs=>cB n c f e Q (as.map i) cs b)<|lR i j (λl m=>h l<|aC _ m)<|by simpa [bK]using q
def db_(j:g->Dx)(I:List g->Q0->Q9->Prop)(l:∀b cs,I [] b cs->Q b cs)(m:∀a as b cs (P:Q0->Q9->Prop),I (a::as) b cs->(∀acc' i,I as acc' i->P acc' i)->oS n c f e P (j a) cs b) :
  ∀{as} {b} {cs},I as b cs->cB n c f e Q (as.map j) cs b
 | [],b,cs,h=>l b cs h
 |a::as,b,cs,h=>by exact m a as b cs (λb cs=>cB n c f e Q (as.map j) cs b) h λacc' i o=>db_ j I l m o
def xQ{c}{G}{D}(i:g->Dx)(b:List g->En->Prop)(l:∀a,b [] a->D.nx a)(m:∀d ds a (K:En->Prop),b (d::ds) a->(∀ρ',b ds ρ'->K ρ')->c (i d) a λj=>G j { D with nx:=K,ct:=K,bk:=D.nx }) :
  ∀{ds} {a},b ds a->hU c G D (ds.map i) a
 | [],a,h=>l a h
 |d::ds,a,h=>m d ds a (hU c G D<|ds.map i) h λρ' o=>xQ i b l m o
end
section
variable{F:Fm}{e:Expr}{c:List Keyword}{x:Str}{p b:Pos}{u:XA}{t:XT}
def bBs(dd:Int)(u:XA):XT:=λi Q=>u i λh f=>match h.map Sv.d with
 | [.lst l]=>∃g:Q6,l=g.map Dx.int/\(g=[]->Q (.tr<|.int dd) f)/\∀M,M∈g->(∀a∈g,a<=M)->Q (.tr<|.int M) f
 |_=>False
def mV(C:X.calm=true)(G:Gl X "max")(J:X.mg "max" = none)(ha:XAs X Ex [e] u)(r:PK X c<|oQ (tC<|.int dd) yE)(q:(backToKw b<|keywordEach c X.env).filterMap (·.1)=(["default"]:Q3):=by rfl)
  (D:backTo b (starEach [e] X.env)=(false,eval e X.env)::backTo b (starEach [] X.env):=by rfl) (l:(backTo b<|starEach [e] X.env).any (·.1)=false:=by rfl)
  (o:(backToKw b<|keywordEach c X.env).all (·.1.isSome)=true:=by rfl) (s:(backToKw b<|keywordEach c X.env).any (·.1.isNone)=false:=by rfl):XE X Ex (.Call (.Name "max" p) [e] c b)<|bBs dd u:=λF=>by
 refine(aDy (aFj C) G J mE (ha F) r q `a rfl D l o s).weak λd H Q=>?_;rintro⟨T,fr,W,E,t,k⟩;refine#[T,fr,_,E,t,λY S i f I h g=>?_];obtain⟨R,j⟩:=h.many I;generalize U:S.map Sv.d=ds at g j;split at g;obtain ⟨v,rfl,hv⟩:=f7 j;obtain⟨a,Z,rfl,z,A⟩:=hv.lst_eq;obtain⟨L,rfl,N,O⟩:=g;have:=jl_ A;subst this;exact#[a,L,dd,rfl,rfl,SqL.of<|R.hv _ _ z,λy=>k _ _ i f (EOk.back h.len<|R.add<|IsX.of_int _)<|N y,λM B m=>k _ _ i f (EOk.back h.len<|R.add<|IsX.of_int _)<|O M B m];exact g.elim
def fe_(g:Gl X x)(a:∃t,X.mg x=some (.int i t))(f:T3 x:=by decide):XE X Ex (.Name x b)<|xC<|.int i:=by obtain⟨t,a⟩:=a;exact aDf (vL (v:=.int i) g a #[t,rfl] f) _ λ_=>IsX.of_int _
def bBy(t:XT):XT:=λf Q=>t f λs a=>match s.d with
 | .int i=>Q (.tr<|.int<|Builtin.Int.intBits i) a
 |_=>False
def bAr:∀g H Q,tX F (bBy t) g H Q->aUw K "int" aSg (tX F t) g H Q:=by rintro g H Q ⟨o,fr,r,E,q,k⟩;refine#[o,fr,_,E,q,λv s l f h a=>?_];obtain⟨R,j⟩:=h.one;split at a;rename_i i m;rw[m]at j;cases j.int_eq;exact#[rfl,i,rfl,rfl,k _ _ l f (EOk.back h.len<|R.add<|IsX.of_int _) a];exact a.elim
end
def neL:G2:=λa b Q=>match a,b with
 | .lst l,.lst m=>∃c:Q6,l=c.map Dx.int/\m=c.map Dx.int/\Q (.tr<|.bl false)
 |_,_=>False
def slS:Sl->Sl
 | .v s=>.v (.tr s.d)
 | .bw _=>.un
 | .bo _=>.un
 | .ba _ _=>.un
 |s=>s
def aHs{r:Rw}:eL (slS r.1,r.2)=[]:=by obtain⟨s,v⟩:=r;cases s<;>simp[slS,eL]
def aVd(E:EOk F ρ σ fr H):∃F':Fm,F'.H0=H/\F'.B=[]/\F'.Hs=F.vis H/\EOk F' (ρ.map slS) σ [] H:=by
 have R:=E.rep;have g:=λb o h=>R.vis b o h;refine#[#[H,F.vis H,[],g,λb c=>by simp at c,λb c=>by simp at c],rfl,rfl,rfl,#[by rw[aB];exact E.len,?_]];have m:(ρ.map slS).zip σ=(ρ.zip σ).map λr=>(slS r.1,r.2):=by rw[List.zip_map_left];rfl
 have i:bB ((ρ.map slS).zip σ++[])=[]:=by rw[aU,m];refine List.flatMap_eq_nil_iff.mpr λr f=>?_;obtain⟨y,_,rfl⟩:=aY.mp f;exact aHs
 have p:Same `m (Fm.vis #[H,F.vis H,[],g,λb c=>by simp at c,λb c=>by simp at c] H):=λb o h=>(kA<|g b o h).trans h;refine#[by rw[i];exact gF,λr f=>?_,λr f a q=>?_,λb o h _=>h,λb c=>by simp at c];rw [i];rw[aU,m]at f;obtain⟨⟨s,v⟩,j,rfl⟩:=aY.mp f;cases s with
 |un=>trivial
 |bw l=>trivial
 |bo o=>trivial
 |ba a l=>trivial
 |pn w=>exact R.ok (.pn w,v) (aM _ j)
 |v s => obtain⟨A,B,e⟩:=List.append_of_mem j;have R2:Rep F ((.v s,v)::(A++B++fr)) H:=R.perm (by rw[e,bK,dJ,bK];exact fH);obtain⟨x,rfl,u⟩:=R2.head;exact#[x,rfl,u.to λb o h=>bC.mpr #[by simp,p _ _ (bC.mp h).2]]
 have:a∈bB ((ρ.map slS).zip σ ++ []):=dI.mpr #[r,f,q];rw[i]at this;simp at this
def OkF.up(h:OkF X Ex F)(j:∀c,Ex' c->Ex c)(i:∀H,aFs F' H->aFs F H):OkF X Ex' F':=
 #[λf m H l g b I a e k=>h.pass1 f m H l g b I a (j _ e)<|i _ k]
section
variable{F:Fm}{a b e:Expr}{x:Str}{p c:Pos}{o m t:XT}{g j:XO}{u:XA}{K:dN}
def aRm{f:α->β}:atI (l.map f) i=(atI l i).map f:=by
 unfold atI;rw[aB];cases ixN l.length i with
 |none=>rfl
 |some n=>exact bI
def ixZ(K:dN):G2
 | .scr K' ns,.int i,Q=>K'=K/\(match atI ns i with | some n=>Q (.tr<|.int n) | none=>False)
 |_,_,_=>False
def slZ(K:dN)(a:Dx)(h f:S4)(Q:Sv->Prop):Prop:=match a with
 | .scr K' ns=>K'=K/\Q (.ol<|(iT ns h f).map Dx.int)
 |_=>False
def bHo(K:dN)(t:XT)(v r:XO):XT:=λy Q=>t y λa f=>v f λl i=>r i λh q=>slZ K a.d l h λs=>Q s q
def qH:∀xs:Q6,All2 (IsX G) (xs.map Dx.int) (xs.map V.int)
 | []=>rfl
 |x::xs=>#[_,_,rfl,IsX.of_int _,qH xs]
def aCs{f:α->β}(l:List α)(i h:S4):iT (l.map f) i h=(iT l i h).map f:=by unfold iT;rw[aB,List.map_take,List.map_drop]
def aDc(K:dN)(I:XE X Ex e t)(L:XOp X Ex lo g)(J:XOp X Ex hi j)(h:X.K=K:=by rfl):XE X Ex (.Subscript e (.Slice lo hi none p2) c)<|bHo K t g j:=λF =>
 (jh_ (oX K h) (I F) (L F)<|J F).weak fun d H Q=>by rintro⟨S,fr,Z,E,t,k⟩;refine#[S,fr,_,E,t,λv s T r C q=>#[r,_,_,C,q,λl U y D O=>#[y,_,_,D,O,λu W z A f=>?_]]];obtain⟨R,B⟩:=A.one;unfold slZ at f;split at f;rename_i Y i M;obtain⟨rfl,f⟩:=f;rw[M]at B;obtain⟨a,rfl,G⟩:=B.scr_eq;refine#[a,_,rfl,SameF.sq (.of R.hv) G,λp N=>k _ _ _ z (EOk.back A.len<|R.newL N ?_) f];have:c6 (i.map V.int) l u=(iT i l u).map V.int:=aCs i l u;rw[this];exact qH _;exact f.elim
end
def spLaw(K:dN):Sp:=λe H Q _=>∃(a:Addr) (b:Q6),e=[.ref a]/\SqL K H a (b.map V.int)/\b.length<=63/\∀c,Q (.bl true) c
def bEv(K:dN):GC:=λb Q=>∃a:Q6,b=[.scr K a]/\a.length<=63/\Q (.tr<|.bl true)
def aKi(h:FnOk P w K mg base CX0 j f fd BK<|spX<|bEv K):FnOk P w K mg base CX0 j f fd BK<|spLaw K:=h.imp λo H Q E=>by rintro⟨a,c,rfl,i,l,q⟩;refine#[H,[.scr K c],λs=>s=.tr (.bl true),Same.refl _,#[_,_,rfl,IsX.of_scr i,rfl],#[c,rfl,l,rfl],λs v b _ m e=>?_];subst e;have g:IsX (ext H H b) (.bl true) v:=m;cases g.bl_eq;exact q b
end Lf
namespace L2
open PySem
section
variable{M:Model}{A:Around}{E:iE}{s:Shared}
def f6(fs S:R9)(h h':Heap):Prop:=∀b o,h.get? b=some o->b∉S->(b∉fs->h'.get? b=some o)/\∃a,h'.get? b=some { o with slots:=a }
end
end L2
namespace Lf
open PySem L2
section
variable{M:Model}{A:Around}{E:iE}{s:Shared}
def r6{nw:Addr->Prop}{H:Hp}{m:Addr}{cls:Value}{fl:Option Addr}{Q:Unit->Shared->Prop}(a:Air nw s.heap H m cls)
  (h:∀h' S,(∀b∈S,nw b/\H b=none/\∃o vs,s.heap.get? b=some o/\o.data=.fields vs)->f6 [] S s.heap h'->Air nw h' H m cls->Q () { s with heap:=h' }):wpAny M A (setFlight (.ref m) fl) Q E s:=by
 obtain⟨r,u,G,vs,l,F,j,q,g,e⟩:=a;unfold setFlight;rcases e with e | ⟨T,L,N,e,B,y,v,p,i,D⟩
 refine wpAny_bind<|wpAny_field l j e ?_;rw[if_neg `a];exact wpAny_pure<|h s.heap [] (λb c=>nomatch c) (λb o c _=>#[λ_=>c,o.slots,c]) #[r,u,G,vs,l,F,j,q,g,.inl e];refine wpAny_bind<|wpAny_field l j e ?_;rw[if_pos (show(Value.ref T != Value.none)=true from by simp)];refine wpAny_setField p i D<|h _ [T] (λb c=>?_) (λb o c I=>?_) #[r,u,G,vs,(bD _ _ B).trans l,F,j,q,g,.inr #[T,_,_,e,B,y,v,cE _ p<|Obj.isFreed_of_fields<|Obj.data_mapFields i _,Obj.data_mapFields i _,by simpa using D]];rw[aE.mp c];exact#[y,v,L,N,p,i];have J:b≠T:=fun z=>I<|aE.mpr z;have C:=(bD s.heap (Obj.mapFields (·.setIfInBounds 3 (fl.elim Value.none λf=>rawInt f)))<|Ne.symm J).trans c;exact#[λ_=>C,o.slots,C]
def Tb(h':Heap)(c:Addr):Prop:=∃a b T,h'.get? c=some a/\a.data=.fields b/\b[1]? = some (.ref T)
def aEg{base:Heap}{nw:Addr->Prop}{H:Hp}{env:Env}{g:List Env}{L i:Addr}{cls:Value}{Q:Unit->Shared->Prop}
  (Da:A.frames=some (env::g)) (hl:s.heap.FunFrames base (env::g)) (hf:env.frame=some L) (hz:∀T,s.heap.objs.size<=T->nw T) (hH:∀a,s.heap.objs.size<=a->H a=none) (a:Air nw s.heap H i cls)
  (h:∀h' S,(∀b∈S,nw b/\H b=none/\∃o vs,s.heap.get? b=some o/\o.data=.fields vs)->f6 (frs (env::g)) S s.heap h'->Air nw h' H i cls->Tb h' i->Q () { s with heap:=h' }):wpAny M A (noteFrame (.ref i) env) Q E s:=by
 have v:∀{s:Shared} {D:Obj} {vs:S5} {head:Value} {Ep:Bool} {Q:Unit->Shared->Prop},s.heap.FunFrames base (env::g)->s.heap.get? i=some D->D.data=.fields vs->1<vs.size ->
   (∀h' T u p,f6 (frs (env::g)) [i] s.heap h'->s.heap.objs.size<=T->T≠i->h'.get? i=some (D.mapFields (·.setIfInBounds 1 (.ref T)))->h'.get? T=some u->u.data=.fields p->3<p.size->Q () { s with heap:=h' }) ->
   wpAny M A (do let a <-frameOf env;let N <-entryPlaceOf L Ep;let b <-EntryCells.newEntry head a .none (rawInt L) .none N;setField (.ref i) 1 b) Q E s:=by
  intro s D vs head Ep Q hl y m l h;have Ng:i∉(env::g).filterMap (·.frame):=λhm=>by obtain⟨_,o,ho,t⟩:=hl.mem hm;rw[y]at ho;injection ho with ho;subst ho;exact t vs m
  refine wpAny_bind<|wpAny_frameOf_fun Da hl hf λe j=>?_;refine wpAny_bind<|wpAny_entryPlaceOf λN Ag=>?_;unfold EntryCells.newEntry newFields;refine wpAny_bind<|wpAny_newObj_type ?_<|Ag.sizeOk5 _ _ _ _ _;have B:e.get? i=some D:=(j.2.1 i Ng).trans y;have C:=aD (h:=e) { cls:=.type "traceback",dict:=none,data:=.fields ([head,.ref L,.none,rawInt L,.none]++(if N.isEmpty then List.replicate 6 Value.none else N)).toArray } B;have Po:e.objs.size≠i:=fE<|aR B;have d:=Obj.data_mapFields m (·.setIfInBounds 1 (Value.ref e.objs.size));have k:=cE (Obj.mapFields (·.setIfInBounds 1 (Value.ref e.objs.size))) C<|Obj.isFreed_of_fields d;have Z:=(bD (e.push { cls:=.type "traceback",dict:=none,data:=.fields ([head,.ref L,.none,rawInt L,.none]++(if N.isEmpty then List.replicate 6 Value.none else N)).toArray })
   (Obj.mapFields (·.setIfInBounds 1 (Value.ref e.objs.size))) (Ne.symm Po)).trans<|aW e rfl
  refine wpAny_setField C m l<|h _ e.objs.size _ _ ?_ (jA j.1.symm) Po k Z rfl (by simp only[aS,aI,aL,bE]<;>lia);intro b o f Hj;have Nt:b≠i:=λz=>Hj<|aE.mpr z;have keep:∀o,e.get? b=some o->((e.push { cls:=.type "traceback",dict:=none,data:=.fields ([head,.ref L,.none,rawInt L,.none]++(if N.isEmpty then List.replicate 6 Value.none else N)).toArray }).update i (Obj.mapFields (·.setIfInBounds 1 (Value.ref e.objs.size)))).get? b=some o:=λo f=>by rw[bD _ _<|Ne.symm Nt];exact aD _ f
  refine#[λKg=>keep o<|(j.2.1 b Kg).trans f,?_];obtain⟨sl,hs⟩:=j.2.2 b o f;exact#[sl,keep _ hs]
 obtain⟨a1,a2,D,vs,y,hc,m,Ie,l,O⟩:=a;have F:∀(h':Heap) (T:Addr) (u:Obj) (p:S5),s.heap.objs.size<=T->T≠i->h'.get? i=some (D.mapFields (·.setIfInBounds 1 (.ref T)))->h'.get? T=some u->u.data=.fields p->3<p.size->Air nw h' H i cls/\Tb h' i:=λh' T u p G R I U W Y=>by refine#[#[a1,a2,_,_,I,(Obj.cls_mapFields _ _).trans hc,Obj.data_mapFields m _,by obtain⟨c,a5,dt,sl⟩:=D;cases dt<;>exact Ie,by simpa using l,.inr #[T,u,p,by simp[l],R,hz T G,hH T G,U,W,Y]],#[_,_,T,I,Obj.data_mapFields m _,by simp[l]]]
 unfold noteFrame;simp only[hf];rcases O with O | ⟨T,u,p,O,aT,aN,aH,V,n,h3⟩
 refine wpAny_bind<|wpAny_field y m O ?_;rw[if_neg `a];exact v hl y m l λh' T u p g0 G R I U W Y=>h h' [i] (λb f=>by rw[aE.mp f];exact#[a1,a2,_,_,y,m]) g0 (F h' T u p G R I U W Y).1 (F h' T u p G R I U W Y).2;refine wpAny_bind<|wpAny_field y m O ?_;rw[if_pos (show(Value.ref T != Value.none)=true from by simp)];obtain⟨x3,e3⟩:∃x,p[3]? = some x:=#[_,Array.getElem?_eq_getElem h3];refine wpAny_bind<|wpAny_field V n e3 ?_;by_cases hx:(x3 == rawInt L)=true;rw [if_pos hx];exact wpAny_pure<|h s.heap [] (λb f=>nomatch f) (λb o f _=>#[λ_=>f,o.slots,f]) #[a1,a2,D,vs,y,hc,m,Ie,l,.inr #[T,u,p,O,aT,aN,aH,V,n,h3]] #[D,vs,T,y,m,O];rw[if_neg hx];refine wpAny_bind<|wpAny_setField V n h3 ?_;have other:∀b,b≠T->(s.heap.update T (Obj.mapFields (·.setIfInBounds 3 Value.none))).get? b=s.heap.get? b:=λb f=>bD _ _<|Ne.symm f;have r:∀b o,s.heap.get? b=some o->(∀vs,o.data ≠ .fields vs)->b≠T:=λb o f t q=>by rw[q,V]at f;injection f with f;subst f;exact t p n
 have J:(s.heap.update T (Obj.mapFields (·.setIfInBounds 3 Value.none))).objs.size=s.heap.objs.size:=Heap.size_after_update ..;refine v (s:={ s with heap:=_ }) (hl.of_keeps λb o f t=>#[o,(other b<|r b o f t).trans f,rfl]) ((other i<|Ne.symm aT).trans y) m l
  λh' T' a0 a4 g0 G R I U W Y=>h h' [i,T] (λb f=>?_) (λb o f Dz=>?_) (F h' T' a0 a4 (by rw[<-J];exact G) R I U W Y).1 (F h' T' a0 a4 (by rw[<-J];exact G) R I U W Y).2
 rcases aF.mp f with rfl | f
 exact#[a1,a2,_,_,y,m];rw[aE.mp f];exact#[aN,aH,_,_,V,n];have n1:b≠i:=fun z=>Dz (by rw [z]; exact aA);have n2:b≠T:=λz=>Dz (by rw[z];exact aC _ aA);exact g0 b o ((other b n2).trans f) λz=>n1<|aE.mp z
def aJx{base:Heap}{nw:Addr->Prop}{H:Hp}{env:Env}{c:List Env}{L j:Addr}{cls:Value}{Q:Unit->Shared->Prop}
  (F:A.frames=some (env::c)) (k:s.heap.FunFrames base (env::c)) (l:env.frame=some L) (hz:∀T,s.heap.objs.size<=T->nw T) (Z:∀a,s.heap.objs.size<=a->H a=none) (a:Air nw s.heap H j cls)
  (h:∀h' S,(∀b∈S,nw b/\H b=none/\∃o vs,s.heap.get? b=some o/\o.data=.fields vs)->f6 (frs (env::c)) S s.heap h'->Air nw h' H j cls->Q () { s with heap:=h' }):wpAny M A (noteFrame (.ref j) env) (λ_ i=>wpAny M A (setFlight (.ref j) none) Q E i) E s:=
 aEg F k l hz Z a λh' S y B f _=>r6 (s:={ s with heap:=h' }) f λY v G u g=>h Y (S++v.filter λb=>(s.heap.get? b).isSome) (λb d=>by
  rcases aV.mp d with z | z
  exact y b z;by_cases r:b∈S;exact y b r;obtain⟨z1,z2⟩:=cA.mp z;obtain⟨o,e⟩:=cL.mp z2;obtain⟨U,W,x,I,N,J⟩:=G b z1;obtain⟨D,O⟩:=(B b o e r).2;have R:some x=some { o with slots:=D }:=N.symm.trans O;cases R;exact#[U,W,o,I,e,J]) (λb o e n=>by
  have t:b∉S:=λz=>n<|aM _ z;have C:b∉v:=λz=>n<|aG _<|cA.mpr #[z,by rw[e];rfl];obtain⟨p,D,q⟩:=B b o e t;refine#[λl=>(u b o (p l) C).1 `h,?_];obtain⟨m,V⟩:=(u b _ q C).2;exact#[m,V]) g
end
def aEv(x:HOk P w H h)(k:f6 fs S h h')(j:∀b∈fs,H b=none)(i:∀b∈S,H b=none):HOk P w H h':=λa o e =>
 ObjOk.stay (x a o e) (λb u f l=>by
  have g:∃o,H b=some o:=by
   rcases f with rfl | f
   exact#[_,e];exact#[_,f]
  obtain⟨ob,c⟩:=g;exact(k b u l λz=>by rw[i b z]at c;cases c).1 λz=>by rw[j b z]at c;cases c) (λ_ z=>z) (λ_ _ z=>z)
section
variable{X:Cx}{f:gQ}{e:St}{H c:Hp}{s a:Shared}
def Inv.thrown(I:Inv X f e H s)(os:a.os=s.os)(h:PyProof.Rows.AllBare a.gens)(un:Un (frs X.stack) [] H c s.heap a.heap)(i:HOk X.prog X.w c a.heap):Inv X f e c a:=by obtain⟨l,g,d,t,j⟩:=a;obtain rfl:j=s.os:=os;exact I.call (h':=l) (g':=g) (d':=d) (t':=t) (ch:=[]) un i h<|λb z=>absurd z `h
end
def Air.older(a:Air n h' H ea cls)(k:∀b,n b->n0 b):Air n0 h' H ea cls:=by
 obtain⟨g,h,q,u,o,l,m,f,e,c⟩:=a;refine#[k _ g,h,q,u,o,l,m,f,e,?_];rcases c with c | ⟨T,p,s,c,j,i,r⟩
 exact .inl c;exact .inr #[T,p,s,c,j,k _ i,r]
def OkF.pass[OkF X Ex F](m:gQ)(y:St)(H:Hp)(s:Shared)(e:Value)(l:Shared)(I:Inv X m y H s)(h:CXe X.prog X.w X.stack H s (λc _ f=>Ex c/\aFs F f) e l):X.xe e l:=by
 obtain⟨A,i,f,rfl,E,a,un,j,g,D,B⟩:=h;refine OkF.pass1 (Ex:=Ex) (F:=F) m y f l A i (Inv.thrown I E a un j) (g.older λb v=>#[?_,λp C z=>?_]) D B;by_cases r:b∈X.ex;exact .inr r;left;cases q:X.s₀.heap.get? b with
 |none=>rfl
 |some o => obtain⟨G,u⟩:=I.base.there b o q r;rw[v]at u;cases u
 have:=(I.pin p C).1;rw[z,v]at this;cases this
section
variable{N:Q3}{x:Str}{scope:Scope}{f:Addr}{g:Value}{A:Around}{e:List Env}{s:Shared}{H:Hp}{E:XK}{Ex:ExT}{F:Fm}
def aPh(M:∀c l,Ex c->aFs F l->E c none l):OkF (kE (CXe P w) P w K mg base N x scope f g A e s H E) Ex F:=#[λI t l d J p i v U R=>by
 have older:∀b,NwX (kE (CXe P w) P w K mg base N x scope f g A e s H E) I b->s.heap.get? b=none:=λb h=>h.1.elim (λz=>z) λz=>nomatch z;refine wpAny_bind<|aJx (base:=base) (nw:=λb=>s.heap.get? b=none) (H:=l) (L:=s.heap.objs.size) i.ok.frames i.stack rfl (λT O=>Heap.get?_none_of_le<|nzL i.sz O) (λa Q=>i.hok.fresh Q) (v.older older) λY S G u m=>?_;have D:∀b o,s.heap.get? b=some o->b∉S:=λb o h z=>by rw[(G b z).1]at h;cases h
 have W:∀b o,s.heap.get? b=some o->b∈frs (PyProof.Rows.envOfC x scope s.heap.objs.size f g::e)->b∈frs e:=λb o h z=>by
  rcases aF.mp (show b∈s.heap.objs.size::frs e from z)with z | z
  exact absurd (aR h) (by rw[z];exact dB _);exact z
 have B:=i.base;refine#[J,p,l,rfl,i.os,i.bare,#[λb o h n r j=>?_,λb o h n r j=>?_,λb o h n j=>B.free b o h n j,λb o h j=>?_,B.tups,B.frzs,B.tbls],aEv i.hok u i.stkFree<|λb h=>(G b h).2.1,m,M p l U R];exact(u b o (B.keep b o h n r j)<|D b o h).1 λz=>r<|W b o h z;obtain ⟨k,y⟩:=B.slot b o h n r j;obtain⟨q,C⟩:=(u b _ y<|D b o h).2;exact#[q,C];obtain ⟨Z,y⟩:=B.there b o h j;obtain⟨q,C⟩:=(u b _ y<|D b o h).2;exact#[_,C]]
end
abbrev aUn{H c:Hp}(h:Same c H):Fm:=#[H,c,[],h,λb a=>by simp at a,λb a=>by simp at a]
abbrev GE:=Q0->(Sv->Prop)->ExT->Prop
def spE(g:GE):Sp:=λh H Q E=>∃b f e Ex,Same b H/\All2 (IsX b) f h/\g f e Ex/\(∀s v a,Same H a->aCz b H a s v->e s->Q v a)/\∀c a,Same H a->Ex c->E c none a
def rO(Y:Fun K x i st f fd)(S:FnScope N ps<|aP st)(O:∀ds Q Ex,g ds Q Ex->ds.length=ps.length)(hN:ps.length<=N.length)
  (U:∀ (l:Value) (A:Around) (a:List Env) (s:Shared) (H:Hp) (E:XK) (Ex:ExT),Room k (A.deeper<|PyProof.Rows.envOfC i (aP st) s.heap.objs.size f l) →
   ∃G,XSs (kE (CXe P w) P w K mg base N i (aP st) f l A a s H E) Ex (fL st) G/\∀ds Q,g ds Q Ex->G (jE N ds) (aDr Q)):FnOk P w K mg base (CXe P w) (k+1) f fd ps<|spE g:=by
 obtain⟨oc,od,kV,t,pm,an,l,ct,a0,rfl,lk,W⟩:=Y.ex;refine aSz lk W S (λvs H Q E h=>?_) λA a s H vs Q E B h=>?_;obtain ⟨Z,ds,m,Ex,p,y,C,_⟩:=h;rw[y.len];exact O ds m Ex C;obtain⟨Z,ds,m,Ex,p,y,C,T,V⟩:=h;obtain⟨G,hG,hq⟩:=U l A a s H E Ex B;have hl:=O ds m Ex C
 haveI:OkF (kE (CXe P w) P w K mg base N i (aP st) f l A a s H E) Ex<|aUn p:=aPh λc F e k=>V c F (λb o j=>k b o j `h) e
 refine#[_,hG<|aUn p,jE N ds,[],aDr m,#[?_,?_],hq ds m C,#[λM F L _ D q=>?_,λv s M F L _ D q=>?_,λ_ _ _ _ _ q=>q.elim,λ_ _ _ _ _ q=>q.elim]];unfold jE L2.start;simp only[aI,aB,bN];rw[y.len];rw [aU];have n:Rep (aUn p) [] H:=#[gF,λr B=>by simp at B,λr B=>by simp at B,λb o h _=>h,λb j=>by simp at j];unfold jE L2.start;rw[y.len];refine jg_ n<|y.imp λ_ _ z=>z.to λb o j=>?_;cases q:H b with
 |none=>rw[p _ _ j]at q;cases q
 |some u=>exact(kA q).trans j
 have R:=D.rep.add (d:=.non) (v:=.non) IsX.of_non;obtain⟨I,J⟩:=vC R;exact T _ _ _ I J q;obtain ⟨I,J⟩:=vC D.front;exact T _ _ _ I J q
def mR(P:Program)(w:World)(K:dN)(mg:mH)(base:Heap)(j:Nat)(x:Str)(ps:Q3)(sp:Sp):Prop:=∃f fd,FnOk P w K mg base (CXe P w) j f fd ps sp/\Binds K fd ps []/\PySem.W.keepIn K (.ref f)=true/\mg x=some (.ref f)
def aOr{p pos}(C:mR X.prog X.w X.K X.mg X.base j x ps sp)(l:Room j X.A)(o:kN (CXe X.prog X.w) X E)(ha:PA X (e::a) t)(i:Gl X x:=by rfl)(g:T3 x:=by decide)
  (h:T5 X e a:=by rfl) (c:T6 X pos a:=by rfl):PE X (.Call (.Name x p) (e::a) [] pos)<|z9 sp [] E t:=by
 obtain⟨f,fd,G,b,k,m⟩:=C;exact aAp G l i m k b .nil o ha g h c
def j0(Ex:ExT)(g:GE)(u:XA):XT:=λc Q=>u c λb a=>g (b.map Sv.d) (λs=>Q s a) Ex
def cg_{p pos}(C:mR X.prog X.w X.K X.mg X.base j x ps<|spE g)(f:Room j X.A)(ha:XAs X Ex (e::a) u)(J:Gl X x:=by rfl)(A:T3 x:=by decide)
  (G:T5 X e a:=by rfl) (z:T6 X pos a:=by rfl):XE X Ex (.Call (.Name x p) (e::a) [] pos)<|j0 Ex g u:=λF=>(aOr C f (λy r H s e O I h=>OkF.pass y r H s e O I h) (ha F) J A G z).weak λr H Q=>by
 rintro⟨S,fr,U,E,t,k⟩;refine#[S,fr,_,E,t,λY W T i L l N=>?_];obtain⟨R,M⟩:=l.many L;rw[aU];exact#[_,_,_,Ex,R.hv,M,N,λs v m e f q=>k v s m i (EOk.back l.len<|R.res e f) q,λc m e q=>#[q,λb o B D=>e b o<|R.kp b o B D]]
def aEf(x:ObjOk P w H h a o):∃ob,h.get? a=some ob:=by
 cases o with
 |lst l=>obtain⟨z,i,n,r,e⟩:=x;exact#[_,e]
 |tup l=>obtain⟨z,i,r,ob,e,c⟩:=x;exact#[_,e]
 |dK j=>obtain⟨z,y,E,r,ob,g,b,e,c⟩:=x;exact#[_,e]
 |dT j=>obtain⟨z,y,l,r,ob,g,b,e,c⟩:=x;exact#[_,e]
 |set S n=>obtain⟨ob,g,b,t,e,c⟩:=x;exact#[_,e]
 |ins C m fs=>obtain⟨d,z,A,e,_⟩:=x;exact#[_,e]
 |own y=>exact x
 |xd fs=>obtain⟨s,⟨B,g,b,e,c⟩,r⟩:=x;exact#[_,e]
 |rng q p=>obtain⟨t,u,v,e⟩:=x;exact#[_,e]
 |frz ob u=>exact#[_,x.1]
 |tbl D=>exact#[_,x]
 |met f y=>exact#[_,x]
 |ext F=>exact x.2.1
def HOk.none(x:HOk P w H h)(n:h.get? a=.none):H a=.none:=by
 cases q:H a with
 |none=>rfl
 |some o => obtain⟨ob,e⟩:=aEf<|x a o q;rw[n]at e;cases e
abbrev bLc(X:Cx)(x:Str)(C:Addr):Prop:=PyProof.Rows.OwnCls x C veM "ValueError.__new__" X.mg X.base
def aTz(Ex:ExT)(c:Value):XS:=λ_ _=>Ex c
def cy_{x z}{np cpos pos p}{j}(O:bLc X x C)(L:X.calm=true)(Q:Gl X x)(M:T3 x:=by decide)
  (m:starEach [.Constant (.str z) j p] X.env=[(false,eval (.Constant (.str z) j p) X.env)]:=by rfl):XSt X Ex (.Raise (some<|.Call (.Name x np) [.Constant (.str z) j p] [] cpos) none pos)<|aTz Ex<|.ref C:=λF _ l s u H D I h=>by
 obtain⟨ρ,fr,d,E,q,k⟩:=h;have S:=g7 aIw fq_ m;obtain⟨Y,N,nm,U,bs,hdct,sn,sub,ab,col,dd,k0,k1,k2,k3,k5,mN,G,J,v,T⟩:=O.obj;refine wpAny_Raise_call_subT (C:=C) (nm:=nm) (q:=U) (N:=N) (bs:=bs) (bm:=Y) (hdct:=hdct) (sn:=sn) (sub:=sub) (ab:=ab) (col:=col) (dd:=dd) (k0:=k0) (k1:=k1) (k2:=k2) (k3:=k3) (k5:=k5)
  PySem.F.excBase_ValueError (mN:=mN) (T.hasType PySem.F.excBase_ValueError.hasBase) (I.ok.hd L) (by rw[m];rfl) v (kt_ I Q O.bound #[rfl,?_] M)
 refine Calls.evalArgs_plain ?_;refine wpAny_mono (S cpos l s u H (λr i=>r=[.str z]/\i=H) I #[rfl,rfl]) (λV g f=>?_) λ_ _ y=>y;obtain⟨r,i,a,W,rfl,rfl⟩:=f;refine#[rfl,by rw[<-W.length];show 1<=sizeLine;exact nzL `a (iZ iM),a.bk _ _ G,J.keeps a.bk,T.keeps a.bk,λZ e c=>?_];obtain⟨t,R,n,_⟩:=c.there;refine OkF.pass (Ex:=Ex) (F:=F) l u i g _ _ a #[e,.ref C,i,rfl,rfl,a.bare,Un.kept c.keeps,a.hok.kept c.keeps,#[c.new,HOk.none a.hok c.new,_,_,R,rfl,rfl,rfl,by show 1<6;decide,.inl rfl],q,λb o A B=>E.rep.kp b o A B]
abbrev XQ:=En->(En->Prop)->(Value->En->Prop)->Prop
end Lf
namespace PySem.W
open PySem PySem.Spec PySem.Calls PyProof.Rows
section
variable{prog:Program}{w:World}{A:Around}{E:iE}{s:Shared}{K:Frag}{x C D:Addr}{c:Obj}{e:Obj}{b:Option Obj}{a:Str}
end
end PySem.W
namespace Lf
open PySem L2
open PySem.W (Frag nsIn)
section
variable{K:Frag}{h:Heap}
def sT(e:vX K N n=true)(X:K.In h):∃m,h.Ns N m/\m n=none:=by unfold vX at e;split at e;rename_i c d f j l q;obtain⟨g,b⟩:=gY.mp e;refine#[nsFind f,#[_,f,j,X _ _ q,rfl,λi a=>?_,λ_=>rfl],?_];have:=List.all_eq_true.mp g i (by simpa using a);split at this;grind;cases this;unfold nsFind findBy;rw[<-Array.find?_toList];rw[Option.isNone_iff_eq_none]at b;rw[b];rfl;cases e
def oP:∀(k:Nat) (l:Q7),gJ K k l=true->K.In h->OwnTail h veM l
  | 0, l, e, X => by
    have:l=veM:=by simpa [gJ]using e
    rw[this];exact .base
  | k + 1, [], e, X => by
    have:([]:Q7)=veM:=by simpa [gJ]using e
    rw[this];exact .base
  | k + 1, v :: r, e, X => by
    cases v with
    | ref A =>
      unfold gJ at e;split at e
      . rename_i c d o p q;obtain⟨a,f⟩:=gY.mp e;obtain⟨m,g,j⟩:=sT a X;exact .own (X _ _ q) g j (oP k r f X)
      . cases e
    | none => have : Value.none :: r = veM := by simpa [gJ] using e
              cases this
    | bool b => have : Value.bool b :: r = veM := by simpa [gJ] using e
                cases this
    | int i t => have : Value.int i t :: r = veM := by simpa [gJ] using e
                 cases this
    | str x t => have : Value.str x t :: r = veM := by simpa [gJ] using e
                 cases this
    | bytes x t => have : Value.bytes x t :: r = veM := by simpa [gJ] using e
                   cases this
    | float x t => have : Value.float x t :: r = veM := by simpa [gJ] using e
                   cases this
    | builtin x => have : Value.builtin x :: r = veM := by simpa [gJ] using e
                   cases this
    | type T => have : Value.type T :: r = veM := by simpa [gJ] using e
                rw[this];exact .base
    |_=>first | (simp[gJ]at e;done) | (exfalso;revert e;simp[gJ])
def aFf{C}{x}{mg}(e:c7 K C=true)(B:mg x=some (.ref C))(X:K.In h):PyProof.Rows.OwnCls x C veM "ValueError.__new__" mg h:=by
 unfold c7 at e;split at e;rename_i u b a q;obtain⟨f,_⟩:=gY.mp e;split at f;rename_i F j p;simp only[cI,beq_iff_eq]at f;obtain⟨⟨⟨⟨⟨rfl,v⟩,c⟩,y⟩,z⟩,A⟩:=f;obtain⟨m,l,o⟩:=sT z X;have r:a = [a.getD 0 none,a.getD 1 none,a.getD 2 none,a.getD 3 none,some<|.builtin "ValueError.__new__",a.getD 5 none].toArray:=by
  apply Array.ext_getElem?;intro i
  match i with
  | 0=>simp[c]
  | 1=>simp[c]
  | 2=>simp[c]
  | 3=>simp[c]
  | 4=>simp[y]
  | 5=>simp[c]
  |i+6=>rw[Array.getElem?_eq_none (by rw[c];lia),Array.getElem?_eq_none `h]
 refine#[B,j,b.ns,b.name,b.qualname,b.bases,b.hasDict,b.slotNames,b.subclasses,b.abstract,b.collection,u,a.getD 0 none,a.getD 1 none,a.getD 2 none,a.getD 3 none,a.getD 5 none,m,?_,l,o,oP 4 j A X];have:=X _ _ q;rw[this];obtain⟨nm,bs,D,I,J,H,L,E,G,s,g⟩:=b;subst p v;unfold excClassObj;rw[<-r];cases f;cases e
end
end Lf
namespace L2
open PySem PySem.Spec PySem.SeqAt PySem.AutoSeq1 PySem.MeetsSeq PyProof.Rows
end L2
namespace L2
open PySem PySem.Spec PySem.SeqAt PyProof.Rows
end L2
namespace Lf
open PySem L2
open PySem.W (Frag nsIn)
def aYu(K:Frag)(a:Q3)(n:Str):OX:=match mM K n with
 |some C=>(c7 K C,a.map (λm=>match mM K m with | some D=>(PySem.W.kitOne K (.ref C)<|.ref D,aUl K C D) | none=>(none,false)),PySem.W.kitOne K (.ref C)<|.type "ValueError",PySem.W.kitOne K (.type "NoneType")<|.ref C)
 |none=>(false,[],none,none)
def aPj(K:Frag)(a:Q3):bDl K a=a.map (aYu K a):=rfl
structure ClsX(K:Frag)(mg:mH)(n:Str)(C:Addr):Prop where
 at':mM K n=some C
 m:mg n=some (.ref C)
 ok:c7 K C=true
def bAm(e:aYu K f n=(true,l,a,b))(X:K.In h)(G:h.Ns mainGlobals mg):∃C,ClsX K mg n C/\l=f.map (λm=>match mM K m with | some D=>(PySem.W.kitOne K (.ref C)<|.ref D,aUl K C D) | none=>(none,false))/\PySem.W.kitOne K (.ref C) (.type "ValueError")=a/\PySem.W.kitOne K (.type "NoneType") (.ref C)=b:=by
 unfold aYu at e;cases c:mM K n with
 |none=>rw[c]at e;simp at e
 |some C => rw[c]at e;simp only[Prod.mk.injEq]at e;obtain⟨g,i,j,o⟩:=e;refine#[C,#[c,?_,g],i.symm,j,o];unfold mM at c;split at c;rename_i q p;cases c;exact PySem.W.mg_of X G p;cases c
def ClsX.own(x:ClsX K mg n C)(X:K.In base):PyProof.Rows.OwnCls n C veM "ValueError.__new__" mg base:=aFf x.ok x.m X
def bHs(t:XT):XT:=λb Q=>t b λs a=>match s.d with
 | .int i=>Q (.tr<|.int<|-i) a
 |_=>False
def aTr(h:XE X Ex e t):XE X Ex (.UnaryOp .USub e pos)<|bHs t:=λF=>(aSk aHg<|h F).weak λm H Q=>by rintro⟨j,fr,l,E,t,k⟩;refine#[j,fr,_,E,t,λv s f a b q=>?_];split at q;rename_i i g;obtain⟨R,c⟩:=b.one;rw[g]at c;cases c.int_eq;exact#[i,rfl,k _ _ f a (EOk.back b.len<|R.add<|IsX.of_int _) q];exact q.elim
def aOd:Q0->Q1->Q8
 |d::ds,v::vs=>(.v<|.tr d,some v)::aOd ds vs
 |_,_=>[]
end Lf
namespace L2
open PySem PySem.Spec PyProof.Rows
end L2
namespace Lf
open PySem L2
def sgX(x:Str):Q0:=x.cps.toList.map λc=>.str #[[c].toArray]
def aHr{i:Nat}(h:(sgX x)[i]? = some d):∃c,x.cps[i]? = some c/\d=.str #[[c].toArray]:=by unfold sgX at h;rw[bI]at h;obtain⟨c,a,b⟩:=cV.mp h;exact#[c,by simpa using a,b.symm]
def aPx{F}{x}:ItX F (Its x) [] (sgX x)where
 go:=λP H i d R b=>by obtain⟨c,a,_⟩:=aHr b;exact(Array.getElem?_eq_some_iff.mp a).1
 stop:=λP H i R e=>by unfold sgX at e;rw[aB,Array.length_toList]at e;exact e
 yld:=λP H i d y g R b q=>by obtain⟨rfl,c,a,rfl⟩:=q;obtain⟨h,f,rfl⟩:=aHr b;rw[a]at f;cases f;exact R.add<|IsX.of_str _
def xiS(t:XT):XI:=λb Q=>t b λs a=>match s.d with
 | .str z=>Q (sgX z) a
 |_=>False
section
variable{f l a b:Expr}{t o m:XT}{x:Str}{p e:Pos}
def aTn(h:XE X Ex l t):XIt X Ex f l<|xiS t:=λF=>(aVy<|h F).weak λB H R=>by rintro⟨y,fr,A,E,t,k⟩;refine#[y,fr,_,E,t,λv s j c g q=>?_];split at q;rename_i z u;obtain⟨r,i⟩:=g.one;rw[u]at i;cases i.str_eq;exact#[z,rfl,k _ j c [] _ #[g.len,r] aPx q];exact q.elim
def bEf(c:Bool):G2
 | .str i,.str j,Q=>Q (.tr (.bl (if c then !(!(Builtin.Str.occurrences j i 0 j.length 1).isEmpty)else !(Builtin.Str.occurrences j i 0 j.length 1).isEmpty)))
 |_,_,_=>False
def aWj:OpX (λx y H Q=>∃i j,x=.str i/\y=.str j/\Q (.bl<|!(Builtin.Str.occurrences j i 0 j.length 1).isEmpty) H)<|bEf false:=by intro F P H a b x y Q q R c h g k;unfold bEf at g;split at g;cases c.str_eq;cases h.str_eq;exact#[_,_,rfl,rfl,k _ _ H (R.add<|IsX.of_bl _) g];exact g.elim
def aGk(h:Gl X x)(c:∃t,X.mg x=some (.str i t))(g:T3 x:=by decide):XE X Ex (.Name x e)<|xC<|.str i:=by obtain⟨t,c⟩:=c;exact aDf (vL (v:=.str i) h c #[t,rfl] g) _ λ_=>IsX.of_str _
def bBt(vs:Q1)(t:XT):XT:=λg Q=>t g λs c=>match scV s.d with
 |some v=>Q (.tr<|.bl<|inV v vs) c
 |none=>False
def bEg(z:vs.all jZ=true)(A:∀H,SqT K H c vs):∀i H Q,tX F (bBt vs t) i H Q->tOp (rIn K false) (tX F t) (tC<|.ref c) i H Q:=by rintro i H Q ⟨C,fr,D,E,q,k⟩;refine#[C,fr,_,E,q,λv s y h j g=>?_];split at g;rename_i u r;obtain⟨R,B⟩:=j.one;cases jw_ B r;exact#[c,vs,rfl,.inr<|A _,mY r,z,k _ _ y h (EOk.back j.len<|R.add<|IsX.of_bl _) g];exact g.elim
def aTu(K:dN)(vs:Q1)(ha:XE X Ex a t)(r:Gl X x)(g:∃c,X.mg x=some (.ref c)/\∀H,SqT K H c vs)(q:vs.all jZ=true:=by decide)(j:T3 x:=by decide)(i:behindInMarks .In (.Name x p)=false:=by with_unfolding_all rfl)(h:X.K=K:=by rfl) :
  XE X Ex (.Compare a [.In] [.Name x p] e) (bBt vs t):=λF=>by
 obtain⟨c,g,s⟩:=g;exact(aAo (lY (h:=h)) (ha F) (vL (v:=.ref c) r g rfl j) i).weak<|bEg q s
end
def bBq(t:XT)(i:Nat):XT:=λb Q=>t b λk a=>match wE k.d,a[i]? with
 |some kk,some (.v<|.od l)=>Q (.tr<|.bl (fR l kk).isSome) a
 |_,_=>False
section
variable{F:Fm}{i:Nat}{t:XT}{x:Str}{a b e:Expr}{p c:Pos}
def bDb:∀o H Q,tX F (bBq t i) o H Q->bCm (tX F t) (fQ i) o H Q:=by
 rintro o H Q ⟨D,fr,G,E,q,k⟩;refine#[D,fr,_,E,q,λw s u m f g=>?_];split at g;rename_i r l z y;obtain⟨R,C⟩:=f.one;obtain⟨p,J,hv,B,A,_⟩:=qL f.drop y;cases iq_ C z;refine#[.ref p,hv,p,_,rfl,DGet.rd (k:=r)<|.inl B,k _ _ u m (EOk.back f.len<|R.add ?_) g];rcases hv_ (k:=r) A with⟨h,j⟩ | ⟨I,v,h,j,L⟩
 rw[h,j];exact IsX.of_bl _;rw[h,j];exact IsX.of_bl _;exact g.elim
def aGf(j:X.A.units+1<cLine)(f:XE X Ex b t)(hv:PE X (.Name x p)<|fQ i)(g:behindInMarks .In (.Name x p)=false):XTe X Ex (.Compare b [.In] [.Name x p] c)<|xB<|bBq t i:=λF=>(aVp (aJe j (f F) hv) g).weak<|if_ λl H Q h=>bDb l H Q h
end
def dd_{G K}{ρ}{D}(M:En->Prop)(a:∀ρ',M ρ'->K ρ' D)(b:∀nx:En->Prop,(∀ρ',M ρ'->nx ρ')->G ρ { D with nx:=nx }):dO G K ρ D:=b _ a
end Lf
namespace L2
open PySem PySem.Spec PyProof.Rows
end L2
namespace Lf
open PySem L2
def adT:G2
 | .tup l,.tup m,Q=>l≠[]/\l.length+m.length<=1000000/\Q (.tr<|.tup<|l++m)
 |_,_,_=>False
def aOx:OpX (aSf K) adT:=by intro F P H a b x y Q A R i r g k;unfold adT at g;split at g;obtain ⟨j,B,h⟩:=g;obtain⟨p,u,rfl,m,c⟩:=i.tup_eq;obtain⟨q,v,rfl,o,f⟩:=r.tup_eq;refine#[p,q,u,v,rfl,rfl,SqT.of<|R.hv _ _ m,SqT.of<|R.hv _ _ o,λz=>j ?_,by rw[c.len,f.len];have:=iM;lia,λe=>k _ _ H (R.add ?_) h,λ_ l s=>k _ _ _ (R.newT s<|All2.app f c) h];have:=c.len;rw[z]at this;exact List.eq_nil_of_length_eq_zero this.symm;have:=f.len;rw[e]at this;rw[List.eq_nil_of_length_eq_zero this.symm,aU];exact i;exact g.elim
section
variable{a b e:Expr}{r o t:XT}{f g:Option Expr}{i j:XO}{w c:Pos}
def v_(K:dN)(ha:XE X Ex a r)(l:XE X Ex b o)(h:X.K=K:=by rfl):XE X Ex (.BinOp a .Add b c)<|xOp adT r o:=by subst h;exact lF aPa aOx ha l
def bHq(t:XT)(f g:XO):XT:=λs Q=>t s λa m=>f m λl p=>g p λh q=>match a.d with
 | .tup xs=>¬(HT.sIx xs.length 0 l=0/\HT.sIx xs.length xs.length h=xs.length)/\Q (.tr<|.tup<|iT xs l h) q
 |_=>False
def rW(K:dN)(M:XE X Ex e t)(O:XOp X Ex f i)(N:XOp X Ex g j)(h:X.K=K:=by rfl):XE X Ex (.Subscript e (.Slice f g none w) c)<|bHq t i j:=λF=>by refine(jh_ aVa (M F) (O F)<|N F).weak λV H Q=>?_;rintro⟨Y,fr,x,E,t,k⟩;refine#[Y,fr,_,E,t,λv s Z A I q=>#[A,_,_,I,q,λl d B J U=>#[B,_,_,J,U,λu n C D y=>?_]]];obtain⟨R,G⟩:=D.one;split at y;rename_i m S;rw[S]at G;obtain⟨a,W,rfl,L,z⟩:=G.tup_eq;refine#[a,W,rfl,SqT.of<|R.hv _ _ L,by rw[z.len];exact y.1,λp T=>k _ _ _ C (EOk.back D.len<|R.newT T ?_) y.2];unfold c6 iT;rw[z.len];exact(z.drop _).take _;exact y.elim
end
structure Bx(p:Prop):Prop where
 out:p
section
variable{a b c e o k v l:Expr}{F:S3}{t B A y tk q:XT}{u:XA}{f p C:Pos}{x:Str}{i j:Nat}
variable{D E:Option Expr}{s w:XO}
variable{r:R2}{g:G2}{op:CmpOp}{z uc:XC}{rest:S3}
variable{st:Stmt}{m as bs:List Stmt}{G K:XS}
def bAq(h:Bx<|XE X Ex e t):Bx<|XSt X Ex (.Return (some e) f)<|aGt t:=#[eU h.out]
def aRi(h:Bx<|XSt X Ex st G):Bx<|XSs X Ex [st] G:=#[cR h.out]
end
end Lf
namespace L2
open PySem PySem.Spec PySem.SeqAt PySem.AutoSeq1 PySem.MeetsSeq PyProof.Rows
end L2
namespace Lf
open PySem L2
end Lf
namespace L2
open PySem PySem.Spec PySem.SeqAt PyProof.Rows
end L2
namespace Lf
open PySem L2
end Lf
namespace L2
open PySem PySem.Spec PyProof.Rows
end L2
namespace Lf
open PySem L2
end Lf
namespace L2
open PySem PySem.Spec PyProof.Rows Builtin Builtin.Str
end L2
namespace Lf
open PySem L2
def kk_:∀{l:Q0},jS (l.map Ow.tr)=[]
 | []=>by simp only[dE,jS]
 |d::r=>by simp only[bG,jS,Ow.fp,kk_,bU]
def vS:∀{l} {vs},All2 (IsX G) l vs->OwOks G H (l.map Ow.tr) vs
 | [],_,h=>by simp only[dE,OwOks];exact h
 |d::r,_,⟨v,vr,e,h1,h2⟩=>by simp only[bG,OwOks,OwOk];exact#[v,vr,e,h1,vS h2]
def aAu:∀{l},lX (l.map Ow.tr)=l
 | []=>by simp only[dE,lX]
 |d::r=>by simp only[bG,lX,Ow.d,aAu]
def bGd(g:GC)(i:Nat)(u:XA):XT:=λc Q=>(∃s,c[i]? = some (.v s))/\u c λe a=>match a[i]? with
 |some (.v s)=>g (s.d::e.map Sv.d) λr=>∃b,r=.tr (.bl b)/\Q (.tr<|.bl b) a
 |_=>False
def uV(g:GB):Sp:=λb H Q E=>∃a p,b=[a,p]/\spB g [p,a] H Q E
def uU(N:Q3)(l:Q0)(d:Dx):En:=.v (.tr d) :: .bw l::List.replicate (N.length-2) .un
def lO(Q:Dx->Q0->Prop)(d:Dx)(a:En):Prop:=match (a[1]? : Option Sl)with
 |some (.bw l)=>Q d l
 |_=>False
abbrev aSb(Q:Dx->Q0->Prop):XD:=#[λa=>lO Q .non a,λs a=>lO Q s.d a,λ_=>False,λ_=>False]
def bFe(M:Fun K x x st f fd)(S:FnScope N ps<|aP st)(I:∀l ds Q,g l ds Q->ds.length=1)(L:ps.length=2)(hN:2<=N.length)
  (J:∀ (u:Value) (A:Around) (c:List Env) (s:Shared) (H:Hp) (E:XK),Room k (A.deeper<|PyProof.Rows.envOfC x (aP st) s.heap.objs.size f u) →
   ∃G,XSs (kE CX0 P w K mg base N x (aP st) f u A c s H E).nox cY (fL st) G/\∀l d Q,g l [d] Q->G (uU N l d) (aSb Q)):FnOk P w K mg base CX0 (k+1) f fd ps<|uV g:=by
 refine M.ok S (λvs H Q E h=>?_)<|λu A c s H vs Q E hr h=>?_;obtain ⟨a,p,rfl,_⟩:=h;rw[L];rfl;obtain⟨va,vp,rfl,p,ws,l,vr,z,ds,y,O,t,B,Ec,n,U,C,W⟩:=h;cases O;obtain⟨G,Y,hq⟩:=J u A c s H E hr;obtain⟨d,rfl⟩:=List.length_eq_one_iff.mp<|I l ds y C;obtain⟨_,_,R,Z,_⟩:=U;cases R;have F:∀b∈[p],z b=none:=by grind
 have D:∀b∈[p],∃o,H b=some o:=by grind
 have r:∀{d:Dx} {v:V} {i:St} {m:Hp} {e:En},EOk #[H,z,[p],B,F,D] e i ((vT d,some v)::[]) m->lO y d e->Q v m:=λ{d v i m e} j q=>by unfold lO at q;split at q;rename_i l' T;exact zJ W j T q;exact q.elim
 refine#[_,Y #[H,z,[p],B,F,D],uU N l d,[],aSb y,#[?_,?_],hq l d y C,#[λi m e _ j q=>r (EOk.back j.len<|j.rep.add (d:=.non) (v:=.non) IsX.of_non) q,λv s i m e _ j q=>r (EOk.back j.len j.front.frz) q,λ_ _ _ _ _ q=>q.elim,λ_ _ _ _ _ q=>q.elim]];unfold uU L2.start;simp only[aI,aB,bN,aL,bE];lia;rw [aU];exact(qB (ds:=[d]) t n #[_,_,rfl,Z,rfl]<|N.length-2).perm<|.swap _ _ _
def w6(g:GB)(i:Nat)(t:XT):XT:=λc Q=>t c λs a=>match (a[i]?).bind iJ with
 |some (l,f)=>g l [s.d] λd b=>Q (.tr d) (a.set i<|f b)
 |none=>False
def fg_{p pos}(C:Cal X.prog X.w X.K X.mg X.base j x ps<|uV g)(u:Room j X.A)(y:XE X Ex e t)(hv:PE X e2<|fQ i)(s:Gl X x:=by rfl)(o:T3 x:=by decide)
  (c:starEach [e,e2] X.env=(false,eval e X.env)::starEach [e2] X.env:=by rfl) (q:starEach [e2] X.env=(false,eval e2 X.env)::starEach [] X.env:=by rfl) (h:(backTo pos<|starEach [e2] X.env).any (·.1)=false:=by rfl):XE X Ex (.Call (.Name x p) [e,e2] [] pos)<|w6 g i t:=λF=>(vN C u (g7 (y F) (g7 hv fq_ q) c) s o c h).weak λJ H Q=>by
 rintro⟨A,fr,G,E,t,k⟩;refine#[A,fr,_,E,t,λz I D B b a=>?_];obtain⟨R,v⟩:=b.one;split at a;rename_i l f r;obtain⟨p,m,S⟩:=aAa #[b.len,R] r (All2.one v) a k;exact#[.ref p,m,z,.ref p,rfl,S];exact a.elim
end Lf
namespace L2
open PySem PySem.Spec PyProof.Rows Builtin Builtin.Str
end L2
namespace L2
open PySem PySem.Spec PyProof.Rows
end L2
namespace Lf
open PySem L2
def Sv.o? : Sv->Option Ow
 | .tr d=>some (.tr d)
 | .ow o=>some o
 |_=>none
def owR(os:List Ow)(xs:Q1):Q8:=(os.zip xs).map λp=>(.v<|.ow p.1,some p.2)
section
variable{F:Fm}{P:Q8}{H:Hp}{s:Sv}{x:S1}{o:Ow}{p:Addr}{os:List Ow}{xs:Q1}
def Rep.toOw(R:Rep F ((.v s,x)::P) H)(h:s.o? = some o):Rep F ((.v<|.ow o,x)::P) H:=by
 cases s with
 |tr d =>
  cases h;have e:eL (.v<|.ow<|.tr d,x)=[]:=by simp only[eL,Ow.fp]
  obtain⟨v,rfl,a⟩:=R.head;exact R.tail.cons0 e #[v,rfl,by simp only[OwOk];exact a]
 |ol l=>cases h
 |od l=>cases h
 |oq _ _=>cases h
 |ow b=>cases h;exact R
def pW:∀{os} {xs},os.length=xs.length->bB (owR os xs)=jS os
 | [],[],_=>by simp only[owR,List.zip_nil_left,dE,bB,List.flatMap_nil,jS]
 | [],_::_,h=>by simp at h
 |_::_,[],h=>by simp at h
 |o::os,x::xs,h=>by show bB ((.v<|.ow o,some x)::owR os xs)=_;rw[iL,pW<|by simpa using h];simp only[eL,jS]
def aAt:∀{os} {xs},os.length=xs.length->(∀r∈owR os xs,RowOk O G H r)->OwOks (hid O G) H os xs
 | [],[],_,_=>by simp only[OwOks]
 | [],_::_,h,_=>by simp at h
 |_::_,[],h,_=>by simp at h
 |o::os,x::xs,h,k=>by obtain⟨y,e,a⟩:=k (.v<|.ow o,some x) aA;cases e;exact#[x,xs,rfl,a,aAt (by simpa using h) λr b=>k r<|aC _ b]
def bDg(h:r∈owR os xs):∃s,r.1=.v s:=by obtain⟨q,_,rfl⟩:=aY.mp h;exact`r
end
section
variable{F:Fm}{P A:Q8}{H c:Hp}{s:Sv}{x:S1}{o:Ow}{p:Addr}{os:List Ow}{xs:Q1}
def Rep.shift(R:Rep F (A++P) H)(B:(eL (.v s,x)).Perm<|bB A)(hv:∀r∈A,∃s,r.1=.v s)(e:∀b,b∉bB A->c b=H b)(G:∀b∈bB A,∃o,c b=some o)(h:RowOk (eL (.v s,x)++bB P) (F.vis c) c (.v s,x)):Rep F ((.v s,x)::P) c:=by
 have y:(eL (.v s,x)++bB P).Perm<|bB<|A++P:=by rw[nY];exact B.append_right _
 have C:∀a∈bB A,F.H0 a=none:=λa g=>by obtain⟨r,f,e⟩:=dI.mp g;have m:=R.fr r (aM _ f) a e;obtain⟨M,I⟩:=hv r f;unfold FrOk at m;rw[I]at m;exact m
 have v:=R.nd;rw[nY]at v;refine#[by rw[iL];exact y.nodup_iff.mpr R.nd,λr f=>?_,λr f a g=>?_,λb o j J=>?_,λb l=>?_];rw [iL];rcases aF.mp f with rfl | f
 exact h;have D:r∈A ++ P:=aG _ f;refine(R.ok r D).mono (.of λb u l=>?_) λa g=>e a λz=>(bO.mp v).2.2 a z a (f_ f g) rfl;have i:=bC.mp l;have E:b∉bB A:=λz=>i.1 (by rw[nY];exact aM _ z);refine bC.mpr #[λz=>i.1<|y.mem_iff.mp z,?_];cases q:F.H0 b with
 |none=>exact(kG q).trans ((congrArg nf<|e b E).trans<|(kG q).symm.trans i.2)
 |some w=>exact(kA q).trans<|(kA q).symm.trans i.2
 rcases aF.mp f with rfl | f
 exact C a<|B.mem_iff.mp g;exact R.fr r (aG _ f) a g;rw [e b fun z=>by rw [C b z] at j; cases j];exact R.kp b o j J;by_cases z:b∈bB A;exact G b z;obtain ⟨u,L⟩:=R.lv b l;exact#[u,by rw[e b z];exact L]
def Rep.bundleT(R:Rep F (owR os xs++P) H)(j:os.length=xs.length)(f:H p=none):Rep F ((.v<|.ow<|.ot os,some<|.ref p)::P)<|upd H p<|.tup xs:=by
 have e:Same H<|upd H p<|.tup xs:=yQ f _;have l:=R.not_own f;have q:=R.fresh f;have a:=R.grow e;have h:eL (.v<|.ow<|.ot os,some<|.ref p)=bB (owR os xs):=by rw[pW j];simp only[eL,Ow.fp]
 refine a.shift (by rw[h]) (λr g=>bDg g) (λ_ _=>rfl) (λb m=>a.own_in (by rw[nY];exact aM _ m)) ?_;rw[h];refine#[.ref p,rfl,?_];simp only[OwOk];have i:=aAt j λr g=>a.ok r<|aM _ g;rw[nY]at i;refine#[p,xs,rfl,bC.mpr #[λz=>l (by rw[nY];exact z),(kG q).trans (by rw[bZ];rfl)],i]
end
def qG:∀(xs:Q6),All2 (IsX G) (xs.map Dx.int) (xs.map V.int)
 | []=>rfl
 |x::xs=>#[_,_,rfl,IsX.of_int _,qG xs]
abbrev FsO:=List<|Str×Ow
abbrev GO:=Addr->FsO->Q0->(Sv->FsO->Prop)->Prop
def spO(g:GO):Sp:=λj H Q _=>∃(F:Fm) (C a c:Addr) (l:FsO) (e:Q1) (b:Q0) (h:Sv->FsO->Prop),j=.ref a::e/\F.H0=H/\F.B=(Ow.oi C a c l).fp/\b.length=e.length/\Rep F ((.bo<|.oi C a c l,some `i)::kQ (b.map .tr) e) H/\g C l b h /\
 ∀s v i f,Rep F [(.bo<|.oi C a c i,some `i),(.v s,some v)] f->h s i->Q v f
def mL:Sl->Option (Addr×Addr×Addr×FsO×(Ow->Sl))
 | .bo (.oi C a dx l)=>some (C,a,dx,l,.bo)
 | .v (.ow<|.oi C a dx l)=>some (C,a,dx,l,λo=>.v<|.ow o)
 |_=>none
abbrev kW(a:En)(i:Nat):Option<|Addr×Addr×Addr×FsO×(Ow->Sl):=(a[i]?).bind mL
def bHw(g:GO)(i:Nat)(u:XA):XT:=λc Q=>(kW c i).isSome=true/\u c λh b=>match kW b i with
 |some (C,a,dx,l,f)=>g C l (h.map Sv.d) λs e=>Q s (b.set i<|f<|.oi C a dx e)
 |none=>False
def i6(e:Addr)(m:Str)(g:GO)(i:Nat)(u:XA):XT:=λc Q=>(match kW c i with
 |some (C,_,_,l,_)=>C=e/\l.lookup m=none
 |none=>False)/\u c λj b=>match kW b i with
 |some (C,a,dx,l,f)=>g C l (j.map Sv.d) λs h=>Q s (b.set i<|f<|.oi C a dx h)
 |none=>False
def aUa(C:Addr)(g:GO)(u:XA):XT:=λh Q=>u h λf b=>∀a c,g C [] (f.map Sv.d) λs e=>s.d=.non/\Q (.ow<|.oi C a c e) b
def i8(b:Addr)(f:Str)(i:Nat):XT:=λa Q=>match kW a i with
 |some (C,_,_,l,_)=>C=b/\(match l.lookup f with
  |some (.tr d)=>Q (.tr d) a
  |_=>False)
 |none=>False
def dM(f:Str)(o:Ow):FsO->FsO
 | []=>[(f,o)]
 |(g,x)::r=>if g=f then(g,o)::r else(g,x)::dM f o r
def w5(c:Addr)(f:Str)(i:Nat)(t:XT):XS:=λe D=>t e λs b=>match kW b i with
 |some (C,a,dx,l,g)=>C=c/\l.length<1000/\(∀o,l.lookup f=some o->∃d,o=.tr d)/\D.nx (b.set i<|g<|.oi C a dx<|dM f (.tr s.d) l)
 |none=>False
section
variable{F F':Fm}{P A':Q8}{H j:Hp}{r:Rw}{i:Sl}{x:S1}{C a c:Addr}{l l':FsO}{f:Ow->Sl}
def Rep.backs(R:Rep F (L++P) H)(D:F'.H0=H)(J:F'.B=bB L)(d:F'.Hs=hid (bB<|L++P) `m)(A:Rep F' A' j)(W:bB A''=bB A')(n:∀O G K,(∀q∈A',RowOk O G K q)->∀q∈A'',RowOk O G K q)(k:∀q∈A'',∀a∈eL q,FrOk F q a):Rep F (A''++P) j:=by
 have t:∀b∈bB L,b∈F.B\/F.H0 b=none:=λb m=>by obtain⟨r,p,s⟩:=dI.mp m;exact(R.fr r (aM _ p) b s).or
 have Q:=R.nd;rw[nY]at Q;have U:=λb p s=>(bO.mp Q).2.2 b p b s rfl;have S:∀b∈bB A',b∈bB L\/H b=none:=λb m=>by obtain⟨q,g,e⟩:=dI.mp m;have:=(A.fr q g b e).or;rw[J,D]at this;exact this
 have B:=λb u p s=>A.kp b u (by rw[D];exact s) (by rw[J];exact p);have T:∀b u,b∉bB L->F.vis H b=some u->F.vis j b=some u:=λb u p s=>by
  cases q:F.H0 b with
  |none=>exact(kG q).trans (kn_ ((kG q).symm.trans s) λo h=>B b o p h)
  |some w=>exact(kA q).trans<|(kA q).symm.trans s
 have M:∀b∈bB P,b∉bB A':=λb p s=>by
  rcases S b s with h | h
  exact U b h p;exact R.not_own h (by rw[nY];exact aG _ p)
 refine#[?_,λq g=>?_,λq g b m=>?_,λb u p s=>?_,λb m=>?_];rw [nY,W];exact bO.mpr #[A.nd,(bO.mp Q).2.1,λa p b s z=>M b s<|z ▸ p];rw [nY,W];rcases aV.mp g with g | g
 refine n _ _ _ (fun q g => ?_) q g;refine(A.ok q g).mono (.of λb u m=>?_) λ_ _=>rfl;obtain⟨Y,v⟩:=bC.mp m;cases z:H b with
 |none => have v:=(kG (by rw[D];exact z)).symm.trans v;refine bC.mpr #[λw=>(aV.mp w).elim Y λw=>R.not_own z (by rw[nY];exact aG _ w),(kG<|R.fresh z).trans v]
 |some w => have v:=(kA (by rw[D];exact z)).symm.trans v;rw[d]at v;obtain⟨y,I⟩:=bC.mp v;rw[nY]at y;exact bC.mpr #[λw=>(aV.mp w).elim Y λw=>y<|aG _ w,T b u (λw=>y<|aM _ w) I]
 refine (R.ok q<|aG _ g).mono (.of fun b u m => ?_) fun b m => ?_;obtain ⟨y,I⟩:=bC.mp m;rw[nY]at y;have Z:=λw=>y<|aM _ w;refine bC.mpr #[λw=>(aV.mp w).elim (λw=>?_) λw=>y<|aG _ w,T b u Z I];rcases S b w with h | h
 exact Z h;have:=R.vis _ _ I;rw[h]at this;cases this;have N:=f_ g m;obtain⟨u,E⟩:=R.own_in<|f_ (aG _ g) m;rw[E,B b u (λw=>U b w N) E];rcases aV.mp g with g | g
 exact k q g b m;exact R.fr q (aG _ g) b m;by_cases z:b∈bB L;grind;exact B b u z<|R.kp b u p s;by_cases z:b∈bB L;exact A.lv b (by rw[J];exact z);obtain ⟨u,E⟩:=R.lv b m;exact#[u,B b u z E]
def Rep.back(R:Rep F (r::P) H)(b:F'.H0=H)(m:F'.B=eL r)(u:F'.Hs=hid (bB (r::P)) `m)(g:Rep F' A' j)(hv:∀q∈A',(∃o,q.1=.bo o)\/∃s,q.1=.v s):Rep F (A'++P) j:=by
 refine Rep.backs (L:=[r]) R b (m.trans (by rw[iL];exact(aU _).symm)) u g rfl (λ_ _ _ h=>h) λq p a v=>?_;have f:=g.fr q p a v;unfold FrOk at f ⊢;rcases hv q p with⟨o,e⟩ | ⟨s,e⟩
 rw [e] at f ⊢;rw[m,b]at f;exact f.elim (λz=>(R.fr r aA a z).or) λz=>.inr<|R.fresh z;rw [e] at f ⊢;rw[b]at f;exact R.fresh f
def Rep.boOw(R:Rep F ((.bo o,x)::P) H)(h:∀b∈o.fp,F.H0 b=none):Rep F ((.v<|.ow o,x)::P) H:=by
 have e:bB ((.v<|.ow o,x)::P)=bB ((.bo o,x)::P):=by rw[iL,iL];rfl
 refine#[by rw[e];exact R.nd,λr g=>?_,λr g b m=>?_,R.kp,R.lv];rcases aF.mp g with rfl | g
 exact R.ok (.bo o,x) aA;exact R.ok r<|aC _ g;rcases aF.mp g with rfl | g
 exact h b m;exact R.fr r (aC _ g) b m
def cw_(h:mL i=some (C,a,c,l,f))(R:Rep F ((i,x)::P) H):x=some `i/\eL (i,x)=(Ow.oi C a c l).fp/\OwOk (hid (bB ((i,x)::P)) `m) H (.oi C a c l) `i /\
  ((i=.bo (.oi C a c l)/\f=.bo)\/(i=.v (.ow<|.oi C a c l)/\f=λo=>.v<|.ow o)):=by
 match i,h with
 | .bo (.oi C a c l),h => cases h;obtain⟨v,e,b⟩:=R.ok _ aA;have g:=b;obtain⟨rfl,_⟩:=g;subst e;exact#[rfl,rfl,b,.inl #[rfl,rfl]]
 | .v (.ow<|.oi C a c l),h => cases h;obtain⟨v,e,b⟩:=R.ok _ aA;have g:=b;obtain⟨rfl,_⟩:=g;subst e;exact#[rfl,rfl,b,.inr #[rfl,rfl]]
def OwOk.ins(h:OwOk (hid (bB P) `m) j (.oi C a c l) `i):∃ws,j a=some (.ins C c ws)/\j c=some (.own a)/\OwOkf (hid (bB P) `m) j l ws:=by obtain⟨_,ws,b,e,g⟩:=h;exact#[ws,b,e,g]
def Rep.lend(h:mL i=some (C,a,c,l,f))(R:Rep F ((i,x)::P) H):∃F':Fm,F'.H0=H/\F'.B=(Ow.oi C a c l).fp/\F'.Hs=hid (bB ((i,x)::P)) `m/\Rep F' [(.bo<|.oi C a c l,some `i)] H /\
  ∀{s:Sv} {v:V} {l':FsO} {j:Hp},Rep F' [(.bo<|.oi C a c l',some `i),(.v s,some v)] j->Rep F ((.v s,some v)::(f<|.oi C a c l',x)::P) j:=by
 obtain⟨rfl,m,L,M⟩:=cw_ h R;have p:∀b∈(Ow.oi C a c l).fp,b∈bB ((i,some `i)::P):=λb g=>by rw[iL,m];exact aM _ g
 have G:∀b∈(Ow.oi C a c l).fp,hid (bB ((i,some `i)::P)) `m b=none:=λb g=>by unfold hid;rw[if_pos<|p b g]
 have B:∀b∈(Ow.oi C a c l).fp,∃o,H b=some o:=λb g=>R.own_in<|p b g;refine#[#[H,hid (bB ((i,some `i)::P)) `m,(Ow.oi C a c l).fp,R.hv,G,B],rfl,rfl,rfl,?_,λ{s v l' j} D=>?_];have e:bB [((Sl.bo<|.oi C a c l,some<|V.ref a):Rw)]=(Ow.oi C a c l).fp:=by rw [iL]; exact aU _
 refine#[?_,λr A=>?_,λr A b g=>?_,λb o g _=>g,B];rw [e,← m];have:=R.nd;rw[iL]at this;exact(bO.mp this).1;rw [aE.mp A,e];refine#[_,rfl,OwOk.mono (.of λb u g=>?_) _ _ (λ_ _=>rfl) L];have I:=bC.mp g;exact bC.mpr #[λz=>I.1<|p b z,(kA<|R.hv _ _ g).trans g];rw [aE.mp A] at g ⊢;exact .inl g;have R2:=R.back (F':=#[H,hid (bB ((i,some `i) :: P)) `m,(Ow.oi C a c l).fp,R.hv,G,B]) rfl m.symm rfl D fun q y=>by
  rcases aF.mp y with rfl | y
  exact .inl `r;rw[aE.mp y];exact .inr `r
 rcases M with⟨E,rfl⟩ | ⟨E,rfl⟩
 exact R2.perm<|.swap _ _ _;refine Rep.perm (R2.boOw fun b g => ?_)<|.swap _ _ _;have J:b∈(Ow.oi C a c l).fp\/H b=none:=D.fr _ aA b g;rcases J with g | g
 have:=R.fr _ aA b (by rw [m]; exact g);rw[E]at this;exact this;exact R.fresh g
def OwOkf.look{f}:∀{l:FsO} {ws},OwOkf G H l ws->l.lookup f=some o->∃v,ws.lookup f=some v/\OwOk G H o v
 | [],_,_,e=>by simp at e
 |(g,y)::r,ws,h,e=>by
  obtain⟨w,A,rfl,⟨b,q⟩,m⟩:=h;obtain⟨s,u⟩:=w;cases(b);by_cases z:f=g;grind;have p:(f == g)=false:=by simpa using z
  rw[bM,p]at e ⊢;exact OwOkf.look m e
def OwOkf.miss{f}:∀{l:FsO} {ws},OwOkf G H l ws->l.lookup f=none->ws.lookup f=none
 | [],_,h,_=>by simp only[OwOkf]at h;rw[h];rfl
 |(g,y)::r,ws,h,e=>by
  obtain⟨w,u,rfl,⟨b,p⟩,m⟩:=h;obtain⟨q,s⟩:=w;cases(b);by_cases z:f=g;subst z;rw[gR]at e;cases e;have o:(f == g)=false:=by simpa using z
  rw[bM,o]at e ⊢;exact OwOkf.miss m e
def OwOkf.len:∀{l:FsO} {ws},OwOkf G H l ws->ws.length=l.length
 | [],_,h=>by simp only[OwOkf]at h;rw[h];rfl
 |(g,y)::r,ws,h=>by obtain⟨w,e,rfl,_,b⟩:=h;rw[aL,aL,OwOkf.len b]
def OwOkf.put{f}(b:IsX G d v):∀{l:FsO} {ws},OwOkf G H l ws->OwOkf G H (dM f (.tr d) l) (iP f v ws)
 | [],_,h=>by subst h;exact#[_,_,rfl,#[rfl,b],rfl]
 |(g,y)::r,ws,h=>by obtain⟨w,s,rfl,⟨m,o⟩,e⟩:=h;obtain⟨p,q⟩:=w;cases(m);by_cases z:g=f;simp only [dM,iP,if_pos z,OwOkf,OwOk];exact#[_,_,rfl,#[rfl,b],e];simp only [dM,iP,if_neg z,OwOkf];exact#[_,_,rfl,#[rfl,o],OwOkf.put b e]
def pM{f}:∀{l},(∀o,l.lookup f=some o->∃d,o=.tr d)->fO (dM f (.tr d) l)=fO l
 | [],_=>by exact W.Fast.lEq_iff.mp rfl
 |(g,y)::r,h=>by
  by_cases z:g=f;subst z;obtain⟨p,rfl⟩:=h y gR;simp only[dM,if_pos,fO,Ow.fp];have m:(f == g)=false:=by simpa using fun e=>z e.symm
  simp only[dM,if_neg z,fO];rw[pM λo b=>h o (by rw[bM,m];exact b)]
def Rep.setF(h:mL i=some (C,a,c,l,f))(R:Rep F ((i,x)::P) H)(L:∀o,l.lookup fl=some o->∃d,o=.tr d)(t:IsX (hid (bB ((i,x)::P)) `m) d v)(hw:H a=some (.ins C c ws)) :
  Rep F ((f<|.oi C a c<|dM fl (.tr d) l,x)::P) (upd H a<|.ins C c<|iP fl v ws):=by
 obtain⟨F',m,J,n,D,bk⟩:=R.lend h;obtain⟨rfl,Z,k,hf⟩:=cw_ h R;obtain⟨a0,I,W,Y⟩:=OwOk.ins k;rw[hw]at I;cases I;have A:(Ow.oi C a c<|dM fl (.tr d) l).fp=(Ow.oi C a c l).fp:=by simp only[Ow.fp,pM L]
 have g:=D.nd;have E:bB [((Sl.bo<|.oi C a c l,some<|V.ref a):Rw)]=(Ow.oi C a c l).fp:=by rw[iL];exact aU _
 have G:bB [((Sl.bo<|.oi C a c<|dM fl (.tr d) l,some<|V.ref a):Rw)]=(Ow.oi C a c l).fp:=by rw[iL,<-A];exact aU _
 rw[E]at g;simp only[Ow.fp]at g;have B:=(bR.mp g).1;have T:c≠a:=λz=>B (by rw[z];exact aA);have q:∀b∈fO l,b≠a:=λb e z=>B<|aC _<|z ▸ e;have p:a∈F'.B:=by rw[J];simp only[Ow.fp];exact aA
 have O:∀b∈(Ow.oi C a c l).fp,b∈bB ((i,some `i)::P):=λb e=>by rw[iL,Z];exact aM _ e
 have R2:Rep F' [(.bo<|.oi C a c<|dM fl (.tr d) l,some `i)] (upd H a<|.ins C c<|iP fl v ws):=by refine#[by rw[G,<-E];exact D.nd,λr y=>?_,λr y b e=>?_,λb o e S=>?_,λb e=>?_];rw [aE.mp y,G];refine#[_,rfl,?_];simp only[OwOk];refine#[trivial,_,bZ,by rw[eT T];exact W,?_];refine OwOkf.mono (.of λb u e=>?_) _ _ (λb e=>eT (q b (by rw[pM L]at e;exact e)))<|OwOkf.put t Y;have N:=bC.mp e;exact bC.mpr #[λz=>N.1<|O b z,(kA (by rw[m];exact R.hv _ _ e)).trans (by rw[n];exact e)];rw [aE.mp y] at e ⊢;refine .inl ?_;rw[J,<-A];exact e;have Q:b≠a:=fun z=>S (by rw [z]; exact p);rw[eT Q];rw[m]at e;exact e;by_cases z:b=a;exact#[_,by rw[z];exact bZ];rw [eT z];obtain⟨o,M⟩:=F'.ib b e;rw[m]at M;exact#[o,M]
 have U:=bk (s:=.tr .non) (v:=.non)<|Rep.perm (R2.add (d:=.non) (v:=.non) IsX.of_non)<|.swap _ _ _;exact U.tail
end
def pK:∀{ds} {vs} {P},Rep F P H->All2 (IsX<|hid (bB P) `m) ds vs->Rep F (kQ (ds.map .tr) vs++P) H/\bB (kQ (ds.map .tr) vs++P)=bB P
 | [],_,P,R,e=>by rw[show _=[]from e];exact#[R,rfl]
 |d::ds,_,P,R,⟨y,yr,e,h1,h2⟩=>by subst e;obtain⟨R2,a⟩:=pK R h2;refine#[Rep.add (P:=kQ (ds.map .tr) yr++P) (d:=d) (v:=y) R2 (by rw[a];exact h1),?_];show bB ((vT d,some y)::(kQ (ds.map .tr) yr++P))=_;rw[hr_ rfl,a]
def aNw{F}{ρ2}{σ}{fr:Q8}{H2}{ss:List Sv}{vs:Q1}{g}{i}{Q}{Qx:Sv->En->Prop}{a0}{Ek}(o:σ[i]? = some (some<|.ref a0))(G:ss.length=vs.length)(h:EOk F ρ2 σ (kQ ss vs++fr) H2)
  (r:match kW ρ2 i with
   |some (C,a,e,l,f)=>g C l (ss.map Sv.d) λs l'=>Qx s (ρ2.set i<|f<|.oi C a e l')
   |none=>False)
  (k:∀v s j ρ',EOk F ρ' σ ((.v s,some v)::fr) j->Qx s ρ'->Q v j):spO g (.ref a0::vs) H2 Q Ek:=by
 obtain⟨R,Z⟩:=h.many G;split at r;rename_i C a e l f p;obtain⟨n,D,E⟩:=bP.mp p;have I:EOk F ρ2 σ fr H2:=#[h.len,R];obtain⟨t,y,L,R2⟩:=xJ I D;rw[o]at y;cases y;obtain⟨ex,S,_⟩:=cw_ E R2;cases ex;obtain⟨A,B,T,W,N,bk⟩:=R2.lend E;have U:(bB<|ρ2.zip σ++fr).Perm<|bB ((n,some<|V.ref a0)::((ρ2.zip σ).eraseIdx i++fr)):=((bu_ D o).append_right fr).flatMap_right _;have O:bB [((Sl.bo<|.oi C a0 e l,some<|V.ref a0):Rw)]=(Ow.oi C a0 e l).fp:=by rw[iL];exact aU _
 have J:All2 (IsX<|hid (bB [((Sl.bo<|.oi C a0 e l,some<|V.ref a0):Rw)])<|A.vis H2) (ss.map Sv.d) vs:=Z.imp λd v z=>z.to λb u p=>by have m:=kH (λc Y=>U.mem_iff.mpr Y) b u p;have H:=bC.mp m;refine bC.mpr #[λz=>H.1 ?_,(kA (by rw[B];exact R2.hv _ _ m)).trans (by rw[W];exact m)];rw[iL,S];rw[O]at z;exact aM _ z
 refine#[A,C,a0,e,l,vs,ss.map Sv.d,_,rfl,B,T,by rw[aB];exact G,(pK N J).1.perm ?_,r,λs v l' j M q=>k v s j _ (EOk.back (by rw[bS];exact h.len)<|(bk M).perm<|((cx_ h.len L o).append_right fr).symm.cons _) q];exact fM;exact r.elim
section
variable{j i:Nat}{x m:Str}{ps:Q3}{g:GO}{e o:Expr}{r:S3}{u:XA}{p h l:Pos}{C:Addr}
def aFt(P:Program)(w:World)(K:dN)(mg:mH)(base:Heap)(j:Nat)(C:Addr)(m:Str)(ps:Q3)(sp:Sp):Prop:=Cls K C/\∃f fd,Meth K C m f/\FnOk P w K mg base CX0 j f fd ps sp/\Binds K fd ps []
def bAw(P:Program)(w:World)(K:dN)(mg:mH)(base:Heap)(j:Nat)(C:Addr)(ps:Q3)(sp:Sp):Prop:=∃f fd,Mk K C f/\FnOk P w K mg base CX0 j f fd ps sp/\Binds K fd ps []
def oA{pl:Sem Bool}(M:aFt X.prog X.w X.K X.mg X.base j C m ps<|spO g)(U:Room j X.A)(hv:PE X o<|fQ i)(ha:XAs X Ex (e::r) u)
  (q:T5 X e r:=by rfl) (b:T6 X h r:=by rfl)
  (W:eval (.Call (.Attribute o m l) (e :: r) [] h) X.env=(do
   let ov <-eval o X.env
   standAt l.atName
   let (f,first) <-holding [ov] (getMethod ov m pl)
   callWith h f first (backTo h<|starEach (e::r) X.env) (backToKw h<|keywordEach [] X.env)):=by rfl) :
  XE X Ex (.Call (.Attribute o m l) (e::r) [] h) (i6 C m g i u):=λF=>by
 obtain⟨c,f,fd,T,R,O⟩:=M;refine(aAm hv c T R U O .nil aAq (ha F) q b W).weak λσ H Q=>?_;rintro⟨n,fr,Qx,E,⟨t0,t⟩,k⟩;split at t0;rename_i C0 a z l0 f0 D;obtain⟨rfl,A⟩:=t0;obtain⟨Iq,G,I⟩:=bP.mp D;obtain⟨v,hv,hi,B⟩:=xJ E G;obtain⟨rfl,_,N,_⟩:=cw_ I B;obtain⟨d,J,_,L⟩:=OwOk.ins N;refine#[.ref a,hv,a,z,d,rfl,J,L.miss A,n,fr,_,E,t,λZ ss y a1 S s Y=>?_];show spO g (V.ref a::(Z++[])) y Q E0;rw[aU];exact aNw hv S s Y k;exact t0.elim
def aGj(M:bAw X.prog X.w X.K X.mg X.base j C ps<|spO g)(hr:Room (j+1) X.A)(hm:X.mg x=some (.ref C))(ha:XAs X Ex (e::r) u)(hg:Gl X x:=by rfl)(Bi:T3 x:=by decide)
  (he:T5 X e r:=by rfl) (Ag:T6 X h r:=by rfl) :
  XE X Ex (.Call (.Name x p) (e::r) [] h) (aUa C g u):=λF=>by
 obtain⟨f,fd,hk,hf,A⟩:=M;refine(aOp hk hf hr hg hm A .nil aAq (ha F) Bi he Ag).weak λI H Q=>?_;rintro⟨ρ,fr,Qx,E,t,k⟩;refine#[ρ,fr,_,E,t,λn Z B y W N q2=>?_];intro a c ha Pd L;rw[aU];obtain⟨R,hs⟩:=N.many W;have G:Same B<|upd (upd B c<|.own a) a<|.ins C c []:=λb o A=>by
  have n1:b≠a:=by grind
  have n2:b≠c:=by grind
  rw[eT n1,eT n2];exact A
 have D:(Ow.oi C a c []).fp=[a,c]:=by simp only[Ow.fp,fO]
 have R1:Rep F ((.v<|.ow<|.oi C a c [],some `i)::(y.zip I++fr))<|upd (upd B c<|.own a) a<|.ins C c []:=by refine R.adoptW G (by rw[D];simp[Ne.symm L]) (λb A=>?_) ?_;grind;simp only [OwOk,OwOkf];exact#[trivial,[],bZ,by rw[eT L];exact bZ,rfl]
 obtain⟨O,U,hB,hS,R2,bk⟩:=R1.lend rfl;have e1:bB [((Sl.bo<|.oi C a c [],some<|V.ref a):Rw)]=[a,c]:=by rw[iL,<-D];exact aU _
 have e2:bB ((Sl.v<|.ow<|.oi C a c [],some<|V.ref a)::(y.zip I++fr))=[a,c]++bB (y.zip I++fr):=by rw[iL,<-D];rfl
 have Ev:All2 (IsX<|hid (bB [((Sl.bo<|.oi C a c [],some<|V.ref a):Rw)])<|O.vis<|upd (upd B c<|.own a) a<|.ins C c []) (Z.map Sv.d) n:=hs.imp λd v z=>z.to λb u A=>by
  have J:=bC.mp A;have hH:=R.hv _ _ A;have S:b∉[a,c]:=by grind
  refine bC.mpr #[by rw[e1];exact S,(kA (by rw[U];exact G _ _ hH)).trans ?_];rw[hS,e2];exact bC.mpr #[λz=>(aV.mp z).elim S J.1,ec_ G _ _ J.2]
 refine#[O,C,a,c,[],n,Z.map Sv.d,_,rfl,U,hB,by rw[aB];exact W,(pK R2 Ev).1.perm fM,q2 a c,λs v l' H' R' q=>?_];have T:=bk R';obtain⟨w,ew,Y⟩:=T.head;cases ew;rw[q.1]at Y;refine#[?_,k _ _ H' y (EOk.back N.len T.tail) q.2];simpa only[IsX]using Y
def oC(c:Cls X.K C)(M:NoAttr X.K C f)(hv:PE X o<|fQ i)(a:attributeBase o f X.env (eval o X.env)=eval o X.env:=by rfl):XE X Ex (.Attribute o f h)<|i8 C f i:=λF=>(pR hv a).weak λn H Q=>by rintro⟨S,fr,U,E,t,k⟩;unfold i8 at t;split at t;rename_i y q z Z W B;obtain⟨rfl,t⟩:=t;split at t;rename_i d L;obtain⟨T,s,D⟩:=bP.mp B;obtain⟨v,hv,Y,A⟩:=xJ E s;obtain⟨rfl,_,J,_⟩:=cw_ D A;obtain⟨R,G,_,I⟩:=OwOk.ins J;obtain⟨w,N,O⟩:=I.look L;refine#[.ref q,hv,q,y,z,R,w,rfl,G,c,M,N,k w _ H S (EOk.back E.len<|E.rep.add<|O.to<|kH λb a=>?_) t];exact(((bu_ s hv).append_right fr).flatMap_right _).mem_iff.mp a;exact t.elim;exact t.elim
def uJ(c:Cls X.K C)(Y:NoAttr X.K C f)(hv:PE X o<|fQ i)(k:XE X Ex value tv)(Z:swapsWith value (some<|.Attribute o f pos') h.line X.env=pure false:=by rfl):XSt X Ex (.Assign [.Attribute o f pos'] value h)<|w5 C f i tv:=λF=>(aIo hv (k F) Z).weak λD σ H=>by rintro⟨ρ,fr,d,E,t,M⟩;refine#[ρ,fr,_,E,t,λv s H2 a1 y a=>?_];split at a;rename_i L A N l0 f0 O;obtain⟨rfl,W,J,a⟩:=a;obtain⟨R,n⟩:=y.one;obtain⟨Iq,B,G⟩:=bP.mp O;obtain⟨v',q,U,z⟩:=xJ #[y.len,R] B;obtain⟨rfl,_,S,_⟩:=cw_ G z;obtain⟨V,I,_,Q⟩:=OwOk.ins S;refine#[.ref A,q,A,L,N,V,rfl,I,c,Y,by rw[Q.len];exact W,M.nx _ _ _ rfl (eq_ y.len U q<|z.setF G J (n.to<|kH λb T=>?_) I) a];exact(((bu_ B q).append_right fr).flatMap_right _).mem_iff.mpr T;exact a.elim
end
def oU(N:Q3)(o:Ow)(ds:Q0):En:=.bo o::(ds.map (λd=>.v<|.tr d)++List.replicate (N.length-(ds.length+1)) .un)
def lM(C a b:Addr)(Q:Sv->FsO->Prop)(s:Sv)(c:En):Prop:=match (c[0]? : Option Sl)with
 |some (.bo<|.oi C' a' dx' l)=>C'=C/\a'=a/\dx'=b/\Q s l
 |_=>False
abbrev aDs(C a c:Addr)(Q:Sv->FsO->Prop):XD:=#[λb=>lM C a c Q (.tr .non) b,λs b=>lM C a c Q s b,λ_=>False,λ_=>False]
def xR:∀{ds:Q0} {vs},ds.length=vs.length->(ds.map<|λd=>Sl.v<|.tr d).zip (vs.map some)=kQ (ds.map .tr) vs
 | [],[],_=>rfl
 | [],_::_,h=>by simp at h
 |_::_,[],h=>by simp at h
 |d::ds,v::vs,h=>by show(Sl.v<|.tr d,some v)::(ds.map<|λd=>Sl.v<|.tr d).zip (vs.map some)=(Sl.v<|.tr d,some v)::kQ (ds.map .tr) vs;rw[xR<|by simpa using h]
def aZy(M:Fun K x qual st f fd)(S:FnScope N ps<|aP st)(J:∀C l ds Q,g C l ds Q->ds.length+1=ps.length)(hN:ps.length<=N.length)
  (L:∀ (z:Value) (A:Around) (b:List Env) (s:Shared) (H:Hp) (E:XK),Room k (A.deeper<|PyProof.Rows.envOfC qual (aP st) s.heap.objs.size f z) →
   ∃G,XSs (kE CX0 P w K mg base N qual (aP st) f z A b s H E).nox cY (fL st) G/\∀C a j l ds Q,g C l ds Q->G (oU N (.oi C a j l) ds) (aDs C a j Q)):FnOk P w K mg base CX0 (k+1) f fd ps<|spO g:=by
 refine M.ok S (λt H Q E h=>?_)<|λz A b s H t Q E Z h=>?_;obtain ⟨F,C,a,j,l,I,ds,p,rfl,_,_,u,_,D,_⟩:=h;rw[aL,<-u];exact J C l ds p D;obtain⟨F,C,a,j,l,I,ds,p,rfl,h0,hB,u,R,D,U⟩:=h;obtain⟨G,W,Y⟩:=L z A b s H E Z;have r:∀{B:Sv} {v:V} {i:St} {o:Hp} {c:En},EOk F c i ((.v B,some v)::[]) o->lM C a j p B c->Q v o:=λ{B v i o c} m q=>by unfold lM at q;split at q;rename_i C' a' O n T;obtain⟨rfl,rfl,rfl,q⟩:=q;obtain⟨y,hy,hi,R2⟩:=xJ m T;obtain⟨rfl,_⟩:=cw_ rfl R2;refine U B v n o (Rep.drops (A:=(c.zip i).eraseIdx 0)<|R2.perm ?_) q;exact fH.symm;exact q.elim
 refine#[_,W F,oU N (.oi C a j l) ds,[],aDs C a j p,#[?_,?_],Y C a j l ds p D,#[λi o c _ m q=>r (EOk.back m.len<|m.rep.add (d:=.non) (v:=.non) IsX.of_non) q,λv s i o c _ m q=>r m q,λ_ _ _ _ _ q=>q.elim,λ_ _ _ _ _ q=>q.elim]];unfold oU L2.start;simp only[aI,aB,bN,aL];lia;have e:(oU N (.oi C a j l) ds).zip (L2.start N (.ref a :: I))=((.bo<|.oi C a j l,some `i) :: kQ (ds.map .tr) I) ++ List.replicate (N.length - (ds.length + 1)) (.un,none):=by unfold oU L2.start;rw[bG,dJ,List.zip_cons_cons,aL,<-u,List.zip_append (by rw[aB,aB];exact u),xR u,List.zip_replicate',dJ]
 rw[e,aU];exact(R.addUs _).perm fM
end Lf
namespace L2
open PySem PySem.Spec PyProof.Rows
section
variable{X:Cx}
def st3(x y:Str)(i:Int):Bool:=fromIndex x.length i+y.length<=x.length&&Builtin.Str.subAt x y (fromIndex x.length i)
end
end L2
namespace Lf
open PySem L2
section
variable{o e g:Expr}{to t t2:XT}{b a c:Pos}{F:Fm}{i:Nat}{K:dN}{f:S3}{u:XA}
def OwOks.len:∀{l} {ws},OwOks G H l ws->ws.length=l.length
 | [],_,h=>by simp only[OwOks]at h;rw[h];rfl
 |o::r,ws,h=>by obtain⟨w,m,rfl,_,j⟩:=h;rw[aL,aL,OwOks.len j]
end
end Lf
namespace L2
open PySem PySem.W PySem.Spec PyProof.Rows PySem.Calls
def ce_(h:nF K C m q=hY m q s)(b:aAy K C m=true):∃f fd,findIn K (.ref C) m=some (some<|.ref f)/\isFn K (.ref f)=true/\Fun K m q s f fd:=by
 unfold nF at h;unfold aAy at b;cases e:findIn K (.ref C) m with
 |none=>rw[e]at h;cases h
 |some o =>
  cases o with
  |none=>rw[e]at h;cases h
  |some v =>
   rw[e]at b;cases v with
   |ref f =>
    rw[e]at h;dsimp only at h;cases a:K.lookup f with
    |none=>rw[a]at h;cases h
    |some ob =>
     obtain⟨r,u,i,z⟩:=ob;rw[a]at h;cases i with
     |func fd => obtain⟨nm,H,G,B,sc,F,D,E,p,j,y,c,g,ct,A⟩:=fd;simp only[hY,Option.some.injEq,Prod.mk.injEq]at h;obtain⟨⟨rfl,rfl,rfl,rfl,rfl⟩,⟨rfl,rfl,rfl,rfl⟩,l⟩:=h;refine#[f,_,rfl,b,#[r,u,p,j,y,c,g,ct,z,rfl,a,l],?_];unfold keepIn;dsimp only;rw[a]
     |_=>cases h
   |_=>rw[e]at h;cases h
def vD{e g:Type}{f}{b:g}:∀{l:List e},l.map f=List.replicate l.length b->∀a∈l,f a=b
 | [],_,a,h=>by simp at h
 |x::r,h,a,c=>by
  simp only[bG,aL,fA,List.cons.injEq]at h;rcases aF.mp c with rfl | c
  exact h.1;exact vD h.2 a c
def aJt(h:aJu K n ms fs=aLs es ms fs):∃C,nsIn K mainGlobals n=some (some<|.ref C)/\Cls K C/\makesIn K C=true/\keepIn K (.ref C)=true/\ms.map (λp=>nF K C p.1 p.2)=es/\(∀p∈ms,aAy K C p.1=true)/\∀f∈fs,NoAttr K C f:=by unfold aJu aLs at h;split at h;rename_i C o;simp only[Option.some.injEq,Prod.mk.injEq]at h;obtain⟨⟨a,b,c,e,g,i⟩,j,l,m⟩:=h;exact#[C,o,#[a,b,c,e],g,i,j,vD l,vD m];cases h
end L2
namespace Lf
open PySem L2
abbrev GOE:=Addr->FsO->Q0->(Sv->FsO->Prop)->ExT->Prop
def rA(P:Program)(w:World)(K:dN)(mg:mH)(base:Heap)(j:Nat)(C:Addr)(m:Str)(ps:Q3)(sp:Sp):Prop:=Cls K C/\∃f fd,Meth K C m f/\FnOk P w K mg base (CXe P w) j f fd ps sp/\Binds K fd ps []
end Lf
namespace L2
open PySem PySem.Spec PyProof.Rows Builtin Builtin.Str
end L2
namespace Lf
open PySem L2
def oR:S3->Option Q3
 | []=>some []
 | .Constant (.str x) _ _::r=>(oR r).map (x :: ·)
 |_=>none
def aGs:Q3->XA
 | []=>eZ
 |z::r=>cH (xC<|.str z)<|aGs r
def w4:∀{a} {zs},oR a=some zs->XAs X Ex a (aGs zs)
 | [],zs,h=>by cases h;exact kF
 |e::a,zs,h=>by unfold oR at h;split at h;grind;rename_i x j p r b;cases b;obtain⟨f,c,rfl⟩:=cV.mp h;exact iW lB (w4 c) rfl;cases h
def xY:∀{zs} {a} {Q},Q (zs.map λz=>.tr<|.str z) a->aGs zs a Q
 | [],_,_,q=>q
 |z::r,a,Q,q=>xY (zs:=r) q
def aRw(zs:Q3):XT:=λa Q=>zs.length<=1000000/\Q (.ol<|zs.map Dx.str) a
def aNe(h:oR es=some zs):XE X Ex (.List es pos)<|aRw zs:=λF=>(mG (Ex:=Ex) (w4 h) F).weak λf H Q=>by rintro⟨e,fr,a,E,⟨b,c⟩,k⟩;refine#[e,fr,a,E,xY #[by rw[aB];exact b,?_],k];rw[bH];exact c
def aRj(h:oR es=some zs):Bx<|XE X Ex (.List es pos)<|aRw zs:=#[aNe h]
def bFc(i:Fun K x x st f fd)(S:FnScope N ps<|aP st)(c:∀ds Q,g ds Q->ds.length=ps.length)(j:ps.length<=N.length)
  (e:∀ (b:Value) (A:Around) (a:List Env) (s:Shared) (H:Hp) (E:XK),Room k (A.deeper<|PyProof.Rows.envOfC x (aP st) s.heap.objs.size f b) →
   ∃G,Bx (XSs (kE CX0 P w K mg base N x (aP st) f b A a s H E).nox cY (fL st) G)/\∀ds Q,g ds Q->G (jE N ds) (aDr Q)):FnOk P w K mg base CX0 (k+1) f fd ps<|spX g:=aEz i S c j λb A a s H E l=>by
 obtain⟨G,h,q⟩:=e b A a s H E l;exact#[G,h.out,q]
end Lf
namespace L2
open PySem PySem.Spec PyProof.Rows
end L2
namespace Lf
open PySem L2
section
variable{F:Fm}{P A A':Q8}{H c:Hp}
def Rep.alterB(R:Rep F (A++P) H)(E:(bB A').Nodup)(y:∀a∈bB A',a∈bB A)(G:∀r∈A',∀a∈eL r,FrOk F r a)(e:∀b u,b∉bB A->H b=some u->c b=some u)(D:∀b∈bB A,∃o,c b=some o)(h:∀r∈A',RowOk (bB A'++bB P) (F.vis c) c r):Rep F (A'++P) c:=by
 have B:∀a∈bB A'++bB P,a∈bB (A++P):=λa g=>by
  rw[nY];rcases aV.mp g with g | g
  exact aM _<|y a g;exact aG _ g
 have I:∀a∈bB A,a∈F.B\/F.H0 a=none:=λa g=>by obtain⟨r,f,e⟩:=dI.mp g;exact(R.fr r (aM _ f) a e).or
 have j:=R.nd;rw[nY]at j;refine#[by rw[nY];exact bO.mpr #[E,(bO.mp j).2.1,λa p b l z=>(bO.mp j).2.2 a (y a p) b l z],λr f=>?_,λr f a g=>?_,λb o p l=>?_,λb s=>?_];rw [nY];rcases aV.mp f with f | f
 exact h r f;have v:r∈A ++ P:=aG _ f;refine(R.ok r v).mono (.of λb u s=>?_) λa g=>?_;have i:=bC.mp s;have C:=λz=>i.1 (by rw[nY];exact aM _ z);refine bC.mpr #[λz=>i.1<|B b z,?_];cases q:F.H0 b with
 |none=>exact(kG q).trans (kn_ ((kG q).symm.trans i.2) λo m=>e b o C m)
 |some w=>exact(kA q).trans<|(kA q).symm.trans i.2
 obtain ⟨o,m⟩:=R.own_in<|f_ v g;rw[m];exact e a o (λz=>(bO.mp j).2.2 a z a (f_ f g) rfl) m;rcases aV.mp f with f | f
 exact G r f a g;exact R.fr r (aG _ f) a g;refine e b o (fun z => ?_)<|R.kp b o p l;rcases I b z with q | q
 exact l q;grind;by_cases z:b∈bB A;exact D b z;obtain ⟨u,J⟩:=R.lv b s;exact#[u,e b u z J]
def zP(h:a∈O):Same (hid O<|ext Hs H0 H)<|hid O<|ext Hs H0<|upd H a o:=λb u g=>by
 have e:=bC.mp g;have f:b≠a:=λz=>e.1 (by rw[z];exact h);refine bC.mpr #[e.1,?_];cases q:H0 b with
 |none=>exact(kG q).trans ((congrArg nf<|eT f).trans<|(kG q).symm.trans e.2)
 |some w=>exact(kA q).trans<|(kA q).symm.trans e.2
end
def km_:∀{ds} {vs},OwOks G H (ds.map Ow.tr) vs->All2 (IsX G) ds vs
 | [],vs,h=>by simpa only[dE,OwOks,All2]using h
 |d::r,vs,h=>by obtain⟨v,c,e,a,b⟩:=h;exact#[v,c,e,a,km_ b]
section
variable{F:Fm}{P:Q8}{H:Hp}{j:Sl}{x:S1}{C a i b:Addr}{l:FsO}{f:Ow->Sl}{fl:Str}{ds:Q0}
def q_:∀{l:FsO},l.lookup fl=some o->∀c∈o.fp,c∈fO l
 | [],e,_,_=>by simp at e
 |(g,y)::r,e,c,hc=>by
  simp only[fO];by_cases z:fl=g;grind;have h:(fl == g)=false:=by simpa using z
  rw[bM,h]at e;exact aG _<|q_ e c hc
def aLk(h:o'.fp=o.fp):∀{l},l.lookup fl=some o->fO (dM fl o' l)=fO l
 | [],e=>by simp at e
 |(g,y)::r,e=>by
  by_cases z:fl=g;subst z;rw[gR]at e;cases e;simp only[dM,if_pos,fO,h];have c:(fl == g)=false:=by simpa using z
  rw[bM,c]at e;simp only[dM,if_neg (λq:g=fl=>z q.symm),fO,aLk h e]
def aAw(A:IsX G d v):∀{l:FsO} {ws:S7},OwOkf G H l ws->l.lookup fl=some (.ol b<|ds.map Ow.tr)->(fO l).Nodup->ws.lookup fl=some (.ref b)/\∃vs,H b=some (.lst vs)/\vs.length=ds.length/\OwOkf G (upd H b<|.lst<|vs++[v]) (dM fl (.ol b<|(ds++[d]).map Ow.tr) l) ws
 | [],_,_,e,_=>by simp at e
 |(g,y)::r,ws,h,e,n=>by
  simp only[OwOkf]at h;obtain⟨w,U,rfl,⟨D,m⟩,s⟩:=h;obtain⟨R,T⟩:=w;cases(show g=R from D);simp only[fO]at n;obtain⟨S,Q,B⟩:=bO.mp n;by_cases z:fl=g;subst z;rw[gR]at e ⊢;cases e;simp only[OwOk]at m;obtain⟨rfl,vs,E,u⟩:=m;have I:b∉fO r:=λq=>B b (by simp only[Ow.fp];exact aA) b q rfl;refine#[rfl,vs,E,(km_ u).len,?_];simp only[dM,if_pos,OwOkf,OwOk];exact#[_,_,rfl,#[rfl,rfl,_,bZ,vS<|(km_ u).snoc A],OwOkf.mono (.of λ_ _ q=>q) _ _ (λc p=>eT λq=>I<|q ▸ p) s];have J:(fl == g)=false:=by simpa using z
  rw[bM,J]at e ⊢;have o:b∈fO r:=q_ e b (by simp only[Ow.fp];exact aA);obtain⟨L,vs,M,N,O⟩:=aAw A s e Q;refine#[L,vs,M,N,?_];simp only[dM,if_neg (λq:g=fl=>z q.symm),OwOkf];exact#[_,_,rfl,#[rfl,OwOk.mono (.of λ_ _ q=>q) _ _ (λc p=>eT λq=>B c p b o q) m],O]
def aAz(h:mL j=some (C,a,i,l,f))(R:Rep F ((j,x)::P) H):eL (f<|.oi C a i l',x)=a::i::fO l'/\∀c,FrOk F (j,x) c->FrOk F (f<|.oi C a i l',x) c:=by
 obtain⟨rfl,o,p,m⟩:=cw_ h R;rcases m with⟨g,rfl⟩ | ⟨g,rfl⟩
 exact#[by simp only[eL,Ow.fp],λc e=>by rw[g]at e;exact e];exact#[by simp only[eL,Ow.fp],λc e=>by rw[g]at e;exact e]
def sS(h:mL j=some (C,a,i,l,f))(c:OwOk (hid O G) H' (.oi C a i l') `i):RowOk O G H' (f<|.oi C a i l',some `i):=by
 match j,h with
 | .bo (.oi C a i l),h=>cases h;exact#[_,rfl,c]
 | .v (.ow<|.oi C a i l),h=>cases h;exact#[_,rfl,c]
def Rep.appF(h:mL j=some (C,a,i,l,f))(R:Rep F ((j,x)::P) H)(y:l.lookup fl=some (.ol b<|ds.map Ow.tr))(O:IsX (hid (bB ((j,x)::P)) `m) d v) :
  x=some `i/\∃ws vs,H a=some (.ins C i ws)/\ws.lookup fl=some (.ref b)/\H b=some (.lst vs)/\vs.length=ds.length/\Rep F ((f<|.oi C a i<|dM fl (.ol b<|(ds++[d]).map Ow.tr) l,x)::P) (upd H b<|.lst<|vs++[v]):=by
 obtain⟨rfl,g,N,_⟩:=cw_ h R;obtain⟨ws,D,J,L⟩:=OwOk.ins N;have p:=R.nd;rw[iL,g]at p;simp only[Ow.fp]at p g;have B:=(bO.mp p).1;obtain⟨Y,Z⟩:=bR.mp B;obtain⟨k,n⟩:=bR.mp Z;have o:=q_ y b (by simp only[Ow.fp];exact aA);have s:b∈bB ((j,some `i)::P):=by rw[iL,g];exact aM _<|aC _<|aC _ o
 obtain⟨S,vs,T,U,W⟩:=aAw O L y n;have E:fO (dM fl (.ol b<|(ds++[d]).map Ow.tr) l)=fO l:=aLk (by simp only[Ow.fp,kk_]) y;obtain⟨m,M⟩:=aAz h R (l':=dM fl (.ol b<|(ds++[d]).map Ow.tr) l);rw[E]at m;have I:bB ((f<|.oi C a i<|dM fl (.ol b<|(ds++[d]).map Ow.tr) l,some `i)::P)=bB ((j,some `i)::P):=by rw[iL,iL,g,m]
 refine#[rfl,ws,vs,D,S,T,U,?_];refine Rep.alterB (A:=[(j,some `i)]) (A':=[(f<|.oi C a i<|dM fl (.ol b<|(ds++[d]).map Ow.tr) l,some `i)]) R ?_ (λc e=>?_) (λr z c e=>?_) (λc u e Q=>?_) (λc e=>?_)<|λr z=>?_;rw[iL,m];simpa [bB]using B;rw[iL,m]at e;rw[iL,g];exact e;rw [aE.mp z] at e ⊢;rw[m,<-g]at e;exact M c<|R.fr _ aA c e;rw[eT λq=>e (by rw[iL,g,q];exact aM _<|aC _<|aC _ o)];exact Q;by_cases q:c=b;exact#[_,by rw[q];exact bZ];rw [eT q];refine R.own_in ?_;simpa [bB]using Or.inl (by simpa [bB]using e);rw [aE.mp z];have G:bB [(f<|.oi C a i<|dM fl (.ol b<|(ds++[d]).map Ow.tr) l,some `i)]++bB P=bB ((j,some `i)::P):=by rw[<-nY];exact I
 rw[G];refine sS h ?_;simp only[OwOk];refine#[trivial,ws,by rw[eT<|λq=>Y (by rw[q];exact aC _ o)];exact D,by rw[eT<|λq=>k (by rw[q];exact o)];exact J,OwOkf.mono (.of<|zP s) _ _ (λ_ _=>rfl) W]
def pL:∀{l},l.lookup fl=none->dM fl o l=l++[(fl,o)]
 | [],_=>rfl
 |(g,y)::r,e=>by
  by_cases z:fl=g;grind;have c:(fl == g)=false:=by simpa using z
  rw[bM,c]at e;simp only[dM,if_neg (λq:g=fl=>z q.symm),pL e,dJ]
def sJ:∀{l},l.lookup fl=none->iP fl v l=l++[(fl,v)]
 | [],_=>rfl
 |(g,y)::r,e=>by
  by_cases z:fl=g;grind;have c:(fl == g)=false:=by simpa using z
  rw[bM,c]at e;simp only[iP,if_neg (λq:g=fl=>z q.symm),sJ e,dJ]
def yZ(c:OwOk G H o v):∀{l:FsO} {ws},OwOkf G H l ws->OwOkf G H (l++[(fl,o)]) (ws++[(fl,v)])
 | [],_,h=>by subst h;exact#[_,_,rfl,#[rfl,c],rfl]
 |(g,y)::r,ws,h=>by obtain⟨w,p,rfl,e,m⟩:=h;exact#[_,_,rfl,e,yZ c m]
def aCf:∀{l:FsO},fO (l++[(fl,o)])=fO l++o.fp
 | []=>by simp only[bU,fO,aU]
 |(g,y)::r=>by simp only[dJ,fO,aCf,bK]
def Rep.setFO(h:mL j=some (C,a,i,l,f))(R:Rep F ((.v<|.ol ds,some v)::(j,x)::P) H)(T:l.lookup fl=none)(hw:H a=some (.ins C i ws)) :
  ∃b,v=.ref b/\Rep F ((f<|.oi C a i<|dM fl (.ol b<|ds.map Ow.tr) l,x)::P) (upd H a<|.ins C i<|iP fl v ws):=by
 have R2:Rep F ((j,x)::(.v<|.ol ds,some v)::P) H:=R.perm<|.swap _ _ _;obtain⟨rfl,p,hO,_⟩:=cw_ h R2;obtain⟨a1,O,h2,Q⟩:=OwOk.ins hO;rw[hw]at O;cases O;obtain⟨b,vs,e,hb,hl⟩:=R.atL;cases e;refine#[b,rfl,?_];have o:eL (.v<|.ol ds,some<|V.ref b)=[b]:=rfl;simp only[Ow.fp]at p;have I:=R.nd;rw[iL,iL,p,o]at I;obtain⟨W,m2⟩:=bR.mp<|show(b::((a::i::fO l)++bB P)).Nodup from I;obtain⟨Y,a0,Z⟩:=bO.mp m2;obtain⟨d,n2⟩:=bR.mp Y;have n:b≠a:=λq=>W (by rw[q];exact aM _ aA);have Jz:=Q.miss T;rw[pL T,sJ Jz];have k:fO (l++[(fl,Ow.ol b<|ds.map Ow.tr)])=fO l++[b]:=by rw[aCf];simp only[Ow.fp,kk_]
 obtain⟨m,S⟩:=aAz h R2 (l':=l++[(fl,Ow.ol b<|ds.map Ow.tr)]);rw[k]at m;have M:∀c,c∈a::i::(fO l++[b])↔c∈bB [((.v<|.ol ds,some<|V.ref b):Rw),(j,some `i)]:=λc=>by rw[iL,iL,p,o];simp[bB];grind
 refine Rep.alterB (A:=[(.v<|.ol ds,some<|.ref b),(j,some `i)]) (A':=[(f<|.oi C a i<|l++[(fl,Ow.ol b<|ds.map Ow.tr)],some `i)]) R ?_ (λc g=>?_) (λr E c g=>?_) (λc u g hu=>?_) (λc g=>?_)<|λr E=>?_;rw [iL,m];have:(a::i::(fO l++[b])).Nodup:=by have:=W;simp only[aV,aF,not_or]at this;simp only[bR,aF,aV,bO,aE]at Y ⊢;grind
 simpa [bB]using this;refine (M c).mp ?_;rw[iL,m]at g;simpa [bB]using g;rw [aE.mp E] at g ⊢;rw[m]at g;by_cases q:c=b;refine S c ?_;have J:F.H0 b=none:=R.fr _ aA b (by rw[o];exact aE.mpr rfl);subst q;obtain⟨_,_,_,hs⟩:=cw_ h R2;rcases hs with⟨s,_⟩ | ⟨s,_⟩
 rw[s];exact .inr J;rw[s];exact J;refine S c<|R2.fr _ aA c ?_;rw[p];simp only[aF,aV,bV,or_false]at g ⊢;grind;rw[eT λq=>g<|(M c).mp (by rw[q];exact aA)];exact hu;by_cases q:c=a;exact#[_,by rw[q];exact bZ];rw [eT q];exact R.own_in (by rw[show((Sl.v<|.ol ds,some<|V.ref b)::(j,some<|V.ref a)::P)=[(Sl.v<|.ol ds,some<|V.ref b),(j,some<|V.ref a)]++P from rfl,nY];exact aM _ g);rw [aE.mp E];refine sS h ?_;have L:bB [(f<|.oi C a i<|l++[(fl,Ow.ol b<|ds.map Ow.tr)],some<|V.ref a)]=a::i::(fO l++[b]):=by rw[iL,m];simp[bB]
 have t:∀c,c∈bB [(f<|.oi C a i<|l++[(fl,Ow.ol b<|ds.map Ow.tr)],some<|V.ref a)]++bB P↔c∈bB ((Sl.v<|.ol ds,some<|V.ref b)::(j,some<|V.ref a)::P):=λc=>by rw[L,iL,iL,p,o];simp;grind
 have D:a∈bB [(f<|.oi C a i<|l++[(fl,Ow.ol b<|ds.map Ow.tr)],some<|V.ref a)]++bB P:=by rw[L];exact aM _ aA
 have N:Same (hid (bB ((Sl.v<|.ol ds,some<|V.ref b)::(j,some<|V.ref a)::P)) `m)<|hid (bB [(f<|.oi C a i<|l++[(fl,Ow.ol b<|ds.map Ow.tr)],some<|V.ref a)]++bB P)<|F.vis<|upd H a<|.ins C i<|ws++[(fl,V.ref b)]:=λc u g=>zP D c u<|kH (λz G=>(t z).mp G) c u g;have ep:bB ((j,some<|V.ref a)::(Sl.v<|.ol ds,some<|V.ref b)::P)=bB ((j,some<|V.ref a)::(Sl.v<|.ol ds,some<|V.ref b)::P):=rfl;have B:Same (hid (bB ((j,some<|V.ref a)::(Sl.v<|.ol ds,some<|V.ref b)::P)) `m)<|hid (bB [(f<|.oi C a i<|l++[(fl,Ow.ol b<|ds.map Ow.tr)],some<|V.ref a)]++bB P)<|F.vis<|upd H a<|.ins C i<|ws++[(fl,V.ref b)]:=λc u g=>N c u<|kH (λz G=>(sO<|.swap _ _ _).mem_iff.mp G) c u g;simp only[OwOk];refine#[trivial,_,bZ,by rw[eT λq=>d (by rw[<-q];exact aA)];exact h2,?_];refine yZ ?_<|OwOkf.mono (.of B) _ _ (λc g=>eT λq=>d (by rw[<-q];exact aC _ g)) Q;simp only[OwOk];refine#[trivial,vs,by rw[eT n];exact hb,vS<|hl.imp λ_ _ z=>z.to λc u g=>N c u<|kH (λy U=>?_) c u g];rw[iL,o]at U;exact U
end
def aLm(h:En)(i:Nat)(c:Addr)(f:Str)(b:Addr)(ds:Q0):Prop:=∃a e l g,kW h i=some (c,a,e,l,g)/\l.lookup f=some (.ol b<|ds.map Ow.tr)
def aUc(e:Addr)(f:Str)(i:Nat)(t:XT):XT:=λg Q=>∃b h,aLm g i e f b h/\t g λk c=>∃a,aLm c i e f b a/\ixP a k.d λd=>Q (.tr d) c
def bBv(e:Addr)(f:Str)(i:Nat):XT:=λc Q=>∃b a,aLm c i e f b a/\Q (.tr<|.int a.length) c
def aGw(e:Addr)(f:Str)(i:Nat)(t:XT):XS:=λm D=>∃b o,aLm m i e f b o/\t m λs c=>∃a j l g h,kW c i=some (e,a,j,l,g)/\l.lookup f=some (.ol b<|h.map Ow.tr)/\h.length<1000000/\D.nx (c.set i<|g<|.oi e a j<|dM f (.ol b<|(h++[s.d]).map Ow.tr) l)
def aTx(e:Addr)(f:Str)(i:Nat)(t:XT):XS:=λm D=>t m λs c=>∃h a j l g,s=.ol h/\kW c i=some (e,a,j,l,g)/\l.length<1000/\l.lookup f=none/\∀b,D.nx<|c.set i<|g<|.oi e a j<|dM f (.ol b<|h.map Ow.tr) l
def wP(E:EOk F ρ σ fr H)(h:aLm ρ i C f b ds):∃a e ws vs,σ[i]? = some (some `i)/\H a=some (.ins C e ws)/\ws.lookup f=some (.ref b)/\H b=some (.lst vs)/\All2 (IsX<|hid (bB<|ρ.zip σ++fr) `m) ds vs:=by obtain⟨a,e,l,g,o,B⟩:=h;obtain⟨I,j,p⟩:=bP.mp o;obtain⟨v,hv,J,m⟩:=xJ E j;obtain⟨rfl,_,y,_⟩:=cw_ p m;obtain⟨ws,q,_,r⟩:=OwOk.ins y;obtain⟨w,D,G⟩:=r.look B;obtain⟨rfl,vs,s,u⟩:=G;exact#[a,e,ws,vs,hv,q,D,s,(km_ u).imp λ_ _ z=>z.to<|kH λc A=>(((bu_ j hv).append_right fr).flatMap_right _).mem_iff.mp A]
def aCd:∀{fs} {ws},All2 (FvX G) fs ws->fs.lookup f=some d->∃v,ws.lookup f=some v/\IsX G d v
 | [],_,_,e=>by simp at e
 |(g,y)::r,_,⟨(w1,w2),wr,rfl,⟨h1,h2⟩,h3⟩,e=>by
  cases(h1);by_cases z:f=g;grind;have a:(f == g)=false:=by simpa using z
  rw[bM,a]at e ⊢;exact aCd h3 e
def aCc:∀{fs} {ws},All2 (FvX G) fs ws->fs.lookup f=none->ws.lookup f=none
 | [],_,h,_=>by rw[show _=[]from h];rfl
 |(g,y)::r,_,⟨(w1,w2),wr,rfl,⟨h1,h2⟩,h3⟩,e=>by
  cases(h1);by_cases z:f=g;subst z;rw[gR]at e;cases e;have a:(f == g)=false:=by simpa using z
  rw[bM,a]at e ⊢;exact aCc h3 e
def bBu(b:Addr)(f:Str)(to:XT):XT:=λc Q=>to c λs a=>∃fs d,s.d=.ins b fs/\fs.lookup f=some d/\Q (.tr d) a
def bHt(c:Addr)(m:Str)(g:GC)(to:XT)(u:XA):XT:=λf Q=>to f λs a=>(∃fs,s.d=.ins c fs/\fs.lookup m=none)/\u a λe b=>g (s.d::e.map Sv.d) λr=>Q r b
def aNm(Ex:ExT)(c:Addr)(m:Str)(g:GE)(to:XT)(u:XA):XT:=λf Q=>to f λs a=>(∃fs,s.d=.ins c fs/\fs.lookup m=none)/\u a λe b=>g (s.d::e.map Sv.d) (λr=>Q r b) Ex
section
variable{j i:Nat}{x m f:Str}{ps:Q3}{e o b:Expr}{A:S3}{u:XA}{t to:XT}{p r z:Pos}{C:Addr}
def aGl(K:dN)(c:Cls X.K C)(W:NoAttr X.K C f)(hv:PE X o<|fQ i)(Z:XE X Ex b t)(Y:jX b)(h:X.K=K:=by rfl)(T:attributeBase o f X.env (eval o X.env)=eval o X.env:=by rfl):XE X Ex (.Subscript (.Attribute o f z) b r)<|aUc C f i t:=λF=>by refine(yX wF (pR hv T) (Z F) Y).weak λσ H Q=>?_;rintro⟨ρ,fr,Qx,E,⟨b,ds,N,t⟩,k⟩;obtain⟨a,L,ws,vs,hv,O,S,h3,h4⟩:=wP E N;refine#[.ref a,hv,a,C,L,ws,.ref b,rfl,O,c,W,S,ρ,fr,_,E,t,λw s I G g B=>?_];obtain⟨l,q,B⟩:=B;obtain⟨R,n⟩:=g.one;obtain⟨a',M,a0,D,Ao,Hq,I9,J,y⟩:=wP g.drop q;exact aSp _ I b D l s.d w Q _ R.hv J y n B λv d U V=>k v (.tr d) I G (EOk.back g.len<|R.add U) V
def aNg{py}(K:dN)(c:Cls X.K C)(R:NoAttr X.K C f)(hv:PE X o<|fQ i)(N:Gl X y)(O:X.mg y=none)(v:bootBuiltins y=some (.builtin "len"))(h:X.K=K:=by rfl)(M:attributeBase o f X.env (eval o X.env)=eval o X.env:=by rfl)
  (g:y ≠ "__name__":=by decide) (s:T3 y:=by decide) (l:starEach [.Attribute o f z] X.env=(false,eval (.Attribute o f z) X.env)::starEach [] X.env:=by rfl):XE X Ex (.Call (.Name y py) [.Attribute o f z] [] r)<|bBv C f i:=λF=>by
 refine(ji_ jU N O v (g7 (pR hv M) fq_ l) g s l).weak λZ H Q q=>?_;obtain⟨U,fr,W,E,⟨b,Y,D,t⟩,k⟩:=q;obtain⟨a,B,T,S,hv,G,I,J,L⟩:=wP E D;refine#[.ref a,hv,a,C,B,T,.ref b,rfl,G,c,R,I,b,S,rfl,.inl<|SqL.of J,?_];exact k _ _ H U (EOk.back E.len<|E.rep.add (by rw[L.len];exact IsX.of_int _)) t
def aNt(c:Cls X.K C)(hn:NoAttr X.K C f):∀D h H,tXS F (aGw C f i t) D h H->x_ (tBM X.K "list" mZ (bCl X.K (fQ i) f)<|oQ (tX F t) yE) D h H:=by rintro D h H ⟨ρ,fr,d,E,⟨b,P2,W,q⟩,k⟩;obtain⟨a,N,ws,vs,hv,Y,Z,n,h4⟩:=wP E W;refine#[.ref a,hv,a,C,N,ws,.ref b,rfl,Y,c,hn,Z,.inl #[rfl,vs,SqL.of n],ρ,fr,_,E,q,λy s H' a1 v B=>?_];obtain⟨a2,O,l,g,ds,Q,S,hl,B⟩:=B;obtain⟨R,hx⟩:=v.one;obtain⟨Iq,I,k2⟩:=bP.mp Q;obtain⟨v',G,hi,L⟩:=xJ #[v.len,R] I;obtain⟨rfl,a0,J,g1,g2,T,U,M⟩:=L.appF k2 S<|hx.to<|kH λc V=>(((bu_ I G).append_right fr).flatMap_right _).mem_iff.mpr V;exact#[b,J,y,rfl,rfl,T,by rw[U];have:=iM;exact Nat.lt_trans hl this,k.nx h _ _ rfl (eq_ v.len hi G M) B]
def aNc(c:Cls X.K C)(Y:NoAttr X.K C f)(hv:PE X o<|fQ i)(k:XE X Ex value tv)(Z:swapsWith value (some<|.Attribute o f pos') r.line X.env=pure false:=by rfl):XSt X Ex (.Assign [.Attribute o f pos'] value r)<|aTx C f i tv:=λF=>(aIo hv (k F) Z).weak λD σ H=>by rintro⟨V,fr,d,E,t,N⟩;refine#[V,fr,_,E,t,λv s H2 a0 q G=>?_];obtain⟨ds,a,Q,l,g,rfl,R,W,M,G⟩:=G;obtain⟨Iq,B,J⟩:=bP.mp R;obtain⟨v',h⟩:=nM q.len B;have U:=(aK.mp B).1;have I:=q.front.perm<|((bu_ B h).append_right fr).cons _;have y:=I.perm<|.swap _ _ _;obtain⟨rfl,_,T,_⟩:=cw_ J y;obtain⟨n,L,_,S⟩:=OwOk.ins T;obtain⟨b,rfl,O⟩:=I.setFO J M L;exact#[.ref a,h,a,C,Q,n,rfl,L,c,Y,by rw[S.len];exact W,N.nx _ _ _ rfl (eq_ q.len U h O)<|G b]
def v6(c:Cls X.K C)(M:NoAttr X.K C f)(N:XE X Ex o to)(I:attributeBase o f X.env (eval o X.env)=eval o X.env:=by rfl):XE X Ex (.Attribute o f r)<|bBu C f to:=λF=>(pR (N F) I).weak λW H Q=>by rintro⟨T,fr,U,E,t,k⟩;refine#[T,fr,_,E,t,λv s y g h q=>?_];obtain⟨fs,d,e,L,q⟩:=q;obtain⟨R,l⟩:=h.one;rw[e]at l;obtain⟨a,B,S,rfl,D,G⟩:=l.ins_eq;obtain⟨w,O,J⟩:=aCd G L;exact#[a,C,B,S,w,rfl,R.hv _ _ D,c,M,O,k w (.tr d) y g (EOk.back h.len<|R.add J) q]
def da_{pl:Sem Bool}(M:rA X.prog X.w X.K X.mg X.base j C m ps<|spE g)(L:Room j X.A)(ho:XE X Ex o to)(ha:XAs X Ex (e::A) u)
  (Z:T5 X e A:=by rfl) (Y:T6 X r A:=by rfl)
  (ht:eval (.Call (.Attribute o m z) (e :: A) [] r) X.env=(do
   let ov <-eval o X.env
   standAt z.atName
   let (f,first) <-holding [ov] (getMethod ov m pl)
   callWith r f first (backTo r<|starEach (e::A) X.env) (backToKw r<|keywordEach [] X.env)):=by rfl) :
  XE X Ex (.Call (.Attribute o m z) (e::A) [] r) (aNm Ex C m g to u):=λF=>by
 obtain⟨c,f,fd,hm,hf,hb⟩:=M;refine(aAm (E:=λc _ y=>Ex c/\aFs F y) (ho F) c hm hf L hb .nil (λW S H s e s' I h=>OkF.pass W S H s e s' I h) (ha F) Z Y ht).weak λS H Q=>?_;rintro⟨ρ,fr,Qx,E,t,k⟩;refine#[ρ,fr,_,E,t,λv s H1 O T N=>?_];obtain⟨⟨fs,A,V⟩,N⟩:=N;obtain⟨R,hx⟩:=T.one;have U:=hx;rw[A]at U;obtain⟨a,dx,ws,rfl,G,J⟩:=U.ins_eq;refine#[a,dx,ws,rfl,R.hv _ _ G,aCc J V,O,_,_,T,N,λvs ss n l hl B q2=>?_];have d:EOk F l S (kQ (s::ss) (.ref a::vs)++fr) n:=#[B.len,B.rep.perm<|List.Perm.append_left _ fH];obtain⟨D,hs⟩:=EOk.many (by rw[aL,aL,hl]) d;dsimp only;rw[aU];exact#[_,_,_,Ex,D.hv,hs,q2,λs v y e L q=>k v s y l (EOk.back B.len<|D.res e L) q,λc y e q=>#[q,λb o G J=>e b o<|D.kp b o G J]]
end
def yJ{b:Type}{r:List b}{a:b}(h:k<r.length):(r.set k a).Perm (a::r.eraseIdx k):=by have:=m5 (x:=a) (i:=k) (by rw[gN h]);rwa [List.eraseIdx_set_eq]at this
def aSj{f:Type}:∀{l:List f} {i j} {x y:f},i≠j->l[i]? = some x->l[j]? = some y->∃P,l.Perm (x::y::P)/\∀b c,((l.set i b).set j c).Perm (b::c::P)
 | [],_,_,_,_,_,h,_=>by simp at h
 |a::r,0,0,_,_,h,_,_=>absurd rfl h
 |a::r,0,k+1,x,y,_,h1,h2=>by simp at h1 h2;subst h1;obtain⟨e,_⟩:=aK.mp h2;exact#[r.eraseIdx k,(m5 h2).cons _,λb c=>(yJ e).cons _]
 |a::r,k+1,0,x,y,_,h1,h2=>by simp at h1 h2;subst h2;obtain⟨e,_⟩:=aK.mp h1;exact#[r.eraseIdx k,((m5 h1).cons _).trans<|.swap _ _ _,λb c=>((yJ e).cons _).trans<|.swap _ _ _]
 |a::r,i+1,j+1,x,y,h,h1,h2=>by obtain⟨P,g,m⟩:=aSj (l:=r) (i:=i) (j:=j) (Nat.add_one_ne_add_one_iff.mp h) (by simpa using h1) (by simpa using h2);exact#[a::P,(g.cons a).trans<|(List.Perm.swap _ _ _).trans<|(List.Perm.swap _ _ _).cons _,λb c=>((m b c).cons a).trans<|(List.Perm.swap _ _ _).trans<|(List.Perm.swap _ _ _).cons _]
abbrev GB3:=Q0->Q0->Q0->(Sv->Q0->Q0->Prop)->Prop
def aNx(g:GB3):Sp:=λp H Q _=>∃(F:Fm) (a b c:Addr) (l m o:Q0) (j:Sv->Q0->Q0->Prop),p=[.ref a,.ref b,.ref c]/\F.H0=H/\F.B=[a,b,c]/\Rep F [(.ba a l,some `i),(.ba b m,some<|.ref b),(.ba c o,some<|.ref c)] H/\g l m o j /\
 ∀s v h e f i,Rep F [(.v s,some v),(.ba a h,some `i),(.ba b e,some<|.ref b),(.ba c f,some<|.ref c)] i->j s e f->Q v i
def aUf(g:GB3)(t:XT)(i j:Nat):XT:=λf Q=>t f λs a=>i≠j/\∃e,s=.ol e/\match (a[i]?).bind iJ,(a[j]?).bind iJ with
 |some (l2,f2),some (l3,f3)=>g e l2 l3 λr b c=>Q r ((a.set i<|f2 b).set j<|f3 c)
 |_,_=>False
def aBk{P}(h:iJ sl=some (l,f))(R:Rep F ((sl,x)::P) H):∃p,x=some (.ref p)/\eL (sl,x)=[p]/\(∀O G K,RowOk O G K (sl,x)->RowOk O G K (.ba p l,x))/\(∀l' O G K,RowOk O G K (.ba p l',x)->RowOk O G K (f l',x))/\(∀l',eL (f l',x)=[p])/\(∀l',FrOk F (f l',x) p):=by
 match sl,h with
 | .bw l,h => cases h;obtain⟨p,c,rfl,b,j⟩:=R.ok _ aA;refine#[p,rfl,rfl,λ_ _ _ i=>?_,λ_ _ _ _ ⟨_,c,g,b⟩=>#[p,c,rfl,g,b],λ_=>rfl,λ_=>R.fr _ aA p<|aE.mpr rfl];obtain⟨a,c,e,g,b⟩:=i;exact by cases e;exact#[rfl,c,g,b]
 | .ba a l,h => cases h;obtain⟨rfl,c,b,j⟩:=R.ok _ aA;exact#[a,rfl,rfl,λ_ _ _ z=>z,λ_ _ _ _ z=>z,λ_=>rfl,λ_=>R.fr _ aA a<|aE.mpr rfl]
 | .v (.ol l),h => cases h;obtain⟨p,c,rfl,b,j⟩:=R.ok _ aA;refine#[p,rfl,rfl,λ_ _ _ i=>?_,λ_ _ _ _ ⟨_,c,g,b⟩=>#[p,c,rfl,g,b],λ_=>rfl,λ_=>R.fr _ aA p<|aE.mpr rfl];obtain⟨a,c,e,g,b⟩:=i;exact by cases e;exact#[rfl,c,g,b]
def aGp{p pos}(C:Cal X.prog X.w X.K X.mg X.base n x ps<|aNx g)(B:Room n X.A)(ht:XE X Ex e t)(a1:PE X e2<|fQ i)(a4:PE X e3<|fQ j)(hg:Gl X x:=by rfl)(Bi:T3 x:=by decide)
  (he:starEach [e,e2,e3] X.env=(false,eval e X.env)::starEach [e2,e3] X.env:=by rfl) (Gm:starEach [e2,e3] X.env=(false,eval e2 X.env)::starEach [e3] X.env:=by rfl) (a0:starEach [e3] X.env=(false,eval e3 X.env)::starEach [] X.env:=by rfl) (Ag:(backTo pos<|starEach [e2,e3] X.env).any (·.1)=false:=by rfl):XE X Ex (.Call (.Name x p) [e,e2,e3] [] pos)<|aUf g t i j:=λF=>(vN C B (g7 (ht F) (g7 a1 (g7 a4 fq_ a0) Gm) he) hg Bi he Ag).weak λσ H Q=>by
 rintro⟨ρ,fr,Qx,E,t,k⟩;refine#[ρ,fr,_,E,t,λv1 s D W Y U=>?_];obtain⟨Bq,I,rfl,U⟩:=U;split at U;rename_i l2 f2 l3 f3 Fv Pj;obtain⟨M,a2,b2⟩:=bP.mp Fv;obtain⟨N,a3,b3⟩:=bP.mp Pj;obtain⟨x2,E9⟩:=nM Y.len a2;obtain⟨x3,Lv⟩:=nM Y.len a3;obtain⟨S,pm,a5⟩:=aSj Bq (g_ a2 E9)<|g_ a3 Lv;have y:Rep F ([(.v<|.ol I,some v1),(M,x2),(N,x3)]++(S++fr)) D:=Y.front.perm<|((pm.append_right fr)).cons _;obtain⟨f,a6,e1,g1,_⟩:=y.atL;cases e1;obtain⟨c,rfl,o2,r2,c2,w2,z2⟩:=aBk b2<|y.perm<|.swap _ _ _;obtain⟨l,rfl,o3,r3,c3,w3,z3⟩:=aBk b3<|y.perm<|(List.Perm.swap (N,x3) (M,some<|V.ref c) _).cons _ |>.trans (.swap _ _ _);have oL:bB [((.v<|.ol I,some<|V.ref f):Rw),(M,some<|.ref c),(N,some<|.ref l)]=[f,c,l]:=by rw[iL,iL,iL,o2,o3];rfl
 have d:∀b∈[f,c,l],hid (bB<|[((.v<|.ol I,some<|V.ref f):Rw),(M,some<|.ref c),(N,some<|.ref l)]++(S++fr)) (F.vis D) b=none:=λb A=>by unfold hid;rw[if_pos];rw[nY,oL];exact aM _ A
 have Z:∀b∈[f,c,l],∃o,D b=some o:=λb A=>y.own_in (by rw[nY,oL];exact aM _ A);refine#[.ref c,E9,.ref l,Lv,?_];refine#[#[D,hid (bB<|[((.v<|.ol I,some<|V.ref f):Rw),(M,some<|.ref c),(N,some<|.ref l)]++(S++fr))<|F.vis D,[f,c,l],y.hv,d,Z],f,c,l,I,l2,l3,_,rfl,rfl,rfl,?_,U,λs v T J L H' R' q=>?_];have oB:bB [((.ba f I,some<|V.ref f):Rw),(.ba c l2,some<|.ref c),(.ba l l3,some<|.ref l)]=[f,c,l]:=rfl;refine#[?_,λr B=>?_,λr B b A=>?_,λb o A _=>A,Z];rw [oB,← oL];have:=y.nd;rw[nY]at this;exact(bO.mp this).1;have mono:∀ q,RowOk (bB<|[((.v<|.ol I,some<|V.ref f):Rw),(M,some<|.ref c),(N,some<|.ref l)] ++ (S ++ fr)) (F.vis D) D q→RowOk [f,c,l] (Fm.vis #[D,hid (bB<|[((.v<|.ol I,some<|V.ref f):Rw),(M,some<|.ref c),(N,some<|.ref l)] ++ (S ++ fr))<|F.vis D,[f,c,l],y.hv,d,Z] D) D q:=fun q m=>m.mono (.of fun b u A=>by refine bC.mpr #[λz=>?_,(kA<|y.hv _ _ A).trans A];rw[d b z]at A;cases A) λ_ _=>rfl;rcases aF.mp B with rfl | B
 exact mono _ (by obtain⟨a,vs,e,h1,h2⟩:=y.ok (.v<|.ol I,some<|.ref f) aA;cases e;exact#[rfl,vs,h1,h2]);rcases aF.mp B with rfl | B
 exact mono _<|r2 _ _ _<|y.ok (M,some<|.ref c)<|aC _ aA;rw [aE.mp B];exact mono _<|r3 _ _ _<|y.ok (N,some<|.ref l)<|aC _<|aC _ aA;rcases aF.mp B with rfl | B
 rw[aE.mp<|A];exact aA;rcases aF.mp B with rfl | B
 rw[aE.mp<|A];exact aC _ aA;rw [aE.mp B] at A ⊢;rw[aE.mp<|A];exact aC _<|aC _ aA;have R2:=y.backs (F':=#[D,_,[f,c,l],y.hv,d,Z]) (A'':=[(.v s,some v),(.v<|.ol T,some<|.ref f),(f2 J,some<|.ref c),(f3 L,some<|.ref l)]) rfl oL.symm rfl R' (by simp only [iL,w2,w3]; rfl) (fun O G K h q m => ?_)<|fun q m a R => ?_;have R3:=(R2.perm<|.swap _ _ _).tail;refine k v s H' _ (EOk.back (by rw[bS,bS];exact Y.len)<|R3.perm<|List.Perm.cons _ ?_) q;have hz:((W.set i<|f2 J).set j<|f3 L).zip σ=((W.zip σ).set i (f2 J,some<|.ref c)).set j (f3 L,some<|.ref l):=by rw[<-mS,<-mS,oY (show(σ.set i<|some<|.ref c)[j]? = some (some<|V.ref l) by rw[cS Bq];exact Lv),oY E9]
 rw[hz];exact((a5 _ _).append_right fr).symm;rcases aF.mp m with rfl | m
 exact h _ aA;rcases aF.mp m with rfl | m
 obtain⟨_,vs,h1,h2⟩:=h (.ba f T,some<|.ref f)<|aC _ aA;exact#[f,vs,rfl,h1,h2];rcases aF.mp m with rfl | m
 exact c2 _ _ _ _<|h (.ba c J,some<|.ref c)<|aC _<|aC _ aA;rw [aE.mp m];exact c3 _ _ _ _<|h (.ba l L,some<|.ref l)<|aC _<|aC _<|aC _ aA;rcases aF.mp m with rfl | m
 have hf:=R'.fr (.v s,some v) aA a R;exact y.fresh hf;rcases aF.mp m with rfl | m
 rw [aE.mp<|R];exact y.fr (.v<|.ol I,some<|.ref f) aA f<|aE.mpr rfl;rcases aF.mp m with rfl | m
 rw [w2] at R;rw[aE.mp R];exact z2 _;rw [aE.mp m] at R ⊢;rw[w3]at R;rw[aE.mp R];exact z3 _;exact U.elim
def lH(N:Q3)(e f g:Addr)(a b c:Q0):En:=.ba e a :: .ba f b :: .ba g c::List.replicate (N.length-3) .un
def lN(a b c:Addr)(Q:Sv->Q0->Q0->Prop)(s:Sv)(e:En):Prop:=match e with
 | .ba a1 _ :: .ba a2 l2 :: .ba a3 l3::_=>a1=a/\a2=b/\a3=c/\Q s l2 l3
 |_=>False
abbrev aSa(b c e:Addr)(Q:Sv->Q0->Q0->Prop):XD:=#[λa=>lN b c e Q (.tr .non) a,λs a=>lN b c e Q s a,λ_=>False,λ_=>False]
def bFd(Y:Fun K x qual st f fd)(S:FnScope N ps<|aP st)(W:ps.length=3)(hN:3<=N.length)
  (U:∀ (z:Value) (A:Around) (a:List Env) (s:Shared) (H:Hp) (E:XK),Room k (A.deeper<|PyProof.Rows.envOfC qual (aP st) s.heap.objs.size f z) →
   ∃G,XSs (kE CX0 P w K mg base N qual (aP st) f z A a s H E).nox cY (fL st) G/\∀b c e m o p Q,g m o p Q->G (lH N b c e m o p) (aSa b c e Q)):FnOk P w K mg base CX0 (k+1) f fd ps<|aNx g:=by
 refine Y.ok S (λvs H Q E h=>?_)<|λz A a s H vs Q E hr h=>?_;obtain ⟨F,b,c,e,m,o,p,B,rfl,_⟩:=h;rw[W];rfl;obtain⟨F,b,c,e,m,o,p,B,rfl,h0,hB,R,h3,h4⟩:=h;obtain⟨G,hG,hq⟩:=U z A a s H E hr;have u:∀{y:Sv} {v:V} {j:St} {r:Hp} {i:En},EOk F i j ((.v y,some v)::[]) r->lN b c e B y i->Q v r:=λ{y v j r i} l q=>by
  unfold lN at q;split at q;rename_i D L I M J O a0;obtain⟨rfl,rfl,rfl,q⟩:=q;have T:=l.len
  match j,T,l with
  |x1::x2::x3::σr,T,l => have C:=l.front;obtain⟨Z,_⟩:=C.ok (.ba D L,x1)<|aC _ aA;obtain⟨n,_⟩:=C.ok (.ba I M,x2)<|aC _<|aC _ aA;obtain⟨t,_⟩:=C.ok (.ba J O,x3)<|aC _<|aC _<|aC _ aA;subst Z n t;exact h4 y v L M O r (Rep.drops<|C.perm<|fM (l₁:=([(.v y,some v),(.ba D L,some<|.ref D),(.ba I M,some<|.ref I),(.ba J O,some<|.ref J)]:Q8))) q
  exact q.elim
 refine#[_,hG F,lH N b c e m o p,[],aSa b c e B,#[?_,?_],hq b c e m o p B h3,#[λj r i _ l q=>u (EOk.back l.len<|l.rep.add (d:=.non) (v:=.non) IsX.of_non) q,λv s j r i _ l q=>u l q,λ_ _ _ _ _ q=>q.elim,λ_ _ _ _ _ q=>q.elim]];unfold lH L2.start;simp only[aI,aB,bN,aL,bE];lia;have ez:(lH N b c e m o p).zip (L2.start N [.ref b,.ref c,.ref e])=[(.ba b m,some<|V.ref b),(.ba c o,some<|.ref c),(.ba e p,some<|.ref e)] ++ List.replicate (N.length - 3) (.un,none):=by unfold lH L2.start;simp only[bG,dE,dJ,bU,List.zip_cons_cons,aL,bE,List.zip_replicate']
 rw[ez,aU];exact(R.addUs _).perm fM
def owB:Sv->Addr->Option Ow
 | .tr d,_=>some (.tr d)
 | .ow o,_=>some o
 | .ol l,b=>some (.ol b<|l.map Ow.tr)
 | .od _,_=>none
 | .oq _ _,_=>none
def adr:V->Addr
 | .ref a=>a
 |_=>0
def Rep.toOwB{P:Q8}(R:Rep F ((.v s,some v)::P) H)(h:owB s (adr v)=some o):Rep F ((.v<|.ow o,some v)::P) H:=by
 cases s with
 |tr d=>exact R.toOw h
 |ow o=>exact R.toOw h
 |od l=>cases h
 |oq _ _=>cases h
 |ol l =>
  obtain⟨b,p,e,j,m⟩:=R.atL;cases e;cases h;have g:eL (.v<|.ow<|.ol b<|l.map Ow.tr,some<|V.ref b)=[b]:=by simp only[eL,Ow.fp,kk_]
  have f:bB ((.v<|.ow<|.ol b<|l.map Ow.tr,some<|V.ref b)::P)=bB ((.v<|.ol l,some<|V.ref b)::P):=by rw[iL,iL,g];rfl
  refine#[by rw[show adr (V.ref b)=b from rfl,f];exact R.nd,λr c=>?_,λr c a i=>?_,R.kp,R.lv];rw [show adr (V.ref b)=b from rfl,f];rcases aF.mp c with rfl | c
  refine #[_,rfl,?_];simp only[OwOk];exact#[rfl,p,j,vS m];exact R.ok r<|aC _ c;rcases aF.mp c with rfl | c
  exact R.fr (.v<|.ol l,some<|.ref b) aA a<|show a∈[b]from g ▸ i;exact R.fr r (aC _ c) a i
def Rep.tmpsB:∀{ss} {vs} {os} {P},ss.length=vs.length->List.zipWith owB ss (vs.map adr)=os.map some->Rep F (kQ ss vs++P) H->Rep F (owR os vs++P) H
 | [],[],[],P,_,_,R=>R
 | [],[],_::_,P,_,h,R=>by cases h
 | [],_::_,_,_,h,_,_=>by simp at h
 |_::_,[],_,_,h,_,_=>by simp at h
 |s::ss,v::vs,[],P,h,h2,R=>by cases h2
 |s::ss,v::vs,o::os,P,h,h2,R=>by simp only[bG,List.zipWith_cons_cons,List.cons.injEq]at h2;have a:=Rep.toOwB (s:=s) R h2.1;have R2:=Rep.tmpsB (ss:=ss) (vs:=vs) (os:=os) (by simpa using h) h2.2<|a.perm fH.symm;exact R2.perm fH
def bBm(u:XA):XT:=λe Q=>u e λa b=>a.length<=1000000/\∀bs:R9,bs.length=a.length->∃c:List Ow,List.zipWith owB a bs=c.map some/\Q (.ow<|.ot c) b
def v0(h:XAs X Ex es u):XE X Ex (.Tuple es j pos)<|bBm u:=λF=>(aIv<|h F).weak λv H Q=>by
 rintro⟨o,fr,r,E,t,k⟩;refine#[o,fr,_,E,t,λg s q b e c a=>#[by have:=iM;lia,λp l=>?_]];obtain⟨m,f,a⟩:=a.2 (g.map adr) (by rw[aB];exact e.symm);have i:m.length=g.length:=by have:=congrArg List.length f;rw[List.length_zipWith,aB,aB]at this;lia
 have R:=c.rep.perm<|List.perm_append_comm_assoc _ _ _;exact k _ _ _ b (EOk.back c.len<|(R.tmpsB e f).bundleT i l) a
def Rep.split{P}{os}(R:Rep F ((.v<|.ow<|.ot os,x)::P) H):∃p vs,x=some (.ref p)/\H p=some (.tup vs)/\os.length=vs.length/\Rep F (owR os vs++P) H:=by
 obtain⟨v,rfl,z⟩:=R.ok _ aA;obtain⟨p,vs,rfl,y,f⟩:=z;have l:=(OwOks.len f).symm;have j:bB (owR os vs++P)=bB ((.v<|.ow<|.ot os,some<|V.ref p)::P):=by rw[nY,pW l,iL];simp only[eL,Ow.fp]
 have aOd:∀{os:List Ow} {vs:Q1} {G:Hp},OwOks G H os vs->∀r∈owR os vs,∃o v,r=(.v<|.ow o,some v)/\OwOk G H o v/\∀a∈o.fp,a∈jS os:=by
  intro os
  induction os with
  |nil=>intro vs G h r e;simp[owR]at e
  |cons o os A =>
   intro vs G h r e;obtain⟨v,E,rfl,a,b⟩:=h;rcases aF.mp (e)with rfl | e
   exact#[o,v,rfl,a,λc i=>by simp only[jS];exact aM _ i];obtain ⟨C,D,q,s,u⟩:=A b r e;exact#[C,D,q,s,λc i=>by simp only[jS];exact aG _<|u c i]
 refine#[p,vs,rfl,R.hv _ _ y,l,#[by rw[j];exact R.nd,λr e=>?_,λr e a g=>?_,R.kp,R.lv]];rw [j];rcases aV.mp e with e | e
 obtain ⟨o,v,rfl,m,_⟩:=aOd f r e;exact#[v,rfl,m];exact R.ok r<|aC _ e;rcases aV.mp e with e | e
 obtain ⟨o,v,rfl,m,B⟩:=aOd f r e;exact R.fr (.v<|.ow<|.ot os,some<|.ref p) aA a (by simp only[eL,Ow.fp]at g ⊢;exact B a g);exact R.fr r (aC _ e) a g
def Rep.asL{P:Q8}(R:Rep F ((.v<|.ow<|.ol b<|l.map Ow.tr,x)::P) H):Rep F ((.v<|.ol l,x)::P) H:=by
 obtain⟨v,rfl,h⟩:=R.ok _ aA;simp only[OwOk]at h;obtain⟨rfl,m,j,f⟩:=h;have g:eL (.v<|.ow<|.ol b<|l.map Ow.tr,some<|V.ref b)=[b]:=by simp only[eL,Ow.fp,kk_]
 have e:bB ((.v<|.ow<|.ol b<|l.map Ow.tr,some<|V.ref b)::P)=bB ((.v<|.ol l,some<|V.ref b)::P):=by rw[iL,iL,g];rfl
 rw[e]at f;refine#[by rw[<-e];exact R.nd,λr c=>?_,λr c a i=>?_,R.kp,R.lv];rcases aF.mp c with rfl | c
 exact#[b,m,rfl,j,km_ f];rw[<-e];exact R.ok r<|aC _ c;rcases aF.mp c with rfl | c
 exact R.fr (.v<|.ow<|.ol b<|l.map Ow.tr,some<|.ref b) aA a (by rw[g];exact i);exact R.fr r (aC _ c) a i
def bBz(i j m:Nat)(t:XT):XS:=λg D=>t g λs a=>∃o e b f c,s=.ow (.ot [o,.ol e<|b.map Ow.tr,.ol f<|c.map Ow.tr])/\D.nx (((a.set i<|.v<|.ow o).set j<|.v<|.ol b).set m<|.v<|.ol c)
def u_(h:∀F,[OkF X Ex F]->PS X st (uQ (tX F t)<|aLg K 3<|aQe [i,j,m])):XSt X Ex st<|bBz i j m t:=λF=>(h F).weak λD l H=>by
 rintro⟨J,fr,M,E,q,k⟩;refine#[J,fr,_,E,q,λv s b a r g=>?_];obtain⟨o,L,u,C,f,rfl,g⟩:=g;obtain⟨p,I,e,c,G,R⟩:=r.front.split;cases e
 match I,G,R,c with
 | [v1,v2,v3],_,R,c => have z:=R;have R2:=(z.perm<|.swap _ _ _).asL;have A:=(R2.perm<|(List.Perm.swap (Sl.v<|.ow<|.ol C<|f.map Ow.tr,some v3) (Sl.v<|.ow o,some v1)<|a.zip l++fr).cons _ |>.trans (.swap _ _ _)).asL;have B:Rep F ([(.v<|.ow o,some v1),(.v<|.ol u,some v2),(.v<|.ol f,some v3)]++(a.zip l++fr)) b:=A.perm<|(List.Perm.swap _ _ _).trans<|((List.Perm.swap _ _ _).cons _).trans<|.swap _ _ _;have y:EOk F a l ((.v<|.ow o,some v1)::(.v<|.ol u,some v2)::(.v<|.ol f,some v3)::fr) b:=#[r.len,B.perm<|List.perm_append_comm_assoc _ _ fr];exact#[p,_,rfl,SqT.of c,rfl,v1,_,rfl,v2,_,rfl,v3,_,rfl,rfl,k.nx _ b _ (by simp only[bS]) (ft_<|ft_<|ft_ y) g]
section
open AutoSeq1 (wpAny_loadPart')
open MeetsSeq MeetsSeq2 MeetsSeq3 SeqRoads2 SeqAt
def yC(l b:Addr)(c a:S5)(n D:Nat)(dd q:Option Addr)(F p:Array<|Option Value)(L:0<c.size)(M:0<a.size) :
  Meets (Builtin.«tuple.__eq__» #[[.ref l,.ref b],[]])
   (fun A R s=>s.heap.get? l=some { cls:=.type "tuple",dict:=dd,data:=.seq c n,slots:=F }∧s.heap.get? b=some { cls:=.type "tuple",dict:=q,data:=.seq a D,slots:=p } ∧
    EqAt A.in1 s c[0] a[0] false/\R (.ok<|.ret<|.bool false) s):=
 .of_wp fun e w A R s h=>by
  obtain⟨z,g,d,tk,E⟩:=s;obtain⟨v,r,u,h⟩:=h;have J:=AutoSeq1.sub_tuple_tuple;have N:(c.toList.zip a.toList).length=min c.size a.size:=by simp
  wp_walk using wpAny_loadPart' v,wpAny_loadPart' r,wpAny_forIn_list _ (λrest b i=>b.1=none/\i=#[z,g,d,tk,E]/\rest=c.toList.zip a.toList) _
  case turn =>
   rintro⟨y,x⟩ rest b i ⟨m,rfl,f⟩;have o:0<(c.toList.zip a.toList).length:=by lia
   rw[<-List.drop_zero (l:=c.toList.zip a.toList),List.drop_eq_getElem_cons o]at f;injection f with j G
   have C:y=c[0]:=by have:=congrArg Prod.fst j;simpa using this
   have B:x=a[0]:=by have:=congrArg Prod.snd j;simpa using this
   subst C B;refine wpAny_bind<|u e w _ _ ?_
   wp_walk
   exact#[_,rfl,h]
  case fin => rintro⟨H,I⟩ i ⟨m,rfl,f⟩;have:=congrArg List.length f;simp at this;lia
  case h=>exact#[rfl,rfl,rfl]
def aHy(D:s.heap.IsTuple l items)(y:s.heap.IsTuple b items2)(G:A.units<cLine)(u:0<items.size)(v:0<items2.size)(C:EqAt A.in1 s items[0] items2[0] false):RcAt A s (.ref l) (.ref b) false:=λi w E Q h=>by
 obtain⟨⟨q,r,f,I⟩,g,z,n,B⟩:=id D;obtain⟨⟨e,m,a,j⟩,c,p,H,o⟩:=id y;subst z B p o;exact richCompare_meets_room (op:=.Eq) #[_,g,rfl] #[_,c,rfl] F.slot_tuple_eq F.entry_tuple_eq (F.args_tuple_eq_2 _ _) (yC l b items items2 n H r m I j u v)
  #[g,c,C,show Value.bool false≠Value.notImplemented/\Q (.bool false) s from#[(λx=>nomatch x),h]] G
def rL(l:Addr)(a:S5)(n:Nat)(x:Value)(e:Value->Bool)(j:Nat)(r:j<a.size)(I:e a[j]=true)(k:Nat)(hs1:a.size<=sizeLine) :
  ∀i:Nat,j-i=k->i<=j->(∀m (z:m<a.size),i<=m->m<j->e a[m]=false)->Meets (Builtin.«list.remove.loop» #[[.ref l,x,rawInt i],[]])
   (λA R s=>s.heap.get? l=some { cls:=.type "list",dict:=none,data:=.seq a n,slots:= [].toArray }/\(∀y,y∈a->EqAt A.in1 s y x (e y))/\R (.ok<|.ret .none) { s with heap:=s.heap.update l (Obj.mapSeq λxs=>xs.eraseIdxIfInBounds j) }):=by
 induction k with
 |zero =>
  intro i v u p b w A R s h;obtain⟨F,g,d,tk,H⟩:=s;obtain⟨c,f,h⟩:=h;have C:i=j:=by lia
  subst C
  wp_walk using wpAny_loadPart' c
  have q:a[((i:Nat):Int).toNat]? = some a[i]:=by simp[r]
  rw[q];refine wpAny_bind<|f _ (Array.getElem_mem r) b w _ _ ?_;have B:(a.eraseIdxIfInBounds i).size<=sizeLine+1:=nzL (size_erased a _)<|Nat.le_succ_of_le hs1
  wp_walk using(wpAny_updateSeq c rfl (hz:=hs1) (_hz':=B)),wpAny_loadPart' c
  simpa using h
 |succ k G =>
  intro i v u p b w A R s h;obtain⟨F,g,d,tk,H⟩:=s;obtain⟨c,f,h⟩:=h;have o:i<a.size:=Nat.lt_of_le_of_lt u r
  wp_walk using wpAny_loadPart' c
  have q:a[((i:Nat):Int).toNat]? = some a[i]:=by simp[o]
  have J:((i:Int)+1)=((i+1:Nat):Int):=by push_cast;rfl
  rw[q];refine wpAny_bind<|f _ (Array.getElem_mem o) b w _ _ ?_;rw[p i o (aO _)<|Nat.lt_of_sub_eq_succ v]
  wp_walk
  exact#[plainId_quiet plain_remove_loop _,codeAny_builtin entry_remove_loop<|by exact G (i+1) `b `b (λm z D E=>p m z (eW D) E) b w A R _ #[c,f,h]]
def rN(l:Addr)(a:S5)(n:Nat)(x:Value)(e:Value->Bool)(j:Nat)(r:j<a.size)
  (o:e a[j]=true) (i:∀m (f:m<a.size),m<j->e a[m]=false) (hs1:a.size<=sizeLine) :
  Meets (Builtin.«list.remove» #[[.ref l,x],[]])
   (λA R s=>s.heap.get? l=some { cls:=.type "list",dict:=none,data:=.seq a n,slots:= [].toArray }/\(∀y,y∈a->EqAt A.in1 s y x (e y))/\R (.ok<|.ret .none) { s with heap:=s.heap.update l (Obj.mapSeq λxs=>xs.eraseIdxIfInBounds j) }):=by
 intro b w A R s h;obtain⟨u,g,d,tk,v⟩:=s;obtain⟨c,q,h⟩:=h
 wp_walk using wpAny_loadPart' c
 exact#[plainId_quiet plain_remove_loop _,codeAny_builtin entry_remove_loop<|by exact rL l a n x e j r o _ hs1 0 rfl (bL _) (λm f _ p=>i m f p) b w A R _ #[c,q,h]]
end
abbrev bIj:G2:=gIC aMo λi j=>.int<|i*2^j.toNat
abbrev bLa:G2:=gI λi j=>.int<|Builtin.bitAnd i j
section
variable{a b e o:Expr}{c j:Pos}{g f t:XT}{i:Nat}
def uM(ha:XE X Ex a g)(h:XE X Ex b f):XE X Ex (.BinOp a .LShift b c)<|xOp bIj g f:=lF aWn (vP oi) ha h
def aNj(ha:XE X Ex a g)(h:XE X Ex b f):XE X Ex (.BinOp a .BitAnd b c)<|xOp bLa g f:=lF aWt (sQ oi) ha h
def bHn(t:XT):XC:=λl Q=>t l λs h=>match s.d with
 | .int i=>Q (i != 0) h
 |_=>False
def aMy(h:XE X Ex e t)(y:∀l,isTrue e X.env l=(do let v <-l;standAt e.pos;holding [v] (truthy v)):=by intro _;rfl):XTe X Ex e<|bHn t:=λF=>(aIk (h F) y).weak λC H Q=>by rintro⟨A,fr,B,E,t,k⟩;refine#[A,fr,_,E,t,λv s u m p q=>?_];obtain⟨R,r⟩:=p.one;split at q;rename_i n z;rw[z]at r;cases r.int_eq;exact#[_,rfl,k _ u m p.drop q];exact q.elim
def bFq:G2:=λa b Q=>match a,wE b with
 | .dic l,some k=>Q (.tr<|(fR l k).getD .non)
 |_,_=>False
def bHv(g f:XT):XT:=λp Q=>g p λa h=>(∃l,a.d=.dic l)/\f h λb m=>bFq a.d b.d λs=>Q s m
def aGm(d:X.A.units+1<cLine)(ha:XE X Ex o g)(W:XE X Ex e f)(m:M1 X o "get" j e c):XE X Ex (.Call (.Attribute o "get" j) [e] [] c)<|bHv g f:=λF=>(aIz d (ha F) (W F) m).weak λσ H Q=>by
 rintro⟨V,fr,Qx,E,t,k⟩;refine#[V,fr,_,E,t,λv s H' A C q=>?_];obtain⟨⟨l,Z⟩,q⟩:=q;obtain⟨N,G⟩:=C.one;rw[Z]at G;obtain⟨n,u,rfl,r,Px⟩:=G.dic_eq;refine#[n,rfl,.inl #[u,sI N r],A,_,_,C,q,λw s2 M B D h=>?_];obtain⟨R,I,S⟩:=D.two;unfold bFq at h;split at h;rename_i l' J L Y;rw[L]at I;obtain⟨p,ws,O,T,U⟩:=I.dic_eq;cases O;cases iq_ S Y;refine#[_,DGet.rd (k:=J)<|sI R T,k _ _ M B (EOk.back D.len<|R.add ?_) h];rcases hv_ (k:=J) U with⟨y,z⟩ | ⟨d',v,y,z,x⟩
 rw[y,z];exact IsX.of_non;rw[y,z];exact x;exact h.elim
end
def yD(t:Q6):Dx:=.tup<|t.map Dx.int
def oN:∀{ts:List Q6} {vs:Q1},All2 (IsX G) (ts.map yD) vs->∃us:List<|Addr×Q6,us.map (·.2)=ts/\vs=us.map (λt=>V.ref t.1)/\∀t∈us,G t.1=some (.tup<|t.2.map V.int)
 | [],_,h=>#[[],rfl,h,λ_ h=>by simp at h]
 |t::ts,_,⟨v,vr,rfl,h1,h2⟩=>by
  obtain⟨us,c,rfl,e⟩:=oN h2;obtain⟨a,vs,rfl,f,g⟩:=(h1).tup_eq;cases jl_ g;refine#[(a,t)::us,by rw[bG,c],rfl,λx b=>?_];rcases aF.mp b with rfl | b
  exact f;exact e x b
def x6{G}:∀{us:List<|Addr×Q6},(∀t∈us,G t.1=some (.tup<|t.2.map V.int))->All2 (IsX G) (us.map λt=>yD t.2) (us.map λt=>V.ref t.1)
 | [],_=>rfl
 |t::us,h=>#[_,_,rfl,IsX.of_tup (h t aA)<|qG t.2,x6 λx a=>h x<|aC _ a]
def bDq:GC:=λb Q=>∃a:List Q6,b=[.lst<|a.map yD]/\a≠[]/\∀t,t∈a->(∀u∈a,HT.lexLt u t=false)->Q (.tr<|yD t)
def aQy:jM (λxs H Q=>∃(p:Addr) (ts:List<|Addr×Q6),xs=[.ref p]/\SqL K H p (ts.map λt=>V.ref t.1)/\(∀t∈ts,SqT K H t.1<|t.2.map V.int)/\ts≠[]/\∀t,t∈ts->(∀u∈ts,HT.lexLt u.2 t.2=false)->Q (.ref t.1) H) bDq:=by intro F P H r xs Q q R i g k;obtain⟨ts,rfl,c,g⟩:=g;obtain⟨x,rfl,m⟩:=f7 i;obtain⟨p,s,rfl,f,h⟩:=m.lst_eq;obtain⟨o,rfl,rfl,b⟩:=oN h;refine#[p,o,rfl,SqL.of<|R.hv _ _ f,λt a=>SqT.of<|R.hv _ _<|b t a,(λz=>c (by rw[z];rfl)),λt a e=>?_];exact k _ _ H (R.add<|IsX.of_tup (b t a)<|qG t.2) (g t.2 (aY.mpr #[t,a,rfl]) λu j=>by obtain⟨w,l,rfl⟩:=aY.mp j;exact e w l)
def aUz:GC:=λc Q=>∃a:List Q6,c=[.lst<|a.map yD]/\(∀t∈a,t≠[])/\a.length<64/\∀b:List Q6,b.Perm a->(b.Pairwise λx y=>HT.lexLt y x=false)->Q (.ol<|b.map yD)
def aMc:jM (λxs H Q=>∃(p:Addr) (ts:List TI2),xs=[.ref p]/\SqL K H p (ts.map λt=>V.ref t.1)/\(∀t∈ts,SqT K H t.1 (t.2.map V.int)/\t.2≠[])/\ts.length<64 /\
  ∀us:List TI2,us.Perm ts->(us.Pairwise λx y=>HT.lexLt y.2 x.2=false)->∀l,H l=none->Q (.ref l) (upd H l<|.lst<|us.map λt=>V.ref t.1)) aUz:=by
 intro F P H v xs Q u R q g k;obtain⟨ts,rfl,i,c,g⟩:=g;obtain⟨x,rfl,s⟩:=f7 q;obtain⟨p,z,rfl,m,o⟩:=s.lst_eq;obtain⟨us,rfl,rfl,b⟩:=oN o;refine#[p,us,rfl,SqL.of<|R.hv _ _ m,λt a=>#[SqT.of<|R.hv _ _<|b t a,i t.2<|aY.mpr #[t,a,rfl]],by rw[aB]at c;exact c,λh f r l j=>?_];have e:=x6 (us:=h) λt a=>b t<|f.mem_iff.mp a;refine k _ _ _ (R.newL j e) ?_;have:=g (h.map (·.2)) (f.map _)<|jB.mpr r;rw[bH]at this;exact this
def bFp:GC:=λc Q=>∃a:S8,c=[.lst<|a.map λb=>.tup [kZ b.1,b.2]]/\(a.map (·.1)).Nodup/\Q (.od a)
def sN:∀{kvs} {vs},All2 (IsX G) (kvs.map λb=>.tup [kZ b.1,b.2]) vs->∃us:S9,All2 (KvX G) kvs us/\us.length=vs.length/\∀(j:Nat) (b:Key×V),us[j]? = some b->∃T:Addr,vs[j]? = some (.ref T)/\G T=some (.tup [kV b.1,b.2])
 | [],_,h=>#[[],rfl,by rw[show _=[]from h];rfl,λj b e=>by simp at e]
 |kd::kvs,_,⟨v,vr,rfl,h1,h2⟩=>by
  obtain⟨us,f,g,l⟩:=sN h2;obtain⟨a,u,rfl,o,q,_,rfl,c,r,_,rfl,m,rfl⟩:=h1.tup_eq;have p:q=kV kd.1:=by
   obtain⟨k,d⟩:=kd;cases k with
   |inl i=>exact c.int_eq
   |inr s=>exact c.str_eq
  subst p;refine#[(kd.1,r)::us,#[_,_,rfl,#[rfl,m],f],by rw[aL,aL,g],λj b e=>?_];cases j with
  |zero=>simp at e;subst e;exact#[a,rfl,o]
  |succ j=>exact l j b<|by simpa using e
def aBo:∀{kvs:S8} {us:S9},All2 (KvX G) kvs us->us.map (·.1)=kvs.map (·.1)
 | [],_,h=>by rw[show _=[]from h];rfl
 |kd::kvs,_,⟨w,wr,rfl,h1,h2⟩=>by rw[bG,bG,aBo h2,h1.1]
def wX:jM (λxs H Q=>∃(l:Addr) (ys:Q1) (kvs:S9),xs=[V.ref l]/\H l=some (.lst ys)/\kvs.length=ys.length/\(kvs.map (·.1)).Nodup /\
  (∀(j:Nat) (a:Key×V),kvs[j]? = some a->∃T:Addr,ys[j]? = some (.ref T)/\H T=some (.tup [kV a.1,a.2]))/\∀p,H p=none->Q (.ref p) (upd H p<|.dK kvs)) bFp:=by
 intro F P H B xs Q A R r g k;obtain⟨kvs,rfl,c,g⟩:=g;obtain⟨x,rfl,s⟩:=f7 r;obtain⟨p,z,rfl,i,m⟩:=s.lst_eq;obtain⟨y,b,f,h⟩:=sN m;exact#[p,z,y,rfl,R.hv _ _ i,f,by rw[aBo b];exact c,λj a e=>by obtain⟨T,u,v⟩:=h j a e;exact#[T,u,R.hv _ _ v],λq o=>k _ _ _ (R.newD o b) g]
def aAi:V->Q1->Hp->VK->Prop:=λx c H Q=>∃l A v B y d z,x=.ref l/\c=[y]/\H l=some (.lst (A++v::B))/\IsD H d v/\IsD H d y/\Dt.deep d<=60/\(∃b,d=.tup (.str z::b)) /\
 (∀u∈A++B,∃T e a,u=.ref T/\H T=some (.tup (.str a::e))/\a≠z)/\Q .non (upd H l<|.lst<|A++B)
def aEh(hu:X.A.units+64<cLine):MtM X "list.remove" aAi:=by
 intro Aa s σ H x vs v us Q I rx rv h;obtain⟨l,A,w,B,y,d,z,rfl,rfl,t,hw,hy,hd,⟨ds,rfl⟩,An,q⟩:=h;cases rx;obtain⟨u,rfl,ru⟩:=rv.one;obtain⟨hz,a,n,r,L,e⟩:=I.lstM t;have Z:=hy;have k:=hw;simp only[IsD]at Z k;obtain⟨ty,wy,rfl,U,y1,yr,rfl,j,_⟩:=Z;obtain⟨f,ww,rfl,M,w1,wr,rfl,b,_⟩:=k;subst j b;obtain rfl:u=Value.ref ty:=ru;have G:A.length<a.length:=by rw[<-L];simp
 have c:a.toArray.size=a.length:=aS;have S:a.toArray[A.length]'(by rw[c];exact G)=.ref f:=by
  obtain⟨uu,D,E⟩:=Vals.get r (i:=A.length) (x:=V.ref f) `h;have:a[A.length]? = some (.ref f):=by rw[D];exact congrArg some E
  obtain⟨_,J⟩:=aK.mp this;simpa using J
 have R:∀(m:Nat) (p:m<a.toArray.size),m≠A.length->∃T C g,a.toArray[m]=.ref T/\H T=some (.tup (.str g::C))/\g≠z:=λm p F=>by
  have Mr:m<(A++V.ref f::B).length:=by rw[L,<-c];exact p
  obtain⟨uu,D,E⟩:=Vals.get r (i:=m)<|aJ Mr;have Mq:(A++V.ref f::B)[m]∈A++B:=by
   rcases Nat.lt_or_gt_of_ne F with O | Fo
   rw[List.getElem_append_left O];exact aM _<|List.getElem_mem _;rw [List.getElem_append_right `b];refine aG _ ?_;rw[List.getElem_cons,dif_neg `b];exact List.getElem_mem _
  obtain⟨T,C,g,j,b,o⟩:=An _ Mq;rw[j]at E;refine#[T,C,g,?_,b,o];have I9:uu=Value.ref T:=E;rw[I9]at D;obtain⟨_,J⟩:=aK.mp D;simpa using J
 have W:H f=some (.tup (.str z::wr)):=M;refine call_meets PySem.F.slot_list_remove #[_,e,rfl] PySem.F.entry_list_remove (PySem.F.args_list_remove_2 _ _)
  (rN l a.toArray n (.ref ty) (λw=>w == .ref f) A.length (by rw[c];exact G) (by rw[S];exact beq_self_eq_true _) (λm p O=>?_) (by rw[c,<-L];exact hz)) #[e,λw N=>?_,?_]
 obtain ⟨T,C,g,j,b,o⟩:=R m p `b;rw[j];refine beq_eq_false_iff_ne.mpr λq=>?_;injection q with q
 rw[q,W]at b;cases b;exact o rfl
 ·obtain ⟨m,p,rfl⟩:=Array.mem_iff_getElem.mp N;by_cases Y:m=A.length;subst Y;rw[S,beq_self_eq_true];exact tN I (.tup (.str z::ds)) (by show X.A.units+1+_<cLine;have:=hd;lia) hw hy rfl rfl
  ·obtain ⟨T,C,g,j,b,o⟩:=R m p Y;have F:T≠ty:=λq=>by rw[q,U]at b;cases b;exact o rfl
   rw[j,show(Value.ref T == Value.ref f)=false from beq_eq_false_iff_ne.mpr λq=>by injection q with q;rw[q,W]at b;cases b;exact o rfl];obtain⟨i1,r1,p1,z1⟩:=I.tuple<|SqT.of (K:=X.K) b;obtain⟨i2,r2,p2,z2⟩:=I.tuple<|SqT.of (K:=X.K) U;cases r1 with
   |cons q1 r1 =>
   cases r2 with
   |cons q2 r2 =>
   obtain⟨t1,rfl⟩:=q1;obtain⟨t2,rfl⟩:=q2;refine SeqAt.EqAt.of_refs F<|aHy p1 p2 (by show X.A.units+1<cLine;lia) `h `h ?_;have:=SeqAt.EqAt.str_str (A:=X.A.in1.in1) (s:=s) g t1 z t2;rw[show(g == z)=false from beq_eq_false_iff_ne.mpr o]at this;exact this
 refine #[.non,_,I.lset (its':=a.eraseIdx A.length) t e (by simp [Array.eraseIdxIfInBounds,G]) ?_ ?_,rfl,q];have:A ++ B=(A ++ V.ref f :: B).eraseIdx A.length:=by rw [List.eraseIdx_append_of_length_le<|aO _,iA]; rfl
 rw[this];exact Vals.eraseIdx _ r;rw[aI];rw[aI,aL]at hz;lia
end Lf
namespace L2
open PySem PySem.Spec PyProof.Rows
def aNr(t1 t2:Bool)(K:dN)(i:TA):TE:=λo H Q=>i o H λm c=>∃(a b:Addr) (f g:Q1),m=[.ref a,.ref b]/\Sq t1 K c a f/\Sq t2 K c b g/\f.length=g.length /\
 ∀(l:Addr) (h:Q1) (e:Hp),Same c e->c l=none->e l=some (.lst h)->h.length=f.length->(∀(j:Nat) (x y:V),f[j]? = some x->g[j]? = some y->∃T:Addr,h[j]? = some (.ref T)/\e T=some (.tup [x,y])/\c T=none)->Q (.ref l) e
def aDx{p Y pos pos1}{t1 t2}(g:X.calm=true)(M8:Gl X "list")(Gf:X.mg "list" = none)(hg:Gl X "zip")(hm:X.mg "zip" = none)(ha:PA X [ea,eb] ta)(hs:starEach [ea,eb] X.env=[(false,eval ea X.env),(false,eval eb X.env)]:=by rfl)(hs2:starEach [eb] X.env=[(false,eval eb X.env)]:=by rfl)
  (L6:starEach [.Call (.Name "zip" p) [ea,eb] [] pos] X.env=[(false,eval (.Call (.Name "zip" p) [ea,eb] [] pos) X.env)]:=by rfl) :
  PE X (.Call (.Name "list" Y) [.Call (.Name "zip" p) [ea,eb] [] pos] [] pos1) (aNr t1 t2 X.K ta):=by
 intro Aa s σ H Q I h;refine Call_<|gq_ I M8 Gf xH<|cO ?_ L6 rfl;show wpAny _ _ (spliced [(false,eval (.Call (.Name "zip" p) [ea,eb] [] pos) X.env)]) _ _ s;refine Calls.spliced_cons ?_;refine Call_<|gq_ I hg hm aMi<|cO (dY (ha pos Aa s σ H _ I h) λus A Ab=>?_) (by rw[hs,hs2]) (by rw[hs2];rfl);obtain⟨vs,n,t,r1,q1⟩:=Ab;obtain⟨a,b,xs,ys,e,w1,w2,hl,q⟩:=q1;subst e;obtain⟨u,v,rfl,Z,d⟩:=r1.two;cases Z;cases d;obtain⟨R,r1,Y,z1⟩:=t.sseq w1;obtain⟨S,r2,p2,z2⟩:=t.sseq w2;have n2:=r2.length;have Lq:a<A.heap.objs.size:=by cases t1<;>(obtain⟨_,e,_⟩:=Y;exact aR e)
 have Lp:b<A.heap.objs.size:=by cases t2<;>(obtain⟨_,e,_⟩:=p2;exact aR e)
 refine tU Y p2 λh' hz Bj C1 J3 Gj hk=>Calls.spliced_nil ?_;have fp:=zipApart_new Lq Lp;refine rS (t1:=t1) (t2:=t2) (N:=A.heap.objs.size) (I.ok.hd g) fp (by simp;exact Eq.symm<|Vals.length r1) (by simp;lia) z1 ?_ hz Bj C1 J3 Gj (Y.to λo e=>hk _ o e) (p2.to λo e=>hk _ o e) λEa J c F0 hS hd=>?_;exact iZ<|Nat.lt_of_le_of_lt (eF _ 4)<|aR hz;generalize a1:h'.objs.size=l at hS;have Cf:A.heap.objs.size<=l:=by rw[<-a1];exact iZ<|Nat.lt_of_le_of_lt (eF _ 4)<|aR hz
 have kk:=λc o e=>F0 c o (bF<|aX (aR e)<|eF _ _) (bF<|aX (aR e)<|eF _ _) (bF<|aR e) (bF<|aX (aR e)<|eF _ _)<|hk c o e;have Gq:=hd.1;have Da:∀c,A.heap.objs.size<=c->n c=none:=λc g=>t.hok.fresh g
 let G:Q1:=J.toList.map λu=>match u with | .ref T=>V.ref T | _=>V.non
 have B:G.length=xs.length:=by grind
 have k:∀(j:Nat) (T:Addr),J[j]? = some (.ref T)->G[j]? = some (.ref T):=λj T e=>by rw[bI,Array.getElem?_toList,e];rfl
 have vz:Vals G J.toList:=by
  refine Vals.of_get (B.trans<|Gq.symm.trans Array.length_toList.symm) λj z u E f=>?_;rw[Array.getElem?_toList]at f;have F:j<xs.length:=by by_cases F:j<J.size;exact dF F Gq;rw[Array.getElem?_eq_none<|iB F]at f;cases f
  obtain⟨T,_,_,e3,_⟩:=hd.2 j F;rw[k j T e3]at E;rw[e3]at f;cases E;cases f;rfl
 let m:Addr->V->V->Prop:=λc x y=>A.heap.objs.size<=c/\∃u v,IsPair Ea c u v/\RelV x u/\RelV y v
 have a5:∀c x y x' y',m c x y->m c x' y'->x=x'/\y=y':=by rintro c x y x' y' ⟨_,u,v,e,Z,d⟩ ⟨_,u',v',e',a2,a3⟩;have f:=(e).symm.trans<|e';cases f;exact#[ozI<|Z.abs.symm.trans a2.abs,ozI<|d.abs.symm.trans a3.abs]
 have nl:∀x y,¬m l x y:=by grind
 classical
 let D:Hp:=λc=>if c=l then some (.lst G)else if r:∃x y,m c x y then some (.tup [r.choose,r.choose_spec.choose])else n c
 have Hl:D l=some (.lst G):=if_pos rfl;have L:∀c x y,m c x y->D c=some (.tup [x,y]):=λc x y i=>by have C:c≠l:=λe=>nl x y<|e ▸ i;have r:∃x y,m c x y:=#[x,y,i];show(if c=l then _ else if r:∃x y,m c x y then _ else _)=_;rw[if_neg C,dif_pos r];obtain⟨E,f⟩:=a5 c _ _ _ _ r.choose_spec.choose_spec i;exact congrArg some<|congrArg HO.tup<|by rw[show [r.choose,r.choose_spec.choose]=[x,y]from List.cons_eq_cons.mpr #[E,List.cons_eq_cons.mpr #[f,rfl]]]
 have Ho:∀c,c≠l->(∀x y,¬m c x y)->D c=n c:=λc C i=>by show(if c=l then _ else if r:∃x y,m c x y then _ else _)=_;rw[if_neg C,dif_neg λ⟨x,y,z⟩=>i x y z]
 have U:=λc g=>Ho c (bF<|aX g Cf) λx y ⟨z,_⟩=>Nat.not_le_of_lt g z;have W:∀c u,n c=some u->D c=some u:=λc u e=>by
  have:c<A.heap.objs.size:=by by_cases g:c<A.heap.objs.size;exact g;rw[Da c<|iB g]at e;cases e
  rw[U c this];exact e
 refine#[.ref l,D,t.grown (t':=A.toks) kk W (λc g e=>by rw[U c g];exact e)<|λc u E f=>?_,rfl,q l G D W (Da l Cf) Hl B λj x y ex ey=>?_];by_cases C:c=l;subst C;rw[Hl]at f;cases f;exact#[by rw[B];exact z1,J.toList,_,vz,by rw[Array.toArray_toList];exact hS];by_cases i:∃ x y,m c x y;obtain ⟨x,y,i⟩:=i;rw[L c x y i]at f;cases f;obtain⟨_,u',v',e,Z,d⟩:=i;exact#[by show 2<=sizeLine;decide,[u',v'],.cons Z<|.cons d .nil,_,e,rfl,_,rfl];rw [Ho c C fun x y z=>i #[x,y,z],E] at f;cases f;have F:=(aK.mp ex).1;obtain⟨T,u',v',e3,e4,e5,e6,e7⟩:=hd.2 j F;obtain⟨u1,Kr,Jc⟩:=r1.get ex;obtain⟨v1,a0,a4⟩:=r2.get ey;have M:R[j]? = some u':=by simpa using e4
 have O:S[j]? = some v':=by simpa using e5
 rw[Kr]at M;rw[a0]at O;cases M;cases O;exact#[T,k j T e3,L T x y #[e7,_,_,e6,Jc,a4],Da T e7]
end L2
namespace Lf
open PySem L2
def aUb(u:XA):XT:=λc Q=>u c λb a=>match b.map Sv.d with
 | [.lst l,.lst m]=>l.length=m.length/\Q (.tr<|.lst<|jJ l m) a
 |_=>False
def aGb:∀{l m} {xs ys zs},l.length=m.length->All2 (IsX G) l xs->All2 (IsX G) m ys->zs.length=xs.length->(∀(j:Nat) (x y:V),xs[j]? = some x->ys[j]? = some y->∃T:Addr,zs[j]? = some (.ref T)/\G T=some (.tup [x,y]))->All2 (IsX G) (jJ l m) zs
 | [],[],_,_,zs,_,h1,h2,hz,_=>by rw[show _=[]from h1]at hz;exact List.length_eq_zero_iff.mp (by simpa using hz)
 | [],_::_,_,_,_,h,_,_,_,_=>by simp at h
 |_::_,[],_,_,_,h,_,_,_,_=>by simp at h
 |a::l,b::m,_,_,zs,h,⟨x,xr,c,ha,h1⟩,⟨y,yr,e,hb,h2⟩,hz,k=>by
  subst c e;obtain⟨T,f,g⟩:=k 0 x y rfl rfl;cases zs with
  |nil=>simp at hz
  |cons z i => cases(ozI f);exact#[_,_,rfl,IsX.of_tup g #[_,_,rfl,ha,_,_,rfl,hb,rfl],aGb (by simpa using h) h1 h2 (by simpa using hz) λj u v c e=>k (j+1) u v (by simpa using c)<|by simpa using e]
def i5{p p1 pos pos1}(n:X.calm=true)(I:Gl X "list")(D:X.mg "list" = none)(V:Gl X "zip")(hm:X.mg "zip" = none)(ha:XAs X Ex [ea,eb] u)(h:starEach [ea,eb] X.env=[(false,eval ea X.env),(false,eval eb X.env)]:=by rfl)(hs2:starEach [eb] X.env=[(false,eval eb X.env)]:=by rfl)
  (G:starEach [.Call (.Name "zip" p) [ea,eb] [] pos] X.env=[(false,eval (.Call (.Name "zip" p) [ea,eb] [] pos) X.env)]:=by rfl):XE X Ex (.Call (.Name "list" p1) [.Call (.Name "zip" p) [ea,eb] [] pos] [] pos1)<|aUb u:=λF=>(aDx (t1:=false) (t2:=false) n I D V hm (ha F) h hs2 G).weak λi H Q=>by
 rintro⟨ρ,fr,Qx,E,t,k⟩;refine#[ρ,fr,_,E,t,λvs ss s c hl r f=>?_];obtain⟨R,h⟩:=r.many hl;split at f;rename_i l m e;rw[e]at h;obtain⟨x,_,rfl,Z,y,_,rfl,d,hn⟩:=h;cases(hn);obtain⟨a,xs,rfl,J,v⟩:=Z.lst_eq;obtain⟨b,ys,rfl,L,A⟩:=d.lst_eq;refine#[a,b,xs,ys,rfl,SqL.of<|R.hv _ _ J,SqL.of<|R.hv _ _ L,by rw[v.len,A.len];exact f.1,λp zs g B M N O S=>?_];have q:∀T u,g T=some u->s T=none->(∀o w,u ≠ .frz o w)->hid (bB<|c.zip i++fr) (F.vis g) T=some u:=λT u Y C g3=>bC.mpr #[R.not_own C,(kG<|R.fresh C).trans (by rw[Y];unfold nf;split;grind;rfl)];have up:Same (hid (bB<|c.zip i++fr)<|F.vis s)<|hid (bB<|c.zip i++fr)<|F.vis g:=jm_<|ec_ B;refine k _ (.tr<|.lst<|jJ l m) g c (EOk.back r.len<|(R.grow B).add<|IsX.of_lst (q p _ N M λo w z=>nomatch z)<|aGb f.1 (v.imp λ_ _ z=>z.to up) (A.imp λ_ _ z=>z.to up) O λj x y U W=>?_) f.2;obtain⟨T,t1,t2,t3⟩:=S j x y U W;exact#[T,t1,q T _ t2 t3 λo w z=>nomatch z];exact f.elim
def Dx.sc:Dx->Prop
 | .non=>True
 | .bl _=>True
 | .int _=>True
 | .str _=>True
 |_=>False
def Dx.flt:Dx->Prop
 | .tup l=>∀d∈l,d.sc
 |d=>d.sc
def Dx.sc_any(h:d.sc)(a:IsX G d v):IsX G' d v:=by cases d<;>simp only[Dx.sc]at h<;>simpa only[IsX]using a
def Dx.flt_any(h:d.flt)(g:IsX G d v)(e:∀a vs,G a=some (.tup vs)->G' a=some (.tup vs)):IsX G' d v:=by
 cases d with
 |tup l => obtain⟨a,vs,rfl,j,c⟩:=g.tup_eq;refine IsX.of_tup (e _ _ j)<|All2.mk c.len λi d v f hv=>?_;obtain⟨m,b,z⟩:=c.at f;rw[hv]at b;cases b;exact Dx.sc_any (h d<|aQ f) z
 |_=>exact Dx.sc_any h g
def aTy(t:XT):XT:=λa Q=>t (a.map slS) λs _=>s.d.flt/\Q (.tr s.d) a
def Rep.own_fine{P:Q8}(R:Rep F P H)(h:a∈bB P)(vs:Q1):H a≠some (.tup vs):=by
 obtain⟨⟨j,v⟩,m,e⟩:=dI.mp h;have t:=R.ok (j,v) m;intro z;cases j with
 |v s =>
  cases s with
  |tr d=>exact absurd (show a∈([]:R9)from e) bV
  |ol l => obtain⟨c,vs,f,b,_⟩:=t;cases f;rw[aE.mp<|show a∈[c]from e,b]at z;cases z
  |od l => obtain⟨c,vs,f,b,_⟩:=t;cases f;rw[aE.mp<|show a∈[c]from e,b]at z;cases z
  |oq p l => obtain⟨c,vs,f,b,_⟩:=t;cases f;rw[aE.mp<|show a∈[c]from e,b]at z;cases z
  |ow o => obtain⟨x,f,b⟩:=t;obtain⟨u,i,_,g⟩:=OwOk.there o x b a e;rw[i]at z;cases z;exact g _ rfl
 |bw l => obtain⟨c,vs,f,b,_⟩:=t;cases f;rw[aE.mp<|show a∈[c]from e,b]at z;cases z
 |bo o => obtain⟨x,f,b⟩:=t;obtain⟨u,i,_,g⟩:=OwOk.there o x b a e;rw[i]at z;cases z;exact g _ rfl
 |ba c l => obtain⟨_,vs,b,_⟩:=t;rw[aE.mp<|show a∈[c]from e,b]at z;cases z
 |un=>exact absurd (show a∈([]:R9)from e) bV
 |pn _=>exact absurd (show a∈([]:R9)from e) bV
def aNf(h:XE X Ex e t):XE X Ex e<|aTy t:=λF _ B s S H Q I ⟨A,fr,U,E,q,k⟩=>by
 obtain⟨c,f,r,D,C⟩:=aVd E
 haveI:OkF X Ex c:=OkF.up ‹OkF X Ex F› (λ_ z=>z) λT k b o g J=>k b o (by rw[f];exact E.rep.kp b o g J) (by rw[r];simp)
 refine h c B s S H Q I #[A.map slS,[],_,C,q,λv W p R m j=>?_];have u:=λb o M=>m.rep.kp b o (by rw[f];exact M) (by rw[r];simp);obtain⟨N,j⟩:=j;obtain⟨R2,O⟩:=m.one;have G:=E.rep.grow u;refine k v _ p A (EOk.back E.len<|G.add<|Dx.flt_any N O λa y L=>?_) j;have i:=(bC.mp L).2;refine bC.mpr #[λz=>G.own_fine z y<|R2.vis _ _ i,?_];cases z:H a with
 |none =>
  have l:c.H0 a=none:=by rw[f];exact z
  have:nf (p a)=some (.tup y):=(kG l).symm.trans i;exact(kG<|E.rep.fresh z).trans this
 |some o =>
  have l:c.H0 a=some o:=by rw[f];exact z
  have g:=(kA l).symm.trans i;rw[D]at g;exact ec_ u _ _ g
end Lf
namespace L2
open PySem
end L2
namespace Lf
open PySem L2
def bHu(t:XT):XT:=λe Q=>t e λs a=>∃b l c,s=.ow (.ot (.ol b (l.map Ow.tr)::c))/\Q (.ol l) a
def Rep.tails:∀{A P},Rep F (A++P) H->Rep F P H
 | [],_,R=>R
 |_::A,_,R=>Rep.tails (A:=A) R.tail
def aTt(K:dN)(y:XE X Ex e t)(u:X.K=K:=by rfl):XE X Ex (.Subscript e (.Constant (.int 0) j ip) pos)<|bHu t:=λF=>(yX (aBr K u) (y F) (ki_ (i:=0))<|λ_ _=>rfl).weak λo H Q=>by
 rintro⟨B,fr,C,E,q,k⟩;refine#[B,fr,_,E,q,λv s h a g f=>?_];obtain⟨b,l,z,rfl,f⟩:=f;obtain⟨p,A,e,c,m,R⟩:=g.front.split;cases e
 match A,m,R,c with
 |v::vr,m,R,c =>
  have r:=R;have R2:Rep F ((.v<|.ol l,some v)::(a.zip o++fr)) h:=by have:=r.asL;have:=this.perm (P':=owR z vr++((.v<|.ol l,some v)::(a.zip o++fr))) fH.symm;exact this.tails
  exact#[p,v::vr,0,v,rfl,rfl,SqT.of c,dh_ (j:=0) rfl,k v _ h a (EOk.back g.len R2) f]
def aNn(i:Nat):XT:=λa Q=>∃l,a[i]? = some (.v<|.ol l)/\Q (.ol l) a
def rX(K:dN){p pos}(hv:PE X e<|fQ i)(b:X.mg "list" = none)(s:Gl X "list":=by rfl)(r:X.K=K:=by rfl)
  (f:starEach [e] X.env=(false,eval e X.env)::starEach [] X.env:=by rfl) (j:(backTo pos<|starEach [] X.env).any (·.1)=false:=by rfl):XE X Ex (.Call (.Name "list" p) [e] [] pos)<|aNn i:=λF=>(sM (t6 K r) s b xH (g7 hv fq_ f) `a rfl f j).weak λz H Q=>by
 rintro⟨h,fr,A,E,⟨l,g,q⟩,k⟩;obtain⟨v,c,B,R⟩:=xJ E g;have b:((.v<|.ol l,v):Rw)∈h.zip z++fr:=aM _<|aQ (by rw[cW];exact#[g,c]);obtain⟨a,y,rfl,m,o⟩:=E.rep.ok _ b;exact#[.ref a,c,a,y,rfl,.inl<|SqL.of m,λp u=>k _ _ _ h (EOk.back E.len<|E.rep.newL u o) q]
section
variable{dsc scope:Scope}{tgs N':Q3}{outs:R8}{C p A:Expr}{w:S3}{u:Pos}{B:XI}{g:TG}{o:XG}{m:XC}{b:XT}
def wC(h:iJ sl=some (l,f))(r:RowOk O G H (sl,x)):∃a vs,x=some `i/\H a=some (.lst vs)/\All2 (IsX<|hid O G) l vs:=by
 match sl,h with
 | .bw l,h=>cases h;exact r
 | .ba a l,h => cases h;obtain⟨c,vs,e,i⟩:=r;exact#[a,vs,c,e,i]
 | .v (.ol l),h=>cases h;exact r
def aKr{F}{K}{a}{l}{sl}{f}(h:iJ sl=some (l,f)):ItX F (Itl K a) [(sl,some `i)] l where
 go:=λP H i d R z=>by obtain⟨c,s,e,j,r⟩:=wC h<|R.ok _ aA;cases e;obtain⟨x,v,_⟩:=r.at z;exact#[s,x,SqL.of j,v]
 stop:=λP H i R E=>by obtain⟨c,s,e,j,r⟩:=wC h<|R.ok _ aA;cases e;exact#[s,SqL.of j,by rw[r.len];exact E]
 yld:=λP H i d x G R z q=>by obtain⟨rfl,q⟩:=q;obtain⟨c,s,e,j,r⟩:=wC h<|R.ok _ aA;cases e;obtain⟨y,v,D⟩:=r.at z;rw[q s<|SqL.of j]at v;cases v;exact R.add D
def i9(i n:Nat)(outs:R8)(o:XG)(m:XC)(b:XT):XT:=λc Q=>∃a l f,c[i]? = some a/\iJ a=some (l,f)/\l.length<=1000000/\cB n o m b (λe h=>Q (.ol e)<|(back outs h<|c.set i .un).set i a) l (rP outs<|c.set i .un) []
def aHl(M:GX n g o)(L:outs.Nodup):∀e H Q,tX F (i9 i n outs o m b) e H Q->mK n outs (aKv K<|fQ i) g (tXc F m) (tX F b) e H Q:=by
 rintro e H Q ⟨t,fr,Qx,E,⟨j,l,f,U,G,J,q⟩,k⟩;obtain⟨v,hv,D,R⟩:=xJ E U;obtain⟨a,d,rfl,W,x⟩:=wC G<|R.ok _ aA;have N:EOk F (t.set i .un) e ([(j,some `i)]++fr) H:=by refine eq_ E.len D hv ?_;refine R.addU.perm<|List.Perm.cons _ ?_;exact mid.symm
 refine#[.ref a,hv,a,rfl,#[d,SqL.of W],?_];refine qQ (Qx:=λs r=>Qx s<|r.set i j) M L (λ_ _ _ z=>z) (λ_ _ _ z=>z) (λZ s O c h Y=>?_) N (aKr G) #[J,q];have y:i<c.length:=by rw[h.len,<-E.len];exact D
 refine k Z s O (c.set i j) (eq_ h.len y hv ?_) Y;have S:=h.rep;obtain⟨I,hs2⟩:∃I,c[i]? = some I:=#[_,aJ y];have R2:=S.perm<|(bu_ hs2 hv).append_right _;have T:=R2.tail;exact T.perm<|(List.Perm.append_left _<|List.Perm.swap _ _ _).trans mid
def aOb(e:GX n g o)(c:outs.Nodup):∀D a H,tXS F (iX i<|i9 j n outs o m b) D a H->uQ (mK n outs (aKv K<|fQ j) g (tXc F m)<|tX F b) (kL i) D a H:=by rintro D a H ⟨r,fr,d,E,q,k⟩;exact aHl e c a H _ #[r,fr,_,E,q,λv s h y f l=>k.nx _ h _ bS (ft_ f) l]
end
def xX(C:Cal X.prog X.w X.K X.mg X.base j x ps<|spX g)(a:Room j X.A)(i:Gl X x:=by rfl)(c:T3 x:=by decide):XE X Ex (.Call (.Name x p) [] [] pos)<|gD g eZ:=λF=>by obtain⟨f,fd,G,b,k,m⟩:=C;refine(aJb G a i m k b .nil aAq c).weak λu H Q=>?_;rintro⟨o,fr,r,E,t,l⟩;exact#[_,[],_,E.rep.hv,rfl,t,λs v h e a q=>l v s h o (EOk.back E.len<|E.rep.res e a) q]
structure Blt(mg:mH):Prop where
 isinstance:mg "isinstance" = none
 int:mg "int" = none
 bool:mg "bool" = none
 list:mg "list" = none
 len:mg "len" = none
 str:mg "str" = none
 tuple:mg "tuple" = none
 all:mg "all" = none
 dict:mg "dict" = none
 max:mg "max" = none
 min:mg "min" = none
 range:mg "range" = none
 zip:mg "zip" = none
 enumerate:mg "enumerate" = none
 sorted:mg "sorted" = none
 sum:mg "sum" = none
 reversed:mg "reversed" = none
def Blt.ty(B:Blt mg)(n:Ty):mg n.nm=none/\bootBuiltins n.nm=some (.type n.nm):=by cases n;exact#[B.bool,aRg];exact#[B.int,bAp];exact#[B.str,bAo];exact#[B.tuple,c_];exact#[B.list,xH];exact#[B.dict,nX]
abbrev inN(N tgs:Q3)(outs:R8):Q3:=tgs++outs.map (λj=>N.getD j "")
section
variable{dsc scope:Scope}{N ps:Q3}{l r e:Expr}{p:S3}{f m w G v:Pos}{E:XI}{D:XC}{A:XT}{x y z:Str}{k:Nat}
def lQ(F:FnScope N ps dsc)(outs:R8)(u:XIt X Ex (.Name x m) l E)(h:∀{a C s H ex},XCs (cF X (inN N [x] outs) scope a C s H ex) cY p D)(q:∀{a C s H ex},XE (cF X (inN N [x] outs) scope a C s H ex) cY r A)
  (S:CompScope dsc scope N [x] outs (inN N [x] outs):=by refine#[rfl,?_,?_,?_,rfl,?_,?_,?_]<;>decide +kernel) (b:∀{a C s H ex},(cF X (inN N [x] outs) scope a C s H ex).env.scope.names.lookup x=some .local:=by intros;rfl) (c:outs.Nodup:=by decide) (j:X.N=N:=by rfl) (g:X.env.scope=dsc:=by rfl) (o:X.calm=true:=by rfl) (B:∀x,foldedSetIterable l X.env x=pure x:=by intro _;rfl) :
  XE X Ex (.ListComp r [#[.Name x m,l,p,0]] scope f) (rY 1 outs E (gxN 0) D A):=
 v7 S u (λ_ _ _ _ _=>iK (i:=0) S.nd rfl (.inl b)<|.inr b) (tZ (n:=1) Nat.one_pos) (je_ (n:=1) Nat.one_pos) (λ_ _ _ _ _=>h) (λ_ _ _ _ _=>q) c j g o B
def aGq(I:FnScope N ps dsc)(outs:R8)(B:XIt X Ex (.Tuple [.Name x m,.Name y w] k G) l E)(o:∀{a C s H ex},XCs (cF X (inN N [x,y] outs) scope a C s H ex) cY p D)(u:∀{a C s H ex},XE (cF X (inN N [x,y] outs) scope a C s H ex) cY r A)
  (S:CompScope dsc scope N [x,y] outs (inN N [x,y] outs):=by refine#[rfl,?_,?_,?_,rfl,?_,?_,?_]<;>decide +kernel) (c:∀{a C s H ex},(cF X (inN N [x,y] outs) scope a C s H ex).env.scope.names.lookup x=some .local:=by intros;rfl) (g:∀{a C s H ex},(cF X (inN N [x,y] outs) scope a C s H ex).env.scope.names.lookup y=some .local:=by intros;rfl) (h:outs.Nodup:=by decide) (q:X.N=N:=by rfl) (j:X.env.scope=dsc:=by rfl) (b:X.calm=true:=by rfl) (F:∀x,foldedSetIterable l X.env x=pure x:=by intro _;rfl) :
  XE X Ex (.ListComp r [#[.Tuple [.Name x m,.Name y w] k G,l,p,0]] scope f) (rY 2 outs E (gxT [0,1]) D A):=
 v7 S B (λa C s H ex=>hq_ (X:=cF X (inN N [x,y] outs) scope a C s H ex) b<|lD (iK (i:=0) S.nd rfl (.inl c)<|.inr c)<|lD (iK (i:=1) S.nd rfl (.inl g)<|.inr g) cv_) (fs_ (n:=2) (is:=[0,1]) rfl `a) (ie_ (n:=2)<|t9 `a (t9 `a fw_ t_) (bm_ t_)) (λ_ _ _ _ _=>o) (λ_ _ _ _ _=>u) h q j b F
def xU(q:FnScope N ps dsc)(i:Nat)(outs:R8)(I:XIt X Ex (.Name x m) l E)(j:∀{a C s H ex},XCs (cF X (inN N [x] outs) scope a C s H ex) cY p D)(B:∀{a C s H ex},XE (cF X (inN N [x] outs) scope a C s H ex) cY r A)
  (S:CompScope dsc scope N [x] outs (inN N [x] outs):=by refine#[rfl,?_,?_,?_,rfl,?_,?_,?_]<;>decide +kernel) (L:X.N[i]? = some y:=by rfl) (M:X.env.scope.names.lookup y=some .local:=by rfl) (c:∀{a C s H ex},(cF X (inN N [x] outs) scope a C s H ex).env.scope.names.lookup x=some .local:=by intros;rfl) (g:outs.Nodup:=by decide)
  (o:swapsWith (.ListComp r [#[.Name x m,l,p,0]] scope f) (some<|.Name y w) v.line X.env=pure true:=by rfl) (b:X.N=N:=by rfl) (h:X.env.scope=dsc:=by rfl) (u:X.calm=true:=by rfl) (J:∀x,foldedSetIterable l X.env x=pure x:=by intro _;rfl) :
  XSt X Ex (.Assign [.Name y w] (.ListComp r [#[.Name x m,l,p,0]] scope f) v) (iX i<|rY 1 outs E (gxN 0) D A):=
 o_ λF=>PS.weak (gz_ (b ▸ q.nd) L M S (I F) (λ_ _ _ _ _=>iK (i:=0) S.nd rfl (.inl c)<|.inr c) (je_ (n:=1) Nat.one_pos) (λ_ _ _ _ _=>j F) (λ_ _ _ _ _=>B F) o b h u J)<|lW (tZ (n:=1) Nat.one_pos) g
def gK(b:FnScope N ps dsc)(i:Nat)(c:XE X Ex e t)(a:X.N=N:=by rfl)(h:X.N[i]? = some x:=by rfl)(o:Loc X.env.scope x:=by first | exact Or.inl rfl | exact Or.inr rfl)(j:swapsWith e (some<|.Name x m) f.line X.env=pure false:=by rfl)(g:X.fn x=true\/X.env.scope.names.lookup x=some .local:=by first | exact .inl rfl | exact .inr rfl | assumption):XSt X Ex (.Assign [.Name x m] e f)<|iX i t:=aNb λF=>aVq (a ▸ b.nd) h o (c F) j g
def xv(i:Nat)(b:X.N[i]? = some x:=by rfl)(hv:Vis X.env.scope x:=by first | exact Or.inl rfl | exact Or.inr `l | exact Or.inr<|Or.inr rfl)(c:T3 x:=by decide)(a:T4 x:=by decide):XE X Ex (.Name x f)<|dC i:=aTo<|pv i b hv c a
def dH(K:dN)(ha:XE X Ex a b)(c:jX<|.Constant (.int i) q m:=by exact λ_ _=>rfl)(h:X.K=K:=by rfl):XE X Ex (.Subscript a (.Constant (.int i) q m) f)<|xOp ixX b<|xC<|.int i:=aRv K ha cZ c h
def eQ(h:XE X Ex e t)(a:starEach [e] X.env=(false,eval e X.env)::starEach [] X.env:=by rfl):XAs X Ex [e] (cH t eZ):=iW h kF a
def cQ(h:XE X Ex e t)(h':XE X Ex a t')(c:starEach [e,a] X.env=(false,eval e X.env)::starEach [a] X.env:=by rfl)(b:starEach [a] X.env=(false,eval a X.env)::starEach [] X.env:=by rfl):XAs X Ex [e,a] (cH t<|cH t' eZ):=iW h (eQ h' b) c
def eJ(C:Cal X.prog X.w X.K X.mg X.base j x ps<|spX g)(ha:XAs X Ex (e::a) u)(o:Room j X.A:=by exact Room.mono (by assumption) `b)(i:Gl X x:=by rfl)(c:T3 x:=by decide)
  (h:T5 X e a:=by rfl) (b:T6 X f a:=by rfl):XE X Ex (.Call (.Name x m) (e::a) [] f)<|gD g u:=aNi C o ha i c h b
def nQ(i:Nat)(C:Cal X.prog X.w X.K X.mg X.base j x ps<|spB g)(ha:XAs X Ex a u)(q:Room j X.A:=by exact Room.mono (by assumption) `b)(hv:PE X e<|fQ i:=by exact pv _)(o:Gl X x:=by rfl)(c:T3 x:=by decide)
  (h:T5 X e a:=by rfl) (b:T6 X f a:=by rfl):XE X Ex (.Call (.Name x m) (e::a) [] f)<|kJ g i u:=aGo C q hv ha o c h b
def kI(ha:XE X Ex a c)(h:XE X Ex b g)(i:X.A.units<cLine:=by exact gU<|rB<|by assumption):XTe X Ex (.Compare a [.Eq] [b] f)<|xB<|xOp eqX c g:=kT (m8 X.K i) aSm ha h<|cP _
def rE(ha:XE X Ex a c)(h:XE X Ex b g)(i:X.A.units<cLine:=by exact gU<|rB<|by assumption):XTe X Ex (.Compare a [.NotEq] [b] f)<|xB<|xOp neX c g:=kT (aJi X.K i) bDe ha h<|cP _
def aTv(ha:XE X Ex a c)(h:XE X Ex b g)(i:X.A.units<cLine:=by exact gU<|rB<|by assumption):XE X Ex (.Compare a [.Eq] [b] f)<|xOp eqX c g:=oF (m8 X.K i) aSm ha h<|cP _
def tS(h:XE X Ex e t)(B:Blt X.mg:=by assumption)(c:Gl X "len":=by rfl)(a:starEach [e] X.env=(false,eval e X.env)::starEach [] X.env:=by rfl)(b:(backTo f<|starEach [] X.env).any (·.1)=false:=by rfl):XE X Ex (.Call (.Name "len" m) [e] [] f)<|gD aKg<|cH t eZ:=d4 (tY X.K) bAl c B.len PySem.boot_len (eQ h a) `a `a a b
def a8(n:Ty)(h:XE X Ex e t)(B:Blt X.mg:=by assumption)(i:Gl X n.nm:=by rfl)(j:Gl X "isinstance":=by rfl)(o:(n.nm:Str) ≠ "__name__":=by decide)(c:((n.nm:Str) == ("__debug__" : Str))=false:=by decide)(g:starEach [e,.Name n.nm w] X.env=(false,eval e X.env)::starEach [.Name n.nm w] X.env:=by rfl)(b:starEach [.Name n.nm w] X.env=(false,eval (.Name n.nm w) X.env)::starEach [] X.env:=by rfl)(a:(backTo f<|starEach [.Name n.nm w] X.env).any (·.1)=false:=by rfl):XE X Ex (.Call (.Name "isinstance" m) [e,.Name n.nm w] [] f)<|xIs n t:=aDe n B.isinstance h (aOs i (B.ty n).1 (B.ty n).2 rfl o c) j g b a
def mO(K:dN)(ha:XE X Ex a c)(i:XE X Ex b g)(j:jX b:=by exact λ_ _=>rfl)(h:X.K=K:=by rfl):XE X Ex (.Subscript a b f)<|xOp ixX c g:=aRv K ha i j h
def fb_(i:Nat)(a:XE X Ex e t)(h:∀{A:TE},PE X e A->PE X (.Call (.Attribute o x m) [e] [] f) (tBM X.K "list" mZ (fQ i)<|oQ A yE):=by intro A h;exact aJd PySem.F.plainAttrs_list PySem.F.slot_list_append PySem.F.type_list_append sV (pv _)<|g7 h fq_)(b:swapsWith (.Call (.Attribute o x m) [e] [] f) none v.line X.env=pure false:=by rfl):XSt X Ex (.Expr (.Call (.Attribute o x m) [e] [] f) v)<|aGx i t:=o_ λF=>PS.weak (nA (h<|a F) b) aUx
def v5(B:FnScope N ps dsc)(i:Nat)(outs:R8)(h:∀{a C s H ex},XCs (cF X (inN N [x] outs) scope a C s H ex) cY p D)(q:∀{a C s H ex},XE (cF X (inN N [x] outs) scope a C s H ex) cY r A)
  (S:CompScope dsc scope N [x] outs (inN N [x] outs):=by refine#[rfl,?_,?_,?_,rfl,?_,?_,?_]<;>decide +kernel) (b:∀{a C s H ex},(cF X (inN N [x] outs) scope a C s H ex).env.scope.names.lookup x=some .local:=by intros;rfl) (hv:PE X (.Name y w)<|fQ i:=by exact pv _) (c:outs.Nodup:=by decide) (j:X.N=N:=by rfl) (g:X.env.scope=dsc:=by rfl) (o:X.calm=true:=by rfl) (u:∀z,foldedSetIterable (.Name y w) X.env z=pure z:=by intro _;rfl) :
  XE X Ex (.ListComp r [#[.Name x m,.Name y w,p,0]] scope f) (uN i 1 outs (gxN 0) D A):=
 aGn S hv (λ_ _ _ _ _=>iK (i:=0) S.nd rfl (.inl b)<|.inr b) (tZ (n:=1) Nat.one_pos) (je_ (n:=1) Nat.one_pos) (λ_ _ _ _ _=>h) (λ_ _ _ _ _=>q) c j g o u
def a9(h:XTe X Ex c t):XSt X Ex (.If c [.Return (some<|.Constant (.bool b) q m) w] [] f)<|xIf t (aGt<|xC<|.bl b) mI:=iY h (cR<|eU v9) jH
end
def jP(i:Fun K x a st f fd)(S:FnScope N ps<|aP st)
  (j:∀{c A b s H E},Room k (A.deeper<|PyProof.Rows.envOfC a (aP st) s.heap.objs.size f c)->XSs (kE CX0 P w K mg base N a (aP st) f c A b s H E).nox cY (fL st) G) (e:∀ds Q,g ds Q->ds.length=ps.length/\G (jE N ds) (aDr Q)) (l:ps.length<=N.length:=by decide):FnOk P w K mg base CX0 (k+1) f fd ps<|spX g:=aEz i S (λds Q h=>(e ds Q h).1) l λ_ _ _ _ _ _ m=>#[G,j m,λds Q h=>(e ds Q h).2]
end Lf
namespace Lf
open PySem
def dD(r:Int×Int)(p:Int)(s:Int×Int):Int:=if s.1<p+r.1/\p<s.2 then up s.2 r.2 else p
def fr(ly:Q4)(b:Int)(r:Int×Int):Int:=ly.foldl (dD r)<|up b r.2
def jW(ly:Q4):Prop:=(∀s∈ly,0<=s.1/\s.1<s.2)/\ly.Pairwise λs t=>s.2<=t.1
def aEy(a:0<r.2):p<=dD r p s:=by unfold dD;have:=(rC (n:=s.2) a).1;split<;>lia
def q9(h:p%r.2=0):dD r p s%r.2=0:=by unfold dD;split;exact aHf;exact h
def wO(a:0<r.2):∀(ly:Q4) (p:Int),p<=ly.foldl (dD r) p
 | [],p=>iV _
 |s::ly,p=>jC (aEy a)<|wO a ly _
def zX:∀(ly:Q4) (p:Int),p%r.2=0->(ly.foldl (dD r) p)%r.2=0
 | [],p,h=>h
 |s::ly,p,h=>zX ly _<|q9 h
def tJ:∀(ly:Q4) (p:Int),(∀s∈ly,p+r.1<=s.1)->ly.foldl (dD r) p=p
 | [],_,_=>rfl
 |s::ly,p,h=>by
  have e:dD r p s=p:=if_neg λc=>by have:=h s aA;lia
  show ly.foldl (dD r) (dD r p s)=p;rw[e];exact tJ ly p λt a=>h t<|aC _ a
def tK(i:0<r.2):∀(ly:Q4) (p:Int),jW ly->∀s∈ly,ly.foldl (dD r) p+r.1<=s.1\/s.2<=ly.foldl (dD r) p
 | [],_,_,_,h=>by cases h
 |s::ly,p,hR,t,ht=>by
  have l:=List.pairwise_cons.mp hR.2;have f:jW ly:=#[λu j=>hR.1 u<|aC _ j,l.2];show ly.foldl (dD r) (dD r p s)+r.1<=t.1\/t.2<=ly.foldl (dD r) (dD r p s);rcases aF.mp ht with h | h
  rw [h];have g:=wO i ly<|dD r p s;by_cases c:s.1<p+r.1/\p<s.2;have e:dD r p s=up s.2 r.2:=if_pos c;rw[e]at g ⊢;have:=(rC (n:=s.2) i).1;exact .inr<|jC this g;have e:dD r p s=p:=if_neg c;rw[e]at g ⊢;by_cases d:s.2<=p;exact .inr<|jC d g;have m:p + r.1≤s.1:=by lia
  rw[tJ ly p λu j=>by have a:=l.1 u j;have b:=(hR.1 s aA).2;lia];exact .inl m;exact tK i ly _ f t h
def aCe(c:0<r.2)(e:r.2<=8):∀(ly:Q4) (p:Int),(∀s∈ly,s.2<=B)->p<=B+8->ly.foldl (dD r) p<=B+8
 | [],_,_,h=>h
 |s::ly,p,hs,h=>by refine aCe c e ly _ (λt f=>hs t<|aC _ f) ?_;unfold dD;have a:=hs s aA;have b:=(rC (n:=s.2) c).2;split<;>lia
def aSy(a:0<r.2):b<=fr ly b r:=jC (rC a).1<|wO a ly _
def aZx:fr ly b r%r.2=0:=zX ly _ aHf
def aQp(c:0<r.2)(a:jW ly):∀s∈ly,fr ly b r+r.1<=s.1\/s.2<=fr ly b r:=tK c ly _ a
def bFa(a:0<r.2)(c:r.2<=8)(e:∀s∈ly,s.2<=B)(f:b<=B):fr ly b r<=B+8:=aCe a c ly _ e (by have:=(rC (n:=b) a).2;lia)
def rk(rs:Q4)(k:Nat):Int×Int:=rs.getD k (0,1)
abbrev Way:=Int×Nat×Int
def wlt(a b:Way):Bool:=if a.1=b.1 then(if a.2.1=b.2.1 then decide (a.2.2<b.2.2)else decide (a.2.1<b.2.1))else decide (a.1<b.1)
def j3(a:Way):wlt a a=false:=by simp[wlt]
def aUi(h:wlt a b=false):b.1<=a.1:=by unfold wlt at h;split at h;lia;grind
def aGz(g:wlt a b=false)(h:wlt b a=false):a=b:=by obtain⟨e,i,j⟩:=a;obtain⟨f,l,m⟩:=b;simp only[wlt]at g h;by_cases c:e=f;grind;grind
def rZ(e:wlt b a=false)(f:wlt c b=false):wlt c a=false:=by
 obtain⟨g,h,i⟩:=a;obtain⟨j,l,m⟩:=b;obtain⟨o,p,q⟩:=c;simp only[wlt]at e f ⊢
 repeat' split at e
 all_goals repeat' split at f
 all_goals repeat' split
 all_goals simp only[decide_eq_false_iff_not]at *
 all_goals lia
def oH(d:Way):List Way->Way
 | []=>d
 |a::r=>oH (if wlt a d then a else d) r
def jq_:∀(l:List Way) (d:Way),(oH d l=d\/oH d l∈l)/\wlt d (oH d l)=false/\∀a∈l,wlt a (oH d l)=false
 | [],d=>#[.inl rfl,j3 d,λa h=>by cases h]
 |a::r,d=>by
  show(oH (if wlt a d then a else d) r=d\/oH (if wlt a d then a else d) r∈a::r)/\wlt d (oH (if wlt a d then a else d) r)=false/\∀x∈a::r,wlt x (oH (if wlt a d then a else d) r)=false;by_cases c:wlt a d=true
  ·rw [if_pos c];obtain⟨j,e,f⟩:=jq_ r a;have i:wlt d a=false:=by
    cases z:wlt d a with
    |false=>rfl
    |true =>
     exfalso;obtain⟨m,o,p⟩:=a;obtain⟨q,s,u⟩:=d;simp only[wlt]at c z
     repeat' split at c
     all_goals repeat' split at z
     all_goals simp only[decide_eq_true_eq]at *
     all_goals lia
   refine#[.inr ?_,rZ e i,λx b=>?_];grind;grind
  have g:wlt a d=false:=by grind
  rw[if_neg c];obtain⟨j,e,f⟩:=jq_ r d;refine#[?_,e,λx b=>?_];grind;rcases aF.mp b with b | b
  rw[b];exact rZ e g;exact f x b
def w0:Way:=(0,0,0)
def aEl:List Way->Way
 | []=>w0
 |a::r=>oH a r
def sX(h:l≠[]):aEl l∈l/\∀a∈l,wlt a (aEl l)=false:=by
 cases l with
 |nil=>exact absurd rfl h
 |cons a r =>
  obtain⟨f,c,e⟩:=jq_ r a;show oH a r∈a::r/\_;refine#[?_,λx b=>?_];grind;rcases aF.mp b with b | b
  rw[b];exact c;exact e x b
def aPo(h:M∈l)(e:∀a∈l,wlt a M=false):M=aEl l:=by obtain⟨b,c⟩:=sX (l:=l) (λz=>by rw[z]at h;cases h);exact aGz (c M h)<|e _ b
def jT(rs ly:Q4)(ws:List Way)(g k:Nat):Way:=(fr ly (ws.getD (g-2^k) w0).1 (rk rs k)+(rk rs k).1,k,fr ly (ws.getD (g-2^k) w0).1<|rk rs k)
def gW(rs ly:Q4)(ws:List Way)(g n:Nat):List Way:=((List.range n).filter λk=>g.testBit k).map<|jT rs ly ws g
def t5(rs ly:Q4)(ws:List Way)(g n:Nat):gW rs ly ws g (n+1)=if g.testBit n=true then gW rs ly ws g n++[jT rs ly ws g n]else gW rs ly ws g n:=by unfold gW;rw[List.range_succ,dG];by_cases h:g.testBit n=true;grind;grind
def wy(rs ly:Q4):Nat->List Way
 | 0=>[w0]
 |g+1=>wy rs ly g++[aEl<|gW rs ly (wy rs ly g) (g+1) rs.length]
def gi_(rs ly:Q4):∀g,(wy rs ly g).length=g+1
 | 0=>rfl
 |g+1=>by show(_++[_]).length=_;rw[aI,gi_ rs ly g];rfl
def way(rs ly:Q4)(g:Nat):Way:=(wy rs ly g).getD g w0
def oG(rs ly:Q4):∀{h},g<=h->(wy rs ly h).getD g w0=way rs ly g
 | 0,e=>by
  have:g=0:=by lia
  subst this;rfl
 |h+1,e=>by by_cases c:g=h+1;subst c;rfl;have i:=oG rs ly (g:=g) (h:=h) `b;rw[<-i];show(wy rs ly h++[_]).getD g w0=_;rw[bA,bA,cX (by rw[gi_];lia)]
def oI(rs ly:Q4)(g:Nat):way rs ly (g+1)=aEl (gW rs ly (wy rs ly g) (g+1) rs.length):=by show(wy rs ly g++[_]).getD (g+1) w0=_;rw[bA,bW (by rw[gi_];exact aO _),gi_,iA];rfl
def lV:∀g,g<32->∀k,k<5->g.testBit k=true->2^k<=g/\∀j,j<5->(g-2^k).testBit j=(g.testBit j&&decide (j≠k)):=by decide +kernel
def bCd:∀n,n<6->∀g,g<2^n->0<g->∃k,k<n/\g.testBit k=true:=by decide +kernel
def aNp:∀n,n<6->∀g,g<2^n->((∀j,j<n->g.testBit j=true)↔g=2^n-1):=by decide +kernel
def cz_:∀n,n<6->2^n<=32:=by decide
section
variable{rs ly:Q4}
def qZ(rs:Q4):Prop:=rs.length<=5/\∀k,k<rs.length->1<=(rk rs k).1/\1<=(rk rs k).2/\(rk rs k).2<=8
def fv_(A:qZ rs)(q:0<g)(h:g<2^rs.length) :
  (∃k,k<rs.length/\g.testBit k=true/\way rs ly g=(fr ly (way rs ly<|g-2^k).1 (rk rs k)+(rk rs k).1,k,fr ly (way rs ly<|g-2^k).1<|rk rs k)) /\
  ∀k,k<rs.length->g.testBit k=true->(way rs ly g).1<=fr ly (way rs ly<|g-2^k).1 (rk rs k)+(rk rs k).1:=by
 have m:=A.1;have u:=aX h<|cz_ _<|eV m;obtain⟨a,rfl⟩:∃a,g=a+1:=#[g-1,(Nat.sub_eq_iff_eq_add q).mp rfl];have f:∀k,k<rs.length->(a+1).testBit k=true->jT rs ly (wy rs ly a) (a+1) k=(fr ly (way rs ly<|a+1-2^k).1 (rk rs k)+(rk rs k).1,k,fr ly (way rs ly<|a+1-2^k).1<|rk rs k):=by intro k b c;have:=(lV _ u k (aX b m) c).1;have p:=eY k;unfold jT;rw[oG rs ly (h:=a) `b]
 have i:∀k,k<rs.length->(a+1).testBit k=true->jT rs ly (wy rs ly a) (a+1) k∈gW rs ly (wy rs ly a) (a+1) rs.length:=by intro k b c;exact aY.mpr #[k,cA.mpr #[eP.mpr b,c],rfl]
 obtain⟨B,v,y⟩:=bCd rs.length (eV m) (a+1) h q;obtain⟨r,s⟩:=sX (l:=gW rs ly (wy rs ly a) (a+1) rs.length) (λz=>by have:=i B v y;rw[z]at this;cases this);rw[<-oI]at r s;refine#[?_,λk b c=>?_];obtain ⟨k,b,e⟩:=aY.mp r;obtain⟨j,o⟩:=cA.mp b;have j:=eP.mp j;exact#[k,j,o,by rw[<-e,f k j o]];have:=aUi<|s _<|i k b c;rw[f k b c]at this;exact this
def oJ(c:qZ rs):∀(g:Nat),g<2^rs.length->0<=(way rs ly g).1:=by
 intro g
 induction g using Nat.strongRecOn with
 |_ g r => intro h;by_cases j:g=0;subst j;exact iV _;obtain ⟨⟨k,m,q,e⟩,_⟩:=fv_ (ly:=ly) c (Nat.zero_lt_of_ne_zero j) h;have l:=c.1;have o:=aX h<|cz_ _<|eV l;have a:=(lV g o k (aX m l) q).1;have p:=eY k;have i:=r (g-2^k) (Nat.sub_lt_self p a)<|Nat.sub_lt_of_lt h;obtain⟨u,s,v⟩:=c.2 k m;have f:=aSy (ly:=ly) (b:=(way rs ly<|g-2^k).1)<|gX s;rw[e];lia
def aUj(a:qZ rs)(C:0<=B)(r:∀s∈ly,s.2<=B)(o:∀k,k<rs.length->(rk rs k).1<=R)(q:0<=R):∀(g:Nat),g<2^rs.length->(way rs ly g).1<=B+g*(R+8):=by
 intro g
 induction g using Nat.strongRecOn with
 |_ g u =>
  intro h;by_cases m:g=0;subst m;show(0:Int)<=_;simp;lia;obtain ⟨⟨k,j,D,e⟩,_⟩:=fv_ (ly:=ly) a `b h;have A:=a.1;have y:=aX h<|cz_ _ `b;have p:=eY k;have i:=u (g-2^k) `b `b;obtain⟨E,F,v⟩:=a.2 k j;have G:=o k j;have c:((g-2^k:Nat):Int)*(R+8)<=((g-1:Nat):Int)*(R+8):=cD `b `b;have d:((g-1:Nat):Int)*(R+8)=g*(R+8)-(R+8):=by grind
  have z:0<=((g-1:Nat):Int)*(R+8):=Int.mul_nonneg `b `b;have f:=bFa (ly:=ly) (b:=(way rs ly<|g-2^k).1) (B:=B+((g-1:Nat):Int)*(R+8)) `b v (λs l=>by have:=r s l;lia) `b;rw[e];lia
end
section
variable{rs ly:Q4}
def iS(rs:Q4):Nat:=2^rs.length-1
def lc_(rs:Q4):iS rs<2^rs.length:=by unfold iS;have:=eY rs.length;exact Nat.sub_one_lt_of_lt this
def zU(a:qZ rs)(b:k<rs.length):(iS rs).testBit k=true:=(aNp rs.length (by have:=a.1;exact eV this) _<|lc_ rs).mpr rfl k b
def rV(rs ly:Q4):Nat->Nat->Q6->Q6
 | 0,_,ps=>ps
 |f+1,g,ps=>if g=0 then ps else rV rs ly f (g-2^(way rs ly g).2.1) (ps.set (way rs ly g).2.1 (way rs ly g).2.2)
def pk(ps:Q6)(k:Nat):Int:=ps.getD k 0
structure Bk(rs ly:Q4)(g:Nat)(ps:Q6):Prop where
 len:ps.length=rs.length
 ok:∀k,k<rs.length->g.testBit k=false->0<=pk ps k/\pk ps k%(rk rs k).2=0/\(∀s∈ly,pk ps k+(rk rs k).1<=s.1\/s.2<=pk ps k)/\(way rs ly g).1<=pk ps k/\pk ps k+(rk rs k).1<=(way rs ly (iS rs)).1
 dis:∀k j,k<rs.length->j<rs.length->k≠j->g.testBit k=false->g.testBit j=false->pk ps k+(rk rs k).1<=pk ps j\/pk ps j+(rk rs j).1<=pk ps k
 mx:g=iS rs\/∃k,k<rs.length/\g.testBit k=false/\pk ps k+(rk rs k).1=(way rs ly (iS rs)).1
def pO(h:k<ps.length):pk (ps.set k v) j=if j=k then v else pk ps j:=by unfold pk;rw[bA,bA];by_cases e:j=k;rw[if_pos e,e,gN h];rfl;rw[if_neg e,cS<|λz=>e z.symm]
def Bk.start(c:qZ rs):Bk rs ly (iS rs)<|List.replicate rs.length 0:=
 #[bN,λk b a=>absurd a (by rw[zU c b];decide),λk j b _ _ a _=>absurd a (by rw[zU c b];decide),.inl rfl]
def Bk.step(y:qZ rs)(T:jW ly)(S:0<g)(H:g<2^rs.length)(h:Bk rs ly g ps) :
  (way rs ly g).2.1<rs.length/\g.testBit (way rs ly g).2.1=true/\2^(way rs ly g).2.1<=g/\Bk rs ly (g-2^(way rs ly g).2.1) (ps.set (way rs ly g).2.1 (way rs ly g).2.2):=by
 have W:=y.1;obtain⟨⟨k,B,L,e⟩,_⟩:=fv_ (ly:=ly) y S H;have N:=aX H<|cz_ _ `b;obtain⟨a,b⟩:=lV g N k `b L;have Y:=oJ (ly:=ly) y (g-2^k) `b;obtain⟨Z,d,n⟩:=y.2 k B;have O:(way rs ly g).2.1=k:=by rw[e]
 have Q:(way rs ly g).2.2=fr ly (way rs ly<|g-2^k).1 (rk rs k):=by rw[e]
 have R:(way rs ly g).1=fr ly (way rs ly<|g-2^k).1 (rk rs k)+(rk rs k).1:=by rw[e]
 rw[O,Q];have u:=aSy (ly:=ly) (b:=(way rs ly<|g-2^k).1) (r:=rk rs k) `b;have s:=aQp (ly:=ly) (b:=(way rs ly<|g-2^k).1) (r:=rk rs k) `b T;have v:=aZx (ly:=ly) (b:=(way rs ly<|g-2^k).1) (r:=rk rs k);generalize fr ly (way rs ly<|g-2^k).1 (rk rs k)=p at R u s v;have U:(way rs ly g).1<=(way rs ly<|iS rs).1:=by
  rcases h.mx with z | ⟨j,f,l,z⟩
  rw[z];exact iV _;obtain ⟨_,_,_,G,C⟩:=h.ok j f l;have:=(y.2 j f).1;lia
 have q:k<ps.length:=by rw[h.len];exact B
 have m:∀j,j<rs.length->j≠k->(g-2^k).testBit j=false->g.testBit j=false:=λj f M l=>by rw[b j `b,dzT M,Bool.and_true]at l;exact l
 refine#[B,L,a,#[by rw[bS];exact h.len,λj f l=>?_,λi j A f I J l=>?_,.inr ?_]];rw [pO q];by_cases c:j=k;rw [if_pos c,c];exact#[by lia,v,s,u,by lia];rw [if_neg c];obtain⟨D,E,F,G,C⟩:=h.ok j f<|m j f c l;exact#[D,E,F,by lia,C];rw [pO q,pO q];by_cases c:i=k;have o:j≠k:=fun z=>I<|c.trans z.symm;rw[if_pos c,if_neg o,c];obtain⟨D,E,F,G,C⟩:=h.ok j f<|m j f o l;exact .inl `b;by_cases o:j=k;rw [if_neg c,if_pos o,o];obtain⟨D,E,F,G,C⟩:=h.ok i A<|m i A c J;exact .inr `b;rw [if_neg c,if_neg o];exact h.dis i j A f I (m i A c J)<|m j f o l;rcases h.mx with z | ⟨j,f,l,z⟩
 refine #[k,B,by rw [b k `b,dzF<|fun z=>z rfl,Bool.and_false],?_];rw[pO q,if_pos rfl];lia;have c:j≠k:=by grind
 refine#[j,f,by rw[b j `b,l,Bool.false_and],?_];rw[pO q,if_neg c];exact z
def aCx(b:qZ rs)(a:jW ly):∀(f g:Nat) (ps:Q6),g<=f->g<2^rs.length->Bk rs ly g ps->Bk rs ly 0 (rV rs ly f g ps)
 | 0,g,ps,h,_,hb=>by have:g=0:=Nat.eq_zero_of_le_zero h;subst this;exact hb
 |f+1,g,ps,h,Al,hb=>by show Bk rs ly 0 (if g=0 then ps else _);by_cases c:g=0;rw[if_pos c];rw[c]at hb;exact hb;rw [if_neg c];obtain⟨i,j,l,e⟩:=hb.step b a (Nat.zero_lt_of_ne_zero c) Al;have p:0<2^(way rs ly g).2.1:=eY _;exact aCx b a f _ _ `b (Nat.sub_lt_of_lt Al) e
def dpP(rs ly:Q4):Q6:=rV rs ly (iS rs) (iS rs)<|List.replicate rs.length 0
def ld_(a:qZ rs)(b:jW ly):Bk rs ly 0<|dpP rs ly:=aCx a b _ _ _ (aO _) (lc_ rs)<|Bk.start a
def uF(i:qZ rs)(o:jW ly):∀(f h g:Nat) (ps:Q6),g<=f->g<=h->g<2^rs.length->rV rs ly f g ps=rV rs ly h g ps
 | 0,0,g,ps,_,_,_=>rfl
 | 0,h+1,g,ps,h1,_,_=>by
  have:g=0:=by lia
  subst this;rfl
 |f+1,0,g,ps,_,h2,_=>by
  have:g=0:=by lia
  subst this;rfl
 |f+1,h+1,g,ps,h1,h2,h3=>by
  show(if g=0 then ps else _)=(if g=0 then ps else _);by_cases c:g=0;rw[if_pos c,if_pos c];rw [if_neg c,if_neg c];obtain⟨⟨k,r,q,e⟩,_⟩:=fv_ (ly:=ly) i `b h3;have m:=i.1;have j:=aX h3<|cz_ _ `b;obtain⟨a,b⟩:=lV g j k (aX r m) q;have l:(way rs ly g).2.1=k:=by rw[e]
  have p:0<2^k:=eY _;rw[l];exact uF i o f h _ _ `b `b `b
end
end Lf
namespace Lf
open PySem L2
def aBp:Q0->Option (List Key)
 | []=>some []
 |d::r=>match wE d,aBp r with
  |some k,some ks=>some (k::ks)
  |_,_=>none
def aZi:Dx->Option (List Key)
 | .tup ds=>aBp ds
 |_=>none
def zL:∀{ds:Q0} {vs:Q1} {k:List Key},All2 (IsX H) ds vs->aBp ds=some k->vs=k.map kV
 | [],vs,k,h,e=>by rw[show vs=[]from h];cases e;rfl
 |d::r,vs,k,⟨v,vr,e1,h1,h2⟩,e=>by unfold aBp at e;split at e;rename_i a b c f;cases e;rw[e1,iq_ h1 c,zL h2 f];rfl;cases e
def aBq(h:IsX H d x)(e:aZi d=some k):∃b,x=.ref b/\H b=some (.tup<|k.map kV):=by
 cases d with
 |tup g => obtain⟨a,i,rfl,c,f⟩:=h.tup_eq;rw[zL f e]at c;exact#[a,rfl,c]
 |_=>cases e
def kR:List (List Key)->Q0->List Key->Option Dx
 |k::ks,d::l,q=>if k=q then some d else kR ks l q
 |_,_,_=>none
def zR:∀{ws:List<|List Key×V} {l:Q0},All2 (IsX G) l (ws.map (·.2))->kR (ws.map (·.1)) l k=some d->∃v,kP ws k=some v/\IsX G d v
 | [],l,_,e=>by cases l<;>cases e
 |w::ws,[],_,e=>by cases e
 |w::ws,c::l,⟨v,vr,e1,h1,h2⟩,e=>by cases e1;rw[bG]at e;unfold kR at e;by_cases a:w.1=k;rw [if_pos a] at e;cases e;exact#[w.2,hg_ a,h1];rw [if_neg a] at e;obtain⟨u,b,f⟩:=zR h2 e;exact#[u,by rw[hh_ a];exact b,f]
def aQv:G2:=λa b Q=>match a,aZi b with
 | .dqt ks l,some k=>(match kR ks l k with | some d=>Q (.tr d) | none=>False)
 |_,_=>False
def aWl:OpX (λx y H Q=>∃a v,x=.ref a/\DGet H a y (some v)/\Q v H) aQv:=by intro F P H a b x y Q A R i j g k;unfold aQv at g;split at g;rename_i B l r o;obtain⟨p,s,rfl,c,e,f⟩:=i.dqt_eq;obtain⟨q,rfl,h⟩:=aBq j o;split at g;rename_i d m;subst e;obtain⟨v,u,z⟩:=zR f m;exact#[p,v,rfl,.inr #[s,r,q,sI R c,rfl,R.hv _ _ h,u.symm],k _ _ H (R.add z) g];exact g.elim;exact g.elim
section
variable{a b o i:Expr}{c:Pos}{f e:XT}
def oE(l:X.A.units+1<cLine)(ha:XE X Ex o f)(g:XE X Ex i e)(j:aRt i):XE X Ex (.Subscript o i c)<|xOp aQv f e:=λF=>(aAn l (ha F) (g F) j).weak λm H Q h=>mJ aWl m H Q h
def aUe:XT:=λg Q=>Q (.oq [] []) g
def xV:XE X Ex (.Dict [] [] c) aUe:=λF=>(aIx (X:=X)).weak λl H Q=>by rintro⟨h,fr,j,E,t,k⟩;exact λp g=>k _ _ _ h (EOk.back E.len<|E.rep.newQ g rfl All2.nil) t
end
section
variable{F:Fm}{c:En}{b:St}{fr:Q8}{H:Hp}{i:Nat}
def tP(E:EOk F c b fr H)(h:c[i]? = some (.v<|.oq ks l)):∃p ws,b[i]? = some (some<|.ref p)/\H p=some (.dT ws)/\ws.map (·.1)=ks/\All2 (IsX<|hid (bB<|c.zip b++fr) `m) l (ws.map (·.2)) /\
  ∀l' e,All2 (IsX<|hid (bB<|c.zip b++fr) `m) l' (e.map (·.2))->EOk F (c.set i (.v (.oq (e.map (·.1)) l'))) b fr (upd H p<|.dT e):=by
 obtain⟨v,hv,r,R⟩:=xJ E h;obtain⟨p,ws,rfl,m,o,q⟩:=R.atQ;have f:(bB<|c.zip b++fr).Perm<|bB ((.v<|.oq ks l,some<|V.ref p)::((c.zip b).eraseIdx i++fr)):=((bu_ h hv).append_right fr).flatMap_right _;rw[kY (a:=p) rfl]at f;refine#[p,ws,hv,m,o,q.imp λ_ _ z=>z.to<|kH λa g=>f.mem_iff.mp g,λl' e j=>?_];exact eq_ E.len r hv<|R.putQ rfl<|j.imp λ_ _ z=>z.to<|kH λa g=>f.mem_iff.mpr g
end
def putK_new{ws:List<|List Key×V}(h:k∉ws.map (·.1)):jR ws k v=ws++[(k,v)]:=by
 unfold jR;have:(ws.any λb=>decide (b.1=k))=false:=List.any_eq_false.mpr λp a=>by intro z;exact h<|aY.mpr #[p,a,of_decide_eq_true z]
 rw[this];rfl
def aGv(i:Nat)(tk e:XT):XS:=λf D=>e f λs a=>(∃c l,a[i]? = some (.v<|.oq c l))/\tk a λk b=>match b[i]?,aZi k.d with
 |some (.v<|.oq c l),some key=>l.length<1000000/\key∉c/\D.nx (b.set i<|.v<|.oq (c++[key])<|l++[s.d])
 |_,_=>False
def yF:∀D g H,tXS F (aGv i tk A) D g H->aHt (fQ i) (tX F tk) (tX F A) D g H:=by
 rintro D g H ⟨Q,fr,d,E,q,k⟩;refine#[Q,fr,_,E,q,λy s U j o h=>?_];obtain⟨⟨Z,V,J⟩,h⟩:=h;obtain⟨p,ws,hv,Y,_⟩:=tP o J;refine#[.ref p,hv,j,_,_,o,h,λz s2 W S r f=>?_];split at f;rename_i x l c N O;obtain⟨R,I,G⟩:=r.two;obtain⟨p',a,m,C,M,u,B⟩:=tP (r.drop.drop) N;rw[hv]at m;cases m;obtain⟨b,rfl,L⟩:=aBq G O;subst M;have T:a.length=l.length:=by have:=u.len;rw[aB]at this;exact this
 have e:jR a c y=a++[(c,y)]:=putK_new f.2.1;have n:=B (l++[s.d]) (a++[(c,y)]) (by rw[aZ];exact u.snoc I);rw[aZ]at n;exact#[p,_,rfl,by have t:=DPut.t (v:=y) C (R.hv _ _ L) (by have:=iM;lia);rw[e]at t;exact t,k.nx g _ _ rfl n f.2.2];exact f.elim
def aDp(K:dN)(d:Dx)(a:Q6):Prop:=d=.scr K a\/d=.lst (a.map .int)
def aBu:∀{a:Q6} {vs:Q1},All2 (IsX G) (a.map Dx.int) vs->vs=a.map V.int
 | [],_,h=>h
 |n::r,_,⟨v,vr,e,h1,h2⟩=>by rw[e,h1.int_eq,aBu h2];rfl
def uX(h:IsX H d x)(e:aDp K d b):∃p,x=.ref p/\SqL K H p (b.map V.int):=by
 rcases e with rfl | rfl
 exact h.scr_eq;obtain ⟨p,f,rfl,a,c⟩:=h.lst_eq;rw[aBu c]at a;exact#[p,rfl,SqL.of a]
section
variable{F:Fm}{a b e:Expr}{x:Str}{p c:Pos}{o m t:XT}{f j:XO}{u:XA}{K:dN}
def ixW(K:dN):G2:=λa b Q=>∃g i n,aDp K a g/\b=.int i/\atI g i=some n/\Q (.tr<|.int n)
def aWh:OpX (aId K)<|ixW K:=by rintro F P H a b x y Q v R q r ⟨z,i,n,h,rfl,s,g⟩ k;obtain⟨p,rfl,l⟩:=uX q h;cases r.int_eq;refine#[p,_,_,V.int n,rfl,rfl,SameF.sq (.of R.hv) l,?_,k _ _ H (R.add<|IsX.of_int _) g];rw[aRm,s];rfl
def aTs(K:dN)(ha:XE X Ex a o)(g:XE X Ex b m)(i:jX b)(h:X.K=K:=by rfl):XE X Ex (.Subscript a b c)<|xOp (ixW K) o m:=λF=>(yX (zM K h) (ha F) (g F) i).weak<|mJ aWh
def bIy(K:dN):GC:=λh Q=>∃d g,h=[d]/\aDp K d g/\Q (.tr<|.int g.length)
def aQz:jM (aVg K)<|bIy K:=by rintro F P H s y Q r R l ⟨d,v,rfl,h,g⟩ k;obtain⟨x,rfl,q⟩:=f7 l;obtain⟨a,rfl,i⟩:=uX q h;exact .inl #[a,_,rfl,.inl<|SameF.sq (.of R.hv) i,k _ _ H (R.add (by rw[aB];exact IsX.of_int _)) g]
def bHp(K:dN)(t:XT)(v s:XO):XT:=λy Q=>t y λa g=>v g λl i=>s i λh q=>∃r,aDp K a.d r/\Q (.ol<|(iT r l h).map Dx.int) q
def aDd(K:dN)(L:XE X Ex e t)(N:XOp X Ex C f)(M:XOp X Ex B j)(h:X.K=K:=by rfl):XE X Ex (.Subscript e (.Slice C B none T) c)<|bHp K t f j:=λF =>
 (jh_ (oX K h) (L F) (N F)<|M F).weak fun σ H Q=>by rintro⟨W,fr,n,E,t,k⟩;refine#[W,fr,_,E,t,λv s Y r D q=>#[r,_,_,D,q,λl Z y G U=>#[y,_,_,G,U,λu d z A i=>?_]]];obtain⟨R,S⟩:=A.one;obtain⟨g,I,i⟩:=i;obtain⟨a,rfl,J⟩:=uX S I;refine#[a,_,rfl,SameF.sq (.of R.hv) J,λp O=>k _ _ _ z (EOk.back A.len<|R.newL O ?_) i];have:c6 (g.map V.int) l u=(iT g l u).map V.int:=aCs g l u;rw[this];exact qH _
end
def top(i:Nat):Stmt:=PySem.Challenge.pw_laidfields_k42_whole_apart_and_steady.main.body.getD i<|.Pass #[0,0,0,0]
abbrev hk_:Stmt:=top 5
abbrev go_:Stmt:=top 6
abbrev hl_:Stmt:=top 7
abbrev gn_:Stmt:=top 8
abbrev fz_:Stmt:=top 18
abbrev df_:Stmt:=top 19
abbrev dr_:Stmt:=top 20
abbrev kc_:Stmt:=top 21
abbrev il_:Stmt:=top 22
abbrev sF:Stmt:=top 23
abbrev dg_:Stmt:=top 24
abbrev gy_:Stmt:=top 25
abbrev fp_:Stmt:=top 26
abbrev fn_:Stmt:=top 27
abbrev jy_:Stmt:=top 28
abbrev ii_:Stmt:=top 29
abbrev cc_:Stmt:=top 30
abbrev jx_:Stmt:=top 31
abbrev em_:Stmt:=top 32
abbrev ca_:Stmt:=top 33
abbrev dq_:Stmt:=top 34
abbrev de_:Stmt:=top 35
abbrev gx_:Stmt:=top 36
abbrev eu_:Stmt:=top 38
abbrev gm_:Stmt:=top 39
abbrev gp_:Stmt:=top 40
abbrev ex_:Stmt:=top 41
abbrev hp_:Stmt:=top 42
abbrev dy_:Stmt:=top 43
abbrev iy_:Stmt:=top 44
abbrev ik_:Stmt:=top 47
abbrev ee_:Stmt:=top 48
abbrev ct_:Stmt:=top 49
abbrev cu_:Stmt:=top 50
abbrev pI:Stmt:=top 51
abbrev dz_:Stmt:=top 55
abbrev fo_:Stmt:=top 56
abbrev ds_:Stmt:=top 57
abbrev ew_:Stmt:=top 58
abbrev jz_:Stmt:=top 59
abbrev pH:Stmt:=top 60
abbrev hn_:Stmt:=top 62
abbrev pE:Stmt:=top 63
abbrev pG:Stmt:=top 64
abbrev fy_:Stmt:=top 65
abbrev gw_:Stmt:=top 66
abbrev ij_:Stmt:=top 67
abbrev pD:Stmt:=top 68
abbrev fx_:Stmt:=top 69
abbrev ho_:Stmt:=top 70
abbrev gv_:Stmt:=top 71
abbrev pF:Stmt:=top 72
abbrev do_:Stmt:=top 73
abbrev kb_:Stmt:=top 74
abbrev ka_:Stmt:=top 75
abbrev ck_:Stmt:=top 76
abbrev cs_:Stmt:=top 77
abbrev yR:Stmt:=top 78
def ed_:FnScope ["house","a","b","of_a","of_b"] AM (aP hk_):=gL `c
def fk_:FnScope AH AH<|aP go_:=gL `c
def gk_:FnScope AH AH<|aP hl_:=gL `c
def fj_:FnScope ["house","a","b","both"] AM (aP gn_):=gL `c
def yN:FnScope AB AB<|aP fz_:=gL `c
def ig_:FnScope AW AW<|aP df_:=gL `c
def jd_:FnScope BB BB<|aP dr_:=gL `c
def pB:FnScope AB AB<|aP kc_:=gL `c
def yP:FnScope AG AG<|aP il_:=gL `c
def l8:FnScope AB AB<|aP sF:=gL `c
def ih_:FnScope AQ AQ<|aP dg_:=gL `c
def ix_:FnScope AE AE<|aP gy_:=gL `c
def hX:FnScope ["things","depth","names","thing"] AE (aP fp_):=gL `c
def rK:FnScope AC AC<|aP fn_:=gL `c
def oZ:FnScope AX AX<|aP jy_:=gL `c
def ju_:FnScope AL AL<|aP ii_:=gL `c
def dj_:FnScope AZ AZ<|aP cc_:=gL `c
def k9:FnScope ["room"] ["room"] (aP jx_):=gL `c
def gj_:FnScope ["kind","n","room"] ["kind","n"] (aP em_):=gL `c
def fT:FnScope ["kinds","rooms","multiple","ends"] AL (aP ca_):=gL `c
def dZ:FnScope ["rooms","places","end","room","place"] AZ (aP dq_):=gL `c
def br_:FnScope ["kinds","rooms","multiple","greatest"] AL (aP de_):=gL `c
def vA:FnScope ["multiple"] ["multiple"] (aP gx_):=gL `c
def cr_:FnScope ["kinds","lying","rooms","places"] ["kinds","lying"] (aP eu_):=gL `c
def fi_:FnScope BC BC<|aP gm_:=gL `c
def fm_:FnScope BO BO<|aP gp_:=gL `c
def gT:FnScope ["rooms","lying","ways","group"] ["rooms","lying"] (aP ex_):=gL `c
def fZ:FnScope ["group","ways","rooms","lying","found","k","room","place"] AU (aP hp_):=gL `c
def bj_:FnScope ["ways","how_many","places","group","way"] ["ways","how_many"] (aP dy_):=gL `c
def hV:FnScope ["begin","room","lying","place","stretch"] BL (aP iy_):=gL `c
def yO:FnScope AN AN<|aP ik_:=gL `c
def fl_:FnScope AY AY<|aP ee_:=gL `c
def cj_:FnScope BD BD<|aP ct_:=gL `c
def hi_:FnScope BI BI<|aP cu_:=gL `c
def hj_:FnScope AB AB<|aP pI:=gL `c
def cb_:FnScope ["fields"] ["fields"] (aP dz_):=gL `c
def fF:FnScope ["there","changes","fields","change"] ["there","changes"] (aP fo_):=gL `c
def gf_:FnScope AI AI<|aP ds_:=gL `c
def ef_:FnScope AJ AJ<|aP ew_:=gL `c
def uZ:FnScope AI AI<|aP jz_:=gL `c
def jv_:FnScope AJ AJ<|aP pH:=gL `c
def pA:FnScope ["script","k"] ["script","k"] (aP hn_):=gL `c
def gt_:FnScope ["cell","k","one"] ["cell","k"] (aP pE):=gL `c
def fY:FnScope ["cell","many","found","digits","k","number"] ["cell","many"] (aP pG):=gL `c
def yM:FnScope BF BF<|aP fy_:=gL `c
def gS:FnScope ["deck","many","start","names","k","letter"] ["deck","many"] (aP gw_):=gL `c
def gu_:FnScope ["deck","deep","way","kinds"] BE (aP ij_):=gL `c
def aDq:FnScope AC AC<|aP pD:=gL `c
def cU:FnScope ["kind","room","m","parts","sizes","end","other"] AX (aP fx_):=gL `c
def gl_:FnScope ["deck","deep","most","kind"] AT (aP ho_):=gL `c
def fJ:FnScope ["kind","deck","number","k"] AR (aP gv_):=gL `c
def yL:FnScope [] [] (aP pF):=gL `c
def fI:FnScope AS BN<|aP do_:=gL `c
def eR:FnScope ["cell","deck","start","fields","now","k","name","kind"] ["cell"] (aP kb_):=gL `c
def gB:FnScope ["script","house","now","known","makes","cell"] BK (aP ka_):=gL `c
def cC:FnScope AD BG<|aP ck_:=gL `c
def cT:FnScope ["house","makes","steady","many","a","names","b","c"] BH (aP cs_):=gL `c
def jF:FnScope ["script","house","makes","other","others","many","steady","beside","a","b"] BK (aP yR):=gL `c
abbrev l_:Stmt:=fC (top 54) 0
def aOc:FnScope BJ BJ<|aP l_:=gL `c
abbrev eo_:Stmt:=fC (top 54) 1
def uY:FnScope AV AV<|aP eo_:=gL `c
abbrev ea_:Stmt:=fC (top 54) 2
def bd_:FnScope ["self","there","changes","fields","kept","new","kinds","rooms","places","laid"] AO (aP ea_):=gL `c
abbrev ev_:Stmt:=fC (top 54) 3
abbrev ep_:Stmt:=fC (top 54) 4
def iw_:FnScope AA AA<|aP ep_:=gL `c
abbrev en_:Stmt:=fC (top 54) 5
def iv_:FnScope AA AA<|aP en_:=gL `c
abbrev sE:Stmt:=fC (top 54) 6
abbrev hm_:Stmt:=fC (top 54) 7
def k_:FnScope AA AA<|aP hm_:=gL `c
def xZ{G K}{ρ}{D}(M:En->Prop)(b:∀ρ',M ρ'->K ρ' D)(c:∀a:XD,(∀ρ',M ρ'->a.nx ρ')->G ρ a):dO G K ρ D:=c { D with nx:=λρ'=>K ρ' D } b
def f8{i}{t}{K}{ρ}{D}(h:t ρ λs ρ'=>K (ρ'.set i<|.v s) D):dO (iX i t) K ρ D:=h
def lb_{i}{s}{ρ}{Q}(a:ρ[i]? = some (.v s))(h:Q (.tr s.d)<|ρ.set i<|vT s.d):dC i ρ Q:=by unfold dC;rw[a];exact h
def it_{d}{ρ}{Q}(h:Q (.tr d) ρ):xC d ρ Q:=h
def aBz{g}{u}{ρ}{Q}(h:u ρ λss ρ'=>g (ss.map Sv.d) λs=>Q s ρ'):gD g u ρ Q:=h
def is_{t}{u}{ρ}{Q}(h:t ρ λs a=>u a λss b=>Q (s::ss) b):cH t u ρ Q:=h
def aLc{ρ}{Q}(h:Q [] ρ):eZ ρ Q:=h
def aLb{g}{ta tb}{ρ}{Q}(h:ta ρ λa c=>tb c λb e=>g a.d b.d λs=>Q s e):xOp g ta tb ρ Q:=h
def kM{c}{G K}{ρ ρ'}{D}(a:∀Q:Bool->En->Prop,Q false ρ'->c ρ Q)(h:K ρ' D):dO (xIf c G mI) K ρ D:=a _ h
def aQh{c:XC}{G:XS}{a ρ':En}{D:XD}(b:∀Q:Bool->En->Prop,Q false ρ'->c a Q)(h:D.nx ρ'):xIf c G mI a D:=b _ h
def ey_{c}{G K}{a ρ'}{D}(b:Bool)(e:∀Q:Bool->En->Prop,Q b ρ'->c a Q)(g:b=true->G ρ' { D with nx:=λa=>K a D })(f:b=false->K ρ' D):dO (xIf c G mI) K a D:=by
 refine e _ ?_;cases b with
 |true=>exact g rfl
 |false=>exact f rfl
def kK{c:Type}{a b:c}:[a,b].length<=1000000:=by show 2<=1000000;decide
def wG{l}{r}{Q}(a:0<=r)(b:r<l.length)(q:∀d∈l,Q<|.tr d):ixX (.lst l) (.int r) Q:=by obtain⟨x,e,c⟩:=u3 a b;show(match atI l r with | some d=>Q (.tr d) | none=>False);rw[e];exact q x<|aQ c
def wN{c}{G K}{ρ ρ'}{D}(b:Bool)(a:∀Q:Bool->En->Prop,Q b ρ'->c ρ Q)(f:b=true->G ρ' D)(e:b=false->K ρ' D):xIf c G K ρ D:=by
 refine a _ ?_;cases b with
 |true=>exact f rfl
 |false=>exact e rfl
def fU(x:Str):R8:=x.cps.toList
def du_(x:Str):x.length=(fU x).length:=by simp[fU,Str.length]
def ib_(x y:Str):fU (x++y)=fU x++fU y:=by show(x.cps++y.cps).toList=_;rw[Array.toList_append];rfl
def li_(c:Nat):fU #[[c].toArray]=[c]:=rfl
def aMe{k:Int}(a:0<=k)(b:k<=(fU x).length):fU (Txt.slice x none<|some k)=(fU x).take k.toNat:=by have e:=beq_iff_eq.mp<|PyProof.Rows.slice_closes_toL (x:=x) a (by rw[du_];exact b);rw[e];simp[fU]
def Low(l:R8):Prop:=∀c∈l,97<=c/\c<=122
def Nm(x:Str):Prop:=1<=(fU x).length/\(fU x).length<=8/\Low (fU x)
abbrev lets:Str:= "abcdefghijklmnopqrstuvwxyz"
def o7:fU lets=(List.range 26).map (97 + ·):=by decide +kernel
def aPp(a:0<=r)(b:r<26):atI lets.cps.toList r=some (97+r.toNat):=by
 have e:((r.toNat:Nat):Int)=r:=by omega
 have q:atI (fU lets) ((r.toNat:Nat):Int)=some (97+r.toNat):=dh_ (by rw[o7,bI,iF<|by omega];rfl);rw[e]at q;exact q
def aPr(x y:Str):(x++y).length=x.length+y.length:=by rw[du_,ib_,aI,du_ x,du_ y]
section
variable{n:Nat}
def aTl(h:n<=12):bnd n<2^150:=Int.lt_of_le_of_lt (ic_ h) `a
def aSq:∀{ks} {i:Nat} {k},okK ks->ks[i]? = some k->k.Ok/\k.deep<=dS ks
 | [],_,_,_,e=>by simp at e
 |k'::r,0,k,h,e=>by simp at e;subst e;exact#[h.1,fS _ _]
 |k'::r,i+1,k,h,e=>by obtain⟨a,b⟩:=aSq (i:=i) h.2 (by simpa using e);exact#[a,nzL b<|fG _ _]
def d_(h:okK ks)(a:dS ks<=n)(b:n<=12):∀r∈rmK ks,Bd (2^150) r:=λr c=>(bdK ks h r c).mono<|Int.le_of_lt<|aTl<|nzL a b
def bKz{k:Kd}(h:k.Ok)(a:k.deep<=n)(b:n<=12):Bd (2^150) k.rm:=(Kd.bd k h).mono<|Int.le_of_lt<|aTl<|nzL a b
def aAx:∀{fs:S6},okF fs->okK (fs.map (·.2))
 | [],_=>trivial
 |f::r,h=>#[h.1,aAx h.2]
def fu_:∀(fs:S6),dS (fs.map (·.2))=gE fs
 | []=>rfl
 |f::r=>by show max f.2.deep (dS (r.map (·.2)))=_;rw[fu_ r];rfl
def aAf:∀(fs:S6),rmK (fs.map (·.2))=rmF fs
 | []=>rfl
 |f::r=>by show f.2.rm::rmK (r.map (·.2))=_;rw[aAf r];rfl
end
mutual
def Kd.Full:Kd->Prop
 | .num _ _=>True
 | .row k _=>k.Full
 | .rcd fs=>fs≠[]/\aSw fs
 | .cho ks=>ks≠[]/\aSv ks
def aSw:S6->Prop
 | []=>True
 |f::r=>f.2.Full/\aSw r
def aSv:R6->Prop
 | []=>True
 |k::r=>k.Full/\aSv r
end
mutual
def Kd.Fit:Kd->Prop
 | .num w m=>1<=w/\w<=8/\(m=1\/m=2\/m=4\/m=8)
 | .row k n=>k.Fit/\1<=n/\n<=20
 | .rcd fs=>lA fs/\1<=fs.length/\fs.length<=8/\(fs.map (·.1)).Nodup
 | .cho ks=>jG ks/\1<=ks.length/\ks.length<=6
def lA:S6->Prop
 | []=>True
 |f::r=>(Nm f.1/\f.2.Fit)/\lA r
def jG:R6->Prop
 | []=>True
 |k::r=>k.Fit/\jG r
end
mutual
def Kd.Fit.ok:∀(k:Kd),k.Fit->k.Ok
 | .num w m,h=>by obtain⟨a,b,c⟩:=h;exact#[a,b,by lia,by lia]
 | .row k n,h=>#[Kd.Fit.ok k h.1,by have:=h.2.1;lia,by have:=h.2.2;lia]
 | .rcd fs,h=>#[nP fs h.1,by have:=h.2.2.1;lia]
 | .cho ks,h=>#[hc_ ks h.1,by have:=h.2.2;lia]
def nP:∀(fs:S6),lA fs->okF fs
 | [],_=>trivial
 |f::r,h=>#[Kd.Fit.ok f.2 h.1.2,nP r h.2]
def hc_:∀(ks:R6),jG ks->okK ks
 | [],_=>trivial
 |k::r,h=>#[Kd.Fit.ok k h.1,hc_ r h.2]
end
def tM:∀{ks} {k},jG ks->k.Fit->jG (ks++[k])
 | [],_,_,b=>#[b,trivial]
 |g::r,f,h,b=>#[h.1,tM h.2 b]
def qN:∀{ks} {k} {n},dS ks<=n->k.deep<=n->dS (ks++[k])<=n
 | [],f,n,_,b=>by show max f.deep 0<=n;omega
 |g::r,f,n,h,b=>by
  have a:max g.deep (dS r)<=n:=h;have:=qN (ks:=r) (k:=f) (n:=n) (by omega) b;show max g.deep (dS<|r++[f])<=n
  omega
def tk:Nat->Int
 | 0=>0
 |n+1=>3000+12*tk n
mutual
def Kd.x:Kd->Dx
 | .num w m=>.tup [.str "number",.int w,.int m]
 | .row k n=>.tup [.str "row",k.x,.int n]
 | .rcd fs=>.tup [.str "record",.lst<|xF fs]
 | .cho ks=>.tup [.str "choice",.lst<|xK ks]
def xF:S6->Q0
 | []=>[]
 |f::r=>.tup [.str f.1,f.2.x]::xF r
def xK:R6->Q0
 | []=>[]
 |k::r=>k.x::xK r
end
def gh_:∀fs:S6,xF fs=fs.map λf=>.tup [.str f.1,f.2.x]
 | []=>rfl
 |f::r=>by rw[xF,gh_ r];rfl
def f9:∀ks:R6,xK ks=ks.map Kd.x
 | []=>rfl
 |f::r=>by rw[xK,f9 r];rfl
def gA(l:Q0):Prop:=∃a:Q6,l=a.map Dx.int/\∀x∈a,0<=x
def gST:GC:=λa Q=>∃(c k:Int),a=[.int c,.int k]/\0<=k/\k<=300/\∀r:Int,0<=r->Q (.tr<|.int r)
def gDK:GC:=λa Q=>∃(c m:Int),a=[.int c,.int m]/\0<=m/\m<=300/\∀l:Q0,gA l->Q (.ol l)
def gNX:GB:=λl b Q=>b=[]/\gA l/\∀(r:Int) (a:Q0),0<=r->gA a->Q (.int r) a
section
variable{f:Addr}
def aXa(F:Fun K "_law_stir" "_law_stir" pE f fd):FnOk P w K mg base CX0 1 f fd ["cell","k"] (spX gST):=by
 refine jP F gt_ (λj=>(cG (gK gt_ 2<|qU (es_ (lS (lS (qU `e cZ)<|es_ cZ `k) cZ) cZ) cZ)
  (cG (gK gt_ 2<|qU (es_ (xv 2)<|xv 2) cZ)
  (cR<|eU<|mW (qU (es_ (lS (xv 2)<|es_ cZ `k) cZ) cZ) cZ)))) λi Q h=>?_
 obtain⟨c,k,rfl,l,m,q⟩:=h;refine#[rfl,?_];refine#[by show(0:Int)<2147483629;decide,#[by decide,by lia],#[by lia,by decide],by show(0:Int)<2147483647;decide,?_];have a:(0:Int)<=(c%2147483629+9973*k+5)*48271%2147483647:=bT _ `a;have b:(c%2147483629+9973*k+5)*48271%2147483647<2147483647:=bQ _ `a;dsimp only;generalize (c%2147483629+9973*k+5)*48271%2147483647=S at a b ⊢;have e:(0:Int)<=S*S%2147483587:=bT _ `a;have g:S*S%2147483587<2147483587:=bQ _ `a;refine#[`s,by show(0:Int)<2147483587;decide,?_];generalize S*S%2147483587=T at e g ⊢;refine#[#[by decide,by lia],#[by lia,by decide],by show(0:Int)<2147483563;decide,#[by decide,by decide],q _<|Int.ediv_nonneg (bT _ `a) `a]
def aYj(F:Fun K "_law_deck" "_law_deck" pG f fd)(p:Cal P w K mg base 1 "_law_stir" ["cell","k"] (spX gST))(B:Blt mg):FnOk P w K mg base CX0 2 f fd ["cell","many"] (spX gDK):=by
 refine jP F fY (λT=>(cG (gK fY 2<|mG kF)
  (cG (gK fY 3 `e)
  (cG (xO PassesOwn.never rfl (cf_ B.range<|eQ `k) (iK (i:=4) fY.nd rfl `l) (tZ (n:=99) (i:=4) `a) (cG (gK fY 5<|eJ p<|cQ `e (xv 4))
  (cG (iY (kT aSn aSl `e (aTp cZ cZ) (cP _)) (cR<|gK fY 5<|qU (xv 3) cZ) jH)
  (cG (gK fY 3<|mW (xv 3) cZ)
  (cR<|fb_ 2<|xv 5)))))
  (cR<|eU<|v4<|xv 2))))) λS Q h=>?_
 obtain⟨c,m,rfl,U,W,q⟩:=h;refine#[rfl,?_];have H:aMo 10 18:=#[by decide,by decide,by decide];refine#[bL _,?_];dsimp only;refine f8 ?_;refine lb_ rfl ?_;refine dd_ (λb=>∃(a:Q6) (D g j:Sl),(∀x∈a,0<=x)/\b=[vT<|.int c,vT<|.int m,.v<|.ol<|a.map Dx.int,D,g,j]) ?_<|λY G=>?_;rintro b ⟨a,D,g,j,e,rfl⟩;show Q (.ol (a.map Dx.int).reverse);rw[<-List.map_reverse];exact q _ #[a.reverse,rfl,λx I=>e x<|List.mem_reverse.mp I];refine#[`s,?_];refine xQ (λk:Nat=>Dx.int<|0+(k:Int)) (λrest b=>∃(a:Q6) (o:Int) (g j:Sl),a.length+rest.length<=300/\(∀x∈a,0<=x)/\(∀k∈rest,k<300)/\b=[vT<|.int c,vT<|.int m,.v<|.ol<|a.map Dx.int,vT<|.int o,g,j]) (λb h=>?_) (λk rest b O h s=>?_) #[[],c,.un,.un,by rw[bY,bE];lia,λx e=>absurd e bV,λk s=>by have:=eP.mp s;lia,rfl];obtain ⟨a,o,g,j,C,e,_,rfl⟩:=h;exact G _ #[a,_,_,_,e,rfl];obtain⟨a,o,g,j,C,e,v,rfl⟩:=h;have R:=v k aA;rw[aL]at C;have u:(a.map Dx.int).length<1000000:=by grind
 refine#[c,0+(k:Int),rfl,by lia,by lia,λr L=>?_];dsimp only;refine xZ (λb=>∃z:Int,0<=z/\b=[vT<|.int c,vT<|.int m,.v<|.ol<|a.map Dx.int,vT<|.int o,vT<|.int<|0+(k:Int),vT<|.int z]) ?_<|λN A=>?_;rintro b ⟨z,M,rfl⟩;refine#[by show aMp o 720720;exact#[by decide,by decide],?_];refine#[rfl,u,s _ #[a++[z],_,_,_,by rw[aI,jN];lia,λy l=>?_,λJ E=>v J<|aC _ E,by rw[aZ];rfl]];rcases aV.mp l with l | l
 exact e y l;rw[aE.mp l];exact M;refine#[H,?_];refine aPy (λh=>?_)<|λh=>A _ #[r,L,rfl];exact#[by show(0:Int)<720720;decide,A _ #[_,bT _ `a,rfl]]
def vR(F:Fun K "_law_next" "_law_next" fy_ f fd):FnOk P w K mg base CX0 1 f fd BF<|spB gNX:=by
 refine aQr F yM (λl j Q h=>by obtain⟨rfl,_⟩:=h;rfl) `a λp A c s H E o=>?_;have g:=gU<|rB o;refine#[_,(cG (iY (aNa K g (pv 0) (mG kF)<|cP _) (cR<|eU cZ) jH)
  (cR<|eU<|λF=>PE.weak (aJc PySem.F.plainAttrs_list PySem.F.slot_list_pop PySem.F.type_list_pop aYv<|pv 0) aUr)),λl j Q h=>?_]
 obtain⟨rfl,⟨a,rfl,b⟩,q⟩:=h;by_cases e:a=[];subst e;exact#[rfl,bL _,q 0 [] `a #[[],rfl,b]];have i:(a.map Dx.int).isEmpty=false:=by cases a <;> first | rfl | exact absurd rfl e
 refine kM (ρ':=[.bw<|a.map Dx.int]) (λQ q=>?_) ?_;refine #[rfl,bL _,?_];show Q (a.map Dx.int).isEmpty _;rw[i];exact q;show match (a.map Dx.int).getLast? with | some d=>_ | none=>False
 rw[List.getLast?_map,List.getLast?_eq_getLast e];exact q _ _ (b _<|List.getLast_mem e) #[a.dropLast,by rw[List.map_dropLast],λx m=>b x<|(List.dropLast_sublist a).subset m]
end
def bDn{r k:Int}(b:0<=r)(f:r<8)(k0:0<=k)(k1:k<26):Nm<|Txt.slice "placeof" none (some r)++(#[[97+k.toNat].toArray]:Str):=by
 have e:fU (Txt.slice "placeof" none<|some r)=(fU "placeof").take r.toNat:=aMe b (by show r<=7;exact Int.le_iff_lt_add_one.mpr f);unfold Nm;rw[ib_,e,li_];have g:((fU "placeof").take r.toNat).length<=7:=by rw[eI];show min _ 7<=7;exact Nat.min_le_right r.toNat 7
 refine#[by rw[aI];show 1<=_+1;exact iO 1 (List.take r.toNat<|fU<|Str.ofString "placeof").length,by rw[aI];show _+1<=8;exact Nat.succ_le_succ g,λc a=>?_];rcases aV.mp a with a | a
 have h:=List.mem_of_mem_take a;have:∀c∈fU "placeof",97<=c/\c<=122:=by decide
 exact this c h;rw[aE.mp a];lia
def aPs(h:a++(#[[x].toArray]:Str)=b++(#[[y].toArray]:Str)):x=y:=by have e:=congrArg fU h;rw[ib_,ib_,li_,li_]at e;have:=congrArg List.getLast? e;simpa using this
def u7:∀{xs:Q3} {ks},jG ks->(∀x∈xs,Nm x)->lA (xs.zip ks)
 | [],_,_,_=>trivial
 |_::_,[],_,_=>trivial
 |x::xs,k::ks,h,hn=>#[#[hn x aA,h.1],u7 h.2 λy a=>hn y<|aC _ a]
def xT:∀{xs:Q3} {ks},gE (xs.zip ks)<=dS ks
 | [],_=>bL _
 |_::_,[]=>bL _
 |x::xs,k::ks=>by have:=xT (xs:=xs) (ks:=ks);show max k.deep (gE<|xs.zip ks)<=max k.deep (dS ks);lia
def u6:∀{xs:Q3} {ks:R6},xs.length=ks.length->(xs.zip ks).map (·.1)=xs
 | [],_,_=>rfl
 |x::xs,[],h=>by simp at h
 |x::xs,k::ks,h=>by show x::(xs.zip ks).map _=_;rw[u6<|by simpa using h]
def u9:∀(xs:Q3) (ks:R6),jJ (xs.map Dx.str) (xK ks)=xF (xs.zip ks)
 | [],_=>rfl
 |_::_,[]=>rfl
 |x::xs,k::ks=>by show Dx.tup [.str x,k.x]::jJ (xs.map Dx.str) (xK ks)=_;rw[u9 xs ks];rfl
def aNo(ks:R6)(k:Kd):xK (ks++[k])=xK ks++[k.x]:=by rw[f9,f9,aZ];rfl
def gg_(ks:R6):(xK ks).length=ks.length:=by rw[f9,aB]
def jp_(fs:S6):(xF fs).length=fs.length:=by rw[gh_,aB]
def bFb(h:v∈[Dx.int 1,Dx.int 2,Dx.int 4,Dx.int 8]):∃z,v=.int z/\(z=1\/z=2\/z=4\/z=8):=by
 simp only[aF,bV,or_false]at h;rcases h with rfl | rfl | rfl | rfl
 exact#[_,rfl,Or.symm<|Or.inr rfl];exact#[_,rfl,by lia];exact#[_,rfl,by lia];exact#[_,rfl,by lia]
def bHx(h:v∈[Dx.int a,Dx.int b]):∃z,v=.int z/\(z=a\/z=b):=by grind
def gLN:GB:=λl c Q=>∃m:Int,c=[.int m]/\gA l/\0<=m/\m<=8/\∀(a:Q3) (b:Q0),(a.length:Int)=m->a.Nodup->(∀x∈a,Nm x)->gA b->Q (.lst<|a.map Dx.str) b
def gKN(n:Nat):GB:=λl c Q=>∃d:Int,c=[.int d]/\gA l/\1<=d/\d<=n/\n<=5/\∀(a:Kd) (b:Q0),a.Fit->(a.deep:Int)<=d->gA b->Q a.x b
section
variable{f:Addr}{n j:Nat}
def aXs(F:Fun K "_law_names" "_law_names" gw_ f fd)(T:Cal P w K mg base 1 "_law_next" BF<|spB gNX)(B:Blt mg):FnOk P w K mg base CX0 2 f fd ["deck","many"] (spB gLN):=by
 refine aQr F gS (λl ds Q h=>by obtain⟨m,rfl,_⟩:=h;rfl) `a λAj A M s H E hr=>?_;refine#[_,(cG (gK gS 2<|nQ 0 T kF)
  (cG (gK gS 3<|mG kF)
  (cG (xO PassesOwn.never rfl (cf_ B.range<|eQ `k) (iK (i:=4) gS.nd rfl `l) (tZ (n:=99) (i:=4) `a) (cG (gK gS 5<|mO K lB<|qU (lS (xv 2)<|xv 4) cZ)
  (cR<|fb_ 3<|lS (aGh K lB mU<|id_<|qU (nQ 0 T kF) cZ)<|xv 5)))
  (cR<|eU<|dp_<|pv 3)))),λl ds Q h=>?_]
 obtain⟨m,rfl,hl,m0,m1,q⟩:=h;refine#[rfl,rfl,hl,λu l1 a0 V=>?_];dsimp only;refine#[bL _,?_];dsimp only;refine#[`s,?_];refine xQ (λk:Nat=>Dx.int<|0+(k:Int)) (λrest R=>∃(g:Q3) (y:Q0) (N O:Sl),rest=(List.range m.toNat).drop g.length/\g.length<=m.toNat/\(∀(j:Nat) (x:Str),g[j]? = some x->∃a:Str,x=a++(#[[97+((u+(0+(j:Int)))%26).toNat].toArray]:Str))/\(∀x∈g,Nm x)/\gA y/\R=[.bw y,.v<|.tr<|.int m,.v<|.tr<|.int u,.v<|.ol<|g.map Dx.str,N,O]) (λR h=>?_) (λk rest R Kn h hk=>?_) #[[],l1,.un,.un,rfl,bL _,(λj x h=>by simp at h),(λx p=>nomatch p),V,rfl];obtain ⟨g,y,N,O,e,Cf,C,I,G,rfl⟩:=h;have Af:g.length=m.toNat:=by have:=congrArg List.length e;rw[bE,gG,bY]at this;lia
 refine q g y `b ?_ I G;rw[List.nodup_iff_pairwise_ne,List.pairwise_iff_getElem];intro i j v o Bq U;obtain⟨a,ha⟩:=C i _<|aJ v;obtain⟨b,hb⟩:=C j _<|aJ o;rw[ha,hb]at U;have:=aPs U;lia;obtain ⟨g,y,N,O,e,Cf,C,I,G,rfl⟩:=h;have S:g.length<m.toNat/\k=g.length/\rest=(List.range m.toNat).drop (g.length+1):=by
  have D:(k::rest)[0]? = ((List.range m.toNat).drop g.length)[0]?:=by rw[e]
  rw[List.getElem?_drop,List.getElem?_cons_zero]at D;have v:=(aK.mp D.symm).1;rw[bY,Nat.add_zero]at v;rw[Nat.add_zero,iF v]at D;have W:=congrArg List.tail e;rw[List.tail_drop]at W;exact#[v,ozI D,W]
 obtain⟨S,rfl,e9⟩:=S;have Y:(0:Int)<=(u+(0+(g.length:Int)))%26:=bT _ `a;have Z:(u+(0+(g.length:Int)))%26<26:=bQ _ `a;refine#[by show(0:Int)<26;decide,?_];show lets.length<=1000000/\match atI lets.cps.toList ((u+(0+(g.length:Int)))%26)with | some c=>_ | none=>False
 rw[aPp Y Z];refine#[by decide,?_];dsimp only;refine#[rfl,rfl,rfl,G,λr l2 r0 t=>?_];have w0:(0:Int)<=r%8:=bT _ `a;have w1:r%8<8:=bQ _ `a;have z:=bDn w0 w1 Y Z;refine#[by show(0:Int)<8;decide,by show(Str.ofString "placeof").length<=1000000;decide,?_,?_];have d:=z.2.1;rw[<-du_,aPr]at d;exact nzL d `a;refine #[by rw [aB]; lia,hk _ #[g ++ [Txt.slice "placeof" none (some<|r % 8) ++ (#[[97 + ((u + (0 + (g.length:Int))) % 26).toNat].toArray] : Str)],l2,_,_,by rw [aI]; exact e9,by rw [aI]; show g.length + 1≤_; lia,fun j x o => ?_,fun x p => ?_,t,by rw [aZ]; rfl]];by_cases L:j < g.length;rw[cX L]at o;exact C j x o;have J:j=g.length:=by have:=(aK.mp o).1;rw[aI]at this;simp at this;lia
 subst J;rw[bW<|aO _,iA]at o;cases o;exact`r;rcases aV.mp p with p | p
 exact I x p;rw[aE.mp p];exact z
end
section
variable{f:Addr}{n j:Nat}
def aXv(F:Fun K "_law_kind" "_law_kind" ij_ f fd)(b:Cal P w K mg base 1 "_law_next" BF<|spB gNX)(D:Cal P w K mg base 2 "_law_names" ["deck","many"] (spB gLN))(Z:Cal P w K mg base (j+2) "_law_kind" BE<|spB<|gKN n)(B:Blt mg):FnOk P w K mg base CX0 (j+3) f fd BE<|spB<|gKN<|n+1:=by
 refine aQr F gu_ (λl ds Q h=>by obtain⟨d,rfl,_⟩:=h;rfl) `a λAj A U s H E hr=>?_;refine#[_,(cG (gK gu_ 2<|qU (nQ 0 b kF) cZ)
  (cG (iY (XW.pt<|xN (kT kl_ kj_ `k cZ (cP _))<|xP<|kT kl_ kj_ (xv 2) cZ<|cP _) (cR<|eU<|jQ<|iW lB<|cQ (lS cZ<|qU (nQ 0 b kF) cZ)<|mO K (mG<|iW cZ<|iW cZ<|cQ cZ cZ)<|qU (nQ 0 b kF) cZ) jH)
  (cG (iY (kT kl_ kj_ (xv 2) cZ<|cP _) (cR<|eU<|jQ<|iW lB<|cQ (nQ 0 Z<|eQ<|fc_ `k cZ)<|lS cZ<|qU (nQ 0 b kF)<|mO K (mG<|cQ cZ cZ)<|qU (nQ 0 b kF) cZ) jH)
  (cG (xU gu_ 3 [0,1] (cf_ B.range<|eQ<|lS cZ<|qU (nQ 0 b kF) cZ) kU (nQ 1 Z<|eQ<|fc_ (xv 2) cZ))
  (cG (iY (kT kl_ kj_ (xv 2) cZ<|cP _) (cR<|eU<|jQ<|cQ lB<|i5 rfl `t B.list `t B.zip (cQ (nQ 0 D<|eQ<|tS<|xv 3)<|xv 3)) jH)
  (cR<|eU<|jQ<|cQ lB<|xv 3)))))),λl ds Q h=>?_]
 obtain⟨d,rfl,hl,d1,dn,n5,q⟩:=h;refine#[rfl,rfl,hl,λw0 S a1 C=>?_];refine#[by show(0:Int)<8;decide,?_];have i:(0:Int)<=w0%8:=bT _ `a;have o:w0%8<8:=bQ _ `a;dsimp only;generalize w0%8=way at i o ⊢;change dO _ _ [.bw S,vT<|.int d,vT<|.int way,.un] _;refine ey_ (decide (d<2)||decide (way<3)) (ρ':=[.bw S,vT<|.int d,vT<|.int way,.un]) (λQ q=>?_) (λe=>?_)<|λe=>?_;refine aPy (fun h => ?_)<|fun h => ?_;have M:decide (d < 2)=true:=h;rw[M,Bool.true_or]at q;exact q;have M:decide (d < 2)=false:=Bool.not_eq_true _ ▸ h;rw[M,Bool.false_or]at q;exact q;refine #[rfl,rfl,C,fun r T r0 g=>#[by show (0:Int) < 8; decide,?_]];have r1:(0:Int)<=r%8:=bT _ `a;have r2:r%8<8:=bQ _ `a;refine#[(by show 4<=1000000;decide),rfl,rfl,g,λr' V W I=>#[by show(0:Int)<4;decide,?_]];refine wG (bT _ `a) (bQ _ `a) λv hv=>?_;obtain⟨m,rfl,hm⟩:=bFb hv;exact#[(by show 3<=1000000;decide),q (.num (1+r%8) m) V #[by lia,by lia,hm] (by show((1:Nat):Int)<=d;lia) I];have Fq:2<=d:=by rw[Bool.or_eq_false_iff]at e;have:=of_decide_eq_false e.1;lia
 refine ey_ (decide (way<5)) (ρ':=[.bw S,vT<|.int d,vT<|.int way,.un]) (λQ q=>q) (λe=>?_)<|λPj=>?_;refine #[rfl,d - 1,rfl,C,by lia,by lia,by lia,fun u T c G g => ?_];refine#[rfl,rfl,g,λr V r0 I=>#[kK,rfl,rfl,I,λr' l4 W J1=>#[by show(0:Int)<2;decide,?_]]];refine wG (bT _ `a) (bQ _ `a) λv hv=>?_;obtain⟨z,rfl,hz⟩:=bHx hv;have t:0<z:=by lia
 have m0:=bT r (show z≠0 by lia);have m1:=bQ r t;refine#[t,(by show 3<=1000000;decide),q (.row u<|1+r%z) l4 #[c,by lia,by lia] ?_ J1];show((u.deep+1:Nat):Int)<=d;lia;refine#[rfl,rfl,C,λr T r0 g=>#[by show(0:Int)<4;decide,?_]];have m0:(0:Int)<=r%4:=bT _ `a;have m1:r%4<4:=bQ _ `a;have a0:d-1=((d-1).toNat:Int):=by lia
 refine#[`s,by show((List.range _).map _).length<=_;rw[aB,bY];lia,?_];refine db_ (λk:Nat=>Dx.int<|0+(k:Int)) (λrest y J=>∃(ks:R6) (a:Q0),ks.length+rest.length=(1+r%4).toNat/\y=xK ks/\J=[.bw a,vT<|.int d]/\jG ks/\dS ks<=(d-1).toNat/\gA a) (λy J h=>?_) (λnm rest y J Pn h hk=>?_) #[[],T,by rw[bY];simp,rfl,rfl,trivial,bL _,g]
 rotate_left
 obtain ⟨ks,a,L,rfl,rfl,c,G,p⟩:=h;rw[aL]at L;exact#[rfl,d-1,rfl,p,by lia,by lia,by lia,λu l6 N x Im=>hk _ _ #[ks++[u],l6,by rw[aI];show ks.length+1+_=_;lia,by rw[aNo];rfl,rfl,tM c N,qN G `b,Im]];obtain⟨ks,a,L,rfl,rfl,c,G,p⟩:=h;rw[bE]at L;dsimp only;change dO _ _ [.bw a,vT<|.int d,vT<|.int way,.v<|.ol<|xK ks] _;refine ey_ (decide (way<7)) (ρ':=[.bw a,vT<|.int d,vT<|.int way,.v<|.ol<|xK ks]) (λQ q=>q) (λe=>?_)<|λe=>?_;refine #[rfl,((xK ks).length:Int),rfl,p,by lia,by rw [gg_]; lia,fun xs l7 R Bh Jv O => ?_];have Y:xs.length=ks.length:=by rw[gg_]at R;lia
 show _/\_;rw[u9];refine#[by rw[aB,gg_];exact Y,kK,?_];refine q (.rcd<|xs.zip ks) l7 #[u7 c Jv,?_,?_,?_] ?_ O;rw[dU];lia;rw[dU];lia;rw[u6 Y];exact Bh;have:=xT (xs:=xs) (ks:=ks);show((gE (xs.zip ks)+1:Nat):Int)<=d;lia;refine #[kK,q (.cho ks) a #[c,by lia,by lia] ?_ p];show((dS ks+1:Nat):Int)<=d;lia
end
def gUP:GC:=λa Q=>∃n m:Int,a=[.int n,.int m]/\0<=n/\n<2^60/\0<m/\m<=8/\Q (.tr<|.int<|up n m)
def rb:Nat->Int
 | 0=>8
 |n+1=>1000*rb n
def aIa:∀n,8<=rb n
 | 0=>by decide
 |n+1=>by have:=aIa n;show 8<=1000*rb n;lia
def bCr:∀{n},n<=4->rb n<2^50:=by
 intro n h;have:n=0\/n=1\/n=2\/n=3\/n=4:=by lia
 rcases this with rfl | rfl | rfl | rfl | rfl<;>decide
def wM{l}{i j:Nat}{d}{ρ}{Q}(a:ρ[i]? = some (vT<|.tup l))(h:l[j]? = some d)(q:Q (.tr d) ρ):xOp ixX (dC i) (xC<|.int (j:Int)) ρ Q:=by
 have e:ρ.set i (vT<|.tup l)=ρ:=by obtain⟨c,b⟩:=aK.mp a;rw[<-b,List.set_getElem_self]
 unfold xOp dC xC;rw[a];show ixX (.tup l) (.int (j:Int)) λs=>Q s<|ρ.set i<|vT<|.tup l;rw[e];show(match atI l (j:Int)with | some d=>Q (.tr d) ρ | none=>False);rw[dh_ h];exact q
abbrev rmD(r:Int×Int):Dx:=.tup [.int r.1,.int r.2]
def gRM(n:Nat):GC:=λc Q=>∃k:Kd,c=[k.x]/\k.Fit/\k.deep<=n/\n<=5/\∀a b:Int,0<=a->a<=rb n->1<=b->b<=8->Q (.tr<|.tup [.int a,.int b])
def gBD:GB:=λl c Q=>c=[.int 3,.int 24]/\gA l/\∀(a:Kd) (b:Q0),a.Fit->a.deep<=3->gA b->Q a.x b
def hw_:∀{ks} {k},jG ks->k∈ks->k.Fit/\k.deep<=dS ks
 | [],_,_,h=>by simp at h
 |k'::r,k,hf,h=>by
  rcases aF.mp h with rfl | h
  exact#[hf.1,fS _ _];obtain ⟨a,b⟩:=hw_ hf.2 h;exact#[a,nzL b<|fG _ _]
def jn_:∀{fs:S6},lA fs->jG (fs.map (·.2))
 | [],_=>trivial
 |f::r,h=>#[h.1.2,jn_ h.2]
def aLo(h:lA fs)(a:f∈fs):f.2.Fit/\f.2.deep<=gE fs:=by have:=hw_ (jn_ h)<|List.mem_map_of_mem a;rw[fu_]at this;exact this
section
variable{f:Addr}{n j:Nat}
def aWy(F:Fun K "_law_up" "_law_up" pD f fd):FnOk P w K mg base CX0 1 f fd AC<|spX gUP:=by refine jP F aDq (λo=>(cR<|eU<|es_ (mW (fc_ (lS `e `k) cZ) `k) `k)) λb Q h=>?_;obtain⟨n,m,rfl,c,e,a,g,q⟩:=h;refine#[rfl,?_];have i:(n+m-1)/m<=n+m-1:=Int.ediv_le_self _ `b;have l:0<=(n+m-1)/m:=Int.ediv_nonneg `b (Int.le_of_lt a);exact#[#[a,by lia],`s,q]
def aXg(F:Fun K "_law_room" "_law_room" fx_ f fd)(Ll:Cal P w K mg base (j+1) "_law_room" AX<|spX<|gRM n)(Lk:Cal P w K mg base 1 "_law_up" AC<|spX gUP)(B:Blt mg):FnOk P w K mg base CX0 (j+2) f fd AX<|spX<|gRM<|n+1:=by
 refine aEz F cU (λds Q h=>by obtain⟨_,rfl,_⟩:=h;rfl) `a λAj A a4 s H E S=>?_;refine#[_,(cG (iY (kI `j lB) (cR<|eU<|jQ<|cQ `j `j) jH)
  (cG (iY (kI `j lB) (cG (uL (fs_ (n:=99) (is:=[1,2]) rfl `a) λF=>kf_ (XE.at (Ex:=cY) F (eJ Ll<|eQ `j))<|hq_ rfl<|lD (iK (i:=1) cU.nd rfl `l)<|lD (iK (i:=2) cU.nd rfl `l) cv_)
  (cR<|eU<|jQ<|cQ (es_ `j (eJ Lk<|cQ `k (xv 2)))<|xv 2)) jH)
  (cG (gK cU 3 `j)
  (cG (iY (kI `j lB) (cR (o_ λF=>PS.weak (gz_ (i:=3) cU.nd rfl rfl (dsc:=aP fx_) (N:=["kind","room","m","parts","sizes","end","other"]) (tgs:=["name","part"]) (outs:=[]) (N':=["name","part"]) (by refine#[rfl,?_,?_,?_,rfl,?_,?_,?_]<;>decide +kernel) (XIt.at (Ex:=cY) F (jL `j)) (λ_ _ _ _ _=>(kh_ K (n:=2) rfl rfl<|lD (iK (i:=0) (show(["name","part"]:Q3).Nodup by decide +kernel) rfl `l (.inr rfl))<|lD (iK (i:=1) (show(["name","part"]:Q3).Nodup by decide +kernel) rfl `l (.inr rfl)) cv_)) (ie_<|t9 `a (t9 `a fw_ t_) (bm_ t_)) (λa b c d e=>XCs.at (Ex:=cY) F kU) (λa b c d e=>XE.at (Ex:=cY) F `k))<|lW (fs_ (n:=2) (is:=[0,1]) rfl `a) `a)) jH)
  (cG (xU cU 4 [] (jL<|xv 3) kU (eJ Ll<|eQ `e))
  (cG (gK cU 2<|d4 (tW K `t) aCq `t B.max mE (eQ<|lQ cU [] (jL<|xv 4) kU `j))
  (cG (iY (kI `j lB) (cR<|eU<|jQ<|cQ (eJ Lk<|cQ (lS (xv 2)<|d4 (tW K `t) aCq `t B.max mE (eQ<|lQ cU [] (jL<|xv 4) kU `j))<|xv 2)<|xv 2) jH)
  (cG (gK cU 5 cZ)
  (cG (xO PassesOwn.never rfl (jL<|xv 4) (hq_ rfl<|lD (iK (i:=1) cU.nd rfl `l)<|lD (iK (i:=6) cU.nd rfl `l) cv_) (fs_ (n:=99) (is:=[1,6]) rfl `a)<|cR<|gK cU 5<|lS (eJ Lk<|cQ (xv 5)<|xv 6) `k)
  (cR<|eU<|jQ<|cQ (eJ Lk<|cQ (xv 5)<|xv 2)<|xv 2)))))))))),λds Q h=>?_]
 obtain⟨k,rfl,D,hd,O2,q⟩:=h;have hp:=aIa n;have hl:=bCr (n:=n) `b;have y:rb (n+1)=1000*rb n:=rfl;rw[y]at q;have C:∀(u:R6) (P:Q0->Q9->Prop) (cs:Q9),jG u->dS u<=n->(∀o:Q4,o.length=u.length->(∀r∈o,0<=r.1/\r.1<=rb n/\1<=r.2/\r.2<=8)->P (o.map rmD) cs)->cB 1 (gxN 0) aNk (gD (gRM n)<|cH (dC 0) eZ) P (xK u) cs []:=λu P cs D a5 k=>by
  rw[f9];refine db_ Kd.x (λrest I J=>J=cs/\∃(o:Q4) (g:R6),u=g++rest/\o.length=g.length/\I=o.map rmD/\∀r∈o,0<=r.1/\r.1<=rb n/\1<=r.2/\r.2<=8) (λI J h=>?_) (λkd rest I J Pn h hk=>?_) #[rfl,[],[],rfl,rfl,rfl,λr S=>nomatch S];obtain ⟨rfl,o,g,y,Z,rfl,S⟩:=h;rw[aU]at y;exact k o (by rw[Z,y]) S;obtain ⟨rfl,o,g,y,Z,rfl,S⟩:=h;obtain⟨f1,f2⟩:=hw_ D (show kd∈u by rw[y];exact aG _ aA);refine#[kd,rfl,f1,by lia,by lia,λa b a0 a1 b0 b1=>hk _ _ #[rfl,o++[(a,b)],g++[kd],by rw[y,bK];rfl,by rw[aI,aI,Z];rfl,by rw[aZ];rfl,λr R=>?_]];rcases aV.mp R with R | R
  exact S r R;rw[aE.mp R];exact#[a0,a1,b0,b1]
 cases k with
 |num v m => simp only[Kd.Fit]at D;exact#[kK,q v m `b `b `b `b]
 |row k m => simp only[Kd.Fit]at D;simp only[Kd.deep]at hd;refine#[k,rfl,D.1,by lia,by lia,λa b a0 a1 b0 b1=>?_];obtain⟨u1,u2⟩:=rC (n:=a) (m:=b) `b;refine#[a,b,rfl,by lia,by lia,by lia,b1,?_];have R:m*up a b<=20*(rb n+8):=Int.mul_le_mul `b `b `b `b;have a3:0<=m*up a b:=Int.mul_nonneg `b `b;exact#[`s,kK,q _ _ a3 `b b0 b1]
 |cho u =>
  simp only[Kd.Fit]at D;simp only[Kd.deep]at hd;refine kM (ρ':=[vT (Kd.cho u).x,.un,.un,.un,.un,.un,.un]) (λQ q=>q) ?_;refine kM (ρ':=[vT (Kd.cho u).x,.un,.un,.un,.un,.un,.un]) (λQ q=>q) ?_;refine f8 ?_;refine wM (l:=[.str "choice",.lst<|xK u]) (i:=0) (j:=1) rfl rfl ?_;refine kM (ρ':=[vT (Kd.cho u).x,.un,.un,vT<|.lst<|xK u,.un,.un,.un]) (λQ q=>q) ?_;refine#[show(xK u).length<=1000000 by rw[gg_];lia,?_];refine C u _ _ D.1 `b λo Av U=>?_;have V:o≠[]:=λe=>by rw[e,bE]at Av;lia
  refine#[by show(o.map _).length<=1000000;rw[aB];lia,show cB _ _ _ _ _ (o.map rmD) _ _ from ?_];refine lR rmD (λr=>.int r.2) (λr _ I P p=>p) ?_;refine#[o.map (·.2),by rw[bH];rfl,λz=>V<|gC.mp z,λM t _=>?_];obtain⟨r,L8,rfl⟩:=aY.mp t;obtain⟨c0,c1,c2,W⟩:=U r L8;refine#[by show(o.map _).length<=1000000;rw[aB];lia,show cB _ _ _ _ _ (o.map rmD) _ _ from ?_];refine lR rmD (λr=>.int r.1) (λr _ I P p=>p) ?_;refine#[o.map (·.1),by rw[bH];rfl,λz=>V<|gC.mp z,λM t Jx=>?_];obtain⟨r',Jl,rfl⟩:=aY.mp t;obtain⟨d0,d1,d2,d3⟩:=U r' Jl;obtain⟨v1,v2⟩:=rC (n:=r.2+r'.1) (m:=r.2) `b;exact#[r.2+r'.1,r.2,rfl,by lia,by lia,by lia,W,kK,q _ r.2 `b `b c2 W]
 |rcd fs =>
  simp only[Kd.Fit]at D;simp only[Kd.deep]at hd;obtain⟨u,K6⟩:∃u,u=fs.map (λx:Str×Kd=>x.2):=`r;have Iz:dS u=gE fs:=by rw[K6];exact fu_ fs
  have a2:jG u:=by rw[K6];exact jn_ D.1
  have Hb:u.length=fs.length:=by rw[K6,aB]
  refine kM (ρ':=[vT (Kd.rcd fs).x,.un,.un,.un,.un,.un,.un]) (λQ q=>q) ?_;refine kM (ρ':=[vT (Kd.rcd fs).x,.un,.un,.un,.un,.un,.un]) (λQ q=>q) ?_;refine f8 ?_;refine wM (l:=[.str "record",.lst<|xF fs]) (i:=0) (j:=1) rfl rfl ?_;refine xZ (λG=>G=[vT (Kd.rcd fs).x,.un,.un,.v<|.ol<|xK u,.un,.un,.un]) ?_<|λD' hD=>?_;rintro G rfl;refine#[show(xK u).length<=1000000 by rw[gg_];lia,?_];refine C u _ _ a2 `b λo Av U=>?_;have V:o≠[]:=λe=>by rw[e,bE]at Av;lia
  refine#[by show(o.map _).length<=1000000;rw[aB];lia,show cB _ _ _ _ _ (o.map rmD) _ _ from ?_];refine lR rmD (λr=>.int r.2) (λr _ I P p=>p) ?_;refine#[o.map (·.2),by rw[bH];rfl,λz=>V<|gC.mp z,λM t _=>?_];obtain⟨r,L8,rfl⟩:=aY.mp t;obtain⟨c0,c1,c2,W⟩:=U r L8;dsimp only;change dO _ _ [vT (Kd.rcd fs).x,.un,vT<|.int r.2,vT<|.lst<|xK u,vT<|.lst<|o.map rmD,.un,.un] _;refine kM (ρ':=[vT (Kd.rcd fs).x,.un,vT<|.int r.2,vT<|.lst<|xK u,vT<|.lst<|o.map rmD,.un,.un]) (λQ q=>q) ?_;refine f8<|it_ ?_;refine dd_ (λG=>∃(e:Int) (L O:Sl),0<=e/\e<=8*(rb n+8)/\G=[vT (Kd.rcd fs).x,L,vT<|.int r.2,vT<|.lst<|xK u,vT<|.lst<|o.map rmD,vT<|.int e,O]) ?_<|λnx C8=>?_;rintro G ⟨e,L,O,Y,y,rfl⟩;obtain⟨v1,v2⟩:=rC (n:=e) (m:=r.2) `b;exact#[e,r.2,rfl,Y,by lia,by lia,W,kK,q _ r.2 `b `b c2 W];show hU _ _ _ (o.map rmD) _;refine xQ rmD (λrest G=>∃(g:Q4) (e:Int) (L O:Sl),o=g++rest/\0<=e/\e<=g.length*(rb n+8)/\G=[vT (Kd.rcd fs).x,L,vT<|.int r.2,vT<|.lst<|xK u,vT<|.lst<|o.map rmD,vT<|.int e,O]) (λG h=>?_) (λT rest G Kn h hk=>?_) #[[],0,.un,.un,rfl,by decide,by simp,rfl];obtain ⟨g,e,L,O,y,Y,Z,rfl⟩:=h;refine C8 _ #[e,L,O,Y,?_,rfl];rw[aU]at y;have Fp:(g.length:Int)<=8:=by rw[<-y];lia
  have:=cD Fp (show 0<=rb n+8 by lia);lia;obtain ⟨g,e,L,O,y,Y,Z,rfl⟩:=h;obtain⟨d0,d1,d2,d3⟩:=U T (by rw[y];exact aG _ aA);have Fp:(g.length:Int)<=8:=by have:=congrArg List.length y;rw[aI,aL]at this;lia
  have h8:=cD Fp (show 0<=rb n+8 by lia);obtain⟨v1,v2⟩:=rC (n:=e) (m:=T.2) `b;refine#[e,T.2,rfl,Y,by lia,by lia,d3,hk _ #[g++[T],_,_,_,by rw[y,bK];rfl,by lia,?_,rfl]];rw[aI,jN,Int.natCast_add,Int.add_mul];show up e T.2+T.1<=_+1*(rb n+8);lia;refine #[show (xF fs).length≤1000000 by rw [jp_]; lia,show cB _ _ _ _ _ (xF fs) _ _ from ?_];rw[gh_];refine lR (λf:Str×Kd=>Dx.tup [.str f.1,f.2.x]) (λf=>f.2.x) (λf _ I P p=>p) ?_;refine hD _ ?_;rw[K6,f9,bH,bU];rfl
def aYr(F:Fun K "_law_bounded" "_law_bounded" ho_ f fd)(u:Cal P w K mg base 1 "_law_next" BF<|spB gNX)(y:Cal P w K mg base (j+1) "_law_kind" BE<|spB<|gKN 3)(v:Cal P w K mg base (j+1) "_law_room" AX<|spX<|gRM 3):FnOk P w K mg base CX0 (j+2) f fd AT<|spB gBD:=by
 refine aQr F gl_ (λl z Q h=>by obtain⟨rfl,_⟩:=h;rfl) `a λI A e s H E J=>?_;refine#[_,(cG (gK gl_ 3<|nQ 0 y<|eQ `k)
  (cG (iY (kT aAv aAs (dH K<|eJ v<|eQ<|xv 3) (xv 2)<|cP _) (cR<|eU<|jQ<|iW lB<|cQ (lS cZ<|qU (nQ 0 u kF) cZ) cZ) jH)
  (cR<|eU<|dp_<|pv 3))),λl z Q h=>?_]
 obtain⟨rfl,B,q⟩:=h;refine#[rfl,3,rfl,B,by decide,by decide,by decide,λo C i m g=>?_];refine#[o,rfl,i,Int.ofNat_le.mp m,by decide,λa b _ _ _ _=>?_];refine aPy (λc=>?_)<|λc=>q o C i (Int.ofNat_le.mp m) g;refine#[rfl,rfl,g,λr D L p=>#[by show(0:Int)<8;decide,?_]];have G:(0:Int)<=r%8:=bT _ `a;exact#[(by show 3<=1000000;decide),q (.num (1+r%8) 8) D #[Int.le_add_of_nonneg_right G,by lia,by lia] (by show 1<=3;decide) p]
end
mutual
def Dx.deep:Dx->Nat
 | .tup l=>eM l+1
 | .lst l=>eM l+1
 | .dic l=>wU l+1
 |_=>1
def eM:Q0->Nat
 | []=>0
 |d::r=>max d.deep<|eM r
def wU:S8->Nat
 | []=>0
 |k::r=>max k.2.deep<|wU r
end
mutual
def Dx.Sz:Dx->Prop
 | .tup l=>l.length<=100000/\szX l
 | .lst l=>l.length<=100000/\szX l
 | .dic l=>l.length<=100000/\(l.map (·.1)).Nodup/\aNu l
 | .str x=>x.length<=100000
 | .scr _ _=>False
 | .ins _ _=>False
 | .exc _=>False
 | .dqt _ _=>False
 |_=>True
def szX:Q0->Prop
 | []=>True
 |d::r=>d.Sz/\szX r
def aNu:S8->Prop
 | []=>True
 |k::r=>k.2.Sz/\aNu r
end
def le_:∀{l} {d},d∈l->d.deep<=eM l
 |e::r,d,h=>by
  rcases aF.mp h with rfl | h
  exact fS _ _;exact nzL (le_ h)<|fG _ _
def qM:∀{l} {p},p∈l->p.2.deep<=wU l
 |e::r,d,h=>by
  rcases aF.mp h with rfl | h
  exact fS _ _;exact nzL (qM h)<|fG _ _
def uR:∀{l} {d},szX l->d∈l->d.Sz
 |e::r,d,hs,h=>by
  rcases aF.mp h with rfl | h
  exact hs.1;exact uR hs.2 h
def yH:∀{l} {p},aNu l->p∈l->p.2.Sz
 |e::r,d,hs,h=>by
  rcases aF.mp h with rfl | h
  exact hs.1;exact yH hs.2 h
def Dx.own:Dx->Sv
 | .lst l=>.ol l
 | .dic l=>.od l
 |d=>.tr d
def yY(d:Dx):d.own.d=d:=by cases d<;>rfl
def gCO(n:Nat):GC:=λa Q=>∃d,a=[d]/\d.Sz/\d.deep<=n/\Q d.own
def aBg{a b:Type}{f:a->b}:∀(l:List a),(l.map λd=>[f d]).flatten=l.map f
 | []=>rfl
 |d::l=>by simp[aBg l]
def aCg(l:Q0):[]++(l.map λd=>[d]).flatten=l:=by simp[aBg]
def aIh(h:k∉l.map (·.1)):aIi l k d=l++[(k,d)]:=by
 unfold aIi;have:(l.any λa=>decide (a.1=k))=false:=by grind
 rw[this,if_neg bJ]
def nO:∀{l:S8} {p:Key×Dx},(l.map (·.1)).Nodup->p∈l->fR l p.1=some p.2
 |q::l,p,hn,h=>by
  unfold fR;rw[dW];have b:=bR.mp hn;rcases aF.mp h with rfl | h
  rw[dzT rfl];rfl;have a:¬ q.1=p.1:=by grind
  rw[dzF a];exact nO b.2 h
def aKp(k:Key):wE (kZ k)=some k:=by cases k<;>rfl
mutual
def Kd.vx:Kd->Vd->Dx
 | .num _ _,.num n=>.int n
 | .row k _,.row vs=>.lst (vs.map k.vx)
 | .rcd fs,.rcd vs=>.dic (vxF fs vs)
 | .cho ks,.cho j v=>.tup [.int (j:Int),vxK ks j v]
 |_,_=>.non
def vxF:S6->List Vd->S8
 |f::r,v::vs=>(Sum.inr f.1,f.2.vx v)::vxF r vs
 |_,_=>[]
def vxK:R6->Nat->Vd->Dx
 | [],_,_=>.non
 |k::_,0,v=>k.vx v
 |_::r,j+1,v=>vxK r j v
end
def yA:∀{fs:S6} {vs:List Vd} {f:Str×Kd} {v:Vd},vs.length=fs.length->vxF (fs++[f]) (vs++[v])=vxF fs vs++[(Sum.inr f.1,f.2.vx v)]
 | [],[],f,v,_=>by simp[vxF]
 | [],_::_,_,_,h=>by simp at h
 |_::_,[],_,_,h=>by simp at h
 |g::r,u::vs,f,v,h=>by simp only[dJ,vxF];rw[yA<|by simpa using h]
def hf_:∀{fs:S6} {vs:List Vd},vs.length=fs.length->(vxF fs vs).map (·.1)=fs.map λf=>(Sum.inr f.1:Key)
 | [],[],_=>by simp[vxF]
 | [],_::_,h=>by simp at h
 |_::_,[],h=>by simp at h
 |g::r,u::vs,h=>by simp only[vxF,bG];rw[hf_<|by simpa using h]
def uO:∀{ks} {j} {k},ks[j]? = some k->vxK ks j v=k.vx v
 | [],_,_,e=>by simp at e
 |k'::r,0,k,e=>by simp at e;subst e;simp only[vxK]
 |k'::r,j+1,k,e=>by simp only[vxK];exact uO (j:=j)<|by simpa using e
def fh_:∀{fs} {vs},jD fs vs->vs.length=fs.length
 | [],[],_=>rfl
 | [],_::_,h=>by simp[jD]at h
 |_::_,[],h=>by simp[jD]at h
 |f::r,v::vs,h=>by simp only[jD]at h;simp[fh_ h.2]
def sB:∀{fs} {vs} {f} {v},jD fs vs->f.2.Val v->jD (fs++[f]) (vs++[v])
 | [],[],f,v,_,h=>by simp only[bU,jD];exact#[h,trivial]
 | [],_::_,_,_,h,_=>by simp[jD]at h
 |_::_,[],_,_,h,_=>by simp[jD]at h
 |g::r,u::vs,f,v,h,h'=>by simp only[dJ,jD]at h ⊢;exact#[h.1,sB h.2 h']
def x4:∀{ks} {j} {k} {v},ks[j]? = some k->k.Val v->uP ks j v
 | [],_,_,_,e,_=>by simp at e
 |k'::r,0,k,v,e,h=>by simp at e;subst e;simp only[uP];exact h
 |k'::r,j+1,k,v,e,h=>by simp only[uP];exact x4 (j:=j) (by simpa using e) h
def aLn:∀{fs} {f},lA fs->f∈fs->f.2.Fit/\f.2.deep<=gE fs
 |g::r,f,h,a=>by
  rcases aF.mp a with rfl | a
  exact#[h.1.2,fS _ _];exact#[(aLn h.2 a).1,nzL (aLn h.2 a).2<|fG _ _]
def aCh:∀{ks} {k},jG ks->k∈ks->k.Fit/\k.deep<=dS ks
 |g::r,f,h,a=>by
  rcases aF.mp a with rfl | a
  exact#[h.1,fS _ _];exact#[(aCh h.2 a).1,nzL (aCh h.2 a).2<|fG _ _]
def aVt(h:i<=8):(256:Int)^i<=256^8:=by
 have:=Nat.pow_le_pow_right (n:=256) `a h
 exact_mod_cast this
def oM:∀{ks} {j} {v},uP ks j v->∃k,ks[j]? = some k/\k.Val v
 | [],_,_,h=>by simp[uP]at h
 |k::_,0,v,h=>by simp only[uP]at h;exact#[k,rfl,h]
 |_::r,j+1,v,h=>by simp only[uP]at h;obtain⟨k,e,a⟩:=oM h;exact#[k,by simpa using e,a]
def aQk{i:Nat}(o:(fs.map (·.1)).Nodup)(m:vs.length=fs.length)(g:fs[i]? = some f)(j:vs[i]? = some v):fR (vxF fs vs) (Sum.inr f.1)=some (f.2.vx v):=by
 have l:=hf_ m;have c:((vxF fs vs).map (·.1)).Nodup:=by
  rw[l];have:(fs.map λf=>(Sum.inr f.1:Key))=(fs.map (·.1)).map (λx:Str=>(Sum.inr x:Key)):=by rw[bH];rfl
  rw[this];exact List.Pairwise.map _ (λa b h e=>h<|Sum.inr.inj e) o
 exact nO (p:=(Sum.inr f.1,f.2.vx v)) c<|mem_vx g j
where mem_vx:∀{fs:S6} {vs:List Vd} {i:Nat} {f:Str×Kd} {v:Vd},fs[i]? = some f->vs[i]? = some v->((Sum.inr f.1,f.2.vx v):Key×Dx)∈vxF fs vs
 | [],_,_,_,_,h,_=>by simp at h
 |_::_,[],_,_,_,_,h=>by simp at h
 |g::r,u::vs,0,f,v,h1,h2=>by simp at h1 h2;subst h1 h2;simp only[vxF];exact aA
 |g::r,u::vs,i+1,f,v,h1,h2=>by simp only[vxF];exact aC _ (mem_vx (i:=i) (by simpa using h1) (by simpa using h2))
section
variable{f:Addr}{n j:Nat}
def bDk(F:Fun K "copied" "copied" pI f fd)(e:Cal P w K mg base j "copied" AB<|spX<|gCO n)(B:Blt mg) :
  FnOk P w K mg base CX0 (j+1) f fd AB (spX<|gCO<|n+1):=by
 refine jP F hj_ (λm=>(cG (iY (lC<|a8 .list `e) (cR<|eU<|lQ hj_ [] (jL `e) kU (eJ e<|eQ `e)) jH)
  (cG (iY (lC<|a8 .tuple `e) (cR<|eU<|he_ (c9 K) aMb `t B.tuple c_ (eQ<|lQ hj_ [] (aTm `e) kU (eJ e<|eQ `e))) jH)
  (cG (iY (lC<|a8 .dict `e) (cR<|eU<|he_ (iu_ rfl) wX `t B.dict nX (eQ<|v5 hj_ 0 [0] kU (jQ<|cQ `e (eJ e<|eQ<|ff_ (rB m) `k `e (λ_ _=>rfl))))) jH)
  (cR<|eU<|dp_<|pv 0))))) λv Q h=>?_
 obtain⟨d,rfl,a,g,q⟩:=h;refine#[rfl,?_];cases d with
 |scr _ _=>simp only[Dx.Sz]at a
 |ins _ _=>simp only[Dx.Sz]at a
 |exc _=>simp only[Dx.Sz]at a
 |dqt _ _=>simp only[Dx.Sz]at a
 |lst l => show l.length<=1000000/\cB 1 (gxN 0) aNk (gD (gCO n)<|cH (dC 0) eZ) _ l [] [];simp only[Dx.Sz]at a;refine#[by lia,lh_ (λd=>[d]) (λd b c P p=>?_) (by rw[aCg];exact q)];exact#[d,rfl,uR a.2 b,by have:=le_ b;simp only[Dx.deep]at g;lia,by show P (c++[d.own.d]) [];rw[yY];exact p]
 |tup l => show l.length<=1000000/\cB 1 (gxN 0) aNk (gD (gCO n)<|cH (dC 0) eZ) _ l [] [];simp only[Dx.Sz]at a;refine#[by lia,lh_ (λd=>[d]) (λd b c P p=>?_) (by rw[aCg];exact q)];exact#[d,rfl,uR a.2 b,by have:=le_ b;simp only[Dx.deep]at g;lia,by show P (c++[d.own.d]) [];rw[yY];exact p]
 |dic l => simp only[Dx.Sz]at a;simp only[Dx.deep]at g;show l.length<=1000000/\cB _ _ _ _ _ (iR l) _ _;refine#[by lia,?_];unfold iR;refine lR (λp:Key×Dx=>kZ p.1) (λp=>.tup [kZ p.1,p.2]) (λp b c P o=>?_) ?_;have i:=nO a.2.1 b;have u:=qM b;show dgX (.dic l) (kZ p.1) (λs=>gCO n [s.d] (λr=>([Sv.tr<|kZ p.1,r].length<=1000000/\P (c++[Dx.tup [kZ p.1,r.d]]) [vT<|.dic l])));unfold dgX;rw[aKp];show(match fR l p.1 with | some d=>_ | none=>False);rw[i];refine#[p.2,rfl,yH a.2.2 b,by lia,kK,?_];show P (c++[Dx.tup [kZ p.1,p.2.own.d]]) _;rw[yY];exact o;rw [bU];exact#[l,rfl,a.2.1,q]
 |_=>exact q
end
def aMj{i w}(a:0<=i)(b:0<=w)(h:i<256^w.toNat):((Builtin.Int.intBits i:Nat):Int)<=8*w:=by
 have e:(256:Int)^w.toNat=((2^(8*w.toNat):Nat):Int):=by rw[Nat.pow_mul];simp
 rw[e]at h;have:Builtin.Int.intBits i<=8*w.toNat:=intBits_le_iff.mpr `b;lia
def ge_{a:Type}{l:List a}{Q:Sv->Prop}(q:Q<|.tr<|.bl true):bAu [.lst<|l.map λ_=>Dx.bl true] Q:=#[l.map λ_=>true,by rw[bH];rfl,by
 have:(l.map λ_=>true).all id=true:=by grind
 rw[this];exact q]
def x5:∀{fs} {vs} {i:Nat} {f} {v},jD fs vs->fs[i]? = some f->vs[i]? = some v->f.2.Val v
 | [],_,_,_,_,_,h,_=>by simp at h
 |_::_,[],_,_,_,_,_,h=>by simp at h
 |g::r,u::us,0,f,v,hv,h1,h2=>by simp only[jD]at hv;simp at h1 h2;subst h1 h2;exact hv.1
 |g::r,u::us,i+1,f,v,hv,h1,h2=>by simp only[jD]at hv;exact x5 (i:=i) hv.2 (by simpa using h1)<|by simpa using h2
def aLe{a b c:Int}{ρ}{Q:Bool->En->Prop}(e:decide (a<=b)=true)(f:decide (b<c)=true)(q:Q false ρ):(if decide (a<=b)=true then Q (!(decide (b<c))) ρ else Q (!false) ρ):=by rw[if_pos e,f];exact q
def whD:Dx->Bool
 | .int _=>true
 |_=>false
def gWB:GC:=λa Q=>∃d:Dx,a=[d]/\kX d/\Q (.tr<|.bl<|whD d)
def gIV(n:Nat):GC:=λc Q=>∃(a:Kd) (b:Vd),c=[a.x,a.vx b]/\a.Fit/\a.Val b/\a.deep<=n/\Q (.tr<|.bl true)
def gIR(n:Nat):GC:=λb Q=>∃(k:Kd) (m:Int) (a:List Vd),b=[k.x,.int m,.lst<|a.map k.vx]/\k.Fit/\(a.length:Int)=m/\m<=20/\(∀v∈a,k.Val v)/\k.deep<=n/\Q (.tr<|.bl true)
def gID(n:Nat):GC:=λb Q=>∃(fs:S6) (a:List Vd),b=[.lst<|xF fs,.dic<|vxF fs a]/\lA fs/\fs.length<=8/\(fs.map (·.1)).Nodup/\jD fs a/\gE fs<=n/\Q (.tr<|.bl true)
def bEw(n:Nat):GC:=λb Q=>∃(a:R6) (i:Nat) (k:Kd) (v:Vd),b=[.lst<|xK a,.tup [.int (i:Int),k.vx v]]/\a[i]? = some k/\jG a/\a.length<=6/\k.Val v/\dS a<=n/\Q (.tr<|.bl true)
section
variable{f:Addr}{n j:Nat}
def m_(F:Fun K "is_whole" "is_whole" fz_ f fd)(B:Blt mg):FnOk P w K mg base CX0 1 f fd AB<|spX gWB:=by refine jP F yN (λc=>(cR<|eU<|dx_ (a8 .int `e)<|er_<|aTq<|a8 .bool `e)) λb Q h=>?_;obtain⟨d,rfl,a,q⟩:=h;refine#[rfl,?_];cases d<;>first | exact q | exact a.elim
def aXy(F:Fun K "is_row_value" "is_row_value" ee_ f fd)(e:Cal P w K mg base j "is_value" AN<|spX<|gIV n)(B:Blt mg):FnOk P w K mg base CX0 (j+1) f fd AY<|spX<|gIR n:=by
 refine jP F fl_ (λs=>(cG (a9<|XW.pt<|xN (qV<|lC<|a8 .list<|xv 2)<|xP<|rE (tS<|xv 2) `k)
  (cR<|eU<|d4 (ek_ K rfl) mD rfl B.all mF<|eQ<|lQ fl_ [0] (jL<|xv 2) kU (eJ e<|cQ `k `e)))) λr Q h=>?_
 obtain⟨k,m,a,rfl,g,b,l,hv,i,q⟩:=h;refine#[rfl,?_];have c:(a.map k.vx).length=a.length:=aB _;refine kM (ρ':=[vT k.x,vT<|.int m,vT<|.lst<|a.map k.vx]) (λQ q=>?_) ?_;show Q (!decide (((a.map k.vx).length:Int)=m)) _;rw[dzT (by rw[c];exact b)];exact q;refine #[show (a.map k.vx).length≤1000000 by rw [c]; lia,show cB _ _ _ _ _ (a.map k.vx) _ _ from ?_];refine lR k.vx (λ_=>.bl true) (λv b o P p=>#[k,v,rfl,g,hv v b,i,p]) ?_;exact ge_ q
def aYb(F:Fun K "is_record_value" "is_record_value" ct_ f fd)(D:Cal P w K mg base j "is_value" AN<|spX<|gIV n)(B:Blt mg):FnOk P w K mg base CX0 (j+1) f fd BD<|spX<|gID n:=by
 refine jP F cj_ (λz=>(cG (a9<|XW.pt<|xN (qV<|lC<|a8 .dict `k)<|xP<|rE (tS `k)<|tS `e)
  (cG (a9<|qV<|lC<|d4 (ek_ K `t) mD `t B.all mF (eQ<|v5 cj_ 1 [] kU (a8 .str `e)))
  (cR<|eU<|d4 (ek_ K `t) mD `t B.all mF (eQ<|lQ cj_ [1] (jL `e) kU (dx_ (aTw (rB z) `j `k (by with_unfolding_all rfl))<|er_<|eJ D<|cQ `j (ff_ (rB z) `k `j (λ_ _=>rfl)))))))) λL Q h=>?_
 obtain⟨fs,a,rfl,H,I,A,hv,N,q⟩:=h;refine#[rfl,?_];have u:=fh_ hv;have l:=hf_ u;have y:(vxF fs a).length=fs.length:=by have:=congrArg List.length l;rw[aB,aB]at this;exact this
 refine kM (ρ':=[vT<|.lst<|xF fs,vT<|.dic<|vxF fs a]) (λQ q=>?_) ?_;show Q (!decide (((vxF fs a).length:Int)=((xF fs).length:Int))) _;rw[dzT<|by rw[y,jp_]];exact q;refine kM (ρ':=[vT<|.lst<|xF fs,vT<|.dic<|vxF fs a]) (λQ q=>?_) ?_;show (vxF fs a).length≤1000000∧cB _ _ _ _ _ (iR<|vxF fs a) _ _;refine#[by rw[y];lia,?_];have E:iR (vxF fs a)=fs.map λf=>Dx.str f.1:=by unfold iR;have:=congrArg (List.map kZ) l;rw[bH,bH]at this;exact this
 rw[E];refine lR (λf:Str×Kd=>Dx.str f.1) (λ_=>.bl true) (λv e g P p=>p) ?_;rw[bU];exact ge_ (Q:=λs=>match s with | .tr (.bl b)=>Q (!b) _ | _=>False) q;refine #[show (xF fs).length≤1000000 by rw [jp_]; lia,show cB _ _ _ _ _ (xF fs) _ _ from ?_];rw[gh_];refine lR (λf:Str×Kd=>Dx.tup [.str f.1,f.2.x]) (λ_=>.bl true) (λf e g P p=>?_) ?_;obtain ⟨i,c⟩:=List.mem_iff_getElem?.mp e;have J:=(aK.mp c).1;obtain⟨v,o⟩:∃v,a[i]? = some v:=#[_,aJ `b];have m:=aQk A u c o;obtain⟨G,M⟩:=aLo H e;have C:f.2.Val v:=x5 hv c o;show(if(fR (vxF fs a)<|Sum.inr f.1).isSome=true then _ else _);rw[m];show dgX (.dic<|vxF fs a) (.str f.1) (λs=>gIV n [f.2.x,s.d] (λr=>P (g++[r.d]) _));show(match fR (vxF fs a) (Sum.inr f.1)with | some d=>_ | none=>False);rw[m];exact#[f.2,v,rfl,G,C,by lia,p];rw [bU];exact ge_ q
def aYc(F:Fun K "is_choice_value" "is_choice_value" cu_ f fd)(c:Cal P w K mg base 1 "is_whole" AB<|spX gWB)(e:Cal P w K mg base (j+1) "is_value" AN<|spX<|gIV n)(B:Blt mg):FnOk P w K mg base CX0 (j+2) f fd BI<|spX<|bEw n:=by
 refine jP F hi_ (λz=>(cG (a9<|XW.pt<|xN (qV<|lC<|a8 .tuple `k)<|xP<|rE (tS `k) cZ)
  (cG (a9<|XW.pt<|xN (qV<|lC<|eJ c<|eQ<|dH K `k)<|xP<|qV<|nZ lL lK kl_ kj_ cZ (dH K `k)<|tS `e)
  (cR<|eU<|eJ e<|cQ (mO K `e (dH K `k))<|dH K `k)))) λy Q h=>?_
 obtain⟨a,i,k,v,rfl,b,r,u,hv,s,q⟩:=h;refine#[rfl,?_];have g:=(aK.mp b).1;obtain⟨l,m⟩:=hw_ r<|aQ b;refine kM (ρ':=[vT<|.lst<|xK a,vT<|.tup [.int (i:Int),k.vx v]]) (λQ q=>q) ?_;refine kM (ρ':=[vT<|.lst<|xK a,vT<|.tup [.int (i:Int),k.vx v]]) (λQ q=>?_) ?_;refine #[.int i,rfl,trivial,?_];have o:=dzT<|Int.natCast_nonneg i;have p:decide ((i:Int)<((xK a).length:Int))=true:=dzT (by rw[gg_];exact Int.ofNat_lt.mpr g);refine aLe o p ?_;exact q;show (match atI (xK a) (i:Int) with | some d=>_ | none=>False);rw[dh_ (by rw[f9,bI,b];rfl:(xK a)[i]? = some k.x)];exact#[k,v,rfl,l,hv,nzL m s,q]
def aXw(F:Fun K "is_value" "is_value" ik_ f fd)(p:Cal P w K mg base 1 "is_whole" AB<|spX gWB)(r:Cal P w K mg base (j+1) "is_row_value" AY<|spX<|gIR n)(s:Cal P w K mg base (j+1) "is_record_value" BD<|spX<|gID n)(u:Cal P w K mg base (j+1) "is_choice_value" BI<|spX<|bEw n)(o:∃t,mg "BITS_OF_A_BYTE" = some (.int 8 t)):FnOk P w K mg base CX0 (j+2) f fd AN<|spX<|gIV<|n+1:=by
 refine jP F yO (λC=>(cG (iY (kI `j lB) (cR (eU (dx_ (eJ p<|eQ `k) (dx_ (oF aSn aSl `k cZ (cP _)) (er_ (oF lL lK (λF=>PE.weak (aJc PySem.F.plainAttrs_int PySem.F.slot_int_bit_length PySem.F.type_int_bit_length rM (XE.at (Ex:=cY) F `k)) bAr) (es_ (fe_ rfl o) `j)<|cP _)))))) jH)
  (cG (iY (kI `j lB) (cR<|eU<|eJ r<|iW `j (cQ `j `k)) jH)
  (cG (iY (kI `j lB) (cR<|eU<|eJ s<|cQ `j `k) jH)
  (cR<|eU<|eJ u<|cQ `j `k))))) λB Q h=>?_
 obtain⟨y,b,rfl,a,hv,c,q⟩:=h;refine#[rfl,?_];cases y with
 |num A m =>
  cases b<;>simp only[Kd.Val]at hv
  rename_i i;simp only[Kd.Fit]at a;refine#[.int i,rfl,trivial,?_];show if decide ((0:Int)<=i)=true then _ else _
  rw[if_pos<|dzT hv.1];refine#[#[by decide,by lia],?_];show Q (.tr<|.bl<|decide (((Builtin.Int.intBits i:Nat):Int)<=8*A));rw[dzT<|aMj hv.1 `b hv.2];exact q
 |row k m =>
  cases b<;>simp only[Kd.Val]at hv
  rename_i g;exact#[k,m,g,rfl,a.1,by lia,a.2.2,hv.2,cJ c,q]
 |rcd fs =>
  cases b<;>simp only[Kd.Val]at hv
  rename_i g;exact#[fs,g,rfl,a.1,a.2.2.1,a.2.2.2,hv,cJ c,q]
 |cho z =>
  cases b<;>simp only[Kd.Val]at hv
  rename_i i v;obtain⟨k,l,e⟩:=oM hv;simp only[Kd.vx,uO l];exact#[z,i,k,v,rfl,l,a.1,a.2.2,e,cJ c,q]
end
def in_lets(h:97<=c/\c<=122):(!(Builtin.Str.occurrences lets #[[c].toArray] 0 lets.length 1).isEmpty)=true:=by
 have:∀i:Fin 26,(!(Builtin.Str.occurrences lets #[[97+i.val].toArray] 0 lets.length 1).isEmpty)=true:=by decide +kernel
 have a:=this #[c-97,by lia];have e:97+(c-97)=c:=by lia
 simp only[e]at a;exact a
def aQi{t u:XT}{ρ}{Q:Sv->En->Prop} (h:t ρ λs ρ'=>match s with
 | .tr (.bl b)=>if b=true then u ρ' Q else Q (.tr<|.bl false) ρ'
 |_=>False):aGy t u ρ Q:=h
def bEt{n:Ty}{t:XT}{a:En}{Q:Sv->En->Prop} (h:t a λs ρ'=>match s.d with
 | .scr _ _=>False
 | .ins _ _=>False
 | .exc _=>False
 | .dqt _ _=>False
 |d=>Q (.tr<|.bl<|isT n d) ρ'):xIs n t a Q:=h
def gNM:GC:=λa Q=>∃x:Str,a=[.str x]/\Nm x/\Q (.tr<|.bl true)
def gHF:GC:=λa Q=>∃(z:Str) (l:Q0) (w:Str) (n:Int),a=[.tup (.str z::l),.str w,.int n]/\Q (.tr<|.bl<|decide ((l.length:Int)+1=n)&&decide (z=w))
def gWU:GC:=λa Q=>∃(i g:Int),a=[.int i,.int g]/\1<=i/\i<=g/\Q (.tr<|.bl true)
def gLU:GC:=λa Q=>∃(l:Q0) (g:Int),a=[.lst l,.int g]/\1<=l.length/\(l.length:Int)<=g/\Q (.tr<|.bl true)
def gKW(n:Nat):GC:=λb Q=>∃a:Kd,b=[a.x,.int (n:Int)]/\a.Fit/\a.deep<=n/\Q (.tr<|.bl true)
def gAK(n:Nat):GC:=λb Q=>∃a:R6,b=[.lst<|xK a,.int (n:Int)]/\jG a/\a.length<=8/\dS a<=n/\Q (.tr<|.bl true)
def gAF(n:Nat):GC:=λa Q=>∃fs:S6,a=[.lst<|xF fs,.int (n:Int)]/\lA fs/\fs.length<=8/\(fs.map (·.1)).Nodup/\gE fs<=n/\Q (.tr<|.bl true)
def gIK:GC:=λb Q=>∃a:Kd,b=[a.x]/\a.Fit/\a.deep<=5/\Q (.tr<|.bl true)
def aEo{a:Q3}(h:x∉a):fR (a.map λy=>((Sum.inr y,.bl true):Key×Dx)) (Sum.inr x)=none:=by unfold fR;rw[List.find?_eq_none.mpr λp b=>?_];rfl;grind
def aCj:∀{fs} {f},lA fs->f∈fs->Nm f.1
 | [],_,_,h=>by simp at h
 |g::r,f,hf,h=>by
  rcases aF.mp h with rfl | h
  exact hf.1.1;exact aCj hf.2 h
section
variable{f:Addr}{n j:Nat}
def aWw(F:Fun K "is_whole_up_to" "is_whole_up_to" df_ f fd)(a:Cal P w K mg base 1 "is_whole" AB<|spX gWB):FnOk P w K mg base CX0 2 f fd AW<|spX gWU:=by
 refine jP F ig_ (λl=>(cR<|eU<|dx_ (eJ a<|eQ `e)<|er_<|xW lL lK lL lK cZ `e `k)) λe Q h=>?_;obtain⟨i,g,rfl,b,c,q⟩:=h;refine#[rfl,?_];refine#[.int i,rfl,trivial,?_];show if decide (1<=i)=true then _ else _
 rw[if_pos<|dzT b];show Q (.tr<|.bl<|decide (i<=g));rw[dzT c];exact q
def aXr(F:Fun K "is_list_up_to" "is_list_up_to" dr_ f fd)(B:Blt mg):FnOk P w K mg base CX0 1 f fd BB<|spX gLU:=by
 refine jP F jd_ (λe=>(cR<|eU<|dx_ (a8 .list `e)<|er_<|xW lL lK lL lK cZ (tS `e) `k)) λc Q h=>?_;obtain⟨l,g,rfl,a,b,q⟩:=h;refine#[rfl,?_];show if decide (1<=(l.length:Int))=true then _ else _
 rw[if_pos<|dzT<|Int.toNat_le.mp a];show Q (.tr<|.bl<|decide ((l.length:Int)<=g));rw[dzT b];exact q
def aJp(F:Fun K "is_name" "is_name" kc_ f fd)(B:Blt mg)(e:∃t,mg "LONGEST_NAME" = some (.int 8 t))(i:∃t,mg "SMALL_LETTERS" = some (.str lets t)):FnOk P w K mg base CX0 1 f fd AB<|spX gNM:=by
 refine jP F pB (λr=>(cG (a9<|XW.pt<|xN (qV<|lC<|a8 .str `e)<|xP<|qV<|nZ lL lK lL lK cZ (tS `e)<|fe_ rfl e)
  (cR<|eU<|d4 (ek_ K rfl) mD rfl B.all mF<|eQ<|lQ pB [] (aTn `e) kU (oF aEa aWj `e (aGk rfl i) (by with_unfolding_all rfl))))) λo Q h=>?_
 obtain⟨x,rfl,⟨a,b,m⟩,q⟩:=h;refine#[rfl,?_];rw[<-du_]at a b;refine#[by lia,?_];show if decide (1<=(x.length:Int))=true then _ else _
 rw[if_pos<|dzT<|Int.toNat_le.mp a];show if(!decide ((x.length:Int)<=8))=true then _ else _
 rw[dzT<|by exact Nat.ToInt.of_le rfl rfl b];refine#[show(sgX x).length<=1000000 from ?_,show cB _ _ _ _ _ (sgX x) _ _ from ?_];unfold sgX;rw[aB,Array.length_toList];show x.length<=1000000;lia;refine lR (fun c:Nat=>Dx.str #[[c].toArray]) (fun c=>.bl true) (fun c l g P p => ?_) ?_;show P (g ++ [Dx.bl<|!(Builtin.Str.occurrences lets #[[c].toArray] 0 lets.length 1).isEmpty]) _;rw[in_lets<|m c l];exact p;exact ge_ q
def aJq(F:Fun K "has_form" "has_form" il_ f fd)(B:Blt mg):FnOk P w K mg base CX0 1 f fd AG<|spX gHF:=by
 refine jP F yP (λc=>(cG (a9<|XW.pt<|xN (qV<|lC<|a8 .tuple `e)<|xP<|rE (tS `e)<|xv 2)
  (cR<|eU<|dx_ (a8 .str `j)<|er_<|aTv `j `k))) λb Q h=>?_
 obtain⟨z,l,w,n,rfl,q⟩:=h;refine#[rfl,?_];show if(!decide (((l.length+1:Nat):Int)=n))=true then _ else _
 have e:decide (((l.length+1:Nat):Int)=n)=decide ((l.length:Int)+1=n):=by congr 1
 rw[e];by_cases a:(l.length:Int)+1=n;rw [dzT a,Bool.true_and] at q;rw[dzT a];show aGy (xIs Ty.str<|xOp ixX (dC 0)<|xC<|.int 0) (xOp eqX (xOp ixX (dC 0)<|xC<|.int 0)<|dC 1) [vT<|.tup (.str z::l),vT<|.str w,vT<|.int n] _;refine aQi<|bEt<|wM (i:=0) (j:=0) rfl rfl ?_;refine aLb<|wM (i:=0) (j:=0) rfl rfl ?_;exact q;rw [dzF a,Bool.false_and] at q;rw[dzF a];exact q
def aYs(F:Fun K "are_kinds" "are_kinds" gy_ f fd)(b:Cal P w K mg base j "is_kind_within" AQ<|spX<|gKW n)(B:Blt mg):FnOk P w K mg base CX0 (j+1) f fd AE<|spX<|gAK n:=by refine jP F ix_ (λs=>(cR<|eU<|d4 (ek_ K rfl) mD rfl B.all mF<|eQ<|lQ ix_ [1] (jL `e) kU (eJ b<|cQ `e `k))) λo Q h=>?_;obtain⟨a,rfl,g,r,i,q⟩:=h;refine#[rfl,?_];refine#[show(xK a).length<=1000000 by rw[gg_];lia,show cB _ _ _ _ _ (xK a) _ _ from ?_];rw[f9];refine lR Kd.x (λ_=>.bl true) (λk l m P p=>?_) ?_;obtain ⟨c,e⟩:=hw_ g l;exact#[k,rfl,c,nzL e i,p];exact ge_ q
def aYt(F:Fun K "are_fields" "are_fields" fp_ f fd)(G:Cal P w K mg base 1 "is_name" AB<|spX gNM)(H:Cal P w K mg base (j+1) "are_kinds" AE<|spX<|gAK n)(B:Blt mg):FnOk P w K mg base CX0 (j+2) f fd AE<|spX<|gAF n:=by
 refine jP F hX (λC=>(cG (gK hX 2 aNh)
  (cG (xO PassesOwn.never rfl (jL `e) (iK (i:=3) hX.nd rfl `l) (tZ (n:=99) (i:=3) `a) (cG (a9<|XW.pt<|xN (qV<|lC<|a8 .tuple<|xv 3)<|xP<|rE (tS<|xv 3) cZ)
  (cG (a9<|XW.pt<|xN (qV<|lC<|eJ G<|eQ<|dH K<|xv 3)<|xP<|aGf (rB C) (dH K<|xv 3) (pv 2)<|by with_unfolding_all rfl)
  (cR (o_ λF=>PS.weak (vI (rB C) (pv 2) (XE.at (Ex:=cY) F (dH K<|xv 3)) (XE.at (Ex:=cY) F v9) rfl) aNs)))))
  (cR<|eU<|eJ H<|cQ (lQ hX [] (jL `e) kU `j) `k)))) λU Q h=>?_
 obtain⟨fs,rfl,A,M,s,I,q⟩:=h;refine#[rfl,?_];refine f8 ?_;change dO _ _ [vT<|.lst<|xF fs,vT<|.int (n:Int),.v<|.od [],.un] _;refine dd_ (λl=>∃(D c:Sl),l=[vT<|.lst<|xF fs,vT<|.int (n:Int),D,c]) ?_<|λW u=>?_;rintro l ⟨D,c,rfl⟩;refine#[show(xF fs).length<=1000000 by rw[jp_];lia,show cB _ _ _ _ _ (xF fs) _ _ from ?_];rw[gh_];refine lR (λf:Str×Kd=>Dx.tup [.str f.1,f.2.x]) (λf=>f.2.x) (λf _ S P p=>p) ?_;rw[bU];refine#[fs.map (·.2),by rw[f9,bH];rfl,jn_ A,by rw[aB];lia,by rw[fu_];exact I,q];show hU _ _ _ (xF fs) _;obtain⟨L,r⟩:∃L,L=fs.map (λf:Str×Kd=>Dx.tup [.str f.1,f.2.x]):=`r;rw[show xF fs=L by rw[r,gh_]]at u ⊢;rw[r];refine xQ (λf:Str×Kd=>Dx.tup [.str f.1,f.2.x]) (λrest l=>∃(b:S6) (a:Q3) (c:Sl),fs=b++rest/\a=b.map (·.1)/\l=[vT<|.lst L,vT<|.int (n:Int),.v<|.od<|a.map λx=>(Sum.inr x,.bl true),c]) (λl h=>?_) (λg rest l T h J=>?_) #[[],[],.un,rfl,rfl,by rw[r];rfl];obtain ⟨b,a,c,m,o,rfl⟩:=h;exact u _ #[_,_,rfl];obtain ⟨b,a,c,m,o,rfl⟩:=h;have N:g∈fs:=by rw[m];exact aG _ aA
 have v:g.1∉a:=λz=>by rw[m,aZ,bG]at s;exact(bO.mp s).2.2 g.1 (o ▸ z) g.1 aA rfl
 have E:=aEo v;refine kM (ρ':=[vT<|.lst L,vT<|.int (n:Int),.v<|.od<|a.map λx=>(Sum.inr x,.bl true),vT<|.tup [.str g.1,g.2.x]]) (λQ q=>q) ?_;refine kM (ρ':=[vT<|.lst L,vT<|.int (n:Int),.v<|.od<|a.map λx=>(Sum.inr x,.bl true),vT<|.tup [.str g.1,g.2.x]]) (λQ q=>?_) ?_;refine #[g.1,rfl,aCj A N,?_];show Q ((fR (a.map λx=>((Sum.inr x,.bl true):Key×Dx))<|Sum.inr g.1).isSome) _;rw[E];exact q;refine #[`r,?_];refine#[by rw[aB,o,aB];have:=congrArg List.length m;rw[aI]at this;lia,J _ #[b++[g],a++[g.1],vT<|.tup [.str g.1,g.2.x],by rw[m,bK];rfl,by rw[o,aZ];rfl,?_]];rw[aIh<|λz=>v (by obtain⟨y,R,e⟩:=aY.mp z;obtain⟨w,O,rfl⟩:=aY.mp R;exact Sum.inr.inj e ▸ O),aZ];rfl
def aXu(F:Fun K "is_kind_within" "is_kind_within" dg_ f fd)(C:Cal P w K mg base 1 "is_whole" AB<|spX gWB)(o:Cal P w K mg base 2 "is_whole_up_to" AW<|spX gWU)(p:Cal P w K mg base 1 "is_list_up_to" BB<|spX gLU)(e:Cal P w K mg base 1 "has_form" AG<|spX gHF)(D:Cal P w K mg base (j+2) "is_kind_within" AQ<|spX<|gKW n)(E:Cal P w K mg base (j+2) "are_kinds" AE<|spX<|gAK n)(g:Cal P w K mg base (j+2) "are_fields" AE<|spX<|gAF n)
  (z:∃t,mg "WIDEST_NUMBER" = some (.int 8 t)) (y:∃t,mg "LONGEST_ROW" = some (.int 20 t)) (v:∃t,mg "MOST_FIELDS" = some (.int 8 t)) (u:∃t,mg "MOST_CHOICES" = some (.int 6 t)) (A:∃c,mg "MULTIPLES" = some (.ref c)/\∀H,SqT K H c [.int 1,.int 2,.int 4,.int 8]):FnOk P w K mg base CX0 (j+3) f fd AQ<|spX<|gKW<|n+1:=by
 refine jP F ih_ (λI=>(cG (a9<|kT kl_ kj_ `k cZ (cP _))
  (cG (iY (lC<|eJ e<|iW `e (cQ lB cZ)) (cR<|eU<|dx_ (eJ o<|cQ `j (fe_ rfl z))<|dx_ (eJ C<|eQ `j)<|er_<|aTu K [.int 1,.int 2,.int 4,.int 8] `j rfl A) jH)
  (cG (iY (lC<|eJ e<|iW `e (cQ lB cZ)) (cR<|eU<|dx_ (eJ o<|cQ `j (fe_ rfl y))<|er_<|eJ D<|cQ `j (fc_ `k cZ)) jH)
  (cG (iY (lC<|eJ e<|iW `e (cQ lB cZ)) (cR<|eU<|dx_ (eJ p<|cQ `j (fe_ rfl v))<|er_<|eJ g<|cQ `j (fc_ `k cZ)) jH)
  (cG (iY (lC<|eJ e<|iW `e (cQ lB cZ)) (cR<|eU<|dx_ (eJ p<|cQ `j (fe_ rfl u))<|er_<|eJ E<|cQ `j (fc_ `k cZ)) jH)
  (cR<|eU v9))))))) λG Q h=>?_
 obtain⟨r,rfl,a,l,q⟩:=h;refine#[rfl,?_];have i:((n+1:Nat):Int)-1=(n:Int):=Int.sub_eq_iff_eq_add.mpr rfl;refine kM (ρ':=[vT r.x,vT<|.int ((n+1:Nat):Int)]) (λQ q=>?_) ?_;show Q (decide (((n + 1:Nat):Int) < 1)) _;rw[dzF<|of_decide_eq_false rfl];exact q;cases r with
 |num s m =>
  refine#["number",[.int s,.int m], "number",3,rfl,?_];refine#[s,8,rfl,a.1,a.2.1,#[.int m,rfl,trivial,?_]];have B:inV (.int m) [.int 1,.int 2,.int 4,.int 8]=true:=by rcases a.2.2 with rfl | rfl | rfl | rfl<;>rfl
  show Q (.tr<|.bl<|inV (.int m) [.int 1,.int 2,.int 4,.int 8]);rw[B];exact q
 |row k m => refine#["row",[k.x,.int m], "number",3,rfl,#["row",[k.x,.int m], "row",3,rfl,?_]];exact#[m,20,rfl,a.2.1,a.2.2,#[k,by rw[<-i];rfl,a.1,cJ l,q]]
 |rcd fs => simp only[Kd.Fit]at a;refine#["record",[.lst<|xF fs], "number",3,rfl,#["record",[.lst<|xF fs], "row",3,rfl,#["record",[.lst<|xF fs], "record",2,rfl,?_]]];exact#[xF fs,8,rfl,by rw[jp_];lia,by rw[jp_];lia,#[fs,by rw[<-i];rfl,a.1,a.2.2.1,a.2.2.2,cJ l,q]]
 |cho b => simp only[Kd.Fit]at a;refine#["choice",[.lst<|xK b], "number",3,rfl,#["choice",[.lst<|xK b], "row",3,rfl,#["choice",[.lst<|xK b], "record",2,rfl,#["choice",[.lst<|xK b], "choice",2,rfl,?_]]]];exact#[xK b,6,rfl,by rw[gg_];lia,by rw[gg_];lia,#[b,by rw[<-i];rfl,a.1,by lia,cJ l,q]]
def aYa(F:Fun K "is_kind" "is_kind" sF f fd)(b:Cal P w K mg base j "is_kind_within" AQ<|spX<|gKW 5)(a:∃t,mg "DEEPEST" = some (.int 5 t)):FnOk P w K mg base CX0 (j+1) f fd AB<|spX gIK:=by refine jP F l8 (λi=>(cR<|eU<|eJ b<|cQ `e (fe_ rfl a))) λg Q h=>?_;obtain⟨d,rfl,c,e,q⟩:=h;refine#[rfl,?_];exact#[d,rfl,c,e,q]
end
def prT(r:Int×Int):Dx:=.tup [.int r.1,.int r.2]
def gRU:GC:=λa Q=>∃n m:Int,a=[.int n,.int m]/\0<=n/\n<2^200/\0<m/\m<2^200/\Q (.tr<|.int<|up n m)
def gSO:GC:=λa Q=>∃r:Int×Int,a=[prT r]/\0<=r.1/\r.1<2^200/\0<r.2/\r.2<2^200/\Q (.tr<|.int<|up r.1 r.2)
def gCA:GC:=λa Q=>∃m:Int,a=[.int m]/\0<m/\m<2^200/\Q (.tr<|.int<|up 1 m)
def gGM:GC:=λb Q=>∃a:Q4,b=[.lst<|a.map prT]/\a.length<=10/\(∀r∈a,1<=r.2)/\Q (.tr (.int (fK 1 (a.map (·.2)))))
def gPB:GC:=λb Q=>∃a:Q4,b=[.lst<|a.map prT]/\a.length<=10/\(∀r∈a,Bd (2^150) r)/\Q (.ol<|(lI 0 a).map Dx.int)
def gRO(n:Nat):GC:=λb Q=>∃a:Kd,b=[a.x]/\a.Ok/\a.deep<=n/\n<=12/\Q (.tr<|prT a.rm)
def gRS(n:Nat):GC:=λb Q=>∃a:R6,b=[.lst<|xK a]/\okK a/\dS a<=n/\a.length<=10/\n<=12/\Q (.ol<|(rmK a).map prT)
def gRR(n:Nat):GC:=λb Q=>∃(a:Kd) (m:Int),b=[a.x,.int m]/\a.Ok/\a.deep<=n/\n<=12/\0<=m/\m<=100/\Q (.tr<|prT (m*up a.rm.1 a.rm.2,a.rm.2))
def gRL(f:Q4->Int×Int)(n:Nat):GC:=λb Q=>∃a:R6,b=[.lst<|xK a]/\okK a/\dS a<=n/\a.length<=10/\n<=12/\Q (.tr<|prT<|f<|rmK a)
def aAe:∀ks:R6,(ks.map λk=>prT k.rm)=(rmK ks).map prT
 | []=>rfl
 |f::r=>by rw[bG,aAe r];rfl
def dw_{c e:Type}(f:c->Dx)(g:e->Dx):∀(l:List c) (m:List e),jJ (l.map f) (m.map g)=(l.zip m).map λp=>.tup [f p.1,g p.2]
 | [],_=>rfl
 |_::_,[]=>rfl
 |a::l,b::m=>by show _::jJ (l.map f) (m.map g)=_;rw[dw_ f g l m];rfl
section
variable{f:Addr}{n j:Nat}
def aJm(F:Fun K "rounded_up" "rounded_up" fn_ f fd):FnOk P w K mg base CX0 1 f fd AC<|spX gRU:=by refine jP F rK (λo=>(cR<|eU<|es_ (mW (fc_ (lS `e `k) cZ) `k) `k)) λe Q h=>?_;obtain⟨n,m,rfl,g,i,a,l,q⟩:=h;refine#[rfl,?_];have b:0<=(n+m-1)/m:=Int.ediv_nonneg `b (Int.le_of_lt a);have c:(n+m-1)/m<=n+m-1:=Int.ediv_le_self m `b;refine#[#[a,by lia],#[?_,by lia],q];generalize (n+m-1)/m=z at b c;lia
def aXb(F:Fun K "step_of" "step_of" jx_ f fd)(a:Cal P w K mg base 1 "rounded_up" AC<|spX gRU):FnOk P w K mg base CX0 2 f fd ["room"] (spX gSO):=by refine jP F k9 (λl=>(cR<|eU<|eJ a<|cQ `j `j)) λi Q h=>?_;obtain⟨r,rfl,b,c,e,g,q⟩:=h;refine#[rfl,?_];exact#[_,_,rfl,b,c,e,g,q]
def aYn(F:Fun K "chosen_at" "chosen_at" gx_ f fd)(a:Cal P w K mg base 1 "rounded_up" AC<|spX gRU):FnOk P w K mg base CX0 2 f fd ["multiple"] (spX gCA):=by refine jP F vA (λg=>(cR<|eU<|eJ a<|cQ cZ `e)) λe Q h=>?_;obtain⟨m,rfl,b,c,q⟩:=h;refine#[rfl,?_];exact#[_,_,rfl,by decide,by decide,b,c,q]
def aJr(F:Fun K "greatest_multiple" "greatest_multiple" cc_ f fd)(B:Blt mg):FnOk P w K mg base CX0 1 f fd AZ<|spX gGM:=by refine jP F dj_ (λl=>(cR<|eU<|mV rfl rfl B.max (eQ<|lQ dj_ [] (jL `e) kU `j)<|nE ki_ vK)) λo Q h=>?_;obtain⟨a,rfl,s,i,q⟩:=h;refine#[rfl,?_];refine#[show(a.map prT).length<=_ by rw[aB];lia,show cB _ _ _ _ _ (a.map prT) _ _ from ?_];refine lR prT (λr=>.int r.2) (λr l m P p=>p) ?_;refine#[a.map (·.2),by rw[bH];rfl,λg=>?_,λM b e=>?_];rw[g]at q;exact q;obtain ⟨r,c,rfl⟩:=aY.mp b;rw[<-vZ (d:=1) b (i r c) e]at q;exact q
def aXl(F:Fun K "places_behind" "places_behind" dq_ f fd)(o:Cal P w K mg base 1 "rounded_up" AC<|spX gRU):FnOk P w K mg base CX0 2 f fd AZ<|spX gPB:=by
 refine jP F dZ (λI=>(cG (gK dZ 1<|mG kF)
  (cG (gK dZ 2 cZ)
  (cG (xO PassesOwn.never rfl (jL `e) (iK (i:=3) dZ.nd rfl `l) (tZ (n:=99) (i:=3) `a) (cG (gK dZ 4<|eJ o<|cQ (xv 2)<|dH K<|xv 3)
  (cG (fb_ 1<|xv 4)
  (cR<|gK dZ 2<|lS (xv 4)<|dH K<|xv 3))))
  (cR<|eU<|dp_<|pv 1))))) λG Q h=>?_
 obtain⟨rs,rfl,H,m,q⟩:=h;refine#[rfl,?_];refine#[bL _,?_];refine xQ prT (λrest l=>∃a c g,rs=a++rest/\l=[vT<|.lst<|rs.map prT,.v<|.ol<|(lI 0 a).map Dx.int,vT<|.int<|dL 0 a,c,g]) (λl h=>?_) (λr rest l A h u=>?_) #[[],.un,.un,rfl,rfl];obtain ⟨a,c,g,b,rfl⟩:=h;rw[aU]at b;subst b;exact q;obtain ⟨a,c,g,b,rfl⟩:=h;obtain⟨B,C,p,D⟩:=m r (by rw[b];exact aG _ aA);have y:a.length+(rest.length+1)=rs.length:=by rw[b,aI,aL]
 obtain⟨s,E⟩:=gb_ (e:=0) (rs:=a) (Int.zero_le_ofNat 0)<|λz v=>m z (by rw[b];exact aM _ v);refine#[_,_,rfl,s,by lia,gX p,by lia,rfl,by rw[aB,kg_];lia,u _ #[a++[r],vT<|prT r,vT<|.int<|up (dL 0 a) r.2,by rw[b,bK];rfl,?_]];rw[ja_,sK,aZ];rfl
def aJn(F:Fun K "rooms_of" "rooms_of" ii_ f fd)(b:Cal P w K mg base j "room_of" AX<|spX<|gRO n):FnOk P w K mg base CX0 (j+1) f fd AL<|spX<|gRS n:=by refine jP F ju_ (λv=>(cR<|eU<|lQ ju_ [] (jL `e) kU (eJ b<|eQ `e))) λs Q h=>?_;obtain⟨a,rfl,l,e,u,o,q⟩:=h;refine#[rfl,?_];refine#[show(xK a).length<=_ by rw[f9,aB];lia,show cB _ _ _ _ _ (xK a) _ _ from ?_];rw[f9];refine lR Kd.x (λk=>prT k.rm) (λk m r P p=>?_) ?_;obtain ⟨i,g⟩:=List.mem_iff_getElem?.mp m;obtain⟨ok,c⟩:=aSq l g;exact#[k,rfl,ok,nzL c e,o,p];rw [bU,aAe];exact q
def aXe(F:Fun K "room_of_row" "room_of_row" em_ f fd)(i:Cal P w K mg base j "room_of" AX<|spX<|gRO n)(b:Cal P w K mg base 2 "step_of" ["room"] (spX gSO))(u:2<=j):FnOk P w K mg base CX0 (j+1) f fd ["kind","n"] (spX<|gRR n):=by
 refine jP F gj_ (λv=>(cG (gK gj_ 2<|eJ i<|eQ `e)
  (cR<|eU<|jQ<|cQ (es_ `k (eJ b<|eQ<|xv 2))<|dH K<|xv 2))) λs Q h=>?_
 obtain⟨a,m,rfl,e,c,g,y,z,q⟩:=h;refine#[rfl,?_];obtain⟨l,o,p,r⟩:=bKz (n:=n) e c g;obtain⟨A,B⟩:=rC (n:=a.rm.1) (m:=a.rm.2) `b;exact#[a,rfl,e,c,g,a.rm,rfl,l,by lia,by lia,by lia,`s,kK,q]
def aXi(F:Fun K "room_of_record" "room_of_record" ca_ f fd)(T:Cal P w K mg base j "rooms_of" AL<|spX<|gRS n)(U:Cal P w K mg base 1 "greatest_multiple" AZ<|spX gGM)(m:Cal P w K mg base 2 "places_behind" AZ<|spX gPB)(R:Cal P w K mg base 1 "rounded_up" AC<|spX gRU)(B:Blt mg)(hj:2<=j) :
  FnOk P w K mg base CX0 (j+1) f fd AL (spX<|gRL yT n):=by
 refine aEz F fT (λY Q h=>by obtain⟨_,rfl,_⟩:=h;rfl) `a λAj A y s H E l=>?_;refine#[_,(cG (gK fT 1<|eJ T<|eQ `e)
  (cG (gK fT 2<|eJ U<|eQ `k)
  (cG (o_ λF=>PS.weak (gz_ (i:=3) fT.nd rfl rfl (dsc:=aP ca_) (N:=["kinds","rooms","multiple","ends"]) (tgs:=["place","room"]) (outs:=[]) (N':=["place","room"]) (by refine#[rfl,?_,?_,?_,rfl,?_,?_,?_]<;>decide +kernel) (XIt.at (Ex:=cY) F (i0 B.zip<|cQ (eJ m<|eQ `k) `k)) (λ_ _ _ _ _=>(kh_ K (n:=2) rfl rfl<|lD (iK (i:=0) (show(["place","room"]:Q3).Nodup by decide +kernel) rfl `l (.inr rfl))<|lD (iK (i:=1) (show(["place","room"]:Q3).Nodup by decide +kernel) rfl `l (.inr rfl)) cv_)) (ie_<|t9 `a (t9 `a fw_ t_) (bm_ t_)) (λa b c d e=>XCs.at (Ex:=cY) F kU) (λa b c d e=>XE.at (Ex:=cY) F (lS `e (dH K `k))))<|lW (fs_ (n:=2) (is:=[0,1]) rfl `a) `a)
  (cR<|eU<|jQ<|cQ (eJ R<|cQ (mV rfl rfl B.max (eQ<|xv 3)<|nE ki_ vK)<|xv 2)<|xv 2)))),λY Q h=>?_]
 obtain⟨J,rfl,D,C,G,I,q⟩:=h;have g:=d_ D C I;refine#[J,rfl,D,C,G,I,?_];generalize S:rmK J=rs at g q;have o:rs.length<=10:=by rw[<-S,aYx];exact G
 obtain⟨W,c1⟩:=gb_ (e:=0) (Int.zero_le_ofNat 0) g;have c2:(rs.length:Int)*(2^150+8)<=10*(2^150+8):=cD (Nat.ToInt.of_le rfl rfl o) `a;obtain⟨x0,x1⟩:=sU g;refine#[rs,rfl,o,λr l=>(g r l).2.2.1,?_];refine#[rs,rfl,o,g,?_];have v:(jJ ((lI 0 rs).map Dx.int)<|rs.map prT).length<=1000000:=by rw[dw_,aB,dU];lia
 refine#[v,show cB _ _ _ _ _ (jJ ((lI 0 rs).map Dx.int)<|rs.map prT) _ _ from ?_];rw[dw_];refine lR _ (λp:Int×(Int×Int)=>Dx.int<|p.1+p.2.1) (λp hp Ac P x=>x) ?_;have k:(((lI 0 rs).zip rs).map λp=>Dx.int<|p.1+p.2.1)=(ends 0 rs).map Dx.int:=by rw[b8,bH];rfl
 rw[k];refine#[ends 0 rs,rfl,λZ=>?_,λM u O=>?_];have:rs=[]:=by
  cases rs with
  |nil=>rfl
  |cons r t=>cases Z
 subst this;exact#[_,_,rfl,by decide,by decide,by decide,by decide,kK,q];have L:rs≠[]:=fun z=>by rw [z] at u; cases u
 obtain⟨V,t2⟩:=b9 (e:=0) (λr l=>#[(g r l).1,by have:=(g r l).2.2.1;exact gX this]) L;have:M=dL 0 rs:=Int.le_antisymm (t2 M u)<|O _ V;subst this;exact#[_,_,rfl,W,by lia,gX x0,by lia,kK,q]
def aXh(F:Fun K "room_of_choice" "room_of_choice" de_ f fd)(E:Cal P w K mg base j "rooms_of" AL<|spX<|gRS n)(G:Cal P w K mg base 1 "greatest_multiple" AZ<|spX gGM)(c:Cal P w K mg base 2 "chosen_at" ["multiple"] (spX gCA))(A:Cal P w K mg base 1 "rounded_up" AC<|spX gRU)(B:Blt mg)(N:2<=j) :
  FnOk P w K mg base CX0 (j+1) f fd AL (spX<|gRL tR n):=by
 refine jP F br_ (λb=>(cG (gK br_ 1<|eJ E<|eQ `e)
  (cG (gK br_ 2<|eJ G<|eQ `k)
  (cG (gK br_ 3<|mV rfl rfl B.max (eQ<|lQ br_ [] (jL `k) kU `j)<|nE ki_ vK)
  (cR<|eU<|jQ<|cQ (eJ A<|cQ (lS (eJ c<|eQ<|xv 2)<|xv 3)<|xv 2)<|xv 2))))) λL Q h=>?_
 obtain⟨u,rfl,l,i,o,s,q⟩:=h;refine#[rfl,?_];have a:=d_ l i s;refine#[u,rfl,l,i,o,s,?_];generalize C:rmK u=rs at a q;have D:rs.length<=10:=by rw[<-C,aYx];exact o
 obtain⟨S,T⟩:=sU a;obtain⟨O,R⟩:=rC (n:=1) (m:=fK 1 (rs.map (·.2))) `b;have U:0<=fK 0 (rs.map (·.1)):=lZ _;have W:fK 0 (rs.map (·.1))<=2^150:=io_ `a λz I=>by obtain⟨r,b,rfl⟩:=aY.mp I;exact(a r b).2.1
 refine#[rs,rfl,D,λr b=>(a r b).2.2.1,?_];refine#[show(rs.map prT).length<=_ by rw[aB];lia,show cB _ _ _ _ _ (rs.map prT) _ _ from ?_];refine lR prT (λr=>.int r.1) (λr b J P p=>p) ?_;refine#[rs.map (·.1),by rw[bH];rfl,λH=>?_,λM g y=>?_];have:rs=[]:=gC.mp H;subst this;exact#[_,rfl,by decide,by decide,_,_,rfl,by decide,by decide,by decide,by decide,kK,q];obtain ⟨r,v,rfl⟩:=aY.mp g;have e:=(vZ (d:=0) g (a r v).1 y);rw[e];exact#[_,rfl,by lia,by lia,_,_,rfl,by lia,by lia,by lia,by lia,kK,q]
def aXf(F:Fun K "room_of" "room_of" jy_ f fd)(e:Cal P w K mg base j "room_of_row" ["kind","n"] (spX<|gRR n))(b:Cal P w K mg base j "room_of_record" AL<|spX<|gRL yT n)(c:Cal P w K mg base j "room_of_choice" AL<|spX<|gRL tR n) :
  FnOk P w K mg base CX0 (j+1) f fd AX (spX<|gRO<|n+1):=by
 refine jP F oZ (λy=>(cG (iY (kI `j lB) (cR<|eU<|jQ<|cQ `j `j) jH)
  (cG (iY (kI `j lB) (cR<|eU<|eJ e<|cQ `j `j) jH)
  (cG (iY (kI `j lB) (cR<|eU<|eJ b<|eQ<|lQ oZ [] (jL `j) kU `j) jH)
  (cR<|eU<|eJ c<|eQ `j))))) λu Q h=>?_
 obtain⟨o,rfl,a,g,i,q⟩:=h;refine#[rfl,?_];cases o with
 |num z m=>exact#[kK,q]
 |row k m => exact#[k,m,rfl,a.1,cJ g,eW i,a.2.1,a.2.2,q]
 |rcd fs => have l:=a.2;refine#[show(xF fs).length<=_ by rw[gh_,aB];lia,show cB _ _ _ _ _ (xF fs) _ _ from ?_];rw[gh_];refine lR _ (λf:Str×Kd=>f.2.x) (λf v s P p=>p) ?_;refine#[fs.map (·.2),by rw[bU,f9,bH];rfl,aAx a.1,by rw[fu_];exact cJ g,by rw[aB];exact l,eW i,?_];rw[aAf];exact q
 |cho r => exact#[r,rfl,a.1,cJ g,a.2,eW i,q]
end
def wL(w:Way):Q6:=[w.1,(w.2.1:Int),w.2.2]
def aYw(a b:Way):HT.lexLt (wL a) (wL b)=wlt a b:=by
 obtain⟨c,e,i⟩:=a;obtain⟨f,g,j⟩:=b;show HT.lexLt [c,(e:Int),i] [f,(g:Int),j]=_;rw[HT.lexLt_cons,HT.lexLt_cons,HT.lexLt_cons,HT.lexLt_nil_nil];show _=if c=f then(if e=g then decide (i<j)else decide (e<g))else decide (c<f)
 by_cases h:c=f;rw [if_pos h,if_pos h];by_cases l:e=g;rw [if_pos<|Int.ofNat_inj.mpr l,if_pos l];by_cases m:i=j;rw[if_pos m,dzF `b];rw[if_neg m];rw [if_neg `b,if_neg l];exact decide_eq_decide.mpr #[λ_=>by lia,λ_=>by lia];rw[if_neg h,if_neg h]
def bAs:∀g,g<32->∀i,i<5->(Builtin.bitAnd ((g:Nat):Int) (1*2^((i:Nat):Int).toNat) != 0)=g.testBit i:=by decide +kernel
def j_:∀i,i<6->(1:Int)*2^((i:Nat):Int).toNat=((2^i:Nat):Int):=by decide +kernel
def aHn(x:(Int×Int)×Int):Int×Int:=(x.2,x.2+x.1.1)
abbrev uB:Int:=32*(2^150+8)
def LyOk(m:Nat)(ly:Q4):Prop:=jW ly/\ly.length<=50/\m<=16/\∀s∈ly,s.2<=m*uB
def LyOk.nn(h:LyOk m ly)(e:s∈ly):0<=s.1/\0<=s.2/\s.2<2^170:=by have a:=h.1.1 s e;have b:=h.2.2.2 s e;have c:(m:Int)*uB<=16*uB:=cD (by have:=h.2.2.1;lia) `a;lia
def Rs2(rs:Q4):Prop:=qZ rs/\∀k,k<rs.length->(rk rs k).1<=2^150
def sG(h:rs[i]? = some r):rk rs i=r:=by unfold rk;rw[bA,h];rfl
def aHa(a:Rs2 rs)(e:LyOk m ly)(b:g<2^rs.length):0<=(way rs ly g).1/\(way rs ly g).1<=m*uB+31*(2^150+8)/\(way rs ly g).1<2^171:=by have h:=aX b<|cz_ _ (by have:=a.1.1;exact eV this);have i:=aUj (ly:=ly) a.1 (Int.mul_nonneg `b `a) (λs f=>e.2.2.2 s f) a.2 `a g b;have c:(m:Int)*uB<=16*uB:=cD (by have:=e.2.2.1;lia) `a;exact#[oJ a.1 g b,by lia,by lia]
def p8{i j}{a b}{ρ}{Q}(h:Q<|(ρ.set i<|vT a).set j<|vT b):gxT [i,j] (.tup [a,b]) ρ Q:=h
abbrev wT(w:Way):Dx:=yD<|wL w
def gFP:GC:=λc Q=>∃(b:Int) (r:Int×Int) (a:Q4),c=[.int b,prT r,.lst<|a.map prT]/\0<=b/\b<2^190/\1<=r.2/\r.2<=8/\(∀s∈a,0<=s.2/\s.2<2^190)/\Q (.tr<|.int<|fr a b r)
def gSA:GC:=λc Q=>∃(a:Q4) (b:Q6),c=[.lst<|a.map prT,.lst<|b.map Dx.int]/\a.length<=10/\Q (.ol<|((a.zip b).map aHn).map prT)
def gGE:GC:=λb Q=>∃a:Q4,b=[.lst<|a.map prT]/\a.length<=1000/\(∀s∈a,0<=s.2)/\Q (.tr (.int (fK 0 (a.map (·.2)))))
def gCW:GC:=λc Q=>∃(g m:Nat) (a b:Q4),c=[.int (g:Int),.lst<|(wy a b<|g-1).map wT,.lst<|a.map prT,.lst<|b.map prT]/\Rs2 a/\LyOk m b/\0<g/\g<2^a.length/\Q (.tr<|wT<|way a b g)
def gBF:GC:=λc Q=>∃(m:Nat) (a b:Q4),c=[.lst<|(wy a b<|iS a).map wT,.int (a.length:Int)]/\Rs2 a/\LyOk m b/\Q (.ol<|(dpP a b).map Dx.int)
def gCC:GC:=λc Q=>∃(m:Nat) (b a:Q4),c=[.lst<|b.map prT,.lst<|a.map prT]/\Rs2 b/\LyOk m a/\Q (.ol<|(dpP b a).map Dx.int)
def gPC(n:Nat):GC:=λc Q=>∃(m:Nat) (a:R6) (b:Q4),c=[.lst<|xK a,.lst<|b.map prT]/\okK a/\dS a<=n/\n<=12/\Rs2 (rmK a)/\LyOk m b/\∀e:Int,Q<|.tr<|.tup [.lst<|(dpP (rmK a) b).map Dx.int,.int e]
section
variable{f:Addr}{n j:Nat}
def aYg(F:Fun K "free_place" "free_place" iy_ f fd)(B:Cal P w K mg base 1 "rounded_up" AC<|spX gRU):FnOk P w K mg base CX0 2 f fd BL<|spX gFP:=by
 refine jP F hV (λM=>(cG (gK hV 3<|eJ B<|cQ `e (dH K `k))
  (cG (xO PassesOwn.never rfl (jL<|xv 2) (iK (i:=4) hV.nd rfl `l) (tZ (n:=99) (i:=4) `a)<|cR<|iY (XW.pt<|h_ (kT kl_ kj_ (dH K<|xv 4) (lS (xv 3)<|dH K `k)<|cP _)<|uI<|kT kl_ kj_ (xv 3) (dH K<|xv 4)<|cP _) (cR<|gK hV 3<|eJ B<|cQ (dH K<|xv 4)<|dH K `k) jH)
  (cR<|eU<|dp_<|pv 3)))) λJ Q h=>?_
 obtain⟨b,r,u,rfl,E,I,N,O,s,q⟩:=h;refine#[rfl,?_];refine#[b,r.2,rfl,E,by lia,by lia,by lia,?_];refine xQ prT (λrest A=>∃(a:Q4) (y:Sl),u=a++rest/\A=[vT<|.int b,vT<|prT r,vT<|.lst<|u.map prT,vT<|.int<|a.foldl (dD r)<|up b r.2,y]) (λA h=>?_) (λc rest A D h G=>?_) #[[],.un,rfl,rfl];obtain ⟨a,y,l,rfl⟩:=h;rw[aU]at l;subst l;exact q;obtain ⟨a,y,l,rfl⟩:=h;obtain⟨H,R⟩:=s c (by rw[l];exact aG _ aA);have C:(a++[c]).foldl (dD r) (up b r.2)=dD r (a.foldl (dD r)<|up b r.2) c:=by rw[List.foldl_append];rfl
 generalize L:a.foldl (dD r) (up b r.2)=p at C ⊢;have g:∀v,dD r p c=v->D [vT<|.int b,vT<|prT r,vT<|.lst<|u.map prT,vT<|.int v,vT<|prT c]:=λv e=>G _ #[a++[c],_,by rw[l,bK];rfl,by rw[C,e]];show if decide (c.1<p+r.1)=true then _ else _
 by_cases m:c.1<p+r.1;rw [if_pos<|dzT m];show if decide (p<c.2)=true then _ else _
 by_cases o:p<c.2;rw [if_pos<|dzT o];exact#[c.2,r.2,rfl,H,by lia,by lia,by lia,g _<|if_pos #[m,o]];rw [if_neg (by rw [decide_eq_true_eq]; exact o)];exact g _<|if_neg λz=>o z.2;rw [if_neg (by rw [decide_eq_true_eq]; exact m)];exact g _<|if_neg λz=>m z.1
def aXd(F:Fun K "stretches_at" "stretches_at" gm_ f fd)(B:Blt mg):FnOk P w K mg base CX0 1 f fd BC<|spX gSA:=by refine jP F fi_ (λm=>(cR<|eU<|aGq fi_ [] (i0 B.zip<|cQ `e `k) kU (jQ<|cQ `k (lS `k `j)))) λg Q h=>?_;obtain⟨b,a,rfl,i,q⟩:=h;refine#[rfl,?_];refine#[show(jJ (b.map prT)<|a.map Dx.int).length<=1000000 by rw[dw_,aB,dU];lia,show cB _ _ _ _ _ (jJ (b.map prT)<|a.map Dx.int) _ _ from ?_];rw[dw_];refine lR _ (λp:(Int×Int)×Int=>prT<|aHn p) (λp l e P c=>#[kK,c]) ?_;rw[bH]at q;exact q
def aYe(F:Fun K "greatest_end" "greatest_end" gp_ f fd)(B:Blt mg):FnOk P w K mg base CX0 1 f fd BO<|spX gGE:=by refine jP F fm_ (λl=>(cR<|eU<|mV rfl rfl B.max (eQ<|lQ fm_ [] (jL `e) kU `j)<|nE ki_ vK)) λo Q h=>?_;obtain⟨a,rfl,s,i,q⟩:=h;refine#[rfl,?_];refine#[show(a.map prT).length<=_ by rw[aB];lia,show cB _ _ _ _ _ (a.map prT) _ _ from ?_];refine lR prT (λr=>.int r.2) (λr l m P p=>p) ?_;refine#[a.map (·.2),by rw[bH];rfl,λg=>?_,λM b e=>?_];rw[g]at q;exact q;obtain ⟨r,c,rfl⟩:=aY.mp b;rw[<-vZ (d:=0) b (i r c) e]at q;exact q
def aYk(F:Fun K "closest_way" "closest_way" hp_ f fd)(E:Cal P w K mg base 2 "free_place" BL<|spX gFP)(B:Blt mg):FnOk P w K mg base CX0 3 f fd AU<|spX gCW:=by
 refine jP F fZ (λhr=>(cG (gK fZ 4<|mG kF)
  (cG (xO PassesOwn.never rfl (aNd B.enumerate<|eQ<|xv 2) (hq_ rfl<|lD (iK (i:=5) fZ.nd rfl `l)<|lD (iK (i:=6) fZ.nd rfl `l) cv_) (fs_ (n:=99) (is:=[5,6]) rfl `a) (cR (iY (aMy<|aNj `e (uM cZ<|xv 5)) (cG (gK fZ 7<|eJ E<|iW (dH K<|mO K `k (fc_ `e (uM cZ<|xv 5)))<|cQ (xv 6)<|xv 3)
  (cR<|fb_ 4<|jQ<|iW (lS (xv 7)<|dH K<|xv 6)<|cQ (xv 5)<|xv 7)) jH)))
  (cR<|eU<|d4 (aFg rfl<|rB hr) aQy `t B.min t7 (eQ<|xv 4))))) λds Q h=>?_
 obtain⟨g,m,c,ly,rfl,C,H,g0,T,q⟩:=h;refine#[rfl,?_];have h5:=C.1.1;have N:g<32:=aX T<|cz_ _ `b;refine#[bL _,?_];dsimp only;generalize Iu:(wy c ly<|g-1).map wT=W;change dO _ _ [vT<|.int (g:Int),vT<|.lst W,vT<|.lst<|c.map prT,vT<|.lst<|ly.map prT,.v<|.ol [],.un,.un,.un] _;refine dd_ (λl=>∃(v y o:Sl),l=[vT<|.int (g:Int),vT<|.lst W,vT<|.lst<|c.map prT,vT<|.lst<|ly.map prT,.v<|.ol<|(gW c ly (wy c ly<|g-1) g c.length).map wT,v,y,o]) ?_<|λnx C8=>?_;rintro l ⟨v,y,o,rfl⟩;obtain⟨⟨x,M2,Nv,_⟩,_⟩:=fv_ (ly:=ly) C.1 g0 T;refine#[(gW c ly (wy c ly<|g-1) g c.length).map wL,by rw[bH];rfl,λz=>?_,λt ht Cf=>?_];have:jT c ly (wy c ly<|g - 1) g x∈gW c ly (wy c ly<|g - 1) g c.length:=aY.mpr #[x,cA.mpr #[eP.mpr M2,Nv],rfl];rw[gC.mp z]at this;cases this;obtain ⟨M,hM,rfl⟩:=aY.mp ht;have D:M=aEl (gW c ly (wy c ly<|g-1) g c.length):=aPo hM λb u=>by have Y:=Cf _<|aY.mpr #[b,u,rfl];rw[aYw]at Y;exact Y
 have h3:way c ly g=M:=by obtain⟨S,rfl⟩:∃S,g=S+1:=#[g-1,by lia];rw[oI,D];rfl
 rw[<-h3];exact q;show hU _ _ _ (aFa<|c.map prT) _;have eE:aFa (c.map prT)=((List.range c.length).zip c).map λp=>Dx.tup [.int<|0+(p.1:Int),prT p.2]:=by unfold aFa gZ;rw[aB,dw_]
 rw[eE];refine xQ (λp:Nat×(Int×Int)=>Dx.tup [.int<|0+(p.1:Int),prT p.2]) (λrest l=>∃(a:List<|Nat×(Int×Int)) (v y o:Sl),(List.range c.length).zip c=a++rest/\l=[vT<|.int (g:Int),vT<|.lst W,vT<|.lst<|c.map prT,vT<|.lst<|ly.map prT,.v<|.ol<|(gW c ly (wy c ly<|g-1) g a.length).map wT,v,y,o]) (λl h=>?_) (λV rest l Kn h hk=>?_) #[[],.un,.un,.un,rfl,rfl];obtain ⟨a,v,y,o,A,rfl⟩:=h;rw[aU]at A;have hl:a.length=c.length:=by rw[<-A,dU,bY,Nat.min_self]
 rw[hl];exact C8 _ #[_,_,_,rfl];obtain ⟨a,v,y,o,A,rfl⟩:=h;have F4:((List.range c.length).zip c)[a.length]? = some V:=by rw[A,bW<|aO _,iA];rfl
 obtain⟨U,D⟩:=cW.mp F4;have I:=(aK.mp D).1;rw[iF I]at U;obtain⟨k,r⟩:=V;cases(ozI U);have G:=sG D;obtain⟨r1,r2,r3⟩:=C.1.2 a.length I;rw[G]at r1 r2 r3;have J:=C.2 a.length I;rw[G]at J;have Nr:=bAs g N a.length `b;have Ed:=j_ a.length `b;have R:=t5 c ly (wy c ly<|g-1) g a.length;have Af:(gW c ly (wy c ly<|g-1) g a.length).length<=a.length:=by unfold gW;rw[aB];exact nzL (cM _ _) (by rw[bY];exact aO _)
 have O:∀l,l=[vT<|.int (g:Int),vT<|.lst W,vT<|.lst<|c.map prT,vT<|.lst<|ly.map prT,.v<|.ol<|(gW c ly (wy c ly<|g-1) g<|a.length+1).map wT,vT<|.int<|0+(a.length:Int),vT<|prT r,l.getD 7 .un]->Kn l:=λl e=>hk l #[a++[(a.length,r)],_,_,_,by rw[A,bK];rfl,by rw[aI];exact e];refine p8 ?_;show xIf _ _ _ [vT<|.int (g:Int),vT<|.lst W,vT<|.lst<|c.map prT,vT<|.lst<|ly.map prT,.v<|.ol<|(gW c ly (wy c ly<|g-1) g a.length).map wT,vT<|.int<|0+(a.length:Int),vT<|prT r,o] _;refine wN (g.testBit a.length) (ρ':=[vT<|.int (g:Int),vT<|.lst W,vT<|.lst<|c.map prT,vT<|.lst<|ly.map prT,.v<|.ol<|(gW c ly (wy c ly<|g-1) g a.length).map wT,vT<|.int<|0+(a.length:Int),vT<|prT r,o]) (λQ q=>?_) (λu=>?_)<|λu=>?_;refine #[#[by lia,by lia,by decide],?_];show Q (Builtin.bitAnd (g:Int) (1*2^((0+(a.length:Int))).toNat) != 0) _;have Ak:(Builtin.bitAnd (g:Int) (1*2^((0+(a.length:Int))).toNat) != 0)=g.testBit a.length:=by rw[iC];exact Nr
 rw[Ak];exact q;obtain ⟨b1,_⟩:=lV g N a.length `b u;have p2:0<2^a.length:=eY a.length;have De:((g:Int)-1*2^(0+(a.length:Int)).toNat)=((g-2^a.length:Nat):Int):=by rw[iC,Ed];lia
 obtain⟨L,a0,a1⟩:=aHa (ly:=ly) C H (g:=g-2^a.length) `b;have hW:W[g-2^a.length]? = some (wT<|way c ly<|g-2^a.length):=by rw[<-Iu,bI,aJ (by rw[gi_];lia)];have:=oG c ly (g:=g-2^a.length) (h:=g-1) `b;rw[bA,aJ (by rw[gi_];lia)]at this;rw[Option.map_some,<-this];rfl
 refine#[#[by lia,by lia,by decide],?_];show(match atI W ((g:Int)-1*2^(0+(a.length:Int)).toNat)with | some d=>_ | none=>False);rw[De,dh_ hW];refine#[(way c ly<|g-2^a.length).1,r,ly,rfl,L,by lia,by lia,r3,λs Z=>#[(H.nn Z).2.1,by have:=(H.nn Z).2.2;lia],?_];refine#[rfl,(by show 3<=1000000;decide),by rw[aB];lia,O _ ?_];have Ke:jT c ly (wy c ly<|g-1) g a.length=(fr ly (way c ly<|g-2^a.length).1 r+r.1,a.length,fr ly (way c ly<|g-2^a.length).1 r):=by unfold jT;rw[oG c ly (g:=g-2^a.length) (h:=g-1) `b,G]
 have hw:[jT c ly (wy c ly<|g-1) g a.length].map wT=[Dx.tup [.int<|fr ly (way c ly<|g-2^a.length).1 r+r.1,.int<|0+(a.length:Int),.int<|fr ly (way c ly<|g-2^a.length).1 r]]:=by rw[Ke,iC];rfl
 rw[R,u,if_pos rfl,aZ,hw];rfl;refine O _ ?_;rw[R,u,if_neg `a];rfl
end
def aQn(rs ly:Q4):((wy rs ly<|iS rs).map wT).length=iS rs+1:=by rw[aB,gi_]
def aUh(rs ly:Q4)(e:g<=h):((wy rs ly h).map wT)[g]? = some (wT<|way rs ly g):=by rw[bI,aJ (by rw[gi_];exact eV e)];have:=oG rs ly (g:=g) (h:=h) e;rw[bA,aJ (by rw[gi_];exact eV e)]at this;rw[Option.map_some,<-this];rfl
def aFo(i:qZ rs)(r:jW ly)(f:0<g)(h:g<2^rs.length)(ps:Q6):∃k,k<rs.length/\(way rs ly g).2.1=k/\2^k<=g/\rV rs ly g g ps=rV rs ly (g-2^k) (g-2^k) (ps.set k (way rs ly g).2.2):=by
 obtain⟨⟨k,o,m,e⟩,_⟩:=fv_ (ly:=ly) i f h;have l:=i.1;have q:=aX h<|cz_ _<|eV l;obtain⟨a,b⟩:=lV g q k (aX o l) m;have j:(way rs ly g).2.1=k:=by rw[e]
 have p:0<2^k:=eY _;refine#[k,o,j,Nat.ge_two_pow_of_testBit m,?_];obtain⟨c,rfl⟩:∃c,g=c+1:=#[g-1,(Nat.sub_eq_iff_eq_add f).mp rfl];show(if c+1=0 then ps else rV rs ly c (c+1-2^(way rs ly<|c+1).2.1) (ps.set (way rs ly<|c+1).2.1 (way rs ly<|c+1).2.2))=_;rw[if_neg<|Nat.ne_zero_of_lt f,j];exact uF i r _ _ _ _ `b (aO _) (Nat.sub_lt_of_lt h)
def aZo{n:Nat}{i:Int}(a:0<=i)(b:i<n):ixN n i=some i.toNat:=by unfold ixN;rw[if_pos a,if_pos b]
def yS:∀n:Nat,(List.replicate n [Dx.int 0]).flatten=(List.replicate n (0:Int)).map Dx.int
 | 0=>rfl
 |n+1=>by rw[fA,fA,List.flatten_cons,yS n];rfl
section
variable{f:Addr}{n j:Nat}
def aYq(F:Fun K "places_back_from" "places_back_from" dy_ f fd)(B:Blt mg):FnOk P w K mg base CX0 1 f fd ["ways","how_many"] (spX gBF):=by
 refine jP F bj_ (λS=>(cG (gK bj_ 2<|es_ (mG<|eQ cZ) `k)
  (cG (gK bj_ 3<|fc_ (tS `e) cZ)
  (cG (aGg PassesOwn.never (kT aAv aAs (xv 3) cZ<|cP _) (cG (gK bj_ 4<|mO K `e (xv 3))
  (cG (o_ λF=>PS.weak (kf_ (XE.at (Ex:=cY) F (dH K<|xv 4)) (aIu (pv 2) (XE.at (Ex:=cY) F (dH K<|xv 4)) yK)) x9)
  (cR<|gK bj_ 3<|fc_ (xv 3)<|uM cZ<|dH K<|xv 4))))
  (cR<|eU<|dp_<|pv 2))))) λM Q h=>?_
 obtain⟨m,a,ly,rfl,p,C,q⟩:=h;refine#[rfl,?_];have O:=p.1.1;have G:=lc_ a;have L:=cz_ a.length `b;refine#[(by show 1<=1000000;decide),#[by lia,by lia,by rw[eX];show 1*_<=_;lia],?_];dsimp only;generalize l:(wy a ly<|iS a).map wT=W;have E:W.length=iS a+1:=by rw[<-l];exact aQn a ly
 change dO (aGr _ _) _ [vT<|.lst W,vT<|.int (a.length:Int),.v<|.ol (List.replicate ((a.length:Int)).toNat [Dx.int 0]).flatten,vT<|.int<|(W.length:Int)-1,.un] _;rw[eX,yS,show((W.length:Int)-1)=((iS a:Nat):Int) by lia];refine#[λg i=>∃(b:Q6) (e:Sl),g<2^a.length/\b.length=a.length/\rV a ly g g b=dpP a ly/\i=[vT<|.lst W,vT<|.int (a.length:Int),.v<|.ol<|b.map Dx.int,vT<|.int (g:Int),e],#[iS a,_,_,G,bN,rfl,rfl],?_];rintro g i ⟨b,e,H,I,r,rfl⟩;show(if decide ((0:Int)<(g:Int))=true then _ else _);by_cases A:0<g;rw [if_pos<|dzT `b];obtain⟨k,R,o,N,z⟩:=aFo (ly:=ly) p.1 C.1 A H b;refine#[λi=>∃c,c<g/\∃(b:Q6) (e:Sl),c<2^a.length/\b.length=a.length/\rV a ly c c b=dpP a ly/\i=[vT<|.lst W,vT<|.int (a.length:Int),.v<|.ol<|b.map Dx.int,vT<|.int (c:Int),e],λJ h=>h,?_];have D:atI W (g:Int)=some (wT<|way a ly g):=by refine dh_ ?_;rw[<-l];exact aUh a ly (by have:iS a=2^a.length-1:=rfl;lia)
 show(match atI W (g:Int)with | some d=>_ | none=>False);rw[D];dsimp only;refine#[rfl,?_];show(match ixN (b.map Dx.int).length ((way a ly g).2.1:Int)with | some n=>_ | none=>False);rw[o,show ixN (b.map Dx.int).length (k:Int)=some k from by rw[aZo `b (by rw[aB];lia)];rfl];have u:=j_ k `b;have T:0<2^k:=eY k;refine#[#[by lia,by lia,by decide],?_];refine#[g-2^k,by lia,b.set k (way a ly g).2.2,vT<|wT<|way a ly g,by lia,by rw[bS];exact I,by rw[<-z];exact r,?_];have s:((g:Int)-1*2^((((way a ly g).2.1:Nat)):Int).toNat)=((g-2^k:Nat):Int):=by rw[o,u];lia
 have v:(b.map Dx.int).set k (.int (way a ly g).2.2)=(b.set k (way a ly g).2.2).map Dx.int:=(List.map_set).symm;rw[<-s,<-v];rfl;rw [if_neg (by rw [decide_eq_true_eq]; lia)];have y:g=0:=by lia
 subst y;have:b=dpP a ly:=r;subst this;exact q
def aYl(F:Fun K "closest_places" "closest_places" ex_ f fd)(o:Cal P w K mg base 3 "closest_way" AU<|spX gCW)(p:Cal P w K mg base 1 "places_back_from" ["ways","how_many"] (spX gBF))(B:Blt mg):FnOk P w K mg base CX0 4 f fd ["rooms","lying"] (spX gCC):=by
 refine jP F gT (λM=>(cG (gK gT 2<|mG<|eQ<|jQ<|iW cZ<|cQ cZ cZ)
  (cG (xO PassesOwn.never rfl (hd_ B.range<|cQ cZ<|uM cZ<|tS `e) (iK (i:=3) gT.nd rfl `l) (tZ (n:=99) (i:=3) `a)<|cR<|fb_ 2<|aNf<|eJ o<|iW (xv 3)<|iW (xv 2)<|cQ `e `k)
  (cR<|eU<|eJ p<|cQ (xv 2)<|tS `e)))) λI Q h=>?_
 obtain⟨m,b,c,rfl,u,v,q⟩:=h;refine#[rfl,?_];have J:=u.1.1;have L:=lc_ b;have G:=cz_ b.length `b;have r:=j_ b.length `b;refine#[(by show 3<=1000000;decide),(by show 1<=1000000;decide),?_];dsimp only;change dO (lT _ _ _) _ [vT<|.lst<|b.map prT,vT<|.lst<|c.map prT,.v<|.ol<|(wy b c 0).map wT,.un] _;refine dd_ (λg=>∃e:Sl,g=[vT<|.lst<|b.map prT,vT<|.lst<|c.map prT,.v<|.ol<|(wy b c<|iS b).map wT,e]) ?_<|λN z=>?_;rintro g ⟨e,rfl⟩;refine#[m,b,c,?_,u,v,q];rw[<-aB (f:=prT) (as:=b)];rfl;refine #[#[by lia,by rw [aB]; lia,by decide],?_];have A:(1*2^(((b.map prT).length:Nat):Int).toNat-1:Int).toNat=iS b:=by rw[aB,r];show _=2^b.length-1;lia
 refine#[#[by decide,by decide,by rw[aB,r];lia,by rw[aB,r];lia],?_];show hU _ _ _ (gZ 1 (1*2^(((b.map prT).length:Nat):Int).toNat-1:Int).toNat) _;rw[A];unfold gZ;refine xQ (λk:Nat=>Dx.int<|1+(k:Int)) (λrest g=>∃(a:R8) (e:Sl),List.range (iS b)=a++rest/\g=[vT<|.lst<|b.map prT,vT<|.lst<|c.map prT,.v<|.ol<|(wy b c a.length).map wT,e]) (λg h=>?_) (λk rest g H h D=>?_) #[[],.un,rfl,rfl];obtain ⟨a,e,l,rfl⟩:=h;rw[aU]at l;refine z _ #[e,?_];rw[<-l,bY];obtain ⟨a,e,l,rfl⟩:=h;have s:(List.range<|iS b)[a.length]? = some k:=by rw[l,bW<|aO _,iA];rfl
 have y:a.length<iS b:=by have:=(aK.mp s).1;rwa [bY]at this
 rw[iF y]at s;cases(ozI s);refine#[rfl,a.length+1,m,b,c,?_,u,v,by lia,by lia,?_];show [Dx.int<|1 + (a.length:Int),Dx.lst<|(wy b c a.length).map wT,_,_]=[Dx.int (((a.length + 1:Nat)):Int),_,_,_];rw[show(1+(a.length:Int))=((a.length+1:Nat):Int) by lia];rfl;refine #[?_,?_];intro d C;obtain⟨i,_,rfl⟩:=aY.mp C;trivial;refine #[by show ((wy b c a.length).map wT).length + 1≤_; rw [aB,gi_]; lia,D _ #[a ++ [a.length],vT<|.int<|1 + (a.length:Int),by rw [l,bK]; rfl,?_]];have E:(wy b c (a++[a.length]).length).map wT=(wy b c a.length).map wT++[wT<|way b c<|a.length+1]:=by rw[aI,oI];show(wy b c<|a.length+1).map wT=_;show(wy b c a.length++[_]).map wT=_;rw[aZ];rfl
 rw[E];rfl
def aXk(F:Fun K "placed_closely" "placed_closely" eu_ f fd)(p:Cal P w K mg base j "rooms_of" AL<|spX<|gRS n)(g:Cal P w K mg base 4 "closest_places" ["rooms","lying"] (spX gCC))(u:Cal P w K mg base 1 "stretches_at" BC<|spX gSA)(v:Cal P w K mg base 1 "greatest_end" BO<|spX gGE)(J:4<=j):FnOk P w K mg base CX0 (j+1) f fd ["kinds","lying"] (spX<|gPC n):=by
 refine jP F cr_ (λN=>(cG (gK cr_ 2<|eJ p<|eQ `e)
  (cG (gK cr_ 3<|eJ g<|cQ (xv 2) `k)
  (cR<|eU<|jQ<|cQ (xv 3)<|eJ v<|eQ<|lS (eJ u<|cQ (xv 2)<|xv 3) `k)))) λH Q h=>?_
 obtain⟨m,a,ly,rfl,C,A,D,b,c,q⟩:=h;refine#[rfl,?_];have G:(rmK a).length=a.length:=by rw[<-aB (f:=prT),<-aAe,aB]
 refine#[a,rfl,C,A,by have:=b.1.1;lia,D,?_];refine#[m,rmK a,ly,rfl,b,c,?_];refine#[rmK a,dpP (rmK a) ly,rfl,by have:=b.1.1;lia,?_];have z:=ld_ (ly:=ly) b.1 c.1;have I:=b.1.1;have O:(((rmK a).zip<|dpP (rmK a) ly).map aHn).length<=5:=by grind
 refine#[by rw[aB,aB (as:=ly)];have:=c.2.1;lia,?_];refine#[((rmK a).zip<|dpP (rmK a) ly).map aHn++ly,by rw[aZ];rfl,by rw[aI];have:=c.2.1;lia,λs e=>?_,by show 2<=1000000;decide,q _];rcases aV.mp e with e | e
 obtain ⟨x,E,rfl⟩:=aY.mp e;obtain⟨i,B⟩:=fX E;obtain⟨l,y⟩:=cW.mp B;have o:=(aK.mp l).1;have L:=(z.ok i o<|eC i).1;have M:pk (dpP (rmK a) ly) i=x.2:=by unfold pk;rw[bA,y];rfl
 have r:=(b.1.2 i o).1;rw[sG l]at r;show 0<=x.2+x.1.1;lia;exact(c.nn e).2.1
end
def zO:∀{xs:Q3},inV (.str x) (xs.map V.str)=true↔x∈xs:=by intro xs;unfold inV;rw[List.any_map,List.any_eq_true];constructor;rintro ⟨y,b,e⟩;have a:=e;rw[<-eq_of_beq a];exact b;intro h;exact#[x,h,(beq_self_eq_true x:(x == x)=true)]
def pC:∀{xs:Q3},(xs.map Dx.str).filterMap scV=xs.map V.str
 | []=>rfl
 |x::xs=>by rw[bG,iI,pC];rfl
def aAb:∀{xs:Q3},((xs.map Dx.str).all λd=>(scV d).isSome)=true
 | []=>rfl
 |x::xs=>by rw[bG,List.all_cons,aAb];rfl
def dc_{f:Type}{n}{gx}{tc}{te}{Q}{cs}(g i:f->Dx)(p:f->Bool){as:List f}(h:∀a∈as,∀(e:Q0) (P:Q0->Q9->Prop),P (e++(if p a=true then [i a]else [])) cs->oS n gx tc te P (g a) cs e)(q:Q ((as.filter p).map i) cs):cB n gx tc te Q (as.map g) cs []:=by refine db_ g (λrest e c=>c=cs/\∃b,as=b++rest/\e=(b.filter p).map i) (λe c l=>?_) (λa rest e c P l k=>?_) #[rfl,[],rfl,rfl];grind;obtain ⟨rfl,b,j,rfl⟩:=l;refine h a (by rw[j];exact aG _ aA) _ P<|k _ _ #[rfl,b++[a],by rw[j,bK];rfl,?_];rw[dG,aZ,gH,List.filter_nil];split<;>rfl
structure Fe where
 nm:Str
 ix:Nat
 kd:Kd
 vd:Vd
 pl:S4
abbrev Q5:=List Fe
def plT:S4->Dx
 |none=>.non
 |some p=>.int p
def Fe.x(e:Fe):Dx:=.tup [.str e.nm,e.kd.x,e.kd.vx e.vd,plT e.pl]
structure Fe.Ok(e:Fe):Prop where
 nm:Nm e.nm
 fit:e.kd.Fit
 deep:e.kd.deep<=3
 val:e.kd.Val e.vd
inductive Ch where
 |drop (nm:Str)
 |add (nm:Str) (kd:Kd) (vd:Vd)
abbrev T1:=List Ch
def Ch.x:Ch->Dx
 | .drop nm=>.tup [.str "drop",.str nm]
 | .add nm kd vd=>.tup [.str "add",.str nm,kd.x,kd.vx vd]
def Ch.isAdd:Ch->Bool
 | .drop _=>false
 | .add _ _ _=>true
abbrev nms(fs:Q5):Q3:=fs.map (·.nm)
def Ch.go(fs:Q5)(k:Nat):Ch->Q5
 | .drop nm=>fs.filter λe=>!decide (e.nm=nm)
 | .add nm kd vd=>fs++[#[nm,k,kd,vd,none]]
def Ch.ct(k:Nat):Ch->Nat
 | .drop _=>k
 | .add _ _ _=>k+1
def Ch.Ok(fs:Q5):Ch->Prop
 | .drop nm=>Nm nm/\nm∈nms fs
 | .add nm kd vd=>Nm nm/\nm∉nms fs/\kd.Fit/\kd.deep<=3/\kd.Val vd
def gIT:GC:=λa Q=>∃(fs:Q5) (nm:Str),a=[.lst<|fs.map Fe.x,.str nm]/\fs.length<=1000/\Q (.tr<|.bl<|decide (nm∈nms fs))
def gNF:GE:=λc Q Ex=>∃(fs:Q5) (nm:Str) (a:Kd) (b:Vd),c=[.lst<|fs.map Fe.x,(Ch.add nm a b).x]/\fs.length<=1000/\(Ch.add nm a b).Ok fs/\∀k,Q<|.tr<|Fe.x #[nm,k,a,b,none]
def gFW(C:Addr):GE:=λa Q Ex=>∃(fs:Q5) (nm:Str),a=[.lst<|fs.map Fe.x,.str nm]/\fs.length<=1000/\Nm nm/\(nm∈nms fs->Q (.ol<|(fs.filter λe=>!decide (e.nm=nm)).map Fe.x))/\(nm∉nms fs->Ex (.ref C))
def aMk(fs:Q5)(d:Dx):Prop:=(∃nm,d=(Ch.drop nm).x/\Nm nm/\nm∉nms fs)\/d=.tup [.str "gone"]
def gFO(C:Addr):GE:=λa Q Ex=>∃(fs:Q5) (d:Dx),a=[.lst<|fs.map Fe.x,d]/\fs.length<=900/\((∃c:Ch,d=c.x/\c.Ok fs/\∀k,Q<|.ol<|(c.go fs k).map Fe.x)\/(aMk fs d/\Ex (.ref C)))
section
variable{f:Addr}{n j:Nat}{a:Addr}
def aXx(F:Fun K "is_there" "is_there" pH f fd):FnOk P w K mg base CX0 1 f fd AJ<|spX gIT:=by
 refine jP F jv_ (λl=>(cR<|eU<|oF (lY K) (pU false) `k (lQ jv_ [] (jL `e) kU `j) (by with_unfolding_all rfl))) λc Q h=>?_;obtain⟨fs,nm,rfl,i,q⟩:=h;refine#[rfl,?_];refine#[show(fs.map Fe.x).length<=1000000 by rw[aB];lia,show cB _ _ _ _ _ (fs.map Fe.x) _ _ from ?_];refine lR Fe.x (λe=>.str e.nm) (λe g b P p=>p) ?_;rw[bU,show fs.map (λe=>Dx.str e.nm)=(nms fs).map Dx.str by rw[bH];rfl];refine#[aAb,?_];have:inV (.str nm) (((nms fs).map Dx.str).filterMap scV)=decide (nm∈nms fs):=by rw[pC,dX,decide_eq_true_eq];exact zO
 rw[<-this]at q;exact q
end
def aHm:∀{l},(∀d∈l,d.Sz)->szX l
 | [],_=>trivial
 |d::r,h=>#[h d aA,aHm λe a=>h e<|aC _ a]
def z_:∀{l},(∀p∈l,p.2.Sz)->aNu l
 | [],_=>trivial
 |d::r,h=>#[h d aA,z_ λe a=>h e<|aC _ a]
def c5:∀{l},(∀d∈l,d.deep<=n)->eM l<=n
 | [],_=>bL _
 |d::r,h=>Nat.max_le.mpr #[h d aA,c5 λe a=>h e<|aC _ a]
def tQ:∀{l},(∀p∈l,p.2.deep<=n)->wU l<=n
 | [],_=>bL _
 |d::r,h=>Nat.max_le.mpr #[h d aA,tQ λe a=>h e<|aC _ a]
mutual
def Kd.vx_sz:∀(l:Kd) (c:Vd),l.Fit->l.Val c->(l.vx c).Sz/\(l.vx c).deep<=l.deep
 | .num w m,c,hf,hv=>by
  cases c with
  |num i=>simp only[Kd.vx,Dx.Sz,Dx.deep,Kd.deep];exact#[trivial,by lia]
  |_=>simp[Kd.Val]at hv
 | .row k m,c,hf,hv=>by
  cases c with
  |row o =>
   simp only[Kd.Val]at hv;have f3:=hf.2.2;have z:∀d∈o.map k.vx,d.Sz/\d.deep<=k.deep:=λd g=>by obtain⟨v,u,rfl⟩:=aY.mp g;exact Kd.vx_sz k v hf.1<|hv.2 v u
   simp only[Kd.vx,Dx.Sz,Dx.deep,Kd.deep];have:=c5 λd g=>(z d g).2;exact#[#[by rw[aB];lia,aHm λd g=>(z d g).1],by lia]
  |_=>simp[Kd.Val]at hv
 | .rcd fs,c,hf,hv=>by
  cases c with
  |rcd o =>
   simp only[Kd.Val]at hv;obtain⟨s,B,f3,q⟩:=hf;have r:=fh_ hv;have z:=aHc fs o s hv;simp only[Kd.vx,Dx.Sz,Dx.deep,Kd.deep];have j:=hf_ r;have y:(vxF fs o).length=fs.length:=by have:=congrArg List.length j;simpa using this
   have:=tQ λd g=>(z d g).2;refine#[#[by lia,?_,z_ λd g=>(z d g).1],by lia];rw[j];have e:(fs.map λf=>(Sum.inr f.1:Key))=(fs.map (·.1)).map (λx:Str=>(Sum.inr x:Key)):=by rw[bH];rfl
   rw[e];exact List.Pairwise.map _ (λa b h e=>h<|Sum.inr.inj e) q
  |_=>simp[Kd.Val]at hv
 | .cho ks,c,hf,hv=>by
  cases c with
  |cho C v => simp only[Kd.Val]at hv;obtain⟨k,j,p⟩:=oM hv;obtain⟨a,b⟩:=aHb ks hf.1 k (aQ j) v p;simp only[Kd.vx,Dx.Sz,Dx.deep,Kd.deep,szX,eM,aL,bE];rw[uO j];have:=Kd.deep_pos k;have A:=(aCh hf.1<|aQ j).2;exact#[#[by lia,trivial,a,trivial],by lia]
  |_=>simp[Kd.Val]at hv
def aHc:∀(fs:S6) (vs:List Vd),lA fs->jD fs vs->∀p∈vxF fs vs,p.2.Sz/\p.2.deep<=gE fs
 | [],_,_,_,p,h=>by simp[vxF]at h
 |_::_,[],_,h,_,_=>by simp[jD]at h
 |f::r,v::vs,hf,hv,p,h=>by
  simp only[jD]at hv;simp only[vxF]at h;have e:gE (f::r)=max f.2.deep (gE r):=rfl;rcases aF.mp h with rfl | h
  obtain ⟨a,b⟩:=Kd.vx_sz f.2 v hf.1.2 hv.1;exact#[a,nzL b `b];obtain ⟨a,b⟩:=aHc r vs hf.2 hv.2 p h;exact#[a,by lia]
def aHb:∀(ks:R6),jG ks->∀k∈ks,∀v,k.Val v->(k.vx v).Sz/\(k.vx v).deep<=k.deep
 | [],_,k,h,_,_=>by simp at h
 |k'::r,hf,k,h,v,hv=>by by_cases e:k=k';rw[e]at hv ⊢;exact Kd.vx_sz k' v hf.1 hv;exact aHb r hf.2 k ((aF.mp h).resolve_left e) v hv
end
def Nm.sz(h:Nm x):x.length<=1000:=by rw[du_];exact nzL h.2.1 `a
mutual
def Kd.xz:∀(k:Kd),k.Fit->k.x.Sz
 | .num w m,h=>by simp only[Kd.x,Dx.Sz,szX,aL,bE];exact#[by decide,by decide +kernel,trivial,trivial,trivial]
 | .row k n,h=>by simp only[Kd.x,Dx.Sz,szX,aL,bE];exact#[by decide,by decide +kernel,Kd.xz k h.1,trivial,trivial]
 | .rcd fs,h=>by have:=h.2.2.1;simp only[Kd.x,Dx.Sz,szX,aL,bE];exact#[by decide,by decide +kernel,#[by rw[gh_,aB];lia,xFz fs h.1],trivial]
 | .cho ks,h=>by have:=h.2.2;simp only[Kd.x,Dx.Sz,szX,aL,bE];exact#[by decide,by decide +kernel,#[by rw[f9,aB];lia,xKz ks h.1],trivial]
def xFz:∀(fs:S6),lA fs->szX (xF fs)
 | [],_=>by simp only[xF,szX]
 |f::r,h=>by simp only[xF,szX,Dx.Sz,aL,bE];exact#[#[by decide,nzL h.1.1.sz `a,Kd.xz f.2 h.1.2,trivial],xFz r h.2]
def xKz:∀(ks:R6),jG ks->szX (xK ks)
 | [],_=>by simp only[xK,szX]
 |k::r,h=>by simp only[xK,szX];exact#[Kd.xz k h.1,xKz r h.2]
end
mutual
def Kd.xd:∀(k:Kd),k.x.deep<=3*k.deep
 | .num w m=>by simp only[Kd.x,Dx.deep,eM];show _<=3*1;lia
 | .row k n=>by have:=Kd.xd k;have a:=Kd.deep_pos k;simp only[Kd.x,Dx.deep,eM];show _<=3*(k.deep+1);lia
 | .rcd fs=>by have:=xFd fs;simp only[Kd.x,Dx.deep,eM];show _<=3*(gE fs+1);lia
 | .cho ks=>by have:=xKd ks;simp only[Kd.x,Dx.deep,eM];show _<=3*(dS ks+1);lia
def xFd:∀(fs:S6),eM (xF fs)<=3*gE fs+1
 | []=>by simp only[xF,eM];lia
 |f::r=>by have a:=Kd.xd f.2;have b:=xFd r;have c:=Kd.deep_pos f.2;simp only[xF,eM,Dx.deep];show _<=3*max f.2.deep (gE r)+1;lia
def xKd:∀(ks:R6),eM (xK ks)<=3*dS ks
 | []=>by simp only[xK,eM];lia
 |k::r=>by have a:=Kd.xd k;have b:=xKd r;simp only[xK,eM];show _<=3*max k.deep (dS r);lia
end
section
variable{f:Addr}{n j:Nat}{a:Addr}
def aXo(F:Fun K "new_field" "new_field" jz_ f fd)(r:Cal P w K mg base 1 "is_name" AB<|spX gNM)(u:Cal P w K mg base 1 "is_there" AJ<|spX gIT)(g:Cal P w K mg base j "is_kind" AB<|spX gIK)(p:Cal P w K mg base j "is_value" AN<|spX<|gIV 3)(m:Cal P w K mg base j "copied" AB<|spX<|gCO 9)(D:1<=j)(l:PyProof.Rows.OwnCls "NoMake" a veM "ValueError.__new__" mg base):FnOk P w K mg base (CXe P w) (j+1) f fd AI<|spE gNF:=by
 refine rO F uZ (λv Q Ex h=>by obtain⟨_,_,_,_,rfl,_⟩:=h;rfl) `a λC A i s H E Ex G=>?_;refine#[_,(cG (iY (XW.pt<|xN (qV<|lC<|eJ r<|eQ<|dH K `k)<|xP<|lC<|eJ u<|cQ `e (dH K `k)) (cR<|cy_ l rfl rfl) jH)
  (cG (iY (XW.pt<|xN (qV<|lC<|eJ g<|eQ<|dH K `k)<|xP<|qV<|lC<|eJ p<|cQ (dH K `k)<|dH K `k) (cR<|cy_ l rfl rfl) jH)
  (cR<|eU<|jQ<|iW (dH K `k)<|iW (eJ m<|eQ<|dH K `k)<|cQ (eJ m<|eQ<|dH K `k) i4))),λv Q h=>?_]
 obtain⟨fs,nm,b,c,rfl,z,⟨B,o,e,y,hv⟩,q⟩:=h;refine kM (ρ':=[vT<|.lst<|fs.map Fe.x,vT (Ch.add nm b c).x]) (λQ q=>?_) ?_;refine #[nm,rfl,B,?_];refine#[fs,nm,rfl,z,?_];rw[dzF o];exact q;refine kM (ρ':=[vT<|.lst<|fs.map Fe.x,vT (Ch.add nm b c).x]) (fun Q q => ?_) ?_;refine #[b,rfl,e,by lia,?_];exact#[b,c,rfl,e,hv,y,q];refine #[b.x,rfl,Kd.xz b e,nzL (Kd.xd b) `b,?_];refine#[b.vx c,rfl,(Kd.vx_sz b c e hv).1,nzL (Kd.vx_sz b c e hv).2 `b,?_];refine#[by show 4<=1000000;decide,?_];have:=q 0;rw[show Fe.x #[nm,0,b,c,none]=.tup [.str nm,b.x.own.d,(b.vx c).own.d,.non] by rw[yY,yY];rfl]at this;exact this
def aYf(F:Fun K "fields_without" "fields_without" ew_ f fd)(i:Cal P w K mg base 1 "is_name" AB<|spX gNM)(l:Cal P w K mg base 1 "is_there" AJ<|spX gIT)(g:PyProof.Rows.OwnCls "NoMake" a veM "ValueError.__new__" mg base):FnOk P w K mg base (CXe P w) 2 f fd AJ<|spE<|gFW a:=by
 refine rO F ef_ (λm Q Ex h=>by obtain⟨_,_,rfl,_⟩:=h;rfl) `a λC A c s H E Ex G=>?_;refine#[_,(cG (iY (XW.pt<|xN (qV<|lC<|eJ i<|eQ `k)<|xP<|qV<|lC<|eJ l<|cQ `e `k) (cR<|cy_ g rfl rfl) jH)
  (cR<|eU<|lQ ef_ [1] (jL `e) (ci_<|rE `j `k) `e)),λm Q h=>?_]
 obtain⟨fs,nm,rfl,o,u,y,v⟩:=h;refine ey_ (!decide (nm∈nms fs)) (ρ':=[vT<|.lst<|fs.map Fe.x,vT<|.str nm]) (λQ q=>?_) (λb=>?_)<|λb=>?_;refine #[nm,rfl,u,?_];exact#[fs,nm,rfl,o,q];refine v fun z => ?_;rw[dzT z]at b;cases b;have r:nm∈nms fs:=by grind
 refine#[show(fs.map Fe.x).length<=1000000 by rw[aB];lia,show cB _ _ _ _ _ (fs.map Fe.x) _ _ from ?_];refine dc_ Fe.x Fe.x (λe=>!decide (e.nm=nm)) (λe D B P p=>?_)<|y r;show(if(!decide (e.nm=nm))=true then _ else _);by_cases z:e.nm=nm;rw [dzT z,if_neg `a] at p ⊢;rw[aU]at p;exact p;rw [dzF z,if_pos `a] at p ⊢;exact p
def aYh(F:Fun K "fields_behind_one" "fields_behind_one" ds_ f fd)(u:Cal P w K mg base 1 "has_form" AG<|spX gHF)(m:mR P w K mg base 2 "fields_without" AJ<|spE<|gFW a)(o:mR P w K mg base (j+1) "new_field" AI<|spE gNF)(G:1<=j)(y:PyProof.Rows.OwnCls "NoMake" a veM "ValueError.__new__" mg base):FnOk P w K mg base (CXe P w) (j+2) f fd AI<|spE<|gFO a:=by
 refine rO F gf_ (λC Q Ex h=>by obtain⟨_,_,rfl,_⟩:=h;rfl) `a λL A r s H E Ex v=>?_;refine#[_,(cG (iY (lC<|eJ u<|iW `k (cQ lB cZ)) (cR<|eU<|cg_ m (v.mono<|Nat.le_add_of_sub_le G)<|cQ `e (dH K `k)) jH)
  (cG (iY (lC<|eJ u<|iW `k (cQ lB cZ)) (cR<|eU<|lS `e (mG<|eQ<|cg_ o (v.mono<|aO<|j+1)<|cQ `e `k)) jH)
  (cR<|cy_ y rfl rfl))),λC Q h=>?_]
 obtain⟨fs,d,rfl,M,h⟩:=h;have D:(∃nm,Nm nm/\d=(Ch.drop nm).x/\(nm∈nms fs->Q (.ol<|(fs.filter λe=>!decide (e.nm=nm)).map Fe.x))/\(nm∉nms fs->Ex `i))\/(∃nm b g,d=(Ch.add nm b g).x/\(Ch.add nm b g).Ok fs/\∀k,Q<|.ol<|(Ch.go fs k<|.add nm b g).map Fe.x)\/(d=.tup [.str "gone"]/\Ex `i):=by
  rcases h with⟨c,rfl,l,q⟩ | ⟨i,q⟩
  cases c with
  |drop nm=>exact .inl #[nm,l.1,rfl,λ_=>q 0,λz=>absurd l.2 z]
  |add nm b g=>exact .inr<|.inl #[nm,b,g,rfl,l,q]
  rcases i with ⟨nm,e,p,B⟩ | e
  exact .inl #[nm,p,e,λz=>absurd z B,λ_=>q];exact .inr<|.inr #[e,q]
 rcases D with⟨nm,p,rfl,J,I⟩ | ⟨nm,b,g,rfl,l,q⟩ | ⟨rfl,q⟩
 refine ey_ true (ρ':=[vT<|.lst<|fs.map Fe.x,vT (Ch.drop nm).x]) (fun Q q => ?_) (fun _ => ?_) (fun i=>by cases i);exact#[_,_,_,_,rfl,q];exact#[fs,nm,rfl,by lia,p,J,I];refine kM (ρ':=[vT<|.lst<|fs.map Fe.x,vT (Ch.add nm b g).x]) (fun Q q => ?_) ?_;exact#[_,_,_,_,rfl,q];refine ey_ true (ρ':=[vT<|.lst<|fs.map Fe.x,vT (Ch.add nm b g).x]) (fun Q q => ?_) (fun _ => ?_) (fun i=>by cases i);exact#[_,_,_,_,rfl,q];refine #[fs,nm,b,g,rfl,by lia,l,fun k => ?_];refine#[by show 1<=1000000;decide,by show(fs.map Fe.x).length+1<=1000000;rw[aB];lia,?_];have:=q k;rw[show(Ch.go fs k<|.add nm b g).map Fe.x=fs.map Fe.x++[Fe.x #[nm,k,b,g,none]] by show(fs++[_]).map Fe.x=_;rw[aZ];rfl]at this;exact this;refine kM (ρ':=[vT<|.lst<|fs.map Fe.x,vT<|.tup [.str "gone"]]) (fun Q q => ?_) ?_;exact#[_,_,_,_,rfl,q];refine kM (ρ':=[vT<|.lst<|fs.map Fe.x,vT<|.tup [.str "gone"]]) (fun Q q => ?_) q;exact#[_,_,_,_,rfl,q]
end
def s_{n}{gx}{tc}{te}{Q}{cs}(p:Dx->Bool){l}(h:∀a∈l,∀(b:Q0) (P:Q0->Q9->Prop),P (b++(if p a=true then [a]else [])) cs->oS n gx tc te P a cs b)(q:Q (l.filter p) cs):cB n gx tc te Q l cs []:=by have:=dc_ (Q:=Q) (λd:Dx=>d) (λd:Dx=>d) p (as:=l) h (by rw[List.map_id'];exact q);rw[List.map_id']at this;exact this
def gos:Q5->Nat->T1->Q5
 |fs,_,[]=>fs
 |fs,k,c::r=>gos (c.go fs k) (c.ct k) r
def cts:Nat->T1->Nat
 |k,[]=>k
 |k,c::r=>cts (c.ct k) r
def chs:Q5->Nat->T1->Prop
 |_,_,[]=>True
 |fs,k,c::r=>c.Ok fs/\chs (c.go fs k) (c.ct k) r
def ir_:∀{a b} {fs} {k},gos fs k (a++b)=gos (gos fs k a) (cts k a) b
 | [],b,fs,k=>rfl
 |c::r,b,fs,k=>ir_ (a:=r)
def wY:∀{a b} {k},cts k (a++b)=cts (cts k a) b
 | [],b,k=>rfl
 |c::r,b,k=>wY (a:=r)
def nW:∀{a b} {fs} {k},chs fs k (a++b)↔chs fs k a/\chs (gos fs k a) (cts k a) b
 | [],b,fs,k=>#[λh=>#[trivial,h],λh=>h.2]
 |c::r,b,fs,k=>by show(c.Ok fs/\chs (c.go fs k) (c.ct k) (r++b))↔(_/\_)/\_;rw[nW (a:=r),and_assoc];rfl
def aZv(fs:Q5)(k:Nat)(c:Ch):(c.go fs k).length<=fs.length+1:=by
 cases c with
 |drop nm=>exact nzL (cM _ _) (eF fs.length 1)
 |add nm a b=>show(fs++[_]).length<=_;rw[aI];exact aO _
def bKe(fs:Q5)(k a:Nat)(c:Ch):(c.go fs k).map Fe.x=(c.go fs a).map Fe.x:=by
 cases c with
 |drop nm=>rfl
 |add nm b e=>show(fs++[_]).map Fe.x=(fs++[_]).map Fe.x;rw[aZ,aZ];rfl
def hb_:∀{cs} {fs} {k},(gos fs k cs).length<=fs.length+cs.length
 | [],fs,k=>aO _
 |c::r,fs,k=>by have a:=hb_ (cs:=r) (fs:=c.go fs k) (k:=c.ct k);have b:=aZv fs k c;show(gos (c.go fs k) (c.ct k) r).length<=_;rw[aL];lia
def mQ(cs:T1):Nat:=(cs.filter Ch.isAdd).length
def dA:Dx->Bool
 | .tup (.str z::l)=>decide ((l.length:Int)+1=4)&&decide (z = "add")
 |_=>false
def bKr(c:Ch):dA c.x=c.isAdd:=by cases c<;>rfl
def wV:∀cs:T1,((cs.map Ch.x).filter dA).length=mQ cs
 | []=>rfl
 |c::r=>by have:=wV r;unfold mQ at this ⊢;rw[bG,gH,gH,bKr];cases c.isAdd;exact this;show _ + 1=_ + 1;rw[this]
def bAk(h:aMk fs d):dA d=false:=by
 rcases h with⟨nm,rfl,_⟩ | rfl
 rfl;rfl
def Fm1(d:Dx):Prop:=∃(z:Str) (l:Q0),d=.tup (.str z::l)
def bAa(c:Ch):Fm1 c.x:=by cases c<;>exact#[_,_,rfl]
def bAb(h:aMk fs d):Fm1 d:=by
 rcases h with⟨nm,rfl,_⟩ | rfl
 exact#[_,_,rfl];exact#[_,_,rfl]
def gFB(C:Addr):GE:=λb Q Ex=>∃(fs:Q5) (l:Q0),b=[.lst<|fs.map Fe.x,.lst l]/\fs.length<=100/\l.length<=100/\(
 (∃k a,l=a.map Ch.x/\chs fs k a/\mQ a<=5/\∀s:Sv,s.d=.lst ((gos fs k a).map Fe.x)->Q s) \/
 (∃k a d,l=a.map Ch.x++[d]/\chs fs k a/\mQ a<=5/\aMk (gos fs k a) d/\Ex (.ref C)) \/
 (∃a,l=a.map Ch.x/\5<mQ a/\Ex (.ref C)))
def fdT(f:Str×Kd×Vd):Dx:=.tup [.str f.1,f.2.1.x,f.2.1.vx f.2.2]
def gCB:GE:=λb Q _=>∃a:List<|Str×Kd×Vd,b=[.lst<|a.map fdT]/\a.length<=100/\Q (.ol<|(a.map λf=>Ch.add f.1 f.2.1 f.2.2).map Ch.x)
section
variable{f:Addr}{n j:Nat}{a:Addr}
def aYm(F:Fun K "changes_to_begin" "changes_to_begin" dz_ f fd)(B:Blt mg)(i:PyProof.Rows.OwnCls "NoMake" a veM "ValueError.__new__" mg base):FnOk P w K mg base (CXe P w) 1 f fd ["fields"] (spE gCB):=by
 refine rO F cb_ (λo Q Ex h=>by obtain⟨_,rfl,_⟩:=h;rfl) `a λu A g s H E Ex y=>?_;refine#[_,(cG (iY (qV<|lC<|a8 .list `e) (cR<|cy_ i rfl rfl) jH)
  (cG (iY (qV<|lC<|d4 (ek_ K rfl) mD rfl B.all mF<|eQ<|lQ cb_ [] (jL `e) kU (dx_ (a8 .tuple `e)<|er_<|aTv (tS `e) cZ)) (cR<|cy_ i rfl rfl) jH)
  (cR<|eU<|lQ cb_ [] (jL `e) kU (v_ K (jQ<|eQ lB) `e)))),λo Q h=>?_]
 obtain⟨c,rfl,v,q⟩:=h;refine kM (ρ':=[vT<|.lst<|c.map fdT]) (λQ q=>q) ?_;refine kM (ρ':=[vT<|.lst<|c.map fdT]) (λQ q=>?_) ?_;refine #[show (c.map fdT).length≤1000000 by rw [aB]; lia,show cB _ _ _ _ _ (c.map fdT) _ _ from ?_];refine lR fdT (λ_=>.bl true) (λe r m P p=>p) ?_;exact ge_ (l:=c) (Q:=λs=>match s with | .tr (.bl b)=>Q (!b) [.v<|.tr<|.lst<|c.map fdT] | _=>False) q;refine #[show (c.map fdT).length≤1000000 by rw [aB]; lia,show cB _ _ _ _ _ (c.map fdT) _ _ from ?_];refine lR fdT (λf=>(Ch.add f.1 f.2.1 f.2.2).x) (λe r m P p=>#[by show 1<=1000000;decide,(λz=>by cases z),by show 1+3<=1000000;decide,p]) ?_;rw[bH]at q;exact q
def aYi(F:Fun K "fields_behind" "fields_behind" fo_ f fd)(Gz:Cal P w K mg base 1 "has_form" AG<|spX gHF)(J:mR P w K mg base j "fields_behind_one" AI<|spE<|gFO a)(hj:1<=j)(B:Blt mg)(Z:∃t,mg "MOST_ADDED" = some (.int 5 t))(T:PyProof.Rows.OwnCls "NoMake" a veM "ValueError.__new__" mg base):FnOk P w K mg base (CXe P w) (j+1) f fd ["there","changes"] (spE<|gFB a):=by
 refine rO F fF (λM Q Ex h=>by obtain⟨_,_,rfl,_⟩:=h;rfl) `a λAj A R s H E Ex hr=>?_;refine#[_,(cG (iY (qV<|lC<|a8 .list `k) (cR<|cy_ T rfl `t) jH)
  (cG (iY (kT aAv aAs (tS<|lQ fF [] (jL `k) (ci_<|lC<|eJ Gz<|iW `e (cQ lB cZ)) `e) (fe_ `t Z)<|cP _) (cR<|cy_ T rfl `t) jH)
  (cG (gK fF 2 `e)
  (cG (xO PassesOwn.leaving rfl (jL `k) (iK (i:=3) fF.nd rfl `l) (tZ (n:=99) (i:=3) `a)<|cR<|gK fF 2<|cg_ J (hr.mono `b)<|cQ (xv 2)<|xv 3)
  (cR<|eU<|dp_<|pv 2))))),λM Q h=>?_]
 obtain⟨fs,l,rfl,hl,K5,h⟩:=h;have V:∀d∈l,Fm1 d:=by
  intro d m;rcases h with⟨k,cs,rfl,_⟩ | ⟨k,cs,C,rfl,_,_,g,_⟩ | ⟨cs,rfl,_⟩
  obtain ⟨c,_,rfl⟩:=aY.mp m;exact bAa c;rcases aV.mp m with m | m
  obtain ⟨c,_,rfl⟩:=aY.mp m;exact bAa c;rw [aE.mp m];exact bAb g;obtain ⟨c,_,rfl⟩:=aY.mp m;exact bAa c
 refine kM (ρ':=[vT<|.lst<|fs.map Fe.x,vT<|.lst l,.un,.un]) (λQ q=>q) ?_;refine ey_ (decide (5<(l.filter dA).length)) (ρ':=[vT<|.lst<|fs.map Fe.x,vT<|.lst l,.un,.un]) (λQ q=>?_) (λg=>?_)<|λg=>?_;refine #[show l.length≤1000000 by lia,show cB _ _ _ _ _ l _ _ from ?_];refine s_ dA (λd m Ac P p=>?_) ?_;obtain ⟨z,r,rfl⟩:=V d m;refine#[z,r,_,_,rfl,?_];show if dA (.tup (.str z::r))=true then _ else _
 by_cases e:dA (.tup (.str z::r))=true;rw [if_pos e] at p ⊢;exact p;rw [if_neg e] at p ⊢;rw[aU]at p;exact p;show Q (decide ((5:Int) < ((l.filter dA).length:Int))) _;rw[show decide ((5:Int)<((l.filter dA).length:Int))=decide (5<(l.filter dA).length) by rw[decide_eq_decide];lia];exact q;have g:=of_decide_eq_true g;rcases h with⟨k,cs,rfl,_,I,_⟩ | ⟨k,cs,C,rfl,_,I,v,_⟩ | ⟨cs,rfl,I,q⟩
 rw [wV] at g;lia;rw [dG,aI,wV,gH,bAk v] at g;simp only[gO,if_false,List.filter_nil,bE]at g;lia;exact q;have g:=of_decide_eq_false g;obtain⟨k,cs,ex,rfl,G,U⟩:∃k cs ex,l=cs.map Ch.x++ex/\chs fs k cs/\((ex=[]/\∀s:Sv,s.d=.lst ((gos fs k cs).map Fe.x)->Q s)\/∃d,ex=[d]/\aMk (gos fs k cs) d/\Ex `i):=by
  rcases h with⟨k,cs,rfl,G,_,q⟩ | ⟨k,cs,C,rfl,G,_,v,q⟩ | ⟨cs,rfl,I,q⟩
  exact#[k,cs,[],by rw[aU],G,.inl #[rfl,q]];exact#[k,cs,[C],rfl,G,.inr #[C,rfl,v,q]];rw [wV] at g;exact absurd I g
 generalize W:cs.map Ch.x++ex=L at *;refine f8<|lb_ rfl ?_;show dO (lT _ _ _) _ [vT<|.lst<|fs.map Fe.x,vT<|.lst L,vT<|.lst<|fs.map Fe.x,.un] _;have x:cs.length<=100:=by rw[<-W,aI,aB]at K5;lia
 show hU _ _ _ L _;refine zY (λrest S=>∃(b u:T1) (s:Sv) (y:Sl),cs=b++u/\rest=u.map Ch.x++ex/\s.d=.lst ((gos fs k b).map Fe.x)/\S=[vT<|.lst<|fs.map Fe.x,vT<|.lst L,.v s,y]) (λS h=>?_) (λd M S Kn h hk=>?_) #[[],cs,_,.un,rfl,W.symm,rfl,rfl];obtain ⟨b,u,s,y,o,D,O,rfl⟩:=h;obtain⟨e4,rfl⟩:=List.append_eq_nil_iff.mp D.symm;have e5:u=[]:=gC.mp e4;subst e5;rw[aU]at o;subst o;rcases U with⟨_,q⟩ | ⟨d,e,_⟩
 exact q s O;cases e;obtain ⟨b,u,s,y,o,D,O,rfl⟩:=h;have Hc:=hb_ (cs:=b) (fs:=fs) (k:=k);have Fp:b.length<=100:=by rw[o,aI]at x;lia
 refine#[gos fs k b,d,by show [s.d,d]=_;rw[O],by lia,?_];cases u with
 |nil =>
  rw[aU]at o;subst o;rcases U with⟨rfl,_⟩ | ⟨C,rfl,v,q⟩
  cases D;cases D;exact .inr #[v,q]
 |cons c r => have N:d::M=c.x::(r.map Ch.x++ex):=D;cases N;have Lb:=(nW.mp<|o ▸ G).2;refine .inl #[c,rfl,Lb.1,λY=>hk _ #[b++[c],r,.ol<|(c.go (gos fs k b) Y).map Fe.x,_,by rw[o,bK];rfl,rfl,?_,rfl]];show Dx.lst _=_;rw[ir_,bKe _ Y<|cts k b];rfl
end
def Dj(s t:Int×Int):Prop:=s.2<=t.1\/t.2<=s.1
abbrev lG(rs ly:Q4):Q4:=(rs.zip<|dpP rs ly).map aHn
def j7(h:(lG rs ly)[i]? = some s):i<rs.length/\s=(pk (dpP rs ly) i,pk (dpP rs ly) i+(rk rs i).1):=by
 rw[bI,cV]at h;obtain⟨x,e,rfl⟩:=h;obtain⟨a,b⟩:=cW.mp e;have c:pk (dpP rs ly) i=x.2:=by unfold pk;rw[bA,b];rfl
 refine#[(aK.mp a).1,?_];rw[sG a,c];rfl
def uS(h:s∈lG rs ly):∃i,i<rs.length/\s=(pk (dpP rs ly) i,pk (dpP rs ly) i+(rk rs i).1):=by obtain⟨i,a⟩:=fX h;exact#[i,j7 a]
def mX(rs ly:Q4):(lG rs ly).length<=rs.length:=by rw[aB,dU];exact Nat.min_le_left rs.length (dpP rs ly).length
def bAg(p:Rs2 rs)(c:LyOk m ly):(ly++lG rs ly).Pairwise Dj:=by
 have b:=ld_ (ly:=ly) p.1 c.1;refine List.pairwise_append.mpr #[c.1.2.imp λh=>.inl h,?_,λs r t u=>?_];refine List.pairwise_iff_getElem.mpr fun i j a q e => ?_;obtain⟨f,g⟩:=j7<|aJ a;obtain⟨l,o⟩:=j7<|aJ q;rw[g,o];exact b.dis i j f l (bF e) (eC i)<|eC j;obtain ⟨i,a,rfl⟩:=uS u;rcases(b.ok i a<|eC i).2.2.1 s r with h | h
 exact .inr h;exact .inl h
def aPn(e:Rs2 rs)(c:LyOk m ly)(q:m<=15)(u:ly.length<=45)(g:us.Perm<|ly++lG rs ly)(o:us.Pairwise λs t=>s.1<=t.1):LyOk (m+1) us:=by
 have l:=ld_ (ly:=ly) e.1 c.1;have j:∀s∈us,0<=s.1/\s.1<s.2:=λs h=>by
  rcases aV.mp (g.mem_iff.mp h)with h | h
  exact c.1.1 s h;obtain ⟨i,f,rfl⟩:=uS h;have a:=(l.ok i f<|eC i).1;have b:=(e.1.2 i f).1;exact#[a,by show _<_+_;lia]
 have p:=(g.pairwise_iff λ{x y} h=>Or.symm h).mpr<|bAg e c;refine#[#[j,?_],?_,Nat.succ_le_succ q,λs h=>?_];refine List.Pairwise.imp_of_mem ?_<|List.Pairwise.and o p;intro s t o r ⟨a,b⟩;have:=j t r;rcases b with b | b
 exact b;lia;rw [g.length_eq,aI];have:=mX rs ly;have:=e.1.1;lia;have v:(31:Int) * (2 ^ 150 + 8)≤uB:=by decide
 rcases aV.mp (g.mem_iff.mp h)with h | h
 have:=c.2.2.2 s h;lia;obtain ⟨i,f,rfl⟩:=uS h;have a:=(l.ok i f<|eC i).2.2.2.2;have b:=(aHa (ly:=ly) e c<|lc_ rs).2.1;lia
def aIq(c:Rs2 rs)(g:LyOk m ly)(e:i<rs.length):(∀s∈ly,s.1≠pk (dpP rs ly) i)/\∀j,j<rs.length->i≠j->pk (dpP rs ly) i≠pk (dpP rs ly) j:=by have f:=ld_ (ly:=ly) c.1 g.1;have p:=(c.1.2 i e).1;refine#[λs l z=>?_,λj h o z=>?_];have a:=(f.ok i e<|eC i).2.2.1 s l;have b:=g.1.1 s l;lia;have a:=f.dis i j e h o (eC i)<|eC j;have q:=(c.1.2 j h).1;lia
mutual
def Kd.Fit.rm_pos:∀(k:Kd),k.Fit->1<=k.rm.1/\1<=k.rm.2/\k.rm.2<=8
 | .num w m,h=>by obtain⟨a,b,c,d⟩:=Kd.bd _<|Kd.Fit.ok _ h;exact#[h.1,c,d]
 | .row k n,h=>by obtain⟨a,b,c,d⟩:=Kd.bd _<|Kd.Fit.ok _ h;obtain⟨o,p,q⟩:=Kd.Fit.rm_pos k h.1;obtain⟨e,f⟩:=rC (n:=k.rm.1) (m:=k.rm.2) `b;refine#[?_,c,d];show 1<=n*up k.rm.1 k.rm.2;have g:=h.2.1;have:1*1<=n*up k.rm.1 k.rm.2:=Int.mul_le_mul g `b `a `b;lia
 | .rcd fs,h=>by obtain⟨a,b,c,d⟩:=Kd.bd _<|Kd.Fit.ok _ h;refine#[?_,c,d];have l:=aQs fs h.1 (by have:=h.2.1;intro z;rw[z]at this;simp at this);have i:=sU<|bdF fs<|nP fs h.1;obtain⟨e,f⟩:=rC (n:=dL 0<|rmF fs) (m:=fK 1 ((rmF fs).map (·.2))) `b;show 1<=up (dL 0<|rmF fs) (fK 1 ((rmF fs).map (·.2)));lia
 | .cho ks,h=>by obtain⟨a,b,c,d⟩:=Kd.bd _<|Kd.Fit.ok _ h;refine#[?_,c,d];have i:=sU<|bdK ks (Kd.Fit.ok _ h).1;obtain⟨r,s⟩:=rC (n:=1) (m:=fK 1 ((rmK ks).map (·.2))) `b;have j:0<=fK 0 ((rmK ks).map (·.1)):=lZ _;obtain⟨e,f⟩:=rC (n:=up 1 (fK 1 ((rmK ks).map (·.2)))+fK 0 ((rmK ks).map (·.1))) (m:=fK 1 ((rmK ks).map (·.2))) `b;show 1<=up (up 1 (fK 1 ((rmK ks).map (·.2)))+fK 0 ((rmK ks).map (·.1))) (fK 1 ((rmK ks).map (·.2)));lia
def aQs:∀(fs:S6),lA fs->fs≠[]->1<=dL 0 (rmF fs)
 | [],_,h=>absurd rfl h
 |f::r,h,_=>by obtain⟨c,g,i⟩:=Kd.Fit.rm_pos f.2 h.1.2;obtain⟨j,l⟩:=rC (n:=0) (m:=f.2.rm.2) `b;have a:=bdF r<|nP r h.2;have:=ip_ (e:=up 0 f.2.rm.2+f.2.rm.1) (rs:=rmF r) λx b=>#[(a x b).1,by have:=(a x b).2.2.1;lia];show 1<=dL (up 0 f.2.rm.2+f.2.rm.1) (rmF r);lia
end
def aCi:∀{ks} {i:Nat} {k},jG ks->ks[i]? = some k->k.Fit
 | [],_,_,_,e=>by simp at e
 |k'::r,0,k,h,e=>by simp at e;subst e;exact h.1
 |k'::r,i+1,k,h,e=>aCi (i:=i) h.2<|by simpa using e
def aHw:∀{ks} {i:Nat} {r},(rmK ks)[i]? = some r->∃k,ks[i]? = some k/\r=k.rm
 | [],_,_,e=>by simp[rmK]at e
 |k'::ks,0,r,e=>by have c:=e;cases c;exact#[k',rfl,rfl]
 |k'::ks,i+1,r,e=>by have c:(rmK ks)[i]? = some r:=e;obtain⟨k,a,b⟩:=aHw c;exact#[k,by simpa using a,b]
def eg_(ks:R6):(rmK ks).length=ks.length:=by rw[<-aB (f:=prT),<-aAe,aB]
def aHv(h:jG ks)(i:ks.length<=5)(g:dS ks<=3):Rs2<|rmK ks:=by have f:=eg_ ks;refine#[#[le_of_eq_of_le f i,λk c=>?_],λk c=>?_];have e:=aJ c;obtain⟨j,a,b⟩:=aHw e;rw[sG e,b];exact Kd.Fit.rm_pos j<|aCi h a;have e:=aJ c;rw[sG e];exact(d_ (hc_ ks h) g `a _ (aQ e)).2.1
def kpF(fs:Q5):Q5:=fs.filter (·.pl.isSome)
def nwF(fs:Q5):Q5:=fs.filter (·.pl.isNone)
def Fe.put(e:Fe)(p:Int):Fe:={ e with pl:=some p }
abbrev rsF(fs:Q5):Q4:=rmK ((nwF fs).map (·.kd))
def dP(fs:Q5)(ly:Q4):Q5:=kpF fs++((nwF fs).zip<|dpP (rsF fs) ly).map λx=>x.1.put x.2
def mkT(fs:Q5)(r:Int):Dx:=.tup [.lst<|fs.map Fe.x,.int r]
def hsL(b:Addr)(mk:Q0)(ly:Q4)(a:Int):FsO:=[("makes",.ol b<|mk.map .tr),("lying",.tr<|.lst<|ly.map prT),("multiple",.tr<|.int a)]
def aVm(b:Addr)(mk:Q0)(ly:Q4)(c:Int)(a:Q4):dM "lying" (.tr<|.lst<|a.map prT) (hsL b mk ly c)=hsL b mk a c:=by show(if("makes" : Str) = "lying" then _ else(_::if("lying" : Str) = "lying" then _ else _))=_;rfl
def aVk(b:Addr)(mk:Q0)(ly:Q4)(c a:Int):dM "multiple" (.tr<|.int a) (hsL b mk ly c)=hsL b mk ly a:=by show(if("makes" : Str) = "multiple" then _ else(_::if("lying" : Str) = "multiple" then _ else(_::if("multiple" : Str) = "multiple" then _ else _)))=_;rfl
def aVl(b:Addr)(mk a:Q0)(ly:Q4)(c:Int):dM "makes" (.ol b<|a.map .tr) (hsL b mk ly c)=hsL b a ly c:=by show(if("makes" : Str) = "makes" then _ else _)=_;rfl
def gBM(i:Addr):GO:=λC l j Q=>C=i/\∃(b:Addr) (mk:Q0) (g:Q4) (h:Int) (m k:Nat) (fs:Q5) (a:T1),l=hsL b mk g h/\j=[.lst<|fs.map Fe.x,.lst<|a.map Ch.x]/\fs.length<=100/\a.length<=100/\mk.length<=1000/\(∀e∈gos fs k a,e.Ok)/\chs fs k a/\mQ a<=5/\(nwF<|gos fs k a).length<=5/\LyOk m g/\g.length<=45/\m<=15/\1<=h/\h<=8 /\
 ∀(c:Q4) (r f:Int),c.Perm (g++lG (rsF<|gos fs k a) g)->LyOk (m+1) c->1<=f->f<=8->Q (.tr .non) (hsL b (mk++[mkT (dP (gos fs k a) g) r]) c f)
def aLd{i}{s}{l}{ρ}{Q}(a:ρ[i]? = some (.v s))(b:s.d=.lst l)(q:Q l<|ρ.set i<|vT<|.lst l):xiL (dC i) ρ Q:=by refine lb_ a ?_;rw[b];exact q
def feK:∀{l:Q5},(∀e∈l,e.Ok)->jG (l.map (·.kd))/\dS (l.map (·.kd))<=3
 | [],_=>#[trivial,bL _]
 |e::r,h=>by obtain⟨a,b⟩:=feK λx f=>h x<|aC _ f;have c:=h e aA;exact#[#[c.fit,a],Nat.max_le.mpr #[c.deep,b]]
abbrev bmH(C a c b:Addr)(mk:Q0)(ly:Q4)(e:Int)(fs:Q5)(cs:T1)(r:Q9):En:=.bo (.oi C a c<|hsL b mk ly e)::vT (.lst<|fs.map Fe.x)::vT (.lst<|cs.map Ch.x)::r
def qI{d}{l}{Q}(q:Q<|.tr d):ixX (.tup (d::l)) (.int 0) Q:=by show(match atI (d::l) 0 with | some d=>Q (.tr d) | none=>False);rw[show atI (d::l) 0=some d from dh_ (j:=0) rfl];exact q
def pT(s:Int×Int):Q6:=[s.1,s.2]
def aAr(l:Q4):(l.map pT).map yD=l.map prT:=by rw[bH];rfl
def aDm(g:us.Perm<|l.map pT)(m:us.Pairwise λx y=>HT.lexLt y x=false):∃b:Q4,us=b.map pT/\b.Perm l/\b.Pairwise λs t=>s.1<=t.1:=by
 let a:Q6->Int×Int:=λt=>(t.getD 0 0,t.getD 1 0)
 have e:∀u∈us,pT (a u)=u:=λu f=>by obtain⟨s,_,rfl⟩:=aY.mp<|g.mem_iff.mp f;rfl
 have i:us=(us.map a).map pT:=by
  rw[bH]
  conv=>lhs;rw[<-List.map_id us]
  exact List.map_congr_left λu f=>(e u f).symm
 refine#[us.map a,i,?_,?_];have:=g.map a;rw[bH]at this;have j:l.map (a ∘ pT)=l:=by
  conv=>rhs;rw[<-List.map_id l]
  exact List.map_congr_left λ_ _=>rfl
 rw[j]at this;exact this;refine jB.mpr<|List.Pairwise.imp_of_mem ?_ m;intro x y o p h;rw[<-e x o,<-e y p]at h;have:HT.lexLt [(a y).1,(a y).2] [(a x).1,(a x).2]=false:=h;rw[HT.lexLt_cons]at this;by_cases c:(a y).1=(a x).1;exact Int.le_of_eq<|id<|Eq.symm c;rw [if_neg c] at this;have:=of_decide_eq_false this;exact Int.not_lt.mp this
section
variable{f:Addr}{n j:Nat}{c C_House:Addr}
def aYo(F:Fun K "begin_make" "House.begin_make" ea_ f fd)(L:Cls K C_House)(g:NoAttr K C_House "lying")(u:NoAttr K C_House "multiple")(D:NoAttr K C_House "makes")(Y:mR P w K mg base j "fields_behind" ["there","changes"] (spE<|gFB c))(Io:Cal P w K mg base j "rooms_of" AL<|spX<|gRS 3)(Z:Cal P w K mg base j "placed_closely" ["kinds","lying"] (spX<|gPC 3))(N8:Cal P w K mg base 1 "stretches_at" BC<|spX gSA)(Kx:Cal P w K mg base 1 "greatest_multiple" AZ<|spX gGM)(Oe:Cal P w K mg base 1 "greatest_end" BO<|spX gGE)(Er:Cal P w K mg base 1 "rounded_up" AC<|spX gRU)(hj:1<=j)(B:Blt mg):FnOk P w K mg base CX0 (j+1) f fd AO<|spO<|gBM C_House:=by
 refine aZy F bd_ (λC l ds Q h=>by obtain⟨_,_,_,_,_,_,_,_,_,_,rfl,_⟩:=h;rfl) `a λAj A a2 s H E M=>?_;refine#[_,(cG (gK bd_ 3<|cg_ Y (M.mono `b)<|cQ `k (xv 2))
  (cG (xU bd_ 4 [] (jL<|xv 3) (ci_<|kT aOy aOv `j i4 (cP _)) `e)
  (cG (xU bd_ 5 [] (jL<|xv 3) (ci_<|kT aWr aWi `j i4 (cP _)) `e)
  (cG (xU bd_ 6 [] (jL<|xv 5) kU `j)
  (cG (gK bd_ 7<|eJ Io<|eQ<|xv 6)
  (cG (gK bd_ 8<|dH K<|eJ Z<|cQ (xv 6)<|oC (C:=C_House) L g<|pv 0)
  (cG (gK bd_ 9<|lS (xv 4)<|aGq bd_ [] (i0 B.zip<|cQ (xv 5)<|xv 8) kU (v_ K (rW K `e mU (id_ cZ))<|jQ<|eQ `k))
  (cG (uJ (C:=C_House) L g (pv 0)<|d4 xD aMc `t B.sorted aFl (eQ<|lS (oC (C:=C_House) L g<|pv 0)<|eJ N8<|cQ (xv 7)<|xv 8))
  (cG (uJ (C:=C_House) L u (pv 0)<|d4 (lj_ `t) wW `t B.max mE (cQ (oC (C:=C_House) L u<|pv 0)<|eJ Kx<|eQ<|xv 7))
  (cR (o_ λF=>PS.weak (nA (aJd PySem.F.plainAttrs_list PySem.F.slot_list_append PySem.F.type_list_append sV (pR (pv 0) rfl) (g7 (XE.at (Ex:=cY) F (jQ<|cQ (xv 9)<|eJ Er<|cQ (eJ Oe<|eQ<|oC (C:=C_House) L g<|pv 0)<|oC (C:=C_House) L u<|pv 0)) fq_)))<|aNt L D))))))))))),λC a I l ds Q h=>?_]
 obtain⟨rfl,b,mk,ly,J,m,k,fs,cs,rfl,rfl,K8,Dw,K4,a0,Dy,h5,O2,d,K5,hm,a6,a7,q⟩:=h;refine#[fs,cs.map Ch.x,rfl,K8,by rw[aB];exact Dw,.inl #[k,cs,rfl,Dy,h5,λsv L4=>?_]];have N0:(gos fs k cs).length<=200:=by have:=hb_ (cs:=cs) (fs:=fs) (k:=k);lia
 generalize hG:gos fs k cs=G at *;have a4:(nwF G).length<=G.length:=cM _ _;have Hb:(kpF G).length<=G.length:=cM _ _;have Hv:∀e∈nwF G,e.Ok:=λe W=>a0 e (cA.mp W).1;obtain⟨O,R⟩:=feK Hv;have Iz:((nwF G).map (·.kd)).length<=5:=by rw[aB];exact O2
 have x:Rs2<|rsF G:=aHv O Iz R;have a5:(rsF G).length=(nwF G).length:=by rw[eg_,aB]
 dsimp only;change dO (iX 4 _) _ (bmH C a I b mk ly J fs cs [.v sv,.un,.un,.un,.un,.un,.un]) _;refine f8 ?_;refine aLd (i:=3) rfl L4 ?_;refine#[by rw[aB];lia,?_];refine dc_ Fe.x Fe.x (·.pl.isSome) (λe W N P p=>?_) ?_;obtain ⟨nm,ix,kd,vd,pl⟩:=e;cases pl with
 |none => have T:P (N++[]) _:=p;rw[aU]at T;exact T
 |some z=>exact p
 change dO (iX 5 _) _ (bmH C a I b mk ly J fs cs [vT<|.lst<|G.map Fe.x,.v<|.ol<|(kpF G).map Fe.x,.un,.un,.un,.un,.un]) _;refine f8 ?_;refine aLd (i:=3) rfl rfl ?_;refine#[by rw[aB];lia,?_];refine dc_ Fe.x Fe.x (·.pl.isNone) (λe W N P p=>?_) ?_;obtain ⟨nm,ix,kd,vd,pl⟩:=e;cases pl with
 |none=>exact p
 |some z => have T:P (N++[]) _:=p;rw[aU]at T;exact T
 change dO (iX 6 _) _ (bmH C a I b mk ly J fs cs [vT<|.lst<|G.map Fe.x,.v<|.ol<|(kpF G).map Fe.x,.v<|.ol<|(nwF G).map Fe.x,.un,.un,.un,.un]) _;refine f8 ?_;refine aLd (i:=5) (l:=(nwF G).map Fe.x) rfl rfl ?_;refine#[by rw[aB];lia,?_];refine lR Fe.x (λe=>e.kd.x) (λe W N P p=>p) ?_;rw[bU,show(nwF G).map (λe=>e.kd.x)=xK ((nwF G).map (·.kd)) by rw[f9,bH];rfl];change dO (iX 7 _) _ (bmH C a I b mk ly J fs cs [vT<|.lst<|G.map Fe.x,.v<|.ol<|(kpF G).map Fe.x,vT<|.lst<|(nwF G).map Fe.x,.v (.ol (xK ((nwF G).map (·.kd)))),.un,.un,.un]) _;refine#[(nwF G).map (·.kd),rfl,hc_ _ O,R,by lia,by decide,?_];refine#[rfl,m,(nwF G).map (·.kd),ly,rfl,hc_ _ O,R,by decide,x,d,λe0=>?_];dsimp only;refine it_ ?_;refine qI ?_;change dO (iX 9 _) _ (bmH C a I b mk ly J fs cs [vT<|.lst<|G.map Fe.x,.v<|.ol<|(kpF G).map Fe.x,vT<|.lst<|(nwF G).map Fe.x,vT (.lst (xK ((nwF G).map (·.kd)))),.v<|.ol<|(rsF G).map prT,vT<|.lst<|(dpP (rsF G) ly).map Dx.int,.un]) _;have Fp:(dpP (rsF G) ly).length=(rsF G).length:=(ld_ (ly:=ly) x.1 d.1).len;refine f8<|aLb<|lb_ rfl ?_;refine#[show(jJ ((nwF G).map Fe.x)<|(dpP (rsF G) ly).map Dx.int).length<=1000000 by rw[dw_,aB,dU];lia,show cB _ _ _ _ _ (jJ ((nwF G).map Fe.x)<|(dpP (rsF G) ly).map Dx.int) _ _ from ?_];rw[dw_];refine lR _ (λp:Fe×Int=>(p.1.put p.2).x) (λp hp N P pp=>#[by show ¬(HT.sIx 4 0 none=0/\HT.sIx 4 4 (some 3)=4);decide,by show 1<=1000000;decide,(λz=>by cases z),by show 3+1<=1000000;decide,pp]) ?_;refine#[by rw[bU,aB,aB,dU];lia,?_];rw[bU,show(kpF G).map Fe.x++((nwF G).zip<|dpP (rsF G) ly).map (λp:Fe×Int=>(p.1.put p.2).x)=(dP G ly).map Fe.x by unfold dP;rw[aZ,bH];rfl];change dO (w5 C "lying" 0 _) _ (bmH C a I b mk ly J fs cs [vT<|.lst<|G.map Fe.x,vT<|.lst<|(kpF G).map Fe.x,vT<|.lst<|(nwF G).map Fe.x,vT (.lst (xK ((nwF G).map (·.kd)))),.v<|.ol<|(rsF G).map prT,vT<|.lst<|(dpP (rsF G) ly).map Dx.int,.v<|.ol<|(dP G ly).map Fe.x]) _;refine#[rfl,rsF G,dpP (rsF G) ly,rfl,by lia,?_];have Ox:=mX (rsF G) ly;refine#[by rw[aB,aB (as:=lG (rsF G) ly)];lia,?_];refine#[(ly++lG (rsF G) ly).map pT,?_,λt ht=>?_,by rw[aB,aI];lia,λus hp hs=>?_];rw [aAr,aZ];rfl;obtain ⟨z,_,rfl⟩:=aY.mp ht;exact λz=>by cases z
 obtain⟨y,rfl,Cd,Ev⟩:=aDm hp hs;have U:=aPn x d hm K5 Cd Ev;refine#[rfl,by show 3<1000;decide,λo V=>?_,?_];have:some (Ow.tr<|.lst<|ly.map prT)=some o:=V;cases this;exact`r;have ep:=aVm b mk ly J y;rw[<-aAr y]at ep;have S:∀(X:FsO) (v:Int),X=hsL b mk y v->1<=v->v<=8->(aGw C "makes" 0<|aDg<|cH (dC 9)<|cH (gD gRU<|cH (gD gGE<|cH (i8 C "lying" 0) eZ)<|cH (i8 C "multiple" 0) eZ) eZ) (.bo (.oi C a I X)::vT (.lst<|fs.map Fe.x)::vT (.lst<|cs.map Ch.x)::[vT<|.lst<|G.map Fe.x,vT<|.lst<|(kpF G).map Fe.x,vT<|.lst<|(nwF G).map Fe.x,vT (.lst (xK ((nwF G).map (·.kd)))),vT<|.lst<|(rsF G).map prT,vT<|.lst<|(dpP (rsF G) ly).map Dx.int,.v<|.ol<|(dP G ly).map Fe.x]) (aDs C a I Q):=by
  rintro X v rfl v1 v8;have a3:y.length<=50:=U.2.1;refine#[b,mk,#[a,I,_,_,rfl,rfl],?_];refine#[rfl,y,rfl,by lia,λs hs=>(U.nn hs).2.1,?_];have Jx:fK 0 (y.map (·.2))<=2^170:=io_ `a λz hz=>by obtain⟨r,M,rfl⟩:=aY.mp hz;have:=(U.nn M).2.2;lia
  refine#[rfl,fK 0 (y.map (·.2)),v,rfl,lZ _,by lia,by lia,by lia,?_];refine#[by show 2<=1000000;decide,a,I,_,_,mk,rfl,rfl,by lia,?_];show C=C/\a=a/\I=I/\Q (.tr .non) (dM "makes" (.ol b ((mk++[mkT (dP G ly) (up (fK 0 (y.map (·.2))) v)]).map .tr))<|hsL b mk y v);rw[aVl];exact#[rfl,rfl,rfl,q y _ v Cd U v1 v8]
 have a1:∀(X:FsO),X=hsL b mk y J->dO (w5 C "multiple" 0<|gD aBf<|cH (i8 C "multiple" 0)<|cH (gD gGM<|cH (dC 7) eZ) eZ) (aGw C "makes" 0<|aDg<|cH (dC 9)<|cH (gD gRU<|cH (gD gGE<|cH (i8 C "lying" 0) eZ)<|cH (i8 C "multiple" 0) eZ) eZ) (.bo (.oi C a I X)::vT (.lst<|fs.map Fe.x)::vT (.lst<|cs.map Ch.x)::[vT<|.lst<|G.map Fe.x,vT<|.lst<|(kpF G).map Fe.x,vT<|.lst<|(nwF G).map Fe.x,vT (.lst (xK ((nwF G).map (·.kd)))),vT<|.lst<|(rsF G).map prT,vT<|.lst<|(dpP (rsF G) ly).map Dx.int,.v<|.ol<|(dP G ly).map Fe.x]) (aDs C a I Q):=by
  rintro X rfl;refine#[rfl,rsF G,rfl,by lia,λr M=>(d_ (hc_ _ O) R `a r M).2.2.1,?_];have Jx:∀v,v=(if fK 1 ((rsF G).map (·.2))>J then fK 1 ((rsF G).map (·.2))else J)->1<=v/\v<=8:=λv e=>by
   have h1:fK 1 ((rsF G).map (·.2))<=8:=io_ `a λz hz=>by obtain⟨r,M,rfl⟩:=aY.mp hz;exact(d_ (hc_ _ O) R `a r M).2.2.2
   rw[e];split<;>lia
  obtain⟨v1,v8⟩:=Jx _ rfl;show C=C/\_/\_/\_;refine#[rfl,by show 3<1000;decide,λo V=>?_,?_];have:some (Ow.tr<|.int J)=some o:=V;cases this;exact`r;exact S _ _ (aVk b mk y J _) v1 v8
 exact a1 _ ep
end
def aRn(l:List α)(d:α):atI (l++[d]) (-1)=some d:=by
 have a:(l++[d]).length=l.length+1:=by rw[aI];rfl
 have e:ixN (l++[d]).length (-1)=some l.length:=by unfold ixN;rw[if_neg `a,a,if_pos<|Rat.intCast_le_intCast.mp rfl];congr 1;lia
 unfold atI;rw[e];show(l++[d])[l.length]? = some d;rw[bW<|aO _,iA];rfl
structure Beg(fs:Q5)(k:Nat)(cs:T1)(m:Nat)(ly:Q4)(mu:Int)(mk:Q0):Prop where
 fl:fs.length<=100
 cl:cs.length<=100
 ml:mk.length<=1000
 ok:∀e∈gos fs k cs,e.Ok
 ch:chs fs k cs
 ad:mQ cs<=5
 nw:(nwF (gos fs k cs)).length<=5
 lo:LyOk m ly
 ll:ly.length<=45
 m15:m<=15
 u1:1<=mu
 u8:mu<=8
def aZw(j:Addr):GO:=λC l o Q=>C=j/\∃(b:Addr) (mk:Q0) (e:Q4) (h g:Int) (m k:Nat) (fs:Q5) (f:T1),l=hsL b (mk++[mkT fs g]) e h/\o=[.lst<|f.map Ch.x]/\Beg fs k f m e h (mk++[mkT fs g]) /\
 ∀(a:Q4) (r c i:Int),a.Perm (e++lG (rsF<|gos fs k f) e)->LyOk (m+1) a->1<=c->c<=8->Q (.tr<|.int i) (hsL b (mk++[mkT fs g]++[mkT (dP (gos fs k f) e) r]) a c)
abbrev fP(fl:List<|Str×Kd×Vd):T1:=fl.map λf=>Ch.add f.1 f.2.1 f.2.2
def gIN(f:Addr):GO:=λC l g Q=>C=f/\l=[]/\∃e:List<|Str×Kd×Vd,g=[.lst<|e.map fdT]/\Beg [] 0 (fP e) 0 [] 1 [] /\
 ∀(b:Addr) (a:Q4) (r c:Int),a.Perm (lG (rsF<|gos [] 0 (fP e)) [])->LyOk 1 a->1<=c->c<=8->Q (.tr .non) (hsL b [mkT (dP (gos [] 0 (fP e)) []) r] a c)
def hs1(b:Addr):FsO:=[("makes",.ol b [])]
def hs2(b:Addr):FsO:=[("makes",.ol b []),("lying",.tr<|.lst [])]
def bIp(b:Addr):dM "lying" (.tr<|.lst []) (hs1 b)=hs2 b:=by show(if("makes" : Str) = "lying" then _ else _)=_;rfl
def bIo(b:Addr):dM "multiple" (.tr<|.int 1) (hs2 b)=hsL b [] [] 1:=by show(if("makes" : Str) = "multiple" then _ else(_::if("lying" : Str) = "multiple" then _ else _))=_;rfl
section
variable{f:Addr}{n j:Nat}{c C_House:Addr}
def aPc(F:Fun K "next_make" "House.next_make" eo_ f fd)(y:Cls K C_House)(e:NoAttr K C_House "makes")(g:aFt P w K mg base j C_House "begin_make" AO<|spO<|gBM C_House)(B:Blt mg):FnOk P w K mg base CX0 (j+1) f fd AV<|spO<|aZw C_House:=by
 refine aZy F uY (λC l G Q h=>by obtain⟨_,_,_,_,_,_,_,_,_,_,_,rfl,_⟩:=h;rfl) `a λS A v s H E N=>?_;refine#[_,(cG (uK<|oA (C:=C_House) (i:=0) g (N.mono `b) (pv 0)<|cQ (dH K<|aGl (C:=C_House) (i:=0) K y e (pv 0) (aTr cZ)<|λ_ _=>rfl) `k)
  (cR<|eU<|fc_ (aNg (C:=C_House) (i:=0) K y e (pv 0) `t B.len PySem.boot_len) cZ)),λC a o l G Q h=>?_]
 obtain⟨rfl,b,mk,O,R,z,m,k,fs,D,rfl,rfl,B,q⟩:=h;refine#[#[rfl,rfl],b,_,#[a,o,_,_,rfl,rfl],?_];refine#[_,#[a,o,_,_,rfl,rfl],?_];show(match atI (mk++[mkT fs z]) (-1)with | some d=>_ | none=>False);rw[aRn];dsimp only;refine it_ ?_;refine qI ?_;refine#[rfl,b,mk++[mkT fs z],O,R,m,k,fs,D,rfl,rfl,B.fl,B.cl,B.ml,B.ok,B.ch,B.ad,B.nw,B.lo,B.ll,B.m15,B.u1,B.u8,λp r u I J L M=>?_];refine#[b,_,#[a,o,_,_,rfl,rfl],?_];show C=C/\a=a/\o=o/\Q _ _;exact#[rfl,rfl,rfl,q p r u _ I J L M]
def aXz(F:Fun K "__init__" "House.__init__" l_ f fd)(D:Cls K C_House)(m:NoAttr K C_House "makes")(g:NoAttr K C_House "lying")(e:NoAttr K C_House "multiple")(p:aFt P w K mg base j C_House "begin_make" AO<|spO<|gBM C_House)(G:mR P w K mg base 1 "changes_to_begin" ["fields"] (spE gCB))(Y:1<=j):FnOk P w K mg base CX0 (j+1) f fd BJ<|spO<|gIN C_House:=by
 refine aZy F aOc (λC l O Q h=>by obtain⟨_,_,_,rfl,_⟩:=h;rfl) `a λW A M s H E N=>?_;refine#[_,(cG (aNc (C:=C_House) D m (pv 0)<|mG kF)
  (cG (uJ (C:=C_House) D g (pv 0)<|mG kF)
  (cG (uJ (C:=C_House) D e (pv 0) cZ)
  (cR<|uK<|oA (C:=C_House) (i:=0) p (N.mono `b) (pv 0)<|cQ (mG kF)<|cg_ G (N.mono `b)<|eQ `k)))),λC a u l O Q h=>?_]
 obtain⟨rfl,rfl,z,rfl,B,q⟩:=h;refine#[bL _,[],a,u,[],_,rfl,rfl,by show 0<1000;decide,rfl,λb=>?_];refine#[bL _,?_];have y:∀X:FsO,X=hsL b [] [] 1->(aUd<|i6 C "begin_make" (gBM C) 0<|cH (i7 eZ)<|cH (j0 cY gCB<|cH (dC 1) eZ) eZ) [.bo<|.oi C a u X,vT<|.lst<|z.map fdT] (aDs C a u Q):=by rintro X rfl;refine#[#[rfl,rfl],bL _,?_];refine#[z,rfl,by have:=B.cl;rw[aB]at this;exact this,?_];refine#[rfl,b,[],[],1,0,0,[],fP z,rfl,rfl,B.fl,B.cl,B.ml,B.ok,B.ch,B.ad,B.nw,B.lo,B.ll,B.m15,B.u1,B.u8,λJ r L R S T U=>?_];show C=C/\a=a/\u=u/\Q _ _;exact#[rfl,rfl,rfl,q b J r L R S T U]
 have v:∀X:FsO,X=hs2 b->dO (w5 C "multiple" 0<|xC<|.int 1) (aUd<|i6 C "begin_make" (gBM C) 0<|cH (i7 eZ)<|cH (j0 cY gCB<|cH (dC 1) eZ) eZ) [.bo<|.oi C a u X,vT<|.lst<|z.map fdT] (aDs C a u Q):=by rintro X rfl;refine#[rfl,by show 2<1000;decide,λo I=>(nomatch (show none=some o from I)),?_];exact y _<|bIo b
 refine#[rfl,by show 1<1000;decide,λo I=>(nomatch (show none=some o from I)),?_];exact v _<|bIp b
end
abbrev Mks:=List<|Q5×Int
def fB(a:Mks):Q0:=a.map λp=>mkT p.1 p.2
def hsF(mk:Q0)(ly:Q4)(a:Int):List<|Str×Dx:=[("makes",.lst mk),("lying",.lst<|ly.map prT),("multiple",.int a)]
abbrev hsT(C:Addr)(mk:Q0)(ly:Q4)(a:Int):Dx:=.ins C<|hsF mk ly a
def kC(fs:Q5):Prop:=(∀e∈fs,∃p,e.pl=some p)/\(nms fs).Nodup/\fs.length<=1000
def kO(n:Nat)(d:Dx):Prop:=∀i:Int,d=.int i->¬(0<=i/\i<n)
def gMA(C b:Addr):GE:=λc Q Ex=>∃(mk:Q0) (e:Q4) (f:Int) (d:Dx),c=[hsT C mk e f,d]/\kX d/\((∃(i:Nat) (a:Dx),d=.int (i:Int)/\mk[i]? = some a/\Q (.tr a))\/(kO mk.length d/\Ex (.ref b)))
def plK(fs:Q5):S8:=fs.map λe=>(Sum.inr e.nm,plT e.pl)
def gPO(C b:Addr):GE:=λc Q Ex=>∃(a:Mks) (e:Q4) (f:Int) (d:Dx),c=[hsT C (fB a) e f,d]/\kX d/\((∃(i:Nat) (p:Q5×Int),d=.int (i:Int)/\a[i]? = some p/\kC p.1/\Q (.od<|plK p.1))\/(kO a.length d/\Ex (.ref b)))
def lJ(gs:Q5)(nm:Str):S4:=(gs.find? λe=>decide (e.nm=nm)).bind (·.pl)
def shB(gs:Q5)(e:Fe):Bool:=decide (lJ gs e.nm=e.pl)
def gNS(b:Bool):GC:=λc Q=>∃fs a:Q5,c=[.dic<|plK fs,.dic<|plK a]/\kC fs/\kC a/\Q (.ol<|(fs.filter λe=>shB a e == b).map λe=>.str e.nm)
def aOm(nm:Str):fR (plK gs) (Sum.inr nm)=(gs.find? λe=>decide (e.nm=nm)).map λe=>plT e.pl:=by unfold fR plK;rw[List.find?_map,Option.map_map];congr 1;congr 1;funext e;show decide ((Sum.inr e.nm:Key)=Sum.inr nm)=decide (e.nm=nm);rw[decide_eq_decide];exact#[Sum.inr.inj,congrArg _]
def aIr(h:kC gs)(nm:Str)(p:Int):eqS ((fR (plK gs)<|Sum.inr nm).getD .non) (.int p)=some (decide (lJ gs nm=some p)):=by
 rw[aOm];unfold lJ;cases e:gs.find? λe=>decide (e.nm=nm)with
 |none=>rfl
 |some x => obtain⟨z,a⟩:=h.1 x<|List.mem_of_find?_eq_some e;show eqS (plT x.pl) (.int p)=some (decide (x.pl=some p));rw[a];show some (decide (z=p))=_;congr 1;rw[decide_eq_decide];exact#[congrArg _,ozI]
def vJ(h:kC fs)(c:e∈fs):fR (plK fs) (Sum.inr e.nm)=some (plT e.pl):=by
 have f:((plK fs).map (·.1)).Nodup:=by
  unfold plK;rw[bH];have:fs.map ((·.1) ∘ λe:Fe=>((Sum.inr e.nm,plT e.pl):Key×Dx))=(nms fs).map (λx:Str=>(Sum.inr x:Key)):=by rw[bH];rfl
  rw[this];exact List.Pairwise.map _ (λa b h e=>h<|Sum.inr.inj e) h.2.1
 exact nO f<|aY.mpr #[e,c,rfl]
section
variable{f:Addr}{n j:Nat}{a C_House:Addr}
def aXq(F:Fun K "make_at" "House.make_at" hm_ f fd)(o:Cls K C_House)(b:NoAttr K C_House "makes")(v:Cal P w K mg base 1 "is_whole" AB<|spX gWB)(B:Blt mg)(u:PyProof.Rows.OwnCls "NoMake" a veM "ValueError.__new__" mg base):FnOk P w K mg base (CXe P w) 2 f fd AA<|spE<|gMA C_House a:=by
 refine rO F k_ (λy Q Ex h=>by obtain⟨_,_,_,_,rfl,_⟩:=h;rfl) `a λI A m s H E Ex J=>?_;refine#[_,(cG (iY (XW.pt<|xN (qV<|lC<|eJ v<|eQ `k)<|xP<|qV<|nZ lL lK kl_ kj_ cZ `k (tS<|v6 o b `e)) (cR<|cy_ u rfl rfl) jH)
  (cR<|eU<|mO K (v6 o b `e) `k)),λy Q h=>?_]
 obtain⟨mk,g,l,d,rfl,p,h⟩:=h;rcases h with⟨i,L,rfl,r,q⟩ | ⟨G,q⟩
 have D:=(aK.mp r).1;refine kM (ρ':=[vT<|hsT C_House mk g l,vT<|.int (i:Int)]) (λQ q=>?_) ?_;refine #[_,rfl,p,?_];have e:=dzT<|Int.natCast_nonneg i;refine(@if_pos _ _ e _ _<|Q (!false) [vT<|hsT C_House mk g l,vT<|.int (i:Int)]).mpr ?_;refine#[_,_,rfl,rfl,?_];show Q (!decide ((i:Int)<((mk.length:Nat):Int))) _;rw[dzT<|Int.ofNat_lt.mpr D];exact q;refine #[_,_,rfl,rfl,?_];show(match atI mk (i:Int)with | some d=>_ | none=>False);rw[dh_ r];exact q;refine ey_ true (ρ':=[vT<|hsT C_House mk g l,vT d]) (fun Q q => ?_) (fun _=>q) (fun C=>by cases C);refine#[_,rfl,p,?_];cases d with
 |int i =>
  by_cases c:(0:Int)<=i;have e:=dzT c;refine(@if_pos _ _ e _ _<|Q (!false) [vT<|hsT C_House mk g l,vT<|.int i]).mpr ?_;refine#[_,_,rfl,rfl,?_];show Q (!decide (i<((mk.length:Nat):Int))) _;rw[dzF λz=>G i rfl #[c,z]];exact q;have e:¬ decide ((0:Int)≤i)=true:=by rw [decide_eq_true_eq]; exact c
  exact(@if_neg _ _ e _ _<|Q (!false) [vT<|hsT C_House mk g l,vT<|.int i]).mpr q
 |_=>exact q
end
def aVv(h:kC fs):((plK fs).map (·.1)).Nodup:=by
 unfold plK;rw[bH];have:fs.map ((·.1) ∘ λe:Fe=>((Sum.inr e.nm,plT e.pl):Key×Dx))=(nms fs).map (λx:Str=>(Sum.inr x:Key)):=by rw[bH];rfl
 rw[this];exact List.Pairwise.map _ (λa b h e=>h<|Sum.inr.inj e) h.2.1
def gSN(C c:Addr):GE:=λg Q Ex=>∃(a:Mks) (h:Q4) (l:Int) (d b:Dx),g=[hsT C (fB a) h l,d,b]/\kX d/\kX b/\((∃(i j:Nat) (p f:Q5×Int),d=.int (i:Int)/\b=.int (j:Int)/\a[i]? = some p/\a[j]? = some f/\kC p.1/\kC f.1/\(i<=j->Q (.ol<|(p.1.filter λe=>shB f.1 e == true).map λe=>Dx.str e.nm))/\(j<i->Ex (.ref c)))\/((∃(i:Nat) (p:Q5×Int),d=.int (i:Int)/\a[i]? = some p/\kC p.1/\kO a.length b/\Ex (.ref c))\/(kO a.length d/\Ex (.ref c))))
abbrev shW(t:Bool)(fs gs:Q5):Q0:=(fs.filter λe=>shB gs e == t).map λe=>Dx.str e.nm
def aQm(C e:Addr):GE:=λl Q Ex=>∃(a:Mks) (m:Q4) (o:Int) (d c:Dx),l=[hsT C (fB a) m o,d,c]/\kX d/\kX c/\((∃(i j:Nat) (p b:Q5×Int),d=.int (i:Int)/\c=.int (j:Int)/\a[i]? = some p/\a[j]? = some b/\kC p.1/\kC b.1/\∀f g h:Addr,Q<|.ow<|.ot [.ol f<|(shW true p.1 b.1).map .tr,.ol g<|(shW false p.1 b.1).map .tr,.ol h<|(shW false b.1 p.1).map .tr])\/((∃(i:Nat) (p:Q5×Int),d=.int (i:Int)/\a[i]? = some p/\kC p.1/\kO a.length c/\Ex (.ref e))\/(kO a.length d/\Ex (.ref e))))
section
variable{f:Addr}{n j:Nat}{a C_House:Addr}
def aXj(F:Fun K "places_of" "House.places_of" en_ f fd)(b:rA P w K mg base 2 C_House "make_at" AA<|spE<|gMA C_House a)(B:Blt mg):FnOk P w K mg base (CXe P w) 3 f fd AA<|spE<|gPO C_House a:=by
 refine rO F iv_ (λu Q Ex h=>by obtain⟨_,_,_,_,rfl,_⟩:=h;rfl) `a λG A c s H E Ex z=>?_;refine#[_,(cR<|eU<|he_ (iu_ rfl) wX rfl B.dict nX<|eQ<|lQ iv_ [] (jL<|dH K<|da_ b (z.mono `b) `e (eQ `k)) kU (jQ<|cQ `j `j)),λu Q h=>?_];obtain⟨o,m,r,d,rfl,l,h⟩:=h;rcases h with⟨i,p,rfl,y,g,q⟩ | ⟨v,q⟩
 refine #[#[_,rfl,rfl],fB o,m,r,_,rfl,l,.inl #[i,mkT p.1 p.2,rfl,by unfold fB; rw [bI,y]; rfl,?_]];refine it_ ?_;refine qI ?_;refine#[show(p.1.map Fe.x).length<=1000000 by rw[aB];have:=g.2.2;lia,show cB _ _ _ _ _ (p.1.map Fe.x) _ _ from ?_];refine lR Fe.x (λe=>.tup [.str e.nm,plT e.pl]) (λe I D P C=>#[by show 2<=1000000;decide,C]) ?_;refine#[plK p.1,?_,aVv g,q];unfold plK;rw[bH];rfl;refine #[#[_,rfl,rfl],fB o,m,r,_,rfl,l,.inr #[?_,q]];unfold fB;rw[aB];exact v
def aXm(F:Fun K "names_shared" "names_shared" go_ f fd):FnOk P w K mg base CX0 1 f fd AH<|spX<|gNS true:=by
 refine jP F fk_ (λo=>(cR<|eU<|v5 fk_ 0 [0,1] (ci_<|kI (aGm (rB o) (xv 2) `e #[rfl,rfl,rfl,rfl])<|ff_ (rB o) `k `e (λ_ _=>rfl)) `e)) λA Q h=>?_;obtain⟨fs,b,rfl,i,v,q⟩:=h;refine#[rfl,?_];refine#[show(plK fs).length<=1000000 by unfold plK;rw[aB];have:=i.2.2;lia,?_];have u:iR (plK fs)=fs.map λe=>Dx.str e.nm:=by unfold plK iR;rw[bH];rfl
 rw[u];refine dc_ (λe:Fe=>Dx.str e.nm) (λe:Fe=>Dx.str e.nm) (λe=>shB b e == true) (λe m s P p=>?_) q;refine#[`r,?_];obtain⟨g,l⟩:=i.1 e m;show(match fR (plK fs) (Sum.inr e.nm)with | some d=>_ | none=>False);rw[vJ i m];show eqX ((fR (plK b)<|Sum.inr e.nm).getD .non) (plT e.pl) _;have y:=aIr v e.nm g;have z:shB b e=decide (lJ b e.nm=some g):=by unfold shB;rw[l]
 rw[l];unfold eqX;rw[show eqS ((fR (plK b)<|Sum.inr e.nm).getD .non) (plT<|some g)=_ from y];rw[z]at p;by_cases c:lJ b e.nm=some g;rw [dzT c] at p ⊢;exact p;rw [dzF c] at p ⊢;have r:P (s++[]) _:=p;rw[aU]at r;exact r
def aXn(F:Fun K "names_alone" "names_alone" hl_ f fd):FnOk P w K mg base CX0 1 f fd AH<|spX<|gNS false:=by
 refine jP F gk_ (λo=>(cR<|eU<|v5 gk_ 0 [0,1] (ci_<|rE (aGm (rB o) (xv 2) `e #[rfl,rfl,rfl,rfl])<|ff_ (rB o) `k `e (λ_ _=>rfl)) `e)) λA Q h=>?_;obtain⟨fs,b,rfl,i,v,q⟩:=h;refine#[rfl,?_];refine#[show(plK fs).length<=1000000 by unfold plK;rw[aB];have:=i.2.2;lia,?_];have u:iR (plK fs)=fs.map λe=>Dx.str e.nm:=by unfold plK iR;rw[bH];rfl
 rw[u];refine dc_ (λe:Fe=>Dx.str e.nm) (λe:Fe=>Dx.str e.nm) (λe=>shB b e == false) (λe m s P p=>?_) q;refine#[`r,?_];obtain⟨g,l⟩:=i.1 e m;show(match fR (plK fs) (Sum.inr e.nm)with | some d=>_ | none=>False);rw[vJ i m];show neX ((fR (plK b)<|Sum.inr e.nm).getD .non) (plT e.pl) _;have y:=aIr v e.nm g;have z:shB b e=decide (lJ b e.nm=some g):=by unfold shB;rw[l]
 rw[l];unfold neX;rw[show eqS ((fR (plK b)<|Sum.inr e.nm).getD .non) (plT<|some g)=_ from y];rw[z]at p;by_cases c:lJ b e.nm=some g;rw [dzT c] at p ⊢;have r:P (s++[]) _:=p;rw[aU]at r;exact r;rw [dzF c] at p ⊢;exact p
def aPd(F:Fun K "names_apart" "names_apart" hk_ f fd)(b:rA P w K mg base 3 C_House "places_of" AA<|spE<|gPO C_House a)(v:Cal P w K mg base 1 "names_shared" AH<|spX<|gNS true)(D:Cal P w K mg base 1 "names_alone" AH<|spX<|gNS false):FnOk P w K mg base (CXe P w) 4 f fd AM<|spE<|aQm C_House a:=by
 refine rO F ed_ (λL Q Ex h=>by obtain⟨_,_,_,_,_,rfl,_⟩:=h;rfl) `a λN A B s H E Ex G=>?_;refine#[_,(cG (gK ed_ 3<|da_ b (G.mono `b) `e (eQ `k))
  (cG (gK ed_ 4<|da_ b (G.mono `b) `e (eQ<|xv 2))
  (cR<|eU<|v0<|iW (eJ v<|cQ (xv 3)<|xv 4)<|cQ (eJ D<|cQ (xv 3)<|xv 4)<|eJ D<|cQ (xv 4)<|xv 3))),λL Q h=>?_]
 obtain⟨m,l,o,d,O,rfl,u,C,h⟩:=h;rcases h with⟨i,M,p,c,rfl,rfl,z,I,g,r,q⟩ | ⟨i,p,rfl,z,g,y,q⟩ | ⟨y,q⟩
 refine #[#[_,rfl,rfl],m,l,o,_,rfl,u,.inl #[i,p,rfl,z,g,?_]];refine#[#[_,rfl,rfl],m,l,o,_,rfl,C,.inl #[M,c,rfl,I,r,?_]];refine#[p.1,c.1,rfl,g,r,?_];refine#[p.1,c.1,rfl,g,r,?_];refine#[c.1,p.1,rfl,r,g,?_];refine#[by show 3<=1000000;decide,λbs J=>?_]
 match bs,J with
 | [b1,b2,b3],_=>exact#[[.ol b1<|((p.1.filter λe=>shB c.1 e == true).map λe=>Dx.str e.nm).map .tr,.ol b2<|((p.1.filter λe=>shB c.1 e == false).map λe=>Dx.str e.nm).map .tr,.ol b3<|((c.1.filter λe=>shB p.1 e == false).map λe=>Dx.str e.nm).map .tr],rfl,q b1 b2 b3]
 refine #[#[_,rfl,rfl],m,l,o,_,rfl,u,.inl #[i,p,rfl,z,g,?_]];exact#[#[_,rfl,rfl],m,l,o,_,rfl,C,.inr #[y,q]];exact#[#[_,rfl,rfl],m,l,o,_,rfl,u,.inr #[y,q]]
def aXc(F:Fun K "steady_names" "steady_names" gn_ f fd)(D:mR P w K mg base 4 "names_apart" AM<|spE<|aQm C_House a)(z:PyProof.Rows.OwnCls "NoMake" a veM "ValueError.__new__" mg base):FnOk P w K mg base (CXe P w) 5 f fd AM<|spE<|gSN C_House a:=by
 refine rO F fj_ (λI Q Ex h=>by obtain⟨_,_,_,_,_,rfl,_⟩:=h;rfl) `a λO A o s H E Ex L=>?_;refine#[_,(cG (gK fj_ 3<|aTt K<|cg_ D (L.mono `b)<|iW `e (cQ `k (xv 2)))
  (cG (iY (kT aAv aAs `k (xv 2) (cP _)) (cR<|cy_ z rfl `t) jH)
  (cR<|eU<|dp_<|pv 3))),λI Q h=>?_]
 obtain⟨l,g,m,d,T,rfl,r,u,h⟩:=h;rcases h with⟨i,b,p,v,rfl,rfl,J,C,y,B,N,M⟩ | h
 refine #[l,g,m,_,_,rfl,r,u,.inl #[i,b,p,v,rfl,rfl,J,C,y,B,fun G R S=>#[G,_,_,rfl,?_]]];dsimp only;refine ey_ (decide (b<i)) (ρ':=[vT<|hsT C_House (fB l) g m,vT<|.int (i:Int),vT<|.int (b:Int),.v<|.ol<|(p.1.filter λe=>shB v.1 e == true).map λe=>Dx.str e.nm]) (λQ q=>?_) (λc=>?_)<|λc=>?_;show Q (decide ((b:Int) < (i:Int))) _;rw[show decide ((b:Int)<(i:Int))=decide (b<i) by rw[decide_eq_decide];lia];exact q;exact M<|of_decide_eq_true c;exact N (by have:=of_decide_eq_false c;lia);exact#[l,g,m,_,_,rfl,r,u,.inr h]
end
def fo3(e:Fe):Dx:=.tup [.str e.nm,e.kd.x,e.kd.vx e.vd]
def bEx(C:Addr):GE:=λb Q Ex=>∃(a:Mks) (c:Q4) (f:Int) (i:Nat) (p:Q5×Int),b=[hsT C (fB a) c f,.int (i:Int)]/\a[i]? = some p/\kC p.1/\(∀e∈p.1,e.Ok)/\Q (.ol<|p.1.map fo3)
section
variable{f:Addr}{n j L:Nat}{a C_House:Addr}
def aPf(F:Fun K "fields_of" "House.fields_of" ep_ f fd)(b:rA P w K mg base 2 C_House "make_at" AA<|spE<|gMA C_House a)(m:Cal P w K mg base L "copied" AB<|spX<|gCO 10)(N:2<=L):FnOk P w K mg base (CXe P w) (L+1) f fd AA<|spE<|bEx C_House:=by refine rO F iw_ (λo Q Ex h=>by obtain⟨_,_,_,_,_,rfl,_⟩:=h;rfl) `a λM A g s H E Ex B=>?_;refine#[_,(cR<|eU<|lQ iw_ [] (jL<|dH K<|da_ b (B.mono `b) `e (eQ `k)) kU (eJ m<|eQ<|rW K `e mU (id_ cZ))),λo Q h=>?_];obtain⟨D,C,G,i,p,rfl,z,l,c,q⟩:=h;refine#[#[_,rfl,rfl],fB D,C,G,_,rfl,trivial,.inl #[i,mkT p.1 p.2,rfl,by unfold fB;rw[bI,z];rfl,?_]];dsimp only[xC];refine qI ?_;refine#[show(p.1.map Fe.x).length<=1000000 by rw[aB];have:=l.2.2;lia,show cB _ _ _ _ _ (p.1.map Fe.x) _ _ from ?_];refine lR Fe.x fo3 (λe r J P I=>?_) (by rw[bU];exact q);have ok:=c e r;have u:=Kd.xz e.kd ok.fit;have v:=Kd.xd e.kd;have hv:=Kd.vx_sz e.kd e.vd ok.fit ok.val;have O:=ok.deep;have y:=ok.nm;refine#[by show ¬(HT.sIx 4 0 none=0/\HT.sIx 4 4 (some 3)=4);decide,fo3 e,rfl,#[by show 3<=100000;decide,?_,u,hv.1,trivial],?_,I];show e.nm.length≤100000;have:=y.sz;lia;show max 1 (max e.kd.x.deep<|max (e.kd.vx e.vd).deep 0) + 1≤10;lia
end
def Mid(fs:Q5)(k0 k:Nat)(G:Q5):Prop:=(nms G).Nodup/\∃A B,G=A++B/\(∀e∈A,e∈fs)/\(∀e∈B,e.pl=none/\k0<=e.ix/\e.ix<k/\e.Ok)/\(B.map (·.ix)).Nodup/\B.length+k0<=k
def sW(h:(nms fs).Nodup):Mid fs k k fs:=#[h,fs,[],(aU _).symm,λ_ h=>h,λ_ h=>(nomatch h),gF,by show 0+k<=k;lia]
def aKa{c:Ch}(h:Mid fs k0 k G)(y:k0<=k)(v:c.Ok G):Mid fs k0 (c.ct k)<|c.go G k:=by
 obtain⟨o,A,B,rfl,l,j,m,D⟩:=h;cases c with
 |drop nm => refine#[?_,A.filter λe=>!decide (e.nm=nm),B.filter λe=>!decide (e.nm=nm),dG ..,λe f=>l e (cA.mp f).1,λe f=>j e (cA.mp f).1,?_,?_];exact o.sublist<|List.Sublist.map _ dR;exact m.sublist<|List.Sublist.map _ dR;have:=cM (fun e:Fe => !decide (e.nm=nm)) B;show _+k0<=k;lia
 |add nm z C =>
  obtain⟨p,q,r,s,u⟩:=v;refine#[?_,A,B++[#[nm,k,z,C,none]],bK ..,l,λe f=>?_,?_,?_];show (nms<|A ++ B ++ [_]).Nodup;unfold nms;rw[aZ];refine bO.mpr #[o,by simp,λa g b i=>?_];rw[List.map_singleton,aE]at i;rintro rfl;rw[i]at g;exact q g;rcases aV.mp f with f | f
  obtain ⟨a,b,c,d⟩:=j e f;exact#[a,b,by show e.ix<k+1;exact Nat.lt_add_right 1 c,d];rw [aE.mp f];exact#[rfl,y,Nat.lt_succ_self k,#[p,r,s,u]];rw [aZ];refine bO.mpr #[m,by simp,λa g b i=>?_];rw[List.map_singleton,aE]at i;obtain⟨e,f,rfl⟩:=aY.mp g;have:=(j e f).2.2.1;rintro rfl;lia;rw [aI];show B.length+1+k0<=k+1;lia
def bFt(k:Nat)(c:Ch):k<=c.ct k:=by cases c<;>simp only[Ch.ct]<;>lia
def vY:∀{cs} {G} {k},Mid fs k0 k G->k0<=k->chs G k cs->Mid fs k0 (cts k cs) (gos G k cs)
 | [],_,_,h,_,_=>h
 |c::r,G,k,h,hk,hc=>vY (cs:=r) (aKa h hk hc.1) (nzL hk<|bFt k c) hc.2
def nU:∀{cs} {k},cts k cs=k+mQ cs
 | [],k=>rfl
 |c::r,k=>by
  show cts (c.ct k) r=_;rw[nU (cs:=r)];unfold mQ;cases c with
  |drop nm=>rfl
  |add nm a b=>show k+1+_=k+(_+1);lia
def aKl{fs G:Q5}(f:∀e∈fs,∃p,e.pl=some p)(e:G=A++B)(b:∀e∈A,e∈fs)(c:∀e∈B,e.pl=none/\k0<=e.ix/\e.ix<k/\e.Ok):kpF G=A/\nwF G=B:=by
 subst e;have g:A.filter (·.pl.isSome)=A:=iH.mpr λe a=>by obtain⟨p,h⟩:=f e<|b e a;rw[h];rfl
 have i:A.filter (·.pl.isNone)=[]:=dQ.mpr λe a=>by obtain⟨p,h⟩:=f e<|b e a;rw[h];simp
 have j:B.filter (·.pl.isSome)=[]:=dQ.mpr λe a=>by rw[(c e a).1];simp
 have l:B.filter (·.pl.isNone)=B:=iH.mpr λe a=>by rw[(c e a).1];rfl
 unfold kpF nwF;rw[dG,dG,g,i,j,l];exact#[aU _,bU _]
structure Hist(ms:Mks)(ly:Q4)(k:Nat):Prop where
 plc:∀p∈ms,kC p.1/\∀e∈p.1,e.Ok/\e.ix<k/\∃s∈ly,e.pl=some s.1
 uni:∀p∈ms,∀p'∈ms,∀e∈p.1,∀e'∈p'.1,(e.ix=e'.ix->e=e')/\(e.pl=e'.pl->e.ix=e'.ix)
 mid:∀(a b c:Nat) (p q r:Q5×Int) (e:Fe),a<=c->c<=b->ms[a]? = some p->ms[b]? = some q->ms[c]? = some r->e∈p.1->e∈q.1->e∈r.1
def hx_(c:(nms gs).Nodup)(a:e∈gs):gs.find? (λx=>decide (x.nm=e.nm))=some e:=by
 induction gs with
 |nil=>cases a
 |cons g r f =>
  have b:=bR.mp c;rw[dW];rcases aF.mp a with rfl | a
  rw[dzT rfl];have:g.nm≠e.nm:=fun z=>b.1<|aY.mpr #[e,a,z.symm];rw[dzF this];exact f b.2 a
def aKk{fs G:Q5}{k0 k m:Nat}{ly:Q4}(u:∀e∈fs,∃p,e.pl=some p)(s:Mid fs k0 k G){e:Fe}(a:e∈dP G ly):e∈fs\/∃(i:Nat) (x:Fe),(nwF G)[i]? = some x/\i<(rsF G).length/\(x.pl=none/\k0<=x.ix/\x.ix<k/\x.Ok)/\e=x.put (pk (dpP (rsF G) ly) i):=by
 obtain⟨C,A,B,q,f,g,y,z⟩:=s;obtain⟨l,o⟩:=aKl u q f g;unfold dP at a;rcases aV.mp a with a | a
 rw [l] at a;exact .inl<|f e a;obtain ⟨x,v,rfl⟩:=aY.mp a;obtain⟨i,j⟩:=fX v;obtain⟨b,r⟩:=cW.mp j;have h:=(aK.mp b).1;refine .inr #[i,x.1,b,by rw[eg_,aB];exact h,?_,?_];rw [o] at b;exact g x.1<|aQ b;have c:pk (dpP (rsF G) ly) i=x.2:=by unfold pk; rw [bA,r]; rfl
 rw[c]
def aJv(i:∀e∈fs,∃p,e.pl=some p)(f:Mid fs k0 k G):((nwF G).map (·.ix)).Nodup/\(nwF G).length+k0<=k:=by obtain⟨j,A,B,a,b,c,g,h⟩:=f;rw[(aKl i a b c).2];exact#[g,h]
def aKb(f:Mid fs k0 k G)(g:∀e∈fs,e.Ok):∀e∈G,e.Ok:=by
 obtain⟨j,A,B,rfl,b,c,h,i⟩:=f;intro e a;rcases aV.mp a with a | a
 exact g e<|b e a;exact(c e a).2.2.2
def ku_(z:∀e∈fs,∃p,e.pl=some p)(u:Mid fs k0 k G)(v:Rs2<|rsF G)(s:LyOk m ly){D:Type}(g:Fe->D)(y:∀e p,g (e.put p)=g e):(dP G ly).map g=G.map g:=by
 obtain⟨H,A,B,f,o,q,E,F⟩:=u;obtain⟨i,j⟩:=aKl z f o q;have h:(dpP (rsF G) ly).length=(nwF G).length:=by rw[(ld_ (ly:=ly) v.1 s.1).len,eg_,aB]
 have b:∀(l:Q5) (a:Q6),a.length=l.length->((l.zip a).map λx=>x.1.put x.2).map g=l.map g:=by
  intro l
  induction l with
  |nil=>intro a _;rfl
  |cons x r C =>
   intro a c;cases a with
   |nil=>simp at c
   |cons p a => show g (x.put p)::_=g x::_;rw[y];exact congrArg (g x :: ·)<|C a<|by simpa using c
 unfold dP;rw[aZ,b _ _ h,i,j,f,aZ]
def tG(h:Hist ms ly k)(hl:ms[ms.length-1]? = some (fs,r0))(L:Mid fs k k' G)(M:Rs2<|rsF G)(J:LyOk m ly)(A:ly'.Perm<|ly++lG (rsF G) ly)(O9:k<=k')(Hc:G.length<=1000):Hist (ms++[(dP G ly,r)]) ly' k':=by
 have D:=aQ hl;have t:=h.plc _ D;have H:=t.1.1;have j:=λ{e:Fe} (f:e∈dP G ly)=>aKk (m:=m) H L f;have Bh:=aJv H L;have B:∀{p},p∈ms++[(dP G ly,r)]->p∈ms\/p=(dP G ly,r):=λA=>by
  rcases aV.mp A with A | A
  exact .inl A;exact .inr<|aE.mp A
 have l:∀{p e i x},p∈ms->e∈p.1->(nwF G)[i]? = some x->i<(rsF G).length->(x.pl=none/\k<=x.ix/\x.ix<k'/\x.Ok)->e.ix≠x.ix/\e.pl≠some (pk (dpP (rsF G) ly) i):=λ{p e i x} y f v u o=>by obtain⟨_,hk,s,hs,Ec⟩:=(h.plc p y).2 e f;refine#[by lia,λz=>?_];rw[Ec]at z;exact(aIq M J u).1 s hs<|ozI z
 refine#[λp y=>?_,λp y p' C e f Q g=>?_,λa b c p q s e Pm Y Md Oz Cy f g=>?_];rcases B y with y | rfl
 obtain ⟨a,b⟩:=h.plc p y;refine#[a,λe f=>?_];obtain⟨E,T,s,U,W⟩:=b e f;exact#[E,aX T O9,s,A.mem_iff.mpr<|aM _ U,W];refine #[#[fun e f => ?_,?_,?_],fun e f => ?_];rcases j f with f | ⟨i,x,v,u,o,rfl⟩
 exact H e f;exact`r;show ((dP G ly).map (·.nm)).Nodup;rw[ku_ H L M J (·.nm) λ_ _=>rfl];exact L.1;have:=congrArg List.length (ku_ (ly:=ly) H L M J (·.nm) fun _ _=>rfl);rw[aB,aB]at this;exact le_of_eq_of_le this Hc;rcases j f with f | ⟨i,x,v,u,o,rfl⟩
 obtain ⟨E,T,s,U,W⟩:=t.2 e f;exact#[E,aX T O9,s,A.mem_iff.mpr<|aM _ U,W];refine #[#[o.2.2.2.nm,o.2.2.2.fit,o.2.2.2.deep,o.2.2.2.val],o.2.2.1,(pk (dpP (rsF G) ly) i,pk (dpP (rsF G) ly) i + (rk (rsF G) i).1),A.mem_iff.mpr<|aG _ ?_,rfl];have Fp:=(ld_ (ly:=ly) M.1 J.1).len;have d:=aJ u;have Pe:=aJ (i:=i)<|dF u<|id<|Eq.symm Fp;refine aY.mpr #[((rsF G)[i],(dpP (rsF G) ly)[i]),aQ<|cW.mpr #[d,Pe],?_];have e1:=sG d;have e2:pk (dpP (rsF G) ly) i=(dpP (rsF G) ly)[i]:=by unfold pk;rw[bA,Pe];rfl
 rw[e1,e2];rfl;rcases B y with y | rfl
 rcases B C with C | rfl
 exact h.uni p y p' C e f Q g;rcases j g with g | ⟨i,x,v,u,o,rfl⟩
 exact h.uni p y _ D e f Q g;obtain ⟨a,b⟩:=l y f v u o;exact#[λz=>absurd z a,λz=>absurd z b];rcases B C with C | rfl
 rcases j f with f | ⟨i,x,v,u,o,rfl⟩
 exact h.uni _ D p' C e f Q g;obtain ⟨a,b⟩:=l C g v u o;exact#[λz=>absurd z.symm a,λz=>absurd z.symm b];rcases j f with f | ⟨i,x,v,u,o,rfl⟩
 rcases j g with g | ⟨N,x',I,S,Lj,rfl⟩
 exact h.uni _ D _ D e f Q g;obtain ⟨a,b⟩:=l D f I S Lj;exact#[λz=>absurd z a,λz=>absurd z b];rcases j g with g | ⟨N,x',I,S,Lj,rfl⟩
 obtain ⟨a,b⟩:=l D g v u o;exact#[λz=>absurd z.symm a,λz=>absurd z.symm b];refine #[fun z => ?_,fun z => ?_];have Z:x.ix=x'.ix:=z;have g1:((nwF G).map (·.ix))[i]? = some x.ix:=by rw[bI,v];rfl
 have g2:((nwF G).map (·.ix))[N]? = some x.ix:=by rw[bI,I,Z];rfl
 have J3:=(aK.mp g1).1;have:i=N:=(List.getElem?_inj J3 Bh.1).mp<|g1.trans g2.symm;subst this;rw[v]at I;cases I;rfl;have Z:=z;by_cases c:i=N;grind;exact absurd (ozI Z)<|(aIq M J u).2 N S c;have O:∀ {n p},(ms ++ [(dP G ly,r)])[n]? = some p→(n < ms.length∧ms[n]? = some p)∨(n=ms.length∧p=(dP G ly,r)):=fun {n p} F=>by
  by_cases c:n<ms.length;rw [cX c] at F;exact .inl #[c,F];rw [bW<|iB c] at F;have:=(aK.mp F).1;have c2:n-ms.length=0:=by simp at this;exact Eq.symm<|Nat.add_right_cancel<|congrFun (congrArg HAdd.hAdd<|id<|Eq.symm this) k
  rw[c2]at F;exact .inr #[by lia,(ozI F).symm]
 rcases O Cy with⟨c1,V⟩ | ⟨c1,rfl⟩
 rcases O Md with ⟨a1,R⟩ | ⟨a1,_⟩
 rcases O Oz with ⟨E,Mb⟩ | ⟨E,rfl⟩
 exact h.mid a b c p q s e Pm Y R Mb V f g;rcases j g with g | ⟨i,x,v,u,o,rfl⟩
 exact h.mid a (ms.length-1) c p (fs,r0) s e Pm (Nat.le_sub_one_of_lt c1) R hl V f g;exact absurd rfl (l (aQ R) f v u o).1;lia;rcases O Oz with ⟨E,_⟩ | ⟨E,rfl⟩
 lia;exact g
def aKx(D:Mid [] 0 k' G)(E:Rs2<|rsF G)(C:LyOk m [])(g:ly'.Perm<|lG (rsF G) [])(l:G.length<=1000):Hist [(dP G [],r)] ly' k':=by
 have u:Hist [(([]:Q5),(0:Int))] [] 0:=#[λp g=>by
  rw[aE.mp g];exact#[#[λe f=>(nomatch f),gF,by decide],λe f=>(nomatch f)],λp g j i e f=>by
  rw[aE.mp g]at f;exact(nomatch f),λa b c p q s e _ _ o _ _ f=>by
  have:=aQ o;rw[aE.mp this]at f;exact(nomatch f)]
 have h:=tG (r:=r) u (fs:=[]) (r0:=0) rfl D E C g (bL _) l;refine#[λp g=>h.plc p<|aC _ g,λp g j i=>h.uni p (aC _ g) j<|aC _ i,λa b c p q s e v y z A B=>h.mid (a+1) (b+1) (c+1) p q s e (fW v 1) (fW y 1) z A B]
def et_(h:Hist g ly k)(c:p∈g)(f:q∈g)(b:e∈p.1):shB q.1 e=true↔e∈q.1:=by unfold shB lJ;rw[decide_eq_true_eq];constructor;intro j;obtain⟨s,_,hs2⟩:=((h.plc p c).2 e b).2.2;rw[hs2]at j;obtain⟨i,m,l⟩:=bP.mp j;have a:=List.mem_of_find?_eq_some m;have:=(h.uni p c q f e b i a).1<|(h.uni p c q f e b i a).2 (by rw[hs2,l]);rw[this];exact a;intro a;rw[hx_ (h.plc q f).1.2.1 a];rfl
def aPl(h:Hist m ly k)(j:p∈m)(l:q∈m)(v:r=p\/r=q)(s:e∈r.1):e.nm∈(p.1.filter λe=>shB q.1 e == true).map (·.nm)↔e∈p.1/\e∈q.1:=by
 constructor;intro z;obtain⟨g,u,y⟩:=aY.mp z;obtain⟨c,i⟩:=cA.mp u;have o:=(et_ h j l c).mp<|eq_of_beq i;have f:∀{G:Q5},(nms G).Nodup->e∈G->g∈G->e=g:=λf a b=>ozI<|(hx_ f a).symm.trans (by rw[<-y];exact hx_ f b);have:e=g:=by
  rcases v with rfl | rfl
  exact f (h.plc _ j).1.2.1 s c;exact f (h.plc _ l).1.2.1 s o
 rw[this];exact#[c,o];rintro ⟨c,i⟩;exact List.mem_map_of_mem<|cA.mpr #[c,by rw[(et_ h j l c).mpr i];rfl]
def mP(fs:Q5):Prop:=(fs.map (·.ix)).Pairwise (· < ·)
def aAg(h:mP fs):fs.Nodup:=by have c:fs.Pairwise λa b=>a.ix<b.ix:=jB.mp h;exact c.imp λz e=>by rw[e]at z;exact dB _ z
abbrev shF(p q:Q5×Int):Q5:=p.1.filter λe=>shB q.1 e == true
def aHq(h:Hist c ly k)(f:p∈c)(g:q∈c):e∈shF p q↔e∈p.1/\e∈q.1:=by rw[cA];constructor;rintro⟨a,b⟩;exact#[a,(et_ h f g a).mp<|eq_of_beq b];rintro⟨a,b⟩;exact#[a,by rw[(et_ h f g a).mpr b];rfl]
def k7(h:Hist i ly k)(g:∀p∈i,mP p.1)(c:p∈i)(f:q∈i):shF p q=shF q p:=by have m:(shF p q).Pairwise λa b=>a.ix<b.ix:=(jB.mp<|g p c).sublist dR;have o:(shF q p).Pairwise λa b=>a.ix<b.ix:=(jB.mp<|g q f).sublist dR;have j:(shF p q).Nodup:=(aAg<|g p c).sublist dR;have l:(shF q p).Nodup:=(aAg<|g q f).sublist dR;refine List.Perm.eq_of_pairwise (le:=λa b:Fe=>a.ix<b.ix) (λa b _ _ x y=>absurd x<|Nat.lt_asymm y) m o ?_;refine(List.perm_ext_iff_of_nodup j l).mpr λe=>?_;rw[aHq h c f,aHq h f c];exact And.comm
def aNz(h:Hist c ly k)(b:p∈c):shF p p=p.1/\(p.1.filter λe=>shB p.1 e == false)=[]:=by
 constructor;exact iH.mpr λe a=>by rw[(et_ h b b a).mpr a];rfl
 exact dQ.mpr λe a=>by rw[(et_ h b b a).mpr a];decide
def aBb(h:Hist a ly k)(c:p∈a)(f:q∈a)(g:r=p\/r=q)(b:e∈r.1):e.nm∈nms (shF p q)↔e∈p.1/\e∈q.1:=aPl h c f g b
def aVc(h:Hist l ly k){a b c:Nat}(A:a<=b)(m:b<=c)(u:l[a]? = some p)(v:l[b]? = some q)(y:l[c]? = some r):(nms<|shF p q).filter (λn=>decide (n∈nms (shF q r)))=nms (shF p r):=by have mp:=aQ u;have i:=aQ v;have j:=aQ y;unfold nms;rw[List.filter_map,List.filter_filter];congr 1;refine List.filter_congr λe g=>?_;rw[dX];have o:e∈r.1↔e∈q.1/\e∈r.1:=#[λz=>#[h.mid a c b p r q e A m u y v g z,z],And.right];show(decide (e.nm∈nms (shF q r))&&(shB q.1 e == true))=true↔(shB r.1 e == true)=true;rw[cI,decide_eq_true_eq];constructor;rintro ⟨B,C⟩;have f:=(et_ h mp i g).mp<|eq_of_beq C;have:=((aBb h i j (.inl rfl) f).mp B).2;rw[(et_ h mp j g).mpr this];rfl;intro z;have s:=(et_ h mp j g).mp<|eq_of_beq z;have f:=(o.mp s).1;exact#[(aBb h i j (.inl rfl) f).mpr #[f,s],by rw[(et_ h mp i g).mpr f];rfl]
def wQ{fs:Q5}{f:Str->Bool}{g:Fe->Bool}(h:∀e∈fs,f e.nm=g e):(nms fs).filter f=nms (fs.filter g):=by unfold nms;rw[List.filter_map];congr 1;exact List.filter_congr λe a=>h e a
def aQa(h:Hist i ly k)(j:∀p∈i,mP p.1)(f:p∈i)(g:q∈i) :
  (nms p.1).filter (λn=>decide (n∈nms (shF p q)))=nms (shF p q)/\(nms q.1).filter (λn=>decide (n∈nms (shF p q)))=nms (shF p q) /\
  (nms p.1).filter (λn=>!decide (n∈nms (shF p q)))=nms (p.1.filter λe=>shB q.1 e == false)/\(nms q.1).filter (λn=>!decide (n∈nms (shF p q)))=nms (q.1.filter λe=>shB p.1 e == false):=by
 have a:∀e∈p.1,decide (e.nm∈nms (shF p q))=(shB q.1 e == true):=λe c=>by rw[dX,decide_eq_true_eq,aBb h f g (.inl rfl) c,beq_iff_eq,et_ h f g c];exact#[And.right,λz=>#[c,z]]
 have b:∀e∈q.1,decide (e.nm∈nms (shF p q))=(shB p.1 e == true):=λe c=>by rw[dX,decide_eq_true_eq,aBb h f g (.inr rfl) c,beq_iff_eq,et_ h g f c];exact#[And.left,λz=>#[z,c]]
 have n:∀x:Bool,(!(x == true))=(x == false):=by decide
 refine#[wQ a,?_,wQ λe c=>by rw[a e c,n],wQ λe c=>by rw[b e c,n]];rw[wQ b,k7 h j f g]
def aFq{p q:Q5×Int}(f:kC p.1)(c:e∈p.1)(b:(shB q.1 e == false)=true):lJ p.1 e.nm=e.pl/\lJ q.1 e.nm≠lJ p.1 e.nm:=by
 have a:lJ p.1 e.nm=e.pl:=by unfold lJ;rw[hx_ f.2.1 c];rfl
 refine#[a,?_];rw[a];unfold shB at b;exact of_decide_eq_false<|eq_of_beq b
def aAh{c:Ch}(h:mP fs)(g:∀e∈fs,e.ix<k):mP (c.go fs k)/\∀e∈c.go fs k,e.ix<c.ct k:=by
 cases c with
 |drop nm=>exact#[h.sublist<|List.Sublist.map _ dR,λe f=>g e (cA.mp f).1]
 |add nm l m =>
  refine#[?_,λe f=>?_];show ((fs ++ [(#[nm,k,l,m,none] : Fe)]).map (·.ix)).Pairwise _;rw[aZ];refine List.pairwise_append.mpr #[h,List.pairwise_singleton ..,λa i b j=>?_];obtain⟨e,f,rfl⟩:=aY.mp i;rw[aE.mp j];exact g e f;show e.ix < k + 1;rcases aV.mp f with f | f
  have:=g e f;lia;rw[aE.mp f];exact Nat.lt_succ_self k
def pJ:∀{cs:T1} {fs:Q5} {k:Nat},mP fs->(∀e∈fs,e.ix<k)->mP (gos fs k cs)
 | [],_,_,h,_=>h
 |c::r,fs,k,h,hk=>pJ (cs:=r) (aAh h hk).1 (aAh h hk).2
abbrev bX(xs:Q3):Q0:=xs.map Dx.str
def Fe.n(e:Fe):Dx:=.tup [.str e.nm,.int (e.ix:Int),e.kd.x]
def iQ(a:Mks):Q0:=a.map λp=>.lst<|p.1.map Fe.n
def jt_:∀{xs:Q3} {vs:Q1},All2 (IsX G) (bX xs) vs->vs=xs.map V.str
 | [],_,h=>h
 |x::r,_,⟨v,vr,e,h1,h2⟩=>by rw[e,jt_ (xs:=r) h2,h1.str_eq];rfl
def uT:∀xs:Q3,IsDs H (xs.map Dt.str) (xs.map V.str)
 | []=>by simp only[dE,IsDs]
 |i::r=>by simp only[bG,IsDs];exact#[_,_,rfl,by simp only[IsD],uT r]
def js_:∀xs:Q3,gP (xs.map Dt.str)<=1
 | []=>by simp only[dE,gP];lia
 |i::r=>by have:=js_ r;simp only[bG,gP,Dt.deep];lia
abbrev t3(xs ys zs:Q3):Dx:=.tup [.lst<|bX xs,.lst<|bX ys,.lst<|bX zs]
def neT:G2:=λa b Q=>∃c e f:Q3,a=t3 c e f/\b=t3 c e f/\Q (.tr<|.bl false)
def bCp{P:Q8}(R:Rep F P H)(h:IsX (hid (bB P) `m) (t3 xs ys zs) x):IsD H (.tup [.lst<|xs.map .str,.lst<|ys.map .str,.lst<|zs.map .str]) x:=by
 obtain⟨p,o,rfl,a,j,_,rfl,e,l,_,rfl,f,m,_,rfl,g,rfl⟩:=h.tup_eq;have one:∀{xs:Q3} {v:V},IsX (hid (bB P) `m) (.lst<|bX xs) v->IsD H (.lst<|xs.map .str) v:=λ{xs v} w=>by obtain⟨q,i,rfl,b,c⟩:=w.lst_eq;cases jt_ c;simp only[IsD];exact#[q,_,rfl,R.hv _ _ b,uT xs]
 simp only[IsD,IsDs];exact#[p,_,rfl,R.hv _ _ a,_,_,rfl,by simpa only[IsD]using one e,_,_,rfl,by simpa only[IsD]using one f,_,_,rfl,by simpa only[IsD]using one g,rfl]
def aJf:OpX (aIb false) neT:=by intro F P H a b x y Q j R c e g k;obtain⟨f,h,i,rfl,rfl,g⟩:=g;refine#[_,?_,.inr `r,bCp R c,bCp R e,k _ _ H (R.add<|IsX.of_bl _) g];have:=js_ f;have:=js_ h;have:=js_ i;simp only[Dt.deep,gP];lia
def pV:∀xs:Q3,lX ((bX xs).map Ow.tr)=bX xs
 | []=>by simp only[dE,lX]
 |x::r=>by simp only[bG,lX,Ow.d];exact congrArg _<|pV r
abbrev f3(a b c:Addr)(xs ys zs:Q3):Ow:=.ot [.ol a<|(bX xs).map .tr,.ol b<|(bX ys).map .tr,.ol c<|(bX zs).map .tr]
def bFi:(f3 a b c xs ys zs).d=t3 xs ys zs:=by simp only[Ow.d,lX];rw[pV,pV,pV]
def p7{i j k}{a b c}{ρ}{Q}(h:Q<|((ρ.set i<|vT a).set j<|vT b).set k<|vT c):gxT [i,j,k] (.tup [a,b,c]) ρ Q:=h
def qS{l:Type}{n:Nat}{r:XG}{s:XC}{u:XT}{Q:Q0->Q9->Prop}{cs:Q9}(e:Q9)(m o:l->Dx)(p:l->Bool){as:List l}(h:∀a∈as,∀(f:Q0) (P:Q0->Q9->Prop) (c:Q9),(c=cs\/c=e)->P (f++(if p a=true then [o a]else [])) e->oS n r s u P (m a) c f)(q:∀c,(c=cs\/c=e)->Q ((as.filter p).map o) c):cB n r s u Q (as.map m) cs []:=by refine db_ m (λrest f c=>(c=cs\/c=e)/\∃b,as=b++rest/\f=(b.filter p).map o) (λf c i=>?_) (λa rest f c P i k=>?_) #[.inl rfl,[],rfl,rfl];obtain ⟨j,b,g,rfl⟩:=i;rw[aU]at g;subst g;exact q c j;obtain ⟨j,b,g,rfl⟩:=i;refine h a (by rw[g];exact aG _ aA) _ P c j<|k _ _ #[.inr rfl,b++[a],by rw[g,bK];rfl,?_];rw[dG,aZ,gH,List.filter_nil];cases p a<;>rfl
def aLp{b:Bool}{f:Type}{a:Q0}{x:Dx}{P:Q0->f->Prop}{c:f}(h:P (a++if b=true then [x]else []) c):if b=true then P (a++[x]) c else P a c:=by cases b;have e:P (a ++ []) c:=h;rw[aU]at e;exact e;exact h
def gVA(n:Nat):GB:=λl e Q=>∃a:Kd,e=[a.x]/\gA l/\a.Fit/\a.deep<=n/\n<=5/\∀(c:Vd) (b:Q0),a.Val c->gA b->Q (a.vx c) b
section
variable{f:Addr}{n j:Nat}
def aWx(F:Fun K "_law_value" "_law_value" gv_ f fd)(C2:Cal P w K mg base 1 "_law_next" BF<|spB gNX)(Gx:Cal P w K mg base (j+1) "_law_value" AR<|uV<|gVA n)(B:Blt mg) :
  FnOk P w K mg base CX0 (j+2) f fd AR (uV<|gVA<|n+1):=by
 refine bFe F fJ (λl ds Q h=>by obtain⟨kd,rfl,_⟩:=h;rfl) `a `a λAj A a4 s H E hr=>?_;refine#[_,(cG (iY (kI `j lB) (cG (gK fJ 2 cZ)
  (cG (xO PassesOwn.never rfl (cf_ B.range<|eQ `j) (iK (i:=3) fJ.nd rfl `l) (tZ (n:=99) (i:=3) `a)<|cR<|gK fJ 2<|lS (es_ cZ<|xv 2)<|qU (nQ 1 C2 kF) cZ)
  (cR<|eU<|dp_<|pv 2))) jH)
  (cG (iY (kI `j lB) (cR<|eU<|lQ fJ [0,1] (cf_ B.range<|eQ `j) kU (fg_ (i:=2) Gx (hr.mono `b) (dH K `k)<|pv 2)) jH)
  (cG (iY (kI `j lB) (cR<|eU<|he_ (iu_ rfl) wX `t B.dict nX (eQ<|aGq fJ [1] (jL `j) kU (jQ<|cQ `e (fg_ (i:=2) Gx (hr.mono `b) `k (pv 2))))) jH)
  (cG (gK fJ 3<|qU (nQ 1 C2 kF)<|tS `j)
  (cR<|eU<|jQ<|cQ (xv 3)<|fg_ (i:=1) Gx (hr.mono `b) (mO K `j (xv 3))<|pv 1))))),λl d Q h=>?_]
 obtain⟨kd,e,V,t,F1,hn,q⟩:=h;cases e;cases kd with
 |num J m =>
  obtain⟨a1,a2,_⟩:=t;refine ey_ true (ρ':=[vT (Kd.num J m).x,.bw l,.un,.un]) (λQ q=>q) (λ_=>?_) (λT=>by cases T);refine f8<|it_ ?_;dsimp only;change dO (lT _ _ _) _ [vT (Kd.num J m).x,.bw l,vT<|.int 0,.un] _;refine dd_ (λL=>∃(z:Int) (c:Q0) (y:Sl),0<=z/\z<256^J.toNat/\gA c/\L=[vT (Kd.num J m).x,.bw c,vT<|.int z,y]) ?_<|λnx C8=>?_;rintro L ⟨z,c,y,z0,z1,R,rfl⟩;exact q (.num z) c (by simp only[Kd.Val];exact#[z0,z1]) R;refine #[`s,?_];show hU _ _ _ (gZ 0 J.toNat) _;unfold gZ;refine xQ (λk:Nat=>Dx.int<|0+(k:Int)) (λrest L=>∃(i:Nat) (z:Int) (c:Q0) (y:Sl),i+rest.length=J.toNat/\0<=z/\z<256^i/\gA c/\L=[vT (Kd.num J m).x,.bw c,vT<|.int z,y]) (λL h=>?_) (λk rest L Kn h U=>?_) #[0,0,l,.un,by rw[bY];lia,by decide,by decide,V,rfl];obtain ⟨i,z,c,y,u,z0,z1,R,rfl⟩:=h;rw[bE,Nat.add_zero]at u;exact C8 _ #[z,c,y,z0,by rw[<-u];exact z1,R,rfl];obtain ⟨i,z,c,y,u,z0,z1,R,rfl⟩:=h;rw[aL]at u;have h8:=aVt (show i<=8 by lia);have Pu:(256:Int)^8<2^65:=by decide
  refine#[#[by decide,by lia],?_];refine#[rfl,rfl,R,λr l2 Y Aq=>#[by show(0:Int)<256;decide,?_]];have r1:(0:Int)<=r%256:=bT _ `a;have r2:r%256<256:=bQ _ `a;refine U _ #[i+1,256*z+r%256,l2,vT<|.int<|0+(k:Int),by lia,by lia,?_,Aq,rfl];rw[Int.pow_succ];lia
 |row k m =>
  obtain⟨S,m1,m2⟩:=t;have Ka:k.deep+1<=n+1:=F1;refine kM (ρ':=[vT (Kd.row k m).x,.bw l,.un,.un]) (λQ q=>q) ?_;refine ey_ true (ρ':=[vT (Kd.row k m).x,.bw l,.un,.un]) (λQ q=>q) (λ_=>?_) (λT=>by cases T);refine#[`s,by show((List.range _).map _).length<=_;rw[aB,bY];lia,?_];refine db_ (λk:Nat=>Dx.int<|0+(k:Int)) (λrest C G=>∃(p:List Vd) (c:Q0),p.length+rest.length=m.toNat/\C=p.map k.vx/\G=[.v<|.tr (Kd.row k m).x,.bw c]/\(∀v∈p,k.Val v)/\gA c) (λC G h=>?_) (λa rest C G Pn h U=>?_) #[[],l,by rw[bY];simp,rfl,rfl,λ_ h=>(nomatch h),V];obtain ⟨p,c,u,rfl,rfl,hv,D⟩:=h;rw[bE]at u;have:=q (.row p) c (by simp only[Kd.Val];exact#[by lia,hv]) D;simp only[Kd.vx]at this;exact this;obtain ⟨p,c,u,rfl,rfl,hv,D⟩:=h;rw[aL]at u;refine#[k,rfl,D,S,by lia,by lia,λZ W O N=>U _ _ #[p++[Z],W,by rw[aI,jN];lia,by rw[aZ];rfl,rfl,λv I=>?_,N]];rcases aV.mp I with I | I
  exact hv v I;rw[aE.mp I];exact O
 |rcd fs =>
  obtain⟨S,m1,m2,Bh⟩:=t;have Ka:gE fs+1<=n+1:=F1;refine kM (ρ':=[vT (Kd.rcd fs).x,.bw l,.un,.un]) (λQ q=>q) ?_;refine kM (ρ':=[vT (Kd.rcd fs).x,.bw l,.un,.un]) (λQ q=>q) ?_;refine ey_ true (ρ':=[vT (Kd.rcd fs).x,.bw l,.un,.un]) (λQ q=>q) (λ_=>?_) (λT=>by cases T);show(xF fs).length<=1000000/\cB _ _ _ _ _ (xF fs) _ _;rw[gh_];refine#[by rw[aB];lia,?_];refine db_ _ (λrest C G=>∃(g:S6) (p:List Vd) (c:Q0),fs=g++rest/\C=(vxF g p).map (λkv=>.tup [kZ kv.1,kv.2])/\G=[.bw c]/\jD g p/\gA c) (λC G h=>?_) (λfx rest C G Pn h U=>?_) #[[],[],l,rfl,by simp only[vxF];rfl,rfl,by simp only[jD],V];obtain ⟨g,p,c,u,rfl,rfl,hv,D⟩:=h;rw[aU]at u;subst u;have:=q (.rcd p) c (by simp only[Kd.Val];exact hv) D;simp only[Kd.vx]at this;refine#[vxF fs p,rfl,?_,this];rw[hf_<|fh_ hv];have e:(fs.map λf=>(Sum.inr f.1:Key))=(fs.map (·.1)).map (λx:Str=>(Sum.inr x:Key)):=by rw[bH];rfl
  rw[e];exact List.Pairwise.map _ (λa b h e=>h<|Sum.inr.inj e) Bh;obtain ⟨g,p,c,u,rfl,rfl,hv,D⟩:=h;have I:fx∈fs:=by rw[u];exact aG _ aA
  obtain⟨ff,a6⟩:=aLn S I;have Iw:=fh_ hv;refine#[fx.2,rfl,D,ff,by lia,by lia,λZ W O N=>#[by show 2<=1000000;decide,U _ _ #[g++[fx],p++[Z],W,by rw[u,bK];rfl,?_,rfl,sB hv O,N]]];rw[yA Iw,aZ];rfl
 |cho o =>
  obtain⟨S,m1,m2⟩:=t;have Ka:dS o+1<=n+1:=F1;have a7:(xK o).length=o.length:=by rw[f9,aB]
  refine kM (ρ':=[vT (Kd.cho o).x,.bw l,.un,.un]) (λQ q=>q) ?_;refine kM (ρ':=[vT (Kd.cho o).x,.bw l,.un,.un]) (λQ q=>q) ?_;refine kM (ρ':=[vT (Kd.cho o).x,.bw l,.un,.un]) (λQ q=>q) ?_;refine#[rfl,rfl,V,λY l1 b1 a0=>#[by show(0:Int)<((xK o).length:Int);lia,?_]];have hp:(0:Int)<((xK o).length:Int):=by lia
  have Lo:(0:Int)<=Y%((xK o).length:Int):=bT _ `b;have a5:Y%((xK o).length:Int)<((xK o).length:Int):=bQ _ hp;dsimp only;change aGt _ [vT (Kd.cho o).x,.bw l1,.un,vT<|.int<|Y%((xK o).length:Int)] _;generalize Y%((xK o).length:Int)=r at Lo a5 ⊢;have A6:r.toNat<o.length:=by lia
  have M:=aJ A6;generalize o[r.toNat]=kc at M;obtain⟨kf,b0⟩:=aCh S<|aQ M;have a3:(xK o)[r.toNat]? = some kc.x:=by rw[f9,bI,M];rfl
  have F4:=dh_ a3;rw[Int.toNat_of_nonneg Lo]at F4;show match atI (xK o) r with | some d=>_ | none=>False
  rw[F4];refine#[kc,rfl,a0,kf,by lia,by lia,λZ W O N=>#[kK,?_]];have:=q (.cho r.toNat Z) W (by simp only[Kd.Val];exact x4 M O) N;simp only[Kd.vx]at this;rw[uO M,Int.toNat_of_nonneg Lo]at this;exact this
end
mutual
def Dx.Pl:Dx->Prop
 | .int _=>True
 | .str _=>True
 | .tup l=>l.length<=100000/\kB l
 | .lst l=>l.length<=100000/\kB l
 |_=>False
def kB:Q0->Prop
 | []=>True
 |d::r=>d.Pl/\kB r
end
mutual
def Kd.pln:∀k:Kd,k.Fit->k.x.Pl/\k.x.deep<=3*k.deep
 | .num w m,h=>by simp only[Kd.x,Dx.Pl,kB,Dx.deep,eM,Kd.deep,aL,bE];exact#[#[by decide,trivial,trivial,trivial,trivial],by decide]
 | .row k n,h=>by simp only[Kd.Fit]at h;obtain⟨a,b⟩:=Kd.pln k h.1;simp only[Kd.x,Dx.Pl,kB,Dx.deep,eM,Kd.deep,aL,bE];refine#[#[by decide,trivial,a,trivial,trivial],?_];lia
 | .rcd fs,h=>by
  simp only[Kd.Fit]at h;obtain⟨a,b⟩:=bCz fs h.1;have c:(xF fs).length<=100000:=by rw[jp_];lia
  simp only[Kd.x,Dx.Pl,kB,Dx.deep,eM,Kd.deep,aL,bE];refine#[#[by decide,trivial,#[c,a],trivial],?_];lia
 | .cho ks,h=>by
  simp only[Kd.Fit]at h;obtain⟨a,b⟩:=bCy ks h.1;have c:(xK ks).length<=100000:=by rw[gg_];lia
  simp only[Kd.x,Dx.Pl,kB,Dx.deep,eM,Kd.deep,aL,bE];refine#[#[by decide,trivial,#[c,a],trivial],?_];lia
def bCz:∀fs:S6,lA fs->kB (xF fs)/\eM (xF fs)<=3*gE fs+1
 | [],h=>#[by simp only[xF,kB],by simp only[xF,eM];lia]
 |f::r,h=>by simp only[lA]at h;obtain⟨a,b⟩:=Kd.pln f.2 h.1.2;obtain⟨c,d⟩:=bCz r h.2;have e:=Kd.deep_pos f.2;simp only[xF,kB,Dx.Pl,eM,Dx.deep,gE,aL,bE];refine#[#[#[by decide,trivial,a,trivial],c],?_];lia
def bCy:∀ks:R6,jG ks->kB (xK ks)/\eM (xK ks)<=3*dS ks+1
 | [],h=>#[by simp only[xK,kB],by simp only[xK,eM];lia]
 |k::r,h=>by simp only[jG]at h;obtain⟨a,b⟩:=Kd.pln k h.1;obtain⟨c,d⟩:=bCy r h.2;simp only[xK,kB,eM,dS];refine#[#[a,c],?_];lia
end
mutual
def Dx.tt:Dx->Dt
 | .int i=>.int i
 | .str x=>.str x
 | .tup l=>.tup (ttX l)
 | .lst l=>.lst (ttX l)
 |_=>.int 0
def ttX:Q0->List Dt
 | []=>[]
 |d::r=>d.tt::ttX r
end
mutual
def o8{G H:Hp}(e:Same G H):∀(d:Dx) (x:V),d.Pl->IsX G d x->IsD H d.tt x
 | .int i,x,_,h=>by simp only[IsX]at h;simp only[Dx.tt,IsD];exact h
 | .str i,x,_,h=>by simp only[IsX]at h;simp only[Dx.tt,IsD];exact h
 | .tup l,x,hp,h=>by simp only[Dx.Pl]at hp;obtain⟨p,a,rfl,b,c⟩:=h.tup_eq;simp only[Dx.tt,IsD];exact#[p,a,rfl,e _ _ b,wH e l a hp.2 c]
 | .lst l,x,hp,h=>by simp only[Dx.Pl]at hp;obtain⟨p,a,rfl,b,c⟩:=h.lst_eq;simp only[Dx.tt,IsD];exact#[p,a,rfl,e _ _ b,wH e l a hp.2 c]
 | .bl _,_,hp,_=>by simp only[Dx.Pl]at hp
 | .non,_,hp,_=>by simp only[Dx.Pl]at hp
 | .dic _,_,hp,_=>by simp only[Dx.Pl]at hp
 | .scr _ _,_,hp,_=>by simp only[Dx.Pl]at hp
 | .ins _ _,_,hp,_=>by simp only[Dx.Pl]at hp
 | .exc _,_,hp,_=>by simp only[Dx.Pl]at hp
def wH{G H:Hp}(e:Same G H):∀(l:Q0) (vs:Q1),kB l->All2 (IsX G) l vs->IsDs H (ttX l) vs
 | [],vs,_,h=>by simp only[ttX,IsDs];exact h
 |d::r,vs,hp,h=>by simp only[kB]at hp;obtain⟨v,a,rfl,b,c⟩:=h;simp only[ttX,IsDs];exact#[v,a,rfl,o8 e d v hp.1 b,wH e r a hp.2 c]
end
mutual
def x8:∀d:Dx,d.Pl->d.tt.deep<=d.deep
 | .int i,_=>by simp only[Dx.tt,Dt.deep,Dx.deep];lia
 | .str i,_=>by simp only[Dx.tt,Dt.deep,Dx.deep];lia
 | .tup l,hp=>by simp only[Dx.Pl]at hp;have:=oO l hp.2;simp only[Dx.tt,Dt.deep,Dx.deep];lia
 | .lst l,hp=>by simp only[Dx.Pl]at hp;have:=oO l hp.2;simp only[Dx.tt,Dt.deep,Dx.deep];lia
 | .bl _,hp=>by simp only[Dx.Pl]at hp
 | .non,hp=>by simp only[Dx.Pl]at hp
 | .dic _,hp=>by simp only[Dx.Pl]at hp
 | .scr _ _,hp=>by simp only[Dx.Pl]at hp
 | .ins _ _,hp=>by simp only[Dx.Pl]at hp
 | .exc _,hp=>by simp only[Dx.Pl]at hp
def oO:∀l:Q0,kB l->gP (ttX l)<=eM l
 | [],_=>by simp only[ttX,gP,eM];lia
 |d::r,hp=>by simp only[kB]at hp;have a:=x8 d hp.1;have b:=oO r hp.2;simp only[ttX,gP,eM];lia
end
def All2.split{d:α}:∀{A} {ws:List β},All2 g (A++d::B) ws->∃A' v b,ws=A'++v::b/\All2 g A A'/\g d v/\All2 g B b
 | [],ws,⟨v,vr,e,h1,h2⟩=>#[[],v,vr,e,rfl,h1,h2]
 |a::A,ws,⟨v,vr,e,h1,h2⟩=>by obtain⟨A',w,b,c,f,h,i⟩:=All2.split (A:=A) h2;exact#[v::A',w,b,by rw[e,c];rfl,#[v,A',rfl,h1,f],h,i]
def bBo(i:Nat)(t:XT):XS:=λc D=>((c[i]?).bind iJ).isSome=true/\t c λs a=>∃l f A d B z e,(a[i]?).bind iJ=some (l,f)/\l=A++d::B/\s.d=d/\d=.tup (.str z::e)/\d.Pl/\d.deep<=60/\(∀u∈A++B,∃b r,u=.tup (.str b::r)/\b≠z)/\D.nx (a.set i<|f<|A++B)
def aUq:∀D a H,tXS F (bBo i t) D a H->x_ (tBM K "list" aAi (fQ i)<|oQ (tX F t) yE) D a H:=by rintro D a H ⟨ρ,fr,dd,E,⟨q0,q⟩,k⟩;obtain⟨⟨l0,f0⟩,Y⟩:=cL.mp q0;obtain⟨p,ws,hv,hp⟩:=wB E Y;refine#[.ref p,hv,.inl #[rfl,ws,SqL.of hp],ρ,fr,_,E,q,λy s H' a1 C m=>?_];obtain⟨l,f,A,d,B,z,U,V,rfl,h,hd,b,S,M,m⟩:=m;obtain⟨R,J⟩:=C.one;rw[h]at J;obtain⟨p',a0,o,Q,hl,O⟩:=eb_ C.drop V;rw[hv]at o;cases o;obtain⟨L,v,N,rfl,G,e,I⟩:=hl.split;refine#[p,L,v,N,y,d.tt,z,rfl,rfl,Q,o8 R.hv d v b e,o8 R.hv d y b J,nzL (x8 d b) S,#[ttX U,by rw[hd];simp only[Dx.tt,ttX]],λu hu=>?_,k.nx a _ _ rfl (O _ _<|All2.app I G) m];obtain⟨j,hj⟩:=fX hu;obtain⟨W,c,g⟩:=(All2.app I G).get hj;obtain⟨z',r,rfl,hz⟩:=M W<|aQ c;obtain⟨T,us,rfl,Z,n⟩:=g.tup_eq;obtain⟨w,wr,rfl,x,h4⟩:=n;cases x.str_eq;exact#[T,wr,z',rfl,R.hv _ _ Z,hz]
def poolS:Q3:=["a","ab","b","ba","abc","abcd","eightlet","eightles","length","lengths","count","counter"]
def nB:∀x∈poolS,Nm x/\x ≠ "none":=by
 intro x e;have a:∀x∈(["a","ab","b","ba","abc","abcd","eightlet","eightles","length","lengths","count","counter"]:Q3),(decide (1<=(fU x).length)&&decide ((fU x).length<=8)&&(fU x).all (λc=>decide (97<=c)&&decide (c<=122))&&decide (x ≠ "none"))=true:=by decide +kernel
 have:=a x e;simp only[cI,decide_eq_true_eq,List.all_eq_true]at this;exact#[#[this.1.1.1,this.1.1.2,λc b=>this.1.2 c b],this.2]
def aLh:GC:=λa Q=>a=[]/\Q (.ol<|bX poolS)
def gMK:GB3:=λb c f Q=>gA b/\∃(fs:Q5) (k:Nat),c=fs.map Fe.n/\f=[.int (k:Int)]/\fs.length<=50/\(nms fs).Nodup/\(∀e∈fs,e.Ok/\e.nm∈poolS)/\k<=20/\∀a:T1,chs fs k a->cts k a<=20->mQ a<=5->a.length<=16->(∀e∈gos fs k a,e.nm∈poolS)->Q (.ol<|a.map Ch.x) ((gos fs k a).map Fe.n) [.int ((cts k a:Nat):Int)]
abbrev mkE(e:Addr)(b:Q0)(f:Addr)(G:Q5)(g:Addr)(c:Nat)(cs:T1)(a:Int)(r:Q9):En:=.ba e b :: .ba f (G.map Fe.n) :: .ba g [.int (c:Int)] :: .v (.ol<|cs.map Ch.x)::vT (.int a)::r
def aSd : XS := (dO (iX 3<|i7 eZ)
    (dO (iX 4<|gD aBd<|cH (xC<|.int 20)<|cH (xOp aMl (rF ixP 2<|xC<|.int 0)<|xC<|.int 5) eZ)
    (dO (lT (bBl<|cH (xOp aEi (kJ gNX 0 eZ)<|xOp ixX (i7<|cH (xC<|.int 6)<|cH (xC<|.int 6)<|cH (xC<|.int 6)<|cH (xC<|.int 16) eZ)<|xOp aEi (kJ gNX 0 eZ)<|xC<|.int 4) eZ) (gxN 5) (dO (iX 6<|xOp ixX (gD aLh eZ)<|xOp aEi (kJ gNX 0 eZ)<|xC<|.int 12)
    (dO (xIf (aUg (xB<|rF (neP true) 1<|i7 eZ)<|xB<|xOp eqX (xOp aEi (kJ gNX 0 eZ)<|xC<|.int 3)<|xC<|.int 0) (iX 6<|xOp ixX (rF ixP 1<|xOp aEi (kJ gNX 0 eZ)<|aNl 1)<|xC<|.int 0) mI)
    (dO (iX 7<|i9 1 1 [6] (gxN 0) (xB<|xOp eqX (xOp ixX (dC 0)<|xC<|.int 0)<|dC 1) (dC 0))
    (xIf (xB<|xOp neX (dC 7)<|i7 eZ) (dO (aGx 3<|aDg<|cH (xC<|.str "drop")<|cH (dC 6) eZ)
    (bBo 1<|xOp ixX (dC 7)<|xC<|.int 0)) (xIf (xB<|xOp ltX (rF ixP 2<|xC<|.int 0)<|dC 4) (dO (iX 8<|kJ gBD 0<|cH (xC<|.int 3)<|cH (xC<|.int 24) eZ)
    (dO (aGx 3<|aDg<|cH (xC<|.str "add")<|cH (dC 6)<|cH (dC 8)<|cH (w6 (gVA 3) 0<|dC 8) eZ)
    (dO (aGx 1<|aDg<|cH (dC 6)<|cH (rF ixP 2<|xC<|.int 0)<|cH (dC 8) eZ)
    (aRx 2 (xC<|.int 0)<|xOp aMl (rF ixP 2<|xC<|.int 0)<|xC<|.int 1)))) mI))))))
    (aGt<|aGu 3))))
section
variable{f:Addr}{j:Nat}
def bAi(h:Cal P w K mg base 1 "_law_next" BF<|spB gNX)(r:Cal P w K mg base 1 "_law_pool" [] (spX aLh))(u:Cal P w K mg base j "_law_bounded" AT<|spB gBD)(p:Cal P w K mg base j "_law_value" AR<|uV<|gVA 3)(v:1<=j)(B:Blt mg)
  (l:Room j<|A.deeper<|PyProof.Rows.envOfC "_law_make" (aP do_) s.heap.objs.size f m) :
  XSs (kE CX0 P w K mg base (["deck","now","known","changes","most","turn","name","here","kind"]:Q3) "_law_make" (aP do_) f m A g s H E).nox cY (fL do_) aSd:=by
 have o:=rB l;have q:=gU o;exact(cG (gK fI 3<|mG kF)
  (cG (gK fI 4<|d4 (tV `t) aCp `t B.min t7 (cQ cZ<|lS (jo_ K (pv 2) cZ<|λ_ _=>rfl) cZ))
  (cG (xO PassesOwn.never rfl (cf_ B.range<|eQ<|qU (nQ 0 h kF)<|mO K (mG<|iW cZ<|iW cZ<|cQ cZ cZ)<|qU (nQ 0 h kF) cZ) (iK (i:=5) fI.nd rfl `l) (tZ (n:=99) (i:=5) `a) (cG (gK fI 6<|mO K (xX r<|l.mono `b)<|qU (nQ 0 h kF) cZ)
  (cG (iY (XW.pt<|h_ (aMz K q (pv 1) (mG kF)<|cP _)<|uI<|kI (qU (nQ 0 h kF) cZ) cZ) (cR<|gK fI 6<|dH K<|jo_ K (pv 1) (qU (nQ 0 h kF)<|aGi K `t B.len PySem.boot_len (pv 1))<|λ_ _=>rfl) jH)
  (cG (o_ λF=>PS.weak (gz_ (i:=7) fI.nd rfl rfl (dsc:=aP do_) (N:=AS) (tgs:=["one"]) (outs:=[6]) (N':=["one","name"]) (by refine#[rfl,?_,?_,?_,rfl,?_,?_,?_]<;>decide +kernel) (aAk<|pv 1) (λ_ _ _ _ _=>(iK (i:=0) (show(["one","name"]:Q3).Nodup by decide +kernel) rfl `l (.inr rfl))) (je_ `a) (λa b c d e=>XCs.at (Ex:=cY) F (ci_<|kI `j `k)) (λa b c d e=>XE.at (Ex:=cY) F `e))<|aOb (tZ (n:=1) (i:=0) `a) `a)
  (cR (iY (rE (xv 7)<|mG kF) (cG (fb_ 3<|jQ<|cQ lB<|xv 6)
  (cR (o_ λF=>PS.weak (nA (aJd PySem.F.plainAttrs_list PySem.F.slot_list_remove PySem.F.type_list_remove (aEh l.units) (pv 1) (g7 (XE.at (Ex:=cY) F (dH K<|xv 7)) fq_))) aUq))) (cR (iY (kT kl_ kj_ (jo_ K (pv 2) cZ<|λ_ _=>rfl) (xv 4)<|cP _) (cG (gK fI 8<|nQ 0 u<|cQ cZ cZ)
  (cG (fb_ 3<|jQ<|iW lB<|iW (xv 6)<|cQ (xv 8)<|fg_ (i:=0) p (l.mono `b) (xv 8)<|pv 0)
  (cG (fb_ 1<|jQ<|iW (xv 6)<|cQ (jo_ K (pv 2) cZ<|λ_ _=>rfl)<|xv 8)
  (cR (o_ λF=>PS.weak (kf_ (XE.at (Ex:=cY) F (lS (jo_ K (pv 2) cZ<|λ_ _=>rfl) cZ)) (aIu (pv 2) (XE.at (Ex:=cY) F cZ) yK)) x9))))) jH))))))))
  (cR<|eU<|dp_<|pv 3))))
end
section
variable{f:Addr}{n j:Nat}
def aCa{a b}{Q}(h:Q<|.tr<|.int<|a+b):aMl (.int a) (.int b) Q:=h
def aQf{a b}{Q}(h:Q (.tr (.int (if b<a then b else a)))):aBd [.int a,.int b] Q:=h
def aBy{k}{Q}(h:Q<|.int k):ixP [.int k] (.int 0) Q:=by exact h
def aXp(F:Fun K "_law_make" "_law_make" do_ f fd)(C2:Cal P w K mg base 1 "_law_next" BF<|spB gNX)(Ku:Cal P w K mg base 1 "_law_pool" [] (spX aLh))(Ky:Cal P w K mg base j "_law_bounded" AT<|spB gBD)(Gx:Cal P w K mg base j "_law_value" AR<|uV<|gVA 3)(hj:1<=j)(B:Blt mg):FnOk P w K mg base CX0 (j+1) f fd BN<|aNx gMK:=by
 refine bFd F fI rfl `a λAj A a2 s H E hr=>?_;refine#[_,bAi C2 Ku Ky Gx hj B hr,λy o D l1 l2 p Q h=>?_];obtain⟨hN,fs,k,rfl,rfl,K8,Bh,M9,a4,q⟩:=h;unfold aSd;refine#[bL _,?_];refine#[rfl,?_];dsimp only;refine it_ ?_;refine aBy ?_;refine it_ ?_;refine aCa ?_;refine aLc ?_;refine aQf ?_;obtain⟨g,Jy,Gf,a5,a6⟩:∃g:Nat,(if(k:Int)+5<20 then(k:Int)+5 else 20)=(g:Int)/\k<=g/\g<=20/\g<=k+5:=by by_cases c:(k:Int)+5<20;exact#[k+5,by rw[if_pos c];lia,by lia,by lia,by lia];exact#[20,by rw[if_neg c];rfl,by lia,by lia,by lia]
 change dO (lT _ _ _) _ (mkE y l1 o fs D k [] (if(k:Int)+5<20 then(k:Int)+5 else 20) [.un,.un,.un,.un]) _;rw[Jy];refine dd_ (λO=>∃(cs:T1) (m:Q0) (r:Q9),chs fs k cs/\cts k cs<=g/\cs.length<=16/\(∀e∈gos fs k cs,e.nm∈poolS)/\O=mkE y m o (gos fs k cs) D (cts k cs) cs (g:Int) r) ?_<|λnx C8=>?_;rintro O ⟨cs,m,r,h1,h2,U,h4,rfl⟩;have:=nU (cs:=cs) (k:=k);exact#[rfl,rfl,rfl,q cs h1 `b `b U h4];refine #[rfl,rfl,hN,fun r la r0 Mu=>#[(by show 4≤1000000; decide),rfl,rfl,Mu,fun r' lb b0 Mt=>#[by show (0:Int) < 4; decide,?_]]];refine wG (bT _ `a) (bQ _ `a) λv hv=>?_;obtain⟨z,rfl,hz⟩:∃z:Int,v=.int z/\0<z/\z<=16:=by
  rcases aF.mp hv with h | hv
  exact#[6,h,by decide,by decide];rcases aF.mp hv with h | hv
  exact#[6,h,by decide,by decide];rcases aF.mp hv with h | hv
  exact#[6,h,by decide,by decide];rcases aF.mp hv with h | hv
  exact#[16,h,by decide,by decide];cases hv
 have z0:=bT r (show z≠0 by lia);have z1:=bQ r hz.1;refine#[hz.1,`s,?_];show hU _ _ _ (gZ 0 (r%z).toNat) _;generalize hT:(r%z).toNat=T;have a3:T<=16:=by lia
 unfold gZ;refine xQ (λi:Nat=>Dx.int<|0+(i:Int)) (λrest O=>∃(cs:T1) (m:Q0) (y5 y6 y7 I:Sl),gA m/\chs fs k cs/\cts k cs<=g/\cs.length+rest.length<=T/\(nms<|gos fs k cs).Nodup/\(∀e∈gos fs k cs,e.Ok/\e.nm∈poolS)/\O=mkE y m o (gos fs k cs) D (cts k cs) cs (g:Int) [y5,y6,y7,I]) (λO h=>?_) (λi rest O Kn h hk=>?_) #[[],lb,.un,.un,.un,.un,Mt,trivial,Gf,by rw[bY];simp,Bh,M9,rfl];obtain ⟨cs,m,y5,y6,y7,I,h1,h2,U,h4,h5,S,rfl⟩:=h;rw[bE]at h4;exact C8 _ #[cs,m,_,h2,U,by lia,λe L=>(S e L).2,rfl];obtain ⟨cs,m,y5,y6,y7,I,h1,h2,U,h4,h5,S,rfl⟩:=h;rw[aL]at h4;have stay:∀(N:Q0) (Y Z t V:Sl),gA N->Kn (mkE y N o (gos fs k cs) D (cts k cs) cs (g:Int) [Y,Z,t,V]):=λN Y Z t V Cz=>hk _ #[cs,N,Y,Z,t,V,Cz,h2,U,by lia,h5,S,rfl];have step:∀(c:Ch) (N:Q0) (Y Z t V:Sl),gA N->c.Ok (gos fs k cs)->c.ct (cts k cs)<=g->(nms<|c.go (gos fs k cs)<|cts k cs).Nodup->(∀e∈c.go (gos fs k cs) (cts k cs),e.Ok/\e.nm∈poolS)->Kn (mkE y N o (c.go (gos fs k cs)<|cts k cs) D (c.ct<|cts k cs) (cs++[c]) (g:Int) [Y,Z,t,V]):=λc N Y Z t V Cz hc La hn ho=>hk _ #[cs++[c],N,Y,Z,t,V,Cz,nW.mpr #[h2,hc,trivial],by rw[wY];exact La,by rw[aI];show _+1+_<=_;lia,by rw[ir_];exact hn,by rw[ir_];exact ho,by rw[ir_,wY];rfl];have Hc:=hb_ (cs:=cs) (fs:=fs) (k:=k);generalize gos fs k cs=G at h5 S stay step Hc ⊢;generalize cts k cs=C at U stay step ⊢;refine#[rfl,rfl,rfl,h1,λr1 l2 b1 Aq=>#[by show(0:Int)<12;decide,?_]];refine wG (bT _ `a) (bQ _ `a) λv hv=>?_;obtain⟨x,W,rfl⟩:=aY.mp hv;dsimp only;change dO (xIf _ _ _) _ (mkE y l2 o G D C cs (g:Int) [vT<|.int<|0+(i:Int),vT<|.str x,y7,I]) _;refine dd_ (λO=>∃(x:Str) (p:Q0),x∈poolS/\gA p/\O=mkE y p o G D C cs (g:Int) [vT<|.int<|0+(i:Int),vT<|.str x,y7,I]) ?_<|λa7 Hz=>?_;rintro O ⟨x,p,W,Fb,rfl⟩;refine f8 ?_;refine#[.ba o<|G.map Fe.n,G.map Fe.n,.ba o,rfl,rfl,by rw[aB];lia,?_];refine dc_ Fe.n Fe.n (λe=>decide (e.nm=x)) (λe L Ac P pp=>?_) ?_;show if decide (e.nm=x)=true then _ else _
 by_cases c:e.nm=x;rw [dzT c] at pp ⊢;exact pp;rw [dzF c] at pp ⊢;have p':P (Ac++[]) _:=pp;rw[aU]at p';exact p';change xIf _ _ _ (mkE y p o G D C cs (g:Int) [vT<|.int<|0+(i:Int),vT<|.str x,.v<|.ol<|(G.filter λe=>decide (e.nm=x)).map Fe.n,I]) _;by_cases Df:x∈nms G;obtain ⟨e,L,Id⟩:=aY.mp Df;obtain⟨A,B,rfl⟩:=List.append_of_mem L;have H9:(A.map (·.nm)++e.nm::B.map (·.nm)).Nodup:=by have:=h5;unfold nms at this;rw[aZ,bG]at this;exact this
 have D4:∀u∈A++B,u.nm≠x:=λu l z=>by
  have J8:e.nm=x:=Id;rw[bO]at H9;rcases aV.mp l with l | l
  exact H9.2.2 u.nm (aY.mpr #[u,l,rfl]) e.nm aA<|z.trans J8.symm;exact(bR.mp H9.2.1).1<|aY.mpr #[u,l,z.trans J8.symm]
 have Ib:(A++e::B).filter (λu=>decide (u.nm=x))=[e]:=by rw[dG,gH,dzT<|show e.nm=x from Id,dQ.mpr λu l=>by simpa using D4 u<|aM _ l,dQ.mpr λu l=>by simpa using D4 u<|aG _ l];rfl
 have J7:(A++e::B).filter (λu=>!decide (u.nm=x))=A++B:=by rw[dG,gH,dzT<|show e.nm=x from Id,iH.mpr λu l=>by simpa using D4 u<|aM _ l,iH.mpr λu l=>by simpa using D4 u<|aG _ l];rfl
 rw[Ib];refine wN true (ρ':=mkE y p o (A++e::B) D C cs (g:Int) [vT<|.int<|0+(i:Int),vT<|.str x,vT<|.lst [e.n],I]) (λQ q=>#[bL _,q]) (λ_=>?_) (λJ=>by cases J);refine#[rfl,by show 2<=1000000;decide,by show(cs.map Ch.x).length+1<=_;rw[aB];lia,?_];have He:=(S e L).1;have Ag:=Kd.pln e.kd He.fit;have R:=step (.drop x) p (vT<|.int<|0+(i:Int)) (vT<|.str x) (vT<|.lst [e.n]) I Fb #[(nB x W).1,Df] U (by show(nms<|(A++e::B).filter _).Nodup;exact h5.sublist<|List.Sublist.map _ dR)<|λu l=>S u (cA.mp l).1;rw[show Ch.go (A++e::B) C (.drop x)=A++B from J7]at R;refine#[rfl,?_];refine aLb<|lb_ rfl<|it_ ?_;show(match atI [e.n] 0 with | some d=>_ | none=>False);rw[show atI [e.n] 0=some e.n from dh_ (j:=0) rfl];refine#[(A++e::B).map Fe.n,.ba o,A.map Fe.n,e.n,B.map Fe.n,e.nm,[.int (e.ix:Int),e.kd.x],rfl,by rw[aZ];rfl,rfl,rfl,?_,?_,λu l=>?_,?_];simp only [Fe.n,Dx.Pl,kB,aL,bE];exact#[by decide,trivial,trivial,Ag.1,trivial];have:=Ag.2;have:=He.deep;simp only[Fe.n,Dx.deep,eM];lia;rw [← aZ] at l;obtain⟨u',a1,rfl⟩:=aY.mp l;exact#[u'.nm,_,rfl,λz=>D4 u' a1<|z.trans Id];rw [← aZ];unfold mkE at R;rw[aZ (f:=Ch.x)]at R;exact R;have Ib:G.filter (fun e=>decide (e.nm=x))=[]:=dQ.mpr fun e L=>by simpa using fun z=>Df<|aY.mpr #[e,L,z]
 rw[Ib];refine wN false (ρ':=mkE y p o G D C cs (g:Int) [vT<|.int<|0+(i:Int),vT<|.str x,vT<|.lst [],I]) (λQ q=>#[bL _,q]) (λJ=>by cases J)<|λ_=>?_;refine wN (decide (C<g)) (ρ':=mkE y p o G D C cs (g:Int) [vT<|.int<|0+(i:Int),vT<|.str x,vT<|.lst [],I]) (λQ q=>?_) (λJ=>?_)<|λJ=>?_;refine #[rfl,?_];dsimp only;refine it_ ?_;refine aBy ?_;show Q (decide ((C:Int)<(g:Int))) _;rw[show decide ((C:Int)<(g:Int))=decide (C<g) by rw[decide_eq_decide];lia];exact q;have Al:=of_decide_eq_true J;refine#[rfl,rfl,Fb,λM l4 hF hd J1=>?_];refine#[rfl,M,rfl,J1,hF,hd,by decide,λvd l5 hv Mw=>#[by show 4<=1000000;decide,by show(cs.map Ch.x).length+1<=_;rw[aB];lia,?_]];have R:=step (.add x M vd) l5 (vT<|.int<|0+(i:Int)) (vT<|.str x) (vT<|.lst []) (vT M.x) Mw #[(nB x W).1,Df,hF,hd,hv] Al (by
  show(nms<|G++[_]).Nodup;unfold nms;rw[aZ];refine bO.mpr #[h5,by simp,λa ha b J=>?_];rw[List.map_singleton,aE]at J;rintro rfl;rw[J]at ha;exact Df ha) (λu l=>by
  rcases aV.mp l with l | l
  exact S u l;rw [aE.mp l];exact#[#[(nB x W).1,hF,hd,hv],W])
 refine#[rfl,?_];dsimp only;refine is_<|lb_ rfl ?_;refine is_ ?_;refine#[rfl,?_];dsimp only;refine it_ ?_;refine aBy ?_;refine is_<|lb_ rfl<|aLc ?_;refine#[by show 3<=1000000;decide,by show(G.map Fe.n).length+1<=_;rw[aB];lia,?_];have e1:(Ch.go G C<|.add x M vd).map Fe.n=G.map Fe.n++[Dx.tup [.str x,.int (C:Int),M.x]]:=by show(G++[_]).map Fe.n=_;rw[aZ];rfl
 have e2:(cs++[Ch.add x M vd]).map Ch.x=cs.map Ch.x++[Dx.tup [.str "add",.str x,M.x,M.vx vd]]:=by rw[aZ];rfl
 have e3:((Ch.ct C (.add x M vd):Nat):Int)=(C:Int)+1:=by show((C+1:Nat):Int)=_;lia
 unfold mkE at R;rw[e1,e2,e3]at R;refine#[rfl,?_];refine it_ ?_;refine aBy ?_;refine it_ ?_;refine aCa ?_;exact#[rfl,R];exact stay p _ _ _ _ Fb;refine #[rfl,bL _,?_];cases G with
 |nil=>exact Hz _ #[x,l2,W,Aq,rfl]
 |cons e0 G0 =>
  refine#[rfl,rfl,Aq,λr2 p b2 Fb=>#[by show(0:Int)<3;decide,?_]];show if decide (r2%3=0)=true then _ else _
  by_cases c:r2%3=0;rw [if_pos<|dzT c];have O6:(0:Int)<(((e0::G0).map Fe.n).length:Int):=by rw[aB,aL];lia
  refine#[rfl,rfl,rfl,Fb,λr3 l4 b3 J1=>#[O6,?_]];obtain⟨d,hd,a0⟩:=u3 (bT r3 `b)<|bQ r3 O6;show(match atI ((e0::G0).map Fe.n) (r3%(((e0::G0).map Fe.n).length:Int))with | some d=>_ | none=>False);rw[hd];obtain⟨e,L,rfl⟩:=aY.mp<|aQ a0;dsimp only;refine it_ ?_;refine qI ?_;exact Hz _ #[e.nm,l4,(S e L).2,J1,rfl];rw [if_neg (by rw [decide_eq_true_eq]; exact c)];exact Hz _ #[x,p,W,Fb,rfl]
end
section
variable{f:Addr}{n j:Nat}
def aJo(F:Fun K "_law_pool" "_law_pool" pF f fd):FnOk P w K mg base CX0 1 f fd [] (spX aLh):=by refine bFc F yL (λb Q h=>by obtain⟨rfl,_⟩:=h;rfl) `a λc A a s H E e=>?_;refine#[_,(aRi<|bAq<|aRj rfl),λb Q h=>?_];obtain⟨rfl,q⟩:=h;exact#[by decide,q]
end
def aJz{e:Type}[DecidableEq e]:∀{l m:List e},l.Nodup->(∀x∈l,x∈m)->l.length<=m.length
 | [],_,_,_=>bL _
 |a::r,m,h,hs=>by have b:=bR.mp h;have:=aJz (l:=r) b.2 λx c=>(List.mem_erase_of_ne λ(z:x=a)=>b.1<|z ▸ c).mpr<|hs x<|aC _ c;rw[List.length_erase_of_mem<|hs a aA]at this;have f:=List.length_pos_of_mem<|hs a aA;exact Nat.add_le_of_le_sub f this
def aIp(h:(nms fs).Nodup)(b:∀e∈fs,e.nm∈poolS):fs.length<=12:=by
 have:=aJz (m:=poolS) h λx c=>by obtain⟨e,a,rfl⟩:=aY.mp c;exact b e a
 rw[aB]at this;exact this
structure HsOk(ms:Mks)(ly:Q4)(mu:Int)(k:Nat)(fs:Q5)(r0:Int)(pre:Mks):Prop where
 is:ms=pre++[(fs,r0)]
 hist:Hist ms ly k
 lo:LyOk ms.length ly
 ll:ly.length<=5*ms.length
 u1:1<=mu
 u8:mu<=8
 k20:k<=20
 pool:∀e∈fs,e.nm∈poolS
def HsOk.last(h:HsOk ms ly mu k fs r0 pre):ms[ms.length-1]? = some (fs,r0):=by rw[h.is,aI,show([(fs,r0)]:Mks).length=1 from rfl,Nat.add_sub_cancel,bW<|aO _,iA];rfl
def HsOk.fs{fs}(h:HsOk ms ly mu k fs r0 pre):kC fs/\(∀e∈fs,e.Ok)/\fs.length<=12:=by have:=h.hist.plc (fs,r0)<|aQ h.last;exact#[this.1,λe a=>(this.2 e a).1,aIp this.1.2.1 h.pool]
def aSh(e:Fe)(p:Int):(e.put p).n=e.n:=rfl
def aSr(a:∀e∈G,e.Ok)(h:(nwF G).length<=5):Rs2<|rsF G:=by have b:∀e∈nwF G,e.Ok:=λe g=>a e (cA.mp g).1;obtain⟨c,f⟩:=feK b;exact aHv c (by rw[aB];exact h) f
def aJw(G:Q5):(rsF G).length=(nwF G).length:=by rw[eg_,aB]
def sY(l:∀e∈fs,∃p,e.pl=some p)(c:Mid fs k0 k G)(f:Rs2<|rsF G)(b:LyOk m ly)(a:∀e∈G,e.nm∈poolS):∀e∈dP G ly,e.nm∈poolS:=λe i=>by have:e.nm∈(dP G ly).map (·.nm):=aY.mpr #[e,i,rfl];rw[ku_ l c f b (·.nm) λ_ _=>rfl]at this;obtain⟨g,j,h⟩:=aY.mp this;rw[<-h];exact a g j
def aQb(h:HsOk ms ly mu k fs r0 pre)(I:ms.length<=8)(j:chs fs k cs)(q:cts k cs<=20)(A:mQ cs<=5)(u:cs.length<=16)(B:∀e∈gos fs k cs,e.nm∈poolS) :
  Beg fs k cs ms.length ly mu (fB ms)/\∀(a:Q4) (r b:Int),a.Perm (ly++lG (rsF<|gos fs k cs) ly)->LyOk (ms.length+1) a->1<=b->b<=8->HsOk (ms++[(dP (gos fs k cs) ly,r)]) a b (cts k cs) (dP (gos fs k cs) ly) r ms/\(dP (gos fs k cs) ly).map Fe.n=(gos fs k cs).map Fe.n:=by
 obtain⟨f,i,E⟩:=h.fs;have c:=vY (sW (k:=k) f.2.1) (aO k) j;have o:=aKb c i;have C:=aJv f.1 c;have p:=nU (cs:=cs) (k:=k);have l:(nwF<|gos fs k cs).length<=5:=by lia
 have g:=aSr o l;have D:=h.ll;have F:=hb_ (cs:=cs) (fs:=fs) (k:=k);refine#[#[by lia,by lia,by unfold fB;rw[aB];lia,o,j,A,l,h.lo,by lia,by lia,h.u1,h.u8],λa r b m v y z=>#[#[rfl,?_,?_,?_,y,z,q,?_],?_]];exact tG h.hist h.last c g h.lo m (Nat.le.intro (id<|Eq.symm p)) `b;rw [aI];exact v;have s:=m.length_eq;have G:=mX (rsF<|gos fs k cs) ly;have H:=aJw<|gos fs k cs;rw[aI]at s;rw[aI,show([(dP (gos fs k cs) ly,r)]:Mks).length=1 from rfl];lia;exact sY f.1 c g h.lo B;exact ku_ f.1 c g h.lo Fe.n aSh
def aBh:LyOk 0 []:=#[#[λs a=>(nomatch a),List.Pairwise.nil],by decide,by decide,λs a=>(nomatch a)]
def aZq(h:chs [] 0 (fP fl))(F:fl.length<=5)(y:∀e∈gos [] 0 (fP fl),e.nm∈poolS) :
  Beg [] 0 (fP fl) 0 [] 1 []/\∀(a:Q4) (r b:Int),a.Perm (lG (rsF<|gos [] 0 (fP fl)) [])->LyOk 1 a->1<=b->b<=8->HsOk [(dP (gos [] 0 (fP fl)) [],r)] a b (cts 0<|fP fl) (dP (gos [] 0 (fP fl)) []) r []/\(dP (gos [] 0 (fP fl)) []).map Fe.n=(gos [] 0 (fP fl)).map Fe.n:=by
 have f:∀e∈([]:Q5),∃p,e.pl=some p:=by grind
 have c:=vY (sW (fs:=[]) (k:=0) gF) (aO 0) h;have l:=aKb c λe v=>(nomatch v);have z:=aJv f c;have B:=nU (cs:=fP fl) (k:=0);have A:(fP fl).length=fl.length:=aB ..;have u:mQ (fP fl)<=(fP fl).length:=cM _ _;have i:(nwF<|gos [] 0 (fP fl)).length<=5:=by lia
 have g:=aSr l i;have m:=hb_ (cs:=fP fl) (fs:=[]) (k:=0);rw[bE]at m;refine#[#[by decide,by lia,by decide,l,h,by lia,i,aBh,by decide,by decide,by decide,by decide],λa r b j o q s=>#[#[rfl,?_,o,?_,q,s,by lia,?_],?_]];exact aKx c g aBh j `b;have C:=j.length_eq;have D:=mX (rsF<|gos [] 0 (fP fl)) [];have E:=aJw<|gos [] 0 (fP fl);show _<=5;lia;exact sY f c g aBh y;exact ku_ f c g aBh Fe.n aSh
def gBG(C:Addr):GC:=λj Q=>∃c:Int,j=[.int c]/\∀(fs:Q5) (e:Int) (f:Q4) (g:Int) (k:Nat) (a l b h i:Addr),HsOk [(fs,e)] f g k fs e []->mP fs->Q (.ow<|.ot [.oi C a l<|hsL b (fB [(fs,e)]) f g,.ol h<|(fs.map Fe.n).map .tr,.ol i<|[Dx.int (k:Int)].map .tr])
def ixD:Dx->Nat
 | .tup [_,.int i,_]=>i.toNat
 |_=>0
def aZn:∀{l:Q5},(l.map Fe.n).map ixD=l.map (·.ix)
 | []=>rfl
 |e::r=>by rw[bG,bG,bG,aZn (l:=r)];rfl
def aHx(e:l.map Fe.n=m.map Fe.n)(h:mP m):mP l:=by unfold mP;rw[<-aZn,e,aZn];exact h
def aOi:poolS.Nodup:=by decide
def aVu:poolS.length=12:=rfl
abbrev pN(s:Int)(i:Nat):Nat:=((s+(i:Int))%12).toNat
def aOj(s:Int)(i:Nat):∃x,poolS[pN s i]? = some x:=#[_,aJ (by rw[aVu];have:=bQ (s+(i:Int)) (show(0:Int)<12 by decide);have:=bT (s+(i:Int)) (show(12:Int)≠0 by decide);unfold pN;lia)]
def aOh(c:i<j)(e:j<12)(a:poolS[pN s i]? = some x)(b:poolS[pN s j]? = some y):x≠y:=by rintro rfl;have h:=(List.getElem?_inj (aK.mp a).1 aOi).mp<|a.trans b.symm;lia
def aBa:∀{fl:List<|Str×Kd×Vd} {fs:Q5} {k},nms (gos fs k<|fP fl)=nms fs++fl.map (·.1)
 | [],fs,k=>(aU _).symm
 |f::r,fs,k=>by show nms (gos (fs++[#[f.1,k,f.2.1,f.2.2,none]]) (k+1)<|fP r)=_;rw[aBa (fl:=r)];unfold nms;rw[aZ,bK];rfl
def qO:∀{fl} {k},cts k (fP fl)=k+fl.length
 | [],k=>rfl
 |f::r,k=>by show cts (k+1) (fP r)=_;rw[qO (fl:=r),aL];lia
section
variable{f:Addr}{n j:Nat}{g C_House:Addr}
abbrev bgE(c:Int)(l:Q0)(s:Int)(fl:List<|Str×Kd×Vd)(r:Q9):En:=.v (.tr<|.int c) :: .v (.ol l)::vT (.int s) :: .v (.ol<|fl.map fdT) :: .v (.ol<|(gos [] 0 (fP fl)).map Fe.n)::r
def aYp(F:Fun K "_law_begun" "_law_begun" kb_ f fd)(Of:Cal P w K mg base 2 "_law_deck" ["cell","many"] (spX gDK))(Y:Cal P w K mg base 1 "_law_next" BF<|spB gNX)(Ku:Cal P w K mg base 1 "_law_pool" [] (spX aLh))(Ky:Cal P w K mg base j "_law_bounded" AT<|spB gBD)(Gx:Cal P w K mg base j "_law_value" AR<|uV<|gVA 3)(o:bAw P w K mg base j C_House BJ<|spO<|gIN C_House)(Dv:mg "House" = some (.ref C_House))(hj:2<=j)(B:Blt mg):FnOk P w K mg base CX0 (j+2) f fd ["cell"] (spX<|gBG C_House):=by
 refine jP F eR (λR=>(cG (gK eR 1<|eJ Of<|cQ `e cZ)
  (cG (gK eR 2<|nQ 1 Y kF)
  (cG (gK eR 3<|mG kF)
  (cG (gK eR 4<|mG kF)
  (cG (xO PassesOwn.never rfl (cf_ B.range<|eQ<|qU (nQ 1 Y kF) cZ) (iK (i:=5) eR.nd rfl `l) (tZ (n:=99) (i:=5) `a) (cG (gK eR 6<|mO K (xX Ku<|R.mono `b)<|qU (lS (xv 2)<|xv 5) cZ)
  (cG (gK eR 7<|nQ 1 Ky<|cQ cZ cZ)
  (cG (fb_ 3<|jQ<|iW (xv 6)<|cQ (xv 7)<|fg_ (i:=1) Gx (R.mono `b) (xv 7)<|pv 1)
  (cR<|fb_ 4<|jQ<|iW (xv 6)<|cQ (xv 5)<|xv 7)))))
  (cR<|eU<|v0<|iW (aGj o (R.mono `b) Dv<|eQ<|xv 3)<|cQ (dp_<|pv 4)<|mG<|eQ<|tS<|xv 3))))))) λds Q h=>?_
 obtain⟨c,rfl,q⟩:=h;refine#[rfl,?_];refine#[c,90,rfl,by decide,by decide,λl hl=>?_];refine#[rfl,rfl,hl,λs la s0 Mu=>?_];refine#[bL _,?_];refine#[bL _,?_];dsimp only;change dO (lT _ _ _) _ (bgE c la s [] [.un,.un,.un]) _;refine dd_ (λC=>∃(m:List<|Str×Kd×Vd) (y:Q0) (r:Q9),m.length<=5/\chs [] 0 (fP m)/\(∀e∈gos [] 0 (fP m),e.nm∈poolS)/\C=bgE c y s m r) ?_<|λnx C8=>?_;rintro C ⟨m,y,r,J,D,E,rfl⟩;obtain⟨B,hB⟩:=aZq D J E;refine λa dx=>#[rfl,rfl,m,rfl,B,λb H r I p1 p2 p3 p4=>#[rfl,?_]];obtain⟨hH,hn⟩:=hB H r I p1 p2 p3 p4;refine#[by show 1<=1000000;decide,by show 3<=1000000;decide,λbs Np=>?_]
 match bs,Np with
 | [b0,b1,b2],_ => refine#[[_,.ol b1 _,.ol b2 _],rfl,?_];have:=q _ r H I _ a dx b b1 b2 hH<|aHx hn<|pJ List.Pairwise.nil λe u=>nomatch u;rw[hn,qO,Nat.zero_add]at this;rw[show((m.map fdT).length:Int)=(m.length:Int) by rw[aB]];exact this
 have z0:∀ r:Int,0≤r % 6:=fun r=>bT r `a;have z1:∀r:Int,r%6<6:=λr=>bQ r `a;refine#[rfl,rfl,Mu,λr lb r0 Mt=>#[by show(0:Int)<6;decide,#[by have:=z0 r;lia,by have:=z1 r;lia],?_]];show hU _ _ _ (gZ 0 (r%6).toNat) _;have O:(r%6).toNat<=5:=by have:=z0 r;have:=z1 r;lia
 generalize (r%6).toNat=T at O ⊢;unfold gZ;refine xQ (λi:Nat=>Dx.int<|0+(i:Int)) (λrest C=>∃(m:List<|Str×Kd×Vd) (y:Q0) (S U W:Sl),gA y/\chs [] 0 (fP m)/\(∀e∈gos [] 0 (fP m),e.nm∈poolS)/\m.length<=T/\rest=List.range' m.length (T-m.length)/\(∀(i:Nat) (f:Str×Kd×Vd),m[i]? = some f->poolS[pN s i]? = some f.1)/\C=bgE c y s m [S,U,W]) (λC h=>?_) (λi rest C Kn h hk=>?_) #[[],lb,.un,.un,.un,Mt,trivial,λe u=>(nomatch u),bL _,by rw[List.range_eq_range'];rfl,λi f h=>by simp at h,rfl];obtain ⟨m,y,S,U,W,J,D,E,h4,G,N,rfl⟩:=h;exact C8 _ #[m,y,_,by lia,D,E,rfl];obtain ⟨m,y,S,U,W,J,D,E,h4,G,N,rfl⟩:=h;have Al:m.length<T:=by
  rcases Nat.lt_or_ge m.length T with h | h
  exact h;rw [show T - m.length=0 by lia] at G;cases G
 rw[show T-m.length=(T-(m.length+1))+1 by lia,List.range'_succ]at G;obtain⟨rfl,M⟩:=List.cons.inj G;obtain⟨x,L⟩:=aOj s m.length;have Z:=aQ L;have Ge:x∉nms (gos [] 0 (fP m)):=by rw[aBa];intro z;obtain⟨f,hf,e⟩:=aY.mp (show x∈m.map (·.1)from z);obtain⟨i,v⟩:=fX hf;exact aOh (aK.mp v).1 `b (N i f v) L e
 have F4:atI (bX poolS) ((s+(0+(m.length:Int)))%12)=some (.str x):=by rw[iC,<-Int.toNat_of_nonneg (bT (s+(m.length:Int)) (show(12:Int)≠0 by decide))];exact dh_ (by rw[bI,L];rfl)
 refine#[rfl,by show(0:Int)<12;decide,?_];show(match atI (bX poolS) ((s+(0+(m.length:Int)))%12)with | some d=>_ | none=>False);rw[F4];refine#[rfl,rfl,J,λp l2 hF hd Aq=>?_];refine#[rfl,p,rfl,Aq,hF,hd,by decide,λA l5 hv Mw=>#[by show 3<=1000000;decide,by show(m.map fdT).length+1<=_;rw[aB];lia,?_]];have Hc:=hb_ (cs:=fP m) (fs:=[]) (k:=0);rw[aB,bE]at Hc;refine#[rfl,by show 3<=1000000;decide,by show((gos [] 0 (fP m)).map Fe.n).length+1<=_;rw[aB];lia,?_];have t:fP (m++[(x,p,A)])=fP m++[Ch.add x p A]:=aZ;have V:gos [] 0 (fP<|m++[(x,p,A)])=gos [] 0 (fP m)++[#[x,m.length,p,A,none]]:=by rw[t,ir_,qO,Nat.zero_add];rfl
 refine hk _ #[m++[(x,p,A)],l5,vT<|.int<|0+(m.length:Int),vT<|.str x,vT p.x,Mw,?_,?_,?_,?_,?_,?_];rw [t];exact nW.mpr #[D,#[(nB x Z).1,Ge,hF,hd,hv],trivial];rw [V];intro e u;rcases aV.mp u with u | u
 exact E e u;rw [aE.mp u];exact Z;rw [aI];exact Al;rw [aI];exact M;intro i f v;by_cases c:i<m.length;rw [cX c] at v;exact N i f v;rw [bW `b] at v;have:=(aK.mp v).1;have c2:i=m.length:=by simp at this;lia
 subst c2;rw[iA]at v;cases v;exact L;show (Sl.v (.tr<|.int c) :: .v (.ol l5) :: vT (.int s) :: .v (.ol<|m.map fdT ++ [fdT (x,p,A)]) :: .v (.ol<|(gos [] 0 (fP m)).map Fe.n ++ [Dx.tup [.str x,.int<|0 + (m.length:Int),p.x]]) :: [vT<|.int<|0 + (m.length:Int),vT<|.str x,vT p.x]:En)=_;unfold bgE;rw[V,aZ (f:=Fe.n),aZ (f:=fdT),iC];rfl
end
def bJx:(Ow.oi C a dx<|hsL b mk ly mu).d=hsT C mk ly mu:=by unfold hsL hsT hsF;simp only[Ow.d,aDz,aAu]
def aPk(a:Mks)(p:Q5×Int):iQ (a++[p])=iQ a++[.lst<|p.1.map Fe.n]:=by unfold iQ;rw[aZ];rfl
def aBc(a:Mks)(p:Q5×Int):fB (a++[p])=fB a++[mkT p.1 p.2]:=by unfold fB;rw[aZ];rfl
def nG(a:Mks):(iQ a).length=a.length:=aB ..
def bEy(K:dN):GC:=λa Q=>∃(d:Dx) (b:Q6) (k:Int),a=[d,.int k]/\aDp K d b/\0<=k/\∀c:Int,Q<|.tr<|.int c
def sH(a:Mks):Prop:=∀p∈a,mP p.1
def gLH(K:dN)(C:Addr):GC:=λe Q=>∃(d:Dx) (b:Q6),e=[d]/\aDp K d b/\b.length<=63/\∀(a:Mks) (c:Q4) (f:Int) (k:Nat),Hist a c k->sH a->a.length=1+(iT b (some 1)<|some 8).length->a.length<=8->Q (.tr<|.tup [hsT C (fB a) c f,.lst<|iQ a])
abbrev lhE(d:Dx)(C a f b:Addr)(g:Mks)(ly:Q4)(h:Int)(e:Q0)(k:Nat)(c:Q0)(y:Sl):En:=[vT d,.v<|.ow<|.oi C a f<|hsL b (fB g) ly h,.v<|.ol e,.v<|.ol [.int (k:Int)],.v<|.ol c,y]
section
variable{f:Addr}{n j L:Nat}{g C_House:Addr}
def aPg(F:Fun K "_law_cell_at" "_law_cell_at" hn_ f fd)(B:Blt mg):FnOk P w K mg base CX0 1 f fd ["script","k"] (spX<|bEy K):=by
 refine jP F pA (λo=>(cG (iY (kT kl_ kj_ `k (d4 (tY K) aQz `t B.len PySem.boot_len (eQ `e)) (cP _)) (cR<|eU<|aTs K `e `k (λ_ _=>rfl)) jH)
  (cR<|eU cZ))) λm Q h=>?_
 obtain⟨d,a,k,rfl,b,i,q⟩:=h;refine#[rfl,?_];refine#[d,a,rfl,b,?_];refine aPy (λc=>?_)<|λc=>q 0;have e:=of_decide_eq_true c;obtain⟨v,hv,_⟩:=u3 (l:=a) i e;exact#[a,k,v,b,rfl,hv,q v]
def aXt(F:Fun K "_law_house" "_law_house" ka_ f fd)(W:Cal P w K mg base 1 "_law_cell_at" ["script","k"] (spX<|bEy K))(Of:Cal P w K mg base 2 "_law_deck" ["cell","many"] (spX gDK))(U:Cal P w K mg base L "_law_begun" ["cell"] (spX<|gBG C_House))(Y:Cal P w K mg base L "_law_make" BN<|aNx gMK)(s:aFt P w K mg base L C_House "next_make" AV<|spO<|aZw C_House)(B:Blt mg)(hL:2<=L):FnOk P w K mg base CX0 (L+1) f fd BK<|spX<|gLH K C_House:=by
 refine jP F gB (λH=>(cG (u_ (K:=K) (i:=1) (j:=2) (m:=3) λF=>kf_ (XE.at (Ex:=cY) F (eJ U<|eQ<|eJ W<|cQ `e cZ))<|hq_ rfl<|lD (iK (i:=1) gB.nd rfl `l)<|lD (iK (i:=2) gB.nd rfl `l)<|lD (iK (i:=3) gB.nd rfl `l) cv_)
  (cG (gK gB 4<|mG<|eQ<|rX (i:=2) K (pv 2) B.list)
  (cG (xO PassesOwn.never rfl (jL<|aDd K `e (id_ cZ) (id_ cZ)) (iK (i:=5) gB.nd rfl `l) (tZ (n:=99) (i:=5) `a) (cG (uK<|oA (C:=C_House) (i:=1) s (H.mono `b) (pv 1)<|eQ<|aGp (i:=2) (j:=3) Y (H.mono `b) (eJ Of<|cQ (xv 5) cZ) (pv 2)<|pv 3)
  (cR<|fb_ 4<|rX (i:=2) K (pv 2) B.list)))
  (cR<|eU<|jQ<|cQ `k (xv 4)))))) λds Q h=>?_
 obtain⟨d,E,rfl,hs,Pw,q⟩:=h;refine#[rfl,?_];refine#[d,E,0,rfl,hs,by decide,λc=>?_];refine#[c,rfl,λfs z u A k a M b b1 b2 D K2=>?_];refine#[_,_,_,_,_,rfl,?_];dsimp only;change dO _ _ [vT d,.v<|.ow<|.oi C_House a M<|hsL b (fB [(fs,z)]) u A,.v<|.ol<|fs.map Fe.n,.v<|.ol [.int (k:Int)],.un,.un] _;refine#[_,rfl,by show 1<=1000000;decide,?_];dsimp only;change dO (lT _ _ _) _ (lhE d C_House a M b [(fs,z)] u A (fs.map Fe.n) k (iQ [(fs,z)]) .un) _;have Dw:(iT E (some 1)<|some 8).length<=7:=by have R:=HT.sIx_nat E.length E.length 8;have S:=HT.sIx_nat E.length 0 1;unfold iT;rw[eI,gG];rw[show((8:Nat):Int)=8 from rfl]at R;rw[show((1:Nat):Int)=1 from rfl]at S;rw[R,S];lia
 refine dd_ (λJ=>∃(o:Mks) (u:Q4) (A:Int) (fs:Q5) (k:Nat) (z:Int) (v:Mks) (y:Sl),HsOk o u A k fs z v/\sH o/\o.length=1+(iT E (some 1)<|some 8).length/\J=lhE d C_House a M b o u A (fs.map Fe.n) k (iQ o) y) ?_<|λnx C8=>?_;rintro J ⟨o,u,A,fs,k,z,v,y,D,H,x,rfl⟩;refine#[by show 2<=1000000;decide,?_];show Q (.tr<|.tup [(Ow.oi C_House a M<|hsL b (fB o) u A).d,.lst<|iQ o]);rw[bJx];exact q o u A k D.hist H x `b;refine #[E,hs,?_];show hU _ _ _ ((iT E (some 1)<|some 8).map Dx.int) _;refine xQ Dx.int (λrest J=>∃(o:Mks) (u:Q4) (A:Int) (fs:Q5) (k:Nat) (z:Int) (v:Mks) (y:Sl),HsOk o u A k fs z v/\sH o/\o.length+rest.length=1+(iT E (some 1)<|some 8).length/\J=lhE d C_House a M b o u A (fs.map Fe.n) k (iQ o) y) (λJ h=>?_) (λc rest J Kn h hk=>?_) #[[(fs,z)],u,A,fs,k,z,[],.un,D,λp G=>by rw[aE.mp G];exact K2,rfl,rfl];obtain ⟨o,u,A,fs,k,z,v,y,R,S,t,rfl⟩:=h;exact C8 _ #[o,u,A,fs,k,z,v,y,R,S,by rw[bE]at t;lia,rfl];clear D K2;obtain⟨o,u,A,fs,k,z,v,y,D,H,t,rfl⟩:=h;rw[aL]at t;have Jn:1<=o.length:=by rw[D.is,aI];show 1<=_+1;lia
 obtain⟨Ag,V,K8⟩:=D.fs;have Z:fB o=fB v++[mkT fs z]:=by rw[D.is,aBc]
 refine#[#[rfl,rfl],?_];refine#[c,90,rfl,by decide,by decide,λl x=>#[by decide,l,rfl,x,fs,k,rfl,rfl,by lia,Ag.2.1,λe T=>#[V e T,D.pool e T],D.k20,λI h4 h5 h6 h7 h8=>?_]];obtain⟨hB,hN⟩:=aQb D `b h4 h5 h6 h7 h8;refine#[rfl,b,fB v,u,A,z,o.length,k,fs,I,by rw[<-Z],rfl,by rw[<-Z];exact hB,λN r O i p1 p2 p3 p4=>?_];obtain⟨Km,D5⟩:=hN N r O p1 p2 p3 p4;have A6:sH<|o++[(dP (gos fs k I) u,r)]:=λp G=>by
  rcases aV.mp G with G | G
  exact H p G;rw [aE.mp G];exact aHx D5<|pJ (H (fs,z)<|aQ D.last) λe T=>((D.hist.plc (fs,z)<|aQ D.last).2 e T).2.1
 rw[<-Z,<-aBc o (dP (gos fs k I) u,r),<-D5];refine#[rfl,_,rfl,by show(iQ o).length<1000000;rw[nG];lia,?_];dsimp only;refine hk _ #[o++[(dP (gos fs k I) u,r)],N,O,_,cts k I,r,o,vT<|.int c,Km,A6,by rw[aI];show o.length+1+_=_;lia,?_];rw[aPk o (dP (gos fs k I) u,r)];rfl
end
def gTR(C:Addr):GC:=λg Q=>∃(c:Mks) (f:Q4) (h:Int) (k a b:Nat) (p q:Q5×Int) (e:List<|List Key) (l:Q0),g=[hsT C (fB c) f h,.dqt e l,.int (a:Int),.int (b:Int)]/\Hist c f k/\sH c/\c[a]? = some p/\c[b]? = some q/\kR e l [.inl ((min a b:Nat):Int),.inl ((max a b:Nat):Int)]=some (.lst<|bX<|nms<|shF p q)/\Q (.tr<|.bl true)
def bIr:G2:=λa b Q=>∃c:Q3,a=.lst (bX c)/\b=.lst (bX c)/\Q (.tr<|.bl false)
def ha_:OpX (aIb false) bIr:=by
 intro F P H a b x y Q j R e f g k;obtain⟨c,rfl,rfl,g⟩:=g;have one:∀{c:Q3} {v:V},IsX (hid (bB P) `m) (.lst<|bX c) v->IsD H (.lst<|c.map .str) v:=λ{c v} w=>by obtain⟨q,l,rfl,h,i⟩:=w.lst_eq;cases jt_ i;simp only[IsD];exact#[q,_,rfl,R.hv _ _ h,uT c]
 refine#[_,?_,.inl `r,one e,one f,k _ _ H (R.add<|IsX.of_bl _) g];have:=js_ c;simp only[Dt.deep];lia
def wI{a:Bool}{x:Str}{xs:Q3}{Q:Sv->Prop}(h:Q (.tr (.bl (if a then !decide (x∈xs)else decide (x∈xs))))):inX a (.str x) (.lst<|bX xs) Q:=by show(((bX xs).all λd=>(scV d).isSome)=true/\Q (.tr (.bl (if a then !inV (.str x) ((bX xs).filterMap scV)else inV (.str x) ((bX xs).filterMap scV)))));refine#[List.all_eq_true.mpr λd b=>by obtain⟨y,_,rfl⟩:=aY.mp b;rfl,?_];rw[pC,show inV (.str x) (xs.map V.str)=decide (x∈xs) by rw[dX,decide_eq_true_eq];exact zO];exact h
def nV{a:Bool}{xs ys:Q3}{e:Sv}{Q:Q0->Q9->Prop}(h:e.d=.lst (bX ys))(q:∀c,(c=[Sl.v e]\/c=[Sl.v<|.tr<|.lst<|bX ys])->Q (bX (xs.filter λn=>if a then !decide (n∈ys)else decide (n∈ys))) c):cB 1 (gxN 0) (xB<|xOp (inX a) (dC 0)<|dC 1) (dC 0) Q (bX xs) [.v e] []:=by
 refine qS [vT<|.lst<|bX ys] Dx.str Dx.str (λn=>if a then !decide (n∈ys)else decide (n∈ys)) (λn l f P c i j=>?_) q;have g:∀e:Sv,e.d=.lst (bX ys)->oS 1 (gxN 0) (xB<|xOp (inX a) (dC 0)<|dC 1) (dC 0) P (.str n) [.v e] f:=λe h=>by
  show inX a (.str n) e.d λs=>match s with
   | .tr (.bl b)=>if b=true then P (f++[.str n]) [.v<|.tr e.d]else P f [.v<|.tr e.d]
   |_=>False
  rw[h];refine wI ?_;show if(if a=true then !decide (n∈ys)else decide (n∈ys))=true then P (f++[.str n]) [vT<|.lst<|bX ys]else P f [vT<|.lst<|bX ys]
  exact aLp j
 rcases i with rfl | rfl
 exact g _ h;exact g _ rfl
def aLa{c:XC}{G K:XS}{a:En}{D:XD}(R:En->Prop)(b:∀Q:Bool->En->Prop,(∀ρ',R ρ'->Q false ρ')->c a Q)(h:∀ρ',R ρ'->K ρ' D):dO (xIf c G mI) K a D:=b _ h
def aSu{A B:Dx}{Q:Sv->Prop}(q:Q<|.tr A):ixX (.lst [A,B]) (.int 0) Q:=by show(match atI [A,B] 0 with | some d=>Q (.tr d) | none=>False);rw[show atI [A,B] 0=some A from rfl];exact q
def aSt{A B:Dx}{Q:Sv->Prop}(q:Q<|.tr B):ixX (.lst [A,B]) (.int 1) Q:=by show(match atI [A,B] 1 with | some d=>Q (.tr d) | none=>False);rw[show atI [A,B] 1=some B from rfl];exact q
def aQx{l:S8}{x:Str}{d:Dx}{Q:Sv->Prop}(h:fR l (.inr x)=some d)(q:Q<|.tr d):dgX (.dic l) (.str x) Q:=by show(match fR l (.inr x)with | some d=>Q (.tr d) | none=>False);rw[h];exact q
abbrev plP(fs gs:Q5):Dx:=.lst [.dic<|plK fs,.dic<|plK gs]
def aRa{fs gs:Q5}{xs:Q3}{a:Sv}{Q:Q0->Q9->Prop}(i:a.d=plP fs gs)(h:∀n∈xs,∃z:Int,fR (plK fs) (.inr n)=some (.int z)/\fR (plK gs) (.inr n)=some (.int z))(q:∀c,(c=[Sl.v a]\/c=[Sl.v<|.tr<|plP fs gs])->Q [] c):cB 1 (gxN 0) (xB<|xOp neX (xOp dgX (xOp ixX (dC 1)<|xC<|.int 0)<|dC 0)<|xOp dgX (xOp ixX (dC 1)<|xC<|.int 1)<|dC 0) (dC 0) Q (bX xs) [.v a] []:=by
 refine qS [vT<|plP fs gs] Dx.str Dx.str (λ_=>false) (λn p e P c g r=>?_) (λc g=>by rw[dQ.mpr `h];exact q c g);have j:P e [vT<|plP fs gs]:=by have l:P (e++[]) [vT<|plP fs gs]:=r;rw[aU]at l;exact l
 obtain⟨z,m,o⟩:=h n p;have f:∀a:Sv,a.d=plP fs gs->oS 1 (gxN 0) (xB<|xOp neX (xOp dgX (xOp ixX (dC 1)<|xC<|.int 0)<|dC 0)<|xOp dgX (xOp ixX (dC 1)<|xC<|.int 1)<|dC 0) (dC 0) P (.str n) [.v a] e:=λa i=>by
  show ixX a.d (.int 0) λu=>dgX u.d (.str n) λv=>ixX a.d (.int 1) λy=>dgX y.d (.str n) λA=>neX v.d A.d λs=>match s with
   | .tr (.bl b)=>if b=true then P (e++[.str n]) [.v<|.tr a.d]else P e [.v<|.tr a.d]
   |_=>False
  rw[i];refine aSu<|aQx m<|aSt<|aQx o ?_;show if(!decide (z=z))=true then _ else P e _
  rw[dzT rfl];exact j
 rcases g with rfl | rfl
 exact f _ i;exact f _ rfl
def aRb{fs gs:Q5}{xs ys:Q3}{a:Sv}{Q:Q0->Q9->Prop}(e:a.d=plP fs gs)(h:∀n∈xs,n∈ys->∃z f:Int,z≠f/\fR (plK fs) (.inr n)=some (.int z)/\fR (plK gs) (.inr n)=some (.int f))(q:∀c,Q [] c):cB 1 (gxN 0) (aUg (xB<|xOp (inX false) (dC 0)<|dC 1)<|xB<|xOp eqX (xOp dgX (xOp ixX (dC 2)<|xC<|.int 0)<|dC 0)<|xOp dgX (xOp ixX (dC 2)<|xC<|.int 1)<|dC 0) (dC 0) Q (bX xs) [vT<|.lst<|bX ys,.v a] []:=by
 refine db_ Dx.str (λrest g c=>(∀n∈rest,n∈xs)/\g=[]/\∃a:Sv,a.d=plP fs gs/\c=[vT<|.lst<|bX ys,.v a]) (λg c i=>by obtain⟨_,rfl,_⟩:=i;exact q c) (λn rest g c P i k=>?_) #[λ_ h=>h,rfl,a,e,rfl];obtain⟨j,rfl,a,e,rfl⟩:=i;have l:∀m∈rest,m∈xs:=λm o=>j m<|aC _ o;show inX false (.str n) (.lst<|bX ys) λs=>match s with
   | .tr (.bl b) => if b = true then (ixX a.d (.int 0) fun v => dgX v.d (.str n) fun y => ixX a.d (.int 1) fun A => dgX A.d (.str n) fun B => eqX y.d B.d fun s => match s with
     | .tr (.bl b)=>if b=true then P ([]++[.str n]) [.v<|.tr<|.lst<|bX ys,.v<|.tr a.d]else P [] [.v<|.tr<|.lst<|bX ys,.v<|.tr a.d]
     |_=>False)else(if false=true then P ([]++[.str n]) [.v<|.tr<|.lst<|bX ys,.v a]else P [] [.v<|.tr<|.lst<|bX ys,.v a])
   |_=>False
 refine wI ?_;show if decide (n∈ys)=true then _ else _
 by_cases c:n∈ys;obtain ⟨z,f,u,p,r⟩:=h n (j n aA) c;rw[if_pos<|dzT c,e];refine aSu<|aQx p<|aSt<|aQx r ?_;show if decide (z=f)=true then _ else P [] _
 rw[dzF u];exact k _ _ #[l,rfl,.tr<|plP fs gs,rfl,rfl];rw [if_neg (by rw [decide_eq_true_eq]; exact c)];exact k _ _ #[l,rfl,a,e,rfl]
section
variable{f:Addr}{n j L:Nat}{g C_House:Addr}
def aWz(F:Fun K "_law_two_right" "_law_two_right" ck_ f fd)(Ja:mR P w K mg base 4 "names_apart" AM<|spE<|aQm C_House g)(u:rA P w K mg base 3 C_House "places_of" AA<|spE<|gPO C_House g)(o:rA P w K mg base (L+1) C_House "fields_of" AA<|spE<|bEx C_House)(B:Blt mg)(hL:3<=L):FnOk P w K mg base CX0 (L+2) f fd BG<|spX<|gTR C_House:=by
 refine aEz F cC (λds Q h=>by obtain⟨_,_,_,_,_,_,_,_,_,_,rfl,_⟩:=h;rfl) `a λAj A a5 s H E G=>?_;have T:=rB G;have Ji:=gU T;refine#[_,(cG (u_ (K:=K) (i:=4) (j:=5) (m:=6) λF=>kf_ (XE.at (Ex:=cY) F (cg_ Ja (G.mono `b)<|iW `e (cQ (xv 2)<|xv 3)))<|hq_ rfl<|lD (iK (i:=4) cC.nd rfl<|Or.inr rfl)<|lD (iK (i:=5) cC.nd rfl `l)<|lD (iK (i:=6) cC.nd rfl<|Or.inr rfl) cv_)
  (cG (o_ λF=>PS.weak (gz_ (i:=7) cC.nd rfl rfl (dsc:=aP ck_) (N:=AD) (tgs:=BM) (outs:=[]) (N':=BM) (by refine#[rfl,?_,?_,?_,rfl,?_,?_,?_]<;>decide +kernel) (XIt.at (Ex:=cY) F (jL<|da_ o (G.mono `b) `e (eQ<|xv 2))) `p (ie_<|t9 `a (t9 `a (t9 `a fw_ t_) (bm_ t_)) (bm_<|bm_ t_)) (λa b c d e=>XCs.at (Ex:=cY) F kU) (λa b c d e=>XE.at (Ex:=cY) F `e))<|lW (fs_ (n:=3) (is:=[0,1,2]) rfl `a) `a)
  (cG (o_ λF=>PS.weak (gz_ (i:=8) cC.nd rfl rfl (dsc:=aP ck_) (N:=AD) (tgs:=BM) (outs:=[]) (N':=BM) (by refine#[rfl,?_,?_,?_,rfl,?_,?_,?_]<;>decide +kernel) (XIt.at (Ex:=cY) F (jL<|da_ o (G.mono `b) `e (eQ<|xv 3))) `p (ie_<|t9 `a (t9 `a (t9 `a fw_ t_) (bm_ t_)) (bm_<|bm_ t_)) (λa b c d e=>XCs.at (Ex:=cY) F kU) (λa b c d e=>XE.at (Ex:=cY) F `e))<|lW (fs_ (n:=3) (is:=[0,1,2]) rfl `a) `a)
  (cG (a9<|XW.pt<|xN (kT (cl_ G.units) ha_ (lQ cC [4] (jL<|xv 7) (ci_<|kT (lY K) (pU false) `e `k (by with_unfolding_all rfl)) `e) (xv 4)<|cP _)<|xP<|kT (cl_ G.units) ha_ (lQ cC [4] (jL<|xv 8) (ci_<|kT (lY K) (pU false) `e `k (by with_unfolding_all rfl)) `e) (xv 4)<|cP _)
  (cG (a9<|XW.pt<|xN (kT (cl_ G.units) ha_ (lQ cC [4] (jL<|xv 7) (ci_<|kT (sR K) (pU true) `e `k (by with_unfolding_all rfl)) `e) (xv 5)<|cP _)<|xP<|kT (cl_ G.units) ha_ (lQ cC [4] (jL<|xv 8) (ci_<|kT (sR K) (pU true) `e `k (by with_unfolding_all rfl)) `e) (xv 6)<|cP _)
  (cG (a9<|XW.pt<|xN (kT (cl_ G.units) aJf (cg_ Ja (G.mono `b)<|iW `e (cQ (xv 3)<|xv 2)) (jQ<|iW (xv 4)<|cQ (xv 6)<|xv 5)<|cP _)<|xP<|kT (cl_ G.units) ha_ (oE T `k (jQ<|cQ (d4 (tV `t) aCp `t B.min t7 (cQ (xv 2)<|xv 3))<|d4 (lj_ `t) wW `t B.max mE (cQ (xv 2)<|xv 3)) (λ_ _=>rfl)) (xv 4)<|cP _)
  (cG (gK cC 9<|mG<|cQ (da_ u (G.mono `b) `e (eQ<|xv 2))<|da_ u (G.mono `b) `e (eQ<|xv 3))
  (cG (a9<|rE (lQ cC [9] (jL<|xv 4) (ci_<|rE (ff_ T (dH K `k) `e (λ_ _=>rfl))<|ff_ T (dH K `k) `e (λ_ _=>rfl)) `e)<|mG kF)
  (cR<|eU<|aTv (lQ cC [6,9] (jL<|xv 5) (ci_<|XW.pt<|h_ (kT (lY K) (pU false) `e `k (by with_unfolding_all rfl))<|uI<|kI (ff_ T (dH K<|xv 2) `e (λ_ _=>rfl))<|ff_ T (dH K<|xv 2) `e (λ_ _=>rfl)) `e)<|mG kF))))))))),λds Q h=>?_]
 clear Ji T hL;obtain⟨C,y,D,k,a,b,p,q,R,l,rfl,U,A6,V,hq,hg,a1⟩:=h;have mp:=aQ V;have mq:=aQ hq;have I:=(U.plc p mp).1;have M:=(U.plc q mq).1;have a3:=λe J=>((U.plc p mp).2 e J).1;have Hw:=λe J=>((U.plc q mq).2 e J).1;obtain⟨t1,t2,t3,t4⟩:=aQa U A6 mp mq;refine#[C,y,D,_,_,rfl,trivial,trivial,.inl #[a,b,p,q,rfl,rfl,V,hq,I,M,λZ c2 c3=>?_]];refine#[_,_,_,_,_,rfl,?_];have W:∀(v:Bool) (fs gs:Q5),shW v fs gs=bX (nms<|fs.filter λe=>shB gs e == v):=λv fs gs=>by unfold bX nms;rw[bH];rfl
 rw[W,W,W];generalize Nq:nms (p.1.filter λe=>shB q.1 e == true)=bo at t1 t2 t3 t4 hg ⊢;generalize Nb:nms (p.1.filter λe=>shB q.1 e == false)=fi at t3 ⊢;generalize Oy:nms (q.1.filter λe=>shB p.1 e == false)=se at t4 ⊢;dsimp only;change dO (iX 7 _) _ [vT<|hsT C_House (fB C) y D,vT<|.dqt R l,vT<|.int (a:Int),vT<|.int (b:Int),.v<|.ow<|.ol Z<|(bX bo).map .tr,.v<|.ol<|bX fi,.v<|.ol<|bX se,.un,.un,.un] _;have t:∀(r:Q5×Int),kC r.1->(r.1.map fo3).length<=1000000:=λr h=>by rw[aB];have:=h.2.2;lia
 have a0:∀(fs:Q5),(fs.map λe=>Dx.str e.nm)=bX (nms fs):=λfs=>by unfold bX nms;rw[bH];rfl
 refine#[#[_,rfl,rfl],C,y,D,a,p,rfl,V,I,a3,?_];refine#[t p I,show cB _ _ _ _ _ (p.1.map fo3) _ _ from ?_];refine lR fo3 (λe=>.str e.nm) (λe J Ac P pp=>p7 pp) ?_;rw[bU,a0];dsimp only;change dO (iX 8 _) _ [vT<|hsT C_House (fB C) y D,vT<|.dqt R l,vT<|.int (a:Int),vT<|.int (b:Int),.v<|.ow<|.ol Z<|(bX bo).map .tr,.v<|.ol<|bX fi,.v<|.ol<|bX se,.v<|.ol<|bX<|nms p.1,.un,.un] _;refine#[#[_,rfl,rfl],C,y,D,b,q,rfl,hq,M,Hw,?_];refine#[t q M,show cB _ _ _ _ _ (q.1.map fo3) _ _ from ?_];refine lR fo3 (λe=>.str e.nm) (λe J Ac P pp=>p7 pp) ?_;rw[bU,a0];dsimp only;have e1:(Sv.ow<|Ow.ol Z<|(bX bo).map .tr).d=.lst (bX bo):=by simp only[Sv.d,Ow.d];rw[pV]
 have ln:∀(fs:Q5),fs.length<=1000->(bX<|nms fs).length<=1000000:=λfs h=>by unfold bX nms;rw[aB,aB];lia
 change dO (xIf _ _ _) _ [vT<|hsT C_House (fB C) y D,vT<|.dqt R l,vT<|.int (a:Int),vT<|.int (b:Int),.v<|.ow<|.ol Z<|(bX bo).map .tr,.v<|.ol<|bX fi,.v<|.ol<|bX se,.v<|.ol<|bX<|nms p.1,.v<|.ol<|bX<|nms q.1,.un] _;refine kM (ρ':=[vT<|hsT C_House (fB C) y D,vT<|.dqt R l,vT<|.int (a:Int),vT<|.int (b:Int),vT<|.lst<|bX bo,.v<|.ol<|bX fi,.v<|.ol<|bX se,vT<|.lst<|bX<|nms p.1,vT<|.lst<|bX<|nms q.1,.un]) (λQ S=>?_) ?_
 ·refine #[ln p.1 I.2.2,show cB _ _ _ _ _ (bX<|nms p.1) [.v<|.ow<|.ol Z<|(bX bo).map .tr] [] from ?_];refine nV e1 λc O=>?_;rw[show(nms p.1).filter (λn=>if false=true then !decide (n∈bo)else decide (n∈bo))=bo from t1];rcases O with rfl | rfl
  all_goals first | refine#[bo,rfl,e1,?_] | refine#[bo,rfl,rfl,?_]
  all_goals dsimp only[back]
  all_goals try rw[e1]
  all_goals
   refine#[ln q.1 M.2.2,show cB _ _ _ _ _ (bX<|nms q.1) [vT<|.lst<|bX bo] []from ?_];refine nV rfl λc O=>?_;obtain rfl:c=[Sl.v<|.tr<|.lst<|bX bo]:=by rcases O with h | h<;>exact h
   rw[show(nms q.1).filter (λn=>if false=true then !decide (n∈bo)else decide (n∈bo))=bo from t2];exact#[bo,rfl,rfl,S]
 refine kM (ρ':=[vT<|hsT C_House (fB C) y D,vT<|.dqt R l,vT<|.int (a:Int),vT<|.int (b:Int),vT<|.lst<|bX bo,vT<|.lst<|bX fi,vT<|.lst<|bX se,vT<|.lst<|bX<|nms p.1,vT<|.lst<|bX<|nms q.1,.un]) (fun Q S => ?_) ?_;refine #[ln p.1 I.2.2,show cB _ _ _ _ _ (bX<|nms p.1) [vT<|.lst<|bX bo] [] from ?_];refine nV rfl λc O=>?_;obtain rfl:c=[Sl.v<|.tr<|.lst<|bX bo]:=by rcases O with h | h<;>exact h
 rw[show(nms p.1).filter (λn=>if true=true then !decide (n∈bo)else decide (n∈bo))=fi from t3];refine#[fi,rfl,rfl,?_];refine#[ln q.1 M.2.2,show cB _ _ _ _ _ (bX<|nms q.1) [vT<|.lst<|bX bo] []from ?_];refine nV rfl λc O=>?_;obtain rfl:c=[Sl.v<|.tr<|.lst<|bX bo]:=by rcases O with h | h<;>exact h
 rw[show(nms q.1).filter (λn=>if true=true then !decide (n∈bo)else decide (n∈bo))=se from t4];exact#[se,rfl,rfl,S];have sy:nms (q.1.filter fun e=>shB p.1 e == true)=bo:=by rw [← Nq]; exact congrArg nms<|k7 U A6 mq mp
 refine kM (ρ':=[vT<|hsT C_House (fB C) y D,vT<|.dqt R l,vT<|.int (a:Int),vT<|.int (b:Int),vT<|.lst<|bX bo,vT<|.lst<|bX fi,vT<|.lst<|bX se,vT<|.lst<|bX<|nms p.1,vT<|.lst<|bX<|nms q.1,.un]) (λQ S=>?_) ?_;refine #[C,y,D,_,_,rfl,trivial,trivial,.inl #[b,a,q,p,rfl,rfl,hq,V,M,I,fun d1 d2 d3 => ?_]];rw[W,W,W,sy,Oy,Nb];refine#[by show 3<=1000000;decide,bo,se,fi,bFi,rfl,?_];refine#[by show 2<=1000000;decide,?_];have m1:(if(b:Int)<(a:Int)then(b:Int)else(a:Int))=((min a b:Nat):Int):=by split<;>lia
 have m2:(if(b:Int)>(a:Int)then(b:Int)else(a:Int))=((max a b:Nat):Int):=by split<;>lia
 show(match kR R l [.inl (if(b:Int)<(a:Int)then(b:Int)else(a:Int)),.inl (if(b:Int)>(a:Int)then(b:Int)else(a:Int))]with | some d=>_ | none=>False);rw[m1,m2,hg];exact#[bo,rfl,rfl,S];refine #[#[_,rfl,rfl],C,y,D,_,rfl,trivial,.inl #[a,p,rfl,V,I,?_]];refine#[#[_,rfl,rfl],C,y,D,_,rfl,trivial,.inl #[b,q,rfl,hq,M,?_]];refine#[by show 2<=1000000;decide,?_];dsimp only;change dO (xIf _ _ _) _ [vT<|hsT C_House (fB C) y D,vT<|.dqt R l,vT<|.int (a:Int),vT<|.int (b:Int),vT<|.lst<|bX bo,vT<|.lst<|bX fi,vT<|.lst<|bX se,vT<|.lst<|bX<|nms p.1,vT<|.lst<|bX<|nms q.1,.v<|.ol [.dic<|plK p.1,.dic<|plK q.1]] _;have own:∀{r:Q5×Int} {e:Fe},kC r.1->e∈r.1->∃z:Int,e.pl=some z/\fR (plK r.1) (.inr e.nm)=some (.int z):=λ{r e} h J=>by obtain⟨z,Y⟩:=h.1 e J;exact#[z,Y,by rw[vJ h J,Y];rfl]
 have lb:bo.length<=1000:=by rw[<-Nq];unfold nms;rw[aB];exact nzL (cM ..) I.2.2
 have lf:fi.length<=1000:=by rw[<-Nb];unfold nms;rw[aB];exact nzL (cM ..) I.2.2
 refine aLa (λρ'=>∃sv:Sv,sv.d=plP p.1 q.1/\ρ'=[vT<|hsT C_House (fB C) y D,vT<|.dqt R l,vT<|.int (a:Int),vT<|.int (b:Int),vT<|.lst<|bX bo,vT<|.lst<|bX fi,vT<|.lst<|bX se,vT<|.lst<|bX<|nms p.1,vT<|.lst<|bX<|nms q.1,.v sv]) (λQ S=>?_)<|λρ' a4=>?_;refine #[by show (bX bo).length≤1000000; rw [aB]; lia,show cB _ _ _ _ _ (bX bo) [.v<|.ol [.dic<|plK p.1,.dic<|plK q.1]] [] from ?_];refine aRa (fs:=p.1) (gs:=q.1) rfl (λn x=>?_)<|λc O=>?_;rw [← Nq] at x;obtain⟨e,J,rfl⟩:=aY.mp x;obtain⟨a2,Gm⟩:=(aHq U mp mq).mp J;obtain⟨z,Y,g1⟩:=own I a2;obtain⟨z',E8,g2⟩:=own M Gm;rw[Y]at E8;cases E8;exact#[z,g1,g2];refine #[bL _,?_];rcases O with rfl | rfl
 exact S _ #[.ol [.dic<|plK p.1,.dic<|plK q.1],rfl,rfl];exact S _ #[.tr<|plP p.1 q.1,rfl,rfl];obtain ⟨sv,L4,rfl⟩:=a4;refine#[by show(bX fi).length<=1000000;rw[aB];lia,show cB _ _ _ _ _ (bX fi) [vT<|.lst<|bX se,.v sv] []from ?_];refine aRb (fs:=p.1) (gs:=q.1) L4 (λn x Ia=>?_)<|λc=>?_;rw [← Nb] at x;rw[<-Oy]at Ia;obtain⟨e,J,rfl⟩:=aY.mp x;obtain⟨e',Db,Ce⟩:=aY.mp Ia;have m1:=(cA.mp J);have m2:=(cA.mp Db);obtain⟨z,Y,g1⟩:=own I m1.1;obtain⟨z',E8,g2⟩:=own M m2.1;obtain⟨x1,x2⟩:=aFq (q:=q) I m1.1 m1.2;refine#[z,z',λw=>?_,g1,by rw[<-Ce];exact g2];apply x2;rw[x1,Y,w,<-E8,<-Ce];unfold lJ;rw[hx_ M.2.1 m2.1];rfl;exact#[bL _,a1]
end
def aUy(a:Mks)(ks:List<|List Key)(l:Q0):Prop:=∀(i j:Nat) (p q:Q5×Int),i<=j->a[i]? = some p->a[j]? = some q->kR ks l [.inl (i:Int),.inl (j:Int)]=some (.lst<|bX<|nms<|shF p q)
def gHR(C:Addr):GC:=λe Q=>∃(a:Mks) (c:Q4) (f:Int) (k:Nat) (b:List<|List Key) (l:Q0),e=[hsT C (fB a) c f,.lst<|iQ a,.dqt b l]/\Hist a c k/\sH a/\a.length<=8/\aUy a b l/\Q (.tr<|.bl true)
def aBx{i:Nat}{l:Q0}{a:En}{Q:Sv->En->Prop}(b:a[i]? = some (vT<|.lst l))(q:Q (.tr<|.int l.length)<|a.set i<|vT<|.lst l):gD aKg (cH (dC i) eZ) a Q:=by refine aBz<|is_ ?_;unfold dC;rw[b];exact q
def ds4(a:x=x')(b:y=y'):[h,m,Dx.int x,Dx.int y]=[h,m,Dx.int x',Dx.int y']:=by rw[a,b]
def aQw{ks:List<|List Key}{l:Q0}{x y a b:Int}{d:Dx}{Q:Sv->Prop}(c:x=a)(e:y=b)(h:kR ks l [.inl a,.inl b]=some d)(q:Q<|.tr d):aQv (.dqt ks l) (.tup [.int x,.int y]) Q:=by subst c e;show(match kR ks l [.inl x,.inl y]with | some d=>Q (.tr d) | none=>False);rw[h];exact q
abbrev hrE(C:Addr)(a:Mks)(ly:Q4)(b:Int)(ks:List<|List Key)(l:Q0)(r:Q9):En:=.v (.tr<|hsT C (fB a) ly b)::vT (.lst<|iQ a)::vT (.dqt ks l)::vT (.int (a.length:Int))::r
section
variable{f:Addr}{n j L:Nat}{g C_House:Addr}
def aYd(F:Fun K "_law_house_right" "_law_house_right" cs_ f fd)(Ja:mR P w K mg base 4 "names_apart" AM<|spE<|aQm C_House g)(Qi:Cal P w K mg base L "_law_two_right" BG<|spX<|gTR C_House)(B:Blt mg)(hL:4<=L):FnOk P w K mg base CX0 (L+1) f fd BH<|spX<|gHR C_House:=by
 refine aEz F cT (λds Q h=>by obtain⟨_,_,_,_,_,_,rfl,_⟩:=h;rfl) `a λAj A a3 s H E O=>?_;refine#[_,(cG (gK cT 3<|tS `k)
  (cG (xO PassesOwn.never rfl (cf_ B.range<|eQ<|xv 3) (iK (i:=4) cT.nd rfl `l) (tZ (n:=99) (i:=4) `a) (cG (o_ λF=>PS.weak (gz_ (i:=5) cT.nd rfl rfl (dsc:=aP cs_) (N:=["house","makes","steady","many","a","names","b","c"]) (tgs:=["name","k","kind"]) (outs:=[]) (N':=["name","k","kind"]) (by refine#[rfl,?_,?_,?_,rfl,?_,?_,?_]<;>decide +kernel) (XIt.at (Ex:=cY) F (jL<|mO K `k (xv 4))) (λ_ _ _ _ _=>(kh_ K (n:=3) rfl rfl<|lD (iK (i:=0) (show(["name","k","kind"]:Q3).Nodup by decide +kernel) rfl `l (.inr rfl))<|lD (iK (i:=1) (show(["name","k","kind"]:Q3).Nodup by decide +kernel) rfl `l (.inr rfl))<|lD (iK (i:=2) (show(["name","k","kind"]:Q3).Nodup by decide +kernel) rfl `l (.inr rfl)) cv_)) (ie_<|t9 `a (t9 `a (t9 `a fw_ t_) (bm_ t_)) (bm_<|bm_ t_)) (λa b c d e=>XCs.at (Ex:=cY) F kU) (λa b c d e=>XE.at (Ex:=cY) F `e))<|lW (fs_ (n:=3) (is:=[0,1,2]) rfl `a) `a)
  (cG (a9<|XW.pt<|xN (kT (cl_ O.units) aJf (cg_ Ja (O.mono `b)<|iW `e (cQ (xv 4)<|xv 4)) (jQ<|iW (xv 5)<|cQ (mG kF)<|mG kF)<|cP _)<|xP<|kT (cl_ O.units) ha_ (oE (rB O) (xv 2) (jQ<|cQ (xv 4)<|xv 4)<|λ_ _=>rfl) (xv 5)<|cP _)
  (cR (xO PassesOwn.never rfl (hd_ B.range<|cQ (lS (xv 4) cZ)<|xv 3) (iK (i:=6) cT.nd rfl<|Or.inr rfl) (tZ (n:=99) (i:=6) `a) (cG (a9<|XW.pt<|xN (qV<|lC<|eJ Qi<|iW `e (iW (xv 2)<|cQ (xv 4)<|xv 6))<|xP<|qV<|lC<|eJ Qi<|iW `e (iW (xv 2)<|cQ (xv 6)<|xv 4))
  (cR<|xO PassesOwn.never rfl (hd_ B.range<|cQ (xv 6)<|xv 3) (iK (i:=7) cT.nd rfl<|Or.inr rfl) (tZ (n:=99) (i:=7) `a)<|cR<|a9<|kT (cl_ O.units) ha_ (oE (rB O) (xv 2) (jQ<|cQ (xv 4)<|xv 7)<|λ_ _=>rfl) (lQ cT [2,6,7] (jL<|oE (rB O) (xv 2) (jQ<|cQ (xv 4)<|xv 6)<|λ_ _=>rfl) (ci_<|kT (lY K) (pU false) `e (oE (rB O) `k (jQ<|cQ (xv 2)<|xv 3) (λ_ _=>rfl)) (by with_unfolding_all rfl)) `e)<|cP _)))))))
  (cR<|eU v9))),λds Q h=>?_]
 obtain⟨o,z,C,k,D,l,rfl,R,A6,h8,S,a0⟩:=h;have ew:∀(v:Bool) (fs gs:Q5),shW v fs gs=bX (nms<|fs.filter λe=>shB gs e == v):=λv fs gs=>by unfold bX nms;rw[bH];rfl
 have a2:∀(fs:Q5),(fs.map λe=>Dx.str e.nm)=bX (nms fs):=λfs=>by unfold bX nms;rw[bH];rfl
 have kK:∀(x y:Dx),[x,y].length<=1000000:=λ_ _=>by show 2<=1000000;decide
 change dO (iX 3 _) _ [vT<|hsT C_House (fB o) z C,vT<|.lst<|iQ o,vT<|.dqt D l,.un,.un,.un,.un,.un] _;refine f8<|aBx rfl ?_;change dO (lT _ _ _) _ [vT<|hsT C_House (fB o) z C,vT<|.lst<|iQ o,vT<|.dqt D l,vT<|.int ((iQ o).length:Int),.un,.un,.un,.un] _;rw[nG];change dO (lT _ _ _) _ (hrE C_House o z C D l [.un,.un,.un,.un]) _;refine dd_ (λG=>∃r,G=hrE C_House o z C D l r) (by rintro G ⟨r,rfl⟩;exact a0)<|λnx C8=>?_;refine#[`s,?_];show hU _ _ _ (gZ 0 ((o.length:Int)).toNat) _;rw[eX];unfold gZ;refine xQ (λi:Nat=>Dx.int<|0+(i:Int)) (λrest G=>(∀i∈rest,i<o.length)/\∃V T J u:Sl,G=hrE C_House o z C D l [V,T,J,u]) (λG h=>by obtain⟨_,V,T,J,u,rfl⟩:=h;exact C8 _ `r) (λi rest G Kn h hk=>?_) #[λi W=>eP.mp W,.un,.un,.un,.un,rfl];obtain⟨U,V,T,J,u,rfl⟩:=h;have W:=U i aA;have Au:∀r,(∃V T J u:Sl,r=[V,T,J,u])->Kn (hrE C_House o z C D l r):=λr ⟨a,b,c,d,e⟩=>hk _ #[λi W=>U i<|aC _ W,a,b,c,d,by rw[e]];clear hk C8;obtain⟨p,I⟩:∃p,o[i]? = some p:=#[_,aJ W];have mp:=aQ I;have Ag:=(R.plc p mp).1;obtain⟨Ol,a4⟩:=aNz R mp;have ln:∀(fs:Q5),fs.length<=1000->(bX<|nms fs).length<=1000000:=λfs h=>by unfold bX nms;rw[aB,aB];lia
 have iz:(0:Int)+(i:Int)=(i:Int):=iC _;rw[iz];change dO (iX 5 _) _ (hrE C_House o z C D l [vT<|.int (i:Int),T,J,u]) _;show(match atI (iQ o) (i:Int)with | some d=>_ | none=>False);rw[show atI (iQ o) (i:Int)=some (.lst<|p.1.map Fe.n)from dh_ (by unfold iQ;rw[bI,I];rfl)];refine#[show(p.1.map Fe.n).length<=1000000 by rw[aB];have:=Ag.2.2;lia,show cB _ _ _ _ _ (p.1.map Fe.n) _ _ from ?_];refine lR Fe.n (λe=>.str e.nm) (λe he Ac P pp=>p7 pp) ?_;rw[bU,a2];dsimp only;change dO (xIf _ _ _) _ (hrE C_House o z C D l [vT<|.int (i:Int),.v<|.ol<|bX<|nms p.1,J,u]) _;refine kM (ρ':=hrE C_House o z C D l [vT<|.int (i:Int),vT<|.lst<|bX<|nms p.1,J,u]) (λQ t=>?_) ?_;refine #[o,z,C,_,_,rfl,trivial,trivial,.inl #[i,i,p,p,rfl,rfl,I,I,Ag,Ag,fun d1 d2 d3 => ?_]];rw[ew,ew,show(p.1.filter λe=>shB p.1 e == true)=p.1 from Ol,a4];refine#[bL _,bL _,by show 3<=1000000;decide,nms p.1,[],[],bFi,rfl,?_];refine#[by show 2<=1000000;decide,aQw rfl rfl (S i i p p (aO _) I I) ?_];exact#[nms p.1,by rw[Ol];rfl,rfl,t];refine #[#[by lia,by lia,by lia,by lia],?_];show hU _ _ _ (gZ ((i:Int)+1) ((o.length:Int)-((i:Int)+1)).toNat) _;unfold gZ;refine xQ (λj:Nat=>Dx.int<|(i:Int)+1+(j:Int)) (λrest G=>(∀j∈rest,i+1+j<o.length)/\∃J u:Sl,G=hrE C_House o z C D l [vT<|.int (i:Int),vT<|.lst<|bX<|nms p.1,J,u]) (λG h=>by obtain⟨_,J,u,rfl⟩:=h;exact Au _ #[_,_,_,_,rfl]) (λj rest G Kn h hk=>?_) #[λj Y=>by have:=eP.mp Y;lia,J,u,rfl];obtain⟨U,J,u,rfl⟩:=h;have Y:=U j aA;have bc:(i:Int)+1+(j:Int)=((i+1+j:Nat):Int):=by lia
 obtain⟨q,M⟩:∃q,o[i+1+j]? = some q:=#[_,aJ Y];have mq:=aQ M;have Bg:=(R.plc q mq).1;have a1:min i (i+1+j)=i:=by lia
 have Jx:max i (i+1+j)=i+1+j:=by lia
 have Ml:min (i+1+j) i=i:=by lia
 have Mi:max (i+1+j) i=i+1+j:=by lia
 refine kM (ρ':=hrE C_House o z C D l [vT<|.int (i:Int),vT<|.lst<|bX<|nms p.1,vT<|.int<|(i:Int)+1+(j:Int),u]) (λQ t=>?_) ?_;refine #[o,z,C,k,i,i + 1 + j,p,q,D,l,ds4 rfl bc,R,A6,I,M,by rw [a1,Jx]; exact S i (i + 1 + j) p q `b I M,?_];exact#[o,z,C,k,i+1+j,i,q,p,D,l,ds4 bc rfl,R,A6,M,I,by rw[Ml,Mi,k7 R A6 mq mp];exact S i (i+1+j) p q `b I M,t];refine #[#[by lia,by lia,by lia,by lia],?_];show hU _ _ _ (gZ ((i:Int)+1+(j:Int)) ((o.length:Int)-((i:Int)+1+(j:Int))).toNat) _;unfold gZ;refine xQ (λm:Nat=>Dx.int<|(i:Int)+1+(j:Int)+(m:Int)) (λrest G=>(∀m∈rest,i+1+j+m<o.length)/\∃u:Sl,G=hrE C_House o z C D l [vT<|.int (i:Int),vT<|.lst<|bX<|nms p.1,vT<|.int<|(i:Int)+1+(j:Int),u]) (λG h=>by obtain⟨_,u,rfl⟩:=h;exact hk _ #[λj Y=>U j<|aC _ Y,_,u,rfl]) (λm rest G Kn h F0=>?_) #[λm Z=>by have:=eP.mp Z;lia,u,rfl];obtain⟨Gg,u,rfl⟩:=h;have Z:=Gg m aA;have cc:(i:Int)+1+(j:Int)+(m:Int)=((i+1+j+m:Nat):Int):=by lia
 obtain⟨r,Jl⟩:∃r,o[i+1+j+m]? = some r:=#[_,aJ Z];refine aQh (ρ':=hrE C_House o z C D l [vT<|.int (i:Int),vT<|.lst<|bX<|nms p.1,vT<|.int<|(i:Int)+1+(j:Int),vT<|.int<|(i:Int)+1+(j:Int)+(m:Int)]) (λQ t=>?_)<|F0 _ #[λm Z=>Gg m<|aC _ Z,_,rfl];refine#[by show 2<=1000000;decide,aQw rfl cc (S i (i+1+j+m) p r `b I Jl) ?_];refine#[by show 2<=1000000;decide,aQw rfl bc (S i (i+1+j) p q `b I M) ?_];refine#[ln _<|nzL (cM ..) Ag.2.2,show cB _ _ _ _ _ (bX<|nms<|shF p q) _ _ from ?_];refine dc_ Dx.str Dx.str (λn=>decide (n∈nms (shF q r))) (λn hn Ac P pp=>?_) ?_;refine #[by show 2≤1000000; decide,aQw bc cc (S (i + 1 + j) (i + 1 + j + m) q r `b M Jl) ?_];refine wI ?_;show if decide (n∈nms (shF q r))=true then _ else _
 exact aLp pp;rw [aVc R `b `b I M Jl];exact#[nms<|shF p r,rfl,rfl,t]
end
def zT:∀{ks:List<|List Key} {l:Q0} {a:List<|List Key} {l':Q0},kR ks l x=some d->kR (ks++a) (l++l') x=some d
 | [],l,_,_,h=>by cases l<;>cases h
 |k::ks,[],_,_,h=>by cases h
 |k::ks,e::l,a,l',h=>by unfold kR at h;show(if k=x then some e else kR (ks++a) (l++l') x)=some d;by_cases c:k=x;rw[if_pos c]at h ⊢;exact h;rw[if_neg c]at h ⊢;exact zT h
def zS:∀{ks:List<|List Key} {l:Q0},ks.length=l.length->x∉ks->kR (ks++[x]) (l++[d]) x=some d
 | [],[],_,_=>by show(if x=x then some d else none)=some d;rw[if_pos rfl]
 | [],_::_,h,_=>by cases h
 |_::_,[],h,_=>by cases h
 |k::ks,e::l,h,n=>by show(if k=x then some e else kR (ks++[x]) (l++[d]) x)=some d;rw[if_neg λc=>n (by rw[c];exact aA)];exact zS (Nat.succ.inj h) λz=>n<|aC _ z
abbrev kq(i j:Nat):List Key:=[.inl (i:Int),.inl (j:Int)]
def aZa(h:kq i j=kq c e):i=c/\j=e:=by have f:=(List.cons.inj h).1;have g:=(List.cons.inj (List.cons.inj h).2).1;have a:(i:Int)=c:=Sum.inl.inj f;have b:(j:Int)=e:=Sum.inl.inj g;lia
structure Fil(ms:Mks)(ks:List (List Key))(l:Q0)(a b c:Nat):Prop where
 eq:ks.length=l.length
 le:l.length<=c
 ky:∀k∈ks,∃i j:Nat,k=kq i j/\(i<a\/(i=a/\j<b))
 gt:∀(i j:Nat) (p q:Q5×Int),i<=j->(i<a\/(i=a/\j<b))->ms[i]? = some p->ms[j]? = some q->kR ks l (kq i j)=some (.lst (bX (nms (shF p q))))
def Fil.new(h:Fil f ks l a b c):kq a b∉ks:=λz=>by obtain⟨i,j,e,w⟩:=h.ky _ z;obtain⟨rfl,rfl⟩:=aZa e;lia
def Fil.put(h:Fil g ks l a b c)(s:g[a]? = some p)(u:g[b]? = some q):Fil g (ks++[kq a b]) (l++[.lst<|bX<|nms<|shF p q]) a (b+1)<|c+1:=by
 refine#[by rw[aI,aI,h.eq];rfl,by rw[aI];have:=h.le;show l.length+1<=_;lia,λk f=>?_,λi j v y r z m o=>?_];rcases aV.mp f with f | f
 obtain ⟨i,j,e,w⟩:=h.ky k f;exact#[i,j,e,by lia];exact#[a,b,aE.mp f,by lia];by_cases e:i=a∧j=b;obtain ⟨rfl,rfl⟩:=e;rw[s]at m;rw[u]at o;cases m;cases o;exact zS h.eq h.new;exact zT<|h.gt i j v y r `b m o
def Fil.next(h:Fil f ks l a b c)(v:f.length<=b)(r:c<=g):Fil f ks l (a+1) (a+1) g:=by refine#[h.eq,nzL h.le r,λk s=>?_,λi j p q o y u m=>?_];obtain ⟨i,j,e,w⟩:=h.ky k s;exact#[i,j,e,by lia];have:=(aK.mp m).1;exact h.gt i j p q o `b u m
def aTa:Fil b [] [] 0 0 0:=#[rfl,aO _,λk a=>(nomatch a),λi j _ _ _ h=>by lia]
def aTj(a:Q6):(iT a (some 1)<|some 8).length=min 8 a.length-min 1 a.length:=by have b:=HT.sIx_nat a.length a.length 8;have c:=HT.sIx_nat a.length 0 1;unfold iT;rw[eI,gG];rw[show((8:Nat):Int)=8 from rfl]at b;rw[show((1:Nat):Int)=1 from rfl]at c;rw[b,c];lia
def bFs(a:Q6):(iT a none<|some 8).length=min 8 a.length:=by have b:=HT.sIx_nat a.length a.length 8;unfold iT;rw[eI,gG];rw[show((8:Nat):Int)=8 from rfl]at b;rw[b];show min (min 8 a.length-0) (a.length-0)=_;lia
def aQg{i:Nat}{l:Q0}{a:En}{Q:Sv->En->Prop}(b:a[i]? = some (vT<|.lst l))(c:1<=l.length)(q:Q (.tr<|.int l.length)<|a.set i<|vT<|.lst l):gD aBf (cH (xC<|.int 1)<|cH (gD aKg<|cH (dC i) eZ) eZ) a Q:=by refine aBz<|is_ ?_;dsimp only[xC];refine is_<|aBx b ?_;show Q (.tr (.int (if(l.length:Int)>1 then(l.length:Int)else 1))) _;rw[show(if(l.length:Int)>1 then(l.length:Int)else 1)=(l.length:Int) by split<;>lia];exact q
abbrev lwQ(K:dN)(g:Q6)(C:Addr)(c:Mks)(ly:Q4)(f:Int)(a:Mks)(b:Q4)(e:Int)(ks:List<|List Key)(l l':Q0)(r:Q9):En:=.v (.tr<|.scr K g)::vT (hsT C (fB c) ly f)::vT (.lst<|iQ c)::vT (hsT C (fB a) b e)::vT (.lst<|iQ a)::vT (.int (c.length:Int)) :: .v (.oq ks l) :: .v (.oq ks l')::r
section
variable{f:Addr}{n j L:Nat}{c C_House:Addr}
def aPe(F:Fun K "law" "law" yR f fd)(Qm:Cal P w K mg base L "_law_house" BK<|spX<|gLH K C_House)(Qj:mR P w K mg base 5 "steady_names" AM<|spE<|gSN C_House c)(Qn:Cal P w K mg base L "_law_house_right" BH<|spX<|gHR C_House)(B:Blt mg)(hL:5<=L):FnOk P w K mg base CX0 (L+1) f fd BK<|spX<|bEv K:=by
 refine jP F jF (λO=>(cG (uL (fs_ (n:=99) (is:=[1,2]) rfl `a) λF=>kf_ (XE.at (Ex:=cY) F (eJ Qm<|eQ `e))<|hq_ rfl<|lD (iK (i:=1) jF.nd rfl `l)<|lD (iK (i:=2) jF.nd rfl `l) cv_)
  (cG (uL (fs_ (n:=99) (is:=[3,4]) rfl `a) λF=>kf_ (XE.at (Ex:=cY) F (eJ Qm<|eQ<|v4<|aDc K `e mU (id_ cZ)))<|hq_ rfl<|lD (iK (i:=3) jF.nd rfl `l)<|lD (iK (i:=4) jF.nd rfl `l) cv_)
  (cG (gK jF 5<|d4 (lj_ `t) wW `t B.max mE (cQ cZ<|tS<|xv 2))
  (cG (gK jF 6 xV)
  (cG (gK jF 7 xV)
  (cG (xO PassesOwn.never rfl (cf_ B.range<|eQ<|xv 5) (iK (i:=8) jF.nd rfl `l) (tZ (n:=99) (i:=8) `a) (cR (xO PassesOwn.never rfl (hd_ B.range<|cQ (xv 8)<|xv 5) (iK (i:=9) jF.nd rfl `l) (tZ (n:=99) (i:=9) `a) (cG (o_ λF=>PS.weak (vI (rB O) (pv 6) (XE.at (Ex:=cY) F (jQ<|cQ (xv 8)<|xv 9)) (XE.at (Ex:=cY) F (cg_ Qj (O.mono `b)<|iW `k (cQ (xv 8)<|xv 9))) rfl) yF)
  (cR (o_ λF=>PS.weak (vI (rB O) (pv 7) (XE.at (Ex:=cY) F (jQ<|cQ (xv 8)<|xv 9)) (XE.at (Ex:=cY) F (cg_ Qj (O.mono `b)<|iW (xv 3)<|cQ (xv 8)<|xv 9)) rfl) yF))))))
  (cR<|eU<|dx_ (eJ Qn<|iW `k (cQ (xv 2)<|xv 6))<|er_<|eJ Qn<|iW (xv 3)<|cQ (xv 4)<|xv 7)))))))) λds Q h=>?_
 obtain⟨y,rfl,Pw,W⟩:=h;refine#[rfl,?_];refine#[_,y,rfl,.inl rfl,Pw,λg z A k x Iy K4 h8=>?_];refine p8 ?_;dsimp only;change dO (bCa _ _) _ [vT<|.scr K y,vT<|hsT C_House (fB g) z A,vT<|.lst<|iQ g,.un,.un,.un,.un,.un,.un,.un] _;refine#[rfl,?_];refine#[_,(iT y none<|some 8).reverse,rfl,.inr (by show Dx.lst ((iT y none<|some 8).map Dx.int).reverse=_;rw[List.map_reverse]),by rw[List.length_reverse,bFs];lia,λm u v k' U L9 Mn Pu=>?_];refine p8 ?_;have Jn:1<=g.length:=by lia
 have hN:m.length=g.length:=by rw[K4,Mn,aTj,aTj,List.length_reverse,bFs];lia
 dsimp only;refine f8<|aQg rfl (by rw[nG];exact Jn) ?_;rw[nG];refine f8 ?_;change dO (iX 7 _) _ [vT<|.scr K y,vT<|hsT C_House (fB g) z A,vT<|.lst<|iQ g,vT<|hsT C_House (fB m) u v,vT<|.lst<|iQ m,vT<|.int (g.length:Int),.v<|.oq [] [],.un,.un,.un] _;refine f8 ?_;change dO (lT _ _ _) _ (lwQ K y C_House g z A m u v [] [] [] [.un,.un]) _;refine dd_ (λC=>∃o l s r,Fil g o l g.length g.length (8*g.length)/\Fil m o s g.length g.length (8*g.length)/\C=lwQ K y C_House g z A m u v o l s r) ?_<|λnx C8=>?_;rintro C ⟨o,l,s,r,hF,t,rfl⟩;have s1:aUy g o l:=λi j p q R D G=>hF.gt i j p q R (.inl (aK.mp D).1) D G;have s2:aUy m o s:=λi j p q R D G=>t.gt i j p q R (.inl (by have:=(aK.mp D).1;lia)) D G;refine#[g,z,A,k,o,l,rfl,x,Iy,h8,s1,?_];exact#[m,u,v,k',o,s,rfl,U,L9,Pu,s2,W];refine #[`s,?_];show hU _ _ _ (gZ 0 ((g.length:Int)).toNat) _;rw[eX];unfold gZ;refine xQ (λi:Nat=>Dx.int<|0+(i:Int)) (λrest C=>∃(a:Nat) (o:List<|List Key) (l s:Q0) (y8 E:Sl),rest=List.range' a (g.length-a)/\a<=g.length/\Fil g o l a a (8*a)/\Fil m o s a a (8*a)/\C=lwQ K y C_House g z A m u v o l s [y8,E]) (λC h=>?_) (λi rest C Kn h hk=>?_) #[0,[],[],[],.un,.un,by rw[List.range_eq_range'];rfl,bL _,aTa,aTa,rfl];obtain ⟨a,o,l,s,y8,E,I,h2,Z,d,rfl⟩:=h;have e:a=g.length:=by have:=congrArg List.length I;rw[List.length_range']at this;have:0=g.length-a:=this;lia
 subst e;exact C8 _ #[o,l,s,_,Z,d,rfl];obtain ⟨a,o,l,s,y8,E,I,h2,Z,d,rfl⟩:=h;have Al:a<g.length:=by
  rcases Nat.lt_or_ge a g.length with h | h
  exact h;rw [show g.length - a=0 by lia] at I;cases I
 rw[show g.length-a=(g.length-(a+1))+1 by lia,List.range'_succ]at I;obtain⟨rfl,Hq⟩:=List.cons.inj I;obtain⟨p,D⟩:∃p,g[i]? = some p:=#[_,aJ Al];obtain⟨p',S⟩:∃p,m[i]? = some p:=#[_,aJ `b];have Ag:=(x.plc p<|aQ D).1;have Bg:=(U.plc p'<|aQ S).1;rw[iC];change lT _ _ _ (lwQ K y C_House g z A m u v o l s [vT<|.int (i:Int),E]) _;refine#[#[by lia,by lia,by lia,by lia],?_];show hU _ _ _ (gZ (i:Int) ((g.length:Int)-(i:Int)).toNat) _;rw[show((g.length:Int)-(i:Int)).toNat=g.length-i by lia];unfold gZ;refine xQ (λj:Nat=>Dx.int<|(i:Int)+(j:Int)) (λrest C=>∃(b:Nat) (o:List<|List Key) (l s:Q0) (E:Sl),rest=List.range' b (g.length-i-b)/\i+b<=g.length/\Fil g o l i (i+b) (8*i+b)/\Fil m o s i (i+b) (8*i+b)/\C=lwQ K y C_House g z A m u v o l s [vT<|.int (i:Int),E]) (λC h=>?_) (λj a0 C a1 h Au=>?_) #[0,o,l,s,E,by rw[List.range_eq_range'];rfl,by lia,Z,d,rfl];obtain ⟨b,o,l,s,E,H,g2,J,M,rfl⟩:=h;have e:g.length<=i+b:=by have:=congrArg List.length H;rw[List.length_range']at this;have:0=g.length-i-b:=this;lia
 exact hk _ #[i+1,o,l,s,_,_,Hq,Al,J.next e `b,M.next `b `b,rfl];obtain ⟨b,o,l,s,E,H,g2,J,M,rfl⟩:=h;have Gg:i+b<g.length:=by
  rcases Nat.lt_or_ge (i+b) g.length with h | h
  exact h;rw [show g.length - i - b=0 by lia] at H;cases H
 rw[show g.length-i-b=(g.length-i-(b+1))+1 by lia,List.range'_succ]at H;obtain⟨rfl,Y⟩:=List.cons.inj H;obtain⟨q,G⟩:∃q,g[i+j]? = some q:=#[_,aJ Gg];obtain⟨q',T⟩:∃q,m[i+j]? = some q:=#[_,aJ `b];have V:=(x.plc q<|aQ G).1;have Ma:=(U.plc q'<|aQ T).1;rw[show(i:Int)+(j:Int)=((i+j:Nat):Int) by lia];change dO (aGv 6 _ _) _ (lwQ K y C_House g z A m u v o l s [vT<|.int (i:Int),vT<|.int ((i+j:Nat):Int)]) _;have N:∀(fs:Q5),(fs.map λe=>Dx.str e.nm)=bX (nms fs):=λfs=>by unfold bX nms;rw[bH];rfl
 have a2:=J.le;have a3:=M.le;refine#[g,z,A,_,_,rfl,trivial,trivial,.inl #[i,i+j,p,q,rfl,rfl,D,G,Ag,V,λ_=>?_,λh=>absurd h `b]];rw[N];refine#[#[o,l,rfl],by show 2<=1000000;decide,?_];refine#[by lia,J.new,?_];refine#[m,u,v,_,_,rfl,trivial,trivial,.inl #[i,i+j,p',q',rfl,rfl,S,T,Bg,Ma,λ_=>?_,λh=>absurd h `b]];rw[N];refine#[#[o,s,rfl],by show 2<=1000000;decide,?_];refine#[by lia,M.new,?_];exact Au _ #[j+1,_,_,_,_,Y,by lia,J.put D G,M.put S T,rfl]
end
structure Fx(K:dN)(mg:mH)(nm:Str)(st:Stmt)(ps:Q3)(f:Addr)(fd:FuncData):Prop where
 F:Fun K nm nm st f fd
 b:Binds K fd ps []
 k:PySem.W.keepIn K (.ref f)=true
 m:mg nm=some (.ref f)
def Fx.cal(x:Fx K mg nm st ps f fd)(h:FnOk P w K mg base CX0 j f fd ps sp):Cal P w K mg base j nm ps sp:=#[f,fd,h,x.b,x.k,x.m]
def aZz(e:∀l ds Q,¬g l ds Q):FnOk P w K mg base CX0 j f fd ps<|spB g:=
 #[λi H Q E h=>by obtain⟨_,_,_,_,_,_,_,_,_,_,_,_,_,a,_⟩:=h;exact(e _ _ _ a).elim,λA b s H c q i Q E p o m hv h=>by obtain⟨_,_,_,_,_,_,_,_,_,_,_,_,_,a,_⟩:=h;exact(e _ _ _ a).elim]
def zZ(c:∀ds Q,¬g ds Q):FnOk P w K mg base CX0 j f fd ps<|spX g:=
 #[λi H Q E h=>by obtain⟨_,ds,e,_,_,h,_⟩:=h;exact absurd h<|c _ _,λA a s H b l i Q E _ _ _ _ h=>by obtain⟨_,ds,e,_,_,h,_⟩:=h;exact absurd h<|c _ _]
structure Mx(K:dN)(C:Addr)(m qual:Str)(st:Stmt)(ps:Q3)(f:Addr)(fd:FuncData):Prop where
 F:Fun K m qual st f fd
 b:Binds K fd ps []
 h:Meth K C m f
 c:Cls K C
def Mx.cal(M:Mx K C m qual st ps f fd)(h:FnOk P w K mg base CX0 j f fd ps sp):aFt P w K mg base j C m ps sp:=#[M.c,f,fd,M.h,h,M.b]
def aQq(e:∀l ds Q,¬g l ds Q):FnOk P w K mg base CX0 j f fd ps<|uV g:=
 #[λi H Q E h=>by obtain⟨_,_,_,h⟩:=h;obtain⟨_,_,_,_,_,_,_,_,_,_,_,_,_,a,_⟩:=h;exact(e _ _ _ a).elim,λA b s H c q i Q E p o m hv h=>by obtain⟨_,_,_,h⟩:=h;obtain⟨_,_,_,_,_,_,_,_,_,_,_,_,_,a,_⟩:=h;exact(e _ _ _ a).elim]
def Fx.calE(x:Fx K mg nm st ps f fd)(h:FnOk P w K mg base (CXe P w) j f fd ps sp):mR P w K mg base j nm ps sp:=#[f,fd,h,x.b,x.k,x.m]
def Mx.calE(M:Mx K C m qual st ps f fd)(h:FnOk P w K mg base (CXe P w) j f fd ps sp):rA P w K mg base j C m ps sp:=#[M.c,f,fd,M.h,h,M.b]
structure Consts(K:dN)(mg:mH):Prop where
 letters:∃t,mg "SMALL_LETTERS" = some (.str lets t)
 name:∃t,mg "LONGEST_NAME" = some (.int 8 t)
 wide:∃t,mg "WIDEST_NUMBER" = some (.int 8 t)
 mul:∃a,mg "MULTIPLES" = some (.ref a)/\∀H,SqT K H a [.int 1,.int 2,.int 4,.int 8]
 row:∃t,mg "LONGEST_ROW" = some (.int 20 t)
 fields:∃t,mg "MOST_FIELDS" = some (.int 8 t)
 choices:∃t,mg "MOST_CHOICES" = some (.int 6 t)
 deep:∃t,mg "DEEPEST" = some (.int 5 t)
section
def qD(k:Kd):1<=k.deep:=by cases k<;>simp only[Kd.deep]<;>lia
def bAd(d:Dx):1<=d.deep:=by cases d<;>simp only[Dx.deep]<;>lia
def aBn(b:Fx K mg "_law_kind" ij_ BE fKN dKN)(c:Fx K mg "_law_names" gw_ ["deck","many"] fLN dLN)(a:Fx K mg "_law_next" fy_ BF fNX dNX)(B:Blt mg):∀n,FnOk P w K mg base CX0 (n+2) fKN dKN BE (spB<|gKN n)
  | 0 => aZz fun l e Q h => by
      obtain⟨d,_,_,f,g,_⟩:=h
      omega
  |n+1=>aXv (j:=n) b.F (a.cal<|vR a.F) (c.cal<|aXs c.F (a.cal<|vR a.F) B) (b.cal<|aBn b c a B n) B
def aAd(a:Fx K mg "_law_room" fx_ AX fRM dRM)(b:Fx K mg "_law_up" pD AC fUP dUP)(B:Blt mg):∀n,FnOk P w K mg base CX0 (n+1) fRM dRM AX (spX<|gRM n)
  | 0 => zZ fun c Q h => by
      obtain⟨k,_,_,e,_⟩:=h;have:=qD k
      omega
  |n+1=>aXg (j:=n) a.F (a.cal<|aAd a b B n) (b.cal<|aWy b.F) B
def w9(b:Fx K mg "_law_value" gv_ AR fVA dVA)(a:Fx K mg "_law_next" fy_ BF fNX dNX)(B:Blt mg):∀n,FnOk P w K mg base CX0 (n+1) fVA dVA AR (uV<|gVA n)
  | 0 => aQq fun l e Q h => by
      obtain⟨c,_,_,_,f,_⟩:=h;have:=qD c
      omega
  |n+1=>aWx (j:=n) b.F (a.cal<|vR a.F) (b.cal<|w9 b a B n) B
def wZ(a:Fx K mg "copied" pI AB fCO dCO)(B:Blt mg):∀n,FnOk P w K mg base CX0 (n+1) fCO dCO AB (spX<|gCO n)
  | 0 => zZ fun b Q h => by
      obtain⟨d,_,_,c,_⟩:=h;have:=bAd d
      omega
  |n+1=>bDk (j:=n+1) a.F (a.cal<|wZ a B n) B
def aBt(a:Fx K mg "is_value" ik_ AN fIV dIV)(b:Fx K mg "is_whole" fz_ AB fIW dIW)(c:Fx K mg "is_row_value" ee_ AY fIRV dIRV)(e:Fx K mg "is_record_value" ct_ BD fIDV dIDV)(f:Fx K mg "is_choice_value" cu_ BI fICV dICV)
    (g:∃t,mg "BITS_OF_A_BYTE" = some (.int 8 t)) (B:Blt mg):∀n,FnOk P w K mg base CX0 (2*n+1) fIV dIV AN (spX<|gIV n)
  | 0 => zZ fun m Q h => by
      obtain⟨l,_,_,_,_,o,_⟩:=h;have:=qD l
      omega
  | n + 1 =>
      have r:=a.cal<|aBt a b c e f g B n;have i:=b.cal (P:=P) (w:=w)<|m_ b.F B
      aXw a.F i (c.cal<|aXy c.F r B) (e.cal<|aYb e.F r B) (f.cal<|aYc (j:=2*n) f.F i r B) g
def aAc(i:Fx K mg "room_of" jy_ AX fRO dRO)(l:Fx K mg "rooms_of" ii_ AL fRS dRS)(RR:Fx K mg "room_of_row" em_ ["kind","n"] fRR dRR)(f:Fx K mg "room_of_record" ca_ AL fRC dRC)(g:Fx K mg "room_of_choice" de_ AL fRH dRH)(m:Fx K mg "rounded_up" fn_ AC fRU dRU)(o:Fx K mg "step_of" jx_ ["room"] fSO dSO)(b:Fx K mg "chosen_at" gx_ ["multiple"] fCA dCA)(c:Fx K mg "greatest_multiple" cc_ AZ fGM dGM)(e:Fx K mg "places_behind" dq_ AZ fPB dPB)(B:Blt mg):∀n,FnOk P w K mg base CX0 (3*n+2) fRO dRO AX (spX<|gRO n)
  | 0 => zZ fun s Q h => by
      obtain⟨k,_,_,u,_⟩:=h;have:=qD k
      omega
  | n + 1 =>
      have r:=i.cal<|aAc i l RR f g m o b c e B n;have a:=m.cal (P:=P) (w:=w)<|aJm m.F;have p:=c.cal (P:=P) (w:=w)<|aJr c.F B;have q:=l.cal<|aJn l.F r
      aXf (j:=3*n+4) i.F ((RR.cal<|aXe RR.F r (o.cal<|aXb o.F a)<|by omega).mono<|by omega) (f.cal<|aXi f.F q p (e.cal<|aXl e.F a) a B<|by omega) (g.cal<|aXh g.F q p (b.cal<|aYn b.F a) a B<|by omega)
def aBl(g:Fx K mg "is_kind_within" dg_ AQ fKW dKW)(c:Fx K mg "are_kinds" gy_ AE fAK dAK)(b:Fx K mg "are_fields" fp_ AE fAF dAF)(f:Fx K mg "is_whole" fz_ AB fIW dIW)(m:Fx K mg "is_whole_up_to" df_ AW fWU dWU)(i:Fx K mg "is_list_up_to" dr_ BB fLU dLU)(e:Fx K mg "has_form" il_ AG fHF dHF)(l:Fx K mg "is_name" kc_ AB fNM dNM)(a:Consts K mg)(B:Blt mg):∀n,FnOk P w K mg base CX0 (3*n) fKW dKW AQ (spX<|gKW n)
  | 0 => zZ fun q Q h => by
      obtain⟨k,_,_,s,_⟩:=h;have:=qD k
      omega
  | n + 1 =>
      have r:=g.cal<|aBl g c b f m i e l a B n;have p:=f.cal (P:=P) (w:=w)<|m_ f.F B;have o:=c.cal<|aYs c.F r B
      aXu (j:=3*n) g.F p (m.cal<|aWw m.F p) (i.cal<|aXr i.F B) (e.cal<|aJq e.F B) (r.mono<|by omega) (o.mono<|by omega) (b.cal<|aYt (j:=3*n) b.F (l.cal<|aJp l.F B a.name a.letters) o B) a.wide a.row a.fields a.choices a.mul
end
abbrev zF:Option Bool×Bool:=(some false,false)
def left_top:PySem.W.LeftO PySem.Challenge.pw_laidfields_k42_whole_apart_and_steady (PySem.W.view PySem.Challenge.pw_laidfields_k42_whole_apart_and_steady [0,2,3,5,6,7,8,10,11,12,13,14,15,16,17,18,19,20,21,22,23,24,25,26,27,28,29,30,31,32,33,34,35,36,38,39,40,41,42,43,44,46,47,48,49,50,51,53,54,55,56,57,58,59,60,62,63,64,65,66,67,68,69,70,71,72,73,74,75,76,77,78]) [] (λs=>PySem.W.xlAt (PySem.W.view PySem.Challenge.pw_laidfields_k42_whole_apart_and_steady [0,2,3,5,6,7,8,10,11,12,13,14,15,16,17,18,19,20,21,22,23,24,25,26,27,28,29,30,31,32,33,34,35,36,38,39,40,41,42,43,44,46,47,48,49,50,51,53,54,55,56,57,58,59,60,62,63,64,65,66,67,68,69,70,71,72,73,74,75,76,77,78]) [] s&&PySem.W.recOk [] s) (exHook (seenF PySem.Challenge.pw_laidfields_k42_whole_apart_and_steady)<|seenV PySem.Challenge.pw_laidfields_k42_whole_apart_and_steady).obs (exHook (seenF PySem.Challenge.pw_laidfields_k42_whole_apart_and_steady)<|seenV PySem.Challenge.pw_laidfields_k42_whole_apart_and_steady).val 4000 true:=aEm `a (by kernel_rfl) (λs=>by kernel_rfl) aJl
def in_{b:Type}{f g:Nat->b}:∀{l:R8},l.map f=l.map g->∀i,i∈l->f i=g i:=λh i a=>List.map_inj_left.mp h i a
def Uc{b:Type}:Nat->(List b->Prop)->Prop
 | 0,P=>P []
 |n+1,P=>∀a,Uc n λl=>P (a::l)
def uc:∀{P:List c->Prop},Uc n P->∀us,us.length=n->P us:=by
 induction n with
 |zero =>
  intro P h us e;cases us with
  |nil=>exact h
  |cons a l=>cases e
 |succ n b =>
  intro P h us e;cases us with
  |nil=>cases e
  |cons a l=>exact b (h a) l<|Nat.succ.inj e
def jV(F:Fun K x a st f fd)(h:Uc ps.length λus=>BA x a st us<|ps.zip us):Binds K fd ps []:=F.binds λ_ _ _ _ _ _ us b=>uc h us b _ _ _ _ _ _
def fx(b:seenF PySem.Challenge.pw_laidfields_k42_whole_apart_and_steady K=seenV PySem.Challenge.pw_laidfields_k42_whole_apart_and_steady)(X:K.In h)(G:h.Ns mainGlobals mg)(i:Nat)(ps:Q3)(e:i∈[5,6,7,8,18,19,20,21,22,23,24,25,26,27,28,29,30,31,32,33,34,35,36,38,39,40,41,42,43,44,47,48,49,50,51,55,56,57,58,59,60,62,63,64,65,66,67,68,69,70,71,72,73,74,75,76,77,78]:=by decide)(c:Uc ps.length λus=>BA (fD `g) (fD `g) `g us (ps.zip us):=by(repeat intro _);rfl):∃f fd,Fx K mg (fD `g) `g ps f fd:=by obtain⟨f,d,a,F⟩:=aEe<|in_ (f:=λi=>vW K<|fD `g) (g:=λi=>wS `g) (congrArg (λx=>x.1) b) i e;exact#[f,d,F,jV F c,F.kp,PySem.W.mg_of X G a]
def aFn(F:Fun K "law" "law" yR f fd)(s:Shared)(v:Value):BindsTo s fd #[[v],[]] [("script",v)]:=by obtain⟨g,h,kV,a,i,e,c,ct,b,rfl,_⟩:=F.ex;exact .of_eq rfl
def all_mk{l:PySem.W.OpenLaw}(q:seenF PySem.Challenge.pw_laidfields_k42_whole_apart_and_steady K=seenV PySem.Challenge.pw_laidfields_k42_whole_apart_and_steady)(X:K.In h)(G:h.Ns mainGlobals mg)(Nd:mg "law" = some (.ref fa)) :
  ∃fd:FuncData,(∀(s:Shared) (v:Value),BindsTo s fd #[[v],[]] [("script",v)])/\∀base:Heap,K.In base->base.Ns mainGlobals mg->FnOk l.prog w K mg base CX0 30 fa fd BK (spLaw K):=by
 have hn:bltNs.map (zA K)=List.replicate 17 true:=congrArg (λx=>x.2.1) q;have hc:=in_ (f:=λi=>vU K<|fD `g) (g:=λi=>bFy `g) (l:=[10,11,12,14,15,16,17,46,53])<|congrArg (λx=>x.2.2.1) q;have ht:=in_ (f:=λi=>vV K<|fD `g) (g:=λi=>bFz `g) (l:=[13])<|congrArg (λx=>x.2.2.2.1) q;obtain⟨_,d5,Bz⟩:=fx q X G 5 AM;obtain⟨_,d6,Bt⟩:=fx q X G 6 AH;obtain⟨_,d7,B0⟩:=fx q X G 7 AH;obtain⟨_,d8,Bs⟩:=fx q X G 8 AM;obtain⟨_,l3,Bm⟩:=fx q X G 18 AB;obtain⟨_,l4,Cj⟩:=fx q X G 19 AW;obtain⟨_,l5,Cw⟩:=fx q X G 20 BB;obtain⟨_,l6,Ck⟩:=fx q X G 21 AB;obtain⟨_,l7,B4⟩:=fx q X G 22 AG;obtain⟨_,m0,Dh⟩:=fx q X G 23 AB;obtain⟨_,m1,Ba⟩:=fx q X G 24 AQ;obtain⟨_,m2,D2⟩:=fx q X G 25 AE;obtain⟨_,m3,Dl⟩:=fx q X G 26 AE;obtain⟨_,n0,Bl⟩:=fx q X G 27 AC;obtain⟨_,n1,Dg⟩:=fx q X G 28 AX;obtain⟨_,n2,B3⟩:=fx q X G 29 AL;obtain⟨_,n3,Am⟩:=fx q X G 30 AZ;obtain⟨_,n4,Es⟩:=fx q X G 31 ["room"];obtain⟨_,n5,Dd⟩:=fx q X G 32 ["kind","n"];obtain⟨_,n7,Cg⟩:=fx q X G 33 AL;obtain⟨_,n8,Cv⟩:=fx q X G 34 AZ;obtain⟨_,o0,Ci⟩:=fx q X G 35 AL;obtain⟨_,o1,D1⟩:=fx q X G 36 ["multiple"];obtain⟨_,o2,A9⟩:=fx q X G 38 ["kinds","lying"];obtain⟨_,o3,Br⟩:=fx q X G 39 BC;obtain⟨_,o4,Bu⟩:=fx q X G 40 BO;obtain⟨_,o5,Bc⟩:=fx q X G 41 ["rooms","lying"];obtain⟨_,p0,B1⟩:=fx q X G 42 AU;obtain⟨_,p1,Aw⟩:=fx q X G 43 ["ways","how_many"];obtain⟨_,p2,B7⟩:=fx q X G 44 BL;obtain⟨_,p3,C4⟩:=fx q X G 47 AN;obtain⟨_,p4,C6⟩:=fx q X G 48 AY;obtain⟨_,p5,B5⟩:=fx q X G 49 BD;obtain⟨_,p6,B6⟩:=fx q X G 50 BI;obtain⟨_,q0,B8⟩:=fx q X G 51 AB;obtain⟨_,q1,Ax⟩:=fx q X G 55 ["fields"];obtain⟨_,q2,Bo⟩:=fx q X G 56 ["there","changes"];obtain⟨_,q3,At⟩:=fx q X G 57 AI;obtain⟨_,q4,Bb⟩:=fx q X G 58 AJ;obtain⟨_,q5,Cm⟩:=fx q X G 59 AI;obtain⟨_,q6,C5⟩:=fx q X G 60 AJ;obtain⟨_,q7,Bv⟩:=fx q X G 62 ["script","k"];obtain⟨_,q8,Cn⟩:=fx q X G 63 ["cell","k"];obtain⟨_,r0,Ct⟩:=fx q X G 64 ["cell","many"];obtain⟨_,r1,A2⟩:=fx q X G 65 BF;obtain⟨_,r2,Dm⟩:=fx q X G 66 ["deck","many"];obtain⟨_,r3,Cs⟩:=fx q X G 67 BE;obtain⟨_,r4,Et⟩:=fx q X G 68 AC;obtain⟨_,r5,Cp⟩:=fx q X G 69 AX;obtain⟨_,r7,Bw⟩:=fx q X G 70 AT;obtain⟨_,r8,Ca⟩:=fx q X G 71 AR;obtain⟨_,s0,Cq⟩:=fx q X G 72 [];obtain⟨_,s1,Cr⟩:=fx q X G 73 BN;obtain⟨_,s2,Cc⟩:=fx q X G 74 ["cell"];obtain⟨_,s3,Cb⟩:=fx q X G 75 BK;obtain⟨_,s4,Be⟩:=fx q X G 76 BG;obtain⟨_,s5,Ay⟩:=fx q X G 77 BH;obtain⟨_,l1,Ff⟩:=fx q X G 78 BK;have B:Blt mg:=#[PySem.W.mg_none_of X G<|zW hn 0 `a `t,PySem.W.mg_none_of X G<|zW hn 1 `a `t,PySem.W.mg_none_of X G<|zW hn 2 `a `t,PySem.W.mg_none_of X G<|zW hn 3 `a `t,PySem.W.mg_none_of X G<|zW hn 4 `a `t,PySem.W.mg_none_of X G<|zW hn 5 `a `t,PySem.W.mg_none_of X G<|zW hn 6 `a `t,PySem.W.mg_none_of X G<|zW hn 7 `a `t,PySem.W.mg_none_of X G<|zW hn 8 `a `t,PySem.W.mg_none_of X G<|zW hn 9 `a `t,PySem.W.mg_none_of X G<|zW hn 10 `a `t,PySem.W.mg_none_of X G<|zW hn 11 `a `t,PySem.W.mg_none_of X G<|zW hn 12 `a `t,PySem.W.mg_none_of X G<|zW hn 13 `a `t,PySem.W.mg_none_of X G<|zW hn 14 `a `t,PySem.W.mg_none_of X G<|zW hn 15 `a `t,PySem.W.mg_none_of X G<|zW hn 16 `a `t];obtain⟨_,As,e9⟩:=cm_ (x:=.str lets)<|hc 10 `a;obtain⟨_,rfl⟩:=e9;obtain⟨_,A1,f1⟩:=cm_ (x:=.int 8)<|hc 11 `a;obtain⟨_,rfl⟩:=f1;obtain⟨_,Ar,f0⟩:=cm_ (x:=.int 8)<|hc 12 `a;obtain⟨_,rfl⟩:=f0;obtain⟨_,A8,f4⟩:=cm_ (x:=.int 20)<|hc 14 `a;obtain⟨_,rfl⟩:=f4;obtain⟨_,A7,f5⟩:=cm_ (x:=.int 8)<|hc 15 `a;obtain⟨_,rfl⟩:=f5;obtain⟨_,A0,f2⟩:=cm_ (x:=.int 6)<|hc 16 `a;obtain⟨_,rfl⟩:=f2;obtain⟨_,Cl,g4⟩:=cm_ (x:=.int 5)<|hc 17 `a;obtain⟨_,rfl⟩:=g4;obtain⟨_,Ai,e2⟩:=cm_ (x:=.int 8)<|hc 46 `a;obtain⟨_,rfl⟩:=e2;obtain⟨_,Bn,g1⟩:=cm_ (x:=.int 5)<|hc 53 `a;obtain⟨_,rfl⟩:=g1;obtain⟨_,_,_,_,_,k6,l0,h1⟩:=aEd (vs:=[.int 1,.int 2,.int 4,.int 8])<|ht 13 `a;have B9:Consts K mg:=#[#[_,PySem.W.mg_of X G As],#[_,PySem.W.mg_of X G A1],#[_,PySem.W.mg_of X G Ar],#[_,PySem.W.mg_of X G k6,λH=>.inr #[_,_,_,l0,rfl,rfl,(by have:=h1.length;simp only[aL,bE,Array.length_toList]at this;rw[<-this];decide),h1]],#[_,PySem.W.mg_of X G A8],#[_,PySem.W.mg_of X G A7],#[_,PySem.W.mg_of X G A0],#[_,PySem.W.mg_of X G Cl]];have hx:=congrArg (λx=>x.2.2.2.2.1) q;dsimp only[seenF,seenV]at hx;rw[aPj]at hx;simp only[bG,dE,List.cons.injEq,and_true]at hx;have Eu:=hx;obtain⟨Ad,Eh,Je,Jb,Jd⟩:=bAm Eu X G;have d3:∃t,mg "BITS_OF_A_BYTE" = some (.int 8 t):=#[_,PySem.W.mg_of X G Ai];have g0:∃t,mg "MOST_ADDED" = some (.int 5 t):=#[_,PySem.W.mg_of X G Bn];have hO:=congrArg (λx=>x.2.2.2.2.2) q;dsimp only[seenF,seenV]at hO;simp only[List.cons.injEq,and_true]at hO;have Fy:=hO;obtain⟨C_House,g5,Ae,h0,g6,g2,u,e7⟩:=aJt Fy;have Dv:mg "House" = some (.ref C_House):=PySem.W.mg_of X G g5;have T:NoAttr K C_House "lying":=e7 "lying" `q;have c:NoAttr K C_House "makes":=e7 "makes" `q;have F:NoAttr K C_House "multiple":=e7 "multiple" `q;simp only[bG,dE,List.cons.injEq,and_true]at g2;obtain⟨c0,a4,Y,N,a3,a5,e1,e0⟩:=g2;obtain⟨c3,c2,b4,b5,I⟩:=ce_ c0<|u ("__init__","House.__init__") `q;have c1:Binds K c2 BJ []:=jV (st:=l_) I (by(repeat intro _);rfl);have g3:Mk K C_House c3:=#[h0,b4,b5,g6];obtain⟨b2,D,n,a1,o⟩:=ce_ a4<|u ("next_make","House.next_make") `q;have a7:Binds K D AV []:=jV (st:=eo_) o (by(repeat intro _);rfl);have A4:Mx K C_House "next_make" "House.next_make" eo_ AV b2 D:=#[o,a7,#[n,a1,o.kp],Ae];obtain⟨d,A,U,W,b⟩:=ce_ Y<|u ("begin_make","House.begin_make") `q;have Z:Binds K A AO []:=jV (st:=ea_) b (by(repeat intro _);rfl);have Az:Mx K C_House "begin_make" "House.begin_make" ea_ AO d A:=#[b,Z,#[U,W,b.kp],Ae];obtain⟨S,r,J,M,a⟩:=ce_ N<|u ("how_many_makes","House.how_many_makes") `q;have O:Binds K r ["self"] []:=jV (st:=ev_) a (by(repeat intro _);rfl);have Do:Mx K C_House "how_many_makes" "House.how_many_makes" ev_ ["self"] S r:=#[a,O,#[J,M,a.kp],Ae];obtain⟨b1,C,k,a0,m⟩:=ce_ a3<|u ("fields_of","House.fields_of") `q;have a6:Binds K C AA []:=jV (st:=ep_) m (by(repeat intro _);rfl);have A5:Mx K C_House "fields_of" "House.fields_of" ep_ AA b1 C:=#[m,a6,#[k,a0,m.kp],Ae];obtain⟨b3,E,V,a2,p⟩:=ce_ a5<|u ("places_of","House.places_of") `q;have b0:Binds K E AA []:=jV (st:=en_) p (by(repeat intro _);rfl);have A3:Mx K C_House "places_of" "House.places_of" en_ AA b3 E:=#[p,b0,#[V,a2,p.kp],Ae];obtain⟨e6,R,d0,d2,z⟩:=ce_ e1<|u ("room_at","House.room_at") `q;have e4:Binds K R AA []:=jV (st:=sE) z (by(repeat intro _);rfl);have E7:Mx K C_House "room_at" "House.room_at" sE AA e6 R:=#[z,e4,#[d0,d2,z.kp],Ae];obtain⟨e5,Q,c4,d1,y⟩:=ce_ e0<|u ("make_at","House.make_at") `q;have e3:Binds K Q AA []:=jV (st:=hm_) y (by(repeat intro _);rfl);have Bp:Mx K C_House "make_at" "House.make_at" hm_ AA e5 Q:=#[y,e3,#[c4,d1,y.kp],Ae];have e:=Nd.symm.trans Ff.m;cases e;refine#[l1,λs v=>aFn Ff.F s v,λbase l2 _=>?_];exact have ON:=Eh.own l2
  have j1:=Bm.cal (P:=l.prog) (w:=w) (base:=base)<|m_ Bm.F B;have P8:=Ck.cal (P:=l.prog) (w:=w) (base:=base)<|aJp Ck.F B B9.name B9.letters;have Qb:=B4.cal (P:=l.prog) (w:=w) (base:=base)<|aJq B4.F B;have i2:=Dh.cal<|aYa Dh.F (Ba.cal (P:=l.prog) (w:=w) (base:=base)<|aBl Ba D2 Dl Bm Cj Cw B4 Ck B9 B 5) B9.deep;have i3:=C4.cal (P:=l.prog) (w:=w) (base:=base)<|aBt C4 Bm C6 B5 B6 d3 B 3;have h4:=B8.cal (P:=l.prog) (w:=w) (base:=base)<|wZ B8 B 9;have P6:=B3.cal<|aJn B3.F<|Dg.cal (P:=l.prog) (w:=w) (base:=base)<|aAc Dg B3 Dd Cg Ci Bl Es D1 Am Cv B 3;have P5:=Bl.cal (P:=l.prog) (w:=w) (base:=base)<|aJm Bl.F;have h9:=Am.cal (P:=l.prog) (w:=w) (base:=base)<|aJr Am.F B;have P4:=Br.cal (P:=l.prog) (w:=w) (base:=base)<|aXd Br.F B;have Qc:=Bu.cal (P:=l.prog) (w:=w) (base:=base)<|aYe Bu.F B;have h5:=Bc.cal<|aYl Bc.F (B1.cal<|aYk B1.F (B7.cal<|aYg B7.F P5) B) (Aw.cal<|aYq Aw.F B) B;have k3:=A9.cal<|aXk A9.F P6 h5 P4 Qc `a;have Qa:=C5.cal (P:=l.prog) (w:=w) (base:=base)<|aXx C5.F;have k1:=Cm.calE<|aXo (j:=16) Cm.F P8 Qa i2 (i3.mono `a) (h4.mono `a) `a ON;have h8:=At.calE<|aYh (j:=16) At.F Qb (Bb.calE<|aYf Bb.F P8 Qa ON) k1 `a ON;have h6:=Bo.calE<|aYi (j:=18) Bo.F Qb h8 `a B g0 ON;have Qe:=Az.cal<|aYo (j:=19) (C_House:=C_House) Az.F Ae T F c h6 (P6.mono `a) (k3.mono `a) P4 h9 Qc P5 `a B;have k2:aFt l.prog w K mg base 23 C_House "next_make" AV<|spO<|aZw C_House:=A4.cal<|(aPc A4.F Ae c Qe B).mono `a;have CK:bAw l.prog w K mg base 21 C_House BJ<|spO<|gIN C_House:=#[_,_,g3,aXz I Ae c T F Qe (Ax.calE<|aYm Ax.F B ON) `a,c1];have P9:=Bp.calE<|aXq (C_House:=C_House) Bp.F Ae c j1 B ON;have P7:=A3.calE<|aXj A3.F P9 B;have N7:=Bz.calE<|aPd Bz.F P7 (Bt.cal<|aXm Bt.F)<|B0.cal<|aXn B0.F;have k4:=Bs.calE<|aXc Bs.F N7 ON;have Qd:=Ct.cal<|aYj Ct.F (Cn.cal (P:=l.prog) (w:=w) (base:=base)<|aXa Cn.F) B;have N6:=A2.cal (P:=l.prog) (w:=w) (base:=base)<|vR A2.F;have Kt:=Cq.cal (P:=l.prog) (w:=w) (base:=base)<|aJo Cq.F;have Qg:=Bw.cal<|aYr (j:=4) Bw.F N6 (Cs.cal<|aBn Cs Dm A2 B 3)<|(Cp.cal<|aAd Cp Et B 3).mono `a;have P3:=Ca.cal (P:=l.prog) (w:=w) (base:=base)<|w9 Ca A2 B 3;have k0:=Cr.cal<|aXp (j:=6) Cr.F N6 Kt Qg (P3.mono `a) `a B;have h2:=Cc.cal<|aYp (j:=21) Cc.F Qd N6 Kt (Qg.mono `a) (P3.mono `a) CK Dv `a B;have h3:=B8.cal (P:=l.prog) (w:=w) (base:=base)<|wZ B8 B 10;have h7:=A5.calE<|aPf (C_House:=C_House) (L:=11) A5.F P9 h3 `a;have k5:=Be.cal<|aWz (L:=11) Be.F N7 P7 h7 B `a;have i1:=Ay.cal<|aYd (L:=13) Ay.F N7 k5 B `a;have j2:=Cb.cal<|aXt (L:=23) Cb.F (Bv.cal<|aPg Bv.F B) Qd h2 (k0.mono `a) k2 B `a
  (aKi<|aPe (L:=24) Ff.F j2 k4 (i1.mono `a) B `a).mono `a
def lawRec:DefRec:=match yR with
 | .FunctionDef n a b _ _ _ sc _ _ pos=>#[n,a,b,sc,pos]
 |_=>#[#[[].toArray],#[[],[],none,[],[],none,[]],[],aP yR,#[0,0,0,0]]
end Lf
open PySem PySem.W PyProof.Rows
set_option maxHeartbeats 0 in
theorem PySem.Challenge.cw_laidfields_k42_whole_apart_and_steady_holds : PySem.Challenge.rw_laidfields_k42_whole_apart_and_steady.Holds := by
 w_on;o_law
 refine holds_open (d := Lf.lawRec) (kwd := []) (XP := XL (PySem.W.view PySem.Challenge.pw_laidfields_k42_whole_apart_and_steady [0, 2, 3, 5, 6, 7, 8, 10, 11, 12, 13, 14, 15, 16, 17, 18, 19, 20, 21, 22, 23, 24, 25, 26, 27, 28, 29, 30, 31, 32, 33, 34, 35, 36, 38, 39, 40, 41, 42, 43, 44, 46, 47, 48, 49, 50, 51, 53, 54, 55, 56, 57, 58, 59, 60, 62, 63, 64, 65, 66, 67, 68, 69, 70, 71, 72, 73, 74, 75, 76, 77, 78]) []) Lf.left_top (Hook.of<|L2.exHook (Lf.seenF PySem.Challenge.pw_laidfields_k42_whole_apart_and_steady)<|Lf.seenV PySem.Challenge.pw_laidfields_k42_whole_apart_and_steady) (Hook.keeps<|L2.exHook (Lf.seenF PySem.Challenge.pw_laidfields_k42_whole_apart_and_steady)<|Lf.seenV PySem.Challenge.pw_laidfields_k42_whole_apart_and_steady) (fun s e => xl_of s (gY.mp e).1) XL.keeps (by kernel_rfl) (by kernel_rfl) (by kernel_rfl) (fun s e => recFacts_of (gY.mp e).2) (by rfl) (by assumption) (by decide +kernel) #[rfl, rfl, rfl, rfl, rfl, by decide +kernel] ?hw ?hc
 case hw=>w_witness2
 case hc=>exact L2.walk_ex (l:=PySem.Challenge.rw_laidfields_k42_whole_apart_and_steady) (n:=63) (k:=30) (x:= "script") (CX:=L2.CX0) (sp:=Lf.spLaw) rfl (by decide) (by rfl) (by first | exact#[rfl,by decide,by decide] | exact#[rfl,by decide,by decide,rfl]) (λw K mg j h c X G b=>Lf.all_mk c X G b) (λK H a i g _ f=>#[a,i,rfl,f,g,λ_=>rfl])<|λ_ _ _ _ z=>z
#print axioms PySem.Challenge.cw_laidfields_k42_whole_apart_and_steady_holds

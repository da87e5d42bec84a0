import PyProof.Rows.All
import PyProof.ReprRoads
import PyProof.Rows.CatFin
import PyProof.Rows.StrClip
import PyProof.Rows.StrPartPair
import PyProof.StrLawsTight
import PyProof.AutoRange
import PyProof.RangeFor
import PyProof.StrLawsChain
import PyProof.Rows.StrSplitCount
import PyProof.Rows.StrMul
import Wide.All
import OpenK.AllK
import Wide.FinOn
import PyProof.EqAt
import PyProof.EqKinds
import PyProof.NeKinds
import PyProof.TupleCall
import PyProof.StrWalks
import PyProof.ConsumeWalk
import PyProof.EnumMake
import PyProof.EnumFor
import PyProof.ListNew
import PyProof.ListRange
import PyProof.Rows.SortWalk
import PyProof.Rows.Range3
import PyProof.Rows.ChunkEnd
import PyProof.Rows.ChunkLeaf
import PyProof.Rows.StrInSeq
import Wide.Txt
import PyProof.DictIter
import PyProof.DictWalks
import PyProof.AttrMissHeap
import KE.KDictOf
import KE.KSortTup
import KE.KDictList
import KE.KRevIter
import PyProof.Rows.Own
import PyProof.ExcBaseAll.ValueError
import PyProof.RulesAs
import PyProof.NsDelKeeps
import PyProof.ExcClass3
import PyProof.ExcArgsOwn
import KE.KIsAll
import KE.IntBitsLaws
import PyProof.Rows.StrRev
import PyProof.PureStr
import PyProof.ToksMono
import PyProof.MeetsStr3
import PyProof.StrCalls6
import KE.KDictSum
import KE.KIntText
import KE.KEqDict
import PyProof.Rows.SortStr
import PyProof.Rows.SortShellK
import PyProof.Rows.StrKeys3
import Lean
import PySem.Challenge.RW_laidfields_k41_steady_names
set_option Elab.async false
set_option hygiene false
set_option compiler.extract_closed false
set_option bootstrap.genMatcherCode false
set_option genSizeOf false
set_option genInjectivity false
set_option backward.eqns.nonrecursive false
set_option linter.all false
set_option maxRecDepth 100000
set_option maxHeartbeats 16000000
namespace Lean
def zD(s:Syntax):=if s[0][4].getNumArgs==0&&[`definition,`abbrev,`instance].any λk=>s[1].isOfKind (`Lean.Parser.Command++k) then s.setArg 0 (s[0].setArg 4 (mkNullNode #[mkNode `Lean.Parser.Command.noncomputable #[mkAtom "noncomputable"]])) else .missing
def zE(s t:Syntax):MacroM Syntax:=if t.getArgs.any λs=>(zD s).isMissing then Macro.throwUnsupported else return s
end Lean
local macro_rules(kind:=Lean.Parser.Command.declaration)|s=>Lean.zE (Lean.zD s) (Lean.mkNullNode #[s])
local macro_rules(kind:=Lean.Parser.Command.mutual)|s=>Lean.zE (s.setArg 1 (Lean.mkNullNode (s[1].getArgs.map Lean.zD))) s[1]
abbrev AA:List PySem.Str:=["thing"]
abbrev AB:List PySem.Str:=["number","m"]
abbrev AC:List PySem.Str:=["self","make"]
abbrev AD:List PySem.Str:=["house","a","b"]
abbrev AE:List PySem.Str:=["things","depth"]
abbrev AG:List PySem.Str:=["self","there","changes"]
abbrev AH:List PySem.Str:=["thing","word","length"]
abbrev AI:List PySem.Str:=["places","others"]
abbrev AJ:List PySem.Str:=["fields","change"]
abbrev AL:List PySem.Str:=["fields","name"]
abbrev AM:List PySem.Str:=["self","changes"]
abbrev AN:List PySem.Str:=["kinds"]
abbrev AO:List PySem.Str:=["kind","thing"]
abbrev AQ:List PySem.Str:=["thing","depth"]
abbrev AR:List PySem.Str:=["kind","deck"]
abbrev AS:List PySem.Str:=["deck","now","known","changes","most","turn","name","here","kind"]
abbrev AT:List PySem.Str:=["deck","deep","most"]
abbrev AU:List PySem.Str:=["group","ways","rooms","lying"]
abbrev AV:List PySem.Str:=["house","makes","a","b"]
abbrev AW:List PySem.Str:=["thing","greatest"]
abbrev AX:List PySem.Str:=["kind"]
abbrev AY:List PySem.Str:=["kind","n","thing"]
abbrev AZ:List PySem.Str:=["found","due"]
abbrev BB:List PySem.Str:=["rooms"]
abbrev BC:List PySem.Str:=["thing","longest"]
abbrev BD:List PySem.Str:=["deck","now","known"]
abbrev BE:List PySem.Str:=["rooms","places"]
abbrev BF:List PySem.Str:=["fields","thing"]
abbrev BG:List PySem.Str:=["deck","deep"]
abbrev BH:List PySem.Str:=["deck"]
abbrev BI:List PySem.Str:=["kinds","thing"]
abbrev BJ:List PySem.Str:=["self","fields"]
abbrev BK:List PySem.Str:=["begin","room","lying"]
abbrev BL:List PySem.Str:=["there","changes"]
abbrev BM:List PySem.Str:=["house","changes"]
abbrev BN:List PySem.Str:=["cell","many"]
abbrev BO:List PySem.Str:=["script","k"]
abbrev BP:List PySem.Str:=["stretches"]
abbrev U6(x:PySem.Str):Prop:=(x==("__classdict__":PySem.Str))=false
abbrev U5(x:PySem.Str):Prop:=(x==("__debug__":PySem.Str))=false
abbrev T8:=Array PySem.Value
abbrev T7:=Option Int
abbrev T6:=List PySem.Expr
abbrev T4:=List PySem.Addr
abbrev T3:=List Nat
abbrev S8:=List PySem.Value
abbrev S7:=List Int
abbrev S5:=List<|Int×Int
abbrev S4:=List PySem.Str
abbrev dN:=PySem.W.Frag
abbrev mI:=PySem.Str->Option PySem.Value
variable{P:PySem.Program}{w:PySem.World}{K:dN}{mg:mI}{base:PySem.Heap}{fd:PySem.FuncData}
abbrev dzT:=@decide_eq_true
abbrev dzF:=@decide_eq_false
abbrev ozI:=@Option.some.inj
abbrev nzL:=@Nat.le_trans
abbrev gM:=List<|PySem.Addr×PySem.Obj
abbrev hX:=PySem.Value->PySem.Shared->Prop
section
open PySem PySem.Spec PyProof.Rows
abbrev aA:=@List.length_map
abbrev aB:=@List.mem_cons_self
abbrev aC:=@List.mem_cons_of_mem
abbrev aD:=@Heap.get?_push_of_some
abbrev aE:=@List.mem_cons
abbrev aF:=@List.mem_singleton
abbrev aG:=@List.getElem?_eq_getElem
abbrev aI:=@List.length_append
abbrev aJ:=@List.mem_append_right
abbrev aK:=@List.length_cons
abbrev aL:=@List.getElem?_eq_some_iff
abbrev aM:=@List.mem_append_left
abbrev aO:=@Nat.le_refl
abbrev aP:=@List.append_nil
abbrev aR:=@List.size_toArray
abbrev aS:=@Heap.lt_size
abbrev aU:=@List.getD_eq_getElem?_getD
abbrev aV:=@Nat.lt_of_lt_of_le
abbrev aW:=@Heap.get?_push_size
abbrev aX:=@List.mem_append
abbrev aY:=@List.map_append
abbrev aZ:=@List.mem_map
abbrev bA:=@List.mem_of_getElem?
abbrev bC:=@Heap.get?_update_other
abbrev bE:=@List.length_nil
abbrev bF:=@Nat.ne_of_lt
abbrev bG:=@List.not_mem_nil
abbrev bH:=@Bool.false_ne_true
abbrev bJ:=@List.length_set
abbrev bK:=@List.getElem?_map
abbrev bL:=@List.map_map
abbrev bM:=@Nat.zero_le
abbrev bN:=@List.append_assoc
abbrev bO:=@List.lookup_cons
abbrev bP:=@List.length_replicate
abbrev bQ:=@List.map_cons
abbrev bR:=@Option.bind_eq_some_iff
abbrev bS:=@List.nodup_append
abbrev bT:=@Int.emod_nonneg
abbrev bU:=@Int.emod_lt_of_pos
abbrev bV:=@List.length_range
abbrev bW:=@List.nodup_cons
abbrev bX:=@List.getElem?_append_right
abbrev bZ:=@List.nil_append
abbrev cB:=@Int.mul_le_mul_of_nonneg_right
abbrev cF:=@Heap.get?_update_self
abbrev cH:=@Nat.le_of_lt_succ
abbrev cI:=@List.getElem?_set_ne
abbrev cJ:=@Heap.size_push
abbrev cK:=@Option.isSome_iff_exists
abbrev cL:=@List.set_eq_of_length_le
abbrev cM:=@Bool.and_eq_true
abbrev cN:=@PyProof.Rows.callWith_type1
abbrev cR:=@List.mem_range
abbrev cT:=@List.filter_append
abbrev cU:=@List.mem_filter
abbrev cW:=@List.filter_eq_nil_iff
abbrev cY:=@List.getElem?_zip_eq_some
abbrev cZ:=@List.getElem?_append_left
abbrev dB:=@List.length_filter_le
abbrev dD:=@List.length_zip
abbrev dF:=@Nat.le_add_right
abbrev dG:=@List.mem_flatMap
abbrev dH:=@List.cons_append
abbrev dM:=@Nat.lt_irrefl
abbrev dO:=@Option.map_eq_some_iff
abbrev eF:=@Nat.zero_testBit
abbrev eI:=@Nat.lt_of_lt_of_eq
abbrev eJ:=@Nat.le_of_not_lt
abbrev eK:=@List.perm_middle
abbrev eQ:=@List.getElem?_of_mem
abbrev eU:=@Nat.lt_succ_of_le
abbrev eV:=@Nat.le_of_succ_le
abbrev eW:=@Nat.two_pow_pos
abbrev eX:=@List.replicate_succ
abbrev eY:=@List.map_eq_nil_iff
abbrev fC:=@List.map_nil
abbrev fD:=@List.getElem?_set_self
abbrev fF:=@Nat.le_max_right
abbrev fG:=@List.length_take
abbrev fL:=@List.perm_append_comm
abbrev fM:=@List.getElem?_eq_none
abbrev fT:=@Nat.le_max_left
abbrev fU:=@List.find?_cons
abbrev fV:=@Bool.eq_iff_iff
abbrev fY:=@Nat.ne_of_gt
abbrev fZ:=@Nat.lt_succ_of_lt
abbrev gA:=@Nat.lt_of_succ_lt
abbrev gB:=@Nat.add_le_add_right
abbrev gC:=@Int.toNat_natCast
abbrev gD:=@Bool.and_eq_true_iff
abbrev gK:=@List.filterMap_cons
abbrev gN:=@List.filter_cons
abbrev gR:=@Int.zero_add
abbrev gS:=@Bool.false_eq_true
abbrev gW:=@List.lookup_cons_self
abbrev iA:=@List.nodup_nil
abbrev iB:=@Int.lt_of_add_one_le
abbrev iI:=@Nat.sub_self
abbrev iJ:=@Nat.le_of_lt
abbrev iK:=@List.length_drop
abbrev iL:=@Heap.size_update
abbrev iN:=@List.map_congr_left
abbrev iO:=@List.getElem?_range
abbrev iP:=@List.flatMap_append
abbrev iZ:=@List.getElem?_replicate
abbrev jA:=@Int.le_refl
abbrev jE:=@Nat.lt_trans
abbrev jF:=@Nat.le_add_right_of_le
abbrev jG:=@Int.le_trans
abbrev jL:=@PyProof.Rows.slot_tuple_getitem
abbrev jQ:=@List.length_singleton
end
namespace L2
open PySem PySem.Spec PyProof.Rows
set_option genInjectivity true in
inductive V where
 |non | bl (b:Bool) | int (i:Int) | str (x:Str) | byt (b:Array UInt8) | flt (b:UInt64) | ref (a:Addr) | ty (n:String)
 deriving DecidableEq
abbrev T5:=Option V
def aNp:Value->T5
 | .none=>some .non
 | .bool b=>some (.bl b)
 | .int i _=>some (.int i)
 | .str x _=>some (.str x)
 | .bytes b _=>some (.byt b)
 | .float b _=>some (.flt b)
 | .ref a=>some (.ref a)
 | .type n=>some (.ty n)
 |_=>none
def eZ(s:Stmt)(j:Nat):Stmt:=match s with
 | .ClassDef _ _ _ body _ _ _ _ _ _ _=>body.getD j (.Pass ⟨0,0,0,0⟩)
 |_=>.Pass ⟨0,0,0,0⟩
def mG(s:Stmt):Arguments:=match s with
 | .FunctionDef _ a _ _ _ _ _ _ _ _=>a
 |_=>{ posonlyargs:=[],args:=[],vararg:=none,kwonlyargs:=[],kw_defaults:=[],kwarg:=none,defaults:=[] }
def fB(s:Stmt):List Stmt:=match s with
 | .FunctionDef _ _ b _ _ _ _ _ _ _=>b
 |_=>[]
def aQ(s:Stmt):Scope:=match s with
 | .FunctionDef _ _ _ _ _ _ sc _ _ _=>sc
 |_=>{ kind:=.function,names:=[],isGenerator:=false,isCoroutine:=false }
end L2
namespace L2
open PySem PySem.W PySem.Spec PyProof.Rows PySem.Calls
def aSw(h:Heap):Frag:=(List.range h.objs.size).filterMap λa=>(h.get? a).map λo=>(a,o)
noncomputable def onceSeen (h:(String->Option Builtin)->Program->World->Nat->Option Value->Nat->Shared->Thread->Option Shared) (g:String->Option Builtin) (b:List Stmt->S4) {e:Type} (os:S4->Shared->e) (p:Program) (N:Nat) {c:Type} (f:Frag->c) (w:World) (o:OsState):Option<|Bool×e×c:=
 (h g p w 11 (some<|.ref 6) N ⟨boot_heap w.params,Array.mk [],boot_drawn,boot_toks,o⟩<|topStub p).map fun a =>
  (staticsOk (b p.main.body) (boot_heap w.params) a.heap&&namesBound p a.heap&&gensDone a&&laidKept (boot_heap w.params) a.heap,os (b p.main.body) a,f<|aSw a.heap)
def fN(p:Program)(i:Nat):Stmt:=p.main.body.getD i<|.Pass ⟨0,0,0,0⟩
def fA(s:Stmt):Str:=match s with
 | .FunctionDef n ..=>n
 | .Assign [.Name n _] _ _=>n
 |_=>⟨#[]⟩
abbrev FO:=Option<|(Str×Str×Arguments×FuncBody×Scope)×(Addr×List (Str×Addr)×Value×Addr)×Bool
def wV(K:Frag)(n:Str):FO:=match nsIn K mainGlobals n with
 |some (some<|.ref f)=>(match K.lookup f with
  |some ⟨_,_,.func fd,_⟩=>some ((fd.name,fd.qualname,fd.params,fd.body,fd.scope),(fd.globals,fd.closure,fd.defaults,fd.builtins),codeIn K fd.code n)
  |_=>none)
 |_=>none
def xW(s:Stmt):FO:=some ((fA s,fA s,mG s,.stmts<|fB s,aQ s),(mainGlobals,[],.none,builtinsNs),true)
def qN(K:Frag)(n:Str):Bool:=match nsIn K mainGlobals n with
 |some none=>true
 |_=>false
def wS(K:Frag)(n:Str):T5:=match nsIn K mainGlobals n with
 |some (some v)=>aNp v
 |_=>none
def wU(K:Frag)(n:Str):Option<|List T5:=match nsIn K mainGlobals n with
 |some (some<|.ref a)=>(match K.lookup a with
  |some ⟨.type "tuple",_,.seq xs _,_⟩=>some (xs.toList.map aNp)
  |_=>none)
 |_=>none
def bltNs:S4:=[⟨#[105,115,105,110,115,116,97,110,99,101]⟩,⟨#[105,110,116]⟩,⟨#[98,111,111,108]⟩,⟨#[108,105,115,116]⟩,⟨#[108,101,110]⟩,⟨#[115,116,114]⟩,⟨#[116,117,112,108,101]⟩,⟨#[97,108,108]⟩,⟨#[100,105,99,116]⟩,⟨#[109,97,120]⟩,⟨#[109,105,110]⟩,⟨#[114,97,110,103,101]⟩,⟨#[122,105,112]⟩,⟨#[101,110,117,109,101,114,97,116,101]⟩,⟨#[115,111,114,116,101,100]⟩,⟨#[115,117,109]⟩,⟨#[114,101,118,101,114,115,101,100]⟩]
end L2
namespace Lf
open PySem L2
abbrev veM:S8:=[.type "ValueError",.type "Exception",.type "BaseException",.type "object"]
end Lf
namespace PySem.W
open PySem PySem.Spec PySem.Calls PyProof.Rows
def excKit(K:Frag)(D:Addr):Bool:=(findIn K (.ref D) "__getattribute__" == some (some<|.builtin "BaseException.__getattribute__"))&&(findIn K (.ref D) "__getattr__" == some none)&&(mroIn K D (.type "BaseException") == some true)&&(mroIn K D (.type "object") == some true) &&
 (findIn K (.ref D) "__class__" == some (some<|.builtin "object.__class__"))&&(specialIn K (.builtin "object.__class__") "__get__" == some (some<|.builtin "getset_descriptor.__get__"))&&(takesIn K (.builtin "object.__class__") == some true)
end PySem.W
namespace Lf
open PySem L2
open PySem.W (Frag nsIn)
def wX(K:Frag)(N:Addr)(n:Str):Bool:=match K.lookup N with
 |some ⟨_,_,.dict es _,_⟩=>es.toList.all (λe=>match e.key with | .str _ _=>true | _=>false)&&(es.toList.find? (·.key.isStr n)).isNone
 |_=>false
def gO(K:Frag):Nat->S8->Bool
 |n+1,.ref A::r=>(match K.lookup A with
  |some ⟨_,_,.cls cd,_⟩=>wX K cd.ns "__init__" && gO K n r
  |_=>false)
 |_,l=>l == veM
def nH(K:Frag)(C:Addr):Bool:=match K.lookup C with
 |some ⟨.type "type",_,.cls cd,sl⟩=>(match cd.mro with
  | .ref C'::tl=>C' == C&&cd.hasDel == false&&sl.size == 6&&sl[4]? == some (some<|.builtin "ValueError.__new__")&&wX K cd.ns "__init__" && gO K 4 tl
  |_=>false)&&PySem.W.excKit K C
 |_=>false
def mH(K:Frag)(n:Str):Option Addr:=match nsIn K mainGlobals n with
 |some (some<|.ref C)=>some C
 |_=>none
def aEd(K:Frag)(C D:Addr):Bool:=match K.lookup C with
 |some ⟨_,_,.cls cd,_⟩=>cd.mro.contains (.ref D)
 |_=>false
def bEw(K:Frag)(ns:S4):List<|Bool×List (Option Bool×Bool)×Option Bool×Option Bool:=ns.map λn=>match mH K n with
 |some C=>(nH K C,ns.map (λm=>match mH K m with | some D=>(PySem.W.kitOne K (.ref C)<|.ref D,aEd K C D) | none=>(none,false)),PySem.W.kitOne K (.ref C)<|.type "ValueError",PySem.W.kitOne K (.type "NoneType")<|.ref C)
 |none=>(false,[],none,none)
abbrev OX:=Bool×List (Option Bool×Bool)×Option Bool×Option Bool
end Lf
namespace L2
open PySem PySem.W PySem.Spec PyProof.Rows PySem.Calls
def oE(K:Frag)(C:Addr)(m q:Str):FO:=match findIn K (.ref C) m with
 |some (some<|.ref f)=>(match K.lookup f with
  |some ⟨_,_,.func fd,_⟩=>some ((fd.name,fd.qualname,fd.params,fd.body,fd.scope),(fd.globals,fd.closure,fd.defaults,fd.builtins),codeIn K fd.code q)
  |_=>none)
 |_=>none
def aBx(K:Frag)(C:Addr)(m:Str):Bool:=match findIn K (.ref C) m with
 |some (some v)=>isFn K v
 |_=>false
def iG(m q:Str)(s:Stmt):FO:=some ((m,q,mG s,.stmts<|fB s,aQ s),(mainGlobals,[],.none,builtinsNs),true)
abbrev OCl:=Option<|(Bool×Bool×Bool×Option (Option Value)×Bool×Bool)×List FO×List Bool×List (Option<|Option Value)
def aKv(K:Frag)(n:Str)(a:List<|Str×Str)(fs:S4):OCl:=match nsIn K mainGlobals n with
 |some (some<|.ref C)=>some ((plainGet K C Str.empty,hasDictIn K C,plainOver K C,findIn K (.ref C) "__setattr__",makesIn K C,keepIn K<|.ref C),a.map<|λp=>oE K C p.1 p.2,a.map<|λp=>aBx K C p.1,fs.map λf=>findIn K (.ref C) f)
 |_=>none
def aMs(a:List FO)(b:List<|Str×Str)(fs:S4):OCl:=some ((true,true,true,some<|some<|.builtin "object.__setattr__",true,true),a,List.replicate b.length true,List.replicate fs.length<|some none)
end L2
namespace Lf
open PySem L2
def _root_.PySem.W.Fast.tw14751195604040346346:=PySem.Challenge.pw_laidfields_k41_steady_names
theorem _root_.PySem.W.Fast.te14751195604040346346:PySem.Challenge.pw_laidfields_k41_steady_names=PySem.W.Fast.tw14751195604040346346:=rfl
def bHg(s:Stmt):T5:=match s with
 | .Assign _ (.Constant (.int i) _ _) _=>some (.int i)
 | .Assign _ (.Constant (.str x) _ _) _=>some (.str x)
 |_=>none
def bJz(e:Expr):T5:=match e with
 | .Constant (.int i) _ _=>some (.int i)
 |_=>none
def bHh(s:Stmt):Option<|List T5:=match s with
 | .Assign _ (.Tuple es _ _) _=>some (es.map bJz)
 |_=>none
abbrev zF:Option Bool×Bool:=(some false,false)
theorem rPair{r:OsState->Option Shared}{α β}{f:Shared->α}{g:Shared->β}{a b}(h:(λo=>(r o).map f)=λ_=>some a)(k:(λo=>(r o).map g)=λ_=>some b):(λo=>(r o).map λs=>(f s,g s))=λ_=>some (a,b):=by
 funext o;obtain⟨s,x,e⟩:=Option.map_eq_some_iff.mp (congrFun h o);obtain⟨t,y,d⟩:=Option.map_eq_some_iff.mp (congrFun k o);rw[x]at y;cases y;exact Option.map_eq_some_iff.mpr ⟨s,x,Prod.ext e d⟩
theorem rMap{r:OsState->Option Shared}{α β}{f:Shared->α}{g:Shared->β}{a b}(h:(λo=>(r o).map f)=λ_=>some a)(k:∀s,f s=a->g s=b):(λo=>(r o).map g)=λ_=>some b:=by
 funext o;obtain⟨s,x,e⟩:=Option.map_eq_some_iff.mp (congrFun h o);exact Option.map_eq_some_iff.mpr ⟨s,x,k s e⟩
def seenF(p:Program)(K:dN):List FO×List Bool×List T5×List (Option<|List T5)×List OX×List OCl:=([10,11,12,13,23,24,25,26,27,28,29,30,31,32,33,34,35,36,37,38,39,40,41,43,44,45,46,47,48,49,52,53,54,55,56,60,61,62,63,64,65,67,68,69,70,71,72,73,74,75,76,77,78,79,80,82,83,84,85,86].map λi=>wV K<|fA<|fN p i,(bltNs++[(⟨#[86,97,108,117,101,69,114,114,111,114]⟩:Str)]).map<|qN K,[15,16,17,19,20,21,22,51,58].map λi=>wS K<|fA<|fN p i,[18].map λi=>wU K<|fA<|fN p i,bEw K ["FieldError","NoValue","NoBytes","NoMake","NoText","NoName","NoRow"],[aKv K "House" [("__init__","House.__init__"),("next_make","House.next_make"),("begin_make","House.begin_make"),("how_many_makes","House.how_many_makes"),("fields_of","House.fields_of"),("places_of","House.places_of"),("room_at","House.room_at"),("make_at","House.make_at")] ["lying","makes","multiple"]])
def seenV(p:Program):List FO×List Bool×List T5×List (Option<|List T5)×List OX×List OCl:=([10,11,12,13,23,24,25,26,27,28,29,30,31,32,33,34,35,36,37,38,39,40,41,43,44,45,46,47,48,49,52,53,54,55,56,60,61,62,63,64,65,67,68,69,70,71,72,73,74,75,76,77,78,79,80,82,83,84,85,86].map λi=>xW<|fN p i,List.replicate 18 true,[15,16,17,19,20,21,22,51,58].map λi=>bHg<|fN p i,[18].map λi=>bHh<|fN p i,[(true,[(some true,true),zF,zF,zF,zF,zF,zF],some true,some false),(true,[(some true,true),(some true,true),zF,zF,zF,zF,zF],some true,some false),(true,[(some true,true),zF,(some true,true),zF,zF,zF,zF],some true,some false),(true,[(some true,true),zF,zF,(some true,true),zF,zF,zF],some true,some false),(true,[(some true,true),zF,zF,zF,(some true,true),zF,zF],some true,some false),(true,[(some true,true),zF,zF,zF,zF,(some true,true),zF],some true,some false),(true,[(some true,true),zF,zF,zF,zF,zF,(some true,true)],some true,some false)],[aMs [iG "__init__" "House.__init__"<|eZ (fN p 59) 0,iG "next_make" "House.next_make"<|eZ (fN p 59) 1,iG "begin_make" "House.begin_make"<|eZ (fN p 59) 2,iG "how_many_makes" "House.how_many_makes"<|eZ (fN p 59) 3,iG "fields_of" "House.fields_of"<|eZ (fN p 59) 4,iG "places_of" "House.places_of"<|eZ (fN p 59) 5,iG "room_at" "House.room_at"<|eZ (fN p 59) 6,iG "make_at" "House.make_at"<|eZ (fN p 59) 7] [("__init__","House.__init__"),("next_make","House.next_make"),("begin_make","House.begin_make"),("how_many_makes","House.how_many_makes"),("fields_of","House.fields_of"),("places_of","House.places_of"),("room_at","House.room_at"),("make_at","House.make_at")] ["lying","makes","multiple"]])
def seenFA(p:Program)(K:dN):List FO:=[10,11,12,13,23,24,25,26,27,28,29,30,31,32,33,34,35,36,37,38,39,40,41,43,44,45,46,47,48,49,52,53].map λi=>wV K<|fA<|fN p i
def seenVA(p:Program):List FO:=[10,11,12,13,23,24,25,26,27,28,29,30,31,32,33,34,35,36,37,38,39,40,41,43,44,45,46,47,48,49,52,53].map λi=>xW<|fN p i
def seenFB(p:Program)(K:dN):List FO:=[54,55,56,60,61,62,63,64,65,67,68,69,70,71,72,73].map λi=>wV K<|fA<|fN p i
def seenVB(p:Program):List FO:=[54,55,56,60,61,62,63,64,65,67,68,69,70,71,72,73].map λi=>xW<|fN p i
def seenFC(p:Program)(K:dN):List FO:=[74,75,76,77,78,79,80,82,83,84,85,86].map λi=>wV K<|fA<|fN p i
def seenVC(p:Program):List FO:=[74,75,76,77,78,79,80,82,83,84,85,86].map λi=>xW<|fN p i
def seenFD(p:Program)(K:dN):List Bool×List T5×List (Option<|List T5)×List OX×List OCl:=((bltNs++[(⟨#[86,97,108,117,101,69,114,114,111,114]⟩:Str)]).map<|qN K,[15,16,17,19,20,21,22,51,58].map λi=>wS K<|fA<|fN p i,[18].map λi=>wU K<|fA<|fN p i,bEw K ["FieldError","NoValue","NoBytes","NoMake","NoText","NoName","NoRow"],[aKv K "House" [("__init__","House.__init__"),("next_make","House.next_make"),("begin_make","House.begin_make"),("how_many_makes","House.how_many_makes"),("fields_of","House.fields_of"),("places_of","House.places_of"),("room_at","House.room_at"),("make_at","House.make_at")] ["lying","makes","multiple"]])
def seenVD(p:Program):List Bool×List T5×List (Option<|List T5)×List OX×List OCl:=(List.replicate 18 true,[15,16,17,19,20,21,22,51,58].map λi=>bHg<|fN p i,[18].map λi=>bHh<|fN p i,[(true,[(some true,true),zF,zF,zF,zF,zF,zF],some true,some false),(true,[(some true,true),(some true,true),zF,zF,zF,zF,zF],some true,some false),(true,[(some true,true),zF,(some true,true),zF,zF,zF,zF],some true,some false),(true,[(some true,true),zF,zF,(some true,true),zF,zF,zF],some true,some false),(true,[(some true,true),zF,zF,zF,(some true,true),zF,zF],some true,some false),(true,[(some true,true),zF,zF,zF,zF,(some true,true),zF],some true,some false),(true,[(some true,true),zF,zF,zF,zF,zF,(some true,true)],some true,some false)],[aMs [iG "__init__" "House.__init__"<|eZ (fN p 59) 0,iG "next_make" "House.next_make"<|eZ (fN p 59) 1,iG "begin_make" "House.begin_make"<|eZ (fN p 59) 2,iG "how_many_makes" "House.how_many_makes"<|eZ (fN p 59) 3,iG "fields_of" "House.fields_of"<|eZ (fN p 59) 4,iG "places_of" "House.places_of"<|eZ (fN p 59) 5,iG "room_at" "House.room_at"<|eZ (fN p 59) 6,iG "make_at" "House.make_at"<|eZ (fN p 59) 7] [("__init__","House.__init__"),("next_make","House.next_make"),("begin_make","House.begin_make"),("how_many_makes","House.how_many_makes"),("fields_of","House.fields_of"),("places_of","House.places_of"),("room_at","House.room_at"),("make_at","House.make_at")] ["lying","makes","multiple"]])
theorem seenF_two(p:Program)(K:dN):seenF p K=(seenFA p K++(seenFB p K++(seenFC p K)),seenFD p K):=rfl
theorem seenV_two(p:Program):seenV p=(seenVA p++(seenVB p++(seenVC p)),seenVD p):=rfl
section
open PySem.W PySem.Spec PyProof.Rows PySem.Calls
abbrev pp:Program:=PySem.Challenge.pw_laidfields_k41_steady_names
abbrev pq:Program:=PySem.W.view pp [0,2,3,4,5,6,7,8,10,11,12,13,15,16,17,18,19,20,21,22,23,24,25,26,27,28,29,30,31,32,33,34,35,36,37,38,39,40,41,43,44,45,46,47,48,49,51,52,53,54,55,56,58,59,60,61,62,63,64,65,67,68,69,70,71,72,73,74,75,76,77,78,79,80,81,82,83,84,85,86]
abbrev onS{α}(f:Shared->α)(v:α)(w:World):Prop:=(λo:OsState=>(topRun treeTable pp w 11 (some (.ref 6)) 4000 ⟨boot_heap w.params,Array.mk [],boot_drawn,boot_toks,o⟩ (topStub pp)).map f)=λ_=>some v
theorem rn_C:∀w:World,onS (λs=>seenFC pp (aSw s.heap)) (seenVC pp) w:=by unfold onS pp;rw[PySem.W.Fast.te14082659384304107361,PySem.W.Fast.te14364793385576792824];exact λw=>by kernel_rfl
theorem rn_B:∀w:World,onS (λs=>seenFB pp (aSw s.heap)) (seenVB pp) w:=by unfold onS pp;rw[PySem.W.Fast.te14082659384304107361,PySem.W.Fast.te14364793385576792824];exact λw=>by kernel_rfl
theorem rn_A:∀w:World,onS (λs=>seenFA pp (aSw s.heap)) (seenVA pp) w:=by unfold onS pp;rw[PySem.W.Fast.te14082659384304107361,PySem.W.Fast.te14364793385576792824];exact λw=>by kernel_rfl
theorem rn_D:∀w:World,onS (λs=>seenFD pp (aSw s.heap)) (seenVD pp) w:=by unfold onS pp;rw[PySem.W.Fast.te14082659384304107361,PySem.W.Fast.te14364793385576792824];exact λw=>by kernel_rfl
theorem rn_8:∀w:World,onS (λs=>wideSeen pq s) (wideGood pq) w:=by unfold onS pq pp;rw[PySem.W.Fast.te14082659384304107361,PySem.W.Fast.te14364793385576792824];exact λw=>by kernel_rfl
theorem rn_1:∀w:World,onS (λs=>seen ((recsOf pq).map (·.name)) (ownsOf pq) [] { s with gens:=#[] }) (expectedOf pq) w:=by unfold onS pq pp;rw[PySem.W.Fast.te14082659384304107361,PySem.W.Fast.te14364793385576792824];exact λw=>by kernel_rfl
theorem rn_6:∀w:World,onS (λs=>plainSeenE pq (looseW pq []) s) (plainGoodE pq (looseW pq [])) w:=by unfold onS pq pp;rw[PySem.W.Fast.te14082659384304107361,PySem.W.Fast.te14364793385576792824];exact λw=>by kernel_rfl
theorem rn_3:∀w:World,onS (λs=>s.heap.keysOk (looseW pq []) ((recsOf pq).map (·.name)) ((litsOf pq).map (·.1)) ((clssOf pq (looseW pq [])).map (·.name))&&s.heap.accountedOkI (importedModules pp.main.body)&&s.heap.isNs mainGlobals&&s.heap.isNs builtinsNs&&tablesOk pq s.heap&&(λs=>PySem.W.xlAt pq [] s&&PySem.W.recOk [] s) s&&(if true then s.gens.size == 0 else !leftWithCleanup s.gens)) (true) w:=by unfold onS pq pp;rw[PySem.W.Fast.te14082659384304107361,PySem.W.Fast.te14364793385576792824,PySem.W.Fast.te5923862056798008813];exact λw=>by kernel_rfl
theorem rn_4:∀w:World,onS (λs=>(s.heap.bltView,tabsOk pq s)) ((bltViewBooted,true)) w:=by unfold onS pq pp;rw[PySem.W.Fast.te14082659384304107361,PySem.W.Fast.te14364793385576792824];exact λw=>by kernel_rfl
theorem rn_0:∀w:World,onS (λs=>(staticsOk (importedModules pp.main.body) (boot_heap w.params) s.heap&&namesBound pp s.heap&&gensDone s&&laidKept (boot_heap w.params) s.heap,pinSeenD pq (drecsOf pq) s,plainSeenD pq [] s,clsSeenW pq [] s)) ((true,pinGoodD (drecsOf pq),plainGoodD pq [],clsGoodW pq [])) w:=by unfold onS pq pp;rw[PySem.W.Fast.te14082659384304107361,PySem.W.Fast.te14364793385576792824,PySem.W.Fast.te5923862056798008813];exact λw=>by kernel_rfl
end
theorem aKn:∀w:World,onceSeen PySem.W.topRun treeTable importedModules (λm s=>PySem.W.openSeen (PySem.W.view PySem.Challenge.pw_laidfields_k41_steady_names [0,2,3,4,5,6,7,8,10,11,12,13,15,16,17,18,19,20,21,22,23,24,25,26,27,28,29,30,31,32,33,34,35,36,37,38,39,40,41,43,44,45,46,47,48,49,51,52,53,54,55,56,58,59,60,61,62,63,64,65,67,68,69,70,71,72,73,74,75,76,77,78,79,80,81,82,83,84,85,86]) [] m (λs=>PySem.W.xlAt (PySem.W.view PySem.Challenge.pw_laidfields_k41_steady_names [0,2,3,4,5,6,7,8,10,11,12,13,15,16,17,18,19,20,21,22,23,24,25,26,27,28,29,30,31,32,33,34,35,36,37,38,39,40,41,43,44,45,46,47,48,49,51,52,53,54,55,56,58,59,60,61,62,63,64,65,67,68,69,70,71,72,73,74,75,76,77,78,79,80,81,82,83,84,85,86]) [] s&&PySem.W.recOk [] s) true s) PySem.Challenge.pw_laidfields_k41_steady_names 4000 (seenF PySem.Challenge.pw_laidfields_k41_steady_names) w=λ_=>some (true,PySem.W.openGood (PySem.W.view PySem.Challenge.pw_laidfields_k41_steady_names [0,2,3,4,5,6,7,8,10,11,12,13,15,16,17,18,19,20,21,22,23,24,25,26,27,28,29,30,31,32,33,34,35,36,37,38,39,40,41,43,44,45,46,47,48,49,51,52,53,54,55,56,58,59,60,61,62,63,64,65,67,68,69,70,71,72,73,74,75,76,77,78,79,80,81,82,83,84,85,86]) [],seenV PySem.Challenge.pw_laidfields_k41_steady_names):=λw=>rMap (rPair (rn_0 w) (rPair (rn_1 w) (rPair (rn_3 w) (rPair (rn_4 w) (rPair (rn_6 w) (rPair (rn_8 w) (rPair (rn_D w) (rPair (rn_A w) (rPair (rn_B w) (rn_C w)))))))))) λs h=>by
 obtain⟨h0,h⟩:=Prod.mk.inj h;obtain⟨h1,h⟩:=Prod.mk.inj h;obtain⟨h3,h⟩:=Prod.mk.inj h;obtain⟨h4,h⟩:=Prod.mk.inj h;obtain⟨h6,h⟩:=Prod.mk.inj h;obtain⟨h8,h⟩:=Prod.mk.inj h;obtain⟨hD,h⟩:=Prod.mk.inj h;obtain⟨hA,h⟩:=Prod.mk.inj h;obtain⟨hB,h⟩:=Prod.mk.inj h;obtain⟨x0,h0⟩:=Prod.mk.inj h0;obtain⟨x2,x4⟩:=Prod.mk.inj h4;obtain⟨x5,h0⟩:=Prod.mk.inj h0;obtain⟨x7,x9⟩:=Prod.mk.inj h0;exact Prod.ext x0 (Prod.ext (Prod.ext h1 (Prod.ext x2 (Prod.ext h3 (Prod.ext x4 (Prod.ext x5 (Prod.ext h6 (Prod.ext x7 (Prod.ext h8 x9)))))))) ((seenF_two _ _).trans ((by rw[hD,hA,hB,h]:_=_).trans (seenV_two _).symm)))
end Lf
local macro_rules|`(#[$a,*])=>`(⟨$a,*⟩)
local macro_rules|`(`a)=>`(by lia)|`(`b)=>`(by decide)|`(`c)=>`(by decide +kernel)|`(`d)=>`(model X.prog X.w)|`(`e)=>`(xv 0)|`(`f)=>`(model prog w)|`(`g)=>`(by simp)|`(`h)=>`(xv 1)|`(`i)=>`(.ref a)|`(`j)=>`(fN PySem.Challenge.pw_laidfields_k41_steady_names i)|`(`k)=>`(dL K `e)|`(`l)=>`(s.heap.objs.size+1)|`(`m)=>`(.ref s.heap.objs.size)|`(`n)=>`(F.vis H)|`(`o)=>`(#[by lia,by lia])|`(`p)=>`(by simp only[aE,true_or,or_true])|`(`q)=>`(Or.inl rfl)|`(`r)=>`(#[_,rfl])|`(`s)=>`(PySem.W.view PySem.Challenge.pw_laidfields_k41_steady_names [0,2,3,4,5,6,7,8,10,11,12,13,15,16,17,18,19,20,21,22,23,24,25,26,27,28,29,30,31,32,33,34,35,36,37,38,39,40,41,43,44,45,46,47,48,49,51,52,53,54,55,56,58,59,60,61,62,63,64,65,67,68,69,70,71,72,73,74,75,76,77,78,79,80,81,82,83,84,85,86])|`(`t)=>`(fs.map Fe.x)
namespace L2
open PySem PySem.Spec PyProof.Rows
abbrev Key:=Sum Int Str
def uA:Key->Value->Bool
 | .inl k,v=>Value.isInt k v
 | .inr x,v=>Value.isStrOf x v
def bKi(w:World):Key->Int
 | .inl k=>hashInt k
 | .inr x=>hashStr w x
def bq_:∀{k} {v},uA k v=true->(∃i t,k=Sum.inl i/\v=Value.int i t)\/(∃x t,k=Sum.inr x/\v=Value.str x t)
 | .inl i,v,h=>by obtain⟨t,e⟩:=Value.isInt_shape (k:=i) (v:=v) h;exact .inl #[i,t,rfl,e]
 | .inr x,v,h=>by obtain⟨t,e⟩:=Value.isStrOf_shape (x:=x) (v:=v) h;exact .inr #[x,t,rfl,e]
def aFq(i:Int)(t:Tok):uA (.inl i) (.int i t)=true:=by simp[uA,Value.isInt]
def aFp(x:Str)(t:Tok):uA (.inr x) (.str x t)=true:=by simp[uA,Value.isStrOf]
def bAd(a b:Int):decide ((Sum.inl a:Key)=Sum.inl b)=(a == b):=by grind
def bAa(a b:Str):decide ((Sum.inr a:Key)=Sum.inr b)=decide (a=b):=by grind
def bAc(a:Int)(b:Str):decide ((Sum.inl a:Key)=Sum.inr b)=false:=by grind
def bAb(a:Str)(b:Int):decide ((Sum.inr a:Key)=Sum.inl b)=false:=by grind
def dX(prog:Program)(w:World):PySem.KeyKind prog w Key where
 is:=uA
 hash:=bKi w
 inj:=λv a b g f=>by
  rcases bq_ g with⟨i,t,rfl,rfl⟩ | ⟨x,t,rfl,rfl⟩
  rcases bq_ f with ⟨j,u,rfl,e⟩ | ⟨y,u,rfl,e⟩
  injection e with c _;rw[c]
  exact nomatch e;rcases bq_ f with ⟨j,u,rfl,e⟩ | ⟨y,u,rfl,e⟩
  exact nomatch e;injection e with c _;rw[c]
 byValue:=λk v h=>by rcases bq_ h with⟨i,t,rfl,rfl⟩ | ⟨x,t,rfl,rfl⟩<;>rfl
 pyHash:=λhv h=>by
  rcases bq_ hv with⟨i,t,rfl,rfl⟩ | ⟨x,t,rfl,rfl⟩
  exact wpAny_pyHash_int h;exact wpAny_pyHash_str h
 eqBool:=λl hv h=>by
  rcases bq_ l with⟨i,t,rfl,rfl⟩ | ⟨x,t,rfl,rfl⟩
  rcases bq_ hv with ⟨j,u,rfl,rfl⟩ | ⟨y,u,rfl,rfl⟩
  rw[bAd]at h;exact wpAny_eqBool_int h;rw[bAc]at h;exact SeqAt.EqAt.int_str i t y u _ _ _ _ h;rcases bq_ hv with ⟨j,u,rfl,rfl⟩ | ⟨y,u,rfl,rfl⟩
  rw[bAb]at h;exact SeqAt.EqAt.str_int x t j u _ _ _ _ h;rw[bAa]at h;exact wpAny_eqBool_str h
 «strs»:=λk x t v h=>by
  rcases bq_ h with⟨i,u,rfl,e⟩ | ⟨y,u,rfl,e⟩
  exact nomatch e;injection e with c _
  subst c;cases v<;>rfl
def c5(prog:Program)(w:World)(i:Int)(t:Tok):(dX prog w).is (.inl i) (.int i t)=true:=aFq i t
def b_(prog:Program)(w:World)(x:Str)(t:Tok):(dX prog w).is (.inr x) (.str x t)=true:=aFp x t
abbrev U2:=List<|Key×V
abbrev U0:=List<|Str×V
abbrev S3:=List V
def RelV:V->Value->Prop
 | .non,u=>u=Value.none
 | .bl b,u=>u=Value.bool b
 | .int i,u=>∃t,u=Value.int i t
 | .str x,u=>∃t,u=Value.str x t
 | .byt b,u=>∃t,u=Value.bytes b t
 | .flt b,u=>∃t,u=Value.float b t
 | .ref a,u=>u=Value.ref a
 | .ty n,u=>u=Value.type n
abbrev Vals:S3->S8->Prop:=Paired RelV
def Vals.length(r:Vals xs us):xs.length=us.length:=Paired.length r
def Vals.get:∀{xs} {us} {i:Nat} {x:V},Vals xs us->xs[i]? = some x->∃u,us[i]? = some u/\RelV x u
 |_,_,_,_,.nil,e=>by simp at e
 |_,_,0,_,.cons r _,e=>by simp at e;subst e;exact#[_,rfl,r]
 |_,_,i+1,x,.cons _ t,e=>by obtain⟨u,a,b⟩:=Vals.get (i:=i) (x:=x) t (by simpa using e);exact#[u,by simpa using a,b]
def Vals.set(r:RelV x u):∀{xs} {us} (i:Nat),Vals xs us->Vals (xs.set i x) (us.set i u)
 |_,_,_,.nil=>.nil
 |_,_,0,.cons _ t=>.cons r t
 |_,_,i+1,.cons q t=>.cons q<|Vals.set r i t
def Vals.append:∀{xs ys} {us a},Vals xs us->Vals ys a->Vals (xs++ys) (us++a)
 |_,_,_,_,.nil,s=>s
 |_,_,_,_,.cons r t,s=>.cons r<|Vals.append t s
def Vals.take:∀{xs} {us} (n:Nat),Vals xs us->Vals (xs.take n) (us.take n)
 |_,_,0,_=>.nil
 |_,_,_+1,.nil=>.nil
 |_,_,n+1,.cons r t=>.cons r<|Vals.take n t
def Vals.drop:∀{xs} {us} (n:Nat),Vals xs us->Vals (xs.drop n) (us.drop n)
 |_,_,0,r=>r
 |_,_,_+1,.nil=>.nil
 |_,_,n+1,.cons _ t=>Vals.drop n t
def RelO:T5->Option Value->Prop
 |some v,some u=>RelV v u
 |none,none=>True
 |_,_=>False
def KV{a:Type}:List (a×V)->List (a×Value)->Prop:=Paired λ(p:a×V) (q:a×Value)=>p.1=q.1/\RelV p.2 q.2
def kV:Key->V
 | .inl i=>.int i
 | .inr x=>.str x
inductive HO where
 |lst (xs:S3)
 |tup (xs:S3)
 |dK (kvs:U2)
 |ins (C dx:Addr) (fs:U0)
 |own (x:Addr)
 |frz (o:Obj) (u:HO)
 |tbl (ps:T8)
 |ext (φ:Heap->Prop)
abbrev Hp:=Addr->Option HO
def upd(H:Hp)(a:Addr)(o:HO):Hp:=λb=>if b=a then some o else H b
def bY:upd H a o a=some o:=by unfold upd;rw[if_pos rfl]
def dZ(h:b≠a):upd H a o b=H b:=by unfold upd;rw[if_neg h]
def l9{H:Hp}{a b}{o}(h:H a=some o)(h':H b=none):a≠b:=by grind
section
variable(P:Program)(w:World)
def ObjOk(H:Hp)(h:Heap)(a:Addr):HO->Prop
 | .lst xs=>xs.length<=sizeLine/\∃(b:S8) (n:Nat),Vals xs b/\h.get? a=some { cls:=.type "list",data:=.seq b.toArray n }
 | .tup xs=>xs.length<=sizeLine/\∃b:S8,Vals xs b/\IsTup h a b.toArray
 | .dK kvs=>kvs.length<=sizeLine/\(a == sysModules)=false/\∃i,KV kvs i/\h.DictOf (dX P w) a i
 | .ins C dx fs => H dx = some (.own a) ∧ fs.length ≤ 1000 ∧ dx ≠ a ∧ h.get? a = some (PySem.W.instObj C dx) ∧
   ∃c,h.Ns1 dx c/\(∀f,RelO (fs.lookup f)<|c f)/\PySem.Within c (fs.map (·.1))
 | .own _=>∃o,h.get? a=some o
 | .frz o u=>h.get? a=some o/\ObjOk H h a u
 | .tbl ps=>h.get? a=some { cls:=.none,data:=.fields ps }
 | .ext φ=>φ h/\(∃o,h.get? a=some o)/\∀e g:Heap,φ e->(∀o,e.get? a=some o->g.get? a=some o)->φ g
def HOk(H:Hp)(h:Heap):Prop:=∀a o,H a=some o->ObjOk P w H h a o
end
section
variable{P:Program}{w:World}{H f:Hp}{h h':Heap}{a:Addr}{o:HO}
def ObjOk.lt(x:ObjOk P w H h a o):a<h.objs.size:=by
 cases o with
 |lst c=>obtain⟨_,_,_,_,e⟩:=x;exact aS e
 |tup c=>obtain⟨_,_,_,p⟩:=x;exact p.lt
 |dK b=>obtain⟨_,_,_,_,o,_,_,e,_⟩:=x;exact aS e
 |ins C g fs=>obtain⟨_,_,_,e,_⟩:=x;exact aS e
 |own y=>obtain⟨_,e⟩:=x;exact aS e
 |frz ob u=>obtain⟨e,_⟩:=x;exact aS e
 |tbl i=>exact aS (x)
 |ext j=>obtain⟨_,⟨_,e⟩,_⟩:=x;exact aS e
def ObjOk.stay(x:ObjOk P w H h a o)(k:∀b u,(b=a\/H b=some (.own a))->h.get? b=some u->h'.get? b=some u)
  (t:∀b,H b=some (.own a)->f b=some (.own a)) (I:∀b xs,H b=some (.tup xs)->f b=some (.tup xs)):ObjOk P w f h' a o:=by
 induction o with
 |lst xs=>obtain⟨z,g,n,r,e⟩:=x;exact#[z,g,n,r,k _ _ (.inl rfl) e]
 |tup xs=>obtain⟨z,g,r,ob,e,c⟩:=x;exact#[z,g,r,ob,k _ _ (.inl rfl) e,c]
 |dK A=>obtain⟨z,y,F,r,ob,j,i,e,c⟩:=x;exact#[z,y,F,r,ob,j,i,k _ _ (.inl rfl) e,c]
 |ins C G fs => obtain⟨d,z,D,e,B,⟨E,j,i,s,c⟩,r⟩:=x;exact#[t _ d,z,D,k _ _ (.inl rfl) e,B,#[E,j,i,k _ _ (.inr d) s,c],r]
 |own y=>obtain⟨ob,e⟩:=x;exact#[ob,k _ _ (.inl rfl) e]
 |frz ob u v=>obtain⟨e,q⟩:=x;exact#[k _ _ (.inl rfl) e,v q]
 |tbl l => have e:h.get? a=some { cls:=.none,data:=.fields l }:=x;show h'.get? a=some { cls:=.none,data:=.fields l };exact k a _ (.inl rfl) e
 |ext J=>obtain⟨p,⟨o,e⟩,m⟩:=x;exact#[m _ _ p λo q=>k _ _ (.inl rfl) q,#[o,k _ _ (.inl rfl) e],m]
def HOk.lt(x:HOk P w H h)(e:H a=some o):a<h.objs.size:=(x a o e).lt
def HOk.fresh(x:HOk P w H h)(e:h.objs.size<=a):H a=none:=by
 cases q:H a with
 |none=>rfl
 |some u=>exact absurd (aV (x.lt q) e)<|dM _
def HOk.kept(x:HOk P w H h)(k:∀b u,h.get? b=some u->h'.get? b=some u):HOk P w H h':=λa o e =>
 (x a o e).stay (λb u _ q=>k b u q) (λ_ q=>q) λ_ _ q=>q
def HOk.laid(x:HOk P w H h)(k:∀b u,h.get? b=some u->h'.get? b=some u)(l:h.objs.size<=a)(g:ObjOk P w (upd H a o) h' a o):HOk P w (upd H a o) h':=λb u e=>by have j:=x.fresh l;by_cases i:b=a;subst i;rw[bY]at e;cases e;exact g;rw [dZ i] at e;exact(x b u e).stay (λc v _ q=>k c v q) (λc q=>by rw[dZ<|l9 q j];exact q) λc m q=>by rw[dZ<|l9 q j];exact q
end
def Rd(H:Hp)(a:Addr)(u:HO):Prop:=H a=some u\/∃o,H a=some (.frz o u)
def Rd.ok(r:Rd H a u)(x:HOk P w H h):ObjOk P w H h a u:=by
 rcases r with r | ⟨o,r⟩
 exact x a u r;obtain ⟨_,q⟩:=x a _ r;exact q
def Mut:Option HO->Prop
 |some (.lst _)=>True
 |some (.dK _)=>True
 |some (.ins _ _ _)=>True
 |some (.ext _)=>True
 |_=>False
section
variable{P:Program}{w:World}{H:Hp}{h h':Heap}{x e:Addr}{a:HO}
def HOk.write(ok:HOk P w H h)(m:Mut<|H x)(s:e=x\/H e=some (.own x))(k:∀b u,b≠e->h.get? b=some u->h'.get? b=some u)(A:∃u,h'.get? e=some u)
  (p:ObjOk P w (upd H x a) h' x a):HOk P w (upd H x a) h':=λb u q=>by
 have f:∀c y,H c=some (.own y)->c≠x:=λc y r z=>by subst z;rw[r]at m;exact m
 have g:∀c o,H c=some (.tup o)->c≠x:=λc o r z=>by subst z;rw[r]at m;exact m
 by_cases j:b=x;subst j;rw[bY]at q;cases q;exact p;rw [dZ j] at q;by_cases i:b=e;have t:H b=some (.own x):=by
  rcases s with z | z
  exact absurd (i.trans z) j;rw[i];exact z
 rw[q]at t;cases t;obtain⟨v,hv⟩:=A;exact#[v,by rw[i];exact hv];refine (ok b u q).stay (fun c v l r=>k c v ?_ r) (fun c r=>by rw [dZ<|f c b r]; exact r) fun c o r=>by rw [dZ<|g c o r]; exact r
 rcases l with rfl | l
 exact i;rintro rfl;rcases s with z | z
 exact f c b l z;rw[l]at z;cases z;exact j rfl
end
structure Un(fs ex:T4)(H H':Hp)(h h':Heap):Prop where
 keep:∀b o,h.get? b=some o->H b=none->b∉fs->b∉ex->h'.get? b=some o
 slot:∀b o,h.get? b=some o->H b=none->b∈fs->b∉ex->∃sl,h'.get? b=some { o with slots:=sl }
 free:∀b o,h.get? b=some o->H b=none->b∉ex->H' b=none
 there:∀b o,h.get? b=some o->b∉ex->∃o',h'.get? b=some o'
 tups:∀b xs,H b=some (.tup xs)->H' b=some (.tup xs)
 frzs:∀b o u,H b=some (.frz o u)->H' b=some (.frz o u)
 tbls:∀b ps,H b=some (.tbl ps)->∃more,H' b=some (.tbl (ps++more))
section
variable{fs f ex g:T4}{H i l:Hp}{h c j h':Heap}{a x e:Addr}{o:HO}
def Un.any(u:Un fs ex H i h c)(q:h.get? b=some ob)(n:H b=none)(p:b∉ex):∃r,c.get? b=some { ob with slots:=r }:=by by_cases m:b∈fs;exact u.slot b ob q n m p;exact#[ob.slots,u.keep b ob q n m p]
def Un.kept(k:∀b u,h.get? b=some u->h'.get? b=some u):Un fs ex H H h h':=
 #[λb ob q _ _ _=>k b ob q,λb ob q _ _ _=>#[ob.slots,k b ob q],λ_ _ _ n _=>n,λb ob q _=>#[ob,k b ob q],λ_ _ q=>q,λ_ _ _ q=>q,λ_ m q=>#[[].toArray,by rw[q];simp]]
def Un.refl:Un fs ex H H h h:=Un.kept λ_ _ q=>q
def Un.laid(k:∀b u,h.get? b=some u->h'.get? b=some u)(p:h.objs.size<=a)(m:H a=none):Un fs ex H (upd H a o) h h' where
 keep:=λb u q _ _ _=>k b u q
 slot:=λb u q _ _ _=>#[u.slots,k b u q]
 free:=λb u q n _=>by rw[dZ<|bF<|aV (aS q) p];exact n
 there:=λb u q _=>#[u,k b u q]
 tups:=λb r q=>by rw[dZ<|l9 q m];exact q
 frzs:=λb u r q=>by rw[dZ<|l9 q m];exact q
 tbls:=λb s q=>#[[].toArray,by rw[dZ<|l9 q m,q];simp]
def Un.write(r:Mut<|H x)(A:e=x\/H e=some (.own x))(k:∀b u,b≠e->h.get? b=some u->h'.get? b=some u)(y:∃u,h'.get? e=some u):Un fs ex H (upd H x o) h h':=by
 have t:∀b,H b=none->b≠x:=λb n z=>by subst z;rw[n]at r;exact r
 have p:∀b,H b=none->b≠e:=by grind
 have m:∀b u,H b=some u->¬Mut (some u)->b≠x:=by grind
 refine#[λb u q n _ _=>k b u (p b n) q,λb u q n _ _=>#[u.slots,k b u (p b n) q],λb u q n _=>by rw[dZ<|t b n];exact n,λb u q _=>?_,
  λb v q=>by rw[dZ<|m b _ q λz=>z];exact q,λb u v q=>by rw[dZ<|m b _ q λz=>z];exact q,λb B q=>#[[].toArray,by rw[dZ<|m b _ q λz=>z,q];simp]]
 by_cases s:b=e;grind;exact#[u,k b u s q]
end
def trk(h:Heap)(H:Hp):T4:=(List.range h.objs.size).filter λa=>(H a).isSome
def xP(h:Heap)(H:Hp):Heap:=PySem.W.hideAll h<|trk h H
def aFs(h:Heap)(H:Hp):(xP h H).objs.size=h.objs.size:=PySem.W.hideAll_size _ _
def aMc{h}{H}{b}{o}(e:h.get? b=some o)(n:H b=none):(xP h H).get? b=some o:=
 PySem.W.hideAll_get _ e λa=>by have q:=(cU.mp a).2;rw[n]at q;simp at q
def aQp(e:(xP h H).get? b=some o):h.get? b=some o/\H b=none:=by
 have a:=PySem.W.of_hideAll (trk h H) e;refine#[a,?_];cases q:H b with
 |none=>rfl
 |some x => have c:b∈trk h H:=cU.mpr #[cR.mpr<|aS a,by simp[q]];have z:(xP h H).get? b=none:=PySem.W.hideAll_none (trk h H) c;rw[z]at e;cases e
def aSu(g h:Heap)(L:Addr):List<|Addr×Obj:=(List.range h.objs.size).filterMap λa=>if a=L\/(g.get? a).isSome=true then none else(h.get? a).map λo=>(a,o)
def rest(g h:Heap)(L d:Addr):List<|Addr×Obj:=(aSu g h L).filter λp=>decide (p.1≠d)
structure Mod(K:dN)(mg:mI)(base:Heap):Prop where
 kin:K.In base
 glob:base.Ns mainGlobals mg
 blt:∃mb,base.Ns builtinsNs mb/\∀x:Str,x ≠ "__name__" -> mb x=bootBuiltins x
 nolimit:base.NoLimit
structure Cx where
 prog:Program
 w:World
 K:PySem.W.Frag
 mg:Str->Option Value
 base:Heap
 A:Around
 N:S4
 s₀:Shared
 H₀:Hp
 env:Env
 outer:List Env
 stack:List Env
 ex:T4
 fn:Str->Bool
 calm:Bool
 pn:List (Addr×Obj)
 xe:Value->Shared->Prop
abbrev U7(X:Cx)(e:Expr)(a:List Expr):Prop:=starEach (e::a) X.env=(false,eval e X.env)::starEach a X.env
abbrev U8(X:Cx)(p:Pos)(a:List Expr):Prop:=(backTo p<|starEach a X.env).any (·.1)=false
def frs(l:List Env):T4:=l.filterMap (·.frame)
abbrev Cx.fs(X:Cx):T4:=frs X.outer
def Vis(sc:Scope)(x:Str):Prop:=sc.names.lookup x=some .local\/sc.names.lookup x=some .cell\/sc.names.lookup x=some .free
def Loc(sc:Scope)(x:Str):Prop:=sc.names.lookup x=some .local\/sc.names.lookup x=some .cell
def bMf(env:Env)(h:Heap)(m:mI)(x:Str)(u:Value):Prop:=
 (env.kindOf x=some .local/\m x=some u)\/((env.kindOf x=some .cell\/env.kindOf x=some .free)/\∃c,env.cells.lookup x=some c/\h.IsCell c (some u))
structure Cx.Ok(X:Cx):Prop where
 mod:Mod X.K X.mg X.base
 kind:X.env.scope.kind=.function
 glob:X.env.globals=mainGlobals
 blt:X.env.builtins=builtinsNs
 above:X.s₀.heap.objs.size<=X.env.locals
 inj:∀x y c,X.env.cells.lookup x=some c->X.env.cells.lookup y=some c->x=y
 has:∀x,(X.env.kindOf x=some .cell\/X.env.kindOf x=some .free)->∃c,X.env.cells.lookup x=some c
 cab:∀x c,X.fn x=true->X.env.cells.lookup x=some c->X.s₀.heap.objs.size<=c
 hd:X.calm=true->X.A.handled=none
 frames:X.A.frames=some X.stack
 stk:X.stack=X.outer\/(X.stack=X.env::X.outer/\X.env.frame=some X.env.locals)
 exf:∀b∈X.ex,b≠X.env.locals/\∀x c,X.env.cells.lookup x=some c->c≠b
 bs:∀b o,X.base.get? b=some o->X.s₀.heap.get? b=some o/\X.H₀ b=none
 bsz:X.base.objs.size<=X.s₀.heap.objs.size
 noex:∀b o,X.base.get? b=some o->b∉X.ex
 exfs:∀b∈X.ex,b∉X.fs
 funs:X.s₀.heap.FunFrames X.base X.outer
 frf:∀b∈X.fs,X.H₀ b=none
structure Inv(X:Cx)(Aa:gM)(σ:List T5)(H:Hp)(s:Shared):Prop where
 ok:X.Ok
 os:s.os=X.s₀.os
 bare:AllBare s.gens
 base:Un X.fs X.ex X.H₀ H X.s₀.heap s.heap
 loc:∃m,s.heap.Ns X.env.locals m/\∀(i:Nat) (x:Str) (v:V),X.N[i]? = some x->σ[i]? = some (some v)->Vis X.env.scope x->∃u,RelV v u/\bMf X.env s.heap m x u
 cell:∀x c,X.env.cells.lookup x=some c->∃v,s.heap.IsCell c v
 free:H X.env.locals=none
 freeC:∀x c,X.env.cells.lookup x=some c->H c=none
 pin:∀p∈X.pn++Aa,s.heap.get? p.1=some p.2/\H p.1=none/\p.1≠X.env.locals/\p.1∉X.fs/\∀v,p.2.data ≠ .cell v
 hok:HOk X.prog X.w H s.heap
 len:σ.length=X.N.length
section
variable{X:Cx}{f:gM}{g:List T5}{H B:Hp}{s:Shared}{h':Heap}
def Cx.Ok.nofr(ok:X.Ok)(e:X.base.get? b=some o):b∉X.fs:=λa=>by have:=(ok.funs.mem a).1;rw[e]at this;cases this
def Inv.bs(I:Inv X f g H s):∀b o,X.base.get? b=some o->s.heap.get? b=some o/\H b=none:=λb o e =>
 #[I.base.keep b o (I.ok.bs b o e).1 (I.ok.bs b o e).2 (I.ok.nofr e)<|I.ok.noex b o e,I.base.free b o (I.ok.bs b o e).1 (I.ok.bs b o e).2<|I.ok.noex b o e]
def Inv.bk(I:Inv X f g H s):∀b o,X.base.get? b=some o->s.heap.get? b=some o:=λb o e=>(I.bs b o e).1
def Inv.mod(I:Inv X f g H s):Mod X.K X.mg X.base:=I.ok.mod
def Inv.kIn(I:Inv X f g H s):X.K.In s.heap:=I.ok.mod.kin.keeps I.bk
def Inv.fr(I:Inv X f g H s):∃m,Fr X.base X.env.locals s.heap m:=
 let ⟨m,hn,_⟩:=I.loc
 #[m,hn,I.bk,nzL I.ok.bsz I.ok.above]
def Inv.lt(I:Inv X f g H s):X.env.locals<s.heap.objs.size:=let ⟨_,hn,_⟩:=I.loc;hn.lt
def Inv.sz(I:Inv X f g H s):X.s₀.heap.objs.size<=s.heap.objs.size:=nzL I.ok.above<|iJ I.lt
def Inv.nofs(I:Inv X f g H s)(h:s.heap.objs.size<=a):a∉X.fs:=λb=>by obtain⟨_,o,c,_⟩:=I.ok.funs.mem b;exact absurd (aV (aS c)<|nzL I.sz h)<|dM _
def Inv.cne(I:Inv X f g H s):∀x c,X.env.cells.lookup x=some c->c≠X.env.locals:=λx c e z=>by obtain⟨v,o,b,a⟩:=I.cell x c e;obtain⟨m,⟨p,l,j,h,i,_⟩,_⟩:=I.loc;rw[z,h]at b;cases b;rw[i]at a;cases a
def Inv.funs(I:Inv X f g H s):s.heap.FunFrames X.base X.outer:=by
 have all:∀(l:List Env),(∀b∈frs l,b∈X.fs)->X.s₀.heap.FunFrames X.base l->s.heap.FunFrames X.base l:=by
  intro l
  induction l with
  |nil=>intro _ _;trivial
  |cons j r y => intro i q;obtain⟨p,⟨L,o,h,t,u,m⟩,v⟩:=q;have a:=i L (by unfold frs;rw[gK,h];exact aB);obtain⟨A,e⟩:=I.base.slot L o u (I.ok.frf L a) a λz=>I.ok.exfs L z a;exact#[p,#[L,_,h,t,e,m],y (λb c=>i b (by unfold frs;rw[gK,h];exact aC _ c)) v]
 exact all X.outer (λ_ c=>c) I.ok.funs
def Inv.stack(I:Inv X f g H s):s.heap.FunFrames X.base X.stack:=by
 rcases I.ok.stk with e | ⟨e,a⟩
 rw[e];exact I.funs;rw [e];obtain⟨m,b,_⟩:=I.loc;refine .cons (by rw[I.ok.kind];decide) a b ?_ I.funs;exact Heap.get?_none_of_le<|nzL I.ok.bsz I.ok.above
def Inv.stkSub(I:Inv X f g H s):∀b∈frs X.stack,b∈X.env.locals::X.fs:=λb a=>by
 rcases I.ok.stk with e | ⟨e,c⟩
 grind;rw [e] at a;unfold frs at a;rw[gK,c]at a;exact a
def Inv.stkFree(I:Inv X f g H s):∀b∈frs X.stack,H b=none:=λb a=>by
 rcases aE.mp (I.stkSub b a)with e | a
 rw[e];exact I.free;obtain ⟨_,o,c,_⟩:=I.ok.funs.mem a;exact I.base.free b o c (I.ok.frf b a) λz=>I.ok.exfs b z a
def Inv.step{ch:T4}(I:Inv X f g H s)
  (F:∀b∈ch,(b∈X.ex\/X.s₀.heap.objs.size<=b)/\b≠X.env.locals/\(∀x c,X.env.cells.lookup x=some c->c≠b)/\∀p∈X.pn++f,p.1≠b)
  (keep:∀b o,b≠X.env.locals->b∉X.fs->b∉ch->s.heap.get? b=some o->H b=none->h'.get? b=some o)
  (C:∀b o,b≠X.env.locals->b∈X.fs->b∉ch->s.heap.get? b=some o->H b=none->∃S,h'.get? b=some { o with slots:=S }) (h:∀b o,b∉ch->s.heap.get? b=some o->H b=none->B b=none)
  (there:∀b o,b∉ch->s.heap.get? b=some o->∃M,h'.get? b=some M)
  (O:∀b xs,H b=some (.tup xs)->B b=some (.tup xs)) (J:∀b o u,H b=some (.frz o u)->B b=some (.frz o u)) (N:∀b ps,H b=some (.tbl ps)->∃L,B b=some (.tbl<|ps++L))
  (ns:∀m,s.heap.Ns X.env.locals m->h'.Ns X.env.locals m) (R:HOk X.prog X.w B h') (V:AllBare g') :
  Inv X f g B { s with heap:=h',gens:=g',drawn:=d',toks:=t' }:=by
 have neL:∀b o,X.s₀.heap.get? b=some o->b≠X.env.locals:=λb o e=>bF<|aV (aS e) I.ok.above;have A:∀b o,X.s₀.heap.get? b=some o->b∉X.ex->b∉ch:=λb o e a D=>by
  rcases(F b D).1 with z | z
  exact a z;exact absurd (aV (aS e) z)<|dM _
 have j:∀x c,X.env.cells.lookup x=some c->∀v,s.heap.IsCell c v->h'.IsCell c v:=λx c e v ⟨o,E,Q⟩=>by have t:c∉ch:=λz=>(F c z).2.2.1 x c e rfl;by_cases U:c∈X.fs;obtain ⟨S,q⟩:=C c o (I.cne x c e) U t E<|I.freeC x c e;exact#[_,q,Q];exact#[o,keep c o (I.cne x c e) U t E<|I.freeC x c e,Q]
 refine#[I.ok,I.os,V,#[λb o e n D a=>?_,λb o e n D a=>?_,λb o e n a=>?_,λb o e a=>?_,λb xs e=>O b xs<|I.base.tups b xs e,λb o xs e=>J b o xs<|I.base.frzs b o xs e,λb ps e=>?_],?_,λx c e=>?_,?_,λx c e=>?_,λp W=>?_,R,I.len];exact keep b o (neL b o e) D (A b o e a) (I.base.keep b o e n D a)<|I.base.free b o e n a;obtain ⟨S,y⟩:=I.base.slot b o e n D a;obtain⟨T,G⟩:=C b _ (neL b o e) D (A b o e a) y<|I.base.free b o e n a;exact#[T,G];obtain ⟨M,y⟩:=I.base.there b o e a;exact h b M (A b o e a) y<|I.base.free b o e n a;obtain ⟨M,y⟩:=I.base.there b o e a;exact there b M (A b o e a) y;obtain ⟨m1,y⟩:=I.base.tbls b ps e;obtain⟨m2,G⟩:=N b _ y;exact#[m1++m2,by rw[G,Array.append_assoc]];obtain ⟨m,hn,hl⟩:=I.loc;refine#[m,ns m hn,λi x v y G Z=>?_];obtain⟨u,r,l⟩:=hl i x v y G Z;refine#[u,r,?_];rcases l with l | ⟨k,c,e,z⟩
 exact .inl l;exact .inr #[k,c,e,j x c e _ z];obtain ⟨v,z⟩:=I.cell x c e;exact#[v,j x c e v z];obtain ⟨m,⟨o,_,_,E,_⟩,_⟩:=I.loc;exact h _ o (λz=>(F _ z).2.1 rfl) E I.free;obtain ⟨v,o,E,Q⟩:=I.cell x c e;exact h c o (λz=>(F c z).2.2.1 x c e rfl) E<|I.freeC x c e;obtain ⟨e,n,Y,nf,d⟩:=I.pin p W;have t:p.1∉ch:=λz=>(F p.1 z).2.2.2 p W rfl;exact#[keep p.1 p.2 Y nf t e n,h p.1 p.2 t e n,Y,nf,d]
def Inv.un(I:Inv X f g H s)(u:Un X.fs [] H B s.heap h')(i:HOk X.prog X.w B h'):Inv X f g B { s with heap:=h',toks:=t' }:=by obtain⟨m,⟨o,y,v,l,r⟩,_⟩:=id I.loc;obtain⟨D,p⟩:=u.any l I.free `g;exact I.step (g':=s.gens) (d':=s.drawn) (ch:=[]) (λ_ z=>nomatch z) (λb o _ h _ e n=>u.keep b o e n h `g) (λb o _ h _ e n=>u.slot b o e n h `g) (λb o _ e n=>u.free b o e n `g) (λb o _ e=>u.there b o e `g) u.tups u.frzs u.tbls (λA q=>by obtain⟨C,c,a,j,t⟩:=q;rw[l]at j;cases j;exact#[_,c,a,p,t]) i I.bare
def Inv.call(I:Inv X f g H s)(u:Un (frs X.stack) ch H B s.heap h')(l:HOk X.prog X.w B h')(A:AllBare g')
  (q:∀b∈ch,(b∈X.ex\/X.s₀.heap.objs.size<=b)/\b≠X.env.locals/\(∀x c,X.env.cells.lookup x=some c->c≠b)/\∀p∈X.pn++f,p.1≠b) :
  Inv X f g B { s with heap:=h',gens:=g',drawn:=d',toks:=t' }:=by
 obtain⟨m,⟨o,F,E,v,r⟩,_⟩:=id I.loc;obtain⟨L,j⟩:=u.any v I.free λz=>(q _ z).2.1 rfl;exact I.step (ch:=ch) q (λb o j y a e n=>u.keep b o e n (λz=>(aE.mp<|I.stkSub b z).elim j y) a) (λb o _ _ a e n=>u.any e n a) (λb o a e n=>u.free b o e n a) (λb o a e=>u.there b o e a) u.tups u.frzs u.tbls (λG C=>by obtain⟨J,i,h,t,D⟩:=C;rw[v]at t;cases t;exact#[_,i,h,j,D]) l A
def Inv.turned(I:Inv X f g H s)(k:∀b o,b≠it->s.heap.get? b=some o->h'.get? b=some o)(E:H it=none)(i:it≠X.env.locals)
  (t:it∈X.ex\/X.s₀.heap.objs.size<=it) (y:∀x c,X.env.cells.lookup x=some c->c≠it) (A:∀p∈X.pn++f,p.1≠it):Inv X f g H { s with heap:=h',toks:=t' }:=by
 have h:∀b u,H b=some u->b≠it:=λb u e z=>by rw[z,E]at e;cases e
 refine I.step (g':=s.gens) (d':=s.drawn) (ch:=[it]) (λb C=>?_) (λb o _ _ a e _=>k b o (λz=>a<|by simp[z]) e) (λb o _ _ a e _=>#[o.slots,k b o (λz=>a<|by simp[z]) e]) (λ_ _ _ _ n=>n)
  (λb o a e=>#[o,k b o (λz=>a<|by simp[z]) e]) (λ_ _ e=>e) (λ_ _ _ e=>e) (λb G e=>#[[].toArray,by rw[e];simp]) (λm D=>?_) (λb u e=>?_) I.bare
 have e:b=it:=by simpa using C
 subst e;exact#[t,i,y,A];obtain ⟨o,l,j,F,r⟩:=D;exact#[o,l,j,k _ o (Ne.symm i) F,r];refine (I.hok b u e).stay (fun c v a q=>k c v ?_ q) (fun _ q=>q) fun _ _ q=>q;rcases a with z | z
 rw[z];exact h b u e;exact h c _ z
def Inv.tok(I:Inv X f g H s)(t:Nat):Inv X f g H { s with toks:=t }:=I.un (h':=s.heap) (t':=t) Un.refl I.hok
def Inv.kept(I:Inv X f g H s)(k:∀b u,s.heap.get? b=some u->h'.get? b=some u):Inv X f g H { s with heap:=h',toks:=t' }:=I.un (Un.kept k)<|I.hok.kept k
def Inv.laid(I:Inv X f g H s)(k:∀b u,s.heap.get? b=some u->h'.get? b=some u)(c:s.heap.objs.size<=a)(e:ObjOk X.prog X.w (upd H a o) h' a o) :
  Inv X f g (upd H a o) { s with heap:=h',toks:=t' }:=I.un (Un.laid k c<|I.hok.fresh c)<|I.hok.laid k c e
def Inv.write(I:Inv X f g H s)(i:Mut<|H x)(h:e=x\/H e=some (.own x))(k:∀b u,b≠e->s.heap.get? b=some u->h'.get? b=some u)(c:∃u,h'.get? e=some u)
  (a:ObjOk X.prog X.w (upd H x o) h' x o):Inv X f g (upd H x o) { s with heap:=h',toks:=t' }:=I.un (Un.write i h k c)<|I.hok.write i h k c a
def Inv.weak(I:Inv X f g H s)(h:a.length=g.length)(w:∀(i:Nat) v,a[i]? = some (some v)->g[i]? = some (some v)):Inv X f a H s:=
 #[I.ok,I.os,I.bare,I.base,let ⟨m,hn,Dd⟩:=I.loc;#[m,hn,λi x v b c e=>Dd i x v b (w i v c) e],I.cell,I.free,I.freeC,I.pin,I.hok,h.trans I.len]
def Inv.pins_of(I:Inv X f g H s)(h:∀p∈pins',s.heap.get? p.1=some p.2/\H p.1=none/\p.1≠X.env.locals/\p.1∉X.fs/\∀v,p.2.data ≠ .cell v):Inv X pins' g H s:=
 #[I.ok,I.os,I.bare,I.base,I.loc,I.cell,I.free,I.freeC,λp a=>(aX.mp a).elim (λz=>I.pin p<|aM _ z)<|h p,I.hok,I.len]
def qO{N:S4}(h:N.Nodup){i j:Nat}(a:N[i]? = some x)(b:N[j]? = some x):i=j:=by obtain⟨l,c⟩:=aL.mp a;obtain⟨m,e⟩:=aL.mp b;exact(List.getElem_inj h).mp<|c.trans e.symm
def ka_{M:Model}{A:Around}{E:hX}{i:Nat}{x:Str}{v:V}{u:Value}{Q:Unit->Shared->Prop}(I:Inv X f g H s)(hN:X.N.Nodup)(R:X.N[i]? = some x)(F:Loc X.env.scope x)(r:RelV v u)
  (h:∀s',Inv X f (g.set i<|some v) H s'->(∃a,Heap.SameBut a s.heap s'.heap/\(a=X.env.locals\/X.env.cells.lookup x=some a))->Q () s') (hf:X.fn x=true\/X.env.scope.names.lookup x=some .local:=by first | exact .inl rfl | exact .inr rfl | assumption):wpAny M A (storeName X.env x u) Q E s:=by
 obtain⟨m,Z,hl⟩:=id I.loc;have E7:(X.env.scope.kind == .class||(X.env.scope.kind == .module&&X.env.locals != X.env.globals))=false:=by rw[I.ok.kind];rfl
 have J:i<g.length:=by rw[I.len];exact(aL.mp R).1
 have cne:=I.cne;have C:∀{a:Addr} {h':Heap},(∃o,s.heap.get? a=some o/\H a=none)->Heap.SameBut a s.heap h'->HOk X.prog X.w H h':=λ{a h'} ha l b ob e=>by
  obtain⟨_,_,Ip⟩:=ha;refine(I.hok b ob e).stay (λc U D q=>(l.2 c ?_).trans q) (λ_ q=>q) λ_ _ q=>q;rintro rfl;rcases D with rfl | D
  rw[Ip]at e;cases e;rw[Ip]at D;cases D
 rcases F with L | L
 refine wpAny_storeName_local L Z (fun h' Ee l => ?_) E7;obtain⟨oL,_,_,Ik,_⟩:=id Z;refine h _ #[I.ok,I.os,I.bare,#[λb o e n N F=>?_,λb o e n N F=>?_,I.base.free,λb o e F=>?_,I.base.tups,I.base.frzs,I.base.tbls],#[_,Ee,λj y v' t G Y=>?_],λy c e=>?_,I.free,I.freeC,λp hp=>?_,C #[oL,Ik,I.free] l,by simpa using I.len] #[_,l,.inl rfl];exact(l.2 b<|bF<|aV (aS e) I.ok.above).trans<|I.base.keep b o e n N F;obtain ⟨sl,t⟩:=I.base.slot b o e n N F;exact#[sl,(l.2 b<|bF<|aV (aS e) I.ok.above).trans t];obtain ⟨o',t⟩:=I.base.there b o e F;exact#[o',(l.2 b<|bF<|aV (aS e) I.ok.above).trans t];by_cases O:j=i;subst O;rw[R]at t;cases t;rw[fD J]at G;cases G;exact#[u,r,.inl #[L,by simp]];rw [cI<|Ne.symm O] at G;obtain⟨u',r',q⟩:=hl j y v' t G Y;refine#[u',r',?_];rcases q with⟨k,e⟩ | ⟨k,c,e,z⟩
 refine .inl #[k,?_];have:y≠x:=λe=>O<|qO hN t<|e ▸ R;simp[this,e];exact .inr #[k,c,e,z.sameBut l<|cne y c e];obtain ⟨U,z⟩:=I.cell y c e;exact#[U,z.sameBut l<|cne y c e];obtain ⟨e,n,T,nf,d⟩:=I.pin p hp;exact#[(l.2 p.1 T).trans e,n,T,nf,d];have W:X.fn x=true:=by
  rcases hf with z | z
  exact z;rw[z]at L;cases L
 obtain⟨c,D⟩:=I.ok.has x<|.inl L;obtain⟨U,z⟩:=I.cell x c D;refine wpAny_storeName_cell I.ok.kind L D z<|λh' Mt l=>?_;obtain⟨oc,Hi,Oc⟩:=id z;refine h { s with heap:=h' } #[I.ok,I.os,I.bare,#[λb o e n N F=>?_,λb o e n N F=>?_,I.base.free,λb o e F=>?_,I.base.tups,I.base.frzs,I.base.tbls],#[m,Z.sameBut l<|Ne.symm<|cne x c D,λj y v' t G Y=>?_],λy S e=>?_,I.free,I.freeC,λp hp=>?_,C #[oc,Hi,I.freeC x c D] l,by simpa using I.len] #[c,l,.inr D];exact(l.2 b<|bF<|aV (aS e)<|I.ok.cab x c W D).trans<|I.base.keep b o e n N F;obtain ⟨sl,t⟩:=I.base.slot b o e n N F;exact#[sl,(l.2 b<|bF<|aV (aS e)<|I.ok.cab x c W D).trans t];obtain ⟨o',t⟩:=I.base.there b o e F;exact#[o',(l.2 b<|bF<|aV (aS e)<|I.ok.cab x c W D).trans t];by_cases O:j=i;subst O;rw[R]at t;cases t;rw[fD J]at G;cases G;exact#[u,r,.inr #[.inl L,c,D,Mt]];rw [cI<|Ne.symm O] at G;obtain⟨u',r',q⟩:=hl j y v' t G Y;refine#[u',r',?_];rcases q with q | ⟨k,S,e,z'⟩
 exact .inl q;refine .inr #[k,S,e,z'.sameBut l ?_];rintro rfl;exact O<|qO hN t<|I.ok.inj _ _ _ e D ▸ R;by_cases Rf:S=c;subst Rf;exact#[_,Mt];obtain ⟨w2,z2⟩:=I.cell y S e;exact#[w2,z2.sameBut l Rf];obtain ⟨e,n,T,nf,d⟩:=I.pin p hp;refine#[(l.2 p.1 ?_).trans e,n,T,nf,d];intro q;rw[q,Hi]at e;have q':oc=p.2:=ozI e;exact d U (by rw[<-q'];exact Oc)
def zD{M}{A}{E}{i}{x}{v:V}{u}{Q}(I:Inv X f g H s)(c:X.N.Nodup)(j:X.N[i]? = some x)(l:Loc X.env.scope x)(r:RelV v u)
  (h:∀a,Inv X f (g.set i<|some v) H a->Q () a) (e:X.fn x=true\/X.env.scope.names.lookup x=some .local:=by first | exact .inl rfl | exact .inr rfl | assumption):wpAny M A (storeName X.env x u) Q E s:=
 ka_ I c j l r (λa b _=>h a b) e
def Inv.call'(I:Inv X f g H s)(l:a.os=s.os)(u:Un (frs X.stack) ch H B s.heap a.heap)(h:HOk X.prog X.w B a.heap)(j:AllBare a.gens)
  (i:∀b∈ch,(b∈X.ex\/X.s₀.heap.objs.size<=b)/\b≠X.env.locals/\(∀x c,X.env.cells.lookup x=some c->c≠b)/\∀p∈X.pn++f,p.1≠b):Inv X f g B a:=by
 obtain⟨h',g',d',t',m⟩:=a;have e:m=s.os:=l;subst e;exact I.call (g':=g') (t':=t') (d':=d') u h j i
end
abbrev XK:=Value->Option Addr->Hp->Prop
abbrev St:=List T5
abbrev VK:=V->Hp->Prop
abbrev TE:=St->Hp->VK->Prop
abbrev TT:=St->Hp->(Bool->Hp->Prop)->Prop
abbrev TA:=St->Hp->(S3->Hp->Prop)->Prop
structure Ends where
 nx:St->Hp->Prop
 rt:VK
 bk:St->Hp->Prop:=λ_ _=>False
 ct:St->Hp->Prop:=λ_ _=>False
abbrev TS:=Ends->St->Hp->Prop
def EP(X:Cx)(b:gM)(e:St)(Q:VK)(u:Value)(c:Shared):Prop:=∃v a,Inv X b e a c/\RelV v u/\Q v a
def TP(X:Cx)(c:gM)(f:St)(Q:Bool->Hp->Prop)(b:Bool)(e:Shared):Prop:=∃a,Inv X c f a e/\Q b a
def AP(X:Cx)(c:gM)(f:St)(Q:S3->Hp->Prop)(us:S8)(e:Shared):Prop:=∃b a,Inv X c f a e/\Vals b us/\Q b a
def SP(X:Cx)(c:gM)(D:Ends)(f:Flow)(e:Shared):Prop:=
 match f with
 | .next=>∃a b,Inv X c a b e/\D.nx a b
 | .brk=>∃a b,Inv X c a b e/\D.bk a b
 | .cont=>∃a b,Inv X c a b e/\D.ct a b
 | .ret u=>∃v a b,Inv X c a b e/\RelV v u/\D.rt v b
def PE(X:Cx)(e:Expr)(t:TE):Prop:=
 ∀(b:gM) (s:Shared) (a:St) (H:Hp) (Q:VK),Inv X b a H s->t a H Q->wpAny `d X.A (eval e X.env) (EP X b a Q) X.xe s
def PT(X:Cx)(e:Expr)(t:TT):Prop:=
 ∀(b:gM) (s:Shared) (a:St) (H:Hp) (Q:Bool->Hp->Prop),Inv X b a H s->t a H Q->wpAny `d X.A (isTrue e X.env<|eval e X.env) (TP X b a Q) X.xe s
def PW(X:Cx)(e:Expr)(t:TT):Prop:=
 ∀(a:Sem Value) (c:gM) (s:Shared) (b:St) (H:Hp) (Q:Bool->Hp->Prop),Inv X c b H s->t b H Q->wpAny `d X.A (isTrue e X.env a) (TP X c b Q) X.xe s
def PW.pt(h:PW X e t):PT X e t:=h _
def PA(X:Cx)(e:T6)(t:TA):Prop:=
 ∀(a:Pos) (c:gM) (s:Shared) (b:St) (H:Hp) (Q:S3->Hp->Prop),Inv X c b H s->t b H Q->wpAny `d X.A (spliced<|backTo a<|starEach e X.env) (AP X c b Q) X.xe s
def PS(X:Cx)(st:Stmt)(t:TS):Prop:=
 ∀(a:gM) (s:Shared) (b:St) (H:Hp) (D:Ends),Inv X a b H s->t D b H->wpAny `d X.A (exec st X.env) (SP X a D) X.xe s
def PSs(X:Cx)(st:List Stmt)(t:TS):Prop:=
 ∀(a:gM) (s:Shared) (b:St) (H:Hp) (D:Ends),Inv X a b H s->t D b H->wpAny `d X.A (execs st X.env) (SP X a D) X.xe s
def dR{Q b:c->Shared->Prop}(h:wpAny M A t Q E s)(e:∀a s,Q a s->b a s):wpAny M A t b E s:=wpAny_mono h e λ_ _ x=>x
section
variable{X:Cx}
def fO(i:Nat):TE:=λa H Q=>∃v,a[i]? = some (some v)/\Q v H
def tC(v:V):TE:=λ_ H Q=>Q v H
def aWp(t:X.N[i]? = some x)(hv:Vis X.env.scope x)(g:U5 x:=by decide)(q:U6 x:=by decide):PE X (.Name x f)<|fO i:=by
 intro p s B H Q I h;obtain⟨v,e,h⟩:=h;obtain⟨m,A,y⟩:=I.loc;obtain⟨u,r,l⟩:=y i x v t e hv;have a:EP X p B Q u s:=#[v,H,I,r,h];rcases l with⟨b,z⟩ | ⟨b,c,o,j⟩
 exact wpAny_Name (wpAny_loadName_local I.ok.kind b A z a) g;rcases b with b | b
 exact wpAny_Name (wpAny_loadName_cell I.ok.kind b o j a) g;exact wpAny_Name (wpAny_loadName_free I.ok.kind b o j a q) g
def kp_:PE X (.Constant (.int i) j f)<|tC<|.int i:=λ_ _ _ H _ I h=>wpAny_Constant_int #[.int i,H,I.tok _,`r,h]
def bEo:PE X (.Constant (.bool b) j f)<|tC<|.bl b:=λ_ _ _ H _ I h=>Constant_bool #[.bl b,H,I,rfl,h]
def aWs:PE X (.Constant .none j f)<|tC .non:=λ_ _ _ H _ I h=>Constant_none #[.non,H,I,rfl,h]
def aJv:PE X (.Constant (.str x) j f)<|tC<|.str x:=λ_ _ _ H _ I h=>Calls.Constant_str #[.str x,H,I.tok _,`r,h]
def Gl(X:Cx)(x:Str):Prop:=X.env.kindOf x=some .globalImplicit
def ha_{E}{Aa}{s}{e:St}{H}{x}{u}{f}{Q}(I:Inv X Aa e H s)(b:Gl X x)(c:X.mg x=some u)(h:Q u s)
  (a:U5 x:=by decide):wpAny `d X.A (eval (.Name x f) X.env) Q E s:=
 Calls.Name_function_global I.ok.kind b (Calls.loadGlobal_global (by rw[I.ok.glob];exact I.mod.glob.keeps I.bk) c h) a
def gp_{E}{Aa}{s}{j:St}{H}{x}{u}{f}{Q}(I:Inv X Aa j H s)(e:Gl X x)(g:X.mg x=none)(hv:bootBuiltins x=some u)(h:Q u s)
  (i:x ≠ "__name__":=by decide) (c:U5 x:=by decide):wpAny `d X.A (eval (.Name x f) X.env) Q E s:=by
 obtain⟨l,a,b⟩:=I.mod.blt;exact Calls.Name_function_global I.ok.kind e (Calls.loadGlobal_builtin (by rw[I.ok.glob];exact I.mod.glob.keeps I.bk) g (by rw[I.ok.blt];exact a.keeps I.bk) ((b x i).trans hv) h) c
def ev_(b:Gl X x)(c:X.mg x=some u)(r:RelV v u)(a:U5 x:=by decide):PE X (.Name x f)<|tC v:=
 λ_ _ _ H _ I h=>ha_ I b c #[v,H,I,r,h] a
def iq_(b:Gl X x)(c:X.mg x=none)(hv:bootBuiltins x=some u)(r:RelV v u)(e:x ≠ "__name__":=by decide)(a:U5 x:=by decide):PE X (.Name x f)<|tC v:=
 λ_ _ _ H _ I h=>gp_ I b c hv #[v,H,I,r,h] e a
variable{a b:Expr}{p w:TE}{f:Pos}
def PC(X:Cx)(op:CmpOp)(a b:Expr)(t:TE):Prop:=
 ∀(h:gM) (s:Shared) (g:St) (H:Hp) (Q:VK),Inv X h g H s->t g H Q ->
  wpAny `d X.A (eval a X.env) (λv c=>wpAny `d X.A (eval b X.env) (λu e=>wpAny `d X.A (compareOp op v u) (EP X h g Q) X.xe e) X.xe c) X.xe s
def b7(b:Expr)(h:op ≠ .In)(g:op ≠ .NotIn):behindInMarks op b=false:=by
 have c:(op == CmpOp.In)=false:=by grind
 have e:(op == CmpOp.NotIn)=false:=by grind
 cases b<;>simp[behindInMarks,c,e]
def tB(t:TE):TT:=λg H Q=>t g H λx e=>∃c,x=.bl c/\Q c e
def aWv(h:PC X op a b t)(e:behindInMarks op b=false:=by first | exact b7 _ `b `b | rfl):PE X (.Compare a [op] [b] f) t:=λc s i H Q I g=>wpAny_Compare1 (h c s i H Q I g) e
def aWf(h:PC X op a b t)(e:behindInMarks op b=false:=by first | exact b7 _ `b `b | rfl):PT X (.Compare a [op] [b] f)<|tB t:=by intro g s z H Q I o;refine wpAny_isTrue_Compare1 (dR (h g s z H _ I o) λv A e=>dR e λu B m=>dR m λc C i=>?_) e;obtain⟨x,j,l,y,r⟩:=i;obtain⟨d,rfl,q⟩:=r;cases y;exact wpAny_truthy_bool #[j,l,q]
def aWd(h:PE X e t)(m:∀c,isTrue e X.env c=(do let v <-c;standAt e.pos;holding [v] (truthy v)):=by intro _;rfl):PT X e<|tB t:=by intro g s y H Q I o;refine isTrue_plain (dR (h g s y H _ I o) λv z i=>?_)<|m _;obtain⟨x,j,l,u,r⟩:=i;obtain⟨d,rfl,q⟩:=r;cases u;exact wpAny_truthy_bool #[j,l,q]
variable{g o:TT}{rest:T6}
def bJn(t u:TT):TT:=λh H Q=>t h H λc e=>if c=true then u h e Q else Q false e
def tOr(t u:TT):TT:=λh H Q=>t h H λc e=>if c=true then Q true e else u h e Q
def bJi(t:TT):TT:=λh H Q=>t h H λc e=>Q (!c) e
def aPm(ha:PT X a g):PW X (.BoolOp .And [a] f) g:=by
 intro m i s j H Q I h;refine isTrue_and<|dR (ha i s j H Q I h) λc l e=>?_;cases c with
 |true=>exact isTrue_and_nil e
 |false=>exact e
def aVy(ha:PT X a g):PW X (.BoolOp .Or [a] f) g:=by
 intro m i s j H Q I h;refine isTrue_or<|dR (ha i s j H Q I h) λc l e=>?_;cases c with
 |false=>exact isTrue_or_nil e
 |true=>exact e
def aVz(ha:PT X a g)(r:PW X (.BoolOp .And (b::rest) f) o):PW X (.BoolOp .And (a::b::rest) f)<|bJn g o:=by
 intro u e s m H Q I h;refine isTrue_and<|dR (ha e s m H _ I h) λc t q=>?_;obtain⟨i,j,l⟩:=q;cases c with
 |true=>exact r u e t m i Q j l
 |false=>exact#[i,j,l]
def bEg(ha:PT X a g)(r:PW X (.BoolOp .Or (b::rest) f) o):PW X (.BoolOp .Or (a::b::rest) f)<|tOr g o:=by
 intro u e s m H Q I h;refine isTrue_or<|dR (ha e s m H _ I h) λc t q=>?_;obtain⟨i,j,l⟩:=q;cases c with
 |true=>exact#[i,j,l]
 |false=>exact r u e t m i Q j l
def aWe(ha:PT X a g):PT X (.UnaryOp .Not a f)<|bJi g:=by intro e s j H Q I h;exact isTrue_not<|ha e s j H (λc i=>Q (!c) i) I h
def bDw(p w:TE):TE:=λh H Q=>p h H λx e=>∃c,x=.bl c/\if c=true then w h e Q else Q (.bl false) e
def bDp(p:TE):TE:=λh H Q=>p h H λx e=>∃c,x=.bl c/\Q (.bl<|!c) e
def aWq(h:PE X a t):PE X (.BoolOp op [a] f) t:=λc s i H Q I e=>BoolOp_one<|h c s i H Q I e
def aWw(ha:PE X a p)(r:PE X (.BoolOp .And (b::rest) f) w):PE X (.BoolOp .And (a::b::rest) f)<|bDw p w:=by
 intro i s m H Q I h;refine BoolOp_and<|dR (ha i s m H _ I h) λv u q=>?_;obtain⟨x,j,l,t,e⟩:=q;obtain⟨c,rfl,e⟩:=e;cases t;refine wpAny_truthy_bool ?_;cases c with
 |true=>exact r i u m j Q l e
 |false=>exact#[.bl false,j,l,rfl,e]
def aWr(ha:PE X a p):PE X (.UnaryOp .Not a f)<|bDp p:=by intro i s r H Q I h;refine UnaryOp_<|dR (ha i s r H _ I h) λv t j=>?_;obtain⟨x,l,m,q,e⟩:=j;obtain⟨c,rfl,e⟩:=e;cases q;exact not_of<|wpAny_truthy_bool #[.bl<|!c,l,m,rfl,e]
end
def SqL(K:dN)(H:Hp)(a:Addr)(xs:S3):Prop:=
 Rd H a (.lst xs) \/
  ∃(o:Obj) (b:T8) (n:Nat),K.lookup a=some o/\o.cls=.type "list" /\ o.dict=none/\o.data=.seq b n/\b.size<=sizeLine/\Vals xs b.toList
def SqT(K:dN)(H:Hp)(a:Addr)(xs:S3):Prop:=
 Rd H a (.tup xs) \/
  ∃(o:Obj) (b:T8) (n:Nat),K.lookup a=some o/\o.cls=.type "tuple" /\ o.data=.seq b n/\b.size<=sizeLine/\Vals xs b.toList
def RelV.abs(r:RelV x u):aNp u=some x:=by
 cases x with
 |non=>cases r;rfl
 |bl _=>cases r;rfl
 |int _=>obtain⟨t,rfl⟩:=r;rfl
 |str _=>obtain⟨t,rfl⟩:=r;rfl
 |byt _=>obtain⟨t,rfl⟩:=r;rfl
 |flt _=>obtain⟨t,rfl⟩:=r;rfl
 |ref _=>cases r;rfl
 |ty _=>cases r;rfl
def RelV.inj(r:RelV x u)(q:RelV y u):x=y:=ozI<|r.abs.symm.trans q.abs
def Vals.inj:∀{xs ys} {us},Vals xs us->Vals ys us->xs=ys
 |_,_,_,.nil,.nil=>rfl
 |_,_,_,.cons r t,.cons r' t'=>by rw[r.inj r',Vals.inj t t']
section
variable{X:Cx}{c:gM}{b:St}{H:Hp}{s:Shared}{a:Addr}{xs ys:S3}
def SqL.of{K}(h:H a=some (.lst xs)):SqL K H a xs:=.inl<|.inl h
def SqT.of{K}(h:H a=some (.tup xs)):SqT K H a xs:=.inl<|.inl h
def Inv.list(I:Inv X c b H s)(h:SqL X.K H a xs):∃its:S8,Vals xs its/\PlainL s.heap a its.toArray/\xs.length<=sizeLine:=by
 rcases h with h | ⟨o,its,n,i,f,g,j,l,r⟩
 obtain ⟨z,its,n,r,e⟩:=h.ok I.hok;exact#[its,r,#[_,n,e,rfl,rfl,rfl],z];refine #[its.toList,r,#[o,n,I.kIn a o i,f,g,by simpa using j],?_];have e:=r.length;simp only[Array.length_toList]at e;lia
def Inv.tuple(I:Inv X c b H s)(h:SqT X.K H a xs):∃its:S8,Vals xs its/\IsTup s.heap a its.toArray/\xs.length<=sizeLine:=by
 rcases h with h | ⟨o,its,n,g,f,i,j,r⟩
 obtain ⟨z,its,r,p⟩:=h.ok I.hok;exact#[its,r,p,z];refine #[its.toList,r,#[o,I.kIn a o g,f,n,by simpa using i],?_];have e:=r.length;simp only[Array.length_toList]at e;lia
def Inv.list_inj(I:Inv X c b H s)(h:SqL X.K H a xs)(h':SqL X.K H a ys):xs=ys:=by
 obtain⟨g,r,⟨o,n,e,_,_,d⟩,_⟩:=I.list h;obtain⟨f,l,⟨q,p,j,_,_,i⟩,_⟩:=I.list h';rw[e]at j;cases j;rw[d]at i;injection i with m _
 have:g=f:=by grind
 subst this;exact r.inj l
def Inv.tuple_inj(I:Inv X c b H s)(h:SqT X.K H a xs)(h':SqT X.K H a ys):xs=ys:=by
 obtain⟨g,r,⟨o,e,_,n,d⟩,_⟩:=I.tuple h;obtain⟨f,l,⟨q,j,_,p,i⟩,_⟩:=I.tuple h';rw[e]at j;cases j;rw[d]at i;injection i with m _
 have:g=f:=by grind
 subst this;exact r.inj l
end
abbrev Cx.wish(X:Cx)(E:hX):Cx:={ X with xe:=E }
abbrev Cx.nox(X:Cx):Cx:=X.wish λ_ _=>False
def Cx.Ok.wish{X:Cx}(ok:X.Ok)(E:hX):(X.wish E).Ok:=
 #[ok.mod,ok.kind,ok.glob,ok.blt,ok.above,ok.inj,ok.has,ok.cab,ok.hd,ok.frames,ok.stk,ok.exf,ok.bs,ok.bsz,ok.noex,ok.exfs,ok.funs,ok.frf]
def Cx.Ok.unwish{X:Cx}(ok:(X.wish E).Ok):X.Ok:=
 #[ok.mod,ok.kind,ok.glob,ok.blt,ok.above,ok.inj,ok.has,ok.cab,ok.hd,ok.frames,ok.stk,ok.exf,ok.bs,ok.bsz,ok.noex,ok.exfs,ok.funs,ok.frf]
section
variable{X:Cx}{a:gM}{b:St}{H:Hp}{s:Shared}{E:hX}
def Inv.wish(I:Inv X a b H s)(E:hX):Inv (X.wish E) a b H s:=#[I.ok.wish E,I.os,I.bare,I.base,I.loc,I.cell,I.free,I.freeC,I.pin,I.hok,I.len]
def Inv.unwish(I:Inv (X.wish E) a b H s):Inv X a b H s:=#[I.ok.unwish,I.os,I.bare,I.base,I.loc,I.cell,I.free,I.freeC,I.pin,I.hok,I.len]
def SP.unwish(h:SP (X.wish E) a D f s'):SP X a D f s':=by
 cases f with
 |next=>obtain⟨c,e,I,q⟩:=h;exact#[c,e,I.unwish,q]
 |brk=>obtain⟨c,e,I,q⟩:=h;exact#[c,e,I.unwish,q]
 |cont=>obtain⟨c,e,I,q⟩:=h;exact#[c,e,I.unwish,q]
 |ret u=>obtain⟨v,c,e,I,r,q⟩:=h;exact#[v,c,e,I.unwish,r,q]
def PSs.nox{st}(h:PSs X.nox st t):PSs X st t:=λa s b H D I c =>
 wpAny_mono (h a s b H D (I.wish _) c) (λ_ _ q=>q.unwish) λ_ _ z=>False.elim z
end
section
variable{X:Cx}{st:Stmt}{rest:List Stmt}{t u:TS}{e:Expr}{i:TE}{g:Pos}
def bDq:TS:=λD a H=>D.nx a H
def bJg(t u:TS):TS:=λD a H=>t { D with nx:=u D } a H
def aPn:PSs X [] bDq:=λ_ _ a H _ I h=>wpAny_execs_nil #[a,H,I,h]
def aJm(l:PS X st t)(m:PSs X rest u):PSs X (st::rest)<|bJg t u:=by
 intro b s p H D I h;refine wpAny_execs_cons (dR (l b s p H { D with nx:=u D } I h) λf o q=>?_);cases f with
 |next => obtain⟨a,c,j,q⟩:=q;exact m b o a c D j q
 |ret v=>exact q
 |brk=>exact q
 |cont=>exact q
def wG(b:PS X st t):PSs X [st] t:=by
 intro a s c H D I h;refine wpAny_execs_cons<|dR (b a s c H D I h) λf j q=>?_;cases f with
 |next=>exact wpAny_execs_nil q
 |ret v=>exact q
 |brk=>exact q
 |cont=>exact q
def Inv.quiet(I:Inv X a b H s):interactive X.env=false:=by simp[interactive,I.ok.kind]
def aAw(i:TE):TS:=λD a H=>i a H λ_ b=>D.nx a b
def io_(l:PE X e i)(m:swapsWith e none g.line X.env=pure false:=by rfl):PS X (.Expr e g)<|aAw i:=by intro b s a H D I h;refine wpAny_Expr_any (dR (l b s a H _ I h) λv q c=>?_) I.quiet m;obtain⟨x,f,j,p,o⟩:=c;exact#[a,f,j,o]
def bJh(i:TE):TS:=λD a H=>i a H D.rt
def aWh(l:PE X e i):PS X (.Return (some e) g)<|bJh i:=by intro b s a H D I h;refine wpAny_Return_some<|dR (l b s a H _ I h) λv p c=>?_;obtain⟨x,f,j,o,m⟩:=c;exact#[x,a,f,j,o,m]
def bJk(c:TT)(t u:TS):TS:=λD a H=>c a H λb f=>if b=true then t D a f else u D a f
def bEh(v:PT X c tc)(ha:PSs X a t)(r:PSs X b u):PS X (.If c a b g)<|bJk tc t u:=by
 intro f s j H D I h;refine wpAny_If<|dR (v f s j H _ I h) λd p q=>?_;obtain⟨l,m,o⟩:=q;cases d with
 |true=>exact ha f p j l D m o
 |false=>exact r f p j l D m o
def aVl:TS:=λ_ _ _=>False
def aEq:PSs X sts aVl:=λ_ _ _ _ _ _ h=>h.elim
end
abbrev TG:=V->St->Hp->(St->Hp->Prop)->Prop
abbrev TGs:=S3->St->Hp->(St->Hp->Prop)->Prop
def PG(X:Cx)(a:Expr)(t:TG):Prop:=
 ∀(c:gM) (s:Shared) (f:St) (H:Hp) (v:V) (u:Value) (Q:St->Hp->Prop),Inv X c f H s->RelV v u->t v f H Q ->
  wpAny `d X.A (assign a X.env u) (λ_ g=>∃b e,Inv X c b e g/\Q b e) X.xe s
def PGs(X:Cx)(ts:T6)(t:TGs):Prop:=
 ∀(b:gM) (s:Shared) (g:St) (H:Hp) (f:S3) (e:S8) (Q:St->Hp->Prop),Inv X b g H s->Vals f e->t f g H Q ->
  wpAny `d X.A (assignInOrder ((assignEach ts X.env).map (·.2)) e) (λ_ h=>∃a c,Inv X b a c h/\Q a c) X.xe s
abbrev bHj:=V->V->V->Hp->(Hp->Prop)->Prop
def bHk(X:Cx)(t:bHj):Prop:=
 ∀(a:gM) (s:Shared) (f:St) (H:Hp) (o i v:V) (e c u:Value) (Q:Hp->Prop),Inv X a f H s->RelV o e->RelV i c->RelV v u->t o i v H Q ->
  wpAny `d X.A (setItem e c u) (λ_ g=>∃b,Inv X a f b g/\Q b) X.xe s
section
variable{X:Cx}{c:Pos}
def kX(i:Nat):TG:=λv a H Q=>Q (a.set i<|some v) H
def kI(b:X.N.Nodup)(f:X.N[i]? = some x)(g:Loc X.env.scope x)(e:X.fn x=true\/X.env.scope.names.lookup x=some .local:=by first | exact .inl rfl | exact .inr rfl | assumption):PG X (.Name x c)<|kX i:=by intro j s m H v u Q I r h;exact wpAny_assign_Name<|zD I b f g r (λl a=>#[_,H,a,h]) e
def aRq:TGs:=λa b H Q=>a=[]/\Q b H
def aCv(t:TG)(u:TGs):TGs:=λe f H Q=>∃v r,e=v::r/\t v f H λa b=>u r a b Q
def eu_:PGs X [] aRq:=by intro b s a H g f Q I r h;obtain⟨e,h⟩:=h;subst e;cases r;exact assignInOrder_nil #[a,H,I,h]
def sP(m:PG X e t)(o:PGs X a u)
  (p:(assignEach (e::a) X.env).map (·.2)=assign e X.env::(assignEach a X.env).map (·.2):=by rfl):PGs X (e::a)<|aCv t u:=by
 intro f s A H D B Q I r h;obtain⟨v,C,l,h⟩:=h;subst l;cases r with
 |cons r y => rw[p];refine assignInOrder_cons<|dR (m f s A H _ _ _ I r h) λ_ z g=>?_;obtain⟨b,i,j,q⟩:=g;exact o f z b i _ _ Q j y q
def aMj(K:dN)(n:Nat)(t:TGs):TG:=λv e H Q=>∃a b,v=.ref a/\SqT K H a b/\b.length=n/\t b e H Q
def ko_{k}(q:X.calm=true)(h:PGs X f t)
  (z:(assignEach f X.env).length=n:=by rfl) (l:(assignEach f X.env).findIdx? (·.1)=none:=by rfl):PG X (.Tuple f k c)<|aMj X.K n t:=by
 intro j s F H v u Q I r g;obtain⟨a,E,p,A,y,g⟩:=g;subst p;cases r;obtain⟨D,i,B,J⟩:=I.tuple A;refine assign_Tuple_tuple (I.ok.hd q) B (by simp[z,<-y,i.length]) l λG C=>?_;have m:=I.kept (t':=s.toks) λb o e=>C b o (bF<|aS e) e;exact h j _ F H E _ Q m (by simpa using i) g
def bGd(to g:TE)(t:bHj):TG:=λv a H Q=>to a H λo b=>g a b λi e=>t o i v e λf=>Q a f
def aJu(B:PE X o to)(A:PE X i ti)(C:bHk X t)
  (ha:∀ v,assign (.Subscript o i c) X.env v=(do
   let a <-holding [v] (eval o X.env)
   let e <-holding [v,a] (eval i X.env)
   standAt c
   holding [v,a,e] (setItem a e v)
   release [v,a,e] []):=by intro _;rfl):PG X (.Subscript o i c)<|bGd to ti t:=by
 intro g s f H v u Q I r h;rw[ha];refine wpAny_bind<|wpAny_holding<|dR (B g s f H _ I h) λa L b=>?_;obtain⟨x,j,p,G,D⟩:=b;refine wpAny_bind<|wpAny_holding<|dR (A g L f j _ p D) λe M b=>?_;obtain⟨y,l,q,J,E⟩:=b;refine wpAny_bind<|wpAny_standAt<|wpAny_bind<|wpAny_holding<|dR (C g M f l x y v a e u _ q G J r E) λ_ N b=>?_;obtain⟨m,z,F⟩:=b;exact wpAny_release #[f,m,z,F]
def vO(e:TE)(g:TG):TS:=λD a H=>e a H λx b=>g x a b D.nx
def wH(m:PE X e te)(o:PG X tg g)(p:swapsWithSole [tg] e c.line X.env=pure false:=by rfl)(r:swappedStores [tg] e X.env=pure none:=by rfl)
  (l:(assignEach [tg] X.env).map (·.2)=[assign tg X.env]:=by rfl):PS X (.Assign [tg] e c)<|vO te g:=by
 intro a s b H D I h;refine wpAny_Assign_stores (dR (m a s b H _ I h) λv y f=>?_) p r;obtain⟨x,i,j,u,t⟩:=f;rw[l];exact dR (o a y b i x v _ j u t) λ_ z q=>q
def aWg(o:X.N.Nodup)(r:X.N[i]? = some x)(u:Loc X.env.scope x)(p:PE X e b)(t:swapsWith e (some<|.Name x a) c.line X.env=pure false:=by rfl)(q:X.fn x=true\/X.env.scope.names.lookup x=some .local:=by first | exact .inl rfl | exact .inr rfl | assumption) :
  PS X (.Assign [.Name x a] e c) (vO b<|kX i):=by
 intro f s B H D I h;refine wpAny_Assign_Name (dR (p f s B H _ I h) λv C g=>?_) t;obtain⟨y,j,l,A,z⟩:=g;exact zD l o r u A (λE m=>#[_,j,m,z]) q
end
section
variable{X:Cx}{a:Pos}
def aVi(c:TT)(j:TS):TS:=λD e H=>∃W:Nat->St->Hp->Prop,(∃m,W m e H)/\∀m e H,W m e H ->
 c e H λb h=>if b=true then ∃N:St->Hp->Prop,(∀f g,N f g->∃i,i<m/\W i f g)/\j { D with nx:=N,ct:=N,bk:=D.nx } e h else D.nx e h
def aJn(E:PassesOwn `d X.A X.env X.xe)(L:PT X c tc)(J:PSs X body tb):PS X (.While c body [] a)<|aVi tc tb:=by
 intro o s T H D I h;obtain⟨W,⟨M,w0⟩,turn⟩:=h;refine wpAny_While<|codeAny_whileLoop (λn O=>∃j y,Inv X o j y O/\W n j y) ?_ M #[T,H,I,w0];rintro n Q ⟨g,z,G,S⟩;refine wpAny_passesOwn E<|dR (L o Q g z _ G<|turn n g z S) λb R F=>?_;obtain⟨A,B,l⟩:=F;cases b with
 |true =>
  obtain⟨N,C,l⟩:=l;refine wpAny_passesOwn E<|dR (J o R g A _ B l) λf U m=>?_;cases f with
  |next => obtain⟨e,i,p,t⟩:=m;obtain⟨r,q,u⟩:=C e i t;exact#[r,q,e,i,p,u]
  |cont => obtain⟨e,i,p,t⟩:=m;obtain⟨r,q,u⟩:=C e i t;exact#[r,q,e,i,p,u]
  |brk=>exact m
  |ret v=>exact m
 |false => exact wpAny_execs_nil #[g,A,B,l]
end
structure It where
 go:Nat->Hp->Prop
 yld:Nat->Hp->V->Hp->Prop
 stop:Nat->Hp->Prop
def lP(X:Cx)(a:gM)(H:Hp)(b:Addr):Prop:=
 H b=none/\b≠X.env.locals/\b∉X.fs/\(b∈X.ex\/X.s₀.heap.objs.size<=b)/\(∀x c,X.env.cells.lookup x=some c->c≠b)/\∀p∈X.pn++a,p.1≠b
def Inv.fpOk{X}{Aa}{h:St}{H H'}{s}{b:Addr}(I:Inv X Aa h H s)(a:s.heap.objs.size<=b)(f:H' b=none):lP X Aa H' b:=by refine#[f,fY<|aV I.lt a,I.nofs a,.inr<|nzL I.sz a,λx c e z=>?_,λp g z=>?_];obtain ⟨v,q⟩:=I.cell x c e;exact absurd (aV q.lt (by rw[z];exact a))<|dM _;exact absurd (aV (aS (I.pin p g).1) (by rw[z];exact a))<|dM _
structure Turn(P:Program)(w:World)(K:dN)(tg:Expr)(J:It)(fp:T4)(it:Addr)(tn:Nat->Heap->Prop):Prop where
 mem:it∈fp
 obj:∀i h,tn i h->∀b∈fp,∃o,h.get? b=some o/\∀v,o.data ≠ .cell v
 keep:∀i h h',tn i h->(∀b∈fp,∀o,h.get? b=some o->h'.get? b=some o)->tn i h'
 item:∀(X:Cx),X.prog=P->X.w=w->X.K=K->X.calm=true->∀(i:Nat) (Aa:gM) (s:Shared) (σ:St) (H:Hp) (E:hX),Inv X Aa σ H s->(∀b∈fp,lP X Aa H b)->tn i s.heap->J.go i H ->
  wpAny (model P w) X.A (pyNext (.ref it)) (λr s1=>∃u,r=some u /\
   wpAny (model P w) X.A (letOwnedTupleGo tg (.ref it) u) (λ_ s2=>∃x H',Inv X Aa σ H' s2/\RelV x u/\J.yld i H x H'/\tn (i+1) s2.heap/\∀b∈fp,H' b=none) E s1) E s
 done:∀(X:Cx),X.prog=P->X.w=w->X.K=K->X.calm=true->∀(i:Nat) (Aa:gM) (s:Shared) (σ:St) (H:Hp) (E:hX),Inv X Aa σ H s->(∀b∈fp,lP X Aa H b)->tn i s.heap->J.stop i H ->
  wpAny (model P w) X.A (pyNext (.ref it)) (λr s1=>r=none/\Inv X Aa σ H s1) E s
 self:∀(A:Around) (i:Nat) (s:Shared) (Q:hX) (E:hX),tn i s.heap->Q (.ref it) s->wpAny (model P w) A (pyIter (.ref it)) Q E s
abbrev TI:=St->Hp->(It->Hp->Prop)->Prop
def PIE(X:Cx)(e:gM)(j:St)(i:Expr)(R:It->Hp->Prop)(c:Value)(g:Shared):Prop:=
 ∃(f:Addr) (fp:T4) (h:Nat->Heap->Prop) (J:It) (a:Hp),c=.ref f/\Inv X e j a g/\Turn X.prog X.w X.K i J fp f h/\h 0 g.heap/\(∀b∈fp,lP X e a b)/\R J a
def PI(X:Cx)(f a:Expr)(g:TI):Prop:=
 ∀(c:gM) (s:Shared) (b:St) (H:Hp) (R:It->Hp->Prop),Inv X c b H s->g b H R ->
  wpAny `d X.A (eval a X.env) (λv e=>wpAny `d X.A (pyIter v) (PIE X c b f R) X.xe e) X.xe s
def uF{M:Model}{A:Around}{E:hX}{s:Shared}{b:Expr}{it:Addr}{u:Value}{o:Obj}{n:String}{vs:T8}{Q:Unit->Shared->Prop}(g:s.heap.get? it=some o)(c:o.cls=.type n)(e:o.data=.fields vs)
    (f:["enumerate","zip","dict_itemiterator","dict_reverseitemiterator","odict_iterator","itertools.zip_longest","itertools.pairwise"].contains n=false) (a:Q () s):wpAny M A (letOwnedTupleGo b (.ref it) u) Q E s:=by
  unfold letOwnedTupleGo;cases b<;>first
    |exact wpAny_pure a
    |(cases u<;>first
        |exact wpAny_pure a
        | (refine wpAny_bind (wpAny_load g ?_)
           rw[c,e];show wpAny M A (if(["enumerate","zip","dict_itemiterator","dict_reverseitemiterator","odict_iterator","itertools.zip_longest","itertools.pairwise"].contains n&&vs[0]? == some (rawInt _))=true then _ else _) Q E s;rw[if_neg (by intro h;rw[f,Bool.false_and]at h;cases h)];exact wpAny_pure a))
def Itl(K:dN)(a:Addr):It:=
 #[λi H=>∃b x,SqL K H a b/\b[i]? = some x,λi H x c=>c=H/\∀b,SqL K H a b->b[i]? = some x,λi H=>∃b,SqL K H a b/\b.length<=i]
def Itt(K:dN)(a:Addr):It:=
 #[λi H=>∃b x,SqT K H a b/\b[i]? = some x,λi H x c=>c=H/\∀b,SqT K H a b->b[i]? = some x,λi H=>∃b,SqT K H a b/\b.length<=i]
def Itr(b:Int)(n:Nat):It:=#[λi _=>i<n,λi H x a=>a=H/\x=.int (b+i),λi _=>n<=i]
def aEg{P}{w}{K}{tg}(a it:Addr):Turn P w K tg (Itl K a) [it] it (λi h=>h.IsListIter it a i)where
 mem:=by simp
 obj:=λi h f b g=>by
  have e:b=it:=by simpa using g
  subst e;obtain⟨o,e,c,d⟩:=f;exact#[o,e,λv z=>by rw[d]at z;cases z]
 keep:=λi h M f k=>f.at λo e=>k it `g o e
 item:=by intro X D G C N i O s σ H E I l f F;subst D G C;obtain⟨V,x,m,q⟩:=F;obtain⟨J,L,p,Y⟩:=I.list m;obtain⟨u,U,Z⟩:=L.get q;obtain⟨r,t,S,y,A,B⟩:=l it `g;refine wpAny_pyNext_list_item f p.isList (x:=u) (by simpa using U) λM j n=>?_;have Q:=I.turned (t':=s.toks) (λb o g e=>(n.2 b g).trans e) r t y A B;obtain⟨o,e,c,d⟩:=id j;exact#[u,rfl,uF e c d rfl #[x,H,Q,Z,#[rfl,λys W=>by rw[I.list_inj W m];exact q],j,λb g=>(l b g).1]]
 done:=by intro X D G C N i O s σ H E I l f F;subst D G C;obtain⟨V,m,q⟩:=F;obtain⟨J,L,p,Y⟩:=I.list m;obtain⟨r,t,S,y,A,B⟩:=l it `g;have T:=L.length;exact wpAny_pyNext_list_end (I.ok.hd N) f p.isList (by simp;exact le_of_eq_of_le (id<|Eq.symm T) q) λM R=>#[rfl,I.turned (t':=s.toks) (λb o g e=>R b o g e) r t y A B]
 self:=λ_ _ _ _ _ f h=>wpAny_pyIter_listiter f h
def n_{P}{w}{K}{tg}(a it:Addr):Turn P w K tg (Itt K a) [it] it (λi h=>h.IsTupleIter it a i)where
 mem:=by simp
 obj:=λi h f b g=>by
  have e:b=it:=by simpa using g
  subst e;obtain⟨o,e,c,d⟩:=f;exact#[o,e,λv z=>by rw[d]at z;cases z]
 keep:=λi h M f k=>f.at λo e=>k it `g o e
 item:=by intro X C F B N i O s V H E I l f D;subst C F B;obtain⟨n,x,m,G⟩:=D;obtain⟨J,L,p,W⟩:=I.tuple m;obtain⟨u,T,Y⟩:=L.get G;obtain⟨q,r,S,t,y,A⟩:=l it `g;refine wpAny_pyNext_tuple_item f (p) (x:=u) (by simpa using T) λM j Z=>?_;have Q:=I.turned (t':=s.toks) (λb o g e=>(Z.2 b g).trans e) q r t y A;obtain⟨o,e,c,d⟩:=id j;exact#[u,rfl,uF e c d rfl #[x,H,Q,Y,#[rfl,λys U=>by rw[I.tuple_inj U m];exact G],j,λb g=>(l b g).1]]
 done:=by intro X C F B N i O s V H E I l f D;subst C F B;obtain⟨n,m,G⟩:=D;obtain⟨J,L,p,W⟩:=I.tuple m;obtain⟨q,r,S,t,y,A⟩:=l it `g;have hl:=L.length;exact wpAny_pyNext_tuple_end (I.ok.hd N) f (p) (by simp;lia) λM R=>#[rfl,I.turned (t':=s.toks) (λb o g e=>R b o g e) q r t y A]
 self:=λ_ _ _ _ _ f h=>wpAny_pyIter_tupleiter f h
def o6{P}{w}{K}{tg}(it:Addr)(j:Int)(n:Nat):Turn P w K tg (Itr j n) [it] it (λi h=>IsRangeIter h it (j+(i:Nat)*1) ((n:Int)-(i:Nat)) 1)where
 mem:=by simp
 obj:=λi h a b c=>by
  have e:b=it:=by simpa using c
  subst e;exact#[_,a,λv z=>by have O:=z;cases O]
 keep:=λi h u a k=>k it `g _ a
 item:=by intro X D F C y i B s G H E I g a A;subst D F C;obtain⟨l,m,M,p,q,r⟩:=g it `g;have W:=Walks.range (prog:=X.prog) (w:=X.w) (I.ok.hd y) it j 1 n;refine W.item i s _ _ A a λv u tk hv f N=>?_;obtain⟨t,rfl⟩:=hv;have J:Inv X B G H { s with heap:=u,toks:=tk }:=I.turned (λb o c e=>N b o (by simpa using c) e) l m p q r;refine#[_,rfl,uF f rfl rfl rfl #[.int<|j+i,H,J,#[t,?_],#[rfl,rfl],f,λb c=>(g b c).1]];rw[Int.mul_one]
 done:=by intro X D F C y i B s G H E I g a A;obtain⟨l,m,M,p,q,r⟩:=g it `g;exact wpAny_pyNext_range_end (I.ok.hd y) a (by have:n<=i:=A;lia) λu L=>#[rfl,I.turned (t':=s.toks) (λb o c e=>L b o c e) l m p q r]
 self:=λ_ _ _ _ _ a h=>wpAny_pyIter_rangeiter a h
section
variable{X:Cx}{c:Expr}
def aLz(K:dN)(e:TE):TI:=λg H R=>e g H λx b=>∃a,x=.ref a/\(∃f,SqL K b a f)/\R (Itl K a) b
def bKy(K:dN)(e:TE):TI:=λg H R=>e g H λx b=>∃a,x=.ref a/\(∃f,SqT K b a f)/\R (Itt K a) b
def aBk(t:PE X l tl):PI X c l<|aLz X.K tl:=by
 intro i s B H R I h;refine dR (t i s B H _ I h) λv g j=>?_;obtain⟨x,m,f,A,z⟩:=j;obtain⟨a,e,⟨E,u⟩,q⟩:=z;subst e;cases A;obtain⟨y,D,p,C⟩:=f.list u;refine wpAny_pyIter_list p.isList ?_;refine#[g.heap.objs.size,[g.heap.objs.size],_,_,m,rfl,f.kept (t':=g.toks) λb o e=>aD _ e,aEg a _,#[_,aW _ rfl,rfl,rfl],λb r=>?_,q];have e:b=g.heap.objs.size:=by simpa using r
 subst e;exact f.fpOk (aO _)<|f.hok.fresh<|aO _
def aWn(t:PE X l tl):PI X c l<|bKy X.K tl:=by
 intro i s B H R I h;refine dR (t i s B H _ I h) λv g j=>?_;obtain⟨x,m,f,A,z⟩:=j;obtain⟨a,e,⟨E,u⟩,q⟩:=z;subst e;cases A;obtain⟨y,D,p,C⟩:=f.tuple u;refine wpAny_pyIter_tuple (p) ?_;refine#[g.heap.objs.size,[g.heap.objs.size],_,_,m,rfl,f.kept (t':=g.toks) λb o e=>aD _ e,n_ a _,#[_,aW _ rfl,rfl,rfl],λb r=>?_,q];have e:b=g.heap.objs.size:=by simpa using r
 subst e;exact f.fpOk (aO _)<|f.hok.fresh<|aO _
def zU{g:gM}{i:St}{H:Hp}{s:Shared}{R:It->Hp->Prop}{E:hX}{a f:Int}{t u v:Tok}{tk:Nat}(I:Inv X g i H s)(m : -(2^62)<=a)(p:a<2^62)(r : -(2^62)<=f)(y:f<2^62)
  (q:R (Itr a (f-a).toNat) H):wpAny `d X.A (pyIter `m) (PIE X g i c R) E { s with heap:=s.heap.push { cls:=.type "range",data:=.fields [.int a t,.int f u,.int 1 v].toArray },toks:=tk }:=by
 refine wpAny_pyIter_range (IsRange.new ..) (small_one m p r y) ?_;have h:Inv X g i H { s with heap:=s.heap.push { cls:=.type "range",data:=.fields [.int a t,.int f u,.int 1 v].toArray },toks:=tk }:=I.kept λb o e=>aD _ e;refine#[(s.heap.push { cls:=.type "range",data:=.fields [.int a t,.int f u,.int 1 v].toArray }).objs.size,[(s.heap.push { cls:=.type "range",data:=.fields [.int a t,.int f u,.int 1 v].toArray }).objs.size],_,_,H,rfl,
  h.kept (t':=tk) λb o e=>aD _ e,o6 _ a (f-a).toNat,?_,λb z=>?_,q]
 have j:a + ((0:Nat):Int) * 1=a:=by simp
 have l:(((f-a).toNat:Nat):Int)-((0:Nat):Int)=Builtin.Range.rangeSize a f 1:=by rw[rangeSize_one];split<;>lia
 show IsRangeIter _ _ (a+((0:Nat):Int)*1) ((((f-a).toNat:Nat):Int)-((0:Nat):Int)) 1;rw[j,l];exact aW _ rfl;have e:b=(s.heap.push { cls:=.type "range",data:=.fields [.int a t,.int f u,.int 1 v].toArray }).objs.size:=by simpa using z
 subst e;exact h.fpOk (aO _)<|h.hok.fresh<|aO _
def bFu(b:TA):TI:=λf H R=>b f H λe a=>∃j:Int,e=[.int j] /\ -(2^62)<=j/\j<2^62/\R (Itr 0 j.toNat) a
def bFt(b:TA):TI:=λf H R=>b f H λe a=>∃i j:Int,e=[.int i,.int j]/\(-(2^62)<=i/\i<2^62 /\ -(2^62)<=j/\j<2^62)/\R (Itr i (j-i).toNat) a
def aEt(l:Gl X "range")(m:X.mg "range" = none)(ha:PA X [a] ta)(o:starEach [a] X.env=[(false,eval a X.env)]:=by rfl):PI X c (.Call (.Name "range" p) [a] [] pos)<|bFu ta:=by
 intro f s z H R I h;refine Call_<|gp_ I l m boot_range<|cN (dR (ha pos f s z H _ I h) λC B g=>?_) o rfl;obtain⟨D,A,i,v,b⟩:=g;obtain⟨j,e,b,u,q⟩:=b;subst e;cases v with
 |cons r y => cases y;obtain⟨t,rfl⟩:=r;exact call_range_1<|zU i `a (W.kbt_pos 62) b u (by simpa using q)
def aEs(u:Gl X "range")(v:X.mg "range" = none)(ha:PA X [a,b] ta)(y:starEach [a,b] X.env=[(false,eval a X.env),(false,eval b X.env)]:=by rfl)(hs2:starEach [b] X.env=[(false,eval b X.env)]:=by rfl) :
  PI X c (.Call (.Name "range" p) [a,b] [] pos) (bFt ta):=by
 intro l s E H R I h;refine Call_<|gp_ I u v boot_range<|cN (dR (ha pos l s E H _ I h) λL G m=>?_) (by rw[y,hs2]) (by rw[hs2];rfl);obtain⟨M,F,o,D,f⟩:=m;obtain⟨i,j,e,⟨f,z,A,B⟩,q⟩:=f;subst e;cases D with
 |cons r g =>
  cases g with
  |cons C g => cases g;obtain⟨t,rfl⟩:=r;obtain⟨J,rfl⟩:=C;exact call_range_2<|zU o f z A B q
def bDs(p:TI)(g:TG)(o:TS):TS:=λD a H=>p a H λJ j=>∃W:Nat->Nat->St->Hp->Prop,(∃m,W 0 m a j)/\∀i m a H,W i m a H ->
 (J.stop i H/\D.nx a H)\/(J.go i H/\∃N:St->Hp->Prop,(∀e b,N e b->∃h,h<m/\W (i+1) h e b)/\∀x b,J.yld i H x b->g x a b λf l=>o { D with nx:=N,ct:=N,bk:=D.nx } f l)
def qE(fp:T4)(h:Heap):List<|Addr×Obj:=fp.filterMap λb=>(h.get? b).map λo=>(b,o)
def fx_(a:b∈fp)(e:h.get? b=some o):(b,o)∈qE fp h:=List.mem_filterMap.mpr #[b,a,by rw[e];rfl]
def aFa(g:p∈qE fp h):p.1∈fp/\h.get? p.1=some p.2:=by
 obtain⟨b,f,e⟩:=List.mem_filterMap.mp g;cases q:h.get? b with
 |none=>rw[q]at e;cases e
 |some o => rw[q]at e;have a:=ozI e;subst a;exact#[f,q]
def Inv.pinned(I:Inv X Aa g H s)(l:∀b∈fp,lP X Aa H b)(m:∀b∈fp,∃o,s.heap.get? b=some o/\∀v,o.data ≠ .cell v):Inv X (Aa++qE fp s.heap) g H s:=
 I.pins_of λp q=>(aX.mp q).elim (λz=>I.pin p<|aJ _ z) λz=>by obtain⟨f,e⟩:=aFa z;obtain⟨h,i,j,_⟩:=l p.1 f;obtain⟨o,a,d⟩:=m p.1 f;rw[e]at a;cases a;exact#[e,h,i,j,d]
def Inv.unpinned(I:Inv X (Aa++pl) a H s):Inv X Aa a H s:=I.pins_of λp b=>I.pin p<|aJ _<|aM _ b
def aWi(F:PassesOwn `d X.A X.env X.xe)(hc:X.calm=true)(hi:PI X c iter wi)(hg:PG X c g)(q:PSs X body tb)
  (hs:∀x,foldedSetIterable iter X.env x=pure x:=by intro _;rfl):PS X (.For c iter body [] pos)<|bDs wi g tb:=by
 intro C s σ H D I h;refine wpAny_For (dR (hi C s σ H _ I h) λv s1 h1=>dR h1 λa0 s2 h2=>?_) hs;obtain⟨it,fp,tn,J,H2,e,I2,T,Id,V,W,⟨m0,w0⟩,turn⟩:=h2;subst e;have t:∀{A:Hp},(∀b∈fp,A b=none)->∀b∈fp,lP X C A b:=λhn b q=>#[hn b q,(V b q).2];refine codeAny_forLoop_any (λn s'=>∃i y A,Inv X C y A s'/\tn i s'.heap/\(∀b∈fp,A b=none)/\W i n y A) ?_ m0 #[0,σ,H2,I2,Id,λb q=>(V b q).1,w0];rintro n s3 ⟨i,z,M,Z,st3,k,w3⟩;rcases turn i n z M w3 with⟨L,qn⟩ | ⟨go,N,hN,step⟩
 refine wpAny_passesOwn F<|dR (T.done X rfl rfl rfl hc i C s3 z M X.xe Z (t k) st3 L) fun r s4 E => ?_;obtain⟨R,I4⟩:=E;subst R;exact wpAny_execs_nil #[z,M,I4,qn]
 ·refine wpAny_passesOwn F<|dR (T.item X rfl rfl rfl hc i C s3 z M X.xe Z (t k) st3 go) fun r s4 E => ?_;obtain⟨u,R,h4⟩:=E;subst R;refine wpAny_passesOwn F<|dR h4 λ_ s5 E=>?_;obtain⟨x,Y,I5,r5,y5,Q,Pw⟩:=E;have O:=I5.pinned (t Pw)<|T.obj _ _ Q;refine wpAny_passesOwn F<|dR (hg _ s5 z Y x u _ O r5<|step x Y y5) λ_ s6 E=>?_;obtain⟨U,H6,I6,q6⟩:=E;refine wpAny_passesOwn F<|dR (q _ s6 U H6 _ I6 q6) λf S B=>?_;have p:∀{a:St} {j:Hp},Inv X (C++qE fp s5.heap) a j S->N a j->∃m,m<n/\∃i y A,Inv X C y A S/\tn i S.heap/\(∀b∈fp,A b=none)/\W i m y A:=λ{a j} l G=>by obtain⟨m',hm,w7⟩:=hN a j G;refine#[m',hm,i+1,a,j,l.unpinned,T.keep _ _ _ Q λb q o e=>(l.pin (b,o)<|aJ _<|aJ _<|fx_ q e).1,λb q=>?_,w7];obtain⟨o,e,d⟩:=T.obj _ _ Q b q;exact(l.pin (b,o)<|aJ _<|aJ _<|fx_ q e).2.1
  cases f with
  |next=>obtain⟨a,j,l,G⟩:=B;exact p l G
  |cont=>obtain⟨a,j,l,G⟩:=B;exact p l G
  |brk=>obtain⟨a,j,l,B⟩:=B;exact#[a,j,l.unpinned,B]
  |ret v=>obtain⟨x7,a,j,l,r7,B⟩:=B;exact#[x7,a,j,l.unpinned,r7,B]
end
abbrev R2:=V->V->Hp->VK->Prop
def OpR(X:Cx)(f:Value->Value->Sem Value)(r:R2):Prop:=
 ∀(a:gM) (s:Shared) (b:St) (H:Hp) (x y:V) (v u:Value) (Q:VK),Inv X a b H s->RelV x v->RelV y u->r x y H Q ->
  wpAny `d X.A (f v u) (EP X a b Q) X.xe s
def UnR(X:Cx)(f:Value->Sem Value)(r:V->Hp->VK->Prop):Prop:=
 ∀(a:gM) (s:Shared) (b:St) (H:Hp) (x:V) (v:Value) (Q:VK),Inv X a b H s->RelV x v->r x H Q ->
  wpAny `d X.A (f v) (EP X a b Q) X.xe s
def CallR(X:Cx)(f:Value)(r:S3->Hp->VK->Prop):Prop:=
 ∀(a:gM) (s:Shared) (e:St) (H:Hp) (c:S3) (b:S8) (Q:VK),Inv X a e H s->Vals c b->r c H Q ->
  wpAny `d X.A (call f b) (EP X a e Q) X.xe s
def bMe(X:Cx)(r:V->Hp->(Bool->Hp->Prop)->Prop):Prop:=
 ∀(a:gM) (s:Shared) (b:St) (H:Hp) (x:V) (v:Value) (Q:Bool->Hp->Prop),Inv X a b H s->RelV x v->r x H Q ->
  wpAny `d X.A (truthy v) (TP X a b Q) X.xe s
def tOp(r:R2)(e f:TE):TE:=λa H Q=>e a H λx b=>f a b λy c=>r x y c Q
def tUn(r:V->Hp->VK->Prop)(b:TE):TE:=λc H Q=>b c H λx a=>r x a Q
def rI(C:Int->Int->Prop)(g:Int->Int->V):R2:=λx y H Q=>∃i j,x=.int i/\y=.int j/\C i j/\Q (g i j) H
def rI0(g:Int->Int->V):R2:=λx y H Q=>∃i j,x=.int i/\y=.int j/\Q (g i j) H
def rU(g:Int->V):V->Hp->VK->Prop:=λx H Q=>∃i,x=.int i/\Q (g i) H
section
variable{X:Cx}{a b c:Expr}{e m o:TE}{l:Pos}
def bBq(ha:PE X a e)(B:PE X b m){R:V->V->Hp->Prop}(I:Inv X Aa i H s)
  (h:e i H λx t=>m i t λy g=>R x y g) {f:Value->Value->Sem Value}
  (C:∀v u q x y g,Inv X Aa i g q->RelV x v->RelV y u->R x y g->wpAny `d X.A (f v u) Q X.xe q) :
  wpAny `d X.A (eval a X.env) (λv j=>wpAny `d X.A (eval b X.env) (λu p=>wpAny `d X.A (f v u) Q X.xe p) X.xe j) X.xe s:=by
 refine dR (ha Aa s i H _ I h) λv J r=>?_;obtain⟨x,t,z,F,D⟩:=r;refine dR (B Aa J i t _ z D) λu q r=>?_;obtain⟨y,g,A,G,E⟩:=r;exact C v u q x y g A F G E
def bEn(p:OpR X (binaryOp op) r)(ha:PE X a e)(j:PE X b m):PE X (.BinOp a op b l)<|tOp r e m:=by intro f s B H Q I h;exact wpAny_BinOp<|bBq ha j I h λv u A x y g i t z q=>p f A B g x y v u Q i t z q
def aTr(q:UnR X (unaryOp op) r)(ha:PE X a e):PE X (.UnaryOp op a l)<|tUn r e:=by intro f s g H Q I h;refine UnaryOp_<|dR (ha f s g H _ I h) λv y i=>?_;obtain⟨x,j,p,u,t⟩:=i;exact q f y g j x v Q p u t
def opI{f}{C}{g:Int->Int->Int}
  (p:∀(i j:Int) (t u:Tok) (s:Shared) (Q:hX) (E:hX),C i j->Q (.int (g i j) s.toks) { s with toks:=s.toks+1 }->wpAny `d X.A (f (.int i t)<|.int j u) Q E s) :
  OpR X f (rI C λi j=>.int<|g i j):=by
 intro D s F H x y v u Q I z A h;obtain⟨i,j,rfl,rfl,r,q⟩:=h;obtain⟨t,rfl⟩:=z;obtain⟨B,rfl⟩:=A;exact p i j t B s _ _ r #[.int<|g i j,H,I.tok _,`r,q]
def aXk{f}{g:Int->Int->Int}
  (p:∀(i j:Int) (t u:Tok) (s:Shared) (Q:hX) (E:hX),Q (.int (g i j) s.toks) { s with toks:=s.toks+1 }->wpAny `d X.A (f (.int i t)<|.int j u) Q E s) :
  OpR X f (rI0 λi j=>.int<|g i j):=by
 intro B s C H x y v u Q I r z h;obtain⟨i,j,rfl,rfl,q⟩:=h;obtain⟨t,rfl⟩:=r;obtain⟨A,rfl⟩:=z;exact p i j t A s _ _ #[.int<|g i j,H,I.tok _,`r,q]
def aQj{f}{g:Int->Int->Bool}
  (p:∀(i j:Int) (t u:Tok) (s:Shared) (Q:hX) (E:hX),Q (.bool<|g i j) s->wpAny `d X.A (f (.int i t)<|.int j u) Q E s) :
  OpR X f (rI0 λi j=>.bl<|g i j):=by
 intro B s C H x y v u Q I r z h;obtain⟨i,j,rfl,rfl,q⟩:=h;obtain⟨t,rfl⟩:=r;obtain⟨A,rfl⟩:=z;exact p i j t A s _ _ #[.bl<|g i j,H,I,rfl,q]
def aNr(i j:Int):Prop:=0<=j/\j<=1000000/\i.natAbs<2^64
def aXj:OpR X (binaryOp .Add)<|rI0 λi j=>.int<|i+j:=aXk λ_ _ _ _ _ _ _ q=>add_int q
def aXb:OpR X (binaryOp .Sub)<|rI0 λi j=>.int<|i-j:=aXk λ_ _ _ _ _ _ _ q=>sub_int q
def aXf:OpR X (binaryOp .Mod)<|rI (λ_ j=>0<j) λi j=>.int<|i%j:=opI λi j _ _ _ _ _ f q=>by have g:(0:Int)<j:=f;exact mod_int' `a (by rw[Int.fmod_eq_emod_of_nonneg i `a];exact q)
def aXe:OpR X (binaryOp .Pow)<|rI aNr λi j=>.int<|i^j.toNat:=opI λ_ _ _ _ _ _ _ f q=>pow_int_small f.1 f.2.1 f.2.2 q
def aXc:OpR X (binaryOp .LShift)<|rI aNr λi j=>.int<|i*2^j.toNat:=opI λ_ _ _ _ _ _ _ f q=>lshift_int_small f.1 f.2.1 f.2.2 q
def aXi:OpR X (binaryOp .BitAnd)<|rI0 λi j=>.int<|Builtin.bitAnd i j:=aXk λ_ _ _ _ _ _ _ q=>and_int q
def unI{f}{g:Int->Int}
  (j:∀(i:Int) (t:Tok) (s:Shared) (Q:hX) (E:hX),Q (.int (g i) s.toks) { s with toks:=s.toks+1 }->wpAny `d X.A (f<|.int i t) Q E s) :
  UnR X f (rU λi=>.int<|g i):=by
 intro r s u H x v Q I p h;obtain⟨i,rfl,q⟩:=h;obtain⟨t,rfl⟩:=p;exact j i t s _ _ #[.int<|g i,H,I.tok _,`r,q]
def aIe:UnR X (unaryOp .USub)<|rU λi=>.int<|-i:=unI λ_ _ _ _ _ q=>neg_int q
end
def aVu:V->V->Bool
 | .non,.non=>true | .non,.int _=>true | .int _,.non=>true | .non,.bl _=>true | .bl _,.non=>true | .non,.str _=>true | .str _,.non=>true
 | .int _,.int _=>true | .bl _,.bl _=>true | .str _,.str _=>true | .byt _,.byt _=>true
 | .int _,.str _=>true | .str _,.int _=>true | .bl _,.str _=>true | .str _,.bl _=>true
 |_,_=>false
def rEq:R2:=λx y H Q=>aVu x y=true/\Q (.bl<|decide (x=y)) H
def rNe:R2:=λx y H Q=>aVu x y=true/\Q (.bl<|!decide (x=y)) H
def aDf:decide (V.int i=V.int j)=(i == j):=by rw[fV];simp
def aNa:decide (V.bl i=V.bl j)=(i == j):=by rw[fV];simp
def aDe:decide (V.str i=V.str j)=(i == j):=by rw[fV];simp
def aDg:decide (V.byt i=V.byt j)=(i.toList == j.toList):=by rw[fV];cases i;cases j;simp
section
variable{X:Cx}{a b c:Expr}{g l w:TE}{o:Pos}
def kY{Aa}{f:St}{H}{s}{Q}{k k'}(I:Inv X Aa f H s)(q:Q (.bl k) H)(e:k=k'):EP X Aa f Q (.bool k') s:=by subst e;exact#[.bl k,H,I,rfl,q]
def bEt:OpR X (compareOp .Eq) rEq:=by
 intro r s z H x y v u Q I p e h;obtain⟨m,q⟩:=h;cases x with
 |non =>
  cases p;cases y with
  |non=>cases e;exact PySem.EqNone.eq_none_none (kY I q `g)
  |bl j=>cases e;exact PySem.EqNone.eq_none_bool (kY I q `g)
  |int j=>obtain⟨f,rfl⟩:=e;exact PySem.EqNone.eq_none_int (kY I q `g)
  |str j=>obtain⟨f,rfl⟩:=e;exact PySem.EqNone.eq_none_str (kY I q `g)
  |_=>exact absurd (m) bH
 |bl i =>
  cases p;cases y with
  |non=>cases e;exact PySem.EqNone.eq_bool_none (kY I q `g)
  |bl j=>cases e;exact eq_bool (kY I q aNa)
  |str j=>obtain⟨f,rfl⟩:=e;exact PySem.EqMixed.eq_bool_str (kY I q `g)
  |_=>exact absurd (m) bH
 |int i =>
  obtain⟨t,rfl⟩:=p;cases y with
  |non=>cases e;exact PySem.EqNone.eq_int_none (kY I q `g)
  |int j=>obtain⟨f,rfl⟩:=e;exact eq_int (kY I q aDf)
  |str j=>obtain⟨f,rfl⟩:=e;exact PySem.EqMixed.eq_int_str (kY I q `g)
  |_=>exact absurd (m) bH
 |str i =>
  obtain⟨t,rfl⟩:=p;cases y with
  |non=>cases e;exact PySem.EqNone.eq_str_none (kY I q `g)
  |bl j=>cases e;exact PySem.EqMixed.eq_str_bool (kY I q `g)
  |int j=>obtain⟨f,rfl⟩:=e;exact PySem.EqMixed.eq_str_int (kY I q `g)
  |str j=>obtain⟨f,rfl⟩:=e;exact eq_str (kY I q aDe)
  |_=>exact absurd (m) bH
 |byt i =>
  obtain⟨t,rfl⟩:=p;cases y with
  |byt j=>obtain⟨f,rfl⟩:=e;exact PySem.W.eq_bytes (kY I q aDg)
  |_=>exact absurd (m) bH
 |_=>cases y<;>exact absurd (show false=true from m) bH
def bEs:OpR X (compareOp .NotEq) rNe:=by
 intro r s z H x y v u Q I p e h;obtain⟨m,q⟩:=h;cases x with
 |non =>
  cases p;cases y with
  |non=>cases e;exact PySem.EqNone.ne_none_none (kY I q `g)
  |bl j=>cases e;exact PySem.EqNone.ne_none_bool (kY I q `g)
  |int j=>obtain⟨f,rfl⟩:=e;exact PySem.EqNone.ne_none_int (kY I q `g)
  |str j=>obtain⟨f,rfl⟩:=e;exact PySem.EqNone.ne_none_str (kY I q `g)
  |_=>exact absurd (m) bH
 |bl i =>
  cases p;cases y with
  |non=>cases e;exact PySem.EqNone.ne_bool_none (kY I q `g)
  |bl j=>cases e;exact ne_bool (kY I q<|congrArg not aNa)
  |str j=>obtain⟨f,rfl⟩:=e;exact PySem.EqMixed.ne_bool_str (kY I q `g)
  |_=>exact absurd (m) bH
 |int i =>
  obtain⟨t,rfl⟩:=p;cases y with
  |non=>cases e;exact PySem.EqNone.ne_int_none (kY I q `g)
  |int j=>obtain⟨f,rfl⟩:=e;exact ne_int (kY I q<|congrArg not aDf)
  |str j=>obtain⟨f,rfl⟩:=e;exact PySem.EqMixed.ne_int_str (kY I q `g)
  |_=>exact absurd (m) bH
 |str i =>
  obtain⟨t,rfl⟩:=p;cases y with
  |non=>cases e;exact PySem.EqNone.ne_str_none (kY I q `g)
  |bl j=>cases e;exact PySem.EqMixed.ne_str_bool (kY I q `g)
  |int j=>obtain⟨f,rfl⟩:=e;exact PySem.EqMixed.ne_str_int (kY I q `g)
  |str j=>obtain⟨f,rfl⟩:=e;exact ne_str (kY I q<|congrArg not aDe)
  |_=>exact absurd (m) bH
 |byt i =>
  obtain⟨t,rfl⟩:=p;cases y with
  |byt j=>obtain⟨f,rfl⟩:=e;exact PySem.W.ne_bytes (kY I q<|congrArg not aDg)
  |_=>exact absurd (m) bH
 |_=>cases y<;>exact absurd (show false=true from m) bH
def ks_:OpR X (compareOp .Lt)<|rI0 λi j=>.bl<|decide (i<j):=aQj λ_ _ _ _ _ _ _ q=>lt_int q
def lZ:OpR X (compareOp .LtE)<|rI0 λi j=>.bl<|decide (i<=j):=aQj λ_ _ _ _ _ _ _ q=>le_int q
def aBt:OpR X (compareOp .Gt)<|rI0 λi j=>.bl<|decide (j<i):=aQj λ_ _ _ _ _ _ _ q=>gt_int q
def aTv:OpR X (compareOp .GtE)<|rI0 λi j=>.bl<|decide (j<=i):=aQj λ_ _ _ _ _ _ _ q=>ge_int q
def aEy:OpR X (compareOp .In) (λx y H Q=>∃i j,x=.str i/\y=.str j/\Q (.bl<|!(Builtin.Str.occurrences j i 0 j.length 1).isEmpty) H):=by intro m s r H x y v u Q I e f h;obtain⟨i,j,rfl,rfl,q⟩:=h;obtain⟨t,rfl⟩:=e;obtain⟨p,rfl⟩:=f;exact in_str<|kY I q rfl
def aXg:OpR X (compareOp .Is)<|λx y H Q=>y=.non/\Q (.bl<|decide (x=.non)) H:=by
 intro i s j H x y v u Q I e f h;obtain⟨rfl,q⟩:=h;cases f;refine is_none_gen<|kY I q ?_;cases x<;>first
  |(cases e;rfl)
  |(obtain⟨t,rfl⟩:=e;rfl)
def aQg:OpR X (compareOp .IsNot)<|λx y H Q=>y=.non/\Q (.bl<|!decide (x=.non)) H:=by
 intro i s j H x y v u Q I e f h;obtain⟨rfl,q⟩:=h;cases f;refine isnot_none_gen<|kY I q ?_;cases x<;>first
  |(cases e;rfl)
  |(obtain⟨t,rfl⟩:=e;rfl)
def OpR.or(h:OpR X f r)(h':OpR X f i):OpR X f<|λx y H Q=>r x y H Q\/i x y H Q:=by
 intro e s p H x y v u Q I j m q;rcases q with q | q
 exact h e s p H x y v u Q I j m q;exact h' e s p H x y v u Q I j m q
def dP(b:Expr)(h:op ≠ .In:=by decide)(i:op ≠ .NotIn:=by decide):behindInMarks op b=false:=by
 have e:(op == CmpOp.In)=false:=by grind
 have f:(op == CmpOp.NotIn)=false:=by grind
 cases b<;>simp[behindInMarks,e,f]
def aBn(p:OpR X (compareOp op) r)(ha:PE X a g)(j:PE X b l)(m:behindInMarks op b=false):PE X (.Compare a [op] [b] o)<|tOp r g l:=by intro e s B H Q I h;exact wpAny_Compare1 (bBq ha j I h λv u A x y f i t z q=>p e A B f x y v u Q i t z q) m
def aIj(t:TE):TT:=λf H Q=>t f H λx e=>∃k,x=.bl k/\Q k e
def wF(D:OpR X (compareOp op) r)(ha:PE X a g)(B:PE X b l)(C:behindInMarks op b=false):PT X (.Compare a [op] [b] o)<|aIj<|tOp r g l:=by intro f s i H Q I h;refine wpAny_isTrue_Compare1 (dR (ha f s i H _ I h) λv N ⟨x,j,q,J,E⟩=>dR (B f N i j _ q E) λu O ⟨y,m,t,L,F⟩ => dR (D f O i m x y v u _ t J L F) λc R ⟨z,p,A,M,k,e,G⟩=>?_) C;subst e;cases M;exact wpAny_truthy_bool #[p,A,G]
def o7(r m:R2)(g l w:TE):TE:=λe H Q=>g e H λx h=>l e h λy i=>r x y i λz f=>∃k,z=.bl k /\
 (if k=true then w e f λp j=>m y p j Q else Q (.bl false) f)
def aKa(M:OpR X (compareOp op) r)(t:OpR X (compareOp op') r')(ha:PE X a g)(G:PE X b l)(J:PE X c w)
  (L:lastMarks [op,op'] [b,c]=false:=by with_unfolding_all rfl):PE X (.Compare a [op,op'] [b,c] o)<|o7 r r' g l w:=by
 intro f s i H Q I h;refine Compare_chain (dR (ha f s i H _ I h) λv W ⟨x,A,D,S,N⟩=>chain_link<|dR (G f W i A _ D N) λu Y ⟨y,B,E,q,O⟩ => dR (M f Y i B x y v u _ E S q O) λd Z ⟨z,j,m,T,k,e,p⟩=>?_) L;subst e;cases T;refine wpAny_truthy_bool ?_;cases k with
 |false=>exact ite_ff #[.bl false,j,m,rfl,p]
 |true=>exact ite_tt<|chain_last<|dR (J f Z i j _ m p) λV n ⟨z',C,F,U,R⟩=>t f n i C y z' u V Q F q U R
def aJl(U:OpR X (compareOp op) r)(B:OpR X (compareOp op') r')(ha:PE X a g)(R:PE X b l)(S:PE X c w)
  (T:lastMarks [op,op'] [b,c]=false:=by with_unfolding_all rfl):PT X (.Compare a [op,op'] [b,c] o)<|aIj<|o7 r r' g l w:=by
 intro f s i H Q I h;refine isTrue_chain (dR (ha f s i H _ I h) λv s1 ⟨x,C,G,r1,Y⟩=>test_link<|dR (R f s1 i C _ G Y) λu s2 ⟨y,D,J,q,Z⟩ => dR (U f s2 i D x y v u _ J r1 q Z) λd s3 ⟨z,j,m,r3,k,e,p⟩=>?_) T;subst e;cases r3;refine wpAny_truthy_bool ?_;cases k with
 |false => obtain⟨k',N,W⟩:=p;cases N;exact ite_ff #[j,m,W]
 |true => refine ite_tt<|test_last<|dR (S f s3 i j _ m p) λw' s4 t=>?_;obtain⟨z',E,L,r4,n⟩:=t;refine dR (B f s4 i E y z' u w' _ L q r4 n) λd' s5 A=>?_;obtain⟨z2,F,M,r5,k2,O,V⟩:=A;subst O;cases r5;exact wpAny_truthy_bool #[F,M,V]
def bHi(K:dN)(x:V)(H:Hp)(k:Bool):Prop:=
 match x with
 | .non=>k=false
 | .bl b=>k=b
 | .int i=>k=(i != 0)
 | .str y=>y.length<=sizeLine/\k=((y.length:Int) != 0)
 | .byt y=>y.size<=sizeLine/\k=((y.size:Int) != 0)
 | .ref p=>(∃f,SqL K H p f/\k = !f.isEmpty)\/(∃f,SqT K H p f/\k = !f.isEmpty)\/∃e,H p=some (.dK e)/\k = !e.isEmpty
 |_=>False
def u6{kvs:List<|κ×V}(r:KV kvs vs):(!vs.isEmpty) = !kvs.isEmpty:=by cases r<;>rfl
def qW(r:Vals xs its):(!its.toArray.isEmpty) = !xs.isEmpty:=by cases r<;>simp
def mP:(sizeLine:Nat)<2^63:=by rw[sizeLine_eq];decide
def aVf:bMe X (λx H Q=>∃k,bHi X.K x H k/\Q k H):=by
 intro L s N H x v Q I j h;obtain⟨k,e,q⟩:=h;have M:=sizeLine_eq;cases x with
 |non => cases j;have f:=e;subst f;exact truthy_none #[H,I,q]
 |bl b => cases j;have f:=e;subst f;exact wpAny_truthy_bool #[H,I,q]
 |int i => obtain⟨t,rfl⟩:=j;have f:=e;subst f;exact PySem.P.truthy_int #[H,I,q]
 |str y => obtain⟨t,rfl⟩:=j;obtain⟨G,f⟩:y.length<=sizeLine/\k=((y.length:Int) != 0):=e;subst f;exact PySem.P.truthy_str `a #[H,I.tok _,q]
 |byt y => obtain⟨t,rfl⟩:=j;obtain⟨G,f⟩:y.size<=sizeLine/\k=((y.size:Int) != 0):=e;subst f;exact PySem.W.truthy_bytes `a #[H,I.tok _,q]
 |ref p =>
  cases j;have f:=e;rcases f with⟨J,u,f⟩ | ⟨J,u,f⟩ | ⟨z,u,f⟩
  subst f;obtain⟨A,r,B,E⟩:=I.list u;have D:=r.length;exact wpAny_truthy_list B.isList (by simp only[aR];lia) #[H,I.tok _,by rw[qW r];exact q];subst f;obtain⟨A,r,B,E⟩:=I.tuple u;have D:=r.length;exact truthy_tuple B (by simp only[aR];lia) #[H,I.tok _,by rw[qW r];exact q];subst f;obtain⟨E,F,C,r,m⟩:z.length<=sizeLine/\(p == sysModules)=false/\∃C,KV z C/\s.heap.DictOf (dX X.prog X.w) p C:=I.hok p _ u;have D:=Paired.length r;exact wpAny_truthy_dict F m `a #[H,I.tok _,by rw[u6 r];exact q]
 |_=>exact(e).elim
def aJk(ha:PE X a g)(r:∀e,isTrue a X.env e=(do let v <-e;standAt a.pos;holding [v] (truthy v))) :
  PT X a (λf H Q=>g f H λx j=>∃k,bHi X.K x j k/\Q k j):=by
 intro i s f H Q I h;refine isTrue_plain (dR (ha i s f H _ I h) λv y m=>?_)<|r _;obtain⟨x,p,q,u,t⟩:=m;exact aVf i y f p x v Q q u t
def t5:OpR X (binaryOp .Add) (λx y H Q=>∃i j,x=.str i/\y=.str j/\i.length+j.length<=sizeLine/\Q (.str<|i++j) H):=by intro r s z H x y v u Q I f m h;obtain⟨i,j,rfl,rfl,e,q⟩:=h;obtain⟨t,rfl⟩:=f;obtain⟨p,rfl⟩:=m;exact add_str (λp tk=>#[.str<|i++j,H,I.tok _,`r,q]) e
def jN(r:Vals [x] us):∃u,us=[u]/\RelV x u:=by
 cases r with
 |cons e f=>cases f;exact#[_,rfl,e]
def sY(r:Vals [x,y] us):∃u e,us=[u,e]/\RelV x u/\RelV y e:=by
 cases r with
 |cons f h =>
  cases h with
  |cons i j=>cases j;exact#[_,_,rfl,f,i]
def aGh(f:X.calm=true):CallR X (.builtin "max") (λxs H Q=>∃i j,xs=[.int i,.int j]/\Q (.int (if j>i then j else i)) H):=by intro m s A H xs y Q I r h;obtain⟨i,j,rfl,q⟩:=h;obtain⟨u,z,rfl,⟨t,rfl⟩,⟨v,rfl⟩⟩:=sY r;refine max_two_ints (I.ok.hd f) λp tk k=>#[_,H,I.kept k,?_,q];by_cases e:j>i;rw[if_pos e,if_pos e];exact`r;rw[if_neg e,if_neg e];exact`r
def aGd(f:X.calm=true):CallR X (.builtin "min") (λxs H Q=>∃i j,xs=[.int i,.int j]/\Q (.int (if j<i then j else i)) H):=by intro m s A H xs y Q I r h;obtain⟨i,j,rfl,q⟩:=h;obtain⟨u,z,rfl,⟨t,rfl⟩,⟨v,rfl⟩⟩:=sY r;refine min_two_ints (I.ok.hd f) λp tk k=>#[_,H,I.kept k,?_,q];by_cases e:j<i;rw[if_pos e,if_pos e];exact`r;rw[if_neg e,if_neg e];exact`r
end
structure ObjM(h:Heap)(x dx C:Addr)(mA:mI):Prop where
 obj:h.get? x=some (PySem.W.instObj C dx)
 ns:h.Ns1 dx mA
 ne:dx≠x
def aFh{h:Heap}(n:h.Ns1 dx mA):∃c,h.get? dx=some c/\∀name,PySem.W.lookIn name c=some (mA name):=by
 obtain⟨o,b,r,m,i,j,_,l⟩:=n;refine#[o,m,λname=>?_];have e:=l name;unfold nsFind findBy at e;rw[<-Array.find?_toList]at e;unfold PySem.W.lookIn;rw[i];dsimp only;split;grind;rename_i q;rw[q]at e;have a:b.toList.any (·.refKey)=false:=by rw[List.any_eq_false];intro y p;obtain⟨z,t,f⟩:=j y<|Array.mem_toList_iff.mp p;simp[DictEntry.refKey,f]
 have g:¬b.toList.any (·.refKey)=true:=by grind
 rw[if_neg g];exact congrArg some e
def ObjM.look(I:ObjM h x dx C mA):∃a,PySem.W.InstAt h x (PySem.W.instObj C dx) C (some a)/\∀name,PySem.W.lookIn name a=some (mA name):=
 let ⟨a,ho,hl⟩:=aFh I.ns
 #[a,#[I.obj,rfl,rfl,ho],hl]
section
variable{prog:Program}{w:World}{A:Around}{E:hX}{s:Shared}{K:dN}{x dx C f:Addr}{a:mI}{name:Str}{v:Value}
def aRo{expr}{Q}(X:K.In s.heap)(I:ObjM s.heap x dx C a)(c:PySem.W.plainGet K C name=true)(e:PySem.W.hasDictIn K C=true)
  (ha:PySem.W.findIn K (.ref C) name=some none) (hv:a name=some v) (b:PySem.W.handedIn v=true) (h:Q v { s with toks:=s.toks+1 }) :
  wpAny `f A (getAttr (.ref x) name expr) Q E s:=by
 obtain⟨i,J,g⟩:=I.look;exact PySem.W.get_value X J (PySem.W.plainGet_of c).1 (PySem.W.findObj_own e ha rfl<|by rw[g,hv]) b h
def aMi{pl}{Q}(X:K.In s.heap)(I:ObjM s.heap x dx C a)(b:PySem.W.plainGet K C name=true)
  (c:PySem.W.findIn K (.ref C) name=some (some<|.ref f)) (g:PySem.W.isFn K (.ref f)=true) (hv:a name=none) (h:Q (.ref f,[.ref x]) s) :
  wpAny `f A (getMethod (.ref x) name pl) Q E s:=by
 obtain⟨i,J,e⟩:=I.look;exact PySem.W.method_fn X J (PySem.W.plainGet_of b).1 (PySem.W.plainGet_of b).2 c (beq_iff_eq.mp g) (by show(PySem.W.lookIn name i).map (·.isSome)=some false;rw[e,hv];rfl) h
def aPi{ns}{Q}(X:K.In s.heap)(I:ObjM s.heap x dx C a)
  (t:PySem.W.findIn K (.ref C) "__setattr__" = some (some<|.builtin "object.__setattr__")) (q:PySem.W.plainOver K C=true) (u:PySem.W.takerIn K C name=some none) (p:PySem.W.hasDictIn K C=true)
  (z:PySem.Within a ns) (hsz:ns.length<=sizeLine)
  (h:∀h',ObjM h' x dx C (λy=>if y=name then some v else a y)->Heap.SameBut dx s.heap h'->Q () { s with heap:=h',toks:=s.toks+2 }) :
  wpAny `f A (setAttr (.ref x) name v) Q E s:=by
 obtain⟨H,J,F⟩:=I.look;refine PySem.W.set_plain X J t<|PySem.W.osa_open (r:=none) X J q u λb=>?_;obtain⟨D,o,j⟩:=PySem.W.any_some p;have B:=I.obj;refine wpAny_bind<|wpAny_pure<|wpAny_bind<|wpAny_bind<|wpAny_loadPart B<|wpAny_bind<|PySem.W.Looks.here (PySem.W.looks_clsIn X o) ?_;rw[j];refine wpAny_pure<|wpAny_bind<|wpAny_pure<|wpAny_bind ?_;refine wpAny_nsSet1 I.ns λh' g hs2=>?_;obtain⟨G,m,l,e,c,i⟩:=g.count<|PySem.Within.cons name v z;refine wpAny_bind<|wpAny_lookBehind e (by rw[c];exact pastItsLine_dict<|nzL i (by rw[aK];exact gB hsz 1)) ?_;exact wpAny_pure<|h _ #[(hs2.2 _<|Ne.symm I.ne).trans I.obj,g,I.ne] hs2
def aLd(X:K.In s.heap)(j:PySem.W.makesIn K C=true)
  (i:PySem.W.findIn K (.ref C) "__init__" = some (some<|.ref f)) (e:PySem.W.typeIn K (.ref f)=some (.type "function"))
  (h:codeAny `f (A.under<|.builtin "type.__call__" #[.ref C :: vs,c]) (.call (.ref f) #[.ref (s.heap.objs.size + 1) :: vs,c]) (PySem.W.InitBack (s.heap.objs.size + 1) R)
   { s with heap:=(s.heap.push PySem.W.emptyDict).push (PySem.W.instObj C s.heap.objs.size) }) :
  codeAny `f A (.call (.ref C) #[vs,c]) R s:=by
 obtain⟨l,g,d,t,m⟩:=s;exact PySem.W.make_core (PySem.W.makes_of X j) (PySem.W.looks_findIn X i) (λb=>PySem.W.bind_fn X b e) (.inl rfl) h
end
def iU(f:Str)(v:V):U0->U0
 | []=>[(f,v)]
 |(g,x)::r=>if g=f then(g,v)::r else(g,x)::iU f v r
def kw_(f g:Str)(v:V):∀fs:U0,(iU f v fs).lookup g=if g=f then some v else fs.lookup g
 | []=>by show List.lookup g [(f,v)]=_;by_cases h:g=f;grind;grind
 |(k,x)::r=>by have b:=kw_ f g v r;rw[show iU f v ((k,x)::r)=(if k=f then(k,v)::r else(k,x)::iU f v r)from rfl];by_cases a:k=f;grind;grind
def lb_(f:Str)(v:V):∀fs:U0,f∈(iU f v fs).map (·.1)/\∀g,g∈fs.map (·.1)->g∈(iU f v fs).map (·.1)
 | []=>#[by simp[iU],λg h=>by simp at h]
 |(k,x)::r=>by obtain⟨b,c⟩:=lb_ f v r;rw[show iU f v ((k,x)::r)=(if k=f then(k,v)::r else(k,x)::iU f v r)from rfl];by_cases a:k=f;rw [if_pos a];subst a;exact#[List.mem_of_mem_head? rfl,λg h=>by simpa using h];grind
def ky_(f:Str)(v:V):∀fs:U0,(iU f v fs).length<=fs.length+1
 | []=>by exact Nat.le_add_left (iU f v []).length [].length
 |(k,x)::r=>by have b:=ky_ f v r;rw[show iU f v ((k,x)::r)=(if k=f then(k,v)::r else(k,x)::iU f v r)from rfl];by_cases a:k=f;rw[if_pos a,aK,aK];exact dF (r.length+1) 1;rw[if_neg a,aK,aK];exact gB b 1
def RelO.some_of(r:RelO (some v) o):∃u,o=some u/\RelV v u:=by
 cases o with
 |none=>exact(r).elim
 |some u=>exact#[u,rfl,r]
def RelO.none_of(r:RelO none o):o=none:=by
 cases o with
 |none=>rfl
 |some u=>exact(r).elim
def aFt(r:RelV v u):PySem.W.handedIn u=true:=by
 cases v with
 |non=>cases(r);rfl
 |bl b=>cases(r);rfl
 |int i=>obtain⟨t,e⟩:=(r);cases e;rfl
 |str x=>obtain⟨t,e⟩:=(r);cases e;rfl
 |byt b=>obtain⟨t,e⟩:=(r);cases e;rfl
 |flt b=>obtain⟨t,e⟩:=(r);cases e;rfl
 |ref a=>cases(r);rfl
 |ty n=>cases(r);rfl
section
variable{P:Program}{w:World}{H c:Hp}{h h':Heap}{a C dx:Addr}{fs b:U0}
def xM(i:HOk P w H h)(e:H a=some (.ins C dx fs)):∃g,ObjM h a dx C g/\(∀f,RelO (fs.lookup f)<|g f)/\PySem.Within g (fs.map (·.1))/\fs.length<=1000/\H dx=some (.own a):=by obtain⟨d,z,j,ob,g,n,r,q⟩:=(i a _ e);exact#[g,#[ob,n,j],r,q,z,d]
end
structure Cls(K:dN)(C:Addr):Prop where
 pg:PySem.W.plainGet K C Str.empty=true
 hd:PySem.W.hasDictIn K C=true
 po:PySem.W.plainOver K C=true
 sa:PySem.W.findIn K (.ref C) "__setattr__" = some (some (.builtin "object.__setattr__"))
def Cls.get(c:Cls K C)(f:Str):PySem.W.plainGet K C f=true:=c.pg
def NoAttr(K:dN)(C:Addr)(f:Str):Prop:=PySem.W.findIn K (.ref C) f=some none
def NoAttr.taker(n:NoAttr K C f):PySem.W.takerIn K C f=some none:=by unfold PySem.W.takerIn;rw[show PySem.W.findIn K (.ref C) f=some none from n];rfl
structure Meth(K:dN)(C:Addr)(m:Str)(f:Addr):Prop where
 at_:PySem.W.findIn K (.ref C) m=some (some (.ref f))
 fn:PySem.W.isFn K (.ref f)=true
 kp:PySem.W.keepIn K (.ref f)=true
section
variable{X:Cx}{j:gM}{i:St}{H:Hp}{s:Shared}{a C dx:Addr}{fs:U0}{f:Str}{v:V}{A:Around}{E:hX}
def v0(I:Inv X j i H s)(e:H a=some (.ins C dx fs))(c:Cls X.K C)(n:NoAttr X.K C f)(l:fs.lookup f=some v)
  (h:∀u m,Inv X j i H m->RelV v u->Q u m):wpAny `d A (getAttr `i f b) Q E s:=by
 obtain⟨q,O,r,_,_,_⟩:=xM I.hok e;obtain⟨u,p,g⟩:=RelO.some_of (v:=v) (o:=q f) (by rw[<-l];exact r f);exact aRo I.kIn O (c.get f) c.hd n p (aFt g)<|h u _ (I.tok _) g
def iw_{m}{g}{pl}{Q}(I:Inv X j i H s)(e:H a=some (.ins C dx fs))(c:Cls X.K C)(k:Meth X.K C m g)(l:fs.lookup m=none)
  (h:Q (.ref g,[.ref a]) s):wpAny `d A (getMethod `i m pl) Q E s:=by
 obtain⟨o,O,r,_,_,_⟩:=xM I.hok e;have b:=RelO.none_of (by rw[<-l];exact r m);exact aMi I.kIn O (c.get m) k.at_ k.fn b h
def p9{y:V}{u}{Q}(I:Inv X j i H s)(e:H a=some (.ins C dx fs))(c:Cls X.K C)(n:NoAttr X.K C f)(J:fs.length<1000)(N:RelV y u)
  (h:∀p,Inv X j i (upd H a<|.ins C dx<|iU f y fs) p->Q () p):wpAny `d A (setAttr `i f u) Q E s:=by
 obtain⟨M,O,r,t,_,m⟩:=xM I.hok e;have L:(fs.map (·.1)).length<=sizeLine:=by rw[aA,sizeLine_eq];lia
 refine aPi I.kIn O c.sa c.po n.taker c.hd t L λB l R=>h _ ?_;have F:∃o,B.get? dx=some o:=let ⟨o,_,_,e',_⟩:=l.ns;#[o,e'];refine I.write (x:=a) (e:=dx) (by rw[e];exact True.intro) (.inr m) (λb q D z=>(R.2 b D).trans z) F ?_;refine#[by rw[dZ O.ne];exact m,?_,O.ne,l.obj,_,l.ns,λg=>?_,λg G=>?_];have:=ky_ f y fs;exact nzL this J;rw [kw_];by_cases q:g=f;rw[if_pos q,if_pos q];exact N;rw[if_neg q,if_neg q];exact r g;by_cases q:g=f;rw[q];exact(lb_ f y fs).1;refine (lb_ f y fs).2 g<|t g fun z=>G ?_;show(if g=f then some u else M g)=none;rw[if_neg q];exact z
def Inv.made(I:Inv X j i H s):Inv X j i (upd (upd H s.heap.objs.size<|.own `l) `l (.ins C s.heap.objs.size []))
  { s with heap:=(s.heap.push PySem.W.emptyDict).push (PySem.W.instObj C s.heap.objs.size) }:=by
 have c:(s.heap.push PySem.W.emptyDict).get? s.heap.objs.size=some PySem.W.emptyDict:=aW s.heap rfl;have l:((s.heap.push PySem.W.emptyDict).push<|PySem.W.instObj C s.heap.objs.size).get? `l=some (PySem.W.instObj C s.heap.objs.size):=by have:=aW (s.heap.push PySem.W.emptyDict) (o:=PySem.W.instObj C s.heap.objs.size) rfl;rwa [cJ]at this
 have m:(s.heap.push PySem.W.emptyDict).Ns s.heap.objs.size<|λ_=>none:=#[PySem.W.emptyDict,[].toArray,_,c,rfl,(λe p=>absurd p `g),λ_=>rfl];have h:=I.laid (a:=s.heap.objs.size) (o:=.own `l) (h':=s.heap.push PySem.W.emptyDict) (t':=s.toks) (λb u q=>aD _ q) (aO _) #[_,c];refine h.laid (a:=s.heap.objs.size+1) (o:=.ins C s.heap.objs.size []) (t':=s.toks) (λb u q=>aD _ q) (Nat.le_of_eq<|cJ _ _) ?_;have g:s.heap.objs.size≠s.heap.objs.size+1:=bF<|Nat.lt_succ_self _;refine#[by rw[dZ g,bY],bM _,g,l,λ_=>none,(Heap.Ns1.of_empty m).at λo q=>aD _ q,λ_=>True.intro,λy r=>absurd rfl r]
def aSs(g:attributeBase e f env (eval e env)=eval e env)
  (h:wpAny `f A (eval e env) (λo b=>wpAny `f A (getAttr o f true) Q E b) E s):wpAny `f A (eval (.Attribute e f c) env) Q E s:=
 Attribute_any_ h (by rw[arm_eval_Attribute,g])
end
def bDt(K:dN)(e:TE)(f:Str):TE:=λg H Q=>e g H λx b=>∃a C c fs v,x=.ref a/\b a=some (.ins C c fs)/\Cls K C/\NoAttr K C f/\fs.lookup f=some v/\Q v b
def bJp(K:dN)(h i:TE)(f:Str):TS:=λD b H=>i b H λy g=>h b g λx c=>∃a C e fs,x=.ref a/\c a=some (.ins C e fs)/\Cls K C/\NoAttr K C f/\fs.length<1000 /\
 D.nx b (upd c a<|.ins C e<|iU f y fs)
section
variable{X:Cx}{o e b:Expr}{f:Str}{i g p:Pos}{j m:TE}
def qI(E:PE X e j)(D:attributeBase e f X.env (eval e X.env)=eval e X.env):PE X (.Attribute e f i)<|bDt X.K j f:=by intro r s J H Q I h;refine aSs D<|dR (E r s J H _ I h) λu M t=>?_;obtain⟨x,y,z,G,a,C,L,fs,v,ex,B,c,n,l,q⟩:=t;subst ex;obtain rfl:u=Value.ref a:=G;exact v0 z B c n l λO N A F=>#[v,y,A,F,q]
def aJo(ha:PE X o j)(hv:PE X b m)(J:swapsWith b (some<|.Attribute o f g) i.line X.env=pure false):PS X (.Assign [.Attribute o f g] b i)<|bJp X.K j m f:=by intro t s r H D I h;refine plainObj_wpAny_Assign_Attribute (dR (hv t s r H _ I h) λu Q v=>?_) J;obtain⟨y,A,B,O,q⟩:=v;refine dR (ha t Q r A _ B q) λL T z=>?_;obtain⟨x,R,E,N,a,C,S,fs,ex,G,c,n,l,M⟩:=z;subst ex;obtain rfl:L=Value.ref a:=N;exact p9 E G c n l O λU F=>#[r,_,F,M]
end
section
variable{X:Cx}{e:gM}{a:St}{H:Hp}{s:Shared}{A:Around}{E:hX}{Q:hX}{c:Value}{b:Bool}
end
structure Room(k:Nat)(A:Around):Prop where
 hd:A.handled=none
 dp:A.depth+3*k+5<recursionLimit
 un:A.units+16*k+200<cLine
 gd:A.guards=some []
def Room.mono(r:Room k A)(h:j<=k):Room j A:=#[r.hd,by have:=r.dp;lia,by have:=r.un;lia,r.gd]
def Room.deeper(r:Room (k+1) A)(env:Env):Room k<|A.deeper env:=
 #[r.hd,by have:=r.dp;show A.depth+1+3*k+5<_;lia,by have:=r.un;show A.units+3+16*k+200<_;lia,r.gd]
def u3{A:Around}:(A.under<|.builtin "type.__call__" #[.ref C::us,kw]).depth=A.depth+1:=by first | rfl | simp[Around.under,Code.weight,Code.isCreation,Code.isGuard,Code.isCaller,Code.frames,Code.isFrame,guardIds]
def t_{A:Around}:(A.under<|.builtin "type.__call__" #[.ref C::us,kw]).units=A.units+1:=by first | rfl | simp[Around.under,Code.cUnits,Code.frames,Code.isFrame]
def c6{A:Around}:(A.under<|.builtin "type.__call__" #[.ref C::us,kw]).guards=A.guards:=rfl
def Room.make(r:Room (k+1) A)(C:Addr)(us:S8)(a:List<|Str×Value):Room k<|A.under<|.builtin "type.__call__" #[.ref C::us,a]:=
 #[r.hd,by have:=r.dp;rw[u3];lia,by have:=r.un;rw[t_];lia,by rw[c6];exact r.gd]
def Room.depth(r:Room k A):A.depth<recursionLimit:=by have:=r.dp;lia
def Room.units(r:Room k A):A.units+64<cLine:=by have:=r.un;lia
def sB:TA:=λ_ H Q=>Q [] H
def lU(e:TE)(f:TA):TA:=λa H Q=>e a H λx b=>f a b λg c=>Q (x::g) c
section
variable{X:Cx}{e:Expr}{c:T6}{f:TE}{t:TA}{a:Pos}
def i4:PA X [] sB:=λ_ _ _ _ H Q I h=>Calls.spliced_nil #[[],H,I,.nil,h]
def lK(ha:PE X e f)(p:PA X c t)(q:U7 X e c:=by rfl):PA X (e::c)<|lU f t:=by intro a g s i H Q I h;rw[q];refine Calls.spliced_cons<|dR (ha g s i H _ I h) λu A b=>?_;obtain⟨x,j,m,y,r⟩:=b;refine dR (p a g A i j _ m r) λD C b=>?_;obtain⟨B,l,o,z,v⟩:=b;exact#[x::B,l,o,.cons y z,v]
def bDm(t:TA):TE:=λh H Q=>t h H λg b=>g.length<=sizeLine/\∀p,b p=none->Q (.ref p) (upd b p<|.tup g)
def bJj(t:TA):TE:=λh H Q=>t h H λg b=>g.length<=sizeLine/\∀p,b p=none->Q (.ref p) (upd b p<|.lst g)
def qG(h:PA X c t):PE X (.Tuple c x1 a)<|bDm t:=by intro j s A H Q I p;refine wpAny_Tuple_spliced<|dR (h a j s A H _ I p) λv g l=>?_;obtain⟨y,m,i,r,z,q⟩:=l;refine#[by rw[<-r.length];exact z,?_];have o:=i.hok.fresh<|aO _;refine#[.ref g.heap.objs.size,upd m g.heap.objs.size<|.tup y,i.laid (t':=g.toks) (λb u e=>aD _ e) (aO _) ?_,rfl,q _ o];exact#[z,v,r,#[_,aW _ rfl,rfl,_,rfl]]
def aWt(h:PA X c t):PE X (.List c a)<|bJj t:=by intro j s A H Q I p;refine wpAny_List_spliced<|dR (h a j s A H _ I p) λv g l=>?_;obtain⟨y,m,i,r,z,q⟩:=l;refine#[by rw[<-r.length];exact z,?_];have o:=i.hok.fresh<|aO _;refine#[.ref g.heap.objs.size,upd m g.heap.objs.size<|.lst y,i.laid (t':=g.toks) (λb u e=>aD _ e) (aO _) ?_,rfl,q _ o];exact#[z,v,0,r,aW _ rfl]
end
abbrev Sp:=S3->Hp->VK->XK->Prop
abbrev CXT:=List Env->Hp->Shared->XK->Value->Shared->Prop
structure Env0(P:Program)(w:World)(K:dN)(mg:mI)(base:Heap)(A:Around)(outer:List Env)(s:Shared)(H:Hp):Prop where
 frames:A.frames=some outer
 mod:Mod K mg base
 bs:∀b o,base.get? b=some o->s.heap.get? b=some o/\H b=none
 bsz:base.objs.size<=s.heap.objs.size
 funs:s.heap.FunFrames base outer
 frf:∀b∈frs outer,H b=none
 hok:HOk P w H s.heap
 bare:AllBare s.gens
def CE(a:List Env)(P:Program)(w:World)(H:Hp)(s:Shared)(Q:VK)(u:Value)(b:Shared):Prop:=
 ∃v c,b.os=s.os/\AllBare b.gens/\Un (frs a) [] H c s.heap b.heap/\HOk P w c b.heap/\RelV v u/\Q v c
def CR(CX:CXT)(a:List Env)(P:Program)(w:World)(H:Hp)(s:Shared)(Q:VK)(E:XK)(r:Result)(b:Shared):Prop:=
 match r with
 | .ok (.ret u)=>CE a P w H s Q u b
 | .ok _=>False
 | .error e=>CX a H s E e b
structure FnOk(P:Program)(w:World)(K:dN)(mg:mI)(base:Heap)(CX:CXT)(k:Nat)(f:Addr)(fd:FuncData)(ps:S4)(sp:Sp):Prop where
 len:∀vs H Q E,sp vs H Q E->vs.length=ps.length
 run:∀(A:Around) (outer:List Env) (s:Shared) (H:Hp) (args:Args) (us:S8) (vs:S3) (Q:VK) (E:XK),Room k A->Env0 P w K mg base A outer s H->BindsTo s fd args (ps.zip us)->Vals vs us->sp vs H Q E ->
  codeAny (model P w) A (.call (.ref f) args) (CR CX outer P w H s Q E) s
def FnOk.mono(F:FnOk P w K mg base CX j f fd ps sp)(h:j<=k) :
  FnOk P w K mg base CX k f fd ps sp:=#[F.len,λA a s H b e g Q E c=>F.run A a s H b e g Q E<|c.mono h]
def FnOk.imp(F:FnOk P w K mg base CX k f fd ps sp)
  (h:∀vs H Q E,c vs H Q E->sp vs H Q E):FnOk P w K mg base CX k f fd ps c:=
 #[λvs H Q E q=>F.len vs H Q E<|h _ _ _ _ q,λA a s H b l vs Q E i g e hv j=>F.run A a s H b l vs Q E i g e hv<|h _ _ _ _ j]
def Env0.make(e:Env0 P w K mg base A outer s H)(C:Addr)(us:S8)(a:List<|Str×Value) :
  Env0 P w K mg base (A.under<|.builtin "type.__call__" #[.ref C::us,a]) outer s H:=#[by first | exact e.frames | (simpa [Around.under,Code.envs,Code.isFrame,pushEnvs]using e.frames),e.mod,e.bs,e.bsz,e.funs,e.frf,e.hok,e.bare]
section
variable{X:Cx}{e:gM}{a:St}{H:Hp}{s c:Shared}
def Inv.env0(I:Inv X e a H s):Env0 X.prog X.w X.K X.mg X.base X.A X.stack s H:=
 #[I.ok.frames,I.ok.mod,I.bs,nzL I.ok.bsz I.sz,I.stack,I.stkFree,I.hok,I.bare]
def Inv.after(I:Inv X e a H s)(h:CE X.stack X.prog X.w H s Q u c):EP X e a Q u c:=by obtain⟨v,l,o,f,un,i,r,q⟩:=h;obtain⟨m,g,d,t,j⟩:=c;obtain rfl:j=s.os:=o;exact#[v,l,I.call (h':=m) (g':=g) (d':=d) (t':=t) (ch:=[]) un i f<|λb z=>absurd z `g,r,q]
end
def aAy(sp:Sp)(a:S3)(E:XK)(t:TA):TE:=λe H Q=>t e H λc b=>sp (c++a) b Q E
def aTe(C:Addr)(m:Str)(sp:Sp)(b:S3)(E:XK)(h:TE)(t:TA):TE:=λe H Q=>h e H λx c=>∃a g fs,x=.ref a/\c a=some (.ins C g fs)/\fs.lookup m=none /\
 t e c λi f=>sp (x::(i++b)) f Q E
def bDr(C:Addr)(sp:Sp)(c:S3)(E:XK)(t:TA):TE:=λg H Q=>t g H λf b=>∀x a,b x=none->b a=none->a≠x ->
 sp (.ref x::(f++c)) (upd (upd b a<|.own x) x<|.ins C a []) (λv e=>v=.non/\Q (.ref x) e) E
def Binds(K:dN)(fd:FuncData)(ps:S4)(ds:S8):Prop:=
 ∀(s:Shared) (a:S8),K.In s.heap->(a++ds).length=ps.length->BindsTo s fd #[a,[]] (ps.zip<|a++ds)
def Binds.all(h:∀us:S8,us.length=ps.length->bindArgs fd #[us,[]]=pure (ps.zip us)):Binds K fd ps []:=λs us _ a=>by rw[aP]at a ⊢;exact .of_eq<|h us a
def jZ(CX:CXT)(X:Cx)(E:XK):Prop:=∀(b:gM) (c:St) (H:Hp) (s:Shared) (e:Value) (a:Shared),Inv X b c H s->CX X.stack H s E e a->X.xe e a
section
variable{X:Cx}{CX:CXT}{k:Nat}{f C:Addr}{ps:S4}{sp:Sp}{g:S3}{ds:S8}{E:XK}{x m:Str}{p b i:Pos}{e o:Expr}{j:T6}{w:TE}{t:TA}
def vY(F:FnOk X.prog X.w X.K X.mg X.base CX k f fd ps sp)(B:Room k X.A)(y:Binds X.K fd ps ds)(z:Vals g ds)(D:jZ CX X E)
  (I:Inv X c l H s) (r:Vals vs us) (h:sp (vs++g) H Q E):wpAny `d X.A (call (.ref f) us) (EP X c l Q) X.xe s:=by
 have q:Vals (vs++g)<|us++ds:=r.append z;have A:(us++ds).length=ps.length:=by rw[<-q.length];exact F.len _ _ _ _ h
 refine wpAny_call<|codeAny_mono (F.run X.A X.stack s H #[us,[]] (us++ds) (vs++g) Q E B I.env0 (y s us I.kIn A) q h) λr G a=>?_;cases r with
 |error e=>exact D c l H s e G I a
 |ok v =>
  cases v with
  |ret u=>exact I.after a
  |next=>exact False.elim a
  |brk=>exact False.elim a
  |cont=>exact False.elim a
def aBo(F:FnOk X.prog X.w X.K X.mg X.base CX k f fd ps sp)(J:Room k X.A)(B:Gl X x)(G:X.mg x=some (.ref f))(D:PySem.W.keepIn X.K (.ref f)=true)(y:Binds X.K fd ps ds)(z:Vals g ds)(L:jZ CX X E)
  (ha:PA X (e::j) t) (c:U5 x:=by decide) (A:U7 X e j:=by rfl) (v:U8 X b j:=by rfl) :
  PE X (.Call (.Name x p) (e::j) [] b) (aAy sp g E t):=by
 intro l s M H Q I h;refine wpAny_Call_Name_kw<|ha_ I B G ?_ c;refine PySem.W.callWith_K I.ok.mod.kin D (dR (ha b l s M H _ I h) λR O u=>?_) A v;obtain⟨S,N,a,r,q⟩:=u;refine#[a.kIn,?_];exact vY F J y z L a r q
def aKc(F:FnOk X.prog X.w X.K X.mg X.base CX k f fd ps sp)(v:Room k X.A)(q:Gl X x)(u:X.mg x=some (.ref f))(r:PySem.W.keepIn X.K (.ref f)=true)(c:Binds X.K fd ps ds)(l:Vals g ds)(y:jZ CX X E)
  (a:U5 x:=by decide):PE X (.Call (.Name x p) [] [] b)<|aAy sp g E sB:=by
 intro z s A H Q I h;refine wpAny_Call_Name_kw<|ha_ I q u ?_ a;exact PySem.W.callWith_K0 I.kIn r<|vY (us:=[]) F v c l y I .nil h
def aBm{pl:Sem Bool}(R:PE X o w)(c:Cls X.K C)(B:Meth X.K C m f)(F:FnOk X.prog X.w X.K X.mg X.base CX k f fd ps sp)(S:Room k X.A)(N:Binds X.K fd ps ds)(O:Vals g ds)(U:jZ CX X E)(ha:PA X (e::j) t)
  (J:U7 X e j:=by rfl) (G:U8 X b j:=by rfl)
  (T:eval (.Call (.Attribute o m i) (e :: j) [] b) X.env=(do
   let ov <-eval o X.env
   standAt i.atName
   let (f,first) <-holding [ov] (getMethod ov m pl)
   callWith b f first (backTo b<|starEach (e::j) X.env) (backToKw b<|keywordEach [] X.env)):=by rfl) :
  PE X (.Call (.Attribute o m i) (e::j) [] b) (aTe C m sp g E w t):=by
 intro y s D H Q I h;refine PySem.W.methodCall_KW (pl:=pl) (dR (R y s D H _ I h) λu Z v=>?_) T;obtain⟨x,L,z,Y,a,n,fs,ex,M,l,q⟩:=v;subst ex;obtain rfl:u=Value.ref a:=Y;refine iw_ z M c B l ?_;refine PySem.W.callWith_K (first:=[.ref a]) (h₀:=X.base) I.ok.mod.kin B.kp (dR (ha b y Z D L _ z q) λus V v=>?_) J G;obtain⟨vs,d,A,r,W⟩:=v;refine#[A.kIn,?_];exact vY (us:=.ref a::us) (vs:=.ref a::vs) F S N O U A (.cons rfl r) W
def aJx(G:PE X o w)(c:Cls X.K C)(v:Meth X.K C m f)(F:FnOk X.prog X.w X.K X.mg X.base CX k f fd ps sp)(J:Room k X.A)(B:Binds X.K fd ps ds)(D:Vals g ds)(M:jZ CX X E)
  (L:eval (.Call (.Attribute o m i) [] [] b) X.env=(do
   let ov <-eval o X.env
   standAt i.atName
   let (f,first) <-holding [ov] (getMethod ov m pl)
   callWith b f first (backTo b<|starEach [] X.env) (backToKw b<|keywordEach [] X.env)):=by rfl) :
  PE X (.Call (.Attribute o m i) [] [] b) (aTe C m sp g E w sB):=by
 intro y s O H Q I h;refine PySem.W.methodCall_KW (pl:=pl) (dR (G y s O H _ I h) λu T z=>?_) L;obtain⟨x,R,r,N,a,S,fs,ex,A,l,q⟩:=z;subst ex;obtain rfl:u=Value.ref a:=N;refine iw_ r A c v l ?_;exact PySem.W.callWith_K0 (first:=[.ref a]) r.kIn v.kp<|vY (us:=[.ref a]) (vs:=[.ref a]) F J B D M r (.cons rfl .nil) q
structure Mk(K:dN)(C f:Addr):Prop where
 makes:PySem.W.makesIn K C=true
 init:PySem.W.findIn K (.ref C) "__init__" = some (some (.ref f))
 fn:PySem.W.isFn K (.ref f)=true
 kp:PySem.W.keepIn K (.ref C)=true
def aIv{Aa}{l:St}{H}{s}{Q}{us}{vs}(M:Mk X.K C f)(F:FnOk X.prog X.w X.K X.mg X.base CX k f fd ps sp)(O:Room (k+1) X.A)(J:Binds X.K fd ps ds)(L:Vals g ds)
  (R:jZ CX X E) (I:Inv X Aa l H s) (r:Vals vs us)
  (h:∀x dx,H x=none->H dx=none->dx≠x->sp (.ref x::(vs++g)) (upd (upd H dx<|.own x) x<|.ins C dx []) (λv A=>v=.non/\Q (.ref x) A) E) :
  wpAny `d X.A (call (.ref C) us) (EP X Aa l Q) X.xe s:=by
 have q:=h `l s.heap.objs.size (I.hok.fresh<|Nat.le_succ _) (I.hok.fresh<|aO _) (bF<|Nat.lt_succ_self _);have c:=Inv.made (C:=C) I;have y:Vals (V.ref `l::(vs++g)) (Value.ref `l::(us++ds)):=.cons rfl<|r.append L;have N:(Value.ref `l::us++ds).length=ps.length:=by have e:=y.length;rw[F.len _ _ _ _ q]at e;exact e.symm
 refine wpAny_call (aLd (f:=f) I.kIn M.makes M.init (beq_iff_eq.mp M.fn) (codeAny_mono (F.run _ X.stack _ _ #[Value.ref `l::us,[]] (Value.ref `l::(us++ds)) _ _ E (O.make C us [])
  (c.env0.make C us []) (J _ (Value.ref `l::us) c.kIn N) y q) λr U a=>?_))
 cases r with
 |error e=>exact R Aa l _ _ e U c a
 |ok G =>
  cases G with
  |ret u => obtain⟨v,z,B,T,D,S⟩:=c.after a;subst D;exact#[T,#[V.ref `l,z,B,rfl,S]]
  |next=>exact False.elim a
  |brk=>exact False.elim a
  |cont=>exact False.elim a
def aPx(M:Mk X.K C f)(F:FnOk X.prog X.w X.K X.mg X.base CX k f fd ps sp)(G:Room (k+1) X.A)(B:Gl X x)(D:X.mg x=some (.ref C))(y:Binds X.K fd ps ds)(z:Vals g ds)(J:jZ CX X E)
  (ha:PA X (e::j) t) (c:U5 x:=by decide) (A:U7 X e j:=by rfl) (v:U8 X b j:=by rfl) :
  PE X (.Call (.Name x p) (e::j) [] b) (bDr C sp g E t):=by
 intro l s L H Q I h;refine wpAny_Call_Name_kw<|ha_ I B D ?_ c;refine PySem.W.callWith_K I.ok.mod.kin M.kp (dR (ha b l s L H _ I h) λR O u=>?_) A v;obtain⟨S,N,a,r,q⟩:=u;refine#[a.kIn,?_];exact aIv M F G y z J a r q
end
def PK(X:Cx)(a:List Keyword)(t:TA):Prop:=
 ∀(b:Pos) (e:gM) (s:Shared) (c:St) (H:Hp) (Q:S3->Hp->Prop),Inv X e c H s->t c H Q->wpAny `d X.A (evalAll ((backToKw b<|keywordEach a X.env).map (·.2))) (AP X e c Q) X.xe s
section
variable{X:Cx}{CX:CXT}{k:Nat}{f C:Addr}{ps ks:S4}{sp:Sp}{E:XK}{x m:Str}{p a j c:Pos}{e o:Expr}{r:T6}{b:List Keyword}{i l:TE}{t tk:TA}{nm:Option Str}
def wI:PK X [] sB:=λ_ _ _ _ H Q I h=>wpAny_evalAll_nil #[[],H,I,.nil,h]
def oC(ha:PE X e i)(D:PK X b t):PK X (#[nm,e,c]::b)<|lU i t:=by intro a q s v H Q I h;refine wpAny_evalAll_cons<|wpAny_bind<|dR (ha q s v H _ I h) λu M g=>?_;obtain⟨x,y,A,J,F⟩:=g;refine wpAny_bind<|wpAny_standAt<|wpAny_pure ?_;refine dR (D a q M v y _ A F) λR O g=>?_;obtain⟨N,z,B,L,G⟩:=g;exact#[x::N,z,B,.cons J L,G]
variable{g:S8->S8->S8}{q:S3->S3->S3}
end
structure FnScope(N P:S4)(sc:Scope):Prop where
 kind:sc.kind=.function
 co:sc.isCoroutine=false
 gen:sc.isGenerator=false
 nd:N.Nodup
 pre:N.take P.length=P
 par:∀x∈P,sc.names.lookup x=some .local\/sc.names.lookup x=some .cell
 nofree:∀y∈sc.names,y.2 ≠ .free
def gP{N P:S4}(h:(sc.kind=.function/\sc.isCoroutine=false/\sc.isGenerator=false)/\N.Nodup/\N.take P.length=P/\(∀x∈P,sc.names.lookup x=some .local\/sc.names.lookup x=some .cell)/\∀y∈sc.names,y.2 ≠ .free):FnScope N P sc:=#[h.1.1,h.1.2.1,h.1.2.2,h.2.1,h.2.2.1,h.2.2.2.1,h.2.2.2.2]
def uU{kindOf}:∀{binds} {m},(∀v,(x,v)∉binds)->bindL kindOf binds m x=m x
 | [],_,_=>rfl
 |(n,v)::r,m,h=>by
  unfold bindL;rw[uU λw a=>h w<|aC _ a];split;have:x≠n:=by grind
  exact if_neg this;rfl
def uW{kindOf}:∀{binds} {m},(∀v,(x,v)∉binds)->bindC kindOf binds m x=m x
 | [],_,_=>rfl
 |(n,v)::r,m,h=>by
  unfold bindC;rw[uW λw a=>h w<|aC _ a];split;rfl;have:x≠n:=by grind
  exact if_neg this
def uV{kindOf}{x}{v}:∀{P:S4} {vs} {i:Nat} {m},P.Nodup->P[i]? = some x->vs[i]? = some v->kindOf x=some .local ->
  bindL kindOf (P.zip vs) m x=some v
 | [],_,_,_,_,h,_,_=>by simp at h
 |_::_,[],_,_,_,_,h,_=>by simp at h
 |p::P,w::vs,0,m,nd,h1,h2,hk=>by simp at h1 h2;subst h1;subst h2;show bindL kindOf ((p,w)::P.zip vs) m p=_;unfold bindL;rw[uU λv hv=>(bW.mp nd).1 (List.of_mem_zip hv).1,if_pos hk];simp
 |p::P,w::vs,i+1,m,nd,h1,h2,hk=>by unfold bindL;exact uV (i:=i) (bW.mp nd).2 (by simpa using h1) (by simpa using h2) hk
def uX{kindOf}{x}{v}:∀{P:S4} {vs} {i:Nat} {m},P.Nodup->P[i]? = some x->vs[i]? = some v->kindOf x≠some .local ->
  bindC kindOf (P.zip vs) m x=some v
 | [],_,_,_,_,h,_,_=>by simp at h
 |_::_,[],_,_,_,_,h,_=>by simp at h
 |p::P,w::vs,0,m,nd,h1,h2,hk=>by simp at h1 h2;subst h1;subst h2;show bindC kindOf ((p,w)::P.zip vs) m p=_;unfold bindC;rw[uW λv hv=>(bW.mp nd).1 (List.of_mem_zip hv).1,if_neg hk];simp
 |p::P,w::vs,i+1,m,nd,h1,h2,hk=>by unfold bindC;exact uX (i:=i) (bW.mp nd).2 (by simpa using h1) (by simpa using h2) hk
def start(N:S4)(vs:S3):St:=vs.map some++List.replicate (N.length-vs.length) none
def jT(CX:CXT)(P:Program)(w:World)(K:dN)(mg:mI)(base:Heap)(N:S4)(b:Str)(scope:Scope)(f:Addr)(g:Value)(A:Around)(a:List Env)(s:Shared)(H:Hp)(E:XK):Cx where
 prog:=P
 w:=w
 K:=K
 mg:=mg
 base:=base
 A:=A.deeper<|envOfC b scope s.heap.objs.size f g
 N:=N
 s₀:=s
 H₀:=H
 env:=envOfC b scope s.heap.objs.size f g
 outer:=a
 stack:=envOfC b scope s.heap.objs.size f g::a
 ex:=[]
 calm:=true
 fn:=λ_=>true
 pn:=[]
 xe:=λe i=>wpAny (model P w) (A.deeper<|envOfC b scope s.heap.objs.size f g) (leaving (envOfC b scope s.heap.objs.size f g) e) (λ_ c=>CX a H s E e c) (λh c=>CX a H s E h c) i
def i8{sc:Scope}(h:sc.names.lookup x=some .cell):∃c,(cellsFrom n sc.names []).lookup x=some c:=by have q:=PySem.W.cellsFrom_some sc.names n [] (.inl h);exact cK.mp q
def aFr
  (S:FnScope N ps scope) (J:A.handled=none) (l:Env0 P w K mg base A g s H) (L:vs.length=ps.length) (r:Vals vs us)
  (x:InCallC s s.heap.objs.size (bindL (envOfC qual scope s.heap.objs.size f cd).kindOf (ps.zip us) λ_=>none) (cellsFrom `l scope.names []) (bindC (envOfC qual scope s.heap.objs.size f cd).kindOf (ps.zip us) λ_=>none) s1) :
  Inv (jT CX P w K mg base N qual scope f cd A g s H E) [] (start N vs) H s1:=by
 have O:ps.length<=N.length:=by have:=congrArg List.length S.pre;rw[fG]at this;lia
 obtain⟨D,tk,rfl,F⟩:=x.done;have m:∀b:Addr,b∉(jT CX P w K mg base N qual scope f cd A g s H E).ex:=λb z=>absurd (z) bG;refine#[#[l.mod,S.kind,rfl,rfl,aO _,λy z c D j=>?_,λy B=>?_,λy c _ h=>?_,λ_=>J,Around.frames_deeper l.frames,.inr #[rfl,rfl],λb z=>absurd z<|m b,l.bs,l.bsz,λb _ _=>m b,λb z=>absurd z<|m b,l.funs,l.frf],
  rfl,l.bare,Un.kept F,#[_,x.toInCall.ns,λi y v D j Q=>?_],λy c h=>#[_,x.cell y c h],l.hok.fresh<|aO _,λy c h=>?_,λp t=>absurd (t) bG,l.hok.kept F,?_]
 exact name_of_addr x.apart (PySem.mem_of_lookup D)<|PySem.mem_of_lookup j;rcases B with B | B
 exact i8 B;exact absurd rfl<|S.nofree _<|PySem.mem_of_lookup B;exact iJ<|x.above y c<|PySem.mem_of_lookup h;have o:i < vs.length:=by unfold start at j;by_cases o:i<vs.length;exact o;rw [bX<|by simpa using o] at j;rw[iZ]at j;split at j<;>cases j
 have I:vs[i]? = some v:=by
  unfold start at j;rw[cZ<|by simpa using o,bK]at j;cases e:vs[i]? with
  |none=>rw[e]at j;cases j
  |some a=>rw[e]at j;cases j;rfl
 obtain⟨u,G,M⟩:=r.get I;have t:ps[i]? = some y:=by rw[<-S.pre,List.getElem?_take_of_lt<|eI o L];exact D
 have C:ps.Nodup:=by rw[<-S.pre];exact S.nd.sublist<|List.take_sublist _ _
 refine#[u,M,?_];rcases S.par y (bA t)with k | k
 exact .inl #[k,uV C t G k];obtain ⟨c,e⟩:=i8 k;refine .inr #[.inl k,c,e,?_];have q:=x.cell y c e;rw[uX C t G (by show scope.names.lookup y≠_;rw[k];decide)]at q;exact q;exact l.hok.fresh<|iJ<|x.above y c<|PySem.mem_of_lookup h;unfold start;show _=N.length;rw[aI,aA,bP];lia
def aUh{U kV p W l ct oc:Value}
  (lk:K.lookup f=some #[oc,od,.func<|PySem.W.fnOf name c g h scope U kV p W R l ct,F]) (Z:PySem.W.codeIn K l c=true) (S:FnScope N ps scope)
  (len:∀vs H Q E,sp vs H Q E->vs.length=ps.length)
  (Y:∀ (A:Around) (a:List Env) (s:Shared) (H:Hp) (vs:S3) (Q:VK) (E:XK),Room k (A.deeper<|envOfC c scope s.heap.objs.size f l)→sp vs H Q E →
   ∃t,PSs (jT CX P w K mg base N c scope f l A a s H E) h t/\t { nx:=λ_ j=>Q .non j,rt:=Q } (start N vs) H) :
  FnOk P w K mg base CX (k+1) f (PySem.W.fnOf name c g h scope U kV p W R l ct) ps sp:=by
 refine#[len,λA a s H T us vs Q E C z hb r M=>?_];have hl:=len _ _ _ _ M;have O:K.In s.heap:=z.mod.kin.keeps λb o e=>(z.bs b o e).1;have D:s.heap.NoLimit:=z.mod.nolimit.keeps λb o e=>(z.bs b o e).1;have d:∀y∈ps.zip us,scope.names.lookup y.1=some .local\/(scope.names.lookup y.1=some .cell/\((cellsFrom `l scope.names []).lookup y.1).isSome=true):=λ⟨n,v⟩ hy=>by
  rcases S.par n (List.of_mem_zip hy).1 with q | q
  exact .inl q;exact .inr #[q,PySem.W.cellsFrom_some _ _ _<|.inl q]
 refine codeAny_call_function C.depth (O _ _ lk) rfl S.co S.gen rfl (PySem.W.codeRec_of O Z)<|hb _ _ _ _ ?_;refine wpAny_newFunctionEnv_cells S.kind d λa0 he X x=>?_;subst he;refine#[D.keeps x.toInCall.keep,codeAny_func ?_];obtain⟨t,ht,hq⟩:=Y A a s H vs Q E (C.deeper _) M;have I:Inv (jT CX P w K mg base N c scope f l A a s H E) [] (start N vs) H X:=aFr S C.hd z hl r x;refine wpAny_mono (ht [] X (start N vs) H _ I hq) (λfl L m=>?_) λe L m=>m;have B:∀{i:St} {j:Hp} {v:V} {u:Value},Inv (jT CX P w K mg base N c scope f l A a s H E) [] i j L->RelV v u->Q v j->CE a P w H s Q u L:=
  λ{i j v u} J G q=>#[v,j,J.os,J.bare,J.base,J.hok,G,q]
 cases fl with
 |ret u => obtain⟨v,i,j,J,G,q⟩:=m;exact B J G q
 |next => obtain⟨i,j,J,q⟩:=m;exact B (v:=V.non) (u:=Value.none) J rfl q
 |brk => obtain⟨_,_,_,q⟩:=m;exact False.elim q
 |cont => obtain⟨_,_,_,q⟩:=m;exact False.elim q
section
variable{X:Cx}{x:Str}{p a:Pos}{e:Expr}{b:T6}{t:TA}{c T:String}{r:S3->Hp->VK->Prop}
def tCB(r:S3->Hp->VK->Prop)(t:TA):TE:=λh H Q=>t h H λg f=>r g f Q
def ew_(q:CallR X (.builtin c) r)(v:Gl X x)(y:X.mg x=none)(hv:bootBuiltins x=some (.builtin c))(ha:PA X (e::b) t)(z:x ≠ "__name__":=by decide)(i:U5 x:=by decide)
  (u:U7 X e b:=by rfl) (l:U8 X a b:=by rfl):PE X (.Call (.Name x p) (e::b) [] a)<|tCB r t:=by
 intro f s g H Q I h;refine wpAny_Call_Name_kw<|gp_ I v y hv ?_ z i;refine PyProof.Rows.callWith_builtin1 (dR (ha a f s g H _ I h) λD C j=>?_) u l;obtain⟨E,m,o,B,A⟩:=j;exact q f C g m E D Q o B A
def tL(q:CallR X (.type T) r)(v:Gl X x)(y:X.mg x=none)(hv:bootBuiltins x=some (.type T))(ha:PA X (e::b) t)(z:x ≠ "__name__":=by decide)(i:U5 x:=by decide)
  (u:U7 X e b:=by rfl) (l:U8 X a b:=by rfl):PE X (.Call (.Name x p) (e::b) [] a)<|tCB r t:=by
 intro f s g H Q I h;refine wpAny_Call_Name_kw<|gp_ I v y hv ?_ z i;refine cN (dR (ha a f s g H _ I h) λD C j=>?_) u l;obtain⟨E,m,o,B,A⟩:=j;exact q f C g m E D Q o B A
end
end L2
namespace HT
open PySem PyProof.Rows
def lexLt:S7->S7->Bool
 | [],[]=>false
 | [],_::_=>true
 |_::_,[]=>false
 |x::xs,y::ys=>if x=y then lexLt xs ys else decide (x<y)
def lexLt_cons(x y:Int)(xs ys:S7):lexLt (x::xs) (y::ys)=if x=y then lexLt xs ys else decide (x<y):=rfl
def lexLt_nil_nil:lexLt [] []=false:=rfl
def lexLt_nil_cons(y:Int)(ys:S7):lexLt [] (y::ys)=true:=rfl
def lexLt_cons_nil(x:Int)(xs:S7):lexLt (x::xs) []=false:=rfl
def aMu(A:Around)(s:Shared)(a:Int)(t:Tok)(c:Int)(u:Tok):∃e,SeqAt.EqAt A s (.int a t) (.int c u) e/\(e=true↔a=c):=
 #[(a == c),SeqAt.EqAt.int_int a t c u,bi_ieq]
def aJa(A:Around)(s:Shared)(a:Int)(t:Tok)(c:Int)(u:Tok)(prog:Program)(w:World)(E:hX)(Q:hX)(h:Q (.bool<|decide (a<c)) s) :
  wpAny `f A (richCompare .Lt (.int a t)<|.int c u) Q E s:=
 (PyProof.Rows.lt_int h:wpAny `f A (compareOp .Lt (.int a t)<|.int c u) Q E s)
section
open PySem.SeqAt
open PySem.AutoSeq1 (wpAny_loadPart')
open PySem.MeetsSeq PySem.MeetsSeq2 PySem.MeetsSeq3
def rZ(l b:Addr)(i f:T8)(n n2:Nat)(dd Q:Option Addr)(sl O:Array<|Option Value)(ns C:S7)(M:IntsAre i.toList ns)(N:IntsAre f.toList C) :
  Meets (Builtin.«tuple.__lt__» #[[.ref l,.ref b],[]])
   (fun _ R s=>s.heap.get? l=some { cls:=.type "tuple",dict:=dd,data:=.seq i n,slots:=sl }∧s.heap.get? b=some { cls:=.type "tuple",dict:=Q,data:=.seq f n2,slots:=O } ∧
    R (.ok<|.ret<|.bool<|lexLt ns C) s):=
 .of_wp fun p w A R s h=>by
  obtain⟨B,g,d,tk,D⟩:=s;obtain⟨Z,X,h⟩:=h;have f2:=AutoSeq1.sub_tuple_tuple;have z1:i.size=ns.length:=by rw[<-M.length];simp
  have z2:f.size=C.length:=by rw[<-N.length];simp
  wp_walk using wpAny_loadPart' Z,wpAny_loadPart' X,wpAny_forIn_list _ (λrest b I=>b.1=none/\I=#[B,g,d,tk,D]/\∃(E F:S8) (m j:S7),rest=E.zip F /\
   IntsAre E m/\IntsAre F j/\m.length+f.size=j.length+i.size/\R (.ok<|.ret<|.bool<|lexLt m j) #[B,g,d,tk,D]) _
  case turn =>
   rintro⟨y,x⟩ rest b I ⟨J,rfl,E,F,m,j,r,G,z,v,o⟩;cases G with
   |nil=>rw[List.zip_nil_left]at r;cases r
   |cons a t W =>
    cases z with
    |nil=>rw[List.zip_nil_right]at r;cases r
    |cons c u U =>
     injection r with T S
     injection T with hy V
     subst hy V;rw[lexLt_cons]at o;simp only[aK]at v;obtain⟨e,Y,L⟩:=aMu A.in1 #[B,g,d,tk,D] a t c u;refine wpAny_bind<|Y p w _ _ ?_;cases e with
     |true =>
      rw[if_pos<|L.mp rfl]at o
      wp_walk
      exact#[rfl,rfl,_,_,_,_,S,W,U,by lia,o]
     |false =>
      rw[if_neg<|λq=>absurd (L.mpr q) bH]at o;have H:=aJa A.in1 #[B,g,d,tk,D] a t c u p w
      wp_walk using H
      exact#[_,rfl,by simpa using o]
  case fin =>
   rintro⟨b1,b2⟩ I ⟨J,rfl,E,F,m,j,r,G,z,v,o⟩;subst J;have hv:lexLt m j=decide (i.size<f.size):=by
    cases G with
    |nil =>
     cases z with
     |nil => exact(dzF `a).symm
     |cons c u k => simp only[bE,aK]at v;exact(dzT `a).symm
    |cons a t hv =>
     cases z with
     |nil => simp only[bE,aK]at v;exact(dzF `a).symm
     |cons c u k => cases r
   rw[hv]at o
   wp_walk
   exact#[_,rfl,by simpa [Builtin.Tuple.tupleCompareSizes]using o]
  case h => exact#[rfl,rfl,i.toList,f.toList,ns,C,rfl,M,N,by lia,h]
end
section
variable{prog:Program}{w:World}{A:Around}{E:hX}{s:Shared}
def lt_tupInts{l b}{items items2}{ns ms}{Q}(z:IsTup s.heap l items)(r:IsTup s.heap b items2)(v:IntsAre items.toList ns)(y:IntsAre items2.toList ms)
  (B:A.units<cLine) (h:Q (.bool<|lexLt ns ms) s):wpAny `f A (compareOp .Lt (.ref l)<|.ref b) Q E s:=by
 obtain⟨⟨p,q,f,D⟩,g,t,n,u⟩:=id z;obtain⟨⟨e,m,a,i⟩,c,o,C,j⟩:=id r;subst t u o j;exact richCompare_meets_room (op:=.Lt) #[_,g,rfl] #[_,c,rfl] PySem.F.slot_tuple_lt PySem.F.entry_tuple_lt (PySem.F.args_tuple_lt_2 _ _) (rZ l b items items2 n C q m D i ns ms v y)
  #[g,c,show Value.bool (lexLt ns ms)≠Value.notImplemented/\Q (.bool<|lexLt ns ms) s from#[(λx=>nomatch x),h]] B
def cat_tup{t b:Addr}{vs a:S8}{Q:hX}(C:IsTup s.heap t vs.toArray)(B:IsTup s.heap b a.toArray)(hv:vs≠[])
  (y:a=[]->Q (.ref t) s) (z:a≠[]->Q `m { s with heap:=s.heap.push { cls:=.type "tuple",data:=.seq (vs++a).toArray } })
  (hsz:vs.length+a.length<=sizeLine):wpAny `f A (binaryOp .Add (.ref t)<|.ref b) Q E s:=by
 obtain⟨⟨cls,p,data,v⟩,f,q,n,r⟩:=id C;obtain⟨⟨o,l,h,i⟩,c,m,u,j⟩:=id B;simp only at q r m j;subst q r m j;have e:vs.toArray++a.toArray=(vs++a).toArray:=by simp
 by_cases g:a=[];exact concat_meets #[_,f,rfl] #[_,c,rfl] noFill_tuple_add seq_tuple_add PySem.F.slot_tuple_add PySem.F.entry_tuple_add (PySem.F.args_tuple_add_2 _ _)
  (tuple_addW1 t b vs.toArray a.toArray n u p l v i (by simpa using hv)<|by simp[g]) #[f,c,y g]
 refine concat_meets #[_,f,rfl] #[_,c,rfl] noFill_tuple_add seq_tuple_add PySem.F.slot_tuple_add PySem.F.entry_tuple_add (PySem.F.args_tuple_add_2 _ _)
  (tuple_addW2 t b vs.toArray a.toArray n u p l v i (by simpa using hv) (by simpa using g) (by rw[aR,aR];exact hsz)) #[f,c,?_]
 rw[e];exact z g
def sIx(n d:Nat):T7->Nat
 |none=>d
 |some v=>if v<0 then(v+(n:Int)).toNat else min v.toNat n
def sIx_nat(n d k:Nat):sIx n d (some (k:Int))=min k n:=by show(if(k:Int)<0 then((k:Int)+(n:Int)).toNat else min (k:Int).toNat n)=min k n;rw[if_neg<|Int.not_ofNat_neg k,gC]
def aDl(v:Int)(n d:Nat):(if v<0 then max (v+(n:Int)) 0 else min v (n:Int))=((sIx n d (some v):Nat):Int):=by show(if v<0 then max (v+(n:Int)) 0 else min v (n:Int))=(((if v<0 then(v+(n:Int)).toNat else min v.toNat n):Nat):Int);by_cases hv:v<0;simp only[if_pos hv];lia;grind
def z_(b a:T7)(n:Nat):Builtin.Slice.sliceAdjust b a 1 (n:Int)=(((sIx n 0 b:Nat):Int),((sIx n n a:Nat):Int)):=by
 have c:¬((1:Int)<0):=by lia
 unfold Builtin.Slice.sliceAdjust;refine Prod.ext ?_ ?_;cases b with
 |none=>rfl
 |some v=>exact aDl v n 0
 cases a with
 |none=>rfl
 |some v=>exact aDl v n n
def s9(i j:Nat):Builtin.Slice.slicePlaces (i:Int) (j:Int) 1=j-i:=by unfold Builtin.Slice.slicePlaces;have a:(1:Int)>0:=Int.one_pos;simp only[a,if_true,Int.ediv_one];split<;>lia
def pO{v}{o}{Q}(p:IsPart v o)(h:Q o s):wpAny `f A (Builtin.Slice.slicePartIndex v) Q E s:=by
 cases p with
 |none=>exact slicePart_none h
 |int i t=>exact slicePart_int h
def ji_{sl}{vl vu}{lo hi}{n:Nat}{Q}(c:s.heap.IsSliceOf sl vl vu .none)(pl:IsPart vl lo)(e:IsPart vu hi)
  (h:Q (((sIx n 0 lo:Nat):Int),1,sIx n n hi-sIx n 0 lo) s):wpAny `f A (Builtin.Slice.sliceApplied (.ref sl)<|pure (n:Int)) Q E s:=by
 obtain⟨g,a,f,b⟩:=id c;refine wpAny_bind<|wpAny_bind<|wpAny_field a b (x:=vl) rfl<|wpAny_bind<|wpAny_field a b (x:=vu) rfl<|wpAny_bind<|wpAny_field a b (x:=.none) rfl<|wpAny_pure ?_;refine wpAny_bind<|slicePart_none ?_;refine wpAny_bind<|pO pl<|wpAny_bind<|pO e<|wpAny_bind<|wpAny_pure ?_;show wpAny _ _ (match Builtin.Slice.sliceAdjust lo hi 1 (n:Int)with | (lo,hi)=>pure (lo,(1:Int),Builtin.Slice.slicePlaces lo hi 1)) _ _ s;rw[z_ lo hi n];show wpAny _ _ (pure (((sIx n 0 lo:Nat):Int),(1:Int),Builtin.Slice.slicePlaces ((sIx n 0 lo:Nat):Int) ((sIx n n hi:Nat):Int) 1)) _ _ s;rw[s9];exact wpAny_pure h
def aJt(xs:T8)(i k:Nat):((List.range k).filterMap λ(m:Nat)=>xs[((i:Int)+(m:Int)*1).toNat]?).toArray=((xs.toList.drop i).take k).toArray:=by
 have e:(λ(m:Nat)=>xs[((i:Int)+(m:Int)*1).toNat]?)=λm=>xs[i+m]?:=by
  funext m;have:((i:Int)+(m:Int)*1).toNat=i+m:=by lia
  rw[this]
 rw[e];have:=pick_run xs i k;rw[List.filterMap_map]at this;have a:((λx=>xs[x]?) ∘ λx=>i+x)=λm=>xs[i+m]?:=rfl;rw[a]at this;rw[this]
def getItem_tuple_cut{t sl}{items}{vl vu}{lo hi}{Q}(b:IsTup s.heap t items)(e:s.heap.IsSliceOf sl vl vu .none)(pl:IsPart vl lo)(m:IsPart vu hi)
  (j:¬(sIx items.size 0 lo=0/\sIx items.size items.size hi=items.size))
  (h:Q `m { s with heap:=s.heap.push { cls:=.type "tuple",data:=.seq ((items.toList.drop<|sIx items.size 0 lo).take<|sIx items.size items.size hi-sIx items.size 0 lo).toArray } })
  (hsz:items.size<=sizeLine):wpAny `f A (getItem (.ref t)<|.ref sl) Q E s:=by
 have a:sizeOk<|.seq ((items.toList.drop<|sIx items.size 0 lo).take<|sIx items.size items.size hi-sIx items.size 0 lo).toArray:=by show((items.toList.drop<|sIx items.size 0 lo).take<|sIx items.size items.size hi-sIx items.size 0 lo).toArray.size<=sizeLine;rw[aR,fG,iK,Array.length_toList];lia
 obtain⟨l,i,g,p⟩:=id e;have c:s.TypeIs (.ref sl) "slice":=#[l,i,g];unfold getItem
 try with_reducible refine wpAny_holding ?_
 first | refine wpAny_bind (wpAny_pure ?_) | skip
 refine wpAny_bind<|wpAny_sequenceKey b.typeIs rfl ?_;refine wpAny_bind (wpAny_callSpecial?_slot b.typeIs jL
  (wpAny_call_entry jL b.typeIs entry_tuple_getitem ?_<|args_tuple_getitem _ _))
 show wpAny _ _ (Builtin.Tuple.tupleItemsOf (.ref t) >>= _) _ _ s;refine wpAny_bind<|tupleItemsOf_ b ?_;refine wpAny_bind<|wpAny_typeOf c ?_;refine wpAny_bind<|ji_ e pl m ?_;have f:¬((((sIx items.size 0 lo:Nat):Int) == 0&&(1:Int) == 1&&(sIx items.size items.size hi-sIx items.size 0 lo) == items.size)=true):=by intro q;rw[cM,cM]at q;have o:=eq_of_beq q.1.1;exact j #[Int.ofNat_eq_zero.mp o,by lia]
 show wpAny _ _ (if(((sIx items.size 0 lo:Nat):Int) == 0&&(1:Int) == 1&&(sIx items.size items.size hi-sIx items.size 0 lo) == items.size)=true then _ else _) _ _ s;rw[if_neg f,aJt]
 first
  |exact wpAny_bind (wpAny_newObj_type (wpAny_pure #[_,rfl,wpAny_pure h]) a)
  |exact wpAny_bind (wpAny_newObj_type (wpAny_bind<|wpAny_pure<|wpAny_pure #[_,rfl,wpAny_pure h]) a)
  |exact wpAny_bind (wpAny_bind<|wpAny_newObj_type (wpAny_pure<|wpAny_pure #[_,rfl,wpAny_pure h]) a)
  |exact wpAny_bind<|wpAny_bind<|wpAny_newObj_type (wpAny_pure #[_,rfl,wpAny_pure h]) a
end
end HT
namespace L2
open PySem PySem.Spec PyProof.Rows
abbrev TO:=St->Hp->(T7->Hp->Prop)->Prop
def PO(X:Cx)(e:Option Expr)(t:TO):Prop:=
 ∀(b:gM) (s:Shared) (a:St) (H:Hp) (Q:T7->Hp->Prop),Inv X b a H s->t a H Q ->
  wpAny `d X.A (evalPart e X.env) (λu f=>∃o c,Inv X b a c f/\IsPart u o/\Q o c) X.xe s
def aPa:TO:=λ_ H Q=>Q none H
def bDo(t:TE):TO:=λb H Q=>t b H λx a=>∃i,x=.int i/\Q (some i) a
def eo_:∀{us},Vals (ns.map V.int) us->IntsAre us ns:=by
 induction ns with
 |nil=>intro us r;rw[fC]at r;cases r;exact .nil
 |cons n ns a =>
  intro us r;cases r with
  |cons b c => obtain⟨t,e⟩:=b;subst e;exact .cons n t<|a c
section
variable{X:Cx}{e:Expr}{g:TE}{c f:Option Expr}{j m:TO}{A o:Pos}
def aPt:PO X none aPa:=by intro a s b H Q I h;exact wpAny_pure #[none,H,I,.none,h]
def aPs(h:PE X e g):PO X (some e)<|bDo g:=by intro a s z H Q I r;refine dR (h a s z H _ I r) λu B b=>?_;obtain⟨x,l,p,y,v⟩:=b;obtain⟨i,rfl,q⟩:=v;obtain⟨t,rfl⟩:=y;exact#[some i,l,p,.int i t,q]
def SlR(X:Cx)(r:V->T7->T7->Hp->VK->Prop):Prop:=
 ∀(a:gM) (s:Shared) (l:St) (H:Hp) (x:V) (v h i:Value) (c f:T7) (b:Addr) (Q:VK),Inv X a l H s->RelV x v->s.heap.IsSliceOf b h i .none->IsPart h c->IsPart i f->r x c f H Q ->
  ∃T p,typeLookup (.type T) "__getitem__" = pure (some<|.builtin p)/\s.TypeIs v T/\wpAny `d X.A (getItem v<|.ref b) (EP X a l Q) X.xe s
def SlR.or(h:SlR X r)(h':SlR X r'):SlR X<|λx c f H Q=>r x c f H Q\/r' x c f H Q:=by
 intro a s z H x v u y c f t Q I p b i l q;rcases q with q | q
 exact h a s z H x v u y c f t Q I p b i l q;exact h' a s z H x v u y c f t Q I p b i l q
def tSl(r:V->T7->T7->Hp->VK->Prop)(g:TE)(j m:TO):TE:=λa H Q=>g a H λx b=>j a b λl h=>m a h λu i=>r x l u i Q
def qH(S:SlR X r)(N:PE X e g)(R:PO X c j)(W:PO X f m):PE X (.Subscript e (.Slice c f none o) A)<|tSl r g j m:=by intro i s p H Q I h;refine Subscript_<|dR (N i s p H _ I h) λv s1 z=>?_;obtain⟨x,D,F,r1,d⟩:=z;refine wpAny_Slice<|dR (R i s1 p D _ F d) λt s2 z=>?_;obtain⟨l,E,G,Y,k⟩:=z;refine dR (W i s2 p E _ G k) λy a C=>?_;obtain⟨u,B,J,Z,n⟩:=C;rw[evalPart_none];refine wpAny_pure ?_;have L:Inv X i p B { a with heap:=a.heap.push { cls:=.type "slice",data:=.fields [t,y,.none].toArray } }:=J.kept (t':=a.toks) λb ob q=>aD _ q;obtain⟨T,id,M,U,O⟩:=S i { a with heap:=a.heap.push { cls:=.type "slice",data:=.fields [t,y,.none].toArray } } p B x v t y l u a.heap.objs.size Q L r1 (Heap.IsSliceOf.new ..) Y Z n;show wpAny `d X.A (subscriptTail e (.Slice c f none o) v<|.ref a.heap.objs.size) (EP X i p Q) X.xe { a with heap:=a.heap.push { cls:=.type "slice",data:=.fields [t,y,.none].toArray } };exact tail_any (ops:=[.ref a.heap.objs.size,v]) U M O<|by with_unfolding_all rfl
def w5(xs:S3)(c f:T7):S3:=(xs.drop<|HT.sIx xs.length 0 c).take<|HT.sIx xs.length xs.length f-HT.sIx xs.length 0 c
def lj_(xs:S3)(c f:T7):(w5 xs c f).length<=xs.length:=by unfold w5;rw[fG,iK];lia
def bJq(K:dN):V->T7->T7->Hp->VK->Prop:=λx c f H Q=>∃a b,x=.ref a/\SqT K H a b /\
 ¬(HT.sIx b.length 0 c=0/\HT.sIx b.length b.length f=b.length)/\∀p,H p=none->Q (.ref p) (upd H p<|.tup<|w5 b c f)
def aVs:SlR X<|bJq X.K:=by
 intro F s M H x v J L c f G Q I E y C D h;obtain⟨a,i,rfl,B,z,q⟩:=h;cases E;obtain⟨p,r,t,u⟩:=I.tuple B;have l:p.toArray.size=i.length:=by rw[aR];exact r.length.symm
 refine#["tuple",_,jL.lookup,t.typeIs,?_];refine HT.getItem_tuple_cut t y C D (by rw[l];exact z) ?_ (by rw[l];exact u);rw[l];refine#[.ref s.heap.objs.size,_,I.laid (t':=s.toks) (λb ob q=>aD _ q) (aO _) ?_,rfl,q _<|I.hok.fresh<|aO _];exact#[nzL (lj_ i c f) u,_,(r.drop<|HT.sIx i.length 0 c).take<|HT.sIx i.length i.length f-HT.sIx i.length 0 c,IsTup.new _ _]
def aTm(K:dN):R2:=λx y H Q=>∃a b i h,x=.ref a/\y=.ref b/\SqT K H a i/\SqT K H b h/\i≠[]/\i.length+h.length<=sizeLine /\
 (h=[]->Q `i H)/\(h≠[]->∀p,H p=none->Q (.ref p) (upd H p<|.tup<|i++h))
def Vals.nil_iff(r:Vals xs us):us=[]↔xs=[]:=by
 cases r with
 |nil=>simp
 |cons _ _=>simp
def aQi:OpR X (binaryOp .Add)<|aTm X.K:=by intro M s R H x y v u Q I J L h;obtain⟨a,b,N,O,rfl,rfl,t,B,C,p,F,G⟩:=h;cases J;cases L;obtain⟨D,l,E,_⟩:=I.tuple t;obtain⟨r,i,o,_⟩:=I.tuple B;refine HT.cat_tup E o (λz=>C<|l.nil_iff.mp z) (λz=>#[.ref a,H,I,rfl,F<|i.nil_iff.mp z]) (λz=>?_) (by rw[<-l.length,<-i.length];exact p);refine#[.ref s.heap.objs.size,_,I.laid (t':=s.toks) (λb ob q=>aD _ q) (aO _) ?_,rfl,G (λw=>z<|i.nil_iff.mpr w) _<|I.hok.fresh<|aO _];exact#[by rw[aI];exact p,_,l.append i,IsTup.new _ _]
end
def ixN(n:Nat)(i:Int):Option Nat:=if 0<=i then(if i<n then some i.toNat else none)else if -(n:Int)<=i then some (i+n).toNat else none
def atI{a:Type}(xs:List a)(i:Int):Option a:=(ixN xs.length i).bind λj=>xs[j]?
def aCn(h:ixN n i=some j):seqIndex? i n=some j/\j<n /\ -(n:Int)<=i/\i<n:=by unfold ixN at h;by_cases b:0<=i;rw [if_pos b] at h;by_cases a:i<n;rw [if_pos a] at h;have e:=ozI h;exact#[by rw[seqIndex_of b a,e],by lia,by lia,a];rw[if_neg a]at h;cases h;rw [if_neg b] at h;by_cases a : -(n:Int)<=i;rw [if_pos a] at h;have e:=ozI h;exact#[by rw[seqIndex_neg (Int.lt_of_not_ge b) a,e],by lia,a,by lia];rw[if_neg a]at h;cases h
def yK{v:α}(h:atI xs i=some v):∃j,seqIndex? i xs.length=some j/\xs[j]? = some v/\j<xs.length /\ -(xs.length:Int)<=i/\i<xs.length:=by
 unfold atI at h;cases e:ixN xs.length i with
 |none=>rw[e]at h;cases h
 |some j => rw[e]at h;obtain⟨a,b,c,f⟩:=aCn e;exact#[j,a,h,b,c,f]
def k_{j:Nat}{v:α}(h:xs[j]? = some v):atI xs (j:Int)=some v:=by
 have a:=(aL.mp h).1;have e:ixN xs.length (j:Int)=some j:=by unfold ixN;rw[if_pos<|Int.natCast_nonneg j,if_pos<|Int.ofNat_lt.mpr a];simp
 unfold atI;rw[e];exact h
def jY(b:Expr):Prop:=∀o i,subscripted b false o i=operate [o,i] (getItem o i)
def IxR(X:Cx)(r:R2):Prop:=
 ∀(b a:Expr) (c:gM) (s:Shared) (e:St) (H:Hp) (x y:V) (v u:Value) (Q:VK),Inv X c e H s->RelV x v->RelV y u->r x y H Q ->
  subscripted a false v u=operate [v,u] (getItem v u)->wpAny `d X.A (subscriptTail b a v u) (EP X c e Q) X.xe s
def MtR(X:Cx)(f:String)(r:V->S3->Hp->VK->Prop):Prop:=
 ∀(a:gM) (s:Shared) (e:St) (H:Hp) (x:V) (c:S3) (v:Value) (b:S8) (Q:VK),Inv X a e H s->RelV x v->Vals c b->r x c H Q ->
  wpAny `d X.A (call (.builtin f) (v::b)) (EP X a e Q) X.xe s
section
variable{X:Cx}{a b:Expr}{F E:TE}{D:Pos}
def IxR.or(h:IxR X r)(h':IxR X r'):IxR X<|λx y H Q=>r x y H Q\/r' x y H Q:=by
 intro e c f s l H x y v u Q I i j q g;rcases q with q | q
 exact h e c f s l H x y v u Q I i j q g;exact h' e c f s l H x y v u Q I i j q g
def zY(i:IxR X r)(ha:PE X a F)(g:PE X b E)(j:jY b):PE X (.Subscript a b D)<|tOp r F E:=by intro c s p H Q I h;exact Subscript_<|bBq ha g I h λv u o x y e f l m q=>i a b c o p e x y v u Q f l m q<|j _ _
def aJd(K:dN):R2:=λx y H Q=>∃p c i v,x=.ref p/\y=.int i/\SqL K H p c/\atI c i=some v/\Q v H
def aVx(K:dN):R2:=λx y H Q=>∃p c i v,x=.ref p/\y=.int i/\SqT K H p c/\atI c i=some v/\Q v H
def bEe:R2:=λx y H Q=>∃z i c,x=.str z/\y=.int i/\z.length<=sizeLine/\atI z.cps.toList i=some c/\Q (.str #[[c].toArray]) H
def xI:IxR X<|aJd X.K:=by
 intro A o J s W H x y v u Q I T U h G;obtain⟨p,k,i,z,rfl,rfl,S,O,q⟩:=h;cases T;obtain⟨t,rfl⟩:=U;obtain⟨g,r,l,d⟩:=I.list S;obtain⟨j,e,L,Y,M,N⟩:=yK O;obtain⟨w,B,m⟩:=r.get L;have R:=r.length;have Z:=mP;have c:EP X J W Q w s:=#[z,H,I,m,q];by_cases C:0<=i;have f:i.toNat=j:=by rw[seqIndex_of C N]at e;exact ozI e
 exact item_listR l.isList C `a (by rw[f];simpa using B) c G;have f:(i + (g.toArray.size:Int)).toNat=j:=by rw[seqIndex_neg `a M]at e;rw[aR,<-R];exact ozI e
 exact subscriptTail_builtinR (x:=w) l.isList.typeIs slot_list_getitem.lookup
  (wpAny_getItem_list_neg l.isList `a (by rw[aR]<;>lia) `a (by rw[f];simpa using B) #[rfl,c]) G
def bAh:IxR X<|aVx X.K:=by
 intro g f m s R H x y v u Q I N O h L;obtain⟨p,Z,i,z,rfl,rfl,J,C,q⟩:=h;cases N;obtain⟨t,rfl⟩:=O;obtain⟨M,r,l,Y⟩:=I.tuple J;obtain⟨j,A,B,S,T,U⟩:=yK C;obtain⟨w,o,e⟩:=r.get B;have G:=r.length;have W:=mP;have c:EP X m R Q w s:=#[z,H,I,e,q];exact subscriptTail_builtinR (x:=w) l.typeIs slot_tuple_getitem.lookup
  (getItem_tuple (j:=j) l `a `a (by rw[aR,<-G];exact A) (by simpa using o) #[rfl,c]) L
def bAi:IxR X bEe:=by
 intro f e L s S H x y v u Q I G J h C;obtain⟨z,i,c,rfl,rfl,O,A,q⟩:=h;obtain⟨t,rfl⟩:=G;obtain⟨R,rfl⟩:=J;obtain⟨j,g,o,M,p,r⟩:=yK A;have B:z.cps.toList.length=z.length:=by simp[Str.length]
 rw[B]at g p r;have N:=mP;exact tail_any (typeIs_str s z t) slot_str_getitem.lookup (getItem_str (c:=c) (by
  have l:decide (i < -(2^63:Int))=false:=by grind
  have m:decide (i>=2^63)=false:=dzF `a;rw[l,m,Bool.or_false]) (by rw[g];simpa using o) #[.str #[[c].toArray],H,I.tok _,`r,q]) C
def t9(its:S8)(n j:Nat)(u:Value):Obj.mapSeq (·.setIfInBounds j u) { cls:=.type "list",data:=.seq its.toArray n }={ cls:=.type "list",data:=.seq (its.set j u).toArray n }:=by simp[Obj.mapSeq]
def Inv.lst(I:Inv X Aa c H s)(h:H p=some (.lst xs)) :
  ∃(its:S8) (n:Nat),Vals xs its/\s.heap.get? p=some { cls:=.type "list",data:=.seq its.toArray n }/\xs.length<=sizeLine:=by
 obtain⟨z,its,n,r,e⟩:=I.hok p _ h;exact#[its,n,r,e,z]
def Inv.lstUpd{g:gM}{j:St}{H:Hp}{s:Shared}{p:Addr}{xs ys:S3}{its its':S8}{n c:Nat}{f:Obj->Obj}(I:Inv X g j H s)(h:H p=some (.lst xs))
  (m:s.heap.get? p=some { cls:=.type "list",data:=.seq its.toArray n }) (i:f { cls:=.type "list",data:=.seq its.toArray n }={ cls:=.type "list",data:=.seq its'.toArray c }) (r:Vals ys its') (hz:ys.length<=sizeLine) (t:Nat) :
  Inv X g j (upd H p<|.lst ys) { s with heap:=s.heap.update p f,toks:=t }:=by
 have e:(s.heap.update p f).get? p=some { cls:=.type "list",data:=.seq its'.toArray c }:=by rw[cF f m (by rw[i]<;>rfl),i]
 refine I.write (x:=p) (e:=p) (by rw[h];trivial) (.inl rfl) (λb u l q=>(bC _ _<|Ne.symm l).trans q) #[_,e] ?_;exact#[hz,its',c,r,e]
def aTl:V->V->V->Hp->(Hp->Prop)->Prop:=λo i v H Q=>∃p c k j,o=.ref p/\i=.int k/\H p=some (.lst c)/\ixN c.length k=some j/\Q (upd H p<|.lst<|c.set j v)
def zH:bHk X aTl:=by
 intro N s W H o i v T S u Q I L J M h;obtain⟨p,U,k,j,rfl,rfl,B,C,q⟩:=h;cases L;obtain⟨t,rfl⟩:=J;obtain⟨c,n,r,l,G⟩:=I.lst B;obtain⟨e,O,z,A⟩:=aCn C;have g:=r.length;have R:=mP;have m:=
  I.lstUpd B l (t9 c n j u) (r.set M j) (by rw[bJ];exact G) s.toks
 by_cases y:0<=k;have f:k.toNat=j:=by rw[seqIndex_of y A]at e;exact ozI e
 exact PySem.W.ki_setAt l y `a (by rw[aR,<-g];exact A) (by rw[f];exact#[_,m,q]);have f:(k + (c.toArray.size:Int)).toNat=j:=by rw[seqIndex_neg `a z]at e;rw[aR,<-g];exact ozI e
 exact PySem.W.ki_setBack l `a (by rw[aR,<-g];exact z) `a (by rw[f];exact#[_,m,q])
def vV(e c:T7)(n:Nat):(sliceBounds e c none n).1=((HT.sIx n 0 e:Nat):Int)/\(sliceBounds e c none n).2.1=((HT.sIx n n c:Nat):Int)/\(sliceBounds e c none n).2.2=1:=by
 refine#[?_,?_,rfl];cases e with
 |none=>exact Int.mem_toNat?.mp rfl
 |some i =>
  simp only[sliceBounds,HT.sIx,Option.getD_none,show(1:Int)>0 by decide,if_true];by_cases h:i<0;simp only[h,if_true]<;>lia
  simp only[h,if_false]<;>lia
 cases c with
 |none=>exact Int.mem_toNat?.mp rfl
 |some i =>
  simp only[sliceBounds,HT.sIx,Option.getD_none,show(1:Int)>0 by decide,if_true];by_cases h:i<0;simp only[h,if_true]<;>lia
  simp only[h,if_false]<;>lia
def sC(its:S8)(c e:T7):slicePick its.toArray c e none=((its.drop<|HT.sIx its.length 0 c).take<|HT.sIx its.length its.length e-HT.sIx its.length 0 c).toArray:=by obtain⟨f,g,h⟩:=vV c e its.toArray.size;unfold slicePick;rw[f,g,h];simp only[sliceRange_one,pick_run,aR]<;>rfl
def bEb(K:dN):V->T7->T7->Hp->VK->Prop:=λx f e H Q=>∃a c,x=.ref a/\SqL K H a c/\∀p,H p=none->Q (.ref p) (upd H p<|.lst<|w5 c f e)
def aPh:SlR X<|bEb X.K:=by intro y s C H x v A B e f z Q I u j p t h;obtain⟨a,c,rfl,l,q⟩:=h;cases u;obtain⟨o,r,g,m⟩:=I.list l;have i:=r.length;refine#["list",_,slot_list_getitem.lookup,g.isList.typeIs,?_];refine wpAny_getItem_list_slice g.isList j p t .none `g ?_ (by rw[aR]<;>lia);rw[sC,<-i];refine#[.ref s.heap.objs.size,_,I.laid (t':=s.toks) (λb ob q=>aD _ q) (aO _) ?_,rfl,q _<|I.hok.fresh<|aO _];exact#[nzL (lj_ c e f) m,_,0,(r.drop<|HT.sIx c.length 0 e).take<|HT.sIx c.length c.length f-HT.sIx c.length 0 e,aW _ rfl]
def kC:V->Bool
 | .non=>true
 | .bl _=>true
 | .int _=>true
 | .str _=>true
 |_=>false
def eqV:V->V->Bool
 | .non,.non=>true
 | .bl a,.bl b=>a == b
 | .bl a,.int b=>(if a then 1 else 0) == b
 | .int a,.bl b=>a == (if b then 1 else 0)
 | .int a,.int b=>a == b
 | .str a,.str b=>a == b
 |_,_=>false
def bBa(f:RelV y u)(c:RelV x v)(g:kC y=true)(fx:kC x=true):SeqAt.EqAt A s u v<|eqV y x:=by
 cases y with
 |non =>
  cases f;cases x with
  |non=>cases c;exact SeqAt.EqAt.same _
  |bl b=>cases c;exact SeqAt.EqAt.none_bool b
  |int b=>obtain⟨t,rfl⟩:=c;exact SeqAt.EqAt.none_int b t
  |str b=>obtain⟨t,rfl⟩:=c;exact SeqAt.EqAt.none_str b t
  |_=>exact absurd (fx) bH
 |bl a =>
  cases f;cases x with
  |non=>cases c;exact SeqAt.EqAt.bool_none a
  |bl b=>cases c;exact SeqAt.EqAt.bool_bool a b
  |int b=>obtain⟨t,rfl⟩:=c;exact SeqAt.EqAt.bool_int a b t
  |str b=>obtain⟨t,rfl⟩:=c;exact SeqAt.EqAt.bool_str a b t
  |_=>exact absurd (fx) bH
 |int a =>
  obtain⟨e,rfl⟩:=f;cases x with
  |non=>cases c;exact SeqAt.EqAt.int_none a e
  |bl b=>cases c;exact SeqAt.EqAt.int_bool a e b
  |int b=>obtain⟨t,rfl⟩:=c;exact SeqAt.EqAt.int_int a e b t
  |str b=>obtain⟨t,rfl⟩:=c;exact SeqAt.EqAt.int_str a e b t
  |_=>exact absurd (fx) bH
 |str a =>
  obtain⟨e,rfl⟩:=f;cases x with
  |non=>cases c;exact SeqAt.EqAt.str_none a e
  |bl b=>cases c;exact SeqAt.EqAt.str_bool a e b
  |int b=>obtain⟨t,rfl⟩:=c;exact SeqAt.EqAt.str_int a e b t
  |str b=>obtain⟨t,rfl⟩:=c;exact SeqAt.EqAt.str_str a e b t
  |_=>exact absurd (fx) bH
 |_=>exact absurd (g) bH
def eqU(x:V)(u:Value):Bool:=match u with
 | .none=>eqV .non x
 | .bool b=>eqV (.bl b) x
 | .int i _=>eqV (.int i) x
 | .str z _=>eqV (.str z) x
 |_=>false
def aMt(r:RelV y u)(f:kC y=true):eqU x u=eqV y x:=by
 cases y with
 |non=>cases r;rfl
 |bl b=>cases r;rfl
 |int i=>obtain⟨t,rfl⟩:=r;rfl
 |str z=>obtain⟨t,rfl⟩:=r;rfl
 |_=>exact absurd (f) bH
def lr_:∀{xs} {us},Vals xs us->xs.all kC=true->us.any (eqU x)=xs.any λy=>eqV y x
 |_,_,.nil,_=>rfl
 |y::xs,u::us,.cons r t,f=>by rw[List.all_cons,cM]at f;rw[List.any_cons,List.any_cons,aMt r f.1,lr_ t f.2]
def hu_(e:RelV x v)(fx:kC x=true):∀{xs} {us},Vals xs us->xs.all kC=true->∀u∈us,SeqAt.EqAt A s u v (eqU x u)
 |_,_,.nil,_=>λu c=>by cases c
 |y::xs,u::us,.cons r t,f=>λg c=>by
  rw[List.all_cons,cM]at f;rcases aE.mp c with rfl | c
  rw[aMt r f.1];exact bBa r e f.1 fx;exact hu_ e fx t f.2 g c
def inV(x:V)(xs:S3):Bool:=xs.any λy=>eqV y x
def rIn(K:dN)(e:Bool):R2:=λx y H Q=>∃p c,y=.ref p/\(SqL K H p c\/SqT K H p c)/\kC x=true/\c.all kC=true/\Q (.bl (if e then !inV x c else inV x c)) H
def aEz:OpR X (compareOp .In)<|rIn X.K false:=by
 intro m s t H x y v u Q I i l h;obtain⟨p,o,rfl,e,fx,fs,q⟩:=h;cases l;rcases e with e | e
 obtain ⟨c,r,g,j⟩:=I.list e;refine SeqAt.in_listAt (eqU x) g.isList (λw f=>hu_ i fx r fs w<|by simpa using f) #[.bl _,H,I,rfl,?_];rw[show c.toArray.any (eqU x)=c.any (eqU x) by simp,lr_ r fs];exact q;obtain ⟨c,r,g,j⟩:=I.tuple e;refine SeqAt.in_tupleAt (eqU x) g (λw f=>hu_ i fx r fs w<|by simpa using f) #[.bl _,H,I,rfl,?_];rw[show c.toArray.any (eqU x)=c.any (eqU x) by simp,lr_ r fs];exact q
def wP:OpR X (compareOp .NotIn)<|rIn X.K true:=by
 intro m s t H x y v u Q I i l h;obtain⟨p,o,rfl,e,fx,fs,q⟩:=h;cases l;rcases e with e | e
 obtain ⟨c,r,g,j⟩:=I.list e;refine SeqAt.notIn_listAt (eqU x) g.isList (λw f=>hu_ i fx r fs w<|by simpa using f) #[.bl _,H,I,rfl,?_];rw[show c.toArray.any (eqU x)=c.any (eqU x) by simp,lr_ r fs];exact q;obtain ⟨c,r,g,j⟩:=I.tuple e;refine SeqAt.notIn_tupleAt (eqU x) g (λw f=>hu_ i fx r fs w<|by simpa using f) #[.bl _,H,I,rfl,?_];rw[show c.toArray.any (eqU x)=c.any (eqU x) by simp,lr_ r fs];exact q
def jV:CallR X (.builtin "len") (λxs H Q=>∃p ys,xs=[.ref p]/\(SqL X.K H p ys\/SqT X.K H p ys)/\Q (.int ys.length) H):=by
 intro m s v H xs t Q I r h;obtain⟨p,ys,rfl,c,q⟩:=h;obtain⟨u,rfl,l⟩:=jN r;cases l;have o:=mP;rcases c with c | c
 obtain ⟨f,i,g,j⟩:=I.list c;have e:=i.length;exact Calls.call_len_list g.isList (by simp only[aR]<;>lia) #[.int ys.length,H,I.tok _,#[s.toks+1,by rw[aR,e]],q];obtain ⟨f,i,g,j⟩:=I.tuple c;have e:=i.length;exact len_tuple g (by simp only[aR]<;>lia) #[.int ys.length,H,I.tok _,#[s.toks+1,by rw[aR,e]],q]
def yH:CallR X (.builtin "len") (λxs H Q=>∃z,xs=[.str z]/\z.length<=sizeLine/\Q (.int z.length) H):=by intro c s i H xs g Q I r h;obtain⟨z,rfl,f,q⟩:=h;obtain⟨u,rfl,t,rfl⟩:=jN r;have e:=mP;exact len_str `a #[.int z.length,H,I.tok _,`r,q]
def CallR.or(h:CallR X f r)(h':CallR X f r'):CallR X f<|λxs H Q=>r xs H Q\/r' xs H Q:=by
 intro c s i H xs g Q I e q;rcases q with q | q
 exact h c s i H xs g Q I e q;exact h' c s i H xs g Q I e q
def yG:CallR X (.type "list") (λxs H Q=>∃p ys,xs=[.ref p]/\(SqL X.K H p ys\/SqT X.K H p ys)/\∀l,H l=none->Q (.ref l) (upd H l<|.lst ys)):=by
 intro G s M H xs N Q I r h;obtain⟨p,ys,rfl,m,q⟩:=h;obtain⟨u,rfl,L⟩:=jN r;cases L;have j:∀(c:S8),Vals ys c->ys.length<=sizeLine->∀(f:Heap) (g:Nat),(∀b C,s.heap.get? b=some C->f.get? b=some C) ->
   f.get? s.heap.objs.size=some { cls:=.type "list",dict:=none,data:=.seq c.toArray g,slots:= [].toArray }->EP X G M Q `m { s with heap:=f }:=λc i t f g v e =>
  #[.ref s.heap.objs.size,_,I.laid (t':=s.toks) v (aO _)<|show ObjOk X.prog X.w _ f _ (.lst ys)from#[t,c,g,i,e],rfl,q _<|I.hok.fresh<|aO _]
 rcases m with m | m
 obtain ⟨c,i,B,t⟩:=I.list m;have J:=i.length;obtain⟨o,A,y,n,z⟩:=B.isList;exact call_list_seq p (.inl rfl) A y z (λf g v e=>j c i t f g v e) (by simp only[aR]<;>lia);obtain ⟨c,i,B,t⟩:=I.tuple m;have J:=i.length;obtain⟨o,A,y,n,z⟩:=B;exact call_list_seq p (.inr rfl) A y z (λf g v e=>j c i t f g v e) (by simp only[aR]<;>lia)
def sK:CallR X (.type "tuple") (λxs H Q=>∃p ys,xs=[.ref p]/\((SqL X.K H p ys/\∀l,H l=none->Q (.ref l) (upd H l<|.tup ys))\/(SqT X.K H p ys/\Q (.ref p) H))):=by
 intro A s G H xs C Q I r h;obtain⟨p,ys,rfl,h⟩:=h;obtain⟨u,rfl,z⟩:=jN r;cases z;rcases h with⟨f,q⟩ | ⟨f,q⟩
 obtain ⟨c,i,g,m⟩:=I.list f;have B:=i.length;refine call_tuple_list g.isList (λv y=>?_) (by simp only[aR]<;>lia);have j:=I.kept (t':=s.toks) y;have t:=
  j.laid (t':=s.toks) (λb o e=>aD _ e) (aO _) (show ObjOk X.prog X.w _ _ _ (.tup ys)from#[m,c,i,IsTup.new _ _])
 exact#[.ref v.objs.size,_,t,rfl,q _<|j.hok.fresh<|aO _];obtain ⟨c,i,g,m⟩:=I.tuple f;exact call_tuple_same g #[.ref p,H,I,rfl,q]
def tyV(K:dN)(T:String)(x:V)(H:Hp):Prop:=match x with
 | .int _=>T = "int"
 | .ref p=>(T = "list" /\ ∃c,SqL K H p c)\/False
 |_=>False
def aIg(I:Inv X Aa l H s)(r:RelV x v)(ty:tyV X.K T x H) :
  s.TypeIs v T/\∀a,v=.ref a->∃ob,s.heap.get? a=some ob/\ob.dict=none:=by
 cases x with
 |int i => obtain⟨t,rfl⟩:=r;cases(ty);exact#[typeIs_int s i t,λ_ e=>nomatch e]
 |ref p =>
  cases r;rcases ty with⟨rfl,m,h⟩ | z
  obtain ⟨j,_,f,_⟩:=I.list h;refine#[f.isList.typeIs,λa e=>?_];cases e;obtain⟨o,n,e,c,g,_⟩:=f;exact#[o,e,g];exact z.elim
 |_=>exact False.elim ty
def aVp(K:dN)(T:String)(r:V->S3->Hp->VK->Prop)(to:TE):TE:=λe H Q=>to e H λx c=>tyV K T x c/\r x [] c Q
def tBM(K:dN)(T:String)(r:V->S3->Hp->VK->Prop)(to:TE)(t:TA):TE:=λe H Q=>to e H λx c=>tyV K T x c/\t e c λg f=>r x g f Q
variable{o e:Expr}{C:T6}{to:TE}{t:TA}{name:Str}{m g:Pos}{T B:String}{r:V->S3->Hp->VK->Prop}
def aKd(M:PlainAttrs T)(c:Slot T name B)(z:typeOf (.builtin B)=pure (.type "method_descriptor"))(J:MtR X B r)(L:PE X o to)
  (q:attributeBase o name X.env (eval o X.env)=eval o X.env:=by rfl) (u:(m.endLine == g.line)=true:=by rfl):PE X (.Call (.Attribute o name m) [] [] g)<|aVp X.K T r to:=by
 intro f s l H Q I h;refine wpAny_Call_method0_late q u<|dR (L f s l H _ I h) λv O p=>?_;obtain⟨x,y,i,j,ty,N⟩:=p;obtain⟨A,G⟩:=aIg i j ty;exact#[T,B,M,c,z,A,G,Calls.callWith_builtin rfl<|PySem.evalArgs_none<|J f O l y x [] v [] Q i j .nil N]
def aKe(W:PlainAttrs T)(c:Slot T name B)(L:typeOf (.builtin B)=pure (.type "method_descriptor"))(R:MtR X B r)(S:PE X o to)(ha:PA X (e::C) t)
  (u:attributeBase o name X.env (eval o X.env)=eval o X.env:=by rfl)
  (M:((backTo g<|starEach (e :: C) X.env).all (fun x => !x.1) && (backToKw g<|keywordEach [] X.env).all (fun x=>x.1.isSome)
   && decide ((e::C).length+([]:List Keyword).length+(if([]:List Keyword).isEmpty then 0 else 1)<30))=true:=by rfl)
  (y:(m.endLine == g.line)=true:=by rfl) (U:U7 X e C:=by rfl) (G:U8 X g C:=by rfl) :
  PE X (.Call (.Attribute o name m) (e::C) [] g) (tBM X.K T r to t):=by
 intro f s j H Q I h;refine wpAny_Call_method_late u M y rfl<|dR (S f s j H _ I h) λv k i=>?_;obtain⟨x,z,l,q,ty,Y⟩:=i;obtain⟨N,O⟩:=aIg l q ty;refine#[T,B,W,c,L,N,O,?_];have p:=ha g f k j z _ l Y;rw[U]at p ⊢;refine Calls.callWith_builtin (by show(false||(backTo g<|starEach C X.env).any (·.1))=false;rw[G]<;>rfl)<|Calls.evalArgs_plain ?_;refine dR p λV n i=>?_;obtain⟨vs,A,J,d,Z⟩:=i;exact R f n j A x vs v V Q J q d Z
end
def MtM(X:Cx)(f:String)(r:V->S3->Hp->VK->Prop):Prop:=
 ∀(a:gM) (s:Shared) (e:St) (H:Hp) (x:V) (c:S3) (v:Value) (b:S8) (Q:VK),Inv X a e H s->RelV x v->Vals c b->r x c H Q ->
  wpAny `d X.A (call (.builtin f) (v::b)) (EP X a e Q) X.xe s
def Vals.one:∀{x:V} {us},Vals [x] us->∃u,us=[u]/\RelV x u
 |_,_,.cons r .nil=>#[_,rfl,r]
def Vals.two:∀{x y:V} {us},Vals [x,y] us->∃u v,us=[u,v]/\RelV x u/\RelV y v:=by
 intro x y us h;cases h with
 |cons r t=>cases t with
  |cons q z=>cases z;exact#[_,_,rfl,r,q]
def Vals.zero:∀{us},Vals [] us->us=[]
 |_,.nil=>rfl
def Vals.dropLast(h:Vals xs us):Vals xs.dropLast us.dropLast:=by
 induction h with
 |nil=>exact .nil
 |cons r t a =>
  cases t with
  |nil=>exact .nil
  |cons q b=>exact .cons r a
def Vals.eraseIdx:∀{xs} {us} (i:Nat),Vals xs us->Vals (xs.eraseIdx i) (us.eraseIdx i)
 |_,_,_,.nil=>.nil
 |_,_,0,.cons _ t=>t
 |_,_,i+1,.cons r t=>.cons r<|Vals.eraseIdx i t
def Vals.reverse(h:Vals xs us):Vals xs.reverse us.reverse:=by
 induction h with
 |nil=>exact .nil
 |cons r t a=>rw[List.reverse_cons,List.reverse_cons];exact Vals.append a<|.cons r .nil
def Vals.rep(h:Vals xs us):∀k:Nat,Vals (List.replicate k xs).flatten (List.replicate k us).flatten
 | 0=>.nil
 |k+1=>by exact Vals.append h<|Vals.rep h k
def w4{f:Type}(l:List f):l.eraseIdx (l.length-1)=l.dropLast:=by
 induction l with
 |nil=>rfl
 |cons a r c =>
  cases r with
  |nil=>rfl
  |cons b r =>
   have e:(a::b::r).length-1=((b::r).length-1)+1:=by exact Nat.add_one_sub_one (b::r).length
   rw[e,List.eraseIdx_cons_succ,c]
   all_goals rfl
def uJ(its:S8):∀(k:Nat) (a:S8),
  List.foldl (λc f=>c++f) a.toArray (List.replicate k its.toArray)=(a++(List.replicate k its).flatten).toArray
 | 0,a=>by simp
 |k+1,a=>by
  have e:a.toArray++its.toArray=(a++its).toArray:=by simp
  have b:(a++its)++(List.replicate k its).flatten=a++(List.replicate (k+1) its).flatten:=by grind
  rw[<-b,<-uJ its k (a++its),<-e,eX,List.foldl_cons]
section
variable{X:Cx}{c:gM}{a:St}{H:Hp}{s:Shared}{l b:Addr}{xs ys zs:S3}
def Inv.lset{its its':S8}{n}{f}{t'}(I:Inv X c a H s)(g:H l=some (.lst xs))
  (e:s.heap.get? l=some { cls:=.type "list",data:=.seq its.toArray n }) (i:f its.toArray=its'.toArray) (hv:Vals ys its') (hz:ys.length<=sizeLine) :
  Inv X c a (upd H l<|.lst ys) { s with heap:=s.heap.update l<|Obj.mapSeq f,toks:=t' }:=by
 have q:=PySem.IsL.update e f;rw[i]at q;refine I.write (x:=l) (e:=l) (by rw[g];exact trivial) (.inl rfl) (λm u h j=>(bC s.heap (Obj.mapSeq f)<|Ne.symm h).trans j) #[_,q] ?_;exact#[hz,its',_,hv,q]
def Inv.lnew(I:Inv X c a H s)(hv:Vals ys its)(hz:ys.length<=sizeLine) :
  Inv X c a (upd H s.heap.objs.size<|.lst ys) { s with heap:=s.heap.push { cls:=.type "list",data:=.seq its.toArray },toks:=t' }:=
 I.laid (λ_ _ q=>aD _ q) (aO _) #[hz,its,0,hv,aW _ rfl]
def Inv.fresh(I:Inv X c a H s):H s.heap.objs.size=none:=I.hok.fresh<|aO _
def Inv.lstM(I:Inv X c a H s)(f:H l=some (.lst xs)):xs.length<=sizeLine/\∃(its:S8) (n:Nat),Vals xs its/\xs.length=its.length/\s.heap.get? l=some { cls:=.type "list",data:=.seq its.toArray n }:=by obtain⟨z,its,n,r,e⟩:=I.hok l _ f;exact#[z,its,n,r,r.length,e]
def aKy(h:n<=sizeLine):Builtin.List.listTooLong n=false:=by exact dzF<|Nat.not_lt.mpr h
end
section
variable{X:Cx}
def nZ:V->S3->Hp->VK->Prop:=λx b H Q=>∃l a y,x=.ref l/\b=[y]/\H l=some (.lst a)/\a.length<sizeLine/\Q .non (upd H l<|.lst<|a++[y])
def tU:MtM X "list.append" nZ:=by intro j s A H x p v o Q I i g h;obtain⟨l,t,y,rfl,rfl,b,c,q⟩:=h;cases i;obtain⟨u,rfl,f⟩:=g.one;obtain⟨z,a,n,r,m,e⟩:=I.lstM b;refine call_meets F.slot_list_append #[_,e,rfl] F.entry_list_append (F.args_list_append_2 _ _) (PySem.list_append l a.toArray n u (by rw[aR];lia)) #[e,?_];refine#[.non,_,I.lset (its':=a++[u]) b e (List.push_toArray a u) (r.append<|.cons f .nil) ?_,rfl,q];rw[aI,jQ];exact W.kdl_size c
def bEd:V->S3->Hp->VK->Prop:=λx b H Q=>∃l a y,x=.ref l/\b=[]/\H l=some (.lst a)/\a[a.length-1]? = some y/\Q y (upd H l<|.lst a.dropLast)
def aZq:MtM X "list.pop" bEd:=by
 intro t s D H x B v A Q I p o h;obtain⟨l,C,y,rfl,rfl,c,j,q⟩:=h;cases p;have f:=o.zero;subst f;obtain⟨z,a,n,r,g,e⟩:=I.lstM c;obtain⟨u,i,m⟩:=r.get j;have b:a.toArray[a.toArray.size-1]? = some u:=by show a.toArray[a.length-1]? = some u;rw[<-Array.getElem?_toList,<-g];exact i
 refine call_meets F.slot_list_pop #[_,e,rfl] F.entry_list_pop (F.args_list_pop_1 _) (MeetsSeq.list_pop_last l a.toArray n u b (by rw[aR];lia)) #[e,?_];refine#[y,_,I.lset (its':=a.dropLast) c e ?_ r.dropLast ?_,m,q];rw[aR,List.eraseIdxIfInBounds_toArray,w4];rw [List.length_dropLast];lia
def bJs:R2:=λx y H Q=>∃l b a c,x=.ref l/\y=.ref b/\H l=some (.lst a)/\H b=some (.lst c)/\a.length+c.length<=sizeLine/\∀p,H p=none->Q (.ref p) (upd H p<|.lst<|a++c)
def aXh:OpR X (binaryOp .Add) bJs:=by
 intro t s J H x y v u Q I o p h;obtain⟨l,b,E,G,rfl,rfl,j,i,C,q⟩:=h;cases o;cases p;obtain⟨z,c,n,r,B,e⟩:=I.lstM j;obtain⟨F,a,D,m,A,f⟩:=I.lstM i;refine PySem.P.add_list e f ?_ (by rw[aR,aR];lia);have g:c.toArray++a.toArray=(c++a).toArray:=by simp
 rw[g];exact#[.ref _,_,I.lnew (t':=s.toks) (r.append m) (by rw[aI];lia),rfl,q _ I.fresh]
def bJr:R2:=λx y H Q=>∃l k a,x=.ref l/\y=.int k/\H l=some (.lst a) /\ -(2^63)<=k/\k<2^63/\a.length*k.toNat<=sizeLine /\
 ∀p,H p=none->Q (.ref p) (upd H p<|.lst (List.replicate k.toNat a).flatten)
def aQx{b:Type}(xs:List b)(k:Nat):(List.replicate k xs).flatten.length=k*xs.length:=by
 induction k with
 |zero=>simp
 |succ k a=>rw[eX,List.flatten_cons,aI,a,Nat.succ_mul,Nat.add_comm]
def aXd:OpR X (binaryOp .Mult) bJr:=by
 intro N s S H x y v u Q I E G h;obtain⟨l,k,R,rfl,rfl,C,A,B,c,q⟩:=h;cases E;obtain⟨t,rfl⟩:=G;obtain⟨z,b,n,r,D,e⟩:=I.lstM C;have f:b.toArray.size*k.toNat<=sizeLine:=by rw[aR,<-D];exact c
 have o:¬b.toArray.size*k.toNat>(2^63-1)/8:=by
  have:(sizeLine:Nat)<=(2^63-1)/8:=by decide
  lia
 have i:¬(!Builtin.List.listFitsIndex k)=true:=by rw[fitsIndex_both A B];exact bH
 have j:¬Builtin.List.listTooLong (b.toArray.size*k.toNat)=true:=by rw[aKy f];exact bH
 have g:List.foldl (λL M=>L++M) [].toArray (List.replicate (if b.toArray.isEmpty=true then 0 else k.toNat) b.toArray)=(List.replicate k.toNat b).flatten.toArray:=by
  have p:=λm=>by have:=uJ b m [];rw[bZ]at this;exact this
  rw[p];cases b with
  |nil=>simp
  |cons a O=>rw[if_neg `g]
 refine wpAny_binaryOp_repeat_ref (U:= "int") rfl #[_,e,rfl] (λJ=>typeIs_int J k t) noFill_list_mul F.fills_int_mul F.slot_int_rmul repeat_list F.slot_int_index.lookup
  (call_meets F.slot_int_rmul (typeIs_int s k t) F.entry_int_rmul (F.args_int_rmul_2 _ _) (int___rmul___int_list k t l b.toArray n)
   #[e,rfl,#[_,e,rfl],call_meets F.slot_list_mul #[_,e,rfl] F.entry_list_mul (F.args_list_mul_2 _ _) (AutoListH.list___mul___list_int_3 l b.toArray n k t i o j) #[e,?_]])
 rw[g];exact#[.ref _,_,I.lnew (t':=s.toks) (r.rep k.toNat) (by rw[aQx,Nat.mul_comm];exact c),rfl,q _ I.fresh]
end
end L2
namespace Att
open PySem PySem.W PySem.Calls PyProof.Rows
def lf_{P}:∀(ns:S7) (vs:S8),WellAll P h vs (ns.map WData.int)->IntsAre vs ns:=by
 intro ns
 induction ns with
 |nil => intro vs w;cases w;exact .nil
 |cons n ns c =>
  intro vs w;cases w with
  |cons a b => cases a;exact .cons _ _<|c _ b
def aEl{l:OpenLaw}(t:l.most=some n){P}
  (e:l.row.toRowW.claim.pre args=true) (j:WellAll P h mK args) :
  ∃a vs ns,mK=[Value.ref a]/\args=[WData.list<|ns.map WData.int]/\h.get? a=some { cls:=.type "list",data:=.seq vs.toArray }/\IntsAre vs ns/\ns.length<=n:=by
 have m:=(pre_splitW e).1;have f:l.pre.holds [] { args:=args }=true:=(pre_splitW e).2;obtain⟨d,r,rfl,o,p⟩:=hasAllW_cons m;obtain rfl:=hasAllW_nil p;obtain⟨z,rfl,s⟩:=hasW_list o;obtain⟨ns,rfl⟩:=items_int s;have g:ns.length<=n:=by
  unfold OpenLaw.pre at f;have b:(WTm.not<|.lt (.lit<|.int (n:Int))<|.len<|.arg 0).holds [] { args:=[.list<|ns.map .int] }=true:=by have b:=(holds_andW f).1;rw[t]at b;exact b
  have c:=condW_of b<|w_not<|w_lt w_lit<|w_len_list<|w_arg rfl;refine eJ λq=>?_
  first
   |(rw[dzT q']at c;exact absurd c rfl)
   |(simp at c;lia)
 cases j with
 |cons v y =>
  cases y;cases v with
  |list u i=>exact#[_,_,ns,rfl,rfl,u,lf_ ns _ i,g]
def aEr(l:OpenLaw)(args:List WData):l.row.toRowW.claim.post args (.bool true) args=true:=
 postW_of
  (show WShape.has [] (.bool true) .bool=true by first | rfl | decide | simp[WShape.has,WShape.arms,WShape.armsAll])
  (w_eq_bool (w_res rfl) w_lit) rfl
def attach_call{l:OpenLaw}{n:Nat}{q:Program}{c:S4}{s:(Str->Option Value)->Heap->Prop}{t:World->Heap->Prop}{d:DefRec}
  (S:l.most=some n) (H:d.params.defaults=[])
  (call:∀ (w:World) (e b:Shared) (mg m:mI) (h:Addr) (o:Obj) (p i g:Value) (a:Addr) (vs:S8) (ns:S7),
   Ground q c [] s w e mg m b.heap->t w b.heap ->
   b.heap.get? h=some o->o.data=.func (docDef d.name d.params d.body d.scope p i g)->b.heap.CodeRec i d.name->mg d.name=some (.ref h) ->
   b.heap.get? a=some { cls:=.type "list",data:=.seq vs.toArray }->IntsAre vs ns->ns.length<=n->b.gens = [].toArray ->
   codeAny (model l.prog w) callerA (.call (.ref h) #[[.ref a],[]]) (λr j=>r=.ok (.ret<|.bool true)/\OldK b.heap j.heap/\j.os=b.os/\AllBare j.gens) b) :
  WalkO q c s t l.row.toRowW d [] (λf vs=>PySem.call f vs):=by
 intro w e b mg m G Y h o p i g I kV T N A v F O u mK X C y W E Q;obtain rfl:I=.none:=Dflts.none v H;obtain rfl:kV=.none:=Dflts.noKw v;obtain⟨a,vs,ns,rfl,rfl,D,B,z⟩:=aEl S C E;refine enter_call<|codeAny_mono (call w e b mg m h o p i g a vs ns G Y T (fd_plain N) A F D B z O) λr j U=>?_;obtain⟨rfl,J,L,M⟩:=U;exact#[.inl #[.bool true,.bool true,[],rfl,λ_=>rfl,.bool true,aEr l _,λ_=>#[List.Pairwise.nil,λ_ R=>(nomatch R)]],J,L,M]
end Att
namespace L2
open PySem PySem.Spec PyProof.Rows
def sX:∀{vs} {ns},IntsAre vs ns->Vals (ns.map V.int) vs
 |_,_,.nil=>.nil
 |_,_,.cons n t h=>.cons #[t,rfl]<|sX h
def bBy(H:Hp):Prop:=∀b,H b=none\/∃o a,H b=some (.frz o<|.lst a)
def aLj
  (N:K.In c.heap) (M:c.heap.Ns mainGlobals mg) (g:c.heap.Ns builtinsNs J) (G:∀x:Str,x ≠ "__name__" -> J x=bootBuiltins x) (Om:c.heap.NoLimit) (hg:c.gens = [].toArray)
  (ha:c.heap.get? a=some { cls:=.type "list",data:=.seq vs.toArray }) (T:IntsAre vs ns) (U:ns.length<=sizeLine) (hr:Room k callerA)
  (F:∀base:Heap,K.In base->base.Ns mainGlobals mg->FnOk P w K mg base CX k E fd [x] sp) (Y:∀(s:Shared) (u:Value),BindsTo s fd #[[u],[]] [(x,u)])
  (X:∀H:Hp,bBy H->SqL K H a (ns.map V.int)->sp [.ref a] H (λv _=>v=.bl true) λ_ _ _=>False)
  (Pu:∀H e i,CX [] H c (λ_ _ _=>False) e i->False) :
  codeAny (model P w) callerA (.call (.ref E) #[[.ref a],[]]) (λr i=>r=.ok (.ret<|.bool true)/\OldK c.heap i.heap/\i.os=c.os/\AllBare i.gens) c:=by
 have W:=sX T;have B:=T.length;have l:∀H:Hp,bBy H->SqL K H a (ns.map V.int)->HOk P w H c.heap->(∀b,H b≠none->b=a)->(H a≠none->K.lookup a=none) ->
   codeAny (model P w) callerA (.call (.ref E) #[[.ref a],[]]) (λr i=>r=.ok (.ret<|.bool true)/\OldK c.heap i.heap/\i.os=c.os/\AllBare i.gens) c:=by
  intro H S hS A R hK;have f:∀{b:Addr} {o:Obj},c.heap.get? b=some o->H b=none->(xP c.heap H).get? b=some o:=λe n=>aMc e n;have L:∀{b:Addr} {o:Obj} {y:Array DictEntry} {t:Nat},c.heap.get? b=some o->o.data=.dict y t->H b=none:=λ{b o y t} e d=>by
   cases q:H b with
   |none=>rfl
   |some u => have D:b=a:=R b (by rw[q];simp);subst D;rw[ha]at e;cases e;have d':Data.seq vs.toArray _=Data.dict y t:=d;cases d'
  have j:∀{b:Addr} {m:mI},c.heap.Ns b m->(xP c.heap H).Ns b m:=λ{b m} ⟨o,y,t,e,d,r⟩=>#[o,y,t,f e<|L e d,d,r];have O:K.In<|xP c.heap H:=λb o e=>f (N b o e) (by
   cases q:H b with
   |none=>rfl
   |some u => have D:b=a:=R b (by rw[q];simp);subst D;rw[hK (by rw[q];simp)]at e;cases e)
  have hM:Mod K mg<|xP c.heap H:=#[O,j M,#[J,j g,G],let ⟨mc,h1,h2⟩:=Om;#[mc,j h1,h2]];have e0:Env0 P w K mg (xP c.heap H) callerA [] c H:=#[rfl,hM,λb o e=>aQp e,Nat.le_of_eq<|aFs _ _,trivial,λb g=>absurd (show b∈([]:T4)from g) `g,A,.of_eq hg];refine codeAny_mono ((F _ O<|j M).run callerA [] c H #[[.ref a],[]] [.ref a] [.ref a] _ _ hr e0 (Y c `i) (.cons rfl .nil) (X H S hS)) λr i h=>?_;cases r with
  |error e=>exact(Pu H e i h).elim
  |ok fl =>
   cases fl with
   |next=>exact False.elim h
   |brk=>exact False.elim h
   |cont=>exact False.elim h
   |ret u =>
    obtain⟨v,H',os,p,un,Z,r',q⟩:=h;have q':v=.bl true:=q;subst q';obtain rfl:u=Value.bool true:=r';refine#[rfl,OldK.of_keep λb o e=>?_,os,p];cases q:H b with
    |none=>exact un.keep b o e q (by intro z;exact absurd (show b∈([]:T4)from z) `g) `g
    |some u =>
     rcases S b with z | ⟨ob,xs,z⟩
     rw[q]at z;cases z;have z2:=un.frzs b ob _ z;obtain⟨Q,_⟩:=A b _ z;obtain⟨e2,_⟩:=Z b _ z2;rw[e]at Q;cases Q;exact e2
 cases I:K.lookup a with
 |some o => have e:=N a o I;rw[ha]at e;cases e;refine l (λ_=>none) (λ_=>.inl rfl) (.inr #[_,vs.toArray,_,I,rfl,rfl,rfl,by rw[aR,B];exact U,by simpa using W]) (λb u z=>by have C:(none:Option HO)=some u:=z;cases C) (λb z=>absurd rfl z) λz=>absurd rfl z
 |none => refine l (λb=>if b=a then some (.frz { cls:=.type "list",data:=.seq vs.toArray } (.lst<|ns.map V.int))else none) (λb=>?_) (.inl<|.inr #[{ cls:=.type "list",data:=.seq vs.toArray },if_pos rfl]) (λb u z=>?_) (λb z=>?_) λ_=>I;by_cases g:b=a;exact .inr #[_,_,if_pos g];exact .inl<|if_neg g;by_cases g:b=a;have C:=(if_pos g).symm.trans z;cases C;subst g;exact#[ha,by rw[aA];exact U,vs,_,W,ha];have C:=(if_neg g).symm.trans z;cases C;by_cases g:b=a;exact g;exact absurd (if_neg g) z
abbrev CX0:CXT:=λ_ _ _ _ _ _=>False
abbrev E0:XK:=λ_ _ _=>False
def zZ:jZ CX0 X E0:=λ_ _ _ _ _ _ _ h=>h.elim
structure Fun(K:dN)(x qual:Str)(st:Stmt)(f:Addr)(fd:FuncData):Prop where
 ex:∃(oc:Value) (od:Option Addr) (kV doc pm:Value) (an:Option Addr) (Ai ct:Value) (osl:Array (Option Value)),
  fd=PySem.W.fnOf x qual (mG st) (fB st) (aQ st) .none kV doc pm an Ai ct/\K.lookup f=some ⟨oc,od,.func fd,osl⟩/\PySem.W.codeIn K Ai qual=true
 kp:PySem.W.keepIn K (.ref f)=true
section
def Fun.ok{st:Stmt}(F:Fun K x b st f fd)(S:FnScope N ps<|aQ st)(len:∀vs H Q E,sp vs H Q E->vs.length=ps.length)
  (e:∀ (c:Value) (A:Around) (a:List Env) (s:Shared) (H:Hp) (vs:S3) (Q:VK) (E:XK),Room k (A.deeper<|envOfC b (aQ st) s.heap.objs.size f c)→sp vs H Q E →
   ∃t,PSs (jT CX0 P w K mg base N b (aQ st) f c A a s H E).nox (fB st) t/\t { nx:=λ_ j=>Q .non j,rt:=Q } (start N vs) H):FnOk P w K mg base CX0 (k+1) f fd ps sp:=by
 obtain⟨u,v,kV,l,y,r,c,ct,p,rfl,o,g⟩:=F.ex;refine aUh o g S len λA a s H vs Q E m i=>?_;obtain⟨t,h,q⟩:=e c A a s H vs Q E m i;exact#[t,h.nox,q]
def Fun.binds{st:Stmt}(F:Fun K x a st f fd)
  (h:∀(kV b g:Value) (e:Option Addr) (c ct:Value) (us:S8),us.length=ps.length->bindArgs (PySem.W.fnOf x a (mG st) (fB st) (aQ st) .none kV b g e c ct) #[us,[]]=pure (ps.zip us)):Binds K fd ps []:=by
 obtain⟨m,o,kV,b,g,e,c,ct,i,rfl,l,j⟩:=F.ex;exact .all<|h kV b g e c ct
end
def f6(a:Room k A):A.units+1<cLine:=Nat.lt_of_le_of_lt (Nat.add_le_add_left (by decide:1<=64) _) a.units
section
variable{X:Cx}
def pv(i:Nat){pos}(b:X.N[i]? = some x:=by rfl)(hv:Vis X.env.scope x:=by first | exact Or.inl rfl | exact Or.inr `q | exact Or.inr<|Or.inr rfl)(c:U5 x:=by decide)
  (a:U6 x:=by decide):PE X (.Name x pos)<|fO i:=aWp b hv c a
end
def aRe{c A B:Prop}[Decidable c](a:c->A)(b:¬c->B):if c then A else B:=by grind
def Same(H a:Hp):Prop:=∀b o,H b=some o->a b=some o
def Same.refl(H:Hp):Same H H:=λ_ _ h=>h
end L2
namespace L2
open PySem PySem.W PySem.Spec PyProof.Rows PySem.Calls
def qP{f g:Type}[BEq f][LawfulBEq f]{a:f}{b:g}:∀{l:List<|f×g},l.lookup a=some b->(a,b)∈l
 | [],h=>by simp at h
 |(c,d)::r,h=>by by_cases e:a=c;subst e;simp at h;subst h;exact aB;rw [bO,beq_eq_false_iff_ne.mpr e] at h;exact aC _<|qP h
def aSv(h:Heap):(aSw h).In h:=λa o e=>by obtain⟨b,_,g⟩:=List.mem_filterMap.mp<|qP e;obtain⟨i,c,f⟩:=dO.mp g;cases f;exact c
def exHook{b:Type}(f:Frag->b)(v:b):Hook where
 α:=b
 obs:=λs=>f<|aSw s.heap
 val:=λ_=>v
 says:=λ_ h=>∃K:Frag,K.In h/\f K=v
 of:=λ_ s e=>#[aSw s.heap,aSv _,e]
 keeps:=λ_ _ _ e g=>by obtain⟨K,k,e⟩:=e;exact#[K,λa o q=>g _ _<|k a o q,e]
def aGm:∀w:World,((boot_heap w.params).isNs mainGlobals&&(Array.mk []:Array GenState).size == 0,(boot_heap w.params).objs.size,(boot_heap w.params).nsMap mainGlobals "__annotations__")=(true,11,some<|.ref 6):=λw=>by kernel_rfl
def aFj{v:α}(u:Nat.ble 600 N=true)(e:opening p=plainProg p.main.scope.names)(f:∀s,fenceModules? p s=some s)
  (all:∀w:World,onceSeen topRun treeTable importedModules (λm s=>openSeen q b m g g0 s) p N c w=λ_=>some (true,openGood q b,v)) :
  LeftO p q b g (exHook c v).obs (exHook c v).val N g0:=λw=>by
 obtain⟨⟨h,o,d,k,i⟩,l,j⟩:=dO.mp<|boot_open e u f w;obtain⟨rfl,rfl,rfl,rfl⟩:h=boot_heap w.params/\o=Array.mk []/\d=boot_drawn/\k=boot_toks:=by simpa using j
 obtain⟨C,D,E⟩:_/\_/\_:=by simpa only[Prod.mk.injEq]using aGm w
 obtain⟨a,r,B⟩:=dO.mp<|congrFun (all w) i;obtain⟨y,z,A⟩:_/\_/\_:=by simpa only[Prod.mk.injEq]using B
 have t:topFrom treeTable p w N #[boot_heap w.params,Array.mk [],boot_drawn,boot_toks,i]=some a:=by unfold topFrom;rw[C,D,E];rw[r];show(match staticsOk (importedModules p.main.body) (boot_heap w.params) a.heap&&namesBound p a.heap&&gensDone a&&laidKept (boot_heap w.params) a.heap with | true=>_ | false=>_)=_;rw[y]
 unfold openEnds;rw[l];show(topFrom treeTable p w N _).map _=_;rw[t];exact congrArg some<|Prod.ext z A
def walk_ex{l:PySem.W.OpenLaw}{v:r}{sp:PySem.W.Frag->Sp}
  (R:l.most=some n) (A:n<=sizeLine) (C:d.params.defaults=[]) (S:Room k callerA)
  (F:∀ (w:World) (K:Frag) (mg:mI) (g:Addr) (h:Heap),f K=v→K.In h→h.Ns mainGlobals mg→mg d.name=some (.ref g) →
   ∃fd:FuncData,(∀(s:Shared) (u:Value),BindsTo s fd #[[u],[]] [(x,u)]) /\
    ∀base:Heap,K.In base->base.Ns mainGlobals mg->FnOk l.prog w K mg base CX k g fd [x] (sp K))
  (t:∀(K:dN) (H:Hp) (a:Addr) (ns:S7),ns.length<=n->bBy H->SqL K H a (ns.map V.int)->sp K [.ref a] H (λv _=>v=.bl true) λ_ _ _=>False)
  (D:∀(H:Hp) (s:Shared) (e:Value) (i:Shared),CX [] H s (λ_ _ _=>False) e i->False) :
  PySem.W.WalkO q b E (exHook f v).says l.row.toRowW d [] (λf vs=>PySem.call f vs):=by
 refine Att.attach_call R C λw p c mg Z g o pm U I a vs ns G Y X W T B z y j Q=>?_;obtain⟨K,m,L⟩:=Y;obtain⟨fd,O,J⟩:=F w K mg g _ L m G.T.g B;exact aLj m G.T.g G.T.b G.T.builtins G.T.nolimit Q z y (nzL j A) S J O (λH M N=>t K H a ns j M N) λH e i=>D H c e i
def aFc(h:wV K (fA s)=xW s):∃f fd,nsIn K mainGlobals (fA s)=some (some<|.ref f)/\Fun K (fA s) (fA s) s f fd:=by
 unfold wV at h;cases e:nsIn K mainGlobals (fA s)with
 |none=>rw[e]at h;cases h
 |some o =>
  cases o with
  |none=>rw[e]at h;cases h
  |some v =>
   cases v with
   |ref f =>
    rw[e]at h;dsimp only at h;cases a:K.lookup f with
    |none=>rw[a]at h;cases h
    |some ob =>
     obtain⟨m,p,g,r⟩:=ob;rw[a]at h;cases g with
     |func fd => obtain⟨nm,C,B,u,sc,A,y,z,l,i,q,b,c,ct,t⟩:=fd;simp only[xW,Option.some.injEq,Prod.mk.injEq]at h;obtain⟨⟨rfl,rfl,rfl,rfl,rfl⟩,⟨rfl,rfl,rfl,rfl⟩,j⟩:=h;refine#[f,_,rfl,#[m,p,l,i,q,b,c,ct,r,rfl,a,j],?_];unfold keepIn;dsimp only;rw[a]
     |_=>cases h
   |_=>rw[e]at h;cases h
def a_(h:qN K n=true):nsIn K mainGlobals n=some none:=by unfold qN at h;split at h;assumption;cases h
def j6:∀{v} {x:V},aNp v=some x->RelV x v
 | .none,x,h=>by cases h;rfl
 | .bool b,x,h=>by cases h;rfl
 | .int i t,x,h=>by cases h;exact#[t,rfl]
 | .str i t,x,h=>by cases h;exact#[t,rfl]
 | .bytes i t,x,h=>by cases h;exact#[t,rfl]
 | .float i t,x,h=>by cases h;exact#[t,rfl]
 | .ref a,x,h=>by cases h;rfl
 | .type n,x,h=>by cases h;rfl
 | .builtin _,x,h=>by cases h
def cn_(h:wS K n=some x):∃v,nsIn K mainGlobals n=some (some v)/\RelV x v:=by unfold wS at h;split at h;exact#[_,by assumption,j6 h];cases h
def yW:∀{xs} {vs},xs.map aNp=vs.map some->Vals vs xs
 | [],[],_=>.nil
 |x::xs,v::vs,h=>by simp only[bQ,List.cons.injEq]at h;exact .cons (j6 h.1) (yW h.2)
 | [],_::_,h=>by simp at h
 |_::_,[],h=>by simp at h
def aFb(h:wU K n=some (vs.map some)):∃a b xs m c,nsIn K mainGlobals n=some (some `i)/\K.lookup a=some #[.type "tuple",b,.seq xs m,c]/\Vals vs xs.toList:=by unfold wU at h;split at h;split at h;exact#[_,_,_,_,_,by assumption,by assumption,yW<|ozI h];cases h;cases h
section
variable{K:Frag}{x a:Str}{st:Stmt}{f:Addr}{i h g e c b:Str}
abbrev BA(x a:Str)(st:Stmt)(us:S8)(r:List<|Str×Value):Prop:=∀(kV j o:Value) (m:Option Addr) (l ct:Value),bindArgs (PySem.W.fnOf x a (mG st) (fB st) (aQ st) .none kV j o m l ct) #[us,[]]=pure r
end
def f7(h:bltNs.map (qN K)=List.replicate 17 true)(i:Nat)(a:i<17)(e:bltNs[i]? = some n):nsIn K mainGlobals n=some none:=by refine a_ ?_;have:=congrArg (λl=>l[i]?) h;simp only[bK,e,Option.map_some,iZ,a,if_true,Option.some.injEq]at this;exact this
end L2
namespace Lf
open PySem
inductive Kd where
 |num (w m:Int)
 |row (k:Kd) (n:Int)
 |rcd (fs:List (Str×Kd))
 |cho (ks:List Kd)
abbrev T9:=List<|Str×Kd
abbrev T2:=List Kd
def up(n m:Int):Int:=(n+m-1)/m*m
def bDk(a:0<m):up n m=n+m-1-(n+m-1)%m:=by have:=Int.mul_ediv_add_emod (n+m-1) m;exact Int.ediv_mul_self (n+m-1) m
def rW(c:0<m):n<=up n m/\up n m<n+m:=by have a:=bT (n+m-1)<|Int.ne_of_gt c;have b:=bU (n+m-1) c;rw[bDk c];lia
def aId:up n m%m=0:=Int.mul_emod_left _ _
def fK(d:Int)(l:S7):Int:=l.foldr max d
def aCc:∀{l} {a},a∈l->a<=fK d l
 |b::r,a,h=>by
  rcases aE.mp h with rfl | h
  exact Int.le_max_left _ _;exact jG (aCc h)<|Int.le_max_right _ _
def wZ(e:M∈l)(g:d<=M)(c:∀a∈l,a<=M):M=fK d l:=by
 refine Int.le_antisymm (aCc e) ?_;clear e
 induction l with
 |nil=>exact g
 |cons b r h => exact Int.max_le.mpr #[c b aB,h λa f=>c a<|aC _ f]
def ends(e:Int):S5->S7
 | []=>[]
 |r::rs=>(up e r.2+r.1)::ends (up e r.2+r.1) rs
def dI(e:Int):S5->Int
 | []=>e
 |r::rs=>dI (up e r.2+r.1) rs
def lX(e:Int):S5->S7
 | []=>[]
 |r::rs=>up e r.2::lX (up e r.2+r.1) rs
def Rms(rs:S5):Prop:=∀r∈rs,0<=r.1/\0<r.2
def iu_:∀{rs} {e},Rms rs->e<=dI e rs
 | [],e,_=>jA e
 |r::rs,e,h=>by obtain⟨a,b⟩:=h r aB;have:=iu_ (rs:=rs) (e:=up e r.2+r.1) λx c=>h x<|aC _ c;have:=(rW (n:=e) b).1;show e<=dI (up e r.2+r.1) rs;lia
def g_:∀{rs} {e},Rms rs->rs≠[]->dI e rs∈ends e rs/\∀a∈ends e rs,a<=dI e rs
 | [],_,_,h=>absurd rfl h
 | [r],e,h,_=>by
  refine#[aB,λa b=>?_];rcases aE.mp b with rfl | b
  exact jA _;cases b
 |r::s::rs,e,h,_=>by
  have f:=g_ (e:=up e r.2+r.1) (λx c=>h x<|aC _ c) `g;refine#[aC _ f.1,λa b=>?_];rcases aE.mp b with rfl | b
  exact iu_ λx c=>h x<|aC _ c;exact f.2 a b
def kn_:∀(rs:S5) (e:Int),(lX e rs).length=rs.length
 | [],_=>rfl
 |r::rs,e=>by show(lX _ rs).length+1=_;rw[kn_ rs];rfl
def tJ:∀(rs:S5) (r:Int×Int) (e:Int),lX e (rs++[r])=lX e rs++[up (dI e rs) r.2]
 | [],_,_=>rfl
 |s::rs,r,e=>by show up e s.2::lX _ (rs++[r])=up e s.2::(lX _ rs++_);rw[tJ rs];rfl
def je_:∀(rs:S5) (r:Int×Int) (e:Int),dI e (rs++[r])=up (dI e rs) r.2+r.1
 | [],_,_=>rfl
 |s::rs,r,e=>je_ rs r _
def g9:∀(rs:S5) (e:Int),ends e rs=((lX e rs).zip rs).map λp=>p.1+p.2.1
 | [],_=>rfl
 |r::rs,e=>by show _::ends _ rs=_::_;rw[g9 rs];rfl
def zT(rs:S5):Int×Int:=(up (dI 0 rs) (fK 1 (rs.map (·.2))),fK 1 (rs.map (·.2)))
def uP(rs:S5):Int×Int:=(up (up 1 (fK 1 (rs.map (·.2)))+fK 0 (rs.map (·.1))) (fK 1 (rs.map (·.2))),fK 1 (rs.map (·.2)))
mutual
def Kd.rm:Kd->Int×Int
 | .num w m=>(w,m)
 | .row k n=>(n*up k.rm.1 k.rm.2,k.rm.2)
 | .rcd fs=>zT (rmF fs)
 | .cho ks=>uP<|rmK ks
def rmF:T9->S5
 | []=>[]
 |f::r=>f.2.rm::rmF r
def rmK:T2->S5
 | []=>[]
 |k::r=>k.rm::rmK r
end
mutual
def Kd.deep:Kd->Nat
 | .num _ _=>1
 | .row k _=>k.deep+1
 | .rcd fs=>gL fs+1
 | .cho ks=>dW ks+1
def gL:T9->Nat
 | []=>0
 |f::r=>max f.2.deep<|gL r
def dW:T2->Nat
 | []=>0
 |k::r=>max k.deep<|dW r
end
mutual
def Kd.Ok:Kd->Prop
 | .num w m=>1<=w/\w<=8/\1<=m/\m<=8
 | .row k n=>k.Ok/\0<=n/\n<=100
 | .rcd fs=>okF fs/\fs.length<=10
 | .cho ks=>okK ks/\ks.length<=10
def okF:T9->Prop
 | []=>True
 |f::r=>f.2.Ok/\okF r
def okK:T2->Prop
 | []=>True
 |k::r=>k.Ok/\okK r
end
def is_:∀{l},d<=M->(∀a∈l,a<=M)->fK d l<=M
 | [],hd,_=>hd
 |b::r,hd,h=>Int.max_le.mpr #[h b aB,is_ hd λa c=>h a<|aC _ c]
def mO:∀(l:S7),d<=fK d l
 | []=>jA _
 |b::r=>jG (mO r)<|Int.le_max_right _ _
def Bd(B:Int)(r:Int×Int):Prop:=0<=r.1/\r.1<=B/\1<=r.2/\r.2<=8
def fy_:∀{rs} {e},0<=e->(∀r∈rs,Bd B r)->0<=dI e rs/\dI e rs<=e+(rs.length:Int)*(B+8)
 | [],e,h0,_=>#[h0,by simp[dI]]
 |r::rs,e,h0,h=>by
  obtain⟨a,b,c,d⟩:=h r aB;obtain⟨j,l⟩:=rW (n:=e) (m:=r.2)<|iB c;have i:=fy_ (B:=B) (rs:=rs) (e:=up e r.2+r.1) `a λx g=>h x<|aC _ g;refine#[i.1,?_];show dI (up e r.2+r.1) rs<=_;have f:((r::rs).length:Int)*(B+8)=(rs.length:Int)*(B+8)+(B+8):=by
   rw[aK]
   push_cast
   rw[Int.add_mul];lia
  rw[f];lia
def tS{rs:S5}(h:∀r∈rs,Bd B r):1<=fK 1 (rs.map (·.2))/\fK 1 (rs.map (·.2))<=8:=
 #[mO _,is_ `b λa b=>by obtain⟨r,c,rfl⟩:=aZ.mp b;exact(h r c).2.2.2]
def aVv(h:∀r∈rs,Bd B r)(g:rs.length<=10)(f:0<=B):Bd (1000*(B+8))<|zT rs:=by obtain⟨a,b⟩:=tS h;obtain⟨c,d⟩:=fy_ (e:=0) `a h;obtain⟨i,j⟩:=rW (n:=dI 0 rs) (m:=fK 1 (rs.map (·.2))) `a;have:(rs.length:Int)*(B+8)<=10*(B+8):=cB `a `a;exact#[by show 0<=up _ _;lia,by show up _ _<=_;lia,a,b]
def bBj(h:∀r∈rs,Bd B r)(e:0<=B):Bd (1000*(B+8))<|uP rs:=by
 obtain⟨a,b⟩:=tS h;have c:0<=fK 0 (rs.map (·.1)):=mO _;have d:=is_ e λz g=>by obtain⟨r,f,rfl⟩:=aZ.mp g;exact(h r f).2.1
 obtain⟨i,j⟩:=rW (n:=1) (m:=fK 1 (rs.map (·.2))) `a;obtain⟨l,o⟩:=rW (n:=up 1 (fK 1 (rs.map (·.2)))+fK 0 (rs.map (·.1))) (m:=fK 1 (rs.map (·.2))) `a;exact#[by show 0<=up _ _;lia,by show up _ _<=_;lia,a,b]
def bnd:Nat->Int
 | 0=>0
 |n+1=>1000*(bnd n+8)
def gb_:∀n,0<=bnd n
 | 0=>jA _
 |n+1=>by have:=gb_ n;show 0<=1000*(bnd n+8);lia
def id_(h:n<=m):bnd n<=bnd m:=by
 induction m with
 |zero=>cases(Nat.le_zero.mp h);exact jA _
 |succ m a => by_cases e:n=m+1;grind;have:=gb_ m;show bnd n<=1000*(bnd m+8);lia
def Bd.mono(h:Bd B r)(a:B<=C):Bd C r:=#[h.1,jG h.2.1 a,h.2.2]
mutual
def Kd.bd:∀(k:Kd),k.Ok->Bd (bnd k.deep) k.rm
 | .num w m,h=>by obtain⟨a,b,c,d⟩:=h;refine#[by show 0<=w;lia,?_,c,d];show w<=1000*(0+8);lia
 | .row k n,h=>by obtain⟨g,e,f⟩:=h;obtain⟨a,b,c,d⟩:=Kd.bd k g;obtain⟨j,l⟩:=rW (n:=k.rm.1) (m:=k.rm.2) `a;refine#[Int.mul_nonneg e `a,?_,c,d];have i:n*up k.rm.1 k.rm.2<=100*up k.rm.1 k.rm.2:=cB f `a;show n*up k.rm.1 k.rm.2<=1000*(bnd k.deep+8);lia
 | .rcd fs,h=>by refine aVv (rs:=rmF fs) (bdF fs h.1) ?_<|gb_ _;have:(rmF fs).length=fs.length:=bFg fs;rw[this];exact h.2
 | .cho ks,h=>bBj (rs:=rmK ks) (bdK ks h.1)<|gb_ _
def bdF:∀(fs:T9),okF fs->∀r∈rmF fs,Bd (bnd<|gL fs) r
 | [],_,_,h=>nomatch h
 |f::fs,h,r,hr=>by
  have a:r∈f.2.rm::rmF fs:=hr;rcases aE.mp a with rfl | a
  exact(Kd.bd f.2 h.1).mono<|id_<|fT _ _;exact(bdF fs h.2 r a).mono<|id_<|fF _ _
def bdK:∀(ks:T2),okK ks->∀r∈rmK ks,Bd (bnd<|dW ks) r
 | [],_,_,h=>nomatch h
 |k::ks,h,r,hr=>by
  have a:r∈k.rm::rmK ks:=hr;rcases aE.mp a with rfl | a
  exact(Kd.bd k h.1).mono<|id_<|fT _ _;exact(bdK ks h.2 r a).mono<|id_<|fF _ _
def bFg:∀(fs:T9),(rmF fs).length=fs.length
 | []=>rfl
 |f::fs=>by show(rmF fs).length+1=_;rw[bFg fs];rfl
end
def aZw:∀(ks:T2),(rmK ks).length=ks.length
 | []=>rfl
 |f::fs=>by show(rmK fs).length+1=_;rw[aZw fs];rfl
inductive Dt where
 |int (i:Int)
 |str (x:Str)
 |bl (b:Bool)
 |tup (ds:List Dt)
 |lst (ds:List Dt)
mutual
def Kd.dt:Kd->Dt
 | .num w m=>.tup [.str "number",.int w,.int m]
 | .row k n=>.tup [.str "row",k.dt,.int n]
 | .rcd fs=>.tup [.str "record",.lst<|dtF fs]
 | .cho ks=>.tup [.str "choice",.lst<|dtK ks]
def dtF:T9->List Dt
 | []=>[]
 |f::r=>.tup [.str f.1,f.2.dt]::dtF r
def dtK:T2->List Dt
 | []=>[]
 |k::r=>k.dt::dtK r
end
mutual
def Dt.deep:Dt->Nat
 | .int _=>1
 | .str _=>1
 | .bl _=>1
 | .tup ds=>kD ds+1
 | .lst ds=>kD ds+1
def kD:List Dt->Nat
 | []=>0
 |d::r=>max d.deep<|kD r
end
def Kd.deep_pos:∀k:Kd,1<=k.deep
 | .num _ _=>aO _
 | .row k _=>Nat.le_add_left 1 k.deep
 | .rcd fs=>Nat.le_add_left 1 (gL fs)
 | .cho ks=>Nat.le_add_left 1<|dW ks
end Lf
namespace L2
open PySem PySem.Spec PyProof.Rows
section
variable{X:Cx}
def aNs(_ j:Int):Prop:=0<j/\j<2^250
def aLe{j:Int}(c:0<j)(e:j<2^250):j.natAbs.log2<9000:=by
 have a:j.natAbs≠0:=by lia
 have b:j.natAbs<2^250:=by lia
 exact jE ((Nat.log2_lt a).mpr b) `b
def aKl:OpR X (binaryOp .FloorDiv)<|rI aNs λi j=>.int<|i/j:=opI λi j _ _ _ _ _ a q=>by have b:=a.1;exact floordiv_int (Ne.symm<|Int.ne_of_lt b) (by rw[Int.fdiv_eq_ediv_of_nonneg i<|Int.le_of_lt b];exact q)<|.inl<|PyProof.noPylong_of_log2<|aLe a.1 a.2
def CMulB(i j:Int):Prop:=i.natAbs<2^250/\j.natAbs<2^250
def CMulB.ok(h:CMulB i j):IntMulOk i j:=by have a:=intBits_le h.1;have b:=intBits_le h.2;intro z;rw[cM]at z;have c:=of_decide_eq_true z.2;rw[bitsLine_eq]at c;lia
def aQh:OpR X (binaryOp .Mult)<|rI CMulB λi j=>.int<|i*j:=opI λ_ _ _ _ _ _ _ a q=>mul_int q a.ok
end
section
variable{K:dN}
def aLo(T:String):PySem.W.kitOne K (.type T) (.type T)=some true:=by unfold PySem.W.kitOne;rw[if_pos<|beq_self_eq_true _]
def aZz(a:(Value.type T == Value.type S)=false)(c:PySem.W.kitMeta S=true)(e:(fastBuiltinMro T).map (·.contains (Value.type S))=some b):PySem.W.kitOne K (.type T) (.type S)=some b:=by unfold PySem.W.kitOne;rw[if_neg (by rw[a];exact bH)];show(if PySem.W.kitMeta S=true then PySem.W.subIn K (.type T) (.type S)else none)=some b;rw[if_pos c];exact e
def dq_:bootBuiltins "isinstance" = some (.builtin "isinstance"):=by decide +kernel
def yI:bootBuiltins "max" = some (.builtin "max"):=by decide +kernel
def aNk:bootBuiltins "min" = some (.builtin "min"):=by decide +kernel
def bBl:bootBuiltins "int" = some (.type "int"):=by decide +kernel
def aSp:bootBuiltins "bool" = some (.type "bool"):=by decide +kernel
def bBk:bootBuiltins "str" = some (.type "str"):=by decide +kernel
def lp_:bootBuiltins "list" = some (.type "list"):=by decide +kernel
def ju_:bootBuiltins "tuple" = some (.type "tuple"):=by decide +kernel
def oR:bootBuiltins "dict" = some (.type "dict"):=by decide +kernel
end
def rO(h:∀y∈scope.names,y.2=.free->∃c,env.cells.lookup y.1=some c) :
  ∃a,closureFor scope env=pure a/\(∀x c,a.lookup x=some c->env.cells.lookup x=some c)/\(∀y∈scope.names,y.2=.free->∃c,a.lookup y.1=some c):=by
 have v:∀(m:List<|Str×NameKind) (b:List<|Str×Addr),(∀y∈m,y.2=.free->∃c,env.cells.lookup y.1=some c)->(∀x c,b.lookup x=some c->env.cells.lookup x=some c) ->
   ∃a,(forIn m b λ(x:Str×NameKind) (b:List<|Str×Addr)=>(if x.2 == .free then do let c <-cellOf env x.1;pure (ForInStep.yield ((x.1,c)::b))else pure (ForInStep.yield b):Sem _))=pure a /\
    (∀x c,a.lookup x=some c->env.cells.lookup x=some c)/\(∀x c,b.lookup x=some c->∃c,a.lookup x=some c)/\(∀y∈m,y.2=.free->∃c,a.lookup y.1=some c):=by
  intro m
  induction m with
  |nil=>intro b _ p;exact#[b,rfl,p,λx c e=>#[c,e],λy f=>nomatch f]
  |cons y r z =>
   intro b u p;obtain⟨n,k⟩:=y;by_cases B:k=.free;subst B;obtain⟨c,e⟩:=u (n,.free) aB rfl;obtain⟨a,o,i,j,l⟩:=z ((n,c)::b) (λy f=>u y<|aC _ f) (λx t q=>by
    rw[bO]at q;cases g:x == n with
    |true =>
     rw[g]at q;cases q;have:x=n:=by simpa using g
     rw[this];exact e
    |false => rw[g]at q;exact p x t q)
   refine#[a,?_,i,λx t q=>?_,λy f s=>?_];rw [List.forIn_cons];have A:=e;simp only[beq_self_eq_true,if_true,cellOf,A];exact o;cases g:x == n with
   |true=>exact j x c (by rw[bO,g])
   |false=>exact j x t (by rw[bO,g];exact q)
   rcases aE.mp f with rfl | f
   exact j n c (by rw[bO];simp);exact l y f s;obtain ⟨a,o,i,j,l⟩:=z b (fun y f=>u y<|aC _ f) p;refine#[a,?_,i,j,λy f s=>?_];grind;rcases aE.mp f with rfl | f
   grind;exact l y f s
 obtain⟨a,o,i,_,l⟩:=v scope.names [] h (λx c e=>by simp at e);refine#[a,?_,i,l];simp only[closureFor];rw[show(forIn scope.names ([]:List<|Str×Addr) λ(x:Str×NameKind) (b:List<|Str×Addr)=>(if x.2 == .free then do let c <-cellOf env x.1;pure (ForInStep.yield ((x.1,c)::b))else pure (ForInStep.yield b):Sem _))=pure a from o];rfl
def kl_(h:(relabel scope env).names.lookup x=some k):∃k0,scope.names.lookup x=some k0/\(k0=k\/(k0=.free/\k=.cell)):=by
 unfold relabel at h;dsimp only at h;revert h;generalize scope.names=ns
 induction ns with
 |nil=>intro h;simp at h
 |cons y r c =>
  obtain⟨n,e⟩:=y;intro h;rw[bQ]at h;cases a:x == n with
  |true => rw[bO,a];refine#[e,rfl,?_];dsimp only at h;split at h;rename_i b;rw[bO,a]at h;cases h;rw[cM,cM]at b;exact .inr #[by simpa using b.1.1,rfl];rw [bO,a] at h;cases h;exact .inl rfl
  |false => rw[bO,a];dsimp only at h;apply c;split at h;rw[bO,a]at h;exact h;rw[bO,a]at h;exact h
def wC(h:scope.names.lookup x=some .free)(e:env.scope.kind=.function)(c:env.kindOf x=some .cell):(relabel scope env).names.lookup x=some .cell:=by
 unfold relabel;dsimp only;revert h;generalize scope.names=ns
 induction ns with
 |nil=>intro h;simp at h
 |cons y r b =>
  obtain⟨n,f⟩:=y;intro h;rw[bQ];cases a:x == n with
  |true =>
   rw[bO,a]at h;cases h;have:x=n:=by simpa using a
   subst this;rw[if_pos (by rw[e,c];rfl),bO,a]
  |false => rw[bO,a]at h;split;rw[bO,a];exact b h;rw[bO,a];exact b h
section
variable{prog:Program}{w:World}{A:Around}{R:Result->Shared->Prop}{s:Shared}
def yC{elt target iter}{y:T6}{scope}{pos}{it Ae}{env}(I:Nat->Shared->Prop)
  (turn:∀ n s,I n s→wpAny `f A (pyNext it) (fun r b=>match r with
   |none=>R (.ok .next) b
   | some v => wpAny `f A (letOwnedTupleGo target it v) (fun _ i => wpAny `f A (assign target env v) (fun _ j =>
     wpAny `f A (forIn y true λc r=>if r=true then do let ok <-isTrue c env (eval c env);pure (ForInStep.yield ok)else pure (ForInStep.yield r)) (λok e =>
      if ok=true then wpAny `f A (eval elt env) (λx l => wpAny `f A (call (.builtin "list.append") [Ae,x]) (λ_ o=>∃m,m<n/\I m o) (λ_ _=>False) l) (λ_ _=>False) e
      else ∃m,m<n/\I m e) (λ_ _=>False) j) (λ_ _=>False) i) (λ_ _=>False) b) (λ_ _=>False) s)
  (n:Nat) (h:I n s) :
  codeAny `f A (.compLoop (.ListComp elt [#[target,iter,y,0]] scope pos) 0 it Ae env) R s:=by
 refine codeAny_loop rfl I (λn s z=>?_) n h;refine wpAny_noted ?_;rw[compTurn_list];refine wpAny_bind<|wpAny_standAt<|wpAny_bind<|wpAny_mono (turn n s z) (λr b f=>?_) λ_ _ a=>a.elim;cases r with
 |none=>exact wpAny_pure f
 |some v =>
  refine wpAny_bind<|wpAny_mono f (λ_ i p=>?_) λ_ _ a=>a.elim;refine wpAny_bind<|wpAny_mono p (λ_ j q=>wpAny_bind<|wpAny_mono q (λok e g=>?_) λ_ _ a=>a.elim) λ_ _ a=>a.elim;cases ok with
  |false=>exact wpAny_pure #[rfl,g]
  |true => exact wpAny_bind<|wpAny_bind<|wpAny_mono g (λx l t=>wpAny_bind<|wpAny_mono t (λ_ o u=>wpAny_pure<|wpAny_pure #[rfl,u]) λ_ _ a=>a.elim) λ_ _ a=>a.elim
end
section
variable{X:Cx}{b:gM}{a:St}{H:Hp}{s:Shared}
def PCs(X:Cx)(e:T6)(t:TT):Prop:=
 ∀(b:gM) (s:Shared) (a:St) (H:Hp) (Q:Bool->Hp->Prop),Inv X b a H s->t a H Q ->
  wpAny `d X.A (forIn e true λc r=>if r=true then do let ok <-isTrue c X.env (eval c X.env);pure (ForInStep.yield ok)else pure (ForInStep.yield r)) (TP X b a Q) X.xe s
def bJf:TT:=λ_ H Q=>Q true H
def aQc:PCs X [] bJf:=λb s a H Q I h=>wpAny_tests_nil #[H,I,h]
def aQb(h:PT X c t):PCs X [c] t:=λb s a H Q I q=>wpAny_tests_one<|h b s a H Q I q
end
def kP(n:Nat)(outs:T3)(a:St):St:=List.replicate n none++outs.map λj=>(a[j]?).join
def qF(n:Nat)(outs:T3)(a:St):(kP n outs a).length=n+outs.length:=by unfold kP;rw[aI,bP,aA]
def cD(X:Cx)(N':S4)(scope:Scope)(a:List<|Str×Addr)(C:Addr)(s:Shared)(H:Hp)(ex:T4):Cx where
 prog:=X.prog
 w:=X.w
 K:=X.K
 mg:=X.mg
 base:=X.base
 A:=X.A
 N:=N'
 s₀:=s
 H₀:=H
 env:=compEnvC scope a C X.env
 outer:=X.stack
 stack:=X.stack
 ex:=ex
 fn:=λ_=>false
 calm:=X.calm
 pn:=[]
 xe:=λ_ _=>False
structure CompScope(dsc scope:Scope)(N tgs:S4)(outs:T3)(N':S4):Prop where
 kind:scope.kind=.function
 names:∀x∈scope.names,x.2=.local->scope.names.lookup x.1=some .local
 nocell:∀y∈scope.names,y.2 ≠ .cell
 free:∀y∈scope.names,y.2=.free->dsc.names.lookup y.1=some .cell
 isN:N'=tgs++outs.map (λj=>N.getD j "")
 lts:∀j∈outs,j<N.length
 outF:∀j∈outs,scope.names.lookup (N.getD j "")=some .free
 nd:N'.Nodup
def Tgt(n:Nat)(g:TG):Prop:=∀x b H Q,g x b H Q->g x b H (λa c=>Q a c/\a.length=b.length/\∀i,n<=i->a[i]? = b[i]?)
def jl_(h:i<n):Tgt n<|kX i:=λx b H Q q=>#[q,by rw[bJ],λj a=>cI `a]
def aSy(n:Nat)(g:TGs):Prop:=∀c b H Q,g c b H Q->g c b H (λa e=>Q a e/\a.length=b.length/\∀i,n<=i->a[i]? = b[i]?)
def jk_:aSy n aRq:=λa b H Q ⟨e,q⟩=>#[e,q,rfl,λ_ _=>rfl]
def aDs(g:TGs):Prop:=∀e f H Q c,(∀a b,Q a b->c a b)->g e f H Q->g e f H c
def cl_(h:i<n)(l:aSy n u)(m:aDs u):aSy n<|aCv (kX i) u:=λt o H Q ⟨v,r,e,q⟩=>by refine#[v,r,e,?_];have z:=l r (o.set i<|some v) H Q q;refine m r _ H _ _ (λp s f=>?_) z;obtain⟨a,b,c⟩:=f;refine#[a,?_,λj g=>?_];grind;rw[c j g,cI `a]
def ck_:aDs aRq:=λb c H Q a h ⟨e,q⟩=>#[e,h _ _ q]
def dr_(a:aDs u):aDs<|aCv (kX i) u:=λc f H Q b h ⟨v,r,e,q⟩=>#[v,r,e,a r _ H _ _ h q]
def nW(h:aSy n t):Tgt n<|aMj K k t:=λx g H Q ⟨a,b,e,f,c,q⟩=>#[a,b,e,f,c,h b g H Q q]
def nE(n:Nat)(outs:T3)(u:TI)(g:TG)(s:TT)(t:TE):TE:=λo H Q=>u o H λJ p =>
 ∃W:Nat->Nat->S3->Hp->Prop,(∃m,W 0 m [] p)/\∀i m c H,W i m c H ->
  (J.stop i H/\c.length<=sizeLine/\∀l,H l=none->Q (.ref l) (upd H l<|.lst c)) \/
  (J.go i H∧c.length < sizeLine∧∃ N:S3→Hp→Prop,(∀ a e,N a e→∃ j,j < m∧W (i + 1) j a e)∧∀ x e,J.yld i H x e→g x (kP n outs o) e fun f q=>s f q fun b h => if b=true then t f h λy r=>N (c++[y]) r else N c h)
section
variable{X:Cx}{l:gM}{f:St}{g:Hp}{a:Shared}{dsc scope:Scope}{tgs N':S4}{outs:T3}{s:List (Str×Addr)}{fp:T4}{C D:Addr}{t:Heap}{tk:Nat}{w:mI}
def w6(S:CompScope dsc scope X.N tgs outs N')(hsc:X.env.scope=dsc)(r:Inv X l f g a)(M:∀b∈fp,lP X l g b)(Ef:∀b∈fp,b<a.heap.objs.size)
  (G:∀x c,s.lookup x=some c->X.env.cells.lookup x=some c) (n:∀y∈scope.names,y.2=.free->∃c,s.lookup y.1=some c)
  (Y:a.heap.objs.size<=C) (N:∀b o,a.heap.get? b=some o->t.get? b=some o) (nC:t.Ns C w) :
  Inv (cD X N' scope s C a g fp) [] (kP tgs.length outs f) g { a with heap:=t,toks:=tk }:=by
 have B:∀x,scope.names.lookup x=some .free->(relabel scope X.env).names.lookup x=some .cell:=λx e => wC e r.ok.kind (by show X.env.scope.names.lookup x=some .cell;rw[hsc];exact S.free (x,.free) (PySem.mem_of_lookup e) rfl);refine#[#[r.ok.mod,?_,r.ok.glob,r.ok.blt,Y,λx y c R T=>r.ok.inj x y c (G x c R)<|G y c T,λx hx=>?_,(λx c h=>nomatch h),r.ok.hd,r.ok.frames,.inl rfl,λb F=>?_,r.bs,nzL r.ok.bsz r.sz,λb o e F=>?_,λb F=>?_,r.stack,r.stkFree],
  rfl,r.bare,Un.kept N,#[w,nC,λi x v R T e3=>?_],λx c e=>?_,r.hok.fresh Y,λx c e=>r.freeC x c<|G x c e,λp hp=>absurd (show p∈([]:gM)from hp) `g,r.hok.kept N,?_]
 exact S.kind;have H:(relabel scope X.env).names.lookup x=some .cell∨(relabel scope X.env).names.lookup x=some .free:=hx;have z:scope.names.lookup x=some .free:=by
  rcases H with H | H
  obtain ⟨k0,e,h | ⟨h,_⟩⟩:=kl_ H;rw [h] at e;exact absurd rfl<|S.nocell _<|PySem.mem_of_lookup e;rw[h]at e;exact e;obtain ⟨k0,e,h | ⟨h,_⟩⟩:=kl_ H;rw[h]at e;exact e;rw[h]at e;exact e
 exact n (x,.free) (PySem.mem_of_lookup z) rfl;refine #[fun z => ?_,fun x c e=>(M b F).2.2.2.2.1 x c<|G x c e];have z':b=C:=z;exact absurd (aV (Ef b F) Y) (by rw[z'];exact dM _);rcases (M b F).2.2.2.1 with z | z
 exact r.ok.noex b o e z;exact absurd (aV (aS e)<|nzL r.ok.bsz z)<|dM _;intro z;rcases aE.mp (r.stkSub b z)with z | z
 exact(M b F).2.1 z;exact(M b F).2.2.1 z;have A:(List.replicate tgs.length (none:T5) ++ outs.map fun j=>(f[j]?).join)[i]? = some (some v):=T;have E:N'[i]? = some x:=R;by_cases hi:i<tgs.length;rw [cZ (by rw [bP]; exact hi),iZ,if_pos hi] at A;cases A;rw [bX (by rw [bP]; lia),bP,bK] at A;rw[S.isN,bX `a,bK]at E;cases U:outs[i-tgs.length]? with
 |none=>rw[U]at A;cases A
 |some j =>
  rw[U]at E A;have hj:j∈outs:=bA U;have ex:X.N.getD j "" = x:=ozI E;have L:(f[j]?).join=some v:=ozI A;have W:f[j]? = some (some v):=by
   cases q:f[j]? with
   |none=>rw[q]at L;cases L
   |some o=>rw[q]at L;exact congrArg some L
  have eN:X.N[j]? = some x:=by have Z:=S.lts j hj;rw[<-ex,aU,aG Z];rfl
  have fx:scope.names.lookup x=some .free:=by rw[<-ex];exact S.outF j hj
  have V:X.env.scope.names.lookup x=some .cell:=by rw[hsc];exact S.free (x,.free) (PySem.mem_of_lookup fx) rfl
  obtain⟨m,hn,Z⟩:=r.loc;obtain⟨u,ru,lk⟩:=Z j x v eN W<|.inr<|.inl V;refine#[u,ru,?_];rcases lk with⟨k,_⟩ | ⟨k,c,ec,⟨d,O,Q⟩⟩
  have k':X.env.scope.names.lookup x=some .local:=k;rw[V]at k';cases k';obtain ⟨c',I⟩:=n (x,.free) (PySem.mem_of_lookup fx) rfl;have J:=G x c' I;rw[ec]at J;cases J;exact .inr #[.inl<|B x fx,c,I,d,N _ _ O,Q]
 obtain ⟨v,d,O,Q⟩:=r.cell x c<|G x c e;exact#[v,d,N _ _ O,Q];show (kP tgs.length outs f).length=N'.length;rw[qF,S.isN,aI,aA]
def aNe(H:Inv X l f g a)(i:Inv (cD X N' scope s C a g fp) [] F B E)(y:∀b∈fp,lP X l g b)
  (J:a.heap.objs.size<=D) (I:E.heap.get? D=some { cls:=.type "list",data:=.seq its.toArray n }) (r:Vals A its) (hz:A.length<=sizeLine) (m:B D=none):Inv X l f (upd B D<|.lst A) E:=by
 have L:∀b o,a.heap.get? b=some o->b≠D:=λb o e z=>absurd (aV (aS e) (by rw[z];exact J))<|dM _;refine H.call' (ch:=fp) i.os #[λb o e nn h j=>?_,λb o e nn h j=>?_,λb o e nn j=>?_,λb o e j=>?_,λb G e=>?_,λb o u e=>?_,λb M e=>?_] (λb u e=>?_) i.bare λb h=>#[(y b h).2.2.2.1,(y b h).2.1,(y b h).2.2.2.2.1,(y b h).2.2.2.2.2];exact i.base.keep b o e nn h j;exact i.base.slot b o e nn h j;rw [dZ<|L b o e];exact i.base.free b o e nn j;exact i.base.there b o e j;have q:=i.base.tups b G e;rw[dZ<|l9 q m];exact q;have q:=i.base.frzs b o u e;rw[dZ<|l9 q m];exact q;obtain ⟨p,q⟩:=i.base.tbls b M e;refine#[p,?_];rw[dZ<|l9 q m];exact q;by_cases h:b=D;subst h;rw[bY]at e;cases e;exact#[hz,its,n,r,I];rw [dZ h] at e;exact(i.hok b u e).stay (λc v _ q=>q) (λc q=>by rw[dZ<|l9 q m];exact q) λc G q=>by rw[dZ<|l9 q m];exact q
end
def tK{c a:St}(f:∀i,n<=i->a[i]? = (kP n outs c)[i]?):∀(i:Nat) v,(kP n outs c)[i]? = some (some v)->a[i]? = some (some v):=λi v e=>by by_cases b:n<=i;rw[f i b];exact e;unfold kP at e;rw[cZ (by rw[bP];exact Nat.lt_of_not_le b),iZ,if_pos<|Nat.lt_of_not_le b]at e;cases e
section
variable{X:Cx}{A t f:Expr}{j:T6}{dsc scope:Scope}{tgs N':S4}{outs:T3}{K:TI}{g:TG}{G:TT}{B:TE}{w:Pos}
def rN{Aa}{σ:St}{O}{s2}{I}{it}{fp}{tn}{J}(S:CompScope dsc scope X.N tgs outs N')(hsc:X.env.scope=dsc)(hc:X.calm=true)
  (hg:∀I C s H ex,PG (cD X N' scope I C s H ex) A g) (Go:Tgt tgs.length g) (Dm:∀I C s H ex,PCs (cD X N' scope I C s H ex) j G) (he:∀I C s H ex,PE (cD X N' scope I C s H ex) t B)
  (Eh:∀x c,I.lookup x=some c->X.env.cells.lookup x=some c) (Hu:∀y∈scope.names,y.2=.free->∃c,I.lookup y.1=some c)
  (I2:Inv X Aa σ O s2) (T:Turn X.prog X.w X.K A J fp it tn) (Id:tn 0 s2.heap) (f2:∀b∈fp,lP X Aa O b)
  {W:Nat->Nat->S3->Hp->Prop} {m0} (w0:W 0 m0 [] O) {Qf:S3->Hp->Prop}
  (turn:∀ i m l H,W i m l H→(J.stop i H∧l.length≤sizeLine∧Qf l H)∨(J.go i H∧l.length < sizeLine∧∃ N:S3→Hp→Prop,(∀ acc' M,N acc' M→∃ m',m' < m∧W (i + 1) m' acc' M)∧∀ x M,J.yld i H x M→g x (kP tgs.length outs σ) M fun b3 O=>G b3 O fun b H3 => if b=true then B b3 H3 λy H4=>N (l++[y]) H4 else N l H3))
  {E} {RR:Value->Addr->Result->Shared->Prop}
  (b5:∀D C s5 mC l H5,Inv X Aa σ (upd H5 D<|.lst l) s5->H5 D=none->Qf l H5->s5.heap.Ns C mC->lP X Aa (upd H5 D<|.lst l) C->RR (.ref D) C (.ok .next) s5) :
  wpAny `d X.A (newList []) (λl Q=>wpAny `d X.A (newFunctionEnv scope X.env.globals I [] X.env.qual none .none (some X.env)) (λa0 b2 => codeAny `d X.A (.compStart (.ListComp t [#[A,f,j,0]] scope w) 0 (.ref it) l { a0 with scope:=relabel scope X.env }) (RR l a0.locals) b2) E Q) E s2:=by
 have Ef:=λb h=>let ⟨o,e,_⟩:=T.obj 0 _ Id b h;aS e;refine wpAny_newObj_type (wpAny_newFunctionEnv S.nocell (by intro y hy;simp at hy) (λa6 R L=>?_) S.kind);generalize Ps:s2.heap.push { cls:=.type "list",dict:=none,data:=.seq ([]:S8).toArray }=HH at R L ⊢;have hC:HH.objs.size=s2.heap.objs.size+1:=by rw[<-Ps,cJ]
 have M0:s2.heap.objs.size≠HH.objs.size:=by grind
 have Lr:s2.heap.objs.size<=HH.objs.size:=by rw[hC];exact Nat.le_succ _
 have a7:=λb o e=>L.extBut b o (by rw[hC];exact bF<|fZ<|aS e)<|aD _<|Ps ▸ aD _ e;have Hy:=L.extBut _ _ M0<|aD _<|Ps ▸ aW _ rfl;have Lq:=λb h=>fY<|Ef b h;have k:=I2.hok.fresh<|aO _;have I4:=w6 (tk:=s2.toks+([]:List<|Str×Value).length) S hsc I2 f2 Ef Eh Hu Lr a7 R;have Qk:=T.keep 0 _ _ Id λb h o e=>a7 b o e;generalize c1:HH.objs.size=C at *;generalize Mz:s2.heap.objs.size=D at *;have nofs:D∉(cD X N' scope I C s2 O fp).fs:=λz=>by obtain⟨_,o,ho,_⟩:=I2.stack.mem<|z;have:=aS ho;rw[Mz]at this;exact dM _ this
 have a2:∀{a3:St} {M:Hp} {U:Shared} {a:S8} {n:Nat},Inv (cD X N' scope I C s2 O fp) [] a3 M U->U.heap.get? D=some { cls:=.type "list",data:=.seq a.toArray n }->M D=none ->
   Inv (cD X N' scope I C s2 O fp) [(D,{ cls:=.type "list",data:=.seq a.toArray n })] a3 M U:=λ{a3 M U a n} J e hn=>J.pins_of λp V=>by
  have ep:p=(D,{ cls:=.type "list",data:=.seq a.toArray n }):=by simpa using V
  subst ep;exact#[e,hn,M0,nofs,λv z=>by cases z]
 have Z:∀{M:Hp} {o:Obj},(∀b∈fp,M b=none)->∀b∈fp,lP (cD X N' scope I C s2 O fp) [(D,o)] M b:=λ{M o} hn b h=>by
  refine#[hn b h,(I4.ok.exf b h).1,I4.ok.exfs b h,.inl h,(I4.ok.exf b h).2,λp V=>?_];have Db:p∈([]:gM)++[(D,o)]:=V;have ep:p=(D,o):=by simpa using Db
  subst ep;exact Lq b h
 have a1:∀Q:Shared,Q={ s2 with heap:=a6,toks:=s2.toks+([]:List<|Str×Value).length } ->
   codeAny `d X.A (.compLoop (.ListComp t [#[A,f,j,0]] scope w) 0 (.ref it) (.ref D)<|compEnvC scope I C X.env) (RR (.ref D) C) Q:=by
  rintro Q rfl;refine yC (λm U=>∃i l H a n,Inv (cD X N' scope I C s2 O fp) [(D,{ cls:=.type "list",data:=.seq a.toArray n })] (kP tgs.length outs σ) H U/\tn i U.heap/\(∀b∈fp,H b=none)/\Vals l a/\W i m l H) ?_ m0
   #[0,[],O,[],0,a2 I4 Hy k,Qk,λb h=>(f2 b h).1,.nil,w0]
  rintro m U ⟨i,l,H,a,n,I',b0,a5,rD,w'⟩;rcases turn i m l H w' with⟨b1,hz,q⟩ | ⟨go,hz,N,hN,step⟩
  refine dR (T.done (cD X N' scope I C s2 O fp) rfl rfl rfl hc i _ U _ H _ I' (Z a5) b0 b1) fun r s4 Y => ?_;obtain⟨hr,J4⟩:=Y;subst hr;obtain⟨eD,nD,_⟩:=J4.pin (D,{ cls:=.type "list",data:=.seq a.toArray n })<|aJ _ aB;obtain⟨mC,c0,_⟩:=J4.loc;have I5:=aNe (D:=D) I2 (J4.pins_of (pins':=[])<|λp V=>nomatch V) f2 (by rw[Mz];exact aO _) eD rD hz nD;refine b5 D C s4 mC l H I5 nD q c0<|I2.fpOk (by rw[Mz];exact Lr) ?_;rw[dZ<|Ne.symm M0];exact J4.free;refine dR (T.item (cD X N' scope I C s2 O fp) rfl rfl rfl hc i _ U _ H _ I' (Z a5) b0 go) fun r s4 Y => ?_;obtain⟨u,hr,h4⟩:=Y;subst hr;refine dR h4 λ_ s5 Y=>?_;obtain⟨x,H5,I5,r5,y5,Ic,Pw⟩:=Y;have b4:=I5.pinned (Z Pw)<|T.obj _ _ Ic;refine dR (hg I C s2 O fp _ s5 _ H5 x u _ b4 r5<|Go x _ H5 _<|step x H5 y5) λ_ s6 Y=>?_;obtain⟨a4,H6,I6,q6,l6,k6⟩:=Y;refine dR (Dm I C s2 O fp _ s6 a4 H6 _ I6 q6) λb s7 Y=>?_;obtain⟨H7,I7,q7⟩:=Y;have tail:∀{M:Hp} {U:Shared},Inv (cD X N' scope I C s2 O fp) ([(D,{ cls:=.type "list",data:=.seq a.toArray n })]++qE fp s5.heap) a4 M U->(∀b∈fp,∀o,s5.heap.get? b=some o->U.heap.get? b=some o)/\∀b∈fp,M b=none:=λ{M U} J => #[fun b h o e=>(J.pin (b,o)<|aJ _<|aJ _<|fx_ h e).1,fun b h=>by obtain⟨o,e,d⟩:=T.obj _ _ Ic b h;exact(J.pin (b,o)<|aJ _<|aJ _<|fx_ h e).2.1];cases b with
  |false => rw[if_neg bH]at q7 ⊢;obtain⟨m',hm,w7⟩:=hN _ _ q7;obtain⟨t1,t2⟩:=tail I7;exact#[m',hm,i+1,l,H7,a,n,I7.unpinned.weak l6.symm<|tK k6,T.keep _ _ _ Ic t1,t2,rD,w7]
  |true =>
   refine dR (he I C s2 O fp _ s7 a4 H7 _ I7 q7) λv s8 Y=>?_;obtain⟨y,H8,I8,r8,q8⟩:=Y;obtain⟨m',hm,w8⟩:=hN _ _ q8;obtain⟨t1,t2⟩:=tail I8;obtain⟨eD,nD,_⟩:=I8.pin (D,{ cls:=.type "list",data:=.seq a.toArray n })<|aJ _<|aM _ aB;have hl:=rD.length;refine call_meets F.slot_list_append #[_,eD,rfl] F.entry_list_append (F.args_list_append_2 _ _) (PySem.list_append D a.toArray n v (by rw[aR];lia)) #[eD,?_];have q:=PySem.IsL.update eD (·.push v);have eA:a.toArray.push v=(a++[v]).toArray:=by simp
   rw[eA]at q;refine#[m',hm,i+1,l++[y],H8,a++[v],_,a2 (Inv.weak (Inv.turned (it:=D) (I8.pins_of (pins':=[])<|λp V=>nomatch V) (λb o h e=>(bC _ _<|Ne.symm h).trans e) nD M0 (.inr (by show s2.heap.objs.size<=D;rw[Mz];exact aO _)) (λx c e z=>?_)<|λp V=>nomatch V) l6.symm<|tK k6) q nD,
    T.keep _ _ _ Ic (λb h o e=>(bC _ _<|Lq b h).trans<|t1 b h o e),t2,rD.append<|.cons r8 .nil,w8]
   obtain⟨v',oc,Hi,Lg⟩:=I8.cell x c e;rw[z,eD]at Hi;cases Hi;cases Lg
 exact codeAny_compStart_list (a1 _ rfl)<|T.self X.A 0 _ _ _ Qk<|a1 _ rfl
def wK(S:CompScope dsc scope N tgs outs N')(hi:PI X A f K)(hg:∀a C s H ex,PG (cD X N' scope a C s H ex) A g)(E:Tgt tgs.length g)(v:∀a C s H ex,PCs (cD X N' scope a C s H ex) j G)
  (V:∀a C s H ex,PE (cD X N' scope a C s H ex) t B) (u:X.N=N:=by rfl) (hsc:X.env.scope=dsc:=by rfl) (n:X.calm=true:=by rfl) (hs:∀x,foldedSetIterable f X.env x=pure x:=by intro _;rfl) :
  PE X (.ListComp t [#[A,f,j,0]] scope w) (nE tgs.length outs K g G B):=by
 subst u;intro p s r H Q I h;obtain⟨a,O,R,U⟩:=rO (scope:=scope) (env:=X.env)<|λy hy hk=>I.ok.has y.1<|.inl (by show X.env.scope.names.lookup y.1=_;rw[hsc];exact S.free y hy hk);rw[eval_ListComp];refine wpAny_comprehension_free (use:=none) rfl hs O S.kind S.names<|wpAny_mono (hi p s r H _ I h) (λxv s1 Z=>wpAny_mono Z (λa0 s2 d=>?_) λ_ _ e=>e) λ_ _ e=>e;obtain⟨it,fp,tn,J,H2,rfl,F,T,M,Y,W,⟨m0,w0⟩,turn⟩:=d;refine rN (RR:=λi C=>compPost `d X.A X.xe none (EP X p r Q) i C) S hsc n hg E v V R U F T M Y w0 (Qf:=λi H=>∀l,H l=none->Q (.ref l) (upd H l<|.lst i)) turn ?_;intro D C s5 mC i H5 L nD q m c;refine#[mC,m,λh' z=>#[.ref D,_,?_,rfl,q D nD]];exact L.turned (it:=C) (t':=s5.toks) (λb o k e=>(z.2 b k).trans e) c.1 c.2.1 c.2.2.2.1 c.2.2.2.2.1 c.2.2.2.2.2
def oA{r c:Pos}(hN:X.N.Nodup)(hx:X.N[i]? = some x)(O:X.env.scope.names.lookup x=some .local)(S:CompScope dsc scope N tgs outs N')(hi:PI X A f K)(hg:∀p C s H ex,PG (cD X N' scope p C s H ex) A g)(k:Tgt tgs.length g)
  (Z:∀p C s H ex,PCs (cD X N' scope p C s H ex) j G) (he:∀p C s H ex,PE (cD X N' scope p C s H ex) t B)
  (Nr:swapsWith (.ListComp t [#[A,f,j,0]] scope w) (some<|.Name x r) c.line X.env=pure true:=by rfl)
  (Y:X.N=N:=by rfl) (hsc:X.env.scope=dsc:=by rfl) (hc:X.calm=true:=by rfl) (hs:∀x,foldedSetIterable f X.env x=pure x:=by intro _;rfl) :
  PS X (.Assign [.Name x r] (.ListComp t [#[A,f,j,0]] scope w) c) (vO (nE tgs.length outs K g G B)<|kX i):=by
 subst Y;intro E s R H F I h;obtain⟨p,e1,e2,e3⟩:=rO (scope:=scope) (env:=X.env)<|λy hy hk=>I.ok.has y.1<|.inl (by show X.env.scope.names.lookup y.1=_;rw[hsc];exact S.free y hy hk);rw[exec_Assign_Name_used _ _ _ _ Nr];refine wpAny_bind<|wpAny_standAt<|wpAny_bind ?_;show wpAny _ X.A (do let _ <-comprehension (.ListComp t [⟨A,f,j,0⟩] scope w) scope X.env _ (newList []) false (eval f X.env) (some<|assign (.Name x r) X.env)) _ _ s;refine wpAny_bind (wpAny_mono (wpAny_comprehension_free (use:=some<|assign (.Name x r) X.env) (Q:=λ_ u=>SP X E F .next u) rfl hs e1 S.kind S.names
  (wpAny_mono (hi E s R H _ I h) (λxv s1 h1=>wpAny_mono h1 (λa0 s2 h2=>?_) λ_ _ e=>e) λ_ _ e=>e)) (λ_ u hq=>wpAny_pure<|wpAny_pure hq) λ_ _ e=>e)
 obtain⟨it,fp,tn,J,H2,rfl,V,T,Id,f2,W,⟨m0,w0⟩,turn⟩:=h2;refine rN (RR:=λz C=>compPost `d X.A X.xe (some<|assign (.Name x r) X.env) (λ_ u=>SP X E F .next u) z C) S hsc hc hg k Z he e2 e3 V T Id f2 w0
  (Qf:=λz H=>∀l,H l=none->F.nx (R.set i<|some<|.ref l) (upd H l<|.lst z)) turn ?_
 intro D C s5 mC z H5 I5 nD q M m;show wpAny _ X.A (assign (.Name x r) X.env<|.ref D) _ _ _;refine wpAny_assign_Name<|ka_ I5 hN hx (.inl O) (show RelV (.ref D) (.ref D)from rfl) (λu n U=>?_)<|.inr O;obtain⟨a,sb,v⟩:=U;have L:C≠a:=by
  rcases v with v | v
  rw[v];exact m.2.1;exact Ne.symm<|m.2.2.2.2.1 x a v
 refine#[mC,M.sameBut sb L,λh' d=>#[_,_,n.turned (it:=C) (t':=u.toks) (λb o hb e=>(d.2 b hb).trans e) m.1 m.2.1 m.2.2.2.1 m.2.2.2.2.1 m.2.2.2.2.2,q D nD]]
end
def SIter(t:Bool)(h:Heap)(it l:Addr)(k:Nat):Prop:=if t=true then h.IsTupleIter it l k else h.IsListIter it l k
def SSeq(t:Bool)(h:Heap)(l:Addr)(xs:T8):Prop:=if t=true then h.IsTuple l xs else h.IsList l xs
def SIter.obj(x:SIter t h it l k):∃o,h.get? it=some o/\∀v,o.data ≠ .cell v:=by cases t;obtain⟨o,e,_,d⟩:=(x);exact#[o,e,λv z=>by rw[d]at z;cases z];obtain⟨o,e,_,d⟩:=(x);exact#[o,e,λv z=>by rw[d]at z;cases z]
def SIter.to(x:SIter t h it l k)(e:∀o,h.get? it=some o->h'.get? it=some o):SIter t h' it l k:=by cases t;obtain⟨o,a,r⟩:=(x);exact#[o,e o a,r];obtain⟨o,a,r⟩:=(x);exact#[o,e o a,r]
def SSeq.to(x:SSeq t h l xs)(e:∀o,h.get? l=some o->h'.get? l=some o):SSeq t h' l xs:=by cases t;obtain⟨o,a,r⟩:=(x);exact#[o,e o a,r];obtain⟨o,a,r⟩:=(x);exact#[o,e o a,r]
section
variable{prog:Program}{w:World}{A:Around}{E:hX}{s:Shared}
def t7{it l}{i}{items}{x}{Q}(c:s.heap.IsTupleIter it l i)(j:s.heap.IsTuple l items)(m:items[i]? = some x)
  (g:∀h',h'.IsTupleIter it l (i+1)->Heap.SameBut it s.heap h'->Q x { s with heap:=h' }):wpAny `f A (Builtin.SmallTypes.nextOf<|.ref it) Q E s:=by
 obtain⟨o,b,h,a⟩:=id c;obtain⟨q,f,_,p,e⟩:=j;refine wpAny_bind<|wpAny_callSpecial?_slot c.typeIs F.slot_tuple_iterator_next<|wpAny_call_entry F.slot_tuple_iterator_next c.typeIs F.entry_tuple_iterator_next ?_<|F.args_tuple_iterator_next_1 _;show wpAny _ _ (field (.ref it) 0 >>= _) _ _ s;refine wpAny_bind<|wpAny_field b a (x:=.ref l) rfl ?_;show wpAny _ _ (field (.ref it) 1 >>= _) _ _ s;refine wpAny_bind<|wpAny_field b a rfl ?_;show wpAny _ _ (seqItems? (.ref l) >>= _) _ _ s;refine wpAny_bind<|wpAny_seqItems f e ?_;simp only[gC,m];exact wpAny_bind<|wpAny_setField b a `g (wpAny_pure #[x,rfl,wpAny_pure<|g _ #[_,cF _ b<|Obj.isFreed_of_fields<|Obj.data_mapFields a _,(Obj.cls_mapFields ..).trans h,by rw[Obj.data_mapFields a];simp[rawInt]]<|Heap.SameBut.update ..])
def b8{it l}{i}{items}{Q}(f:A.handled=none)(a:s.heap.IsTupleIter it l i)(m:s.heap.IsTuple l items)(p:items[i]? = none)
  (j:∀h' e,Heap.ExtBut it s.heap h'->(∃o,h'.get? e=some o/\o.cls=.type "StopIteration")->E (.ref e) { s with heap:=h' }):wpAny `f A (Builtin.SmallTypes.nextOf<|.ref it) Q E s:=by
 obtain⟨o,c,q,b⟩:=id a;obtain⟨t,h,_,r,g⟩:=m;refine wpAny_bind<|wpAny_callSpecial?_slot a.typeIs F.slot_tuple_iterator_next<|wpAny_call_entry F.slot_tuple_iterator_next a.typeIs F.entry_tuple_iterator_next ?_<|F.args_tuple_iterator_next_1 _;show wpAny _ _ (field (.ref it) 0 >>= _) _ _ s;refine wpAny_bind<|wpAny_field c b (x:=.ref l) rfl ?_;show wpAny _ _ (field (.ref it) 1 >>= _) _ _ s;refine wpAny_bind<|wpAny_field c b rfl ?_;show wpAny _ _ (seqItems? (.ref l) >>= _) _ _ s;refine wpAny_bind<|wpAny_seqItems h g ?_;simp only[gC,p];refine wpAny_bind<|wpAny_rule<|wpAny_bind<|wpAny_setField c b `g ?_;show wpAny _ _ (newExc (.type "StopIteration") [] >>= _) _ _ _;refine wpAny_bind ?_;simp only[newExc,newTuple];refine wpAny_bind<|wpAny_newObj_type ?_ (by size_fits);refine wpAny_bind<|wpAny_of_eq (by first | rfl | (simp only[firstArgMember];rfl)) ?_;refine wpAny_newObj_type ?_ (by size_fits);simp only[raiseNew];refine wpAny_bind<|wpAny_handled ?_;first | rw[show A.in1.handled=none from f] | rw[f]
 refine wpAny_bind<|wpAny_pure<|wpAny_throw ?_;exact j _ _ (((Heap.SameBut.update ..).extBut.push _).push _) #[_,aW _ rfl,rfl]
def hs_{t}{it l}{i}{items}{x}{Q}(a:SIter t s.heap it l i)(c:SSeq t s.heap l items)(e:items[i]? = some x)
  (b:∀h',SIter t h' it l (i+1)->Heap.SameBut it s.heap h'->Q x { s with heap:=h' }):wpAny `f A (Builtin.SmallTypes.nextOf<|.ref it) Q E s:=by
 cases t;exact wpAny_nextOf_list_item a c e b;exact t7 a c e b
def kv_{t}{it l}{i}{items}{Q}(c:A.handled=none)(a:SIter t s.heap it l i)(f:SSeq t s.heap l items)(g:items[i]? = none)
  (b:∀h' e,Heap.ExtBut it s.heap h'->(∃o,h'.get? e=some o/\o.cls=.type "StopIteration")->E (.ref e) { s with heap:=h' }):wpAny `f A (Builtin.SmallTypes.nextOf<|.ref it) Q E s:=by
 cases t;exact wpAny_nextOf_list_end c a f g b;exact b8 c a f g b
def fw_{z:Addr}{Q:Option Value->Shared->Prop}(g:s.TypeIs (.ref z) "zip")(h:wpAny `f A.in1 (Builtin.«zip.__next__» #[[.ref z],[]]) (λc a=>∃v,c=.done (.ret v)/\Q (some v) a) (λe a=>a.TypeIs e "StopIteration" /\ Q none a) s):wpAny `f A (pyNext<|.ref z) Q E s:=by unfold pyNext;refine wpAny_bind<|wpAny_attempt<|wpAny_callSpecial?_slot (name:=Str.ofString "__next__") g F.slot_zip_next<|wpAny_call_entry F.slot_zip_next g F.entry_zip_next (wpAny_mono h (λc a f=>?_) λe a f=>wpAny_bind<|wpAny_isInstance (T:= "StopIteration") (b:=true) f.1 isSubtype_stop<|wpAny_pure f.2)<|F.args_zip_next_1 _;obtain⟨v,rfl,q⟩:=f;exact#[v,rfl,wpAny_pure q]
section
variable{t1 t2:Bool}{z TI TO g f i h:Addr}{k1 k2:Nat}{xs ys:T8}{a b:Value}(D:ZipApart z TI TO g f i h)
  (hz:IsZip s.heap z TI TO .none) (q:IsPair s.heap TI (.ref g) (.ref f)) (p:IsPair s.heap TO a b)
  (j:SIter t1 s.heap g i k1) (m:SIter t2 s.heap f h k2) (l:SSeq t1 s.heap i xs) (r:SSeq t2 s.heap h ys)
include D hz q p j m l r
theorem sS{x y}{Q:hX}(hx:xs[k1]? = some x)(hy:ys[k2]? = some y)
  (hQ:∀ h',IsZip h' z TI TO (rawInt s.heap.objs.size)→IsPair h' TO x y→SIter t1 h' g i (k1 + 1)→SIter t2 h' f h (k2 + 1)→IsPair h' s.heap.objs.size x y→h'.objs.size=s.heap.objs.size + 1 →
   (∀c o,c≠z->c≠TO->c≠g->c≠f->s.heap.get? c=some o->h'.get? c=some o)->Q `m { s with heap:=h' }) :
  wpAny `f A (Builtin.«zip.__next__» #[[.ref z],[]]) (λW s'=>∃v,W=.done (.ret v)/\Q v s') E s:=by
 show wpAny _ _ (field (.ref z) 2 >>= _) _ _ _;refine wpAny_bind<|wpAny_field hz rfl (x:=.bool false) rfl ?_;show wpAny _ _ (field (.ref z) 3 >>= _) _ _ _;refine wpAny_bind<|wpAny_field hz rfl rfl ?_;refine wpAny_bind<|wpAny_seqItems q rfl ?_;show wpAny _ _ (Builtin.SmallTypes.ownedTupleIsFree (.ref z) >>= _) _ _ _;refine wpAny_bind ?_;unfold Builtin.SmallTypes.ownedTupleIsFree;refine wpAny_bind<|wpAny_field hz rfl (x:=.none) rfl<|wpAny_pure ?_;simp only[if_true];refine wpAny_bind<|wpAny_rule ?_;refine wpAny_bind<|wpAny_field hz rfl rfl ?_;refine wpAny_bind<|wpAny_setField_rec hz (size_pos_of_not_empty rfl) λq1 t C=>?_;replace t:IsZip q1 z TI TO .ellipsis:=t;refine wpAny_bind ?_;simp only[List.zipIdx_cons,List.zipIdx_nil,List.forIn_cons,List.forIn_nil];refine wpAny_bind<|wpAny_bind<|wpAny_onRaise ?_;show wpAny _ _ (Builtin.SmallTypes.nextOf (.ref g) >>= _) _ _ _;refine wpAny_bind<|hs_ (j.to λo e=>C.extBut _ _ D.i1z e) (l.to λo e=>C.extBut _ _ D.l1z e) hx λq2 a2 F=>wpAny_pure ?_;have d:=F.extBut _ _ D.TOi1<|C.extBut _ _ D.TOz p;refine wpAny_bind<|wpAny_seqItems d rfl ?_;refine wpAny_bind<|wpAny_updateSeq_pair d λq3 S G=>?_;replace S:IsPair q3 TO x b:=S;refine wpAny_bind<|wpAny_letGo<|wpAny_pure ?_;refine wpAny_bind<|wpAny_bind<|wpAny_onRaise ?_;show wpAny _ _ (Builtin.SmallTypes.nextOf (.ref f) >>= _) _ _ _;refine wpAny_bind<|hs_ (m.to λo e=>G.extBut _ _ D.TOi2.symm<|F.extBut _ _ D.i12.symm<|C.extBut _ _ D.i2z e) (r.to λo e=>G.extBut _ _ D.l2TO<|F.extBut _ _ D.l2i1<|C.extBut _ _ D.l2z e) hy λq4 a4 I=>wpAny_pure ?_;have k:=I.extBut _ _ D.TOi2 S;refine wpAny_bind<|wpAny_seqItems k rfl ?_;refine wpAny_bind<|wpAny_updateSeq_pair k λu M J=>?_;replace M:IsPair u TO x y:=M;refine wpAny_bind<|wpAny_letGo<|wpAny_pure<|wpAny_pure ?_;refine wpAny_bind<|wpAny_seqItems M rfl ?_;refine wpAny_bind<|wpAny_newTuple ?_;have H:u.objs.size=s.heap.objs.size:=by rw[J.1,I.1,G.1,F.1,C.1]
 have z5:=J.extBut _ _ D.TOz.symm<|I.extBut _ _ D.i2z.symm<|G.extBut _ _ D.TOz.symm<|F.extBut _ _ D.i1z.symm t;have k5:∀c o,c≠z->c≠TO->c≠g->c≠f->s.heap.get? c=some o->u.get? c=some o:=λc o B N T U e=>J.extBut _ _ N<|I.extBut _ _ U<|G.extBut _ _ N<|F.extBut _ _ T<|C.extBut _ _ B e;have d1:=a2.to λo e=>J.extBut _ _ D.TOi1.symm<|I.extBut _ _ D.i12<|G.extBut _ _ D.TOi1.symm e;have d2:=a4.to λo e=>J.extBut _ _ D.TOi2.symm e;have L:=aS z5;show wpAny _ _ (Builtin.SmallTypes.ownedTupleHandOut (.ref z) (.ref u.objs.size) >>= _) _ _ _;refine wpAny_bind ?_;unfold Builtin.SmallTypes.ownedTupleHandOut;have z6:IsZip (u.push { cls:=.type "tuple",data:=.seq [x,y].toArray }) z TI TO .ellipsis:=aD _ z5;refine wpAny_bind<|wpAny_setField_rec z6 (size_pos_of_not_empty rfl) λq7 Z X=>?_;replace Z:IsZip q7 z TI TO<|rawInt u.objs.size:=Z;refine wpAny_setField_rec Z `g λO R Y=>?_;replace R:IsZip O z TI TO<|rawInt u.objs.size:=R;have up:∀c o,c≠z->u.get? c=some o->O.get? c=some o:=λc o B e=>Y.extBut _ _ B<|X.extBut _ _ B<|aD _ e;have V:=Y.extBut _ _ (fY L)<|X.extBut _ _ (fY L)<|aW _ rfl;have n:O.objs.size=u.objs.size+1:=by rw[Y.1,X.1,cJ]
 rw[H]at R V n;refine wpAny_pure #[_,rfl,?_];show Q (.ref u.objs.size) _;rw[H];exact hQ O R (up _ _ D.TOz M) (d1.to λo e=>up _ o D.i1z e) (d2.to λo e=>up _ o D.i2z e) V n λc o B N T U e=>up c o B<|k5 c o B N T U e
theorem yP{Q}(N:A.handled=none)(V:xs[k1]? = none\/ys[k2]? = none)
  (M:∀h' e,(∀c o,c≠z->c≠TO->c≠g->c≠f->s.heap.get? c=some o->h'.get? c=some o)->(∃o,h'.get? e=some o/\o.cls=.type "StopIteration")->E (.ref e) { s with heap:=h' }) :
  wpAny `f A (Builtin.«zip.__next__» #[[.ref z],[]]) Q E s:=by
 show wpAny _ _ (field (.ref z) 2 >>= _) _ _ _;refine wpAny_bind<|wpAny_field hz rfl (x:=.bool false) rfl ?_;show wpAny _ _ (field (.ref z) 3 >>= _) _ _ _;refine wpAny_bind<|wpAny_field hz rfl rfl ?_;refine wpAny_bind<|wpAny_seqItems q rfl ?_;show wpAny _ _ (Builtin.SmallTypes.ownedTupleIsFree (.ref z) >>= _) _ _ _;refine wpAny_bind ?_;unfold Builtin.SmallTypes.ownedTupleIsFree;refine wpAny_bind<|wpAny_field hz rfl (x:=.none) rfl<|wpAny_pure ?_;simp only[if_true];refine wpAny_bind<|wpAny_rule ?_;refine wpAny_bind<|wpAny_field hz rfl rfl ?_;refine wpAny_bind<|wpAny_setField_rec hz (size_pos_of_not_empty rfl) λY t u=>?_;replace t:IsZip Y z TI TO .ellipsis:=t;refine wpAny_bind ?_;simp only[List.zipIdx_cons,List.zipIdx_nil,List.forIn_cons,List.forIn_nil];refine wpAny_bind<|wpAny_bind<|wpAny_onRaise ?_;show wpAny _ _ (Builtin.SmallTypes.nextOf (.ref g) >>= _) _ _ _;cases O:xs[k1]? with
 |none =>
  refine wpAny_bind<|kv_ N (j.to λo e=>u.extBut _ _ D.i1z e) (l.to λo e=>u.extBut _ _ D.l1z e) O λZ e v I=>?_;obtain⟨J,C,F⟩:=I;have k:=v _ _ D.i1z.symm t;have H:e≠z:=by grind
  exact wpAny_setField_rec k (size_pos_of_not_empty rfl) λR _ y=>M R e (λc o B _ G _ x=>y.extBut _ _ B<|v _ _ G<|u.extBut _ _ B x) #[J,y.extBut _ _ H C,F]
 |some x =>
  have X:ys[k2]? = none:=by grind
  refine wpAny_bind<|hs_ (j.to λo e=>u.extBut _ _ D.i1z e) (l.to λo e=>u.extBut _ _ D.l1z e) O λZ a2 v=>wpAny_pure ?_;have L:=v.extBut _ _ D.TOi1<|u.extBut _ _ D.TOz p;refine wpAny_bind<|wpAny_seqItems L rfl ?_;refine wpAny_bind<|wpAny_updateSeq_pair L λR b3 y=>?_;refine wpAny_bind<|wpAny_letGo<|wpAny_pure ?_;refine wpAny_bind<|wpAny_bind<|wpAny_onRaise ?_;show wpAny _ _ (Builtin.SmallTypes.nextOf (.ref f) >>= _) _ _ _;refine wpAny_bind<|kv_ N (m.to λo e=>y.extBut _ _ D.TOi2.symm<|v.extBut _ _ D.i12.symm<|u.extBut _ _ D.i2z e) (r.to λo e=>y.extBut _ _ D.l2TO<|v.extBut _ _ D.l2i1<|u.extBut _ _ D.l2z e) X λq4 e S I=>?_;obtain⟨J,C,F⟩:=I;have n:=S _ _ D.i2z.symm<|y.extBut _ _ D.TOz.symm<|v.extBut _ _ D.i1z.symm t;have H:e≠z:=by grind
  exact wpAny_setField_rec n (size_pos_of_not_empty rfl) λd _ T=>M d e (λc o B U G W x=>T.extBut _ _ B<|S _ _ W<|y.extBut _ _ U<|v.extBut _ _ G<|u.extBut _ _ B x) #[J,T.extBut _ _ H C,F]
end
end
abbrev aLu(t:Bool):String:=if t=true then "tuple_iterator" else "list_iterator"
abbrev zq1(t1:Bool)(h:Heap)(a:Addr):Heap:=h.push { cls:=.type<|aLu t1,data:=.fields [.ref a,.int 0 0].toArray }
abbrev zq2(t1 t2:Bool)(h:Heap)(a b:Addr):Heap:=(zq1 t1 h a).push { cls:=.type<|aLu t2,data:=.fields [.ref b,.int 0 0].toArray }
abbrev zq3(t1 t2:Bool)(h:Heap)(a b:Addr):Heap:=(zq2 t1 t2 h a b).push { cls:=.type "tuple",data:=.seq [.ref h.objs.size,.ref (zq1 t1 h a).objs.size].toArray }
abbrev zq4(t1 t2:Bool)(h:Heap)(a b:Addr):Heap:=(zq3 t1 t2 h a b).push { cls:=.type "tuple",data:=.seq [.none,.none].toArray }
abbrev zq5(t1 t2:Bool)(h:Heap)(a b:Addr):Heap:=(zq4 t1 t2 h a b).push { cls:=.type "zip",data:=.fields [.none,.bool false,.bool false,.ref (zq2 t1 t2 h a b).objs.size,.ref (zq3 t1 t2 h a b).objs.size].toArray }
def zV{prog}{w}{A}{E}{s}{t}{l}{xs}{Q}(b:SSeq t s.heap l xs)
  (a:Q `m { s with heap:=zq1 t s.heap l }):wpAny `f A (pyIter<|.ref l) Q E s:=by
 cases t;exact wpAny_pyIter_list b a;exact wpAny_pyIter_tuple b a
def aGw(t1 t2:Bool)(a b:Addr)(xs ys:T8) :
  Meets (Builtin.«zip.__new__» #[[.type "zip",.ref a,.ref b],[]]) (λ_ R s=>SSeq t1 s.heap a xs/\SSeq t2 s.heap b ys/\R (.ok<|.ret<|.ref (zq4 t1 t2 s.heap a b).objs.size) { s with heap:=zq5 t1 t2 s.heap a b }):=
 .of_wp fun i w A R s h=>by
  obtain⟨m,g,d,tk,p⟩:=s;obtain⟨l,j,h⟩:=h;have q:=sub_zip;have c:=l;have f:SSeq t2 (Shared.heap #[zq1 t1 m a,g,d,tk,p]) b ys:=j.to λo e=>aD _ e
  wp_walk using zV c,zV f
  exact#[_,rfl,h]
def uR{prog}{w}{A}{E}{s:Shared}{t1 t2}{l1 l2}{xs ys}{Q}(p:SSeq t1 s.heap l1 xs)(m:SSeq t2 s.heap l2 ys)
  (h:∀ h',IsZip h' (s.heap.objs.size + 4) (s.heap.objs.size + 2) (s.heap.objs.size + 3) .none→IsPair h' (s.heap.objs.size + 2) `m (.ref<|s.heap.objs.size + 1) →
   IsPair h' (s.heap.objs.size+3) .none .none->SIter t1 h' s.heap.objs.size l1 0->SIter t2 h' `l l2 0->(∀c o,s.heap.get? c=some o->h'.get? c=some o)->Q (.ref<|s.heap.objs.size+4) { s with heap:=h' }) :
  wpAny `f A (call (.type "zip") [.ref l1,.ref l2]) Q E s:=by
 refine callType_new F.called_zip rfl (F.typeCall_zip_2 _ _) (F.newCall_zip_2 _ _) (λobj=>F.args_object_init_3 obj _ _) F.entry_zip_new (aGw t1 t2 l1 l2 xs ys) #[p,m,?_];have b:(zq1 t1 s.heap l1).objs.size=s.heap.objs.size+1:=cJ ..;have e:(zq2 t1 t2 s.heap l1 l2).objs.size=s.heap.objs.size+2:=by rw[cJ,b]
 have f:(zq3 t1 t2 s.heap l1 l2).objs.size=s.heap.objs.size+3:=by rw[cJ,e]
 have l:(zq4 t1 t2 s.heap l1 l2).objs.size=s.heap.objs.size+4:=by rw[cJ,f]
 have a:(zq5 t1 t2 s.heap l1 l2).get? (zq4 t1 t2 s.heap l1 l2).objs.size=some _:=aW _ rfl;have j:(zq5 t1 t2 s.heap l1 l2).get? (zq3 t1 t2 s.heap l1 l2).objs.size=some _:=aD _<|aW _ rfl;have i:(zq5 t1 t2 s.heap l1 l2).get? (zq2 t1 t2 s.heap l1 l2).objs.size=some _:=aD _<|aD _<|aW _ rfl;have g:(zq5 t1 t2 s.heap l1 l2).get? (zq1 t1 s.heap l1).objs.size=some _:=aD _<|aD _<|aD _<|aW _ rfl;have q:(zq5 t1 t2 s.heap l1 l2).get? s.heap.objs.size=some _:=aD _<|aD _<|aD _<|aD _<|aW _ rfl;rw[e,f,l]at a;rw[b,e]at i;rw[f]at j;rw[b]at g;rw[l];refine#[#[_,a,rfl],h _ a i j ?_ ?_ λc o x=>aD _<|aD _<|aD _<|aD _<|aD _ x];cases t1<;>exact#[_,q,rfl,rfl]
 cases t2<;>exact#[_,g,rfl,rfl]
section
variable{prog:Program}{w:World}{A:Around}{R:Result->Shared->Prop}{I:Addr}{fp wr:T4}{n:Nat}{P:Nat->Value->Prop}{St:Nat->Heap->Prop}
def aQs(p:Bool)(kw:List<|Str×Value)(W:Walks prog w A.in1 I fp wr n P St)(r:Nat->Nat->Bool)(S:Addr)(C:Heap->Prop)(N:∀h h':Heap,C h->(∀b o,b∉wr->b≠S->h.get? b=some o->h'.get? b=some o)->C h')(Jh:∀i j V vj (s:Shared) (Q:hX) (E:hX),C s.heap->P i V->P j vj->Q (.bool<|r i j) s->wpAny `f A.in1 (richCompare (bif p then .Gt else .Lt) V vj) Q E s)(X:S∉fp) :
  ∀(k j:Nat) (s:Shared) (g:Value) (c:Nat),C s.heap->n-(j+1)=k->j+1<=n->St (j+1) s.heap->P (argBest r j) g->s.heap.get? S=some { cls:=.type "list",dict:=none,data:=.seq [g,g].toArray c,slots:= [].toArray } ->
  (∀v h' tk,P (argBest r<|n-1) v->(∀b o,b∉wr->b≠S->s.heap.get? b=some o->h'.get? b=some o)->R (.ok<|.ret v) { s with heap:=h',toks:=tk }) ->
  codeAny `f A (.builtin (bif p then "max.loop" else "min.loop") #[[.ref I,.none,.ref S],kw]) R s:=by
 have D:plainId (bif p then "max.loop" else "min.loop")=true:=by cases p<;>first | exact F.plain_min_loop | exact F.plain_max_loop
 have T:(toString (bif p then "max" else "min")++toString ".loop" : String)=(bif p then "max.loop" else "min.loop"):=by cases p<;>decide
 cases p<;>dsimp only[cond]at *
 all_goals
  have Z:S∉wr:=λh=>X<|W.sub _ h;intro k
  induction k with
  |zero =>
   intro j s g c y hk hj H z u B;have U:j+1=n:=by lia
   refine codeAny_builtin (by first | exact F.entry_min_loop | exact F.entry_max_loop) ?_;rw[Around.under_plainId D _];show wpAny _ A.in1 (seqItems? (.ref S) >>= _) _ _ s;refine wpAny_bind<|wpAny_seqItems u rfl ?_;show wpAny _ A.in1 (tryCatch (pyNext<|.ref I) _ >>= _) _ _ s;refine wpAny_bind<|wpAny_tryCatch<|W.done s _ _ (U ▸ H) λh' tk f=>?_;have t:=f S _ Z u;show wpAny _ A.in1 (updateSeq S (λ_=>[].toArray) >>= _) _ _ _;refine wpAny_bind ?_;refine wpAny_updateSeq t rfl<|wpAny_bind<|wpAny_letGo<|wpAny_pure ?_;exact B g _ tk (by rw[<-U];exact z) λb o q l e=>(bC _ _<|Ne.symm l).trans (f b o q e)
  |succ k x =>
   intro j s g c y hk hj H z u B;have G:j+1<n:=by lia
   refine codeAny_builtin (by first | exact F.entry_min_loop | exact F.entry_max_loop) ?_;rw[Around.under_plainId D _];show wpAny _ A.in1 (seqItems? (.ref S) >>= _) _ _ s;refine wpAny_bind<|wpAny_seqItems u rfl ?_;show wpAny _ A.in1 (tryCatch (pyNext<|.ref I) _ >>= _) _ _ s;refine wpAny_bind<|wpAny_tryCatch<|W.item (j+1) s _ _ G H λv h' tk d Y f=>?_;have t:=f S _ Z u;show wpAny _ A.in1 (tryCatch (holding [v,v] (richCompare _ v g >>= _)) _ >>= _) _ _ _;refine wpAny_bind<|wpAny_tryCatch<|wpAny_holding<|wpAny_bind<|Jh (j+1) (argBest r j) v g _ _ _ (N _ _ y λb o m _ e=>f b o m e) d z ?_;refine wpAny_bind<|wpAny_holding<|wpAny_truthy_bool ?_;refine wpAny_bind<|wpAny_letGo<|wpAny_pure ?_;cases m:r (j+1) (argBest r j)with
   |true => simp only[if_true];refine wpAny_bind ?_;refine wpAny_updateSeq t rfl<|wpAny_bind<|wpAny_letGo ?_;rw[T];refine wpAny_pure #[plainId_quiet D _,x (j+1) _ v _ (N _ _ y λb o m l e=>(bC _ _<|Ne.symm l).trans<|f b o m e) `a G (W.frame _ _ _ Y λb Lm o e=>?_) (by simp only[argBest,m,if_true];exact d) (cF _ t rfl) λO J a M L=>?_];exact(bC _ _ (λh:S=b=>X (by rw[h];exact Lm))).trans e;exact B O J a M λb o q l e=>L b o q l ((bC _ _<|Ne.symm l).trans<|f b o q e)
   |false => simp only[gS,if_false];refine wpAny_bind<|wpAny_letGo ?_;rw[T];refine wpAny_pure #[plainId_quiet D _,x (j+1) _ g c (N _ _ y λb o m _ e=>f b o m e) `a G Y (by simp only[argBest,m,gS,if_false];exact z) t λO J a M L=>?_];exact B O J a M λb o q l e=>L b o q l<|f b o q e
def b9(a:Bool)(z:List<|Str×Value)(W:Walks prog w A.in1 I fp wr n P St)(p:Nat->Nat->Bool)(S:Addr)(C:Heap->Prop)(t:∀h h':Heap,C h->(∀b o,b∉wr->b≠S->h.get? b=some o->h'.get? b=some o)->C h')(T:∀i j D G (s:Shared) (Q:hX) (E:hX),C s.heap->P i D->P j G->Q (.bool<|p i j) s->wpAny `f A.in1 (richCompare (bif a then .Gt else .Lt) D G) Q E s)(m:S∉fp)(y:0<n){s:Shared}{c:Nat}(U:C s.heap)(H:St 0 s.heap)
  (u:s.heap.get? S=some { cls:=.type "list",dict:=none,data:=.seq [].toArray c,slots:= [].toArray })
  (k:∀v h' tk,P (argBest p<|n-1) v->(∀b o,b∉wr->b≠S->s.heap.get? b=some o->h'.get? b=some o)->R (.ok<|.ret v) { s with heap:=h',toks:=tk }) :
  codeAny `f A (.builtin (bif a then "max.loop" else "min.loop") #[[.ref I,.none,.ref S],z]) R s:=by
 have B:plainId (bif a then "max.loop" else "min.loop")=true:=by cases a<;>first | exact F.plain_min_loop | exact F.plain_max_loop
 have J:(toString (bif a then "max" else "min")++toString ".loop" : String)=(bif a then "max.loop" else "min.loop"):=by cases a<;>decide
 have L:=aQs (R:=R) a z W p S C t T m;cases a<;>dsimp only[cond]at *
 all_goals
  have Z:S∉wr:=λh=>m<|W.sub _ h;refine codeAny_builtin (by first | exact F.entry_min_loop | exact F.entry_max_loop) ?_;rw[Around.under_plainId B _];show wpAny _ A.in1 (seqItems? (.ref S) >>= _) _ _ s;refine wpAny_bind<|wpAny_seqItems u rfl ?_;show wpAny _ A.in1 (tryCatch (pyNext<|.ref I) _ >>= _) _ _ s;refine wpAny_bind<|wpAny_tryCatch<|W.item 0 s _ _ y H λv h' tk d O l=>?_;have r:=l S _ Z u;show wpAny _ A.in1 (updateSeq S (λ_=>[v,v].toArray) >>= _) _ _ _;refine wpAny_bind ?_;refine wpAny_updateSeq r rfl ?_;rw[J];refine wpAny_pure #[plainId_quiet B _,L _ 0 _ v _ (t _ _ U λb o x g e=>(bC _ _<|Ne.symm g).trans<|l b o x e) rfl y (W.frame _ _ _ O λb X o e=>?_) d (cF _ r rfl) λV M f Y N=>?_];exact(bC _ _ (λh:S=b=>m (by rw[h];exact X))).trans e;exact k V M f Y λb o q g e=>N b o q g<|(bC _ _<|Ne.symm g).trans<|l b o q e
def aFg{d}{nm}(W:Walks prog w A.in1 I fp wr 0 P St)(S:Addr)(h:S∉fp){s}{c}(a:St 0 s.heap)
  (g:s.heap.get? S=some { cls:=.type "list",dict:=none,data:=.seq [].toArray c,slots:= [].toArray })
  (f:∀h' tk,(∀b o,b∉wr->s.heap.get? b=some o->h'.get? b=some o)->R (.ok<|.ret d) { s with heap:=h',toks:=tk }) :
  codeAny `f A (.builtin "max.loop" #[[.ref I,.none,.ref S],[(nm,d)]]) R s:=by
 refine codeAny_builtin F.entry_max_loop ?_;rw[Around.under_plainId F.plain_max_loop _];show wpAny _ A.in1 (seqItems? (.ref S) >>= _) _ _ s;refine wpAny_bind<|wpAny_seqItems g rfl ?_;show wpAny _ A.in1 (tryCatch (pyNext<|.ref I) _ >>= _) _ _ s;refine wpAny_bind<|wpAny_tryCatch<|W.done s _ _ a λh' tk e=>?_;refine wpAny_bind<|wpAny_rule<|wpAny_pure ?_;exact f h' tk e
end
def aGq(a d:Value):argsOk "max" #[[a],[(Str.ofString "default",d)]]:=by unfold argsOk;kernel_rfl
def Sq(t:Bool)(K:dN)(H:Hp)(a:Addr)(xs:S3):Prop:=if t=true then SqT K H a xs else SqL K H a xs
def Inv.sseq(I:Inv X Aa b H s)(h:Sq t X.K H a xs):∃its:S8,Vals xs its/\SSeq t s.heap a its.toArray/\xs.length<=sizeLine:=by cases t;obtain ⟨its,r,p,z⟩:=I.list h;exact#[its,r,p.isList,z];obtain ⟨its,r,p,z⟩:=I.tuple h;exact#[its,r,p,z]
def Inv.sseq_inj(I:Inv X Aa b H s)(h:Sq t X.K H a xs)(h':Sq t X.K H a ys):xs=ys:=by cases t;exact I.list_inj h h';exact I.tuple_inj h h'
def Itz(t1 t2:Bool)(K:dN)(a b:Addr):It:=
  #[fun i H => ∃ c e x y,Sq t1 K H a c∧Sq t2 K H b e∧c[i]? = some x∧e[i]? = some y,
   λi H v f=>∃p x y,v=.ref p/\H p=none/\f=upd H p (.tup [x,y])/\∀c e,Sq t1 K H a c->Sq t2 K H b e->c[i]? = some x/\e[i]? = some y,
   λi H=>∃c e,Sq t1 K H a c/\Sq t2 K H b e/\(c.length<=i\/e.length<=i)]
section
variable{X:Cx}{a:gM}{f:St}{H:Hp}{s:Shared}
def Inv.turnedL{ch:T4}(I:Inv X a f H s)(h:∀b∈ch,lP X a H b)(k:∀b o,b∉ch->s.heap.get? b=some o->h'.get? b=some o):Inv X a f H { s with heap:=h',toks:=t' }:=by
 have i:∀b u,H b=some u->b∉ch:=λb u e z=>by rw[(h b z).1]at e;cases e
 refine I.step (g':=s.gens) (d':=s.drawn) (ch:=ch) (λb j=>#[(h b j).2.2.2.1,(h b j).2.1,(h b j).2.2.2.2.1,(h b j).2.2.2.2.2]) (λb o _ _ g e _=>k b o g e) (λb o _ _ g e _=>#[o.slots,k b o g e]) (λ_ _ _ _ n=>n)
  (λb o g e=>#[o,k b o g e]) (λ_ _ e=>e) (λ_ _ _ e=>e) (λb A e=>#[[].toArray,by rw[e];simp]) (λm t=>?_) (λb u e=>?_) I.bare
 obtain ⟨o,p,l,y,r⟩:=t;exact#[o,p,l,k _ o (λz=>(h _ z).2.1 rfl) y,r];refine (I.hok b u e).stay (fun c v g q=>k c v ?_ q) (fun _ q=>q) fun _ _ q=>q;rcases g with z | z
 rw[z];exact i b u e;exact i c _ z
def Inv.turnedT{ch:T4}(I:Inv X a f H s)(i:∀b∈ch,lP X a H b)(k:∀b o,b∉ch->s.heap.get? b=some o->h'.get? b=some o)
  (t:s.heap.objs.size<=T) (r:Vals xs its) (hz:xs.length<=sizeLine) (e:IsTup h' T its.toArray):Inv X a f (upd H T<|.tup xs) { s with heap:=h',toks:=t' }:=by
 have j:H T=none:=I.hok.fresh t;have l:∀b u,H b=some u->b∉ch:=λb u e z=>by rw[(i b z).1]at e;cases e
 have p:∀b o,s.heap.get? b=some o->b≠T:=λb o e z=>absurd (aV (aS e) (by rw[z];exact t))<|dM _;refine I.step (g':=s.gens) (d':=s.drawn) (ch:=ch) (λb g=>#[(i b g).2.2.2.1,(i b g).2.1,(i b g).2.2.2.2.1,(i b g).2.2.2.2.2]) (λb o _ _ h e _=>k b o h e) (λb o _ _ h e _=>#[o.slots,k b o h e])
  (λb o _ e n=>by rw[dZ<|p b o e];exact n) (λb o h e=>#[o,k b o h e]) (λb E q=>by rw[dZ<|l9 q j];exact q) (λb o u q=>by rw[dZ<|l9 q j];exact q)
  (λb F q=>#[[].toArray,by rw[dZ<|l9 q j,q];simp]) (λm B=>?_) (λb u q=>?_) I.bare
 obtain ⟨o,A,y,C,D⟩:=B;exact#[o,A,y,k _ o (λz=>(i _ z).2.1 rfl) C,D];by_cases g:b=T;subst g;rw[bY]at q;cases q;exact#[hz,its,r,e];rw [dZ g] at q;refine(I.hok b u q).stay (λc v h z=>k c v ?_ z) (λc z=>by rw[dZ<|l9 z j];exact z) λc E z=>by rw[dZ<|l9 z j];exact z
 rcases h with z | z
 rw[z];exact l b u q;exact l c _ z
end
def aIh{P:Program}{w:World}{K:dN}{es:T6}{d:Nat}{G:Pos}{t1 t2:Bool}{a b z TI TO A B:Addr}(D:ZipApart z TI TO A B a b) :
  Turn P w K (.Tuple es d G) (Itz t1 t2 K a b) [z,TI,TO,A,B] z (λi h=>IsZip h z TI TO .none/\IsPair h TI (.ref A) (.ref B)/\(∃u v,IsPair h TO u v)/\SIter t1 h A a i/\SIter t2 h B b i)where
 mem:=by simp
 obj:=λi h m c hb=>by
  obtain⟨j,l,⟨u,v,p⟩,r,t⟩:=m;simp only[aE,bG,or_false]at hb;rcases hb with rfl | rfl | rfl | rfl | rfl
  exact#[_,j,λv e=>nomatch e];exact#[_,l,λv e=>nomatch e];exact#[_,p,λv e=>nomatch e];exact r.obj;exact t.obj
 keep:=λi h T m k=>by obtain⟨j,l,⟨u,v,p⟩,r,t⟩:=m;exact#[k z `g _ j,k TI `g _ l,#[u,v,k TO `g _ p],r.to λo e=>k A `g o e,t.to λo e=>k B `g o e]
 item:=by
  intro X W Z U f i J s σ H E I M m Y;subst W Z U;obtain⟨xs,ys,x,y,O,Q,e1,e2⟩:=Y;obtain⟨C,r1,n,z1⟩:=I.sseq O;obtain⟨F,r2,V,z2⟩:=I.sseq Q;obtain⟨u1,Lu,J8⟩:=r1.get e1;obtain⟨u2,S,a0⟩:=r2.get e2;obtain⟨j,l,⟨u,v,p⟩,r,t⟩:=m;have R:∀c∈[z,TO,A,B],lP X J H c:=λc f=>M c (by simp only[aE,bG,or_false]at f ⊢;rcases f with rfl | rfl | rfl | rfl<;>simp);have lt:∀{c o},s.heap.get? c=some o->s.heap.objs.size≠c:=λe=>fY<|aS e;refine fw_ #[_,j,rfl]<|sS D j l p r t n V (x:=u1) (y:=u2) (by simpa using Lu) (by simpa using S) λT a1 a2 a3 a4 a5 a6 N=>?_;refine#[_,rfl,wpAny_letOwnedTupleGo_zip a1 λL b1 b2=>?_];have g:Heap.SameBut z T L:=b2;have d:∀c o,c∉[z,TO,A,B]->s.heap.get? c=some o->L.get? c=some o:=λc o f e=>by simp only[aE,bG,or_false,not_or]at f;exact g.extBut _ _ f.1<|N c o f.1 f.2.1 f.2.2.1 f.2.2.2 e
  have tT:L.get? s.heap.objs.size=some { cls:=.type "tuple",data:=.seq [u1,u2].toArray }:=g.extBut _ _ (lt j) a5;have nT:H s.heap.objs.size=none:=I.hok.fresh<|aO _;have I':Inv X J σ (upd H s.heap.objs.size<|.tup [x,y]) { s with heap:=L }:=I.turnedT (t':=s.toks) (its:=[u1,u2]) R d (aO _) (.cons J8<|.cons a0 .nil) (by show 2<=sizeLine;decide) #[_,tT,rfl,_,rfl];refine#[.ref s.heap.objs.size,upd H s.heap.objs.size<|.tup [x,y],I',rfl,
   #[_,x,y,rfl,nT,rfl,λa7 b0 w1 w2=>#[by rw[I.sseq_inj w1 O];exact e1,by rw[I.sseq_inj w2 Q];exact e2]],#[b1,g.extBut _ _ D.TIz<|N _ _ D.TIz D.TITO D.TIi1 D.TIi2 l,#[_,_,g.extBut _ _ D.TOz a2],a3.to λo e=>g.extBut _ _ D.i1z e,a4.to λo e=>g.extBut _ _ D.i2z e],λc f=>?_]
  obtain⟨o,eo,_⟩:∃o,s.heap.get? c=some o/\True:=by
   simp only[aE,bG,or_false]at f;rcases f with rfl | rfl | rfl | rfl | rfl
   exact#[_,j,trivial];exact#[_,l,trivial];exact#[_,p,trivial];obtain⟨o,e,_⟩:=r.obj;exact#[o,e,trivial];obtain⟨o,e,_⟩:=t.obj;exact#[o,e,trivial]
  rw[dZ<|Ne.symm<|lt eo];exact(M c f).1
 done:=by
  intro X W Z U f i J s σ H E I M m Y;subst W Z U;obtain⟨xs,ys,O,Q,e⟩:=Y;obtain⟨C,r1,n,z1⟩:=I.sseq O;obtain⟨F,r2,V,z2⟩:=I.sseq Q;obtain⟨j,l,⟨u,v,p⟩,r,t⟩:=m;have R:∀c∈[z,TO,A,B],lP X J H c:=λc f=>M c (by simp only[aE,bG,or_false]at f ⊢;rcases f with rfl | rfl | rfl | rfl<;>simp);have l1:=r1.length;have l2:=r2.length;refine fw_ #[_,j,rfl]<|yP D j l p r t n V (I.ok.hd f) ?_ λT q N he=>#[he,rfl,I.turnedL (t':=s.toks) R λc o f e=>?_];rcases e with e | e
  exact .inl (by simp;lia);exact .inr (by simp;lia);simp only [aE,bG,or_false,not_or] at f;exact N c o f.1 f.2.1 f.2.2.1 f.2.2.2 e
 self:=λ_ _ _ _ _ m h=>wpAny_pyIter_zip m.1 h
def aNj:bootBuiltins "zip" = some (.type "zip"):=by decide +kernel
def bKx(t1 t2:Bool)(K:dN)(e:TA):TI:=λi H R=>e i H λf c=>∃a b,f=[.ref a,.ref b]/\(∃g,Sq t1 K c a g)/\(∃h,Sq t2 K c b h)/\R (Itz t1 t2 K a b) c
def aWm(L:Gl X "zip")(N:X.mg "zip" = none)(ha:PA X [ea,eb] ta)(O:starEach [ea,eb] X.env=[(false,eval ea X.env),(false,eval eb X.env)]:=by rfl)(hs2:starEach [eb] X.env=[(false,eval eb X.env)]:=by rfl) :
  PI X (.Tuple es kk tpos) (.Call (.Name "zip" p) [ea,eb] [] pos) (bKx t1 t2 X.K ta):=by
 intro z s Y H R I h;refine Call_<|gp_ I L N aNj<|cN (dR (ha pos z s Y H _ I h) λk g A=>?_) (by rw[O,hs2]) (by rw[hs2];rfl);obtain⟨n,E,f,y,Q⟩:=A;obtain⟨a,b,e,⟨x,U⟩,⟨V,W⟩,q⟩:=Q;subst e;obtain⟨u,v,rfl,S,T⟩:=y.two;cases S;cases T;obtain⟨m,y,r,z1⟩:=f.sseq U;obtain⟨o,d,t,z2⟩:=f.sseq W;have J:a<g.heap.objs.size:=by cases t1<;>(obtain⟨_,e,_⟩:=r;exact aS e)
 have G:b<g.heap.objs.size:=by cases t2<;>(obtain⟨_,e,_⟩:=t;exact aS e)
 refine uR r t λZ l B C F D M=>wpAny_pyIter_zip l ?_;refine#[_,_,_,_,E,rfl,f.kept (t':=g.toks) M,aIh (t1:=t1) (t2:=t2)<|zipApart_new J G,#[l,B,#[_,_,C],F,D],λc j=>?_,q];have i:g.heap.objs.size<=c:=by simp only[aE,bG,or_false]at j;rcases j with rfl | rfl | rfl | rfl | rfl<;>lia
 exact f.fpOk i<|f.hok.fresh i
section
variable{X:Cx}
def aGf(z:X.calm=true):CallR X (.builtin "max") (λxs H Q=>∃p ns,xs=[.ref p]/\SqL X.K H p (ns.map V.int)/\ns≠[]/\∀M,M∈ns->(∀a∈ns,a<=M)->Q (.int M) H):=by
 intro G s R H xs O Q I r h;obtain⟨p,ns,rfl,B,J,q⟩:=h;obtain⟨u,rfl,F⟩:=jN r;cases F;obtain⟨C,E,D,N⟩:=I.list B;have l:=eo_ E;obtain⟨f,e⟩:=l.allInts.items;have g:ns=f.toList.map (·.1):=by rw[<-l.numsOf,<-nums_intItems,<-e]
 have b:0<f.size:=by grind
 have c:=D.isList;rw[e]at c;refine max_intList (I.ok.hd z) c b λv L tk hv A=>?_;obtain⟨t,rfl⟩:=intItems_at hv;obtain⟨o,y⟩:=argBest_gt (numAt f)<|f.size-1;refine#[.int _,H,I.kept A,#[t,rfl],q _ ?_ λa i=>?_];rw [g,numAt_eq];exact getD_mem (by rw[aA,Array.length_toList];exact Nat.lt_of_le_pred b o);rw [g] at i;obtain⟨j,m,rfl⟩:=mem_getD i;rw[aA,Array.length_toList]at m;rw[<-numAt_eq];exact y j<|(Nat.le_sub_one_iff_lt b).mpr m
def aNq(X:Cx)(f:Value)(ks:S4)(r:S3->S3->Hp->VK->Prop):Prop:=
 ∀(a:gM) (s:Shared) (h:St) (H:Hp) (e g:S3) (b c:S8) (Q:VK),Inv X a h H s->Vals e b->Vals g c->r e g H Q ->
  wpAny `d X.A (call f b<|ks.zip c) (EP X a h Q) X.xe s
def bJm(r:S3->S3->Hp->VK->Prop)(t tk:TA):TE:=λa H Q=>t a H λe b=>tk a b λf c=>r e f c Q
def aEv{p pos}{id}(B:aNq X (.builtin id) ks r)(D:Gl X x)(E:X.mg x=none)(hv:bootBuiltins x=some (.builtin id))
  (ha:PA X (e::b) t) (z:PK X a tk) (y:(backToKw pos<|keywordEach a X.env).filterMap (·.1)=ks:=by rfl) (F:x ≠ "__name__":=by decide) (g:U5 x:=by decide)
  (C:backTo pos (starEach (e::b) X.env)=(false,eval e X.env)::backTo pos (starEach b X.env):=by rfl) (j:(backTo pos<|starEach (e::b) X.env).any (·.1)=false:=by rfl)
  (m:(backToKw pos<|keywordEach a X.env).all (·.1.isSome)=true:=by rfl) (A:(backToKw pos<|keywordEach a X.env).any (·.1.isNone)=false:=by rfl):PE X (.Call (.Name x p) (e::b) a pos)<|bJm r t tk:=by
 intro c s f H Q I h;refine wpAny_Call_Name_kw<|gp_ I D E hv ?_ F g;refine PyProof.Rows.callWith_kw (dR (ha pos c s f H _ I h) λR N i=>?_) C j m A;obtain⟨S,o,u,L,G⟩:=i;refine dR (z pos c N f o _ u G) λT O l=>?_;obtain⟨U,q,v,M,J⟩:=l;rw[y];exact B c O f q S U R T Q v L M J
def aGg(T:X.calm=true):aNq X (.builtin "max") ["default"] (λxs zs H Q=>∃p ns d,xs=[.ref p]/\zs=[.int d]/\SqL X.K H p (ns.map V.int)/\(ns=[]->Q (.int d) H)/\(∀M,M∈ns->(∀a∈ns,a<=M)->Q (.int M) H)):=by
 intro Aa s σ H xs zs us ws Q I r rz h;obtain⟨p,ns,d,rfl,rfl,n,q0,q⟩:=h;obtain⟨u,rfl,rx⟩:=jN r;cases rx;obtain⟨v,rfl,m,rfl⟩:=jN rz;obtain⟨x,r',pl,hz⟩:=I.list n;have D:=eo_ r';obtain⟨c,e⟩:=D.allInts.items;have y:ns=c.toList.map (·.1):=by rw[<-D.numsOf,<-nums_intItems,<-e]
 have g:=pl.isList;rw[e]at g;have F:(toString "max" ++ toString ".loop" : String) = "max.loop":=by decide
 have U:X.A.handled=none:=I.ok.hd T;refine kmk_tree PySem.F.kind_max PySem.F.plain_max PySem.F.entry_max (aGq _ _) ?_;show wpAny _ X.A.in1 (Builtin.Builtins.bindParams "max" ["key","default"] 0 #[[],[(Str.ofString "default",.int d m)]] >>= _) _ _ s;refine wpAny_bind<|wpAny_of_eq (show Builtin.Builtins.bindParams "max" ["key","default"] 0 #[[],[(Str.ofString "default",.int d m)]]=pure [none,some<|.int d m]from rfl) ?_;refine wpAny_bind<|wpAny_pure ?_;refine wpAny_bind<|iter_intList g λs2 N st G J=>?_;subst N;refine wpAny_bind<|wpAny_newObj_type ?_;have W:=Walks.list (prog:=X.prog) (w:=X.w) (A:=X.A.in1) U s.heap.objs.size p J<|intItems c;rw[F];have f:∀b o,s.heap.get? b=some o->b≠s.heap.objs.size:=λb o e=>bF<|aS e;refine wpAny_pure #[plainId_quiet PySem.F.plain_max_loop _,?_];have B:(s.heap.push { cls:=.type "list_iterator",data:=.fields [.ref p,.int 0 0].toArray }).objs.size∉[s.heap.objs.size,p]:=λZ=>dM _<|G _ Z;have l:=W.frame 0 _ ((s.heap.push { cls:=.type "list_iterator",data:=.fields [.ref p,.int 0 0].toArray }).push { cls:=.type "list",dict:=none,data:=.seq ([]:S8).toArray }) st λb _ o e=>aD _ e;by_cases k:0<c.size;refine b9 true _ W (fun i j=>decide (numAt c i > numAt c j)) _ (fun _=>True) (fun _ _ _ _=>trivial) (fun i j vi vj s Q E _=>CmpOf.ints_gt (numAt c) (fun _ _=>intItems_at) i j vi vj s Q E) B (by simpa [intItems] using k) trivial l (aW _ rfl) fun v O tk S z => ?_;have hv:(intItems c)[argBest (λi j=>decide (numAt c i>numAt c j))<|c.size-1]? = some v:=by simpa [intItems]using S
 obtain⟨t,rfl⟩:=intItems_at hv;obtain⟨h1,R⟩:=argBest_gt (numAt c)<|c.size-1;refine#[.int _,H,I.kept λb o e=>z b o (by simpa using f b o e) ?_<|aD _<|aD _ e,#[t,rfl],q _ ?_ λa C=>?_];have:=aS e;rw[cJ];exact bF<|fZ this;rw [y,numAt_eq];exact getD_mem (by rw[aA,Array.length_toList];lia);rw [y] at C;obtain⟨j,Y,rfl⟩:=mem_getD C;rw[aA,Array.length_toList]at Y;rw[<-numAt_eq];exact R j `a;have L:(intItems c).size=0:=by rw [intItems,Array.size_map]; lia
 rw[L]at W;refine aFg W _ B l (aW _ rfl) λO tk z=>?_;refine#[.int d,H,I.kept λb o e=>z b o (by simpa using f b o e)<|aD _<|aD _ e,#[m,rfl],q0 ?_];rw[y];have:c.toList.length=0:=by rw[Array.length_toList];lia
 rw[List.eq_nil_of_length_eq_zero this];rfl
def aKm(a:X.A.units<cLine):OpR X (compareOp .Eq) (λx y H Q=>∃p b xs,x=.ref p/\y=.ref b/\SqL X.K H p xs/\SqL X.K H b []/\Q (.bl xs.isEmpty) H):=by
 intro B s D H x y v u Q I z A h;obtain⟨p,b,xs,rfl,rfl,l,m,q⟩:=h;cases z;cases A;obtain⟨o,r,f,_⟩:=I.list l;obtain⟨c,t,g,_⟩:=I.list m;cases t;cases r with
 |nil=>exact PySem.SeqAt.eq_listAt (e:=λ_=>true) f.isList g.isList rfl a (λj i=>absurd i `g) #[.bl true,H,I,rfl,q]
 |cons C rb=>exact PySem.SeqAt.eq_list_lengthsAt f.isList g.isList `g a #[.bl false,H,I,rfl,q]
def aKi(a:X.A.units<cLine):OpR X (compareOp .NotEq) (λx y H Q=>∃p b xs,x=.ref p/\y=.ref b/\SqL X.K H p xs/\SqL X.K H b []/\Q (.bl<|!xs.isEmpty) H):=by
 intro B s D H x y v u Q I z A h;obtain⟨p,b,xs,rfl,rfl,l,m,q⟩:=h;cases z;cases A;obtain⟨o,r,f,_⟩:=I.list l;obtain⟨c,t,g,_⟩:=I.list m;cases t;cases r with
 |nil=>exact PySem.SeqAt.RcNeAt.lists (e:=λ_=>true) f.isList g.isList rfl a (λj i=>absurd i `g) _ _ _ _ #[.bl false,H,I,rfl,q]
 |cons C rb=>exact PySem.SeqAt.RcNeAt.lists_lengths f.isList g.isList `g a _ _ _ _ #[.bl true,H,I,rfl,q]
def aIf:∀{ns:List String} {its},Vals (ns.map V.ty) its->its=ns.map Value.type
 | [],_,h=>by cases h;rfl
 |m::ms,_,h=>by
  cases h with
  |cons a rb => rw[bQ,<-aIf rb];exact congrArg (· :: _)<|a
def aVt:SlR X (λx p m H Q=>∃z,x=.str z/\z.length<=sizeLine/\Q (.str<|Txt.slice z p m) H):=by
 intro D s J H x v F G p m E Q I C A B r h;obtain⟨z,rfl,e,q⟩:=h;obtain⟨t,rfl⟩:=C;refine#["str",_,PySem.F.slot_str_getitem.lookup,typeIs_str _ _ _,?_];obtain⟨o,a,b,c⟩:=A;cases B with
 |none =>
  cases r with
  |none=>exact wpAny_getItem_str_slice (l:=none) (u:=none) (st:=none) #[o,a,b,c] rfl (post_val_or_str #[nzL (Txt.slice_le z _ _) e,λf k=>#[.str _,H,I.tok _,`r,q]])
  |int j g=>exact wpAny_getItem_str_slice (l:=none) (u:=some (j,g)) (st:=none) #[o,a,b,c] rfl (post_val_or_str #[nzL (Txt.slice_le z _ _) e,λf k=>#[.str _,H,I.tok _,`r,q]])
 |int i y =>
  cases r with
  |none=>exact wpAny_getItem_str_slice (l:=some (i,y)) (u:=none) (st:=none) #[o,a,b,c] rfl (post_val_or_str #[nzL (Txt.slice_le z _ _) e,λf k=>#[.str _,H,I.tok _,`r,q]])
  |int j g=>exact wpAny_getItem_str_slice (l:=some (i,y)) (u:=some (j,g)) (st:=none) #[o,a,b,c] rfl<|post_val_or_str #[nzL (Txt.slice_le z _ _) e,λf k=>#[.str _,H,I.tok _,`r,q]]
def s_:OpR X (binaryOp .Mult) (λx y H Q=>∃z n,x=.str z/\y=.int n/\z.length<=1000/\0<=n/\n<=1000/\Q (.str<|Txt.mul z n) H):=by intro g s j H x y v u Q I c e h;obtain⟨z,n,rfl,rfl,b,i,a,q⟩:=h;obtain⟨t,rfl⟩:=c;obtain⟨f,rfl⟩:=e;exact SB.mul (mulOk_of 1000 1000 b (Int.le_def.mpr a) `a `b `b) λf k=>#[.str _,H,I.tok _,`r,q]
end
section
variable{X:Cx}(K:dN)(h:X.K=K:=by rfl)
include h
theorem aCm:IxR X<|aVx K:=h ▸ bAh
theorem d5:IxR X<|aJd K:=h ▸ xI
theorem aKk:OpR X (compareOp .In)<|rIn K false:=h ▸ aEz
theorem aEx:OpR X (compareOp .NotIn)<|rIn K true:=h ▸ wP
theorem zE:SlR X<|bEb K:=h ▸ aPh
theorem wJ{pos}{k}(c:X.calm=true)(e:PGs X a t)(f:(assignEach a X.env).length=n:=by rfl)(b:(assignEach a X.env).findIdx? (·.1)=none:=by rfl):PG X (.Tuple a k pos)<|aMj K n t:=h ▸ ko_ c e f b
end
def aJc(K:dN):S3->Hp->VK->Prop:=λc H Q=>∃p b,c=[.ref p]/\SqL K H p (b.map V.int)/\b≠[]/\∀M,M∈b->(∀a∈b,a<=M)->Q (.int M) H
def aGe(a:X.calm=true):CallR X (.builtin "max")<|aJc X.K:=aGf a
section
variable{K:dN}
def aLp(c:PySem.W.kitOne K t a=some x)(e:PySem.W.kitOne K t b=some y):PySem.W.kitAny K t [a,b]=some (x||y):=by
 unfold PySem.W.kitAny;rw[c];cases x with
 |true=>rfl
 |false => unfold PySem.W.kitAny;rw[e];cases y<;>rfl
end
end L2
namespace Lf
open PySem L2
mutual
def IsD(H:Hp):Dt->V->Prop
 | .int i,v=>v=.int i
 | .str x,v=>v=.str x
 | .bl b,v=>v=.bl b
 | .tup ds,v=>∃a c,v=.ref a/\H a=some (.tup c)/\IsDs H ds c
 | .lst ds,v=>∃a c,v=.ref a/\H a=some (.lst c)/\IsDs H ds c
def IsDs(H:Hp):List Dt->S3->Prop
 | [],vs=>vs=[]
 |d::r,vs=>∃v a,vs=v::a/\IsD H d v/\IsDs H r a
end
mutual
def IsD.same{H b:Hp}(e:Same H b):∀{d:Dt} {v:V},IsD H d v->IsD b d v
 | .int _,_,h=>h
 | .str _,_,h=>h
 | .bl _,_,h=>h
 | .tup ds,_,⟨a,vs,h1,h2,h3⟩=>#[a,vs,h1,e _ _ h2,IsDs.same e h3]
 | .lst ds,_,⟨a,vs,h1,h2,h3⟩=>#[a,vs,h1,e _ _ h2,IsDs.same e h3]
def IsDs.same{H a:Hp}(e:Same H a):∀{ds:List Dt} {vs:S3},IsDs H ds vs->IsDs a ds vs
 | [],_,h=>h
 |d::r,_,⟨v,vr,h1,h2,h3⟩=>#[v,vr,h1,IsD.same e h2,IsDs.same e h3]
end
def IsDs.len:∀{ds} {vs},IsDs H ds vs->vs.length=ds.length
 | [],_,h=>by cases(h);rfl
 |d::r,_,⟨v,vr,h1,_,h3⟩=>by subst h1;show vr.length+1=r.length+1;rw[IsDs.len h3]
def hj_{H}{p}(h:H p=none)(o:HO):Same H<|upd H p o:=λb u q=>by rw[dZ<|l9 q h];exact q
def aRj(p:Addr)(H:Hp):Hp:=λb=>if b=p then none else H b
def xN(h:b≠p):aRj p H b=H b:=if_neg h
abbrev SameX(p:Addr)(H a:Hp):Prop:=Same (aRj p H)<|aRj p a
def SameX.get(e:SameX p H H')(n:b≠p)(h:H b=some o):H' b=some o:=by have:=e b o (by rw[xN n];exact h);rw[xN n]at this;exact this
end Lf
namespace L2
open PySem PySem.Spec PyProof.Rows
section
variable{a:Type}[DecidableEq a]
def pF(kvs:List<|a×V)(k:a):T5:=(kvs.find? λb=>decide (b.1=k)).map (·.2)
def wE(kvs:List<|a×V)(k:a)(v:V):List<|a×V:=
 if(kvs.any λb=>decide (b.1=k))=true then kvs.map (λb=>if b.1=k then(b.1,v)else b)else kvs++[(k,v)]
theorem yX{k:a}(e:p.1=k):pF (p::r) k=some p.2:=by simp[pF,fU,e]
theorem yY{k:a}(e:¬p.1=k):pF (p::r) k=pF r k:=by simp[pF,fU,e]
theorem c8(kvs:List<|a×V)(k:a)(v:V):(wE kvs k v).length<=kvs.length+1:=by unfold wE;split;rw[aA];lia;rw[aI,aK,bE];lia
theorem RelO.isSome_eq(r:RelO o u):o.isSome=u.isSome:=by
 cases o with
 |none=>cases u with
  |none=>rfl
  |some _=>exact(r).elim
 |some _=>cases u with
  |none=>exact(r).elim
  |some _=>rfl
theorem RelO.getD(r:RelO o u)(rd:RelV d d'):RelV (o.getD d)<|u.getD d':=by
 cases o with
 |none=>cases u with
  |none=>exact rd
  |some _=>exact(r).elim
 |some _=>cases u with
  |none=>exact(r).elim
  |some _=>exact r
theorem KV.val(r:KV kvs vs)(k:a):RelO (pF kvs k)<|valueAt vs k:=by
 unfold KV at r
 induction r with
 |nil=>exact True.intro
 | @cons p q ps qs h t ih =>
  obtain⟨f,g⟩:=h;by_cases e:p.1=k;have c:q.1=k:=f.symm.trans e;have b:valueAt (q::qs) k=some q.2:=by simp[valueAt,fU,c]
  rw[yX e,b];exact g;have c:¬ q.1=k:=fun z=>e<|f.trans z;have b:valueAt (q::qs) k=valueAt qs k:=by simp[valueAt,fU,c]
  rw[yY e,b];exact ih
theorem KV.any(r:KV kvs vs)(k:a):(kvs.any λb=>decide (b.1=k))=vs.any λb=>decide (b.1=k):=by
 induction r with
 |nil=>rfl
 |cons h t c=>rw[List.any_cons,List.any_cons,c,h.1]
theorem KV.repl(r:KV kvs vs)(k:a)(g:RelV y u) :
  KV (kvs.map λb=>if b.1=k then(b.1,y)else b) (vs.map λb=>if b.1=k then(b.1,u)else b):=by
 induction r with
 |nil=>exact .nil
 | @cons p q ps qs h t ih => rw[bQ,bQ];refine .cons ?_ ih;obtain⟨c,f⟩:=h;by_cases e:p.1=k;rw[if_pos e,if_pos<|c.symm.trans e];exact#[c,g];rw[if_neg e,if_neg<|λz=>e<|c.trans z];exact#[c,f]
theorem KV.put(r:KV kvs vs)(k:a)(b:RelV y u):KV (wE kvs k y)<|stored vs k u:=by unfold wE stored;rw[r.any k];by_cases e:(vs.any λc=>decide (c.1=k))=true;rw[if_pos e,if_pos e];exact r.repl k b;rw[if_neg e,if_neg e];exact Paired.snoc r #[rfl,b]
theorem KV.keys{vs:List<|a×Value}(r:KV kvs vs):kvs.map (·.1)=vs.map (·.1):=by
 induction r with
 |nil=>rfl
 |cons h t b=>rw[bQ,bQ,b,h.1]
theorem KV.length{kvs:List<|a×V}(r:KV kvs vs):kvs.length=vs.length:=Paired.length r
end
def d4(r:RelV (kV k) u):(dX P w).is k u=true:=by
 cases k with
 |inl i=>obtain⟨t,e⟩:=(r);subst e;exact c5 P w i t
 |inr x=>obtain⟨t,e⟩:=(r);subst e;exact b_ P w x t
section
variable{P:Program}{w:World}{H:Hp}{h:Heap}{a:Addr}
def bDz(ok:HOk P w H h)(e:Rd H a u):ObjOk P w H h a u:=e.ok ok
def rF(ok:HOk P w H h)(e:Rd H a<|.dK kvs):kvs.length<=sizeLine/\(a == sysModules)=false/\∃vs,KV kvs vs/\h.DictOf (dX P w) a vs:=
 show ObjOk P w H h a (.dK kvs)from bDz ok e
def bGv(ok:HOk P w H h)(e:H a=some (.dK kvs)):kvs.length<=sizeLine/\(a == sysModules)=false/\∃vs,KV kvs vs/\h.DictOf (dX P w) a vs:=rF ok<|.inl e
end
def DGet(H:Hp)(a:Addr)(y:V)(r:T5):Prop:=∃b k,Rd H a (.dK b)/\y=kV k/\r=pF b k
def DPut(H:Hp)(a:Addr)(y v:V)(c:Hp):Prop:=∃b k,H a=some (.dK b)/\y=kV k/\b.length<sizeLine/\c=upd H a (.dK<|wE b k v)
def DGet.k{H}{a}{kvs}{k}(e:H a=some (.dK kvs)):DGet H a (kV k)<|pF kvs k:=#[kvs,k,.inl e,rfl,rfl]
def DPut.k{H}{a}{kvs}{k}{v:V}(e:H a=some (.dK kvs))(b:kvs.length<sizeLine):DPut H a (kV k) v<|upd H a<|.dK<|wE kvs k v:=#[kvs,k,e,rfl,b,rfl]
section
variable{X:Cx}{f:gM}{c:St}{H:Hp}{s:Shared}{a:Addr}{y v:V}{u r:Value}{o:T5}{A:Around}{E:hX}
def Inv.big(I:Inv X f c H s):sysModules<s.heap.objs.size:=by have h:=(I.mod.glob.keeps I.bk).lt;exact jE `b h
def aFz(G:A.units+1<cLine)(I:Inv X f c H s)(g:DGet H a y<|some v)(C:RelV y u)(h:∀b m,Inv X f c H m->RelV v b->Q b m) :
  wpAny `d A (getItem `i u) Q E s:=by
 obtain⟨B,k,e,q,l⟩:=g;subst q;obtain⟨z,F,D,i,p⟩:=rF I.hok e;obtain⟨b,t,j⟩:=RelO.some_of (v:=v) (o:=valueAt D k) (by rw[l];exact i.val k);exact wpAny_getItem_of (d4 C) p.mapOf t<|h b _ (I.tok _) j
def bLu{Q:hX}(B:A.units+1<cLine)(I:Inv X f c H s)(g:DGet H a y o)(t:RelV y u)(h:∀i,Inv X f c H i->Q (.bool o.isSome) i) :
  wpAny `d A (compareOp .In u `i) Q E s:=by
 obtain⟨q,k,e,m,l⟩:=g;subst m;obtain⟨z,p,C,b,j⟩:=rF I.hok e;refine wpAny_in_of (d4 t) p j.mapOf ?_;rw[<-(b.val k).isSome_eq,<-l];exact h _<|I.tok _
def aSf(I:Inv X f c H s)(l:Mut<|H a)(j:Heap.SameBut a s.heap h')(i:∃q,h'.get? a=some q)(g:ObjOk X.prog X.w (upd H a ob) h' a ob) :
  Inv X f c (upd H a ob) { s with heap:=h',toks:=t' }:=
 I.write (x:=a) (e:=a) l (.inl rfl) (λb q h z=>(j.2 b h).trans z) i g
def aMy(z:kvs.length<=sizeLine)(e:(a == sysModules)=false)(b:KV kvs vs)(dd:h'.DictOf (dX P w) a vs) :
  ObjOk P w H' h' a (.dK kvs):=#[z,e,vs,b,dd]
def aFy{m:Hp}{Q:Unit->Shared->Prop}(S:A.units+1<cLine)(I:Inv X f c H s)(g:DPut H a y v m)(O:RelV y u)(N:RelV v r)(h:∀p,Inv X f c m p->Q () p) :
  wpAny `d A (setItem `i u r) Q E s:=by
 obtain⟨i,k,e,C,l,B⟩:=g;subst C B;obtain⟨z,F,R,j,t⟩:=bGv I.hok e;have M:R.length<=sizeLine:=by rw[<-j.length];exact z
 have J:(wE i k v).length<=sizeLine:=by have:=c8 i k v;lia
 refine wpAny_setItem_pairs (hsz:=M) (d4 O) t λD b L=>h _ ?_;have G:∃q,D.get? a=some q:=let ⟨q,_,_,hq,_⟩:=b;#[q,hq];exact aSf I (by rw[e];exact True.intro) L G<|aMy J F (j.put k N) b
end
section
variable{X:Cx}{c:gM}{b:St}{H:Hp}{s:Shared}{a:Addr}{kvs:U2}{k:Key}{u:Value}{A:Around}{E:hX}
def bGz{Q:hX}(I:Inv X c b H s)(e:Rd H a<|.dK kvs)(h:∀t g,Inv X c b H g->Q (.int kvs.length t) g):wpAny `d A (call (.builtin "len") [.ref a]) Q E s:=by obtain⟨z,j,l,f,i⟩:=rF I.hok e;refine call_len_dict j i (by rw[<-f.length];rw[sizeLine_eq]at z;lia) ?_;rw[<-f.length];exact h _ _<|I.tok _
end
def bBz(i:Expr):Prop:=∀b a,subscripted i false b a=operate [b,a] (getItem b a)
def aPf{T id}
  (m:typeLookup (.type T) "__getitem__" = pure (some<|.builtin id)) (p:bBz slice)
  (h:wpAny `f A (eval value env) (λo c=>wpAny `f A (eval slice env) (λi a=>a.TypeIs o T/\wpAny `f A (getItem o i) Q E a) E c) E s) :
  wpAny `f A (eval (.Subscript value slice pos) env) Q E s:=by
 refine Subscript_<|wpAny_mono h (λo c g=>wpAny_mono g (λi a b=>?_) λ_ _ x=>x) λ_ _ x=>x;obtain⟨l,b⟩:=b;refine wpAny_bind ?_;refine wpAny_bind<|wpAny_specialOf l m ?_;have f:wpAny `f A (subscripted slice false o i) (λr e=>wpAny `f A (letTemporaryGo value o r >>= λ_=>pure r) Q E e) E a:=by rw[p o i];exact wpAny_operating<|wpAny_mono b (λr e j=>wpAny_bind<|wpAny_letTemporaryGo<|wpAny_pure j) λ_ _ x=>x
 first
  |exact wpAny_pure (wpAny_bind f)
  |exact wpAny_bind (wpAny_pure<|wpAny_bind f)
  |exact wpAny_bind f
def h_(I:Inv X Aa f H s)(g:DGet H a y o):s.TypeIs `i "dict":=by obtain⟨c,k,e,_,_⟩:=g;obtain⟨_,_,h,_,b⟩:=rF I.hok e;exact b.typeIs
def bDv(f ty:TE):TE:=λc H Q=>f c H λx e=>ty c e λy b=>∃a v,x=.ref a/\DGet b a y (some v)/\Q v b
def bDu(ty f:TE):TE:=λc H Q=>ty c H λy e=>f c e λx b=>∃a o,x=.ref a/\DGet b a y o/\Q (.bl o.isSome) b
def aTh(h ty i:TE):TS:=λD b H=>i b H λv e=>h b e λx f=>ty b f λy g=>∃a c,x=.ref a/\DPut g a y v c/\D.nx b c
section
variable{X:Cx}{o i e b:Expr}{f c m:Pos}{j ty l:TE}
def aPz(L:X.A.units+1<cLine)(G:PE X o j)(F:PE X i ty)(J:bBz i):PE X (.Subscript o i f)<|bDv j ty:=by intro q s t H Q I h;refine aPf PySem.F.slot_dict_getitem.lookup J<|dR (G q s t H _ I h) λu S z=>?_;obtain⟨x,B,D,O,M⟩:=z;refine dR (F q S t B _ D M) λT U A=>?_;obtain⟨y,C,r,R,a,v,ex,g,N⟩:=A;subst ex;obtain rfl:u=Value.ref a:=O;exact#[h_ r g,aFz L r g R λY W E p=>#[v,C,E,p,N]]
def aKf(F:X.A.units+1<cLine)(D:PE X i ty)(E:PE X o j):PC X .In i o<|bDu ty j:=by intro p s q H Q I h;refine dR (D p s q H _ I h) λR O r=>?_;obtain⟨y,v,A,N,J⟩:=r;refine dR (E p O q v _ A J) λu S t=>?_;obtain⟨x,z,B,M,a,G,ex,g,L⟩:=t;subst ex;obtain rfl:u=Value.ref a:=M;exact bLu F B g N λT C=>#[.bl G.isSome,z,C,rfl,L]
def aPo(Q:X.A.units+1<cLine)(N:PE X o j)(M:PE X i ty)(hv:PE X b l)(O:swapsWith b (some<|.Subscript o i c) f.line X.env=pure false) :
  PS X (.Assign [.Subscript o i c] b f) (aTh j ty l):=by
 intro q s p H D I h;refine wpAny_Assign_Subscript (dR (hv q s p H _ I h) λr Z t=>?_) O;obtain⟨v,A,E,U,R⟩:=t;refine dR (N q Z p A _ E R) λu d z=>?_;obtain⟨x,B,F,W,S⟩:=z;refine dR (M q d p B _ F S) λn V L=>?_;obtain⟨y,k,G,Y,a,C,ex,g,T⟩:=L;subst ex;obtain rfl:u=Value.ref a:=W;exact aFy Q G g Y U λs4 J=>#[p,C,J,T]
end
def aMz(h:Heap)(a:sysModules<h.objs.size):ObjOk P w H (h.push { cls:=.type "dict",data:=.dict [].toArray }) h.objs.size<|.dK []:=
 #[bM _,beq_eq_false_iff_ne.mpr<|Ne.symm<|bF a,[],.nil,Heap.DictOf.new h]
def aVn:TE:=λ_ H Q=>∀p,H p=none->Q (.ref p) (upd H p<|.dK [])
section
variable{X:Cx}{a:Pos}
def aJy:PE X (.Dict [] [] a) aVn:=λb s c H Q I h =>
 wpAny_Dict_empty #[.ref s.heap.objs.size,_,I.laid (t':=s.toks) (λ_ _ q=>aD _ q) (aO _)<|aMz s.heap I.big,rfl,h _<|I.hok.fresh<|aO _]
end
structure M1(X:Cx)(o:Expr)(m:Str)(apos:Pos)(e:Expr)(cpos:Pos):Prop where
 base:attributeBase o m X.env (eval o X.env)=eval o X.env
 few:((backTo cpos (starEach [e] X.env)).all (λx=>!x.1)&&(backToKw cpos (keywordEach [] X.env)).all (λx=>x.1.isSome)
  && decide (([e]:T6).length+([]:List Keyword).length+(if([]:List Keyword).isEmpty then 0 else 1)<30))=true
 line:(apos.endLine == cpos.line)=true
 trees:backTo cpos (starEach [e] X.env)=[(false,eval e X.env)]
def IsD(H:Hp)(a:Addr):Prop:=∃b,Rd H a<|.dK b
def bAk(I:Inv X Aa j H s)(d:IsD H a) :
  s.TypeIs `i "dict" /\ (∀b,Value.ref a=.ref b->∃ob,s.heap.get? b=some ob/\ob.dict=none)/\(a == sysModules)=false:=by
 obtain⟨i,e⟩:=d;obtain⟨_,h,l,_,c⟩:=rF I.hok e;refine#[c.typeIs,λb q=>?_,h];cases q;obtain⟨ob,_,_,f,g,_⟩:=c;exact#[ob,f,g.2.1]
section
variable{X:Cx}{c:gM}{b:St}{H:Hp}{s:Shared}{a:Addr}{y d:V}{u r:Value}{o:T5}{A:Around}{E:hX}
def bBg(B:A.units+1<cLine)(I:Inv X c b H s)(g:DGet H a y o)(v:RelV y u)(h:∀m j,Inv X c b H j->RelV (o.getD .non) m->Q m j) :
  wpAny `d A (call (.builtin "dict.get") [.ref a,u]) Q E s:=by
 obtain⟨t,k,e,p,l⟩:=g;subst p;obtain⟨z,q,C,f,i⟩:=rF I.hok e;refine call_meetsIn PySem.F.slot_dict_get i.typeIs PySem.F.entry_dict_get (PySem.F.args_dict_get_2 _ _) (meets_dict_get (dX X.prog X.w) a (d4 v) q) #[_,i.mapOf,h _ _ (I.tok _) ?_];rw[l];exact(f.val k).getD rfl
end
def aVo(f ty:TE):TE:=λe H Q=>f e H λx b=>∃a,x=.ref a/\IsD b a/\ty e b λy c=>∃o,DGet c a y o/\Q (o.getD .non) c
section
variable{X:Cx}{o e f:Expr}{c b:Pos}{i ty j:TE}
def aJz(E:X.A.units+1<cLine)(D:PE X o i)(C:PE X e ty)(m:M1 X o "get" c e b):PE X (.Call (.Attribute o "get" c) [e] [] b)<|aVo i ty:=by intro q s t H Q I h;refine wpAny_Call_method m.base m.few m.line PySem.F.plainAttrs_dict PySem.F.slot_dict_get PySem.F.type_dict_get<|dR (D q s t H _ I h) λu M l=>?_;obtain⟨x,v,r,J,a,ex,d,F⟩:=l;subst ex;obtain rfl:u=Value.ref a:=J;obtain⟨N,O,_⟩:=bAk r d;refine#[N,O,?_];rw[m.trees];refine Calls.callWith_builtin rfl<|Calls.evalArgs_plain<|Calls.spliced_cons<|dR (C q M t v _ r F) λR T l=>?_;obtain⟨y,z,A,L,S,g,G⟩:=l;refine Calls.spliced_nil ?_;exact bBg E A g L λW U B p=>#[_,z,B,p,G]
end
def mU:bootBuiltins "all" = some (.builtin "all"):=by decide +kernel
def aAq:∀{bs:List Bool} {us},Vals (bs.map V.bl) us->us=bs.map Value.bool
 | [],_,h=>by cases h;rfl
 |b::bs,_,h=>by
  cases h with
  |cons a rb => cases a;rw[aAq rb];rfl
def aEp:∀(bs:List Bool),(List.range bs.length).all (λi=>bs[i]?.getD false)=bs.all id:=by intro bs;rw[fV,List.all_eq_true,List.all_eq_true];constructor;intro h b e;obtain⟨i,a,rfl⟩:=List.getElem_of_mem e;have:=h i<|cR.mpr a;rw[aG a]at this;exact this;intro h i a;have c:=cR.mp a;rw[aG c];exact h _<|List.getElem_mem c
section
variable{X:Cx}
def aJf(K:dN):S3->Hp->VK->Prop:=λa H Q=>∃(p:Addr) (bs:List Bool),a=[.ref p]/\SqL K H p (bs.map V.bl)/\Q (.bl<|bs.all id) H
def aGk(t:X.calm=true):CallR X (.builtin "all")<|aJf X.K:=by
 intro G s R H O N Q I r h;obtain⟨p,bs,rfl,B,q⟩:=h;obtain⟨u,rfl,E⟩:=jN r;cases E;obtain⟨C,D,f,M⟩:=I.list B;have z:=aAq D;subst z;have y:X.A.in1.handled=none:=I.ok.hd t;have lt:p<s.heap.objs.size:=by obtain⟨_,e,_⟩:=f.isList;exact aS e
 refine call_all_walk<|wpAny_pyIter_list f.isList #[_,_,_,_,_,_,λi=>bs[i]?.getD false,rfl,Walks.list y s.heap.objs.size p (bF lt) (bs.map Value.bool).toArray,#[#[_,aW _ rfl,rfl,rfl],?_],?_,λL tk A=>?_];obtain ⟨o,e,r⟩:=f.isList;exact#[o,aD _ e,r];intro i v F l J hv m;have a:(bs.map Value.bool)[i]? = some v:=by simpa using hv
 rw[bK]at a;cases c:bs[i]? with
 |none=>rw[c]at a;cases a
 |some b => rw[c]at a;cases a;have g:l (bs[i]?.getD false) F:=m;rw[c]at g;exact wpAny_truthy_bool g
 have j:=fun b o e=>A b o (by simp; exact bF<|aS e)<|aD _ e;refine#[.bl _,H,I.kept j,?_,q];show Value.bool _=Value.bool _;rw[aR,aA,aEp]
end
def Its(x:Str):It:=#[λi H=>i<x.cps.size,λi H v a=>a=H/\∃c,x.cps[i]? = some c/\v=.str #[[c].toArray],λi H=>x.cps.size<=i]
def aEf{P}{w}{K}{tg}(x:Str)(t:Tok)(it:Addr):Turn P w K tg (Its x) [it] it (λi h=>h.IsStrIter it "str_ascii_iterator" x t i)where
 mem:=by simp
 obj:=λi h a b f=>by
  have e:b=it:=by simpa using f
  subst e;obtain⟨o,e,c,d⟩:=a;exact#[o,e,λv z=>by rw[d]at z;cases z]
 keep:=λi h B a k=>let ⟨o,ho,r⟩:=a;#[o,k it `g o ho,r]
 item:=by intro X M N L C i D s Q H E I j a y;obtain⟨l,m,J,p,q,u⟩:=j it `g;have A:i<x.cps.size:=y;refine wpAny_pyNext_ascii_item a (c:=x.cps[i]) (by simp[A]) λB g O=>?_;have F:=I.turned (t':=s.toks+1) (λb o f e=>(O.2 b f).trans e) l m p q u;obtain⟨o,e,c,d⟩:=id g;exact#[_,rfl,uF e c d rfl #[.str #[[x.cps[i]].toArray],H,F,`r,#[rfl,_,by simp[A],rfl],g,λb f=>(j b f).1]]
 done:=by intro X M N L C i D s Q H E I j a y;obtain⟨l,m,J,p,q,u⟩:=j it `g;exact wpAny_pyNext_ascii_end (I.ok.hd C) a (Array.getElem?_eq_none y) λB G=>#[rfl,I.turned (t':=s.toks) (λb o f e=>G b o f e) l m p q u]
 self:=λ_ _ _ _ _ a h=>wpAny_pyIter_striter_ascii a h
def aEe{P}{w}{K}{tg}(x:Str)(t:Tok)(it:Addr):Turn P w K tg (Its x) [it] it (λi h=>h.IsStrIter it "str_iterator" x t i)where
 mem:=by simp
 obj:=λi h a b f=>by
  have e:b=it:=by simpa using f
  subst e;obtain⟨o,e,c,d⟩:=a;exact#[o,e,λv z=>by rw[d]at z;cases z]
 keep:=λi h B a k=>let ⟨o,ho,r⟩:=a;#[o,k it `g o ho,r]
 item:=by intro X M N L C i D s Q H E I j a y;obtain⟨l,m,J,p,q,u⟩:=j it `g;have A:i<x.cps.size:=y;refine wpAny_pyNext_wide_item a (c:=x.cps[i]) (by simp[A]) λB g O=>?_;have F:=I.turned (t':=s.toks+1) (λb o f e=>(O.2 b f).trans e) l m p q u;obtain⟨o,e,c,d⟩:=id g;exact#[_,rfl,uF e c d rfl #[.str #[[x.cps[i]].toArray],H,F,`r,#[rfl,_,by simp[A],rfl],g,λb f=>(j b f).1]]
 done:=by intro X M N L C i D s Q H E I j a y;obtain⟨l,m,J,p,q,u⟩:=j it `g;exact wpAny_pyNext_wide_end (I.ok.hd C) a (Array.getElem?_eq_none y) λB G=>#[rfl,I.turned (t':=s.toks) (λb o f e=>G b o f e) l m p q u]
 self:=λ_ _ _ _ _ a h=>wpAny_pyIter_striter_wide a h
def bKz(b:TE):TI:=λc H R=>b c H λv a=>∃x,v=.str x/\R (Its x) a
def aWo(z:PE X l tl):PI X tg l<|bKz tl:=by
 intro i s m H R I h;refine dR (z i s m H _ I h) λv a p=>?_;obtain⟨y,r,g,B,A⟩:=p;obtain⟨x,e,q⟩:=A;subst e;obtain⟨t,rfl⟩:=B;have c:∀(o:Obj) (f:Nat->Heap->Prop),Turn X.prog X.w X.K tg (Its x) [a.heap.objs.size] a.heap.objs.size f->f 0 (a.heap.push o)->PIE X i m tg R (.ref a.heap.objs.size) { a with heap:=a.heap.push o }:=λo f T C=>by
  refine#[a.heap.objs.size,[a.heap.objs.size],f,_,r,rfl,g.kept (t':=a.toks) λb o e=>aD _ e,T,C,λb u=>?_,q];have e:b=a.heap.objs.size:=by simpa using u
  subst e;exact g.fpOk (aO _)<|g.hok.fresh<|aO _
 cases j:x.cps.all (· < 128);exact wpAny_pyIter_wide j<|c _ _ (aEe x t _) #[_,aW _ rfl,rfl,rfl];exact wpAny_pyIter_ascii j<|c _ _ (aEf x t _) #[_,aW _ rfl,rfl,rfl]
def aLg:∀i,i<26->("abcdefghijklmnopqrstuvwxyz" : Str).cps.extract i (i+1) = [97+i].toArray:=by decide +kernel
def aLf:∀j,j<26->(!(Builtin.Str.occurrences ("abcdefghijklmnopqrstuvwxyz" : Str) #[[97+j].toArray] 0 ("abcdefghijklmnopqrstuvwxyz" : Str).length 1).isEmpty)=true:=by decide +kernel
def in_lets(c:Nat):(!(Builtin.Str.occurrences ("abcdefghijklmnopqrstuvwxyz" : Str) #[[c].toArray] 0 ("abcdefghijklmnopqrstuvwxyz" : Str).length 1).isEmpty)=(decide (97<=c)&&decide (c<=122)):=by
 by_cases h:97<=c/\c<=122;have e:c=97 + (c - 97):=by lia
 rw[dzT h.1,dzT h.2,e];exact aLf _ `a;have z:(decide (97≤c) && decide (c≤122))=false:=by grind
 rw[z,PySem.W.occ_nil_of_no];rfl;intro i b;have a:i<26:=by exact Nat.lt_of_succ_le b
 show(("abcdefghijklmnopqrstuvwxyz" : Str).cps.extract i (i+1) == [c].toArray)=false;rw[aLg i a];have:97+i≠c:=by lia
 simpa using this
def Ite(K:dN)(a:Addr):It:=
  #[fun i H => ∃ b x,SqL K H a b∧b[i]? = some x,
   λi H v c=>∃p x,v=.ref p/\H p=none/\c=upd H p (.tup [.int (i:Int),x])/\∀b,SqL K H a b->b[i]? = some x,
   λi H=>∃b,SqL K H a b/\b.length<=i]
def aEi{P}{w}{K}{es}{D}{tpos}{a e it}(L:e≠it) :
  Turn P w K (.Tuple es D tpos) (Ite K a) [e,it] e (λi h=>(∃b,IsEnum h e it (i:Int) b)/\h.IsListIter it a i)where
 mem:=aB
 obj:=λi h j c Q=>by
  obtain⟨⟨b,g⟩,m⟩:=j;simp only[aE,bG,or_false]at Q;rcases Q with rfl | rfl
  exact#[_,g,λv e=>nomatch e];obtain⟨o,e,_,d⟩:=m;exact#[o,e,λv z=>by rw[d]at z;cases z]
 keep:=λi h O j k=>by obtain⟨⟨b,g⟩,o,a,r⟩:=j;exact#[#[b,k e aB _ g],#[o,k it (List.mem_of_getLast? rfl) o a,r]]
 item:=by
  intro X y C u f i J s R H E I q j A;subst y C u;obtain⟨xs,x,t,N⟩:=A;obtain⟨p,G,F,z1⟩:=I.list t;obtain⟨u1,W,U⟩:=G.get N;obtain⟨⟨b,g⟩,m⟩:=j;have lt:∀{c o},s.heap.get? c=some o->s.heap.objs.size≠c:=λe=>fY<|aS e;refine wpAny_pyNext_enum_item g m F.isList (x:=u1) (by simpa using W) L λO Y Z n a4 B=>?_;refine#[_,rfl,wpAny_letOwnedTupleGo_enum Y λM V b2=>?_];have l:=b2;have D:∀c o,c∉[e,it]->s.heap.get? c=some o->M.get? c=some o:=λc o f e=>by simp only[aE,bG,or_false,not_or]at f;exact l.extBut _ _ f.1<|B c o f.1 f.2 e
  have tT:=l.extBut _ _ (lt g) n;have nT:=I.hok.fresh<|aO _;have T:Inv X J R (upd H s.heap.objs.size<|.tup [.int (i:Int),x]) { s with heap:=M,toks:=s.toks+1 }:=I.turnedT (t':=s.toks+1) q D (aO _) (.cons `r (.cons U .nil)) (by show 2<=sizeLine;decide) #[_,tT,rfl,_,rfl];obtain⟨o2,S,r2⟩:=Z;refine#[.ref s.heap.objs.size,upd H s.heap.objs.size<|.tup [.int (i:Int),x],T,rfl,#[_,x,rfl,nT,rfl,λa0 w1=>by rw[I.list_inj w1 t];exact N],#[#[_,V],#[o2,l.extBut _ _ (Ne.symm L) S,r2]],λc f=>?_];obtain⟨o,eo⟩:∃o,s.heap.get? c=some o:=by
   simp only[aE,bG,or_false]at f;rcases f with rfl | rfl
   exact#[_,g];obtain⟨o,e,_⟩:=m;exact#[o,e]
  rw[dZ<|Ne.symm<|lt eo];exact(q c f).1
 done:=by intro X y C u f i J s R H E I q j A;subst y C u;obtain⟨xs,t,e⟩:=A;obtain⟨p,G,F,z1⟩:=I.list t;obtain⟨⟨b,g⟩,m⟩:=j;have l1:=G.length;refine wpAny_pyNext_enum_end (I.ok.hd f) g m F.isList (by simp;exact le_of_eq_of_le (id<|Eq.symm l1) e) λO B=>#[rfl,I.turnedL (t':=s.toks) q λc o f e=>?_];simp only[aE,bG,or_false,not_or]at f;exact B c o f.2 e
 self:=λ_ _ _ _ _ j h=>by obtain⟨⟨b,g⟩,_⟩:=j;exact wpAny_pyIter_enum g h
def yJ:bootBuiltins "enumerate" = some (.type "enumerate"):=by decide +kernel
def bFv(K:dN)(c:TA):TI:=λg H R=>c g H λe b=>∃a,e=[.ref a]/\(∃f,SqL K b a f)/\R (Ite K a) b
def aPv(r:Gl X "enumerate")(y:X.mg "enumerate" = none)(ha:PA X [ea] ta)(z:starEach [ea] X.env=[(false,eval ea X.env)]:=by rfl) :
  PI X (.Tuple es kk tpos) (.Call (.Name "enumerate" p) [ea] [] pos) (bFv X.K ta):=by
 intro l s G H R I h;refine Call_<|gp_ I r y yJ<|cN (dR (ha pos l s G H _ I h) λN j m=>?_) z rfl;obtain⟨O,o,b,D,C⟩:=m;obtain⟨a,e,⟨Q,F⟩,q⟩:=C;subst e;obtain⟨u,rfl,E⟩:=jN D;cases E;obtain⟨i,M,B,S⟩:=b.list F;refine call_enumerate_list B.isList λJ g t A v=>wpAny_pyIter_enum g ?_;refine#[_,_,_,_,o,rfl,b.kept (t':=j.toks) v,aEi (a:=a)<|Nat.succ_ne_self _,#[#[_,g],t],λc L=>?_,q];have f:j.heap.objs.size<=c:=by grind
 exact b.fpOk f<|b.hok.fresh f
section
variable{X:Cx}
def bEc(K:dN):V->Hp->VK->Prop:=λx H Q=>∃a b,x=.ref a/\SqL K H a b/\∀p,H p=none->Q (.ref p) (upd H p<|.lst b.reverse)
def bDn(K:dN)(b:TE):TE:=λc H Q=>b c H λx a=>bEc K x a Q
def aPw(D:PE X e te):PE X (.Subscript e (.Slice none none (some<|.UnaryOp .USub (.Constant (.int 1) k p1) p2) p3) pos)<|bDn X.K te:=by intro f s l H Q I h;refine Subscript_<|dR (D f s l H _ I h) λv M g=>?_;obtain⟨x,m,z,J,G⟩:=g;obtain⟨a,R,rfl,E,q⟩:=G;cases J;refine wpAny_Slice ?_;refine wpAny_pure<|wpAny_pure ?_;refine dR ((aTr aIe kp_:PE X (.UnaryOp .USub (.Constant (.int 1) k p1) p2) _) f M l m (λx p=>x=.int (-1)/\p=m) z #[_,rfl,rfl,rfl]) λO c g=>?_;obtain⟨y,u,A,L,B,C⟩:=g;subst B C;obtain⟨t,rfl⟩:=L;have i:Inv X f l u { c with heap:=c.heap.push { cls:=.type "slice",data:=.fields [.none,.none,.int (-1) t].toArray } }:=A.kept (t':=c.toks) λb ob q=>aD _ q;obtain⟨j,r,o,F⟩:=i.list E;have N:=r.length;refine tail_any o.isList.typeIs slot_list_getitem.lookup ?_ (by with_unfolding_all rfl);refine wpAny_getItem_list_slice o.isList (Heap.IsSliceOf.new ..) .none .none (.int _ _) `g ?_ (by rw[aR]<;>lia);rw[PySem.W.krv_pick];refine#[.ref _,_,i.laid (t':=c.toks) (λb ob q=>aD _ q) (aO _) ?_,rfl,q _<|i.hok.fresh<|aO _];exact#[by rw[List.length_reverse];exact F,j.reverse,0,r.reverse,aW _ rfl]
end
abbrev nA(h:Heap)(z TI TO a:Addr)(b:Bool):Prop:=
 h.get? z=some { cls:=.type "zip",dict:=none,data:=.fields [rawInt a,.bool b,.bool false,.ref TI,.ref TO].toArray,slots:= [].toArray }
section
variable{prog:Program}{w:World}{A:Around}{E:hX}{s:Shared}
def rY{a}{Q}(h:Q (s.heap.get? a) s):wpAny `f A (loadIfAlive a) Q E s:=λ_ _ _=>h
def tO{z TI TO T0}{f1}{o0}{Q}(hz:nA s.heap z TI TO T0 f1)(e:s.heap.get? T0=some o0)
  (a:∀h',nA h' z TI TO T0 true->Heap.SameBut z s.heap h'->Q false { s with heap:=h' }):wpAny `f A (Builtin.SmallTypes.ownedTupleIsFree<|.ref z) Q E s:=by
 refine wpAny_bind<|wpAny_field hz rfl rfl ?_;refine wpAny_bind<|rY ?_;rw[gC,e];refine wpAny_bind<|wpAny_field hz rfl rfl ?_;cases f1 with
 |true => refine wpAny_pure (a s.heap hz #[rfl,λ_ _=>rfl])
 |false => exact wpAny_bind<|wpAny_setField_rec hz `g λh' c b=>wpAny_pure<|a h' c b
def aDu{t1 t2}{z TI TO T0 i1 i2 l1 l2}{f1}{o0}{k1 k2}{xs ys}{x y}{Q:hX}(D:ZipApart z TI TO i1 i2 l1 l2)
  (hz:nA s.heap z TI TO T0 f1) (C:s.heap.get? T0=some o0) (t:IsPair s.heap TI (.ref i1)<|.ref i2)
  (F:SIter t1 s.heap i1 l1 k1) (G:SIter t2 s.heap i2 l2 k2) (r:SSeq t1 s.heap l1 xs) (q:SSeq t2 s.heap l2 ys) (I:xs[k1]? = some x) (J:ys[k2]? = some y)
  (H:∀ h',nA h' z TI TO T0 true→SIter t1 h' i1 l1 (k1 + 1)→SIter t2 h' i2 l2 (k2 + 1)→IsPair h' s.heap.objs.size x y→h'.objs.size=s.heap.objs.size + 1 →
   (∀c o,c≠z->c≠i1->c≠i2->s.heap.get? c=some o->h'.get? c=some o)->Q `m { s with heap:=h' }) :
  wpAny `f A (Builtin.«zip.__next__» #[[.ref z],[]]) (λm M=>∃v,m=.done (.ret v)/\Q v M) E s:=by
 show wpAny _ _ (field (.ref z) 2 >>= _) _ _ _;refine wpAny_bind<|wpAny_field hz rfl (x:=.bool false) rfl ?_;show wpAny _ _ (field (.ref z) 3 >>= _) _ _ _;refine wpAny_bind<|wpAny_field hz rfl rfl ?_;refine wpAny_bind<|wpAny_seqItems t rfl ?_;show wpAny _ _ (Builtin.SmallTypes.ownedTupleIsFree (.ref z) >>= _) _ _ _;refine wpAny_bind<|tO hz C λR N a=>?_;refine wpAny_bind ?_;refine wpAny_bind<|wpAny_bind<|wpAny_holding ?_;refine wpAny_bind<|hs_ (F.to λo e=>a.extBut _ _ D.i1z e) (r.to λo e=>a.extBut _ _ D.l1z e) I λS u f=>wpAny_pure ?_;refine wpAny_pure ?_;refine wpAny_bind<|wpAny_bind<|wpAny_holding ?_;refine wpAny_bind<|hs_ (G.to λo e=>f.extBut _ _ D.i12.symm<|a.extBut _ _ D.i2z e) (q.to λo e=>f.extBut _ _ D.l2i1<|a.extBut _ _ D.l2z e) J λg B h=>wpAny_pure ?_;refine wpAny_pure<|wpAny_pure ?_;show wpAny _ _ (newTuple [x,y] >>= _) _ _ _;refine wpAny_bind<|wpAny_newTuple ?_;have b:g.objs.size=s.heap.objs.size:=by rw[h.1,f.1,a.1]
 refine wpAny_pure #[_,rfl,?_];have L:∀c o,c≠z->c≠i1->c≠i2->s.heap.get? c=some o->g.get? c=some o:=λc o i j l e=>h.extBut _ _ l<|f.extBut _ _ j<|a.extBut _ _ i e;have O:=h.extBut _ _ D.i2z.symm<|f.extBut _ _ D.i1z.symm N;have p:IsPair (g.push { cls:=.type "tuple",data:=.seq [x,y].toArray }) g.objs.size x y:=aW _ rfl;rw[b]at p ⊢;exact H _ (aD _ O) (u.to λo e=>aD _<|h.extBut _ _ D.i12 e) (B.to λo e=>aD _ e) p (by rw[cJ,b]) λc o i j l e=>aD _<|L c o i j l e
def aGx{t1 t2:Bool}{z TI TO T0 i1 i2 l1 l2}{f1}{o0}{k1 k2:Nat}{xs ys:T8}{Q}(q:A.handled=none)(D:ZipApart z TI TO i1 i2 l1 l2)
  (hz:nA s.heap z TI TO T0 f1) (j:s.heap.get? T0=some o0) (f:IsPair s.heap TI (.ref i1)<|.ref i2)
  (l:SIter t1 s.heap i1 l1 k1) (b:SSeq t1 s.heap l1 xs) (g:xs[k1]? = none)
  (m:∀h' e,(∀c o,c≠z->c≠i1->s.heap.get? c=some o->h'.get? c=some o)->(∃o,h'.get? e=some o/\o.cls=.type "StopIteration")->E (.ref e) { s with heap:=h' }) :
  wpAny `f A (Builtin.«zip.__next__» #[[.ref z],[]]) Q E s:=by
 show wpAny _ _ (field (.ref z) 2 >>= _) _ _ _;refine wpAny_bind<|wpAny_field hz rfl (x:=.bool false) rfl ?_;show wpAny _ _ (field (.ref z) 3 >>= _) _ _ _;refine wpAny_bind<|wpAny_field hz rfl rfl ?_;refine wpAny_bind<|wpAny_seqItems f rfl ?_;show wpAny _ _ (Builtin.SmallTypes.ownedTupleIsFree (.ref z) >>= _) _ _ _;refine wpAny_bind<|tO hz j λu v a=>?_;refine wpAny_bind ?_;refine wpAny_bind<|wpAny_bind<|wpAny_holding ?_;exact wpAny_bind<|kv_ q (l.to λo e=>a.extBut _ _ D.i1z e) (b.to λo e=>a.extBut _ _ D.l1z e) g λr e t p=>m r e (λc o h i x=>t _ _ i<|a.extBut _ _ h x) p
end
def ZDrawn(N:Nat)(xs ys a:T8)(h:Heap)(i:Nat):Prop:=a.size=i/\∀j,j<i->∃T x y,a[j]? = some (.ref T)/\xs[j]? = some x/\ys[j]? = some y/\IsPair h T x y/\N<=T
def ZDrawn.keep(d:ZDrawn N xs ys f h i)(g:M<=N)(k:∀b o,N<=b->h.get? b=some o->h'.get? b=some o):ZDrawn M xs ys f h' i:=
 #[d.1,λj l=>by obtain⟨T,x,y,a,b,c,e,n⟩:=d.2 j l;exact#[T,x,y,a,b,c,k T _ n e,nzL g n]]
section
variable{prog:Program}{w:World}{A:Around}{R:Result->Shared->Prop}
end
def l_:typeLookup (.type "zip") "__len__" = pure none:=by rw[typeLookup_type,builtinLookup_eq_fast];kernel_rfl
def yN:typeLookup (.type "zip") "__length_hint__" = pure none:=by rw[typeLookup_type,builtinLookup_eq_fast];kernel_rfl
section
variable{prog:Program}{w:World}{A:Around}{R:Result->Shared->Prop}
section
variable{prog:Program}{w:World}{A:Around}{R:Result->Shared->Prop}{z S:Addr}{xs ys:T8}{N n:Nat}{St:Nat->Heap->Prop}{wr:Addr->Prop}{res:Value}
def f9(step:∀{i s} {E:hX} {Q:Option Value->Shared->Prop},i<n->N<=s.heap.objs.size->St i s.heap->(∀h' x y,St (i+1) h'->xs[i]? = some x->ys[i]? = some y->IsPair h' s.heap.objs.size x y->h'.objs.size=s.heap.objs.size+1->(∀b o,¬wr b->s.heap.get? b=some o->h'.get? b=some o)->Q (some `m) { s with heap:=h' })->wpAny `f A.in1 (pyNext<|.ref z) Q E s)
  (t:∀{s} {E:hX} {Q:Option Value->Shared->Prop},St n s.heap->(∀h',(∀b o,¬wr b->s.heap.get? b=some o->h'.get? b=some o)->Q none { s with heap:=h' })->wpAny `f A.in1 (pyNext<|.ref z) Q E s)
  (keep:∀{i h h'},St i h->(∀b o,b≠S->h.get? b=some o->h'.get? b=some o)->St i h') (J:¬wr S) (u:∀b,N<=b->¬wr b/\b≠S) (hn:n<=sizeLine) :
  ∀(k i:Nat) (s:Shared) (p:T8) (c:Nat),n-i=k->i<=n->N<=s.heap.objs.size->St i s.heap->s.heap.get? S=some { cls:=.type "list",dict:=none,data:=.seq p c,slots:= [].toArray }->ZDrawn N xs ys p s.heap i ->
  (∀h' acc' M,(∀b o,¬wr b->b≠S->s.heap.get? b=some o->h'.get? b=some o)->h'.get? S=some { cls:=.type "list",dict:=none,data:=.seq acc' M,slots:= [].toArray }->ZDrawn N xs ys acc' h' n->R (.ok<|.ret res) { s with heap:=h' }) ->
  codeAny `f A (.builtin "list.extend.loop" #[[.ref S,.ref z,res],[]]) R s:=by
 intro k
 induction k with
 |zero =>
  intro i s p c Y X v D e l B;obtain rfl:i=n:=by lia
  refine codeAny_builtin F.entry_extend_loop ?_;rw[Around.under_plainId F.plain_extend_loop _];exact wpAny_bind (t D λh' k=>wpAny_pure<|B h' p c (λb o r _=>k b o r) (k S _ J e)<|l.keep (aO _) λb o r=>k b o (u b r).1)
 |succ k ih =>
  intro i s p c Y X v D e l B;refine codeAny_builtin F.entry_extend_loop ?_;rw[Around.under_plainId F.plain_extend_loop _];refine wpAny_bind<|step `a v D λh' x y G d V Z hz C=>?_;have I:=C S _ J e;have g:∀b o,b≠S->h'.get? b=some o->(h'.update S (Obj.mapSeq (·.push `m))).get? b=some o:=λb o W e=>(bC _ _<|Ne.symm W).trans e;refine wpAny_bind (wpAny_updateSeq I rfl (wpAny_pure #[plainId_quiet F.plain_extend_loop _,ih (i+1) _ (p.push `m) _ `a `a ?_ (keep G g) (cF _ I rfl) #[by rw[Array.size_push,l.1],λj hj=>?_] λU L O k2=>B U L O λb o r H e=>k2 b o r H<|g b o H<|C b o r e])
   (by rw[l.1];lia) (by show(p.push _).size<=sizeLine+1;rw[Array.size_push,l.1];lia))
  show N≤(h'.update S _).objs.size;rw[(Heap.SameBut.update ..).1,hz];lia;by_cases q:j=i;subst q;exact#[_,x,y,by rw[Array.getElem?_push,if_pos l.1.symm],d,V,g _ _ (u _ v).2 Z,v];obtain ⟨T,x,y,a,b,c,f,m⟩:=l.2 j `a;exact#[T,x,y,by rw[Array.getElem?_push,if_neg (by rw[l.1];exact q)];exact a,b,c,g _ _ (u _ m).2<|C _ _ (u _ m).1 f,m]
def v7{t1 t2:Bool}{TI TO g l C F:Addr}{u v:Value}(hh:A.in1.handled=none)(D:ZipApart z TI TO g l C F)(hS:∀b∈[z,g,l,TI,TO,C,F],b≠S/\b<N)(b0:S<N)(Qr:xs.size=n)(Qp:ys.size=n)(hn:n<=sizeLine){s:Shared}{c:Nat}(hN:N<=s.heap.objs.size)(hz:IsZip s.heap z TI TO .none)(p:IsPair s.heap TI (.ref g)<|.ref l)(H:IsPair s.heap TO u v)(t:SIter t1 s.heap g C 0)(B:SIter t2 s.heap l F 0)(m:SSeq t1 s.heap C xs)(r:SSeq t2 s.heap F ys)
  (e:s.heap.get? S=some { cls:=.type "list",dict:=none,data:=.seq [].toArray c,slots:= [].toArray })
  (hR:∀h' acc' c',(∀b o,¬b∈[z,TO,g,l]->b≠S->s.heap.get? b=some o->h'.get? b=some o)->h'.get? S=some { cls:=.type "list",dict:=none,data:=.seq acc' c',slots:= [].toArray }->ZDrawn N xs ys acc' h' n->R (.ok<|.ret res) { s with heap:=h' }) :
  codeAny `f A (.builtin "list.extend.loop" #[[.ref S,.ref z,res],[]]) R s:=by
 simp only[List.forall_mem_cons]at hS;obtain⟨sz,s1,s2,sI,sO,a0,Dp,_⟩:=hS;refine f9 (St:=λi h=>(if i=0 then IsZip h z TI TO .none/\IsPair h TO u v else ∃T f o,nA h z TI TO T f/\h.get? T=some o/\N<=T)/\IsPair h TI (.ref g) (.ref l)/\SIter t1 h g C i/\SIter t2 h l F i/\SSeq t1 h C xs/\SSeq t2 h F ys)
  (wr:=(· ∈ [z,TO,g,l])) ?_ ?_ ?_ (by simp only[aE,bG,or_false];rintro(q | q | q | q)<;>subst q<;>lia) (λb a=>by simp only[aE,bG,or_false];exact#[by rintro(q | q | q | q)<;>subst q<;>lia,by lia]) hn n 0 s [].toArray c rfl (bM _) hN #[#[hz,H],p,t,B,m,r] e #[rfl,λj hj=>absurd hj<|Nat.not_lt_zero _] hR
 intro i s E Q hi hs ⟨y,p,t,B,m,r⟩ I;have M:∀{h':Heap},(∀b o,¬b∈[z,TO,g,l]->s.heap.get? b=some o->h'.get? b=some o)->IsPair h' TI (.ref g) (.ref l)/\SSeq t1 h' C xs/\SSeq t2 h' F ys:=λk => #[k _ _ (by simp[D.TIz,D.TITO,D.TIi1,D.TIi2]) p,m.to λo e=>k _ o (by simp[D.l1z,D.l1TO,D.l1i1,D.l1i2]) e,r.to λo e=>k _ o (by simp[D.l2z,D.l2TO,D.l2i1,D.l2i2]) e];have U:=Array.getElem?_eq_getElem (xs:=xs) (i:=i) `a;have W:=Array.getElem?_eq_getElem (xs:=ys) (i:=i) `a;cases i with
 |zero =>
  obtain⟨hz,H⟩:=y;refine fw_ #[_,hz,rfl]<|sS D hz p H t B m r U W λh' X a2 Y Z J d L=>?_;have k:∀b o,¬b∈[z,TO,g,l]->s.heap.get? b=some o->h'.get? b=some o:=λb o a=>by simp at a;exact L b o a.1 a.2.1 a.2.2.1 a.2.2.2
  exact I h' _ _ #[#[_,_,_,X,J,hs],(M k).1,Y,Z,(M k).2] U W J d k
 |succ i =>
  obtain⟨T,f,o,hz,G,O⟩:=y;refine fw_ #[_,hz,rfl]<|aDu D hz G p t B m r U W λh' X Y Z J d L=>?_;have k:∀b o,¬b∈[z,TO,g,l]->s.heap.get? b=some o->h'.get? b=some o:=λb o a=>by simp at a;exact L b o a.1 a.2.2.1 a.2.2.2
  exact I h' _ _ #[#[_,_,_,X,L _ _ `a `a `a G,O],(M k).1,Y,Z,(M k).2] U W J d k
 intro s E Q ⟨y,p,t,B,m,r⟩ I;cases n with
 |zero => obtain⟨hz,H⟩:=y;exact fw_ #[_,hz,rfl] (yP D hz p H t B m r hh (.inl<|by rw[Array.getElem?_eq_none `a]) λh' e V x=>#[x,I h' λb o a=>by simp at a;exact V b o a.1 a.2.1 a.2.2.1 a.2.2.2])
 |succ n => obtain⟨T,f,o,hz,G,O⟩:=y;exact fw_ #[_,hz,rfl] (aGx (t2:=t2) (k2:=0) (ys:=ys) hh D hz G p t m (by rw[Array.getElem?_eq_none `a]) λh' e V x=>#[x,I h' λb o a=>by simp at a;exact V b o a.1 a.2.2.1])
 intro i h h' ⟨y,p,t,B,m,r⟩ k;refine#[?_,k _ _ sI.1 p,t.to λo e=>k _ o s1.1 e,B.to λo e=>k _ o s2.1 e,m.to λo e=>k _ o a0.1 e,r.to λo e=>k _ o Dp.1 e];cases i with
 |zero=>exact#[k _ _ sz.1 y.1,k _ _ sO.1 y.2]
 |succ i=>obtain⟨T,f,o,hz,G,O⟩:=y;exact#[T,f,o,k _ _ sz.1 hz,k _ _ `a G,O]
end
end
section
variable{prog:Program}{w:World}{A:Around}{E:hX}{s:Shared}
def sL{t1 t2:Bool}{z TI TO B C M O:Addr}{xs ys:T8}{u v:Value}{N n:Nat}{Q:hX}(hh:A.handled=none)(D:ZipApart z TI TO B C M O)
  (d:xs.size=n) (Z:ys.size=n) (hn:n<=sizeLine) (hN:N<=s.heap.objs.size) (hz:IsZip s.heap z TI TO .none) (H:IsPair s.heap TI (.ref B)<|.ref C) (I:IsPair s.heap TO u v) (U:SIter t1 s.heap B M 0) (W:SIter t2 s.heap C O 0) (S:SSeq t1 s.heap M xs) (R:SSeq t2 s.heap O ys)
  (hQ:∀h' acc' L,(∀b o,b≠z->b≠TO->b≠B->b≠C->s.heap.get? b=some o->h'.get? b=some o)->h'.get? s.heap.objs.size=some { cls:=.type "list",dict:=none,data:=.seq acc' L,slots:= [].toArray }->ZDrawn N xs ys acc' h' n->Q `m { s with heap:=h' }) :
  wpAny `f A (call (.type "list") [.ref z]) Q E s:=by
 have lt:∀{b:Addr} {o:Obj},s.heap.get? b=some o->s.heap.objs.size≠b:=λe=>fY<|aS e;obtain⟨o1,e1,_⟩:=U.obj;obtain⟨o2,e2,_⟩:=W.obj;refine callType_codes (Q₁:=λobj i=>obj=.ref s.heap.objs.size/\i={ s with heap:=s.heap.push { cls:=.type "list",data:=.seq [].toArray } }) F.called_list (F.typeCall_list_1 _) F.entry_list_init
  (code_list_new _ #[rfl,rfl]) λobj i p=>?_
 obtain⟨rfl,rfl⟩:=p;have y:(s.heap.push { cls:=.type "list",data:=.seq [].toArray }).get? s.heap.objs.size=some { cls:=.type "list",data:=.seq [].toArray }:=aW _ rfl;refine#[#[_,y,rfl],F.args_list_init_2 _ _,?_];show wpAny _ _ (do let old <-Builtin.List.listItems (.ref s.heap.objs.size);Builtin.List.listUpdate `m (λ_=>[].toArray);letGo old.toList.reverse;Builtin.List.listExtendWith `m (.ref z) .none) _ _ _;refine wpAny_bind ?_;unfold Builtin.List.listItems;refine wpAny_bind<|wpAny_seqItems y rfl<|wpAny_pure ?_;show wpAny _ _ (updateSeq s.heap.objs.size (λ_=>[].toArray) >>= λ_=>letGo ([].toArray:T8).toList.reverse >>= λ_=>Builtin.List.listExtendWith `m (.ref z) .none) _ _ _;refine wpAny_bind<|wpAny_updateSeq y rfl ?_;have a:=cF (Obj.mapSeq<|λ_=>([].toArray:T8)) y rfl;refine wpAny_bind<|wpAny_letGo ?_;have G:∀b o,s.heap.objs.size≠b->s.heap.get? b=some o->((s.heap.push { cls:=.type "list",data:=.seq [].toArray }).update s.heap.objs.size<|Obj.mapSeq<|λ_=>([].toArray:T8)).get? b=some o:=λb o m e=>(bC _ _ m).trans<|aD _ e;have T:s.heap.objs.size<((s.heap.push { cls:=.type "list",data:=.seq [].toArray }).update s.heap.objs.size<|Obj.mapSeq<|λ_=>([].toArray:T8)).objs.size:=by rw[(Heap.SameBut.update ..).1,cJ];lia
 generalize hg:(s.heap.push { cls:=.type "list",data:=.seq [].toArray }).update s.heap.objs.size (Obj.mapSeq<|λ_=>([].toArray:T8))=g1 at a G T ⊢;have J:Shared.TypeIs { s with heap:=g1 } (.ref z) "zip":=#[_,G _ _ (lt hz) hz,rfl];unfold Builtin.List.listExtendWith;refine wpAny_bind<|wpAny_typeOf J ?_;have q1:Builtin.List.listSameRef `m (.ref z)=false:=by simp[Builtin.List.listSameRef,lt hz]
 have q2:(Value.type "zip" == Value.type "list")=false:=by decide
 have q3:(Value.type "zip" == Value.type "tuple")=false:=by decide
 simp only[q1,q2,q3,Bool.or_false,gS,if_false];refine wpAny_bind<|wpAny_pyIter_zip (G _ _ (lt hz) hz) ?_;refine wpAny_bind<|wpAny_holding ?_;unfold Builtin.List.listLengthHint;refine wpAny_bind<|wpAny_specialOf J l_ ?_;show wpAny _ _ (specialOf (Value.ref z) (Str.ofString "__length_hint__") >>= _) _ _ _;refine wpAny_bind<|wpAny_specialOf J yN ?_;refine wpAny_pure ?_;show wpAny _ _ (rule "list.extend.makes-room" >>= λ_=>Builtin.List.listTouch `m >>= λ_ => again<|.builtin "list.extend.loop" #[[.ref s.heap.objs.size,.ref z,.none],[]]) _ _ _;refine wpAny_bind<|wpAny_rule ?_;refine wpAny_bind ?_;show wpAny _ _ (updateSeq s.heap.objs.size (·.push .none) >>= λ_=>updateSeq s.heap.objs.size (·.pop)) _ _ _;refine wpAny_bind<|wpAny_updateSeq a rfl ?_;have c:=cF (Obj.mapSeq (·.push Value.none)) a rfl;refine wpAny_updateSeq (hz:=by seq_fits) c rfl ?_;have f:=cF (Obj.mapSeq (·.pop)) c rfl;have g:∀b o,s.heap.objs.size≠b->s.heap.get? b=some o->((g1.update s.heap.objs.size (Obj.mapSeq (·.push Value.none))).update s.heap.objs.size (Obj.mapSeq (·.pop))).get? b=some o:=λb o m e=>(bC _ _ m).trans<|(bC _ _ m).trans<|G b o m e;have r:s.heap.objs.size<((g1.update s.heap.objs.size (Obj.mapSeq (·.push Value.none))).update s.heap.objs.size (Obj.mapSeq (·.pop))).objs.size:=by rw[(Heap.SameBut.update ..).1,(Heap.SameBut.update ..).1];exact T
 generalize a0:(g1.update s.heap.objs.size (Obj.mapSeq (·.push Value.none))).update s.heap.objs.size (Obj.mapSeq (·.pop))=g2 at f g r ⊢;have j:∀{b o},s.heap.get? b=some o->b≠s.heap.objs.size/\b<g2.objs.size:=λe=>#[Ne.symm<|lt e,jE (aS e) r];have X:∀{t l} {xs:T8},SSeq t s.heap l xs->l≠s.heap.objs.size/\l<g2.objs.size:=λ{t l xs} h=>by cases t<;>(obtain⟨_,e,_⟩:=h;exact j e)
 refine wpAny_pure #[plainId_quiet F.plain_extend_loop _,v7 (A:=A.in1) (N:=g2.objs.size) hh D (by simp only[List.forall_mem_cons];exact#[j hz,j e1,j e2,j H,j I,X S,X R,nofun]) r d Z hn (aO _) (g _ _ (lt hz) hz) (g _ _ (lt H) H) (g _ _ (lt I) I) (U.to λo e=>g _ o (lt e) e) (W.to λo e=>g _ o (lt e) e) (S.to λo e=>g _ o (lt e) e) (R.to λo e=>g _ o (lt e) e) f λh' acc' L hk Y hd=>?_];exact#[rfl,hQ h' acc' L (λb o k x V b4 e=>hk b o (by simp[k,x,V,b4]) (λq=>lt e q.symm)<|g b o (lt e) e) Y<|hd.keep (nzL hN<|iJ r) λ_ _ _ e=>e]
end
def Inv.grown(I:Inv X Aa i H s)(k:∀b o,s.heap.get? b=some o->h'.get? b=some o)
  (a:∀b u,H b=some u->Hn b=some u) (f:∀b,b<s.heap.objs.size->H b=none->Hn b=none) (h:∀b u,H b=none->Hn b=some u->ObjOk X.prog X.w Hn h' b u):Inv X Aa i Hn { s with heap:=h',toks:=t' }:=by
 have fr:∀b o,s.heap.get? b=some o->H b=none->Hn b=none:=λb o e n=>f b (aS e) n;refine I.step (g':=s.gens) (d':=s.drawn) (ch:=[]) (λb g=>(nomatch g)) (λb o _ _ _ e _=>k b o e) (λb o _ _ _ e _=>#[o.slots,k b o e])
  (λb o _ e n=>fr b o e n) (λb o _ e=>#[o,k b o e]) (λb A q=>a b _ q) (λb o u q=>a b _ q)
  (λb C q=>#[[].toArray,by rw[a b _ q];simp]) (λm p=>?_) (λb u q=>?_) I.bare
 obtain ⟨o,l,j,r,t⟩:=p;exact#[o,l,j,k _ o r,t];cases g:H b with
 |some y => have e:=a b y g;rw[q]at e;cases e;exact(I.hok b u g).stay (λc v B z=>k c v z) (λc z=>a c _ z) λc A z=>a c _ z
 |none=>exact h b u g q
def Vals.of_get:∀{zs} {us},zs.length=us.length->(∀(j:Nat) (z:V) (u:Value),zs[j]? = some z->us[j]? = some u->RelV z u)->Vals zs us
 | [],[],_,_=>.nil
 |z::zs,u::us,hl,h=>.cons (h 0 z u rfl rfl) (Vals.of_get (by simpa using hl) λj a b c e=>h (j+1) a b (by simpa using c)<|by simpa using e)
 | [],_::_,hl,_=>by simp at hl
 |_::_,[],hl,_=>by simp at hl
end L2
namespace Lf
open PySem L2
mutual
def uM{X:Cx}{E:gM}{S:St}{H:Hp}{s:Shared}(I:Inv X E S H s):∀(d:Dt) {v c:V} {u f:Value} {A:Around},A.units+d.deep<cLine->IsD H d v->IsD H d c->RelV v u->RelV c f->SeqAt.EqAt A s u f true
 | .int i,v,c,u,f,A,_,h,h',r,r'=>by cases(show v=.int i from h);cases(show c=.int i from h');obtain⟨t,rfl⟩:=r;obtain⟨D,rfl⟩:=r';have:=SeqAt.EqAt.int_int (A:=A) (s:=s) i t i D;rw[beq_self_eq_true]at this;exact this
 | .str x,v,c,u,f,A,_,h,h',r,r'=>by cases(show v=.str x from h);cases(show c=.str x from h');obtain⟨t,rfl⟩:=r;obtain⟨D,rfl⟩:=r';have:=SeqAt.EqAt.str_str (A:=A) (s:=s) x t x D;rw[beq_self_eq_true]at this;exact this
 | .bl b,v,c,u,f,A,_,h,h',r,r'=>by cases(show v=.bl b from h);cases(show c=.bl b from h');cases r;cases r';exact SeqAt.EqAt.same _
 | .tup ds,v,c,u,f,A,hA,h,h',r,r'=>by
  obtain⟨a,N,rfl,p,hv⟩:=h;obtain⟨b,O,rfl,y,j⟩:=h';cases r;cases r';by_cases g:a=b;subst g;exact SeqAt.EqAt.same _;obtain ⟨o,l,B,Q⟩:=I.tuple<|SqT.of (K:=X.K) p;obtain⟨z,m,C,R⟩:=I.tuple<|SqT.of (K:=X.K) y;have F:A.units+(kD ds+1)<cLine:=hA;refine SeqAt.EqAt.of_refs g ?_;have q:=SeqAt.RcAt.tuples (e:=λ_=>true) B C `a (ix_ I ds (A:=A.in1) (by show A.units+1+kD ds<cLine;lia) hv j l m);have L:=l.length;have M:=m.length;have G:=hv.len;have J:=j.len;have e:((List.range<|min o.toArray.size z.toArray.size).all (λ_=>true)&&o.toArray.size == z.toArray.size)=true:=by rw[cM];exact#[by simp,beq_iff_eq.mpr (by simp only[aR];lia)]
  rw[e]at q;exact q
 | .lst ds,v,c,u,f,A,hA,h,h',r,r'=>by
  obtain⟨a,N,rfl,p,hv⟩:=h;obtain⟨b,O,rfl,y,j⟩:=h';cases r;cases r';by_cases g:a=b;subst g;exact SeqAt.EqAt.same _;obtain ⟨o,l,B,Q⟩:=I.list<|SqL.of (K:=X.K) p;obtain⟨z,m,C,R⟩:=I.list<|SqL.of (K:=X.K) y;have F:A.units+(kD ds+1)<cLine:=hA;refine SeqAt.EqAt.of_refs g ?_;have L:=l.length;have M:=m.length;have G:=hv.len;have J:=j.len;have q:=SeqAt.RcAt.lists (e:=λ_=>true) B.isList C.isList (by simp only[aR];lia) `a (ix_ I ds (A:=A.in1) (by show A.units+1+kD ds<cLine;lia) hv j l m);have e:((List.range o.toArray.size).all<|λ_=>true)=true:=by simp
  rw[e]at q;exact q
def ix_{X:Cx}{i:gM}{o:St}{H:Hp}{s:Shared}(I:Inv X i o H s):∀(ds:List Dt) {vs g:S3} {us a:S8} {A:Around},A.units+kD ds<cLine->IsDs H ds vs->IsDs H ds g->Vals vs us->Vals g a ->
  ∀(j:Nat) (b:j<us.toArray.size) (f:j<a.toArray.size),SeqAt.EqAt A s us.toArray[j] a.toArray[j] true
 | [],_,_,us,_,_,_,h,h',r,r',j,b,_=>by cases(show _=[]from h);cases r;simp at b
 |d::ds,_,_,us,a,A,hA,⟨v,vr,e1,hv,Jv⟩,⟨v',vr',e2,hw,Ju⟩,r,r',j,b,f=>by
  subst e1;subst e2;cases r with
  |cons l m =>
  cases r' with
  |cons c e =>
  have p:A.units+max d.deep (kD ds)<cLine:=hA;cases j with
  |zero=>exact uM I d `a hv hw l c
  |succ j => have:=ix_ I ds (A:=A) `a Jv Ju m e j (by simpa using b) (by simpa using f);simpa using this
end
end Lf
namespace L2
open PySem PySem.Spec PyProof.Rows
section
variable{X:Cx}
def aGl:bootBuiltins "sorted" = some (.builtin "sorted"):=by decide +kernel
end
def yE(scope:Scope):Scope:={ scope with names:=scope.names.map λ(n,k)=>if k == .free then(n,.cell)else(n,k) }
def zR(hsc:env.scope=dsc)(g:dsc.kind=.function)(f:∀y∈scope.names,y.2=.free->dsc.names.lookup y.1=some .cell):relabel scope env=yE scope:=by
 unfold relabel yE;congr 1;refine iN λy h=>?_;obtain⟨n,k⟩:=y;cases a:(k == NameKind.free)with
 |false=>simp[a]
 |true =>
  have b:k=.free:=by simpa using a
  have c:env.kindOf n=some .cell:=by show env.scope.names.lookup n=some .cell;rw[hsc];exact f (n,k) h b
  have e:env.scope.kind=.function:=by rw[hsc];exact g
  simp[a,c,e]
def j4(a:Nat->Nat->Bool)(lt:Nat->Nat->Bool)(g:∀i j,a i j=lt i j)(m:∀i j k,lt j i=false->lt k j=false->lt k i=false)(f:∀i,lt i i=false)(b:∀i j,lt i j=true->lt j i=false):∀n,argBest a n<=n/\∀j,j<=n->lt j (argBest a n)=false
 | 0=>#[aO _,λj e=>by have:j=0:=Nat.eq_zero_of_le_zero e;subst this;exact f _]
 |n+1=>by
  obtain⟨o,h⟩:=j4 a lt g m f b n;show(if a (n+1) (argBest a n)then n+1 else argBest a n)<=n+1/\∀j,j<=n+1->lt j (if a (n+1) (argBest a n)then n+1 else argBest a n)=false;rw[g];cases l:lt (n+1) (argBest a n)with
  |true => refine#[aO _,λj e=>?_];by_cases c:j=n+1;rw[c];exact f _;exact m _ _ _ (b _ _ l) (h j `a)
  |false => refine#[jF o,λj e=>?_];by_cases c:j=n+1;rw[c];exact l;exact h j `a
section
variable{X:Cx}
def kx_:∀{a b c},HT.lexLt b a=false->HT.lexLt c b=false->HT.lexLt c a=false
 | [],[],[],_,_=>rfl
 | [],[],_::_,_,h=>h
 | [],_::_,[],_,_=>rfl
 | [],_::_,_::_,h,_=>HT.lexLt_cons_nil _ _
 |_::_,[],_,h,_=>by rw[HT.lexLt_nil_cons]at h;cases h
 |_::_,_::_,[],_,h=>by rw[HT.lexLt_nil_cons]at h;cases h
 |x::xs,y::ys,z::zs,h1,h2=>by rw[HT.lexLt_cons]at h1 h2 ⊢;by_cases e:y=x;rw [if_pos e] at h1;by_cases f:z=y;rw [if_pos f] at h2;rw[if_pos<|f.trans e];exact kx_ h1 h2;grind;grind
def qR:∀a:S7,HT.lexLt a a=false
 | []=>rfl
 |x::xs=>by rw[HT.lexLt_cons,if_pos rfl];exact qR xs
def qS:∀{a b},HT.lexLt a b=true->HT.lexLt b a=false
 | [],[],h=>by cases h
 | [],_::_,_=>HT.lexLt_cons_nil _ _
 |_::_,[],h=>by rw[HT.lexLt_cons_nil]at h;cases h
 |x::xs,y::ys,h=>by rw[HT.lexLt_cons]at h ⊢;by_cases c:x=y;rw [if_pos c] at h;rw[if_pos c.symm];exact qS h;rw [if_neg c] at h;have h:=of_decide_eq_true h;rw[if_neg<|λe=>c e.symm];exact dzF<|Int.lt_asymm h
def wD:∀{ts:List<|Addr×S7} {us},Vals (ts.map λt=>V.ref t.1) us->us=ts.map λt=>Value.ref t.1
 | [],_,r=>by cases r;rfl
 |t::ts,_,r=>by
  cases r with
  |cons h r => rw[bQ,<-wD r];cases h;rfl
def aGc(hc:X.calm=true)(hu:X.A.units+1<cLine):CallR X (.builtin "min") (λxs H Q=>∃(p:Addr) (ts:List<|Addr×S7),xs=[.ref p]/\SqL X.K H p (ts.map λt=>V.ref t.1)/\(∀t∈ts,SqT X.K H t.1<|t.2.map V.int)/\ts≠[] /\
  ∀t,t∈ts->(∀u∈ts,HT.lexLt u.2 t.2=false)->Q (.ref t.1) H):=by
 intro T s σ H xs us Q I r h;obtain⟨p,ts,rfl,hq,R,Y,q⟩:=h;obtain⟨u,rfl,rx⟩:=jN r;cases rx;obtain⟨f,r',pl,hz⟩:=I.list hq;have M:=wD r';have g:=pl.isList;have U:(toString "min" ++ toString ".loop" : String) = "min.loop":=by decide
 have hh:X.A.handled=none:=I.ok.hd hc;have L:p<s.heap.objs.size:=by obtain⟨_,e,_⟩:=g;exact aS e
 refine call_function_tree PySem.F.kind_min PySem.F.plain_min PySem.F.entry_min (PySem.F.args_min1 _) ?_;show wpAny _ X.A.in1 (Builtin.Builtins.bindParams "min" ["key","default"] 0 #[[],[]] >>= _) _ _ s;refine wpAny_bind<|wpAny_of_eq (show Builtin.Builtins.bindParams "min" ["key","default"] 0 #[[],[]]=pure [none,none]from rfl) ?_;refine wpAny_bind<|wpAny_pure ?_;refine wpAny_bind<|wpAny_pyIter_list g ?_;refine wpAny_bind<|wpAny_newObj_type ?_;have W:=Walks.list (prog:=X.prog) (w:=X.w) (A:=X.A.in1) hh s.heap.objs.size p (bF L) f.toArray;rw[U];have m:∀b o,s.heap.get? b=some o->b≠s.heap.objs.size:=λb o e=>bF<|aS e;refine wpAny_pure #[plainId_quiet PySem.F.plain_min_loop _,?_];have Z:(s.heap.push { cls:=.type "list_iterator",data:=.fields [.ref p,.int 0 0].toArray }).objs.size∉[s.heap.objs.size,p]:=λB=>by
  rw[cJ]at B;rcases aE.mp B with e | B
  exact absurd e<|Nat.succ_ne_self _;have:=aF.mp B;exact absurd L (by rw[<-this];exact Nat.not_lt_of_le<|Nat.le_succ _)
 have st:(s.heap.push { cls:=.type "list_iterator",data:=.fields [.ref p,.int 0 0].toArray }).IsListIter s.heap.objs.size p 0/\(s.heap.push { cls:=.type "list_iterator",data:=.fields [.ref p,.int 0 0].toArray }).IsList p f.toArray:=#[#[_,aW _ rfl,rfl,rfl],g.push _];have G:=W.frame 0 _ ((s.heap.push { cls:=.type "list_iterator",data:=.fields [.ref p,.int 0 0].toArray }).push { cls:=.type "list",dict:=none,data:=.seq ([]:S8).toArray }) st λb _ o e=>aD _ e;have D:f.toArray.size=ts.length:=by rw[aR,M,aA]
 have hn:0<ts.length:=List.length_pos_iff.mpr Y;have get:∀{i:Nat} {v:Value},f.toArray[i]? = some v->∃t,ts[i]? = some t/\v=.ref t.1:=λ{i v} e=>by
  rw[List.getElem?_toArray,M,bK]at e;cases z:ts[i]? with
  |none=>rw[z]at e;cases e
  |some t=>rw[z]at e;cases e;exact#[t,rfl,rfl]
 refine b9 false [] W (λi j=>HT.lexLt (ts.getD i (0,[])).2 (ts.getD j (0,[])).2) _ (λh=>∀b o,s.heap.get? b=some o->h.get? b=some o) (λh h' c k b o e=>k b o (by simpa using m b o e) (by rw[cJ];exact bF<|fZ<|aS e)<|c b o e) ?_ Z (by rw[D];exact hn) (λb o e=>aD _<|aD _ e) G (aW _ rfl) λv h' tk hP hk=>?_;intro i j vi vj F Q2 E2 hs hi y S;obtain⟨t,l,rfl⟩:=get hi;obtain⟨J,O,rfl⟩:=get y;have N:Inv X T σ H { s with heap:=F.heap,toks:=F.toks }:=I.kept hs;obtain⟨i1,r1,p1,_⟩:=N.tuple<|R t<|bA l;obtain⟨i2,r2,p2,_⟩:=N.tuple<|R J<|bA O;have d:IntsAre i1.toArray.toList t.2:=eo_ r1;have n:IntsAre i2.toArray.toList J.2:=eo_ r2;refine HT.lt_tupInts (s:=F) p1 p2 d n (by show X.A.units+1<cLine;exact hu) ?_;have C:ts.getD i (0,[])=t:=by rw[aU,l];rfl
 have x:ts.getD j (0,[])=J:=by rw[aU,O];rfl
 rw[C,x]at S;exact S;obtain ⟨h1,h2⟩:=j4 (fun i j=>HT.lexLt (ts.getD i (0,[])).2 (ts.getD j (0,[])).2) _ (fun _ _=>rfl) (fun i j k a b=>kx_ a b) (fun i=>qR _) (fun i j a=>qS a)<|f.toArray.size - 1;obtain⟨t,l,rfl⟩:=get hP;have C:ts.getD (argBest (λi j=>HT.lexLt (ts.getD i (0,[])).2 (ts.getD j (0,[])).2)<|f.toArray.size-1) (0,[])=t:=by rw[aU,l];rfl
 refine#[.ref _,H,I.kept λb o e=>hk b o (by simpa using m b o e) ?_<|aD _<|aD _ e,rfl,q t (bA l) λu E=>?_];rw [cJ];exact bF<|fZ<|aS e;obtain ⟨j,y⟩:=eQ E;have a0:j<ts.length:=(aL.mp y).1;have:=h2 j `a;rw[C]at this;have e3:ts.getD j (0,[])=u:=by rw[aU,y];rfl
 rw[e3]at this;exact this
end
end L2
namespace Lf
open PySem PySem.W PyProof.Rows
def krun{b:Type}(lt:Nat->Nat->Bool):KasT b->b
 | .ret a=>a
 | .ask i j k=>krun lt<|k<|lt i j
def en_(lt:Nat->Nat->Bool):∀(t:KasT α) (f:α->KasT β),krun lt (t.bind f)=krun lt (f<|krun lt t)
 | .ret a,f=>rfl
 | .ask i j k,f=>en_ lt (k<|lt i j) f
def kok{a:Type}(n:Nat)(lt:Nat->Nat->Bool):KasT a->Prop
 | .ret _=>True
 | .ask i j k=>i<n/\j<n/\kok n lt (k<|lt i j)
def fz_{α β}{n}{lt}:∀{t} {f:α->KasT β},kok n lt t->kok n lt (f<|krun lt t)->kok n lt (t.bind f)
 | .ret a,f,_,h=>h
 | .ask i j k,f,⟨a,b,c⟩,h=>#[a,b,fz_ c h]
def krun_wp{α}{n}{lt}{cmp}{s}(e:∀i j (R:Bool->Shared->Prop),i<n->j<n->R (lt i j) s->cmp i j R s){G} :
  ∀(t:KasT α),kok n lt t->G (krun lt t) s->t.kasWp cmp G s
 | .ret a,_,hg=>hg
 | .ask i j k,⟨a,b,c⟩,hg=>e i j _ a b<|krun_wp e (k<|lt i j) c hg
section
variable{lt:Nat->Nat->Bool}
structure Ord(lt:Nat->Nat->Bool):Prop where
 tr:∀i j k,lt j i=false->lt k j=false->lt k i=false
 asy:∀i j,lt i j=true->lt j i=false
def Ord.rf(o:Ord lt)(i:Nat):lt i i=false:=by
 cases h:lt i i with
 |false=>rfl
 |true=>have:=o.asy i i h;rw[h]at this;exact this
abbrev gk(p:Array Nat)(k:Nat):Nat:=p.getD k 0
def d9(h:p[k]? = q[j]?):gk p k=gk q j:=by unfold gk;rw[Array.getD_eq_getD_getElem?,Array.getD_eq_getD_getElem?,h]
def Srt(lt:Nat->Nat->Bool)(p:Array Nat)(n:Nat):Prop:=∀i j,i<=j->j<n->lt (gk p j) (gk p i)=false
def Dec(lt:Nat->Nat->Bool)(p:Array Nat)(n:Nat):Prop:=∀i j,i<=j->j<n->lt (gk p i) (gk p j)=false
def Srt.step(o:Ord lt)(e:1<=n)(h:Srt lt p n)(b:lt (gk p n) (gk p<|n-1)=false):Srt lt p<|n+1:=by intro i j a f;by_cases c:j=n;subst c;by_cases d:i=j;subst d;exact o.rf _;exact o.tr _ _ _ (h i (j-1) `a `a) b;exact h i j a `a
def Dec.step(o:Ord lt)(e:1<=n)(h:Dec lt p n)(b:lt (gk p<|n-1) (gk p n)=false):Dec lt p<|n+1:=by intro i j a f;by_cases c:j=n;subst c;by_cases d:i=j;subst d;exact o.rf _;exact o.tr _ _ _ b<|h i (j-1) `a `a;exact h i j a `a
def gq_(a:j<=p.size):gk (kas_rev p i j) k=if i<=k/\k<j then gk p (i+j-1-k)else gk p k:=by have:=getElem?_mirror_all (xs:=p) (i:=i) (j:=j) a k;by_cases c:i<=k/\k<j;rw [if_pos c] at this ⊢;exact d9 this;rw [if_neg c] at this ⊢;exact d9 this
def jm_(p:Array Nat)(i j:Nat):(kas_rev p i j).size=p.size:=mirror_size _ _ _ _
def dp_(p:Array Nat)(i j:Nat):(kas_rev p i j).Perm p:=mirror_perm _ _ _ _
def Dec.turn(h:Dec lt p n)(a:n<=p.size):Srt lt (kas_rev p 0 n) n:=by intro i j b c;rw[gq_ a,gq_ a,if_pos `o,if_pos `o];exact h _ _ `a `a
def Dec.alike(o:Ord lt)(h:Dec lt p n)(b:n<=p.size)(f:∀i j,a<=i->i<n->a<=j->j<n->lt (gk p i) (gk p j)=false):Dec lt (kas_rev p a n) n:=by intro i j e g;rw[gq_ b,gq_ b];by_cases c:a<=i/\i<n;rw [if_pos c,if_pos `o];exact f _ _ `a `a `a `a;rw [if_neg c];by_cases d:a<=j/\j<n;rw [if_pos d];exact h _ _ `a `a;rw [if_neg d];exact h _ _ e g
def rP(o:Ord lt):∀(f n:Nat),1<=n->Srt lt p n->n<=krun lt (kas_asc p f n)/\krun lt (kas_asc p f n)<=n+f/\Srt lt p (krun lt<|kas_asc p f n)/\(krun lt (kas_asc p f n)=n+f\/lt (gk p<|krun lt<|kas_asc p f n) (gk p<|krun lt (kas_asc p f n)-1)=true)
 | 0,n,h1,h=>#[aO _,aO _,h,.inl rfl]
 |f+1,n,h1,h=>by
  have e:krun lt (kas_asc p (f+1) n)=krun lt (if lt (p.getD n 0) (p.getD (n-1) 0)=true then KasT.ret n else kas_asc p f (n+1)):=rfl;rw[e];cases g:lt (p.getD n 0) (p.getD (n-1) 0)with
  |true => exact#[aO _,dF _ _,h,.inr g]
  |false =>
   obtain⟨a,b,c,d⟩:=rP o f (n+1) (jF h1)<|h.step o h1 g;refine#[eV a,by lia,c,?_];rcases d with d | d
   exact .inl `a;exact .inr d
structure Fal(lt:Nat->Nat->Bool)(N:Nat)(p₀ p:Array Nat)(n q:Nat):Prop where
 sz:p.size=p₀.size
 pm:p.Perm p₀
 dc:Dec lt p n
 q1:q+1<=n
 nN:n<=N
 eq:∀i j,n-(q+1)<=i->i<n->n-(q+1)<=j->j<n->lt (gk p i) (gk p j)=false
def hz_(o:Ord lt)(c:N<=p₀.size):∀(f:Nat) (p:Array Nat) (n q:Nat),n+f<=N->1<=n->Fal lt N p₀ p n q->Fal lt N p₀ (krun lt<|kas_desc f p n q).1 (krun lt<|kas_desc f p n q).2.1 (krun lt<|kas_desc f p n q).2.2/\n<=(krun lt<|kas_desc f p n q).2.1
 | 0,p,n,q,_,_,h=>#[h,aO _]
 |f+1,p,n,q,hf,h1,h=>by
  have e:krun lt (kas_desc (f+1) p n q)=krun lt (if lt (p.getD n 0) (p.getD (n-1) 0)=true then(if q>0 then kas_desc f (kas_rev p (n-(q+1)) n) (n+1) 0 else kas_desc f p (n+1) 0)
   else KasT.ask (p.getD (n-1) 0) (p.getD n 0) λd=>if d=true then .ret (p,n,q)else kas_desc f p (n+1) (q+1)):=rfl
  rw[e];have G:=h.q1;cases t:lt (p.getD n 0) (p.getD (n-1) 0)with
  |true =>
   have m:=o.asy _ _ t;by_cases s:q>0;rw [if_pos s];have g:n<=p.size:=by have:=h.nN;rw[h.sz];exact nzL this c
   have B:=h.dc.alike o g h.eq;have E:gk (kas_rev p (n-(q+1)) n) n=gk p n:=by rw[gq_ g,if_neg `a]
   have F:gk (kas_rev p (n-(q+1)) n) (n-1)=gk p (n-(q+1)):=by rw[gq_ g,if_pos `o];congr 1;lia
   have C:=B.step o h1 (by rw[E,F];exact o.tr _ _ _ m<|h.eq _ _ `a `a `a `a);obtain⟨a,b⟩:=hz_ o c f (kas_rev p (n-(q+1)) n) (n+1) 0 `a `a #[by rw[jm_];exact h.sz,(dp_ _ _ _).trans h.pm,C,by lia,by lia,λi j v y z A=>by
    have:i=j:=by lia
    subst this;exact o.rf _]
   exact#[a,eV b];rw [if_neg s];obtain⟨a,b⟩:=hz_ o c f p (n+1) 0 `a `a #[h.sz,h.pm,h.dc.step o h1 m,by lia,by lia,λi j v y z A=>by
    have:i=j:=by lia
    subst this;exact o.rf _]
   exact#[a,eV b]
  |false =>
   rw[if_neg `b];have D:krun lt (KasT.ask (p.getD (n-1) 0) (p.getD n 0) λd=>if d=true then .ret (p,n,q)else kas_desc f p (n+1) (q+1))=krun lt (if lt (p.getD (n-1) 0) (p.getD n 0)=true then KasT.ret (p,n,q)else kas_desc f p (n+1) (q+1)):=rfl;rw[D];cases u:lt (p.getD (n-1) 0) (p.getD n 0)with
   |true => exact#[h,aO _]
   |false => obtain⟨a,b⟩:=hz_ o c f p (n+1) (q+1) `a `a #[h.sz,h.pm,h.dc.step o h1 u,gB G 1,by lia,λi j v y z A=>by by_cases r:i=n;by_cases l:j=n;rw[r,l];exact o.rf _;rw [r];exact o.tr _ _ _ (h.eq (n-1) j `a `a `a `a) t;by_cases l:j=n;rw [l];exact o.tr _ _ _ u<|h.eq i (n-1) `a `a `a `a;exact h.eq i j `a `a `a `a];exact#[a,eV b]
structure Cnt(lt:Nat->Nat->Bool)(N:Nat)(p₀:Array Nat)(r:Nat×Array Nat):Prop where
 sz:r.2.size=p₀.size
 pm:r.2.Perm p₀
 n1:1<=r.1
 nN:r.1<=N
 st:Srt lt r.2 r.1
def tD(o:Ord lt)(g:N<=p₀.size)(e:1<=n)(h:n<=N)(sz:p.size=p₀.size)(i:p.Perm p₀)(f:Dec lt p n):Cnt lt N p₀<|krun lt<|kas_tail3 n N p:=by unfold kas_tail3;rw[en_];have s:=f.turn (by rw[sz];exact nzL h g);obtain⟨a,b,c,_⟩:=rP o (N-n) n e s;exact#[by show(kas_rev p 0 n).size=_;rw[jm_];exact sz,(dp_ _ _ _).trans i,by show 1<=krun lt _;exact nzL e a,by show krun lt _<=N;lia,c]
def ib_(o:Ord lt)(f:N<=p₀.size)(q:1<=n)(l:n+1<=N)(sz:p.size=p₀.size)(m:p.Perm p₀)(h:Dec lt p<|n+1):Cnt lt N p₀<|krun lt<|kas_descPart n N p:=by
 unfold kas_descPart;rw[en_];obtain⟨a,b⟩:=hz_ o f (N-(n+1)) p (n+1) 0 `a `a #[sz,m,h,by lia,l,λi j s t u v=>by
  have:i=j:=by lia
  subst this;exact o.rf _]
 generalize krun lt (kas_desc (N-(n+1)) p (n+1) 0)=r at a b;have g:=a.nN;have e:=a.sz;by_cases c:r.2.2>0;rw [if_pos c];exact tD o f `a g (by rw[jm_];exact e) ((dp_ _ _ _).trans a.pm) (a.dc.alike o `a a.eq);rw [if_neg c];exact tD o f `a g e a.pm a.dc
def rL(o:Ord lt)(q:N<=p.size)(y:1<=N):Cnt lt N p<|krun lt<|kas_count N p:=by
 unfold kas_count;rw[en_];obtain⟨a,b,c,d⟩:=rP o (p:=p) (N-1) 1 (aO _) (λi j h f=>by
  have:i=j:=by lia
  subst this;exact o.rf _)
 generalize krun lt (kas_asc p (N-1) 1)=n at a b c d;by_cases l:(n == N)=true;rw [if_pos l];exact#[rfl,Array.Perm.refl _,a,by show n<=N;lia,c];rw [if_neg l];have r:lt (gk p n) (gk p<|n-1)=true:=by
  rcases d with d | d
  lia;exact d
 have g:=o.asy _ _ r;by_cases s:n>1;rw [if_pos s];show Cnt lt N p (krun lt (if lt (p.getD 0 0) (p.getD (n-1) 0)=true then KasT.ret (n,p)else kas_descPart n N (kas_rev p 0 n)));cases m:lt (p.getD 0 0) (p.getD (n-1) 0)with
 |true => exact#[rfl,Array.Perm.refl _,a,by show n<=N;lia,c]
 |false =>
  have all:=λi j v f=>o.tr _ _ _ (c j (n-1) ((Nat.le_sub_one_iff_lt a).mpr f) `a)<|o.tr _ _ _ m<|c 0 i `a v;have e:n<=p.size:=by lia
  refine ib_ o q a `a (jm_ _ _ _) (dp_ _ _ _) ?_;refine Dec.step o (Nat.one_le_of_lt a) (λi j h f=>?_) ?_;rw [gq_ e,gq_ e,if_pos `o,if_pos `o];exact all _ _ `a `a;rw [gq_ e,gq_ e,if_pos `o,if_neg `a];have t:0+n-1-(n-1)=0:=by lia
  rw[t];exact o.tr _ _ _ g m
 have u:n=1:=by lia
 subst u;refine ib_ o q (aO _) `a rfl (Array.Perm.refl _) ?_;exact Dec.step o (aO _) (λi j h f=>by
  have:i=j:=by lia
  subst this;exact o.rf _) g
def ip_(o:Ord lt)(g:Srt lt p k):∀(f l r:Nat),r-l<=f->l<=r->r<=k->(∀i,i<l->lt (gk p k) (gk p i)=false)->(∀i,r<=i->i<k->lt (gk p i) (gk p k)=false) ->
  krun lt (kas_place p k f l r)<=k/\(∀i,i<krun lt (kas_place p k f l r)->lt (gk p k) (gk p i)=false)/\∀i,krun lt (kas_place p k f l r)<=i->i<k->lt (gk p i) (gk p k)=false
 | 0,l,r,hf,Hm,hr,h1,h2=>#[by show l<=k;exact nzL Hm hr,h1,λi a b=>h2 i (by have:l<=i:=a;lia) b]
 |f+1,l,r,hf,Hm,hr,h1,h2=>by
  have e:krun lt (kas_place p k (f+1) l r)=krun lt (if l>=r then KasT.ret l else .ask (p.getD k 0) (p.getD ((l+r)/2) 0) λc=>if c=true then kas_place p k f l ((l+r)/2)else kas_place p k f ((l+r)/2+1) r):=rfl;rw[e];by_cases c:l>=r;rw [if_pos c];exact#[by show l<=k;exact nzL Hm hr,h1,λi a b=>h2 i (by have:l<=i:=a;exact nzL c a) b];rw [if_neg c];have j:krun lt (.ask (p.getD k 0) (p.getD ((l+r)/2) 0) λc=>if c=true then kas_place p k f l ((l+r)/2)else kas_place p k f ((l+r)/2+1) r)=krun lt (if lt (p.getD k 0) (p.getD ((l+r)/2) 0)=true then kas_place p k f l ((l+r)/2)else kas_place p k f ((l+r)/2+1) r):=rfl;rw[j];cases h:lt (p.getD k 0) (p.getD ((l+r)/2) 0)with
  |true => refine ip_ o g f l ((l+r)/2) `a `a `a h1 λi a b=>?_;exact o.tr _ _ _ (o.asy _ _ h) (g _ _ a b)
  |false => refine ip_ o g f ((l+r)/2+1) r `a `a hr (λi a=>?_) h2;exact o.tr _ _ _ (g i ((l+r)/2) (cH a) `a) h
def uG(a:k<p.size)(b:l<=k):gk (bubble p k<|k-l) j=if j=l then gk p k else if l<j/\j<=k then gk p (j-1)else gk p j:=by have:=getElem?_bubble (xs:=p) (src:=k) a (k-l) (Nat.sub_le k l) j;have e:k-(k-l)=l:=Nat.sub_sub_self b;rw[e]at this;by_cases c:j=l;rw [if_pos c] at this ⊢;exact d9 this;rw [if_neg c] at this ⊢;by_cases d:l<j/\j<=k;rw [if_pos d] at this ⊢;exact d9 this;rw [if_neg d] at this ⊢;exact d9 this
def j0(o:Ord lt):∀(f:Nat) (p:Array Nat) (k:Nat),1<=k->k+f<=p₀.size->p.size=p₀.size->p.Perm p₀->Srt lt p k->(krun lt<|kas_bin f p k).Perm p₀/\(krun lt<|kas_bin f p k).size=p₀.size/\Srt lt (krun lt<|kas_bin f p k) (k+f)
 | 0,p,k,_,_,sz,pm,hs=>#[pm,sz,hs]
 |f+1,p,k,h1,h,sz,pm,hs=>by
  show(krun lt<|(kas_place p k k 0 k).bind λl=>kas_bin f (bubble p k<|k-l)<|k+1).Perm p₀/\(krun lt<|(kas_place p k k 0 k).bind λl=>kas_bin f (bubble p k<|k-l)<|k+1).size=p₀.size/\Srt lt (krun lt<|(kas_place p k k 0 k).bind λl=>kas_bin f (bubble p k<|k-l)<|k+1) (k+(f+1));rw[en_];obtain⟨a,b,c⟩:=ip_ o hs k 0 k (Nat.sub_le k 0) (bM k) (aO _) (λi g=>absurd g<|Nat.not_lt_zero _) (λi g h=>by exact Bool.eq_true_imp_eq_false.mp λa=>hs k i g h);generalize krun lt (kas_place p k k 0 k)=l at a b c;have q:k<p.size:=by lia
  have u:k+(f+1)=(k+1)+f:=Eq.symm<|Nat.succ_add_eq_add_succ k f;rw[u];refine j0 o f (bubble p k<|k-l) (k+1) (jF h1) (le_of_eq_of_le (id<|Eq.symm u) h) (by rw[bubble_size];exact sz) ((bubble_perm _ _ _).trans pm) ?_;intro i j m v;rw[uG q a,uG q a];by_cases r:i=l;rw [if_pos r];by_cases e:j=l;rw[if_pos e];exact o.rf _;rw [if_neg e,if_pos #[by lia,cH v]];exact c (j-1) `a `a;rw [if_neg r];by_cases e:j=l;rw [if_pos e,if_neg `a];exact b i `a;rw [if_neg e];by_cases s:l<i/\i<=k;rw [if_pos s,if_pos #[by lia,cH v]];exact hs _ _ (Nat.sub_le_sub_right m 1) `a;rw [if_neg s];by_cases t:l<j/\j<=k;rw [if_pos t];exact hs _ _ `a `a;rw [if_neg t];exact hs _ _ m `a
def sort_spec(o:Ord lt)(j:2<=n):(krun lt<|kas_sort n).Perm (List.toArray<|List.range n)/\(krun lt<|kas_sort n).size=n/\Srt lt (krun lt<|kas_sort n) n:=by
 unfold kas_sort;rw[en_];have a:(List.toArray<|List.range n).size=n:=by grind
 have h:=rL o (N:=n) (Nat.le_of_eq<|id<|Eq.symm a)<|Nat.one_le_of_lt j;generalize krun lt (kas_count n<|List.toArray<|List.range n)=r at h;have b:=h.n1;have g:=h.nN;have f:=h.sz;by_cases c:r.1<n;rw [if_pos c];have e:max r.1 1=r.1:=Nat.max_eq_left b;rw[e];obtain⟨x,y,z⟩:=j0 o (n-r.1) r.2 r.1 b `a f h.pm h.st;refine#[x,y.trans a,?_];have i:r.1+(n-r.1)=n:=Nat.add_sub_of_le g;rw[i]at z;exact z;rw [if_neg c];refine#[h.pm,f.trans a,?_];have e:r.1=n:=by lia
 have:=h.st;rw[e]at this;exact this
def Blw(n:Nat)(p:Array Nat):Prop:=0<n/\∀x∈p.toList,x<n
def Blw.at(h:Blw n p)(k:Nat):p.getD k 0<n:=by
 rw[Array.getD_eq_getD_getElem?];cases e:p[k]? with
 |none=>exact h.1
 |some x => refine h.2 x ?_;rw[<-Array.getElem?_toList]at e;exact bA e
def Blw.perm(h:Blw n p)(a:q.Perm p):Blw n q:=#[h.1,λx b=>h.2 x<|(Array.perm_iff_toList_perm.mp a).mem_iff.mp b]
def xG(h:Blw n p):∀(f m:Nat),kok n lt (kas_asc p f m)
 | 0,_=>trivial
 |f+1,m=>by refine#[h.at _,h.at _,?_];show kok n lt (if lt (p.getD m 0) (p.getD (m-1) 0)=true then KasT.ret m else kas_asc p f (m+1));split;trivial;exact xG h f<|m+1
def jp_:∀(f:Nat) (p:Array Nat) (m q:Nat),Blw n p->kok n lt (kas_desc f p m q)
 | 0,_,_,_,_=>trivial
 |f+1,p,m,q,h=>by refine#[h.at _,h.at _,?_];show kok n lt (if lt (p.getD m 0) (p.getD (m-1) 0)=true then _ else _);split;split;exact jp_ f _ _ _<|h.perm<|dp_ _ _ _;exact jp_ f _ _ _ h;refine #[h.at _,h.at _,?_];show kok n lt (if lt (p.getD (m-1) 0) (p.getD m 0)=true then _ else _);split;trivial;exact jp_ f _ _ _ h
def ia_:∀(f:Nat) (p:Array Nat) (m q:Nat),Blw n p->Blw n (krun lt<|kas_desc f p m q).1
 | 0,_,_,_,h=>h
 |f+1,p,m,q,h=>by
  show Blw n (krun lt (if lt (p.getD m 0) (p.getD (m-1) 0)=true then(if q>0 then kas_desc f (kas_rev p (m-(q+1)) m) (m+1) 0 else kas_desc f p (m+1) 0)
   else KasT.ask (p.getD (m-1) 0) (p.getD m 0) λd=>if d=true then .ret (p,m,q)else kas_desc f p (m+1) (q+1))).1
  split;split;exact ia_ f _ _ _<|h.perm<|dp_ _ _ _;exact ia_ f _ _ _ h;show Blw n (krun lt (if lt (p.getD (m - 1) 0) (p.getD m 0)=true then KasT.ret (p,m,q) else kas_desc f p (m + 1) (q + 1))).1;split;exact h;exact ia_ f _ _ _ h
def c9(h:Blw n p):kok n lt<|kas_tail3 m N p:=fz_ (xG (h.perm<|dp_ _ _ _) _ _) trivial
def jf_(h:Blw n p):kok n lt<|kas_descPart m N p:=by refine fz_ (jp_ _ _ _ _ h) ?_;have:=ia_ (lt:=lt) (N-(m+1)) p (m+1) 0 h;split;exact c9<|this.perm<|dp_ _ _ _;exact c9 this
def aFm(h:Blw n p):kok n lt<|kas_count N p:=by refine fz_ (xG h _ _) ?_;split;trivial;split;refine #[h.at _,h.at _,?_];dsimp only;split;trivial;exact jf_<|h.perm<|dp_ _ _ _;exact jf_ h
def la_(h:Blw n p):∀(f l r:Nat),kok n lt (kas_place p k f l r)
 | 0,_,_=>trivial
 |f+1,l,r=>by unfold kas_place;split;trivial;refine #[h.at _,h.at _,?_];dsimp only;split;exact la_ h f _ _;exact la_ h f _ _
def aCj:∀(f:Nat) (p:Array Nat) (k:Nat),Blw n p->kok n lt (kas_bin f p k)
 | 0,_,_,_=>trivial
 |f+1,p,k,h=>fz_ (la_ h _ _ _)<|aCj f _ _<|h.perm<|bubble_perm _ _ _
def kok_sort(o:Ord lt)(b:2<=n):kok n lt<|kas_sort n:=by
 have c:Blw n<|List.toArray<|List.range n:=#[Nat.zero_lt_of_lt b,λx e=>by simpa using e];refine fz_ (aFm c) ?_;have a:(List.toArray<|List.range n).size=n:=by grind
 have h:=rL o (N:=n) (Nat.le_of_eq<|id<|Eq.symm a)<|Nat.one_le_of_lt b;split;exact aCj _ _ _<|c.perm h.pm;trivial
end
end Lf
namespace L2
open PySem PySem.Spec PyProof.Rows PySem.W
def aCg:∀{ns b} {a},a=decide (ns.length<b.length)->(ns=[]\/b=[])->HT.lexLt ns b=a
 | [],[],_,h,_=>by rw[h];rfl
 | [],_::_,_,h,_=>by rw[h,HT.lexLt_nil_cons];exact(dzT `g).symm
 |_::_,[],_,h,_=>by rw[h,HT.lexLt_cons_nil];exact(dzF `g).symm
 |_::_,_::_,_,_,h=>by rcases h with h | h<;>cases h
section
variable{prog:Program}{w:World}{A:Around}{E:hX}{s:Shared}
def le_{fin}{Q}:∀{vs b} {ns a} (i:Nat),IntsAre vs ns->IntsAre b a->fin=decide (ns.length<a.length)->Q (HT.lexLt ns a) s->KatLex prog w A true fin Q (vs.zip b) i s
 |_,_,_,_,i,.nil,_,hf,h=>by rw[aCg hf<|.inl rfl]at h;exact kat_nil h
 |_,_,_,_,i,.cons _ _ _,.nil,hf,h=>by rw[aCg hf<|.inr rfl]at h;exact kat_nil h
 |_,_,_,_,i,.cons x t hx,.cons y u hy,hf,h=>by
  refine kat_cons<|wpAny_eqBool_int ?_;rw[HT.lexLt_cons]at h;by_cases c:x=y;rw [if_pos c] at h;have e:(x == y)=true:=by grind
  rw[e];refine kat_yes<|le_ (i+1) hx hy ?_ h;rw[hf];simp;rw [if_neg c] at h;have e:(x == y)=false:=by grind
  rw[e];refine kat_no ?_;cases i with
  |zero=>exact oneLt_int h
  |succ k=>exact kat_one _ _<|lt_int h
def TupI(h:Heap)(a:Addr)(ns:S7):Prop:=∃b:S8,IsTup h a b.toArray/\IntsAre b ns
def TupI.keep(x:TupI h a ns)(k:∀o,h.get? a=some o->h'.get? a=some o):TupI h' a ns:=by obtain⟨b,⟨o,g,c,n,e⟩,f⟩:=x;exact#[b,#[o,k o g,c,n,e],f]
def aFo{x y}{ns ms}{Q}(p:TupI s.heap x ns)(q:TupI s.heap y ms)(h:Q (HT.lexLt ns ms) s):wpAny `f A (keyLt' (tuples' true) (.ref x)<|.ref y) Q E s:=by
 obtain⟨b,⟨o,m,t,n,l⟩,e⟩:=p;obtain⟨a,⟨v,f,r,u,g⟩,c⟩:=q;refine kat_lt m l f g<|le_ 0 e c ?_ h;rw[aR,aR];have i:b.length=ns.length:=by rw[<-e.nums,aA]
 have j:a.length=ms.length:=by rw[<-c.nums,aA]
 rw[i,j]
abbrev TI2:=Addr×S7
def t0:TI2:=(0,[])
def ltT(ts:List TI2)(i j:Nat):Bool:=HT.lexLt (ts.getD i t0).2 (ts.getD j t0).2
def aCf(ts:List TI2):Lf.Ord<|ltT ts:=#[λ_ _ _ a b=>kx_ a b,λ_ _ a=>qS a]
def qV:∀{ts:List TI2},(∀t∈ts,TupI h t.1 t.2/\t.2≠[])->∃fs:S8,KatTups h (ts.map λt=>Value.ref t.1) fs/\fs.length=ts.length/\∀v∈fs,∃x t,v=Value.int x t
 | [],_=>#[[],KatTups.nil,rfl,λv hv=>by cases hv]
 |(a0,ns0)::ts,hT=>by
  obtain⟨fs,a,b,c⟩:=qV (ts:=ts) λu m=>hT u<|aC _ m;obtain⟨⟨p,⟨o,i,j,n,l⟩,g⟩,f⟩:=hT (a0,ns0) aB;dsimp only at g i f;cases g with
  |nil=>exact absurd rfl f
  | @cons x tk vs ns hr =>
   refine#[Value.int x tk::fs,KatTups.cons i j l (read_int_eq rfl rfl) a,by simp[b],λv hv=>?_];rcases aE.mp hv with e | e
   exact#[x,tk,e];exact c v e
def aIq{a:Addr}{ts:List TI2}{n:Nat}{P:Fin->Shared->Prop}(u:s.heap.get? a=some (seqObj "list" (ts.map λt=>Value.ref t.1).toArray n))(X:∀t∈ts,TupI s.heap t.1 t.2/\t.2≠[])(F6:∀t∈ts,t.1≠a)(h2:2<=ts.length)(M2:ts.length<64)
  (q:∀us:List TI2,us.Perm ts->(us.Pairwise λx y=>HT.lexLt y.2 x.2=false)->P (.done<|.ret .none) { s with heap:=sortedHeap s.heap a (ts.map λt=>Value.ref t.1) (us.map λt=>Value.ref t.1).toArray }):wpAny `f A (Builtin.«list.sort» #[[.ref a],[]]) P E s:=by
 generalize m:(ts.map λt=>Value.ref t.1)=vs at *;have Af:vs.length=ts.length:=by rw[<-m,aA]
 rw[list_sort_plain];have Y:a<s.heap.objs.size:=aS u;have I:vs.toArray.size=vs.length:=by simp
 refine wpAny_bind<|listItems_at u rfl<|wpAny_bind<|listUpdate_at u rfl ?_ (by rw[I,sizeLine_eq];lia)<|bM _;obtain⟨e1,S⟩:∃e,(s.heap.update a<|Obj.mapSeq λ_=>[].toArray).get? a=some (seqObj "list" [].toArray e):=#[_,get?_update_seq u<|λ_=>[].toArray];refine wpAny_bind<|seqEpoch_at S rfl<|wpAny_bind<|wpAny_newTuple<|wpAny_bind<|wpAny_newList<|wpAny_holding ?_;have O:(((s.heap.update a<|Obj.mapSeq λ_=>[].toArray).push<|seqObj "tuple" vs.toArray 0).push<|seqObj "list" [].toArray 0).get? a=some (seqObj "list" [].toArray e1):=(Heap.get?_push_ne _ _ _ (by rw[size_push',iL];exact bF<|fZ Y)).trans<|(Heap.get?_push_ne _ _ _ (by rw[iL];exact bF Y)).trans S;have keep:∀b o,b≠a->s.heap.get? b=some o->(((s.heap.update a<|Obj.mapSeq λ_=>[].toArray).push<|seqObj "tuple" vs.toArray 0).push<|seqObj "list" [].toArray 0).get? b=some o:=λb o hb e=>aD _<|aD _<|(bC _ _<|Ne.symm hb).trans e;show wpAny `f A _ P E { s with heap:=((s.heap.update a<|Obj.mapSeq λ_=>[].toArray).push<|seqObj "tuple" vs.toArray 0).push (seqObj "list" [].toArray 0) };have B:∀t∈ts,TupI (((s.heap.update a<|Obj.mapSeq λ_=>[].toArray).push<|seqObj "tuple" vs.toArray 0).push<|seqObj "list" [].toArray 0) t.1 t.2/\t.2≠[]:=λt J=>#[(X t J).1.keep λo e=>keep _ o (F6 t J) e,(X t J).2];dsimp only;have L:¬vs.toArray.size<2:=by lia
 rw[if_neg L,if_neg L];obtain⟨fs,d,k2,k3⟩:=qV B;rw[m]at d;refine wpAny_bind<|kat_kind (T:=Value.type "int") d `a (λv hv=>?_) rfl ?_;obtain ⟨x,tk,rfl⟩:=k3 v hv;exact λA Q E s _ h=>wpAny_pure h;have Gk:tuples' (Value.type "int" != Value.type "tuple")=tuples' true:=by
  have:(Value.type "int" != Value.type "tuple")=true:=by decide +kernel
  rw[this]
 rw[Gk];obtain⟨V,p2,p3⟩:=Lf.sort_spec (aCf ts) (n:=vs.length) `a;refine wpAny_bind (wpAny_mono (kat_run (ks:=vs) (vs:=vs) (Q:=λc g=>g={ s with heap:=((s.heap.update a<|Obj.mapSeq λ_=>[].toArray).push<|seqObj "tuple" vs.toArray 0).push (seqObj "list" [].toArray 0) }/\arrOf c=(Lf.krun (ltT ts)<|kas_sort vs.length).map (kas_item<|vs.toArray.zip vs.toArray)/\failedOf c=none)
  (G:=λp g=>p=Lf.krun (ltT ts) (kas_sort vs.length)/\g={ s with heap:=((s.heap.update a<|Obj.mapSeq λ_=>[].toArray).push<|seqObj "tuple" vs.toArray 0).push (seqObj "list" [].toArray 0) }) rfl `a `a
  (λp c g C D a3 U=>#[U.2,by rw[<-U.1];exact D,a3]) (Lf.krun_wp (n:=vs.length) (lt:=ltT ts) (λi j R f r hR=>?_) _ (Lf.kok_sort (aCf ts) `a) #[rfl,rfl])) ?_ λ_ _ e=>e)
 have W:∀ i,i < vs.length→vs.getD i Value.none=.ref (ts.getD i t0).1∧ts.getD i t0∈ts:=fun i f=>by
  have M:i<ts.length:=by lia
  rw[<-m,aU,bK,aU,aG M];exact#[rfl,List.getElem_mem _]
 obtain⟨x1,x2⟩:=W i f;obtain⟨y1,y2⟩:=W j r;show wpAny `f A (keyLt' _ (vs.getD i Value.none)<|vs.getD j Value.none) R _ _;rw[x1,y1];exact aFo (B _ x2).1 (B _ y2).1 hR;rintro⟨⟨⟩,z⟩ g ⟨rfl,F,hf⟩;dsimp only;have N:=kat_snds (ks:=vs) (vs:=vs) rfl F;have N8:((arrOf z).map (·.2)).size=vs.length:=by rw[N,aR,aA,Array.length_toList,p2]
 refine wpAny_bind<|seqEpoch_at O rfl<|wpAny_bind<|listUpdate_at O rfl ?_ (hsz2:=nzL (Nat.le_of_eq N8) (by rw[sizeLine_eq];lia));rw[hf,N];simp only[bne_self_eq_false,gS,if_false];have Nn:((Lf.krun (ltT ts)<|kas_sort vs.length).toList.map λi=>vs.getD i Value.none)=(((Lf.krun (ltT ts)<|kas_sort vs.length).toList.map λi=>ts.getD i t0)).map λt=>Value.ref t.1:=by
  rw[bL];refine iN λi f=>?_;have M:i<vs.length:=by have:=(Array.perm_iff_toList_perm.mp V).mem_iff.mp f;simpa using this
  have H:i<ts.length:=by lia
  show vs.getD i Value.none=Value.ref (ts.getD i t0).1;rw[<-m,aU,bK,aU,aG H];rfl
 rw[Nn];refine wpAny_pure<|q _ ?_ ?_;have C:((Lf.krun (ltT ts)<|kas_sort vs.length).toList.map fun i=>ts.getD i t0).Perm<|(List.range vs.length).map fun i=>ts.getD i t0:=(Array.perm_iff_toList_perm.mp V).map _;have D:((List.range vs.length).map λi=>ts.getD i t0)=ts:=by rw[Af];refine List.ext_getElem? λk=>?_;rw[bK];by_cases Z:k<ts.length;rw [iO Z];show some (ts.getD k t0)=_;rw[aU,aG Z];rfl;rw [fM (l:=List.range ts.length) (by rw [bV]; lia),fM `a];rfl
 rw[D]at C;exact C;rw [List.pairwise_iff_getElem];intro i j f r Cr;rw[aA,Array.length_toList,p2]at f r;rw[List.getElem_map,List.getElem_map];have:=p3 i j (iJ Cr) r;unfold Lf.gk at this;rw[Array.getD_eq_getD_getElem?,Array.getD_eq_getD_getElem?,Array.getElem?_eq_getElem `a,Array.getElem?_eq_getElem `a]at this;simpa [ltT]using this
def o9{l}{ts}{Q}(p:s.heap.IsList l (ts.map λt=>Value.ref t.1).toArray)(f:∀t∈ts,TupI s.heap t.1 t.2/\t.2≠[])(m:2<=ts.length)(h:ts.length<64)
  (q:∀us:List TI2,us.Perm ts->(us.Pairwise λx y=>HT.lexLt y.2 x.2=false)->Q (.ref `l) { s with heap:=sortedAll s.heap (ts.map λt=>Value.ref t.1) (us.map λt=>Value.ref t.1).toArray }):wpAny `f A (call (.builtin "sorted") [.ref l]) Q E s:=by
 refine Calls.call_function_entry kind_sorted plain_sorted entry_sorted (args_sorted1 _) ?_;refine wpAny_bind<|wpAny_pure<|wpAny_bind<|collect_list p (wpAny_bind<|wpAny_newList ?_) (by rw[aA,sizeLine_eq];lia);have a:((s.heap.push<|seqObj "list" [].toArray 0).update s.heap.objs.size (Obj.mapSeq (· ++ (ts.map λt=>Value.ref t.1).toArray))).objs.size=s.heap.objs.size+1:=(iL ..).trans<|size_push' ..;have g:(((s.heap.push<|seqObj "list" [].toArray 0).update s.heap.objs.size (Obj.mapSeq (· ++ (ts.map λt=>Value.ref t.1).toArray))).push<|seqObj "list" (ts.map λt=>Value.ref t.1).toArray 0).get? `l=some (seqObj "list" (ts.map λt=>Value.ref t.1).toArray 0):=a ▸ aW _ rfl;have keep:∀b o,s.heap.get? b=some o->(((s.heap.push<|seqObj "list" [].toArray 0).update s.heap.objs.size (Obj.mapSeq (· ++ (ts.map λt=>Value.ref t.1).toArray))).push<|seqObj "list" (ts.map λt=>Value.ref t.1).toArray 0).get? b=some o:=λb o e => aD _<|(bC _ _<|fY<|aS e).trans<|aD _ e;rw[a];exact wpAny_bind<|wpAny_holding<|wpAny_call_entry slot_list_sort #[_,g,rfl] entry_list_sort (aIq g (λt c=>#[(f t c).1.keep λo e=>keep _ o e,(f t c).2]) (λt c=>by obtain⟨u,⟨o,r,_⟩,_⟩:=(f t c).1;exact bF<|fZ<|aS r) m h λus i j=>#[_,rfl,wpAny_pure #[_,rfl,q us i j]])<|args_list_sort _
end
section
variable{X:Cx}
def jz_:∀(us:List TI2),Vals (us.map λt=>V.ref t.1) (us.map λt=>Value.ref t.1)
 | []=>.nil
 |t::us=>.cons rfl<|jz_ us
def aAb(vs:S8):((vs.toArray.zip vs.toArray).map (·.2))=vs.toArray:=by apply Array.toList_inj.mp;rw[Array.toList_map,Array.toList_zip];exact List.map_snd_zip<|aO _
def aIr{prog}{w}{A}{E}{s}{a}{vs}{n}{P}(c:s.heap.get? a=some (seqObj "list" vs.toArray n))(l:vs.length<2)
  (q:P (.done<|.ret .none) { s with heap:=sortedHeap s.heap a vs vs.toArray }):wpAny `f A (Builtin.«list.sort» #[[.ref a],[]]) P E s:=by
 rw[list_sort_plain];have i:=aS c;have b:vs.toArray.size=vs.length:=aR;refine wpAny_bind<|listItems_at c rfl<|wpAny_bind<|listUpdate_at c rfl ?_ (by rw[b,sizeLine_eq];lia)<|bM _;obtain⟨j,h⟩:∃e,(s.heap.update a<|Obj.mapSeq λ_=>[].toArray).get? a=some (seqObj "list" [].toArray e):=#[_,get?_update_seq c<|λ_=>[].toArray];refine wpAny_bind<|seqEpoch_at h rfl<|wpAny_bind<|wpAny_newTuple<|wpAny_bind<|wpAny_newList<|wpAny_holding ?_;have g:(((s.heap.update a<|Obj.mapSeq λ_=>[].toArray).push<|seqObj "tuple" vs.toArray 0).push<|seqObj "list" [].toArray 0).get? a=some (seqObj "list" [].toArray j):=(Heap.get?_push_ne _ _ _ (by rw[size_push',iL];exact bF<|fZ i)).trans<|(Heap.get?_push_ne _ _ _ (by rw[iL];exact bF i)).trans h;have f:vs.toArray.size<2:=Nat.lt_of_succ_le l;rw[if_pos f,if_pos f];refine wpAny_bind<|wpAny_pure ?_;have m:((vs.toArray.zip vs.toArray).map (·.2)).size<=sizeLine:=by rw[aAb,b,sizeLine_eq];lia
 refine wpAny_bind<|wpAny_pure<|wpAny_bind<|seqEpoch_at g rfl<|wpAny_bind<|listUpdate_at g rfl ?_ (hsz2:=Nat.le_succ_of_le m);simp only[bne_self_eq_false,gS,if_false];refine wpAny_pure ?_;have e:=aAb vs;rw[e];exact q
def o_{prog}{w}{A}{E}{s}{l}{vs}{Q}(e:s.heap.IsList l vs.toArray)(c:vs.length<2)
  (q:Q (.ref `l) { s with heap:=sortedAll s.heap vs vs.toArray }):wpAny `f A (call (.builtin "sorted") [.ref l]) Q E s:=by
 refine Calls.call_function_entry kind_sorted plain_sorted entry_sorted (args_sorted1 _) ?_;refine wpAny_bind<|wpAny_pure<|wpAny_bind<|collect_list e (wpAny_bind<|wpAny_newList ?_) (by rw[sizeLine_eq];lia);have a:((s.heap.push<|seqObj "list" [].toArray 0).update s.heap.objs.size (Obj.mapSeq (· ++ vs.toArray))).objs.size=s.heap.objs.size+1:=(iL ..).trans<|size_push' ..;have b:(((s.heap.push<|seqObj "list" [].toArray 0).update s.heap.objs.size (Obj.mapSeq (· ++ vs.toArray))).push<|seqObj "list" vs.toArray 0).get? `l=some (seqObj "list" vs.toArray 0):=a ▸ aW _ rfl;rw[a];exact wpAny_bind<|wpAny_holding<|wpAny_call_entry slot_list_sort #[_,b,rfl] entry_list_sort (aIr b c #[_,rfl,wpAny_pure #[_,rfl,q]])<|args_list_sort _
def yF:CallR X (.builtin "sorted") (λxs H Q=>∃(p:Addr) (ts:List TI2),xs=[.ref p]/\SqL X.K H p (ts.map λt=>V.ref t.1)/\(∀t∈ts,SqT X.K H t.1 (t.2.map V.int)/\t.2≠[])/\ts.length<64 /\
  ∀us:List TI2,us.Perm ts->(us.Pairwise λx y=>HT.lexLt y.2 x.2=false)->∀l,H l=none->Q (.ref l) (upd H l<|.lst<|us.map λt=>V.ref t.1)):=by
 intro L s M H xs us Q I r h;obtain⟨p,ts,rfl,A,i,v,q⟩:=h;obtain⟨u,rfl,J⟩:=jN r;cases J;obtain⟨C,F,E,b⟩:=I.list A;have o:=wD F;have a:=E.isList;rw[o]at a;by_cases g:ts.length<2;refine o_ a (by rw [aA]; exact g) ?_;obtain⟨e,c⟩:=sortedAll_at s.heap (ts.map λt=>Value.ref t.1) (ts.map λt=>Value.ref t.1).toArray;refine#[.ref `l,_,I.laid (t':=s.toks) (λ_ _=>sortedAll_old) (Nat.le_succ _)<|show ObjOk X.prog X.w _ _ _ (.lst<|ts.map λt=>V.ref t.1)from#[b,ts.map λt=>Value.ref t.1,e,jz_ ts,c],rfl,q ts (List.Perm.refl _) ?_ _<|I.hok.fresh<|Nat.le_succ _]
 match ts,g with
 | [],_=>exact List.Pairwise.nil
 | [t],_=>exact List.pairwise_singleton _ _
 refine o9 a (λt j=>?_) `a v λus f z=>?_;obtain ⟨B,G,D,_⟩:=I.tuple (i t j).1;exact#[#[B,D,eo_ G],(i t j).2];obtain⟨e,c⟩:=sortedAll_at s.heap (ts.map λt=>Value.ref t.1) (us.map λt=>Value.ref t.1).toArray;have m:us.length=ts.length:=f.length_eq;refine#[.ref `l,_,I.laid (t':=s.toks) (λ_ _=>sortedAll_old) (Nat.le_succ _) (show ObjOk X.prog X.w _ _ _ (.lst<|us.map λt=>V.ref t.1)from#[by rw[aA,m];rw[aA]at b;exact b,us.map λt=>Value.ref t.1,e,jz_ us,c]),rfl,q us f z _<|I.hok.fresh<|Nat.le_succ _]
end
end L2
namespace Lf
open PySem
end Lf
namespace Lf
end Lf
namespace Lf
open PySem
end Lf
namespace Lf
inductive Vd where
 |num (n:Int)
 |row (vs:List Vd)
 |rcd (vs:List Vd)
 |cho (k:Nat) (v:Vd)
def bEx:Nat->Int->S7
 | 0,_=>[]
 |w+1,n=>n%256::bEx w (n/256)
def lay(l:S7)(p:Nat)(some:S7):S7:=l.mapIdx λi b=>if p<=i/\i<p+some.length then some.getD (i-p) 0 else b
def aLh(f:Vd->S7)(step:Nat):Nat->List Vd->S7->S7
 |_,[],l=>l
 |j,v::r,l=>aLh f step (j+1) r<|lay l (j*step)<|f v
mutual
def Kd.byt:Kd->Vd->S7
 | .num w _,.num n=>bEx w.toNat n
 | .row k n,.row vs=>aLh k.byt (up k.rm.1 k.rm.2).toNat 0 vs (List.replicate (n*up k.rm.1 k.rm.2).toNat 0)
 | .rcd fs,.rcd vs=>bHc (lX 0<|rmF fs) fs vs (List.replicate (zT<|rmF fs).1.toNat 0)
 | .cho ks,.cho k v=>lay ((List.replicate (uP<|rmK ks).1.toNat (0:Int)).set 0 (k:Int)) (up 1 (uP<|rmK ks).2).toNat (bHb ks k v)
 |_,_=>[]
def bHc:S7->List (PySem.Str×Kd)->List Vd->S7->S7
 |p::ps,f::r,v::vs,l=>bHc ps r vs (lay l p.toNat<|f.2.byt v)
 |_,_,_,l=>l
def bHb:T2->Nat->Vd->S7
 | [],_,_=>[]
 |k::_,0,v=>k.byt v
 |_::r,j+1,v=>bHb r j v
end
mutual
def Kd.Val:Kd->Vd->Prop
 | .num w _,.num n=>0<=n/\n<256^w.toNat
 | .row k n,.row vs=>(vs.length:Int)=n/\∀v∈vs,k.Val v
 | .rcd fs,.rcd vs=>jH fs vs
 | .cho ks,.cho k v=>vN ks k v
 |_,_=>False
def jH:List (PySem.Str×Kd)->List Vd->Prop
 | [],[]=>True
 |f::r,v::vs=>f.2.Val v/\jH r vs
 |_,_=>False
def vN:T2->Nat->Vd->Prop
 | [],_,_=>False
 |k::_,0,v=>k.Val v
 |_::r,j+1,v=>vN r j v
end
end Lf
namespace Lf
end Lf
namespace Lf
end Lf
namespace L2
open PySem PySem.Spec PyProof.Rows
section
variable{X:Cx}{g:gM}{f:St}{H:Hp}{s:Shared}{a:Addr}
def Inv.other(I:Inv X g f H s)(e:H a=some u)(F:∀y,u ≠ .own y)(t:∀xs,u ≠ .tup xs)(G:∀ps,u ≠ .tbl ps)(J:∀o v,X.H₀ a≠some (.frz o v))(j:ObjOk X.prog X.w (upd H a l) s.heap a l):Inv X g f (upd H a l) s:=by
 have i:∀{b:Addr},H b=none->b≠a:=λh z=>by rw[z,e]at h;cases h
 refine#[I.ok,I.os,I.bare,#[I.base.keep,I.base.slot,λb o B C D=>?_,I.base.there,λb xs h=>?_,λb o v h=>?_,λb ps h=>?_],I.loc,I.cell,?_,λx c h=>?_,λp E=>?_,λb v h=>?_,I.len];have:=I.base.free b o B C D;rw[dZ<|i this];exact this;have:=I.base.tups b xs h;rw[dZ (λz=>by rw[z,e]at this;exact t _<|ozI this)];exact this;have:=I.base.frzs b o v h;rw[dZ<|λz=>J o v (by rw[<-z];exact h)];exact this;obtain ⟨m,q⟩:=I.base.tbls b ps h;exact#[m,by rw[dZ (λz=>by rw[z,e]at q;exact G _<|ozI q)];exact q];rw[dZ<|i I.free];exact I.free;rw[dZ<|i<|I.freeC x c h];exact I.freeC x c h;obtain ⟨L,A,M⟩:=I.pin p E;exact#[L,by rw[dZ<|i A];exact A,M];by_cases r:b=a;subst r;rw[bY]at h;cases h;exact j;rw [dZ r] at h;refine(I.hok b v h).stay (λ_ _ _ q=>q) (λc q=>?_) λc xs q=>?_;rw[dZ (λz=>by rw[z,e]at q;exact F _<|ozI q)];exact q;rw[dZ (λz=>by rw[z,e]at q;exact t _<|ozI q)];exact q
def aMx(x:ObjOk P w H h a<|.dK kvs):ObjOk P w H' h a<|.dK kvs:=x
def Inv.freeze(I:Inv X g f H s)(e:H a=some (.dK kvs)):∃o,Inv X g f (upd H a<|.frz o<|.dK kvs) s:=by have x:=I.hok a _ e;obtain⟨_,_,j,r,o,h,c,b,i⟩:=id x;refine#[o,I.other e (λ_ z=>by cases z) (λ_ z=>by cases z) (λ_ z=>by cases z) (λo v z=>?_) #[b,aMx x]];have:=I.base.frzs a o v z;rw[e]at this;cases this
def Inv.thaw(I:Inv X g f H s)(e:H a=some (.frz o<|.dK kvs))(n:∀o v,X.H₀ a≠some (.frz o v)):Inv X g f (upd H a<|.dK kvs) s:=
 I.other e (λ_ z=>by cases z) (λ_ z=>by cases z) (λ_ z=>by cases z) n (aMx (I.hok a _ e).2)
end
def bJl(e:Hp)(t:TE):TE:=λf H Q=>∃a b,H a=some (.dK b)/\(∀o v,e a≠some (.frz o v))/\∀o,t f (upd H a<|.frz o<|.dK b) λv c=>c a=some (.frz o<|.dK b)/\Q v (upd c a<|.dK b)
def aWu(h:PE X e t):PE X e<|bJl X.H₀ t:=by intro b s y H Q I ⟨a,m,j,l,q⟩;obtain⟨o,f⟩:=I.freeze j;refine dR (h b s y _ _ f<|q o) λu A c=>?_;obtain⟨v,z,g,r,i,p⟩:=c;refine#[v,_,g.thaw i l,r,p]
def Itd(a:Addr)(o:Obj)(kvs:U2):It:=
 #[λi H=>H a=some (.frz o<|.dK kvs)/\i<kvs.length,λi H x c=>c=H/\∃b,kvs[i]? = some b/\x=kV b.1,λi H=>H a=some (.frz o<|.dK kvs)/\kvs.length<=i]
def bFp(h:(dX P w).is k u=true):RelV (kV k) u:=by
 cases k with
 |inl i=>exact Value.isInt_shape (k:=i) h
 |inr x=>exact Value.isStrOf_shape (x:=x) h
def KV.at'(r:KV kvs vs):∀{i:Nat} {a:Key×V},kvs[i]? = some a->∃u,vs[i]? = some (a.1,u):=by
 induction r with
 |nil=>intro i a h;simp at h
 | @cons p q ps qs hq t ih =>
  intro i a h;cases i with
  |zero=>simp at h;subst h;exact#[q.2,by simp[hq.1]]
  |succ i=>obtain⟨u,e⟩:=ih (i:=i) (by simpa using h);exact#[u,by simpa using e]
def e8(I:Inv X j t H s)(e:H a=some (.frz o<|.dK kvs))(i:o.data=.dict c b) :
  (a == sysModules)=false/\∃vs,KV kvs vs/\s.heap.DictAt (dX X.prog X.w) a vs b:=by
 obtain⟨f,_,y,vs,r,u,m,l,g,p,h,q⟩:=(show ObjOk X.prog X.w H s.heap a (.frz o<|.dK kvs)from I.hok a _ e);rw[f]at g;cases g;rw[i]at h;cases h;exact#[y,vs,r,o,c,f,p,i,q]
def aEh{P}{w}{K}{tg}(a it:Addr)(Cq:a≠it)(o:Obj)(kvs:U2)(Y:Array DictEntry)(O:Nat)(S:o.data=.dict Y O):Turn P w K tg (Itd a o kvs) [it] it (λi h=>h.IsKeyIter it a i kvs.length O)where
 mem:=by simp
 obj:=λi h f b g=>by
  have e:b=it:=by simpa using g
  subst e;obtain⟨o,e,c,d⟩:=f;exact#[o,e,λv z=>by rw[d]at z;cases z]
 keep:=λi h Q f k=>f.at λo e=>k it `g o e
 item:=by intro X G M F R i T s σ H E I m f L;subst G M F;obtain⟨J,p⟩:=L;obtain⟨y,vs,r,q⟩:=e8 I J S;obtain⟨t,A,Z,B,C,D⟩:=m it `g;have l:=r.length;obtain⟨u,x⟩:=r.at'<|aG p;rw[l]at f;refine wpAny_pyNext_dict_item f q x λN Q n j V=>?_;have U:=I.turned (t':=s.toks) (λb o g e=>(V.2 b g).trans e) t A B C D;rw[<-l]at j;obtain⟨o',e,c,d⟩:=id j;exact#[N,rfl,uF e c d rfl #[kV kvs[i].1,H,U,bFp n,#[rfl,_,aG p,rfl],j,λb g=>(m b g).1]]
 done:=by intro X G M F R i T s σ H E I m f L;subst G M F;obtain⟨J,p⟩:=L;obtain⟨y,vs,r,q⟩:=e8 I J S;obtain⟨t,A,Z,B,C,D⟩:=m it `g;have l:=r.length;rw[l]at f;exact wpAny_pyNext_dict_end (I.ok.hd R) f q (by simp;exact le_of_eq_of_le (id<|Eq.symm l) p) λQ W=>#[rfl,I.turned (t':=s.toks) (λb o g e=>W b o g e) t A B C D]
 self:=λ_ _ _ _ _ f h=>wpAny_pyIter_keyiter f h
def aMa(e:TE):TI:=λf H R=>e f H λx c=>∃a o b,x=.ref a/\c a=some (.frz o<|.dK b)/\R (Itd a o b) c
def aBl(i:PE X l tl):PI X tg l<|aMa tl:=by
 intro z s M H R I h;refine dR (i z s M H _ I h) λv c A=>?_;obtain⟨x,B,f,J,G⟩:=A;obtain⟨a,o,j,e,E,q⟩:=G;subst e;cases J;obtain⟨g,_,y,L,r,N,p,m,t,C,u,D⟩:=(f.hok a _ E);rw[g]at t;cases t;have i:=r.length;refine wpAny_pyIter_dict y (#[o,p,g,C,u,D]:c.heap.DictAt (dX X.prog X.w) a L m) ?_;refine#[c.heap.objs.size,[c.heap.objs.size],_,_,B,rfl,f.kept (t':=c.toks) λb o e=>aD _ e,aEh a _ (bF<|aS g) o j p m u,#[_,aW _ rfl,rfl,by rw[i];rfl],λb F=>?_,q];have e:b=c.heap.objs.size:=by simpa using F
 subst e;exact f.fpOk (aO _)<|f.hok.fresh<|aO _
section
variable{X:Cx}
def hv_(a:Int)(t:Tok){prog}{w}{A}{E}{s}{Q}(h:∀t',Q (.int (Builtin.Int.intBits a) t') { s with toks:=s.toks+1 }) :
  wpAny `f A (call (.builtin "int.bit_length") [.int a t]) Q E s:=by
 refine wpAny_call_entry F.slot_int_bit_length (typeIs_int s a t) F.entry_int_bit_length ?_<|F.args_int_bit_length_1 _;obtain⟨b,g,d,tk,c⟩:=s
 wp_walk
 exact#[_,rfl,h _]
def aTn:V->S3->Hp->VK->Prop:=λx a H Q=>∃i:Int,x=.int i/\a=[]/\Q (.int<|Builtin.Int.intBits i) H
def sF:MtR X "int.bit_length" aTn:=by intro c s j H x g v f Q I b a h;obtain⟨i,rfl,rfl,q⟩:=h;obtain⟨t,rfl⟩:=b;cases a;exact hv_ i t λe=>#[.int _,H,I.tok _,`r,q]
end
def xA:typeLookup (.type "list") "keys" = pure none:=by rw[typeLookup_type,builtinLookup_eq_fast];kernel_rfl
def cq_:entryFor table "dict.update.loop" = some Builtin.«dict.update.loop»:=entryFor_of_tree<|by kernel_rfl
def cp_:plainId "dict.update.loop" = true:=by decide +kernel
section
variable{prog:Program}{w:World}{A:Around}{E:hX}{s:Shared}
def qQ{a}{xs}{k}{Q}(l:s.heap.get? a=some { cls:=.type "list",data:=.seq xs k })(p:A.handled=none)
  (h:∀h' tk,(∀b o,s.heap.get? b=some o->h'.get? b=some o)->Q none { s with heap:=h',toks:=tk }):wpAny `f A (getAttr? `i "keys") Q E s:=by
 obtain⟨q,g,d,tk,r⟩:=s;have j:∀c,(#[q,g,d,c,r]:Shared).TypeIs `i "list":=λ_=>#[_,l,rfl];have t:=sub_AttributeError;have u:=F.slot_list_getattribute.lookup;have v:=F.slot_list_getattribute.bind `i;have y:=am_list_getattr_none;have m:(["__module__","__name__","__qualname__","__doc__","__annotations__"]:S4).contains "keys" = false:=by decide
 have f:("keys" : Str).length+100<=sizeLine:=by size_fits
 repeat (any_goals (first | assumption | exact j _ | ((with_reducible show wpAny _ _ (call (Value.builtin "list.__getattribute__") _ _) _ _ _);refine call_meets F.slot_list_getattribute (j _) am_entry_list_getattribute (F.args_list_getattribute_2 _ _) (meets_getattribute_miss_list a xs k [].toArray "keys" _ xA m f) #[l,p,λh' c e i=>?_]) | wp_step))
 obtain⟨B,C,z⟩:=i.there;unfold getattributeRaised
 repeat (any_goals (first | assumption | wp_step))
 exact h _ _ i.of.keeps
end
section
variable{prog:Program}{w:World}{A:Around}{R:Result->Shared->Prop}
def PairsAt(P:Program)(w:World)(h:Heap)(I d:Addr)(a:T8)(ps:List<|Key×Value):Prop:=
 ∀(j:Nat) (p:Key×Value),ps[j]? = some p->∃(T:Addr) (b:Value) (n:Nat) (o:Obj),a[j]? = some (Value.ref T)/\T≠I/\T≠d/\(dX P w).is p.1 b=true/\h.get? T=some o/\o.cls=.type "tuple" /\ o.data=.seq [b,p.2].toArray n
def PairsAt.keep(x:PairsAt P w h I d items ps)(k:∀b o,b≠I->b≠d->h.get? b=some o->h'.get? b=some o):PairsAt P w h' I d items ps:=λj p l=>by obtain⟨T,m,n,o,e,a,c,f,g,i⟩:=x j p l;exact#[T,m,n,o,e,a,c,f,k T o a c g,i]
def aFx(hh:A.in1.handled=none)(l I d:Addr)(m:I≠d)(Y:l≠I)(z:l≠d)(a:T8)(ps:List<|Key×Value)(E:ps.length=a.size)(hsz:ps.length<=sizeLine)(res:Value) :
  ∀(k i:Nat) (s:Shared),a.size-i=k->i<=a.size->s.heap.IsListIter I l i->s.heap.IsList l a->s.heap.DictOf (dX prog w) d (merged [] (ps.take i))->PairsAt prog w s.heap I d a ps ->
   (∀h' tk,(∀b o,b≠I->b≠d->s.heap.get? b=some o->h'.get? b=some o)->h'.DictOf (dX prog w) d (merged [] ps)->R (.ok<|.ret res) { s with heap:=h',toks:=tk }) ->
   codeAny `f A (.builtin "dict.update.loop" #[[.ref d,.ref I,rawInt i,res],[]]) R s:=by
 intro k
 induction k with
 |zero =>
  intro i s L hi h g f t u;have N:i=a.size:=by lia
  subst N;refine codeAny_builtin cq_ ?_;refine wpAny_bind<|wpAny_pyNext_list_end hh h g Array.getElem?_size λh' J=>?_;refine wpAny_bind<|wpAny_pure<|wpAny_pure ?_;refine u h' s.toks (λb o hb _ e=>J b o hb e) ?_;rw[<-E,List.take_length]at f;exact f.extBut J (Ne.symm m)
 |succ k ih =>
  intro i s L hi h g f t u;have D:i<a.size:=Nat.lt_of_sub_eq_succ L;have W:i<ps.length:=eI D<|id<|Eq.symm E;have B:=aG W;generalize ps[i]=p at B;obtain⟨T,kv,n,o,x,V,a3,a4,a5,a6,a7⟩:=t i p B;refine codeAny_builtin cq_ ?_;refine wpAny_bind<|wpAny_pyNext_list_item h g x λh' Z C=>?_;have c:=(C.2 T V).trans a5;refine wpAny_bind<|wpAny_holding ?_;refine wpAny_bind<|wpAny_tryCatch ?_;refine wpAny_bind<|wpAny_typeOf (#[o,c,a6]) ?_;refine wpAny_bind<|wpAny_seqItems c a7<|wpAny_pure ?_;refine wpAny_holding ?_;have U:=f.sameBut C<|Ne.symm m;have X:(merged [] (ps.take i)).length<=sizeLine:=by have:=merged_length_le ([]:List<|Key×Value)<|ps.take i;simp at this;lia
  refine wpAny_dictSet_pairs a4 U (λq O F=>?_) X;have j:∀b o,b≠I->b≠d->s.heap.get? b=some o->q.get? b=some o:=λb o v Q e=>(F.2 b Q).trans<|(C.2 b v).trans e;refine wpAny_pure #[plainId_quiet cp_ _,?_];have e1:rawInt ((i:Int)+1)=rawInt ((i+1:Nat):Int):=by simp
  refine ih (i+1) _ `a D ?_ ?_ ?_ (t.keep j) λr tk y S=>u r tk (λb o G H e=>y b o G H<|j b o G H e) S;exact Z.at λo e=>(F.2 I m).trans e;obtain ⟨M,h1,q,r⟩:=g;exact#[M,j l M Y z h1,q,r];rw [merged_take_succ [] ps i p B];exact O
end
section
variable{prog:Program}{w:World}{A:Around}{E:hX}{s:Shared}
def lo_{l}{xs}{c}{ps}{Q}(G:A.handled=none)(H:s.heap.get? l=some { cls:=.type "list",data:=.seq xs c })(I:ps.length=xs.size)(hsz:ps.length<=sizeLine)
  (U:∀(j:Nat) (p:Key×Value),ps[j]? = some p->∃(T:Addr) (q:Value) (n:Nat) (o:Obj),xs[j]? = some (Value.ref T)/\(dX prog w).is p.1 q=true/\s.heap.get? T=some o/\o.cls=.type "tuple" /\ o.data=.seq [q,p.2].toArray n)
  (h:∀h' tk,(∀b o,s.heap.get? b=some o->h'.get? b=some o)->h'.DictOf (dX prog w) s.heap.objs.size (merged [] ps)->Q `m { s with heap:=h',toks:=tk }) :
  wpAny `f A (call (.type "dict") [.ref l]) Q E s:=by
 have lt:∀{b:Addr} {o:Obj},s.heap.get? b=some o->b<s.heap.objs.size:=λe=>aS e;refine callType_codes (Q₁:=λobj a=>obj=.ref s.heap.objs.size/\a={ s with heap:=s.heap.push { cls:=.type "dict",data:=.dict [].toArray } }) F.kt_called_dict (F.kt_typeCall_dict_1 _) F.entry_dict_init (kt_code_dict_new _ #[rfl,rfl]) ?_;rintro obj a ⟨rfl,rfl⟩;have u:(s.heap.push { cls:=.type "dict",data:=.dict [].toArray }).DictOf (dX prog w) s.heap.objs.size []:=Heap.DictOf.new s.heap;have t:(s.heap.push { cls:=.type "dict",data:=.dict [].toArray }).get? l=some { cls:=.type "list",data:=.seq xs c }:=aD _ H;refine#[u.typeIs,F.args_dict_init_2 _ _,?_];refine wpAny_bind ?_;refine wpAny_bind<|wpAny_notOrdered_dict u.typeIs ?_;refine wpAny_pure ?_;show wpAny _ _ (Builtin.Dict.updateFrom "dict.__init__" s.heap.objs.size (.ref l) [] .none) _ _ _;refine wpAny_bind<|wpAny_typeOf (#[_,t,rfl]) ?_;refine wpAny_bind<|qQ t G λi v f=>?_;refine wpAny_bind<|wpAny_rule ?_;have z:=f _ _ t;have g:=aS<|f _ _<|aW _ rfl;refine wpAny_bind (wpAny_pyIter_list (s:={ s with heap:=i,toks:=v }) #[_,z,rfl,c,rfl] ?_);have m:∀b o,i.get? b=some o->(i.push { cls:=.type "list_iterator",data:=.fields [.ref l,.int 0 0].toArray }).get? b=some o:=λb o e=>aD _ e;have B:=lt H;refine wpAny_pure #[plainId_quiet cp_ _,aFx (A:=A.in1) G l i.objs.size s.heap.objs.size (fY g) (bF<|jE B g) (bF B) xs ps I hsz .none xs.size 0 _ (Nat.sub_zero xs.size) (bM _) #[_,aW _ rfl,rfl,rfl] #[_,m _ _ z,rfl,c,rfl] ?_ (λj p X=>?_) λS y Y J=>?_];obtain ⟨o,R,O,W,r⟩:=u;exact#[o,R,O,m _ _<|f _ _ W,r];obtain ⟨T,q,n,o,L,M,C,N⟩:=U j p X;have D:=lt C;exact#[T,q,n,o,L,bF<|jE D g,bF D,M,m _ _<|f _ _<|aD _ C,N];exact#[rfl,h S y (λb o e=>Y b o (bF<|jE (lt e) g) (bF<|lt e)<|m _ _<|f _ _<|aD _ e) J]
end
section
variable{X:Cx}
def qK(ok:HOk P w H h):∀{ys} {its} {kvs},Vals ys its->kvs.length=ys.length->(∀(j:Nat) (c:Key×V),kvs[j]? = some c->∃T:Addr,ys[j]? = some (.ref T)/\H T=some (.tup [kV c.1,c.2])) ->
  ∃ps:List<|Key×Value,KV kvs ps/\∀(j:Nat) (p:Key×Value),ps[j]? = some p->∃(T:Addr) (c:Value) (n:Nat) (o:Obj),its[j]? = some (Value.ref T)/\(dX P w).is p.1 c=true/\h.get? T=some o/\o.cls=.type "tuple" /\ o.data=.seq [c,p.2].toArray n
 |_,_,[],.nil,_,_=>#[[],.nil,λj p h=>by simp at h]
 |_,_,_::_,.nil,e,_=>by simp at e
 |_,_,[],.cons _ _,e,_=>by simp at e
 |_,_,c::kvs,.cons r t,e,hh=>by
  obtain⟨ps,k,q⟩:=qK ok t (kvs:=kvs) (by simpa using e) λj x y=>by obtain⟨T,a,b⟩:=hh (j+1) x (by simpa using y);exact#[T,by simpa using a,b]
  obtain⟨T,a,b⟩:=hh 0 c `g;simp at a;subst a;cases r;obtain⟨_,l,f,o,v,s,n,u⟩:=(ok T _ b);cases f with
  |cons C f =>
   cases f with
   |cons D f =>
    cases f;rename_i E F;refine#[(c.1,F)::ps,.cons #[rfl,D] k,λj p g=>?_];cases j with
    |zero => simp at g;subst g;exact#[T,E,n,o,by simp,d4 C,v,s,u]
    |succ j => obtain⟨m,i,A,B,z⟩:=q j p (by simpa using g);exact#[m,i,A,B,by simpa using z.1,z.2]
def iy_(v:X.calm=true):CallR X (.type "dict") (λxs H Q=>∃(l:Addr) (ys:S3) (kvs:U2),xs=[V.ref l]/\H l=some (.lst ys)/\kvs.length=ys.length/\(kvs.map (·.1)).Nodup /\
  (∀(j:Nat) (a:Key×V),kvs[j]? = some a->∃T:Addr,ys[j]? = some (.ref T)/\H T=some (.tup [kV a.1,a.2]))/\∀p,H p=none->Q (.ref p) (upd H p<|.dK kvs)):=by
 intro F s N H xs M Q I r h;obtain⟨l,ys,kvs,rfl,A,g,i,t,q⟩:=h;obtain⟨u,rfl,E⟩:=jN r;cases E;obtain⟨z,D,n,f,e⟩:=(I.hok l _ A);obtain⟨ps,k,o⟩:=qK I.hok f g t;have G:=k.length;have J:=f.length;have m:(ps.map (·.1)).Nodup:=by rw[<-KV.keys k];exact i
 refine lo_ (I.ok.hd v) e (ps:=ps) (by simp;lia) `a (λj p B=>by simpa using o j p B) λL tk y c=>?_;rw[merged_nil_of_nodup ps m]at c;exact#[.ref s.heap.objs.size,_,I.laid (t':=tk) (λb q C=>y b q C) (aO _)<|aMy `a (beq_eq_false_iff_ne.mpr<|Ne.symm<|bF I.big) k c,rfl,q _<|I.hok.fresh<|aO _]
end
end L2
namespace Lf
open PySem L2
def All2{b c:Type}(g:b->c->Prop):List b->List c->Prop
 | [],ys=>ys=[]
 |x::xs,ys=>∃y a,ys=y::a/\g x y/\All2 g xs a
section
variable{f c:Type}{g h:f->c->Prop}
def All2.nil:All2 g [] []:=rfl
def All2.imp(i:∀v x,g v x->h v x):∀{vs} {xs},All2 g vs xs->All2 h vs xs
 | [],_,e=>e
 |_::_,_,⟨x,xr,e,a,b⟩=>#[x,xr,e,i _ _ a,All2.imp i b]
def All2.len:∀{vs} {xs},All2 g vs xs->xs.length=vs.length
 | [],_,e=>by rw[show _=[]from e];rfl
 |_::_,_,⟨x,xr,e,a,b⟩=>by rw[e,aK,aK,All2.len b]
def All2.get:∀{vs} {xs} {i:Nat} {x:c},All2 g vs xs->xs[i]? = some x->∃v,vs[i]? = some v/\g v x
 | [],_,_,_,e,h=>by rw[show _=[]from e]at h;simp at h
 |v::vs,_,0,x,⟨y,yr,e,a,b⟩,h=>by rw[e]at h;cases(ozI h);exact#[v,rfl,a]
 |v::vs,_,i+1,x,⟨y,yr,e,a,b⟩,h=>by rw[e]at h;obtain⟨u,l,j⟩:=All2.get (i:=i) b (by simpa using h);exact#[u,by simpa using l,j]
def All2.at:∀{vs} {xs} {i:Nat} {v:f},All2 g vs xs->vs[i]? = some v->∃x,xs[i]? = some x/\g v x
 | [],_,_,_,e,h=>by simp at h
 |v::vs,_,0,w,⟨y,yr,e,a,b⟩,h=>by rw[e];cases(ozI h);exact#[y,rfl,a]
 |v::vs,_,i+1,w,⟨y,yr,e,a,b⟩,h=>by rw[e];obtain⟨u,l,j⟩:=All2.at (i:=i) b (by simpa using h);exact#[u,by simpa using l,j]
def All2.app(i:All2 g us ys):∀{vs} {xs},All2 g vs xs->All2 g (vs++us) (xs++ys)
 | [],_,e=>by rw[show _=[]from e];exact i
 |_::_,_,⟨y,yr,e,a,b⟩=>by rw[e];exact#[y,yr++ys,rfl,a,All2.app i b]
def All2.one{v:f}{x:c}(a:g v x):All2 g [v] [x]:=#[x,[],rfl,a,rfl]
def All2.snoc{v:f}{x:c}(a:g v x){vs}{xs}(h:All2 g vs xs):All2 g (vs++[v])<|xs++[x]:=All2.app (All2.one a) h
def All2.take:∀(n:Nat) {vs} {xs},All2 g vs xs->All2 g (vs.take n) (xs.take n)
 | 0,_,_,_=>by simp only[List.take_zero];rfl
 |n+1,[],_,e=>by rw[show _=[]from e];rfl
 |n+1,_::_,_,⟨y,yr,e,a,b⟩=>by rw[e];exact#[y,yr.take n,rfl,a,All2.take n b]
def All2.drop:∀(n:Nat) {vs} {xs},All2 g vs xs->All2 g (vs.drop n) (xs.drop n)
 | 0,_,_,h=>h
 |n+1,[],_,e=>by rw[show _=[]from e];rfl
 |n+1,_::_,_,⟨y,yr,e,a,b⟩=>by rw[e];exact All2.drop n b
def All2.rev:∀{vs} {xs},All2 g vs xs->All2 g vs.reverse xs.reverse
 | [],_,e=>by rw[show _=[]from e];rfl
 |_::_,_,⟨y,yr,e,a,b⟩=>by rw[e,List.reverse_cons,List.reverse_cons];exact All2.snoc a<|All2.rev b
def All2.set{v:f}{x:c}(j:g v x):∀(i:Nat) {vs} {xs},All2 g vs xs->All2 g (vs.set i v) (xs.set i x)
 |_,[],_,e=>by rw[show _=[]from e];rfl
 | 0,_::_,_,⟨y,yr,e,a,b⟩=>by rw[e];exact#[x,yr,rfl,j,b]
 |i+1,_::_,_,⟨y,yr,e,a,b⟩=>by rw[e];exact#[y,yr.set i x,rfl,a,All2.set j i b]
def All2.mk:∀{vs} {xs},xs.length=vs.length->(∀(i:Nat) (v:f) (x:c),vs[i]? = some v->xs[i]? = some x->g v x)->All2 g vs xs
 | [],xs,hl,_=>List.length_eq_zero_iff.mp hl
 |v::vs,[],hl,_=>by simp at hl
 |v::vs,x::xs,hl,hg=>#[x,xs,rfl,hg 0 v x rfl rfl,All2.mk (by simpa using hl) λi a b e j=>hg (i+1) a b (by simpa using e)<|by simpa using j]
end
inductive Dx where
 |non | bl (b:Bool) | int (i:Int) | str (x:Str) | tup (l:List Dx) | lst (l:List Dx) | dic (l:List (Key×Dx)) | scr (K:dN) (ns:S7)
 |ins (C:Addr) (fs:List (Str×Dx)) | exc (c:Value)
abbrev U1:=List<|Key×Dx
abbrev S1:=List Dx
def v_(a:Addr)(c:Value):Heap->Prop:=λh=>∃o b,h.get? a=some o/\o.cls=c/\o.data=.fields b/\o.dict=none
mutual
def IsX(H:Hp):Dx->V->Prop
 | .non,v=>v=.non
 | .bl b,v=>v=.bl b
 | .int i,v=>v=.int i
 | .str x,v=>v=.str x
 | .tup ds,v=>∃a e,v=.ref a/\H a=some (.tup e)/\IsXs H ds e
 | .lst ds,v=>∃a e,v=.ref a/\H a=some (.lst e)/\IsXs H ds e
 | .dic ks,v=>∃a f,v=.ref a/\Rd H a (.dK f)/\IsXk H ks f
 | .scr K ns,v=>∃a,v=.ref a/\SqL K H a (ns.map V.int)
 | .ins C fs,v=>∃a g f,v=.ref a/\H a=some (.ins C g f)/\IsXf H fs f
 | .exc c,v=>∃a,v=.ref a/\H a=some (.ext<|v_ a c)
def IsXs(H:Hp):S1->S3->Prop
 | [],vs=>vs=[]
 |d::r,vs=>∃v a,vs=v::a/\IsX H d v/\IsXs H r a
def IsXk(H:Hp):U1->U2->Prop
 | [],ws=>ws=[]
 |k::r,ws=>∃w a,ws=w::a/\(k.1=w.1/\IsX H k.2 w.2)/\IsXk H r a
def IsXf(H:Hp):List (Str×Dx)->U0->Prop
 | [],ws=>ws=[]
 |k::r,ws=>∃w a,ws=w::a/\(k.1=w.1/\IsX H k.2 w.2)/\IsXf H r a
end
def IsXs.all:∀{ds} {vs},IsXs H ds vs↔All2 (IsX H) ds vs
 | [],vs=>by simp only[IsXs,All2]
 |d::r,vs=>by constructor;rintro⟨v,c,e,a,b⟩;exact#[v,c,e,a,IsXs.all.mp b];rintro⟨v,c,e,a,b⟩;exact#[v,c,e,a,IsXs.all.mpr b]
abbrev KvX(H:Hp)(k:Key×Dx)(w:Key×V):Prop:=k.1=w.1/\IsX H k.2 w.2
def IsXk.all:∀{ds} {vs},IsXk H ds vs↔All2 (KvX H) ds vs
 | [],vs=>by simp only[IsXk,All2]
 |d::r,vs=>by constructor;rintro⟨v,c,e,a,b⟩;exact#[v,c,e,a,IsXk.all.mp b];rintro⟨v,c,e,a,b⟩;exact#[v,c,e,a,IsXk.all.mpr b]
abbrev FvX(H:Hp)(k:Str×Dx)(w:Str×V):Prop:=k.1=w.1/\IsX H k.2 w.2
def IsXf.all:∀{ds} {vs},IsXf H ds vs↔All2 (FvX H) ds vs
 | [],vs=>by simp only[IsXf,All2]
 |d::r,vs=>by constructor;rintro⟨v,c,e,a,b⟩;exact#[v,c,e,a,IsXf.all.mp b];rintro⟨v,c,e,a,b⟩;exact#[v,c,e,a,IsXf.all.mpr b]
def SameF(H c:Hp):Prop:=∀b o,H b=some o->c b=some o\/∃ob a,(o=.dK a/\c b=some (.frz ob<|.dK a))\/(o=.frz ob (.dK a)/\c b=some (.dK a))
def SameF.of(e:Same H H'):SameF H H':=λb o h=>.inl<|e _ _ h
def SameF.tup(e:SameF H H')(h:H a=some (.tup vs)):H' a=some (.tup vs):=by
 rcases e _ _ h with q | ⟨ob,b,q | q⟩
 exact q;cases q.1;cases q.1
def SameF.lst(e:SameF H H')(h:H a=some (.lst vs)):H' a=some (.lst vs):=by
 rcases e _ _ h with q | ⟨ob,b,q | q⟩
 exact q;cases q.1;cases q.1
def SameF.dic(e:SameF H H')(h:Rd H a<|.dK b):Rd H' a<|.dK b:=by
 rcases h with h | ⟨o,h⟩
 rcases e _ _ h with q | ⟨ob,b,q | q⟩
 exact .inl q;obtain⟨c,f⟩:=q;cases c;exact .inr #[_,f];cases q.1;rcases e _ _ h with q | ⟨ob,b,q | q⟩
 exact .inr #[_,q];cases q.1;obtain⟨c,f⟩:=q;cases c;exact .inl f
def SameF.ins(e:SameF H H')(h:H a=some (.ins C dx b)):H' a=some (.ins C dx b):=by
 rcases e _ _ h with q | ⟨ob,b,q | q⟩
 exact q;cases q.1;cases q.1
def SameF.ext(e:SameF H H')(h:H a=some (.ext φ)):H' a=some (.ext φ):=by
 rcases e _ _ h with q | ⟨ob,b,q | q⟩
 exact q;cases q.1;cases q.1
def SameF.sq(e:SameF H H')(h:SqL K H a xs):SqL K H' a xs:=by
 rcases h with(h | ⟨o,h⟩) | h
 exact .inl<|.inl<|e.lst h;rcases e _ _ h with q | ⟨ob,b,q | q⟩
 exact .inl<|.inr #[o,q];cases q.1;cases q.1;exact .inr h
mutual
def IsX.sameF{H l:Hp}(e:SameF H l):∀(d:Dx) (v:V),IsX H d v->IsX l d v
 | .non,v,h=>by simpa only[IsX]using h
 | .bl _,v,h=>by simpa only[IsX]using h
 | .int _,v,h=>by simpa only[IsX]using h
 | .str _,v,h=>by simpa only[IsX]using h
 | .tup ds,v,h=>by simp only[IsX]at h ⊢;obtain⟨a,i,b,f,g⟩:=h;exact#[a,i,b,e.tup f,IsXs.sameF e ds i g]
 | .lst ds,v,h=>by simp only[IsX]at h ⊢;obtain⟨a,i,b,f,g⟩:=h;exact#[a,i,b,e.lst f,IsXs.sameF e ds i g]
 | .dic ks,v,h=>by simp only[IsX]at h ⊢;obtain⟨a,j,b,f,g⟩:=h;exact#[a,j,b,e.dic f,IsXk.sameF e ks j g]
 | .scr K ns,v,h=>by simp only[IsX]at h ⊢;obtain⟨a,b,f⟩:=h;exact#[a,b,e.sq f]
 | .ins C fs,v,h=>by simp only[IsX]at h ⊢;obtain⟨a,m,j,b,f,g⟩:=h;exact#[a,m,j,b,e.ins f,IsXf.sameF e fs j g]
 | .exc c,v,h=>by simp only[IsX]at h ⊢;obtain⟨a,b,f⟩:=h;exact#[a,b,e.ext f]
def IsXs.sameF{H a:Hp}(e:SameF H a):∀(ds:S1) (vs:S3),IsXs H ds vs->IsXs a ds vs
 | [],vs,h=>by simpa only[IsXs]using h
 |d::r,vs,h=>by simp only[IsXs]at h ⊢;obtain⟨v,b,c,f,g⟩:=h;exact#[v,b,c,IsX.sameF e d v f,IsXs.sameF e r b g]
def IsXk.sameF{H a:Hp}(e:SameF H a):∀(ds:U1) (f:U2),IsXk H ds f->IsXk a ds f
 | [],vs,h=>by simpa only[IsXk]using h
 |d::r,vs,h=>by simp only[IsXk]at h ⊢;obtain⟨v,c,g,b,i⟩:=h;exact#[v,c,g,#[b.1,IsX.sameF e d.2 v.2 b.2],IsXk.sameF e r c i]
def IsXf.sameF{H a:Hp}(e:SameF H a):∀(ds:List<|Str×Dx) (f:U0),IsXf H ds f->IsXf a ds f
 | [],vs,h=>by simpa only[IsXf]using h
 |d::r,vs,h=>by simp only[IsXf]at h ⊢;obtain⟨v,c,g,b,i⟩:=h;exact#[v,c,g,#[b.1,IsX.sameF e d.2 v.2 b.2],IsXf.sameF e r c i]
end
def IsX.toF(h:IsX H d v)(e:SameF H H'):IsX H' d v:=IsX.sameF e d v h
def IsX.to(h:IsX H d v)(e:Same H H'):IsX H' d v:=IsX.sameF (.of e) d v h
def IsX.int_eq(h:IsX H (.int i) v):v=.int i:=by simpa only[IsX]using h
def IsX.bl_eq(h:IsX H (.bl i) v):v=.bl i:=by simpa only[IsX]using h
def IsX.str_eq(h:IsX H (.str i) v):v=.str i:=by simpa only[IsX]using h
def IsX.non_eq(h:IsX H .non v):v=.non:=by simpa only[IsX]using h
def IsX.tup_eq(h:IsX H (.tup l) v):∃a vs,v=.ref a/\H a=some (.tup vs)/\All2 (IsX H) l vs:=by obtain⟨a,vs,b,c,e⟩:=h;exact#[a,vs,b,c,IsXs.all.mp e]
def IsX.lst_eq(h:IsX H (.lst l) v):∃a vs,v=.ref a/\H a=some (.lst vs)/\All2 (IsX H) l vs:=by obtain⟨a,vs,b,c,e⟩:=h;exact#[a,vs,b,c,IsXs.all.mp e]
def IsX.dic_eq(h:IsX H (.dic l) v):∃a b,v=.ref a/\Rd H a (.dK b)/\All2 (KvX H) l b:=by obtain⟨a,g,c,e,f⟩:=h;exact#[a,g,c,e,IsXk.all.mp f]
def IsX.scr_eq(h:IsX H (.scr K ns) v):∃a,v=.ref a/\SqL K H a (ns.map V.int):=by simpa only[IsX]using h
def IsX.of_scr(h:SqL K H a<|ns.map V.int):IsX H (.scr K ns) `i:=by simp only[IsX];exact#[a,rfl,h]
def IsX.ins_eq(h:IsX H (.ins C fs) v):∃a dx b,v=.ref a/\H a=some (.ins C dx b)/\All2 (FvX H) fs b:=by obtain⟨a,dx,b,c,e,f⟩:=h;exact#[a,dx,b,c,e,IsXf.all.mp f]
def IsX.exc_eq(h:IsX H (.exc c) v):∃a,v=.ref a/\H a=some (.ext<|v_ a c):=by simpa only[IsX]using h
def IsX.of_ins{H}{C a dx}{fs}{ws}(h:H a=some (.ins C dx ws))(h':All2 (FvX H) fs ws):IsX H (.ins C fs) `i:=by simp only[IsX];exact#[a,dx,ws,rfl,h,IsXf.all.mpr h']
def IsX.of_exc{H}{c}{a}(h:H a=some (.ext<|v_ a c)):IsX H (.exc c) `i:=by simp only[IsX];exact#[a,rfl,h]
def IsX.of_int(i:Int):IsX H (.int i)<|.int i:=by simp only[IsX]
def IsX.of_bl(i:Bool):IsX H (.bl i)<|.bl i:=by simp only[IsX]
def IsX.of_str(i:Str):IsX H (.str i)<|.str i:=by simp only[IsX]
def IsX.of_non:IsX H .non .non:=by simp only[IsX]
def IsX.of_tup{H}{l}{a}{vs}(h:H a=some (.tup vs))(h':All2 (IsX H) l vs):IsX H (.tup l) `i:=by simp only[IsX];exact#[a,vs,rfl,h,IsXs.all.mpr h']
def IsX.of_lst{H}{l}{a}{vs}(h:H a=some (.lst vs))(h':All2 (IsX H) l vs):IsX H (.lst l) `i:=by simp only[IsX];exact#[a,vs,rfl,h,IsXs.all.mpr h']
def IsX.of_dic(h:Rd H a<|.dK vs)(h':All2 (KvX H) l vs):IsX H (.dic l) `i:=by simp only[IsX];exact#[a,vs,rfl,h,IsXk.all.mpr h']
inductive Ow where
 |tr (d:Dx) | ol (a:Addr) (l:List Ow) | od (a:Addr) (l:List (Key×Ow)) | oi (C a dx:Addr) (l:List (Str×Ow)) | ot (l:List Ow)
abbrev U4:=List Ow
mutual
def Ow.d:Ow->Dx
 | .tr d=>d
 | .ol _ l=>.lst (wN l)
 | .od _ l=>.dic (aKh l)
 | .oi C _ _ l=>.ins C (aEw l)
 | .ot l=>.tup<|wN l
def wN:U4->S1
 | []=>[]
 |o::r=>o.d::wN r
def aKh:List (Key×Ow)->U1
 | []=>[]
 |o::r=>(o.1,o.2.d)::aKh r
def aEw:List (Str×Ow)->List (Str×Dx)
 | []=>[]
 |o::r=>(o.1,o.2.d)::aEw r
end
mutual
def Ow.fp:Ow->T4
 | .tr _=>[]
 | .ol a l=>a::jS l
 | .od a l=>a::wM l
 | .oi _ a dx l=>a::dx::fP l
 | .ot l=>jS l
def jS:U4->T4
 | []=>[]
 |o::r=>o.fp++jS r
def wM:List (Key×Ow)->T4
 | []=>[]
 |o::r=>o.2.fp++wM r
def fP:List (Str×Ow)->T4
 | []=>[]
 |o::r=>o.2.fp++fP r
end
mutual
def OwOk(G H:Hp):Ow->V->Prop
 | .tr d,v=>IsX G d v
 | .ol a l,v=>v=.ref a/\∃b,H a=some (.lst b)/\OwOks G H l b
 | .od a l,v=>v=.ref a/\∃c,H a=some (.dK c)/\OwOkk G H l c
 | .oi C a dx l,v=>v=.ref a/\∃c,H a=some (.ins C dx c)/\H dx=some (.own a)/\OwOkf G H l c
 | .ot l,v=>∃a b,v=.ref a/\G a=some (.tup b)/\OwOks G H l b
def OwOks(G H:Hp):U4->S3->Prop
 | [],vs=>vs=[]
 |o::r,vs=>∃v a,vs=v::a/\OwOk G H o v/\OwOks G H r a
def OwOkk(G H:Hp):List (Key×Ow)->U2->Prop
 | [],vs=>vs=[]
 |o::r,vs=>∃v a,vs=v::a/\(o.1=v.1/\OwOk G H o.2 v.2)/\OwOkk G H r a
def OwOkf(G H:Hp):List (Str×Ow)->U0->Prop
 | [],vs=>vs=[]
 |o::r,vs=>∃v a,vs=v::a/\(o.1=v.1/\OwOk G H o.2 v.2)/\OwOkf G H r a
end
section
variable{G f H c:Hp}
mutual
def OwOk.mono(e:SameF G f):∀(o:Ow) (v:V),(∀b∈o.fp,c b=H b)->OwOk G H o v->OwOk f c o v
 | .tr d,v,_,h=>by simp only[OwOk]at h ⊢;exact h.toF e
 | .ol a l,v,k,h=>by simp only[OwOk,Ow.fp]at h k ⊢;obtain⟨i,g,j,m⟩:=h;exact#[i,g,by rw[k a aB];exact j,OwOks.mono e l g (λb p=>k b<|aC _ p) m]
 | .od a l,v,k,h=>by simp only[OwOk,Ow.fp]at h k ⊢;obtain⟨i,g,j,m⟩:=h;exact#[i,g,by rw[k a aB];exact j,OwOkk.mono e l g (λb p=>k b<|aC _ p) m]
 | .oi C a dx l,v,k,h=>by simp only[OwOk,Ow.fp]at h k ⊢;obtain⟨i,g,j,q,m⟩:=h;exact#[i,g,by rw[k a aB];exact j,by rw[k dx<|aC _ aB];exact q,OwOkf.mono e l g (λb p=>k b<|aC _<|aC _ p) m]
 | .ot l,v,k,h=>by simp only[OwOk,Ow.fp]at h k ⊢;obtain⟨a,g,i,j,m⟩:=h;exact#[a,g,i,e.tup j,OwOks.mono e l g k m]
def OwOks.mono(e:SameF G f):∀(l:U4) (vs:S3),(∀b∈jS l,c b=H b)->OwOks G H l vs->OwOks f c l vs
 | [],vs,_,h=>by simpa only[OwOks]using h
 |o::r,vs,k,h=>by simp only[OwOks,jS]at h k ⊢;obtain⟨v,g,i,j,m⟩:=h;exact#[v,g,i,OwOk.mono e o v (λb a=>k b<|aM _ a) j,OwOks.mono e r g (λb a=>k b<|aJ _ a) m]
def OwOkk.mono(e:SameF G f):∀(l:List<|Key×Ow) (vs:U2),(∀b∈wM l,c b=H b)->OwOkk G H l vs->OwOkk f c l vs
 | [],vs,_,h=>by simpa only[OwOkk]using h
 |o::r,vs,k,h=>by simp only[OwOkk,wM]at h k ⊢;obtain⟨v,i,j,g,m⟩:=h;exact#[v,i,j,#[g.1,OwOk.mono e o.2 v.2 (λb a=>k b<|aM _ a) g.2],OwOkk.mono e r i (λb a=>k b<|aJ _ a) m]
def OwOkf.mono(e:SameF G f):∀(l:List<|Str×Ow) (vs:U0),(∀b∈fP l,c b=H b)->OwOkf G H l vs->OwOkf f c l vs
 | [],vs,_,h=>by simpa only[OwOkf]using h
 |o::r,vs,k,h=>by simp only[OwOkf,fP]at h k ⊢;obtain⟨v,i,j,g,m⟩:=h;exact#[v,i,j,#[g.1,OwOk.mono e o.2 v.2 (λb a=>k b<|aM _ a) g.2],OwOkf.mono e r i (λb a=>k b<|aJ _ a) m]
end
def aSz(H:Hp)(b:Addr):Prop:=∃o,H b=some o/\(∀ob u,o ≠ .frz ob u)/\∀a,o ≠ .tup a
mutual
def OwOk.there:∀(o:Ow) (v:V),OwOk G H o v->∀b∈o.fp,aSz H b
 | .tr d,v,_,b,c=>by simp only[Ow.fp]at c;cases c
 | .ol a l,v,h,b,c=>by
  simp only[OwOk,Ow.fp]at h c;obtain⟨i,f,g,e⟩:=h;rcases aE.mp c with rfl | c
  exact#[_,g,(λ_ _ z=>nomatch z),λ_ z=>nomatch z];exact OwOks.there l f e b c
 | .od a l,v,h,b,c=>by
  simp only[OwOk,Ow.fp]at h c;obtain⟨i,f,g,e⟩:=h;rcases aE.mp c with rfl | c
  exact#[_,g,(λ_ _ z=>nomatch z),λ_ z=>nomatch z];exact OwOkk.there l f e b c
 | .oi C a dx l,v,h,b,c=>by
  simp only[OwOk,Ow.fp]at h c;obtain⟨i,f,g,j,e⟩:=h;rcases aE.mp c with rfl | c
  exact#[_,g,(λ_ _ z=>nomatch z),λ_ z=>nomatch z];rcases aE.mp c with rfl | c
  exact#[_,j,(λ_ _ z=>nomatch z),λ_ z=>nomatch z];exact OwOkf.there l f e b c
 | .ot l,v,h,b,c=>by simp only[OwOk,Ow.fp]at h c;obtain⟨a,f,i,g,e⟩:=h;exact OwOks.there l f e b c
def OwOks.there:∀(l:U4) (vs:S3),OwOks G H l vs->∀b∈jS l,aSz H b
 | [],vs,_,b,a=>by simp only[jS]at a;cases a
 |o::r,vs,h,b,a=>by
  simp only[OwOks,jS]at h a;obtain⟨v,f,g,c,e⟩:=h;rcases aX.mp a with a | a
  exact OwOk.there o v c b a;exact OwOks.there r f e b a
def OwOkk.there:∀(l:List<|Key×Ow) (vs:U2),OwOkk G H l vs->∀b∈wM l,aSz H b
 | [],vs,_,b,a=>by simp only[wM]at a;cases a
 |o::r,vs,h,b,a=>by
  simp only[OwOkk,wM]at h a;obtain⟨v,f,g,c,e⟩:=h;rcases aX.mp a with a | a
  exact OwOk.there o.2 v.2 c.2 b a;exact OwOkk.there r f e b a
def OwOkf.there:∀(l:List<|Str×Ow) (vs:U0),OwOkf G H l vs->∀b∈fP l,aSz H b
 | [],vs,_,b,a=>by simp only[fP]at a;cases a
 |o::r,vs,h,b,a=>by
  simp only[OwOkf,fP]at h a;obtain⟨v,f,g,c,e⟩:=h;rcases aX.mp a with a | a
  exact OwOk.there o.2 v.2 c.2 b a;exact OwOkf.there r f e b a
end
mutual
def OwOk.tree(e:SameF G G'):∀(o:Ow) (v:V),(∀b∈o.fp,G' b=H b)->OwOk G H o v->IsX G' o.d v
 | .tr d,v,_,h=>by simp only[OwOk,Ow.d]at h ⊢;exact h.toF e
 | .ol a l,v,k,h=>by simp only[OwOk,Ow.fp,Ow.d]at h k ⊢;obtain⟨c,i,f,g⟩:=h;subst c;exact IsX.of_lst (by rw[k a aB];exact f) (OwOks.tree e l i (λb j=>k b<|aC _ j) g)
 | .od a l,v,k,h=>by simp only[OwOk,Ow.fp,Ow.d]at h k ⊢;obtain⟨c,i,f,g⟩:=h;subst c;exact IsX.of_dic (.inl (by rw[k a aB];exact f)) (OwOkk.tree e l i (λb j=>k b<|aC _ j) g)
 | .oi C a dx l,v,k,h=>by simp only[OwOk,Ow.fp,Ow.d]at h k ⊢;obtain⟨c,i,f,m,g⟩:=h;subst c;exact IsX.of_ins (by rw[k a aB];exact f) (OwOkf.tree e l i (λb j=>k b<|aC _<|aC _ j) g)
 | .ot l,v,k,h=>by simp only[OwOk,Ow.fp,Ow.d]at h k ⊢;obtain⟨a,i,c,f,g⟩:=h;subst c;exact IsX.of_tup (e.tup f)<|OwOks.tree e l i k g
def OwOks.tree(e:SameF G G'):∀(l:U4) (vs:S3),(∀b∈jS l,G' b=H b)->OwOks G H l vs->All2 (IsX G') (wN l) vs
 | [],vs,_,h=>by simpa only[OwOks,wN,All2]using h
 |o::r,vs,k,h=>by simp only[OwOks,jS,wN]at h k ⊢;obtain⟨v,c,f,g,i⟩:=h;exact#[v,c,f,OwOk.tree e o v (λb a=>k b<|aM _ a) g,OwOks.tree e r c (λb a=>k b<|aJ _ a) i]
def OwOkk.tree(e:SameF G G'):∀(l:List<|Key×Ow) (vs:U2),(∀b∈wM l,G' b=H b)->OwOkk G H l vs->All2 (KvX G') (aKh l) vs
 | [],vs,_,h=>by simpa only[OwOkk,aKh,All2]using h
 |o::r,vs,k,h=>by simp only[OwOkk,wM,aKh]at h k ⊢;obtain⟨v,f,g,c,i⟩:=h;exact#[v,f,g,#[c.1,OwOk.tree e o.2 v.2 (λb a=>k b<|aM _ a) c.2],OwOkk.tree e r f (λb a=>k b<|aJ _ a) i]
def OwOkf.tree(e:SameF G G'):∀(l:List<|Str×Ow) (vs:U0),(∀b∈fP l,G' b=H b)->OwOkf G H l vs->All2 (FvX G') (aEw l) vs
 | [],vs,_,h=>by simpa only[OwOkf,aEw,All2]using h
 |o::r,vs,k,h=>by simp only[OwOkf,fP,aEw]at h k ⊢;obtain⟨v,f,g,c,i⟩:=h;exact#[v,f,g,#[c.1,OwOk.tree e o.2 v.2 (λb a=>k b<|aM _ a) c.2],OwOkf.tree e r f (λb a=>k b<|aJ _ a) i]
end
end
inductive Sv where
 |tr (d:Dx) | ol (l:S1) | od (l:U1) | ow (o:Ow)
def Sv.d:Sv->Dx
 | .tr d=>d
 | .ol l=>.lst l
 | .od l=>.dic l
 | .ow o=>o.d
inductive Sl where
 |un | v (s:Sv) | bw (l:S1) | bo (o:Ow) | pn (v:V) | ba (a:Addr) (l:S1)
abbrev T1:=List Sl
abbrev vT(d:Dx):Sl:=.v<|.tr d
abbrev Rw:=Sl×T5
abbrev S9:=List Rw
def eL:Rw->T4
 |(.v<|.ol _,some<|.ref a)=>[a]
 |(.v<|.od _,some<|.ref a)=>[a]
 |(.bw _,some<|.ref a)=>[a]
 |(.v<|.ow o,_)=>o.fp
 |(.bo o,_)=>o.fp
 |(.ba a _,_)=>[a]
 |_=>[]
def bD(P:S9):T4:=P.flatMap eL
def hid(O:T4)(H:Hp):Hp:=λb=>if b∈O then none else H b
def bB:hid O H b=some o↔b∉O/\H b=some o:=by unfold hid;by_cases h:b∈O;rw[if_pos h];simp[h];rw[if_neg h];simp[h]
def jr_(e:Same H H'):Same (hid O H)<|hid O H':=λb o h=>bB.mpr #[(bB.mp h).1,e _ _ (bB.mp h).2]
def lF(e:∀a∈O',a∈O):Same (hid O H)<|hid O' H:=λb o h=>bB.mpr #[λz=>(bB.mp h).1<|e _ z,(bB.mp h).2]
def aCr:Same (hid O H) H:=λb o h=>(bB.mp h).2
def nf:Option HO->Option HO
 |some (.frz _ _)=>none
 |o=>o
def oF(h:nf x=some o):x=some o:=by unfold nf at h;split at h;cases h;exact h
def ku_(h:nf x=some o)(e:∀o,x=some o->y=some o):nf y=some o:=by have a:=oF h;rw[a]at h;rw[e o a];exact h
def ext(c a H:Hp):Hp:=λb=>match a b with | none=>nf (H b) | some _=>c b
def kQ{Hs H0 H}{b}(h:H0 b=none):ext Hs H0 H b=nf (H b):=by unfold ext;rw[h]
def kH{Hs H0 H}{b}{o}(h:H0 b=some o):ext Hs H0 H b=Hs b:=by unfold ext;rw[h]
def eh_(e:Same H H'):Same (ext Hs H0 H)<|ext Hs H0 H':=λb o h=>by
 cases q:H0 b with
 |none=>rw[kQ q]at h ⊢;exact ku_ h (e b)
 |some u=>rw[kH q]at h ⊢;exact h
def RowOk(O:T4)(G H:Hp):Rw->Prop
 |(.un,_)=>True
 |(.pn w,v)=>v=some w
 |(.v<|.tr d,v)=>∃x,v=some x/\IsX (hid O G) d x
 |(.v<|.ol l,v)=>∃a b,v=some `i/\H a=some (.lst b)/\All2 (IsX<|hid O G) l b
 |(.v<|.od l,v)=>∃a c,v=some `i/\H a=some (.dK c)/\All2 (KvX<|hid O G) l c
 |(.bw l,v)=>∃a b,v=some `i/\H a=some (.lst b)/\All2 (IsX<|hid O G) l b
 |(.v<|.ow o,v)=>∃x,v=some x/\OwOk (hid O G) H o x
 |(.bo o,v)=>∃x,v=some x/\OwOk (hid O G) H o x
 |(.ba a l,v)=>v=some `i/\∃b,H a=some (.lst b)/\All2 (IsX<|hid O G) l b
def KvX.toF{w}(h:KvX H k w)(e:SameF H H'):KvX H' k w:=#[h.1,h.2.toF e]
def KvX.to{w}(h:KvX H k w)(e:Same H H'):KvX H' k w:=#[h.1,h.2.to e]
def RowOk.mono(h:RowOk O G H r)(e:SameF (hid O G)<|hid O' G')(b:∀a∈eL r,H' a=H a):RowOk O' G' H' r:=by
 match r,h,b with
 |(.un,_),_,_=>trivial
 |(.pn w,v),h,_=>exact h
 |(.v<|.tr d,v),⟨x,h1,h2⟩,_=>exact#[x,h1,h2.toF e]
 |(.v<|.ol l,v),⟨a,vs,h1,h2,h3⟩,b => subst h1;exact#[a,vs,rfl,by rw[b a<|aF.mpr rfl];exact h2,h3.imp λ_ _ z=>z.toF e]
 |(.v<|.od l,v),⟨a,vs,h1,h2,h3⟩,b => subst h1;exact#[a,vs,rfl,by rw[b a<|aF.mpr rfl];exact h2,h3.imp λ_ _ z=>z.toF e]
 |(.bw l,v),⟨a,vs,h1,h2,h3⟩,b => subst h1;exact#[a,vs,rfl,by rw[b a<|aF.mpr rfl];exact h2,h3.imp λ_ _ z=>z.toF e]
 |(.v<|.ow o,v),⟨x,h1,h2⟩,b=>exact#[x,h1,OwOk.mono e o x b h2]
 |(.bo o,v),⟨x,h1,h2⟩,b=>exact#[x,h1,OwOk.mono e o x b h2]
 |(.ba a l,v),⟨h1,vs,h2,h3⟩,b=>exact#[h1,vs,by rw[b a<|aF.mpr rfl];exact h2,h3.imp λ_ _ z=>z.toF e]
structure Fm where
 H0:Hp
 Hs:Hp
 B:T4
 sub:Same Hs H0
 nb:∀b∈B,Hs b=none
 ib:∀b∈B,∃o,H0 b=some o
abbrev Fm.vis(F:Fm)(H:Hp):Hp:=ext F.Hs F.H0 H
def FrOk(F:Fm)(r:Rw)(a:Addr):Prop:=match r.1 with
 | .bw _=>a∈F.B
 | .bo _=>a∈F.B\/F.H0 a=none
 | .ba _ _=>a∈F.B
 |_=>F.H0 a=none
def FrOk.or(h:FrOk F r a):a∈F.B\/F.H0 a=none:=by unfold FrOk at h;split at h;exact .inl h;exact h;exact .inl h;exact .inr h
structure Rep(F:Fm)(P:S9)(H:Hp):Prop where
 nd:(bD P).Nodup
 ok:∀r∈P,RowOk (bD P) (F.vis H) H r
 fr:∀r∈P,∀a∈eL r,FrOk F r a
 kp:∀b o,F.H0 b=some o->b∉F.B->H b=some o
 lv:∀b∈F.B,∃o,H b=some o
section
variable{F:Fm}{P P':S9}{H m:Hp}{r i:Rw}{d:Dx}{v:V}{a p:Addr}{l l':S1}{vs A:S3}{k j:U1}{g f:U2}{s:Sv}{x:T5}
def iT:bD (r::P)=eL r++bD P:=by unfold bD;rw[List.flatMap_cons]
def oS:bD (P++P')=bD P++bD P':=by unfold bD;rw[iP]
def mZ(h:eL r=[a]):bD (r::P)=a::bD P:=by rw[iT,h];rfl
def hr_(h:eL r=[]):bD (r::P)=bD P:=by rw[iT,h];rfl
def tN(h:P.Perm P'):(bD P).Perm<|bD P':=h.flatMap_right _
def Rep.vis(R:Rep F P H):Same `n H:=λb o h=>by
 cases q:F.H0 b with
 |none=>exact oF ((kQ q).symm.trans h)
 |some u => have h:=(kH q).symm.trans h;have:=F.sub _ _ h;exact R.kp b o this λz=>by rw[F.nb b z]at h;cases h
def Rep.hv(R:Rep F P H):Same (hid O `n) H:=λb o h=>R.vis b o (bB.mp h).2
def Rep.fresh(R:Rep F P H)(b:H p=none):F.H0 p=none:=by
 cases q:F.H0 p with
 |none=>rfl
 |some o => by_cases c:p∈F.B;obtain⟨u,e⟩:=R.lv p c;rw[b]at e;cases e;rw[R.kp p o q c]at b;cases b
def Rep.perm(R:Rep F P H)(h:P.Perm P'):Rep F P' H:=by have c:=tN h;exact#[c.nodup_iff.mp R.nd,λr b=>(R.ok r<|h.mem_iff.mpr b).mono (.of<|lF λa e=>c.mem_iff.mpr e) λ_ _=>rfl,λr b=>R.fr r<|h.mem_iff.mpr b,R.kp,R.lv]
def Rep.tail(R:Rep F (r::P) H):Rep F P H:=by
 have e:∀a∈bD P,a∈bD (r::P):=λa c=>by rw[iT];exact aJ _ c
 refine#[?_,λx b=>(R.ok x<|aC _ b).mono (.of<|lF e) λ_ _=>rfl,λx b=>R.fr x<|aC _ b,R.kp,R.lv];have:=R.nd;exact(bS.mp this).2.1
def l8(h:r∈P)(e:a∈eL r):a∈bD P:=dG.mpr #[r,h,e]
def bFb{b:Type}{x:b}{l}(h:l=[x]):x∈l:=by grind
def eq1{b:Type}{x y:b}{l}(h:l=[x])(c:y∈l):y=x:=by grind
def Rep.own_in(R:Rep F P H)(h:a∈bD P):∃o,H a=some o:=by
 obtain⟨⟨z,v⟩,B,e⟩:=dG.mp h;have t:=R.ok (z,v) B;cases z with
 |v s =>
  cases s with
  |tr d=>exact absurd (e) bG
  |ol l => obtain⟨c,vs,q,b,_⟩:=t;cases q;rw[aF.mp<|e];exact#[_,b]
  |od l => obtain⟨c,vs,q,b,_⟩:=t;cases q;rw[aF.mp<|e];exact#[_,b]
  |ow o => obtain⟨x,q,b⟩:=t;obtain⟨u,y,_⟩:=OwOk.there o x b a e;exact#[u,y]
 |bw l => obtain⟨c,vs,q,b,_⟩:=t;cases q;rw[aF.mp<|e];exact#[_,b]
 |bo o => obtain⟨x,q,b⟩:=t;obtain⟨u,y,_⟩:=OwOk.there o x b a e;exact#[u,y]
 |ba c l => obtain⟨_,vs,b,_⟩:=t;rw[aF.mp<|e];exact#[_,b]
 |un=>exact absurd (e) bG
 |pn _=>exact absurd (e) bG
def Rep.not_own(R:Rep F P H)(c:H p=none):p∉bD P:=λz=>by obtain⟨o,b⟩:=R.own_in z;rw[c]at b;cases b
def Rep.grow(R:Rep F P H)(e:Same H m):Rep F P m:=by refine#[R.nd,λr h=>(R.ok r h).mono (.of<|jr_<|eh_ e) λa u=>?_,R.fr,λb o q t=>e _ _<|R.kp b o q t,λb y=>?_];obtain ⟨o,c⟩:=R.own_in<|l8 h u;rw[c,e _ _ c];obtain ⟨o,c⟩:=R.lv b y;exact#[o,e _ _ c]
def Rep.cons0(R:Rep F P H)(c:eL r=[])(h:RowOk (bD P) `n H r):Rep F (r::P) H:=by
 refine#[by rw[hr_ c];exact R.nd,λx b=>?_,λx b a e=>?_,R.kp,R.lv];rw [hr_ c];rcases aE.mp b with rfl | b
 exact h;exact R.ok x b;rcases aE.mp b with rfl | b
 grind;exact R.fr x b a e
def Rep.add(R:Rep F P H)(h:IsX (hid (bD P) `n) d v):Rep F ((vT d,some v)::P) H:=R.cons0 rfl #[v,rfl,h]
def Rep.addU(R:Rep F P H):Rep F ((.un,x)::P) H:=R.cons0 rfl trivial
def Rep.head(R:Rep F ((.v s,x)::P) H):∃v,x=some v/\IsX (hid (bD P) `n) s.d v:=by
 have h:=R.ok _ aB;have c:∀a∈bD P,a∈bD ((.v s,x)::P):=λa D=>by rw[iT];exact aJ _ D
 have y:=R.nd;have t:=R.fr _ aB
 match s,h with
 | .tr d,⟨v,h1,h2⟩=>exact#[v,h1,h2.to<|lF c]
 | .ol l,⟨a,vs,h1,h2,h3⟩ => subst h1;have q:=t a<|aF.mpr rfl;exact#[.ref a,rfl,IsX.of_lst (vs:=vs) (bB.mpr #[(bW.mp y).1,(kQ q).trans (by rw[h2];rfl)])<|h3.imp λ_ _ z=>z.to<|lF c]
 | .od l,⟨a,vs,h1,h2,h3⟩ => subst h1;have q:=t a<|aF.mpr rfl;exact#[.ref a,rfl,IsX.of_dic (vs:=vs) (.inl<|bB.mpr #[(bW.mp y).1,(kQ q).trans (by rw[h2];rfl)])<|h3.imp λ_ _ z=>z.to<|lF c]
 | .ow o,⟨v,h1,h2⟩ => refine#[v,h1,OwOk.tree (.of<|lF c) o v (λb e=>?_) h2];have q:=t b e;obtain⟨u,B,E,_⟩:=OwOk.there o v h2 b e;have C:=λz=>(bS.mp y).2.2 b e b z rfl;rw[B];refine bB.mpr #[C,(kQ q).trans ?_];rw[B];unfold nf;split;grind;rfl
def Rep.frz(R:Rep F ((.v s,x)::P) H):Rep F ((vT s.d,x)::P) H:=by obtain⟨v,rfl,h⟩:=R.head;exact R.tail.add h
def xO{O}{Hs H0}(t:H p=none){o}(y:H0 p=none):Same (hid O<|ext Hs H0 H)<|hid (p::O)<|ext Hs H0<|upd H p o:=λb u h=>by
 have c:=bB.mp h;have e:b≠p:=λz=>by have:=oF<|(kQ y).symm.trans<|z ▸ c.2;rw[t]at this;cases this
 refine bB.mpr #[λz=>(aE.mp z).elim e c.1,?_];cases q:H0 b with
 |none=>exact(kQ q).trans ((congrArg nf<|dZ e).trans<|(kQ q).symm.trans c.2)
 |some w=>exact(kH q).trans<|(kH q).symm.trans c.2
def Rep.new_own(R:Rep F P H)(e:H p=none)(t:eL (.v s,some<|.ref p)=[p])(h:RowOk (p::bD P) (F.vis<|upd H p o) (upd H p o) (.v s,some<|.ref p)):Rep F ((.v s,some<|.ref p)::P)<|upd H p o:=by
 have B:=R.not_own e;have C:=R.fresh e;refine#[by rw[mZ t];exact bW.mpr #[B,R.nd],λr c=>?_,λr c a q=>?_,λb o D E=>?_,λb G=>?_];rw [mZ t];rcases aE.mp c with rfl | c
 exact h;exact(R.ok r c).mono (.of<|xO e C) λa q=>dZ λz=>B<|z ▸ l8 c q;rcases aE.mp c with rfl | c
 cases eq1 t q;exact C;exact R.fr r c a q;have:=R.kp b o D E;rw[dZ λz=>by rw[z,e]at this;cases this];exact this;obtain ⟨u,y⟩:=R.lv b G;exact#[u,by rw[dZ λz=>by rw[z,e]at y;cases y];exact y]
def Rep.newL(R:Rep F P H)(b:H p=none)(h:All2 (IsX<|hid (bD P) `n) l vs):Rep F ((.v<|.ol l,some<|.ref p)::P)<|upd H p<|.lst vs:=
 R.new_own b rfl #[p,vs,rfl,bY,h.imp λ_ _ z=>z.to<|xO b<|R.fresh b]
def Rep.newD(R:Rep F P H)(b:H p=none)(h:All2 (KvX<|hid (bD P) `n) k g):Rep F ((.v<|.od k,some<|.ref p)::P)<|upd H p<|.dK g:=
 R.new_own b rfl #[p,g,rfl,bY,h.imp λ_ _ z=>z.to<|xO b<|R.fresh b]
def Rep.newT(R:Rep F P H)(b:H p=none)(h:All2 (IsX<|hid (bD P) `n) l vs):Rep F ((vT<|.tup l,some<|.ref p)::P)<|upd H p<|.tup vs:=by have e:Same H<|upd H p<|.tup vs:=hj_ b _;exact(R.grow e).add<|IsX.of_tup (vs:=vs) (bB.mpr #[R.not_own b,(kQ<|R.fresh b).trans (by rw[bY];rfl)])<|h.imp λ_ _ z=>z.to<|jr_<|eh_ e
def oH:Same (hid (a::O)<|ext Hs H0 H)<|hid (a::O)<|ext Hs H0<|upd H a o:=λb u h=>by
 have c:=bB.mp h;have e:b≠a:=λz=>c.1 (by rw[z];exact aB);refine bB.mpr #[c.1,?_];cases q:H0 b with
 |none=>exact(kQ q).trans ((congrArg nf<|dZ e).trans<|(kQ q).symm.trans c.2)
 |some w=>exact(kH q).trans<|(kH q).symm.trans c.2
def Rep.put(R:Rep F (r::P) H)(y:eL r=[a])(t:eL i=[a])(I:FrOk F r a->FrOk F i a)(h:RowOk (a::bD P) (F.vis<|upd H a o) (upd H a o) i):Rep F (i::P)<|upd H a o:=by
 have B:=R.nd;rw[mZ y]at B;have E:=(bW.mp B).1;have C:=R.ok;rw[mZ y]at C;have q:=R.fr r aB a<|bFb y;refine#[by rw[mZ t];exact B,λx e=>?_,λx e b c=>?_,λb u G D=>?_,λb c=>?_];rw [mZ t];rcases aE.mp e with rfl | e
 exact h;exact(C x<|aC _ e).mono (.of oH) λb c=>dZ λz=>E<|z ▸ l8 e c;rcases aE.mp e with rfl | e
 cases eq1 t c;exact I q;exact R.fr x (aC _ e) b c;have c:=R.kp b u G D;by_cases z:b=a;subst z;rcases q.or with q | q
 exact absurd q D;grind;rw[dZ z];exact c;by_cases z:b=a;subst z;exact#[o,bY];rw[dZ z];exact R.lv b c
def Rep.putD(R:Rep F ((.v<|.od k,some `i)::P) H)(h:All2 (KvX<|hid (a::bD P) `n) j f):Rep F ((.v<|.od j,some `i)::P)<|upd H a<|.dK f:=
 R.put (a:=a) rfl rfl id #[a,f,rfl,bY,h.imp λ_ _ z=>z.to oH]
def Rep.atL(R:Rep F ((.v<|.ol l,x)::P) H):∃a vs,x=some `i/\H a=some (.lst vs)/\All2 (IsX<|hid (a::bD P) `n) l vs:=by obtain⟨a,vs,b,c,e⟩:=R.ok _ aB;subst b;exact#[a,vs,rfl,c,by rw[<-mZ (a:=a) (r:=(.v<|.ol l,some `i)) rfl];exact e]
def Rep.atB(R:Rep F ((.bw l,x)::P) H):∃a vs,x=some `i/\H a=some (.lst vs)/\All2 (IsX<|hid (a::bD P) `n) l vs:=by obtain⟨a,vs,b,c,e⟩:=R.ok _ aB;subst b;exact#[a,vs,rfl,c,by rw[<-mZ (a:=a) (r:=(.bw l,some `i)) rfl];exact e]
def Rep.atD(R:Rep F ((.v<|.od k,x)::P) H):∃a g,x=some `i/\H a=some (.dK g)/\All2 (KvX<|hid (a::bD P) `n) k g:=by obtain⟨a,vs,b,c,e⟩:=R.ok _ aB;subst b;exact#[a,vs,rfl,c,by rw[<-mZ (a:=a) (r:=(.v<|.od k,some `i)) rfl];exact e]
def Rep.atT(R:Rep F ((vT d,x)::P) H):∃v,x=some v/\IsX (hid (bD P) `n) d v:=R.head
end
section
variable{ρ:T1}{c:St}{i:Nat}{s g:Sl}{v f:T5}
def m4(a:ρ[i]? = some s)(b:c[i]? = some v):(ρ.zip c)[i]? = some (s,v):=(cY).mpr #[a,b]
def aTp{a:Type}:∀(l:List a) (i:Nat) (h:i<l.length),l.Perm (l[i]::l.eraseIdx i)
 |x::l,0,_=>.refl _
 |x::l,i+1,h=>((aTp l i<|by simpa using h).cons x).trans<|.swap _ _ _
def zW{a:Type}{l:List a}{x:a}(h:l[i]? = some x):l.Perm (x::l.eraseIdx i):=by obtain⟨b,e⟩:=aL.mp h;subst e;exact aTp l i b
def bv_(a:ρ[i]? = some s)(b:c[i]? = some v):(ρ.zip c).Perm ((s,v)::(ρ.zip c).eraseIdx i):=zW<|m4 a b
def nK:∀{ρ:T1} {c:St} (i:Nat),(ρ.set i s).zip (c.set i v)=(ρ.zip c).set i (s,v)
 | [],_,_=>by simp
 |_::_,[],_=>by simp
 |a::ρ,b::c,0=>rfl
 |a::ρ,b::c,i+1=>by simp only[List.set_cons_succ,List.zip_cons_cons];rw[nK i]
def nM(b:ρ.length=c.length)(h:i<ρ.length):((ρ.set i s).zip<|c.set i v).Perm ((s,v)::(ρ.zip c).eraseIdx i):=by
 rw[nK];have a:i<(ρ.zip c).length:=by grind
 have:=zW (x:=(s,v)) (i:=i) (by rw[fD a]);rwa [List.eraseIdx_set_eq]at this
def pP(h:c[i]? = some v):c.set i v=c:=by obtain⟨a,e⟩:=aL.mp h;subst e;exact List.set_getElem_self a
def cx_(b:ρ.length=c.length)(h:i<ρ.length)(a:c[i]? = some v):((ρ.set i s).zip c).Perm ((s,v)::(ρ.zip c).eraseIdx i):=by have:=nM (s:=s) (v:=v) b h;rwa [pP a]at this
end
end Lf
namespace L2
open PySem
def PE.weak(h:PE X e t)(w:∀a H Q,u a H Q->t a H Q):PE X e u:=λb s a H Q I q=>h b s a H Q I<|w a H Q q
def PT.weak(h:PT X e t)(w:∀a H Q,u a H Q->t a H Q):PT X e u:=λb s a H Q I q=>h b s a H Q I<|w a H Q q
def PW.weak(h:PW X e t)(w:∀a H Q,u a H Q->t a H Q):PW X e u:=λc b s a H Q I q=>h c b s a H Q I<|w a H Q q
def PA.weak(h:PA X e t)(w:∀a H Q,u a H Q->t a H Q):PA X e u:=λb c s a H Q I q=>h b c s a H Q I<|w a H Q q
def PE.or(h:PE X e t)(h':PE X e u):PE X e<|λa H Q=>t a H Q\/u a H Q:=λb s a H Q I q=>q.elim (h b s a H Q I)<|h' b s a H Q I
end L2
namespace Lf
open PySem L2
abbrev En:=T1
abbrev XT:=En->(Sv->En->Prop)->Prop
abbrev XC:=En->(Bool->En->Prop)->Prop
abbrev XA:=En->(List Sv->En->Prop)->Prop
structure EOk(F:Fm)(ρ:En)(σ:St)(fr:S9)(H:Hp):Prop where
 len:ρ.length=σ.length
 rep:Rep F (ρ.zip σ++fr) H
def tX(F:Fm)(t:XT):TE:=λf H Q=>∃e fr c,EOk F e f fr H/\t e c/\∀v s b a,EOk F a f ((.v s,some v)::fr) b->c s a->Q v b
def tXc(F:Fm)(t:XC):TT:=λg H Q=>∃f fr e,EOk F f g fr H/\t f e/\∀b c a,EOk F a g fr c->e b a->Q b c
def kW(ss:List Sv)(vs:S3):S9:=(ss.zip vs).map λp=>(.v p.1,some p.2)
def tXa(F:Fm)(t:XA):TA:=λh H Q=>∃g fr f,EOk F g h fr H/\t g f/\∀c b e a,b.length=c.length->EOk F a h (kW b c++fr) e->f b a->Q c e
abbrev ExT:=Value->Prop
abbrev dQ:ExT:=λ_=>False
def aGs(F:Fm)(H:Hp):Prop:=∀b o,F.H0 b=some o->b∉F.B->H b=some o
def Air(nw:Addr->Prop)(h':Heap)(H:Hp)(a:Addr)(cls:Value):Prop:=nw a/\H a=none/\∃b c,h'.get? a=some b/\b.cls=cls/\b.data=.fields c/\b.dict=none/\1<c.size /\
 (c[1]? = some .none\/∃T e f,c[1]? = some (.ref T)/\T≠a/\nw T/\H T=none/\h'.get? T=some e/\e.data=.fields f/\3<f.size)
def CXe(P:Program)(w:World):CXT:=λa H s E e f=>∃(h:Addr) (c:Value) (g:Hp),e=.ref h/\f.os=s.os/\PyProof.Rows.AllBare f.gens/\Un (frs a) [] H g s.heap f.heap/\HOk P w g f.heap/\Air (λb=>s.heap.get? b=none) f.heap g h c/\E c none g
abbrev NwX(X:Cx)(a:gM):Addr->Prop:=λb=>(X.s₀.heap.get? b=none\/b∈X.ex)/\∀p∈X.pn++a,p.1≠b
class OkF(X:Cx)(Ex:ExT)(F:Fm):Prop where
 pass1:∀(Aa:gM) (σ:St) (H:Hp) (s':Shared) (ea:Addr) (cls:Value),Inv X Aa σ H s'->Air (NwX X Aa) s'.heap H ea cls->Ex cls->aGs F H->X.xe (.ref ea) s'
instance{X:Cx}{F:Fm}:OkF X dQ F:=⟨λ_ _ _ _ _ _ _ _ h _=>h.elim⟩
def XE(X:Cx)(Ex:ExT)(e:Expr)(t:XT):Prop:=∀F,[OkF X Ex F]->PE X e (tX F t)
def XTe(X:Cx)(Ex:ExT)(e:Expr)(t:XC):Prop:=∀F,[OkF X Ex F]->PT X e (tXc F t)
def XW(X:Cx)(Ex:ExT)(e:Expr)(t:XC):Prop:=∀F,[OkF X Ex F]->PW X e (tXc F t)
def XAs(X:Cx)(Ex:ExT)(a:T6)(t:XA):Prop:=∀F,[OkF X Ex F]->PA X a (tXa F t)
section
variable{F:Fm}{ρ ρ':En}{f:St}{fr P:S9}{H g:Hp}{s:Sv}{v x y:V}{a b:Dx}
def EOk.grow(E:EOk F ρ f fr H)(e:Same H g):EOk F ρ f fr g:=#[E.len,E.rep.grow e]
def mid{c:Type}{x:c}{A B}:(A++x::B).Perm (x::(A++B)):=eK
def EOk.front(E:EOk F ρ f (r::fr) H):Rep F (r::(ρ.zip f++fr)) H:=E.rep.perm mid
def EOk.back(c:ρ.length=f.length)(R:Rep F (r::(ρ.zip f++fr)) H):EOk F ρ f (r::fr) H:=#[c,R.perm mid.symm]
def EOk.drop(E:EOk F ρ f (r::fr) H):EOk F ρ f fr H:=#[E.len,E.front.tail]
def EOk.one(E:EOk F ρ f ((.v s,some v)::fr) H):Rep F (ρ.zip f++fr) H/\IsX (hid (bD<|ρ.zip f++fr) `n) s.d v:=by obtain⟨c,e,h⟩:=E.front.head;cases e;exact#[E.front.tail,h]
def EOk.two(E:EOk F ρ f ((.v s2,some h)::(.v s1,some e)::fr) H) :
  Rep F (ρ.zip f++fr) H/\IsX (hid (bD<|ρ.zip f++fr) `n) s1.d e/\IsX (hid (bD<|ρ.zip f++fr) `n) s2.d h:=by
 obtain⟨i,j⟩:=E.drop.one;obtain⟨R2,l⟩:=E.one;refine#[i,j,l.to<|lF λc m=>?_];have:(bD ((.v s1,some e)::(ρ.zip f++fr))).Perm<|bD (ρ.zip f++(.v s1,some e)::fr):=mid.symm.flatMap_right _;refine this.mem_iff.mp ?_;exact aJ _ m
end
def cA(i:Nat):XT:=λa Q=>match a[i]? with
 |some (.v s)=>Q (.tr s.d) (a.set i<|.v<|.tr s.d)
 |_=>False
def aHu(i:Nat):XT:=λa Q=>match a[i]? with
 |some (.v s)=>Q s (a.set i .un)
 |_=>False
def oI{ρ:En}{a:St}{i:Nat}(b:ρ.length=a.length)(h:ρ[i]? = some s):∃v,a[i]? = some v:=by have:=(aL.mp h).1;exact#[_,aG<|eI this b]
section
variable{X:Cx}{Ex:ExT}{i:Nat}{x:Str}{a:Pos}
def uY(E:EOk F ρ σ fr H)(h:ρ[i]? = some s):∃v,σ[i]? = some v/\i<ρ.length/\Rep F ((s,v)::((ρ.zip σ).eraseIdx i++fr)) H:=by obtain⟨v,hv⟩:=oI E.len h;exact#[v,hv,(aL.mp h).1,E.rep.perm<|(bv_ h hv).append_right fr]
def fq_{ρ:En}(c:ρ.length=b.length)(e:i<ρ.length)(hv:b[i]? = some v)(R:Rep F ((s,v)::((ρ.zip b).eraseIdx i++fr)) H):EOk F (ρ.set i s) b fr H:=
 #[by rw[bJ];exact c,R.perm ((cx_ c e hv).append_right fr).symm]
def aHg(h:PE X (.Name x a)<|fO i):XE X Ex (.Name x a)<|cA i:=λF=>h.weak λl H Q=>by rintro⟨j,fr,g,E,t,k⟩;unfold cA at t;split at t;rename_i s e;obtain⟨v,hv,c,R⟩:=uY E e;obtain⟨w,rfl,f⟩:=R.head;refine#[w,hv,k w _ H _ ?_ t];have R2:=R.frz;have b:=R2.add f;exact EOk.back (by rw[bJ];exact E.len)<|b.perm<|((cx_ E.len c hv).append_right fr).symm.cons _;exact t.elim
def dt_(h:PE X (.Name x a)<|fO i):XE X Ex (.Name x a)<|aHu i:=λF=>h.weak λl H Q=>by rintro⟨j,fr,f,E,t,k⟩;unfold aHu at t;split at t;rename_i s e;obtain⟨v,hv,c,R⟩:=uY E e;obtain⟨w,rfl,g⟩:=R.head;refine#[w,hv,k w _ H _ ?_ t];have b:=(R.addU (x:=some w)).perm<|.swap _ _ _;exact EOk.back (by rw[bJ];exact E.len)<|b.perm<|((cx_ E.len c hv).append_right fr).symm.cons _;exact t.elim
end
def xC(d:Dx):XT:=λa Q=>Q (.tr d) a
def aEa(h:PE X e<|tC v)(d:Dx)(a:∀H,IsX H d v):XE X Ex e<|xC d:=λF=>h.weak λf H Q=>by rintro⟨b,fr,c,E,t,k⟩;exact k v _ H b (EOk.back E.len<|E.rep.add<|a _) t
section
variable{X:Cx}{Ex:ExT}
def cQ:XE X Ex (.Constant (.int i) j pos)<|xC<|.int i:=aEa kp_ _ λ_=>IsX.of_int _
def j7:XE X Ex (.Constant (.bool b) j pos)<|xC<|.bl b:=aEa bEo _ λ_=>IsX.of_bl _
def mJ:XE X Ex (.Constant .none j pos)<|xC .non:=aEa aWs _ λ_=>IsX.of_non
def jR:XE X Ex (.Constant (.str x) j pos)<|xC<|.str x:=aEa aJv _ λ_=>IsX.of_str _
end
abbrev G2:=Dx->Dx->(Sv->Prop)->Prop
def OpX(r:R2)(g:G2):Prop:=∀(F:Fm) (P:S9) (H:Hp) (a b:Dx) (x y:V) (Q:VK) (e:Sv->Prop),Rep F P H->IsX (hid (bD P) `n) a x->IsX (hid (bD P) `n) b y->g a b e ->
 (∀v s c,Rep F ((.v s,some v)::P) c->e s->Q v c)->r x y H Q
def xOp(g:G2)(f h:XT):XT:=λi Q=>f i λa c=>h c λb e=>g a.d b.d λs=>Q s e
def pK(p:OpX r g):∀c H Q,tX F (xOp g ta tb) c H Q->tOp r (tX F ta) (tX F tb) c H Q:=by rintro c H Q ⟨D,fr,j,E,t,k⟩;refine#[D,fr,_,E,t,λv s f b h A=>?_];refine#[b,_,_,h,A,λw y i a e B=>?_];obtain⟨R,m,o⟩:=e.two;exact p F _ i s.d y.d v w Q (λz=>j z a) R m o B λC u f l q=>k C u f a (EOk.back e.len l) q
def xB(t:XT):XC:=λc Q=>t c λs a=>match s with
 | .tr (.bl b)=>Q b a
 |_=>False
def ig_(h:∀a H Q,tX F u a H Q->t a H Q):∀a H Q,tXc F (xB u) a H Q->aIj t a H Q:=by rintro a H Q ⟨i,fr,j,E,t,k⟩;refine h _ _ _ #[i,fr,_,E,t,λv s f c e q=>?_];split at q;rename_i b;obtain⟨_,g⟩:=e.one;cases g.bl_eq;exact#[b,rfl,k b f c e.drop q];exact q.elim
section
variable{X:Cx}{Ex:ExT}{a b c e:Expr}{f:Pos}{r m:R2}{g g':G2}{j i l:XT}
def lQ(o:OpR X (binaryOp op) r)(p:OpX r g)(ha:XE X Ex a j)(h:XE X Ex b i):XE X Ex (.BinOp a op b f)<|xOp g j i:=λF=>(bEn o (ha F)<|h F).weak<|pK p
def jw_(p:OpR X (compareOp op) r)(q:OpX r g)(ha:XE X Ex a j)(h:XE X Ex b i)(o:behindInMarks op b=false):XE X Ex (.Compare a [op] [b] f)<|xOp g j i:=λF=>(aBn p (ha F) (h F) o).weak<|pK q
def yD(p:OpR X (compareOp op) r)(q:OpX r g)(ha:XE X Ex a j)(h:XE X Ex b i)(o:behindInMarks op b=false):XTe X Ex (.Compare a [op] [b] f)<|xB<|xOp g j i:=λF=>(wF p (ha F) (h F) o).weak<|ig_<|pK q
def jD(h:XE X Ex e t)(p:∀o,isTrue e X.env o=(do let v <-o;standAt e.pos;holding [v] (truthy v)):=by intro _;rfl):XTe X Ex e<|xB t:=λF=>(aWd (h F) p).weak<|ig_ λ_ _ _ z=>z
def bDi(t u:XC):XC:=λo Q=>t o λc h=>if c=true then u h Q else Q false h
def xOr(t u:XC):XC:=λo Q=>t o λc h=>if c=true then Q true h else u h Q
def vH(t:XC):XC:=λo Q=>t o λc h=>Q (!c) h
def aAf(h:XTe X Ex a t):XW X Ex (.BoolOp .And [a] f) t:=λF=>aPm<|h F
def i5(h:XTe X Ex a t):XW X Ex (.BoolOp .Or [a] f) t:=λF=>aVy<|h F
def aGy{rest}(h:XTe X Ex a t)(h':XW X Ex (.BoolOp .And (b::rest) f) u):XW X Ex (.BoolOp .And (a::b::rest) f)<|bDi t u:=λF=>(aVz (h F)<|h' F).weak λz H Q=>by
 rintro⟨y,fr,v,E,t,k⟩;refine#[y,fr,_,E,t,λc s o p q=>?_];cases c with
 |true=>exact#[o,fr,v,p,q,k]
 |false=>exact k false s o p q
def f8{rest}(h:XTe X Ex a t)(h':XW X Ex (.BoolOp .Or (b::rest) f) u):XW X Ex (.BoolOp .Or (a::b::rest) f)<|xOr t u:=λF=>(bEg (h F)<|h' F).weak λz H Q=>by
 rintro⟨y,fr,v,E,t,k⟩;refine#[y,fr,_,E,t,λc s o p q=>?_];cases c with
 |true=>exact k true s o p q
 |false=>exact#[o,fr,v,p,q,k]
def lJ(h:XTe X Ex a t):XTe X Ex (.UnaryOp .Not a f)<|vH t:=λF=>(aWe<|h F).weak λy H Q=>by rintro⟨u,fr,v,E,t,k⟩;exact#[u,fr,_,E,t,λc s o p q=>k (!c) s o p q]
def XW.pt(h:XW X Ex e t):XTe X Ex e t:=λF=>(h F).pt
def aAo(t u:XT):XT:=λo Q=>xB t o λc h=>if c=true then u h Q else Q (.tr<|.bl false) h
def bDa(t:XT):XT:=λo Q=>xB t o λc h=>Q (.tr<|.bl<|!c) h
def k7(h:XE X Ex a t):XE X Ex (.BoolOp op [a] f) t:=λF=>aWq<|h F
def uQ{rest}(h:XE X Ex a t)(h':XE X Ex (.BoolOp .And (b::rest) f) u):XE X Ex (.BoolOp .And (a::b::rest) f)<|aAo t u:=λF=>(aWw (h F)<|h' F).weak λC H Q=>by
 rintro⟨B,fr,z,E,t,k⟩;refine#[B,fr,_,E,t,λv s y o p q=>?_];split at q;rename_i c;obtain⟨_,A⟩:=p.one;cases A.bl_eq;refine#[c,rfl,?_];cases c with
 |true=>exact#[o,fr,z,p.drop,q,k]
 |false=>exact k _ _ y o (EOk.back p.len<|p.drop.rep.add<|IsX.of_bl _) q
 exact q.elim
def m6(h:XE X Ex a t):XE X Ex (.UnaryOp .Not a f)<|bDa t:=λF=>(aWr<|h F).weak λB H Q=>by rintro⟨z,fr,A,E,t,k⟩;refine#[z,fr,_,E,t,λv s u p o q=>?_];split at q;rename_i c;obtain⟨_,y⟩:=o.one;cases y.bl_eq;exact#[c,rfl,k _ _ u p (EOk.back o.len<|o.drop.rep.add<|IsX.of_bl _) q];exact q.elim
end
def cG:XA:=λa Q=>Q [] a
def bI(t:XT)(u:XA):XA:=λe Q=>t e λs a=>u a λc b=>Q (s::c) b
section
variable{X:Cx}{Ex:ExT}{e:Expr}{a:T6}{t:XT}{u:XA}{b:Pos}
def jK:XAs X Ex [] cG:=λF=>(i4 (X:=X)).weak λg H Q=>by rintro⟨c,fr,f,E,t,k⟩;exact k [] [] H c rfl E t
def hU(h:XE X Ex e t)(h':XAs X Ex a u)(l:U7 X e a:=by rfl):XAs X Ex (e::a)<|bI t u:=λF=>(lK (h F) (h' F) l).weak λB H Q=>by rintro⟨y,fr,A,E,t,k⟩;refine#[y,fr,_,E,t,λv s z c i q=>#[c,_,_,i,q,λr p j f m g o=>?_]];refine k (v::r) (s::p) j f (by rw[aK,aK,m]) #[g.len,g.rep.perm ?_] o;exact List.Perm.append_left _ eK
def EOk.many:∀{ss:List Sv} {vs:S3},ss.length=vs.length->EOk F ρ f (kW ss vs++fr) H->Rep F (ρ.zip f++fr) H/\All2 (IsX<|hid (bD<|ρ.zip f++fr) `n) (ss.map Sv.d) vs
 | [],[],_,E=>#[E.rep,rfl]
 | [],_::_,h,_=>by simp at h
 |_::_,[],h,_=>by simp at h
 |s::ss,v::vs,h,E=>by
  have i:EOk F ρ f ((.v s,some v)::(kW ss vs++fr)) H:=E;obtain⟨R,l⟩:=EOk.many (ss:=ss) (vs:=vs) (by simpa using h) i.drop;obtain⟨_,m⟩:=i.one;refine#[R,v,vs,rfl,m.to<|lF λc g=>?_,l];have:bD (ρ.zip f++(kW ss vs++fr))=bD (ρ.zip f)++(bD (kW ss vs)++bD fr):=by unfold bD;rw[iP,iP]
  rw[this];have j:bD (ρ.zip f++fr)=bD (ρ.zip f)++bD fr:=by unfold bD;rw[iP]
  rw[j]at g;rcases aX.mp g with g | g
  exact aM _ g;exact aJ _<|aJ _ g
def nJ(u:XA):XT:=λg Q=>u g λf c=>f.length<=1000000/\Q (.tr<|.tup<|f.map Sv.d) c
def lB(u:XA):XT:=λg Q=>u g λf c=>f.length<=1000000/\Q (.ol<|f.map Sv.d) c
def iM:(1000000:Nat)<sizeLine:=by rw[sizeLine_eq];decide
def kG(h:XAs X Ex a u):XE X Ex (.Tuple a j b)<|nJ u:=λF=>(qG<|h F).weak λy H Q=>by rintro⟨o,fr,r,E,t,k⟩;refine#[o,fr,_,E,t,λv s q c g f m=>#[by have:=iM;lia,λp i=>?_]];obtain⟨R,l⟩:=f.many g;exact k _ _ _ c (EOk.back f.len<|R.newT i l) m.2
def kF(h:XAs X Ex a u):XE X Ex (.List a b)<|lB u:=λF=>(aWt<|h F).weak λv H Q=>by rintro⟨m,fr,q,E,t,k⟩;refine#[m,fr,_,E,t,λs r o c g f l=>#[by have:=iM;lia,λp i=>?_]];obtain⟨R,j⟩:=f.many g;exact k _ _ _ c (EOk.back f.len<|R.newL i j) l.2
end
def gI(f:Int->Int->Dx):G2
 | .int i,.int j,Q=>Q (.tr<|f i j)
 |_,_,_=>False
def gIC(C:Int->Int->Prop)(f:Int->Int->Dx):G2
 | .int i,.int j,Q=>C i j/\Q (.tr<|f i j)
 |_,_,_=>False
def tP{fd}(h:∀H i j,IsX H (fd i j)<|f i j):OpX (rI0 f)<|gI fd:=by intro F P H a b x y Q l R c e g k;unfold gI at g;split at g;cases c.int_eq; cases e.int_eq;exact#[_,_,rfl,rfl,k _ _ H (R.add<|h _ _ _) g];exact g.elim
def wO{fd}(h:∀H i j,IsX H (fd i j)<|f i j):OpX (rI C f)<|gIC C fd:=by intro F P H a b x y Q l R c e g k;unfold gIC at g;split at g;cases c.int_eq; cases e.int_eq;exact#[_,_,rfl,rfl,g.1,k _ _ H (R.add<|h _ _ _) g.2];exact g.elim
abbrev vQ:G2:=gI λi j=>.int<|i-j
abbrev bGq:G2:=gIC aNs λi j=>.int<|i/j
abbrev sG:G2:=gIC (λ_ j=>0<j) λi j=>.int<|i%j
abbrev bEi:G2:=gIC aNr λi j=>.int<|i^j.toNat
abbrev ltX:G2:=gI λi j=>.bl<|decide (i<j)
abbrev leX:G2:=gI λi j=>.bl<|decide (i<=j)
abbrev gtX:G2:=gI λi j=>.bl<|decide (j<i)
abbrev geX:G2:=gI λi j=>.bl<|decide (j<=i)
def oi{f:Int->Int->Int}:∀H i j,IsX H (.int<|f i j)<|.int<|f i j:=λ_ _ _=>IsX.of_int _
def ob{f:Int->Int->Bool}:∀H i j,IsX H (.bl<|f i j)<|.bl<|f i j:=λ_ _ _=>IsX.of_bl _
def aAa:G2
 | .int i,.int j,Q=>Q (.tr<|.int<|i+j)
 | .str i,.str j,Q=>i.length+j.length<=1000000/\Q (.tr<|.str<|i++j)
 | .lst l,.lst m,Q=>l.length+m.length<=1000000/\Q (.ol<|l++m)
 |_,_,_=>False
def bEz:G2
 | .int i,.int j,Q=>CMulB i j/\Q (.tr<|.int<|i*j)
 | .lst l,.int j,Q=>(j<=1000000 /\ -1000000<=j/\l.length*j.toNat<=1000000)/\Q (.ol (List.replicate j.toNat l).flatten)
 | .str z,.int j,Q=>(z.length<=1000/\0<=j/\j<=1000)/\Q (.tr<|.str<|Txt.mul z j)
 |_,_,_=>False
section
variable{X:Cx}{Ex:ExT}{a b e:Expr}{c:Pos}{i f:XT}
def lN(ha:XE X Ex a i)(h:XE X Ex b f):XE X Ex (.BinOp a .Add b c)<|xOp aAa i f:=lQ (aXj.or<|t5.or aXh) (by intro F P H a b x y Q v R ha h g k;unfold aAa at g;split at g;cases ha.int_eq; cases h.int_eq;exact .inl #[_,_,rfl,rfl,k _ _ H (R.add<|IsX.of_int _) g];cases ha.str_eq; cases h.str_eq;exact .inr<|.inl #[_,_,rfl,rfl,by have:=iM;lia,k _ _ H (R.add<|IsX.of_str _) g.2];obtain ⟨p,t,rfl,o,j⟩:=ha.lst_eq;obtain⟨q,u,rfl,r,m⟩:=h.lst_eq;refine .inr<|.inr #[p,q,t,u,rfl,rfl,R.hv _ _ o,R.hv _ _ r,by rw[j.len,m.len];have:=iM;lia,λl s=>k _ _ _ (R.newL s<|All2.app m j) g.2];exact g.elim) ha h
def vA{l:List α}{m:List β}(h:All2 g l m):∀n,All2 g (List.replicate n l).flatten (List.replicate n m).flatten
 | 0=>rfl
 |n+1=>by rw[eX,eX,List.flatten_cons,List.flatten_cons];exact All2.app (vA h n) h
def ey_(ha:XE X Ex a i)(h:XE X Ex b f):XE X Ex (.BinOp a .Mult b c)<|xOp bEz i f:=lQ (aQh.or<|aXd.or s_) (by intro F P H a b x y Q s R ha h g k;unfold bEz at g;split at g;cases ha.int_eq; cases h.int_eq;exact .inl #[_,_,rfl,rfl,g.1,k _ _ H (R.add<|IsX.of_int _) g.2];obtain ⟨p,r,rfl,o,j⟩:=ha.lst_eq;cases h.int_eq;obtain⟨⟨t,u,v⟩,m⟩:=g;refine .inr<|.inl #[p,_,r,rfl,rfl,R.hv _ _ o,by lia,by lia,by rw[j.len];have:=iM;lia,λl q=>k _ _ _ (R.newL q<|vA j _) m];cases ha.str_eq; cases h.int_eq;exact .inr<|.inr #[_,_,rfl,rfl,g.1.1,g.1.2.1,g.1.2.2,k _ _ H (R.add<|IsX.of_str _) g.2];exact g.elim) ha h
def k8(ha:XE X Ex a i)(g:XE X Ex b f):XE X Ex (.BinOp a .Sub b c)<|xOp vQ i f:=lQ aXb (tP oi) ha g
def nU(ha:XE X Ex a i)(g:XE X Ex b f):XE X Ex (.BinOp a .FloorDiv b c)<|xOp bGq i f:=lQ aKl (wO oi) ha g
def mW(ha:XE X Ex a i)(g:XE X Ex b f):XE X Ex (.BinOp a .Mod b c)<|xOp sG i f:=lQ aXf (wO oi) ha g
def aHh(ha:XE X Ex a i)(g:XE X Ex b f):XE X Ex (.BinOp a .Pow b c)<|xOp bEi i f:=lQ aXe (wO oi) ha g
end
def kq_:OpX (rI0 λi j=>.bl<|decide (i<j)) ltX:=tP ob
def lY:OpX (rI0 λi j=>.bl<|decide (i<=j)) leX:=tP ob
def aBq:OpX (rI0 λi j=>.bl<|decide (j<i)) gtX:=tP ob
def aTt:OpX (rI0 λi j=>.bl<|decide (j<=i)) geX:=tP ob
def eqS:Dx->Dx->Option Bool
 | .int i,.int j=>some (decide (i=j))
 | .str i,.str j=>some (decide (i=j))
 | .bl i,.bl j=>some (decide (i=j))
 | .non,.non=>some true
 | .non,.int _=>some false | .int _,.non=>some false | .non,.bl _=>some false | .bl _,.non=>some false | .non,.str _=>some false | .str _,.non=>some false
 | .int _,.str _=>some false | .str _,.int _=>some false | .bl _,.str _=>some false | .str _,.bl _=>some false
 | .lst l,.lst []=>some l.isEmpty
 |_,_=>none
def eqX:G2:=λa b Q=>match eqS a b with
 |some c=>Q (.tr<|.bl c)
 |none=>False
def neX:G2:=λa b Q=>match eqS a b with
 |some c=>Q (.tr<|.bl<|!c)
 |none=>False
def scV:Dx->T5
 | .int i=>some (.int i)
 | .str i=>some (.str i)
 | .bl i=>some (.bl i)
 | .non=>some .non
 |_=>none
def kd_(h:IsX H d x)(e:scV d=some v):x=v:=by cases d<;>simp only[scV,Option.some.injEq]at e<;>first | (subst e;first | exact h.int_eq | exact h.str_eq | exact h.bl_eq | exact h.non_eq) | cases e
def g8(h:eqS a b=some c):(∃l,a=.lst l/\b=.lst []/\c=l.isEmpty)\/∃x y,scV a=some x/\scV b=some y/\aVu x y=true/\decide (x=y)=c:=by
 unfold eqS at h;split at h<;>(try simp only[Option.some.injEq]at h)<;>first
  |(subst h;exact .inr #[_,_,rfl,rfl,rfl,by simp])
  |(subst h;exact .inl #[_,rfl,rfl,rfl])
  |cases h
section
variable{K:dN}
def aJe(K:dN)(n:Bool):R2:=λx y H Q=>∃p b a,x=.ref p/\y=.ref b/\SqL K H p a/\SqL K H b []/\Q (.bl (if n then !a.isEmpty else a.isEmpty)) H
def aTu:OpX (λx y H Q=>rEq x y H Q\/aJe K false x y H Q) eqX:=by
 intro F P H a b x y Q B R f h g k;unfold eqX at g;split at g;rename_i c q;rcases g8 q with⟨l,rfl,rfl,rfl⟩ | ⟨u,w,i,j,m,o⟩
 obtain ⟨p,e,rfl,s,t⟩:=f.lst_eq;obtain⟨r,A,rfl,v,z⟩:=h.lst_eq;cases(z);refine .inr #[p,r,e,rfl,rfl,SqL.of<|R.hv _ _ s,SqL.of<|R.hv _ _ v,k _ (.tr<|.bl l.isEmpty) H (R.add ?_) g];have:e.isEmpty=l.isEmpty:=by have:=t.len;cases e<;>cases l<;>simp at this ⊢
 simp only[IsX,this];rfl;cases kd_ f i; cases kd_ h j;exact .inl #[m,k _ _ H (R.add (by rw[o];exact IsX.of_bl _)) g];exact g.elim
def bEp:OpX (λx y H Q=>rNe x y H Q\/aJe K true x y H Q) neX:=by
 intro F P H a b x y Q B R f h g k;unfold neX at g;split at g;rename_i c q;rcases g8 q with⟨l,rfl,rfl,rfl⟩ | ⟨u,w,i,j,m,o⟩
 obtain ⟨p,e,rfl,s,t⟩:=f.lst_eq;obtain⟨r,A,rfl,v,z⟩:=h.lst_eq;cases(z);refine .inr #[p,r,e,rfl,rfl,SqL.of<|R.hv _ _ s,SqL.of<|R.hv _ _ v,k _ (.tr<|.bl<|!l.isEmpty) H (R.add ?_) g];have:e.isEmpty=l.isEmpty:=by have:=t.len;cases e<;>cases l<;>simp at this ⊢
 simp only[IsX,this];rfl;cases kd_ f i; cases kd_ h j;exact .inl #[m,k _ _ H (R.add (by rw[o];exact IsX.of_bl _)) g];exact g.elim
end
section
variable{X:Cx}{Ex:ExT}(K:dN)(h:X.K=K)
theorem t4(a:X.A.units<cLine)(h:X.K=K:=by rfl):OpR X (compareOp .Eq)<|λx y H Q=>rEq x y H Q\/aJe K false x y H Q:=by subst h;exact bEt.or<|aKm a
theorem aKj(a:X.A.units<cLine)(h:X.K=K:=by rfl):OpR X (compareOp .NotEq)<|λx y H Q=>rNe x y H Q\/aJe K true x y H Q:=by subst h;exact bEs.or<|aKi a
end
def aRf(a:Bool):G2
 | .non,.non,Q=>Q (.tr<|.bl !a)
 |_,.non,Q=>Q (.tr<|.bl a)
 |_,_,_=>False
def aLv(h:IsX H a x)(ha:a ≠ .non):¬x=.non:=by
 intro z;subst z;cases a with
 |non=>exact ha rfl
 |bl _=>cases h.bl_eq
 |int _=>cases h.int_eq
 |str _=>cases h.str_eq
 |tup _=>obtain⟨_,_,e,_⟩:=h.tup_eq;cases e
 |lst _=>obtain⟨_,_,e,_⟩:=h.lst_eq;cases e
 |dic _=>obtain⟨_,_,e,_⟩:=h.dic_eq;cases e
 |scr _ _=>obtain⟨_,e,_⟩:=h.scr_eq;cases e
 |ins _ _=>obtain⟨_,_,_,e,_⟩:=h.ins_eq;cases e
 |exc _=>obtain⟨_,e,_⟩:=h.exc_eq;cases e
def aWy:OpX (λx y H Q=>y=.non/\Q (.bl<|decide (x=.non)) H)<|aRf false:=by intro F P H a b x y Q h R c e g k;unfold aRf at g;split at g;cases c.non_eq; cases e.non_eq;exact#[rfl,k _ _ H (R.add<|IsX.of_bl _) g];rename_i f;cases e.non_eq;exact#[rfl,k _ _ H (R.add (by rw[dzF<|aLv c λz=>f z];exact IsX.of_bl _)) g];exact g.elim
def aQd:OpX (λx y H Q=>y=.non/\Q (.bl<|!decide (x=.non)) H)<|aRf true:=by intro F P H a b x y Q h R c e g k;unfold aRf at g;split at g;cases c.non_eq; cases e.non_eq;exact#[rfl,k _ _ H (R.add<|IsX.of_bl _) g];rename_i f;cases e.non_eq;exact#[rfl,k _ _ H (R.add (by rw[dzF<|aLv c λz=>f z];exact IsX.of_bl _)) g];exact g.elim
def ixX:G2
 | .lst l,.int i,Q=>(match atI l i with | some d=>Q (.tr d) | none=>False)
 | .tup l,.int i,Q=>(match atI l i with | some d=>Q (.tr d) | none=>False)
 | .str z,.int i,Q=>z.length<=1000000/\(match atI z.cps.toList i with | some c=>Q (.tr<|.str #[[c].toArray]) | none=>False)
 |_,_,_=>False
def rQ{m:List β}{d:α}(h:All2 g l m)(e:atI l i=some d):∃v,atI m i=some v/\g d v:=by unfold atI at e ⊢;rw[h.len];obtain⟨j,a,b⟩:=bR.mp e;obtain⟨v,c,f⟩:=h.at b;exact#[v,bR.mpr #[j,a,c],f]
def bEq:OpX (λx y H Q=>aJd K x y H Q\/aVx K x y H Q\/bEe x y H Q) ixX:=by intro F P H a b x y Q r R j l g k;unfold ixX at g;split at g;obtain ⟨p,o,rfl,e,f⟩:=j.lst_eq;cases l.int_eq;split at g;rename_i d m;obtain⟨v,h,i⟩:=rQ f m;exact .inl #[p,o,_,v,rfl,rfl,SqL.of<|R.hv _ _ e,h,k _ _ H (R.add i) g];exact g.elim;obtain ⟨p,o,rfl,e,f⟩:=j.tup_eq;cases l.int_eq;split at g;rename_i d m;obtain⟨v,h,i⟩:=rQ f m;exact .inr<|.inl #[p,o,_,v,rfl,rfl,SqT.of<|R.hv _ _ e,h,k _ _ H (R.add i) g];exact g.elim;cases j.str_eq; cases l.int_eq;obtain⟨s,g⟩:=g;split at g;rename_i c q;exact .inr<|.inr #[_,_,c,rfl,rfl,by have:=iM;lia,q,k _ _ H (R.add<|IsX.of_str _) g];exact g.elim;exact g.elim
def IxR.or(h:IxR X r)(h':IxR X r'):IxR X<|λx y H Q=>r x y H Q\/r' x y H Q:=λa b c s i H x y v u Q I f g q e=>q.elim (λq=>h a b c s i H x y v u Q I f g q e) λq=>h' a b c s i H x y v u Q I f g q e
def aTa(K:dN)(ha:XE X Ex a ta)(c:XE X Ex b tb)(e:jY b)(h:X.K=K:=by rfl):XE X Ex (.Subscript a b pos)<|xOp ixX ta tb:=λF =>
 (zY (IxR.or (d5 K h)<|IxR.or (aCm K h) bAi) (ha F) (c F) e).weak (pK bEq)
def gU(l:U1)(k:Key):Option Dx:=(l.find? λp=>decide (p.1=k)).map (·.2)
def hx_:∀{l} {b},All2 (KvX G) l b->(gU l k=none/\pF b k=none)\/∃d v,gU l k=some d/\pF b k=some v/\IsX G d v
 | [],_,h=>by rw[show _=[]from h];exact .inl #[rfl,rfl]
 |p::l,_,⟨w,wr,e,⟨h1,h2⟩,h3⟩=>by
  rw[e];by_cases a:p.1=k;refine .inr #[p.2,w.2,?_,yX<|h1 ▸ a,h2];unfold gU;rw[fU,dzT a];rfl;rw [yY<|h1 ▸ a];have:gU (p::l) k=gU l k:=by unfold gU;rw[fU,dzF a]
  rw[this];exact hx_ h3
def c_:Dx->Option Key
 | .int i=>some (.inl i)
 | .str x=>some (.inr x)
 |_=>none
def ld_(h:IsX H d x)(e:c_ d=some k):x=kV k:=by cases d<;>simp only[c_,Option.some.injEq]at e<;>first | (subst e;first | exact h.int_eq | exact h.str_eq) | cases e
def dgX:G2:=λa b Q=>match a,c_ b with
 | .dic l,some k=>(match gU l k with | some d=>Q (.tr d) | none=>False)
 |_,_=>False
def bBe(c:Bool):G2:=λa b Q=>match c_ a,b with
 |some k,.dic l=>Q (.tr (.bl (if c then !(gU l k).isSome else(gU l k).isSome)))
 |_,_=>False
def DGet.rd(e:Rd H a<|.dK kvs):DGet H a (kV k)<|pF kvs k:=#[kvs,k,e,rfl,rfl]
def zS{P}(R:Rep F P H)(h:Rd (hid O `n) a u):Rd H a u:=by
 rcases h with h | ⟨o,h⟩
 exact .inl<|R.hv _ _ h;exact .inr #[o,R.hv _ _ h]
def aQe:OpX (λx y H Q=>∃a v,x=.ref a/\DGet H a y (some v)/\Q v H) dgX:=by
 intro F P H a b x y Q s R h i g k;unfold dgX at g;split at g;rename_i l m j;obtain⟨p,u,rfl,e,f⟩:=h.dic_eq;cases ld_ i j;split at g;rename_i d c;rcases hx_ (k:=m) f with⟨z,_⟩ | ⟨t,v,o,q,r⟩
 grind;rw [o] at c; cases c;exact#[p,v,rfl,by rw[<-q];exact DGet.rd<|zS R e,k _ _ H (R.add r) g];exact g.elim;exact g.elim
def aXa(c:Bool):OpX (λy x H Q=>∃a o,x=.ref a/\DGet H a y o/\Q (.bl (if c then !o.isSome else o.isSome)) H)<|bBe c:=by
 intro F P H a b x y Q s R m q g k;unfold bBe at g;split at g;rename_i h l r;obtain⟨p,u,rfl,i,j⟩:=q.dic_eq;cases ld_ m r;refine#[p,_,rfl,DGet.rd (k:=h)<|zS R i,k _ _ H (R.add ?_) g];rcases hx_ (k:=h) j with⟨e,f⟩ | ⟨t,v,e,f,z⟩
 rw[e,f];simp only[IsX];rfl;rw[e,f];simp only[IsX];rfl;exact g.elim
section
variable{X:Cx}{Ex:ExT}{a b o i:Expr}{c:Pos}{f e:XT}
def nV(l:X.A.units+1<cLine)(ha:XE X Ex o f)(g:XE X Ex i e)(j:bBz i):XE X Ex (.Subscript o i c)<|xOp dgX f e:=λF=>(aPz l (ha F) (g F) j).weak λm H Q h=>pK aQe m H Q h
def aUu(l:X.A.units+1<cLine)(ha:XE X Ex i f)(g:XE X Ex o e)(j:behindInMarks .In o=false):XE X Ex (.Compare i [.In] [o] c)<|xOp (bBe false) f e:=λF=>(aWv (aKf l (ha F)<|g F) j).weak λm H Q h=>pK (aXa false) m H Q h
def bDg:XT:=λg Q=>Q (.od []) g
def aOq:XE X Ex (.Dict [] [] c) bDg:=λF=>(aJy (X:=X)).weak λl H Q=>by rintro⟨h,fr,j,E,t,k⟩;exact λp g=>k _ _ _ h (EOk.back E.len<|E.rep.newD g All2.nil) t
end
abbrev GC:=S1->(Sv->Prop)->Prop
def jP(r:S3->Hp->VK->Prop)(g:GC):Prop:=∀(F:Fm) (P:S9) (H:Hp) (c:S1) (e:S3) (Q:VK) (b:Sv->Prop),Rep F P H->All2 (IsX<|hid (bD P) `n) c e->g c b ->
 (∀v s a,Rep F ((.v s,some v)::P) a->b s->Q v a)->r e H Q
def dY(g:GC)(u:XA):XT:=λc Q=>u c λb a=>g (b.map Sv.d) λs=>Q s a
def aTg(m:jP r g):∀b H Q,tX F (dY g u) b H Q->tCB r (tXa F u) b H Q:=by rintro b H Q ⟨y,fr,h,E,t,k⟩;refine#[y,fr,_,E,t,λp z f a j c o=>?_];obtain⟨R,l⟩:=c.many j;exact m F _ f _ p Q (λs=>h s a) R l o λv s e i q=>k v s e a (EOk.back c.len i) q
section
variable{X:Cx}{Ex:ExT}{e:Expr}{b:T6}{x:Str}{p a:Pos}{r:S3->Hp->VK->Prop}{g:GC}{u:XA}{c T:String}
def bw_(i:CallR X (.builtin c) r)(q:jP r g)(l:Gl X x)(m:X.mg x=none)(hv:bootBuiltins x=some (.builtin c))(ha:XAs X Ex (e::b) u)(o:x ≠ "__name__":=by decide)(f:U5 x:=by decide)
  (j:U7 X e b:=by rfl) (h:U8 X a b:=by rfl):XE X Ex (.Call (.Name x p) (e::b) [] a)<|dY g u:=λF=>(ew_ i l m hv (ha F) o f j h).weak<|aTg q
def hf_(i:CallR X (.type T) r)(q:jP r g)(l:Gl X x)(m:X.mg x=none)(hv:bootBuiltins x=some (.type T))(ha:XAs X Ex (e::b) u)(o:x ≠ "__name__":=by decide)(f:U5 x:=by decide)
  (j:U7 X e b:=by rfl) (h:U8 X a b:=by rfl):XE X Ex (.Call (.Name x p) (e::b) [] a)<|dY g u:=λF=>(tL i l m hv (ha F) o f j h).weak<|aTg q
end
def j8{a:α}{xs:List β}(h:All2 g [a] xs):∃x,xs=[x]/\g a x:=by obtain⟨x,e,rfl,b,c⟩:=h;cases(c);exact#[x,rfl,b]
def yL{a b:α}{xs:List β}(h:All2 g [a,b] xs):∃x y,xs=[x,y]/\g a x/\g b y:=by obtain⟨x,i,rfl,c,e⟩:=h;obtain⟨y,rfl,f⟩:=j8 e;exact#[x,y,rfl,c,f]
def aZv:GC
 | [.lst l],Q=>Q (.tr<|.int l.length)
 | [.tup l],Q=>Q (.tr<|.int l.length)
 | [.str z],Q=>z.length<=1000000/\Q (.tr<|.int z.length)
 | [.dic l],Q=>Q (.tr<|.int l.length)
 |_,_=>False
abbrev aVw(K:dN):S3->Hp->VK->Prop:=λc H Q=>(∃p e,c=[.ref p]/\(SqL K H p e\/SqT K H p e)/\Q (.int e.length) H)\/(∃z,c=[.str z]/\z.length<=sizeLine/\Q (.int z.length) H)\/(∃a b,c=[V.ref a]/\Rd H a (.dK b)/\Q (.int b.length) H)
def uT(K:dN)(h:X.K=K:=by rfl):CallR X (.builtin "len")<|aVw K:=by subst h;refine jV.or<|yH.or ?_;intro g s m H l j Q I r h;obtain⟨a,b,rfl,e,q⟩:=h;obtain⟨u,rfl,f⟩:=jN r;cases f;exact bGz I e λt i c=>#[.int b.length,H,c,#[t,rfl],q]
def bBi:jP (aVw K) aZv:=by intro F P H j l Q i R h g k;unfold aZv at g;split at g;obtain ⟨x,rfl,b⟩:=j8 h;obtain⟨a,f,rfl,c,e⟩:=b.lst_eq;exact .inl #[a,f,rfl,.inl<|SqL.of<|R.hv _ _ c,k _ _ H (R.add (by rw[e.len];exact IsX.of_int _)) g];obtain ⟨x,rfl,b⟩:=j8 h;obtain⟨a,f,rfl,c,e⟩:=b.tup_eq;exact .inl #[a,f,rfl,.inr<|SqT.of<|R.hv _ _ c,k _ _ H (R.add (by rw[e.len];exact IsX.of_int _)) g];obtain ⟨x,rfl,b⟩:=j8 h;cases b.str_eq;exact .inr<|.inl #[_,rfl,by have:=iM;lia,k _ _ H (R.add<|IsX.of_int _) g.2];obtain ⟨x,rfl,b⟩:=j8 h;obtain⟨a,f,rfl,c,e⟩:=b.dic_eq;exact .inr<|.inr #[a,f,rfl,zS R c,k _ _ H (R.add (by rw[e.len];exact IsX.of_int _)) g];exact g.elim
def bOq:GC
 | [.int i],Q=>Q (.tr<|.int i)
 | [.bl b],Q=>Q (.tr (.int (if b then 1 else 0)))
 |_,_=>False
def bMm:GC
 | [.lst l],Q=>Q (.ol l)
 | [.tup l],Q=>Q (.ol l)
 |_,_=>False
def aIi:GC
 | [.lst l],Q=>Q (.tr<|.tup l)
 | [.tup l],Q=>Q (.tr<|.tup l)
 |_,_=>False
def x4(K:dN)(h:X.K=K:=by rfl):CallR X (.type "list") (λxs H Q=>∃p ys,xs=[.ref p]/\(SqL K H p ys\/SqT K H p ys)/\∀l,H l=none->Q (.ref l) (upd H l<|.lst ys)):=by subst h;exact yG
def i9(K:dN)(h:X.K=K:=by rfl):CallR X (.type "tuple") (λxs H Q=>∃p ys,xs=[.ref p]/\((SqL K H p ys/\∀l,H l=none->Q (.ref l) (upd H l<|.tup ys))\/(SqT K H p ys/\Q (.ref p) H))):=by subst h;exact sK
def aNb:jP (λxs H Q=>∃p ys,xs=[.ref p]/\((SqL K H p ys/\∀l,H l=none->Q (.ref l) (upd H l<|.tup ys))\/(SqT K H p ys/\Q (.ref p) H))) aIi:=by intro F P H m xs Q j R h g k;unfold aIi at g;split at g;obtain ⟨x,rfl,e⟩:=j8 h;obtain⟨a,f,rfl,b,c⟩:=e.lst_eq;exact#[a,f,rfl,.inl #[SqL.of<|R.hv _ _ b,λl i=>k _ _ _ (R.newT i c) g]];obtain ⟨x,rfl,e⟩:=j8 h;obtain⟨a,f,rfl,b,c⟩:=e.tup_eq;exact#[a,f,rfl,.inr #[SqT.of<|R.hv _ _ b,k _ _ H (R.add<|IsX.of_tup b c) g]];exact g.elim
inductive Ty where
 |bool | int | str | tuple | list | dict
def Ty.nm:Ty->String
 | .bool => "bool" | .int => "int" | .str => "str" | .tuple => "tuple" | .list => "list" | .dict => "dict"
def tyN:Dx->String
 | .non => "NoneType" | .bl _ => "bool" | .int _ => "int" | .str _ => "str" | .tup _ => "tuple" | .lst _ => "list" | .dic _ => "dict" | .scr _ _ => "list" | .ins _ _ => "object" | .exc _ => "object"
def isT:Ty->Dx->Bool
 | .bool,.bl _=>true
 | .int,.int _=>true
 | .int,.bl _=>true
 | .str,.str _=>true
 | .tuple,.tup _=>true
 | .list,.lst _=>true
 | .dict,.dic _=>true
 | .list,.scr _ _=>true
 |_,_=>false
def iV:Dx->Prop
 | .scr _ _=>False
 | .ins _ _=>False
 | .exc _=>False
 |_=>True
def xH(b:iV d):PySem.W.kitOne K (.type<|tyN d) (.type n.nm)=some (isT n d):=by
 have h:∀T∈["NoneType","bool","int","str","tuple","list","dict"],∀n:Ty,PySem.W.kitOne K (.type T) (.type n.nm)=some (T == n.nm||(n.nm == "int" && T == "bool")):=by
  intro T a n;simp only[aE,bG,or_false]at a;rcases a with rfl | rfl | rfl | rfl | rfl | rfl | rfl<;>cases n<;>first
   |exact aLo _
   |exact aZz `c `c `c
 rw[h _ (by cases d<;>first | exact b.elim | simp[tyN]) n];cases d<;>cases n<;>first | rfl | exact b.elim
def aCp(I:Inv X h j H s)(e:RelV x u)(c:IsX H d x)(i:iV d):∃L:Heap->Prop,PySem.W.KitX X.K u (.type<|tyN d) L/\L s.heap/\u ≠ .builtin "__main__.__loader__#opaque":=by
 cases d with
 |non=>cases c.non_eq;cases e;exact#[_,PySem.W.kitx_none,trivial,nofun]
 |bl _=>cases c.bl_eq;cases e;exact#[_,PySem.W.kitx_bool,trivial,nofun]
 |int _=>cases c.int_eq;obtain⟨_,rfl⟩:=e;exact#[_,PySem.W.kitx_int,trivial,nofun]
 |str _=>cases c.str_eq;obtain⟨_,rfl⟩:=e;exact#[_,PySem.W.kitx_str,trivial,nofun]
 |tup _=>obtain⟨a,g,rfl,b,_⟩:=c.tup_eq;cases e;obtain⟨_,_,_,o,b,f,_⟩:=I.hok a _ b;exact#[_,PySem.W.kitx_tuple,#[o,b,f],nofun]
 |lst _=>obtain⟨a,g,rfl,b,_⟩:=c.lst_eq;cases e;obtain⟨_,_,n,_,b⟩:=I.hok a _ b;exact#[_,PySem.W.kitx_list,#[_,b,rfl],nofun]
 |dic _=>obtain⟨a,g,rfl,b,_⟩:=c.dic_eq;cases e;obtain⟨_,_,_,_,o,_,_,b,f,_⟩:=Rd.ok b I.hok;exact#[_,PySem.W.kitx_dict,#[o,b,f.1],nofun]
 |_=>exact i.elim
def aNh(n:Ty):CallR X (.builtin "isinstance") (λxs H Q=>∃x d,xs=[x,.ty n.nm]/\IsX H d x/\iV d/\Q (.bl<|isT n d) H):=by intro f s j H xs g Q I r h;obtain⟨x,d,rfl,b,a,q⟩:=h;obtain⟨u,i,rfl,c,e⟩:=sY r;cases e;obtain⟨_,Z,l,n⟩:=aCp I c b a;exact PySem.W.kia_one Z I.kIn l (xH a) n λtk=>#[.bl _,H,I.tok _,rfl,q]
def xIs(n:Ty)(t:XT):XT:=λb Q=>t b λs a=>match s.d with
 | .scr _ _=>False
 | .ins _ _=>False
 | .exc _=>False
 |d=>Q (.tr<|.bl<|isT n d) a
def aDy{p q pos}(n:Ty)(o:X.mg "isinstance" = none)(h:XE X Ex e t)(l:PE X (.Name nm q)<|tC<|.ty n.nm)(m:Gl X "isinstance":=by rfl)
  (c:starEach [e,.Name nm q] X.env=(false,eval e X.env)::starEach [.Name nm q] X.env:=by rfl) (i:starEach [.Name nm q] X.env=(false,eval (.Name nm q) X.env)::starEach [] X.env:=by rfl) (g:(backTo pos<|starEach [.Name nm q] X.env).any (·.1)=false:=by rfl):XE X Ex (.Call (.Name "isinstance" p) [e,.Name nm q] [] pos)<|xIs n t:=λF =>
 (ew_ (aNh n) m o dq_ (lK (h F) (lK l i4 i) c) `b rfl c g).weak fun z H Q=>by
  rintro⟨r,fr,u,E,t,k⟩;refine#[r,fr,_,E,t,λv s j a b q=>?_];obtain⟨R,f⟩:=b.one;generalize y:s.d=d at q f;cases d with
  |scr _ _=>exact q.elim
  |ins _ _=>exact q.elim
  |exc _=>exact q.elim
  |_=>exact#[v,_,rfl,f.to R.hv,trivial,k _ _ j a (EOk.back b.len<|R.add<|IsX.of_bl _) q]
def Cal(P:Program)(w:World)(K:dN)(mg:mI)(base:Heap)(j:Nat)(x:Str)(ps:S4)(sp:Sp):Prop:=∃f fd,FnOk P w K mg base CX0 j f fd ps sp/\Binds K fd ps []/\PySem.W.keepIn K (.ref f)=true/\mg x=some (.ref f)
def qJ{p pos}(C:Cal X.prog X.w X.K X.mg X.base j x ps sp)(l:Room j X.A)(ha:PA X (e::a) t)(i:Gl X x:=by rfl)(c:U5 x:=by decide)
  (h:U7 X e a:=by rfl) (g:U8 X pos a:=by rfl):PE X (.Call (.Name x p) (e::a) [] pos)<|aAy sp [] E0 t:=by
 obtain⟨f,fd,G,b,k,m⟩:=C;exact aBo G l i m k b .nil zZ ha c h g
def aDt(c H b:Hp):Sv->V->Prop
 | .tr d,v=>IsX (ext c H b) d v
 | .ol l,v=>∃a e,v=.ref a/\H a=none/\b a=some (.lst e)/\All2 (IsX<|hid [a] (ext c H b)) l e
 | .od l,v=>∃a f,v=.ref a/\H a=none/\b a=some (.dK f)/\All2 (KvX<|hid [a] (ext c H b)) l f
 | .ow o,v=>o.fp.Nodup/\(∀a∈o.fp,H a=none)/\OwOk (hid o.fp<|ext c H b) b o v
def spX(g:GC):Sp:=λf H Q _=>∃b e c,Same b H/\All2 (IsX b) e f/\g e c/\∀s v a,Same H a->aDt b H a s v->c s->Q v a
section
variable{F:Fm}{P:S9}{H c:Hp}{a:Addr}{s:Sv}{v:V}
def xV(R:Rep F P H)(e:Same H c):Same (ext (hid (bD P) `n) H c)<|hid (bD P)<|F.vis c:=λb o f=>by
 cases q:H b with
 |none => rw[kQ q]at f;exact bB.mpr #[R.not_own q,(kQ<|R.fresh q).trans f]
 |some u => rw[kH q]at f;exact jr_ (eh_ e) _ _ f
def Rep.adopt(R:Rep F P H)(e:Same H c)(ha:H a=none)(j:eL (.v s,some `i)=[a])(h:RowOk (a::bD P) (F.vis c) c (.v s,some `i)):Rep F ((.v s,some `i)::P) c:=by
 have p:=R.not_own ha;have t:=R.fresh ha;have l:=R.grow e;refine#[by rw[mZ j];exact bW.mpr #[p,R.nd],λr f=>?_,λr f b g=>?_,l.kp,l.lv];rw [mZ j];rcases aE.mp f with rfl | f
 exact h;refine (R.ok r f).mono (.of fun b o g => ?_) fun b g => ?_;have i:=bB.mp g;have q:b≠a:=λz=>by have:=R.vis _ _ i.2;rw[z,ha]at this;cases this
 exact bB.mpr #[λz=>(aE.mp z).elim q i.1,eh_ e _ _ i.2];obtain ⟨o,m⟩:=R.own_in<|l8 f g;rw[m,e _ _ m];rcases aE.mp f with rfl | f
 cases eq1 j g;exact t;exact R.fr r f b g
def Rep.adoptW(R:Rep F P H)(e:Same H c)(y:o.fp.Nodup)(ha:∀a∈o.fp,H a=none)(h:OwOk (hid (o.fp++bD P)<|F.vis c) c o v):Rep F ((.v<|.ow o,some v)::P) c:=by
 have l:=R.grow e;have m:bD ((.v<|.ow o,some v)::P)=o.fp++bD P:=iT;have q:∀a∈o.fp,a∉bD P:=λa j=>R.not_own<|ha a j;refine#[?_,λr f=>?_,λr f b g=>?_,l.kp,l.lv];rw [m];exact bS.mpr #[y,R.nd,λa j b t z=>q a j<|z ▸ t];rw [m];rcases aE.mp f with rfl | f
 exact#[v,rfl,h];refine (R.ok r f).mono (.of fun b u g => ?_) fun b g => ?_;have i:=bB.mp g;refine bB.mpr #[λz=>(aX.mp z).elim (λz=>?_) i.1,eh_ e _ _ i.2];have:=R.vis _ _ i.2;rw[ha b z]at this;cases this;obtain ⟨u,p⟩:=R.own_in<|l8 f g;rw[p,e _ _ p];rcases aE.mp f with rfl | f
 exact R.fresh<|ha b g;exact R.fr r f b g
def f_(R:Rep F P H)(e:Same H c)(ha:H a=none):Same (hid [a] (ext (hid (bD P) `n) H c))<|hid (a::bD P)<|F.vis c:=λb o g=>by have f:=bB.mp g;have:=bB.mp<|xV R e _ _ f.2;exact bB.mpr #[λz=>(aE.mp z).elim (λz=>f.1 (by rw[z];exact aB)) this.1,this.2]
def Rep.res(R:Rep F P H)(e:Same H c)(h:aDt (hid (bD P) `n) H c s v):Rep F ((.v s,some v)::P) c:=by
 match s,h with
 | .tr d,h=>exact(R.grow e).add (IsX.to h<|xV R e)
 | .ol l,⟨a,vs,h1,h2,h3,h4⟩ => subst h1;exact R.adopt e h2 rfl #[a,vs,rfl,h3,h4.imp λ_ _ z=>z.to<|f_ R e h2]
 | .od l,⟨a,vs,h1,h2,h3,h4⟩ => subst h1;exact R.adopt e h2 rfl #[a,vs,rfl,h3,h4.imp λ_ _ z=>z.to<|f_ R e h2]
 | .ow o,⟨h1,h2,h3⟩ => refine R.adoptW e h1 h2<|OwOk.mono (.of λb u g=>?_) o v (λ_ _=>rfl) h3;have f:=bB.mp g;have:=bB.mp<|xV R e _ _ f.2;exact bB.mpr #[λz=>(aX.mp z).elim f.1 this.1,this.2]
end
def aOr{p pos}(C:Cal X.prog X.w X.K X.mg X.base j x ps<|spX g)(b:Room j X.A)(ha:XAs X Ex (e::a) u)(o:Gl X x:=by rfl)(h:U5 x:=by decide)
  (m:U7 X e a:=by rfl) (i:U8 X pos a:=by rfl):XE X Ex (.Call (.Name x p) (e::a) [] pos)<|dY g u:=λF=>(qJ C b (ha F) o h m i).weak λJ H Q=>by
 rintro⟨A,fr,D,E,t,k⟩;refine#[A,fr,_,E,t,λI G B c r f z=>?_];obtain⟨R,y⟩:=f.many r;rw[aP];exact#[_,_,_,R.hv,y,z,λs v l e b q=>k v s l c (EOk.back f.len<|R.res e b) q]
abbrev GB:=S1->S1->(Dx->S1->Prop)->Prop
def spB(g:GB):Sp:=λm H Q _=>∃p j l i a f e,m=.ref p::i/\H p=some (.lst j)/\Same a H/\a p=none/\All2 (IsX a) l j/\All2 (IsX a) f i/\g l f e /\
 ∀d v h c b,SameX p H b->b p=some (.lst c)->All2 (IsX<|hid [p] (ext a H b)) h c->IsX (ext a H b) d v->e d h->Q v b
def iR:Sl->Option (S1×(S1->Sl))
 | .bw l=>some (l,.bw)
 | .ba a l=>some (l,.ba a)
 | .v (.ol l)=>some (l,λb=>.v<|.ol b)
 |_=>none
def kU(g:GB)(i:Nat)(u:XA):XT:=λb Q=>((b[i]?).bind iR).isSome=true/\u b λe a=>match (a[i]?).bind iR with
 |some (l,f)=>g l (e.map Sv.d) λd c=>Q (.tr d) (a.set i<|f c)
 |none=>False
section
variable{F:Fm}{P:S9}{H c:Hp}{a p:Addr}{s:Sv}{v:V}{r f:Rw}
def Rep.called(R:Rep F (r::P) H)(B:eL r=[p])(t:eL f=[p])(J:FrOk F r p->FrOk F f p)(e:SameX p H c)(L:∃o,c p=some o)(h:RowOk (p::bD P) (F.vis c) c f):Rep F (f::P) c:=by
 have C:=R.nd;rw[mZ B]at C;have G:=(bW.mp C).1;have D:=R.ok;rw[mZ B]at D;have j:=R.fr r aB p<|bFb B;have I:Same (hid (p::bD P) `n)<|hid (p::bD P)<|F.vis c:=λb o g=>by
  have l:=bB.mp g;have y:b≠p:=λz=>l.1 (by rw[z];exact aB);refine bB.mpr #[l.1,?_];cases q:F.H0 b with
  |none=>exact(kQ q).trans (ku_ ((kQ q).symm.trans l.2) λo h=>e.get y h)
  |some u=>exact(kH q).trans<|(kH q).symm.trans l.2
 refine#[by rw[mZ t];exact C,λx i=>?_,λx i b g=>?_,λb u A E=>?_,λb g=>?_];rw [mZ t];rcases aE.mp i with rfl | i
 exact h;refine (D x<|aC _ i).mono (.of I) fun b g => ?_;have y:b≠p:=λz=>G<|z ▸ l8 i g;obtain⟨o,m⟩:=R.own_in<|l8 (aC _ i) g;rw[m,e.get y m];rcases aE.mp i with rfl | i
 cases eq1 t g;exact J j;exact R.fr x (aC _ i) b g;have g:=R.kp b u A E;by_cases z:b=p;subst z;rcases j.or with j | j
 exact absurd j E;rw[j]at A;cases A;exact e.get z g;by_cases z:b=p;subst z;exact L;obtain ⟨o,m⟩:=R.lv b g;exact#[o,e.get z m]
def v9(R:Rep F (r::P) H)(m:eL r=[p])(e:SameX p H c):Same (ext (hid (bD (r::P)) `n) H c)<|hid (bD (r::P))<|F.vis c:=λb o i=>by
 have l:p∈bD (r::P):=by rw[mZ m];exact aB
 cases q:H b with
 |none => rw[kQ q]at i;exact bB.mpr #[R.not_own q,(kQ<|R.fresh q).trans i]
 |some u =>
  rw[kH q]at i;have g:=bB.mp i;have j:b≠p:=λz=>g.1 (by rw[z];exact l);refine bB.mpr #[g.1,?_];cases q:F.H0 b with
  |none=>exact(kQ q).trans (ku_ ((kQ q).symm.trans g.2) λo h=>e.get j h)
  |some u=>exact(kH q).trans<|(kH q).symm.trans g.2
end
def jo_{P}(h:iR sl=some (l,f))(R:Rep F ((sl,x)::P) H):∃p c,x=some (.ref p)/\H p=some (.lst c)/\eL (sl,some<|.ref p)=[p]/\All2 (IsX<|hid (p::bD P) `n) l c /\
  ∀l',eL (f l',some<|.ref p)=[p]/\(FrOk F (sl,some<|.ref p) p->FrOk F (f l',some<|.ref p) p)/\∀{O} {G m} {j},m p=some (.lst j)->All2 (IsX<|hid O G) l' j->RowOk O G m (f l',some<|.ref p):=by
 match sl,h with
 | .bw l,h => cases h;obtain⟨p,c,e,g,i⟩:=R.atB;exact#[p,c,e,g,rfl,i,λl'=>#[rfl,id,λa b=>#[p,_,rfl,a,b]]]
 | .v (.ol l),h => cases h;obtain⟨p,c,e,g,i⟩:=R.atL;exact#[p,c,e,g,rfl,i,λl'=>#[rfl,id,λa b=>#[p,_,rfl,a,b]]]
 | .ba a l,h => cases h;obtain⟨e,c,g,i⟩:=R.ok _ aB;subst e;exact#[a,c,rfl,g,rfl,by rw[<-mZ (a:=a) (r:=(.ba a l,some `i)) rfl];exact i,λl'=>#[rfl,id,λa b=>#[rfl,_,a,b]]]
def aBa{F:Fm}{c:En}{h:St}{fr:S9}{t:Hp}{i:Nat}{l ds:S1}{f:S1->Sl}{g:GB}{vs:S3}{Qx:Sv->En->Prop}{Q:VK}{E:XK}(y:EOk F c h fr t)(m:(c[i]?).bind iR=some (l,f))(Z:All2 (IsX<|hid (bD<|c.zip h++fr)<|F.vis t) ds vs)(q2:g l ds λd l'=>Qx (.tr d)<|c.set i<|f l')(k:∀v s r ρ',EOk F ρ' h ((.v s,some v)::fr) r->Qx s ρ'->Q v r):∃p,h[i]? = some (some<|V.ref p)/\spB g (.ref p::vs) t Q E:=by obtain⟨B,D,R⟩:=bR.mp m;obtain⟨v',u,L,R2⟩:=uY y D;obtain⟨p,ws,O,S,j,T,U⟩:=jo_ R R2;cases O;have W:(bD<|c.zip h++fr).Perm<|bD ((B,some<|V.ref p)::((c.zip h).eraseIdx i++fr)):=((bv_ D u).append_right fr).flatMap_right _;have A:∀a∈bD ((B,some<|V.ref p)::((c.zip h).eraseIdx i++fr)),a∈bD (c.zip h++fr):=λa X=>W.mem_iff.mpr X;refine#[p,u,p,ws,l,vs,hid (bD ((B,some<|V.ref p)::((c.zip h).eraseIdx i++fr)))<|F.vis t,_,_,rfl,S,R2.hv,?_,?_,Z.imp λ_ _ z=>z.to<|lF A,q2,λd w l' a0 r e G J Y q=>?_];unfold hid;rw[if_pos (by rw[mZ j];exact aB)];rw [mZ j];exact T;obtain ⟨H,n,x⟩:=U l';have C:=v9 R2 j e;have M:=R2.called j H n e #[_,G] (x G (J.imp λ_ _ z=>z.to λb o m=>by have I:=bB.mp m;have:=C _ _ I.2;rw[mZ j]at this;exact this));refine k w (.tr d) r _ (EOk.back (by rw[bJ];exact y.len) ?_) q;have N:=M.add (d:=d) (v:=w) (Y.to λb o m=>by have:=C _ _ m;rw[mZ j]at this;rw[mZ H];exact this);exact N.perm<|((cx_ y.len L u).append_right fr).symm.cons _
def aHo{p pos}(C:Cal X.prog X.w X.K X.mg X.base j x ps<|spB g)(G:Room j X.A)(hv:PE X e<|fO i)(ha:XAs X Ex a u)(B:Gl X x:=by rfl)(o:U5 x:=by decide)
  (m:U7 X e a:=by rfl) (q:U8 X pos a:=by rfl):XE X Ex (.Call (.Name x p) (e::a) [] pos)<|kU g i u:=λF=>(qJ C G (lK hv (ha F) m) B o m q).weak λn H Q=>by
 rintro⟨J,fr,O,E,⟨t0,t⟩,k⟩;obtain⟨⟨W,T⟩,s⟩:=cK.mp t0;obtain⟨N,y,z⟩:=bR.mp s;obtain⟨v,hv,U,r⟩:=uY E y;obtain⟨p,_,rfl,_⟩:=jo_ z r;refine#[.ref p,hv,J,fr,_,E,t,λd Z M L D h b=>?_];obtain⟨R,I⟩:=h.many D;split at b;rename_i l f A;obtain⟨Y,c,S⟩:=aBa #[h.len,R] A I b k;rw[hv]at c;cases c;rw[aP];exact S;exact b.elim
end Lf
variable{X:L2.Cx}{Ex:Lf.ExT}
namespace L2
open PySem
def PI.weak(h:PI X tg e t)(w:∀a H Q,u a H Q->t a H Q):PI X tg e u:=λb s a H Q I q=>h b s a H Q I<|w a H Q q
def PCs.weak(h:PCs X e t)(w:∀a H Q,u a H Q->t a H Q):PCs X e u:=λb s a H Q I q=>h b s a H Q I<|w a H Q q
end L2
namespace Lf
open PySem L2
abbrev XI:=En->(S1->En->Prop)->Prop
structure ItX(F:Fm)(J:It)(row:S9)(ds:S1):Prop where
 go:∀P H i d,Rep F (row++P) H->ds[i]? = some d->J.go i H
 stop:∀P H i,Rep F (row++P) H->ds.length<=i->J.stop i H
 yld:∀P H i d x H',Rep F (row++P) H->ds[i]? = some d->J.yld i H x H'->Rep F ((vT d,some x)::(row++P)) H'
def tXi(F:Fm)(t:XI):TI:=λh H R=>∃g fr e,EOk F g h fr H/\t g e/\∀J c b a f,EOk F b h (a++fr) c->ItX F J a f->e f b->R J c
def XIt(X:Cx)(Ex:ExT)(b a:Expr)(t:XI):Prop:=∀F,[OkF X Ex F]->PI X b a (tXi F t)
def xiL(t:XT):XI:=λb Q=>t b λs a=>match s.d with
 | .lst l=>Q l a
 |_=>False
def xiT(t:XT):XI:=λb Q=>t b λs a=>match s.d with
 | .tup l=>Q l a
 |_=>False
def aLr{F}{K}{a}{l}:ItX F (Itl K a) [(vT<|.lst l,some `i)] l where
 go:=λP H i d R j=>by obtain⟨v,e,h⟩:=R.atT;cases e;obtain⟨_,f,e,b,c⟩:=h.lst_eq;cases e;obtain⟨x,g,_⟩:=c.at j;exact#[f,x,SqL.of<|R.hv _ _ b,g]
 stop:=λP H i R o=>by obtain⟨v,e,h⟩:=R.atT;cases e;obtain⟨_,f,e,b,c⟩:=h.lst_eq;cases e;exact#[f,SqL.of<|R.hv _ _ b,by rw[c.len];exact o]
 yld:=λP H i d x p R j q=>by obtain⟨rfl,q⟩:=q;obtain⟨v,e,h⟩:=R.atT;cases e;obtain⟨_,f,e,b,c⟩:=h.lst_eq;cases e;obtain⟨y,g,m⟩:=c.at j;rw[q f<|SqL.of<|R.hv _ _ b]at g;cases g;exact R.add m
def aRc{F}{K}{a}{l}:ItX F (Itt K a) [(vT<|.tup l,some `i)] l where
 go:=λP H i d R j=>by obtain⟨v,e,h⟩:=R.atT;cases e;obtain⟨_,f,e,b,c⟩:=h.tup_eq;cases e;obtain⟨x,g,_⟩:=c.at j;exact#[f,x,SqT.of<|R.hv _ _ b,g]
 stop:=λP H i R o=>by obtain⟨v,e,h⟩:=R.atT;cases e;obtain⟨_,f,e,b,c⟩:=h.tup_eq;cases e;exact#[f,SqT.of<|R.hv _ _ b,by rw[c.len];exact o]
 yld:=λP H i d x p R j q=>by obtain⟨rfl,q⟩:=q;obtain⟨v,e,h⟩:=R.atT;cases e;obtain⟨_,f,e,b,c⟩:=h.tup_eq;cases e;obtain⟨y,g,m⟩:=c.at j;rw[q f<|SqT.of<|R.hv _ _ b]at g;cases g;exact R.add m
section
variable{g l a b:Expr}{t:XT}{u:XA}{p f:Pos}
def lA(h:XE X Ex l t):XIt X Ex g l<|xiL t:=λF=>(aBk<|h F).weak λI H R=>by rintro⟨B,fr,C,E,t,k⟩;refine#[B,fr,_,E,t,λv s r j o q=>?_];split at q;rename_i m z;have i:=o.front.frz;rw[z]at i;obtain⟨G,e,h⟩:=i.atT;cases e;obtain⟨c,A,rfl,y,D⟩:=h.lst_eq;exact#[c,rfl,#[A,SqL.of<|i.hv _ _ y],k _ r j [(vT<|.lst m,some<|.ref c)] m (EOk.back o.len i) aLr q];exact q.elim
def aHd(h:XE X Ex l t):XIt X Ex g l<|xiT t:=λF=>(aWn<|h F).weak λI H R=>by rintro⟨B,fr,C,E,t,k⟩;refine#[B,fr,_,E,t,λv s r j o q=>?_];split at q;rename_i m z;have i:=o.front.frz;rw[z]at i;obtain⟨G,e,h⟩:=i.atT;cases e;obtain⟨c,A,rfl,y,D⟩:=h.tup_eq;exact#[c,rfl,#[A,SqT.of<|i.hv _ _ y],k _ r j [(vT<|.tup m,some<|.ref c)] m (EOk.back o.len i) aRc q];exact q.elim
def gJ(c:Int)(n:Nat):S1:=(List.range n).map λk:Nat=>.int<|c+(k:Int)
def vZ(h:(gJ lo n)[i]? = some d):i<n/\d=.int (lo+i):=by unfold gJ at h;rw[bK]at h;obtain⟨k,j,m⟩:=dO.mp h;obtain⟨c,e⟩:=aL.mp j;rw[List.getElem_range]at e;rw[bV]at c;subst e;exact#[c,m.symm]
def uC{F}{lo}{n}:ItX F (Itr lo n) [] (gJ lo n)where
 go:=λP H i d R c=>(vZ c).1
 stop:=λP H i R e=>by unfold gJ at e;rw[aA,bV]at e;exact e
 yld:=λP H i d x h R c q=>by obtain⟨rfl,rfl⟩:=q;rw[(vZ c).2];exact R.add<|IsX.of_int _
def aHf(u:XA):XI:=λh Q=>u h λe c=>match e.map Sv.d with
 | [.int j]=>(-(2^62)<=j/\j<2^62)/\Q (gJ 0 j.toNat) c
 |_=>False
def bCt(u:XA):XI:=λh Q=>u h λe c=>match e.map Sv.d with
 | [.int i,.int j]=>(-(2^62)<=i/\i<2^62 /\ -(2^62)<=j/\j<2^62)/\Q (gJ i (j-i).toNat) c
 |_=>False
def bt_(s:X.mg "range" = none)(ha:XAs X Ex [a] u)(m:Gl X "range":=by rfl)(c:starEach [a] X.env=[(false,eval a X.env)]:=by rfl):XIt X Ex g (.Call (.Name "range" p) [a] [] f)<|aHf u:=λF=>(aEt m s (ha F) c).weak λC H R=>by rintro⟨y,fr,z,E,t,k⟩;refine#[y,fr,_,E,t,λB A i e r h q=>?_];obtain⟨R,c⟩:=h.many r;split at q;rename_i j o;rw[o]at c;obtain⟨x,rfl,v⟩:=j8 c;cases v.int_eq;exact#[j,rfl,q.1.1,q.1.2,k _ i e [] _ #[h.len,R] uC q.2];exact q.elim
def sU(v:X.mg "range" = none)(ha:XAs X Ex [a,b] u)(o:Gl X "range":=by rfl)(c:starEach [a,b] X.env=[(false,eval a X.env),(false,eval b X.env)]:=by rfl)(hs2:starEach [b] X.env=[(false,eval b X.env)]:=by rfl):XIt X Ex g (.Call (.Name "range" p) [a,b] [] f)<|bCt u:=λF=>(aEs o v (ha F) c hs2).weak λI H R=>by rintro⟨B,fr,C,E,t,k⟩;refine#[B,fr,_,E,t,λG D m e s h q=>?_];obtain⟨R,c⟩:=h.many s;split at q;rename_i i j r;rw[r]at c;obtain⟨x,y,rfl,z,A⟩:=yL c;cases z.int_eq;cases A.int_eq;exact#[i,j,rfl,q.1,k _ m e [] _ #[h.len,R] uC q.2];exact q.elim
def jM(l m:S1):S1:=List.zipWith (λa b=>.tup [a,b]) l m
def xiZ(u:XA):XI:=λh Q=>u h λe c=>match e.map Sv.d with
 | [.lst l,.lst m]=>Q (jM l m) c
 |_=>False
def aFv(l:S1):S1:=jM (gJ 0 l.length) l
def xiE(u:XA):XI:=λh Q=>u h λe c=>match e.map Sv.d with
 | [.lst l]=>Q (aFv l) c
 |_=>False
def nO{l m}{i:Nat}(h:(jM l m)[i]? = some d):∃a b,l[i]? = some a/\m[i]? = some b/\d=.tup [a,b]:=by
 unfold jM at h;rw[List.getElem?_zipWith]at h;cases c:l[i]? with
 |none=>rw[c]at h;cases h
 |some a =>
  cases e:m[i]? with
  |none=>rw[c,e]at h;cases h
  |some b=>rw[c,e]at h;exact#[a,b,rfl,rfl,(ozI h).symm]
def aRb{F}{K}{a b}{l m}:ItX F (Itz false false K a b) [(vT<|.lst l,some `i),(vT<|.lst m,some<|.ref b)] (jM l m)where
 go:=λP H i d R I=>by obtain⟨v,e,h⟩:=R.atT;cases e;obtain⟨_,A,e,o,r⟩:=h.lst_eq;cases e;obtain⟨v,e,j⟩:=R.tail.atT;cases e;obtain⟨_,B,e,s,z⟩:=j.lst_eq;cases e;obtain⟨c,L,E,G,_⟩:=nO I;obtain⟨x,C,_⟩:=r.at E;obtain⟨y,D,_⟩:=z.at G;exact#[A,B,x,y,SqL.of<|R.hv _ _ o,SqL.of<|R.hv _ _ s,C,D]
 stop:=λP H i R J=>by obtain⟨v,e,h⟩:=R.atT;cases e;obtain⟨_,A,e,o,r⟩:=h.lst_eq;cases e;obtain⟨v,e,j⟩:=R.tail.atT;cases e;obtain⟨_,B,e,s,z⟩:=j.lst_eq;cases e;refine#[A,B,SqL.of<|R.hv _ _ o,SqL.of<|R.hv _ _ s,?_];unfold jM at J;rw[List.length_zipWith]at J;rw[r.len,z.len];exact Std.min_le.mp J
 yld:=λP H i d x T R I q=>by obtain⟨p,x,y,rfl,O,rfl,q⟩:=q;obtain⟨v,e,h⟩:=R.atT;cases e;obtain⟨_,A,e,o,r⟩:=h.lst_eq;cases e;obtain⟨v,e,j⟩:=R.tail.atT;cases e;obtain⟨_,B,e,s,z⟩:=j.lst_eq;cases e;obtain⟨c,L,E,G,rfl⟩:=nO I;obtain⟨U,C,M⟩:=r.at E;obtain⟨W,D,N⟩:=z.at G;obtain⟨Q,S⟩:=q A B (SqL.of<|R.hv _ _ o)<|SqL.of<|R.hv _ _ s;rw[Q]at C;cases C;rw[S]at D;cases D;exact R.newT O #[_,_,rfl,M,_,_,rfl,N,rfl]
def aLt{F}{K}{a}{l}:ItX F (Ite K a) [(vT<|.lst l,some `i)] (aFv l)where
 go:=λP H i d R z=>by obtain⟨v,e,h⟩:=R.atT;cases e;obtain⟨_,o,e,j,m⟩:=h.lst_eq;cases e;obtain⟨c,C,A,s,_⟩:=nO z;obtain⟨y,r,_⟩:=m.at s;exact#[o,y,SqL.of<|R.hv _ _ j,r]
 stop:=λP H i R B=>by obtain⟨v,e,h⟩:=R.atT;cases e;obtain⟨_,o,e,j,m⟩:=h.lst_eq;cases e;refine#[o,SqL.of<|R.hv _ _ j,?_];unfold aFv jM gJ at B;rw[List.length_zipWith,aA,bV]at B;rw[m.len];lia
 yld:=λP H i d x G R z q=>by obtain⟨p,x,rfl,E,rfl,q⟩:=q;obtain⟨v,e,h⟩:=R.atT;cases e;obtain⟨_,o,e,j,m⟩:=h.lst_eq;cases e;obtain⟨c,C,A,s,rfl⟩:=nO z;obtain⟨I,r,D⟩:=m.at s;rw[q o<|SqL.of<|R.hv _ _ j]at r;cases r;rw[(vZ A).2];exact R.newT E #[_,_,rfl,by rw[show(0:Int)+(i:Int)=i from gR _];exact IsX.of_int _,_,_,rfl,D,rfl]
def m5(I:X.mg "zip" = none)(ha:XAs X Ex [a,b] u)(C:Gl X "zip":=by rfl)(e:starEach [a,b] X.env=[(false,eval a X.env),(false,eval b X.env)]:=by rfl)(hs2:starEach [b] X.env=[(false,eval b X.env)]:=by rfl) :
  XIt X Ex (.Tuple es kk tpos) (.Call (.Name "zip" p) [a,b] [] f) (xiZ u):=λF=>(aWm (t1:=false) (t2:=false) C I (ha F) e hs2).weak λO H R=>by
 rintro⟨J,fr,L,E,t,k⟩;refine#[J,fr,_,E,t,λN M r h G i q=>?_];obtain⟨R,e⟩:=i.many G;split at q;rename_i l m D;rw[D]at e;obtain⟨x,y,rfl,j,o⟩:=yL e;obtain⟨c,v,rfl,A,_⟩:=j.lst_eq;obtain⟨d,z,rfl,B,_⟩:=o.lst_eq;have s:=(R.add o).add j;exact#[c,d,rfl,#[v,SqL.of<|R.hv _ _ A],#[z,SqL.of<|R.hv _ _ B],k _ r h [(vT<|.lst l,some<|.ref c),(vT<|.lst m,some<|.ref d)] _ #[i.len,s.perm<|(mid.symm.cons _).trans mid.symm] aRb q];exact q.elim
def aOk(z:X.mg "enumerate" = none)(ha:XAs X Ex [a] u)(s:Gl X "enumerate":=by rfl)(e:starEach [a] X.env=[(false,eval a X.env)]:=by rfl) :
  XIt X Ex (.Tuple es kk tpos) (.Call (.Name "enumerate" p) [a] [] f) (xiE u):=λF=>(aPv s z (ha F) e).weak λG H R=>by
 rintro⟨A,fr,B,E,t,k⟩;refine#[A,fr,_,E,t,λD C m h y i q=>?_];obtain⟨R,e⟩:=i.many y;split at q;rename_i l v;rw[v]at e;obtain⟨x,rfl,j⟩:=j8 e;obtain⟨c,o,rfl,r,_⟩:=j.lst_eq;exact#[c,rfl,#[o,SqL.of<|R.hv _ _ r],k _ m h [(vT<|.lst l,some<|.ref c)] _ (EOk.back i.len<|R.add j) aLt q];exact q.elim
end
abbrev XG:=Dx->En->(En->Prop)->Prop
def GX(n:Nat)(g:TG)(j:XG):Prop:=∀(F:Fm) (h:En) (c:St) (fr:S9) (H:Hp) (d:Dx) (x:V) (Q:St->Hp->Prop) (f:En->Prop),EOk F h c ((vT d,some x)::fr) H->j d h f ->
 (∀a e b,EOk F b a fr e->a.length=c.length->(∀i,n<=i->a[i]? = c[i]?)->f b->Q a e)->g x c H Q
def gxN(i:Nat):XG:=λd a Q=>Q<|a.set i<|vT d
def ex_(E:EOk F ρ σ ((.v s,some x)::fr) H):EOk F (ρ.set i<|.v s) (σ.set i<|some x) fr H:=by by_cases a:i<ρ.length;refine #[by rw [bJ,bJ]; exact E.len,?_];have b:=zW (l:=ρ.zip σ) (i:=i)<|aG (by rw[dD];have:=E.len;lia);have R:=E.front.perm<|(b.append_right fr).cons _;exact(R.perm<|.swap _ _ _).tail.perm ((nM E.len a).append_right fr).symm;rw [cL<|eJ a,cL (by have:=E.len; lia)];exact E.drop
def i_(h:i<n):GX n (kX i)<|gxN i:=λF c e fr H d x Q a E g k=>k _ H _ (ex_ E) (bJ) (λj b=>cI `a) g
@[reducible] def aRk:T3->TGs
 | []=>aRq
 |i::is=>aCv (kX i)<|aRk is
def gxs:T3->S1->En->(En->Prop)->Prop
 | [],[],ρ,Q=>Q ρ
 |i::is,d::ds,ρ,Q=>gxs is ds (ρ.set i<|.v<|.tr d) Q
 |_,_,_,_=>False
def gxT(is:T3):XG:=λd a Q=>match d with
 | .tup ds=>gxs is ds a Q
 |_=>False
def aMd{n}{F}{fr}{H}{Q}{Qx}:∀{is} {ds} {xs} {ρ} {h},(∀i∈is,i<n)->EOk F ρ h fr H->All2 (IsX<|hid (bD<|ρ.zip h++fr) `n) ds xs->gxs is ds ρ Qx ->
  (∀f ρ',EOk F ρ' f fr H->f.length=h.length->(∀i,n<=i->f[i]? = h[i]?)->Qx ρ'->Q f H)->aRk is xs h H Q
 | [],[],xs,ρ,h,_,E,ha,g,k=>#[ha,k h ρ E rfl (λ_ _=>rfl) g]
 |i::is,d::ds,xs,ρ,h,hi,E,⟨x,xr,e,h1,h2⟩,g,k=>by
  have t:EOk F (ρ.set i<|vT d) (h.set i<|some x) fr H:=ex_<|EOk.back E.len<|E.rep.add h1;refine#[x,xr,e,aMd (λj o=>hi j<|aC _ o) t (h2.imp λa b z=>z.to<|lF λc m=>?_) g λf ρ' r u A q=>k f ρ' r (u.trans bJ) (λj o=>(A j o).trans<|cI (by have:=hi i aB;lia)) q];by_cases p:i<ρ.length;have y:=((nM (s:=.v<|.tr d) (v:=some x) E.len p).append_right fr).flatMap_right eL;have B:=((zW (l:=ρ.zip h) (i:=i)<|aG (by rw[dD];have:=E.len;lia)).append_right fr).flatMap_right eL;refine B.mem_iff.mpr ?_;have:=y.mem_iff.mp m;rcases aX.mp this with z | z
  cases z;exact aJ _ z;rw [cL<|eJ p,cL (by have:=E.len; lia)] at m;exact m
 | [],_::_,_,_,_,_,_,_,g,_=>g.elim
 |_::_,[],_,_,_,_,_,_,g,_=>g.elim
def aCs:∀{is} {ds} {ρ},gxs is ds ρ Q->ds.length=is.length
 | [],[],_,_=>rfl
 |i::is,d::ds,ρ,g=>congrArg (· + 1) (aCs (is:=is) (ds:=ds) g)
 | [],_::_,_,g=>g.elim
 |_::_,[],_,g=>g.elim
def jg_(o:is.length=m)(h:∀i∈is,i<n):GX n (aMj K m<|aRk is)<|gxT is:=λF u v fr H d x Q t E g k=>by unfold gxT at g;split at g;obtain ⟨R,r⟩:=E.one;obtain⟨a,s,rfl,j,e⟩:=r.tup_eq;exact#[a,s,rfl,SqT.of<|R.hv _ _ j,by rw[e.len,aCs g,o],aMd h E.drop e g λc b f l p q=>k c H b f l p q];exact g.elim
def aOt:XC:=λa Q=>Q true a
def XCs(X:Cx)(Ex:ExT)(a:T6)(t:XC):Prop:=∀F,[OkF X Ex F]->PCs X a (tXc F t)
def lO:XCs X Ex [] aOt:=λF=>(aQc (X:=X)).weak λc H Q=>by rintro⟨a,fr,b,E,t,k⟩;exact k true H a E t
def cj_(h:XTe X Ex c t):XCs X Ex [c] t:=λF=>aQb<|h F
def cC(n:Nat)(c:XG)(e:XC)(f:XT)(Q:S1->T1->Prop):S1->T1->S1->Prop
 | [],cs,Ae=>Q Ae cs
 |d::ds,cs,Ae=>c d (List.replicate n .un++cs) λg=>e g λb a=>if b=true then f a λs h=>cC n c e f Q ds (h.drop n) (Ae++[s.d])else cC n c e f Q ds (a.drop n) Ae
def cut:T3->En->En
 | [],ρ=>ρ
 |j::js,ρ=>cut js<|ρ.set j .un
def sJ(outs:T3)(ρ:En):T1:=outs.map λj=>(ρ[j]?).getD .un
def back:T3->T1->En->En
 |j::js,c::cs,ρ=>back js cs (ρ.set j c)
 |_,_,ρ=>ρ
def lH(n:Nat)(outs:T3)(i:XI)(f:XG)(g:XC)(h:XT):XT:=λj Q=>i j λb a=>b.length<=1000000/\cC n f g h (λc e=>Q (.ol c)<|back outs e a) b (sJ outs a) []
def sw{a:Type}{A B C:List a}:(A++(B++C)).Perm<|B++(A++C):=by rw[<-bN,<-bN];exact fL.append_right C
section
variable{F:Fm}{H:Hp}{a:St}
abbrev mK(a:St)(outs:T3):St:=outs.map λj=>(a[j]?).join
def aNg(h:j∉js):sJ js (ρ.set j s)=sJ js ρ:=by refine iN λk b=>?_;rw[cI<|λz=>h (by rw[z];exact b)]
def oO:∀{js} {ρ},(cut js ρ).length=ρ.length
 | [],_=>rfl
 |j::js,ρ=>(oO (js:=js)).trans bJ
def aDi:∀{js} {j} {s} {ρ},j∉js->cut js (ρ.set j s)=(cut js ρ).set j s
 | [],_,_,_,_=>rfl
 |k::js,j,s,ρ,h=>by show cut js ((ρ.set j s).set k .un)=(cut js<|ρ.set k .un).set j s;rw[List.set_comm _ _<|λz=>h (by rw[z];exact aB),aDi λz=>h<|aC _ z]
def aBi:∀{outs} {ρ:En} {T},outs.Nodup->ρ.length=a.length->Rep F (ρ.zip a++T) H->Rep F ((sJ outs ρ).zip (mK a outs)++((cut outs ρ).zip a++T)) H
 | [],_,_,_,_,R=>R
 |j::js,ρ,T,hn,hl,R=>by
  have c:=bW.mp hn;have step:Rep F ((ρ.set j .un).zip a++(((ρ[j]?).getD .un,(a[j]?).join)::T)) H:=by by_cases f:j<ρ.length;have e:=aG f;have b:a[j]? = some (a[j]'`a):=aG `a;have g:=R.perm<|(bv_ e b).append_right T;have R2:=g.addU (x:=a[j]'`a);rw[e,b];refine R2.perm ?_;refine(List.Perm.swap _ _ _).trans ?_;exact(((cx_ hl f b).append_right T).symm.cons _).trans mid.symm;rw [cL `a,fM `a,fM `a];exact(R.addU (x:=none)).perm mid.symm
  have:=aBi (outs:=js) c.2 (by rw[bJ];exact hl) step;rw[aNg c.1]at this;refine this.perm ?_;refine List.Perm.trans ?_<|List.Perm.refl _;rw[<-bN];exact mid.trans (by rw[bN];exact .refl _)
def aJj:∀{outs} {cs:T1} {ρ} {T},outs.Nodup->ρ.length=a.length->cs.length=outs.length->Rep F (cs.zip (mK a outs)++((cut outs ρ).zip a++T)) H->Rep F ((back outs cs ρ).zip a++T) H
 | [],[],_,_,_,_,_,R=>R
 | [],_::_,_,_,_,_,h,_=>by simp at h
 |_::_,[],_,_,_,_,h,_=>by simp at h
 |j::js,c::cs,ρ,T,hn,hl,hc,R=>by
  have g:=bW.mp hn;refine aJj (outs:=js) (cs:=cs) g.2 (by rw[bJ];exact hl) (by simpa using hc) ?_;have b:Rep F ((c,(a[j]?).join)::(cs.zip (mK a js)++((cut js<|ρ.set j .un).zip a++T))) H:=R;rw[aDi g.1]at b ⊢;have f:(cut js ρ).length=a.length:=oO.trans hl;by_cases m:j<ρ.length;have i:j < (cut js ρ).length:=by rw [oO]; exact m
  have e:a[j]? = some (a[j]'`a):=aG `a;rw[e]at b;have p:=((cx_ (s:=.un) f i e).append_right T);have q:=((cx_ (s:=c) f i e).append_right T);have R2:=b.perm<|(List.Perm.append_left _ p).cons _;have l:=R2.perm<|(mid.cons _).trans<|.swap _ _ _;exact l.tail.perm<|mid.symm.trans<|List.Perm.append_left _ q.symm;have o:(cut js ρ).length≤j:=by rw [oO]; lia
  rw[cL o]at b ⊢;exact b.tail
def Rep.drops:∀{A P},Rep F (A++P) H->Rep F P H
 | [],_,R=>R
 |_::_,_,R=>Rep.drops R.tail
def Rep.addUs{P}(R:Rep F P H):∀n,Rep F (List.replicate n (.un,none)++P) H
 | 0=>R
 |n+1=>(Rep.addUs R n).addU
def rS(ds:S1)(xs:S3):S9:=(ds.zip xs).map λp=>(vT p.1,some p.2)
def Rep.accs:∀{ds} {xs} {P},ds.length=xs.length->Rep F (rS ds xs++P) H->Rep F P H/\All2 (IsX<|hid (bD P) `n) ds xs
 | [],[],P,_,R=>#[R,rfl]
 | [],_::_,_,h,_=>by simp at h
 |_::_,[],_,h,_=>by simp at h
 |d::ds,x::xs,P,h,R=>by obtain⟨v,e,i⟩:=Rep.atT<|show Rep F ((vT d,some x)::(rS ds xs++P)) H from R;cases e;obtain⟨b,f⟩:=Rep.accs (ds:=ds) (xs:=xs) (by simpa using h)<|Rep.tail<|R;refine#[b,x,xs,rfl,i.to<|lF λc g=>?_,f];unfold bD;rw[iP];exact aJ _ g
end
section
variable{dsc scope:Scope}{tgs N':S4}{outs:T3}{A p w:Expr}{u:T6}{r:Pos}{o:XI}{g:TG}{f:XG}{e:XC}{a:XT}
def rM(Cs:GX n g f)(Ao:outs.Nodup){O:TT}{S:TE}(Nq:∀B H Q,tXc F e B H Q->O B H Q)(Np:∀B H Q,tX F a B H Q->S B H Q){Q:VK}{Qx:Sv->En->Prop}
  (k:∀v s E ρ',EOk F ρ' B ((.v s,some v)::(row++fr)) E->Qx s ρ'->Q v E) (Y:EOk F ρ' B (row++fr) E) (hJ:ItX F J row ds) (q:ds.length<=1000000/\cC n f e a (λz cs=>Qx (.ol z)<|back outs cs ρ') ds (sJ outs ρ') []) :
  ∃W:Nat->Nat->S3->Hp->Prop,(∃m,W 0 m [] E)/\∀i m z H,W i m z H ->
  (J.stop i H/\z.length<=sizeLine/\∀l,H l=none->Q (.ref l) (upd H l<|.lst z)) \/
  (J.go i H∧z.length < sizeLine∧∃ N:S3→Hp→Prop,(∀ acc' E,N acc' E→∃ I,I < m∧W (i + 1) I acc' E)∧∀ x E,J.yld i H x E→g x (kP n outs B) E fun C H2=>O C H2 fun b Z => if b=true then S C Z λy G=>N (z++[y]) G else N z Z):=by
 obtain⟨hd,q⟩:=q;have zl:=iM;refine#[λi m z H=>m=ds.length-i/\i<=ds.length/\∃cs t,cs.length=outs.length/\t.length=z.length/\z.length<=i/\Rep F (cs.zip (mK B outs)++(rS t z++(row++((cut outs ρ').zip B++fr)))) H /\
  cC n f e a (λz cs=>Qx (.ol z)<|back outs cs ρ') (ds.drop i) cs t,#[ds.length,by simp,bM _,sJ outs ρ',[],by simp[sJ],rfl,aO _,?_,by simpa using q],?_]
 have R:=aBi Ao Y.len Y.rep;refine R.perm<|List.Perm.append_left _ ?_;exact sw;rintro i m z Z ⟨rfl,hi,cs,t,D5,V,Rk,R,hq⟩;have Ec:Rep F (row++(cs.zip (mK B outs)++(rS t z++((cut outs ρ').zip B++fr)))) Z:=by exact R.perm<|(List.Perm.append_left _ sw).trans sw
 by_cases T:i<ds.length;right;have Le:=aG T;rw[List.drop_eq_getElem_cons T]at hq;refine#[hJ.go _ _ i _ Ec Le,by lia,λacc' G=>∃I,I<ds.length-i/\(I=ds.length-(i+1)/\i+1<=ds.length/\∃cs t,cs.length=outs.length/\t.length=acc'.length/\acc'.length<=i+1/\Rep F (cs.zip (mK B outs)++(rS t acc'++(row++((cut outs ρ').zip B++fr)))) G /\
  cC n f e a (λz cs=>Qx (.ol z)<|back outs cs ρ') (ds.drop<|i+1) cs t),λacc' G h=>h,λx G hy=>?_]
 have R4:=hJ.yld _ _ i _ x G Ec Le hy;have Nf:∀(cs:T1),cs.length=outs.length->(List.replicate n Sl.un++cs).zip (kP n outs B)=List.replicate n (Sl.un,none)++cs.zip (mK B outs):=λcs Dm=>by unfold kP;rw[List.zip_append<|by rw[bP,bP],List.zip_replicate];simp
 have Ei:EOk F (List.replicate n .un++cs) (kP n outs B) ((vT ds[i],some x)::(rS t z++(row++((cut outs ρ').zip B++fr)))) G:=by refine#[by rw[qF,aI,bP,D5],?_];rw[Nf cs D5,bN];refine Rep.addUs (R4.perm ?_) n;exact((sw.trans<|List.Perm.append_left _ sw).cons _).trans mid.symm
 have M:∀{D:En} {C:St} {d:Hp} {accD':S1} {acc':S3},C.length=(kP n outs B).length->(∀j,n<=j->C[j]? = (kP n outs B)[j]?)->EOk F D C (rS accD' acc'++(row++((cut outs ρ').zip B++fr))) d->accD'.length=acc'.length->acc'.length<=i+1 ->
   cC n f e a (λz cs=>Qx (.ol z)<|back outs cs ρ') (ds.drop<|i+1) (D.drop n) accD' ->
   ∃I,I<ds.length-i/\(I=ds.length-(i+1)/\i+1<=ds.length/\∃cs t,cs.length=outs.length/\t.length=acc'.length/\acc'.length<=i+1/\Rep F (cs.zip (mK B outs)++(rS t acc'++(row++((cut outs ρ').zip B++fr)))) d /\
    cC n f e a (λz cs=>Qx (.ol z)<|back outs cs ρ') (ds.drop<|i+1) cs t):=λ{D C d accD' acc'} U hs2 L h1 h2 h3=>by
  have F7:D.length=n+outs.length:=by rw[L.len,U,qF]
  refine#[ds.length-(i+1),Nat.sub_succ_lt_self ds.length i T,rfl,T,D.drop n,accD',by rw[iK,F7];exact Nat.add_sub_self_left n outs.length,h1,h2,?_,h3];have hv:C.drop n=mK B outs:=by apply List.ext_getElem?;intro j;rw[List.getElem?_drop,hs2 _<|dF n j];unfold kP;rw[bX (by rw[bP];lia),bP,Nat.add_sub_cancel_left]
  have hz:D.zip C=(D.take n).zip (C.take n)++(D.drop n).zip (C.drop n):=by rw[<-List.zip_append (by rw[fG,fG,L.len]),List.take_append_drop,List.take_append_drop]
  have R5:=L.rep;rw[hz,hv,bN]at R5;exact Rep.drops R5
 refine Cs F _ _ _ G _ x _ _ Ei hq λC d a0 E1 U hs2 q1=>Nq _ _ _ #[a0,_,_,E1,q1,λb H6 a1 E2 q2=>?_];cases b with
 |false=>exact M U hs2 E2 V (jF Rk) q2
 |true =>
  refine Np _ _ _ #[a1,_,_,E2,q2,λy s H7 D L q3=>?_];refine M (accD':=t++[s.d]) (acc':=z++[y]) U hs2 #[L.len,?_] (by rw[aI,aI,V];rfl) (by rw[aI];show z.length+1<=_;exact gB Rk 1) q3;have R7:=(EOk.front L).frz;have he:rS (t++[s.d]) (z++[y])=rS t z++[(vT s.d,some y)]:=by unfold rS;rw[List.zip_append V,aY];rfl
  rw[he,bN];exact R7.perm<|mid.symm.trans<|List.Perm.append_left _ mid.symm
 left;have O1:i=ds.length:=by lia
 subst O1;rw[List.drop_length]at hq;refine#[hJ.stop _ _ _ Ec<|aO _,by lia,λl hl=>?_];have R1:=R.perm<|sw.trans<|List.Perm.append_left _ sw;obtain⟨R2,ha⟩:=R1.accs V;have R4:=((R2.newL hl ha).perm<|(sw.trans<|List.Perm.append_left _ sw).cons _).perm<|mid.symm.trans<|List.Perm.append_left _ mid.symm;have Iw:∀{js:T3} {cs:T1} {ρ:En},(back js cs ρ).length=ρ.length:=by
  intro js
  induction js with
  |nil=>intro cs ρ;cases cs<;>rfl
  |cons j js ih=>intro cs ρ;cases cs with
   |nil=>rfl
   |cons c cs=>exact(ih (cs:=cs)).trans bJ
 exact k _ (.ol t) _ (back outs cs ρ') #[Iw.trans Y.len,aJj Ao Y.len D5 R4] hq
def lk_(I:GX n g f)(G:outs.Nodup){t:TT}{z:TE}(S:∀h H Q,tXc F e h H Q->t h H Q)(R:∀h H Q,tX F a h H Q->z h H Q){Q:VK}{Qx:Sv->En->Prop}
  (k:∀v s c ρ',EOk F ρ' h ((.v s,some v)::fr) c->Qx s ρ'->Q v c) (L:EOk F ρ' h (row++fr) c) (T:ItX F J row ds) (q:ds.length<=1000000/\cC n f e a (λj cs=>Qx (.ol j)<|back outs cs ρ') ds (sJ outs ρ') []) :
  ∃W:Nat->Nat->S3->Hp->Prop,(∃m,W 0 m [] c)/\∀i m j H,W i m j H ->
  (J.stop i H/\j.length<=sizeLine/\∀l,H l=none->Q (.ref l) (upd H l<|.lst j)) \/
  (J.go i H∧j.length < sizeLine∧∃ N:S3→Hp→Prop,(∀ acc' c,N acc' c→∃ D,D < m∧W (i + 1) D acc' c)∧∀ x c,J.yld i H x c→g x (kP n outs h) c fun B M=>t B M fun b C => if b=true then z B C λy O=>N (j++[y]) O else N j C):=
 rM I G S R (λv s c ρ' E q=>k v s c ρ' #[E.len,(E.rep.perm<|(List.Perm.append_left _ mid.symm).trans sw).drops] q) L T q
def aAx(h:GX n g f)(c:outs.Nodup):∀b H Q,tX F (lH n outs o f e a) b H Q->nE n outs (tXi F o) g (tXc F e) (tX F a) b H Q:=by rintro b H Q ⟨m,fr,y,E,t,k⟩;exact#[m,fr,_,E,t,λJ v s l B i j q=>lk_ h c (λ_ _ _ z=>z) (λ_ _ _ z=>z) k i j q]
end
end Lf
namespace L2
open PySem
def PS.weak(h:PS X e t)(w:∀D a H,u D a H->t D a H):PS X e u:=λb s a H D I q=>h b s a H D I<|w D a H q
def PSs.weak(h:PSs X e t)(w:∀D a H,u D a H->t D a H):PSs X e u:=λb s a H D I q=>h b s a H D I<|w D a H q
end L2
namespace Lf
open PySem L2
def vG(S:CompScope dsc scope N tgs outs N')(r:XIt X Ex tg iter ti)(q:∀f C s H ex,PG (cD X N' scope f C s H ex) tg g)(i:GX tgs.length g gx)(m:Tgt tgs.length g)
  (l:∀f C s H ex,XCs (cD X N' scope f C s H ex) dQ ifs tc) (p:∀f C s H ex,XE (cD X N' scope f C s H ex) dQ elt te) (h:outs.Nodup:=by decide) (j:X.N=N:=by rfl) (hsc:X.env.scope=dsc:=by rfl) (o:X.calm=true:=by rfl) (t:∀x,foldedSetIterable iter X.env x=pure x:=by intro _;rfl) :
  XE X Ex (.ListComp elt [#[tg,iter,ifs,0]] scope pos) (lH tgs.length outs ti gx tc te):=λF =>
 (wK S (r F) q m (λa b c d e=>l a b c d e F) (λa b c d e=>p a b c d e F) j hsc o t).weak (aAx i h)
structure XD where
 nx:En->Prop
 rt:Sv->En->Prop
 bk:En->Prop
 ct:En->Prop
abbrev XS:=En->XD->Prop
structure DOk(F:Fm)(n:Nat)(fr:S9)(D:Ends)(d:XD):Prop where
 nx:∀σ' H' ρ',σ'.length=n->EOk F ρ' σ' fr H'->d.nx ρ'->D.nx σ' H'
 rt:∀v s σ' H' ρ',σ'.length=n->EOk F ρ' σ' ((.v s,some v)::fr) H'->d.rt s ρ'->D.rt v H'
 bk:∀σ' H' ρ',σ'.length=n->EOk F ρ' σ' fr H'->d.bk ρ'->D.bk σ' H'
 ct:∀σ' H' ρ',σ'.length=n->EOk F ρ' σ' fr H'->d.ct ρ'->D.ct σ' H'
def tXS(F:Fm)(G:XS):TS:=λD b H=>∃a fr d,EOk F a b fr H/\G a d/\DOk F b.length fr D d
def XSt(X:Cx)(Ex:ExT)(st:Stmt)(G:XS):Prop:=∀F,[OkF X Ex F]->PS X st (tXS F G)
def XSs(X:Cx)(Ex:ExT)(st:List Stmt)(G:XS):Prop:=∀F,[OkF X Ex F]->PSs X st (tXS F G)
def jC:XS:=λa D=>D.nx a
def cX(G K:XS):XS:=λb D=>G b { D with nx:=λa=>K a D }
def iQ(i:Nat)(t:XT):XS:=λb D=>t b λs a=>D.nx<|a.set i<|.v s
def bJd(t:XT)(b:XG):XS:=λc D=>t c λs a=>b s.d a D.nx
def aOx(t:XT):XS:=λb D=>t b λ_ a=>D.nx a
def lT(t:XT):XS:=λb D=>t b λs a=>D.rt s a
def xIf(c:XC)(G K:XS):XS:=λe D=>c e λb a=>if b=true then G a D else K a D
def iS(a:XG)(G:XS)(D:XD):S1->En->Prop
 | [],ρ=>D.nx ρ
 |d::ds,ρ=>a d ρ λb=>G b { D with nx:=iS a G D ds,ct:=iS a G D ds,bk:=D.nx }
def lC(e:XI)(c:XG)(G:XS):XS:=λf D=>e f λb a=>iS c G D b a
section
variable{st:Stmt}{rest:List Stmt}{G K:XS}{e c l j:Expr}{t:XT}{o:XC}{f:Pos}{i:Nat}
def iH:XSs X Ex [] jC:=λF=>(aPn (X:=X)).weak λD b H=>by rintro⟨a,fr,d,E,q,k⟩;exact k.nx b H a rfl E q
def cE(h:XSt X Ex st G)(h':XSs X Ex rest K):XSs X Ex (st::rest)<|cX G K:=λF=>(aJm (h F)<|h' F).weak λD u H=>by rintro⟨p,fr,d,E,q,k⟩;exact#[p,fr,_,E,q,#[λr s a g b m=>#[a,fr,d,b,m,by rw[g];exact k],k.rt,k.bk,k.ct]]
def cP(h:XSt X Ex st G):XSs X Ex [st] G:=λF=>wG<|h F
def aOf(h:∀F,[OkF X Ex F]->PS X st (vO (tX F t)<|kX i)):XSt X Ex st<|iQ i t:=λF=>(h F).weak λD r H=>by rintro⟨m,fr,d,E,q,k⟩;exact#[m,fr,_,E,q,λv s b p a g=>k.nx _ b _ bJ (ex_ a) g]
def aOh(r:GX n g gx)(h:∀F,[OkF X Ex F]->PS X st (vO (tX F t) g)):XSt X Ex st<|bJd t gx:=λF=>(h F).weak λD J H=>by rintro⟨I,fr,d,E,q,k⟩;exact#[I,fr,_,E,q,λv s y a p B=>r F a J fr y s.d v _ _ (EOk.back p.len p.front.frz) B λm z b u A _ C=>k.nx m z b A u C]
def nP(h:XE X Ex e t)(m:swapsWith e none f.line X.env=pure false:=by rfl):XSt X Ex (.Expr e f)<|aOx t:=λF=>(io_ (h F) m).weak λD u H=>by rintro⟨r,fr,d,E,q,k⟩;exact#[r,fr,_,E,q,λv s g a b p=>k.nx u g a rfl b.drop p]
def dT(h:XE X Ex e t):XSt X Ex (.Return (some e) f)<|lT t:=λF=>(aWh<|h F).weak λD r H=>by rintro⟨p,fr,d,E,q,k⟩;exact#[p,fr,_,E,q,λv s g a b m=>k.rt v s r g a rfl b m]
def iC(r:XTe X Ex c o)(ha:XSs X Ex a G)(p:XSs X Ex b K):XSt X Ex (.If c a b f)<|xIf o G K:=λF=>(bEh (r F) (ha F)<|p F).weak λD v H=>by
 rintro⟨s,fr,d,E,q,k⟩;refine#[s,fr,_,E,q,λb u g h m=>?_];cases b with
 |true=>exact#[g,fr,d,h,m,k]
 |false=>exact#[g,fr,d,h,m,k]
def xNo:XS:=λ_ _=>False
def aMn(Cs:GX n g gx){tb:TS}(Y:∀D q H,tXS F G D q H->tb D q H)(k:DOk F q.length fr D d)(E':EOk F ρ' q (row++fr) p)(U:ItX F J row ds)(q':iS gx G d ds ρ') :
  ∃W:Nat->Nat->St->Hp->Prop,(∃m,W 0 m q p)/\∀i m q H,W i m q H ->
  (J.stop i H/\D.nx q H)\/(J.go i H/\∃N:St->Hp->Prop,(∀a p,N a p->∃y,y<m/\W (i+1) y a p)/\∀x p,J.yld i H x p->g x q p λu z=>tb { D with nx:=N,ct:=N,bk:=D.nx } u z):=by
 refine#[λi m r T=>m=ds.length-i/\i<=ds.length/\r.length=q.length/\∃b,EOk F b r (row++fr) T/\iS gx G d (ds.drop i) b,#[ds.length,by simp,bM _,rfl,ρ',E',by simpa using q'],?_];rintro i m r T ⟨rfl,hi,O,b,S,Q⟩;have M:=S.rep.perm sw;by_cases L:i<ds.length;right;have V:=aG L;rw[List.drop_eq_getElem_cons L]at Q;refine#[U.go _ _ i _ M V,λu z=>∃y,y<ds.length-i/\(y=ds.length-(i+1)/\i+1<=ds.length/\u.length=q.length/\∃b,EOk F b u (row++fr) z/\iS gx G d (ds.drop<|i+1) b),λ_ _ h=>h,λx z hy=>?_];have R2:=U.yld _ _ i _ x z M V hy;have E2:EOk F b r ((vT ds[i],some x)::(row++fr)) z:=#[S.len,R2.perm<|(sw.cons _).trans mid.symm];refine Cs F b r _ z _ x _ _ E2 Q λu H3 Z E3 R _ q2=>?_;have I:∀a p ρ',a.length=u.length->EOk F ρ' a (row++fr) p->iS gx G d (ds.drop<|i+1) ρ'->∃y,y<ds.length-i/\(y=ds.length-(i+1)/\i+1<=ds.length/\a.length=q.length/\∃b,EOk F b a (row++fr) p/\iS gx G d (ds.drop<|i+1) b):=λa p ρ' C B E => #[ds.length-(i+1),Nat.sub_succ_lt_self ds.length i L,rfl,L,by rw[C,R,O],ρ',B,E];have ends:∀{a:St} {p:Hp} {ρ':En} {Ru:S9},EOk F ρ' a (row++Ru) p->EOk F ρ' a Ru p:=λh=>#[h.len,Rep.drops (A:=row)<|h.rep.perm sw];refine Y _ _ _ #[Z,row++fr,_,E3,q2,#[I,λv s a p ρ' C B E=>k.rt v s a p ρ' (by rw[C,R,O]) ?_ E,λa p ρ' C B E=>k.nx a p ρ' (by rw[C,R,O]) (ends B) E,I]];exact ends #[B.len,B.rep.perm<|List.Perm.append_left _ mid.symm];left;have O1:i=ds.length:=by lia
 subst O1;rw[List.drop_length]at Q;exact#[U.stop _ _ _ M<|aO _,k.nx r T b O #[S.len,Rep.drops (A:=row) M] Q]
def aVm(b:GX n g gx):∀D a H,tXS F (lC ti gx G) D a H->bDs (tXi F ti) g (tXS F G) D a H:=by rintro D a H ⟨s,fr,d,E,q,k⟩;exact#[s,fr,_,E,q,λJ v u r y h m p=>aMn b (λ_ _ _ z=>z) k h m p]
def k9(q:PassesOwn `d X.A X.env X.xe)(h:X.calm=true)(p:XIt X Ex l j ti)(m:PG X l g)(a:GX n g gx)(b:XSs X Ex body G)(r:∀x,foldedSetIterable j X.env x=pure x:=by intro _;rfl):XSt X Ex (.For l j body [] f)<|lC ti gx G:=λF =>
 (aWi q h (p F) m (b F) r).weak (aVm a)
def lG(h:∀F,[OkF X Ex F]->PS X st (tXS F G)):XSt X Ex st G:=h
end
section
variable{F:Fm}{ρ:En}{b:St}{fr:S9}{H:Hp}{i:Nat}
def ef_(E:EOk F ρ b fr H)(h:(ρ[i]?).bind iR=some (l,f)):∃p e,b[i]? = some (some<|.ref p)/\H p=some (.lst e)/\All2 (IsX<|hid (bD<|ρ.zip b++fr) `n) l e /\
  ∀l' c,All2 (IsX<|hid (bD<|ρ.zip b++fr) `n) l' c->EOk F (ρ.set i<|f l') b fr (upd H p<|.lst c):=by
 obtain⟨D,m,r⟩:=bR.mp h;obtain⟨v,hv,y,R⟩:=uY E m;obtain⟨p,e,rfl,s,o,t,u⟩:=jo_ r R;have g:(bD<|ρ.zip b++fr).Perm<|bD ((D,some<|V.ref p)::((ρ.zip b).eraseIdx i++fr)):=((bv_ m hv).append_right fr).flatMap_right _;rw[mZ o]at g;refine#[p,e,hv,s,t.imp λ_ _ z=>z.to<|lF λa j=>g.mem_iff.mp j,λl' c q=>?_];obtain⟨A,B,C⟩:=u l';exact fq_ E.len y hv<|R.put o A B<|C bY<|q.imp λ_ _ z=>(z.to<|lF λa j=>g.mem_iff.mpr j).to oH
def rG(E:EOk F ρ b fr H)(h:ρ[i]? = some (.v<|.od l)):∃p e,b[i]? = some (some<|.ref p)/\H p=some (.dK e)/\All2 (KvX<|hid (bD<|ρ.zip b++fr) `n) l e /\
  ∀l' c,All2 (KvX<|hid (bD<|ρ.zip b++fr) `n) l' c->EOk F (ρ.set i<|.v<|.od l') b fr (upd H p<|.dK c):=by
 obtain⟨v,hv,q,R⟩:=uY E h;obtain⟨p,e,rfl,m,o⟩:=R.atD;have g:(bD<|ρ.zip b++fr).Perm<|bD ((.v<|.od l,some<|V.ref p)::((ρ.zip b).eraseIdx i++fr)):=((bv_ h hv).append_right fr).flatMap_right _;refine#[p,e,hv,m,o.imp λ_ _ z=>z.to<|lF λa f=>g.mem_iff.mp f,λl' c j=>?_];exact fq_ E.len q hv<|R.putD<|j.imp λ_ _ z=>z.to<|lF λa f=>g.mem_iff.mpr f
def xD(E:EOk F ρ b fr H)(h:(ρ[i]?).bind iR=some (l,f)):∃p a,b[i]? = some (some<|.ref p)/\H p=some (.lst a):=by obtain⟨p,a,c,e,_⟩:=ef_ E h;exact#[p,a,c,e]
end
def aEc(i:Nat)(t:XT):XS:=λb D=>((b[i]?).bind iR).isSome=true/\t b λs a=>match (a[i]?).bind iR with
 |some (l,f)=>l.length<1000000/\D.nx (a.set i<|f<|l++[s.d])
 |none=>False
def bOk(i:Nat)(t:XT):XS:=λb D=>((b[i]?).bind iR).isSome=true/\t b λs a=>match (a[i]?).bind iR,s.d with
 |some (l,f),.lst m=>l.length+m.length<=1000000/\D.nx (a.set i<|f<|l++m)
 |_,_=>False
def bCy(i:Nat):XT:=λa Q=>match (a[i]?).bind iR with
 |some (l,f)=>(match l.getLast? with | some d=>Q (.tr d) (a.set i<|f l.dropLast) | none=>False)
 |none=>False
def aTc(i:Nat)(e c:XT):XS:=λg D=>c g λs a=>((a[i]?).bind iR).isSome=true/\e a λk b=>match (b[i]?).bind iR,k.d with
 |some (l,f),.int j=>(match ixN l.length j with | some n=>D.nx (b.set i<|f<|l.set n s.d) | none=>False)
 |_,_=>False
def aJi(l:U1)(k:Key)(d:Dx):U1:=if(l.any λa=>decide (a.1=k))=true then l.map (λa=>if a.1=k then(a.1,d)else a)else l++[(k,d)]
def bDf(i:Nat)(tk c:XT):XS:=λe D=>c e λs a=>(∃l,a[i]? = some (.v<|.od l))/\tk a λk b=>match b[i]?,c_ k.d with
 |some (.v<|.od l),some key=>l.length<1000000/\D.nx (b.set i<|.v<|.od<|aJi l key s.d)
 |_,_=>False
def aJg(h:All2 (KvX G) l a)(i:IsX G d v):All2 (KvX G) (aJi l k d)<|wE a k v:=by
 have any:∀{l:U1} {a:U2},All2 (KvX G) l a->(l.any λb=>decide (b.1=k))=(a.any λb=>decide (b.1=k)):=by
  intro l
  induction l with
  |nil=>intro a h;rw[show a=[]from h];rfl
  |cons p l f => intro a h;obtain⟨w,j,rfl,⟨g,_⟩,c⟩:=h;rw[List.any_cons,List.any_cons,f c,g]
 have mp:∀{l:U1} {a:U2},All2 (KvX G) l a->All2 (KvX G) (l.map λb=>if b.1=k then(b.1,d)else b) (a.map λb=>if b.1=k then(b.1,v)else b):=by
  intro l
  induction l with
  |nil=>intro a h;rw[show a=[]from h];rfl
  |cons p l f => intro a h;obtain⟨w,j,rfl,⟨g,m⟩,c⟩:=h;refine#[_,_,rfl,?_,f c];by_cases e:p.1=k;grind;grind
 unfold aJi wE;rw[any h];split;exact mp h;exact h.snoc #[rfl,i]
section
variable{st:Stmt}{i:Nat}{t r u tk c:XT}{F:Fm}{K:dN}
def aVq:∀D a H,tXS F (aEc i t) D a H->aAw (tBM K "list" nZ (fO i)<|lU (tX F t) sB) D a H:=by rintro D a H ⟨I,fr,d,E,⟨C,q⟩,k⟩;obtain⟨⟨N,M⟩,v⟩:=cK.mp C;obtain⟨p,G,hv,A⟩:=xD E v;refine#[.ref p,hv,.inl #[rfl,G,SqL.of A],I,fr,_,E,q,λy s L J h b=>?_];split at b;rename_i l f z;obtain⟨R,B⟩:=h.one;obtain⟨O,e,g,o,j,m⟩:=ef_ h.drop z;rw[hv]at g;cases g;exact#[p,e,y,rfl,rfl,o,by rw[j.len];have:=iM;lia,k.nx a _ _ rfl (m _ _<|j.snoc B) b.2];exact b.elim
def aGr{m:List β}{d:α}(h:All2 g l m)(e:l.getLast? = some d):∃v,m[m.length-1]? = some v/\g d v:=by rw[List.getLast?_eq_getElem?]at e;obtain⟨v,a,b⟩:=h.at e;exact#[v,by rw[h.len];exact a,b]
def aSx{l:List α}{m:List β}(h:All2 g l m):All2 g l.dropLast m.dropLast:=by rw[List.dropLast_eq_take,List.dropLast_eq_take,h.len];exact h.take _
def aVk:∀e H Q,tX F (bCy i) e H Q->aVp K "list" bEd (fO i) e H Q:=by rintro e H Q ⟨g,fr,Y,E,q,k⟩;unfold bCy at q;split at q;rename_i l f h;obtain⟨p,D,hv,C,B,G⟩:=ef_ E h;split at q;rename_i d T;obtain⟨v,J,L⟩:=aGr B T;refine#[.ref p,hv,.inl #[rfl,D,SqL.of C],p,D,v,rfl,rfl,C,J,k v (.tr d) _ _ ?_ q];have s:=G _ _<|aSx B;refine EOk.back s.len<|s.rep.add<|L.to ?_;obtain⟨W,z,M⟩:=bR.mp h;obtain⟨Z,m,U,R⟩:=uY E z;rw[hv]at m;cases m;obtain⟨_,_,I,_,N,_,O⟩:=jo_ M R;cases I;have A:(bD<|g.zip e++fr).Perm<|bD ((W,some<|V.ref p)::((g.zip e).eraseIdx i++fr)):=((bv_ z hv).append_right fr).flatMap_right _;have y:(bD<|(g.set i<|f l.dropLast).zip e++fr).Perm<|bD ((f l.dropLast,some<|V.ref p)::((g.zip e).eraseIdx i++fr)):=((cx_ E.len U hv).append_right fr).flatMap_right _;rw[mZ N]at A;rw[mZ (O _).1]at y;intro b o h;have S:=lF (O':=p::bD ((g.zip e).eraseIdx i++fr)) (λa j=>A.mem_iff.mpr j) _ _ h;exact lF (λa j=>y.mem_iff.mp j) _ _<|oH _ _ S;exact q.elim;exact q.elim
def aAv:∀D b H,tXS F (aTc i r u) D b H->vO (tX F u) (bGd (fO i) (tX F r) aTl) D b H:=by rintro D b H ⟨Q,fr,d,E,q,k⟩;refine#[Q,fr,_,E,q,λy s T h o e=>?_];obtain⟨O,e⟩:=e;obtain⟨⟨Z,W⟩,J⟩:=cK.mp O;obtain⟨p,ws,hv,Y⟩:=xD o J;refine#[.ref p,hv,h,_,_,o,e,λz V U S v a=>?_];split at a;rename_i l f j L M;obtain⟨R,I,A⟩:=v.two;rw[M]at A;cases A.int_eq;obtain⟨x,g,m,G,B,C⟩:=ef_ (v.drop.drop) L;rw[hv]at m;cases m;split at a;rename_i n N;exact#[p,g,j,n,rfl,rfl,G,by rw[B.len];exact N,k.nx b _ _ rfl (C _ _<|B.set I n) a];exact a.elim;exact a.elim
def aPc:∀D a H,tXS F (bDf i tk c) D a H->aTh (fO i) (tX F tk) (tX F c) D a H:=by rintro D a H ⟨M,fr,d,E,q,k⟩;refine#[M,fr,_,E,q,λy s O f h b=>?_];obtain⟨⟨T,C⟩,b⟩:=b;obtain⟨p,Y,hv,S,_⟩:=rG h C;refine#[.ref p,hv,f,_,_,h,b,λz W Q N j e=>?_];split at e;rename_i l J G I;obtain⟨R,B,A⟩:=j.two;obtain⟨U,L,g,v,m,o⟩:=rG (j.drop.drop) G;rw[hv]at g;cases g;cases ld_ A I;exact#[p,_,rfl,DPut.k v (by rw[m.len];have:=iM;lia),k.nx a _ _ rfl (o _ _<|aJg m B) e.2];exact e.elim
end
def aHr(c:XC)(G:XS):XS:=λf D=>∃W:Nat->En->Prop,(∃m,W m f)/\∀m f,W m f->c f λb e=>if b=true then ∃N:En->Prop,(∀a,N a->∃g,g<m/\W g a)/\G e { D with nx:=N,ct:=N,bk:=D.nx }else D.nx e
def aHb(Q:PassesOwn `d X.A X.env X.xe)(O:XTe X Ex c tc)(M:XSs X Ex body G):XSt X Ex (.While c body [] pos)<|aHr tc G:=λF=>(aJn Q (O F)<|M F).weak λD y H=>by
 rintro⟨T,fr,d,E,⟨W,⟨R,w0⟩,turn⟩,k⟩;refine#[λm g A=>g.length=y.length/\∃e,EOk F e g fr A/\W m e,#[R,rfl,T,E,w0],?_];rintro m g A ⟨t,e,B,S⟩;refine#[e,fr,_,B,turn m e S,λb C r z u=>?_];cases b with
 |false=>exact k.nx g C r t z u
 |true =>
  obtain⟨N,L,u⟩:=u;have q:∀a i f,a.length=g.length->EOk F f a fr i->N f->∃j,j<m/\a.length=y.length/\∃e,EOk F e a fr i/\W j e:=λa i f l o p=>by obtain⟨j,I,J⟩:=L f p;exact#[j,I,by rw[l,t],f,o,J]
  exact#[λa i=>∃j,j<m/\a.length=y.length/\∃e,EOk F e a fr i/\W j e,λa i h=>h,r,fr,_,z,u,#[q,λv s a i f l o p=>k.rt v s a i f (by rw[l,t]) o p,λa i f l o p=>k.nx a i f (by rw[l,t]) o p,q]]
def jI(N:S4)(ds:S1):En:=ds.map (λd=>.v<|.tr d)++List.replicate (N.length-ds.length) .un
abbrev aEn(Q:Sv->Prop):XD:=#[λ_=>Q<|.tr .non,λs _=>Q s,λ_=>False,λ_=>False]
def jn_(g:Rep F [] H):∀{ds} {vs},All2 (IsX `n) ds vs->Rep F ((ds.map (λd=>Sl.v<|.tr d)++List.replicate m Sl.un).zip<|vs.map some++List.replicate m none) H
 | [],_,h=>by rw[show _=[]from h];simp only[fC,bZ];have:=g.addUs m;simpa using this
 |d::ds,_,⟨v,vr,e,h1,h2⟩=>by
  subst e;have R:=jn_ (m:=m) g h2;refine R.add<|h1.to λb o c=>bB.mpr #[λz=>?_,c];obtain⟨r,f,c⟩:=dG.mp z;have:∀{ds:S1} {vs:List T5} {r:Rw},r∈((ds.map (λd=>Sl.v<|.tr d)++List.replicate m Sl.un).zip vs)->eL r=[]:=by
   intro ds vs r f;obtain⟨a,b⟩:=r;have:=(List.of_mem_zip f).1;rcases aX.mp this with h | h
   obtain⟨d,_,rfl⟩:=aZ.mp h;rfl;rw[(List.mem_replicate.mp h).2];rfl
  rw[this f]at c;cases c
def wA{P}(R:Rep #[H,Hs,[],sub,nb,ib] ((.v s,some v)::P) H'):Same H H'/\aDt Hs H H' s v:=by
 refine#[λb o h=>R.kp b o h bG,?_]
 match s with
 | .tr d => obtain⟨q,e,h⟩:=R.atT;cases e;exact h.to aCr
 | .ol l => obtain⟨a,j,e,g,i⟩:=R.atL;cases e;exact#[a,j,rfl,R.fr _ aB a<|aF.mpr rfl,g,i.imp λ_ _ z=>z.to (lF λc f=>by rw[aF.mp f];exact aB)]
 | .od l => obtain⟨a,j,e,g,i⟩:=R.atD;cases e;exact#[a,j,rfl,R.fr _ aB a<|aF.mpr rfl,g,i.imp λ_ _ z=>z.to (lF λc f=>by rw[aF.mp f];exact aB)]
 | .ow o => have p:=R.nd;obtain⟨x,e,h⟩:=R.ok _ aB;cases e;refine#[(bS.mp p).1,λa m=>R.fr _ aB a m,OwOk.mono (.of<|lF λc f=>?_) o v (λ_ _=>rfl) h];exact aM _ f
def xT(O:Fun K x c st f fd)(S:FnScope N ps<|aQ st)(J:∀ds Q,g ds Q->ds.length=ps.length)(n:ps.length<=N.length)
  (M:∀ (p:Value) (A:Around) (a:List Env) (s:Shared) (H:Hp) (E:XK),Room k (A.deeper<|PyProof.Rows.envOfC c (aQ st) s.heap.objs.size f p) →
   ∃G,XSs (jT CX0 P w K mg base N c (aQ st) f p A a s H E).nox dQ (fB st) G/\∀ds Q,g ds Q->G (jI N ds) (aEn Q)):FnOk P w K mg base CX0 (k+1) f fd ps<|spX g:=by
 refine O.ok S (λZ H Q E h=>?_)<|λp A a s H Z Q E m h=>?_;obtain ⟨e,ds,i,j,l,t,_⟩:=h;rw[l.len];exact J ds i t;obtain⟨e,ds,i,j,l,t,L⟩:=h;obtain⟨G,W,Y⟩:=M p A a s H E m;have V:=J ds i t;refine#[_,W #[H,e,[],j,by simp,by simp],jI N ds,[],aEn i,#[?_,?_],Y ds i t,#[λI T F _ B q=>?_,λv s I T F _ B q=>?_,λ_ _ _ _ _ q=>q.elim,λ_ _ _ _ _ q=>q.elim]];unfold jI L2.start;simp only[aI,aA,bP];rw[l.len];rw [aP];have hv:(Fm.vis #[H,e,[],j,by simp,by simp] H)=ext e H H:=rfl;have U:Rep #[H,e,[],j,by simp,by simp] [] H:=#[iA,λr m=>by simp at m,λr m=>by simp at m,λb o h _=>h,λb y=>by simp at y];unfold jI L2.start;rw[l.len];refine jn_ U<|l.imp λ_ _ z=>z.to λb o y=>?_;cases q:H b with
 |none=>rw[j _ _ y]at q;cases q
 |some u=>exact(kH q).trans y
 have R:=B.rep.add (d:=.non) (v:=.non) IsX.of_non;obtain⟨C,D⟩:=wA R;exact L _ _ _ C D q;obtain ⟨C,D⟩:=wA B.front;exact L _ _ _ C D q
end Lf
namespace L2
open PySem
def aTf(t:TE):TE:=λe H Q=>∃a b,H a=some (.dK b)/\∀o,t e (upd H a<|.frz o<|.dK b) λv c=>c a=some (.frz o<|.dK b)/\Q v (upd c a<|.dK b)
def aPy(h:PE X e t):PE X e<|aTf t:=by intro f s g H Q I ⟨a,b,c,q⟩;exact aWu h f s g H Q I #[a,b,c,λo v z=>(by have:=I.base.frzs a o v z;rw[c]at this;cases this),q]
end L2
namespace Lf
open PySem L2
section
variable{F:Fm}{P:S9}{H c:Hp}{a:Addr}{kvs:U2}{o:Obj}
def nem{B:T4}(h:b∈B)(h':a∉B):b≠a:=by grind
def Fm.fz(F:Fm)(a:Addr)(o:Obj)(kvs:U2)(ha:a∉F.B):Fm where
 H0:=upd F.H0 a<|.frz o<|.dK kvs
 Hs:=upd F.Hs a<|.frz o<|.dK kvs
 B:=F.B
 sub:=λb u h=>by by_cases e:b=a;subst e;rw[bY]at h ⊢;exact h;rw[dZ e]at h ⊢;exact F.sub _ _ h
 nb:=λb f=>by rw[dZ<|nem f ha];exact F.nb b f
 ib:=λb f=>by rw[dZ<|nem f ha];exact F.ib b f
def bDj(h:F.vis H a=some (.dK kvs)):a∉F.B:=λb=>by obtain⟨u,e⟩:=F.ib a b;have:=(kH e).symm.trans h;rw[F.nb a b]at this;cases this
def aIc{F:Fm}{ha}{b}{H c}(f:b≠a)(e:c b=H b):(F.fz a o kvs ha).vis c b=F.vis H b:=by have g:(F.fz a o kvs ha).H0 b=F.H0 b:=dZ f;have h:(F.fz a o kvs ha).Hs b=F.Hs b:=dZ f;show ext _ _ _ b=ext _ _ _ b;unfold ext;rw[g,h,e]
def Rep.fzD(R:Rep F P H)(hv:F.vis H a=some (.dK kvs))(i:a∉bD P)(ha:a∉F.B):Rep (F.fz a o kvs ha) P<|upd H a<|.frz o<|.dK kvs:=by
 refine#[R.nd,λr h=>(R.ok r h).mono (λb u f=>?_) λb f=>dZ λz=>i<|z ▸ l8 h f,λr h b f=>?_,λb u j l=>?_,λb f=>?_];have g:=bB.mp f;by_cases e:b=a;subst e;rw[hv]at g;cases g.2;refine .inr #[o,kvs,.inl #[rfl,bB.mpr #[g.1,?_]]];exact(kH<|bY).trans bY;exact .inl<|bB.mpr #[g.1,by rw[aIc e<|dZ e];exact g.2];have p:b≠a:=fun z=>i<|z ▸ l8 h f;have:=R.fr r h b f;unfold FrOk at this ⊢;split at this<;>simp_all [Fm.fz,dZ]
 by_cases e:b=a;subst e;have:some (HO.frz o<|.dK kvs)=some u:=bY.symm.trans j;rw[bY];exact this;rw [dZ e];exact R.kp b u ((dZ e).symm.trans j) l;obtain ⟨u,m⟩:=R.lv b f;exact#[u,by rw[dZ<|nem f ha];exact m]
def Rep.thD(R:Rep (F.fz a o kvs ha) P H)(hv:F.H0 a=none\/(F.H0 a=some (.dK kvs)/\F.Hs a=some (.dK kvs))):H a=some (.frz o<|.dK kvs)/\Rep F P (upd H a<|.dK kvs):=by
 have t:=R.kp a _ bY ha;have p:a∉bD P:=λz=>by
  obtain⟨r,g,e⟩:=dG.mp z;have:=R.fr r g a e;rcases this.or with this | this
  exact ha this;have j:=bY.symm.trans this;cases j
 refine#[t,R.nd,λr g=>(R.ok r g).mono (λb u f=>?_) λb f=>dZ λz=>p<|z ▸ l8 g f,λr g b f=>?_,λb u i j=>?_,λb f=>?_];have h:=bB.mp f;by_cases e:b=a;subst e;have l:(F.fz b o kvs ha).vis H b=some (.frz o<|.dK kvs):=(kH<|bY).trans bY;rw[l]at h;cases h.2;refine .inr #[o,kvs,.inr #[rfl,bB.mpr #[h.1,?_]]];rcases hv with q | ⟨m,s⟩
 exact(kQ q).trans (by rw[bY];rfl);exact(kH m).trans s;exact .inl<|bB.mpr #[h.1,by rw[<-aIc (F:=F) (o:=o) (kvs:=kvs) (ha:=ha) e (dZ e).symm];exact h.2];have v:b≠a:=fun z=>p<|z ▸ l8 g f;have:=R.fr r g b f;unfold FrOk at this ⊢;split at this<;>simp_all [Fm.fz,dZ]
 by_cases e:b=a;subst e;rcases hv with q | ⟨m,s⟩
 rw[q]at i;cases i;rw[m]at i;rw[bY];exact i;rw [dZ e];exact R.kp b u ((dZ e).trans i) j;obtain ⟨u,l⟩:=R.lv b f;exact#[u,by rw[dZ<|nem f ha];exact l]
end
def lL:Key->Dx
 | .inl i=>.int i
 | .inr x=>.str x
def aRa(k:Key):IsX H (lL k)<|kV k:=by cases k<;>simp only[lL,kV,IsX]
def iW(l:U1):S1:=l.map λp=>lL p.1
def lc_:(iW l).length=l.length:=aA _
def d6{F:Fm}{a:Addr}{o:Obj}{kvs:U2}{l:U1}{G:Hp}(h:∀P H,Rep F P H->H a=some (.frz o<|.dK kvs))(c:All2 (KvX G) l kvs):ItX F (Itd a o kvs) [] (iW l)where
 go:=λP H i d R b=>#[h _ _ R,by have:=(aL.mp b).1;rw[lc_]at this;rw[c.len];exact this]
 stop:=λP H i R e=>#[h _ _ R,by rw[lc_]at e;rw[c.len];exact e]
 yld:=λP H i d x f R b q=>by obtain⟨rfl,m,r,rfl⟩:=q;obtain⟨p,g,j⟩:=c.get r;unfold iW at b;rw[bK,g]at b;cases b;show Rep F ((Sl.v<|Sv.tr<|lL p.1,some<|kV m.1)::([]++P)) f;rw[j.1];exact R.add<|aRa _
def tXe(t:XT):TE:=λa H Q=>∃F,tX F t a H Q
def aVh(t:XC):TT:=λa H Q=>∃F,tXc F t a H Q
def XE.ex(h:XE X dQ e t):PE X e<|tXe t:=λa s b H D I ⟨F,q⟩=>h F a s b H D I q
def XCs.ex(h:XCs X dQ e t):PCs X e<|aVh t:=λa s b H D I ⟨F,q⟩=>h F a s b H D I q
def bMj(i:Nat)(b:XG)(G:XS):XS:=λa D=>match a[i]? with
 |some (.v s)=>(match s.d with | .dic l=>iS b G D (iW l) (a.set i<|.v<|.tr s.d) | _=>False)
 |_=>False
def vK(i n:Nat)(outs:T3)(e:XG)(f:XC)(g:XT):XT:=λa Q=>match a[i]? with
 |some (.v s)=>(match s.d with | .dic l=>l.length<=1000000/\cC n e f g (λb c=>Q (.ol b)<|back outs c<|a.set i<|.v<|.tr s.d) (iW l) (sJ outs<|a.set i<|.v<|.tr s.d) [] | _=>False)
 |_=>False
def aEk(E:EOk F ρ b fr H)(h:ρ[i]? = some (.v s))(t:s.d=.dic l) :
  ∃a c,b[i]? = some (some `i)/\EOk F (ρ.set i<|vT s.d) b fr H/\Rd (hid (bD<|(ρ.set i<|vT s.d).zip b++fr) `n) a (.dK c)/\All2 (KvX<|hid (bD<|(ρ.set i<|vT s.d).zip b++fr) `n) l c:=by
 obtain⟨v,hv,g,R⟩:=uY E h;have R2:=R.frz;have m:=fq_ E.len g hv R2;obtain⟨w,e,j⟩:=R2.atT;subst e;rw[t]at j;have f:(bD<|(ρ.set i<|vT s.d).zip b++fr).Perm<|bD ((vT s.d,some w)::((ρ.zip b).eraseIdx i++fr)):=((cx_ E.len g hv).append_right fr).flatMap_right _;rw[hr_ rfl]at f;have o:=j.to<|lF λa r=>f.mem_iff.mp r;obtain⟨a,c,rfl,p,q⟩:=o.dic_eq;exact#[a,c,hv,m,p,q]
def aVe{P}(R:Rep F P H)(h:F.vis H a=some (.dK kvs)):F.H0 a=none\/(F.H0 a=some (.dK kvs)/\F.Hs a=some (.dK kvs)):=by
 cases q:F.H0 a with
 |none=>exact .inl rfl
 |some u => have b:=(kH q).symm.trans h;have c:=F.sub _ _ b;rw[q]at c;exact .inr #[c,b]
def aRs(h:F.vis H a=some (.frz o<|.dK kvs)):∀P H,Rep F P H->H a=some (.frz o<|.dK kvs):=λP e R=>by
 cases q:F.H0 a with
 |none => have b:=(kQ q).symm.trans h;rw[oF b]at b;cases b
 |some u => have b:=(kH q).symm.trans h;exact R.kp a _ (F.sub _ _ b) λc=>by rw[F.nb a c]at b;cases b
section
variable{st:Stmt}{i n:Nat}{g:TG}{j:XG}{G:XS}{outs:T3}{h:XC}{f:XT}
def aSl(D:GX n g j)(C:outs.Nodup):∀p H Q,tX F (vK i n outs j h f) p H Q->nE n outs (aMa<|fO i) g (aVh h) (tXe f) p H Q\/aTf (nE n outs (aMa<|fO i) g (aVh h)<|tXe f) p H Q:=by
 rintro p H Q ⟨T,fr,U,E,q,k⟩;unfold vK at q;split at q;rename_i s S;split at q;rename_i l r;obtain⟨a,e,hv,c,m,y⟩:=aEk E S r;rw[r]at c m y;rw[<-r]at c;have J:(iW l).length<=1000000/\_:=#[by rw[lc_];exact q.1,q.2];rcases m with m | ⟨o,m⟩
 have b:=bB.mp m;have u:=bDj b.2;have A:=aVe c.rep b.2;refine .inr #[a,e,c.rep.vis _ _ b.2,λo=>#[.ref a,hv,a,o,e,rfl,bY,?_]];have L:EOk (F.fz a o e u) (T.set i<|vT s.d) p ([]++fr)<|upd H a<|.frz o<|.dK e:=#[c.len,c.rep.fzD b.2 (by rw[r];exact b.1) u];refine lk_ (Q:=λv t=>t a=some (.frz o<|.dK e)/\Q v (upd t a<|.dK e)) D C (λ_ _ _ z=>#[_,z]) (λ_ _ _ z=>#[_,z]) (λv s t B I O=>?_) L (d6 (λP H R=>R.kp a _ bY u) y) J;obtain⟨M,N⟩:=I.rep.thD A;exact#[M,k v s _ B #[I.len,N] O];have b:=bB.mp m;refine .inl #[.ref a,hv,a,o,e,rfl,c.rep.vis _ _ b.2,?_];exact lk_ (F:=F) (Q:=Q) D C (λ_ _ _ z=>#[_,z]) (λ_ _ _ z=>#[_,z]) k (row:=[]) c (d6 (aRs b.2) y) J;exact q.elim;exact q.elim
def aHn(S:CompScope dsc scope N tgs outs N')(hv:PE X (.Name x px)<|fO i)(t:∀l C s H ex,PG (cD X N' scope l C s H ex) tg g)(z:GX tgs.length g j)(p:Tgt tgs.length g)
  (o:∀l C s H ex,XCs (cD X N' scope l C s H ex) dQ ifs h) (r:∀l C s H ex,XE (cD X N' scope l C s H ex) dQ elt f) (v:outs.Nodup:=by decide) (m:X.N=N:=by rfl) (hsc:X.env.scope=dsc:=by rfl) (q:X.calm=true:=by rfl) (u:∀y,foldedSetIterable (.Name x px) X.env y=pure y:=by intro _;rfl) :
  XE X Ex (.ListComp elt [#[tg,.Name x px,ifs,0]] scope pos) (vK i tgs.length outs j h f):=λF =>
 (PE.or (wK S (aBl hv) t p (λa b c d e=>(o a b c d e).ex) (λa b c d e=>(r a b c d e).ex) m hsc q u)<|aPy<|wK S (aBl hv) t p (λa b c d e=>(o a b c d e).ex) (λa b c d e=>(r a b c d e).ex) m hsc q u).weak (aSl z v)
end
def aGi(n m:Ty):CallR X (.builtin "isinstance") (λxs H Q=>∃x d p,xs=[x,.ref p]/\IsX H d x/\iV d/\H p=some (.tup [.ty n.nm,.ty m.nm])/\Q (.bl<|isT n d||isT m d) H):=by intro v s A H xs y Q I r h;obtain⟨x,d,p,rfl,g,a,f,q⟩:=h;obtain⟨u,z,rfl,j,o⟩:=sY r;cases o;obtain⟨_,_,t,⟨_,_,_,_⟩,b,c,_,e⟩:=I.hok p _ f;cases aIf (ns:=[n.nm,m.nm]) t;cases c;cases e;obtain⟨_,Z,l,i⟩:=aCp I j g a;exact PySem.W.kia_tup Z I.kIn l b (aLp (xH a)<|xH a) i λtk=>#[.bl _,H,I.tok _,rfl,q]
def bJa(n m:Ty)(t:XT):XT:=λb Q=>t b λs a=>match s.d with
 | .scr _ _=>False
 | .ins _ _=>False
 | .exc _=>False
 |d=>Q (.tr<|.bl<|isT n d||isT m d) a
def oX{p q q2 q3 pos}(n m:Ty)(u:X.mg "isinstance" = none)(h:XE X Ex e t)(o:PE X (.Tuple [.Name nm q,.Name Ix q2] j q3)<|bDm<|lU (tC<|.ty n.nm)<|lU (tC<|.ty m.nm) sB)(r:Gl X "isinstance":=by rfl)
  (f:starEach [e,.Tuple [.Name nm q,.Name Ix q2] j q3] X.env=(false,eval e X.env)::starEach [.Tuple [.Name nm q,.Name Ix q2] j q3] X.env:=by rfl) (l:starEach [.Tuple [.Name nm q,.Name Ix q2] j q3] X.env=(false,eval (.Tuple [.Name nm q,.Name Ix q2] j q3) X.env)::starEach [] X.env:=by rfl)
  (i:(backTo pos<|starEach [.Tuple [.Name nm q,.Name Ix q2] j q3] X.env).any (·.1)=false:=by rfl):XE X Ex (.Call (.Name "isinstance" p) [e,.Tuple [.Name nm q,.Name Ix q2] j q3] [] pos)<|bJa n m t:=λF =>
 (ew_ (aGi n m) r u dq_ (lK (h F) (lK o i4 l) f) `b rfl f i).weak fun C H Q=>by
  rintro⟨z,fr,A,E,t,k⟩;refine#[z,fr,_,E,t,λv s c a b q=>#[by have:=iM;show 2<=sizeLine;lia,λp y=>?_]];obtain⟨R,g⟩:=b.one;have e:Same c<|upd c p<|.tup [.ty n.nm,.ty m.nm]:=hj_ y _;have R2:=R.grow e;generalize B:s.d=d at q g;cases d with
  |scr _ _=>exact q.elim
  |ins _ _=>exact q.elim
  |exc _=>exact q.elim
  |_=>exact#[v,_,p,rfl,(g.to R.hv).to e,trivial,bY,k _ _ _ a (EOk.back b.len<|R2.add<|IsX.of_bl _) q]
def n6(g g':G2)(j l m:XT):XT:=λo Q=>j o λa f=>l f λb e=>g a.d b.d λs=>match s with
 | .tr (.bl k)=>if k=true then m e λc h=>g' b.d c.d λi=>Q i h else Q (.tr<|.bl false) e
 |_=>False
def zB(d:OpX r g)(M:OpX r' g'):∀b H Q,tX F (n6 g g' ta tb tc) b H Q->o7 r r' (tX F ta) (tX F tb) (tX F tc) b H Q:=by
 rintro b H Q ⟨ρ,fr,O,E,t,k⟩;refine#[ρ,fr,_,E,t,λv s C y L t'=>#[y,_,_,L,t',λw f D a h t2=>?_]];obtain⟨R,U,h2⟩:=h.two;have l:EOk F a b ((.v f,some w)::fr) D:=#[h.len,((h.rep.perm<|List.Perm.append_left _<|.swap _ _ _).perm mid).tail.perm<|.refl _];have i:=EOk.back h.len<|l.front.frz;obtain⟨Rb,Z⟩:=i.one;have m:=U.to (lF λc p=>by have:(bD ((vT f.d,some w)::(a.zip b++fr))).Perm<|bD (a.zip b++(vT f.d,some w)::fr):=mid.symm.flatMap_right _;have:=this.mem_iff.mpr p;exact this);have o:=Z.to (lF λc p=>by have:(bD ((vT f.d,some w)::(a.zip b++fr))).Perm<|bD (a.zip b++(vT f.d,some w)::fr):=mid.symm.flatMap_right _;have:=this.mem_iff.mpr p;exact this);refine d F (a.zip b++(vT f.d,some w)::fr) D s.d f.d v w _ _ i.rep m o t2 λz s3 G I q=>?_;split at q;rename_i J;obtain⟨z',e,n⟩:=I.atT;cases e;cases n.bl_eq;refine#[J,rfl,?_];have A:EOk F a b ((vT f.d,some w)::fr) G:=#[h.len,I.tail];cases J with
 |true => refine#[a,_,_,A,q,λu s4 N j B x=>?_];obtain⟨T,W,Y⟩:=B.two;exact M F _ N f.d s4.d w u Q (λz=>O z j) T W Y x λv' V C S q=>k v' V C j (EOk.back B.len S) q
 |false=>exact k _ _ G a (EOk.back h.len<|A.drop.rep.add<|IsX.of_bl _) q
 exact q.elim
section
variable{a b c e:Expr}{h:Pos}{r m:R2}{g g':G2}{l j i o:XT}{op f:CmpOp}
def yR(v:OpR X (compareOp op) r)(y:OpX r g)(p:OpR X (compareOp f) m)(q:OpX m g')(ha:XE X Ex a l)(s:XE X Ex b j)(t:XE X Ex c i)(u:lastMarks [op,f] [b,c]=false:=by with_unfolding_all rfl):XE X Ex (.Compare a [op,f] [b,c] h)<|n6 g g' l j i:=λF=>(aKa v p (ha F) (s F) (t F) u).weak<|zB y q
def oU(v:OpR X (compareOp op) r)(y:OpX r g)(p:OpR X (compareOp f) m)(q:OpX m g')(ha:XE X Ex a l)(s:XE X Ex b j)(t:XE X Ex c i)(u:lastMarks [op,f] [b,c]=false:=by with_unfolding_all rfl):XTe X Ex (.Compare a [op,f] [b,c] h)<|xB<|n6 g g' l j i:=λF=>(aJl v p (ha F) (s F) (t F) u).weak<|ig_<|zB y q
end
abbrev XO:=En->(T7->En->Prop)->Prop
def tXo(F:Fm)(t:XO):TO:=λg H Q=>∃f fr e,EOk F f g fr H/\t f e/\∀b c a,EOk F a g fr c->e b a->Q b c
def XOp(X:Cx)(Ex:ExT)(e:Option Expr)(t:XO):Prop:=∀F,[OkF X Ex F]->PO X e (tXo F t)
def xoN:XO:=λa Q=>Q none a
def xoS(t:XT):XO:=λb Q=>t b λs a=>match s.d with
 | .int i=>Q (some i) a
 |_=>False
def aAg:XOp X Ex none xoN:=λF _ a s c H Q I h=>by obtain⟨b,fr,e,E,t,k⟩:=h;exact aPt a s c H Q I<|k none H b E t
def if_(h:XE X Ex e t):XOp X Ex (some e)<|xoS t:=λF _ f s o H Q I l=>by refine aPs (h F) f s o H Q I ?_;obtain⟨m,fr,p,E,t,k⟩:=l;refine#[m,fr,_,E,t,λv s g a b q=>?_];split at q;rename_i i j;obtain⟨R,c⟩:=b.one;rw[j]at c;cases c.int_eq;exact#[i,rfl,k (some i) g a b.drop q];exact q.elim
def iY{b:Type}(xs:List b)(a c:T7):List b:=(xs.drop<|HT.sIx xs.length 0 a).take<|HT.sIx xs.length xs.length c-HT.sIx xs.length 0 a
def slX(a:Dx)(c b:T7)(Q:Sv->Prop):Prop:=match a with
 | .lst l=>Q (.ol<|iY l c b)
 | .str z=>z.length<=1000000/\Q (.tr<|.str<|Txt.slice z c b)
 |_=>False
def xSl(t:XT)(g f:XO):XT:=λi Q=>t i λa b=>g b λl c=>f c λh e=>slX a.d l h λs=>Q s e
def yQ(K:dN)(C:XE X Ex e t)(G:XOp X Ex lo tl)(D:XOp X Ex hi th)(h:X.K=K:=by rfl):XE X Ex (.Subscript e (.Slice lo hi none p2) pos)<|xSl t tl th:=λF =>
 (qH (SlR.or (zE K h) aVt) (C F) (G F)<|D F).weak fun W H Q=>by rintro⟨O,fr,U,E,t,k⟩;refine#[O,fr,_,E,t,λv s S i r q=>#[i,_,_,r,q,λl T j y M=>#[j,_,_,y,M,λu A c g b=>?_]]];obtain⟨R,f⟩:=g.one;unfold slX at b;split at b;rename_i m I;rw[I]at f;obtain⟨a,N,rfl,B,o⟩:=f.lst_eq;refine .inl #[a,N,rfl,SqL.of<|R.hv _ _ B,λp J=>k _ _ _ c (EOk.back g.len<|R.newL J ?_) b];unfold w5 iY;rw[o.len];exact(o.drop _).take _;rename_i z L;rw[L]at f;cases f.str_eq;exact .inr #[z,rfl,by have:=iM;lia,k _ _ A c (EOk.back g.len<|R.add<|IsX.of_str _) b.2];exact b.elim
def bCw(t:XT):XT:=λb Q=>t b λs a=>match s.d with
 | .lst l=>Q (.ol l.reverse) a
 |_=>False
def aOn(i:XE X Ex e t):XE X Ex (.Subscript e (.Slice none none (some<|.UnaryOp .USub (.Constant (.int 1) k p1) p2) p3) pos)<|bCw t:=λF=>(aPw<|i F).weak λz H Q=>by rintro⟨r,fr,y,E,t,k⟩;refine#[r,fr,_,E,t,λv s u b c q=>?_];split at q;rename_i m j;obtain⟨R,f⟩:=c.one;rw[j]at f;obtain⟨a,o,rfl,g,h⟩:=f.lst_eq;exact#[a,o,rfl,SqL.of<|R.hv _ _ g,λp l=>k _ _ _ b (EOk.back c.len<|R.newL l h.rev) q];exact q.elim
def inX(c:Bool):G2:=λa b Q=>match scV a,(match b with | .lst l=>some l | .tup l=>some l | _=>none)with
 |some x,some l=>(l.all λd=>(scV d).isSome)=true/\Q (.tr (.bl (if c then !inV x (l.filterMap scV)else inV x (l.filterMap scV))))
 |_,_=>False
def nY(h:scV d=some v):kC v=true:=by cases d<;>simp only[scV,Option.some.injEq]at h<;>first | (subst h;rfl) | cases h
def r9:∀{l} {vs},All2 (IsX G) l vs->(l.all λd=>(scV d).isSome)=true->vs=l.filterMap scV/\vs.all kC=true
 | [],_,h,_=>by rw[show _=[]from h];exact#[rfl,rfl]
 |d::l,_,⟨v,vr,e,h1,h2⟩,h=>by rw[List.all_cons,cM]at h;obtain⟨x,a⟩:=cK.mp h.1;obtain⟨b,c⟩:=r9 h2 h.2;subst e;have:=kd_ h1 a;subst this;exact#[by rw[gK,a,<-b],by rw[List.all_cons,nY a,c];rfl]
def aTs(c:Bool):OpX (rIn K c)<|inX c:=by intro F P H a b x y Q v R s r g k;unfold inX at g;split at g;rename_i u l m e;cases kd_ s m;obtain⟨o,q⟩:=g;split at e;cases e;obtain⟨p,t,rfl,i,j⟩:=r.lst_eq;obtain⟨f,h⟩:=r9 j o;subst f;exact#[p,_,rfl,.inl<|SqL.of<|R.hv _ _ i,nY m,h,k _ _ H (R.add<|IsX.of_bl _) q];cases e;obtain⟨p,t,rfl,i,j⟩:=r.tup_eq;obtain⟨f,h⟩:=r9 j o;subst f;exact#[p,_,rfl,.inr<|SqT.of<|R.hv _ _ i,nY m,h,k _ _ H (R.add<|IsX.of_bl _) q];cases e;exact g.elim
def bBx:GC
 | [.lst l],Q=>(∃bs:List Bool,l=bs.map Dx.bl/\Q (.tr<|.bl<|bs.all id))
 |_,_=>False
def aDp:∀{bs:List Bool} {vs},All2 (IsX G) (bs.map Dx.bl) vs->vs=bs.map V.bl
 | [],_,h=>h
 |b::bs,_,⟨v,vr,e,h1,h2⟩=>by rw[e,h1.bl_eq,aDp h2];rfl
def jq_:∀{bs:S7} {vs},All2 (IsX G) (bs.map Dx.int) vs->vs=bs.map V.int
 | [],_,h=>h
 |b::bs,_,⟨v,vr,e,h1,h2⟩=>by rw[e,h1.int_eq,jq_ h2];rfl
def mQ:jP (aJf K) bBx:=by intro F P H i l Q h R e g k;unfold bBx at g;split at g;obtain ⟨bs,rfl,g⟩:=g;obtain⟨x,rfl,f⟩:=j8 e;obtain⟨a,j,rfl,b,c⟩:=f.lst_eq;have:=aDp c;subst this;exact#[a,bs,rfl,SqL.of<|R.hv _ _ b,k _ _ H (R.add<|IsX.of_bl _) g];exact g.elim
def er_(K:dN)(a:X.calm=true)(h:X.K=K:=by rfl):CallR X (.builtin "all")<|aJf K:=by subst h;exact aGk a
def aLc:GC
 | [.int i,.int j],Q=>Q (.tr (.int (if j>i then j else i)))
 |_,_=>False
def aCb:GC
 | [.int i,.int j],Q=>Q (.tr (.int (if j<i then j else i)))
 |_,_=>False
def aSi:jP (λxs H Q=>∃i j,xs=[.int i,.int j]/\Q (.int (if j>i then j else i)) H) aLc:=by intro F P H f xs Q e R a g k;unfold aLc at g;split at g;obtain ⟨x,y,rfl,b,c⟩:=yL a;cases b.int_eq;cases c.int_eq;exact#[_,_,rfl,k _ _ H (R.add<|IsX.of_int _) g];exact g.elim
def aSh:jP (λxs H Q=>∃i j,xs=[.int i,.int j]/\Q (.int (if j<i then j else i)) H) aCb:=by intro F P H f xs Q e R a g k;unfold aCb at g;split at g;obtain ⟨x,y,rfl,b,c⟩:=yL a;cases b.int_eq;cases c.int_eq;exact#[_,_,rfl,k _ _ H (R.add<|IsX.of_int _) g];exact g.elim
def aUa:GC
 | [.lst l],Q=>(∃b:S7,l=b.map Dx.int/\b≠[]/\∀M,M∈b->(∀a∈b,a<=M)->Q (.tr<|.int M))
 |_,_=>False
def aDh:jP (aJc K) aUa:=by intro F P H m p Q l R i g k;unfold aUa at g;split at g;obtain ⟨bs,rfl,b,g⟩:=g;obtain⟨x,rfl,j⟩:=j8 i;obtain⟨a,o,rfl,c,e⟩:=j.lst_eq;have:=jq_ e;subst this;exact#[a,bs,rfl,SqL.of<|R.hv _ _ c,b,λM f h=>k _ _ H (R.add<|IsX.of_int _)<|g M f h];exact g.elim
def uS(K:dN)(a:X.calm=true)(h:X.K=K:=by rfl):CallR X (.builtin "max")<|aJc K:=by subst h;exact aGe a
def p_(c:GX n g gx)(b:outs.Nodup):∀D a H,tXS F (iQ i<|lH n outs ti gx tc te) D a H->vO (nE n outs (tXi F ti) g (tXc F tc)<|tX F te) (kX i) D a H:=by rintro D a H ⟨j,fr,d,E,q,k⟩;exact aAx c b a H _ #[j,fr,_,E,q,λv s f l e h=>k.nx _ f _ bJ (ex_ e) h]
def pN(N:S4)(l:S1)(ds:S1):En:=.bw l::(ds.map (λd=>.v<|.tr d)++List.replicate (N.length-(ds.length+1)) .un)
def oG(Q:Dx->S1->Prop)(d:Dx)(ρ:En):Prop:=match (ρ[0]? : Option Sl)with
 |some (Sl.bw l)=>Q d l
 |_=>False
abbrev bDy(Q:Dx->S1->Prop):XD:=#[λa=>oG Q .non a,λs a=>oG Q s.d a,λ_=>False,λ_=>False]
def c7{Q:VK}{Qx:Dx->S1->Prop}(t:∀d v l' f e,SameX p H e->e p=some (.lst f)->All2 (IsX<|hid [p] (ext h H e)) l' f->IsX (ext h H e) d v->Qx d l'->Q v e){i:Nat}(m:EOk #[H,h,[p],s,F,E] ρ' j ((vT d,some v)::[]) e)(r:ρ'[i]? = some (.bw l'))(q:Qx d l'):Q v e:=by
 obtain⟨R,D⟩:=m.one;obtain⟨y,I,G,R2⟩:=uY #[m.len,R] r;obtain⟨a,f,rfl,u,A⟩:=R2.atB;have B:a=p:=aF.mp<|R2.fr _ aB a<|aF.mpr rfl;subst B;refine t d v l' f e (λb o g=>?_) u (A.imp λ_ _ z=>z.to (lF λc C=>by rw[aF.mp C];exact aB)) (D.to aCr) q;have l:b≠a:=λz=>by rw[z]at g;unfold aRj at g;rw[if_pos rfl]at g;cases g
 rw[xN l]at g ⊢;exact R.kp b o g λz=>l<|aF.mp z
def qT{H e:Hp}{p:Addr}{i:Same e H}{q:∀b∈[p],e b=none}{j:∀b∈[p],∃o,H b=some o}{l ds:S1}{t s:S3}(D:H p=some (.lst t))(G:All2 (IsX e) l t)(F:All2 (IsX e) ds s)(m:Nat):Rep #[H,e,[p],i,q,j] ((.bw l,some<|.ref p)::(ds.map (λd=>Sl.v<|.tr d)++List.replicate m Sl.un).zip (s.map some++List.replicate m none)) H:=by
 have y:=q p aB;have E:Rep #[H,e,[p],i,q,j] [] H:=#[iA,λr c=>by simp at c,λr c=>by simp at c,λb o h _=>h,j];have v:Same e<|Fm.vis #[H,e,[p],i,q,j] H:=λb o f=>(kH<|i _ _ f).trans f;have g:=jn_ (m:=m) E<|F.imp λ_ _ z=>z.to v;have A:bD ((ds.map (λd=>Sl.v<|.tr d)++List.replicate (m) Sl.un).zip<|s.map some++List.replicate (m) none)=[]:=by
  unfold bD;refine List.flatMap_eq_nil_iff.mpr λr c=>?_;obtain⟨a,b⟩:=r;rcases aX.mp (List.of_mem_zip c).1 with h | h
  obtain⟨d,_,rfl⟩:=aZ.mp h;rfl;rw[(List.mem_replicate.mp h).2];rfl
 refine#[by rw[mZ (a:=p) rfl,A];simp,λr c=>?_,λr c a C=>?_,g.kp,g.lv];rw [mZ (a:=p) rfl,A];rcases aE.mp c with rfl | c
 refine #[p,t,rfl,D,G.imp fun _ _ z=>z.to fun b o f=>bB.mpr #[fun z => ?_,v _ _ f]];rw[aF.mp z,y]at f;cases f;refine (g.ok r c).mono (.of fun b o f => ?_) fun _ _=>rfl;have u:=bB.mp f;refine bB.mpr #[λz=>?_,u.2];have B:e p=some o:=(kH D).symm.trans<|aF.mp z ▸ u.2;rw[y]at B;cases B;rcases aE.mp c with rfl | c
 exact C;exact g.fr r c a C
def aRv(M:Fun K x x st f fd)(S:FnScope N ps<|aQ st)(J:∀l ds Q,g l ds Q->ds.length+1=ps.length)(hN:ps.length<=N.length)
  (L:∀ (y:Value) (A:Around) (a:List Env) (s:Shared) (H:Hp) (E:XK),Room k (A.deeper<|PyProof.Rows.envOfC x (aQ st) s.heap.objs.size f y) →
   ∃G,XSs (jT CX0 P w K mg base N x (aQ st) f y A a s H E).nox dQ (fB st) G/\∀l ds Q,g l ds Q->G (pN N l ds) (bDy Q)):FnOk P w K mg base CX0 (k+1) f fd ps<|spB g:=by
 refine M.ok S (λn H Q E h=>?_)<|λy A a s H n Q E Z h=>?_;obtain ⟨p,ws,l,C,z,ds,r,rfl,_,_,_,_,u,B,_⟩:=h;rw[aK,u.len];exact J l ds r B;obtain⟨p,ws,l,C,z,ds,r,rfl,W,D,Ev,U,u,B,R⟩:=h;obtain⟨G,T,Y⟩:=L y A a s H E Z;have I:∀b∈[p],z b=none:=by grind
 have F:∀b∈[p],∃o,H b=some o:=by grind
 have t:∀{d:Dx} {v:V} {i:St} {m:Hp} {c:En},EOk #[H,z,[p],D,I,F] c i ((vT d,some v)::[]) m->oG r d c->Q v m:=λ{d v i m c} j q=>by unfold oG at q;split at q;rename_i l' O;exact c7 R j O q;exact q.elim
 refine#[_,T #[H,z,[p],D,I,F],pN N l ds,[],bDy r,#[?_,?_],Y l ds r B,#[λi m c _ j q=>t (EOk.back j.len<|j.rep.add (d:=.non) (v:=.non) IsX.of_non) q,λv s i m c _ j q=>t (EOk.back j.len j.front.frz) q,λ_ _ _ _ _ q=>q.elim,λ_ _ _ _ _ q=>q.elim]];unfold pN L2.start;simp only[aI,aA,bP,aK];rw[u.len];lia;rw [aP];have e:(pN N l ds).zip (L2.start N (.ref p::C))=(.bw l,some<|.ref p)::(ds.map (λd=>Sl.v<|.tr d)++List.replicate (N.length-(ds.length+1)) Sl.un).zip (C.map some++List.replicate (N.length-(ds.length+1)) none):=by unfold pN L2.start;rw[bQ,dH,List.zip_cons_cons,aK,u.len]
 rw[e];exact qT W U u _
def Cal.mono(C:Cal P w K mg base i x ps sp)(h:i<=j):Cal P w K mg base j x ps sp:=by obtain⟨f,fd,G,b,k,m⟩:=C;exact#[f,fd,G.mono h,b,k,m]
def ll_{n:Nat}{e:XG}{g:XC}{i:XT}{Q:S1->T1->Prop}{cs:T1}(f:Dx->S1):∀{ds:S1} {a:S1},
  (∀d∈ds,∀(a:S1) (P:S1->T1->Prop),P (a++f d) cs->e d (List.replicate n .un++cs) λj=>g j λb c=>if b=true then i c λs l=>P (a++[s.d]) (l.drop n)else P a (c.drop n)) ->
  Q (a++(ds.map f).flatten) cs->cC n e g i Q ds cs a
 | [],a,_,q=>by simpa [cC]using q
 |d::ds,a,h,q=>by show e d _ _;exact h d aB a (λa cs=>cC n e g i Q ds cs a)<|ll_ f (λm o=>h m<|aC _ o)<|by simpa [bN]using q
def rB{gx}{G}{D}(a:S1->En->Prop)(c:∀ρ,a [] ρ->D.nx ρ)(e:∀d ds ρ (K:En->Prop),a (d::ds) ρ->(∀ρ',a ds ρ'->K ρ')->gx d ρ λb=>G b { D with nx:=K,ct:=K,bk:=D.nx }) :
  ∀{ds} {ρ},a ds ρ->iS gx G D ds ρ
 | [],ρ,h=>c ρ h
 |d::ds,ρ,h=>e d ds ρ (iS gx G D ds) h λρ' f=>rB a c e f
def z9{l:List α}{i:Int}(b:0<=i)(c:i<l.length):∃x,atI l i=some x/\l[i.toNat]? = some x:=by
 have a:i.toNat<l.length:=(Int.toNat_lt b).mpr c;refine#[l[i.toNat],?_,aG a];unfold atI;have:ixN l.length i=some i.toNat:=by unfold ixN;split<;>simp_all<;>lia
 rw[this];exact aG a
abbrev GP:=S1->Dx->(Dx->Prop)->Prop
def OpL(r:R2)(g:GP):Prop:=∀(G:Hp) (H:Hp) (p:Addr) (c:S3) (l:S1) (b:Dx) (y:V) (Q:VK) (a:Dx->Prop),Same G H->H p=some (.lst c)->All2 (IsX G) l c->IsX G b y->g l b a->(∀v d,IsX G d v->a d->Q v H)->r (.ref p) y H Q
def rX(g:GP)(i:Nat)(t:XT):XT:=λb Q=>((b[i]?).bind iR).isSome=true/\t b λk a=>match (a[i]?).bind iR with
 |some (l,_)=>g l k.d λd=>Q (.tr d) a
 |none=>False
def aEb(i:Nat):XT:=λa Q=>match (a[i]?).bind iR with
 |some (l,_)=>Q (.tr<|.int l.length) a
 |none=>False
section
variable{F:Fm}{i:Nat}{t:XT}{r:R2}{g:GP}{x:Str}{a b e:Expr}{p c:Pos}
def aJs(L:OpL r g):∀u H Q,tX F (rX g i t) u H Q->tOp r (fO i) (tX F t) u H Q:=by rintro u H Q ⟨O,fr,S,E,⟨A,q⟩,k⟩;obtain⟨⟨l,f⟩,B⟩:=cK.mp A;obtain⟨p,W,hv,_⟩:=ef_ E B;refine#[.ref p,hv,O,fr,_,E,q,λw s z o h j=>?_];split at j;rename_i M T C;obtain⟨R,J⟩:=h.one;obtain⟨U,m,y,I,G,_⟩:=ef_ h.drop C;rw[hv]at y;cases y;exact L _ z p m M s.d w Q _ R.hv I G J j λv d D N=>k v (.tr d) z o (EOk.back h.len<|R.add D) N;exact j.elim
def bEl:∀j H Q,tX F (aEb i) j H Q->(∃p h,j[i]? = some (some<|.ref p)/\SqL K H p h/\Q (.int h.length) H):=by rintro j H Q ⟨u,fr,v,E,q,k⟩;unfold aEb at q;split at q;rename_i l f m;obtain⟨p,h,hv,s,o,_⟩:=ef_ E m;exact#[p,h,hv,SqL.of s,k _ _ H u (EOk.back E.len<|E.rep.add (by rw[o.len];exact IsX.of_int _)) q];exact q.elim
def ixP:GP:=λl k Q=>match k with
 | .int j=>(match atI l j with | some d=>Q d | none=>False)
 |_=>False
def aTx:OpL (aJd K) ixP:=by intro G H p z l b y Q s u q o j g k;unfold ixP at g;split at g;cases j.int_eq;split at g;rename_i d m;obtain⟨v,f,h⟩:=rQ o m;exact#[_,_,_,_,rfl,rfl,SqL.of q,f,k v d h g];exact g.elim;exact g.elim
def jv_(K:dN)(hv:PE X (.Name x p)<|fO i)(f:XE X Ex b t)(j:jY b)(h:X.K=K:=by rfl):XE X Ex (.Subscript (.Name x p) b c)<|rX ixP i t:=λF=>by exact(zY xI hv (f F) j).weak<|aJs aTx
def neP(n:Bool):GP:=λl k Q=>match k with
 | .lst []=>Q (.bl (if n then !l.isEmpty else l.isEmpty))
 |_=>False
def aTw(n:Bool):OpL (λx y H Q=>r x y H Q\/aJe K n x y H Q)<|neP n:=by
 intro G H p f l b y Q z o m j h g k;unfold neP at g;split at g;obtain ⟨q,v,rfl,s,u⟩:=h.lst_eq;cases(u);refine .inr #[p,q,f,rfl,rfl,SqL.of m,SqL.of<|o _ _ s,k _ _ ?_ g];have:f.isEmpty=l.isEmpty:=by have:=j.len;cases f<;>cases l<;>simp at this ⊢
 rw[this];exact IsX.of_bl _;exact g.elim
def aOd(K:dN)(l:X.A.units<cLine)(hv:PE X (.Name x p)<|fO i)(f:XE X Ex b t)(j:behindInMarks .NotEq b=false)(h:X.K=K:=by rfl):XTe X Ex (.Compare (.Name x p) [.NotEq] [b] c)<|xB<|rX (neP true) i t:=λF=>(wF (aKj K l h) hv (f F) j).weak<|ig_<|aJs<|aTw true
def aOe(K:dN)(l:X.A.units<cLine)(hv:PE X (.Name x p)<|fO i)(f:XE X Ex b t)(j:behindInMarks .Eq b=false)(h:X.K=K:=by rfl):XTe X Ex (.Compare (.Name x p) [.Eq] [b] c)<|xB<|rX (neP false) i t:=λF=>(wF (t4 K l h) hv (f F) j).weak<|ig_<|aJs<|aTw false
def oV(K:dN)(o:Gl X y)(s:X.mg y=none)(hv:bootBuiltins y=some (.builtin "len"))(v:PE X (.Name x p)<|fO i)(h:X.K=K:=by rfl)(u:y ≠ "__name__":=by decide)(f:U5 y:=by decide):XE X Ex (.Call (.Name y py) [.Name x p] [] c)<|aEb i:=λF=>by refine(ew_ jV o s hv (lK v i4) u f).weak λA H Q q=>?_;obtain⟨p,z,j,l,m⟩:=bEl (K:=X.K) A H Q q;exact#[.ref p,j,p,z,rfl,.inl l,m]
end
def XE.at(F:Fm)[OkF X Ex F](h:XE X Ex e t):PE X e<|tX F t:=h F
def XIt.at(F:Fm)[OkF X Ex F](h:XIt X Ex tg e t):PI X tg e<|tXi F t:=h F
def XCs.at(F:Fm)[OkF X Ex F](h:XCs X Ex e t):PCs X e<|tXc F t:=h F
section
variable{g:Type}{n:Nat}{c:XG}{f:XC}{e:XT}{Q:S1->T1->Prop}
abbrev tE(n:Nat)(c:XG)(f:XC)(e:XT)(P:S1->T1->Prop)(d:Dx)(cs:T1)(j:S1):Prop:=c d (List.replicate n .un++cs) λh=>f h λb a=>if b=true then e a λs i=>P (j++[s.d]) (i.drop n)else P j (a.drop n)
def mY{cs}(i j:g->Dx):∀{as:List g} {b},(∀a∈as,∀(b:S1) (P:S1->T1->Prop),P (b++[j a]) cs->tE n c f e P (i a) cs b) ->
  Q (b++as.map j) cs->cC n c f e Q (as.map i) cs b
 | [],b,_,q=>by simpa [cC]using q
 |a::as,b,h,q=>by exact h a aB b (λb cs=>cC n c f e Q (as.map i) cs b)<|mY i j (λl m=>h l<|aC _ m)<|by simpa [bN]using q
def eq_(j:g->Dx)(I:List g->S1->T1->Prop)(l:∀b cs,I [] b cs->Q b cs)(m:∀a as b cs (P:S1->T1->Prop),I (a::as) b cs->(∀acc' i,I as acc' i->P acc' i)->tE n c f e P (j a) cs b) :
  ∀{as} {b} {cs},I as b cs->cC n c f e Q (as.map j) cs b
 | [],b,cs,h=>l b cs h
 |a::as,b,cs,h=>by exact m a as b cs (λb cs=>cC n c f e Q (as.map j) cs b) h λacc' i o=>eq_ j I l m o
def x6{c}{G}{D}(b:g->Dx)(a:List g->En->Prop)(j:∀ρ,a [] ρ->D.nx ρ)(l:∀d ds ρ (K:En->Prop),a (d::ds) ρ->(∀ρ',a ds ρ'->K ρ')->c (b d) ρ λi=>G i { D with nx:=K,ct:=K,bk:=D.nx }) :
  ∀{ds} {ρ},a ds ρ->iS c G D (ds.map b) ρ
 | [],ρ,h=>j ρ h
 |d::ds,ρ,h=>l d ds ρ (iS c G D<|ds.map b) h λρ' m=>x6 b a j l m
end
section
variable{F:Fm}{e:Expr}{c:List Keyword}{x:Str}{p b:Pos}{u:XA}{t:XT}
def bDb(dd:Int)(u:XA):XT:=λi Q=>u i λh f=>match h.map Sv.d with
 | [.lst l]=>∃g:S7,l=g.map Dx.int/\(g=[]->Q (.tr<|.int dd) f)/\∀M,M∈g->(∀a∈g,a<=M)->Q (.tr<|.int M) f
 |_=>False
def nQ(C:X.calm=true)(G:Gl X "max")(J:X.mg "max" = none)(ha:XAs X Ex [e] u)(r:PK X c<|lU (tC<|.int dd) sB)(q:(backToKw b<|keywordEach c X.env).filterMap (·.1)=(["default"]:S4):=by rfl)
  (D:backTo b (starEach [e] X.env)=(false,eval e X.env)::backTo b (starEach [] X.env):=by rfl) (l:(backTo b<|starEach [e] X.env).any (·.1)=false:=by rfl)
  (o:(backToKw b<|keywordEach c X.env).all (·.1.isSome)=true:=by rfl) (s:(backToKw b<|keywordEach c X.env).any (·.1.isNone)=false:=by rfl):XE X Ex (.Call (.Name "max" p) [e] c b)<|bDb dd u:=λF=>by
 refine(aEv (aGg C) G J yI (ha F) r q `b rfl D l o s).weak λd H Q=>?_;rintro⟨T,fr,W,E,t,k⟩;refine#[T,fr,_,E,t,λY S i f I h g=>?_];obtain⟨R,j⟩:=h.many I;generalize U:S.map Sv.d=ds at g j;split at g;obtain ⟨v,rfl,hv⟩:=j8 j;obtain⟨a,Z,rfl,z,A⟩:=hv.lst_eq;obtain⟨L,rfl,N,O⟩:=g;have:=jq_ A;subst this;exact#[a,L,dd,rfl,rfl,SqL.of<|R.hv _ _ z,λy=>k _ _ i f (EOk.back h.len<|R.add<|IsX.of_int _)<|N y,λM B m=>k _ _ i f (EOk.back h.len<|R.add<|IsX.of_int _)<|O M B m];exact g.elim
def fd_(g:Gl X x)(a:∃t,X.mg x=some (.int i t))(f:U5 x:=by decide):XE X Ex (.Name x b)<|xC<|.int i:=by obtain⟨t,a⟩:=a;exact aEa (ev_ (v:=.int i) g a #[t,rfl] f) _ λ_=>IsX.of_int _
def bDh(t:XT):XT:=λf Q=>t f λs a=>match s.d with
 | .int i=>Q (.tr<|.int<|Builtin.Int.intBits i) a
 |_=>False
def bBo:∀g H Q,tX F (bDh t) g H Q->aVp K "int" aTn (tX F t) g H Q:=by rintro g H Q ⟨o,fr,r,E,q,k⟩;refine#[o,fr,_,E,q,λv s l f h a=>?_];obtain⟨R,j⟩:=h.one;split at a;rename_i i m;rw[m]at j;cases j.int_eq;exact#[rfl,i,rfl,rfl,k _ _ l f (EOk.back h.len<|R.add<|IsX.of_int _) a];exact a.elim
end
def neL:G2:=λa b Q=>match a,b with
 | .lst l,.lst m=>∃c:S7,l=c.map Dx.int/\m=c.map Dx.int/\Q (.tr<|.bl false)
 |_,_=>False
def slS:Sl->Sl
 | .v s=>.v (.tr s.d)
 | .bw _=>.un
 | .bo _=>.un
 | .ba _ _=>.un
 |s=>s
def lR(t:XC):XC:=λa Q=>t (a.map slS) λb _=>Q b a
def aIu{r:Rw}:eL (slS r.1,r.2)=[]:=by obtain⟨s,v⟩:=r;cases s<;>simp[slS,eL]
def aIt(E:EOk F ρ σ fr H):∃F':Fm,F'.H0=H/\F'.B=[]/\F'.Hs=F.vis H/\EOk F' (ρ.map slS) σ [] H:=by
 have R:=E.rep;have g:=λb o h=>R.vis b o h;refine#[#[H,F.vis H,[],g,λb c=>by simp at c,λb c=>by simp at c],rfl,rfl,rfl,#[by rw[aA];exact E.len,?_]];have m:(ρ.map slS).zip σ=(ρ.zip σ).map λr=>(slS r.1,r.2):=by rw[List.zip_map_left];rfl
 have i:bD ((ρ.map slS).zip σ++[])=[]:=by rw[aP,m];refine List.flatMap_eq_nil_iff.mpr λr f=>?_;obtain⟨u,_,rfl⟩:=aZ.mp f;exact aIu
 have p:Same `n (Fm.vis #[H,F.vis H,[],g,λb c=>by simp at c,λb c=>by simp at c] H):=λb o h=>(kH<|g b o h).trans h;refine#[by rw[i];exact iA,λr f=>?_,λr f a q=>?_,λb o h _=>h,λb c=>by simp at c];rw [i];rw[aP,m]at f;obtain⟨⟨s,v⟩,j,rfl⟩:=aZ.mp f;cases s with
 |un=>trivial
 |bw l=>trivial
 |bo o=>trivial
 |ba a l=>trivial
 |pn w=>exact R.ok (.pn w,v) (aM _ j)
 |v s => obtain⟨A,B,e⟩:=List.append_of_mem j;have R2:Rep F ((.v s,v)::(A++B++fr)) H:=R.perm (by rw[e,bN,dH,bN];exact eK);obtain⟨x,rfl,t⟩:=R2.head;exact#[x,rfl,t.to λb o h=>bB.mpr #[by simp,p _ _ (bB.mp h).2]]
 have:a∈bD ((ρ.map slS).zip σ ++ []):=dG.mpr #[r,f,q];rw[i]at this;simp at this
def OkF.up(h:OkF X Ex F)(j:∀c,Ex' c->Ex c)(i:∀H,aGs F' H->aGs F H):OkF X Ex' F':=
 #[λf m H l g b I a e k=>h.pass1 f m H l g b I a (j _ e)<|i _ k]
def ie_(h:XTe X Ex e t):XTe X Ex e<|lR t:=λF _ i s B H Q I ⟨g,fr,D,E,q,k⟩=>by
 obtain⟨a,c,f,_,j⟩:=aIt E
 haveI:OkF X Ex a:=OkF.up ‹OkF X Ex F› (λ_ z=>z) λC k b o p r=>k b o (by rw[c];exact E.rep.kp b o p r) (by rw[f];simp)
 refine h a i s B H Q I #[g.map slS,[],_,j,q,λb m A l v=>?_];have y:=λb o u=>l.rep.kp b o (by rw[c];exact u) (by rw[f];simp);exact k b m g #[E.len,E.rep.grow y] v
section
variable{F:Fm}{a b e:Expr}{x:Str}{p c:Pos}{r o t:XT}{j m:XO}{u:XA}{K:dN}
def aSt{f:α->β}:atI (l.map f) i=(atI l i).map f:=by
 unfold atI;rw[aA];cases ixN l.length i with
 |none=>rfl
 |some n=>exact bK
def ixZ(K:dN):G2
 | .scr K' ns,.int i,Q=>K'=K/\(match atI ns i with | some n=>Q (.tr<|.int n) | none=>False)
 |_,_,_=>False
def aWx:OpX (aJd K)<|ixZ K:=by intro F P H a b x y Q q R h i g k;unfold ixZ at g;split at g;obtain ⟨rfl,g⟩:=g;obtain⟨p,rfl,f⟩:=h.scr_eq;cases i.int_eq;split at g;rename_i n l;refine#[p,_,_,V.int n,rfl,rfl,SameF.sq (.of R.hv) f,?_,k _ _ H (R.add<|IsX.of_int _) g];rw[aSt,l];rfl;exact g.elim;exact g.elim
def aUr(K:dN)(ha:XE X Ex a r)(f:XE X Ex b o)(g:jY b)(h:X.K=K:=by rfl):XE X Ex (.Subscript a b c)<|xOp (ixZ K) r o:=λF=>(zY (d5 K h) (ha F) (f F) g).weak<|pK aWx
def bFf(K:dN):GC
 | [.scr K' ns],Q=>K'=K/\Q (.tr<|.int ns.length)
 |_,_=>False
def aSj:jP (aVw K)<|bFf K:=by intro F P H q s Q l R h g k;unfold bFf at g;split at g;obtain ⟨rfl,g⟩:=g;obtain⟨x,rfl,i⟩:=j8 h;obtain⟨a,rfl,f⟩:=i.scr_eq;exact .inl #[a,_,rfl,.inl<|SameF.sq (.of R.hv) f,k _ _ H (R.add (by rw[aA];exact IsX.of_int _)) g];exact g.elim
def slZ(K:dN)(a:Dx)(g f:T7)(Q:Sv->Prop):Prop:=match a with
 | .scr K' ns=>K'=K/\Q (.ol<|(iY ns g f).map Dx.int)
 |_=>False
def bCv(K:dN)(t:XT)(v q:XO):XT:=λy Q=>t y λa f=>v f λl g=>q g λh i=>slZ K a.d l h λs=>Q s i
def d7:∀xs:S7,All2 (IsX G) (xs.map Dx.int) (xs.map V.int)
 | []=>rfl
 |x::xs=>#[_,_,rfl,IsX.of_int _,d7 xs]
def aSk{f:α->β}(l:List α)(h g:T7):iY (l.map f) h g=(iY l h g).map f:=by unfold iY;rw[aA,List.map_take,List.map_drop]
def aDv(K:dN)(I:XE X Ex e t)(L:XOp X Ex lo j)(J:XOp X Ex hi m)(h:X.K=K:=by rfl):XE X Ex (.Subscript e (.Slice lo hi none p2) c)<|bCv K t j m:=λF =>
 (qH (zE K h) (I F) (L F)<|J F).weak fun d H Q=>by rintro⟨S,fr,Z,E,t,k⟩;refine#[S,fr,_,E,t,λv s T i C q=>#[i,_,_,C,q,λl U y D O=>#[y,_,_,D,O,λu W z A f=>?_]]];obtain⟨R,B⟩:=A.one;unfold slZ at f;split at f;rename_i Y g M;obtain⟨rfl,f⟩:=f;rw[M]at B;obtain⟨a,rfl,G⟩:=B.scr_eq;refine#[a,_,rfl,SameF.sq (.of R.hv) G,λp N=>k _ _ _ z (EOk.back A.len<|R.newL N ?_) f];have:w5 (g.map V.int) l u=(iY g l u).map V.int:=aSk g l u;rw[this];exact d7 _;exact f.elim
end
def spLaw(K:dN):Sp:=λe H Q _=>∃(a:Addr) (b:S7),e=[.ref a]/\SqL K H a (b.map V.int)/\b.length<=63/\∀c,Q (.bl true) c
def bGf(K:dN):GC:=λb Q=>∃a:S7,b=[.scr K a]/\a.length<=63/\Q (.tr<|.bl true)
def aLi(h:FnOk P w K mg base CX0 j f fd ["script"] (spX<|bGf K)):FnOk P w K mg base CX0 j f fd ["script"] (spLaw K):=h.imp λo H Q E=>by rintro⟨a,c,rfl,i,l,q⟩;refine#[H,[.scr K c],λs=>s=.tr (.bl true),Same.refl _,#[_,_,rfl,IsX.of_scr i,rfl],#[c,rfl,l,rfl],λs v b _ m e=>?_];subst e;have g:IsX (ext H H b) (.bl true) v:=m;cases g.bl_eq;exact q b
end Lf
namespace L2
open PySem
section
variable{M:Model}{A:Around}{E:hX}{s:Shared}
def vC(fs S:T4)(h h':Heap):Prop:=∀b o,h.get? b=some o->b∉S->(b∉fs->h'.get? b=some o)/\∃a,h'.get? b=some { o with slots:=a }
end
end L2
namespace Lf
open PySem L2
section
variable{M:Model}{A:Around}{E:hX}{s:Shared}
def v6{nw:Addr->Prop}{H:Hp}{m:Addr}{cls:Value}{fl:Option Addr}{Q:Unit->Shared->Prop}(a:Air nw s.heap H m cls)
  (h:∀h' S,(∀b∈S,nw b/\H b=none/\∃o vs,s.heap.get? b=some o/\o.data=.fields vs)->vC [] S s.heap h'->Air nw h' H m cls->Q () { s with heap:=h' }):wpAny M A (setFlight (.ref m) fl) Q E s:=by
 obtain⟨r,t,F,vs,l,D,j,q,g,e⟩:=a;unfold setFlight;rcases e with e | ⟨T,J,L,e,y,v,u,p,i,C⟩
 refine wpAny_bind<|wpAny_field l j e ?_;rw[if_neg `b];exact wpAny_pure<|h s.heap [] (λb c=>nomatch c) (λb o c _=>#[λ_=>c,o.slots,c]) #[r,t,F,vs,l,D,j,q,g,.inl e];refine wpAny_bind<|wpAny_field l j e ?_;rw[if_pos (show(Value.ref T != Value.none)=true from by simp)];refine wpAny_setField p i C<|h _ [T] (λb c=>?_) (λb o c G=>?_) #[r,t,F,vs,(bC _ _ y).trans l,D,j,q,g,.inr #[T,_,_,e,y,v,u,cF _ p<|Obj.isFreed_of_fields<|Obj.data_mapFields i _,Obj.data_mapFields i _,by simpa using C]];rw[aF.mp c];exact#[v,u,J,L,p,i];have I:b≠T:=fun z=>G<|aF.mpr z;have B:=(bC s.heap (Obj.mapFields (·.setIfInBounds 3 (fl.elim Value.none λf=>rawInt f)))<|Ne.symm I).trans c;exact#[λ_=>B,o.slots,B]
def Tb(h':Heap)(c:Addr):Prop:=∃a b T,h'.get? c=some a/\a.data=.fields b/\b[1]? = some (.ref T)
def aFe{base:Heap}{nw:Addr->Prop}{H:Hp}{env:Env}{g:List Env}{L i:Addr}{cls:Value}{Q:Unit->Shared->Prop}
  (De:A.frames=some (env::g)) (hl:s.heap.FunFrames base (env::g)) (hf:env.frame=some L) (hz:∀T,s.heap.objs.size<=T->nw T) (hH:∀a,s.heap.objs.size<=a->H a=none) (a:Air nw s.heap H i cls)
  (h:∀h' S,(∀b∈S,nw b/\H b=none/\∃o vs,s.heap.get? b=some o/\o.data=.fields vs)->vC (frs (env::g)) S s.heap h'->Air nw h' H i cls->Tb h' i->Q () { s with heap:=h' }):wpAny M A (noteFrame (.ref i) env) Q E s:=by
 have u:∀{s:Shared} {C:Obj} {vs:T8} {head:Value} {Fj:Bool} {Q:Unit->Shared->Prop},s.heap.FunFrames base (env::g)->s.heap.get? i=some C->C.data=.fields vs->1<vs.size ->
   (∀h' T t p,vC (frs (env::g)) [i] s.heap h'->s.heap.objs.size<=T->T≠i->h'.get? i=some (C.mapFields (·.setIfInBounds 1 (.ref T)))->h'.get? T=some t->t.data=.fields p->3<p.size->Q () { s with heap:=h' }) ->
   wpAny M A (do let a <-frameOf env;let J <-entryPlaceOf L Fj;let b <-EntryCells.newEntry head a .none (rawInt L) .none J;setField (.ref i) 1 b) Q E s:=by
  intro s C vs head Fj Q hl v m l h;have O8:i∉(env::g).filterMap (·.frame):=λhm=>by obtain⟨_,o,ho,n⟩:=hl.mem hm;rw[v]at ho;injection ho with ho;subst ho;exact n vs m
  refine wpAny_bind<|wpAny_frameOf_fun De hl hf λe j=>?_;refine wpAny_bind<|wpAny_entryPlaceOf λJ Ag=>?_;unfold EntryCells.newEntry newFields;refine wpAny_bind<|wpAny_newObj_type ?_<|Ag.sizeOk5 _ _ _ _ _;have y:e.get? i=some C:=(j.2.1 i O8).trans v;have B:=aD (h:=e) { cls:=.type "traceback",dict:=none,data:=.fields ([head,.ref L,.none,rawInt L,.none]++(if J.isEmpty then List.replicate 6 Value.none else J)).toArray } y;have Rm:e.objs.size≠i:=fY<|aS y;have Z:=Obj.data_mapFields m (·.setIfInBounds 1 (Value.ref e.objs.size));have d:=cF (Obj.mapFields (·.setIfInBounds 1 (Value.ref e.objs.size))) B<|Obj.isFreed_of_fields Z;have Y:=(bC (e.push { cls:=.type "traceback",dict:=none,data:=.fields ([head,.ref L,.none,rawInt L,.none]++(if J.isEmpty then List.replicate 6 Value.none else J)).toArray })
   (Obj.mapFields (·.setIfInBounds 1 (Value.ref e.objs.size))) (Ne.symm Rm)).trans<|aW e rfl
  refine wpAny_setField B m l<|h _ e.objs.size _ _ ?_ (Nat.le_of_eq j.1.symm) Rm d Y rfl (by simp only[aR,aI,aK,bE]<;>lia);intro b o f G9;have Pi:b≠i:=λz=>G9<|aF.mpr z;have keep:∀o,e.get? b=some o->((e.push { cls:=.type "traceback",dict:=none,data:=.fields ([head,.ref L,.none,rawInt L,.none]++(if J.isEmpty then List.replicate 6 Value.none else J)).toArray }).update i (Obj.mapFields (·.setIfInBounds 1 (Value.ref e.objs.size)))).get? b=some o:=λo f=>by rw[bC _ _<|Ne.symm Pi];exact aD _ f
  refine#[λLm=>keep o<|(j.2.1 b Lm).trans f,?_];obtain⟨sl,hs⟩:=j.2.2 b o f;exact#[sl,keep _ hs]
 obtain⟨a1,a2,C,vs,v,hc,m,F8,l,N⟩:=a;have D:∀(h':Heap) (T:Addr) (t:Obj) (p:T8),s.heap.objs.size<=T->T≠i->h'.get? i=some (C.mapFields (·.setIfInBounds 1 (.ref T)))->h'.get? T=some t->t.data=.fields p->3<p.size->Air nw h' H i cls/\Tb h' i:=λh' T t p F O G R U W=>by refine#[#[a1,a2,_,_,G,(Obj.cls_mapFields _ _).trans hc,Obj.data_mapFields m _,by obtain⟨c,a5,dt,sl⟩:=C;cases dt<;>exact F8,by simpa using l,.inr #[T,t,p,by simp[l],O,hz T F,hH T F,R,U,W]],#[_,_,T,G,Obj.data_mapFields m _,by simp[l]]]
 unfold noteFrame;simp only[hf];rcases N with N | ⟨T,t,p,N,aT,aN,aH,V,k,h3⟩
 refine wpAny_bind<|wpAny_field v m N ?_;rw[if_neg `b];exact u hl v m l λh' T t p g0 F O G R U W=>h h' [i] (λb f=>by rw[aF.mp f];exact#[a1,a2,_,_,v,m]) g0 (D h' T t p F O G R U W).1 (D h' T t p F O G R U W).2;refine wpAny_bind<|wpAny_field v m N ?_;rw[if_pos (show(Value.ref T != Value.none)=true from by simp)];obtain⟨x3,e3⟩:∃x,p[3]? = some x:=#[_,Array.getElem?_eq_getElem h3];refine wpAny_bind<|wpAny_field V k e3 ?_;by_cases hx:(x3 == rawInt L)=true;rw [if_pos hx];exact wpAny_pure<|h s.heap [] (λb f=>nomatch f) (λb o f _=>#[λ_=>f,o.slots,f]) #[a1,a2,C,vs,v,hc,m,F8,l,.inr #[T,t,p,N,aT,aN,aH,V,k,h3]] #[C,vs,T,v,m,N];rw[if_neg hx];refine wpAny_bind<|wpAny_setField V k h3 ?_;have other:∀b,b≠T->(s.heap.update T (Obj.mapFields (·.setIfInBounds 3 Value.none))).get? b=s.heap.get? b:=λb f=>bC _ _<|Ne.symm f;have r:∀b o,s.heap.get? b=some o->(∀vs,o.data ≠ .fields vs)->b≠T:=λb o f n q=>by rw[q,V]at f;injection f with f;subst f;exact n p k
 have I:(s.heap.update T (Obj.mapFields (·.setIfInBounds 3 Value.none))).objs.size=s.heap.objs.size:=Heap.size_after_update ..;refine u (s:={ s with heap:=_ }) (hl.of_keeps λb o f n=>#[o,(other b<|r b o f n).trans f,rfl]) ((other i<|Ne.symm aT).trans v) m l
  λh' T' a0 a4 g0 F O G R U W=>h h' [i,T] (λb f=>?_) (λb o f D0=>?_) (D h' T' a0 a4 (by rw[<-I];exact F) O G R U W).1 (D h' T' a0 a4 (by rw[<-I];exact F) O G R U W).2
 rcases aE.mp f with rfl | f
 exact#[a1,a2,_,_,v,m];rw[aF.mp f];exact#[aN,aH,_,_,V,k];have n1:b≠i:=fun z=>D0 (by rw [z]; exact aB);have n2:b≠T:=λz=>D0 (by rw[z];exact aC _ aB);exact g0 b o ((other b n2).trans f) λz=>n1<|aF.mp z
def b6{base:Heap}{nw:Addr->Prop}{H:Hp}{env:Env}{c:List Env}{L j:Addr}{cls:Value}{Q:Unit->Shared->Prop}
  (F:A.frames=some (env::c)) (d:s.heap.FunFrames base (env::c)) (m:env.frame=some L) (hz:∀T,s.heap.objs.size<=T->nw T) (Y:∀a,s.heap.objs.size<=a->H a=none) (a:Air nw s.heap H j cls)
  (h:∀h' S,(∀b∈S,nw b/\H b=none/\∃o vs,s.heap.get? b=some o/\o.data=.fields vs)->vC (frs (env::c)) S s.heap h'->Air nw h' H j cls->Q () { s with heap:=h' }):wpAny M A (noteFrame (.ref j) env) (λ_ i=>wpAny M A (setFlight (.ref j) none) Q E i) E s:=
 aFe F d m hz Y a λh' S y B f _=>v6 (s:={ s with heap:=h' }) f λW v l u g=>h W (S++v.filter λb=>(s.heap.get? b).isSome) (λb Z=>by
  rcases aX.mp Z with z | z
  exact y b z;by_cases t:b∈S;exact y b t;obtain⟨z1,z2⟩:=cU.mp z;obtain⟨o,e⟩:=cK.mp z2;obtain⟨R,U,x,G,J,I⟩:=l b z1;obtain⟨D,N⟩:=(B b o e t).2;have O:some x=some { o with slots:=D }:=J.symm.trans N;cases O;exact#[R,U,o,G,e,I]) (λb o e n=>by
  have k:b∉S:=λz=>n<|aM _ z;have C:b∉v:=λz=>n<|aJ _<|cU.mpr #[z,by rw[e];rfl];obtain⟨p,D,q⟩:=B b o e k;refine#[λm=>(u b o (p m) C).1 `g,?_];obtain⟨r,V⟩:=(u b _ q C).2;exact#[r,V]) g
end
def uD(x:HOk P w H h)(k:vC fs S h h')(j:∀b∈fs,H b=none)(i:∀b∈S,H b=none):HOk P w H h':=λa o e =>
 ObjOk.stay (x a o e) (λb u f l=>by
  have g:∃o,H b=some o:=by
   rcases f with rfl | f
   exact#[_,e];exact#[_,f]
  obtain⟨ob,c⟩:=g;exact(k b u l λz=>by rw[i b z]at c;cases c).1 λz=>by rw[j b z]at c;cases c) (λ_ z=>z) (λ_ _ z=>z)
section
variable{X:Cx}{f:gM}{e:St}{H c:Hp}{s a:Shared}
def Inv.thrown(I:Inv X f e H s)(os:a.os=s.os)(h:PyProof.Rows.AllBare a.gens)(un:Un (frs X.stack) [] H c s.heap a.heap)(i:HOk X.prog X.w c a.heap):Inv X f e c a:=by obtain⟨l,g,d,t,j⟩:=a;obtain rfl:j=s.os:=os;exact I.call (h':=l) (g':=g) (d':=d) (t':=t) (ch:=[]) un i h<|λb z=>absurd z `g
end
def Air.older(a:Air n h' H ea cls)(k:∀b,n b->n0 b):Air n0 h' H ea cls:=by
 obtain⟨g,h,q,t,o,l,m,f,e,c⟩:=a;refine#[k _ g,h,q,t,o,l,m,f,e,?_];rcases c with c | ⟨T,p,s,c,j,i,r⟩
 exact .inl c;exact .inr #[T,p,s,c,j,k _ i,r]
def OkF.pass[OkF X Ex F](m:gM)(v:St)(H:Hp)(s:Shared)(e:Value)(l:Shared)(I:Inv X m v H s)(h:CXe X.prog X.w X.stack H s (λc _ f=>Ex c/\aGs F f) e l):X.xe e l:=by
 obtain⟨y,i,f,rfl,D,a,un,j,g,C,A⟩:=h;refine OkF.pass1 (Ex:=Ex) (F:=F) m v f l y i (Inv.thrown I D a un j) (g.older λb u=>#[?_,λp B z=>?_]) C A;by_cases r:b∈X.ex;exact .inr r;left;cases q:X.s₀.heap.get? b with
 |none=>rfl
 |some o => obtain⟨E,t⟩:=I.base.there b o q r;rw[u]at t;cases t
 have:=(I.pin p B).1;rw[z,u]at this;cases this
section
variable{N:S4}{x:Str}{scope:Scope}{f:Addr}{g:Value}{A:Around}{e:List Env}{s:Shared}{H:Hp}{E:XK}{Ex:ExT}{F:Fm}
def aQo(J:∀c l,Ex c->aGs F l->E c none l):OkF (jT (CXe P w) P w K mg base N x scope f g A e s H E) Ex F:=#[λG k l Z I p i u R Q=>by
 have older:∀b,NwX (jT (CXe P w) P w K mg base N x scope f g A e s H E) G b->s.heap.get? b=none:=λb h=>h.1.elim (λz=>z) λz=>nomatch z;refine wpAny_bind<|b6 (base:=base) (nw:=λb=>s.heap.get? b=none) (H:=l) (L:=s.heap.objs.size) i.ok.frames i.stack rfl (λT M=>Heap.get?_none_of_le<|nzL i.sz M) (λa O=>i.hok.fresh O) (u.older older) λW S D t m=>?_;have C:∀b o,s.heap.get? b=some o->b∉S:=λb o h z=>by rw[(D b z).1]at h;cases h
 have U:∀b o,s.heap.get? b=some o->b∈frs (PyProof.Rows.envOfC x scope s.heap.objs.size f g::e)->b∈frs e:=λb o h z=>by
  rcases aE.mp (show b∈s.heap.objs.size::frs e from z)with z | z
  exact absurd (aS h) (by rw[z];exact dM _);exact z
 have B:=i.base;refine#[I,p,l,rfl,i.os,i.bare,#[λb o h n r j=>?_,λb o h n r j=>?_,λb o h n j=>B.free b o h n j,λb o h j=>?_,B.tups,B.frzs,B.tbls],uD i.hok t i.stkFree<|λb h=>(D b h).2.1,m,J p l R Q];exact(t b o (B.keep b o h n r j)<|C b o h).1 λz=>r<|U b o h z;obtain ⟨d,v⟩:=B.slot b o h n r j;obtain⟨q,y⟩:=(t b _ v<|C b o h).2;exact#[q,y];obtain ⟨Y,v⟩:=B.there b o h j;obtain⟨q,y⟩:=(t b _ v<|C b o h).2;exact#[_,y]]
end
abbrev aVg{H c:Hp}(h:Same c H):Fm:=#[H,c,[],h,λb a=>by simp at a,λb a=>by simp at a]
abbrev GE:=S1->(Sv->Prop)->ExT->Prop
def spE(g:GE):Sp:=λh H Q E=>∃b f e Ex,Same b H/\All2 (IsX b) f h/\g f e Ex/\(∀s v a,Same H a->aDt b H a s v->e s->Q v a)/\∀c a,Same H a->Ex c->E c none a
def rC(W:Fun K x i st f fd)(S:FnScope N ps<|aQ st)(M:∀ds Q Ex,g ds Q Ex->ds.length=ps.length)(hN:ps.length<=N.length)
  (T:∀ (l:Value) (A:Around) (a:List Env) (s:Shared) (H:Hp) (E:XK) (Ex:ExT),Room k (A.deeper<|PyProof.Rows.envOfC i (aQ st) s.heap.objs.size f l) →
   ∃G,XSs (jT (CXe P w) P w K mg base N i (aQ st) f l A a s H E) Ex (fB st) G/\∀ds Q,g ds Q Ex->G (jI N ds) (aEn Q)):FnOk P w K mg base (CXe P w) (k+1) f fd ps<|spE g:=by
 obtain⟨oc,od,kV,n,pm,an,l,ct,a0,rfl,lk,U⟩:=W.ex;refine aUh lk U S (λvs H Q E h=>?_) λA a s H vs Q E y h=>?_;obtain ⟨Y,ds,m,Ex,p,t,B,_⟩:=h;rw[t.len];exact M ds m Ex B;obtain⟨Y,ds,m,Ex,p,t,B,O,V⟩:=h;obtain⟨G,hG,hq⟩:=T l A a s H E Ex y;have hl:=M ds m Ex B
 haveI:OkF (jT (CXe P w) P w K mg base N i (aQ st) f l A a s H E) Ex<|aVg p:=aQo λc D e k=>V c D (λb o j=>k b o j `g) e
 refine#[_,hG<|aVg p,jI N ds,[],aEn m,#[?_,?_],hq ds m B,#[λL D J _ C q=>?_,λv s L D J _ C q=>?_,λ_ _ _ _ _ q=>q.elim,λ_ _ _ _ _ q=>q.elim]];unfold jI L2.start;simp only[aI,aA,bP];rw[t.len];rw [aP];have Z:Rep (aVg p) [] H:=#[iA,λr y=>by simp at y,λr y=>by simp at y,λb o h _=>h,λb j=>by simp at j];unfold jI L2.start;rw[t.len];refine jn_ Z<|t.imp λ_ _ z=>z.to λb o j=>?_;cases q:H b with
 |none=>rw[p _ _ j]at q;cases q
 |some u=>exact(kH q).trans j
 have R:=C.rep.add (d:=.non) (v:=.non) IsX.of_non;obtain⟨F,I⟩:=wA R;exact O _ _ _ F I q;obtain ⟨F,I⟩:=wA C.front;exact O _ _ _ F I q
def nB(P:Program)(w:World)(K:dN)(mg:mI)(base:Heap)(j:Nat)(x:Str)(ps:S4)(sp:Sp):Prop:=∃f fd,FnOk P w K mg base (CXe P w) j f fd ps sp/\Binds K fd ps []/\PySem.W.keepIn K (.ref f)=true/\mg x=some (.ref f)
def aQa{p pos}(C:nB X.prog X.w X.K X.mg X.base j x ps sp)(l:Room j X.A)(o:jZ (CXe X.prog X.w) X E)(ha:PA X (e::a) t)(i:Gl X x:=by rfl)(c:U5 x:=by decide)
  (h:U7 X e a:=by rfl) (g:U8 X pos a:=by rfl):PE X (.Call (.Name x p) (e::a) [] pos)<|aAy sp [] E t:=by
 obtain⟨f,fd,G,b,k,m⟩:=C;exact aBo G l i m k b .nil o ha c h g
def vL(Ex:ExT)(g:GE)(u:XA):XT:=λc Q=>u c λb a=>g (b.map Sv.d) (λs=>Q s a) Ex
def dn_{p pos}(C:nB X.prog X.w X.K X.mg X.base j x ps<|spE g)(f:Room j X.A)(ha:XAs X Ex (e::a) u)(J:Gl X x:=by rfl)(y:U5 x:=by decide)
  (G:U7 X e a:=by rfl) (A:U8 X pos a:=by rfl):XE X Ex (.Call (.Name x p) (e::a) [] pos)<|vL Ex g u:=λF=>(aQa C f (λz r H s e O I h=>OkF.pass z r H s e O I h) (ha F) J y G A).weak λr H Q=>by
 rintro⟨S,fr,U,E,t,k⟩;refine#[S,fr,_,E,t,λY W T i L l N=>?_];obtain⟨R,M⟩:=l.many L;rw[aP];exact#[_,_,_,Ex,R.hv,M,N,λs v m e f q=>k v s m i (EOk.back l.len<|R.res e f) q,λc m e q=>#[q,λb o B D=>e b o<|R.kp b o B D]]
def aFd(x:ObjOk P w H h a o):∃ob,h.get? a=some ob:=by
 cases o with
 |lst g=>obtain⟨z,b,n,r,e⟩:=x;exact#[_,e]
 |tup g=>obtain⟨z,b,r,ob,e,c⟩:=x;exact#[_,e]
 |dK f=>obtain⟨z,y,q,r,ob,l,j,e,c⟩:=x;exact#[_,e]
 |ins C i fs=>obtain⟨d,z,m,e,_⟩:=x;exact#[_,e]
 |own y=>exact x
 |frz ob u=>exact#[_,x.1]
 |tbl p=>exact#[_,x]
 |ext s=>exact x.2.1
def HOk.none(x:HOk P w H h)(n:h.get? a=.none):H a=.none:=by
 cases q:H a with
 |none=>rfl
 |some o => obtain⟨ob,e⟩:=aFd<|x a o q;rw[n]at e;cases e
abbrev bHl(X:Cx)(x:Str)(C:Addr):Prop:=PyProof.Rows.OwnCls x C veM "ValueError.__new__" X.mg X.base
def aUx(Ex:ExT)(c:Value):XS:=λ_ _=>Ex c
def cy_{x z}{np cpos pos p}{j}(O:bHl X x C)(L:X.calm=true)(Q:Gl X x)(M:U5 x:=by decide)
  (m:starEach [.Constant (.str z) j p] X.env=[(false,eval (.Constant (.str z) j p) X.env)]:=by rfl):XSt X Ex (.Raise (some<|.Call (.Name x np) [.Constant (.str z) j p] [] cpos) none pos)<|aUx Ex<|.ref C:=λF _ l s u H D I h=>by
 obtain⟨ρ,fr,d,E,q,k⟩:=h;have S:=lK aJv i4 m;obtain⟨Y,N,nm,U,bs,hdct,sn,sub,ab,col,dd,k0,k1,k2,k3,k5,mN,G,J,v,T⟩:=O.obj;refine wpAny_Raise_call_subT (C:=C) (nm:=nm) (q:=U) (N:=N) (bs:=bs) (bm:=Y) (hdct:=hdct) (sn:=sn) (sub:=sub) (ab:=ab) (col:=col) (dd:=dd) (k0:=k0) (k1:=k1) (k2:=k2) (k3:=k3) (k5:=k5)
  PySem.F.excBase_ValueError (mN:=mN) (T.hasType PySem.F.excBase_ValueError.hasBase) (I.ok.hd L) (by rw[m];rfl) v (ha_ I Q O.bound #[rfl,?_] M)
 refine Calls.evalArgs_plain ?_;refine wpAny_mono (S cpos l s u H (λr i=>r=[.str z]/\i=H) I #[rfl,rfl]) (λV g f=>?_) λ_ _ y=>y;obtain⟨r,i,a,W,rfl,rfl⟩:=f;refine#[rfl,by rw[<-W.length];show 1<=sizeLine;exact nzL `b (iJ iM),a.bk _ _ G,J.keeps a.bk,T.keeps a.bk,λZ e c=>?_];obtain⟨t,R,n,_⟩:=c.there;refine OkF.pass (Ex:=Ex) (F:=F) l u i g _ _ a #[e,.ref C,i,rfl,rfl,a.bare,Un.kept c.keeps,a.hok.kept c.keeps,#[c.new,HOk.none a.hok c.new,_,_,R,rfl,rfl,rfl,by show 1<6;decide,.inl rfl],q,λb o A B=>E.rep.kp b o A B]
section
variable{X:Cx}{f:gM}{g:St}{H t:Hp}{s l:Shared}{h':Heap}{S:T4}
def Inv.noLoc(I:Inv X f g H s)(h:s.heap.get? b=some o)(a:o.data=.fields vs):b≠X.env.locals/\∀x c,X.env.cells.lookup x=some c->c≠b:=by refine#[λz=>?_,λx c e z=>?_];obtain ⟨m,⟨y,r,q,p,i,_⟩,_⟩:=I.loc;rw[z,p]at h;cases h;rw[i]at a;cases a;obtain ⟨v,u,j,hv⟩:=I.cell x c e;rw[z,h]at j;cases j;rw[hv]at a;cases a
def Inv.noted(I:Inv X f g H s)(j:vC (frs X.stack) S s.heap h')(D:∀b∈S,(X.s₀.heap.get? b=none/\∀p∈X.pn++f,p.1≠b)/\H b=none/\∃o vs,s.heap.get? b=some o/\o.data=.fields vs):Inv X f g H { s with heap:=h',toks:=t' }:=by
 have neL:∀b o,X.s₀.heap.get? b=some o->b≠X.env.locals:=λb o e=>bF<|aV (aS e) I.ok.above;have J:∀b o,X.s₀.heap.get? b=some o->b∉S:=λb o e z=>by rw[(D b z).1.1]at e;cases e
 have nst:∀b,b≠X.env.locals->b∉X.fs->b∉frs X.stack:=λb A C z=>(aE.mp<|I.stkSub b z).elim A C;have V:X.env.locals∉S:=λz=>by obtain⟨_,_,o,vs,A,C⟩:=D _ z;exact(Inv.noLoc I A C).1 rfl
 have O:∀x c,X.env.cells.lookup x=some c->c∉S:=λx c e z=>by obtain⟨_,_,o,vs,A,C⟩:=D _ z;exact(Inv.noLoc I A C).2 x c e rfl
 have h:∀x c,X.env.cells.lookup x=some c->∀v,s.heap.IsCell c v->h'.IsCell c v:=λx c e v ⟨o,Z,W⟩=>by obtain⟨N,a⟩:=(j c o Z<|O x c e).2;exact#[_,a,W]
 have B:=I.base;refine#[I.ok,I.os,I.bare,#[λb o e n q E=>?_,λb o e n q E=>?_,B.free,λb o e E=>?_,B.tups,B.frzs,B.tbls],?_,λx c e=>?_,I.free,I.freeC,λp L=>?_,uD I.hok j I.stkFree<|λb q=>(D b q).2.1,I.len];exact(j b o (B.keep b o e n q E)<|J b o e).1<|nst b (neL b o e) q;obtain ⟨N,y⟩:=B.slot b o e n q E;obtain⟨F,a⟩:=(j b _ y<|J b o e).2;exact#[F,a];obtain ⟨o',y⟩:=B.there b o e E;obtain⟨F,a⟩:=(j b _ y<|J b o e).2;exact#[_,a];obtain ⟨m,⟨oL,T,R,U,r⟩,Y⟩:=I.loc;obtain⟨N,a⟩:=(j _ oL U V).2;refine#[m,#[_,T,R,a,r],λi x v y a Q=>?_];obtain⟨u,ru,G⟩:=Y i x v y a Q;refine#[u,ru,?_];rcases G with G | ⟨k,c,e,z⟩
 exact .inl G;exact .inr #[k,c,e,h x c e _ z];obtain ⟨v,z⟩:=I.cell x c e;exact#[v,h x c e v z];obtain ⟨e,n,M,nf,d⟩:=I.pin p L;exact#[(j p.1 p.2 e λz=>(D p.1 z).1.2 p L rfl).1<|nst p.1 M nf,n,M,nf,d]
def Inv.caught(I:Inv X f g H s)(nw:X.s₀.heap.get? h=none/\∀p∈X.pn++f,p.1≠h)(R:H h=none)(y:s.heap.get? h=some o)(Q:o.cls=cls)(C:o.data=.fields vs)(G:o.dict=none) :
  Inv X f g (upd H h<|.ext<|v_ h cls) s:=by
 obtain⟨W,U⟩:=Inv.noLoc I y C;have B:=I.base;have m:∀b u,H b=some u->b≠h:=λb u e z=>by rw[z,R]at e;cases e
 refine#[I.ok,I.os,I.bare,#[B.keep,B.slot,λb o e n T=>?_,B.there,λb q e=>?_,λb o q e=>?_,λb Y e=>?_],I.loc,I.cell,?_,λx c e=>?_,λp D=>?_,λa u e=>?_,I.len];rw[dZ λz=>by rw[z,nw.1]at e;cases e];exact B.free b o e n T;have:=B.tups b q e;rw[dZ<|m b _ this];exact this;have:=B.frzs b o q e;rw[dZ<|m b _ this];exact this;obtain⟨j,r⟩:=B.tbls b Y e;exact#[j,by rw[dZ<|m b _ r];exact r];rw[dZ<|Ne.symm W];exact I.free;rw[dZ<|U x c e];exact I.freeC x c e;obtain ⟨M,N,O⟩:=I.pin p D;exact#[M,by rw[dZ<|nw.2 p D];exact N,O];by_cases z:a=h;subst z;rw[bY]at e;cases e;refine#[#[o,vs,y,Q,C,G],#[o,y],λr Z F k=>?_];obtain⟨E,A,J,L⟩:=F;exact#[E,A,k E J,L];rw [dZ z] at e;exact ObjOk.stay (I.hok a u e) (λb v _ hv=>hv) (λb i=>by rw[dZ<|m b _ i];exact i) (λb q i=>by rw[dZ<|m b _ i];exact i)
def ht_{M:Model}{A:Around}{E:hX}{i:Nat}{n:Str}{L:Pos}{Q:Unit->Shared->Prop}(I:Inv X f g H s)(Z:X.N.Nodup)(O:X.N[i]? = some n)(x:X.env.kindOf n=some .local)
  (h:∀l,Inv X f (g.set i none) H l->Q () l):wpAny M A (do bindName X.env n .none;unbindBehindTheSuite X.env n L) Q E s:=by
 obtain⟨m,R,V⟩:=id I.loc;obtain⟨oL,_,_,Ik,_⟩:=id R;have U:(X.env.scope.kind == .class||(X.env.scope.kind == .module&&X.env.locals != X.env.globals))=false:=by rw[I.ok.kind];rfl
 have u:i<g.length:=by rw[I.len];exact(aL.mp O).1
 refine wpAny_nameGoes_keeps x R U λh' v W a=>h _ ?_;have J:∀b o,X.s₀.heap.get? b=some o->b≠X.env.locals:=λb o e=>bF<|aV (aS e) I.ok.above;refine#[I.ok,I.os,I.bare,#[λb o e n F B=>?_,λb o e n F B=>?_,I.base.free,λb o e B=>?_,I.base.tups,I.base.frzs,I.base.tbls],#[_,W,λj y N r C Y=>?_],λy c e=>?_,I.free,I.freeC,λp hp=>?_,λb ob e=>?_,by simpa using I.len];exact(a.2 b<|J b o e).trans<|I.base.keep b o e n F B;obtain ⟨sl,r⟩:=I.base.slot b o e n F B;exact#[sl,(a.2 b<|J b o e).trans r];obtain ⟨o',r⟩:=I.base.there b o e B;exact#[o',(a.2 b<|J b o e).trans r];by_cases G:j=i;subst G;rw[fD u]at C;cases C;rw [cI<|Ne.symm G] at C;obtain⟨u',r',q⟩:=V j y N r C Y;refine#[u',r',?_];rcases q with⟨k,e⟩ | ⟨k,c,e,z⟩
 refine .inl #[k,?_];have:y≠n:=λe=>G<|qO Z r<|e ▸ O;simp[this,e];exact .inr #[k,c,e,z.sameBut a<|I.cne y c e];obtain ⟨N,z⟩:=I.cell y c e;exact#[N,z.sameBut a<|I.cne y c e];obtain ⟨e,n,T,nf,d⟩:=I.pin p hp;exact#[(a.2 p.1 T).trans e,n,T,nf,d];refine (I.hok b ob e).stay (fun c w' D q=>(a.2 c ?_).trans q) (fun _ q=>q) fun _ _ q=>q;rintro rfl;rcases D with rfl | D
 rw[I.free]at e;cases e;rw[I.free]at D;cases D
end
abbrev NwT(X:Cx)(a:gM):Addr->Prop:=λb=>X.s₀.heap.get? b=none/\∀p∈X.pn++a,p.1≠b
abbrev sA(X:Cx)(b:gM)(i:St)(h:Value->Hp->Prop):Cx:={ X with pn:=X.pn++b,xe:=λe g=>∃f a c,e=.ref f/\Inv X b i c g/\Air (NwT X b) g.heap c f a/\h a c }
section
variable{X:Cx}{b:gM}{a:St}{H:Hp}{s:Shared}{c:Value->Hp->Prop}
def Inv.inTry(I:Inv X b a H s):Inv (sA X b σ0 c) [] a H s:=
 #[#[I.ok.mod,I.ok.kind,I.ok.glob,I.ok.blt,I.ok.above,I.ok.inj,I.ok.has,I.ok.cab,I.ok.hd,I.ok.frames,I.ok.stk,I.ok.exf,I.ok.bs,I.ok.bsz,I.ok.noex,I.ok.exfs,I.ok.funs,I.ok.frf],I.os,I.bare,I.base,I.loc,I.cell,I.free,I.freeC,λp e=>I.pin p<|by simpa using e,I.hok,I.len]
def Inv.outTry(I:Inv (sA X b σ0 c) pins' a H s):Inv X b a H s:=
 #[#[I.ok.mod,I.ok.kind,I.ok.glob,I.ok.blt,I.ok.above,I.ok.inj,I.ok.has,I.ok.cab,I.ok.hd,I.ok.frames,I.ok.stk,I.ok.exf,I.ok.bs,I.ok.bsz,I.ok.noex,I.ok.exfs,I.ok.funs,I.ok.frf],I.os,I.bare,I.base,I.loc,I.cell,I.free,I.freeC,λp e=>I.pin p<|aM _ e,I.hok,I.len]
end
abbrev XQ:=En->(En->Prop)->(Value->En->Prop)->Prop
def tXQ(F:Fm)(h:St)(l:Value->Hp->Prop)(q:XQ):TS:=λD g H=>g=h/\∃j fr i f,EOk F j g fr H/\q j i f/\(∀b e a,b.length=g.length->EOk F a b fr e->i a->D.nx b e)/\∀c e a,EOk F a g fr e->f c a->l c e
def XQs(X:Cx)(b:List Stmt)(q:XQ):Prop:=∀e a c F,PSs (sA X e a c) b<|tXQ F a c q
section
variable{X:Cx}{l:gM}{a:St}{i:Value->Hp->Prop}{F:Fm}{g:GE}{u:XA}
def aIm(F:Fm)(a:St)(i:Value->Hp->Prop)(g:GE)(u:XA):TE:=λh H Q=>h=a/\∃(m:En) (fr:S9) (j:Sv->En->Prop) (f:Value->En->Prop),EOk F m h fr H/\(u m λo b=>g (o.map Sv.d) (λs=>j s b)<|λc=>f c b)/\(∀v s e b,EOk F b h ((.v s,some v)::fr) e->j s b->Q v e)/\∀c e b,EOk F b h fr e->f c b->i c e
def aKb{p pos}(C:nB X.prog X.w X.K X.mg X.base j x ps<|spE g)(d:Room j X.A)(ha:XAs (sA X l a i) dQ (e::J) u)(Gp:X.ex=[]:=by rfl)(hg:Gl X x:=by rfl)(A6:U5 x:=by decide)
  (he:U7 X e J:=by rfl) (Ag:U8 X pos J:=by rfl):PE (sA X l a i) (.Call (.Name x p) (e::J) [] pos)<|aIm F a i g u:=by
 obtain⟨f,fd,G,L,hk,hm⟩:=C;intro y s σ H Q I h;obtain⟨rfl,ρ,fr,Qx,T,E,q,k1,k2⟩:=h;refine wpAny_Call_Name_kw<|ha_ I hg hm ?_ A6;refine PySem.W.callWith_K I.ok.mod.kin hk (dR (ha F pos y s σ H (λN S=>spE g N S Q<|λc _ m=>i c m) I #[ρ,fr,_,E,q,λN ss H2 A Y O q2=>?_]) λM V ⟨N,S,t,r,q⟩=>#[t.kIn,?_]) he Ag;obtain ⟨R,hs⟩:=O.many Y;exact#[_,_,_,λc=>T c A,R.hv,hs,q2,λs v m e d q=>k1 v s m A (EOk.back O.len<|R.res e d) q,λc m e q=>k2 c m A #[O.len,R.grow e] q]
 ·have Y:=G.len _ _ _ _ q;have Aw:M.length=ps.length:=by rw[<-r.length];exact Y
  refine wpAny_call (codeAny_mono (G.run X.A X.stack V S #[M,[]] M N Q _ d t.env0 (by have:=L V M t.kIn (by rw[aP];exact Aw);rwa [aP]at this) r q) λr s' D=>?_);cases r with
  |error e =>
   obtain⟨ea,W,m,rfl,os,B,un,Z,U,hx⟩:=D;refine#[ea,W,m,rfl,Inv.outTry<|Inv.thrown t os B un Z,U.older λb L=>#[?_,λp hp z=>?_],hx];cases qq:X.s₀.heap.get? b with
   |none=>rfl
   |some o => obtain⟨o',k⟩:=t.base.there b o qq (by show b∉X.ex;rw[Gp];simp);rw[L]at k;cases k
   obtain ⟨n,_⟩:=t.pin p<|aM _ hp;rw[z,L]at n;cases n
  |ok fl =>
   cases fl with
   |ret v=>exact t.after D
   |next=>exact False.elim D
   |brk=>exact False.elim D
   |cont=>exact False.elim D
end
def bCs(g:GE)(u:XA):XQ:=λf N b=>u f λe a=>g (e.map Sv.d) (λ_=>N a)<|λc=>b c a
section
variable{X:Cx}{st:Stmt}{i:Nat}{g:GE}{u:XA}{q r:XQ}{e c:Expr}{b:XC}{a:Pos}
def aUp(h:∀m f l F,PE (sA X m f l) e<|aIm F f l g u)(z:swapsWith e none a.line X.env=pure false:=by rfl):XQs X [.Expr e a] (bCs g u):=λm f l F=>(wG<|io_ (h m f l F) z).weak λD I H=>by rintro⟨rfl,G,fr,y,o,E,q,A,B⟩;exact#[rfl,G,fr,λ_ j=>y j,o,E,q,λv s t j p C=>A I t j rfl p.drop C,B]
end
def vB(base:Heap)(C D:Addr):Prop:=∃nm q N bs f b p e g c h i j l m o a,base.get? C=some (excClassObj nm q C N bs f b p e g c h i j l m o a)/\(Value.ref C::f).contains (.ref D)=true
section
variable{M:Model}{A:Around}{E:hX}{h:Heap}{g:Array GenState}{d:Drawn}{t:Nat}{os:OsState}
def rE{C D e}{oe}{Q}{nm q}{N}{bs bm}{hdct}{sn}{sub}{ab}{col}{dd}{k0 k1 k2 k3 k5}{newId}
  {nm' q'} {N'} {bs' bm'} {Ir} {sn'} {sub'} {ab'} {col'} {dd'} {k0' k1' k2' k3' k5'} {newId'}
  (l:h.get? C=some (excClassObj nm q C N bs bm hdct sn sub ab col dd k0 k1 k2 k3 k5 newId)) (b:h.get? D=some (excClassObj nm' q' D N' bs' bm' Ir sn' sub' ab' col' dd' k0' k1' k2' k3' k5' newId')) (m:h.get? e=some oe) (i:oe.cls=.ref C)
  (j:bm'.contains (.type "BaseException")=true) (c:(Value.ref C::bm).contains (.ref D)=true) (o:Q true #[h,g,d,t,os]):wpAny M A (excMatches (.ref e)<|.ref D) Q E #[h,g,d,t,os]:=by
 have a:(Value.ref D::bm').contains (.type "BaseException")=true:=by rw[List.contains_cons,j,Bool.or_true]
 have f:=tc_notTuple
 repeat (first | (with_reducible refine wpAny_loadPart_at m ?_;rw[i]) | with_reducible refine wpAny_loadPart_at b ?_ | (with_reducible refine wpAny_isSubtype_exc b ?_;rw[a]) | (with_reducible refine wpAny_isSubtype_exc l ?_;rw[c]) | wp_step)
 exact o
end
abbrev aRx(X:Cx)(a:Addr):Cx:={ X with A:=X.A.mark<|some `i,calm:=false,xe:=λ_ _=>False }
section
variable{X:Cx}{b:gM}{a:St}{H:Hp}{s:Shared}{c:Addr}
def Inv.inExc(I:Inv X b a H s):Inv (aRx X c) b a H s:=
 #[#[I.ok.mod,I.ok.kind,I.ok.glob,I.ok.blt,I.ok.above,I.ok.inj,I.ok.has,I.ok.cab,(λz=>nomatch z),I.ok.frames,I.ok.stk,I.ok.exf,I.ok.bs,I.ok.bsz,I.ok.noex,I.ok.exfs,I.ok.funs,I.ok.frf],I.os,I.bare,I.base,I.loc,I.cell,I.free,I.freeC,I.pin,I.hok,I.len]
def Inv.outExc(ok:X.Ok)(I:Inv (aRx X c) b a H s):Inv X b a H s:=#[ok,I.os,I.bare,I.base,I.loc,I.cell,I.free,I.freeC,I.pin,I.hok,I.len]
end
def bIw(M:Value->Prop)(jn:Nat)(q:XQ)(K:XS):XS:=λe D=>q e D.nx λc b=>M c/\K (b.set jn<|vT<|.exc c) #[λa=>D.nx<|a.set jn .un,λs a=>D.rt s<|a.set jn .un,λa=>D.bk<|a.set jn .un,λa=>D.ct<|a.set jn .un]
def jt_(E:EOk F ρ σ fr H):EOk F (ρ.set i .un) (σ.set i none) fr H:=by by_cases a:i<ρ.length;refine #[by rw [bJ,bJ]; exact E.len,?_];have b:=zW (l:=ρ.zip σ) (i:=i)<|aG (by rw[dD];have:=E.len;lia);have R:=E.rep.perm<|b.append_right fr;exact(R.tail.addU (x:=none)).perm ((nM E.len a).append_right fr).symm;rw [cL<|eJ a,cL (by have:=E.len; lia)];exact E
def aHc{K}(hq:XQs X body q)(O:bHl X cn Cc)(B8:X.stack=X.env::X.outer)(De:X.env.frame=some X.env.locals)(a7:Gl X cn)(hN:X.N.Nodup)(hi:X.N[jn]? = some n)(hk:X.env.kindOf n=some .local)
  (hh:∀r,XSs (aRx X r) dQ (b₀::suite) K) (A6:U5 cn:=by decide) (hf:X.fn n=true\/X.env.scope.names.lookup n=some .local:=by first | exact .inl rfl | exact .inr rfl) :
  XSt X Ex (.Try body [.ExceptHandler (some<|.Name cn cp) (some n) (b₀::suite) hp] [] [] pos) (bIw (λc=>∃C,c=.ref C/\vB X.base C Cc) jn q K):=λF _ Aa s L H D I h=>by
 obtain⟨ρ,fr,d,E,t,k⟩:=h
 let Qe:Value->Hp->Prop:=λc A=>∃m,EOk F m L fr A/\(∃C,c=.ref C/\vB X.base C Cc)/\K (m.set jn<|vT<|.exc c) #[λg=>d.nx<|g.set jn .un,λs g=>d.rt s<|g.set jn .un,λg=>d.bk<|g.set jn .un,λg=>d.ct<|g.set jn .un]
 refine wpAny_Try_except<|wpAny_mono (hq Aa L Qe F [] s L H #[D.nx,λ_ _=>False,λ_ _=>False,λ_ _=>False] (Inv.inTry I) #[rfl,ρ,fr,d.nx,_,E,t,λi A m V Y B=>k.nx i A m V Y B,λc A m Y B=>#[m,Y,B]]) (λf G l=>?_) λe G l=>?_
 ·cases f with
  |next => obtain⟨i,A,I',B⟩:=l;exact wpAny_execs_nil #[i,A,Inv.outTry I',B]
  |brk=>obtain⟨_,_,_,B⟩:=l;exact B.elim
  |cont=>obtain⟨_,_,_,B⟩:=l;exact B.elim
  |ret u=>obtain⟨_,_,_,_,_,B⟩:=l;exact B.elim
 ·obtain ⟨r,c1,A,rfl,Z,a2,m,E1,⟨C,rfl,a5⟩,hK⟩:=l;have a4:X.A.frames=some (X.env::X.outer):=by rw[<-B8];exact Z.ok.frames
  refine b6 (nw:=NwT X Aa) (H:=A) a4 (by rw[<-B8];exact Z.stack) De (λT hT=>#[Heap.get?_none_of_le<|nzL Z.sz hT,λp hp z=>?_]) (λa ha=>Z.hok.fresh ha) a2 λJ S hS kx a0=>?_;obtain ⟨e1,_⟩:=Z.pin p hp;exact absurd (aS e1) (by rw[z];exact Nat.not_lt.mpr hT);have x:=Inv.noted (t':=G.toks) Z (by rw[B8];exact kx) hS;generalize hs2:({ G with heap:=J }:Shared)=s₂ at x ⊢;have a1:Air (NwT X Aa) s₂.heap A r<|.ref C:=by rw[<-hs2];exact a0
  obtain⟨nm,qn,N,bs,bm,b2,sn,f0,ab,c2,dd,k0,k1,k2,k3,k5,b0,hC,Cp⟩:=a5;obtain⟨tl,N',e6,e7,c0,Ir,e9,b4,b5,b1,c3,d0,d1,d3,e0,e3,e5,hD,J0,b3,T'⟩:=O.obj;obtain⟨nw,Mj,oe,vs,he,hc,hd,F8,c4,a3⟩:=a1;refine wpAny_handleBy_cons (codeAny_handlers_test<|ha_ (Inv.inExc x) a7 O.bound ?_ A6) (by intro z;cases z);obtain⟨N7,g2,d2,t2,Nb⟩:=s₂;refine rE (x.bk _ _ hC) (x.bk _ _ hD) he hc (T'.hasType PySem.F.excBase_ValueError.hasBase) Cp ?_;refine codeAny_handlers_suite_as ?_;have fl:∀{Q:Unit->Shared->Prop} {Y:hX},(∀y,Inv X Aa L A #[y,g2,d2,t2,Nb]->(∃o vs,y.get? r=some o/\o.cls=.ref C/\o.data=.fields vs/\o.dict=none)->Q () #[y,g2,d2,t2,Nb])->wpAny `d (X.A.mark<|some<|.ref r) (setFlight (.ref r) none) Q Y #[N7,g2,d2,t2,Nb]:=λ{Q Y} hQ=>by
   rcases a3 with a3 | ⟨T,oT,ts,a3,aT,aN,aH,hT,F0,y⟩
   refine wpAny_bind<|wpAny_field he hd a3 ?_;exact wpAny_pure<|hQ N7 x #[oe,vs,he,hc,hd,F8];refine wpAny_setFlight_none he hd a3 hT F0 y<|hQ _ ?_ #[oe,vs,?_,hc,hd,F8];refine Inv.noted (S:=[T]) (t':=t2) x (fun b o hb D0 => ?_) (fun b hb=>by rw [aF.mp hb]; exact #[aN,aH,oT,ts,hT,F0]);have n2:=λz=>D0<|aF.mpr z;have e2:=(bC N7 (Obj.mapFields (·.setIfInBounds 3 Value.none))<|Ne.symm n2).trans hb;exact#[λ_=>e2,o.slots,e2];exact(bC _ _ aT).trans he
  refine fl λy I3 Ab=>?_;obtain⟨o3,f1,Pa,a6,Lh,Pb⟩:=Ab;have I4:=Inv.caught I3 nw Mj Pa a6 Lh Pb;refine ka_ (X:=aRx X r) (v:=.ref r) (Inv.inExc I4) hN hi (.inl hk) rfl (λs5 I5 _=>?_) hf;have e4:Same A<|upd A r<|.ext<|v_ r<|.ref C:=hj_ Mj _;have E4:=E1.grow e4;have E5:EOk F (m.set jn<|vT<|.exc<|.ref C) (L.set jn<|some<|.ref r) fr<|upd A r<|.ext<|v_ r<|.ref C:=by refine ex_<|EOk.back E4.len<|E4.rep.add<|IsX.of_exc<|bB.mpr #[E1.rep.not_own Mj,(kQ<|E1.rep.fresh Mj).trans ?_];rw[bY];rfl
  have ends:DOk F (L.set jn<|some<|.ref r).length fr #[λi j=>D.nx (i.set jn none) j,λv j=>D.rt v j,λi j=>D.bk (i.set jn none) j,λi j=>D.ct (i.set jn none) j] #[λg=>d.nx<|g.set jn .un,λs g=>d.rt s<|g.set jn .un,λg=>d.bk<|g.set jn .un,λg=>d.ct<|g.set jn .un]:=by have V:(L.set jn<|some<|.ref r).length=L.length:=bJ;refine#[λi j g U J y=>k.nx _ j _ (by rw[bJ,U,V]) (jt_ J) y,λv s i j g U J y=>k.rt v s (i.set jn none) j _ (by rw[bJ,U,V]) (jt_ J) y,λi j g U J y=>k.bk _ j _ (by rw[bJ,U,V]) (jt_ J) y,λi j g U J y=>k.ct _ j _ (by rw[bJ,U,V]) (jt_ J) y]
  refine wpAny_mono (hh r F Aa s5 _ _ _ I5 #[_,fr,_,E5,hK,ends]) (λf s6 h6=>?_) λ_ _ z=>False.elim z;cases f with
  |next => obtain⟨i,j,M,W⟩:=h6;exact ht_ (Inv.outExc I4.ok M) hN hi hk λs7 R=>#[_,j,R,W]
  |brk => obtain⟨i,j,M,W⟩:=h6;exact ht_ (Inv.outExc I4.ok M) hN hi hk λs7 R=>#[_,j,R,W]
  |cont => obtain⟨i,j,M,W⟩:=h6;exact ht_ (Inv.outExc I4.ok M) hN hi hk λs7 R=>#[_,j,R,W]
  |ret u => obtain⟨v,i,j,M,rv,W⟩:=h6;exact ht_ (Inv.outExc I4.ok M) hN hi hk λs7 R=>#[v,_,j,R,rv,W]
end Lf
namespace PySem.W
open PySem PySem.Spec PySem.Calls PyProof.Rows
section
variable{prog:Program}{w:World}{A:Around}{E:hX}{s:Shared}{K:Frag}{x C D:Addr}{c:Obj}{f:Obj}{b:Option Obj}{name:Str}
def aFl{M}{nameV}{Q}(X:K.In s.heap)(I:InstAt s.heap x c D b)(h:mroIn K D (.type "BaseException")=some true)(m:Q () s):wpAny M A (checkBuiltinCall "BaseException.__getattribute__" #[[.ref x,nameV],[]]) Q E s:=by
 have l:builtinKind "BaseException.__getattribute__" = some .slot:=by decide +kernel
 have i:splitId "BaseException.__getattribute__" = some ("BaseException","__getattribute__"):=by decide +kernel
 have a:=I.type (M:=M);have e:=looks_mroIn (M:=M) X h;obtain⟨j,g,d,t,o⟩:=s;refine wpAny_bind ?_;refine wpAny_bind (a.at (e.at ?_))
 repeat (first | assumption | wp_step)
def aFk{Q}(X:K.In s.heap)(I:InstAt s.heap x c D b)(a:findIn K (.ref D) "__getattribute__" = some (some<|.builtin "BaseException.__getattribute__"))(q:findIn K (.ref D) "__getattr__" = some none)
  (r:mroIn K D (.type "BaseException")=some true) (e:mroIn K D (.type "object")=some true) (p:findObj K D b "__class__" = some (.bind (.builtin "getset_descriptor.__get__")<|.builtin "object.__class__"))
  (h:Q (some<|.ref D) { s with toks:=s.toks+1 }):wpAny `f A (getAttr? (.ref x) "__class__") Q E s:=by
 have i:=(F.excAttr_ValueError).ga;obtain⟨v,g,d,t,y⟩:=s;have j:=I.type (M:=model prog w);have l:=looks_findIn (M:=model prog w) X a;have m:=looks_findIn (M:=model prog w) X q;have o:=looks_find (M:=model prog w) X I p;have u:=i.bind<|.ref x;refine wpAny_bind (wpAny_mkText (wpAny_bind (wpAny_attempt (wpAny_holding (wpAny_bind (j.at (wpAny_bind (l.at ?_))))))));refine wpAny_bind (m.at (wpAny_bind<|wpAny_attempt<|wpAny_holding ?_));unfold callGetattribute
 repeat (any_goals (first | assumption | wp_step))
 refine codeAny_call_builtin i.plain F.entry_bexc_ga<|aFl X I r ?_
 repeat (any_goals (first | assumption | with_reducible refine wpAny_bind (j.at ?_) | with_reducible refine wpAny_bind (o.at ?_) | wp_step))
 refine class_get X I e ?_
 repeat (any_goals (first | assumption | wp_step))
def kitx_exc(r:excKit K D=true):KitX K (.ref x) (.ref D) (λh=>∃c,InstAt h x c D none):=by
 simp only[excKit,cM,beq_iff_eq]at r;obtain⟨⟨⟨⟨⟨⟨B,F⟩,p⟩,G⟩,H⟩,R⟩,S⟩:=r;have t:∃i,clsIn K D=some i:=by obtain⟨i,a,_⟩:=bR.mp p;exact#[i,a]
 obtain⟨v,g⟩:=t;have J:findObj K D none "__class__" = some (.bind (.builtin "getset_descriptor.__get__")<|.builtin "object.__class__"):=by unfold findObj;rw[g,Option.bind_some,H,Option.bind_some];exact Option.mem_def.mp rfl
 refine#[λ_ _ _ ⟨c,I⟩=>I.type,λ_ _ X _=>?_,λh W Q L n U X m=>?_,λ{_ _ _ _ _ _} X ⟨c,I⟩ k=>aFk X I B F p G J k];unfold clsIn at g;split at g;rename_i u y j o l;intro M O N T k q;exact wpAny_bind<|wpAny_loadPart (k _ _<|X _ _ l)<|wpAny_pure q;cases g;refine Bool.eq_false_iff.mpr fun q => ?_;have e:=Value.ref.inj<|beq_iff_eq.mp q;subst e;unfold clsIn at g;split at g;rename_i u y j o l;have z:=(X _ _ l).symm.trans m;cases z;cases g
end
end PySem.W
namespace Lf
open PySem L2
open PySem.W (Frag nsIn)
section
variable{K:Frag}{h:Heap}
def tR(e:wX K N n=true)(X:K.In h):∃m,h.Ns N m/\m n=none:=by unfold wX at e;split at e;rename_i c d f j l q;obtain⟨g,b⟩:=gD.mp e;refine#[nsFind f,#[_,f,j,X _ _ q,rfl,λi a=>?_,λ_=>rfl],?_];have:=List.all_eq_true.mp g i (by simpa using a);split at this;grind;cases this;unfold nsFind findBy;rw[<-Array.find?_toList];rw[Option.isNone_iff_eq_none]at b;rw[b];rfl;cases e
def pJ:∀(k:Nat) (l:S8),gO K k l=true->K.In h->OwnTail h veM l
  | 0, l, e, X => by
    have:l=veM:=by simpa [gO]using e
    rw[this];exact .base
  | k + 1, [], e, X => by
    have:([]:S8)=veM:=by simpa [gO]using e
    rw[this];exact .base
  | k + 1, v :: r, e, X => by
    cases v with
    | ref A =>
      unfold gO at e;split at e
      . rename_i c d o p q;obtain⟨a,f⟩:=gD.mp e;obtain⟨m,g,j⟩:=tR a X;exact .own (X _ _ q) g j (pJ k r f X)
      . cases e
    | none => have : Value.none :: r = veM := by simpa [gO] using e
              cases this
    | bool b => have : Value.bool b :: r = veM := by simpa [gO] using e
                cases this
    | int i t => have : Value.int i t :: r = veM := by simpa [gO] using e
                 cases this
    | str x t => have : Value.str x t :: r = veM := by simpa [gO] using e
                 cases this
    | bytes x t => have : Value.bytes x t :: r = veM := by simpa [gO] using e
                   cases this
    | float x t => have : Value.float x t :: r = veM := by simpa [gO] using e
                   cases this
    | builtin x => have : Value.builtin x :: r = veM := by simpa [gO] using e
                   cases this
    | type T => have : Value.type T :: r = veM := by simpa [gO] using e
                rw[this];exact .base
    |_=>first | (simp[gO]at e;done) | (exfalso;revert e;simp[gO])
def uO{C}{x}{mg}(e:nH K C=true)(A:mg x=some (.ref C))(X:K.In h):PyProof.Rows.OwnCls x C veM "ValueError.__new__" mg h:=by
 unfold nH at e;split at e;rename_i t b a q;obtain⟨f,_⟩:=gD.mp e;split at f;rename_i E j r;simp only[cM,beq_iff_eq]at f;obtain⟨⟨⟨⟨⟨rfl,u⟩,c⟩,v⟩,y⟩,z⟩:=f;obtain⟨m,l,p⟩:=tR y X;have o:a = [a.getD 0 none,a.getD 1 none,a.getD 2 none,a.getD 3 none,some<|.builtin "ValueError.__new__",a.getD 5 none].toArray:=by
  apply Array.ext_getElem?;intro i
  match i with
  | 0=>simp[c]
  | 1=>simp[c]
  | 2=>simp[c]
  | 3=>simp[c]
  | 4=>simp[v]
  | 5=>simp[c]
  |i+6=>rw[Array.getElem?_eq_none (by rw[c];lia),Array.getElem?_eq_none `g]
 refine#[A,j,b.ns,b.name,b.qualname,b.bases,b.hasDict,b.slotNames,b.subclasses,b.abstract,b.collection,t,a.getD 0 none,a.getD 1 none,a.getD 2 none,a.getD 3 none,a.getD 5 none,m,?_,l,p,pJ 4 j z X];have:=X _ _ q;rw[this];obtain⟨nm,bs,B,H,I,G,J,D,F,s,g⟩:=b;subst r u;unfold excClassObj;rw[<-o];cases f;cases e
def aGb(e:nH K C=true):PySem.W.excKit K C=true:=by unfold nH at e;split at e;exact(gD.mp e).2;cases e
def i7(e:nH K C=true)(b:aEd K C D=true)(X:K.In h):vB h C D:=by obtain⟨_,v,N,nm,q,bs,a,u,g,j,f,l,m,o,p,r,s,z,i,_⟩:=uO (x:= "x") (mg:=λ_=>some<|.ref C) e rfl X;refine#[nm,q,N,bs,v,a,u,g,j,f,l,m,o,p,r,s,_,i,?_];unfold aEd at b;split at b;rename_i c d y A t;have:=X _ _ t;rw[i]at this;cases this;exact b;cases b
end
def isC(K:Frag)(c:Value):Dx->Option Bool
 | .non=>PySem.W.kitOne K (.type "NoneType") c
 | .exc (.ref C)=>if PySem.W.excKit K C=true then PySem.W.kitOne K (.ref C) c else none
 |_=>none
def aLw(K:Frag)(cs:S8):Dx->Option Bool
 | .non=>PySem.W.kitAny K (.type "NoneType") cs
 | .exc (.ref C)=>if PySem.W.excKit K C=true then PySem.W.kitAny K (.ref C) cs else none
 |_=>none
def aOw(f:Dx->Option Bool)(t:XT):XT:=λc Q=>t c λs a=>match f s.d with
 |some b=>Q (.tr<|.bl b) a
 |none=>False
def g7(I:Inv X Aa i H s)(h:H a=some (.ext<|v_ a<|.ref C)):∃g,PySem.W.InstAt s.heap a g C none:=by obtain⟨⟨o,j,b,c,e,f⟩,_⟩:=(I.hok a _ h);refine#[o,b,c,?_,?_];unfold PySem.W.notCls;rw[e];rw[f];trivial
def aNi(hv:∀u,RelV j u->u=c):CallR X (.builtin "isinstance") (λxs H Q=>∃x d b,xs=[x,j]/\IsX H d x/\isC X.K c d=some b/\Q (.bl b) H):=by
 intro p s y H xs t Q I r h;obtain⟨x,d,b,rfl,g,f,q⟩:=h;obtain⟨u,v,rfl,i,o⟩:=sY r;cases hv _ o;cases d with
 |non=>cases g.non_eq;cases(i);exact PySem.W.kia_one PySem.W.kitx_none I.kIn True.intro f (λz=>nomatch z) (λtk=>⟨.bl _,H,I.tok _,rfl,q⟩)
 |exc e =>
  cases e with
  |ref C => simp only[isC]at f;split at f;rename_i m;obtain⟨a,rfl,l⟩:=g.exc_eq;cases(i);exact PySem.W.kia_one (PySem.W.kitx_exc m) I.kIn (g7 I l) f (λz=>nomatch z)<|λtk=>#[.bl _,H,I.tok _,rfl,q];cases f
  |_=>cases f
 |_=>cases f
def aGj(hv:∀us,Vals vcs us->us=cs):CallR X (.builtin "isinstance") (λxs H Q=>∃x d b p,xs=[x,.ref p]/\IsX H d x/\H p=some (.tup vcs)/\aLw X.K cs d=some b/\Q (.bl b) H):=by
 intro G s O H xs us Q I r h;obtain⟨x,d,b,p,rfl,j,D,c,q⟩:=h;obtain⟨u,N,rfl,l,E⟩:=sY r;cases E;obtain⟨_,f,F,o,i,y,L,A⟩:=(I.hok p _ D);have t:=hv f F;subst t;obtain⟨m,J,g,M⟩:=o;subst y A;cases d with
 |non=>cases j.non_eq;cases(l);exact PySem.W.kia_tup PySem.W.kitx_none I.kIn True.intro i c (λz=>nomatch z) (λtk=>⟨.bl _,H,I.tok _,rfl,q⟩)
 |exc e =>
  cases e with
  |ref C => simp only[aLw]at c;split at c;rename_i B;obtain⟨a,rfl,v⟩:=j.exc_eq;cases(l);exact PySem.W.kia_tup (PySem.W.kitx_exc B) I.kIn (g7 I v) i c (λz=>nomatch z)<|λtk=>#[.bl _,H,I.tok _,rfl,q];cases c
  |_=>cases c
 |_=>cases c
def aHj{p q pos}(K:Frag)(A:X.mg "isinstance" = none)(h:XE X Ex e t)(r:PE X (.Name nm q)<|tC i)(hv:∀u,RelV i u->u=c)(o:X.K=K:=by rfl)(z:Gl X "isinstance":=by rfl)
  (g:starEach [e,.Name nm q] X.env=(false,eval e X.env)::starEach [.Name nm q] X.env:=by rfl) (l:starEach [.Name nm q] X.env=(false,eval (.Name nm q) X.env)::starEach [] X.env:=by rfl) (j:(backTo pos<|starEach [.Name nm q] X.env).any (·.1)=false:=by rfl):XE X Ex (.Call (.Name "isinstance" p) [e,.Name nm q] [] pos)<|aOw (isC K c) t:=λF=>by
 subst o;exact(ew_ (aNi hv) z A dq_ (lK (h F) (lK r i4 l) g) `b rfl g j).weak λG H Q=>by rintro⟨C,fr,D,E,t,k⟩;refine#[C,fr,_,E,t,λv s m a f q=>?_];obtain⟨R,B⟩:=f.one;split at q;rename_i b y;exact#[v,s.d,b,rfl,B.to R.hv,y,k _ _ m a (EOk.back f.len<|R.add<|IsX.of_bl _) q];exact q.elim
def aOo{p q3 pos}{j}(K:Frag)(B:X.mg "isinstance" = none)(h:XE X Ex e t)(y:PA X c ta)(D:∀m H Q,Q a H->ta m H Q)(hv:∀us,Vals a us->us=cs)(L:a.length<=1000)(u:X.K=K:=by rfl)(A:Gl X "isinstance":=by rfl)
  (l:starEach [e,.Tuple c j q3] X.env=(false,eval e X.env)::starEach [.Tuple c j q3] X.env:=by rfl) (r:starEach [.Tuple c j q3] X.env=(false,eval (.Tuple c j q3) X.env)::starEach [] X.env:=by rfl)
  (o:(backTo pos<|starEach [.Tuple c j q3] X.env).any (·.1)=false:=by rfl):XE X Ex (.Call (.Name "isinstance" p) [e,.Tuple c j q3] [] pos)<|aOw (aLw K cs) t:=λF=>by
 subst u;exact(ew_ (aGj hv) A B dq_ (lK (h F) (lK (qG y) i4 r) l) `b rfl l o).weak λm H Q=>by rintro⟨I,fr,J,E,t,k⟩;refine#[I,fr,_,E,t,λv s i f g q=>D _ _ _ #[by have:=iM;lia,λp C=>?_]];obtain⟨R,G⟩:=g.one;have e:Same i<|upd i p<|.tup a:=hj_ C _;have R2:=R.grow e;split at q;rename_i b z;exact#[v,s.d,b,p,rfl,(G.to R.hv).to e,bY,z,k _ _ _ f (EOk.back g.len<|R2.add<|IsX.of_bl _) q];exact q.elim
end Lf
namespace L2
open PySem PySem.Spec PySem.SeqAt PySem.AutoSeq1 PySem.MeetsSeq PyProof.Rows
end L2
namespace L2
open PySem PySem.Spec PySem.SeqAt PyProof.Rows
end L2
namespace Lf
open PySem L2
open PySem.W (Frag nsIn)
def aZp(K:Frag)(ns:S4)(n:Str):OX:=match mH K n with
 |some C=>(nH K C,ns.map (λm=>match mH K m with | some D=>(PySem.W.kitOne K (.ref C)<|.ref D,aEd K C D) | none=>(none,false)),PySem.W.kitOne K (.ref C)<|.type "ValueError",PySem.W.kitOne K (.type "NoneType")<|.ref C)
 |none=>(false,[],none,none)
def aQq(K:Frag)(ns:S4):bEw K ns=ns.map (aZp K ns):=rfl
structure ClsX(K:Frag)(mg:mI)(n:Str)(C:Addr):Prop where
 at':mH K n=some C
 m:mg n=some (.ref C)
 ok:nH K C=true
def ln_(e:aZp K ns n=(true,l,a,b))(X:K.In h)(G:h.Ns mainGlobals mg):∃C,ClsX K mg n C/\l=ns.map (λm=>match mH K m with | some D=>(PySem.W.kitOne K (.ref C)<|.ref D,aEd K C D) | none=>(none,false))/\PySem.W.kitOne K (.ref C) (.type "ValueError")=a/\PySem.W.kitOne K (.type "NoneType") (.ref C)=b:=by
 unfold aZp at e;cases c:mH K n with
 |none=>rw[c]at e;simp at e
 |some C => rw[c]at e;simp only[Prod.mk.injEq]at e;obtain⟨f,g,i,j⟩:=e;refine#[C,#[c,?_,f],g.symm,i,j];unfold mH at c;split at c;rename_i p o;cases c;exact PySem.W.mg_of X G o;cases c
def ClsX.own(x:ClsX K mg n C)(X:K.In base):PyProof.Rows.OwnCls n C veM "ValueError.__new__" mg base:=uO x.ok x.m X
def aHt(t:XT):XT:=λb Q=>t b λs a=>match s.d with
 | .int i=>Q (.tr<|.int<|-i) a
 |_=>False
def m7(h:XE X Ex e t):XE X Ex (.UnaryOp .USub e pos)<|aHt t:=λF=>(aTr aIe<|h F).weak λm H Q=>by rintro⟨j,fr,l,E,t,k⟩;refine#[j,fr,_,E,t,λv s f a b q=>?_];split at q;rename_i i g;obtain⟨R,c⟩:=b.one;rw[g]at c;cases c.int_eq;exact#[i,rfl,k _ _ f a (EOk.back b.len<|R.add<|IsX.of_int _) q];exact q.elim
def aPl:S1->S3->S9
 |d::ds,v::vs=>(.v<|.tr d,some v)::aPl ds vs
 |_,_=>[]
end Lf
namespace L2
open PySem PySem.Spec PyProof.Rows
end L2
namespace Lf
open PySem L2
def sgX(x:Str):S1:=x.cps.toList.map λc=>.str #[[c].toArray]
def aIs{i:Nat}(h:(sgX x)[i]? = some d):∃c,x.cps[i]? = some c/\d=.str #[[c].toArray]:=by unfold sgX at h;rw[bK]at h;obtain⟨c,a,b⟩:=dO.mp h;exact#[c,by simpa using a,b.symm]
def aRd{F}{x}:ItX F (Its x) [] (sgX x)where
 go:=λP H i d R b=>by obtain⟨c,a,_⟩:=aIs b;exact(Array.getElem?_eq_some_iff.mp a).1
 stop:=λP H i R e=>by unfold sgX at e;rw[aA,Array.length_toList]at e;exact e
 yld:=λP H i d y g R b q=>by obtain⟨rfl,c,a,rfl⟩:=q;obtain⟨h,f,rfl⟩:=aIs b;rw[a]at f;cases f;exact R.add<|IsX.of_str _
def xiS(t:XT):XI:=λb Q=>t b λs a=>match s.d with
 | .str z=>Q (sgX z) a
 |_=>False
section
variable{f l a b:Expr}{t o m:XT}{x:Str}{p e:Pos}
def aHe(h:XE X Ex l t):XIt X Ex f l<|xiS t:=λF=>(aWo<|h F).weak λB H R=>by rintro⟨y,fr,A,E,t,k⟩;refine#[y,fr,_,E,t,λv s j c g q=>?_];split at q;rename_i z u;obtain⟨r,i⟩:=g.one;rw[u]at i;cases i.str_eq;exact#[z,rfl,k _ j c [] _ #[g.len,r] aRd q];exact q.elim
def bFq(c:Bool):G2
 | .str i,.str j,Q=>Q (.tr (.bl (if c then !(!(Builtin.Str.occurrences j i 0 j.length 1).isEmpty)else !(Builtin.Str.occurrences j i 0 j.length 1).isEmpty)))
 |_,_,_=>False
def aWz:OpX (λx y H Q=>∃i j,x=.str i/\y=.str j/\Q (.bl<|!(Builtin.Str.occurrences j i 0 j.length 1).isEmpty) H)<|bFq false:=by intro F P H a b x y Q q R c h g k;unfold bFq at g;split at g;cases c.str_eq;cases h.str_eq;exact#[_,_,rfl,rfl,k _ _ H (R.add<|IsX.of_bl _) g];exact g.elim
def aHk(h:Gl X x)(c:∃t,X.mg x=some (.str i t))(g:U5 x:=by decide):XE X Ex (.Name x e)<|xC<|.str i:=by obtain⟨t,c⟩:=c;exact aEa (ev_ (v:=.str i) h c #[t,rfl] g) _ λ_=>IsX.of_str _
def bDc(vs:S3)(t:XT):XT:=λg Q=>t g λs c=>match scV s.d with
 |some v=>Q (.tr<|.bl<|inV v vs) c
 |none=>False
def bFr(z:vs.all kC=true)(A:∀H,SqT K H c vs):∀i H Q,tX F (bDc vs t) i H Q->tOp (rIn K false) (tX F t) (tC<|.ref c) i H Q:=by rintro i H Q ⟨C,fr,D,E,q,k⟩;refine#[C,fr,_,E,q,λv s y h j g=>?_];split at g;rename_i u r;obtain⟨R,B⟩:=j.one;cases kd_ B r;exact#[c,vs,rfl,.inr<|A _,nY r,z,k _ _ y h (EOk.back j.len<|R.add<|IsX.of_bl _) g];exact g.elim
def aUt(K:dN)(vs:S3)(ha:XE X Ex a t)(r:Gl X x)(g:∃c,X.mg x=some (.ref c)/\∀H,SqT K H c vs)(q:vs.all kC=true:=by decide)(j:U5 x:=by decide)(i:behindInMarks .In (.Name x p)=false:=by with_unfolding_all rfl)(h:X.K=K:=by rfl) :
  XE X Ex (.Compare a [.In] [.Name x p] e) (bDc vs t):=λF=>by
 obtain⟨c,g,s⟩:=g;exact(aBn (aKk (h:=h)) (ha F) (ev_ (v:=.ref c) r g rfl j) i).weak<|bFr q s
end
def bCz(t:XT)(i:Nat):XT:=λb Q=>t b λk a=>match c_ k.d,a[i]? with
 |some kk,some (.v<|.od l)=>Q (.tr<|.bl (gU l kk).isSome) a
 |_,_=>False
section
variable{F:Fm}{i:Nat}{t:XT}{x:Str}{a b e:Expr}{p c:Pos}
def bEm:∀o H Q,tX F (bCz t i) o H Q->bDu (tX F t) (fO i) o H Q:=by
 rintro o H Q ⟨D,fr,G,E,q,k⟩;refine#[D,fr,_,E,q,λw s u m f g=>?_];split at g;rename_i r l z y;obtain⟨R,C⟩:=f.one;obtain⟨p,J,hv,B,A,_⟩:=rG f.drop y;cases ld_ C z;refine#[.ref p,hv,p,_,rfl,DGet.rd (k:=r)<|.inl B,k _ _ u m (EOk.back f.len<|R.add ?_) g];rcases hx_ (k:=r) A with⟨h,j⟩ | ⟨I,v,h,j,L⟩
 rw[h,j];exact IsX.of_bl _;rw[h,j];exact IsX.of_bl _;exact g.elim
def aGz(j:X.A.units+1<cLine)(f:XE X Ex b t)(hv:PE X (.Name x p)<|fO i)(g:behindInMarks .In (.Name x p)=false):XTe X Ex (.Compare b [.In] [.Name x p] c)<|xB<|bCz t i:=λF=>(aWf (aKf j (f F) hv) g).weak<|ig_ λl H Q h=>bEm l H Q h
end
def cs_{G K}{ρ}{D}(M:En->Prop)(a:∀ρ',M ρ'->K ρ' D)(b:∀nx:En->Prop,(∀ρ',M ρ'->nx ρ')->G ρ { D with nx:=nx }):cX G K ρ D:=b _ a
end Lf
namespace L2
open PySem PySem.Spec PyProof.Rows
end L2
namespace Lf
open PySem L2
def adT:G2
 | .tup l,.tup m,Q=>l≠[]/\l.length+m.length<=1000000/\Q (.tr<|.tup<|l++m)
 |_,_,_=>False
def aQf:OpX (aTm K) adT:=by intro F P H a b x y Q v R i r g k;unfold adT at g;split at g;obtain ⟨j,A,h⟩:=g;obtain⟨p,t,rfl,m,c⟩:=i.tup_eq;obtain⟨q,u,rfl,o,f⟩:=r.tup_eq;refine#[p,q,t,u,rfl,rfl,SqT.of<|R.hv _ _ m,SqT.of<|R.hv _ _ o,λz=>j ?_,by rw[c.len,f.len];have:=iM;lia,λe=>k _ _ H (R.add ?_) h,λ_ l s=>k _ _ _ (R.newT s<|All2.app f c) h];have:=c.len;rw[z]at this;exact List.eq_nil_of_length_eq_zero this.symm;have:=f.len;rw[e]at this;rw[List.eq_nil_of_length_eq_zero this.symm,aP];exact i;exact g.elim
section
variable{a b e:Expr}{r o t:XT}{f g:Option Expr}{i j:XO}{w c:Pos}
def aAk(K:dN)(ha:XE X Ex a r)(l:XE X Ex b o)(h:X.K=K:=by rfl):XE X Ex (.BinOp a .Add b c)<|xOp adT r o:=by subst h;exact lQ aQi aQf ha l
def bIy(t:XT)(f g:XO):XT:=λs Q=>t s λa m=>f m λl p=>g p λh q=>match a.d with
 | .tup xs=>¬(HT.sIx xs.length 0 l=0/\HT.sIx xs.length xs.length h=xs.length)/\Q (.tr<|.tup<|iY xs l h) q
 |_=>False
def aDw(K:dN)(M:XE X Ex e t)(O:XOp X Ex f i)(N:XOp X Ex g j)(h:X.K=K:=by rfl):XE X Ex (.Subscript e (.Slice f g none w) c)<|bIy t i j:=λF=>by refine(qH aVs (M F) (O F)<|N F).weak λV H Q=>?_;rintro⟨Y,fr,x,E,t,k⟩;refine#[Y,fr,_,E,t,λv s Z A I q=>#[A,_,_,I,q,λl d B J U=>#[B,_,_,J,U,λu n C D y=>?_]]];obtain⟨R,G⟩:=D.one;split at y;rename_i m S;rw[S]at G;obtain⟨a,W,rfl,L,z⟩:=G.tup_eq;refine#[a,W,rfl,SqT.of<|R.hv _ _ L,by rw[z.len];exact y.1,λp T=>k _ _ _ C (EOk.back D.len<|R.newT T ?_) y.2];unfold w5 iY;rw[z.len];exact(z.drop _).take _;exact y.elim
end
def nst:Expr->Bool
 | .Starred _ _=>false
 |_=>true
def bDx(h:nst e=true):starEach (e::es) env=(false,eval e env)::starEach es env:=by cases e<;>first | rfl | cases h
def aHq(h:XE X Ex e t)(h':XAs X Ex es u)(a:nst e=true:=by rfl):XAs X Ex (e::es)<|bI t u:=hU h h'<|bDx a
structure Bx(p:Prop):Prop where
 out:p
section
variable{a b c e o k v l:Expr}{m:T6}{t w s B tk y:XT}{u:XA}{f p D:Pos}{x:Str}{i j:Nat}
def mX{i}:Bx<|XE X Ex (.Constant (.int i) j f)<|xC<|.int i:=#[cQ]
def aUo{b}:Bx<|XE X Ex (.Constant (.bool b) j f)<|xC<|.bl b:=#[j7]
def bBt:Bx<|XE X Ex (.Constant .none j f)<|xC .non:=#[mJ]
def bBs:Bx<|XE X Ex (.Constant (.str x) j f)<|xC<|.str x:=#[jR]
def lq_(h:PE X (.Name x f)<|fO i):Bx<|XE X Ex (.Name x f)<|cA i:=#[aHg h]
def x_(h:Bx<|XE X Ex e t):Bx<|XE X Ex (.UnaryOp .USub e f)<|aHt t:=#[m7 h.out]
def aNm(h:Bx<|XAs X Ex m u):Bx<|XE X Ex (.Tuple m j f)<|nJ u:=#[kG h.out]
def bBv(h:Bx<|XAs X Ex m u):Bx<|XE X Ex (.List m f)<|lB u:=#[kF h.out]
def bBw(ha:Bx<|XE X Ex a w)(g:Bx<|XE X Ex b s):Bx<|XE X Ex (.BinOp a .Add b f)<|xOp aAa w s:=#[lN ha.out g.out]
variable{E F:Option Expr}{z A:XO}
def y_:Bx<|XAs X Ex [] cG:=#[jK]
def co_(h:Bx<|XE X Ex e t)(h':Bx<|XAs X Ex m u)(g:nst e=true:=by rfl):Bx<|XAs X Ex (e::m)<|bI t u:=#[aHq h.out h'.out g]
variable{r:R2}{g:G2}{op:CmpOp}{C uc:XC}{rest:T6}
variable{st:Stmt}{q as bs:List Stmt}{G K:XS}
def bBm(h:Bx<|XE X Ex e t):Bx<|XSt X Ex (.Return (some e) f)<|lT t:=#[dT h.out]
def dz_(h:Bx<|XSt X Ex st G):Bx<|XSs X Ex [st] G:=#[cP h.out]
def x5(h:Bx<|XSt X Ex st G)(h':Bx<|XSs X Ex q K):Bx<|XSs X Ex (st::q)<|cX G K:=#[cE h.out h'.out]
end
end Lf
namespace L2
open PySem PySem.Spec PySem.SeqAt PySem.AutoSeq1 PySem.MeetsSeq PyProof.Rows
end L2
namespace Lf
open PySem L2
end Lf
namespace L2
open PySem PySem.Spec PySem.SeqAt PyProof.Rows
def bEf(K:dN)(e:Bool):R2:=λx y H Q=>∃(p b:Addr) (a c:List Bool),x=.ref p/\y=.ref b/\SqL K H p (a.map V.bl)/\SqL K H b (c.map V.bl)/\a.length=c.length/\Q (.bl (if e then !decide (a=c)else decide (a=c))) H
def pE:∀{xs:List Bool} {us},Vals (xs.map V.bl) us->us=xs.map Value.bool
 | [],_,h=>by cases h;rfl
 |x::xs,_,h=>by
  cases h with
  |cons a rb=>rw[pE rb];cases a;rfl
def pD:∀{as:T4} {us},Vals (as.map V.ref) us->us=as.map Value.ref
 | [],_,h=>by cases h;rfl
 |x::xs,_,h=>by
  cases h with
  |cons a rb=>rw[pD rb];cases a;rfl
def j5:∀{xs ys:List Bool},xs.length=ys.length->(List.range xs.length).all (λj=>xs.getD j false == ys.getD j false)=decide (xs=ys):=by
 intro xs ys h;by_cases e:xs=ys;subst e;simp;rw [dzF e,List.all_eq_false];have:∃j,j<xs.length/\xs.getD j false≠ys.getD j false:=by apply Classical.byContradiction;intro c;apply e;refine List.ext_getElem? λj=>?_;by_cases a:j<xs.length;have:xs.getD j false=ys.getD j false:=Classical.byContradiction fun z=>c #[j,a,z];rw[aU,aU,aG a,aG<|eI a h]at this;rw[aG a,aG<|eI a h];exact congrArg some this;rw[fM<|eJ a,fM `a]
 obtain⟨j,a,b⟩:=this;exact#[j,cR.mpr a,by simpa using b]
def aSb{xs ys:List Bool}:∀(j:Nat) (a:j<(xs.map Value.bool).toArray.size) (b:j<(ys.map Value.bool).toArray.size),SeqAt.EqAt A s (xs.map Value.bool).toArray[j] (ys.map Value.bool).toArray[j]<|xs.getD j false == ys.getD j false:=by
 intro j a b;have c:j<xs.length:=by simpa using a
 have e:j<ys.length:=by simpa using b
 rw[List.getElem_toArray,List.getElem_toArray,List.getElem_map,List.getElem_map,aU,aU,aG c,aG e];exact SeqAt.EqAt.bool_bool _ _
end L2
namespace Lf
open PySem L2
def eqB(f:Bool):G2:=λa b Q=>∃c e:List Bool,a=.lst (c.map Dx.bl)/\b=.lst (e.map Dx.bl)/\c.length=e.length/\Q (.tr (.bl (if f then !decide (c=e)else decide (c=e))))
def x8:∀{xs:List Bool} {vs},All2 (IsX G) (xs.map Dx.bl) vs->vs=xs.map V.bl
 | [],_,h=>h
 |x::xs,_,⟨v,vr,e,h1,h2⟩=>by rw[e,x8 h2,h1.bl_eq];rfl
def aKg:OpX (bEf K neg)<|eqB neg:=by intro F P H a b x y Q s R c e g k;obtain⟨q,r,rfl,rfl,f,g⟩:=g;obtain⟨p,t,rfl,i,j⟩:=c.lst_eq;obtain⟨h,o,rfl,l,m⟩:=e.lst_eq;cases x8 j;cases x8 m;exact#[p,h,q,r,rfl,rfl,SqL.of<|R.hv _ _ i,SqL.of<|R.hv _ _ l,f,k _ _ H (R.add<|IsX.of_bl _) g]
end Lf
namespace L2
open PySem PySem.Spec PyProof.Rows
end L2
namespace Lf
open PySem L2
end Lf
namespace L2
open PySem PySem.Spec PyProof.Rows Builtin Builtin.Str
end L2
namespace Lf
open PySem L2
def kr_:∀{l:S1},jS (l.map Ow.tr)=[]
 | []=>by simp only[fC,jS]
 |d::r=>by simp only[bQ,jS,Ow.fp,kr_,bZ]
def wR:∀{l} {vs},All2 (IsX G) l vs->OwOks G H (l.map Ow.tr) vs
 | [],_,h=>by simp only[fC,OwOks];exact h
 |d::r,_,⟨v,vr,e,h1,h2⟩=>by simp only[bQ,OwOks,OwOk];exact#[v,vr,e,h1,wR h2]
def aBs:∀{l},wN (l.map Ow.tr)=l
 | []=>by simp only[fC,wN]
 |d::r=>by simp only[bQ,wN,Ow.d,aBs]
def aOy(g:GC)(i:Nat)(u:XA):XT:=λc Q=>(∃s,c[i]? = some (.v s))/\u c λe a=>match a[i]? with
 |some (.v s)=>g (s.d::e.map Sv.d) λr=>∃b,r=.tr (.bl b)/\Q (.tr<|.bl b) a
 |_=>False
def aDz{p pos}(C:Cal X.prog X.w X.K X.mg X.base j x ps<|spX g)(m:Room j X.A)(hv:PE X e<|fO i)(ha:XAs X Ex f u)(T:Gl X x:=by rfl)(J:U5 x:=by decide)
  (I:U7 X e f:=by rfl) (L:U8 X pos f:=by rfl):XE X Ex (.Call (.Name x p) (e::f) [] pos)<|aOy g i u:=λF=>(qJ C m (lK hv (ha F) I) T J I L).weak λy H Q=>by
 rintro⟨n,fr,Qx,E,⟨⟨s0,N⟩,t⟩,k⟩;obtain⟨v,h,hi,M⟩:=uY E N;obtain⟨w,rfl,_⟩:=M.head;refine#[w,h,n,fr,_,E,t,λd Z B a U l o=>?_];split at o;rename_i s G;obtain⟨R,W⟩:=l.many U;obtain⟨v2,D,V,R2⟩:=uY #[l.len,R] G;rw[h]at D;cases D;obtain⟨w',e,Y⟩:=R2.head;cases e;rw[aP];have O:(bD<|a.zip y++fr).Perm<|bD ((.v s,some w)::((a.zip y).eraseIdx i++fr)):=((bv_ G h).append_right fr).flatMap_right _;refine#[_,s.d::Z.map Sv.d,_,R2.tail.hv,#[w,d,rfl,Y,W.imp λ_ _ z=>z.to<|lF λc S=>O.mem_iff.mpr (by rw[iT];exact aJ _ S)],o,λr v A e m q=>?_];obtain ⟨b,rfl,q⟩:=q;cases(IsX.bl_eq (H:=ext (hid (bD<|(a.zip y).eraseIdx i++fr)<|F.vis B) B A) m);exact k _ _ A a (EOk.back l.len<|(R.grow e).add<|IsX.of_bl _) q;exact o.elim
def vU(g:GB):Sp:=λb H Q E=>∃a p,b=[a,p]/\spB g [p,a] H Q E
def vS(N:S4)(l:S1)(d:Dx):En:=.v (.tr d) :: .bw l::List.replicate (N.length-2) .un
def mF(Q:Dx->S1->Prop)(d:Dx)(ρ:En):Prop:=match (ρ[1]? : Option Sl)with
 |some (.bw l)=>Q d l
 |_=>False
abbrev aTj(Q:Dx->S1->Prop):XD:=#[λa=>mF Q .non a,λs a=>mF Q s.d a,λ_=>False,λ_=>False]
def bGn(J:Fun K x x st f fd)(S:FnScope N ps<|aQ st)(F:∀l ds Q,g l ds Q->ds.length=1)(L:ps.length=2)(hN:2<=N.length)
  (I:∀ (t:Value) (A:Around) (c:List Env) (s:Shared) (H:Hp) (E:XK),Room k (A.deeper<|PyProof.Rows.envOfC x (aQ st) s.heap.objs.size f t) →
   ∃G,XSs (jT CX0 P w K mg base N x (aQ st) f t A c s H E).nox dQ (fB st) G/\∀l d Q,g l [d] Q->G (vS N l d) (aTj Q)):FnOk P w K mg base CX0 (k+1) f fd ps<|vU g:=by
 refine J.ok S (λvs H Q E h=>?_)<|λt A c s H vs Q E hr h=>?_;obtain ⟨a,p,rfl,_⟩:=h;rw[L];rfl;obtain⟨va,vp,rfl,p,ws,l,vr,y,ds,u,M,n,z,Ev,Z,T,B,U⟩:=h;cases M;obtain⟨G,W,hq⟩:=I t A c s H E hr;obtain⟨d,rfl⟩:=List.length_eq_one_iff.mp<|F l ds u B;obtain⟨_,_,O,Y,_⟩:=T;cases O;have D:∀b∈[p],y b=none:=by grind
 have C:∀b∈[p],∃o,H b=some o:=by grind
 have r:∀{d:Dx} {v:V} {i:St} {m:Hp} {e:En},EOk #[H,y,[p],z,D,C] e i ((vT d,some v)::[]) m->mF u d e->Q v m:=λ{d v i m e} j q=>by unfold mF at q;split at q;rename_i l' R;exact c7 U j R q;exact q.elim
 refine#[_,W #[H,y,[p],z,D,C],vS N l d,[],aTj u,#[?_,?_],hq l d u B,#[λi m e _ j q=>r (EOk.back j.len<|j.rep.add (d:=.non) (v:=.non) IsX.of_non) q,λv s i m e _ j q=>r (EOk.back j.len j.front.frz) q,λ_ _ _ _ _ q=>q.elim,λ_ _ _ _ _ q=>q.elim]];unfold vS L2.start;simp only[aI,aA,bP,aK,bE];lia;rw [aP];exact(qT (ds:=[d]) n Z #[_,_,rfl,Y,rfl]<|N.length-2).perm<|.swap _ _ _
def aAn(g:GB)(i:Nat)(t:XT):XT:=λc Q=>t c λs a=>match (a[i]?).bind iR with
 |some (l,f)=>g l [s.d] λd b=>Q (.tr d) (a.set i<|f b)
 |none=>False
def fe_{p pos}(C:Cal X.prog X.w X.K X.mg X.base j x ps<|vU g)(u:Room j X.A)(y:XE X Ex e t)(hv:PE X e2<|fO i)(s:Gl X x:=by rfl)(h:U5 x:=by decide)
  (c:starEach [e,e2] X.env=(false,eval e X.env)::starEach [e2] X.env:=by rfl) (q:starEach [e2] X.env=(false,eval e2 X.env)::starEach [] X.env:=by rfl) (m:(backTo pos<|starEach [e2] X.env).any (·.1)=false:=by rfl):XE X Ex (.Call (.Name x p) [e,e2] [] pos)<|aAn g i t:=λF=>(qJ C u (lK (y F) (lK hv i4 q) c) s h c m).weak λJ H Q=>by
 rintro⟨A,fr,G,E,t,k⟩;refine#[A,fr,_,E,t,λz I D B b a=>?_];obtain⟨R,v⟩:=b.one;split at a;rename_i l f r;obtain⟨p,o,S⟩:=aBa #[b.len,R] r (All2.one v) a k;exact#[.ref p,o,z,.ref p,rfl,S];exact a.elim
end Lf
namespace L2
open PySem PySem.Spec PyProof.Rows Builtin Builtin.Str
end L2
namespace L2
open PySem PySem.Spec PyProof.Rows
end L2
namespace Lf
open PySem L2
def aHa:XSs X Ex sts xNo:=λF=>PSs.weak (aEq (X:=X)) λD b H=>by rintro⟨a,fr,d,E,q,k⟩;exact q
def Sv.o? : Sv->Option Ow
 | .tr d=>some (.tr d)
 | .ow o=>some o
 |_=>none
def owR(os:U4)(xs:S3):S9:=(os.zip xs).map λp=>(.v<|.ow p.1,some p.2)
section
variable{F:Fm}{P:S9}{H:Hp}{s:Sv}{x:T5}{o:Ow}{p:Addr}{os:U4}{xs:S3}
def Rep.toOw(R:Rep F ((.v s,x)::P) H)(h:s.o? = some o):Rep F ((.v<|.ow o,x)::P) H:=by
 cases s with
 |tr d =>
  cases h;have e:eL (.v<|.ow<|.tr d,x)=[]:=by simp only[eL,Ow.fp]
  obtain⟨v,rfl,a⟩:=R.head;exact R.tail.cons0 e #[v,rfl,by simp only[OwOk];exact a]
 |ol l=>cases h
 |od l=>cases h
 |ow b=>cases h;exact R
def qM:∀{os} {xs},os.length=xs.length->bD (owR os xs)=jS os
 | [],[],_=>by simp only[owR,List.zip_nil_left,fC,bD,List.flatMap_nil,jS]
 | [],_::_,h=>by simp at h
 |_::_,[],h=>by simp at h
 |o::os,x::xs,h=>by show bD ((.v<|.ow o,some x)::owR os xs)=_;rw[iT,qM<|by simpa using h];simp only[eL,jS]
def aBr:∀{os} {xs},os.length=xs.length->(∀r∈owR os xs,RowOk O G H r)->OwOks (hid O G) H os xs
 | [],[],_,_=>by simp only[OwOks]
 | [],_::_,h,_=>by simp at h
 |_::_,[],h,_=>by simp at h
 |o::os,x::xs,h,k=>by obtain⟨y,e,a⟩:=k (.v<|.ow o,some x) aB;cases e;exact#[x,xs,rfl,a,aBr (by simpa using h) λr b=>k r<|aC _ b]
def bEr(h:r∈owR os xs):∃s,r.1=.v s:=by obtain⟨q,_,rfl⟩:=aZ.mp h;exact`r
end
section
variable{F:Fm}{P A:S9}{H c:Hp}{s:Sv}{x:T5}{o:Ow}{p:Addr}{os:U4}{xs:S3}
def Rep.shift(R:Rep F (A++P) H)(y:(eL (.v s,x)).Perm<|bD A)(hv:∀r∈A,∃s,r.1=.v s)(e:∀b,b∉bD A->c b=H b)(E:∀b∈bD A,∃o,c b=some o)(h:RowOk (eL (.v s,x)++bD P) (F.vis c) c (.v s,x)):Rep F ((.v s,x)::P) c:=by
 have v:(eL (.v s,x)++bD P).Perm<|bD<|A++P:=by rw[oS];exact y.append_right _
 have B:∀a∈bD A,F.H0 a=none:=λa g=>by obtain⟨r,f,e⟩:=dG.mp g;have m:=R.fr r (aM _ f) a e;obtain⟨L,G⟩:=hv r f;unfold FrOk at m;rw[G]at m;exact m
 have t:=R.nd;rw[oS]at t;refine#[by rw[iT];exact v.nodup_iff.mpr R.nd,λr f=>?_,λr f a g=>?_,λb o j I=>?_,λb l=>?_];rw [iT];rcases aE.mp f with rfl | f
 exact h;have C:r∈A ++ P:=aJ _ f;refine(R.ok r C).mono (.of λb u l=>?_) λa g=>e a λz=>(bS.mp t).2.2 a z a (l8 f g) rfl;have i:=bB.mp l;have D:b∉bD A:=λz=>i.1 (by rw[oS];exact aM _ z);refine bB.mpr #[λz=>i.1<|v.mem_iff.mp z,?_];cases q:F.H0 b with
 |none=>exact(kQ q).trans ((congrArg nf<|e b D).trans<|(kQ q).symm.trans i.2)
 |some w=>exact(kH q).trans<|(kH q).symm.trans i.2
 rcases aE.mp f with rfl | f
 exact B a<|y.mem_iff.mp g;exact R.fr r (aJ _ f) a g;rw [e b fun z=>by rw [B b z] at j; cases j];exact R.kp b o j I;by_cases z:b∈bD A;exact E b z;obtain ⟨u,J⟩:=R.lv b l;exact#[u,by rw[e b z];exact J]
def Rep.bundleT(R:Rep F (owR os xs++P) H)(j:os.length=xs.length)(f:H p=none):Rep F ((.v<|.ow<|.ot os,some<|.ref p)::P)<|upd H p<|.tup xs:=by
 have e:Same H<|upd H p<|.tup xs:=hj_ f _;have l:=R.not_own f;have q:=R.fresh f;have a:=R.grow e;have h:eL (.v<|.ow<|.ot os,some<|.ref p)=bD (owR os xs):=by rw[qM j];simp only[eL,Ow.fp]
 refine a.shift (by rw[h]) (λr g=>bEr g) (λ_ _=>rfl) (λb m=>a.own_in (by rw[oS];exact aM _ m)) ?_;rw[h];refine#[.ref p,rfl,?_];simp only[OwOk];have i:=aBr j λr g=>a.ok r<|aM _ g;rw[oS]at i;refine#[p,xs,rfl,bB.mpr #[λz=>l (by rw[oS];exact z),(kQ q).trans (by rw[bY];rfl)],i]
end
def qX:∀(xs:S7),All2 (IsX G) (xs.map Dx.int) (xs.map V.int)
 | []=>rfl
 |x::xs=>#[_,_,rfl,IsX.of_int _,qX xs]
abbrev FsO:=List<|Str×Ow
abbrev GO:=Addr->FsO->S1->(Sv->FsO->Prop)->Prop
def spO(g:GO):Sp:=λj H Q _=>∃(F:Fm) (C a c:Addr) (l:FsO) (e:S3) (b:S1) (h:Sv->FsO->Prop),j=.ref a::e/\F.H0=H/\F.B=(Ow.oi C a c l).fp/\b.length=e.length/\Rep F ((.bo<|.oi C a c l,some `i)::kW (b.map .tr) e) H/\g C l b h /\
 ∀s v i f,Rep F [(.bo<|.oi C a c i,some `i),(.v s,some v)] f->h s i->Q v f
def nG:Sl->Option (Addr×Addr×Addr×FsO×(Ow->Sl))
 | .bo (.oi C a dx l)=>some (C,a,dx,l,.bo)
 | .v (.ow<|.oi C a dx l)=>some (C,a,dx,l,λo=>.v<|.ow o)
 |_=>none
abbrev lI(ρ:En)(i:Nat):Option<|Addr×Addr×Addr×FsO×(Ow->Sl):=(ρ[i]?).bind nG
def bJc(g:GO)(i:Nat)(u:XA):XT:=λc Q=>(lI c i).isSome=true/\u c λh b=>match lI b i with
 |some (C,a,dx,l,f)=>g C l (h.map Sv.d) λs e=>Q s (b.set i<|f<|.oi C a dx e)
 |none=>False
def vI(e:Addr)(m:Str)(g:GO)(i:Nat)(u:XA):XT:=λc Q=>(match lI c i with
 |some (C,_,_,l,_)=>C=e/\l.lookup m=none
 |none=>False)/\u c λj b=>match lI b i with
 |some (C,a,dx,l,f)=>g C l (j.map Sv.d) λs h=>Q s (b.set i<|f<|.oi C a dx h)
 |none=>False
def aUy(C:Addr)(g:GO)(u:XA):XT:=λh Q=>u h λf b=>∀a c,g C [] (f.map Sv.d) λs e=>s.d=.non/\Q (.ow<|.oi C a c e) b
def m9(b:Addr)(f:Str)(i:Nat):XT:=λa Q=>match lI a i with
 |some (C,_,_,l,_)=>C=b/\(match l.lookup f with
  |some (.tr d)=>Q (.tr d) a
  |_=>False)
 |none=>False
def dJ(f:Str)(o:Ow):FsO->FsO
 | []=>[(f,o)]
 |(g,x)::r=>if g=f then(g,o)::r else(g,x)::dJ f o r
def aAm(c:Addr)(f:Str)(i:Nat)(t:XT):XS:=λe D=>t e λs b=>match lI b i with
 |some (C,a,dx,l,g)=>C=c/\l.length<1000/\(∀o,l.lookup f=some o->∃d,o=.tr d)/\D.nx (b.set i<|g<|.oi C a dx<|dJ f (.tr s.d) l)
 |none=>False
section
variable{F F':Fm}{P A':S9}{H i:Hp}{r:Rw}{c:Sl}{x:T5}{C a dx:Addr}{l l':FsO}{f:Ow->Sl}
def Rep.backs(R:Rep F (L++P) H)(A:F'.H0=H)(E:F'.B=bD L)(Y:F'.Hs=hid (bD<|L++P) `n)(v:Rep F' A' i)(T:bD A''=bD A')(d:∀O G K,(∀q∈A',RowOk O G K q)->∀q∈A'',RowOk O G K q)(Z:∀q∈A'',∀a∈eL q,FrOk F q a):Rep F (A''++P) i:=by
 have k:∀b∈bD L,b∈F.B\/F.H0 b=none:=λb j=>by obtain⟨r,m,p⟩:=dG.mp j;exact(R.fr r (aM _ m) b p).or
 have M:=R.nd;rw[oS]at M;have S:=λb m p=>(bS.mp M).2.2 b m b p rfl;have N:∀b∈bD A',b∈bD L\/H b=none:=λb j=>by obtain⟨q,g,e⟩:=dG.mp j;have:=(v.fr q g b e).or;rw[E,A]at this;exact this
 have y:=λb u m p=>v.kp b u (by rw[A];exact p) (by rw[E];exact m);have Q:∀b u,b∉bD L->F.vis H b=some u->F.vis i b=some u:=λb u m p=>by
  cases q:F.H0 b with
  |none=>exact(kQ q).trans (ku_ ((kQ q).symm.trans p) λo h=>y b o m h)
  |some w=>exact(kH q).trans<|(kH q).symm.trans p
 have I:∀b∈bD P,b∉bD A':=λb m p=>by
  rcases N b p with h | h
  exact S b h m;exact R.not_own h (by rw[oS];exact aJ _ m)
 refine#[?_,λq g=>?_,λq g b j=>?_,λb u m p=>?_,λb j=>?_];rw [oS,T];exact bS.mpr #[v.nd,(bS.mp M).2.1,λa m b p z=>I b p<|z ▸ m];rw [oS,T];rcases aX.mp g with g | g
 refine d _ _ _ (fun q g => ?_) q g;refine(v.ok q g).mono (.of λb u j=>?_) λ_ _=>rfl;obtain⟨U,s⟩:=bB.mp j;cases z:H b with
 |none => have s:=(kQ (by rw[A];exact z)).symm.trans s;refine bB.mpr #[λw=>(aX.mp w).elim U λw=>R.not_own z (by rw[oS];exact aJ _ w),(kQ<|R.fresh z).trans s]
 |some w => have s:=(kH (by rw[A];exact z)).symm.trans s;rw[Y]at s;obtain⟨t,D⟩:=bB.mp s;rw[oS]at t;exact bB.mpr #[λw=>(aX.mp w).elim U λw=>t<|aJ _ w,Q b u (λw=>t<|aM _ w) D]
 refine (R.ok q<|aJ _ g).mono (.of fun b u j => ?_) fun b j => ?_;obtain ⟨t,D⟩:=bB.mp j;rw[oS]at t;have W:=λw=>t<|aM _ w;refine bB.mpr #[λw=>(aX.mp w).elim (λw=>?_) λw=>t<|aJ _ w,Q b u W D];rcases N b w with h | h
 exact W h;have:=R.vis _ _ D;rw[h]at this;cases this;have J:=l8 g j;obtain⟨u,B⟩:=R.own_in<|l8 (aJ _ g) j;rw[B,y b u (λw=>S b w J) B];rcases aX.mp g with g | g
 exact Z q g b j;exact R.fr q (aJ _ g) b j;by_cases z:b∈bD L;grind;exact y b u z<|R.kp b u m p;by_cases z:b∈bD L;exact v.lv b (by rw[E];exact z);obtain ⟨u,B⟩:=R.lv b j;exact#[u,y b u z B]
def Rep.back(R:Rep F (r::P) H)(b:F'.H0=H)(j:F'.B=eL r)(p:F'.Hs=hid (bD (r::P)) `n)(g:Rep F' A' i)(hv:∀q∈A',(∃o,q.1=.bo o)\/∃s,q.1=.v s):Rep F (A'++P) i:=by
 refine Rep.backs (L:=[r]) R b (j.trans (by rw[iT];exact(aP _).symm)) p g rfl (λ_ _ _ h=>h) λq m a t=>?_;have f:=g.fr q m a t;unfold FrOk at f ⊢;rcases hv q m with⟨o,e⟩ | ⟨s,e⟩
 rw [e] at f ⊢;rw[j,b]at f;exact f.elim (λz=>(R.fr r aB a z).or) λz=>.inr<|R.fresh z;rw [e] at f ⊢;rw[b]at f;exact R.fresh f
def Rep.boOw(R:Rep F ((.bo o,x)::P) H)(h:∀b∈o.fp,F.H0 b=none):Rep F ((.v<|.ow o,x)::P) H:=by
 have e:bD ((.v<|.ow o,x)::P)=bD ((.bo o,x)::P):=by rw[iT,iT];rfl
 refine#[by rw[e];exact R.nd,λr g=>?_,λr g b j=>?_,R.kp,R.lv];rcases aE.mp g with rfl | g
 exact R.ok (.bo o,x) aB;exact R.ok r<|aC _ g;rcases aE.mp g with rfl | g
 exact h b j;exact R.fr r (aC _ g) b j
def cw_(h:nG c=some (C,a,dx,l,f))(R:Rep F ((c,x)::P) H):x=some `i/\eL (c,x)=(Ow.oi C a dx l).fp/\OwOk (hid (bD ((c,x)::P)) `n) H (.oi C a dx l) `i /\
  ((c=.bo (.oi C a dx l)/\f=.bo)\/(c=.v (.ow<|.oi C a dx l)/\f=λo=>.v<|.ow o)):=by
 match c,h with
 | .bo (.oi C a dx l),h => cases h;obtain⟨v,e,b⟩:=R.ok _ aB;have g:=b;obtain⟨rfl,_⟩:=g;subst e;exact#[rfl,rfl,b,.inl #[rfl,rfl]]
 | .v (.ow<|.oi C a dx l),h => cases h;obtain⟨v,e,b⟩:=R.ok _ aB;have g:=b;obtain⟨rfl,_⟩:=g;subst e;exact#[rfl,rfl,b,.inr #[rfl,rfl]]
def OwOk.ins(h:OwOk (hid (bD P) `n) i (.oi C a dx l) `i):∃b,i a=some (.ins C dx b)/\i dx=some (.own a)/\OwOkf (hid (bD P) `n) i l b:=by obtain⟨_,b,e,g,j⟩:=h;exact#[b,e,g,j]
def Rep.lend(h:nG c=some (C,a,dx,l,f))(R:Rep F ((c,x)::P) H):∃F':Fm,F'.H0=H/\F'.B=(Ow.oi C a dx l).fp/\F'.Hs=hid (bD ((c,x)::P)) `n/\Rep F' [(.bo<|.oi C a dx l,some `i)] H /\
  ∀{s:Sv} {v:V} {l':FsO} {i:Hp},Rep F' [(.bo<|.oi C a dx l',some `i),(.v s,some v)] i->Rep F ((.v s,some v)::(f<|.oi C a dx l',x)::P) i:=by
 obtain⟨rfl,j,I,J⟩:=cw_ h R;have m:∀b∈(Ow.oi C a dx l).fp,b∈bD ((c,some `i)::P):=λb g=>by rw[iT,j];exact aM _ g
 have D:∀b∈(Ow.oi C a dx l).fp,hid (bD ((c,some `i)::P)) `n b=none:=λb g=>by unfold hid;rw[if_pos<|m b g]
 have y:∀b∈(Ow.oi C a dx l).fp,∃o,H b=some o:=λb g=>R.own_in<|m b g;refine#[#[H,hid (bD ((c,some `i)::P)) `n,(Ow.oi C a dx l).fp,R.hv,D,y],rfl,rfl,rfl,?_,λ{s v l' i} A=>?_];have e:bD [((Sl.bo<|.oi C a dx l,some<|V.ref a):Rw)]=(Ow.oi C a dx l).fp:=by rw [iT]; exact aP _
 refine#[?_,λr t=>?_,λr t b g=>?_,λb o g _=>g,y];rw [e,← j];have:=R.nd;rw[iT]at this;exact(bS.mp this).1;rw [aF.mp t,e];refine#[_,rfl,OwOk.mono (.of λb u g=>?_) _ _ (λ_ _=>rfl) I];have E:=bB.mp g;exact bB.mpr #[λz=>E.1<|m b z,(kH<|R.hv _ _ g).trans g];rw [aF.mp t] at g ⊢;exact .inl g;have R2:=R.back (F':=#[H,hid (bD ((c,some `i) :: P)) `n,(Ow.oi C a dx l).fp,R.hv,D,y]) rfl j.symm rfl A fun q p=>by
  rcases aE.mp p with rfl | p
  exact .inl `r;rw[aF.mp p];exact .inr `r
 rcases J with⟨B,rfl⟩ | ⟨B,rfl⟩
 exact R2.perm<|.swap _ _ _;refine Rep.perm (R2.boOw fun b g => ?_)<|.swap _ _ _;have G:b∈(Ow.oi C a dx l).fp\/H b=none:=A.fr _ aB b g;rcases G with g | g
 have:=R.fr _ aB b (by rw [j]; exact g);rw[B]at this;exact this;exact R.fresh g
def OwOkf.look{f}:∀{l:FsO} {b},OwOkf G H l b->l.lookup f=some o->∃v,b.lookup f=some v/\OwOk G H o v
 | [],_,_,e=>by simp at e
 |(g,y)::r,b,h,e=>by
  obtain⟨w,u,rfl,⟨j,q⟩,m⟩:=h;obtain⟨s,t⟩:=w;cases(j);by_cases z:f=g;grind;have p:(f == g)=false:=by simpa using z
  rw[bO,p]at e ⊢;exact OwOkf.look m e
def OwOkf.miss{f}:∀{l:FsO} {b},OwOkf G H l b->l.lookup f=none->b.lookup f=none
 | [],_,h,_=>by simp only[OwOkf]at h;rw[h];rfl
 |(g,y)::r,b,h,e=>by
  obtain⟨w,t,rfl,⟨j,p⟩,m⟩:=h;obtain⟨q,s⟩:=w;cases(j);by_cases z:f=g;subst z;rw[gW]at e;cases e;have o:(f == g)=false:=by simpa using z
  rw[bO,o]at e ⊢;exact OwOkf.miss m e
def OwOkf.len:∀{l:FsO} {b},OwOkf G H l b->b.length=l.length
 | [],_,h=>by simp only[OwOkf]at h;rw[h];rfl
 |(g,y)::r,b,h=>by obtain⟨w,j,rfl,_,e⟩:=h;rw[aK,aK,OwOkf.len e]
def OwOkf.put{f}(b:IsX G d v):∀{l:FsO} {e},OwOkf G H l e->OwOkf G H (dJ f (.tr d) l) (iU f v e)
 | [],_,h=>by subst h;exact#[_,_,rfl,#[rfl,b],rfl]
 |(g,y)::r,e,h=>by obtain⟨w,s,rfl,⟨m,o⟩,j⟩:=h;obtain⟨p,q⟩:=w;cases(m);by_cases z:g=f;simp only [dJ,iU,if_pos z,OwOkf,OwOk];exact#[_,_,rfl,#[rfl,b],j];simp only [dJ,iU,if_neg z,OwOkf];exact#[_,_,rfl,#[rfl,o],OwOkf.put b j]
def qB{f}:∀{l},(∀o,l.lookup f=some o->∃d,o=.tr d)->fP (dJ f (.tr d) l)=fP l
 | [],_=>by exact W.Fast.lEq_iff.mp rfl
 |(g,y)::r,h=>by
  by_cases z:g=f;subst z;obtain⟨m,rfl⟩:=h y gW;simp only[dJ,if_pos,fP,Ow.fp];have j:(f == g)=false:=by simpa using fun e=>z e.symm
  simp only[dJ,if_neg z,fP];rw[qB λo b=>h o (by rw[bO,j];exact b)]
def Rep.setF(h:nG c=some (C,a,dx,l,f))(R:Rep F ((c,x)::P) H)(J:∀o,l.lookup fl=some o->∃d,o=.tr d)(n:IsX (hid (bD ((c,x)::P)) `n) d v)(hw:H a=some (.ins C dx t)) :
  Rep F ((f<|.oi C a dx<|dJ fl (.tr d) l,x)::P) (upd H a<|.ins C dx<|iU fl v t):=by
 obtain⟨F',j,I,k,B,bk⟩:=R.lend h;obtain⟨rfl,Y,Z,hf⟩:=cw_ h R;obtain⟨a0,G,U,W⟩:=OwOk.ins Z;rw[hw]at G;cases G;have y:(Ow.oi C a dx<|dJ fl (.tr d) l).fp=(Ow.oi C a dx l).fp:=by simp only[Ow.fp,qB J]
 have g:=B.nd;have D:bD [((Sl.bo<|.oi C a dx l,some<|V.ref a):Rw)]=(Ow.oi C a dx l).fp:=by rw[iT];exact aP _
 have E:bD [((Sl.bo<|.oi C a dx<|dJ fl (.tr d) l,some<|V.ref a):Rw)]=(Ow.oi C a dx l).fp:=by rw[iT,<-y];exact aP _
 rw[D]at g;simp only[Ow.fp]at g;have A:=(bW.mp g).1;have T:dx≠a:=λz=>A (by rw[z];exact aB);have p:∀b∈fP l,b≠a:=λb e z=>A<|aC _<|z ▸ e;have m:a∈F'.B:=by rw[I];simp only[Ow.fp];exact aB
 have N:∀b∈(Ow.oi C a dx l).fp,b∈bD ((c,some `i)::P):=λb e=>by rw[iT,Y];exact aM _ e
 have R2:Rep F' [(.bo<|.oi C a dx<|dJ fl (.tr d) l,some `i)] (upd H a<|.ins C dx<|iU fl v t):=by refine#[by rw[E,<-D];exact B.nd,λr q=>?_,λr q b e=>?_,λb o e Q=>?_,λb e=>?_];rw [aF.mp q,E];refine#[_,rfl,?_];simp only[OwOk];refine#[trivial,_,bY,by rw[dZ T];exact U,?_];refine OwOkf.mono (.of λb u e=>?_) _ _ (λb e=>dZ (p b (by rw[qB J]at e;exact e)))<|OwOkf.put n W;have M:=bB.mp e;exact bB.mpr #[λz=>M.1<|N b z,(kH (by rw[j];exact R.hv _ _ e)).trans (by rw[k];exact e)];rw [aF.mp q] at e ⊢;refine .inl ?_;rw[I,<-y];exact e;have O:b≠a:=fun z=>Q (by rw [z]; exact m);rw[dZ O];rw[j]at e;exact e;by_cases z:b=a;exact#[_,by rw[z];exact bY];rw [dZ z];obtain⟨o,L⟩:=F'.ib b e;rw[j]at L;exact#[o,L]
 have S:=bk (s:=.tr .non) (v:=.non)<|Rep.perm (R2.add (d:=.non) (v:=.non) IsX.of_non)<|.swap _ _ _;exact S.tail
end
def pZ:∀{ds} {vs} {P},Rep F P H->All2 (IsX<|hid (bD P) `n) ds vs->Rep F (kW (ds.map .tr) vs++P) H/\bD (kW (ds.map .tr) vs++P)=bD P
 | [],_,P,R,e=>by rw[show _=[]from e];exact#[R,rfl]
 |d::ds,_,P,R,⟨y,yr,e,h1,h2⟩=>by subst e;obtain⟨R2,a⟩:=pZ R h2;refine#[Rep.add (P:=kW (ds.map .tr) yr++P) (d:=d) (v:=y) R2 (by rw[a];exact h1),?_];show bD ((vT d,some y)::(kW (ds.map .tr) yr++P))=_;rw[hr_ rfl,a]
def aPg{F}{ρ2}{σ}{fr:S9}{H2}{ss:List Sv}{vs:S3}{g}{i}{Q}{Qx:Sv->En->Prop}{a0}{Ek}(j:σ[i]? = some (some<|.ref a0))(D:ss.length=vs.length)(e:EOk F ρ2 σ (kW ss vs++fr) H2)
  (p:match lI ρ2 i with
   |some (C,a,dx,l,f)=>g C l (ss.map Sv.d) λs l'=>Qx s (ρ2.set i<|f<|.oi C a dx l')
   |none=>False)
  (k:∀v s h ρ',EOk F ρ' σ ((.v s,some v)::fr) h->Qx s ρ'->Q v h):spO g (.ref a0::vs) H2 Q Ek:=by
 obtain⟨R,W⟩:=e.many D;split at p;rename_i C a dx l f o;obtain⟨Y,A,B⟩:=bR.mp o;have G:EOk F ρ2 σ fr H2:=#[e.len,R];obtain⟨Z,r,I,R2⟩:=uY G A;rw[j]at r;cases r;obtain⟨ex,N,_⟩:=cw_ B R2;cases ex;obtain⟨t,y,O,T,L,bk⟩:=R2.lend B;have S:(bD<|ρ2.zip σ++fr).Perm<|bD ((Y,some<|V.ref a0)::((ρ2.zip σ).eraseIdx i++fr)):=((bv_ A j).append_right fr).flatMap_right _;have M:bD [((Sl.bo<|.oi C a0 dx l,some<|V.ref a0):Rw)]=(Ow.oi C a0 dx l).fp:=by rw[iT];exact aP _
 have H:All2 (IsX<|hid (bD [((Sl.bo<|.oi C a0 dx l,some<|V.ref a0):Rw)])<|t.vis H2) (ss.map Sv.d) vs:=W.imp λd v z=>z.to λb u o=>by have m:=lF (λc U=>S.mem_iff.mpr U) b u o;have E:=bB.mp m;refine bB.mpr #[λz=>E.1 ?_,(kH (by rw[y];exact R2.hv _ _ m)).trans (by rw[T];exact m)];rw[iT,N];rw[M]at z;exact aM _ z
 refine#[t,C,a0,dx,l,vs,ss.map Sv.d,_,rfl,y,O,by rw[aA];exact D,(pZ L H).1.perm ?_,p,λs v l' h J q=>k v s h _ (EOk.back (by rw[bJ];exact e.len)<|(bk J).perm<|((cx_ e.len I j).append_right fr).symm.cons _) q];exact fL;exact p.elim
section
variable{j i:Nat}{x m:Str}{ps:S4}{g:GO}{e o:Expr}{r:T6}{u:XA}{p h l:Pos}{C:Addr}
def sR(P:Program)(w:World)(K:dN)(mg:mI)(base:Heap)(j:Nat)(C:Addr)(m:Str)(ps:S4)(sp:Sp):Prop:=Cls K C/\∃f fd,Meth K C m f/\FnOk P w K mg base CX0 j f fd ps sp/\Binds K fd ps []
def bCa(P:Program)(w:World)(K:dN)(mg:mI)(base:Heap)(j:Nat)(C:Addr)(ps:S4)(sp:Sp):Prop:=∃f fd,Mk K C f/\FnOk P w K mg base CX0 j f fd ps sp/\Binds K fd ps []
def oW{pl:Sem Bool}(M:sR X.prog X.w X.K X.mg X.base j C m ps<|spO g)(U:Room j X.A)(hv:PE X o<|fO i)(ha:XAs X Ex (e::r) u)
  (q:U7 X e r:=by rfl) (b:U8 X h r:=by rfl)
  (W:eval (.Call (.Attribute o m l) (e :: r) [] h) X.env=(do
   let ov <-eval o X.env
   standAt l.atName
   let (f,first) <-holding [ov] (getMethod ov m pl)
   callWith h f first (backTo h<|starEach (e::r) X.env) (backToKw h<|keywordEach [] X.env)):=by rfl) :
  XE X Ex (.Call (.Attribute o m l) (e::r) [] h) (vI C m g i u):=λF=>by
 obtain⟨c,f,fd,T,R,O⟩:=M;refine(aBm hv c T R U O .nil zZ (ha F) q b W).weak λσ H Q=>?_;rintro⟨n,fr,Qx,E,⟨t0,t⟩,k⟩;split at t0;rename_i C0 a A l0 f0 D;obtain⟨rfl,z⟩:=t0;obtain⟨Jo,G,I⟩:=bR.mp D;obtain⟨v,hv,hi,B⟩:=uY E G;obtain⟨rfl,_,N,_⟩:=cw_ I B;obtain⟨d,J,_,L⟩:=OwOk.ins N;refine#[.ref a,hv,a,A,d,rfl,J,L.miss z,n,fr,_,E,t,λZ ss y a1 S s Y=>?_];show spO g (V.ref a::(Z++[])) y Q E0;rw[aP];exact aPg hv S s Y k;exact t0.elim
def aHi(M:bCa X.prog X.w X.K X.mg X.base j C ps<|spO g)(hr:Room (j+1) X.A)(hm:X.mg x=some (.ref C))(ha:XAs X Ex (e::r) u)(hg:Gl X x:=by rfl)(A6:U5 x:=by decide)
  (he:U7 X e r:=by rfl) (Ag:U8 X h r:=by rfl) :
  XE X Ex (.Call (.Name x p) (e::r) [] h) (aUy C g u):=λF=>by
 obtain⟨f,fd,hk,hf,A⟩:=M;refine(aPx hk hf hr hg hm A .nil zZ (ha F) A6 he Ag).weak λI H Q=>?_;rintro⟨ρ,fr,Qx,E,t,k⟩;refine#[ρ,fr,_,E,t,λn Z B y W N q2=>?_];intro a c ha Rc L;rw[aP];obtain⟨R,hs⟩:=N.many W;have G:Same B<|upd (upd B c<|.own a) a<|.ins C c []:=λb o A=>by
  have n1:b≠a:=by grind
  have n2:b≠c:=by grind
  rw[dZ n1,dZ n2];exact A
 have D:(Ow.oi C a c []).fp=[a,c]:=by simp only[Ow.fp,fP]
 have R1:Rep F ((.v<|.ow<|.oi C a c [],some `i)::(y.zip I++fr))<|upd (upd B c<|.own a) a<|.ins C c []:=by refine R.adoptW G (by rw[D];simp[Ne.symm L]) (λb A=>?_) ?_;grind;simp only [OwOk,OwOkf];exact#[trivial,[],bY,by rw[dZ L];exact bY,rfl]
 obtain⟨O,U,hB,hS,R2,bk⟩:=R1.lend rfl;have e1:bD [((Sl.bo<|.oi C a c [],some<|V.ref a):Rw)]=[a,c]:=by rw[iT,<-D];exact aP _
 have e2:bD ((Sl.v<|.ow<|.oi C a c [],some<|V.ref a)::(y.zip I++fr))=[a,c]++bD (y.zip I++fr):=by rw[iT,<-D];rfl
 have Ft:All2 (IsX<|hid (bD [((Sl.bo<|.oi C a c [],some<|V.ref a):Rw)])<|O.vis<|upd (upd B c<|.own a) a<|.ins C c []) (Z.map Sv.d) n:=hs.imp λd v z=>z.to λb u A=>by
  have J:=bB.mp A;have hH:=R.hv _ _ A;have S:b∉[a,c]:=by grind
  refine bB.mpr #[by rw[e1];exact S,(kH (by rw[U];exact G _ _ hH)).trans ?_];rw[hS,e2];exact bB.mpr #[λz=>(aX.mp z).elim S J.1,eh_ G _ _ J.2]
 refine#[O,C,a,c,[],n,Z.map Sv.d,_,rfl,U,hB,by rw[aA];exact W,(pZ R2 Ft).1.perm fL,q2 a c,λs v l' H' R' q=>?_];have T:=bk R';obtain⟨w,ew,Y⟩:=T.head;cases ew;rw[q.1]at Y;refine#[?_,k _ _ H' y (EOk.back N.len T.tail) q.2];simpa only[IsX]using Y
def oY(c:Cls X.K C)(M:NoAttr X.K C f)(hv:PE X o<|fO i)(a:attributeBase o f X.env (eval o X.env)=eval o X.env:=by rfl):XE X Ex (.Attribute o f h)<|m9 C f i:=λF=>(qI hv a).weak λn H Q=>by rintro⟨S,fr,U,E,t,k⟩;unfold m9 at t;split at t;rename_i y q z Z W B;obtain⟨rfl,t⟩:=t;split at t;rename_i d L;obtain⟨T,s,D⟩:=bR.mp B;obtain⟨v,hv,Y,A⟩:=uY E s;obtain⟨rfl,_,J,_⟩:=cw_ D A;obtain⟨R,G,_,I⟩:=OwOk.ins J;obtain⟨w,N,O⟩:=I.look L;refine#[.ref q,hv,q,y,z,R,w,rfl,G,c,M,N,k w _ H S (EOk.back E.len<|E.rep.add<|O.to<|lF λb a=>?_) t];exact(((bv_ s hv).append_right fr).flatMap_right _).mem_iff.mp a;exact t.elim;exact t.elim
def vD(c:Cls X.K C)(Y:NoAttr X.K C f)(hv:PE X o<|fO i)(k:XE X Ex value tv)(Z:swapsWith value (some<|.Attribute o f pos') h.line X.env=pure false:=by rfl):XSt X Ex (.Assign [.Attribute o f pos'] value h)<|aAm C f i tv:=λF=>(aJo hv (k F) Z).weak λD σ H=>by rintro⟨ρ,fr,d,E,t,M⟩;refine#[ρ,fr,_,E,t,λv s H2 a1 y a=>?_];split at a;rename_i L A N l0 f0 O;obtain⟨rfl,W,J,a⟩:=a;obtain⟨R,n⟩:=y.one;obtain⟨Jo,B,G⟩:=bR.mp O;obtain⟨v',q,U,z⟩:=uY #[y.len,R] B;obtain⟨rfl,_,S,_⟩:=cw_ G z;obtain⟨V,I,_,Q⟩:=OwOk.ins S;refine#[.ref A,q,A,L,N,V,rfl,I,c,Y,by rw[Q.len];exact W,M.nx _ _ _ rfl (fq_ y.len U q<|z.setF G J (n.to<|lF λb T=>?_) I) a];exact(((bv_ B q).append_right fr).flatMap_right _).mem_iff.mpr T;exact a.elim
end
def pM(N:S4)(o:Ow)(ds:S1):En:=.bo o::(ds.map (λd=>.v<|.tr d)++List.replicate (N.length-(ds.length+1)) .un)
def mD(C a dx:Addr)(Q:Sv->FsO->Prop)(s:Sv)(ρ:En):Prop:=match (ρ[0]? : Option Sl)with
 |some (.bo<|.oi C' a' dx' l)=>C'=C/\a'=a/\dx'=dx/\Q s l
 |_=>False
abbrev aEo(C a dx:Addr)(Q:Sv->FsO->Prop):XD:=#[λb=>mD C a dx Q (.tr .non) b,λs b=>mD C a dx Q s b,λ_=>False,λ_=>False]
def yM:∀{ds:S1} {vs},ds.length=vs.length->(ds.map<|λd=>Sl.v<|.tr d).zip (vs.map some)=kW (ds.map .tr) vs
 | [],[],_=>rfl
 | [],_::_,h=>by simp at h
 |_::_,[],h=>by simp at h
 |d::ds,v::vs,h=>by show(Sl.v<|.tr d,some v)::(ds.map<|λd=>Sl.v<|.tr d).zip (vs.map some)=(Sl.v<|.tr d,some v)::kW (ds.map .tr) vs;rw[yM<|by simpa using h]
def bAv(J:Fun K x qual st f fd)(S:FnScope N ps<|aQ st)(D:∀C l ds Q,g C l ds Q->ds.length+1=ps.length)(hN:ps.length<=N.length)
  (I:∀ (t:Value) (A:Around) (b:List Env) (s:Shared) (H:Hp) (E:XK),Room k (A.deeper<|PyProof.Rows.envOfC qual (aQ st) s.heap.objs.size f t) →
   ∃G,XSs (jT CX0 P w K mg base N qual (aQ st) f t A b s H E).nox dQ (fB st) G/\∀C a dx l ds Q,g C l ds Q->G (pM N (.oi C a dx l) ds) (aEo C a dx Q)):FnOk P w K mg base CX0 (k+1) f fd ps<|spO g:=by
 refine J.ok S (λZ H Q E h=>?_)<|λt A b s H Z Q E W h=>?_;obtain ⟨F,C,a,dx,l,B,ds,o,rfl,_,_,r,_,z,_⟩:=h;rw[aK,<-r];exact D C l ds o z;obtain⟨F,C,a,dx,l,B,ds,o,rfl,h0,hB,r,R,z,O⟩:=h;obtain⟨G,T,U⟩:=I t A b s H E W;have p:∀{u:Sv} {v:V} {i:St} {m:Hp} {c:En},EOk F c i ((.v u,some v)::[]) m->mD C a dx o u c->Q v m:=λ{u v i m c} j q=>by unfold mD at q;split at q;rename_i n a' L Y M;obtain⟨rfl,rfl,rfl,q⟩:=q;obtain⟨y,hy,hi,R2⟩:=uY j M;obtain⟨rfl,_⟩:=cw_ rfl R2;refine O u v Y m (Rep.drops (A:=(c.zip i).eraseIdx 0)<|R2.perm ?_) q;exact eK.symm;exact q.elim
 refine#[_,T F,pM N (.oi C a dx l) ds,[],aEo C a dx o,#[?_,?_],U C a dx l ds o z,#[λi m c _ j q=>p (EOk.back j.len<|j.rep.add (d:=.non) (v:=.non) IsX.of_non) q,λv s i m c _ j q=>p j q,λ_ _ _ _ _ q=>q.elim,λ_ _ _ _ _ q=>q.elim]];unfold pM L2.start;simp only[aI,aA,bP,aK];lia;have e:(pM N (.oi C a dx l) ds).zip (L2.start N (.ref a :: B))=((.bo<|.oi C a dx l,some `i) :: kW (ds.map .tr) B) ++ List.replicate (N.length - (ds.length + 1)) (.un,none):=by unfold pM L2.start;rw[bQ,dH,List.zip_cons_cons,aK,<-r,List.zip_append (by rw[aA,aA];exact r),yM r,List.zip_replicate',dH]
 rw[e,aP];exact(R.addUs _).perm fL
end Lf
namespace L2
open PySem PySem.Spec PyProof.Rows
section
variable{X:Cx}
def st3(x y:Str)(i:Int):Bool:=fromIndex x.length i+y.length<=x.length&&Builtin.Str.subAt x y (fromIndex x.length i)
end
end L2
namespace Lf
open PySem L2
section
variable{o e g:Expr}{to t t2:XT}{b a c:Pos}{F:Fm}{i:Nat}{K:dN}{f:T6}{u:XA}
def OwOks.len:∀{l} {j},OwOks G H l j->j.length=l.length
 | [],_,h=>by simp only[OwOks]at h;rw[h];rfl
 |o::r,j,h=>by obtain⟨w,p,rfl,_,m⟩:=h;rw[aK,aK,OwOks.len m]
end
end Lf
namespace L2
open PySem PySem.W PySem.Spec PyProof.Rows PySem.Calls
def ch_(h:oE K C m q=iG m q s)(b:aBx K C m=true):∃f fd,findIn K (.ref C) m=some (some<|.ref f)/\isFn K (.ref f)=true/\Fun K m q s f fd:=by
 unfold oE at h;unfold aBx at b;cases e:findIn K (.ref C) m with
 |none=>rw[e]at h;cases h
 |some o =>
  cases o with
  |none=>rw[e]at h;cases h
  |some v =>
   rw[e]at b;cases v with
   |ref f =>
    rw[e]at h;dsimp only at h;cases a:K.lookup f with
    |none=>rw[a]at h;cases h
    |some ob =>
     obtain⟨r,t,i,y⟩:=ob;rw[a]at h;cases i with
     |func fd => obtain⟨nm,G,F,A,sc,E,B,D,p,j,u,c,g,ct,z⟩:=fd;simp only[iG,Option.some.injEq,Prod.mk.injEq]at h;obtain⟨⟨rfl,rfl,rfl,rfl,rfl⟩,⟨rfl,rfl,rfl,rfl⟩,l⟩:=h;refine#[f,_,rfl,b,#[r,t,p,j,u,c,g,ct,y,rfl,a,l],?_];unfold keepIn;dsimp only;rw[a]
     |_=>cases h
   |_=>rw[e]at h;cases h
def wB{e g:Type}{f}{b:g}:∀{l:List e},l.map f=List.replicate l.length b->∀a∈l,f a=b
 | [],_,a,h=>by simp at h
 |x::r,h,a,c=>by
  simp only[bQ,aK,eX,List.cons.injEq]at h;rcases aE.mp c with rfl | c
  exact h.1;exact wB h.2 a c
def aKu(h:aKv K n ms fs=aMs es ms fs):∃C,nsIn K mainGlobals n=some (some<|.ref C)/\Cls K C/\makesIn K C=true/\keepIn K (.ref C)=true/\ms.map (λp=>oE K C p.1 p.2)=es/\(∀p∈ms,aBx K C p.1=true)/\∀f∈fs,NoAttr K C f:=by unfold aKv aMs at h;split at h;rename_i C o;simp only[Option.some.injEq,Prod.mk.injEq]at h;obtain⟨⟨a,b,c,e,g,i⟩,j,l,m⟩:=h;exact#[C,o,#[a,b,c,e],g,i,j,wB l,wB m];cases h
end L2
namespace Lf
open PySem L2
abbrev GOE:=Addr->FsO->S1->(Sv->FsO->Prop)->ExT->Prop
def rV(P:Program)(w:World)(K:dN)(mg:mI)(base:Heap)(j:Nat)(C:Addr)(m:Str)(ps:S4)(sp:Sp):Prop:=Cls K C/\∃f fd,Meth K C m f/\FnOk P w K mg base (CXe P w) j f fd ps sp/\Binds K fd ps []
end Lf
namespace L2
open PySem PySem.Spec PyProof.Rows Builtin Builtin.Str
end L2
namespace Lf
open PySem L2
def pL:T6->Option S4
 | []=>some []
 | .Constant (.str x) _ _::r=>(pL r).map (x :: ·)
 |_=>none
def aHs:S4->XA
 | []=>cG
 |z::r=>bI (xC<|.str z)<|aHs r
def aAl:∀{a} {zs},pL a=some zs->XAs X Ex a (aHs zs)
 | [],zs,h=>by cases h;exact jK
 |e::a,zs,h=>by unfold pL at h;split at h;grind;rename_i x j p r b;cases b;obtain⟨f,c,rfl⟩:=dO.mp h;exact hU jR (aAl c) rfl;cases h
def yT:∀{zs} {ρ} {Q},Q (zs.map λz=>.tr<|.str z) ρ->aHs zs ρ Q
 | [],_,_,q=>q
 |z::r,ρ,Q,q=>yT (zs:=r) q
def aTb(zs:S4):XT:=λa Q=>zs.length<=1000000/\Q (.ol<|zs.map Dx.str) a
def aOl(h:pL es=some zs):XE X Ex (.List es pos)<|aTb zs:=λF=>(kF (Ex:=Ex) (aAl h) F).weak λf H Q=>by rintro⟨e,fr,a,E,⟨b,c⟩,k⟩;refine#[e,fr,a,E,yT #[by rw[aA];exact b,?_],k];rw[bL];exact c
def aSr(h:pL es=some zs):Bx<|XE X Ex (.List es pos)<|aTb zs:=#[aOl h]
def bGl(i:Fun K x x st f fd)(S:FnScope N ps<|aQ st)(c:∀ds Q,g ds Q->ds.length=ps.length)(j:ps.length<=N.length)
  (e:∀ (b:Value) (A:Around) (a:List Env) (s:Shared) (H:Hp) (E:XK),Room k (A.deeper<|PyProof.Rows.envOfC x (aQ st) s.heap.objs.size f b) →
   ∃G,Bx (XSs (jT CX0 P w K mg base N x (aQ st) f b A a s H E).nox dQ (fB st) G)/\∀ds Q,g ds Q->G (jI N ds) (aEn Q)):FnOk P w K mg base CX0 (k+1) f fd ps<|spX g:=xT i S c j λb A a s H E l=>by
 obtain⟨G,h,q⟩:=e b A a s H E l;exact#[G,h.out,q]
def bBu(ha:Bx<|XE X Ex a ta)(c:Bx<|XE X Ex b tb):Bx<|XE X Ex (.BinOp a .Mod b pos)<|xOp sG ta tb:=#[mW ha.out c.out]
end Lf
namespace L2
open PySem PySem.Spec PyProof.Rows
end L2
namespace Lf
open PySem L2
section
variable{F:Fm}{P A A':S9}{H c:Hp}
def Rep.alterB(R:Rep F (A++P) H)(D:(bD A').Nodup)(v:∀a∈bD A',a∈bD A)(E:∀r∈A',∀a∈eL r,FrOk F r a)(e:∀b u,b∉bD A->H b=some u->c b=some u)(C:∀b∈bD A,∃o,c b=some o)(h:∀r∈A',RowOk (bD A'++bD P) (F.vis c) c r):Rep F (A'++P) c:=by
 have y:∀a∈bD A'++bD P,a∈bD (A++P):=λa g=>by
  rw[oS];rcases aX.mp g with g | g
  exact aM _<|v a g;exact aJ _ g
 have G:∀a∈bD A,a∈F.B\/F.H0 a=none:=λa g=>by obtain⟨r,f,e⟩:=dG.mp g;exact(R.fr r (aM _ f) a e).or
 have j:=R.nd;rw[oS]at j;refine#[by rw[oS];exact bS.mpr #[D,(bS.mp j).2.1,λa p b l z=>(bS.mp j).2.2 a (v a p) b l z],λr f=>?_,λr f a g=>?_,λb o p l=>?_,λb s=>?_];rw [oS];rcases aX.mp f with f | f
 exact h r f;have t:r∈A ++ P:=aJ _ f;refine(R.ok r t).mono (.of λb u s=>?_) λa g=>?_;have i:=bB.mp s;have B:=λz=>i.1 (by rw[oS];exact aM _ z);refine bB.mpr #[λz=>i.1<|y b z,?_];cases q:F.H0 b with
 |none=>exact(kQ q).trans (ku_ ((kQ q).symm.trans i.2) λo m=>e b o B m)
 |some w=>exact(kH q).trans<|(kH q).symm.trans i.2
 obtain ⟨o,m⟩:=R.own_in<|l8 t g;rw[m];exact e a o (λz=>(bS.mp j).2.2 a z a (l8 f g) rfl) m;rcases aX.mp f with f | f
 exact E r f a g;exact R.fr r (aJ _ f) a g;refine e b o (fun z => ?_)<|R.kp b o p l;rcases G b z with q | q
 exact l q;grind;by_cases z:b∈bD A;exact C b z;obtain ⟨u,I⟩:=R.lv b s;exact#[u,e b u z I]
def d8(h:a∈O):Same (hid O<|ext Hs H0 H)<|hid O<|ext Hs H0<|upd H a o:=λb u g=>by
 have e:=bB.mp g;have f:b≠a:=λz=>e.1 (by rw[z];exact h);refine bB.mpr #[e.1,?_];cases q:H0 b with
 |none=>exact(kQ q).trans ((congrArg nf<|dZ f).trans<|(kQ q).symm.trans e.2)
 |some w=>exact(kH q).trans<|(kH q).symm.trans e.2
end
def kt_:∀{ds} {vs},OwOks G H (ds.map Ow.tr) vs->All2 (IsX G) ds vs
 | [],vs,h=>by simpa only[fC,OwOks,All2]using h
 |d::r,vs,h=>by obtain⟨v,c,e,a,b⟩:=h;exact#[v,c,e,a,kt_ b]
section
variable{F:Fm}{P:S9}{H:Hp}{i:Sl}{x:T5}{C a dx b:Addr}{l:FsO}{f:Ow->Sl}{fl:Str}{ds:S1}
def v5:∀{l:FsO},l.lookup fl=some o->∀c∈o.fp,c∈fP l
 | [],e,_,_=>by simp at e
 |(g,y)::r,e,c,hc=>by
  simp only[fP];by_cases z:fl=g;grind;have h:(fl == g)=false:=by simpa using z
  rw[bO,h]at e;exact aJ _<|v5 e c hc
def aMm(h:o'.fp=o.fp):∀{l},l.lookup fl=some o->fP (dJ fl o' l)=fP l
 | [],e=>by simp at e
 |(g,y)::r,e=>by
  by_cases z:fl=g;subst z;rw[gW]at e;cases e;simp only[dJ,if_pos,fP,h];have c:(fl == g)=false:=by simpa using z
  rw[bO,c]at e;simp only[dJ,if_neg (λq:g=fl=>z q.symm),fP,aMm h e]
def aBv(u:IsX G d v):∀{l:FsO} {j:U0},OwOkf G H l j->l.lookup fl=some (.ol b<|ds.map Ow.tr)->(fP l).Nodup->j.lookup fl=some (.ref b)/\∃vs,H b=some (.lst vs)/\vs.length=ds.length/\OwOkf G (upd H b<|.lst<|vs++[v]) (dJ fl (.ol b<|(ds++[d]).map Ow.tr) l) j
 | [],_,_,e,_=>by simp at e
 |(g,y)::r,j,h,e,n=>by
  simp only[OwOkf]at h;obtain⟨w,T,rfl,⟨B,m⟩,s⟩:=h;obtain⟨Q,S⟩:=w;cases(show g=Q from B);simp only[fP]at n;obtain⟨R,O,A⟩:=bS.mp n;by_cases z:fl=g;subst z;rw[gW]at e ⊢;cases e;simp only[OwOk]at m;obtain⟨rfl,vs,D,t⟩:=m;have E:b∉fP r:=λq=>A b (by simp only[Ow.fp];exact aB) b q rfl;refine#[rfl,vs,D,(kt_ t).len,?_];simp only[dJ,if_pos,OwOkf,OwOk];exact#[_,_,rfl,#[rfl,rfl,_,bY,wR<|(kt_ t).snoc u],OwOkf.mono (.of λ_ _ q=>q) _ _ (λc p=>dZ λq=>E<|q ▸ p) s];have I:(fl == g)=false:=by simpa using z
  rw[bO,I]at e ⊢;have o:b∈fP r:=v5 e b (by simp only[Ow.fp];exact aB);obtain⟨J,vs,L,M,N⟩:=aBv u s e O;refine#[J,vs,L,M,?_];simp only[dJ,if_neg (λq:g=fl=>z q.symm),OwOkf];exact#[_,_,rfl,#[rfl,OwOk.mono (.of λ_ _ q=>q) _ _ (λc p=>dZ λq=>A c p b o q) m],N]
def aBy(h:nG i=some (C,a,dx,l,f))(R:Rep F ((i,x)::P) H):eL (f<|.oi C a dx l',x)=a::dx::fP l'/\∀c,FrOk F (i,x) c->FrOk F (f<|.oi C a dx l',x) c:=by
 obtain⟨rfl,m,o,j⟩:=cw_ h R;rcases j with⟨g,rfl⟩ | ⟨g,rfl⟩
 exact#[by simp only[eL,Ow.fp],λc e=>by rw[g]at e;exact e];exact#[by simp only[eL,Ow.fp],λc e=>by rw[g]at e;exact e]
def tQ(h:nG i=some (C,a,dx,l,f))(c:OwOk (hid O G) H' (.oi C a dx l') `i):RowOk O G H' (f<|.oi C a dx l',some `i):=by
 match i,h with
 | .bo (.oi C a dx l),h=>cases h;exact#[_,rfl,c]
 | .v (.ow<|.oi C a dx l),h=>cases h;exact#[_,rfl,c]
def Rep.appF(h:nG i=some (C,a,dx,l,f))(R:Rep F ((i,x)::P) H)(t:l.lookup fl=some (.ol b<|ds.map Ow.tr))(N:IsX (hid (bD ((i,x)::P)) `n) d v) :
  x=some `i/\∃m vs,H a=some (.ins C dx m)/\m.lookup fl=some (.ref b)/\H b=some (.lst vs)/\vs.length=ds.length/\Rep F ((f<|.oi C a dx<|dJ fl (.ol b<|(ds++[d]).map Ow.tr) l,x)::P) (upd H b<|.lst<|vs++[v]):=by
 obtain⟨rfl,g,M,_⟩:=cw_ h R;obtain⟨m,B,I,J⟩:=OwOk.ins M;have p:=R.nd;rw[iT,g]at p;simp only[Ow.fp]at p g;have z:=(bS.mp p).1;obtain⟨W,Y⟩:=bW.mp z;obtain⟨Z,k⟩:=bW.mp Y;have o:=v5 t b (by simp only[Ow.fp];exact aB);have s:b∈bD ((i,some `i)::P):=by rw[iT,g];exact aM _<|aC _<|aC _ o
 obtain⟨Q,vs,S,T,U⟩:=aBv N J t k;have D:fP (dJ fl (.ol b<|(ds++[d]).map Ow.tr) l)=fP l:=aMm (by simp only[Ow.fp,kr_]) t;obtain⟨j,L⟩:=aBy h R (l':=dJ fl (.ol b<|(ds++[d]).map Ow.tr) l);rw[D]at j;have G:bD ((f<|.oi C a dx<|dJ fl (.ol b<|(ds++[d]).map Ow.tr) l,some `i)::P)=bD ((i,some `i)::P):=by rw[iT,iT,g,j]
 refine#[rfl,m,vs,B,Q,S,T,?_];refine Rep.alterB (A:=[(i,some `i)]) (A':=[(f<|.oi C a dx<|dJ fl (.ol b<|(ds++[d]).map Ow.tr) l,some `i)]) R ?_ (λc e=>?_) (λr y c e=>?_) (λc u e O=>?_) (λc e=>?_)<|λr y=>?_;rw[iT,j];simpa [bD]using z;rw[iT,j]at e;rw[iT,g];exact e;rw [aF.mp y] at e ⊢;rw[j,<-g]at e;exact L c<|R.fr _ aB c e;rw[dZ λq=>e (by rw[iT,g,q];exact aM _<|aC _<|aC _ o)];exact O;by_cases q:c=b;exact#[_,by rw[q];exact bY];rw [dZ q];refine R.own_in ?_;simpa [bD]using Or.inl (by simpa [bD]using e);rw [aF.mp y];have E:bD [(f<|.oi C a dx<|dJ fl (.ol b<|(ds++[d]).map Ow.tr) l,some `i)]++bD P=bD ((i,some `i)::P):=by rw[<-oS];exact G
 rw[E];refine tQ h ?_;simp only[OwOk];refine#[trivial,m,by rw[dZ<|λq=>W (by rw[q];exact aC _ o)];exact B,by rw[dZ<|λq=>Z (by rw[q];exact o)];exact I,OwOkf.mono (.of<|d8 s) _ _ (λ_ _=>rfl) U]
def qA:∀{l},l.lookup fl=none->dJ fl o l=l++[(fl,o)]
 | [],_=>rfl
 |(g,y)::r,e=>by
  by_cases z:fl=g;grind;have c:(fl == g)=false:=by simpa using z
  rw[bO,c]at e;simp only[dJ,if_neg (λq:g=fl=>z q.symm),qA e,dH]
def tI:∀{l},l.lookup fl=none->iU fl v l=l++[(fl,v)]
 | [],_=>rfl
 |(g,y)::r,e=>by
  by_cases z:fl=g;grind;have c:(fl == g)=false:=by simpa using z
  rw[bO,c]at e;simp only[iU,if_neg (λq:g=fl=>z q.symm),tI e,dH]
def a9(e:OwOk G H o v):∀{l:FsO} {c},OwOkf G H l c->OwOkf G H (l++[(fl,o)]) (c++[(fl,v)])
 | [],_,h=>by subst h;exact#[_,_,rfl,#[rfl,e],rfl]
 |(g,y)::r,c,h=>by obtain⟨w,p,rfl,j,m⟩:=h;exact#[_,_,rfl,j,a9 e m]
def aCy:∀{l:FsO},fP (l++[(fl,o)])=fP l++o.fp
 | []=>by simp only[bZ,fP,aP]
 |(g,y)::r=>by simp only[dH,fP,aCy,bN]
def Rep.setFO(h:nG i=some (C,a,dx,l,f))(R:Rep F ((.v<|.ol ds,some v)::(i,x)::P) H)(S:l.lookup fl=none)(hw:H a=some (.ins C dx p)) :
  ∃b,v=.ref b/\Rep F ((f<|.oi C a dx<|dJ fl (.ol b<|ds.map Ow.tr) l,x)::P) (upd H a<|.ins C dx<|iU fl v p):=by
 have R2:Rep F ((i,x)::(.v<|.ol ds,some v)::P) H:=R.perm<|.swap _ _ _;obtain⟨rfl,o,hO,_⟩:=cw_ h R2;obtain⟨a1,N,h2,O⟩:=OwOk.ins hO;rw[hw]at N;cases N;obtain⟨b,vs,e,hb,hl⟩:=R.atL;cases e;refine#[b,rfl,?_];have m:eL (.v<|.ol ds,some<|V.ref b)=[b]:=rfl;simp only[Ow.fp]at o;have G:=R.nd;rw[iT,iT,o,m]at G;obtain⟨U,m2⟩:=bW.mp<|show(b::((a::dx::fP l)++bD P)).Nodup from G;obtain⟨W,a0,Y⟩:=bS.mp m2;obtain⟨Z,n2⟩:=bW.mp W;have n:b≠a:=λq=>U (by rw[q];exact aM _ aB);have Kz:=O.miss S;rw[qA S,tI Kz];have k:fP (l++[(fl,Ow.ol b<|ds.map Ow.tr)])=fP l++[b]:=by rw[aCy];simp only[Ow.fp,kr_]
 obtain⟨j,Q⟩:=aBy h R2 (l':=l++[(fl,Ow.ol b<|ds.map Ow.tr)]);rw[k]at j;have L:∀c,c∈a::dx::(fP l++[b])↔c∈bD [((.v<|.ol ds,some<|V.ref b):Rw),(i,some `i)]:=λc=>by rw[iT,iT,o,m];simp[bD];grind
 refine Rep.alterB (A:=[(.v<|.ol ds,some<|.ref b),(i,some `i)]) (A':=[(f<|.oi C a dx<|l++[(fl,Ow.ol b<|ds.map Ow.tr)],some `i)]) R ?_ (λc g=>?_) (λr D c g=>?_) (λc u g hu=>?_) (λc g=>?_)<|λr D=>?_;rw [iT,j];have:(a::dx::(fP l++[b])).Nodup:=by have:=U;simp only[aX,aE,not_or]at this;simp only[bW,aE,aX,bS,aF]at W ⊢;grind
 simpa [bD]using this;refine (L c).mp ?_;rw[iT,j]at g;simpa [bD]using g;rw [aF.mp D] at g ⊢;rw[j]at g;by_cases q:c=b;refine Q c ?_;have I:F.H0 b=none:=R.fr _ aB b (by rw[m];exact aF.mpr rfl);subst q;obtain⟨_,_,_,hs⟩:=cw_ h R2;rcases hs with⟨s,_⟩ | ⟨s,_⟩
 rw[s];exact .inr I;rw[s];exact I;refine Q c<|R2.fr _ aB c ?_;rw[o];simp only[aE,aX,bG,or_false]at g ⊢;grind;rw[dZ λq=>g<|(L c).mp (by rw[q];exact aB)];exact hu;by_cases q:c=a;exact#[_,by rw[q];exact bY];rw [dZ q];exact R.own_in (by rw[show((Sl.v<|.ol ds,some<|V.ref b)::(i,some<|V.ref a)::P)=[(Sl.v<|.ol ds,some<|V.ref b),(i,some<|V.ref a)]++P from rfl,oS];exact aM _ g);rw [aF.mp D];refine tQ h ?_;have J:bD [(f<|.oi C a dx<|l++[(fl,Ow.ol b<|ds.map Ow.tr)],some<|V.ref a)]=a::dx::(fP l++[b]):=by rw[iT,j];simp[bD]
 have d:∀c,c∈bD [(f<|.oi C a dx<|l++[(fl,Ow.ol b<|ds.map Ow.tr)],some<|V.ref a)]++bD P↔c∈bD ((Sl.v<|.ol ds,some<|V.ref b)::(i,some<|V.ref a)::P):=λc=>by rw[J,iT,iT,o,m];simp;grind
 have B:a∈bD [(f<|.oi C a dx<|l++[(fl,Ow.ol b<|ds.map Ow.tr)],some<|V.ref a)]++bD P:=by rw[J];exact aM _ aB
 have M:Same (hid (bD ((Sl.v<|.ol ds,some<|V.ref b)::(i,some<|V.ref a)::P)) `n)<|hid (bD [(f<|.oi C a dx<|l++[(fl,Ow.ol b<|ds.map Ow.tr)],some<|V.ref a)]++bD P)<|F.vis<|upd H a<|.ins C dx<|p++[(fl,V.ref b)]:=λc u g=>d8 B c u<|lF (λz E=>(d z).mp E) c u g;have ep:bD ((i,some<|V.ref a)::(Sl.v<|.ol ds,some<|V.ref b)::P)=bD ((i,some<|V.ref a)::(Sl.v<|.ol ds,some<|V.ref b)::P):=rfl;have t:Same (hid (bD ((i,some<|V.ref a)::(Sl.v<|.ol ds,some<|V.ref b)::P)) `n)<|hid (bD [(f<|.oi C a dx<|l++[(fl,Ow.ol b<|ds.map Ow.tr)],some<|V.ref a)]++bD P)<|F.vis<|upd H a<|.ins C dx<|p++[(fl,V.ref b)]:=λc u g=>M c u<|lF (λz E=>(tN<|.swap _ _ _).mem_iff.mp E) c u g;simp only[OwOk];refine#[trivial,_,bY,by rw[dZ λq=>Z (by rw[<-q];exact aB)];exact h2,?_];refine a9 ?_<|OwOkf.mono (.of t) _ _ (λc g=>dZ λq=>Z (by rw[<-q];exact aC _ g)) O;simp only[OwOk];refine#[trivial,vs,by rw[dZ n];exact hb,wR<|hl.imp λ_ _ z=>z.to λc u g=>M c u<|lF (λy T=>?_) c u g];rw[iT,m]at T;exact T
end
def aMo(ρ:En)(i:Nat)(c:Addr)(f:Str)(b:Addr)(ds:S1):Prop:=∃a e l g,lI ρ i=some (c,a,e,l,g)/\l.lookup f=some (.ol b<|ds.map Ow.tr)
def aVa(e:Addr)(f:Str)(i:Nat)(t:XT):XT:=λg Q=>∃b h,aMo g i e f b h/\t g λk c=>∃a,aMo c i e f b a/\ixP a k.d λd=>Q (.tr d) c
def bDe(e:Addr)(f:Str)(i:Nat):XT:=λc Q=>∃b a,aMo c i e f b a/\Q (.tr<|.int a.length) c
def aHx(e:Addr)(f:Str)(i:Nat)(t:XT):XS:=λm D=>∃b o,aMo m i e f b o/\t m λs c=>∃a j l g h,lI c i=some (e,a,j,l,g)/\l.lookup f=some (.ol b<|h.map Ow.tr)/\h.length<1000000/\D.nx (c.set i<|g<|.oi e a j<|dJ f (.ol b<|(h++[s.d]).map Ow.tr) l)
def aUv(e:Addr)(f:Str)(i:Nat)(t:XT):XS:=λm D=>t m λs c=>∃h a j l g,s=.ol h/\lI c i=some (e,a,j,l,g)/\l.length<1000/\l.lookup f=none/\∀b,D.nx<|c.set i<|g<|.oi e a j<|dJ f (.ol b<|h.map Ow.tr) l
def xU(E:EOk F ρ σ fr H)(h:aMo ρ i C f b ds):∃a dx e vs,σ[i]? = some (some `i)/\H a=some (.ins C dx e)/\e.lookup f=some (.ref b)/\H b=some (.lst vs)/\All2 (IsX<|hid (bD<|ρ.zip σ++fr) `n) ds vs:=by obtain⟨a,dx,l,g,o,A⟩:=h;obtain⟨G,j,p⟩:=bR.mp o;obtain⟨v,hv,I,m⟩:=uY E j;obtain⟨rfl,_,u,_⟩:=cw_ p m;obtain⟨e,q,_,r⟩:=OwOk.ins u;obtain⟨w,B,D⟩:=r.look A;obtain⟨rfl,vs,s,t⟩:=D;exact#[a,dx,e,vs,hv,q,B,s,(kt_ t).imp λ_ _ z=>z.to<|lF λc y=>(((bv_ j hv).append_right fr).flatMap_right _).mem_iff.mp y]
def aCw:∀{fs} {a},All2 (FvX G) fs a->fs.lookup f=some d->∃v,a.lookup f=some v/\IsX G d v
 | [],_,_,e=>by simp at e
 |(g,y)::r,_,⟨(w1,w2),wr,rfl,⟨h1,h2⟩,h3⟩,e=>by
  cases(h1);by_cases z:f=g;grind;have b:(f == g)=false:=by simpa using z
  rw[bO,b]at e ⊢;exact aCw h3 e
def oK:∀{fs} {a},All2 (FvX G) fs a->fs.lookup f=none->a.lookup f=none
 | [],_,h,_=>by rw[show _=[]from h];rfl
 |(g,y)::r,_,⟨(w1,w2),wr,rfl,⟨h1,h2⟩,h3⟩,e=>by
  cases(h1);by_cases z:f=g;subst z;rw[gW]at e;cases e;have b:(f == g)=false:=by simpa using z
  rw[bO,b]at e ⊢;exact oK h3 e
def bDd(b:Addr)(f:Str)(to:XT):XT:=λc Q=>to c λs a=>∃fs d,s.d=.ins b fs/\fs.lookup f=some d/\Q (.tr d) a
def aHv(c:Addr)(m:Str)(g:GC)(to:XT)(u:XA):XT:=λf Q=>to f λs a=>(∃fs,s.d=.ins c fs/\fs.lookup m=none)/\u a λe b=>g (s.d::e.map Sv.d) λr=>Q r b
def aOu(Ex:ExT)(c:Addr)(m:Str)(g:GE)(to:XT)(u:XA):XT:=λf Q=>to f λs a=>(∃fs,s.d=.ins c fs/\fs.lookup m=none)/\u a λe b=>g (s.d::e.map Sv.d) (λr=>Q r b) Ex
section
variable{j i:Nat}{x m f:Str}{ps:S4}{e o b:Expr}{A:T6}{u:XA}{t to:XT}{p r z:Pos}{C:Addr}
def aHl(K:dN)(c:Cls X.K C)(W:NoAttr X.K C f)(hv:PE X o<|fO i)(Z:XE X Ex b t)(Y:jY b)(h:X.K=K:=by rfl)(T:attributeBase o f X.env (eval o X.env)=eval o X.env:=by rfl):XE X Ex (.Subscript (.Attribute o f z) b r)<|aVa C f i t:=λF=>by refine(zY xI (qI hv T) (Z F) Y).weak λσ H Q=>?_;rintro⟨ρ,fr,Qx,E,⟨b,ds,N,t⟩,k⟩;obtain⟨a,L,ws,vs,hv,O,S,h3,h4⟩:=xU E N;refine#[.ref a,hv,a,C,L,ws,.ref b,rfl,O,c,W,S,ρ,fr,_,E,t,λw s I G g B=>?_];obtain⟨l,q,B⟩:=B;obtain⟨R,n⟩:=g.one;obtain⟨a',M,a0,D,Au,J2,J1,J,y⟩:=xU g.drop q;exact aTx _ I b D l s.d w Q _ R.hv J y n B λv d U V=>k v (.tr d) I G (EOk.back g.len<|R.add U) V
def aOp{py}(K:dN)(c:Cls X.K C)(R:NoAttr X.K C f)(hv:PE X o<|fO i)(N:Gl X y)(O:X.mg y=none)(v:bootBuiltins y=some (.builtin "len"))(h:X.K=K:=by rfl)(M:attributeBase o f X.env (eval o X.env)=eval o X.env:=by rfl)
  (g:y ≠ "__name__":=by decide) (s:U5 y:=by decide) (l:starEach [.Attribute o f z] X.env=(false,eval (.Attribute o f z) X.env)::starEach [] X.env:=by rfl):XE X Ex (.Call (.Name y py) [.Attribute o f z] [] r)<|bDe C f i:=λF=>by
 refine(ew_ jV N O v (lK (qI hv M) i4 l) g s l).weak λZ H Q q=>?_;obtain⟨U,fr,W,E,⟨b,Y,D,t⟩,k⟩:=q;obtain⟨a,B,T,S,hv,G,I,J,L⟩:=xU E D;refine#[.ref a,hv,a,C,B,T,.ref b,rfl,G,c,R,I,b,S,rfl,.inl<|SqL.of J,?_];exact k _ _ H U (EOk.back E.len<|E.rep.add (by rw[L.len];exact IsX.of_int _)) t
def aPd(c:Cls X.K C)(hn:NoAttr X.K C f):∀D h H,tXS F (aHx C f i t) D h H->aAw (tBM X.K "list" nZ (bDt X.K (fO i) f)<|lU (tX F t) sB) D h H:=by rintro D h H ⟨ρ,fr,d,E,⟨b,Rx,W,q⟩,k⟩;obtain⟨a,N,ws,vs,hv,Y,Z,n,h4⟩:=xU E W;refine#[.ref a,hv,a,C,N,ws,.ref b,rfl,Y,c,hn,Z,.inl #[rfl,vs,SqL.of n],ρ,fr,_,E,q,λy s H' a1 v B=>?_];obtain⟨a2,O,l,g,ds,Q,S,hl,B⟩:=B;obtain⟨R,hx⟩:=v.one;obtain⟨Jo,I,k2⟩:=bR.mp Q;obtain⟨v',G,hi,L⟩:=uY #[v.len,R] I;obtain⟨rfl,a0,J,g1,g2,T,U,M⟩:=L.appF k2 S<|hx.to<|lF λc V=>(((bv_ I G).append_right fr).flatMap_right _).mem_iff.mpr V;exact#[b,J,y,rfl,rfl,T,by rw[U];have:=iM;exact jE hl this,k.nx h _ _ rfl (fq_ v.len hi G M) B]
def aOg(c:Cls X.K C)(Y:NoAttr X.K C f)(hv:PE X o<|fO i)(k:XE X Ex value tv)(Z:swapsWith value (some<|.Attribute o f pos') r.line X.env=pure false:=by rfl):XSt X Ex (.Assign [.Attribute o f pos'] value r)<|aUv C f i tv:=λF=>(aJo hv (k F) Z).weak λD σ H=>by rintro⟨V,fr,d,E,t,N⟩;refine#[V,fr,_,E,t,λv s H2 a0 q G=>?_];obtain⟨ds,a,Q,l,g,rfl,R,W,M,G⟩:=G;obtain⟨Jo,B,J⟩:=bR.mp R;obtain⟨v',h⟩:=oI q.len B;have U:=(aL.mp B).1;have I:=q.front.perm<|((bv_ B h).append_right fr).cons _;have y:=I.perm<|.swap _ _ _;obtain⟨rfl,_,T,_⟩:=cw_ J y;obtain⟨n,L,_,S⟩:=OwOk.ins T;obtain⟨b,rfl,O⟩:=I.setFO J M L;exact#[.ref a,h,a,C,Q,n,rfl,L,c,Y,by rw[S.len];exact W,N.nx _ _ _ rfl (fq_ q.len U h O)<|G b]
def nR(c:Cls X.K C)(M:NoAttr X.K C f)(N:XE X Ex o to)(I:attributeBase o f X.env (eval o X.env)=eval o X.env:=by rfl):XE X Ex (.Attribute o f r)<|bDd C f to:=λF=>(qI (N F) I).weak λW H Q=>by rintro⟨T,fr,U,E,t,k⟩;refine#[T,fr,_,E,t,λv s y g h q=>?_];obtain⟨fs,d,e,L,q⟩:=q;obtain⟨R,l⟩:=h.one;rw[e]at l;obtain⟨a,B,S,rfl,D,G⟩:=l.ins_eq;obtain⟨w,O,J⟩:=aCw G L;exact#[a,C,B,S,w,rfl,R.hv _ _ D,c,M,O,k w (.tr d) y g (EOk.back h.len<|R.add J) q]
def aDx(M:sR X.prog X.w X.K X.mg X.base j C m ps<|spX g)(h:Room j X.A)(W:XE X Ex o to)
  (Y:eval (.Call (.Attribute o m z) [] [] r) X.env=(do
   let ov <-eval o X.env
   standAt z.atName
   let (f,first) <-holding [ov] (getMethod ov m pl)
   callWith r f first (backTo r<|starEach [] X.env) (backToKw r<|keywordEach [] X.env)):=by rfl) :
  XE X Ex (.Call (.Attribute o m z) [] [] r) (aHv C m g to cG):=λF=>by
 obtain⟨c,f,fd,U,T,S⟩:=M;refine(aJx (W F) c U T h S .nil zZ Y).weak λσ H Q=>?_;rintro⟨d,fr,V,E,t,k⟩;refine#[d,fr,_,E,t,λv s n y B l=>?_];obtain⟨⟨fs,A,J⟩,l⟩:=l;obtain⟨R,G⟩:=B.one;have D:=G;rw[A]at D;obtain⟨a,L,Z,rfl,N,O⟩:=D.ins_eq;exact#[a,L,Z,rfl,R.hv _ _ N,oK O J,_,[s.d],_,R.hv,#[_,_,rfl,G,rfl],l,λs v I e h q=>k v s I y (EOk.back B.len<|R.res e h) q]
def he_{pl:Sem Bool}(M:rV X.prog X.w X.K X.mg X.base j C m ps<|spE g)(L:Room j X.A)(ho:XE X Ex o to)(ha:XAs X Ex (e::A) u)
  (Z:U7 X e A:=by rfl) (Y:U8 X r A:=by rfl)
  (ht:eval (.Call (.Attribute o m z) (e :: A) [] r) X.env=(do
   let ov <-eval o X.env
   standAt z.atName
   let (f,first) <-holding [ov] (getMethod ov m pl)
   callWith r f first (backTo r<|starEach (e::A) X.env) (backToKw r<|keywordEach [] X.env)):=by rfl) :
  XE X Ex (.Call (.Attribute o m z) (e::A) [] r) (aOu Ex C m g to u):=λF=>by
 obtain⟨c,f,fd,hm,hf,hb⟩:=M;refine(aBm (E:=λc _ y=>Ex c/\aGs F y) (ho F) c hm hf L hb .nil (λW S H s e s' I h=>OkF.pass W S H s e s' I h) (ha F) Z Y ht).weak λS H Q=>?_;rintro⟨ρ,fr,Qx,E,t,k⟩;refine#[ρ,fr,_,E,t,λv s H1 O T N=>?_];obtain⟨⟨fs,A,V⟩,N⟩:=N;obtain⟨R,hx⟩:=T.one;have U:=hx;rw[A]at U;obtain⟨a,dx,ws,rfl,G,J⟩:=U.ins_eq;refine#[a,dx,ws,rfl,R.hv _ _ G,oK J V,O,_,_,T,N,λvs ss n l hl B q2=>?_];have d:EOk F l S (kW (s::ss) (.ref a::vs)++fr) n:=#[B.len,B.rep.perm<|List.Perm.append_left _ eK];obtain⟨D,hs⟩:=EOk.many (by rw[aK,aK,hl]) d;dsimp only;rw[aP];exact#[_,_,_,Ex,D.hv,hs,q2,λs v y e L q=>k v s y l (EOk.back B.len<|D.res e L) q,λc y e q=>#[q,λb o G J=>e b o<|D.kp b o G J]]
end
section
variable{X:Cx}{w:gM}{i:St}{t:Value->Hp->Prop}{F:Fm}{g:GE}{to:XT}{u:XA}
def aIk(F:Fm)(i:St)(t:Value->Hp->Prop)(o:Addr)(m:Str)(g:GE)(to:XT)(u:XA):TE:=λf H Q=>f=i/\∃(l:En) (fr:S9) (j:Sv->En->Prop) (e:Value->En->Prop),EOk F l f fr H/\(to l λs h=>(∃fs,s.d=.ins o fs/\fs.lookup m=none)/\u h λp a=>g (s.d::p.map Sv.d) (λs=>j s a)<|λc=>e c a)/\(∀v s b a,EOk F a f ((.v s,some v)::fr) b->j s a->Q v b)/\∀c b a,EOk F a f fr b->e c a->t c b
def aJw{apos pos}{pl:Sem Bool}(M:rV X.prog X.w X.K X.mg X.base j C m ps<|spE g)(hr:Room j X.A)(ho:XE (sA X w i t) dQ o to)(ha:XAs (sA X w i t) dQ (e::B) u)(Gp:X.ex=[]:=by rfl)
  (B8:U7 X e B:=by rfl) (Ag:U8 X pos B:=by rfl)
  (ht:eval (.Call (.Attribute o m apos) (e :: B) [] pos) X.env=(do
   let ov <-eval o X.env
   standAt apos.atName
   let (f,first) <-holding [ov] (getMethod ov m pl)
   callWith pos f first (backTo pos<|starEach (e::B) X.env) (backToKw pos<|keywordEach [] X.env)):=by rfl):PE (sA X w i t) (.Call (.Attribute o m apos) (e::B) [] pos)<|aIk F i t C m g to u:=by
 obtain⟨c,f,fd,hm,G,Z⟩:=M;intro y s k H Q I h;obtain⟨rfl,ρ,fr,Qx,n,E,q,k1,k2⟩:=h;refine PySem.W.methodCall_KW (pl:=pl) (dR (ho F y s k H (λx N=>∃a Y fs,x=.ref a/\N a=some (.ins C Y fs)/\fs.lookup m=none/\tXa F u k N λL O=>spE g (x::L) O Q<|λc _ D=>t c D) I #[ρ,fr,_,E,q,λv s1 N a3 E1 q1=>?_]) λuu s1 ⟨x,N,I1,rx,a,Y,fs,ex,ea,l,q⟩=>?_) ht;obtain ⟨⟨fs,B,Jd⟩,q1⟩:=q1;obtain⟨R,hx⟩:=E1.one;have Ig:=hx;rw[B]at Ig;obtain⟨a,Y,ws,rfl,h1,h2⟩:=Ig.ins_eq;refine#[a,Y,ws,rfl,R.hv _ _ h1,oK h2 Jd,a3,_,_,E1,q1,λL ss O A hl W d=>?_];have E3:EOk F A k (kW (s1::ss) (.ref a::L)++fr) O:=#[W.len,W.rep.perm<|List.Perm.append_left _ eK];obtain⟨V,hs⟩:=EOk.many (by rw[aK,aK,hl]) E3;exact#[_,_,_,λc=>n c A,V.hv,hs,d,λs v D e hr q=>k1 v s D A (EOk.back W.len<|V.res e hr) q,λc D e q=>k2 c D A #[W.len,V.grow e] q]
 ·subst ex;obtain rfl:uu=Value.ref a:=rx;refine iw_ I1 ea c hm l ?_;refine PySem.W.callWith_K I.ok.mod.kin hm.kp (dR (ha F pos y s1 k N _ I1 q) λU s2 Ab=>?_) B8 Ag;obtain⟨L,O,J,r,d⟩:=Ab;refine#[J.kIn,?_];have r2:Vals (.ref a::L) (.ref a::U):=.cons rfl r;have hl:=G.len _ _ _ _ d;have Aw:(Value.ref a::U).length=ps.length:=by rw[<-r2.length];exact hl
  refine wpAny_call (codeAny_mono (G.run X.A X.stack s2 O #[.ref a::U,[]] (.ref a::U) (.ref a::L) Q _ hr J.env0 (by have:=Z s2 (.ref a::U) J.kIn (by rw[aP];exact Aw);rwa [aP]at this) r2 d) λr s' T=>?_);cases r with
  |error e =>
   obtain⟨ea,a1,D,rfl,os,S,un,a2,a0,hx⟩:=T;refine#[ea,a1,D,rfl,Inv.outTry<|Inv.thrown J os S un a2,a0.older λb Z=>#[?_,λp hp z=>?_],hx];cases qq:X.s₀.heap.get? b with
   |none=>rfl
   |some o => obtain⟨o',e'⟩:=J.base.there b o qq (by show b∉X.ex;rw[Gp];simp);rw[Z]at e';cases e'
   obtain ⟨e1,_⟩:=J.pin p<|aM _ hp;rw[z,Z]at e1;cases e1
  |ok fl =>
   cases fl with
   |ret v=>exact J.after T
   |next=>exact False.elim T
   |brk=>exact False.elim T
   |cont=>exact False.elim T
end
def aUq(e:Addr)(m:Str)(g:GE)(to:XT)(u:XA):XQ:=λi N f=>to i λs b=>(∃fs,s.d=.ins e fs/\fs.lookup m=none)/\u b λh a=>g (s.d::h.map Sv.d) (λ_=>N a)<|λc=>f c a
def aOj(h:∀f a c F,PE (sA X f a c) e<|aIk F a c C m g to u)(p:swapsWith e none pos.line X.env=pure false:=by rfl):XQs X [.Expr e pos] (aUq C m g to u):=λf a c F=>(wG<|io_ (h f a c F) p).weak λD A H=>by rintro⟨rfl,z,fr,o,i,E,q,r,t⟩;exact#[rfl,z,fr,λ_ b=>o b,i,E,q,λv s l b j y=>r A l b rfl j.drop y,t]
def zG{b:Type}{r:List b}{a:b}(h:k<r.length):(r.set k a).Perm (a::r.eraseIdx k):=by have:=zW (x:=a) (i:=k) (by rw[fD h]);rwa [List.eraseIdx_set_eq]at this
def aTq{f:Type}:∀{l:List f} {i j} {x y:f},i≠j->l[i]? = some x->l[j]? = some y->∃P,l.Perm (x::y::P)/\∀b c,((l.set i b).set j c).Perm (b::c::P)
 | [],_,_,_,_,_,h,_=>by simp at h
 |a::r,0,0,_,_,h,_,_=>absurd rfl h
 |a::r,0,k+1,x,y,_,h1,h2=>by simp at h1 h2;subst h1;obtain⟨e,_⟩:=aL.mp h2;exact#[r.eraseIdx k,(zW h2).cons _,λb c=>(zG e).cons _]
 |a::r,k+1,0,x,y,_,h1,h2=>by simp at h1 h2;subst h2;obtain⟨e,_⟩:=aL.mp h1;exact#[r.eraseIdx k,((zW h1).cons _).trans<|.swap _ _ _,λb c=>((zG e).cons _).trans<|.swap _ _ _]
 |a::r,i+1,j+1,x,y,h,h1,h2=>by obtain⟨P,g,m⟩:=aTq (l:=r) (i:=i) (j:=j) (Nat.add_one_ne_add_one_iff.mp h) (by simpa using h1) (by simpa using h2);exact#[a::P,(g.cons a).trans<|(List.Perm.swap _ _ _).trans<|(List.Perm.swap _ _ _).cons _,λb c=>((m b c).cons a).trans<|(List.Perm.swap _ _ _).trans<|(List.Perm.swap _ _ _).cons _]
abbrev GB3:=S1->S1->S1->(Sv->S1->S1->Prop)->Prop
def aIp(g:GB3):Sp:=λp H Q _=>∃(F:Fm) (a b c:Addr) (l m o:S1) (j:Sv->S1->S1->Prop),p=[.ref a,.ref b,.ref c]/\F.H0=H/\F.B=[a,b,c]/\Rep F [(.ba a l,some `i),(.ba b m,some<|.ref b),(.ba c o,some<|.ref c)] H/\g l m o j /\
 ∀s v h e f i,Rep F [(.v s,some v),(.ba a h,some `i),(.ba b e,some<|.ref b),(.ba c f,some<|.ref c)] i->j s e f->Q v i
def aHw(g:GB3)(t:XT)(i j:Nat):XT:=λf Q=>t f λs a=>i≠j/\∃e,s=.ol e/\match (a[i]?).bind iR,(a[j]?).bind iR with
 |some (l2,f2),some (l3,f3)=>g e l2 l3 λr b c=>Q r ((a.set i<|f2 b).set j<|f3 c)
 |_,_=>False
def aCh{P}(h:iR sl=some (l,f))(R:Rep F ((sl,x)::P) H):∃p,x=some (.ref p)/\eL (sl,x)=[p]/\(∀O G K,RowOk O G K (sl,x)->RowOk O G K (.ba p l,x))/\(∀l' O G K,RowOk O G K (.ba p l',x)->RowOk O G K (f l',x))/\(∀l',eL (f l',x)=[p])/\(∀l',FrOk F (f l',x) p):=by
 match sl,h with
 | .bw l,h => cases h;obtain⟨p,c,rfl,b,j⟩:=R.ok _ aB;refine#[p,rfl,rfl,λ_ _ _ i=>?_,λ_ _ _ _ ⟨_,c,g,b⟩=>#[p,c,rfl,g,b],λ_=>rfl,λ_=>R.fr _ aB p<|aF.mpr rfl];obtain⟨a,c,e,g,b⟩:=i;exact by cases e;exact#[rfl,c,g,b]
 | .ba a l,h => cases h;obtain⟨rfl,c,b,j⟩:=R.ok _ aB;exact#[a,rfl,rfl,λ_ _ _ z=>z,λ_ _ _ _ z=>z,λ_=>rfl,λ_=>R.fr _ aB a<|aF.mpr rfl]
 | .v (.ol l),h => cases h;obtain⟨p,c,rfl,b,j⟩:=R.ok _ aB;refine#[p,rfl,rfl,λ_ _ _ i=>?_,λ_ _ _ _ ⟨_,c,g,b⟩=>#[p,c,rfl,g,b],λ_=>rfl,λ_=>R.fr _ aB p<|aF.mpr rfl];obtain⟨a,c,e,g,b⟩:=i;exact by cases e;exact#[rfl,c,g,b]
def aHp{p pos}(C:Cal X.prog X.w X.K X.mg X.base n x ps<|aIp g)(B:Room n X.A)(ht:XE X Ex e t)(Mf:PE X e2<|fO i)(a0:PE X e3<|fO j)(hg:Gl X x:=by rfl)(A6:U5 x:=by decide)
  (he:starEach [e,e2,e3] X.env=(false,eval e X.env)::starEach [e2,e3] X.env:=by rfl) (Fz:starEach [e2,e3] X.env=(false,eval e2 X.env)::starEach [e3] X.env:=by rfl) (Pa:starEach [e3] X.env=(false,eval e3 X.env)::starEach [] X.env:=by rfl) (Ag:(backTo pos<|starEach [e2,e3] X.env).any (·.1)=false:=by rfl):XE X Ex (.Call (.Name x p) [e,e2,e3] [] pos)<|aHw g t i j:=λF=>(qJ C B (lK (ht F) (lK Mf (lK a0 i4 Pa) Fz) he) hg A6 he Ag).weak λσ H Q=>by
 rintro⟨ρ,fr,Qx,E,t,k⟩;refine#[ρ,fr,_,E,t,λv1 s D W Y U=>?_];obtain⟨Cr,I,rfl,U⟩:=U;split at U;rename_i l2 f2 l3 f3 Gu Rj;obtain⟨M,a2,b2⟩:=bR.mp Gu;obtain⟨N,a3,b3⟩:=bR.mp Rj;obtain⟨x2,G1⟩:=oI Y.len a2;obtain⟨x3,Ni⟩:=oI Y.len a3;obtain⟨S,pm,a1⟩:=aTq Cr (m4 a2 G1)<|m4 a3 Ni;have y:Rep F ([(.v<|.ol I,some v1),(M,x2),(N,x3)]++(S++fr)) D:=Y.front.perm<|((pm.append_right fr)).cons _;obtain⟨f,a4,e1,g1,_⟩:=y.atL;cases e1;obtain⟨c,rfl,o2,r2,c2,w2,z2⟩:=aCh b2<|y.perm<|.swap _ _ _;obtain⟨l,rfl,o3,r3,c3,w3,z3⟩:=aCh b3<|y.perm<|(List.Perm.swap (N,x3) (M,some<|V.ref c) _).cons _ |>.trans (.swap _ _ _);have oL:bD [((.v<|.ol I,some<|V.ref f):Rw),(M,some<|.ref c),(N,some<|.ref l)]=[f,c,l]:=by rw[iT,iT,iT,o2,o3];rfl
 have d:∀b∈[f,c,l],hid (bD<|[((.v<|.ol I,some<|V.ref f):Rw),(M,some<|.ref c),(N,some<|.ref l)]++(S++fr)) (F.vis D) b=none:=λb A=>by unfold hid;rw[if_pos];rw[oS,oL];exact aM _ A
 have Z:∀b∈[f,c,l],∃o,D b=some o:=λb A=>y.own_in (by rw[oS,oL];exact aM _ A);refine#[.ref c,G1,.ref l,Ni,?_];refine#[#[D,hid (bD<|[((.v<|.ol I,some<|V.ref f):Rw),(M,some<|.ref c),(N,some<|.ref l)]++(S++fr))<|F.vis D,[f,c,l],y.hv,d,Z],f,c,l,I,l2,l3,_,rfl,rfl,rfl,?_,U,λs v T J L H' R' q=>?_];have oB:bD [((.ba f I,some<|V.ref f):Rw),(.ba c l2,some<|.ref c),(.ba l l3,some<|.ref l)]=[f,c,l]:=rfl;refine#[?_,λr B=>?_,λr B b A=>?_,λb o A _=>A,Z];rw [oB,← oL];have:=y.nd;rw[oS]at this;exact(bS.mp this).1;have mono:∀ q,RowOk (bD<|[((.v<|.ol I,some<|V.ref f):Rw),(M,some<|.ref c),(N,some<|.ref l)] ++ (S ++ fr)) (F.vis D) D q→RowOk [f,c,l] (Fm.vis #[D,hid (bD<|[((.v<|.ol I,some<|V.ref f):Rw),(M,some<|.ref c),(N,some<|.ref l)] ++ (S ++ fr))<|F.vis D,[f,c,l],y.hv,d,Z] D) D q:=fun q m=>m.mono (.of fun b u A=>by refine bB.mpr #[λz=>?_,(kH<|y.hv _ _ A).trans A];rw[d b z]at A;cases A) λ_ _=>rfl;rcases aE.mp B with rfl | B
 exact mono _ (by obtain⟨a,vs,e,h1,h2⟩:=y.ok (.v<|.ol I,some<|.ref f) aB;cases e;exact#[rfl,vs,h1,h2]);rcases aE.mp B with rfl | B
 exact mono _<|r2 _ _ _<|y.ok (M,some<|.ref c)<|aC _ aB;rw [aF.mp B];exact mono _<|r3 _ _ _<|y.ok (N,some<|.ref l)<|aC _<|aC _ aB;rcases aE.mp B with rfl | B
 rw[aF.mp<|A];exact aB;rcases aE.mp B with rfl | B
 rw[aF.mp<|A];exact aC _ aB;rw [aF.mp B] at A ⊢;rw[aF.mp<|A];exact aC _<|aC _ aB;have R2:=y.backs (F':=#[D,_,[f,c,l],y.hv,d,Z]) (A'':=[(.v s,some v),(.v<|.ol T,some<|.ref f),(f2 J,some<|.ref c),(f3 L,some<|.ref l)]) rfl oL.symm rfl R' (by simp only [iT,w2,w3]; rfl) (fun O G K h q m => ?_)<|fun q m a R => ?_;have R3:=(R2.perm<|.swap _ _ _).tail;refine k v s H' _ (EOk.back (by rw[bJ,bJ];exact Y.len)<|R3.perm<|List.Perm.cons _ ?_) q;have hz:((W.set i<|f2 J).set j<|f3 L).zip σ=((W.zip σ).set i (f2 J,some<|.ref c)).set j (f3 L,some<|.ref l):=by rw[<-nK,<-nK,pP (show(σ.set i<|some<|.ref c)[j]? = some (some<|V.ref l) by rw[cI Cr];exact Ni),pP G1]
 rw[hz];exact((a1 _ _).append_right fr).symm;rcases aE.mp m with rfl | m
 exact h _ aB;rcases aE.mp m with rfl | m
 obtain⟨_,vs,h1,h2⟩:=h (.ba f T,some<|.ref f)<|aC _ aB;exact#[f,vs,rfl,h1,h2];rcases aE.mp m with rfl | m
 exact c2 _ _ _ _<|h (.ba c J,some<|.ref c)<|aC _<|aC _ aB;rw [aF.mp m];exact c3 _ _ _ _<|h (.ba l L,some<|.ref l)<|aC _<|aC _<|aC _ aB;rcases aE.mp m with rfl | m
 have hf:=R'.fr (.v s,some v) aB a R;exact y.fresh hf;rcases aE.mp m with rfl | m
 rw [aF.mp<|R];exact y.fr (.v<|.ol I,some<|.ref f) aB f<|aF.mpr rfl;rcases aE.mp m with rfl | m
 rw [w2] at R;rw[aF.mp R];exact z2 _;rw [aF.mp m] at R ⊢;rw[w3]at R;rw[aF.mp R];exact z3 _;exact U.elim
def lW(N:S4)(e f g:Addr)(a b c:S1):En:=.ba e a :: .ba f b :: .ba g c::List.replicate (N.length-3) .un
def mE(a b c:Addr)(Q:Sv->S1->S1->Prop)(s:Sv)(ρ:En):Prop:=match ρ with
 | .ba a1 _ :: .ba a2 l2 :: .ba a3 l3::_=>a1=a/\a2=b/\a3=c/\Q s l2 l3
 |_=>False
abbrev aTi(b c e:Addr)(Q:Sv->S1->S1->Prop):XD:=#[λa=>mE b c e Q (.tr .non) a,λs a=>mE b c e Q s a,λ_=>False,λ_=>False]
def bGm(U:Fun K x qual st f fd)(S:FnScope N ps<|aQ st)(W:ps.length=3)(hN:3<=N.length)
  (T:∀ (y:Value) (A:Around) (a:List Env) (s:Shared) (H:Hp) (E:XK),Room k (A.deeper<|PyProof.Rows.envOfC qual (aQ st) s.heap.objs.size f y) →
   ∃G,XSs (jT CX0 P w K mg base N qual (aQ st) f y A a s H E).nox dQ (fB st) G/\∀b c e m o p Q,g m o p Q->G (lW N b c e m o p) (aTi b c e Q)):FnOk P w K mg base CX0 (k+1) f fd ps<|aIp g:=by
 refine U.ok S (λvs H Q E h=>?_)<|λy A a s H vs Q E hr h=>?_;obtain ⟨F,b,c,e,m,o,p,z,rfl,_⟩:=h;rw[W];rfl;obtain⟨F,b,c,e,m,o,p,z,rfl,h0,hB,R,h3,h4⟩:=h;obtain⟨G,hG,hq⟩:=T y A a s H E hr;have t:∀{u:Sv} {v:V} {j:St} {r:Hp} {i:En},EOk F i j ((.v u,some v)::[]) r->mE b c e z u i->Q v r:=λ{u v j r i} l q=>by
  unfold mE at q;split at q;rename_i C J D L I M a0;obtain⟨rfl,rfl,rfl,q⟩:=q;have O:=l.len
  match j,O,l with
  |x1::x2::x3::σr,O,l => have B:=l.front;obtain⟨Y,_⟩:=B.ok (.ba C J,x1)<|aC _ aB;obtain⟨Z,_⟩:=B.ok (.ba D L,x2)<|aC _<|aC _ aB;obtain⟨n,_⟩:=B.ok (.ba I M,x3)<|aC _<|aC _<|aC _ aB;subst Y Z n;exact h4 u v J L M r (Rep.drops<|B.perm<|fL (l₁:=([(.v u,some v),(.ba C J,some<|.ref C),(.ba D L,some<|.ref D),(.ba I M,some<|.ref I)]:S9))) q
  exact q.elim
 refine#[_,hG F,lW N b c e m o p,[],aTi b c e z,#[?_,?_],hq b c e m o p z h3,#[λj r i _ l q=>t (EOk.back l.len<|l.rep.add (d:=.non) (v:=.non) IsX.of_non) q,λv s j r i _ l q=>t l q,λ_ _ _ _ _ q=>q.elim,λ_ _ _ _ _ q=>q.elim]];unfold lW L2.start;simp only[aI,aA,bP,aK,bE];lia;have ez:(lW N b c e m o p).zip (L2.start N [.ref b,.ref c,.ref e])=[(.ba b m,some<|V.ref b),(.ba c o,some<|.ref c),(.ba e p,some<|.ref e)] ++ List.replicate (N.length - 3) (.un,none):=by unfold lW L2.start;simp only[bQ,fC,dH,bZ,List.zip_cons_cons,aK,bE,List.zip_replicate']
 rw[ez,aP];exact(R.addUs _).perm fL
def owB:Sv->Addr->Option Ow
 | .tr d,_=>some (.tr d)
 | .ow o,_=>some o
 | .ol l,b=>some (.ol b<|l.map Ow.tr)
 | .od _,_=>none
def adr:V->Addr
 | .ref a=>a
 |_=>0
def Rep.toOwB{P}(R:Rep F ((.v s,some v)::P) H)(h:owB s (adr v)=some o):Rep F ((.v<|.ow o,some v)::P) H:=by
 cases s with
 |tr d=>exact R.toOw h
 |ow o=>exact R.toOw h
 |od l=>cases h
 |ol l =>
  obtain⟨b,p,e,j,m⟩:=R.atL;cases e;cases h;have g:eL (.v<|.ow<|.ol b<|l.map Ow.tr,some<|V.ref b)=[b]:=by simp only[eL,Ow.fp,kr_]
  have f:bD ((.v<|.ow<|.ol b<|l.map Ow.tr,some<|V.ref b)::P)=bD ((.v<|.ol l,some<|V.ref b)::P):=by rw[iT,iT,g];rfl
  refine#[by rw[show adr (V.ref b)=b from rfl,f];exact R.nd,λr c=>?_,λr c a i=>?_,R.kp,R.lv];rw [show adr (V.ref b)=b from rfl,f];rcases aE.mp c with rfl | c
  refine #[_,rfl,?_];exact#[rfl,p,j,wR m];exact R.ok r<|aC _ c;rcases aE.mp c with rfl | c
  exact R.fr (.v<|.ol l,some<|.ref b) aB a<|show a∈[b]from g ▸ i;exact R.fr r (aC _ c) a i
def Rep.tmpsB:∀{ss} {vs} {os} {P},ss.length=vs.length->List.zipWith owB ss (vs.map adr)=os.map some->Rep F (kW ss vs++P) H->Rep F (owR os vs++P) H
 | [],[],[],P,_,_,R=>R
 | [],[],_::_,P,_,h,R=>by cases h
 | [],_::_,_,_,h,_,_=>by simp at h
 |_::_,[],_,_,h,_,_=>by simp at h
 |s::ss,v::vs,[],P,h,h2,R=>by cases h2
 |s::ss,v::vs,o::os,P,h,h2,R=>by simp only[bQ,List.zipWith_cons_cons,List.cons.injEq]at h2;have a:=Rep.toOwB (s:=s) R h2.1;have R2:=Rep.tmpsB (ss:=ss) (vs:=vs) (os:=os) (by simpa using h) h2.2<|a.perm eK.symm;exact R2.perm eK
def bCu(u:XA):XT:=λe Q=>u e λa b=>a.length<=1000000/\∀bs:T4,bs.length=a.length->∃c:U4,List.zipWith owB a bs=c.map some/\Q (.ow<|.ot c) b
def aAh(h:XAs X Ex es u):XE X Ex (.Tuple es j pos)<|bCu u:=λF=>(qG<|h F).weak λv H Q=>by
 rintro⟨o,fr,r,E,t,k⟩;refine#[o,fr,_,E,t,λg s q b e c a=>#[by have:=iM;lia,λp l=>?_]];obtain⟨m,f,a⟩:=a.2 (g.map adr) (by rw[aA];exact e.symm);have i:m.length=g.length:=by have:=congrArg List.length f;rw[List.length_zipWith,aA,aA]at this;lia
 have R:=c.rep.perm<|List.perm_append_comm_assoc _ _ _;exact k _ _ _ b (EOk.back c.len<|(R.tmpsB e f).bundleT i l) a
def Rep.split{P}{os}(R:Rep F ((.v<|.ow<|.ot os,x)::P) H):∃p vs,x=some (.ref p)/\H p=some (.tup vs)/\os.length=vs.length/\Rep F (owR os vs++P) H:=by
 obtain⟨v,rfl,y⟩:=R.ok _ aB;obtain⟨p,vs,rfl,u,f⟩:=y;have l:=(OwOks.len f).symm;have j:bD (owR os vs++P)=bD ((.v<|.ow<|.ot os,some<|V.ref p)::P):=by rw[oS,qM l,iT];simp only[eL,Ow.fp]
 have aPl:∀{os:U4} {vs:S3} {G:Hp},OwOks G H os vs->∀r∈owR os vs,∃o v,r=(.v<|.ow o,some v)/\OwOk G H o v/\∀a∈o.fp,a∈jS os:=by
  intro os
  induction os with
  |nil=>intro vs G h r e;simp[owR]at e
  |cons o os z =>
   intro vs G h r e;obtain⟨v,D,rfl,a,b⟩:=h;rcases aE.mp (e)with rfl | e
   exact#[o,v,rfl,a,λc i=>by simp only[jS];exact aM _ i];obtain ⟨B,C,q,s,t⟩:=z b r e;exact#[B,C,q,s,λc i=>by simp only[jS];exact aJ _<|t c i]
 refine#[p,vs,rfl,R.hv _ _ u,l,#[by rw[j];exact R.nd,λr e=>?_,λr e a g=>?_,R.kp,R.lv]];rw [j];rcases aX.mp e with e | e
 obtain ⟨o,v,rfl,m,_⟩:=aPl f r e;exact#[v,rfl,m];exact R.ok r<|aC _ e;rcases aX.mp e with e | e
 obtain ⟨o,v,rfl,m,A⟩:=aPl f r e;exact R.fr (.v<|.ow<|.ot os,some<|.ref p) aB a (by simp only[eL,Ow.fp]at g ⊢;exact A a g);exact R.fr r (aC _ e) a g
def Rep.asL{P:S9}(R:Rep F ((.v<|.ow<|.ol b<|l.map Ow.tr,x)::P) H):Rep F ((.v<|.ol l,x)::P) H:=by
 obtain⟨v,rfl,h⟩:=R.ok _ aB;simp only[OwOk]at h;obtain⟨rfl,m,j,f⟩:=h;have g:eL (.v<|.ow<|.ol b<|l.map Ow.tr,some<|V.ref b)=[b]:=by simp only[eL,Ow.fp,kr_]
 have e:bD ((.v<|.ow<|.ol b<|l.map Ow.tr,some<|V.ref b)::P)=bD ((.v<|.ol l,some<|V.ref b)::P):=by rw[iT,iT,g];rfl
 rw[e]at f;refine#[by rw[<-e];exact R.nd,λr c=>?_,λr c a i=>?_,R.kp,R.lv];rcases aE.mp c with rfl | c
 exact#[b,m,rfl,j,kt_ f];rw[<-e];exact R.ok r<|aC _ c;rcases aE.mp c with rfl | c
 exact R.fr (.v<|.ow<|.ol b<|l.map Ow.tr,some<|.ref b) aB a (by rw[g];exact i);exact R.fr r (aC _ c) a i
def aTd(i j m:Nat)(t:XT):XS:=λg D=>t g λs a=>∃o e b f c,s=.ow (.ot [o,.ol e<|b.map Ow.tr,.ol f<|c.map Ow.tr])/\D.nx (((a.set i<|.v<|.ow o).set j<|.v<|.ol b).set m<|.v<|.ol c)
def aOi(h:∀F,[OkF X Ex F]->PS X st (vO (tX F t)<|aMj K 3<|aRk [i,j,m])):XSt X Ex st<|aTd i j m t:=λF=>(h F).weak λD l H=>by
 rintro⟨J,fr,M,E,q,k⟩;refine#[J,fr,_,E,q,λv s b a r g=>?_];obtain⟨o,L,u,C,f,rfl,g⟩:=g;obtain⟨p,I,e,c,G,R⟩:=r.front.split;cases e
 match I,G,R,c with
 | [v1,v2,v3],_,R,c => have z:=R;have R2:=(z.perm<|.swap _ _ _).asL;have A:=(R2.perm<|(List.Perm.swap (Sl.v<|.ow<|.ol C<|f.map Ow.tr,some v3) (Sl.v<|.ow o,some v1)<|a.zip l++fr).cons _ |>.trans (.swap _ _ _)).asL;have B:Rep F ([(.v<|.ow o,some v1),(.v<|.ol u,some v2),(.v<|.ol f,some v3)]++(a.zip l++fr)) b:=A.perm<|(List.Perm.swap _ _ _).trans<|((List.Perm.swap _ _ _).cons _).trans<|.swap _ _ _;have y:EOk F a l ((.v<|.ow o,some v1)::(.v<|.ol u,some v2)::(.v<|.ol f,some v3)::fr) b:=#[r.len,B.perm<|List.perm_append_comm_assoc _ _ fr];exact#[p,_,rfl,SqT.of c,rfl,v1,_,rfl,v2,_,rfl,v3,_,rfl,rfl,k.nx _ b _ (by simp only[bJ]) (ex_<|ex_<|ex_ y) g]
section
open AutoSeq1 (wpAny_loadPart')
open MeetsSeq MeetsSeq2 MeetsSeq3 SeqRoads2 SeqAt
def yZ(l b:Addr)(c a:T8)(n C:Nat)(dd q:Option Addr)(E p:Array<|Option Value)(J:0<c.size)(L:0<a.size) :
  Meets (Builtin.«tuple.__eq__» #[[.ref l,.ref b],[]])
   (fun A R s=>s.heap.get? l=some { cls:=.type "tuple",dict:=dd,data:=.seq c n,slots:=E }∧s.heap.get? b=some { cls:=.type "tuple",dict:=q,data:=.seq a C,slots:=p } ∧
    EqAt A.in1 s c[0] a[0] false/\R (.ok<|.ret<|.bool false) s):=
 .of_wp fun e w A R s h=>by
  obtain⟨v,g,d,tk,D⟩:=s;obtain⟨u,r,t,h⟩:=h;have I:=AutoSeq1.sub_tuple_tuple;have M:(c.toList.zip a.toList).length=min c.size a.size:=by simp
  wp_walk using wpAny_loadPart' u,wpAny_loadPart' r,wpAny_forIn_list _ (λrest b i=>b.1=none/\i=#[v,g,d,tk,D]/\rest=c.toList.zip a.toList) _
  case turn =>
   rintro⟨y,x⟩ rest b i ⟨m,rfl,f⟩;have o:0<(c.toList.zip a.toList).length:=by lia
   rw[<-List.drop_zero (l:=c.toList.zip a.toList),List.drop_eq_getElem_cons o]at f;injection f with j F
   have B:y=c[0]:=by have:=congrArg Prod.fst j;simpa using this
   have z:x=a[0]:=by have:=congrArg Prod.snd j;simpa using this
   subst B z;refine wpAny_bind<|t e w _ _ ?_
   wp_walk
   exact#[_,rfl,h]
  case fin => rintro⟨G,H⟩ i ⟨m,rfl,f⟩;have:=congrArg List.length f;simp at this;lia
  case h=>exact#[rfl,rfl,rfl]
def aIz(C:s.heap.IsTuple l items)(v:s.heap.IsTuple b items2)(D:A.units<cLine)(t:0<items.size)(u:0<items2.size)(B:EqAt A.in1 s items[0] items2[0] false):RcAt A s (.ref l) (.ref b) false:=λi w E Q h=>by
 obtain⟨⟨q,r,f,H⟩,g,y,n,z⟩:=id C;obtain⟨⟨e,o,a,j⟩,c,p,G,m⟩:=id v;subst y z p m;exact richCompare_meets_room (op:=.Eq) #[_,g,rfl] #[_,c,rfl] F.slot_tuple_eq F.entry_tuple_eq (F.args_tuple_eq_2 _ _) (yZ l b items items2 n G r o H j t u)
  #[g,c,B,show Value.bool false≠Value.notImplemented/\Q (.bool false) s from#[(λx=>nomatch x),h]] D
def sE(l:Addr)(a:T8)(n:Nat)(x:Value)(e:Value->Bool)(j:Nat)(r:j<a.size)(H:e a[j]=true)(k:Nat)(hs1:a.size<=sizeLine) :
  ∀i:Nat,j-i=k->i<=j->(∀m (v:m<a.size),i<=m->m<j->e a[m]=false)->Meets (Builtin.«list.remove.loop» #[[.ref l,x,rawInt i],[]])
   (λA R s=>s.heap.get? l=some { cls:=.type "list",dict:=none,data:=.seq a n,slots:= [].toArray }/\(∀y,y∈a->EqAt A.in1 s y x (e y))/\R (.ok<|.ret .none) { s with heap:=s.heap.update l (Obj.mapSeq λxs=>xs.eraseIdxIfInBounds j) }):=by
 induction k with
 |zero =>
  intro i u t o b w A R s h;obtain⟨E,g,d,tk,G⟩:=s;obtain⟨c,f,h⟩:=h;have B:i=j:=by lia
  subst B
  wp_walk using wpAny_loadPart' c
  have q:a[((i:Nat):Int).toNat]? = some a[i]:=by simp[r]
  rw[q];refine wpAny_bind<|f _ (Array.getElem_mem r) b w _ _ ?_;have z:(a.eraseIdxIfInBounds i).size<=sizeLine+1:=nzL (size_erased a _)<|Nat.le_succ_of_le hs1
  wp_walk using(wpAny_updateSeq c rfl (hz:=hs1) (_hz':=z)),wpAny_loadPart' c
  simpa using h
 |succ k F =>
  intro i u t o b w A R s h;obtain⟨E,g,d,tk,G⟩:=s;obtain⟨c,f,h⟩:=h;have p:i<a.size:=Nat.lt_of_le_of_lt t r
  wp_walk using wpAny_loadPart' c
  have q:a[((i:Nat):Int).toNat]? = some a[i]:=by simp[p]
  have I:((i:Int)+1)=((i+1:Nat):Int):=by push_cast;rfl
  rw[q];refine wpAny_bind<|f _ (Array.getElem_mem p) b w _ _ ?_;rw[o i p (aO _)<|Nat.lt_of_sub_eq_succ u]
  wp_walk
  exact#[plainId_quiet plain_remove_loop _,codeAny_builtin entry_remove_loop<|by exact F (i+1) `a `a (λm v C D=>o m v (eV C) D) b w A R _ #[c,f,h]]
def sH(l:Addr)(a:T8)(n:Nat)(x:Value)(e:Value->Bool)(j:Nat)(r:j<a.size)
  (o:e a[j]=true) (i:∀m (f:m<a.size),m<j->e a[m]=false) (hs1:a.size<=sizeLine) :
  Meets (Builtin.«list.remove» #[[.ref l,x],[]])
   (λA R s=>s.heap.get? l=some { cls:=.type "list",dict:=none,data:=.seq a n,slots:= [].toArray }/\(∀y,y∈a->EqAt A.in1 s y x (e y))/\R (.ok<|.ret .none) { s with heap:=s.heap.update l (Obj.mapSeq λxs=>xs.eraseIdxIfInBounds j) }):=by
 intro b w A R s h;obtain⟨t,g,d,tk,u⟩:=s;obtain⟨c,q,h⟩:=h
 wp_walk using wpAny_loadPart' c
 exact#[plainId_quiet plain_remove_loop _,codeAny_builtin entry_remove_loop<|by exact sE l a n x e j r o _ hs1 0 rfl (bM _) (λm f _ p=>i m f p) b w A R _ #[c,q,h]]
end
abbrev bJo:G2:=gIC aNr λi j=>.int<|i*2^j.toNat
abbrev bMd:G2:=gI λi j=>.int<|Builtin.bitAnd i j
section
variable{a b e o:Expr}{c j:Pos}{g f t:XT}{i:Nat}
def vE(ha:XE X Ex a g)(h:XE X Ex b f):XE X Ex (.BinOp a .LShift b c)<|xOp bJo g f:=lQ aXc (wO oi) ha h
def aOs(ha:XE X Ex a g)(h:XE X Ex b f):XE X Ex (.BinOp a .BitAnd b c)<|xOp bMd g f:=lQ aXi (tP oi) ha h
def bIx(t:XT):XC:=λl Q=>t l λs h=>match s.d with
 | .int i=>Q (i != 0) h
 |_=>False
def aOc(h:XE X Ex e t)(y:∀l,isTrue e X.env l=(do let v <-l;standAt e.pos;holding [v] (truthy v)):=by intro _;rfl):XTe X Ex e<|bIx t:=λF=>(aJk (h F) y).weak λC H Q=>by rintro⟨A,fr,B,E,t,k⟩;refine#[A,fr,_,E,t,λv s u m p q=>?_];obtain⟨R,r⟩:=p.one;split at q;rename_i n z;rw[z]at r;cases r.int_eq;exact#[_,rfl,k _ u m p.drop q];exact q.elim
def bGx:G2:=λa b Q=>match a,c_ b with
 | .dic l,some k=>Q (.tr<|(gU l k).getD .non)
 |_,_=>False
def bJb(g f:XT):XT:=λp Q=>g p λa h=>(∃l,a.d=.dic l)/\f h λb m=>bGx a.d b.d λs=>Q s m
def aHm(d:X.A.units+1<cLine)(ha:XE X Ex o g)(W:XE X Ex e f)(m:M1 X o "get" j e c):XE X Ex (.Call (.Attribute o "get" j) [e] [] c)<|bJb g f:=λF=>(aJz d (ha F) (W F) m).weak λσ H Q=>by
 rintro⟨V,fr,Qx,E,t,k⟩;refine#[V,fr,_,E,t,λv s H' A C q=>?_];obtain⟨⟨l,Z⟩,q⟩:=q;obtain⟨N,G⟩:=C.one;rw[Z]at G;obtain⟨n,u,rfl,r,Rs⟩:=G.dic_eq;refine#[n,rfl,#[u,zS N r],A,_,_,C,q,λw s2 M B D h=>?_];obtain⟨R,I,S⟩:=D.two;unfold bGx at h;split at h;rename_i l' J L Y;rw[L]at I;obtain⟨p,ws,O,T,U⟩:=I.dic_eq;cases O;cases ld_ S Y;refine#[_,DGet.rd (k:=J)<|zS R T,k _ _ M B (EOk.back D.len<|R.add ?_) h];rcases hx_ (k:=J) U with⟨y,z⟩ | ⟨d',v,y,z,x⟩
 rw[y,z];exact IsX.of_non;rw[y,z];exact x;exact h.elim
end
def zA(t:S7):Dx:=.tup<|t.map Dx.int
def pH:∀{ts:List S7} {vs:S3},All2 (IsX G) (ts.map zA) vs->∃us:List<|Addr×S7,us.map (·.2)=ts/\vs=us.map (λt=>V.ref t.1)/\∀t∈us,G t.1=some (.tup<|t.2.map V.int)
 | [],_,h=>#[[],rfl,h,λ_ h=>by simp at h]
 |t::ts,_,⟨v,vr,rfl,h1,h2⟩=>by
  obtain⟨us,c,rfl,e⟩:=pH h2;obtain⟨a,vs,rfl,f,g⟩:=(h1).tup_eq;cases jq_ g;refine#[(a,t)::us,by rw[bQ,c],rfl,λx b=>?_];rcases aE.mp b with rfl | b
  exact f;exact e x b
def aAt{G}:∀{us:List<|Addr×S7},(∀t∈us,G t.1=some (.tup<|t.2.map V.int))->All2 (IsX G) (us.map λt=>zA t.2) (us.map λt=>V.ref t.1)
 | [],_=>rfl
 |t::us,h=>#[_,_,rfl,IsX.of_tup (h t aB)<|qX t.2,aAt λx a=>h x<|aC _ a]
def bFa:GC:=λb Q=>∃a:List S7,b=[.lst<|a.map zA]/\a≠[]/\∀t,t∈a->(∀u∈a,HT.lexLt u t=false)->Q (.tr<|zA t)
def aSg:jP (λxs H Q=>∃(p:Addr) (ts:List<|Addr×S7),xs=[.ref p]/\SqL K H p (ts.map λt=>V.ref t.1)/\(∀t∈ts,SqT K H t.1<|t.2.map V.int)/\ts≠[]/\∀t,t∈ts->(∀u∈ts,HT.lexLt u.2 t.2=false)->Q (.ref t.1) H) bFa:=by intro F P H r xs Q q R i g k;obtain⟨ts,rfl,e,g⟩:=g;obtain⟨x,rfl,m⟩:=j8 i;obtain⟨p,s,rfl,f,h⟩:=m.lst_eq;obtain⟨o,rfl,rfl,b⟩:=pH h;refine#[p,o,rfl,SqL.of<|R.hv _ _ f,λt a=>SqT.of<|R.hv _ _<|b t a,(λz=>e (by rw[z];rfl)),λt a c=>?_];exact k _ _ H (R.add<|IsX.of_tup (b t a)<|qX t.2) (g t.2 (aZ.mpr #[t,a,rfl]) λu j=>by obtain⟨w,l,rfl⟩:=aZ.mp j;exact c w l)
def aVr:GC:=λc Q=>∃a:List S7,c=[.lst<|a.map zA]/\(∀t∈a,t≠[])/\a.length<64/\∀b:List S7,b.Perm a->(b.Pairwise λx y=>HT.lexLt y x=false)->Q (.ol<|b.map zA)
def aNc:jP (λxs H Q=>∃(p:Addr) (ts:List TI2),xs=[.ref p]/\SqL K H p (ts.map λt=>V.ref t.1)/\(∀t∈ts,SqT K H t.1 (t.2.map V.int)/\t.2≠[])/\ts.length<64 /\
  ∀us:List TI2,us.Perm ts->(us.Pairwise λx y=>HT.lexLt y.2 x.2=false)->∀l,H l=none->Q (.ref l) (upd H l<|.lst<|us.map λt=>V.ref t.1)) aVr:=by
 intro F P H v xs Q u R q g k;obtain⟨ts,rfl,i,c,g⟩:=g;obtain⟨x,rfl,s⟩:=j8 q;obtain⟨p,z,rfl,m,o⟩:=s.lst_eq;obtain⟨us,rfl,rfl,b⟩:=pH o;refine#[p,us,rfl,SqL.of<|R.hv _ _ m,λt a=>#[SqT.of<|R.hv _ _<|b t a,i t.2<|aZ.mpr #[t,a,rfl]],by rw[aA]at c;exact c,λh f r l j=>?_];have e:=aAt (us:=h) λt a=>b t<|f.mem_iff.mp a;refine k _ _ _ (R.newL j e) ?_;have:=g (h.map (·.2)) (f.map _)<|List.pairwise_map.mpr r;rw[bL]at this;exact this
def bGw:GC:=λc Q=>∃a:U1,c=[.lst<|a.map λb=>.tup [lL b.1,b.2]]/\(a.map (·.1)).Nodup/\Q (.od a)
def tM:∀{kvs} {vs},All2 (IsX G) (kvs.map λb=>.tup [lL b.1,b.2]) vs->∃us:U2,All2 (KvX G) kvs us/\us.length=vs.length/\∀(j:Nat) (b:Key×V),us[j]? = some b->∃T:Addr,vs[j]? = some (.ref T)/\G T=some (.tup [kV b.1,b.2])
 | [],_,h=>#[[],rfl,by rw[show _=[]from h];rfl,λj b e=>by simp at e]
 |kd::kvs,_,⟨v,vr,rfl,h1,h2⟩=>by
  obtain⟨us,f,g,l⟩:=tM h2;obtain⟨a,t,rfl,o,q,_,rfl,c,r,_,rfl,m,rfl⟩:=h1.tup_eq;have p:q=kV kd.1:=by
   obtain⟨k,d⟩:=kd;cases k with
   |inl i=>exact c.int_eq
   |inr s=>exact c.str_eq
  subst p;refine#[(kd.1,r)::us,#[_,_,rfl,#[rfl,m],f],by rw[aK,aK,g],λj b e=>?_];cases j with
  |zero=>simp at e;subst e;exact#[a,rfl,o]
  |succ j=>exact l j b<|by simpa using e
def aCl:∀{kvs:U1} {us:U2},All2 (KvX G) kvs us->us.map (·.1)=kvs.map (·.1)
 | [],_,h=>by rw[show _=[]from h];rfl
 |kd::kvs,_,⟨w,wr,rfl,h1,h2⟩=>by rw[bQ,bQ,aCl h2,h1.1]
def xZ:jP (λxs H Q=>∃(l:Addr) (ys:S3) (kvs:U2),xs=[V.ref l]/\H l=some (.lst ys)/\kvs.length=ys.length/\(kvs.map (·.1)).Nodup /\
  (∀(j:Nat) (a:Key×V),kvs[j]? = some a->∃T:Addr,ys[j]? = some (.ref T)/\H T=some (.tup [kV a.1,a.2]))/\∀p,H p=none->Q (.ref p) (upd H p<|.dK kvs)) bGw:=by
 intro F P H A xs Q z R r g k;obtain⟨kvs,rfl,c,g⟩:=g;obtain⟨x,rfl,s⟩:=j8 r;obtain⟨p,y,rfl,i,m⟩:=s.lst_eq;obtain⟨v,b,f,h⟩:=tM m;exact#[p,y,v,rfl,R.hv _ _ i,f,by rw[aCl b];exact c,λj a e=>by obtain⟨T,t,u⟩:=h j a e;exact#[T,t,R.hv _ _ u],λq o=>k _ _ _ (R.newD o b) g]
def aBh:V->S3->Hp->VK->Prop:=λx c H Q=>∃l A v B y d z,x=.ref l/\c=[y]/\H l=some (.lst (A++v::B))/\IsD H d v/\IsD H d y/\Dt.deep d<=60/\(∃b,d=.tup (.str z::b)) /\
 (∀u∈A++B,∃T e a,u=.ref T/\H T=some (.tup (.str a::e))/\a≠z)/\Q .non (upd H l<|.lst<|A++B)
def aFf(hu:X.A.units+64<cLine):MtM X "list.remove" aBh:=by
 intro Aa s σ H x vs v us Q I rx rv h;obtain⟨l,A,w,B,y,d,z,rfl,rfl,hH,hw,hy,hd,⟨ds,rfl⟩,Ao,q⟩:=h;cases rx;obtain⟨u,rfl,ru⟩:=rv.one;obtain⟨hz,a,n,r,J,e⟩:=I.lstM hH;have Z:=hy;have k:=hw;simp only[IsD]at Z k;obtain⟨ty,wy,rfl,U,y1,yr,rfl,j,_⟩:=Z;obtain⟨f,ww,rfl,M,w1,wr,rfl,b,_⟩:=k;subst j b;obtain rfl:u=Value.ref ty:=ru;have F:A.length<a.length:=by rw[<-J];simp
 have c:a.toArray.size=a.length:=aR;have S:a.toArray[A.length]'(by rw[c];exact F)=.ref f:=by
  obtain⟨uu,C,D⟩:=Vals.get r (i:=A.length) (x:=V.ref f) `g;have:a[A.length]? = some (.ref f):=by rw[C];exact congrArg some D
  obtain⟨_,G⟩:=aL.mp this;simpa using G
 have R:∀(m:Nat) (p:m<a.toArray.size),m≠A.length->∃T t g,a.toArray[m]=.ref T/\H T=some (.tup (.str g::t))/\g≠z:=λm p E=>by
  have L:m<(A++V.ref f::B).length:=by rw[J,<-c];exact p
  obtain⟨uu,C,D⟩:=Vals.get r (i:=m)<|aG L;have Ol:(A++V.ref f::B)[m]∈A++B:=by
   rcases Nat.lt_or_gt_of_ne E with O | Go
   rw[List.getElem_append_left O];exact aM _<|List.getElem_mem _;rw [List.getElem_append_right `a];refine aJ _ ?_;rw[List.getElem_cons,dif_neg `a];exact List.getElem_mem _
  obtain⟨T,t,g,j,b,o⟩:=Ao _ Ol;rw[j]at D;refine#[T,t,g,?_,b,o];have J1:uu=Value.ref T:=D;rw[J1]at C;obtain⟨_,G⟩:=aL.mp C;simpa using G
 have W:H f=some (.tup (.str z::wr)):=M;refine call_meets PySem.F.slot_list_remove #[_,e,rfl] PySem.F.entry_list_remove (PySem.F.args_list_remove_2 _ _)
  (sH l a.toArray n (.ref ty) (λw=>w == .ref f) A.length (by rw[c];exact F) (by rw[S];exact beq_self_eq_true _) (λm p O=>?_) (by rw[c,<-J];exact hz)) #[e,λw N=>?_,?_]
 obtain ⟨T,t,g,j,b,o⟩:=R m p `a;rw[j];refine beq_eq_false_iff_ne.mpr λq=>?_;injection q with q
 rw[q,W]at b;cases b;exact o rfl
 ·obtain ⟨m,p,rfl⟩:=Array.mem_iff_getElem.mp N;by_cases Y:m=A.length;subst Y;rw[S,beq_self_eq_true];exact uM I (.tup (.str z::ds)) (by show X.A.units+1+_<cLine;have:=hd;lia) hw hy rfl rfl
  ·obtain ⟨T,t,g,j,b,o⟩:=R m p Y;have E:T≠ty:=λq=>by rw[q,U]at b;cases b;exact o rfl
   rw[j,show(Value.ref T == Value.ref f)=false from beq_eq_false_iff_ne.mpr λq=>by injection q with q;rw[q,W]at b;cases b;exact o rfl];obtain⟨i1,r1,p1,z1⟩:=I.tuple<|SqT.of (K:=X.K) b;obtain⟨i2,r2,p2,z2⟩:=I.tuple<|SqT.of (K:=X.K) U;cases r1 with
   |cons q1 r1 =>
   cases r2 with
   |cons q2 r2 =>
   obtain⟨t1,rfl⟩:=q1;obtain⟨t2,rfl⟩:=q2;refine SeqAt.EqAt.of_refs E<|aIz p1 p2 (by show X.A.units+1<cLine;lia) `g `g ?_;have:=SeqAt.EqAt.str_str (A:=X.A.in1.in1) (s:=s) g t1 z t2;rw[show(g == z)=false from beq_eq_false_iff_ne.mpr o]at this;exact this
 refine #[.non,_,I.lset (its':=a.eraseIdx A.length) hH e (by simp [Array.eraseIdxIfInBounds,F]) ?_ ?_,rfl,q];have:A ++ B=(A ++ V.ref f :: B).eraseIdx A.length:=by rw [List.eraseIdx_append_of_length_le<|aO _,iI]; rfl
 rw[this];exact Vals.eraseIdx _ r;rw[aI];rw[aI,aK]at hz;lia
end Lf
namespace L2
open PySem PySem.Spec PyProof.Rows
def aPb(t1 t2:Bool)(K:dN)(i:TA):TE:=λo H Q=>i o H λm c=>∃(a b:Addr) (f g:S3),m=[.ref a,.ref b]/\Sq t1 K c a f/\Sq t2 K c b g/\f.length=g.length /\
 ∀(l:Addr) (h:S3) (e:Hp),Same c e->c l=none->e l=some (.lst h)->h.length=f.length->(∀(j:Nat) (x y:V),f[j]? = some x->g[j]? = some y->∃T:Addr,h[j]? = some (.ref T)/\e T=some (.tup [x,y])/\c T=none)->Q (.ref l) e
def aEu{p W pos pos1}{t1 t2}(g:X.calm=true)(O2:Gl X "list")(Hk:X.mg "list" = none)(hg:Gl X "zip")(hm:X.mg "zip" = none)(ha:PA X [ea,eb] ta)(hs:starEach [ea,eb] X.env=[(false,eval ea X.env),(false,eval eb X.env)]:=by rfl)(hs2:starEach [eb] X.env=[(false,eval eb X.env)]:=by rfl)
  (Nw:starEach [.Call (.Name "zip" p) [ea,eb] [] pos] X.env=[(false,eval (.Call (.Name "zip" p) [ea,eb] [] pos) X.env)]:=by rfl) :
  PE X (.Call (.Name "list" W) [.Call (.Name "zip" p) [ea,eb] [] pos] [] pos1) (aPb t1 t2 X.K ta):=by
 intro Aa s σ H Q I h;refine Call_<|gp_ I O2 Hk lp_<|cN ?_ Nw rfl;show wpAny _ _ (spliced [(false,eval (.Call (.Name "zip" p) [ea,eb] [] pos) X.env)]) _ _ s;refine Calls.spliced_cons ?_;refine Call_<|gp_ I hg hm aNj<|cN (dR (ha pos Aa s σ H _ I h) λus t Ab=>?_) (by rw[hs,hs2]) (by rw[hs2];rfl);obtain⟨vs,k,n,r1,q1⟩:=Ab;obtain⟨a,b,xs,ys,e,w1,w2,hl,q⟩:=q1;subst e;obtain⟨u,v,rfl,Y,Z⟩:=r1.two;cases Y;cases Z;obtain⟨O,r1,W,z1⟩:=n.sseq w1;obtain⟨R,r2,p2,z2⟩:=n.sseq w2;have n2:=r2.length;have Nd:a<t.heap.objs.size:=by cases t1<;>(obtain⟨_,e,_⟩:=W;exact aS e)
 have Nc:b<t.heap.objs.size:=by cases t2<;>(obtain⟨_,e,_⟩:=p2;exact aS e)
 refine uR W p2 λh' hz Bv C8 K5 G5 hk=>Calls.spliced_nil ?_;have fp:=zipApart_new Nd Nc;refine sL (t1:=t1) (t2:=t2) (N:=t.heap.objs.size) (I.ok.hd g) fp (by simp;exact Eq.symm<|Vals.length r1) (by simp;lia) z1 ?_ hz Bv C8 K5 G5 (W.to λo e=>hk _ o e) (p2.to λo e=>hk _ o e) λFa G c Io hS hd=>?_;exact iJ<|Nat.lt_of_le_of_lt (dF _ 4)<|aS hz;generalize a1:h'.objs.size=l at hS;have B4:t.heap.objs.size<=l:=by rw[<-a1];exact iJ<|Nat.lt_of_le_of_lt (dF _ 4)<|aS hz
 have kk:=λc o e=>Io c o (bF<|aV (aS e)<|dF _ _) (bF<|aV (aS e)<|dF _ _) (bF<|aS e) (bF<|aV (aS e)<|dF _ _)<|hk c o e;have Hy:=hd.1;have De:∀c,t.heap.objs.size<=c->k c=none:=λc g=>n.hok.fresh g
 let F:S3:=G.toList.map λu=>match u with | .ref T=>V.ref T | _=>V.non
 have A:F.length=xs.length:=by grind
 have d:∀(j:Nat) (T:Addr),G[j]? = some (.ref T)->F[j]? = some (.ref T):=λj T e=>by rw[bK,Array.getElem?_toList,e];rfl
 have vz:Vals F G.toList:=by
  refine Vals.of_get (A.trans<|Hy.symm.trans Array.length_toList.symm) λj z u D f=>?_;rw[Array.getElem?_toList]at f;have E:j<xs.length:=by by_cases E:j<G.size;exact eI E Hy;rw[Array.getElem?_eq_none<|eJ E]at f;cases f
  obtain⟨T,_,_,e3,_⟩:=hd.2 j E;rw[d j T e3]at D;rw[e3]at f;cases D;cases f;rfl
 let m:Addr->V->V->Prop:=λc x y=>t.heap.objs.size<=c/\∃u v,IsPair Fa c u v/\RelV x u/\RelV y v
 have a5:∀c x y x' y',m c x y->m c x' y'->x=x'/\y=y':=by rintro c x y x' y' ⟨_,u,v,e,Y,Z⟩ ⟨_,u',v',e',a2,a3⟩;have f:=(e).symm.trans<|e';cases f;exact#[ozI<|Y.abs.symm.trans a2.abs,ozI<|Z.abs.symm.trans a3.abs]
 have nl:∀x y,¬m l x y:=by grind
 classical
 let C:Hp:=λc=>if c=l then some (.lst F)else if r:∃x y,m c x y then some (.tup [r.choose,r.choose_spec.choose])else k c
 have Hl:C l=some (.lst F):=if_pos rfl;have J:∀c x y,m c x y->C c=some (.tup [x,y]):=λc x y i=>by have B:c≠l:=λe=>nl x y<|e ▸ i;have r:∃x y,m c x y:=#[x,y,i];show(if c=l then _ else if r:∃x y,m c x y then _ else _)=_;rw[if_neg B,dif_pos r];obtain⟨D,f⟩:=a5 c _ _ _ _ r.choose_spec.choose_spec i;exact congrArg some<|congrArg HO.tup<|by rw[show [r.choose,r.choose_spec.choose]=[x,y]from List.cons_eq_cons.mpr #[D,List.cons_eq_cons.mpr #[f,rfl]]]
 have Ho:∀c,c≠l->(∀x y,¬m c x y)->C c=k c:=λc B i=>by show(if c=l then _ else if r:∃x y,m c x y then _ else _)=_;rw[if_neg B,dif_neg λ⟨x,y,z⟩=>i x y z]
 have S:=λc g=>Ho c (bF<|aV g B4) λx y ⟨z,_⟩=>Nat.not_le_of_lt g z;have U:∀c u,k c=some u->C c=some u:=λc u e=>by
  have:c<t.heap.objs.size:=by by_cases g:c<t.heap.objs.size;exact g;rw[De c<|eJ g]at e;cases e
  rw[S c this];exact e
 refine#[.ref l,C,n.grown (t':=t.toks) kk U (λc g e=>by rw[S c g];exact e)<|λc u D f=>?_,rfl,q l F C U (De l B4) Hl A λj x y ex ey=>?_];by_cases B:c=l;subst B;rw[Hl]at f;cases f;exact#[by rw[A];exact z1,G.toList,_,vz,by rw[Array.toArray_toList];exact hS];by_cases i:∃ x y,m c x y;obtain ⟨x,y,i⟩:=i;rw[J c x y i]at f;cases f;obtain⟨_,u',v',e,Y,Z⟩:=i;exact#[by show 2<=sizeLine;decide,[u',v'],.cons Y<|.cons Z .nil,_,e,rfl,_,rfl];rw [Ho c B fun x y z=>i #[x,y,z],D] at f;cases f;have E:=(aL.mp ex).1;obtain⟨T,u',v',e3,e4,e5,e6,e7⟩:=hd.2 j E;obtain⟨u1,Lu,J8⟩:=r1.get ex;obtain⟨v1,a0,a4⟩:=r2.get ey;have L:O[j]? = some u':=by simpa using e4
 have M:R[j]? = some v':=by simpa using e5
 rw[Lu]at L;rw[a0]at M;cases L;cases M;exact#[T,d j T e3,J T x y #[e7,_,_,e6,J8,a4],De T e7]
end L2
namespace Lf
open PySem L2
def aUz(u:XA):XT:=λc Q=>u c λb a=>match b.map Sv.d with
 | [.lst l,.lst m]=>l.length=m.length/\Q (.tr<|.lst<|jM l m) a
 |_=>False
def aGv:∀{l m} {xs ys zs},l.length=m.length->All2 (IsX G) l xs->All2 (IsX G) m ys->zs.length=xs.length->(∀(j:Nat) (x y:V),xs[j]? = some x->ys[j]? = some y->∃T:Addr,zs[j]? = some (.ref T)/\G T=some (.tup [x,y]))->All2 (IsX G) (jM l m) zs
 | [],[],_,_,zs,_,h1,h2,hz,_=>by rw[show _=[]from h1]at hz;exact List.length_eq_zero_iff.mp (by simpa using hz)
 | [],_::_,_,_,_,h,_,_,_,_=>by simp at h
 |_::_,[],_,_,_,h,_,_,_,_=>by simp at h
 |a::l,b::m,_,_,zs,h,⟨x,xr,c,ha,h1⟩,⟨y,yr,e,hb,h2⟩,hz,k=>by
  subst c e;obtain⟨T,f,g⟩:=k 0 x y rfl rfl;cases zs with
  |nil=>simp at hz
  |cons z i => cases(ozI f);exact#[_,_,rfl,IsX.of_tup g #[_,_,rfl,ha,_,_,rfl,hb,rfl],aGv (by simpa using h) h1 h2 (by simpa using hz) λj u v c e=>k (j+1) u v (by simpa using c)<|by simpa using e]
def m8{p p1 pos pos1}(n:X.calm=true)(I:Gl X "list")(D:X.mg "list" = none)(V:Gl X "zip")(hm:X.mg "zip" = none)(ha:XAs X Ex [ea,eb] u)(h:starEach [ea,eb] X.env=[(false,eval ea X.env),(false,eval eb X.env)]:=by rfl)(hs2:starEach [eb] X.env=[(false,eval eb X.env)]:=by rfl)
  (G:starEach [.Call (.Name "zip" p) [ea,eb] [] pos] X.env=[(false,eval (.Call (.Name "zip" p) [ea,eb] [] pos) X.env)]:=by rfl):XE X Ex (.Call (.Name "list" p1) [.Call (.Name "zip" p) [ea,eb] [] pos] [] pos1)<|aUz u:=λF=>(aEu (t1:=false) (t2:=false) n I D V hm (ha F) h hs2 G).weak λi H Q=>by
 rintro⟨ρ,fr,Qx,E,t,k⟩;refine#[ρ,fr,_,E,t,λvs ss s c hl r f=>?_];obtain⟨R,h⟩:=r.many hl;split at f;rename_i l m e;rw[e]at h;obtain⟨x,_,rfl,Z,y,_,rfl,d,hn⟩:=h;cases(hn);obtain⟨a,xs,rfl,J,v⟩:=Z.lst_eq;obtain⟨b,ys,rfl,L,A⟩:=d.lst_eq;refine#[a,b,xs,ys,rfl,SqL.of<|R.hv _ _ J,SqL.of<|R.hv _ _ L,by rw[v.len,A.len];exact f.1,λp zs g B M N O S=>?_];have q:∀T u,g T=some u->s T=none->(∀o w,u ≠ .frz o w)->hid (bD<|c.zip i++fr) (F.vis g) T=some u:=λT u Y C g3=>bB.mpr #[R.not_own C,(kQ<|R.fresh C).trans (by rw[Y];unfold nf;split;grind;rfl)];have up:Same (hid (bD<|c.zip i++fr)<|F.vis s)<|hid (bD<|c.zip i++fr)<|F.vis g:=jr_<|eh_ B;refine k _ (.tr<|.lst<|jM l m) g c (EOk.back r.len<|(R.grow B).add<|IsX.of_lst (q p _ N M λo w z=>nomatch z)<|aGv f.1 (v.imp λ_ _ z=>z.to up) (A.imp λ_ _ z=>z.to up) O λj x y U W=>?_) f.2;obtain⟨T,t1,t2,t3⟩:=S j x y U W;exact#[T,t1,q T _ t2 t3 λo w z=>nomatch z];exact f.elim
def Dx.sc:Dx->Prop
 | .non=>True
 | .bl _=>True
 | .int _=>True
 | .str _=>True
 |_=>False
def Dx.flt:Dx->Prop
 | .tup l=>∀d∈l,d.sc
 |d=>d.sc
def Dx.sc_any(h:d.sc)(a:IsX G d v):IsX G' d v:=by cases d<;>simp only[Dx.sc]at h<;>simpa only[IsX]using a
def Dx.flt_any(h:d.flt)(g:IsX G d v)(e:∀a vs,G a=some (.tup vs)->G' a=some (.tup vs)):IsX G' d v:=by
 cases d with
 |tup l => obtain⟨a,vs,rfl,j,c⟩:=g.tup_eq;refine IsX.of_tup (e _ _ j)<|All2.mk c.len λi d v f hv=>?_;obtain⟨m,b,z⟩:=c.at f;rw[hv]at b;cases b;exact Dx.sc_any (h d<|bA f) z
 |_=>exact Dx.sc_any h g
def aUw(t:XT):XT:=λa Q=>t (a.map slS) λs _=>s.d.flt/\Q (.tr s.d) a
def Rep.own_fine{P}(R:Rep F P H)(h:a∈bD P)(vs:S3):H a≠some (.tup vs):=by
 obtain⟨⟨j,v⟩,m,e⟩:=dG.mp h;have t:=R.ok (j,v) m;intro z;cases j with
 |v s =>
  cases s with
  |tr d=>exact absurd (e) bG
  |ol l => obtain⟨c,vs,f,b,_⟩:=t;cases f;rw[aF.mp<|e,b]at z;cases z
  |od l => obtain⟨c,vs,f,b,_⟩:=t;cases f;rw[aF.mp<|e,b]at z;cases z
  |ow o => obtain⟨x,f,b⟩:=t;obtain⟨u,i,_,g⟩:=OwOk.there o x b a e;rw[i]at z;cases z;exact g _ rfl
 |bw l => obtain⟨c,vs,f,b,_⟩:=t;cases f;rw[aF.mp<|e,b]at z;cases z
 |bo o => obtain⟨x,f,b⟩:=t;obtain⟨u,i,_,g⟩:=OwOk.there o x b a e;rw[i]at z;cases z;exact g _ rfl
 |ba c l => obtain⟨_,vs,b,_⟩:=t;rw[aF.mp<|e,b]at z;cases z
 |un=>exact absurd (e) bG
 |pn _=>exact absurd (e) bG
def aOm(h:XE X Ex e t):XE X Ex e<|aUw t:=λF _ B s S H Q I ⟨A,fr,U,E,q,k⟩=>by
 obtain⟨c,f,r,D,C⟩:=aIt E
 haveI:OkF X Ex c:=OkF.up ‹OkF X Ex F› (λ_ z=>z) λT k b o g J=>k b o (by rw[f];exact E.rep.kp b o g J) (by rw[r];simp)
 refine h c B s S H Q I #[A.map slS,[],_,C,q,λv W p R m j=>?_];have u:=λb o M=>m.rep.kp b o (by rw[f];exact M) (by rw[r];simp);obtain⟨N,j⟩:=j;obtain⟨R2,O⟩:=m.one;have G:=E.rep.grow u;refine k v _ p A (EOk.back E.len<|G.add<|Dx.flt_any N O λa y L=>?_) j;have i:=(bB.mp L).2;refine bB.mpr #[λz=>G.own_fine z y<|R2.vis _ _ i,?_];cases z:H a with
 |none =>
  have l:c.H0 a=none:=by rw[f];exact z
  have:nf (p a)=some (.tup y):=(kQ l).symm.trans i;exact(kQ<|E.rep.fresh z).trans this
 |some o =>
  have l:c.H0 a=some o:=by rw[f];exact z
  have g:=(kH l).symm.trans i;rw[D]at g;exact eh_ u _ _ g
end Lf
namespace L2
open PySem
def aBu(g:X.A.units<cLine):OpR X (compareOp .Eq)<|bEf X.K false:=by intro z s C H x y v u Q I r t h;obtain⟨p,b,A,B,rfl,rfl,c,e,f,q⟩:=h;cases r;cases t;obtain⟨i,m,j,_⟩:=I.list c;obtain⟨a,o,l,_⟩:=I.list e;cases pE m;cases pE o;refine PySem.SeqAt.eq_listAt j.isList l.isList (by simp only[aR,aA];lia) g aSb ?_;refine kY I q ?_;rw[aR,aA,j5 f];rfl
end L2
namespace Lf
open PySem L2
def bIz(t:XT):XT:=λe Q=>t e λs a=>∃b l c,s=.ow (.ot (.ol b (l.map Ow.tr)::c))/\Q (.ol l) a
def Rep.tails:∀{A P},Rep F (A++P) H->Rep F P H
 | [],_,R=>R
 |_::A,_,R=>Rep.tails (A:=A) R.tail
def aUs(K:dN)(y:XE X Ex e t)(u:X.K=K:=by rfl):XE X Ex (.Subscript e (.Constant (.int 0) j ip) pos)<|bIz t:=λF=>(zY (aCm K u) (y F) (kp_ (i:=0))<|λ_ _=>rfl).weak λo H Q=>by
 rintro⟨B,fr,C,E,q,k⟩;refine#[B,fr,_,E,q,λv s h a g f=>?_];obtain⟨b,l,z,rfl,f⟩:=f;obtain⟨p,A,e,c,m,R⟩:=g.front.split;cases e
 match A,m,R,c with
 |v::vr,m,R,c =>
  have r:=R;have R2:Rep F ((.v<|.ol l,some v)::(a.zip o++fr)) h:=by have:=r.asL;have:=this.perm (P':=owR z vr++((.v<|.ol l,some v)::(a.zip o++fr))) eK.symm;exact this.tails
  exact#[p,v::vr,0,v,rfl,rfl,SqT.of c,k_ (j:=0) rfl,k v _ h a (EOk.back g.len R2) f]
def vJ(i:Nat):XT:=λa Q=>∃l,a[i]? = some (.v<|.ol l)/\Q (.ol l) a
def sV(K:dN){p pos}(hv:PE X e<|fO i)(b:X.mg "list" = none)(s:Gl X "list":=by rfl)(r:X.K=K:=by rfl)
  (f:starEach [e] X.env=(false,eval e X.env)::starEach [] X.env:=by rfl) (j:(backTo pos<|starEach [] X.env).any (·.1)=false:=by rfl):XE X Ex (.Call (.Name "list" p) [e] [] pos)<|vJ i:=λF=>(tL (x4 K r) s b lp_ (lK hv i4 f) `b rfl f j).weak λy H Q=>by
 rintro⟨h,fr,z,E,⟨l,g,q⟩,k⟩;obtain⟨v,c,A,R⟩:=uY E g;have b:((.v<|.ol l,v):Rw)∈h.zip y++fr:=aM _<|bA (by rw[cY];exact#[g,c]);obtain⟨a,u,rfl,m,o⟩:=E.rep.ok _ b;exact#[.ref a,c,a,u,rfl,.inl<|SqL.of m,λp t=>k _ _ _ h (EOk.back E.len<|E.rep.newL t o) q]
section
variable{dsc scope:Scope}{tgs N':S4}{outs:T3}{B p w:Expr}{u:T6}{t:Pos}{A:XI}{g:TG}{o:XG}{m:XC}{b:XT}
def xE(h:iR sl=some (l,f))(r:RowOk O G H (sl,x)):∃a vs,x=some `i/\H a=some (.lst vs)/\All2 (IsX<|hid O G) l vs:=by
 match sl,h with
 | .bw l,h=>cases h;exact r
 | .ba a l,h => cases h;obtain⟨c,vs,e,i⟩:=r;exact#[a,vs,c,e,i]
 | .v (.ol l),h=>cases h;exact r
def aLs{F}{K}{a}{l}{sl}{f}(h:iR sl=some (l,f)):ItX F (Itl K a) [(sl,some `i)] l where
 go:=λP H i d R z=>by obtain⟨c,s,e,j,r⟩:=xE h<|R.ok _ aB;cases e;obtain⟨x,v,_⟩:=r.at z;exact#[s,x,SqL.of j,v]
 stop:=λP H i R D=>by obtain⟨c,s,e,j,r⟩:=xE h<|R.ok _ aB;cases e;exact#[s,SqL.of j,by rw[r.len];exact D]
 yld:=λP H i d x E R z q=>by obtain⟨rfl,q⟩:=q;obtain⟨c,s,e,j,r⟩:=xE h<|R.ok _ aB;cases e;obtain⟨y,v,C⟩:=r.at z;rw[q s<|SqL.of j]at v;cases v;exact R.add C
def m_(i n:Nat)(outs:T3)(o:XG)(m:XC)(b:XT):XT:=λc Q=>∃a l f,c[i]? = some a/\iR a=some (l,f)/\l.length<=1000000/\cC n o m b (λe h=>Q (.ol e)<|(back outs h<|c.set i .un).set i a) l (sJ outs<|c.set i .un) []
def aIl(L:GX n g o)(J:outs.Nodup):∀e H Q,tX F (m_ i n outs o m b) e H Q->nE n outs (aLz K<|fO i) g (tXc F m) (tX F b) e H Q:=by
 rintro e H Q ⟨d,fr,Qx,E,⟨j,l,f,T,D,I,q⟩,k⟩;obtain⟨v,hv,C,R⟩:=uY E T;obtain⟨a,Z,rfl,U,x⟩:=xE D<|R.ok _ aB;have M:EOk F (d.set i .un) e ([(j,some `i)]++fr) H:=by refine fq_ E.len C hv ?_;refine R.addU.perm<|List.Perm.cons _ ?_;exact mid.symm
 refine#[.ref a,hv,a,rfl,#[Z,SqL.of U],?_];refine rM (Qx:=λs r=>Qx s<|r.set i j) L J (λ_ _ _ z=>z) (λ_ _ _ z=>z) (λY s N c h W=>?_) M (aLs D) #[I,q];have y:i<c.length:=by rw[h.len,<-E.len];exact C
 refine k Y s N (c.set i j) (fq_ h.len y hv ?_) W;have O:=h.rep;obtain⟨G,hs2⟩:∃G,c[i]? = some G:=#[_,aG y];have R2:=O.perm<|(bv_ hs2 hv).append_right _;have S:=R2.tail;exact S.perm<|(List.Perm.append_left _<|List.Perm.swap _ _ _).trans mid
def aPj(e:GX n g o)(c:outs.Nodup):∀D a H,tXS F (iQ i<|m_ j n outs o m b) D a H->vO (nE n outs (aLz K<|fO j) g (tXc F m)<|tX F b) (kX i) D a H:=by rintro D a H ⟨r,fr,d,E,q,k⟩;exact aIl e c a H _ #[r,fr,_,E,q,λv s h y f l=>k.nx _ h _ bJ (ex_ f) l]
end
def yS(C:Cal X.prog X.w X.K X.mg X.base j x ps<|spX g)(a:Room j X.A)(i:Gl X x:=by rfl)(c:U5 x:=by decide):XE X Ex (.Call (.Name x p) [] [] pos)<|dY g cG:=λF=>by obtain⟨f,fd,G,b,k,m⟩:=C;refine(aKc G a i m k b .nil zZ c).weak λu H Q=>?_;rintro⟨o,fr,r,E,t,l⟩;exact#[_,[],_,E.rep.hv,rfl,t,λs v h e a q=>l v s h o (EOk.back E.len<|E.rep.res e a) q]
structure Blt(mg:mI):Prop where
 isinstance:mg "isinstance" = none
 int:mg "int" = none
 bool:mg "bool" = none
 list:mg "list" = none
 len:mg "len" = none
 str:mg "str" = none
 tuple:mg "tuple" = none
 all:mg "all" = none
 dict:mg "dict" = none
 max:mg "max" = none
 min:mg "min" = none
 range:mg "range" = none
 zip:mg "zip" = none
 enumerate:mg "enumerate" = none
 sorted:mg "sorted" = none
 sum:mg "sum" = none
 reversed:mg "reversed" = none
def Blt.ty(B:Blt mg)(n:Ty):mg n.nm=none/\bootBuiltins n.nm=some (.type n.nm):=by cases n;exact#[B.bool,aSp];exact#[B.int,bBl];exact#[B.str,bBk];exact#[B.tuple,ju_];exact#[B.list,lp_];exact#[B.dict,oR]
abbrev inN(N tgs:S4)(outs:T3):S4:=tgs++outs.map (λj=>N.getD j "")
section
variable{dsc scope:Scope}{N ps:S4}{l r e:Expr}{p:T6}{f m w G v:Pos}{E:XI}{D:XC}{A:XT}{x y z:Str}{k:Nat}
def mS(u:FnScope N ps dsc)(outs:T3)(q:XIt X Ex (.Name x m) l E)(h:∀{a C s H ex},XCs (cD X (inN N [x] outs) scope a C s H ex) dQ p D)(o:∀{a C s H ex},XE (cD X (inN N [x] outs) scope a C s H ex) dQ r A)
  (S:CompScope dsc scope N [x] outs (inN N [x] outs):=by refine#[rfl,?_,?_,?_,rfl,?_,?_,?_]<;>decide +kernel) (b:∀{a C s H ex},(cD X (inN N [x] outs) scope a C s H ex).env.scope.names.lookup x=some .local:=by intros;rfl) (c:outs.Nodup:=by decide) (g:X.N=N:=by rfl) (hsc:X.env.scope=dsc:=by rfl) (j:X.calm=true:=by rfl) (t:∀x,foldedSetIterable l X.env x=pure x:=by intro _;rfl) :
  XE X Ex (.ListComp r [#[.Name x m,l,p,0]] scope f) (lH 1 outs E (gxN 0) D A):=
 vG S q (λ_ _ _ _ _=>kI (i:=0) S.nd rfl (.inl b)<|.inr b) (i_ (n:=1) Nat.one_pos) (jl_ (n:=1) Nat.one_pos) (λ_ _ _ _ _=>h) (λ_ _ _ _ _=>o) c g hsc j t
def aAj(B:FnScope N ps dsc)(outs:T3)(t:XIt X Ex (.Tuple [.Name x m,.Name y w] k G) l E)(o:∀{a C s H ex},XCs (cD X (inN N [x,y] outs) scope a C s H ex) dQ p D)(q:∀{a C s H ex},XE (cD X (inN N [x,y] outs) scope a C s H ex) dQ r A)
  (S:CompScope dsc scope N [x,y] outs (inN N [x,y] outs):=by refine#[rfl,?_,?_,?_,rfl,?_,?_,?_]<;>decide +kernel) (c:∀{a C s H ex},(cD X (inN N [x,y] outs) scope a C s H ex).env.scope.names.lookup x=some .local:=by intros;rfl) (g:∀{a C s H ex},(cD X (inN N [x,y] outs) scope a C s H ex).env.scope.names.lookup y=some .local:=by intros;rfl) (h:outs.Nodup:=by decide) (j:X.N=N:=by rfl) (hsc:X.env.scope=dsc:=by rfl) (b:X.calm=true:=by rfl) (u:∀x,foldedSetIterable l X.env x=pure x:=by intro _;rfl) :
  XE X Ex (.ListComp r [#[.Tuple [.Name x m,.Name y w] k G,l,p,0]] scope f) (lH 2 outs E (gxT [0,1]) D A):=
 vG S t (λa C s H ex=>ko_ (X:=cD X (inN N [x,y] outs) scope a C s H ex) b<|sP (kI (i:=0) S.nd rfl (.inl c)<|.inr c)<|sP (kI (i:=1) S.nd rfl (.inl g)<|.inr g) eu_) (jg_ (n:=2) (is:=[0,1]) rfl `b) (nW (n:=2)<|cl_ `b (cl_ `b jk_ ck_) (dr_ ck_)) (λ_ _ _ _ _=>o) (λ_ _ _ _ _=>q) h j hsc b u
def sT(o:FnScope N ps dsc)(i:Nat)(outs:T3)(u:XIt X Ex (.Name x m) l E)(h:∀{a C s H ex},XCs (cD X (inN N [x] outs) scope a C s H ex) dQ p D)(t:∀{a C s H ex},XE (cD X (inN N [x] outs) scope a C s H ex) dQ r A)
  (S:CompScope dsc scope N [x] outs (inN N [x] outs):=by refine#[rfl,?_,?_,?_,rfl,?_,?_,?_]<;>decide +kernel) (I:X.N[i]? = some y:=by rfl) (J:X.env.scope.names.lookup y=some .local:=by rfl) (c:∀{a C s H ex},(cD X (inN N [x] outs) scope a C s H ex).env.scope.names.lookup x=some .local:=by intros;rfl) (g:outs.Nodup:=by decide)
  (j:swapsWith (.ListComp r [#[.Name x m,l,p,0]] scope f) (some<|.Name y w) v.line X.env=pure true:=by rfl) (b:X.N=N:=by rfl) (hsc:X.env.scope=dsc:=by rfl) (q:X.calm=true:=by rfl) (B:∀x,foldedSetIterable l X.env x=pure x:=by intro _;rfl) :
  XSt X Ex (.Assign [.Name y w] (.ListComp r [#[.Name x m,l,p,0]] scope f) v) (iQ i<|lH 1 outs E (gxN 0) D A):=
 lG λF=>PS.weak (oA (b ▸ o.nd) I J S (u F) (λ_ _ _ _ _=>kI (i:=0) S.nd rfl (.inl c)<|.inr c) (jl_ (n:=1) Nat.one_pos) (λ_ _ _ _ _=>h F) (λ_ _ _ _ _=>t F) j b hsc q B)<|p_ (i_ (n:=1) Nat.one_pos) g
def fS(b:FnScope N ps dsc)(i:Nat)(c:XE X Ex e t)(a:X.N=N:=by rfl)(h:X.N[i]? = some x:=by rfl)(o:Loc X.env.scope x:=by first | exact Or.inl rfl | exact Or.inr rfl)(j:swapsWith e (some<|.Name x m) f.line X.env=pure false:=by rfl)(g:X.fn x=true\/X.env.scope.names.lookup x=some .local:=by first | exact .inl rfl | exact .inr rfl | assumption):XSt X Ex (.Assign [.Name x m] e f)<|iQ i t:=aOf λF=>aWg (a ▸ b.nd) h o (c F) j g
def xv(i:Nat)(b:X.N[i]? = some x:=by rfl)(hv:Vis X.env.scope x:=by first | exact Or.inl rfl | exact Or.inr `q | exact Or.inr<|Or.inr rfl)(c:U5 x:=by decide)(a:U6 x:=by decide):XE X Ex (.Name x f)<|cA i:=aHg<|pv i b hv c a
def dL(K:dN)(ha:XE X Ex a b)(c:jY<|.Constant (.int i) q m:=by exact λ_ _=>rfl)(h:X.K=K:=by rfl):XE X Ex (.Subscript a (.Constant (.int i) q m) f)<|xOp ixX b<|xC<|.int i:=aTa K ha cQ c h
def eP(h:XE X Ex e t)(a:starEach [e] X.env=(false,eval e X.env)::starEach [] X.env:=by rfl):XAs X Ex [e] (bI t cG):=hU h jK a
def cO(h:XE X Ex e t)(h':XE X Ex a t')(c:starEach [e,a] X.env=(false,eval e X.env)::starEach [a] X.env:=by rfl)(b:starEach [a] X.env=(false,eval a X.env)::starEach [] X.env:=by rfl):XAs X Ex [e,a] (bI t<|bI t' cG):=hU h (eP h' b) c
def dS(C:Cal X.prog X.w X.K X.mg X.base j x ps<|spX g)(ha:XAs X Ex (e::a) u)(o:Room j X.A:=by exact Room.mono (by assumption) `a)(i:Gl X x:=by rfl)(b:U5 x:=by decide)
  (h:U7 X e a:=by rfl) (c:U8 X f a:=by rfl):XE X Ex (.Call (.Name x m) (e::a) [] f)<|dY g u:=aOr C o ha i b h c
def oN(i:Nat)(C:Cal X.prog X.w X.K X.mg X.base j x ps<|spB g)(ha:XAs X Ex a u)(q:Room j X.A:=by exact Room.mono (by assumption) `a)(hv:PE X e<|fO i:=by exact pv _)(o:Gl X x:=by rfl)(b:U5 x:=by decide)
  (h:U7 X e a:=by rfl) (c:U8 X f a:=by rfl):XE X Ex (.Call (.Name x m) (e::a) [] f)<|kU g i u:=aHo C q hv ha o b h c
def kS(ha:XE X Ex a c)(h:XE X Ex b g)(i:X.A.units<cLine:=by exact gA<|f6<|by assumption):XTe X Ex (.Compare a [.Eq] [b] f)<|xB<|xOp eqX c g:=yD (t4 X.K i) aTu ha h<|dP _
def kJ(ha:XE X Ex a c)(h:XE X Ex b g)(i:X.A.units<cLine:=by exact gA<|f6<|by assumption):XTe X Ex (.Compare a [.NotEq] [b] f)<|xB<|xOp neX c g:=yD (aKj X.K i) bEp ha h<|dP _
def vF(ha:XE X Ex a c)(h:XE X Ex b g)(i:X.A.units<cLine:=by exact gA<|f6<|by assumption):XE X Ex (.Compare a [.Eq] [b] f)<|xOp eqX c g:=jw_ (t4 X.K i) aTu ha h<|dP _
def nI(h:XE X Ex e t)(B:Blt X.mg:=by assumption)(c:Gl X "len":=by rfl)(a:starEach [e] X.env=(false,eval e X.env)::starEach [] X.env:=by rfl)(b:(backTo f<|starEach [] X.env).any (·.1)=false:=by rfl):XE X Ex (.Call (.Name "len" m) [e] [] f)<|dY aZv<|bI t cG:=bw_ (uT X.K) bBi c B.len PySem.boot_len (eP h a) `b `b a b
def lE(n:Ty)(h:XE X Ex e t)(B:Blt X.mg:=by assumption)(i:Gl X n.nm:=by rfl)(j:Gl X "isinstance":=by rfl)(o:(n.nm:Str) ≠ "__name__":=by decide)(c:((n.nm:Str) == ("__debug__" : Str))=false:=by decide)(g:starEach [e,.Name n.nm w] X.env=(false,eval e X.env)::starEach [.Name n.nm w] X.env:=by rfl)(b:starEach [.Name n.nm w] X.env=(false,eval (.Name n.nm w) X.env)::starEach [] X.env:=by rfl)(a:(backTo f<|starEach [.Name n.nm w] X.env).any (·.1)=false:=by rfl):XE X Ex (.Call (.Name "isinstance" m) [e,.Name n.nm w] [] f)<|xIs n t:=aDy n B.isinstance h (iq_ i (B.ty n).1 (B.ty n).2 rfl o c) j g b a
def kK(K:dN)(ha:XE X Ex a c)(i:XE X Ex b g)(j:jY b:=by exact λ_ _=>rfl)(h:X.K=K:=by rfl):XE X Ex (.Subscript a b f)<|xOp ixX c g:=aTa K ha i j h
def ek_(i:Nat)(a:XE X Ex e t)(h:∀{A:TE},PE X e A->PE X (.Call (.Attribute o x m) [e] [] f) (tBM X.K "list" nZ (fO i)<|lU A sB):=by intro A h;exact aKe PySem.F.plainAttrs_list PySem.F.slot_list_append PySem.F.type_list_append tU (pv _)<|lK h i4)(b:swapsWith (.Call (.Attribute o x m) [e] [] f) none v.line X.env=pure false:=by rfl):XSt X Ex (.Expr (.Call (.Attribute o x m) [e] [] f) v)<|aEc i t:=lG λF=>PS.weak (io_ (h<|a F) b) aVq
def aAi(t:FnScope N ps dsc)(i:Nat)(outs:T3)(h:∀{a C s H ex},XCs (cD X (inN N [x] outs) scope a C s H ex) dQ p D)(o:∀{a C s H ex},XE (cD X (inN N [x] outs) scope a C s H ex) dQ r A)
  (S:CompScope dsc scope N [x] outs (inN N [x] outs):=by refine#[rfl,?_,?_,?_,rfl,?_,?_,?_]<;>decide +kernel) (b:∀{a C s H ex},(cD X (inN N [x] outs) scope a C s H ex).env.scope.names.lookup x=some .local:=by intros;rfl) (hv:PE X (.Name y w)<|fO i:=by exact pv _) (c:outs.Nodup:=by decide) (g:X.N=N:=by rfl) (hsc:X.env.scope=dsc:=by rfl) (j:X.calm=true:=by rfl) (q:∀z,foldedSetIterable (.Name y w) X.env z=pure z:=by intro _;rfl) :
  XE X Ex (.ListComp r [#[.Name x m,.Name y w,p,0]] scope f) (vK i 1 outs (gxN 0) D A):=
 aHn S hv (λ_ _ _ _ _=>kI (i:=0) S.nd rfl (.inl b)<|.inr b) (i_ (n:=1) Nat.one_pos) (jl_ (n:=1) Nat.one_pos) (λ_ _ _ _ _=>h) (λ_ _ _ _ _=>o) c g hsc j q
def u7(h:XTe X Ex c t):XSt X Ex (.If c [.Return (some<|.Constant (.bool b) q m) w] [] f)<|xIf t (lT<|xC<|.bl b) jC:=iC h (cP<|dT j7) iH
end
def jO(i:Fun K x a st f fd)(S:FnScope N ps<|aQ st)
  (j:∀{c A b s H E},Room k (A.deeper<|PyProof.Rows.envOfC a (aQ st) s.heap.objs.size f c)->XSs (jT CX0 P w K mg base N a (aQ st) f c A b s H E).nox dQ (fB st) G) (e:∀ds Q,g ds Q->ds.length=ps.length/\G (jI N ds) (aEn Q)) (l:ps.length<=N.length:=by decide):FnOk P w K mg base CX0 (k+1) f fd ps<|spX g:=xT i S (λds Q h=>(e ds Q h).1) l λ_ _ _ _ _ _ m=>#[G,j m,λds Q h=>(e ds Q h).2]
end Lf
namespace Lf
open PySem
def dC(r:Int×Int)(p:Int)(s:Int×Int):Int:=if s.1<p+r.1/\p<s.2 then up s.2 r.2 else p
def fr(ly:S5)(b:Int)(r:Int×Int):Int:=ly.foldl (dC r)<|up b r.2
def jX(ly:S5):Prop:=(∀s∈ly,0<=s.1/\s.1<s.2)/\ly.Pairwise λs t=>s.2<=t.1
def aFu(a:0<r.2):p<=dC r p s:=by unfold dC;have:=(rW (n:=s.2) a).1;split<;>lia
def v4(h:p%r.2=0):dC r p s%r.2=0:=by unfold dC;split;exact aId;exact h
def xS(a:0<r.2):∀(ly:S5) (p:Int),p<=ly.foldl (dC r) p
 | [],p=>jA _
 |s::ly,p=>jG (aFu a)<|xS a ly _
def e_:∀(ly:S5) (p:Int),p%r.2=0->(ly.foldl (dC r) p)%r.2=0
 | [],p,h=>h
 |s::ly,p,h=>e_ ly _<|v4 h
def uH:∀(ly:S5) (p:Int),(∀s∈ly,p+r.1<=s.1)->ly.foldl (dC r) p=p
 | [],_,_=>rfl
 |s::ly,p,h=>by
  have e:dC r p s=p:=if_neg λc=>by have:=h s aB;lia
  show ly.foldl (dC r) (dC r p s)=p;rw[e];exact uH ly p λt a=>h t<|aC _ a
def uI(i:0<r.2):∀(ly:S5) (p:Int),jX ly->∀s∈ly,ly.foldl (dC r) p+r.1<=s.1\/s.2<=ly.foldl (dC r) p
 | [],_,_,_,h=>by cases h
 |s::ly,p,hR,t,ht=>by
  have l:=List.pairwise_cons.mp hR.2;have f:jX ly:=#[λu j=>hR.1 u<|aC _ j,l.2];show ly.foldl (dC r) (dC r p s)+r.1<=t.1\/t.2<=ly.foldl (dC r) (dC r p s);rcases aE.mp ht with h | h
  rw [h];have g:=xS i ly<|dC r p s;by_cases c:s.1<p+r.1/\p<s.2;have e:dC r p s=up s.2 r.2:=if_pos c;rw[e]at g ⊢;have:=(rW (n:=s.2) i).1;exact .inr<|jG this g;have e:dC r p s=p:=if_neg c;rw[e]at g ⊢;by_cases d:s.2<=p;exact .inr<|jG d g;have m:p + r.1≤s.1:=by lia
  rw[uH ly p λu j=>by have a:=l.1 u j;have b:=(hR.1 s aB).2;lia];exact .inl m;exact uI i ly _ f t h
def aCx(c:0<r.2)(e:r.2<=8):∀(ly:S5) (p:Int),(∀s∈ly,s.2<=B)->p<=B+8->ly.foldl (dC r) p<=B+8
 | [],_,_,h=>h
 |s::ly,p,hs,h=>by refine aCx c e ly _ (λt f=>hs t<|aC _ f) ?_;unfold dC;have a:=hs s aB;have b:=(rW (n:=s.2) c).2;split<;>lia
def aUf(a:0<r.2):b<=fr ly b r:=jG (rW a).1<|xS a ly _
def bAu:fr ly b r%r.2=0:=e_ ly _ aId
def aRt(c:0<r.2)(a:jX ly):∀s∈ly,fr ly b r+r.1<=s.1\/s.2<=fr ly b r:=uI c ly _ a
def bGi(a:0<r.2)(c:r.2<=8)(e:∀s∈ly,s.2<=B)(f:b<=B):fr ly b r<=B+8:=aCx a c ly _ e (by have:=(rW (n:=b) a).2;lia)
def rk(rs:S5)(k:Nat):Int×Int:=rs.getD k (0,1)
abbrev Way:=Int×Nat×Int
def wlt(a b:Way):Bool:=if a.1=b.1 then(if a.2.1=b.2.1 then decide (a.2.2<b.2.2)else decide (a.2.1<b.2.1))else decide (a.1<b.1)
def n9(a:Way):wlt a a=false:=by simp[wlt]
def aVc(h:wlt a b=false):b.1<=a.1:=by unfold wlt at h;split at h;lia;grind
def aHy(g:wlt a b=false)(h:wlt b a=false):a=b:=by obtain⟨e,i,j⟩:=a;obtain⟨f,l,m⟩:=b;simp only[wlt]at g h;by_cases c:e=f;grind;grind
def sW(e:wlt b a=false)(f:wlt c b=false):wlt c a=false:=by
 obtain⟨g,h,i⟩:=a;obtain⟨j,l,m⟩:=b;obtain⟨o,p,q⟩:=c;simp only[wlt]at e f ⊢
 repeat' split at e
 all_goals repeat' split at f
 all_goals repeat' split
 all_goals simp only[decide_eq_false_iff_not]at *
 all_goals lia
def pA(d:Way):List Way->Way
 | []=>d
 |a::r=>pA (if wlt a d then a else d) r
def jy_:∀(l:List Way) (d:Way),(pA d l=d\/pA d l∈l)/\wlt d (pA d l)=false/\∀a∈l,wlt a (pA d l)=false
 | [],d=>#[.inl rfl,n9 d,λa h=>by cases h]
 |a::r,d=>by
  show(pA (if wlt a d then a else d) r=d\/pA (if wlt a d then a else d) r∈a::r)/\wlt d (pA (if wlt a d then a else d) r)=false/\∀x∈a::r,wlt x (pA (if wlt a d then a else d) r)=false;by_cases c:wlt a d=true
  ·rw [if_pos c];obtain⟨j,e,f⟩:=jy_ r a;have i:wlt d a=false:=by
    cases z:wlt d a with
    |false=>rfl
    |true =>
     exfalso;obtain⟨m,o,p⟩:=a;obtain⟨q,s,t⟩:=d;simp only[wlt]at c z
     repeat' split at c
     all_goals repeat' split at z
     all_goals simp only[decide_eq_true_eq]at *
     all_goals lia
   refine#[.inr ?_,sW e i,λx b=>?_];grind;grind
  have g:wlt a d=false:=by grind
  rw[if_neg c];obtain⟨j,e,f⟩:=jy_ r d;refine#[?_,e,λx b=>?_];grind;rcases aE.mp b with b | b
  rw[b];exact sW e g;exact f x b
def w0:Way:=(0,0,0)
def aFi:List Way->Way
 | []=>w0
 |a::r=>pA a r
def tW(h:l≠[]):aFi l∈l/\∀a∈l,wlt a (aFi l)=false:=by
 cases l with
 |nil=>exact absurd rfl h
 |cons a r =>
  obtain⟨f,c,e⟩:=jy_ r a;show pA a r∈a::r/\_;refine#[?_,λx b=>?_];grind;rcases aE.mp b with b | b
  rw[b];exact c;exact e x b
def aQv(h:M∈l)(e:∀a∈l,wlt a M=false):M=aFi l:=by obtain⟨b,c⟩:=tW (l:=l) (λz=>by rw[z]at h;cases h);exact aHy (c M h)<|e _ b
def jU(rs ly:S5)(a:List Way)(g k:Nat):Way:=(fr ly (a.getD (g-2^k) w0).1 (rk rs k)+(rk rs k).1,k,fr ly (a.getD (g-2^k) w0).1<|rk rs k)
def hY(rs ly:S5)(a:List Way)(g n:Nat):List Way:=((List.range n).filter λk=>g.testBit k).map<|jU rs ly a g
def w_(rs ly:S5)(a:List Way)(g n:Nat):hY rs ly a g (n+1)=if g.testBit n=true then hY rs ly a g n++[jU rs ly a g n]else hY rs ly a g n:=by unfold hY;rw[List.range_succ,cT];by_cases h:g.testBit n=true;grind;grind
def wy(rs ly:S5):Nat->List Way
 | 0=>[w0]
 |g+1=>wy rs ly g++[aFi<|hY rs ly (wy rs ly g) (g+1) rs.length]
def gh_(rs ly:S5):∀g,(wy rs ly g).length=g+1
 | 0=>rfl
 |g+1=>by show(_++[_]).length=_;rw[aI,gh_ rs ly g];rfl
def way(rs ly:S5)(g:Nat):Way:=(wy rs ly g).getD g w0
def oZ(rs ly:S5):∀{h},g<=h->(wy rs ly h).getD g w0=way rs ly g
 | 0,e=>by
  have:g=0:=by lia
  subst this;rfl
 |h+1,e=>by by_cases c:g=h+1;subst c;rfl;have i:=oZ rs ly (g:=g) (h:=h) `a;rw[<-i];show(wy rs ly h++[_]).getD g w0=_;rw[aU,aU,cZ (by rw[gh_];lia)]
def pB(rs ly:S5)(g:Nat):way rs ly (g+1)=aFi (hY rs ly (wy rs ly g) (g+1) rs.length):=by show(wy rs ly g++[_]).getD (g+1) w0=_;rw[aU,bX (by rw[gh_];exact aO _),gh_,iI];rfl
def mL:∀g,g<32->∀k,k<5->g.testBit k=true->2^k<=g/\∀j,j<5->(g-2^k).testBit j=(g.testBit j&&decide (j≠k)):=by decide +kernel
def bDl:∀n,n<6->∀g,g<2^n->0<g->∃k,k<n/\g.testBit k=true:=by decide +kernel
def aOz:∀n,n<6->∀g,g<2^n->((∀j,j<n->g.testBit j=true)↔g=2^n-1):=by decide +kernel
def cz_:∀n,n<6->2^n<=32:=by decide
section
variable{rs ly:S5}
def rT(rs:S5):Prop:=rs.length<=5/\∀k,k<rs.length->1<=(rk rs k).1/\1<=(rk rs k).2/\(rk rs k).2<=8
def fs_(y:rT rs)(q:0<g)(h:g<2^rs.length) :
  (∃k,k<rs.length/\g.testBit k=true/\way rs ly g=(fr ly (way rs ly<|g-2^k).1 (rk rs k)+(rk rs k).1,k,fr ly (way rs ly<|g-2^k).1<|rk rs k)) /\
  ∀k,k<rs.length->g.testBit k=true->(way rs ly g).1<=fr ly (way rs ly<|g-2^k).1 (rk rs k)+(rk rs k).1:=by
 have m:=y.1;have t:=aV h<|cz_ _<|eU m;obtain⟨a,rfl⟩:∃a,g=a+1:=#[g-1,(Nat.sub_eq_iff_eq_add q).mp rfl];have f:∀k,k<rs.length->(a+1).testBit k=true->jU rs ly (wy rs ly a) (a+1) k=(fr ly (way rs ly<|a+1-2^k).1 (rk rs k)+(rk rs k).1,k,fr ly (way rs ly<|a+1-2^k).1<|rk rs k):=by intro k b c;have:=(mL _ t k (aV b m) c).1;have p:=eW k;unfold jU;rw[oZ rs ly (h:=a) `a]
 have i:∀k,k<rs.length->(a+1).testBit k=true->jU rs ly (wy rs ly a) (a+1) k∈hY rs ly (wy rs ly a) (a+1) rs.length:=by intro k b c;exact aZ.mpr #[k,cU.mpr #[cR.mpr b,c],rfl]
 obtain⟨A,u,v⟩:=bDl rs.length (eU m) (a+1) h q;obtain⟨r,s⟩:=tW (l:=hY rs ly (wy rs ly a) (a+1) rs.length) (λz=>by have:=i A u v;rw[z]at this;cases this);rw[<-pB]at r s;refine#[?_,λk b c=>?_];obtain ⟨k,b,e⟩:=aZ.mp r;obtain⟨j,o⟩:=cU.mp b;have j:=cR.mp j;exact#[k,j,o,by rw[<-e,f k j o]];have:=aVc<|s _<|i k b c;rw[f k b c]at this;exact this
def pC(c:rT rs):∀(g:Nat),g<2^rs.length->0<=(way rs ly g).1:=by
 intro g
 induction g using Nat.strongRecOn with
 |_ g r => intro h;by_cases j:g=0;subst j;exact jA _;obtain ⟨⟨k,m,q,e⟩,_⟩:=fs_ (ly:=ly) c (Nat.zero_lt_of_ne_zero j) h;have l:=c.1;have o:=aV h<|cz_ _<|eU l;have a:=(mL g o k (aV m l) q).1;have p:=eW k;have i:=r (g-2^k) (Nat.sub_lt_self p a)<|Nat.sub_lt_of_lt h;obtain⟨t,s,u⟩:=c.2 k m;have f:=aUf (ly:=ly) (b:=(way rs ly<|g-2^k).1)<|iB s;rw[e];lia
def aVd(a:rT rs)(A:0<=B)(r:∀s∈ly,s.2<=B)(o:∀k,k<rs.length->(rk rs k).1<=R)(q:0<=R):∀(g:Nat),g<2^rs.length->(way rs ly g).1<=B+g*(R+8):=by
 intro g
 induction g using Nat.strongRecOn with
 |_ g t =>
  intro h;by_cases m:g=0;subst m;show(0:Int)<=_;simp;lia;obtain ⟨⟨k,j,C,e⟩,_⟩:=fs_ (ly:=ly) a `a h;have z:=a.1;have v:=aV h<|cz_ _ `a;have p:=eW k;have i:=t (g-2^k) `a `a;obtain⟨D,E,u⟩:=a.2 k j;have F:=o k j;have c:((g-2^k:Nat):Int)*(R+8)<=((g-1:Nat):Int)*(R+8):=cB `a `a;have d:((g-1:Nat):Int)*(R+8)=g*(R+8)-(R+8):=by grind
  have y:0<=((g-1:Nat):Int)*(R+8):=Int.mul_nonneg `a `a;have f:=bGi (ly:=ly) (b:=(way rs ly<|g-2^k).1) (B:=B+((g-1:Nat):Int)*(R+8)) `a u (λs l=>by have:=r s l;lia) `a;rw[e];lia
end
section
variable{rs ly:S5}
def iX(rs:S5):Nat:=2^rs.length-1
def lg_(rs:S5):iX rs<2^rs.length:=by unfold iX;have:=eW rs.length;exact Nat.sub_one_lt_of_lt this
def d_(a:rT rs)(b:k<rs.length):(iX rs).testBit k=true:=(aOz rs.length (by have:=a.1;exact eU this) _<|lg_ rs).mpr rfl k b
def sQ(rs ly:S5):Nat->Nat->S7->S7
 | 0,_,ps=>ps
 |f+1,g,ps=>if g=0 then ps else sQ rs ly f (g-2^(way rs ly g).2.1) (ps.set (way rs ly g).2.1 (way rs ly g).2.2)
def pk(ps:S7)(k:Nat):Int:=ps.getD k 0
structure Bk(rs ly:S5)(g:Nat)(ps:S7):Prop where
 len:ps.length=rs.length
 ok:∀k,k<rs.length->g.testBit k=false->0<=pk ps k/\pk ps k%(rk rs k).2=0/\(∀s∈ly,pk ps k+(rk rs k).1<=s.1\/s.2<=pk ps k)/\(way rs ly g).1<=pk ps k/\pk ps k+(rk rs k).1<=(way rs ly (iX rs)).1
 dis:∀k j,k<rs.length->j<rs.length->k≠j->g.testBit k=false->g.testBit j=false->pk ps k+(rk rs k).1<=pk ps j\/pk ps j+(rk rs j).1<=pk ps k
 mx:g=iX rs\/∃k,k<rs.length/\g.testBit k=false/\pk ps k+(rk rs k).1=(way rs ly (iX rs)).1
def qD(h:k<ps.length):pk (ps.set k v) j=if j=k then v else pk ps j:=by unfold pk;rw[aU,aU];by_cases e:j=k;rw[if_pos e,e,fD h];rfl;rw[if_neg e,cI<|λz=>e z.symm]
def Bk.start(c:rT rs):Bk rs ly (iX rs)<|List.replicate rs.length 0:=
 #[bP,λk b a=>absurd a (by rw[d_ c b];decide),λk j b _ _ a _=>absurd a (by rw[d_ c b];decide),.inl rfl]
def Bk.step(v:rT rs)(S:jX ly)(R:0<g)(G:g<2^rs.length)(h:Bk rs ly g ps) :
  (way rs ly g).2.1<rs.length/\g.testBit (way rs ly g).2.1=true/\2^(way rs ly g).2.1<=g/\Bk rs ly (g-2^(way rs ly g).2.1) (ps.set (way rs ly g).2.1 (way rs ly g).2.2):=by
 have U:=v.1;obtain⟨⟨k,A,J,e⟩,_⟩:=fs_ (ly:=ly) v R G;have M:=aV G<|cz_ _ `a;obtain⟨a,b⟩:=mL g M k `a J;have W:=pC (ly:=ly) v (g-2^k) `a;obtain⟨Y,Z,d⟩:=v.2 k A;have N:(way rs ly g).2.1=k:=by rw[e]
 have O:(way rs ly g).2.2=fr ly (way rs ly<|g-2^k).1 (rk rs k):=by rw[e]
 have Q:(way rs ly g).1=fr ly (way rs ly<|g-2^k).1 (rk rs k)+(rk rs k).1:=by rw[e]
 rw[N,O];have t:=aUf (ly:=ly) (b:=(way rs ly<|g-2^k).1) (r:=rk rs k) `a;have s:=aRt (ly:=ly) (b:=(way rs ly<|g-2^k).1) (r:=rk rs k) `a S;have u:=bAu (ly:=ly) (b:=(way rs ly<|g-2^k).1) (r:=rk rs k);generalize fr ly (way rs ly<|g-2^k).1 (rk rs k)=p at Q t s u;have T:(way rs ly g).1<=(way rs ly<|iX rs).1:=by
  rcases h.mx with z | ⟨j,f,l,z⟩
  rw[z];exact jA _;obtain ⟨_,_,_,F,B⟩:=h.ok j f l;have:=(v.2 j f).1;lia
 have q:k<ps.length:=by rw[h.len];exact A
 have m:∀j,j<rs.length->j≠k->(g-2^k).testBit j=false->g.testBit j=false:=λj f L l=>by rw[b j `a,dzT L,Bool.and_true]at l;exact l
 refine#[A,J,a,#[by rw[bJ];exact h.len,λj f l=>?_,λi j y f H I l=>?_,.inr ?_]];rw [qD q];by_cases c:j=k;rw [if_pos c,c];exact#[by lia,u,s,t,by lia];rw [if_neg c];obtain⟨C,D,E,F,B⟩:=h.ok j f<|m j f c l;exact#[C,D,E,by lia,B];rw [qD q,qD q];by_cases c:i=k;have o:j≠k:=fun z=>H<|c.trans z.symm;rw[if_pos c,if_neg o,c];obtain⟨C,D,E,F,B⟩:=h.ok j f<|m j f o l;exact .inl `a;by_cases o:j=k;rw [if_neg c,if_pos o,o];obtain⟨C,D,E,F,B⟩:=h.ok i y<|m i y c I;exact .inr `a;rw [if_neg c,if_neg o];exact h.dis i j y f H (m i y c I)<|m j f o l;rcases h.mx with z | ⟨j,f,l,z⟩
 refine #[k,A,by rw [b k `a,dzF<|fun z=>z rfl,Bool.and_false],?_];rw[qD q,if_pos rfl];lia;have c:j≠k:=by grind
 refine#[j,f,by rw[b j `a,l,Bool.false_and],?_];rw[qD q,if_neg c];exact z
def aDq(b:rT rs)(a:jX ly):∀(f g:Nat) (ps:S7),g<=f->g<2^rs.length->Bk rs ly g ps->Bk rs ly 0 (sQ rs ly f g ps)
 | 0,g,ps,h,_,hb=>by have:g=0:=Nat.eq_zero_of_le_zero h;subst this;exact hb
 |f+1,g,ps,h,Ap,hb=>by show Bk rs ly 0 (if g=0 then ps else _);by_cases c:g=0;rw[if_pos c];rw[c]at hb;exact hb;rw [if_neg c];obtain⟨i,j,l,e⟩:=hb.step b a (Nat.zero_lt_of_ne_zero c) Ap;have p:0<2^(way rs ly g).2.1:=eW _;exact aDq b a f _ _ `a (Nat.sub_lt_of_lt Ap) e
def dpP(rs ly:S5):S7:=sQ rs ly (iX rs) (iX rs)<|List.replicate rs.length 0
def lh_(a:rT rs)(b:jX ly):Bk rs ly 0<|dpP rs ly:=aDq a b _ _ _ (aO _) (lg_ rs)<|Bk.start a
def uZ(i:rT rs)(o:jX ly):∀(f h g:Nat) (ps:S7),g<=f->g<=h->g<2^rs.length->sQ rs ly f g ps=sQ rs ly h g ps
 | 0,0,g,ps,_,_,_=>rfl
 | 0,h+1,g,ps,h1,_,_=>by
  have:g=0:=by lia
  subst this;rfl
 |f+1,0,g,ps,_,h2,_=>by
  have:g=0:=by lia
  subst this;rfl
 |f+1,h+1,g,ps,h1,h2,h3=>by
  show(if g=0 then ps else _)=(if g=0 then ps else _);by_cases c:g=0;rw[if_pos c,if_pos c];rw [if_neg c,if_neg c];obtain⟨⟨k,r,q,e⟩,_⟩:=fs_ (ly:=ly) i `a h3;have m:=i.1;have j:=aV h3<|cz_ _ `a;obtain⟨a,b⟩:=mL g j k (aV r m) q;have l:(way rs ly g).2.1=k:=by rw[e]
  have p:0<2^k:=eW _;rw[l];exact uZ i o f h _ _ `a `a `a
end
end Lf
namespace Lf
open PySem L2
def top(i:Nat):Stmt:=PySem.Challenge.pw_laidfields_k41_steady_names.main.body.getD i<|.Pass #[0,0,0,0]
abbrev hk_:Stmt:=top 10
abbrev gn_:Stmt:=top 11
abbrev hl_:Stmt:=top 12
abbrev gm_:Stmt:=top 13
abbrev fv_:Stmt:=top 23
abbrev de_:Stmt:=top 24
abbrev dw_:Stmt:=top 25
abbrev kj_:Stmt:=top 26
abbrev in_:Stmt:=top 27
abbrev tG:Stmt:=top 28
abbrev df_:Stmt:=top 29
abbrev gz_:Stmt:=top 30
abbrev fn_:Stmt:=top 31
abbrev fl_:Stmt:=top 32
abbrev kf_:Stmt:=top 33
abbrev ik_:Stmt:=top 34
abbrev cf_:Stmt:=top 35
abbrev ke_:Stmt:=top 36
abbrev es_:Stmt:=top 37
abbrev cc_:Stmt:=top 38
abbrev du_:Stmt:=top 39
abbrev dd_:Stmt:=top 40
abbrev gy_:Stmt:=top 41
abbrev ez_:Stmt:=top 43
abbrev gl_:Stmt:=top 44
abbrev go_:Stmt:=top 45
abbrev fb_:Stmt:=top 46
abbrev hq_:Stmt:=top 47
abbrev ec_:Stmt:=top 48
abbrev jd_:Stmt:=top 49
abbrev im_:Stmt:=top 52
abbrev ej_:Stmt:=top 53
abbrev cu_:Stmt:=top 54
abbrev cv_:Stmt:=top 55
abbrev pY:Stmt:=top 56
abbrev ee_:Stmt:=top 60
abbrev fm_:Stmt:=top 61
abbrev dx_:Stmt:=top 62
abbrev fa_:Stmt:=top 63
abbrev kg_:Stmt:=top 64
abbrev pX:Stmt:=top 65
abbrev ho_:Stmt:=top 67
abbrev pU:Stmt:=top 68
abbrev pW:Stmt:=top 69
abbrev fu_:Stmt:=top 70
abbrev gw_:Stmt:=top 71
abbrev il_:Stmt:=top 72
abbrev pT:Stmt:=top 73
abbrev ft_:Stmt:=top 74
abbrev hp_:Stmt:=top 75
abbrev gu_:Stmt:=top 76
abbrev pV:Stmt:=top 77
abbrev ds_:Stmt:=top 78
abbrev ki_:Stmt:=top 79
abbrev gx_:Stmt:=top 80
abbrev kh_:Stmt:=top 82
abbrev hn_:Stmt:=top 83
abbrev ed_:Stmt:=top 84
abbrev gv_:Stmt:=top 85
abbrev nF:Stmt:=top 86
def ei_:FnScope ["house","a","b","of_a","of_b"] AD (aQ hk_):=gP `c
def fi_:FnScope AI AI<|aQ gn_:=gP `c
def gj_:FnScope AI AI<|aQ hl_:=gP `c
def fh_:FnScope ["house","a","b","both"] AD (aQ gm_):=gP `c
def zK:FnScope AA AA<|aQ fv_:=gP `c
def ih_:FnScope AW AW<|aQ de_:=gP `c
def jj_:FnScope BC BC<|aQ dw_:=gP `c
def pS:FnScope AA AA<|aQ kj_:=gP `c
def zM:FnScope AH AH<|aQ in_:=gP `c
def r6:FnScope AA AA<|aQ tG:=gP `c
def ii_:FnScope AQ AQ<|aQ df_:=gP `c
def jc_:FnScope AE AE<|aQ gz_:=gP `c
def iE:FnScope ["things","depth","names","thing"] AE (aQ fn_):=gP `c
def sD:FnScope AB AB<|aQ fl_:=gP `c
def pQ:FnScope AX AX<|aQ kf_:=gP `c
def kb_:FnScope AN AN<|aQ ik_:=gP `c
def dk_:FnScope BB BB<|aQ cf_:=gP `c
def q9:FnScope ["room"] ["room"] (aQ ke_):=gP `c
def gi_:FnScope ["kind","n","room"] ["kind","n"] (aQ es_):=gP `c
def fW:FnScope ["kinds","rooms","multiple","ends"] AN (aQ cc_):=gP `c
def eC:FnScope ["rooms","places","end","room","place"] BB (aQ du_):=gP `c
def bo_:FnScope ["kinds","rooms","multiple","greatest"] AN (aQ dd_):=gP `c
def vX:FnScope ["multiple"] ["multiple"] (aQ gy_):=gP `c
def ct_:FnScope ["kinds","lying","rooms","places"] ["kinds","lying"] (aQ ez_):=gP `c
def fg_:FnScope BE BE<|aQ gl_:=gP `c
def fk_:FnScope BP BP<|aQ go_:=gP `c
def gZ:FnScope ["rooms","lying","ways","group"] ["rooms","lying"] (aQ fb_):=gP `c
def gG:FnScope ["group","ways","rooms","lying","found","k","room","place"] AU (aQ hq_):=gP `c
def bl_:FnScope ["ways","how_many","places","group","way"] ["ways","how_many"] (aQ ec_):=gP `c
def iD:FnScope ["begin","room","lying","place","stretch"] BK (aQ jd_):=gP `c
def zL:FnScope AO AO<|aQ im_:=gP `c
def fj_:FnScope AY AY<|aQ ej_:=gP `c
def cm_:FnScope BF BF<|aQ cu_:=gP `c
def hh_:FnScope BI BI<|aQ cv_:=gP `c
def hi_:FnScope AA AA<|aQ pY:=gP `c
def ce_:FnScope ["fields"] ["fields"] (aQ ee_):=gP `c
def fE:FnScope ["there","changes","fields","change"] BL (aQ fm_):=gP `c
def ge_:FnScope AJ AJ<|aQ dx_:=gP `c
def el_:FnScope AL AL<|aQ fa_:=gP `c
def vW:FnScope AJ AJ<|aQ kg_:=gP `c
def kc_:FnScope AL AL<|aQ pX:=gP `c
def pR:FnScope BO BO<|aQ ho_:=gP `c
def gs_:FnScope ["cell","k","one"] ["cell","k"] (aQ pU):=gP `c
def gE:FnScope ["cell","many","found","digits","k","number"] BN (aQ pW):=gP `c
def zJ:FnScope BH BH<|aQ fu_:=gP `c
def gY:FnScope ["deck","many","start","names","k","letter"] ["deck","many"] (aQ gw_):=gP `c
def gt_:FnScope ["deck","deep","way","kinds"] BG (aQ il_):=gP `c
def aEm:FnScope AB AB<|aQ pT:=gP `c
def cV:FnScope ["kind","room","m","parts","sizes","end","other"] AX (aQ ft_):=gP `c
def gk_:FnScope ["deck","deep","most","kind"] AT (aQ hp_):=gP `c
def fI:FnScope ["kind","deck","number","k"] AR (aQ gu_):=gP `c
def zI:FnScope [] [] (aQ pV):=gP `c
def fH:FnScope AS BD<|aQ ds_:=gP `c
def eT:FnScope ["cell","deck","start","fields","now","k","name","kind"] ["cell"] (aQ ki_):=gP `c
def eb_:FnScope AZ AZ<|aQ gx_:=gP `c
def jb_:FnScope ["caught","others"] ["caught"] (aQ kh_):=gP `c
def gX:FnScope ["house","a","b","caught","e"] AD (aQ hn_):=gP `c
def dU:FnScope ["house","changes","six","caught","e"] BM (aQ ed_):=gP `c
def fJ:FnScope ["house","makes","a","b","due","name","k","kind","found"] AV (aQ gv_):=gP `c
def gF:FnScope ["script","house","now","known","makes","cell","last","changes","many","a","far","good","bad"] ["script"] (aQ nF):=gP `c
abbrev r_:Stmt:=eZ (top 59) 0
def aPk:FnScope BJ BJ<|aQ r_:=gP `c
abbrev dv_:Stmt:=eZ (top 59) 1
def ja_:FnScope AM AM<|aQ dv_:=gP `c
abbrev db_:Stmt:=eZ (top 59) 2
def ba_:FnScope ["self","there","changes","fields","kept","new","kinds","rooms","places","laid"] AG (aQ db_):=gP `c
abbrev cd_:Stmt:=eZ (top 59) 3
def ij_:FnScope ["self"] ["self"] (aQ cd_):=gP `c
abbrev kk_:Stmt:=eZ (top 59) 4
abbrev et_:Stmt:=eZ (top 59) 5
def iz_:FnScope AC AC<|aQ et_:=gP `c
abbrev tF:Stmt:=eZ (top 59) 6
abbrev hm_:Stmt:=eZ (top 59) 7
def q_:FnScope AC AC<|aQ hm_:=gP `c
def yU{G K}{ρ}{D}(M:En->Prop)(b:∀ρ',M ρ'->K ρ' D)(c:∀a:XD,(∀ρ',M ρ'->a.nx ρ')->G ρ a):cX G K ρ D:=c { D with nx:=λρ'=>K ρ' D } b
def j9{i}{t}{K}{ρ}{D}(h:t ρ λs ρ'=>K (ρ'.set i<|.v s) D):cX (iQ i t) K ρ D:=h
def jh_{i}{s}{ρ}{Q}(a:ρ[i]? = some (.v s))(h:Q (.tr s.d)<|ρ.set i<|vT s.d):cA i ρ Q:=by unfold cA;rw[a];exact h
def hw_{d}{ρ}{Q}(h:Q (.tr d) ρ):xC d ρ Q:=h
def aRm{g}{u}{ρ}{Q}(h:u ρ λss ρ'=>g (ss.map Sv.d) λs=>Q s ρ'):dY g u ρ Q:=h
def hc_{t}{u}{ρ}{Q}(h:t ρ λs a=>u a λss b=>Q (s::ss) b):bI t u ρ Q:=h
def aMf{ρ}{Q}(h:Q [] ρ):cG ρ Q:=h
def aMe{g}{ta tb}{ρ}{Q}(h:ta ρ λa c=>tb c λb e=>g a.d b.d λs=>Q s e):xOp g ta tb ρ Q:=h
def kZ{c}{G K}{ρ ρ'}{D}(a:∀Q:Bool->En->Prop,Q false ρ'->c ρ Q)(h:K ρ' D):cX (xIf c G jC) K ρ D:=a _ h
def eg_{c}{G K}{ρ ρ'}{D}(b:Bool)(a:∀Q:Bool->En->Prop,Q b ρ'->c ρ Q)(f:b=true->G ρ' { D with nx:=λρ=>K ρ D })(e:b=false->K ρ' D):cX (xIf c G jC) K ρ D:=by
 refine a _ ?_;cases b with
 |true=>exact f rfl
 |false=>exact e rfl
def u9{t}{ρ}{D}(h:t ρ λs ρ'=>D.rt s ρ'):lT t ρ D:=h
def bAq{u}{ρ}{Q}(h:u ρ λss ρ'=>ss.length<=1000000/\Q (.ol<|ss.map Sv.d) ρ'):lB u ρ Q:=h
def u_{f}{i}{d}{b}{ρ}{Q}(a:ρ[i]? = some (vT d))(e:f d=some b)(q:Q (.tr<|.bl b) ρ):aOw f (cA i) ρ Q:=by
 unfold aOw cA;rw[a];show match f d with | some b=>Q (.tr<|.bl b) (ρ.set i<|.v<|.tr d) | none=>False
 rw[e];have c:ρ.set i (vT d)=ρ:=by obtain⟨h,g⟩:=aL.mp a;rw[<-g,List.set_getElem_self]
 rw[c];exact q
def lD{c:Type}{a b:c}:[a,b].length<=1000000:=by show 2<=1000000;decide
def xJ{l}{r}{Q}(a:0<=r)(b:r<l.length)(q:∀d∈l,Q<|.tr d):ixX (.lst l) (.int r) Q:=by obtain⟨x,e,c⟩:=z9 a b;show(match atI l r with | some d=>Q (.tr d) | none=>False);rw[e];exact q x<|bA c
def rA{c}{G K}{ρ ρ'}{D}(b:Bool)(a:∀Q:Bool->En->Prop,Q b ρ'->c ρ Q)(f:b=true->G ρ' D)(e:b=false->K ρ' D):xIf c G K ρ D:=by
 refine a _ ?_;cases b with
 |true=>exact f rfl
 |false=>exact e rfl
def fX(x:Str):T3:=x.cps.toList
def dy_(x:Str):x.length=(fX x).length:=by simp[fX,Str.length]
def ic_(x y:Str):fX (x++y)=fX x++fX y:=by show(x.cps++y.cps).toList=_;rw[Array.toList_append];rfl
def lm_(c:Nat):fX #[[c].toArray]=[c]:=rfl
def aNf{k:Int}(a:0<=k)(b:k<=(fX x).length):fX (Txt.slice x none<|some k)=(fX x).take k.toNat:=by have e:=beq_iff_eq.mp<|PyProof.Rows.slice_closes_toL (x:=x) a (by rw[dy_];exact b);rw[e];simp[fX]
def Low(l:T3):Prop:=∀c∈l,97<=c/\c<=122
def Nm(x:Str):Prop:=1<=(fX x).length/\(fX x).length<=8/\Low (fX x)
abbrev lets:Str:= "abcdefghijklmnopqrstuvwxyz"
def u4:fX lets=(List.range 26).map (97 + ·):=by decide +kernel
def aQw(a:0<=r)(b:r<26):atI lets.cps.toList r=some (97+r.toNat):=by
 have e:((r.toNat:Nat):Int)=r:=by omega
 have q:atI (fX lets) ((r.toNat:Nat):Int)=some (97+r.toNat):=k_ (by rw[u4,bK,iO<|by omega];rfl);rw[e]at q;exact q
def aQy(x y:Str):(x++y).length=x.length+y.length:=by rw[dy_,ic_,aI,dy_ x,dy_ y]
section
variable{n:Nat}
def aUn(h:n<=12):bnd n<2^150:=Int.lt_of_le_of_lt (id_ h) `b
def aTy:∀{ks} {i:Nat} {k},okK ks->ks[i]? = some k->k.Ok/\k.deep<=dW ks
 | [],_,_,_,e=>by simp at e
 |k'::r,0,k,h,e=>by simp at e;subst e;exact#[h.1,fT _ _]
 |k'::r,i+1,k,h,e=>by obtain⟨a,b⟩:=aTy (i:=i) h.2 (by simpa using e);exact#[a,nzL b<|fF _ _]
def j3(h:okK ks)(a:dW ks<=n)(b:n<=12):∀r∈rmK ks,Bd (2^150) r:=λr c=>(bdK ks h r c).mono<|Int.le_of_lt<|aUn<|nzL a b
def bMc{k:Kd}(h:k.Ok)(a:k.deep<=n)(b:n<=12):Bd (2^150) k.rm:=(Kd.bd k h).mono<|Int.le_of_lt<|aUn<|nzL a b
def aBw:∀{fs:T9},okF fs->okK (fs.map (·.2))
 | [],_=>trivial
 |f::r,h=>#[h.1,aBw h.2]
def fr_:∀(fs:T9),dW (fs.map (·.2))=gL fs
 | []=>rfl
 |f::r=>by show max f.2.deep (dW (r.map (·.2)))=_;rw[fr_ r];rfl
def aBg:∀(fs:T9),rmK (fs.map (·.2))=rmF fs
 | []=>rfl
 |f::r=>by show f.2.rm::rmK (r.map (·.2))=_;rw[aBg r];rfl
end
mutual
def Kd.Full:Kd->Prop
 | .num _ _=>True
 | .row k _=>k.Full
 | .rcd fs=>fs≠[]/\aUe fs
 | .cho ks=>ks≠[]/\aUd ks
def aUe:T9->Prop
 | []=>True
 |f::r=>f.2.Full/\aUe r
def aUd:T2->Prop
 | []=>True
 |k::r=>k.Full/\aUd r
end
mutual
def Kd.Fit:Kd->Prop
 | .num w m=>1<=w/\w<=8/\(m=1\/m=2\/m=4\/m=8)
 | .row k n=>k.Fit/\1<=n/\n<=20
 | .rcd fs=>lM fs/\1<=fs.length/\fs.length<=8/\(fs.map (·.1)).Nodup
 | .cho ks=>jJ ks/\1<=ks.length/\ks.length<=6
def lM:T9->Prop
 | []=>True
 |f::r=>(Nm f.1/\f.2.Fit)/\lM r
def jJ:T2->Prop
 | []=>True
 |k::r=>k.Fit/\jJ r
end
mutual
def Kd.Fit.ok:∀(k:Kd),k.Fit->k.Ok
 | .num w m,h=>by obtain⟨a,b,c⟩:=h;exact#[a,b,by lia,by lia]
 | .row k n,h=>#[Kd.Fit.ok k h.1,by have:=h.2.1;lia,by have:=h.2.2;lia]
 | .rcd fs,h=>#[oM fs h.1,by have:=h.2.2.1;lia]
 | .cho ks,h=>#[hd_ ks h.1,by have:=h.2.2;lia]
def oM:∀(fs:T9),lM fs->okF fs
 | [],_=>trivial
 |f::r,h=>#[Kd.Fit.ok f.2 h.1.2,oM r h.2]
def hd_:∀(ks:T2),jJ ks->okK ks
 | [],_=>trivial
 |k::r,h=>#[Kd.Fit.ok k h.1,hd_ r h.2]
end
def uL:∀{ks} {k},jJ ks->k.Fit->jJ (ks++[k])
 | [],_,_,b=>#[b,trivial]
 |g::r,f,h,b=>#[h.1,uL h.2 b]
def rJ:∀{ks} {k} {n},dW ks<=n->k.deep<=n->dW (ks++[k])<=n
 | [],f,n,_,b=>by show max f.deep 0<=n;omega
 |g::r,f,n,h,b=>by
  have a:max g.deep (dW r)<=n:=h;have:=rJ (ks:=r) (k:=f) (n:=n) (by omega) b;show max g.deep (dW<|r++[f])<=n
  omega
def tk:Nat->Int
 | 0=>0
 |n+1=>3000+12*tk n
mutual
def Kd.x:Kd->Dx
 | .num w m=>.tup [.str "number",.int w,.int m]
 | .row k n=>.tup [.str "row",k.x,.int n]
 | .rcd fs=>.tup [.str "record",.lst<|xF fs]
 | .cho ks=>.tup [.str "choice",.lst<|xK ks]
def xF:T9->S1
 | []=>[]
 |f::r=>.tup [.str f.1,f.2.x]::xF r
def xK:T2->S1
 | []=>[]
 |k::r=>k.x::xK r
end
def gg_:∀fs:T9,xF fs=fs.map λf=>.tup [.str f.1,f.2.x]
 | []=>rfl
 |f::r=>by rw[xF,gg_ r];rfl
def j_:∀ks:T2,xK ks=ks.map Kd.x
 | []=>rfl
 |f::r=>by rw[xK,j_ r];rfl
def gH(l:S1):Prop:=∃a:S7,l=a.map Dx.int/\∀x∈a,0<=x
def gCL(K:dN):GC:=λa Q=>∃(b:S7) (k:Int),a=[.scr K b,.int k]/\0<=k/\∀c:Int,Q<|.tr<|.int c
def gST:GC:=λa Q=>∃(c k:Int),a=[.int c,.int k]/\0<=k/\k<=300/\∀r:Int,0<=r->Q (.tr<|.int r)
def gDK:GC:=λa Q=>∃(c m:Int),a=[.int c,.int m]/\0<=m/\m<=300/\∀l:S1,gH l->Q (.ol l)
def gNX:GB:=λl b Q=>b=[]/\gH l/\∀(r:Int) (a:S1),0<=r->gH a->Q (.int r) a
section
variable{f:Addr}
def aZe(F:Fun K "_law_cell_at" "_law_cell_at" ho_ f fd)(B:Blt mg):FnOk P w K mg base CX0 1 f fd BO<|spX<|gCL K:=by
 refine jO F pR (λi=>(cE (iC (yD ks_ kq_ `h (bw_ (uT K) aSj rfl B.len PySem.boot_len<|eP `e) (dP _)) (cP<|dT<|aUr K `e `h (λ_ _=>rfl)) iH)
  (cP<|dT cQ))) λg Q h=>?_
 obtain⟨e,k,rfl,b,q⟩:=h;refine#[rfl,?_];refine#[rfl,?_];refine aRe (λc=>?_)<|λc=>q 0;have a:=of_decide_eq_true c;obtain⟨v,hv,_⟩:=z9 (l:=e) b a;refine#[rfl,?_];rw[hv];exact q v
def aXo(F:Fun K "_law_stir" "_law_stir" pU f fd):FnOk P w K mg base CX0 1 f fd ["cell","k"] (spX gST):=by
 refine jO F gs_ (λj=>(cE (fS gs_ 2<|mW (ey_ (lN (lN (mW `e cQ)<|ey_ cQ `h) cQ) cQ) cQ)
  (cE (fS gs_ 2<|mW (ey_ (xv 2)<|xv 2) cQ)
  (cP<|dT<|nU (mW (ey_ (lN (xv 2)<|ey_ cQ `h) cQ) cQ) cQ)))) λi Q h=>?_
 obtain⟨c,k,rfl,l,m,q⟩:=h;refine#[rfl,?_];refine#[by show(0:Int)<2147483629;decide,#[by decide,by lia],#[by lia,by decide],by show(0:Int)<2147483647;decide,?_];have a:(0:Int)<=(c%2147483629+9973*k+5)*48271%2147483647:=bT _ `b;have b:(c%2147483629+9973*k+5)*48271%2147483647<2147483647:=bU _ `b;dsimp only;generalize (c%2147483629+9973*k+5)*48271%2147483647=S at a b ⊢;have e:(0:Int)<=S*S%2147483587:=bT _ `b;have g:S*S%2147483587<2147483587:=bU _ `b;refine#[`o,by show(0:Int)<2147483587;decide,?_];generalize S*S%2147483587=T at e g ⊢;refine#[#[by decide,by lia],#[by lia,by decide],by show(0:Int)<2147483563;decide,#[by decide,by decide],q _<|Int.ediv_nonneg (bT _ `b) `b]
def aZb(F:Fun K "_law_deck" "_law_deck" pW f fd)(p:Cal P w K mg base 1 "_law_stir" ["cell","k"] (spX gST))(B:Blt mg):FnOk P w K mg base CX0 2 f fd BN<|spX gDK:=by
 refine jO F gE (λS=>(cE (fS gE 2<|kF jK)
  (cE (fS gE 3 `e)
  (cE (k9 PassesOwn.never rfl (bt_ B.range<|eP `h) (kI (i:=4) gE.nd rfl `q) (i_ (n:=99) (i:=4) `b) (cE (fS gE 5<|dS p<|cO `e (xv 4))
  (cE (iC (yD aTv aTt `e (aHh cQ cQ) (dP _)) (cP<|fS gE 5<|mW (xv 3) cQ) iH)
  (cE (fS gE 3<|nU (xv 3) cQ)
  (cP<|ek_ 2<|xv 5)))))
  (cP<|dT<|aOn<|xv 2))))) λR Q h=>?_
 obtain⟨c,m,rfl,T,U,q⟩:=h;refine#[rfl,?_];have G:aNr 10 18:=#[by decide,by decide,by decide];refine#[bM _,?_];dsimp only;refine j9 ?_;refine jh_ rfl ?_;refine cs_ (λb=>∃(a:S7) (C g j:Sl),(∀x∈a,0<=x)/\b=[vT<|.int c,vT<|.int m,.v<|.ol<|a.map Dx.int,C,g,j]) ?_<|λW E=>?_;rintro b ⟨a,C,g,j,e,rfl⟩;show Q (.ol (a.map Dx.int).reverse);rw[<-List.map_reverse];exact q _ #[a.reverse,rfl,λx H=>e x<|List.mem_reverse.mp H];refine#[`o,?_];refine x6 (λk:Nat=>Dx.int<|0+(k:Int)) (λrest b=>∃(a:S7) (o:Int) (g j:Sl),a.length+rest.length<=300/\(∀x∈a,0<=x)/\(∀k∈rest,k<300)/\b=[vT<|.int c,vT<|.int m,.v<|.ol<|a.map Dx.int,vT<|.int o,g,j]) (λb h=>?_) (λk rest b N h s=>?_) #[[],c,.un,.un,by rw[bV,bE];lia,λx e=>absurd e bG,λk s=>by have:=cR.mp s;lia,rfl];obtain ⟨a,o,g,j,A,e,_,rfl⟩:=h;exact E _ #[a,_,_,_,e,rfl];obtain⟨a,o,g,j,A,e,u,rfl⟩:=h;have O:=u k aB;rw[aK]at A;have t:(a.map Dx.int).length<1000000:=by grind
 refine#[c,0+(k:Int),rfl,by lia,by lia,λr J=>?_];dsimp only;refine yU (λb=>∃z:Int,0<=z/\b=[vT<|.int c,vT<|.int m,.v<|.ol<|a.map Dx.int,vT<|.int o,vT<|.int<|0+(k:Int),vT<|.int z]) ?_<|λM v=>?_;rintro b ⟨z,L,rfl⟩;refine#[by show aNs o 720720;exact#[by decide,by decide],?_];refine#[rfl,t,s _ #[a++[z],_,_,_,by rw[aI,jQ];lia,λy l=>?_,λI D=>u I<|aC _ D,by rw[aY];rfl]];rcases aX.mp l with l | l
 exact e y l;rw[aF.mp l];exact L;refine#[G,?_];refine aRe (λh=>?_)<|λh=>v _ #[r,J,rfl];exact#[by show(0:Int)<720720;decide,v _ #[_,bT _ `b,rfl]]
def wQ(F:Fun K "_law_next" "_law_next" fu_ f fd):FnOk P w K mg base CX0 1 f fd BH<|spB gNX:=by
 refine aRv F zJ (λl j Q h=>by obtain⟨rfl,_⟩:=h;rfl) `b λp A c s H E o=>?_;have g:=gA<|f6 o;refine#[_,(cE (iC (aOe K g (pv 0) (kF jK)<|dP _) (cP<|dT cQ) iH)
  (cP<|dT<|λF=>PE.weak (aKd PySem.F.plainAttrs_list PySem.F.slot_list_pop PySem.F.type_list_pop aZq<|pv 0) aVk)),λl j Q h=>?_]
 obtain⟨rfl,⟨a,rfl,b⟩,q⟩:=h;by_cases e:a=[];subst e;exact#[rfl,bM _,q 0 [] `b #[[],rfl,b]];have i:(a.map Dx.int).isEmpty=false:=by cases a <;> first | rfl | exact absurd rfl e
 refine kZ (ρ':=[.bw<|a.map Dx.int]) (λQ q=>?_) ?_;refine #[rfl,bM _,?_];show Q (a.map Dx.int).isEmpty _;rw[i];exact q;show match (a.map Dx.int).getLast? with | some d=>_ | none=>False
 rw[List.getLast?_map,List.getLast?_eq_getLast e];exact q _ _ (b _<|List.getLast_mem e) #[a.dropLast,by rw[List.map_dropLast],λx m=>b x<|(List.dropLast_sublist a).subset m]
end
def bEy{r k:Int}(b:0<=r)(f:r<8)(k0:0<=k)(k1:k<26):Nm<|Txt.slice "placeof" none (some r)++(#[[97+k.toNat].toArray]:Str):=by
 have e:fX (Txt.slice "placeof" none<|some r)=(fX "placeof").take r.toNat:=aNf b (by show r<=7;exact Int.le_iff_lt_add_one.mpr f);unfold Nm;rw[ic_,e,lm_];have g:((fX "placeof").take r.toNat).length<=7:=by rw[fG];show min _ 7<=7;exact Nat.min_le_right r.toNat 7
 refine#[by rw[aI];show 1<=_+1;exact Nat.le_add_left 1 (List.take r.toNat<|fX<|Str.ofString "placeof").length,by rw[aI];show _+1<=8;exact Nat.succ_le_succ g,λc a=>?_];rcases aX.mp a with a | a
 have h:=List.mem_of_mem_take a;have:∀c∈fX "placeof",97<=c/\c<=122:=by decide
 exact this c h;rw[aF.mp a];lia
def aQz(h:a++(#[[x].toArray]:Str)=b++(#[[y].toArray]:Str)):x=y:=by have e:=congrArg fX h;rw[ic_,ic_,lm_,lm_]at e;have:=congrArg List.getLast? e;simpa using this
def aAd:∀{xs:S4} {ks},jJ ks->(∀x∈xs,Nm x)->lM (xs.zip ks)
 | [],_,_,_=>trivial
 |_::_,[],_,_=>trivial
 |x::xs,k::ks,h,hn=>#[#[hn x aB,h.1],aAd h.2 λy a=>hn y<|aC _ a]
def yO:∀{xs:S4} {ks},gL (xs.zip ks)<=dW ks
 | [],_=>bM _
 |_::_,[]=>bM _
 |x::xs,k::ks=>by have:=yO (xs:=xs) (ks:=ks);show max k.deep (gL<|xs.zip ks)<=max k.deep (dW ks);lia
def aAc:∀{xs:S4} {ks:T2},xs.length=ks.length->(xs.zip ks).map (·.1)=xs
 | [],_,_=>rfl
 |x::xs,[],h=>by simp at h
 |x::xs,k::ks,h=>by show x::(xs.zip ks).map _=_;rw[aAc<|by simpa using h]
def aAe:∀(xs:S4) (ks:T2),jM (xs.map Dx.str) (xK ks)=xF (xs.zip ks)
 | [],_=>rfl
 |_::_,[]=>rfl
 |x::xs,k::ks=>by show Dx.tup [.str x,k.x]::jM (xs.map Dx.str) (xK ks)=_;rw[aAe xs ks];rfl
def aOv(ks:T2)(k:Kd):xK (ks++[k])=xK ks++[k.x]:=by rw[j_,j_,aY];rfl
def gf_(ks:T2):(xK ks).length=ks.length:=by rw[j_,aA]
def jx_(fs:T9):(xF fs).length=fs.length:=by rw[gg_,aA]
def bGk(h:v∈[Dx.int 1,Dx.int 2,Dx.int 4,Dx.int 8]):∃z,v=.int z/\(z=1\/z=2\/z=4\/z=8):=by
 simp only[aE,bG,or_false]at h;rcases h with rfl | rfl | rfl | rfl
 exact#[_,rfl,Or.symm<|Or.inr rfl];exact#[_,rfl,by lia];exact#[_,rfl,by lia];exact#[_,rfl,by lia]
def bJe(h:v∈[Dx.int a,Dx.int b]):∃z,v=.int z/\(z=a\/z=b):=by grind
def gLN:GB:=λl c Q=>∃m:Int,c=[.int m]/\gH l/\0<=m/\m<=8/\∀(a:S4) (b:S1),(a.length:Int)=m->a.Nodup->(∀x∈a,Nm x)->gH b->Q (.lst<|a.map Dx.str) b
def gKN(n:Nat):GB:=λl c Q=>∃d:Int,c=[.int d]/\gH l/\1<=d/\d<=n/\n<=5/\∀(a:Kd) (b:S1),a.Fit->(a.deep:Int)<=d->gH b->Q a.x b
section
variable{f:Addr}{n j:Nat}
def aYk(F:Fun K "_law_names" "_law_names" gw_ f fd)(R:Cal P w K mg base 1 "_law_next" BH<|spB gNX)(B:Blt mg):FnOk P w K mg base CX0 2 f fd ["deck","many"] (spB gLN):=by
 refine aRv F gY (λl ds Q h=>by obtain⟨m,rfl,_⟩:=h;rfl) `b λAi A J s H E hr=>?_;refine#[_,(cE (fS gY 2<|oN 0 R jK)
  (cE (fS gY 3<|kF jK)
  (cE (k9 PassesOwn.never rfl (bt_ B.range<|eP `h) (kI (i:=4) gY.nd rfl `q) (i_ (n:=99) (i:=4) `b) (cE (fS gY 5<|kK K jR<|mW (lN (xv 2)<|xv 4) cQ)
  (cP<|ek_ 3<|lN (yQ K jR aAg<|if_<|mW (oN 0 R jK) cQ)<|xv 5)))
  (cP<|dT<|dt_<|pv 3)))),λl ds Q h=>?_]
 obtain⟨m,rfl,hl,m0,m1,q⟩:=h;refine#[rfl,rfl,hl,λt l1 a0 V=>?_];dsimp only;refine#[bM _,?_];dsimp only;refine#[`o,?_];refine x6 (λk:Nat=>Dx.int<|0+(k:Int)) (λrest N=>∃(g:S4) (v:S1) (L M:Sl),rest=(List.range m.toNat).drop g.length/\g.length<=m.toNat/\(∀(j:Nat) (x:Str),g[j]? = some x->∃a:Str,x=a++(#[[97+((t+(0+(j:Int)))%26).toNat].toArray]:Str))/\(∀x∈g,Nm x)/\gH v/\N=[.bw v,.v<|.tr<|.int m,.v<|.tr<|.int t,.v<|.ol<|g.map Dx.str,L,M]) (λN h=>?_) (λk rest N Kn h hk=>?_) #[[],l1,.un,.un,rfl,bM _,(λj x h=>by simp at h),(λx p=>nomatch p),V,rfl];obtain ⟨g,v,L,M,e,d,z,G,D,rfl⟩:=h;have Af:g.length=m.toNat:=by have:=congrArg List.length e;rw[bE,iK,bV]at this;lia
 refine q g v `a ?_ G D;rw[List.nodup_iff_pairwise_ne,List.pairwise_iff_getElem];intro i j u o Cr S;obtain⟨a,ha⟩:=z i _<|aG u;obtain⟨b,hb⟩:=z j _<|aG o;rw[ha,hb]at S;have:=aQz S;lia;obtain ⟨g,v,L,M,e,d,z,G,D,rfl⟩:=h;have O:g.length<m.toNat/\k=g.length/\rest=(List.range m.toNat).drop (g.length+1):=by
  have C:(k::rest)[0]? = ((List.range m.toNat).drop g.length)[0]?:=by rw[e]
  rw[List.getElem?_drop,List.getElem?_cons_zero]at C;have u:=(aL.mp C.symm).1;rw[bV,Nat.add_zero]at u;rw[Nat.add_zero,iO u]at C;have T:=congrArg List.tail e;rw[List.tail_drop]at T;exact#[u,ozI C,T]
 obtain⟨O,rfl,e9⟩:=O;have U:(0:Int)<=(t+(0+(g.length:Int)))%26:=bT _ `b;have W:(t+(0+(g.length:Int)))%26<26:=bU _ `b;refine#[by show(0:Int)<26;decide,?_];show lets.length<=1000000/\match atI lets.cps.toList ((t+(0+(g.length:Int)))%26)with | some c=>_ | none=>False
 rw[aQw U W];refine#[by decide,?_];dsimp only;refine#[rfl,rfl,rfl,D,λr l2 r0 Z=>?_];have w0:(0:Int)<=r%8:=bT _ `b;have w1:r%8<8:=bU _ `b;have y:=bEy w0 w1 U W;refine#[by show(0:Int)<8;decide,by show(Str.ofString "placeof").length<=1000000;decide,?_,?_];have Y:=y.2.1;rw[<-dy_,aQy]at Y;exact nzL Y `b;refine #[by rw [aA]; lia,hk _ #[g ++ [Txt.slice "placeof" none (some<|r % 8) ++ (#[[97 + ((t + (0 + (g.length:Int))) % 26).toNat].toArray] : Str)],l2,_,_,by rw [aI]; exact e9,by rw [aI]; show g.length + 1≤_; lia,fun j x o => ?_,fun x p => ?_,Z,by rw [aY]; rfl]];by_cases I:j < g.length;rw[cZ I]at o;exact z j x o;have Mq:j=g.length:=by have:=(aL.mp o).1;rw[aI]at this;simp at this;lia
 subst Mq;rw[bX<|aO _,iI]at o;cases o;exact`r;rcases aX.mp p with p | p
 exact G x p;rw[aF.mp p];exact y
end
section
variable{f:Addr}{n j:Nat}
def aYn(F:Fun K "_law_kind" "_law_kind" il_ f fd)(b:Cal P w K mg base 1 "_law_next" BH<|spB gNX)(C:Cal P w K mg base 2 "_law_names" ["deck","many"] (spB gLN))(Y:Cal P w K mg base (j+2) "_law_kind" BG<|spB<|gKN n)(B:Blt mg):FnOk P w K mg base CX0 (j+3) f fd BG<|spB<|gKN<|n+1:=by
 refine aRv F gt_ (λl ds Q h=>by obtain⟨d,rfl,_⟩:=h;rfl) `b λAi A T s H E hr=>?_;refine#[_,(cE (fS gt_ 2<|mW (oN 0 b jK) cQ)
  (cE (iC (XW.pt<|f8 (yD ks_ kq_ `h cQ (dP _))<|i5<|yD ks_ kq_ (xv 2) cQ<|dP _) (cP<|dT<|kG<|hU jR<|cO (lN cQ<|mW (oN 0 b jK) cQ)<|kK K (kF<|hU cQ<|hU cQ<|cO cQ cQ)<|mW (oN 0 b jK) cQ) iH)
  (cE (iC (yD ks_ kq_ (xv 2) cQ<|dP _) (cP<|dT<|kG<|hU jR<|cO (oN 0 Y<|eP<|k8 `h cQ)<|lN cQ<|mW (oN 0 b jK)<|kK K (kF<|cO cQ cQ)<|mW (oN 0 b jK) cQ) iH)
  (cE (sT gt_ 3 [0,1] (bt_ B.range<|eP<|lN cQ<|mW (oN 0 b jK) cQ) lO (oN 1 Y<|eP<|k8 (xv 2) cQ))
  (cE (iC (yD ks_ kq_ (xv 2) cQ<|dP _) (cP<|dT<|kG<|cO jR<|m8 rfl (by rfl) B.list (by rfl) B.zip<|cO (oN 0 C<|eP<|nI<|xv 3)<|xv 3) iH)
  (cP<|dT<|kG<|cO jR<|xv 3)))))),λl ds Q h=>?_]
 obtain⟨d,rfl,hl,d1,dn,n5,q⟩:=h;refine#[rfl,rfl,hl,λw0 R a1 y=>?_];refine#[by show(0:Int)<8;decide,?_];have i:(0:Int)<=w0%8:=bT _ `b;have o:w0%8<8:=bU _ `b;dsimp only;generalize w0%8=way at i o ⊢;change cX _ _ [.bw R,vT<|.int d,vT<|.int way,.un] _;refine eg_ (decide (d<2)||decide (way<3)) (ρ':=[.bw R,vT<|.int d,vT<|.int way,.un]) (λQ q=>?_) (λe=>?_)<|λe=>?_;refine aRe (fun h => ?_)<|fun h => ?_;have L:decide (d < 2)=true:=h;rw[L,Bool.true_or]at q;exact q;have L:decide (d < 2)=false:=Bool.not_eq_true _ ▸ h;rw[L,Bool.false_or]at q;exact q;refine #[rfl,rfl,y,fun r S r0 g=>#[by show (0:Int) < 8; decide,?_]];have r1:(0:Int)<=r%8:=bT _ `b;have r2:r%8<8:=bU _ `b;refine#[(by show 4<=1000000;decide),rfl,rfl,g,λr' V U D=>#[by show(0:Int)<4;decide,?_]];refine xJ (bT _ `b) (bU _ `b) λv hv=>?_;obtain⟨m,rfl,hm⟩:=bGk hv;exact#[(by show 3<=1000000;decide),q (.num (1+r%8) m) V #[by lia,by lia,hm] (by show((1:Nat):Int)<=d;lia) D];have Gq:2<=d:=by rw[Bool.or_eq_false_iff]at e;have:=of_decide_eq_false e.1;lia
 refine eg_ (decide (way<5)) (ρ':=[.bw R,vT<|.int d,vT<|.int way,.un]) (λQ q=>q) (λe=>?_)<|λRj=>?_;refine #[rfl,d - 1,rfl,y,by lia,by lia,by lia,fun t S c G g => ?_];refine#[rfl,rfl,g,λr V r0 D=>#[lD,rfl,rfl,D,λr' l4 U K1=>#[by show(0:Int)<2;decide,?_]]];refine xJ (bT _ `b) (bU _ `b) λv hv=>?_;obtain⟨z,rfl,hz⟩:=bJe hv;have Z:0<z:=by lia
 have m0:=bT r (show z≠0 by lia);have m1:=bU r Z;refine#[Z,(by show 3<=1000000;decide),q (.row t<|1+r%z) l4 #[c,by lia,by lia] ?_ K1];show((t.deep+1:Nat):Int)<=d;lia;refine#[rfl,rfl,y,λr S r0 g=>#[by show(0:Int)<4;decide,?_]];have m0:(0:Int)<=r%4:=bT _ `b;have m1:r%4<4:=bU _ `b;have a0:d-1=((d-1).toNat:Int):=by lia
 refine#[`o,by show((List.range _).map _).length<=_;rw[aA,bV];lia,?_];refine eq_ (λk:Nat=>Dx.int<|0+(k:Int)) (λrest u I=>∃(ks:T2) (a:S1),ks.length+rest.length=(1+r%4).toNat/\u=xK ks/\I=[.bw a,vT<|.int d]/\jJ ks/\dW ks<=(d-1).toNat/\gH a) (λu I h=>?_) (λnm rest u I Pn h hk=>?_) #[[],S,by rw[bV];simp,rfl,rfl,trivial,bM _,g]
 rotate_left
 obtain ⟨ks,a,J,rfl,rfl,c,G,p⟩:=h;rw[aK]at J;exact#[rfl,d-1,rfl,p,by lia,by lia,by lia,λt l6 M x Ji=>hk _ _ #[ks++[t],l6,by rw[aI];show ks.length+1+_=_;lia,by rw[aOv];rfl,rfl,uL c M,rJ G `a,Ji]];obtain⟨ks,a,J,rfl,rfl,c,G,p⟩:=h;rw[bE]at J;dsimp only;change cX _ _ [.bw a,vT<|.int d,vT<|.int way,.v<|.ol<|xK ks] _;refine eg_ (decide (way<7)) (ρ':=[.bw a,vT<|.int d,vT<|.int way,.v<|.ol<|xK ks]) (λQ q=>q) (λe=>?_)<|λe=>?_;refine #[rfl,((xK ks).length:Int),rfl,p,by lia,by rw [gf_]; lia,fun xs l7 O Bn Kv N => ?_];have W:xs.length=ks.length:=by rw[gf_]at O;lia
 show _/\_;rw[aAe];refine#[by rw[aA,gf_];exact W,lD,?_];refine q (.rcd<|xs.zip ks) l7 #[aAd c Kv,?_,?_,?_] ?_ N;rw[dD];lia;rw[dD];lia;rw[aAc W];exact Bn;have:=yO (xs:=xs) (ks:=ks);show((gL (xs.zip ks)+1:Nat):Int)<=d;lia;refine #[lD,q (.cho ks) a #[c,by lia,by lia] ?_ p];show((dW ks+1:Nat):Int)<=d;lia
end
def gUP:GC:=λa Q=>∃n m:Int,a=[.int n,.int m]/\0<=n/\n<2^60/\0<m/\m<=8/\Q (.tr<|.int<|up n m)
def rb:Nat->Int
 | 0=>8
 |n+1=>1000*rb n
def aJb:∀n,8<=rb n
 | 0=>by decide
 |n+1=>by have:=aJb n;show 8<=1000*rb n;lia
def bEa:∀{n},n<=4->rb n<2^50:=by
 intro n h;have:n=0\/n=1\/n=2\/n=3\/n=4:=by lia
 rcases this with rfl | rfl | rfl | rfl | rfl<;>decide
def xR{l}{i j:Nat}{d}{ρ}{Q}(a:ρ[i]? = some (vT<|.tup l))(h:l[j]? = some d)(q:Q (.tr d) ρ):xOp ixX (cA i) (xC<|.int (j:Int)) ρ Q:=by
 have e:ρ.set i (vT<|.tup l)=ρ:=by obtain⟨c,b⟩:=aL.mp a;rw[<-b,List.set_getElem_self]
 unfold xOp cA xC;rw[a];show ixX (.tup l) (.int (j:Int)) λs=>Q s<|ρ.set i<|vT<|.tup l;rw[e];show(match atI l (j:Int)with | some d=>Q (.tr d) ρ | none=>False);rw[k_ h];exact q
abbrev rmD(r:Int×Int):Dx:=.tup [.int r.1,.int r.2]
def gRM(n:Nat):GC:=λc Q=>∃k:Kd,c=[k.x]/\k.Fit/\k.deep<=n/\n<=5/\∀a b:Int,0<=a->a<=rb n->1<=b->b<=8->Q (.tr<|.tup [.int a,.int b])
def gBD:GB:=λl c Q=>c=[.int 3,.int 24]/\gH l/\∀(a:Kd) (b:S1),a.Fit->a.deep<=3->gH b->Q a.x b
def hy_:∀{ks} {k},jJ ks->k∈ks->k.Fit/\k.deep<=dW ks
 | [],_,_,h=>by simp at h
 |k'::r,k,hf,h=>by
  rcases aE.mp h with rfl | h
  exact#[hf.1,fT _ _];obtain ⟨a,b⟩:=hy_ hf.2 h;exact#[a,nzL b<|fF _ _]
def js_:∀{fs:T9},lM fs->jJ (fs.map (·.2))
 | [],_=>trivial
 |f::r,h=>#[h.1.2,js_ h.2]
def aMq(h:lM fs)(a:f∈fs):f.2.Fit/\f.2.deep<=gL fs:=by have:=hy_ (js_ h)<|List.mem_map_of_mem a;rw[fr_]at this;exact this
section
variable{f:Addr}{n j:Nat}
def aXn(F:Fun K "_law_up" "_law_up" pT f fd):FnOk P w K mg base CX0 1 f fd AB<|spX gUP:=by refine jO F aEm (λo=>(cP<|dT<|ey_ (nU (k8 (lN `e `h) cQ) `h) `h)) λb Q h=>?_;obtain⟨n,m,rfl,c,e,a,g,q⟩:=h;refine#[rfl,?_];have i:(n+m-1)/m<=n+m-1:=Int.ediv_le_self _ `a;have l:0<=(n+m-1)/m:=Int.ediv_nonneg `a (Int.le_of_lt a);exact#[#[a,by lia],`o,q]
def aXu(F:Fun K "_law_room" "_law_room" ft_ f fd)(M6:Cal P w K mg base (j+1) "_law_room" AX<|spX<|gRM n)(M4:Cal P w K mg base 1 "_law_up" AB<|spX gUP)(B:Blt mg):FnOk P w K mg base CX0 (j+2) f fd AX<|spX<|gRM<|n+1:=by
 refine xT F cV (λds Q h=>by obtain⟨_,rfl,_⟩:=h;rfl) `b λAi A a4 s H E R=>?_;refine#[_,(cE (iC (kS `k jR) (cP<|dT<|kG<|cO `k `k) iH)
  (cE (iC (kS `k jR) (cE (aOh (jg_ (n:=99) (is:=[1,2]) rfl `b) λF=>wH (XE.at (Ex:=dQ) F (dS M6<|eP `k))<|ko_ rfl<|sP (kI (i:=1) cV.nd rfl `q)<|sP (kI (i:=2) cV.nd rfl `q) eu_)
  (cP<|dT<|kG<|cO (ey_ `k (dS M4<|cO `h (xv 2)))<|xv 2)) iH)
  (cE (fS cV 3 `k)
  (cE (iC (kS `k jR) (cP (lG λF=>PS.weak (oA (i:=3) cV.nd rfl rfl (dsc:=aQ ft_) (N:=["kind","room","m","parts","sizes","end","other"]) (tgs:=["name","part"]) (outs:=[]) (N':=["name","part"]) (by refine#[rfl,?_,?_,?_,rfl,?_,?_,?_]<;>decide +kernel) (XIt.at (Ex:=dQ) F (lA `k)) (λ_ _ _ _ _=>(wJ K (n:=2) rfl rfl<|sP (kI (i:=0) (show(["name","part"]:S4).Nodup by decide +kernel) rfl `q (.inr rfl))<|sP (kI (i:=1) (show(["name","part"]:S4).Nodup by decide +kernel) rfl `q (.inr rfl)) eu_)) (nW<|cl_ `b (cl_ `b jk_ ck_) (dr_ ck_)) (λa b c d e=>XCs.at (Ex:=dQ) F lO) (λa b c d e=>XE.at (Ex:=dQ) F `h))<|p_ (jg_ (n:=2) (is:=[0,1]) rfl `b) `b)) iH)
  (cE (sT cV 4 [] (lA<|xv 3) lO (dS M6<|eP `e))
  (cE (fS cV 2<|bw_ (uS K<|by rfl) aDh (by rfl) B.max yI<|eP<|mS cV [] (lA<|xv 4) lO `k)
  (cE (iC (kS `k jR) (cP<|dT<|kG<|cO (dS M4<|cO (lN (xv 2)<|bw_ (uS K<|by rfl) aDh (by rfl) B.max yI<|eP<|mS cV [] (lA<|xv 4) lO `k)<|xv 2)<|xv 2) iH)
  (cE (fS cV 5 cQ)
  (cE (k9 PassesOwn.never rfl (lA<|xv 4) (ko_ rfl<|sP (kI (i:=1) cV.nd rfl `q)<|sP (kI (i:=6) cV.nd rfl `q) eu_) (jg_ (n:=99) (is:=[1,6]) rfl `b)<|cP<|fS cV 5<|lN (dS M4<|cO (xv 5)<|xv 6) `h)
  (cP<|dT<|kG<|cO (dS M4<|cO (xv 5)<|xv 2)<|xv 2)))))))))),λds Q h=>?_]
 obtain⟨k,rfl,C,hd,Qz,q⟩:=h;have hp:=aJb n;have hl:=bEa (n:=n) `a;have u:rb (n+1)=1000*rb n:=rfl;rw[u]at q;have y:∀(t:T2) (P:S1->T1->Prop) (cs:T1),jJ t->dW t<=n->(∀o:S5,o.length=t.length->(∀r∈o,0<=r.1/\r.1<=rb n/\1<=r.2/\r.2<=8)->P (o.map rmD) cs)->cC 1 (gxN 0) aOt (dY (gRM n)<|bI (cA 0) cG) P (xK t) cs []:=λt P cs C a5 k=>by
  rw[j_];refine eq_ Kd.x (λrest G I=>I=cs/\∃(o:S5) (g:T2),t=g++rest/\o.length=g.length/\G=o.map rmD/\∀r∈o,0<=r.1/\r.1<=rb n/\1<=r.2/\r.2<=8) (λG I h=>?_) (λkd rest G I Pn h hk=>?_) #[rfl,[],[],rfl,rfl,rfl,λr R=>nomatch R];obtain ⟨rfl,o,g,u,Y,rfl,R⟩:=h;rw[aP]at u;exact k o (by rw[Y,u]) R;obtain ⟨rfl,o,g,u,Y,rfl,R⟩:=h;obtain⟨f1,f2⟩:=hy_ C (show kd∈t by rw[u];exact aJ _ aB);refine#[kd,rfl,f1,by lia,by lia,λa b a0 a1 b0 b1=>hk _ _ #[rfl,o++[(a,b)],g++[kd],by rw[u,bN];rfl,by rw[aI,aI,Y];rfl,by rw[aY];rfl,λr O=>?_]];rcases aX.mp O with O | O
  exact R r O;rw[aF.mp O];exact#[a0,a1,b0,b1]
 cases k with
 |num v m => simp only[Kd.Fit]at C;exact#[lD,q v m `a `a `a `a]
 |row k m => simp only[Kd.Fit]at C;simp only[Kd.deep]at hd;refine#[k,rfl,C.1,by lia,by lia,λa b a0 a1 b0 b1=>?_];obtain⟨u1,u2⟩:=rW (n:=a) (m:=b) `a;refine#[a,b,rfl,by lia,by lia,by lia,b1,?_];have O:m*up a b<=20*(rb n+8):=Int.mul_le_mul `a `a `a `a;have a2:0<=m*up a b:=Int.mul_nonneg `a `a;exact#[`o,lD,q _ _ a2 `a b0 b1]
 |cho t =>
  simp only[Kd.Fit]at C;simp only[Kd.deep]at hd;refine kZ (ρ':=[vT (Kd.cho t).x,.un,.un,.un,.un,.un,.un]) (λQ q=>q) ?_;refine kZ (ρ':=[vT (Kd.cho t).x,.un,.un,.un,.un,.un,.un]) (λQ q=>q) ?_;refine j9 ?_;refine xR (l:=[.str "choice",.lst<|xK t]) (i:=0) (j:=1) rfl rfl ?_;refine kZ (ρ':=[vT (Kd.cho t).x,.un,.un,vT<|.lst<|xK t,.un,.un,.un]) (λQ q=>q) ?_;refine#[show(xK t).length<=1000000 by rw[gf_];lia,?_];refine y t _ _ C.1 `a λo Bc T=>?_;have V:o≠[]:=λe=>by rw[e,bE]at Bc;lia
  refine#[by show(o.map _).length<=1000000;rw[aA];lia,show cC _ _ _ _ _ (o.map rmD) _ _ from ?_];refine mY rmD (λr=>.int r.2) (λr _ G P p=>p) ?_;refine#[o.map (·.2),by rw[bL];rfl,λz=>V<|eY.mp z,λM Z _=>?_];obtain⟨r,Ny,rfl⟩:=aZ.mp Z;obtain⟨c0,c1,c2,U⟩:=T r Ny;refine#[by show(o.map _).length<=1000000;rw[aA];lia,show cC _ _ _ _ _ (o.map rmD) _ _ from ?_];refine mY rmD (λr=>.int r.1) (λr _ G P p=>p) ?_;refine#[o.map (·.1),by rw[bL];rfl,λz=>V<|eY.mp z,λM Z Og=>?_];obtain⟨r',a3,rfl⟩:=aZ.mp Z;obtain⟨d0,d1,d2,d3⟩:=T r' a3;obtain⟨v1,v2⟩:=rW (n:=r.2+r'.1) (m:=r.2) `a;exact#[r.2+r'.1,r.2,rfl,by lia,by lia,by lia,U,lD,q _ r.2 `a `a c2 U]
 |rcd fs =>
  simp only[Kd.Fit]at C;simp only[Kd.deep]at hd;obtain⟨t,Mo⟩:∃t,t=fs.map (λx:Str×Kd=>x.2):=`r;have Jy:dW t=gL fs:=by rw[Mo];exact fr_ fs
  have K2:jJ t:=by rw[Mo];exact js_ C.1
  have Im:t.length=fs.length:=by rw[Mo,aA]
  refine kZ (ρ':=[vT (Kd.rcd fs).x,.un,.un,.un,.un,.un,.un]) (λQ q=>q) ?_;refine kZ (ρ':=[vT (Kd.rcd fs).x,.un,.un,.un,.un,.un,.un]) (λQ q=>q) ?_;refine j9 ?_;refine xR (l:=[.str "record",.lst<|xF fs]) (i:=0) (j:=1) rfl rfl ?_;refine yU (λD=>D=[vT (Kd.rcd fs).x,.un,.un,.v<|.ol<|xK t,.un,.un,.un]) ?_<|λD' hD=>?_;rintro D rfl;refine#[show(xK t).length<=1000000 by rw[gf_];lia,?_];refine y t _ _ K2 `a λo Bc T=>?_;have V:o≠[]:=λe=>by rw[e,bE]at Bc;lia
  refine#[by show(o.map _).length<=1000000;rw[aA];lia,show cC _ _ _ _ _ (o.map rmD) _ _ from ?_];refine mY rmD (λr=>.int r.2) (λr _ G P p=>p) ?_;refine#[o.map (·.2),by rw[bL];rfl,λz=>V<|eY.mp z,λM Z _=>?_];obtain⟨r,Ny,rfl⟩:=aZ.mp Z;obtain⟨c0,c1,c2,U⟩:=T r Ny;dsimp only;change cX _ _ [vT (Kd.rcd fs).x,.un,vT<|.int r.2,vT<|.lst<|xK t,vT<|.lst<|o.map rmD,.un,.un] _;refine kZ (ρ':=[vT (Kd.rcd fs).x,.un,vT<|.int r.2,vT<|.lst<|xK t,vT<|.lst<|o.map rmD,.un,.un]) (λQ q=>q) ?_;refine j9<|hw_ ?_;refine cs_ (λD=>∃(e:Int) (J L:Sl),0<=e/\e<=8*(rb n+8)/\D=[vT (Kd.rcd fs).x,J,vT<|.int r.2,vT<|.lst<|xK t,vT<|.lst<|o.map rmD,vT<|.int e,L]) ?_<|λnx Dw=>?_;rintro D ⟨e,J,L,W,u,rfl⟩;obtain⟨v1,v2⟩:=rW (n:=e) (m:=r.2) `a;exact#[e,r.2,rfl,W,by lia,by lia,U,lD,q _ r.2 `a `a c2 U];show iS _ _ _ (o.map rmD) _;refine x6 rmD (λrest D=>∃(g:S5) (e:Int) (J L:Sl),o=g++rest/\0<=e/\e<=g.length*(rb n+8)/\D=[vT (Kd.rcd fs).x,J,vT<|.int r.2,vT<|.lst<|xK t,vT<|.lst<|o.map rmD,vT<|.int e,L]) (λD h=>?_) (λS rest D Kn h hk=>?_) #[[],0,.un,.un,rfl,by decide,by simp,rfl];obtain ⟨g,e,J,L,u,W,Y,rfl⟩:=h;refine Dw _ #[e,J,L,W,?_,rfl];rw[aP]at u;have F9:(g.length:Int)<=8:=by rw[<-u];lia
  have:=cB F9 (show 0<=rb n+8 by lia);lia;obtain ⟨g,e,J,L,u,W,Y,rfl⟩:=h;obtain⟨d0,d1,d2,d3⟩:=T S (by rw[u];exact aJ _ aB);have F9:(g.length:Int)<=8:=by have:=congrArg List.length u;rw[aI,aK]at this;lia
  have h8:=cB F9 (show 0<=rb n+8 by lia);obtain⟨v1,v2⟩:=rW (n:=e) (m:=S.2) `a;refine#[e,S.2,rfl,W,by lia,by lia,d3,hk _ #[g++[S],_,_,_,by rw[u,bN];rfl,by lia,?_,rfl]];rw[aI,jQ,Int.natCast_add,Int.add_mul];show up e S.2+S.1<=_+1*(rb n+8);lia;refine #[show (xF fs).length≤1000000 by rw [jx_]; lia,show cC _ _ _ _ _ (xF fs) _ _ from ?_];rw[gg_];refine mY (λf:Str×Kd=>Dx.tup [.str f.1,f.2.x]) (λf=>f.2.x) (λf _ G P p=>p) ?_;refine hD _ ?_;rw[Mo,j_,bL,bZ];rfl
def aZk(F:Fun K "_law_bounded" "_law_bounded" hp_ f fd)(t:Cal P w K mg base 1 "_law_next" BH<|spB gNX)(v:Cal P w K mg base (j+1) "_law_kind" BG<|spB<|gKN 3)(u:Cal P w K mg base (j+1) "_law_room" AX<|spX<|gRM 3):FnOk P w K mg base CX0 (j+2) f fd AT<|spB gBD:=by
 refine aRv F gk_ (λl y Q h=>by obtain⟨rfl,_⟩:=h;rfl) `b λG A e s H E I=>?_;refine#[_,(cE (fS gk_ 3<|oN 0 v<|eP `h)
  (cE (iC (yD aBt aBq (dL K<|dS u<|eP<|xv 3) (xv 2)<|dP _) (cP<|dT<|kG<|hU jR<|cO (lN cQ<|mW (oN 0 t jK) cQ) cQ) iH)
  (cP<|dT<|dt_<|pv 3))),λl y Q h=>?_]
 obtain⟨rfl,z,q⟩:=h;refine#[rfl,3,rfl,z,by decide,by decide,by decide,λo B i m g=>?_];refine#[o,rfl,i,Int.ofNat_le.mp m,by decide,λa b _ _ _ _=>?_];refine aRe (λc=>?_)<|λc=>q o B i (Int.ofNat_le.mp m) g;refine#[rfl,rfl,g,λr C J p=>#[by show(0:Int)<8;decide,?_]];have D:(0:Int)<=r%8:=bT _ `b;exact#[(by show 3<=1000000;decide),q (.num (1+r%8) 8) C #[Int.le_add_of_nonneg_right D,by lia,by lia] (by show 1<=3;decide) p]
end
mutual
def Dx.deep:Dx->Nat
 | .tup l=>eM l+1
 | .lst l=>eM l+1
 | .dic l=>xX l+1
 |_=>1
def eM:S1->Nat
 | []=>0
 |d::r=>max d.deep<|eM r
def xX:U1->Nat
 | []=>0
 |k::r=>max k.2.deep<|xX r
end
mutual
def Dx.Sz:Dx->Prop
 | .tup l=>l.length<=100000/\szX l
 | .lst l=>l.length<=100000/\szX l
 | .dic l=>l.length<=100000/\(l.map (·.1)).Nodup/\aPe l
 | .str x=>x.length<=100000
 | .scr _ _=>False
 | .ins _ _=>False
 | .exc _=>False
 |_=>True
def szX:S1->Prop
 | []=>True
 |d::r=>d.Sz/\szX r
def aPe:U1->Prop
 | []=>True
 |k::r=>k.2.Sz/\aPe r
end
def li_:∀{l} {d},d∈l->d.deep<=eM l
 |e::r,d,h=>by
  rcases aE.mp h with rfl | h
  exact fT _ _;exact nzL (li_ h)<|fF _ _
def rH:∀{l} {p},p∈l->p.2.deep<=xX l
 |e::r,d,h=>by
  rcases aE.mp h with rfl | h
  exact fT _ _;exact nzL (rH h)<|fF _ _
def vP:∀{l} {d},szX l->d∈l->d.Sz
 |e::r,d,hs,h=>by
  rcases aE.mp h with rfl | h
  exact hs.1;exact vP hs.2 h
def zC:∀{l} {p},aPe l->p∈l->p.2.Sz
 |e::r,d,hs,h=>by
  rcases aE.mp h with rfl | h
  exact hs.1;exact zC hs.2 h
def Dx.own:Dx->Sv
 | .lst l=>.ol l
 | .dic l=>.od l
 |d=>.tr d
def a8(d:Dx):d.own.d=d:=by cases d<;>rfl
def gCO(n:Nat):GC:=λa Q=>∃d,a=[d]/\d.Sz/\d.deep<=n/\Q d.own
def aCd{a b:Type}{f:a->b}:∀(l:List a),(l.map λd=>[f d]).flatten=l.map f
 | []=>rfl
 |d::l=>by simp[aCd l]
def aCz(l:S1):[]++(l.map λd=>[d]).flatten=l:=by simp[aCd]
def aJh(h:k∉l.map (·.1)):aJi l k d=l++[(k,d)]:=by
 unfold aJi;have:(l.any λa=>decide (a.1=k))=false:=by grind
 rw[this,if_neg bH]
def oJ:∀{l:U1} {p:Key×Dx},(l.map (·.1)).Nodup->p∈l->gU l p.1=some p.2
 |q::l,p,hn,h=>by
  unfold gU;rw[fU];have b:=bW.mp hn;rcases aE.mp h with rfl | h
  rw[dzT rfl];rfl;have a:¬ q.1=p.1:=by grind
  rw[dzF a];exact oJ b.2 h
def aLq(k:Key):c_ (lL k)=some k:=by cases k<;>rfl
mutual
def Kd.vx:Kd->Vd->Dx
 | .num _ _,.num n=>.int n
 | .row k _,.row vs=>.lst (vs.map k.vx)
 | .rcd fs,.rcd vs=>.dic (vxF fs vs)
 | .cho ks,.cho j v=>.tup [.int (j:Int),vxK ks j v]
 |_,_=>.non
def vxF:T9->List Vd->U1
 |f::r,v::vs=>(Sum.inr f.1,f.2.vx v)::vxF r vs
 |_,_=>[]
def vxK:T2->Nat->Vd->Dx
 | [],_,_=>.non
 |k::_,0,v=>k.vx v
 |_::r,j+1,v=>vxK r j v
end
def yV:∀{fs:T9} {vs:List Vd} {f:Str×Kd} {v:Vd},vs.length=fs.length->vxF (fs++[f]) (vs++[v])=vxF fs vs++[(Sum.inr f.1,f.2.vx v)]
 | [],[],f,v,_=>by simp[vxF]
 | [],_::_,_,_,h=>by simp at h
 |_::_,[],_,_,h=>by simp at h
 |g::r,u::vs,f,v,h=>by simp only[dH,vxF];rw[yV<|by simpa using h]
def hg_:∀{fs:T9} {vs:List Vd},vs.length=fs.length->(vxF fs vs).map (·.1)=fs.map λf=>(Sum.inr f.1:Key)
 | [],[],_=>by simp[vxF]
 | [],_::_,h=>by simp at h
 |_::_,[],h=>by simp at h
 |g::r,u::vs,h=>by simp only[vxF,bQ];rw[hg_<|by simpa using h]
def vM:∀{ks} {j} {k},ks[j]? = some k->vxK ks j v=k.vx v
 | [],_,_,e=>by simp at e
 |k'::r,0,k,e=>by simp at e;subst e;simp only[vxK]
 |k'::r,j+1,k,e=>by simp only[vxK];exact vM (j:=j)<|by simpa using e
def ff_:∀{fs} {vs},jH fs vs->vs.length=fs.length
 | [],[],_=>rfl
 | [],_::_,h=>by simp[jH]at h
 |_::_,[],h=>by simp[jH]at h
 |f::r,v::vs,h=>by simp only[jH]at h;simp[ff_ h.2]
def sZ:∀{fs} {vs} {f} {v},jH fs vs->f.2.Val v->jH (fs++[f]) (vs++[v])
 | [],[],f,v,_,h=>by simp only[bZ,jH];exact#[h,trivial]
 | [],_::_,_,_,h,_=>by simp[jH]at h
 |_::_,[],_,_,h,_=>by simp[jH]at h
 |g::r,u::vs,f,v,h,h'=>by simp only[dH,jH]at h ⊢;exact#[h.1,sZ h.2 h']
def aAr:∀{ks} {j} {k} {v},ks[j]? = some k->k.Val v->vN ks j v
 | [],_,_,_,e,_=>by simp at e
 |k'::r,0,k,v,e,h=>by simp at e;subst e;simp only[vN];exact h
 |k'::r,j+1,k,v,e,h=>by simp only[vN];exact aAr (j:=j) (by simpa using e) h
def aMp:∀{fs} {f},lM fs->f∈fs->f.2.Fit/\f.2.deep<=gL fs
 |g::r,f,h,a=>by
  rcases aE.mp a with rfl | a
  exact#[h.1.2,fT _ _];exact#[(aMp h.2 a).1,nzL (aMp h.2 a).2<|fF _ _]
def aDa:∀{ks} {k},jJ ks->k∈ks->k.Fit/\k.deep<=dW ks
 |g::r,f,h,a=>by
  rcases aE.mp a with rfl | a
  exact#[h.1,fT _ _];exact#[(aDa h.2 a).1,nzL (aDa h.2 a).2<|fF _ _]
def aWj(h:i<=8):(256:Int)^i<=256^8:=by
 have:=Nat.pow_le_pow_right (n:=256) `b h
 exact_mod_cast this
def pG:∀{ks} {j} {v},vN ks j v->∃k,ks[j]? = some k/\k.Val v
 | [],_,_,h=>by simp[vN]at h
 |k::_,0,v,h=>by simp only[vN]at h;exact#[k,rfl,h]
 |_::r,j+1,v,h=>by simp only[vN]at h;obtain⟨k,e,a⟩:=pG h;exact#[k,by simpa using e,a]
def aRp{i:Nat}(o:(fs.map (·.1)).Nodup)(m:vs.length=fs.length)(g:fs[i]? = some f)(j:vs[i]? = some v):gU (vxF fs vs) (Sum.inr f.1)=some (f.2.vx v):=by
 have l:=hg_ m;have c:((vxF fs vs).map (·.1)).Nodup:=by
  rw[l];have:(fs.map λf=>(Sum.inr f.1:Key))=(fs.map (·.1)).map (λx:Str=>(Sum.inr x:Key)):=by rw[bL];rfl
  rw[this];exact List.Pairwise.map _ (λa b h e=>h<|Sum.inr.inj e) o
 exact oJ (p:=(Sum.inr f.1,f.2.vx v)) c<|mem_vx g j
where mem_vx:∀{fs:T9} {vs:List Vd} {i:Nat} {f:Str×Kd} {v:Vd},fs[i]? = some f->vs[i]? = some v->((Sum.inr f.1,f.2.vx v):Key×Dx)∈vxF fs vs
 | [],_,_,_,_,h,_=>by simp at h
 |_::_,[],_,_,_,_,h=>by simp at h
 |g::r,u::vs,0,f,v,h1,h2=>by simp at h1 h2;subst h1 h2;simp only[vxF];exact aB
 |g::r,u::vs,i+1,f,v,h1,h2=>by simp only[vxF];exact aC _ (mem_vx (i:=i) (by simpa using h1) (by simpa using h2))
section
variable{f:Addr}{n j:Nat}
def bEv(F:Fun K "copied" "copied" pY f fd)(e:Cal P w K mg base j "copied" AA<|spX<|gCO n)(B:Blt mg) :
  FnOk P w K mg base CX0 (j+1) f fd AA (spX<|gCO<|n+1):=by
 refine jO F hi_ (λm=>(cE (iC (jD<|lE .list `e) (cP<|dT<|mS hi_ [] (lA `e) lO (dS e<|eP `e)) iH)
  (cE (iC (jD<|lE .tuple `e) (cP<|dT<|hf_ (i9 K) aNb (by rfl) B.tuple ju_<|eP<|mS hi_ [] (aHd `e) lO (dS e<|eP `e)) iH)
  (cE (iC (jD<|lE .dict `e) (cP<|dT<|hf_ (iy_ rfl) xZ (by rfl) B.dict oR<|eP<|aAi hi_ 0 [0] lO (kG<|cO `e (dS e<|eP<|nV (f6 m) `h `e (λ_ _=>rfl)))) iH)
  (cP<|dT<|dt_<|pv 0))))) λu Q h=>?_
 obtain⟨d,rfl,a,g,q⟩:=h;refine#[rfl,?_];cases d with
 |scr _ _=>simp only[Dx.Sz]at a
 |ins _ _=>simp only[Dx.Sz]at a
 |exc _=>simp only[Dx.Sz]at a
 |lst l => show l.length<=1000000/\cC 1 (gxN 0) aOt (dY (gCO n)<|bI (cA 0) cG) _ l [] [];simp only[Dx.Sz]at a;refine#[by lia,ll_ (λd=>[d]) (λd b c P p=>?_) (by rw[aCz];exact q)];exact#[d,rfl,vP a.2 b,by have:=li_ b;simp only[Dx.deep]at g;lia,by show P (c++[d.own.d]) [];rw[a8];exact p]
 |tup l => show l.length<=1000000/\cC 1 (gxN 0) aOt (dY (gCO n)<|bI (cA 0) cG) _ l [] [];simp only[Dx.Sz]at a;refine#[by lia,ll_ (λd=>[d]) (λd b c P p=>?_) (by rw[aCz];exact q)];exact#[d,rfl,vP a.2 b,by have:=li_ b;simp only[Dx.deep]at g;lia,by show P (c++[d.own.d]) [];rw[a8];exact p]
 |dic l => simp only[Dx.Sz]at a;simp only[Dx.deep]at g;show l.length<=1000000/\cC _ _ _ _ _ (iW l) _ _;refine#[by lia,?_];unfold iW;refine mY (λp:Key×Dx=>lL p.1) (λp=>.tup [lL p.1,p.2]) (λp b c P o=>?_) ?_;have i:=oJ a.2.1 b;have t:=rH b;show dgX (.dic l) (lL p.1) (λs=>gCO n [s.d] (λr=>([Sv.tr<|lL p.1,r].length<=1000000/\P (c++[Dx.tup [lL p.1,r.d]]) [vT<|.dic l])));unfold dgX;rw[aLq];show(match gU l p.1 with | some d=>_ | none=>False);rw[i];refine#[p.2,rfl,zC a.2.2 b,by lia,lD,?_];show P (c++[Dx.tup [lL p.1,p.2.own.d]]) _;rw[a8];exact o;rw [bZ];exact#[l,rfl,a.2.1,q]
 |_=>exact q
end
def aNl{i w}(a:0<=i)(b:0<=w)(h:i<256^w.toNat):((Builtin.Int.intBits i:Nat):Int)<=8*w:=by
 have e:(256:Int)^w.toNat=((2^(8*w.toNat):Nat):Int):=by rw[Nat.pow_mul];simp
 rw[e]at h;have:Builtin.Int.intBits i<=8*w.toNat:=intBits_le_iff.mpr `a;lia
def gc_{a:Type}{l:List a}{Q:Sv->Prop}(q:Q<|.tr<|.bl true):bBx [.lst<|l.map λ_=>Dx.bl true] Q:=#[l.map λ_=>true,by rw[bL];rfl,by
 have:(l.map λ_=>true).all id=true:=by grind
 rw[this];exact q]
def aAs:∀{fs} {vs} {i:Nat} {f} {v},jH fs vs->fs[i]? = some f->vs[i]? = some v->f.2.Val v
 | [],_,_,_,_,_,h,_=>by simp at h
 |_::_,[],_,_,_,_,_,h=>by simp at h
 |g::r,u::us,0,f,v,hv,h1,h2=>by simp only[jH]at hv;simp at h1 h2;subst h1 h2;exact hv.1
 |g::r,u::us,i+1,f,v,hv,h1,h2=>by simp only[jH]at hv;exact aAs (i:=i) hv.2 (by simpa using h1)<|by simpa using h2
def aMh{a b c:Int}{ρ}{Q:Bool->En->Prop}(e:decide (a<=b)=true)(f:decide (b<c)=true)(q:Q false ρ):(if decide (a<=b)=true then Q (!(decide (b<c))) ρ else Q (!false) ρ):=by rw[if_pos e,f];exact q
def whD:Dx->Bool
 | .int _=>true
 |_=>false
def gWB:GC:=λa Q=>∃d:Dx,a=[d]/\iV d/\Q (.tr<|.bl<|whD d)
def gIV(n:Nat):GC:=λc Q=>∃(a:Kd) (b:Vd),c=[a.x,a.vx b]/\a.Fit/\a.Val b/\a.deep<=n/\Q (.tr<|.bl true)
def gIR(n:Nat):GC:=λb Q=>∃(k:Kd) (m:Int) (a:List Vd),b=[k.x,.int m,.lst<|a.map k.vx]/\k.Fit/\(a.length:Int)=m/\m<=20/\(∀v∈a,k.Val v)/\k.deep<=n/\Q (.tr<|.bl true)
def gID(n:Nat):GC:=λb Q=>∃(fs:T9) (a:List Vd),b=[.lst<|xF fs,.dic<|vxF fs a]/\lM fs/\fs.length<=8/\(fs.map (·.1)).Nodup/\jH fs a/\gL fs<=n/\Q (.tr<|.bl true)
def bGg(n:Nat):GC:=λb Q=>∃(a:T2) (i:Nat) (k:Kd) (v:Vd),b=[.lst<|xK a,.tup [.int (i:Int),k.vx v]]/\a[i]? = some k/\jJ a/\a.length<=6/\k.Val v/\dW a<=n/\Q (.tr<|.bl true)
section
variable{f:Addr}{n j:Nat}
def t6(F:Fun K "is_whole" "is_whole" fv_ f fd)(B:Blt mg):FnOk P w K mg base CX0 1 f fd AA<|spX gWB:=by refine jO F zK (λc=>(cP<|dT<|uQ (lE .int `e)<|k7<|m6<|lE .bool `e)) λb Q h=>?_;obtain⟨d,rfl,a,q⟩:=h;refine#[rfl,?_];cases d<;>first | exact q | exact a.elim
def aYq(F:Fun K "is_row_value" "is_row_value" ej_ f fd)(e:Cal P w K mg base j "is_value" AO<|spX<|gIV n)(B:Blt mg):FnOk P w K mg base CX0 (j+1) f fd AY<|spX<|gIR n:=by
 refine jO F fj_ (λs=>(cE (u7<|XW.pt<|f8 (lJ<|jD<|lE .list<|xv 2)<|i5<|kJ (nI<|xv 2) `h)
  (cP<|dT<|bw_ (er_ K rfl) mQ rfl B.all mU<|eP<|mS fj_ [0] (lA<|xv 2) lO (dS e<|cO `h `e)))) λr Q h=>?_
 obtain⟨k,m,a,rfl,g,b,l,hv,i,q⟩:=h;refine#[rfl,?_];have c:(a.map k.vx).length=a.length:=aA _;refine kZ (ρ':=[vT k.x,vT<|.int m,vT<|.lst<|a.map k.vx]) (λQ q=>?_) ?_;show Q (!decide (((a.map k.vx).length:Int)=m)) _;rw[dzT (by rw[c];exact b)];exact q;refine #[show (a.map k.vx).length≤1000000 by rw [c]; lia,show cC _ _ _ _ _ (a.map k.vx) _ _ from ?_];refine mY k.vx (λ_=>.bl true) (λv b o P p=>#[k,v,rfl,g,hv v b,i,p]) ?_;exact gc_ q
def aYt(F:Fun K "is_record_value" "is_record_value" cu_ f fd)(C:Cal P w K mg base j "is_value" AO<|spX<|gIV n)(B:Blt mg):FnOk P w K mg base CX0 (j+1) f fd BF<|spX<|gID n:=by
 refine jO F cm_ (λy=>(cE (u7<|XW.pt<|f8 (lJ<|jD<|lE .dict `h)<|i5<|kJ (nI `h)<|nI `e)
  (cE (u7<|lJ<|jD<|bw_ (er_ K<|by rfl) mQ (by rfl) B.all mU<|eP<|aAi cm_ 1 [] lO (lE .str `e))
  (cP<|dT<|bw_ (er_ K<|by rfl) mQ (by rfl) B.all mU<|eP<|mS cm_ [1] (lA `e) lO (uQ (aUu (f6 y) `k `h (by with_unfolding_all rfl))<|k7<|dS C<|cO `k (nV (f6 y) `h `k (λ_ _=>rfl))))))) λJ Q h=>?_
 obtain⟨fs,a,rfl,G,H,z,hv,M,q⟩:=h;refine#[rfl,?_];have t:=ff_ hv;have l:=hg_ t;have u:(vxF fs a).length=fs.length:=by have:=congrArg List.length l;rw[aA,aA]at this;exact this
 refine kZ (ρ':=[vT<|.lst<|xF fs,vT<|.dic<|vxF fs a]) (λQ q=>?_) ?_;show Q (!decide (((vxF fs a).length:Int)=((xF fs).length:Int))) _;rw[dzT<|by rw[u,jx_]];exact q;refine kZ (ρ':=[vT<|.lst<|xF fs,vT<|.dic<|vxF fs a]) (λQ q=>?_) ?_;show (vxF fs a).length≤1000000∧cC _ _ _ _ _ (iW<|vxF fs a) _ _;refine#[by rw[u];lia,?_];have D:iW (vxF fs a)=fs.map λf=>Dx.str f.1:=by unfold iW;have:=congrArg (List.map lL) l;rw[bL,bL]at this;exact this
 rw[D];refine mY (λf:Str×Kd=>Dx.str f.1) (λ_=>.bl true) (λv e g P p=>p) ?_;rw[bZ];exact gc_ (Q:=λs=>match s with | .tr (.bl b)=>Q (!b) _ | _=>False) q;refine #[show (xF fs).length≤1000000 by rw [jx_]; lia,show cC _ _ _ _ _ (xF fs) _ _ from ?_];rw[gg_];refine mY (λf:Str×Kd=>Dx.tup [.str f.1,f.2.x]) (λ_=>.bl true) (λf e g P p=>?_) ?_;obtain ⟨i,c⟩:=List.mem_iff_getElem?.mp e;have I:=(aL.mp c).1;obtain⟨v,o⟩:∃v,a[i]? = some v:=#[_,aG `a];have m:=aRp z t c o;obtain⟨E,L⟩:=aMq G e;have A:f.2.Val v:=aAs hv c o;show(if(gU (vxF fs a)<|Sum.inr f.1).isSome=true then _ else _);rw[m];show dgX (.dic<|vxF fs a) (.str f.1) (λs=>gIV n [f.2.x,s.d] (λr=>P (g++[r.d]) _));show(match gU (vxF fs a) (Sum.inr f.1)with | some d=>_ | none=>False);rw[m];exact#[f.2,v,rfl,E,A,by lia,p];rw [bZ];exact gc_ q
def aYu(F:Fun K "is_choice_value" "is_choice_value" cv_ f fd)(c:Cal P w K mg base 1 "is_whole" AA<|spX gWB)(e:Cal P w K mg base (j+1) "is_value" AO<|spX<|gIV n)(B:Blt mg):FnOk P w K mg base CX0 (j+2) f fd BI<|spX<|bGg n:=by
 refine jO F hh_ (λy=>(cE (u7<|XW.pt<|f8 (lJ<|jD<|lE .tuple `h)<|i5<|kJ (nI `h) cQ)
  (cE (u7<|XW.pt<|f8 (lJ<|jD<|dS c<|eP<|dL K `h)<|i5<|lJ<|oU lZ lY ks_ kq_ cQ (dL K `h)<|nI `e)
  (cP<|dT<|dS e<|cO (kK K `e (dL K `h))<|dL K `h)))) λu Q h=>?_
 obtain⟨a,i,k,v,rfl,b,r,t,hv,s,q⟩:=h;refine#[rfl,?_];have g:=(aL.mp b).1;obtain⟨l,m⟩:=hy_ r<|bA b;refine kZ (ρ':=[vT<|.lst<|xK a,vT<|.tup [.int (i:Int),k.vx v]]) (λQ q=>q) ?_;refine kZ (ρ':=[vT<|.lst<|xK a,vT<|.tup [.int (i:Int),k.vx v]]) (λQ q=>?_) ?_;refine #[.int i,rfl,trivial,?_];have o:=dzT<|Int.natCast_nonneg i;have p:decide ((i:Int)<((xK a).length:Int))=true:=dzT (by rw[gf_];exact Int.ofNat_lt.mpr g);refine aMh o p ?_;exact q;show (match atI (xK a) (i:Int) with | some d=>_ | none=>False);rw[k_ (by rw[j_,bK,b];rfl:(xK a)[i]? = some k.x)];exact#[k,v,rfl,l,hv,nzL m s,q]
def aYo(F:Fun K "is_value" "is_value" im_ f fd)(p:Cal P w K mg base 1 "is_whole" AA<|spX gWB)(r:Cal P w K mg base (j+1) "is_row_value" AY<|spX<|gIR n)(s:Cal P w K mg base (j+1) "is_record_value" BF<|spX<|gID n)(u:Cal P w K mg base (j+1) "is_choice_value" BI<|spX<|bGg n)(o:∃t,mg "BITS_OF_A_BYTE" = some (.int 8 t)):FnOk P w K mg base CX0 (j+2) f fd AO<|spX<|gIV<|n+1:=by
 refine jO F zL (λC=>(cE (iC (kS `k jR) (cP (dT (uQ (dS p<|eP `h) (uQ (jw_ aTv aTt `h cQ (dP _)) (k7 (jw_ lZ lY (λF=>PE.weak (aKd PySem.F.plainAttrs_int PySem.F.slot_int_bit_length PySem.F.type_int_bit_length sF (XE.at (Ex:=dQ) F `h)) bBo) (ey_ (fd_ rfl o) `k)<|dP _)))))) iH)
  (cE (iC (kS `k jR) (cP<|dT<|dS r<|hU `k (cO `k `h)) iH)
  (cE (iC (kS `k jR) (cP<|dT<|dS s<|cO `k `h) iH)
  (cP<|dT<|dS u<|cO `k `h))))) λB Q h=>?_
 obtain⟨y,b,rfl,a,hv,c,q⟩:=h;refine#[rfl,?_];cases y with
 |num A m =>
  cases b<;>simp only[Kd.Val]at hv
  rename_i i;simp only[Kd.Fit]at a;refine#[.int i,rfl,trivial,?_];show if decide ((0:Int)<=i)=true then _ else _
  rw[if_pos<|dzT hv.1];refine#[#[by decide,by lia],?_];show Q (.tr<|.bl<|decide (((Builtin.Int.intBits i:Nat):Int)<=8*A));rw[dzT<|aNl hv.1 `a hv.2];exact q
 |row k m =>
  cases b<;>simp only[Kd.Val]at hv
  rename_i g;exact#[k,m,g,rfl,a.1,by lia,a.2.2,hv.2,cH c,q]
 |rcd fs =>
  cases b<;>simp only[Kd.Val]at hv
  rename_i g;exact#[fs,g,rfl,a.1,a.2.2.1,a.2.2.2,hv,cH c,q]
 |cho z =>
  cases b<;>simp only[Kd.Val]at hv
  rename_i i v;obtain⟨k,l,e⟩:=pG hv;simp only[Kd.vx,vM l];exact#[z,i,k,v,rfl,l,a.1,a.2.2,e,cH c,q]
end
def in_lets(h:97<=c/\c<=122):(!(Builtin.Str.occurrences lets #[[c].toArray] 0 lets.length 1).isEmpty)=true:=by
 have:∀i:Fin 26,(!(Builtin.Str.occurrences lets #[[97+i.val].toArray] 0 lets.length 1).isEmpty)=true:=by decide +kernel
 have a:=this #[c-97,by lia];have e:97+(c-97)=c:=by lia
 simp only[e]at a;exact a
def aRn{t u:XT}{ρ}{Q:Sv->En->Prop} (h:t ρ λs ρ'=>match s with
 | .tr (.bl b)=>if b=true then u ρ' Q else Q (.tr<|.bl false) ρ'
 |_=>False):aAo t u ρ Q:=h
def bGc{n}{t:XT}{ρ}{Q:Sv->En->Prop} (h:t ρ λs ρ'=>match s.d with
 | .scr _ _=>False
 | .ins _ _=>False
 | .exc _=>False
 |d=>Q (.tr<|.bl<|isT n d) ρ'):xIs n t ρ Q:=h
def gNM:GC:=λa Q=>∃x:Str,a=[.str x]/\Nm x/\Q (.tr<|.bl true)
def gHF:GC:=λa Q=>∃(z:Str) (l:S1) (w:Str) (n:Int),a=[.tup (.str z::l),.str w,.int n]/\Q (.tr<|.bl<|decide ((l.length:Int)+1=n)&&decide (z=w))
def gWU:GC:=λa Q=>∃(i g:Int),a=[.int i,.int g]/\1<=i/\i<=g/\Q (.tr<|.bl true)
def gLU:GC:=λa Q=>∃(l:S1) (g:Int),a=[.lst l,.int g]/\1<=l.length/\(l.length:Int)<=g/\Q (.tr<|.bl true)
def gKW(n:Nat):GC:=λb Q=>∃a:Kd,b=[a.x,.int (n:Int)]/\a.Fit/\a.deep<=n/\Q (.tr<|.bl true)
def gAK(n:Nat):GC:=λb Q=>∃a:T2,b=[.lst<|xK a,.int (n:Int)]/\jJ a/\a.length<=8/\dW a<=n/\Q (.tr<|.bl true)
def gAF(n:Nat):GC:=λa Q=>∃fs:T9,a=[.lst<|xF fs,.int (n:Int)]/\lM fs/\fs.length<=8/\(fs.map (·.1)).Nodup/\gL fs<=n/\Q (.tr<|.bl true)
def gIK:GC:=λb Q=>∃a:Kd,b=[a.x]/\a.Fit/\a.deep<=5/\Q (.tr<|.bl true)
def aFn{a:S4}(h:x∉a):gU (a.map λy=>((Sum.inr y,.bl true):Key×Dx)) (Sum.inr x)=none:=by unfold gU;rw[List.find?_eq_none.mpr λp b=>?_];rfl;grind
def aDc:∀{fs} {f},lM fs->f∈fs->Nm f.1
 | [],_,_,h=>by simp at h
 |g::r,f,hf,h=>by
  rcases aE.mp h with rfl | h
  exact hf.1.1;exact aDc hf.2 h
section
variable{f:Addr}{n j:Nat}
def aXl(F:Fun K "is_whole_up_to" "is_whole_up_to" de_ f fd)(a:Cal P w K mg base 1 "is_whole" AA<|spX gWB):FnOk P w K mg base CX0 2 f fd AW<|spX gWU:=by
 refine jO F ih_ (λl=>(cP<|dT<|uQ (dS a<|eP `e)<|k7<|yR lZ lY lZ lY cQ `e `h)) λe Q h=>?_;obtain⟨i,g,rfl,b,c,q⟩:=h;refine#[rfl,?_];refine#[.int i,rfl,trivial,?_];show if decide (1<=i)=true then _ else _
 rw[if_pos<|dzT b];show Q (.tr<|.bl<|decide (i<=g));rw[dzT c];exact q
def aYi(F:Fun K "is_list_up_to" "is_list_up_to" dw_ f fd)(B:Blt mg):FnOk P w K mg base CX0 1 f fd BC<|spX gLU:=by
 refine jO F jj_ (λe=>(cP<|dT<|uQ (lE .list `e)<|k7<|yR lZ lY lZ lY cQ (nI `e) `h)) λc Q h=>?_;obtain⟨l,g,rfl,a,b,q⟩:=h;refine#[rfl,?_];show if decide (1<=(l.length:Int))=true then _ else _
 rw[if_pos<|dzT<|Int.toNat_le.mp a];show Q (.tr<|.bl<|decide ((l.length:Int)<=g));rw[dzT b];exact q
def aKr(F:Fun K "is_name" "is_name" kj_ f fd)(B:Blt mg)(g:∃t,mg "LONGEST_NAME" = some (.int 8 t))(e:∃t,mg "SMALL_LETTERS" = some (.str lets t)):FnOk P w K mg base CX0 1 f fd AA<|spX gNM:=by
 refine jO F pS (λr=>(cE (u7<|XW.pt<|f8 (lJ<|jD<|lE .str `e)<|i5<|lJ<|oU lZ lY lZ lY cQ (nI `e)<|fd_ rfl g)
  (cP<|dT<|bw_ (er_ K rfl) mQ rfl B.all mU<|eP<|mS pS [] (aHe `e) lO (jw_ aEy aWz `e (aHk rfl e) (by with_unfolding_all rfl))))) λo Q h=>?_
 obtain⟨x,rfl,⟨a,b,m⟩,q⟩:=h;refine#[rfl,?_];rw[<-dy_]at a b;refine#[by lia,?_];show if decide (1<=(x.length:Int))=true then _ else _
 rw[if_pos<|dzT<|Int.toNat_le.mp a];show if(!decide ((x.length:Int)<=8))=true then _ else _
 rw[dzT<|by exact Nat.ToInt.of_le rfl rfl b];refine#[show(sgX x).length<=1000000 from ?_,show cC _ _ _ _ _ (sgX x) _ _ from ?_];unfold sgX;rw[aA,Array.length_toList];show x.length<=1000000;lia;refine mY (fun c:Nat=>Dx.str #[[c].toArray]) (fun c=>.bl true) (fun c l i P p => ?_) ?_;show P (i ++ [Dx.bl<|!(Builtin.Str.occurrences lets #[[c].toArray] 0 lets.length 1).isEmpty]) _;rw[in_lets<|m c l];exact p;exact gc_ q
def aKs(F:Fun K "has_form" "has_form" in_ f fd)(B:Blt mg):FnOk P w K mg base CX0 1 f fd AH<|spX gHF:=by
 refine jO F zM (λc=>(cE (u7<|XW.pt<|f8 (lJ<|jD<|lE .tuple `e)<|i5<|kJ (nI `e)<|xv 2)
  (cP<|dT<|uQ (lE .str `k)<|k7<|vF `k `h))) λb Q h=>?_
 obtain⟨z,l,w,n,rfl,q⟩:=h;refine#[rfl,?_];show if(!decide (((l.length+1:Nat):Int)=n))=true then _ else _
 have e:decide (((l.length+1:Nat):Int)=n)=decide ((l.length:Int)+1=n):=by congr 1
 rw[e];by_cases a:(l.length:Int)+1=n;rw [dzT a,Bool.true_and] at q;rw[dzT a];show aAo (xIs Ty.str<|xOp ixX (cA 0)<|xC<|.int 0) (xOp eqX (xOp ixX (cA 0)<|xC<|.int 0)<|cA 1) [vT<|.tup (.str z::l),vT<|.str w,vT<|.int n] _;refine aRn<|bGc<|xR (i:=0) (j:=0) rfl rfl ?_;refine aMe<|xR (i:=0) (j:=0) rfl rfl ?_;exact q;rw [dzF a,Bool.false_and] at q;rw[dzF a];exact q
def aZm(F:Fun K "are_kinds" "are_kinds" gz_ f fd)(b:Cal P w K mg base j "is_kind_within" AQ<|spX<|gKW n)(B:Blt mg):FnOk P w K mg base CX0 (j+1) f fd AE<|spX<|gAK n:=by refine jO F jc_ (λs=>(cP<|dT<|bw_ (er_ K rfl) mQ rfl B.all mU<|eP<|mS jc_ [1] (lA `e) lO (dS b<|cO `e `h))) λo Q h=>?_;obtain⟨a,rfl,g,r,i,q⟩:=h;refine#[rfl,?_];refine#[show(xK a).length<=1000000 by rw[gf_];lia,show cC _ _ _ _ _ (xK a) _ _ from ?_];rw[j_];refine mY Kd.x (λ_=>.bl true) (λk l m P p=>?_) ?_;obtain ⟨c,e⟩:=hy_ g l;exact#[k,rfl,c,nzL e i,p];exact gc_ q
def aZn(F:Fun K "are_fields" "are_fields" fn_ f fd)(E:Cal P w K mg base 1 "is_name" AA<|spX gNM)(G:Cal P w K mg base (j+1) "are_kinds" AE<|spX<|gAK n)(B:Blt mg):FnOk P w K mg base CX0 (j+2) f fd AE<|spX<|gAF n:=by
 refine jO F iE (λA=>(cE (fS iE 2 aOq)
  (cE (k9 PassesOwn.never rfl (lA `e) (kI (i:=3) iE.nd rfl `q) (i_ (n:=99) (i:=3) `b) (cE (u7<|XW.pt<|f8 (lJ<|jD<|lE .tuple<|xv 3)<|i5<|kJ (nI<|xv 3) cQ)
  (cE (u7<|XW.pt<|f8 (lJ<|jD<|dS E<|eP<|dL K<|xv 3)<|i5<|aGz (f6 A) (dL K<|xv 3) (pv 2)<|by with_unfolding_all rfl)
  (cP (lG λF=>PS.weak (aPo (f6 A) (pv 2) (XE.at (Ex:=dQ) F (dL K<|xv 3)) (XE.at (Ex:=dQ) F j7) rfl) aPc)))))
  (cP<|dT<|dS G<|cO (mS iE [] (lA `e) lO `k) `h)))) λT Q h=>?_
 obtain⟨fs,rfl,v,J,s,H,q⟩:=h;refine#[rfl,?_];refine j9 ?_;change cX _ _ [vT<|.lst<|xF fs,vT<|.int (n:Int),.v<|.od [],.un] _;refine cs_ (λl=>∃(C c:Sl),l=[vT<|.lst<|xF fs,vT<|.int (n:Int),C,c]) ?_<|λU t=>?_;rintro l ⟨C,c,rfl⟩;refine#[show(xF fs).length<=1000000 by rw[jx_];lia,show cC _ _ _ _ _ (xF fs) _ _ from ?_];rw[gg_];refine mY (λf:Str×Kd=>Dx.tup [.str f.1,f.2.x]) (λf=>f.2.x) (λf _ R P p=>p) ?_;rw[bZ];refine#[fs.map (·.2),by rw[j_,bL];rfl,js_ v,by rw[aA];lia,by rw[fr_];exact H,q];show iS _ _ _ (xF fs) _;obtain⟨L,r⟩:∃L,L=fs.map (λf:Str×Kd=>Dx.tup [.str f.1,f.2.x]):=`r;rw[show xF fs=L by rw[r,gg_]]at t ⊢;rw[r];refine x6 (λf:Str×Kd=>Dx.tup [.str f.1,f.2.x]) (λrest l=>∃(b:T9) (a:S4) (c:Sl),fs=b++rest/\a=b.map (·.1)/\l=[vT<|.lst L,vT<|.int (n:Int),.v<|.od<|a.map λx=>(Sum.inr x,.bl true),c]) (λl h=>?_) (λg rest l S h I=>?_) #[[],[],.un,rfl,rfl,by rw[r];rfl];obtain ⟨b,a,c,m,o,rfl⟩:=h;exact t _ #[_,_,rfl];obtain ⟨b,a,c,m,o,rfl⟩:=h;have M:g∈fs:=by rw[m];exact aJ _ aB
 have u:g.1∉a:=λz=>by rw[m,aY,bQ]at s;exact(bS.mp s).2.2 g.1 (o ▸ z) g.1 aB rfl
 have D:=aFn u;refine kZ (ρ':=[vT<|.lst L,vT<|.int (n:Int),.v<|.od<|a.map λx=>(Sum.inr x,.bl true),vT<|.tup [.str g.1,g.2.x]]) (λQ q=>q) ?_;refine kZ (ρ':=[vT<|.lst L,vT<|.int (n:Int),.v<|.od<|a.map λx=>(Sum.inr x,.bl true),vT<|.tup [.str g.1,g.2.x]]) (λQ q=>?_) ?_;refine #[g.1,rfl,aDc v M,?_];show Q ((gU (a.map λx=>((Sum.inr x,.bl true):Key×Dx))<|Sum.inr g.1).isSome) _;rw[D];exact q;refine #[`r,?_];refine#[by rw[aA,o,aA];have:=congrArg List.length m;rw[aI]at this;lia,I _ #[b++[g],a++[g.1],vT<|.tup [.str g.1,g.2.x],by rw[m,bN];rfl,by rw[o,aY];rfl,?_]];rw[aJh<|λz=>u (by obtain⟨y,O,e⟩:=aZ.mp z;obtain⟨w,N,rfl⟩:=aZ.mp O;exact Sum.inr.inj e ▸ N),aY];rfl
def aYl(F:Fun K "is_kind_within" "is_kind_within" df_ f fd)(C:Cal P w K mg base 1 "is_whole" AA<|spX gWB)(o:Cal P w K mg base 2 "is_whole_up_to" AW<|spX gWU)(p:Cal P w K mg base 1 "is_list_up_to" BC<|spX gLU)(e:Cal P w K mg base 1 "has_form" AH<|spX gHF)(D:Cal P w K mg base (j+2) "is_kind_within" AQ<|spX<|gKW n)(E:Cal P w K mg base (j+2) "are_kinds" AE<|spX<|gAK n)(g:Cal P w K mg base (j+2) "are_fields" AE<|spX<|gAF n)
  (u:∃t,mg "WIDEST_NUMBER" = some (.int 8 t)) (z:∃t,mg "LONGEST_ROW" = some (.int 20 t)) (y:∃t,mg "MOST_FIELDS" = some (.int 8 t)) (v:∃t,mg "MOST_CHOICES" = some (.int 6 t)) (B:∃c,mg "MULTIPLES" = some (.ref c)/\∀H,SqT K H c [.int 1,.int 2,.int 4,.int 8]):FnOk P w K mg base CX0 (j+3) f fd AQ<|spX<|gKW<|n+1:=by
 refine jO F ii_ (λI=>(cE (u7<|yD ks_ kq_ `h cQ (dP _))
  (cE (iC (jD<|dS e<|hU `e (cO jR cQ)) (cP<|dT<|uQ (dS o<|cO `k (fd_ rfl u))<|uQ (dS C<|eP `k)<|k7<|aUt K [.int 1,.int 2,.int 4,.int 8] `k rfl B) iH)
  (cE (iC (jD<|dS e<|hU `e (cO jR cQ)) (cP<|dT<|uQ (dS o<|cO `k (fd_ rfl z))<|k7<|dS D<|cO `k (k8 `h cQ)) iH)
  (cE (iC (jD<|dS e<|hU `e (cO jR cQ)) (cP<|dT<|uQ (dS p<|cO `k (fd_ rfl y))<|k7<|dS g<|cO `k (k8 `h cQ)) iH)
  (cE (iC (jD<|dS e<|hU `e (cO jR cQ)) (cP<|dT<|uQ (dS p<|cO `k (fd_ rfl v))<|k7<|dS E<|cO `k (k8 `h cQ)) iH)
  (cP<|dT j7))))))) λG Q h=>?_
 obtain⟨r,rfl,a,l,q⟩:=h;refine#[rfl,?_];have i:((n+1:Nat):Int)-1=(n:Int):=Int.sub_eq_iff_eq_add.mpr rfl;refine kZ (ρ':=[vT r.x,vT<|.int ((n+1:Nat):Int)]) (λQ q=>?_) ?_;show Q (decide (((n + 1:Nat):Int) < 1)) _;rw[dzF<|of_decide_eq_false rfl];exact q;cases r with
 |num s m =>
  refine#["number",[.int s,.int m], "number",3,rfl,?_];refine#[s,8,rfl,a.1,a.2.1,#[.int m,rfl,trivial,?_]];have A:inV (.int m) [.int 1,.int 2,.int 4,.int 8]=true:=by rcases a.2.2 with rfl | rfl | rfl | rfl<;>rfl
  show Q (.tr<|.bl<|inV (.int m) [.int 1,.int 2,.int 4,.int 8]);rw[A];exact q
 |row k m => refine#["row",[k.x,.int m], "number",3,rfl,#["row",[k.x,.int m], "row",3,rfl,?_]];exact#[m,20,rfl,a.2.1,a.2.2,#[k,by rw[<-i];rfl,a.1,cH l,q]]
 |rcd fs => simp only[Kd.Fit]at a;refine#["record",[.lst<|xF fs], "number",3,rfl,#["record",[.lst<|xF fs], "row",3,rfl,#["record",[.lst<|xF fs], "record",2,rfl,?_]]];exact#[xF fs,8,rfl,by rw[jx_];lia,by rw[jx_];lia,#[fs,by rw[<-i];rfl,a.1,a.2.2.1,a.2.2.2,cH l,q]]
 |cho b => simp only[Kd.Fit]at a;refine#["choice",[.lst<|xK b], "number",3,rfl,#["choice",[.lst<|xK b], "row",3,rfl,#["choice",[.lst<|xK b], "record",2,rfl,#["choice",[.lst<|xK b], "choice",2,rfl,?_]]]];exact#[xK b,6,rfl,by rw[gf_];lia,by rw[gf_];lia,#[b,by rw[<-i];rfl,a.1,by lia,cH l,q]]
def aYs(F:Fun K "is_kind" "is_kind" tG f fd)(b:Cal P w K mg base j "is_kind_within" AQ<|spX<|gKW 5)(a:∃t,mg "DEEPEST" = some (.int 5 t)):FnOk P w K mg base CX0 (j+1) f fd AA<|spX gIK:=by refine jO F r6 (λi=>(cP<|dT<|dS b<|cO `e (fd_ rfl a))) λg Q h=>?_;obtain⟨d,rfl,c,e,q⟩:=h;refine#[rfl,?_];exact#[d,rfl,c,e,q]
end
def prT(r:Int×Int):Dx:=.tup [.int r.1,.int r.2]
def gRU:GC:=λa Q=>∃n m:Int,a=[.int n,.int m]/\0<=n/\n<2^200/\0<m/\m<2^200/\Q (.tr<|.int<|up n m)
def gSO:GC:=λa Q=>∃r:Int×Int,a=[prT r]/\0<=r.1/\r.1<2^200/\0<r.2/\r.2<2^200/\Q (.tr<|.int<|up r.1 r.2)
def gCA:GC:=λa Q=>∃m:Int,a=[.int m]/\0<m/\m<2^200/\Q (.tr<|.int<|up 1 m)
def gGM:GC:=λb Q=>∃a:S5,b=[.lst<|a.map prT]/\a.length<=10/\(∀r∈a,1<=r.2)/\Q (.tr (.int (fK 1 (a.map (·.2)))))
def gPB:GC:=λb Q=>∃a:S5,b=[.lst<|a.map prT]/\a.length<=10/\(∀r∈a,Bd (2^150) r)/\Q (.ol<|(lX 0 a).map Dx.int)
def gRO(n:Nat):GC:=λb Q=>∃a:Kd,b=[a.x]/\a.Ok/\a.deep<=n/\n<=12/\Q (.tr<|prT a.rm)
def gRS(n:Nat):GC:=λb Q=>∃a:T2,b=[.lst<|xK a]/\okK a/\dW a<=n/\a.length<=10/\n<=12/\Q (.ol<|(rmK a).map prT)
def gRR(n:Nat):GC:=λb Q=>∃(a:Kd) (m:Int),b=[a.x,.int m]/\a.Ok/\a.deep<=n/\n<=12/\0<=m/\m<=100/\Q (.tr<|prT (m*up a.rm.1 a.rm.2,a.rm.2))
def gRL(f:S5->Int×Int)(n:Nat):GC:=λb Q=>∃a:T2,b=[.lst<|xK a]/\okK a/\dW a<=n/\a.length<=10/\n<=12/\Q (.tr<|prT<|f<|rmK a)
def aBf:∀ks:T2,(ks.map λk=>prT k.rm)=(rmK ks).map prT
 | []=>rfl
 |f::r=>by rw[bQ,aBf r];rfl
def ea_{c e:Type}(f:c->Dx)(g:e->Dx):∀(l:List c) (m:List e),jM (l.map f) (m.map g)=(l.zip m).map λp=>.tup [f p.1,g p.2]
 | [],_=>rfl
 |_::_,[]=>rfl
 |a::l,b::m=>by show _::jM (l.map f) (m.map g)=_;rw[ea_ f g l m];rfl
section
variable{f:Addr}{n j:Nat}
def aKo(F:Fun K "rounded_up" "rounded_up" fl_ f fd):FnOk P w K mg base CX0 1 f fd AB<|spX gRU:=by refine jO F sD (λo=>(cP<|dT<|ey_ (nU (k8 (lN `e `h) cQ) `h) `h)) λe Q h=>?_;obtain⟨n,m,rfl,g,i,a,l,q⟩:=h;refine#[rfl,?_];have b:0<=(n+m-1)/m:=Int.ediv_nonneg `a (Int.le_of_lt a);have c:(n+m-1)/m<=n+m-1:=Int.ediv_le_self m `a;refine#[#[a,by lia],#[?_,by lia],q];generalize (n+m-1)/m=z at b c;lia
def aXp(F:Fun K "step_of" "step_of" ke_ f fd)(a:Cal P w K mg base 1 "rounded_up" AB<|spX gRU):FnOk P w K mg base CX0 2 f fd ["room"] (spX gSO):=by refine jO F q9 (λl=>(cP<|dT<|dS a<|cO `k `k)) λi Q h=>?_;obtain⟨r,rfl,b,c,e,g,q⟩:=h;refine#[rfl,?_];exact#[_,_,rfl,b,c,e,g,q]
def aZg(F:Fun K "chosen_at" "chosen_at" gy_ f fd)(a:Cal P w K mg base 1 "rounded_up" AB<|spX gRU):FnOk P w K mg base CX0 2 f fd ["multiple"] (spX gCA):=by refine jO F vX (λg=>(cP<|dT<|dS a<|cO cQ `e)) λe Q h=>?_;obtain⟨m,rfl,b,c,q⟩:=h;refine#[rfl,?_];exact#[_,_,rfl,by decide,by decide,b,c,q]
def aKt(F:Fun K "greatest_multiple" "greatest_multiple" cf_ f fd)(B:Blt mg):FnOk P w K mg base CX0 1 f fd BB<|spX gGM:=by refine jO F dk_ (λl=>(cP<|dT<|nQ rfl rfl B.max (eP<|mS dk_ [] (lA `e) lO `k)<|oC kp_ wI)) λo Q h=>?_;obtain⟨a,rfl,s,i,q⟩:=h;refine#[rfl,?_];refine#[show(a.map prT).length<=_ by rw[aA];lia,show cC _ _ _ _ _ (a.map prT) _ _ from ?_];refine mY prT (λr=>.int r.2) (λr l m P p=>p) ?_;refine#[a.map (·.2),by rw[bL];rfl,λg=>?_,λM b c=>?_];rw[g]at q;exact q;obtain ⟨r,e,rfl⟩:=aZ.mp b;rw[<-wZ (d:=1) b (i r e) c]at q;exact q
def aYb(F:Fun K "places_behind" "places_behind" du_ f fd)(o:Cal P w K mg base 1 "rounded_up" AB<|spX gRU):FnOk P w K mg base CX0 2 f fd BB<|spX gPB:=by
 refine jO F eC (λH=>(cE (fS eC 1<|kF jK)
  (cE (fS eC 2 cQ)
  (cE (k9 PassesOwn.never rfl (lA `e) (kI (i:=3) eC.nd rfl `q) (i_ (n:=99) (i:=3) `b) (cE (fS eC 4<|dS o<|cO (xv 2)<|dL K<|xv 3)
  (cE (ek_ 1<|xv 4)
  (cP<|fS eC 2<|lN (xv 4)<|dL K<|xv 3))))
  (cP<|dT<|dt_<|pv 1))))) λE Q h=>?_
 obtain⟨rs,rfl,G,m,q⟩:=h;refine#[rfl,?_];refine#[bM _,?_];refine x6 prT (λrest l=>∃a c g,rs=a++rest/\l=[vT<|.lst<|rs.map prT,.v<|.ol<|(lX 0 a).map Dx.int,vT<|.int<|dI 0 a,c,g]) (λl h=>?_) (λr rest l y h t=>?_) #[[],.un,.un,rfl,rfl];obtain ⟨a,c,g,b,rfl⟩:=h;rw[aP]at b;subst b;exact q;obtain ⟨a,c,g,b,rfl⟩:=h;obtain⟨A,B,p,C⟩:=m r (by rw[b];exact aJ _ aB);have v:a.length+(rest.length+1)=rs.length:=by rw[b,aI,aK]
 obtain⟨s,D⟩:=fy_ (e:=0) (rs:=a) (Int.zero_le_ofNat 0)<|λz u=>m z (by rw[b];exact aM _ u);refine#[_,_,rfl,s,by lia,iB p,by lia,rfl,by rw[aA,kn_];lia,t _ #[a++[r],vT<|prT r,vT<|.int<|up (dI 0 a) r.2,by rw[b,bN];rfl,?_]];rw[je_,tJ,aY];rfl
def aKp(F:Fun K "rooms_of" "rooms_of" ik_ f fd)(b:Cal P w K mg base j "room_of" AX<|spX<|gRO n):FnOk P w K mg base CX0 (j+1) f fd AN<|spX<|gRS n:=by refine jO F kb_ (λu=>(cP<|dT<|mS kb_ [] (lA `e) lO (dS b<|eP `e))) λs Q h=>?_;obtain⟨a,rfl,l,e,t,o,q⟩:=h;refine#[rfl,?_];refine#[show(xK a).length<=_ by rw[j_,aA];lia,show cC _ _ _ _ _ (xK a) _ _ from ?_];rw[j_];refine mY Kd.x (λk=>prT k.rm) (λk m r P p=>?_) ?_;obtain ⟨i,g⟩:=List.mem_iff_getElem?.mp m;obtain⟨ok,c⟩:=aTy l g;exact#[k,rfl,ok,nzL c e,o,p];rw [bZ,aBf];exact q
def aXs(F:Fun K "room_of_row" "room_of_row" es_ f fd)(i:Cal P w K mg base j "room_of" AX<|spX<|gRO n)(b:Cal P w K mg base 2 "step_of" ["room"] (spX gSO))(t:2<=j):FnOk P w K mg base CX0 (j+1) f fd ["kind","n"] (spX<|gRR n):=by
 refine jO F gi_ (λu=>(cE (fS gi_ 2<|dS i<|eP `e)
  (cP<|dT<|kG<|cO (ey_ `h (dS b<|eP<|xv 2))<|dL K<|xv 2))) λs Q h=>?_
 obtain⟨a,m,rfl,e,c,g,v,y,q⟩:=h;refine#[rfl,?_];obtain⟨l,o,p,r⟩:=bMc (n:=n) e c g;obtain⟨z,A⟩:=rW (n:=a.rm.1) (m:=a.rm.2) `a;exact#[a,rfl,e,c,g,a.rm,rfl,l,by lia,by lia,by lia,`o,lD,q]
def aXy(F:Fun K "room_of_record" "room_of_record" cc_ f fd)(T:Cal P w K mg base j "rooms_of" AN<|spX<|gRS n)(U:Cal P w K mg base 1 "greatest_multiple" BB<|spX gGM)(m:Cal P w K mg base 2 "places_behind" BB<|spX gPB)(R:Cal P w K mg base 1 "rounded_up" AB<|spX gRU)(B:Blt mg)(hj:2<=j) :
  FnOk P w K mg base CX0 (j+1) f fd AN (spX<|gRL zT n):=by
 refine xT F fW (λY Q h=>by obtain⟨_,rfl,_⟩:=h;rfl) `b λAi A y s H E l=>?_;refine#[_,(cE (fS fW 1<|dS T<|eP `e)
  (cE (fS fW 2<|dS U<|eP `h)
  (cE (lG λF=>PS.weak (oA (i:=3) fW.nd rfl rfl (dsc:=aQ cc_) (N:=["kinds","rooms","multiple","ends"]) (tgs:=["place","room"]) (outs:=[]) (N':=["place","room"]) (by refine#[rfl,?_,?_,?_,rfl,?_,?_,?_]<;>decide +kernel) (XIt.at (Ex:=dQ) F (m5 B.zip<|cO (dS m<|eP `h) `h)) (λ_ _ _ _ _=>(wJ K (n:=2) rfl rfl<|sP (kI (i:=0) (show(["place","room"]:S4).Nodup by decide +kernel) rfl `q (.inr rfl))<|sP (kI (i:=1) (show(["place","room"]:S4).Nodup by decide +kernel) rfl `q (.inr rfl)) eu_)) (nW<|cl_ `b (cl_ `b jk_ ck_) (dr_ ck_)) (λa b c d e=>XCs.at (Ex:=dQ) F lO) (λa b c d e=>XE.at (Ex:=dQ) F (lN `e (dL K `h))))<|p_ (jg_ (n:=2) (is:=[0,1]) rfl `b) `b)
  (cP<|dT<|kG<|cO (dS R<|cO (nQ rfl rfl B.max (eP<|xv 3)<|oC kp_ wI)<|xv 2)<|xv 2)))),λY Q h=>?_]
 obtain⟨J,rfl,D,C,G,I,q⟩:=h;have g:=j3 D C I;refine#[J,rfl,D,C,G,I,?_];generalize S:rmK J=rs at g q;have o:rs.length<=10:=by rw[<-S,aZw];exact G
 obtain⟨W,c1⟩:=fy_ (e:=0) (Int.zero_le_ofNat 0) g;have c2:(rs.length:Int)*(2^150+8)<=10*(2^150+8):=cB (Nat.ToInt.of_le rfl rfl o) `b;obtain⟨x0,x1⟩:=tS g;refine#[rs,rfl,o,λr l=>(g r l).2.2.1,?_];refine#[rs,rfl,o,g,?_];have v:(jM ((lX 0 rs).map Dx.int)<|rs.map prT).length<=1000000:=by rw[ea_,aA,dD];lia
 refine#[v,show cC _ _ _ _ _ (jM ((lX 0 rs).map Dx.int)<|rs.map prT) _ _ from ?_];rw[ea_];refine mY _ (λp:Int×(Int×Int)=>Dx.int<|p.1+p.2.1) (λp hp Ae P x=>x) ?_;have k:(((lX 0 rs).zip rs).map λp=>Dx.int<|p.1+p.2.1)=(ends 0 rs).map Dx.int:=by rw[g9,bL];rfl
 rw[k];refine#[ends 0 rs,rfl,λZ=>?_,λM u L=>?_];have:rs=[]:=by
  cases rs with
  |nil=>rfl
  |cons r t=>cases Z
 subst this;exact#[_,_,rfl,by decide,by decide,by decide,by decide,lD,q];have O:rs≠[]:=fun z=>by rw [z] at u; cases u
 obtain⟨V,t2⟩:=g_ (e:=0) (λr l=>#[(g r l).1,by have:=(g r l).2.2.1;exact iB this]) O;have:M=dI 0 rs:=Int.le_antisymm (t2 M u)<|L _ V;subst this;exact#[_,_,rfl,W,by lia,iB x0,by lia,lD,q]
def aXw(F:Fun K "room_of_choice" "room_of_choice" dd_ f fd)(D:Cal P w K mg base j "rooms_of" AN<|spX<|gRS n)(E:Cal P w K mg base 1 "greatest_multiple" BB<|spX gGM)(c:Cal P w K mg base 2 "chosen_at" ["multiple"] (spX gCA))(y:Cal P w K mg base 1 "rounded_up" AB<|spX gRU)(B:Blt mg)(L:2<=j) :
  FnOk P w K mg base CX0 (j+1) f fd AN (spX<|gRL uP n):=by
 refine jO F bo_ (λb=>(cE (fS bo_ 1<|dS D<|eP `e)
  (cE (fS bo_ 2<|dS E<|eP `h)
  (cE (fS bo_ 3<|nQ rfl rfl B.max (eP<|mS bo_ [] (lA `h) lO `k)<|oC kp_ wI)
  (cP<|dT<|kG<|cO (dS y<|cO (lN (dS c<|eP<|xv 2)<|xv 3)<|xv 2)<|xv 2))))) λJ Q h=>?_
 obtain⟨t,rfl,l,i,o,s,q⟩:=h;refine#[rfl,?_];have a:=j3 l i s;refine#[t,rfl,l,i,o,s,?_];generalize A:rmK t=rs at a q;have C:rs.length<=10:=by rw[<-A,aZw];exact o
 obtain⟨R,S⟩:=tS a;obtain⟨N,O⟩:=rW (n:=1) (m:=fK 1 (rs.map (·.2))) `a;have T:0<=fK 0 (rs.map (·.1)):=mO _;have U:fK 0 (rs.map (·.1))<=2^150:=is_ `b λz H=>by obtain⟨r,b,rfl⟩:=aZ.mp H;exact(a r b).2.1
 refine#[rs,rfl,C,λr b=>(a r b).2.2.1,?_];refine#[show(rs.map prT).length<=_ by rw[aA];lia,show cC _ _ _ _ _ (rs.map prT) _ _ from ?_];refine mY prT (λr=>.int r.1) (λr b I P p=>p) ?_;refine#[rs.map (·.1),by rw[bL];rfl,λG=>?_,λM g u=>?_];have:rs=[]:=eY.mp G;subst this;exact#[_,rfl,by decide,by decide,_,_,rfl,by decide,by decide,by decide,by decide,lD,q];obtain ⟨r,v,rfl⟩:=aZ.mp g;have e:=(wZ (d:=0) g (a r v).1 u);rw[e];exact#[_,rfl,by lia,by lia,_,_,rfl,by lia,by lia,by lia,by lia,lD,q]
def aXt(F:Fun K "room_of" "room_of" kf_ f fd)(e:Cal P w K mg base j "room_of_row" ["kind","n"] (spX<|gRR n))(b:Cal P w K mg base j "room_of_record" AN<|spX<|gRL zT n)(c:Cal P w K mg base j "room_of_choice" AN<|spX<|gRL uP n) :
  FnOk P w K mg base CX0 (j+1) f fd AX (spX<|gRO<|n+1):=by
 refine jO F pQ (λv=>(cE (iC (kS `k jR) (cP<|dT<|kG<|cO `k `k) iH)
  (cE (iC (kS `k jR) (cP<|dT<|dS e<|cO `k `k) iH)
  (cE (iC (kS `k jR) (cP<|dT<|dS b<|eP<|mS pQ [] (lA `k) lO `k) iH)
  (cP<|dT<|dS c<|eP `k))))) λt Q h=>?_
 obtain⟨o,rfl,a,g,i,q⟩:=h;refine#[rfl,?_];cases o with
 |num y m=>exact#[lD,q]
 |row k m => exact#[k,m,rfl,a.1,cH g,eV i,a.2.1,a.2.2,q]
 |rcd fs => have l:=a.2;refine#[show(xF fs).length<=_ by rw[gg_,aA];lia,show cC _ _ _ _ _ (xF fs) _ _ from ?_];rw[gg_];refine mY _ (λf:Str×Kd=>f.2.x) (λf u s P p=>p) ?_;refine#[fs.map (·.2),by rw[bZ,j_,bL];rfl,aBw a.1,by rw[fr_];exact cH g,by rw[aA];exact l,eV i,?_];rw[aBg];exact q
 |cho r => exact#[r,rfl,a.1,cH g,a.2,eV i,q]
end
def wL(w:Way):S7:=[w.1,(w.2.1:Int),w.2.2]
def aZu(a b:Way):HT.lexLt (wL a) (wL b)=wlt a b:=by
 obtain⟨c,e,i⟩:=a;obtain⟨f,g,j⟩:=b;show HT.lexLt [c,(e:Int),i] [f,(g:Int),j]=_;rw[HT.lexLt_cons,HT.lexLt_cons,HT.lexLt_cons,HT.lexLt_nil_nil];show _=if c=f then(if e=g then decide (i<j)else decide (e<g))else decide (c<f)
 by_cases h:c=f;rw [if_pos h,if_pos h];by_cases l:e=g;rw [if_pos<|Int.ofNat_inj.mpr l,if_pos l];by_cases m:i=j;rw[if_pos m,dzF `a];rw[if_neg m];rw [if_neg `a,if_neg l];exact decide_eq_decide.mpr #[λ_=>by lia,λ_=>by lia];rw[if_neg h,if_neg h]
def bBp:∀g,g<32->∀i,i<5->(Builtin.bitAnd ((g:Nat):Int) (1*2^((i:Nat):Int).toNat) != 0)=g.testBit i:=by decide +kernel
def p8:∀i,i<6->(1:Int)*2^((i:Nat):Int).toNat=((2^i:Nat):Int):=by decide +kernel
def aIo(x:(Int×Int)×Int):Int×Int:=(x.2,x.2+x.1.1)
abbrev uB:Int:=32*(2^150+8)
def LyOk(m:Nat)(ly:S5):Prop:=jX ly/\ly.length<=50/\m<=16/\∀s∈ly,s.2<=m*uB
def LyOk.nn(h:LyOk m ly)(e:s∈ly):0<=s.1/\0<=s.2/\s.2<2^170:=by have a:=h.1.1 s e;have b:=h.2.2.2 s e;have c:(m:Int)*uB<=16*uB:=cB (by have:=h.2.2.1;lia) `b;lia
def Rs2(rs:S5):Prop:=rT rs/\∀k,k<rs.length->(rk rs k).1<=2^150
def tH(h:rs[i]? = some r):rk rs i=r:=by unfold rk;rw[aU,h];rfl
def aHz(a:Rs2 rs)(e:LyOk m ly)(b:g<2^rs.length):0<=(way rs ly g).1/\(way rs ly g).1<=m*uB+31*(2^150+8)/\(way rs ly g).1<2^171:=by have h:=aV b<|cz_ _ (by have:=a.1.1;exact eU this);have i:=aVd (ly:=ly) a.1 (Int.mul_nonneg `a `b) (λs f=>e.2.2.2 s f) a.2 `b g b;have c:(m:Int)*uB<=16*uB:=cB (by have:=e.2.2.1;lia) `b;exact#[pC a.1 g b,by lia,by lia]
def bAt{i j}{a b}{ρ}{Q}(h:Q<|(ρ.set i<|vT a).set j<|vT b):gxT [i,j] (.tup [a,b]) ρ Q:=h
abbrev wT(w:Way):Dx:=zA<|wL w
def gFP:GC:=λc Q=>∃(b:Int) (r:Int×Int) (a:S5),c=[.int b,prT r,.lst<|a.map prT]/\0<=b/\b<2^190/\1<=r.2/\r.2<=8/\(∀s∈a,0<=s.2/\s.2<2^190)/\Q (.tr<|.int<|fr a b r)
def gSA:GC:=λc Q=>∃(a:S5) (b:S7),c=[.lst<|a.map prT,.lst<|b.map Dx.int]/\a.length<=10/\Q (.ol<|((a.zip b).map aIo).map prT)
def gGE:GC:=λb Q=>∃a:S5,b=[.lst<|a.map prT]/\a.length<=1000/\(∀s∈a,0<=s.2)/\Q (.tr (.int (fK 0 (a.map (·.2)))))
def gCW:GC:=λc Q=>∃(g m:Nat) (a b:S5),c=[.int (g:Int),.lst<|(wy a b<|g-1).map wT,.lst<|a.map prT,.lst<|b.map prT]/\Rs2 a/\LyOk m b/\0<g/\g<2^a.length/\Q (.tr<|wT<|way a b g)
def gBF:GC:=λc Q=>∃(m:Nat) (a b:S5),c=[.lst<|(wy a b<|iX a).map wT,.int (a.length:Int)]/\Rs2 a/\LyOk m b/\Q (.ol<|(dpP a b).map Dx.int)
def gCC:GC:=λc Q=>∃(m:Nat) (b a:S5),c=[.lst<|b.map prT,.lst<|a.map prT]/\Rs2 b/\LyOk m a/\Q (.ol<|(dpP b a).map Dx.int)
def gPC(n:Nat):GC:=λc Q=>∃(m:Nat) (a:T2) (b:S5),c=[.lst<|xK a,.lst<|b.map prT]/\okK a/\dW a<=n/\n<=12/\Rs2 (rmK a)/\LyOk m b/\∀e:Int,Q<|.tr<|.tup [.lst<|(dpP (rmK a) b).map Dx.int,.int e]
section
variable{f:Addr}{n j:Nat}
def aYy(F:Fun K "free_place" "free_place" jd_ f fd)(A:Cal P w K mg base 1 "rounded_up" AB<|spX gRU):FnOk P w K mg base CX0 2 f fd BK<|spX gFP:=by
 refine jO F iD (λL=>(cE (fS iD 3<|dS A<|cO `e (dL K `h))
  (cE (k9 PassesOwn.never rfl (lA<|xv 2) (kI (i:=4) iD.nd rfl `q) (i_ (n:=99) (i:=4) `b)<|cP<|iC (XW.pt<|aGy (yD ks_ kq_ (dL K<|xv 4) (lN (xv 3)<|dL K `h)<|dP _)<|aAf<|yD ks_ kq_ (xv 3) (dL K<|xv 4)<|dP _) (cP<|fS iD 3<|dS A<|cO (dL K<|xv 4)<|dL K `h) iH)
  (cP<|dT<|dt_<|pv 3)))) λI Q h=>?_
 obtain⟨b,r,t,rfl,D,H,M,N,s,q⟩:=h;refine#[rfl,?_];refine#[b,r.2,rfl,D,by lia,by lia,by lia,?_];refine x6 prT (λrest y=>∃(a:S5) (v:Sl),t=a++rest/\y=[vT<|.int b,vT<|prT r,vT<|.lst<|t.map prT,vT<|.int<|a.foldl (dC r)<|up b r.2,v]) (λy h=>?_) (λc rest y C h E=>?_) #[[],.un,rfl,rfl];obtain ⟨a,v,l,rfl⟩:=h;rw[aP]at l;subst l;exact q;obtain ⟨a,v,l,rfl⟩:=h;obtain⟨G,O⟩:=s c (by rw[l];exact aJ _ aB);have B:(a++[c]).foldl (dC r) (up b r.2)=dC r (a.foldl (dC r)<|up b r.2) c:=by rw[List.foldl_append];rfl
 generalize J:a.foldl (dC r) (up b r.2)=p at B ⊢;have g:∀u,dC r p c=u->C [vT<|.int b,vT<|prT r,vT<|.lst<|t.map prT,vT<|.int u,vT<|prT c]:=λu e=>E _ #[a++[c],_,by rw[l,bN];rfl,by rw[B,e]];show if decide (c.1<p+r.1)=true then _ else _
 by_cases m:c.1<p+r.1;rw [if_pos<|dzT m];show if decide (p<c.2)=true then _ else _
 by_cases o:p<c.2;rw [if_pos<|dzT o];exact#[c.2,r.2,rfl,G,by lia,by lia,by lia,g _<|if_pos #[m,o]];rw [if_neg (by rw [decide_eq_true_eq]; exact o)];exact g _<|if_neg λz=>o z.2;rw [if_neg (by rw [decide_eq_true_eq]; exact m)];exact g _<|if_neg λz=>m z.1
def aXr(F:Fun K "stretches_at" "stretches_at" gl_ f fd)(B:Blt mg):FnOk P w K mg base CX0 1 f fd BE<|spX gSA:=by refine jO F fg_ (λm=>(cP<|dT<|aAj fg_ [] (m5 B.zip<|cO `e `h) lO (kG<|cO `h (lN `h `k)))) λg Q h=>?_;obtain⟨b,a,rfl,i,q⟩:=h;refine#[rfl,?_];refine#[show(jM (b.map prT)<|a.map Dx.int).length<=1000000 by rw[ea_,aA,dD];lia,show cC _ _ _ _ _ (jM (b.map prT)<|a.map Dx.int) _ _ from ?_];rw[ea_];refine mY _ (λp:(Int×Int)×Int=>prT<|aIo p) (λp l e P c=>#[lD,c]) ?_;rw[bL]at q;exact q
def aYw(F:Fun K "greatest_end" "greatest_end" go_ f fd)(B:Blt mg):FnOk P w K mg base CX0 1 f fd BP<|spX gGE:=by refine jO F fk_ (λl=>(cP<|dT<|nQ rfl rfl B.max (eP<|mS fk_ [] (lA `e) lO `k)<|oC kp_ wI)) λo Q h=>?_;obtain⟨a,rfl,s,i,q⟩:=h;refine#[rfl,?_];refine#[show(a.map prT).length<=_ by rw[aA];lia,show cC _ _ _ _ _ (a.map prT) _ _ from ?_];refine mY prT (λr=>.int r.2) (λr l m P p=>p) ?_;refine#[a.map (·.2),by rw[bL];rfl,λg=>?_,λM b c=>?_];rw[g]at q;exact q;obtain ⟨r,e,rfl⟩:=aZ.mp b;rw[<-wZ (d:=0) b (i r e) c]at q;exact q
def aZc(F:Fun K "closest_way" "closest_way" hq_ f fd)(E:Cal P w K mg base 2 "free_place" BK<|spX gFP)(B:Blt mg):FnOk P w K mg base CX0 3 f fd AU<|spX gCW:=by
 refine jO F gG (λhr=>(cE (fS gG 4<|kF jK)
  (cE (k9 PassesOwn.never rfl (aOk B.enumerate<|eP<|xv 2) (ko_ rfl<|sP (kI (i:=5) gG.nd rfl `q)<|sP (kI (i:=6) gG.nd rfl `q) eu_) (jg_ (n:=99) (is:=[5,6]) rfl `b) (cP (iC (aOc<|aOs `e (vE cQ<|xv 5)) (cE (fS gG 7<|dS E<|hU (dL K<|kK K `h (k8 `e (vE cQ<|xv 5)))<|cO (xv 6)<|xv 3)
  (cP<|ek_ 4<|kG<|hU (lN (xv 7)<|dL K<|xv 6)<|cO (xv 5)<|xv 7)) iH)))
  (cP<|dT<|bw_ (aGc rfl<|f6 hr) aSg (by rfl) B.min aNk<|eP<|xv 4)))) λds Q h=>?_
 obtain⟨g,m,c,ly,rfl,C,H,g0,T,q⟩:=h;refine#[rfl,?_];have h5:=C.1.1;have O:g<32:=aV T<|cz_ _ `a;refine#[bM _,?_];dsimp only;generalize Ju:(wy c ly<|g-1).map wT=W;change cX _ _ [vT<|.int (g:Int),vT<|.lst W,vT<|.lst<|c.map prT,vT<|.lst<|ly.map prT,.v<|.ol [],.un,.un,.un] _;refine cs_ (λl=>∃(v y o:Sl),l=[vT<|.int (g:Int),vT<|.lst W,vT<|.lst<|c.map prT,vT<|.lst<|ly.map prT,.v<|.ol<|(hY c ly (wy c ly<|g-1) g c.length).map wT,v,y,o]) ?_<|λnx Dw=>?_;rintro l ⟨v,y,o,rfl⟩;obtain⟨⟨x,Ov,Pk,_⟩,_⟩:=fs_ (ly:=ly) C.1 g0 T;refine#[(hY c ly (wy c ly<|g-1) g c.length).map wL,by rw[bL];rfl,λz=>?_,λt ht B4=>?_];have:jU c ly (wy c ly<|g - 1) g x∈hY c ly (wy c ly<|g - 1) g c.length:=aZ.mpr #[x,cU.mpr #[cR.mpr Ov,Pk],rfl];rw[eY.mp z]at this;cases this;obtain ⟨M,hM,rfl⟩:=aZ.mp ht;have D:M=aFi (hY c ly (wy c ly<|g-1) g c.length):=aQv hM λb u=>by have Y:=B4 _<|aZ.mpr #[b,u,rfl];rw[aZu]at Y;exact Y
 have h3:way c ly g=M:=by obtain⟨S,rfl⟩:∃S,g=S+1:=#[g-1,by lia];rw[pB,D];rfl
 rw[<-h3];exact q;show iS _ _ _ (aFv<|c.map prT) _;have eE:aFv (c.map prT)=((List.range c.length).zip c).map λp=>Dx.tup [.int<|0+(p.1:Int),prT p.2]:=by unfold aFv gJ;rw[aA,ea_]
 rw[eE];refine x6 (λp:Nat×(Int×Int)=>Dx.tup [.int<|0+(p.1:Int),prT p.2]) (λrest l=>∃(a:List<|Nat×(Int×Int)) (v y o:Sl),(List.range c.length).zip c=a++rest/\l=[vT<|.int (g:Int),vT<|.lst W,vT<|.lst<|c.map prT,vT<|.lst<|ly.map prT,.v<|.ol<|(hY c ly (wy c ly<|g-1) g a.length).map wT,v,y,o]) (λl h=>?_) (λV rest l Kn h hk=>?_) #[[],.un,.un,.un,rfl,rfl];obtain ⟨a,v,y,o,A,rfl⟩:=h;rw[aP]at A;have hl:a.length=c.length:=by rw[<-A,dD,bV,Nat.min_self]
 rw[hl];exact Dw _ #[_,_,_,rfl];obtain ⟨a,v,y,o,A,rfl⟩:=h;have F1:((List.range c.length).zip c)[a.length]? = some V:=by rw[A,bX<|aO _,iI];rfl
 obtain⟨U,D⟩:=cY.mp F1;have I:=(aL.mp D).1;rw[iO I]at U;obtain⟨k,r⟩:=V;cases(ozI U);have G:=tH D;obtain⟨r1,r2,r3⟩:=C.1.2 a.length I;rw[G]at r1 r2 r3;have J:=C.2 a.length I;rw[G]at J;have Ph:=bBp g O a.length `a;have Ew:=p8 a.length `a;have R:=w_ c ly (wy c ly<|g-1) g a.length;have Af:(hY c ly (wy c ly<|g-1) g a.length).length<=a.length:=by unfold hY;rw[aA];exact nzL (dB _ _) (by rw[bV];exact aO _)
 have N:∀l,l=[vT<|.int (g:Int),vT<|.lst W,vT<|.lst<|c.map prT,vT<|.lst<|ly.map prT,.v<|.ol<|(hY c ly (wy c ly<|g-1) g<|a.length+1).map wT,vT<|.int<|0+(a.length:Int),vT<|prT r,l.getD 7 .un]->Kn l:=λl e=>hk l #[a++[(a.length,r)],_,_,_,by rw[A,bN];rfl,by rw[aI];exact e];refine bAt ?_;show xIf _ _ _ [vT<|.int (g:Int),vT<|.lst W,vT<|.lst<|c.map prT,vT<|.lst<|ly.map prT,.v<|.ol<|(hY c ly (wy c ly<|g-1) g a.length).map wT,vT<|.int<|0+(a.length:Int),vT<|prT r,o] _;refine rA (g.testBit a.length) (ρ':=[vT<|.int (g:Int),vT<|.lst W,vT<|.lst<|c.map prT,vT<|.lst<|ly.map prT,.v<|.ol<|(hY c ly (wy c ly<|g-1) g a.length).map wT,vT<|.int<|0+(a.length:Int),vT<|prT r,o]) (λQ q=>?_) (λu=>?_)<|λu=>?_;refine #[#[by lia,by lia,by decide],?_];show Q (Builtin.bitAnd (g:Int) (1*2^((0+(a.length:Int))).toNat) != 0) _;have Ak:(Builtin.bitAnd (g:Int) (1*2^((0+(a.length:Int))).toNat) != 0)=g.testBit a.length:=by rw[gR];exact Ph
 rw[Ak];exact q;obtain ⟨b1,_⟩:=mL g O a.length `a u;have p2:0<2^a.length:=eW a.length;have Cp:((g:Int)-1*2^(0+(a.length:Int)).toNat)=((g-2^a.length:Nat):Int):=by rw[gR,Ew];lia
 obtain⟨L,a0,a1⟩:=aHz (ly:=ly) C H (g:=g-2^a.length) `a;have hW:W[g-2^a.length]? = some (wT<|way c ly<|g-2^a.length):=by rw[<-Ju,bK,aG (by rw[gh_];lia)];have:=oZ c ly (g:=g-2^a.length) (h:=g-1) `a;rw[aU,aG (by rw[gh_];lia)]at this;rw[Option.map_some,<-this];rfl
 refine#[#[by lia,by lia,by decide],?_];show(match atI W ((g:Int)-1*2^(0+(a.length:Int)).toNat)with | some d=>_ | none=>False);rw[Cp,k_ hW];refine#[(way c ly<|g-2^a.length).1,r,ly,rfl,L,by lia,by lia,r3,λs Z=>#[(H.nn Z).2.1,by have:=(H.nn Z).2.2;lia],?_];refine#[rfl,(by show 3<=1000000;decide),by rw[aA];lia,N _ ?_];have Lk:jU c ly (wy c ly<|g-1) g a.length=(fr ly (way c ly<|g-2^a.length).1 r+r.1,a.length,fr ly (way c ly<|g-2^a.length).1 r):=by unfold jU;rw[oZ c ly (g:=g-2^a.length) (h:=g-1) `a,G]
 have hw:[jU c ly (wy c ly<|g-1) g a.length].map wT=[Dx.tup [.int<|fr ly (way c ly<|g-2^a.length).1 r+r.1,.int<|0+(a.length:Int),.int<|fr ly (way c ly<|g-2^a.length).1 r]]:=by rw[Lk,gR];rfl
 rw[R,u,if_pos rfl,aY,hw];rfl;refine N _ ?_;rw[R,u,if_neg `b];rfl
end
def aRr(rs ly:S5):((wy rs ly<|iX rs).map wT).length=iX rs+1:=by rw[aA,gh_]
def aVb(rs ly:S5)(e:g<=h):((wy rs ly h).map wT)[g]? = some (wT<|way rs ly g):=by rw[bK,aG (by rw[gh_];exact eU e)];have:=oZ rs ly (g:=g) (h:=h) e;rw[aU,aG (by rw[gh_];exact eU e)]at this;rw[Option.map_some,<-this];rfl
def aGo(i:rT rs)(r:jX ly)(f:0<g)(h:g<2^rs.length)(ps:S7):∃k,k<rs.length/\(way rs ly g).2.1=k/\2^k<=g/\sQ rs ly g g ps=sQ rs ly (g-2^k) (g-2^k) (ps.set k (way rs ly g).2.2):=by
 obtain⟨⟨k,o,m,e⟩,_⟩:=fs_ (ly:=ly) i f h;have l:=i.1;have q:=aV h<|cz_ _<|eU l;obtain⟨a,b⟩:=mL g q k (aV o l) m;have j:(way rs ly g).2.1=k:=by rw[e]
 have p:0<2^k:=eW _;refine#[k,o,j,Nat.ge_two_pow_of_testBit m,?_];obtain⟨c,rfl⟩:∃c,g=c+1:=#[g-1,(Nat.sub_eq_iff_eq_add f).mp rfl];show(if c+1=0 then ps else sQ rs ly c (c+1-2^(way rs ly<|c+1).2.1) (ps.set (way rs ly<|c+1).2.1 (way rs ly<|c+1).2.2))=_;rw[if_neg<|Nat.ne_zero_of_lt f,j];exact uZ i r _ _ _ _ `a (aO _) (Nat.sub_lt_of_lt h)
def bAj{n:Nat}{i:Int}(a:0<=i)(b:i<n):ixN n i=some i.toNat:=by unfold ixN;rw[if_pos a,if_pos b]
def zQ:∀n:Nat,(List.replicate n [Dx.int 0]).flatten=(List.replicate n (0:Int)).map Dx.int
 | 0=>rfl
 |n+1=>by rw[eX,eX,List.flatten_cons,zQ n];rfl
section
variable{f:Addr}{n j:Nat}
def aZj(F:Fun K "places_back_from" "places_back_from" ec_ f fd)(B:Blt mg):FnOk P w K mg base CX0 1 f fd ["ways","how_many"] (spX gBF):=by
 refine jO F bl_ (λR=>(cE (fS bl_ 2<|ey_ (kF<|eP cQ) `h)
  (cE (fS bl_ 3<|k8 (nI `e) cQ)
  (cE (aHb PassesOwn.never (yD aBt aBq (xv 3) cQ<|dP _) (cE (fS bl_ 4<|kK K `e (xv 3))
  (cE (lG λF=>PS.weak (wH (XE.at (Ex:=dQ) F (dL K<|xv 4)) (aJu (pv 2) (XE.at (Ex:=dQ) F (dL K<|xv 4)) zH)) aAv)
  (cP<|fS bl_ 3<|k8 (xv 3)<|vE cQ<|dL K<|xv 4))))
  (cP<|dT<|dt_<|pv 2))))) λL Q h=>?_
 obtain⟨m,a,ly,rfl,p,A,q⟩:=h;refine#[rfl,?_];have N:=p.1.1;have E:=lg_ a;have J:=cz_ a.length `a;refine#[(by show 1<=1000000;decide),#[by lia,by lia,by rw[gC];show 1*_<=_;lia],?_];dsimp only;generalize l:(wy a ly<|iX a).map wT=W;have D:W.length=iX a+1:=by rw[<-l];exact aRr a ly
 change cX (aHr _ _) _ [vT<|.lst W,vT<|.int (a.length:Int),.v<|.ol (List.replicate ((a.length:Int)).toNat [Dx.int 0]).flatten,vT<|.int<|(W.length:Int)-1,.un] _;rw[gC,zQ,show((W.length:Int)-1)=((iX a:Nat):Int) by lia];refine#[λg i=>∃(b:S7) (e:Sl),g<2^a.length/\b.length=a.length/\sQ a ly g g b=dpP a ly/\i=[vT<|.lst W,vT<|.int (a.length:Int),.v<|.ol<|b.map Dx.int,vT<|.int (g:Int),e],#[iX a,_,_,E,bP,rfl,rfl],?_];rintro g i ⟨b,e,G,H,r,rfl⟩;show(if decide ((0:Int)<(g:Int))=true then _ else _);by_cases z:0<g;rw [if_pos<|dzT `a];obtain⟨k,O,o,M,y⟩:=aGo (ly:=ly) p.1 A.1 z G b;refine#[λi=>∃c,c<g/\∃(b:S7) (e:Sl),c<2^a.length/\b.length=a.length/\sQ a ly c c b=dpP a ly/\i=[vT<|.lst W,vT<|.int (a.length:Int),.v<|.ol<|b.map Dx.int,vT<|.int (c:Int),e],λI h=>h,?_];have C:atI W (g:Int)=some (wT<|way a ly g):=by refine k_ ?_;rw[<-l];exact aVb a ly (by have:iX a=2^a.length-1:=rfl;lia)
 show(match atI W (g:Int)with | some d=>_ | none=>False);rw[C];dsimp only;refine#[rfl,?_];show(match ixN (b.map Dx.int).length ((way a ly g).2.1:Int)with | some n=>_ | none=>False);rw[o,show ixN (b.map Dx.int).length (k:Int)=some k from by rw[bAj `a (by rw[aA];lia)];rfl];have t:=p8 k `a;have S:0<2^k:=eW k;refine#[#[by lia,by lia,by decide],?_];refine#[g-2^k,by lia,b.set k (way a ly g).2.2,vT<|wT<|way a ly g,by lia,by rw[bJ];exact H,by rw[<-y];exact r,?_];have s:((g:Int)-1*2^((((way a ly g).2.1:Nat)):Int).toNat)=((g-2^k:Nat):Int):=by rw[o,t];lia
 have u:(b.map Dx.int).set k (.int (way a ly g).2.2)=(b.set k (way a ly g).2.2).map Dx.int:=(List.map_set).symm;rw[<-s,<-u];rfl;rw [if_neg (by rw [decide_eq_true_eq]; lia)];have v:g=0:=by lia
 subst v;have:b=dpP a ly:=r;subst this;exact q
def aZd(F:Fun K "closest_places" "closest_places" fb_ f fd)(o:Cal P w K mg base 3 "closest_way" AU<|spX gCW)(p:Cal P w K mg base 1 "places_back_from" ["ways","how_many"] (spX gBF))(B:Blt mg):FnOk P w K mg base CX0 4 f fd ["rooms","lying"] (spX gCC):=by
 refine jO F gZ (λL=>(cE (fS gZ 2<|kF<|eP<|kG<|hU cQ<|cO cQ cQ)
  (cE (k9 PassesOwn.never rfl (sU B.range<|cO cQ<|vE cQ<|nI `e) (kI (i:=3) gZ.nd rfl `q) (i_ (n:=99) (i:=3) `b)<|cP<|ek_ 2<|aOm<|dS o<|hU (xv 3)<|hU (xv 2)<|cO `e `h)
  (cP<|dT<|dS p<|cO (xv 2)<|nI `e)))) λH Q h=>?_
 obtain⟨m,b,c,rfl,t,u,q⟩:=h;refine#[rfl,?_];have I:=t.1.1;have J:=lg_ b;have E:=cz_ b.length `a;have r:=p8 b.length `a;refine#[(by show 3<=1000000;decide),(by show 1<=1000000;decide),?_];dsimp only;change cX (lC _ _ _) _ [vT<|.lst<|b.map prT,vT<|.lst<|c.map prT,.v<|.ol<|(wy b c 0).map wT,.un] _;refine cs_ (λg=>∃e:Sl,g=[vT<|.lst<|b.map prT,vT<|.lst<|c.map prT,.v<|.ol<|(wy b c<|iX b).map wT,e]) ?_<|λM y=>?_;rintro g ⟨e,rfl⟩;refine#[m,b,c,?_,t,u,q];rw[<-aA (f:=prT) (as:=b)];rfl;refine #[#[by lia,by rw [aA]; lia,by decide],?_];have z:(1*2^(((b.map prT).length:Nat):Int).toNat-1:Int).toNat=iX b:=by rw[aA,r];show _=2^b.length-1;lia
 refine#[#[by decide,by decide,by rw[aA,r];lia,by rw[aA,r];lia],?_];show iS _ _ _ (gJ 1 (1*2^(((b.map prT).length:Nat):Int).toNat-1:Int).toNat) _;rw[z];unfold gJ;refine x6 (λk:Nat=>Dx.int<|1+(k:Int)) (λrest g=>∃(a:T3) (e:Sl),List.range (iX b)=a++rest/\g=[vT<|.lst<|b.map prT,vT<|.lst<|c.map prT,.v<|.ol<|(wy b c a.length).map wT,e]) (λg h=>?_) (λk rest g G h C=>?_) #[[],.un,rfl,rfl];obtain ⟨a,e,l,rfl⟩:=h;rw[aP]at l;refine y _ #[e,?_];rw[<-l,bV];obtain ⟨a,e,l,rfl⟩:=h;have s:(List.range<|iX b)[a.length]? = some k:=by rw[l,bX<|aO _,iI];rfl
 have v:a.length<iX b:=by have:=(aL.mp s).1;rwa [bV]at this
 rw[iO v]at s;cases(ozI s);refine#[rfl,a.length+1,m,b,c,?_,t,u,by lia,by lia,?_];show [Dx.int<|1 + (a.length:Int),Dx.lst<|(wy b c a.length).map wT,_,_]=[Dx.int (((a.length + 1:Nat)):Int),_,_,_];rw[show(1+(a.length:Int))=((a.length+1:Nat):Int) by lia];rfl;refine #[?_,?_];intro d A;obtain⟨i,_,rfl⟩:=aZ.mp A;trivial;refine #[by show ((wy b c a.length).map wT).length + 1≤_; rw [aA,gh_]; lia,C _ #[a ++ [a.length],vT<|.int<|1 + (a.length:Int),by rw [l,bN]; rfl,?_]];have D:(wy b c (a++[a.length]).length).map wT=(wy b c a.length).map wT++[wT<|way b c<|a.length+1]:=by rw[aI,pB];show(wy b c<|a.length+1).map wT=_;show(wy b c a.length++[_]).map wT=_;rw[aY];rfl
 rw[D];rfl
def aYa(F:Fun K "placed_closely" "placed_closely" ez_ f fd)(p:Cal P w K mg base j "rooms_of" AN<|spX<|gRS n)(g:Cal P w K mg base 4 "closest_places" ["rooms","lying"] (spX gCC))(t:Cal P w K mg base 1 "stretches_at" BE<|spX gSA)(u:Cal P w K mg base 1 "greatest_end" BP<|spX gGE)(I:4<=j):FnOk P w K mg base CX0 (j+1) f fd ["kinds","lying"] (spX<|gPC n):=by
 refine jO F ct_ (λM=>(cE (fS ct_ 2<|dS p<|eP `e)
  (cE (fS ct_ 3<|dS g<|cO (xv 2) `h)
  (cP<|dT<|kG<|cO (xv 3)<|dS u<|eP<|lN (dS t<|cO (xv 2)<|xv 3) `h)))) λG Q h=>?_
 obtain⟨m,a,ly,rfl,B,z,C,b,c,q⟩:=h;refine#[rfl,?_];have E:(rmK a).length=a.length:=by rw[<-aA (f:=prT),<-aBf,aA]
 refine#[a,rfl,B,z,by have:=b.1.1;lia,C,?_];refine#[m,rmK a,ly,rfl,b,c,?_];refine#[rmK a,dpP (rmK a) ly,rfl,by have:=b.1.1;lia,?_];have y:=lh_ (ly:=ly) b.1 c.1;have H:=b.1.1;have N:(((rmK a).zip<|dpP (rmK a) ly).map aIo).length<=5:=by grind
 refine#[by rw[aA,aA (as:=ly)];have:=c.2.1;lia,?_];refine#[((rmK a).zip<|dpP (rmK a) ly).map aIo++ly,by rw[aY];rfl,by rw[aI];have:=c.2.1;lia,λs e=>?_,by show 2<=1000000;decide,q _];rcases aX.mp e with e | e
 obtain ⟨x,D,rfl⟩:=aZ.mp e;obtain⟨i,A⟩:=eQ D;obtain⟨l,v⟩:=cY.mp A;have o:=(aL.mp l).1;have J:=(y.ok i o<|eF i).1;have L:pk (dpP (rmK a) ly) i=x.2:=by unfold pk;rw[aU,v];rfl
 have r:=(b.1.2 i o).1;rw[tH l]at r;show 0<=x.2+x.1.1;lia;exact(c.nn e).2.1
end
def aLx:∀{xs:S4},inV (.str x) (xs.map V.str)=true↔x∈xs:=by intro xs;unfold inV;rw[List.any_map,List.any_eq_true];constructor;rintro ⟨y,b,e⟩;have a:=e;rw[<-eq_of_beq a];exact b;intro h;exact#[x,h,(beq_self_eq_true x:(x == x)=true)]
def zN:∀{xs:S4},(xs.map Dx.str).filterMap scV=xs.map V.str
 | []=>rfl
 |x::xs=>by rw[bQ,gK,zN];rfl
def aBc:∀{xs:S4},((xs.map Dx.str).all λd=>(scV d).isSome)=true
 | []=>rfl
 |x::xs=>by rw[bQ,List.all_cons,aBc];rfl
def cb_{f:Type}{n}{gx}{tc}{te}{Q}{cs}(g i:f->Dx)(p:f->Bool){as:List f}(h:∀a∈as,∀(e:S1) (P:S1->T1->Prop),P (e++(if p a=true then [i a]else [])) cs->tE n gx tc te P (g a) cs e)(q:Q ((as.filter p).map i) cs):cC n gx tc te Q (as.map g) cs []:=by refine eq_ g (λrest e c=>c=cs/\∃b,as=b++rest/\e=(b.filter p).map i) (λe c l=>?_) (λa rest e c P l k=>?_) #[rfl,[],rfl,rfl];grind;obtain ⟨rfl,b,j,rfl⟩:=l;refine h a (by rw[j];exact aJ _ aB) _ P<|k _ _ #[rfl,b++[a],by rw[j,bN];rfl,?_];rw[cT,aY,gN,List.filter_nil];split<;>rfl
structure Fe where
 nm:Str
 ix:Nat
 kd:Kd
 vd:Vd
 pl:T7
abbrev S6:=List Fe
def plT:T7->Dx
 |none=>.non
 |some p=>.int p
def Fe.x(e:Fe):Dx:=.tup [.str e.nm,e.kd.x,e.kd.vx e.vd,plT e.pl]
structure Fe.Ok(e:Fe):Prop where
 nm:Nm e.nm
 fit:e.kd.Fit
 deep:e.kd.deep<=3
 val:e.kd.Val e.vd
inductive Ch where
 |drop (nm:Str)
 |add (nm:Str) (kd:Kd) (vd:Vd)
abbrev U3:=List Ch
def Ch.x:Ch->Dx
 | .drop nm=>.tup [.str "drop",.str nm]
 | .add nm kd vd=>.tup [.str "add",.str nm,kd.x,kd.vx vd]
def Ch.isAdd:Ch->Bool
 | .drop _=>false
 | .add _ _ _=>true
abbrev nms(fs:S6):S4:=fs.map (·.nm)
def Ch.go(fs:S6)(k:Nat):Ch->S6
 | .drop nm=>fs.filter λe=>!decide (e.nm=nm)
 | .add nm kd vd=>fs++[#[nm,k,kd,vd,none]]
def Ch.ct(k:Nat):Ch->Nat
 | .drop _=>k
 | .add _ _ _=>k+1
def Ch.Ok(fs:S6):Ch->Prop
 | .drop nm=>Nm nm/\nm∈nms fs
 | .add nm kd vd=>Nm nm/\nm∉nms fs/\kd.Fit/\kd.deep<=3/\kd.Val vd
def gIT:GC:=λa Q=>∃(fs:S6) (nm:Str),a=[.lst `t,.str nm]/\fs.length<=1000/\Q (.tr<|.bl<|decide (nm∈nms fs))
def gNF:GE:=λc Q Ex=>∃(fs:S6) (nm:Str) (a:Kd) (b:Vd),c=[.lst `t,(Ch.add nm a b).x]/\fs.length<=1000/\(Ch.add nm a b).Ok fs/\∀k,Q<|.tr<|Fe.x #[nm,k,a,b,none]
def gFW(C:Addr):GE:=λa Q Ex=>∃(fs:S6) (nm:Str),a=[.lst `t,.str nm]/\fs.length<=1000/\Nm nm/\(nm∈nms fs->Q (.ol<|(fs.filter λe=>!decide (e.nm=nm)).map Fe.x))/\(nm∉nms fs->Ex (.ref C))
def aGp(fs:S6)(d:Dx):Prop:=(∃nm,d=(Ch.drop nm).x/\Nm nm/\nm∉nms fs)\/d=.tup [.str "gone"]
def gFO(C:Addr):GE:=λa Q Ex=>∃(fs:S6) (d:Dx),a=[.lst `t,d]/\fs.length<=900/\((∃c:Ch,d=c.x/\c.Ok fs/\∀k,Q<|.ol<|(c.go fs k).map Fe.x)\/(aGp fs d/\Ex (.ref C)))
section
variable{f:Addr}{n j:Nat}{a:Addr}
def aYp(F:Fun K "is_there" "is_there" pX f fd):FnOk P w K mg base CX0 1 f fd AL<|spX gIT:=by
 refine jO F kc_ (λl=>(cP<|dT<|jw_ (aKk K) (aTs false) `h (mS kc_ [] (lA `e) lO `k) (by with_unfolding_all rfl))) λc Q h=>?_;obtain⟨fs,nm,rfl,i,q⟩:=h;refine#[rfl,?_];refine#[show(fs.map Fe.x).length<=1000000 by rw[aA];lia,show cC _ _ _ _ _ `t _ _ from ?_];refine mY Fe.x (λe=>.str e.nm) (λe g b P p=>p) ?_;rw[bZ,show fs.map (λe=>Dx.str e.nm)=(nms fs).map Dx.str by rw[bL];rfl];refine#[aBc,?_];have:inV (.str nm) (((nms fs).map Dx.str).filterMap scV)=decide (nm∈nms fs):=by rw[zN,fV,decide_eq_true_eq];exact aLx
 rw[<-this]at q;exact q
end
def aIn:∀{l},(∀d∈l,d.Sz)->szX l
 | [],_=>trivial
 |d::r,h=>#[h d aB,aIn λe a=>h e<|aC _ a]
def aAz:∀{l},(∀p∈l,p.2.Sz)->aPe l
 | [],_=>trivial
 |d::r,h=>#[h d aB,aAz λe a=>h e<|aC _ a]
def i0:∀{l},(∀d∈l,d.deep<=n)->eM l<=n
 | [],_=>bM _
 |d::r,h=>Nat.max_le.mpr #[h d aB,i0 λe a=>h e<|aC _ a]
def uN:∀{l},(∀p∈l,p.2.deep<=n)->xX l<=n
 | [],_=>bM _
 |d::r,h=>Nat.max_le.mpr #[h d aB,uN λe a=>h e<|aC _ a]
mutual
def Kd.vx_sz:∀(l:Kd) (c:Vd),l.Fit->l.Val c->(l.vx c).Sz/\(l.vx c).deep<=l.deep
 | .num w m,c,hf,hv=>by
  cases c with
  |num i=>simp only[Kd.vx,Dx.Sz,Dx.deep,Kd.deep];exact#[trivial,by lia]
  |_=>simp[Kd.Val]at hv
 | .row k m,c,hf,hv=>by
  cases c with
  |row o =>
   simp only[Kd.Val]at hv;have t:=hf.2.2;have z:∀d∈o.map k.vx,d.Sz/\d.deep<=k.deep:=λd g=>by obtain⟨v,u,rfl⟩:=aZ.mp g;exact Kd.vx_sz k v hf.1<|hv.2 v u
   simp only[Kd.vx,Dx.Sz,Dx.deep,Kd.deep];have:=i0 λd g=>(z d g).2;exact#[#[by rw[aA];lia,aIn λd g=>(z d g).1],by lia]
  |_=>simp[Kd.Val]at hv
 | .rcd fs,c,hf,hv=>by
  cases c with
  |rcd o =>
   simp only[Kd.Val]at hv;obtain⟨s,B,t,q⟩:=hf;have r:=ff_ hv;have z:=aIb fs o s hv;simp only[Kd.vx,Dx.Sz,Dx.deep,Kd.deep];have j:=hg_ r;have y:(vxF fs o).length=fs.length:=by have:=congrArg List.length j;simpa using this
   have:=uN λd g=>(z d g).2;refine#[#[by lia,?_,aAz λd g=>(z d g).1],by lia];rw[j];have e:(fs.map λf=>(Sum.inr f.1:Key))=(fs.map (·.1)).map (λx:Str=>(Sum.inr x:Key)):=by rw[bL];rfl
   rw[e];exact List.Pairwise.map _ (λa b h e=>h<|Sum.inr.inj e) q
  |_=>simp[Kd.Val]at hv
 | .cho ks,c,hf,hv=>by
  cases c with
  |cho C v => simp only[Kd.Val]at hv;obtain⟨k,j,p⟩:=pG hv;obtain⟨a,b⟩:=aIa ks hf.1 k (bA j) v p;simp only[Kd.vx,Dx.Sz,Dx.deep,Kd.deep,szX,eM,aK,bE];rw[vM j];have:=Kd.deep_pos k;have A:=(aDa hf.1<|bA j).2;exact#[#[by lia,trivial,a,trivial],by lia]
  |_=>simp[Kd.Val]at hv
def aIb:∀(fs:T9) (vs:List Vd),lM fs->jH fs vs->∀p∈vxF fs vs,p.2.Sz/\p.2.deep<=gL fs
 | [],_,_,_,p,h=>by simp[vxF]at h
 |_::_,[],_,h,_,_=>by simp[jH]at h
 |f::r,v::vs,hf,hv,p,h=>by
  simp only[jH]at hv;simp only[vxF]at h;have e:gL (f::r)=max f.2.deep (gL r):=rfl;rcases aE.mp h with rfl | h
  obtain ⟨a,b⟩:=Kd.vx_sz f.2 v hf.1.2 hv.1;exact#[a,nzL b `a];obtain ⟨a,b⟩:=aIb r vs hf.2 hv.2 p h;exact#[a,by lia]
def aIa:∀(ks:T2),jJ ks->∀k∈ks,∀v,k.Val v->(k.vx v).Sz/\(k.vx v).deep<=k.deep
 | [],_,k,h,_,_=>by simp at h
 |k'::r,hf,k,h,v,hv=>by by_cases e:k=k';rw[e]at hv ⊢;exact Kd.vx_sz k' v hf.1 hv;exact aIa r hf.2 k ((aE.mp h).resolve_left e) v hv
end
def Nm.sz(h:Nm x):x.length<=1000:=by rw[dy_];exact nzL h.2.1 `b
mutual
def Kd.xz:∀(k:Kd),k.Fit->k.x.Sz
 | .num w m,h=>by simp only[Kd.x,Dx.Sz,szX,aK,bE];exact#[by decide,by decide +kernel,trivial,trivial,trivial]
 | .row k n,h=>by simp only[Kd.x,Dx.Sz,szX,aK,bE];exact#[by decide,by decide +kernel,Kd.xz k h.1,trivial,trivial]
 | .rcd fs,h=>by have:=h.2.2.1;simp only[Kd.x,Dx.Sz,szX,aK,bE];exact#[by decide,by decide +kernel,#[by rw[gg_,aA];lia,xFz fs h.1],trivial]
 | .cho ks,h=>by have:=h.2.2;simp only[Kd.x,Dx.Sz,szX,aK,bE];exact#[by decide,by decide +kernel,#[by rw[j_,aA];lia,xKz ks h.1],trivial]
def xFz:∀(fs:T9),lM fs->szX (xF fs)
 | [],_=>by simp only[xF,szX]
 |f::r,h=>by simp only[xF,szX,Dx.Sz,aK,bE];exact#[#[by decide,nzL h.1.1.sz `b,Kd.xz f.2 h.1.2,trivial],xFz r h.2]
def xKz:∀(ks:T2),jJ ks->szX (xK ks)
 | [],_=>by simp only[xK,szX]
 |k::r,h=>by simp only[xK,szX];exact#[Kd.xz k h.1,xKz r h.2]
end
mutual
def Kd.xd:∀(k:Kd),k.x.deep<=3*k.deep
 | .num w m=>by simp only[Kd.x,Dx.deep,eM];show _<=3*1;lia
 | .row k n=>by have:=Kd.xd k;have a:=Kd.deep_pos k;simp only[Kd.x,Dx.deep,eM];show _<=3*(k.deep+1);lia
 | .rcd fs=>by have:=xFd fs;simp only[Kd.x,Dx.deep,eM];show _<=3*(gL fs+1);lia
 | .cho ks=>by have:=xKd ks;simp only[Kd.x,Dx.deep,eM];show _<=3*(dW ks+1);lia
def xFd:∀(fs:T9),eM (xF fs)<=3*gL fs+1
 | []=>by simp only[xF,eM];lia
 |f::r=>by have a:=Kd.xd f.2;have b:=xFd r;have c:=Kd.deep_pos f.2;simp only[xF,eM,Dx.deep];show _<=3*max f.2.deep (gL r)+1;lia
def xKd:∀(ks:T2),eM (xK ks)<=3*dW ks
 | []=>by simp only[xK,eM];lia
 |k::r=>by have a:=Kd.xd k;have b:=xKd r;simp only[xK,eM];show _<=3*max k.deep (dW r);lia
end
section
variable{f:Addr}{n j:Nat}{a:Addr}
def aYe(F:Fun K "new_field" "new_field" kg_ f fd)(r:Cal P w K mg base 1 "is_name" AA<|spX gNM)(t:Cal P w K mg base 1 "is_there" AL<|spX gIT)(g:Cal P w K mg base j "is_kind" AA<|spX gIK)(p:Cal P w K mg base j "is_value" AO<|spX<|gIV 3)(m:Cal P w K mg base j "copied" AA<|spX<|gCO 9)(C:1<=j)(l:PyProof.Rows.OwnCls "NoMake" a veM "ValueError.__new__" mg base):FnOk P w K mg base (CXe P w) (j+1) f fd AJ<|spE gNF:=by
 refine rC F vW (λu Q Ex h=>by obtain⟨_,_,_,_,rfl,_⟩:=h;rfl) `b λB A i s H E Ex D=>?_;refine#[_,(cE (iC (XW.pt<|f8 (lJ<|jD<|dS r<|eP<|dL K `h)<|i5<|jD<|dS t<|cO `e (dL K `h)) (cP<|cy_ l rfl rfl) iH)
  (cE (iC (XW.pt<|f8 (lJ<|jD<|dS g<|eP<|dL K `h)<|i5<|lJ<|jD<|dS p<|cO (dL K `h)<|dL K `h) (cP<|cy_ l rfl rfl) iH)
  (cP<|dT<|kG<|hU (dL K `h)<|hU (dS m<|eP<|dL K `h)<|cO (dS m<|eP<|dL K `h) mJ))),λu Q h=>?_]
 obtain⟨fs,nm,b,c,rfl,y,⟨z,o,e,v,hv⟩,q⟩:=h;refine kZ (ρ':=[vT<|.lst `t,vT (Ch.add nm b c).x]) (λQ q=>?_) ?_;refine #[nm,rfl,z,?_];refine#[fs,nm,rfl,y,?_];rw[dzF o];exact q;refine kZ (ρ':=[vT<|.lst `t,vT (Ch.add nm b c).x]) (fun Q q => ?_) ?_;refine #[b,rfl,e,by lia,?_];exact#[b,c,rfl,e,hv,v,q];refine #[b.x,rfl,Kd.xz b e,nzL (Kd.xd b) `a,?_];refine#[b.vx c,rfl,(Kd.vx_sz b c e hv).1,nzL (Kd.vx_sz b c e hv).2 `a,?_];refine#[by show 4<=1000000;decide,?_];have:=q 0;rw[show Fe.x #[nm,0,b,c,none]=.tup [.str nm,b.x.own.d,(b.vx c).own.d,.non] by rw[a8,a8];rfl]at this;exact this
def aYx(F:Fun K "fields_without" "fields_without" fa_ f fd)(i:Cal P w K mg base 1 "is_name" AA<|spX gNM)(l:Cal P w K mg base 1 "is_there" AL<|spX gIT)(g:PyProof.Rows.OwnCls "NoMake" a veM "ValueError.__new__" mg base):FnOk P w K mg base (CXe P w) 2 f fd AL<|spE<|gFW a:=by
 refine rC F el_ (λm Q Ex h=>by obtain⟨_,_,rfl,_⟩:=h;rfl) `b λB A c s H E Ex D=>?_;refine#[_,(cE (iC (XW.pt<|f8 (lJ<|jD<|dS i<|eP `h)<|i5<|lJ<|jD<|dS l<|cO `e `h) (cP<|cy_ g rfl rfl) iH)
  (cP<|dT<|mS el_ [1] (lA `e) (cj_<|kJ `k `h) `e)),λm Q h=>?_]
 obtain⟨fs,nm,rfl,o,t,v,u⟩:=h;refine eg_ (!decide (nm∈nms fs)) (ρ':=[vT<|.lst `t,vT<|.str nm]) (λQ q=>?_) (λb=>?_)<|λb=>?_;refine #[nm,rfl,t,?_];exact#[fs,nm,rfl,o,q];refine u fun z => ?_;rw[dzT z]at b;cases b;have r:nm∈nms fs:=by grind
 refine#[show(fs.map Fe.x).length<=1000000 by rw[aA];lia,show cC _ _ _ _ _ `t _ _ from ?_];refine cb_ Fe.x Fe.x (λe=>!decide (e.nm=nm)) (λe C y P p=>?_)<|v r;show(if(!decide (e.nm=nm))=true then _ else _);by_cases z:e.nm=nm;rw [dzT z,if_neg `b] at p ⊢;rw[aP]at p;exact p;rw [dzF z,if_pos `b] at p ⊢;exact p
def aYz(F:Fun K "fields_behind_one" "fields_behind_one" dx_ f fd)(t:Cal P w K mg base 1 "has_form" AH<|spX gHF)(m:nB P w K mg base 2 "fields_without" AL<|spE<|gFW a)(o:nB P w K mg base (j+1) "new_field" AJ<|spE gNF)(D:1<=j)(v:PyProof.Rows.OwnCls "NoMake" a veM "ValueError.__new__" mg base):FnOk P w K mg base (CXe P w) (j+2) f fd AJ<|spE<|gFO a:=by
 refine rC F ge_ (λB Q Ex h=>by obtain⟨_,_,rfl,_⟩:=h;rfl) `b λJ A r s H E Ex u=>?_;refine#[_,(cE (iC (jD<|dS t<|hU `h (cO jR cQ)) (cP<|dT<|dn_ m (u.mono<|Nat.le_add_of_sub_le D)<|cO `e (dL K `h)) iH)
  (cE (iC (jD<|dS t<|hU `h (cO jR cQ)) (cP<|dT<|lN `e (kF<|eP<|dn_ o (u.mono<|aO<|j+1)<|cO `e `h)) iH)
  (cP<|cy_ v rfl rfl))),λB Q h=>?_]
 obtain⟨fs,d,rfl,L,h⟩:=h;have C:(∃nm,Nm nm/\d=(Ch.drop nm).x/\(nm∈nms fs->Q (.ol<|(fs.filter λe=>!decide (e.nm=nm)).map Fe.x))/\(nm∉nms fs->Ex `i))\/(∃nm b g,d=(Ch.add nm b g).x/\(Ch.add nm b g).Ok fs/\∀k,Q<|.ol<|(Ch.go fs k<|.add nm b g).map Fe.x)\/(d=.tup [.str "gone"]/\Ex `i):=by
  rcases h with⟨c,rfl,l,q⟩ | ⟨i,q⟩
  cases c with
  |drop nm=>exact .inl #[nm,l.1,rfl,λ_=>q 0,λz=>absurd l.2 z]
  |add nm b g=>exact .inr<|.inl #[nm,b,g,rfl,l,q]
  rcases i with ⟨nm,e,p,y⟩ | e
  exact .inl #[nm,p,e,λz=>absurd z y,λ_=>q];exact .inr<|.inr #[e,q]
 rcases C with⟨nm,p,rfl,I,G⟩ | ⟨nm,b,g,rfl,l,q⟩ | ⟨rfl,q⟩
 refine eg_ true (ρ':=[vT<|.lst `t,vT (Ch.drop nm).x]) (fun Q q => ?_) (fun _ => ?_) (fun i=>by cases i);exact#[_,_,_,_,rfl,q];exact#[fs,nm,rfl,by lia,p,I,G];refine kZ (ρ':=[vT<|.lst `t,vT (Ch.add nm b g).x]) (fun Q q => ?_) ?_;exact#[_,_,_,_,rfl,q];refine eg_ true (ρ':=[vT<|.lst `t,vT (Ch.add nm b g).x]) (fun Q q => ?_) (fun _ => ?_) (fun i=>by cases i);exact#[_,_,_,_,rfl,q];refine #[fs,nm,b,g,rfl,by lia,l,fun k => ?_];refine#[by show 1<=1000000;decide,by show(fs.map Fe.x).length+1<=1000000;rw[aA];lia,?_];have:=q k;rw[show(Ch.go fs k<|.add nm b g).map Fe.x=fs.map Fe.x++[Fe.x #[nm,k,b,g,none]] by show(fs++[_]).map Fe.x=_;rw[aY];rfl]at this;exact this;refine kZ (ρ':=[vT<|.lst `t,vT<|.tup [.str "gone"]]) (fun Q q => ?_) ?_;exact#[_,_,_,_,rfl,q];refine kZ (ρ':=[vT<|.lst `t,vT<|.tup [.str "gone"]]) (fun Q q => ?_) q;exact#[_,_,_,_,rfl,q]
end
def w9{n}{gx}{tc}{te}{Q}{cs}(p:Dx->Bool){l}(h:∀a∈l,∀(b:S1) (P:S1->T1->Prop),P (b++(if p a=true then [a]else [])) cs->tE n gx tc te P a cs b)(q:Q (l.filter p) cs):cC n gx tc te Q l cs []:=by have:=cb_ (Q:=Q) (λd:Dx=>d) (λd:Dx=>d) p (as:=l) h (by rw[List.map_id'];exact q);rw[List.map_id']at this;exact this
def gos:S6->Nat->U3->S6
 |fs,_,[]=>fs
 |fs,k,c::r=>gos (c.go fs k) (c.ct k) r
def cts:Nat->U3->Nat
 |k,[]=>k
 |k,c::r=>cts (c.ct k) r
def chs:S6->Nat->U3->Prop
 |_,_,[]=>True
 |fs,k,c::r=>c.Ok fs/\chs (c.go fs k) (c.ct k) r
def iv_:∀{a b} {fs} {k},gos fs k (a++b)=gos (gos fs k a) (cts k a) b
 | [],b,fs,k=>rfl
 |c::r,b,fs,k=>iv_ (a:=r)
def yB:∀{a b} {k},cts k (a++b)=cts (cts k a) b
 | [],b,k=>rfl
 |c::r,b,k=>yB (a:=r)
def oQ:∀{a b} {fs} {k},chs fs k (a++b)↔chs fs k a/\chs (gos fs k a) (cts k a) b
 | [],b,fs,k=>#[λh=>#[trivial,h],λh=>h.2]
 |c::r,b,fs,k=>by show(c.Ok fs/\chs (c.go fs k) (c.ct k) (r++b))↔(_/\_)/\_;rw[oQ (a:=r),and_assoc];rfl
def bAr(fs:S6)(k:Nat)(c:Ch):(c.go fs k).length<=fs.length+1:=by
 cases c with
 |drop nm=>exact nzL (dB _ _) (dF fs.length 1)
 |add nm a b=>show(fs++[_]).length<=_;rw[aI];exact aO _
def bLi(fs:S6)(k a:Nat)(c:Ch):(c.go fs k).map Fe.x=(c.go fs a).map Fe.x:=by
 cases c with
 |drop nm=>rfl
 |add nm b e=>show(fs++[_]).map Fe.x=(fs++[_]).map Fe.x;rw[aY,aY];rfl
def hb_:∀{cs} {fs} {k},(gos fs k cs).length<=fs.length+cs.length
 | [],fs,k=>aO _
 |c::r,fs,k=>by have a:=hb_ (cs:=r) (fs:=c.go fs k) (k:=c.ct k);have b:=bAr fs k c;show(gos (c.go fs k) (c.ct k) r).length<=_;rw[aK];lia
def jB(cs:U3):Nat:=(cs.filter Ch.isAdd).length
def dA:Dx->Bool
 | .tup (.str z::l)=>decide ((l.length:Int)+1=4)&&decide (z = "add")
 |_=>false
def bLv(c:Ch):dA c.x=c.isAdd:=by cases c<;>rfl
def xY:∀cs:U3,((cs.map Ch.x).filter dA).length=jB cs
 | []=>rfl
 |c::r=>by have:=xY r;unfold jB at this ⊢;rw[bQ,gN,gN,bLv];cases c.isAdd;exact this;show _ + 1=_ + 1;rw[this]
def bBh(h:aGp fs d):dA d=false:=by
 rcases h with⟨nm,rfl,_⟩ | rfl
 rfl;rfl
def Fm1(d:Dx):Prop:=∃(z:Str) (l:S1),d=.tup (.str z::l)
def bAx(c:Ch):Fm1 c.x:=by cases c<;>exact#[_,_,rfl]
def bAy(h:aGp fs d):Fm1 d:=by
 rcases h with⟨nm,rfl,_⟩ | rfl
 exact#[_,_,rfl];exact#[_,_,rfl]
def gFB(C:Addr):GE:=λb Q Ex=>∃(fs:S6) (l:S1),b=[.lst `t,.lst l]/\fs.length<=100/\l.length<=100/\(
 (∃k a,l=a.map Ch.x/\chs fs k a/\jB a<=5/\∀s:Sv,s.d=.lst ((gos fs k a).map Fe.x)->Q s) \/
 (∃k a d,l=a.map Ch.x++[d]/\chs fs k a/\jB a<=5/\aGp (gos fs k a) d/\Ex (.ref C)) \/
 (∃a,l=a.map Ch.x/\5<jB a/\Ex (.ref C)))
def fdT(f:Str×Kd×Vd):Dx:=.tup [.str f.1,f.2.1.x,f.2.1.vx f.2.2]
def gCB:GE:=λb Q _=>∃a:List<|Str×Kd×Vd,b=[.lst<|a.map fdT]/\a.length<=100/\Q (.ol<|(a.map λf=>Ch.add f.1 f.2.1 f.2.2).map Ch.x)
section
variable{f:Addr}{n j:Nat}{a:Addr}
def aZf(F:Fun K "changes_to_begin" "changes_to_begin" ee_ f fd)(B:Blt mg)(i:PyProof.Rows.OwnCls "NoMake" a veM "ValueError.__new__" mg base):FnOk P w K mg base (CXe P w) 1 f fd ["fields"] (spE gCB):=by
 refine rC F ce_ (λo Q Ex h=>by obtain⟨_,rfl,_⟩:=h;rfl) `b λt A g s H E Ex v=>?_;refine#[_,(cE (iC (lJ<|jD<|lE .list `e) (cP<|cy_ i rfl rfl) iH)
  (cE (iC (lJ<|jD<|bw_ (er_ K rfl) mQ rfl B.all mU<|eP<|mS ce_ [] (lA `e) lO (uQ (lE .tuple `e)<|k7<|vF (nI `e) cQ)) (cP<|cy_ i rfl rfl) iH)
  (cP<|dT<|mS ce_ [] (lA `e) lO (aAk K (kG<|eP jR) `e)))),λo Q h=>?_]
 obtain⟨c,rfl,u,q⟩:=h;refine kZ (ρ':=[vT<|.lst<|c.map fdT]) (λQ q=>q) ?_;refine kZ (ρ':=[vT<|.lst<|c.map fdT]) (λQ q=>?_) ?_;refine #[show (c.map fdT).length≤1000000 by rw [aA]; lia,show cC _ _ _ _ _ (c.map fdT) _ _ from ?_];refine mY fdT (λ_=>.bl true) (λe r m P p=>p) ?_;exact gc_ (l:=c) (Q:=λs=>match s with | .tr (.bl b)=>Q (!b) [.v<|.tr<|.lst<|c.map fdT] | _=>False) q;refine #[show (c.map fdT).length≤1000000 by rw [aA]; lia,show cC _ _ _ _ _ (c.map fdT) _ _ from ?_];refine mY fdT (λf=>(Ch.add f.1 f.2.1 f.2.2).x) (λe r m P p=>#[by show 1<=1000000;decide,(λz=>by cases z),by show 1+3<=1000000;decide,p]) ?_;rw[bL]at q;exact q
def aZa(F:Fun K "fields_behind" "fields_behind" fm_ f fd)(Ib:Cal P w K mg base 1 "has_form" AH<|spX gHF)(J:nB P w K mg base j "fields_behind_one" AJ<|spE<|gFO a)(hj:1<=j)(B:Blt mg)(Z:∃t,mg "MOST_ADDED" = some (.int 5 t))(T:PyProof.Rows.OwnCls "NoMake" a veM "ValueError.__new__" mg base):FnOk P w K mg base (CXe P w) (j+1) f fd BL<|spE<|gFB a:=by
 refine rC F fE (λM Q Ex h=>by obtain⟨_,_,rfl,_⟩:=h;rfl) `b λAi A R s H E Ex hr=>?_;refine#[_,(cE (iC (lJ<|jD<|lE .list `h) (cP<|cy_ T rfl<|by rfl) iH)
  (cE (iC (yD aBt aBq (nI<|mS fE [] (lA `h) (cj_<|jD<|dS Ib<|hU `e (cO jR cQ)) `e) (fd_ (by rfl) Z)<|dP _) (cP<|cy_ T rfl<|by rfl) iH)
  (cE (fS fE 2 `e)
  (cE (k9 PassesOwn.leaving rfl (lA `h) (kI (i:=3) fE.nd rfl `q) (i_ (n:=99) (i:=3) `b)<|cP<|fS fE 2<|dn_ J (hr.mono `a)<|cO (xv 2)<|xv 3)
  (cP<|dT<|dt_<|pv 2))))),λM Q h=>?_]
 obtain⟨fs,l,rfl,hl,Mn,h⟩:=h;have V:∀d∈l,Fm1 d:=by
  intro d m;rcases h with⟨k,cs,rfl,_⟩ | ⟨k,cs,C,rfl,_,_,g,_⟩ | ⟨cs,rfl,_⟩
  obtain ⟨c,_,rfl⟩:=aZ.mp m;exact bAx c;rcases aX.mp m with m | m
  obtain ⟨c,_,rfl⟩:=aZ.mp m;exact bAx c;rw [aF.mp m];exact bAy g;obtain ⟨c,_,rfl⟩:=aZ.mp m;exact bAx c
 refine kZ (ρ':=[vT<|.lst `t,vT<|.lst l,.un,.un]) (λQ q=>q) ?_;refine eg_ (decide (5<(l.filter dA).length)) (ρ':=[vT<|.lst `t,vT<|.lst l,.un,.un]) (λQ q=>?_) (λg=>?_)<|λg=>?_;refine #[show l.length≤1000000 by lia,show cC _ _ _ _ _ l _ _ from ?_];refine w9 dA (λd m Ae P p=>?_) ?_;obtain ⟨z,r,rfl⟩:=V d m;refine#[z,r,_,_,rfl,?_];show if dA (.tup (.str z::r))=true then _ else _
 by_cases e:dA (.tup (.str z::r))=true;rw [if_pos e] at p ⊢;exact p;rw [if_neg e] at p ⊢;rw[aP]at p;exact p;show Q (decide ((5:Int) < ((l.filter dA).length:Int))) _;rw[show decide ((5:Int)<((l.filter dA).length:Int))=decide (5<(l.filter dA).length) by rw[decide_eq_decide];lia];exact q;have g:=of_decide_eq_true g;rcases h with⟨k,cs,rfl,_,I,_⟩ | ⟨k,cs,C,rfl,_,I,v,_⟩ | ⟨cs,rfl,I,q⟩
 rw [xY] at g;lia;rw [cT,aI,xY,gN,bBh v] at g;simp only[gS,if_false,List.filter_nil,bE]at g;lia;exact q;have g:=of_decide_eq_false g;obtain⟨k,cs,ex,rfl,G,U⟩:∃k cs ex,l=cs.map Ch.x++ex/\chs fs k cs/\((ex=[]/\∀s:Sv,s.d=.lst ((gos fs k cs).map Fe.x)->Q s)\/∃d,ex=[d]/\aGp (gos fs k cs) d/\Ex `i):=by
  rcases h with⟨k,cs,rfl,G,_,q⟩ | ⟨k,cs,C,rfl,G,_,v,q⟩ | ⟨cs,rfl,I,q⟩
  exact#[k,cs,[],by rw[aP],G,.inl #[rfl,q]];exact#[k,cs,[C],rfl,G,.inr #[C,rfl,v,q]];rw [xY] at g;exact absurd I g
 generalize W:cs.map Ch.x++ex=L at *;refine j9<|jh_ rfl ?_;show cX (lC _ _ _) _ [vT<|.lst `t,vT<|.lst L,vT<|.lst `t,.un] _;have x:cs.length<=100:=by rw[<-W,aI,aA]at Mn;lia
 show iS _ _ _ L _;refine rB (λrest S=>∃(b u:U3) (s:Sv) (y:Sl),cs=b++u/\rest=u.map Ch.x++ex/\s.d=.lst ((gos fs k b).map Fe.x)/\S=[vT<|.lst `t,vT<|.lst L,.v s,y]) (λS h=>?_) (λd M S Kn h hk=>?_) #[[],cs,_,.un,rfl,W.symm,rfl,rfl];obtain ⟨b,u,s,y,o,D,O,rfl⟩:=h;obtain⟨e4,rfl⟩:=List.append_eq_nil_iff.mp D.symm;have e5:u=[]:=eY.mp e4;subst e5;rw[aP]at o;subst o;rcases U with⟨_,q⟩ | ⟨d,e,_⟩
 exact q s O;cases e;obtain ⟨b,u,s,y,o,D,O,rfl⟩:=h;have G6:=hb_ (cs:=b) (fs:=fs) (k:=k);have F9:b.length<=100:=by rw[o,aI]at x;lia
 refine#[gos fs k b,d,by show [s.d,d]=_;rw[O],by lia,?_];cases u with
 |nil =>
  rw[aP]at o;subst o;rcases U with⟨rfl,_⟩ | ⟨C,rfl,v,q⟩
  cases D;cases D;exact .inr #[v,q]
 |cons c r => have N:d::M=c.x::(r.map Ch.x++ex):=D;cases N;have Mt:=(oQ.mp<|o ▸ G).2;refine .inl #[c,rfl,Mt.1,λY=>hk _ #[b++[c],r,.ol<|(c.go (gos fs k b) Y).map Fe.x,_,by rw[o,bN];rfl,rfl,?_,rfl]];show Dx.lst _=_;rw[iv_,bLi _ Y<|cts k b];rfl
end
def Dj(s t:Int×Int):Prop:=s.2<=t.1\/t.2<=s.1
abbrev lV(rs ly:S5):S5:=(rs.zip<|dpP rs ly).map aIo
def o8(h:(lV rs ly)[i]? = some s):i<rs.length/\s=(pk (dpP rs ly) i,pk (dpP rs ly) i+(rk rs i).1):=by
 rw[bK,dO]at h;obtain⟨x,e,rfl⟩:=h;obtain⟨a,b⟩:=cY.mp e;have c:pk (dpP rs ly) i=x.2:=by unfold pk;rw[aU,b];rfl
 refine#[(aL.mp a).1,?_];rw[tH a,c];rfl
def vR(h:s∈lV rs ly):∃i,i<rs.length/\s=(pk (dpP rs ly) i,pk (dpP rs ly) i+(rk rs i).1):=by obtain⟨i,a⟩:=eQ h;exact#[i,o8 a]
def nX(rs ly:S5):(lV rs ly).length<=rs.length:=by rw[aA,dD];exact Nat.min_le_left rs.length (dpP rs ly).length
def bBd(p:Rs2 rs)(c:LyOk m ly):(ly++lV rs ly).Pairwise Dj:=by
 have b:=lh_ (ly:=ly) p.1 c.1;refine List.pairwise_append.mpr #[c.1.2.imp λh=>.inl h,?_,λs r t u=>?_];refine List.pairwise_iff_getElem.mpr fun i j a q e => ?_;obtain⟨f,g⟩:=o8<|aG a;obtain⟨l,o⟩:=o8<|aG q;rw[g,o];exact b.dis i j f l (bF e) (eF i)<|eF j;obtain ⟨i,a,rfl⟩:=vR u;rcases(b.ok i a<|eF i).2.2.1 s r with h | h
 exact .inr h;exact .inl h
def aQu(e:Rs2 rs)(c:LyOk m ly)(q:m<=15)(u:ly.length<=45)(g:us.Perm<|ly++lV rs ly)(o:us.Pairwise λs t=>s.1<=t.1):LyOk (m+1) us:=by
 have l:=lh_ (ly:=ly) e.1 c.1;have j:∀s∈us,0<=s.1/\s.1<s.2:=λs h=>by
  rcases aX.mp (g.mem_iff.mp h)with h | h
  exact c.1.1 s h;obtain ⟨i,f,rfl⟩:=vR h;have a:=(l.ok i f<|eF i).1;have b:=(e.1.2 i f).1;exact#[a,by show _<_+_;lia]
 have p:=(g.pairwise_iff λ{x y} h=>Or.symm h).mpr<|bBd e c;refine#[#[j,?_],?_,Nat.succ_le_succ q,λs h=>?_];refine List.Pairwise.imp_of_mem ?_<|List.Pairwise.and o p;intro s t o r ⟨a,b⟩;have:=j t r;rcases b with b | b
 exact b;lia;rw [g.length_eq,aI];have:=nX rs ly;have:=e.1.1;lia;have v:(31:Int) * (2 ^ 150 + 8)≤uB:=by decide
 rcases aX.mp (g.mem_iff.mp h)with h | h
 have:=c.2.2.2 s h;lia;obtain ⟨i,f,rfl⟩:=vR h;have a:=(l.ok i f<|eF i).2.2.2.2;have b:=(aHz (ly:=ly) e c<|lg_ rs).2.1;lia
def aJq(c:Rs2 rs)(g:LyOk m ly)(e:i<rs.length):(∀s∈ly,s.1≠pk (dpP rs ly) i)/\∀j,j<rs.length->i≠j->pk (dpP rs ly) i≠pk (dpP rs ly) j:=by have f:=lh_ (ly:=ly) c.1 g.1;have p:=(c.1.2 i e).1;refine#[λs l z=>?_,λj h o z=>?_];have a:=(f.ok i e<|eF i).2.2.1 s l;have b:=g.1.1 s l;lia;have a:=f.dis i j e h o (eF i)<|eF j;have q:=(c.1.2 j h).1;lia
mutual
def Kd.Fit.rm_pos:∀(k:Kd),k.Fit->1<=k.rm.1/\1<=k.rm.2/\k.rm.2<=8
 | .num w m,h=>by obtain⟨a,b,c,d⟩:=Kd.bd _<|Kd.Fit.ok _ h;exact#[h.1,c,d]
 | .row k n,h=>by obtain⟨a,b,c,d⟩:=Kd.bd _<|Kd.Fit.ok _ h;obtain⟨o,p,q⟩:=Kd.Fit.rm_pos k h.1;obtain⟨e,f⟩:=rW (n:=k.rm.1) (m:=k.rm.2) `a;refine#[?_,c,d];show 1<=n*up k.rm.1 k.rm.2;have g:=h.2.1;have:1*1<=n*up k.rm.1 k.rm.2:=Int.mul_le_mul g `a `b `a;lia
 | .rcd fs,h=>by obtain⟨a,b,c,d⟩:=Kd.bd _<|Kd.Fit.ok _ h;refine#[?_,c,d];have l:=aRw fs h.1 (by have:=h.2.1;intro z;rw[z]at this;simp at this);have i:=tS<|bdF fs<|oM fs h.1;obtain⟨e,f⟩:=rW (n:=dI 0<|rmF fs) (m:=fK 1 ((rmF fs).map (·.2))) `a;show 1<=up (dI 0<|rmF fs) (fK 1 ((rmF fs).map (·.2)));lia
 | .cho ks,h=>by obtain⟨a,b,c,d⟩:=Kd.bd _<|Kd.Fit.ok _ h;refine#[?_,c,d];have i:=tS<|bdK ks (Kd.Fit.ok _ h).1;obtain⟨r,s⟩:=rW (n:=1) (m:=fK 1 ((rmK ks).map (·.2))) `a;have j:0<=fK 0 ((rmK ks).map (·.1)):=mO _;obtain⟨e,f⟩:=rW (n:=up 1 (fK 1 ((rmK ks).map (·.2)))+fK 0 ((rmK ks).map (·.1))) (m:=fK 1 ((rmK ks).map (·.2))) `a;show 1<=up (up 1 (fK 1 ((rmK ks).map (·.2)))+fK 0 ((rmK ks).map (·.1))) (fK 1 ((rmK ks).map (·.2)));lia
def aRw:∀(fs:T9),lM fs->fs≠[]->1<=dI 0 (rmF fs)
 | [],_,h=>absurd rfl h
 |f::r,h,_=>by obtain⟨c,g,i⟩:=Kd.Fit.rm_pos f.2 h.1.2;obtain⟨j,l⟩:=rW (n:=0) (m:=f.2.rm.2) `a;have a:=bdF r<|oM r h.2;have:=iu_ (e:=up 0 f.2.rm.2+f.2.rm.1) (rs:=rmF r) λx b=>#[(a x b).1,by have:=(a x b).2.2.1;lia];show 1<=dI (up 0 f.2.rm.2+f.2.rm.1) (rmF r);lia
end
def aDb:∀{ks} {i:Nat} {k},jJ ks->ks[i]? = some k->k.Fit
 | [],_,_,_,e=>by simp at e
 |k'::r,0,k,h,e=>by simp at e;subst e;exact h.1
 |k'::r,i+1,k,h,e=>aDb (i:=i) h.2<|by simpa using e
def aIx:∀{ks} {i:Nat} {r},(rmK ks)[i]? = some r->∃k,ks[i]? = some k/\r=k.rm
 | [],_,_,e=>by simp[rmK]at e
 |k'::ks,0,r,e=>by have c:=e;cases c;exact#[k',rfl,rfl]
 |k'::ks,i+1,r,e=>by have c:(rmK ks)[i]? = some r:=e;obtain⟨k,a,b⟩:=aIx c;exact#[k,by simpa using a,b]
def em_(ks:T2):(rmK ks).length=ks.length:=by rw[<-aA (f:=prT),<-aBf,aA]
def aIw(h:jJ ks)(i:ks.length<=5)(g:dW ks<=3):Rs2<|rmK ks:=by have f:=em_ ks;refine#[#[le_of_eq_of_le f i,λk c=>?_],λk c=>?_];have e:=aG c;obtain⟨j,a,b⟩:=aIx e;rw[tH e,b];exact Kd.Fit.rm_pos j<|aDb h a;have e:=aG c;rw[tH e];exact(j3 (hd_ ks h) g `b _ (bA e)).2.1
def kpF(fs:S6):S6:=fs.filter (·.pl.isSome)
def nwF(fs:S6):S6:=fs.filter (·.pl.isNone)
def Fe.put(e:Fe)(p:Int):Fe:={ e with pl:=some p }
abbrev rsF(fs:S6):S5:=rmK ((nwF fs).map (·.kd))
def dE(fs:S6)(ly:S5):S6:=kpF fs++((nwF fs).zip<|dpP (rsF fs) ly).map λx=>x.1.put x.2
def mkT(fs:S6)(r:Int):Dx:=.tup [.lst `t,.int r]
def hsL(b:Addr)(mk:S1)(ly:S5)(a:Int):FsO:=[("makes",.ol b<|mk.map .tr),("lying",.tr<|.lst<|ly.map prT),("multiple",.tr<|.int a)]
def aWc(b:Addr)(mk:S1)(ly:S5)(c:Int)(a:S5):dJ "lying" (.tr<|.lst<|a.map prT) (hsL b mk ly c)=hsL b mk a c:=by show(if("makes" : Str) = "lying" then _ else(_::if("lying" : Str) = "lying" then _ else _))=_;rfl
def aWa(b:Addr)(mk:S1)(ly:S5)(c a:Int):dJ "multiple" (.tr<|.int a) (hsL b mk ly c)=hsL b mk ly a:=by show(if("makes" : Str) = "multiple" then _ else(_::if("lying" : Str) = "multiple" then _ else(_::if("multiple" : Str) = "multiple" then _ else _)))=_;rfl
def aWb(b:Addr)(mk a:S1)(ly:S5)(c:Int):dJ "makes" (.ol b<|a.map .tr) (hsL b mk ly c)=hsL b a ly c:=by show(if("makes" : Str) = "makes" then _ else _)=_;rfl
def gBM(i:Addr):GO:=λC l j Q=>C=i/\∃(b:Addr) (mk:S1) (g:S5) (h:Int) (m k:Nat) (fs:S6) (a:U3),l=hsL b mk g h/\j=[.lst `t,.lst<|a.map Ch.x]/\fs.length<=100/\a.length<=100/\mk.length<=1000/\(∀e∈gos fs k a,e.Ok)/\chs fs k a/\jB a<=5/\(nwF<|gos fs k a).length<=5/\LyOk m g/\g.length<=45/\m<=15/\1<=h/\h<=8 /\
 ∀(c:S5) (r f:Int),c.Perm (g++lV (rsF<|gos fs k a) g)->LyOk (m+1) c->1<=f->f<=8->Q (.tr .non) (hsL b (mk++[mkT (dE (gos fs k a) g) r]) c f)
def aMg{i}{s}{l}{ρ}{Q}(a:ρ[i]? = some (.v s))(b:s.d=.lst l)(q:Q l<|ρ.set i<|vT<|.lst l):xiL (cA i) ρ Q:=by refine jh_ a ?_;rw[b];exact q
def feK:∀{l:S6},(∀e∈l,e.Ok)->jJ (l.map (·.kd))/\dW (l.map (·.kd))<=3
 | [],_=>#[trivial,bM _]
 |e::r,h=>by obtain⟨a,b⟩:=feK λx f=>h x<|aC _ f;have c:=h e aB;exact#[#[c.fit,a],Nat.max_le.mpr #[c.deep,b]]
abbrev bmH(C a dx b:Addr)(mk:S1)(ly:S5)(c:Int)(fs:S6)(cs:U3)(r:T1):En:=.bo (.oi C a dx<|hsL b mk ly c)::vT (.lst `t)::vT (.lst<|cs.map Ch.x)::r
def qZ{d}{l}{Q}(q:Q<|.tr d):ixX (.tup (d::l)) (.int 0) Q:=by show(match atI (d::l) 0 with | some d=>Q (.tr d) | none=>False);rw[show atI (d::l) 0=some d from k_ (j:=0) rfl];exact q
def qL(s:Int×Int):S7:=[s.1,s.2]
def aBp(l:S5):(l.map qL).map zA=l.map prT:=by rw[bL];rfl
def aEj(g:us.Perm<|l.map qL)(m:us.Pairwise λx y=>HT.lexLt y x=false):∃b:S5,us=b.map qL/\b.Perm l/\b.Pairwise λs t=>s.1<=t.1:=by
 let a:S7->Int×Int:=λt=>(t.getD 0 0,t.getD 1 0)
 have e:∀u∈us,qL (a u)=u:=λu f=>by obtain⟨s,_,rfl⟩:=aZ.mp<|g.mem_iff.mp f;rfl
 have i:us=(us.map a).map qL:=by
  rw[bL]
  conv=>lhs;rw[<-List.map_id us]
  exact iN λu f=>(e u f).symm
 refine#[us.map a,i,?_,?_];have:=g.map a;rw[bL]at this;have j:l.map (a ∘ qL)=l:=by
  conv=>rhs;rw[<-List.map_id l]
  exact iN λ_ _=>rfl
 rw[j]at this;exact this;refine List.pairwise_map.mpr<|List.Pairwise.imp_of_mem ?_ m;intro x y o p h;rw[<-e x o,<-e y p]at h;have:HT.lexLt [(a y).1,(a y).2] [(a x).1,(a x).2]=false:=h;rw[HT.lexLt_cons]at this;by_cases c:(a y).1=(a x).1;exact Int.le_of_eq<|id<|Eq.symm c;rw [if_neg c] at this;have:=of_decide_eq_false this;exact Int.not_lt.mp this
section
variable{f:Addr}{n j:Nat}{c C_House:Addr}
def aZh(F:Fun K "begin_make" "House.begin_make" db_ f fd)(L:Cls K C_House)(g:NoAttr K C_House "lying")(u:NoAttr K C_House "multiple")(D:NoAttr K C_House "makes")(Qg:nB P w K mg base j "fields_behind" BL<|spE<|gFB c)(Jj:Cal P w K mg base j "rooms_of" AN<|spX<|gRS 3)(Y:Cal P w K mg base j "placed_closely" ["kinds","lying"] (spX<|gPC 3))(P4:Cal P w K mg base 1 "stretches_at" BE<|spX gSA)(L5:Cal P w K mg base 1 "greatest_multiple" BB<|spX gGM)(Qd:Cal P w K mg base 1 "greatest_end" BP<|spX gGE)(Fk:Cal P w K mg base 1 "rounded_up" AB<|spX gRU)(hj:1<=j)(B:Blt mg):FnOk P w K mg base CX0 (j+1) f fd AG<|spO<|gBM C_House:=by
 refine bAv F ba_ (λC l ds Q h=>by obtain⟨_,_,_,_,_,_,_,_,_,_,rfl,_⟩:=h;rfl) `b λAi A a2 s H E M=>?_;refine#[_,(cE (fS ba_ 3<|dn_ Qg (M.mono `a)<|cO `h (xv 2))
  (cE (sT ba_ 4 [] (lA<|xv 3) (cj_<|yD aQg aQd `k mJ (dP _)) `e)
  (cE (sT ba_ 5 [] (lA<|xv 3) (cj_<|yD aXg aWy `k mJ (dP _)) `e)
  (cE (sT ba_ 6 [] (lA<|xv 5) lO `k)
  (cE (fS ba_ 7<|dS Jj<|eP<|xv 6)
  (cE (fS ba_ 8<|dL K<|dS Y<|cO (xv 6)<|oY (C:=C_House) L g<|pv 0)
  (cE (fS ba_ 9<|lN (xv 4)<|aAj ba_ [] (m5 B.zip<|cO (xv 5)<|xv 8) lO (aAk K (aDw K `e aAg (if_ cQ))<|kG<|eP `h))
  (cE (vD (C:=C_House) L g (pv 0)<|bw_ yF aNc (by rfl) B.sorted aGl<|eP<|lN (oY (C:=C_House) L g<|pv 0)<|dS P4<|cO (xv 7)<|xv 8)
  (cE (vD (C:=C_House) L u (pv 0)<|bw_ (aGh<|by rfl) aSi (by rfl) B.max yI<|cO (oY (C:=C_House) L u<|pv 0)<|dS L5<|eP<|xv 7)
  (cP (lG λF=>PS.weak (io_ (aKe PySem.F.plainAttrs_list PySem.F.slot_list_append PySem.F.type_list_append tU (qI (pv 0) rfl) (lK (XE.at (Ex:=dQ) F (kG<|cO (xv 9)<|dS Fk<|cO (dS Qd<|eP<|oY (C:=C_House) L g<|pv 0)<|oY (C:=C_House) L u<|pv 0)) i4)))<|aPd L D))))))))))),λC a I l ds Q h=>?_]
 obtain⟨rfl,b,mk,ly,J,m,k,fs,cs,rfl,rfl,K8,D5,Oi,V,Ds,h5,Qz,Z,Mn,hm,a6,a7,q⟩:=h;refine#[fs,cs.map Ch.x,rfl,K8,by rw[aA];exact D5,.inl #[k,cs,rfl,Ds,h5,λsv a0=>?_]];have Pt:(gos fs k cs).length<=200:=by have:=hb_ (cs:=cs) (fs:=fs) (k:=k);lia
 generalize hG:gos fs k cs=G at *;have a4:(nwF G).length<=G.length:=dB _ _;have Im:(kpF G).length<=G.length:=dB _ _;have Ja:∀e∈nwF G,e.Ok:=λe W=>V e (cU.mp W).1;obtain⟨O,R⟩:=feK Ja;have Jy:((nwF G).map (·.kd)).length<=5:=by rw[aA];exact Qz
 have d:Rs2<|rsF G:=aIw O Jy R;have a5:(rsF G).length=(nwF G).length:=by rw[em_,aA]
 dsimp only;change cX (iQ 4 _) _ (bmH C a I b mk ly J fs cs [.v sv,.un,.un,.un,.un,.un,.un]) _;refine j9 ?_;refine aMg (i:=3) rfl a0 ?_;refine#[by rw[aA];lia,?_];refine cb_ Fe.x Fe.x (·.pl.isSome) (λe W N P p=>?_) ?_;obtain ⟨nm,ix,kd,vd,pl⟩:=e;cases pl with
 |none => have T:P (N++[]) _:=p;rw[aP]at T;exact T
 |some z=>exact p
 change cX (iQ 5 _) _ (bmH C a I b mk ly J fs cs [vT<|.lst<|G.map Fe.x,.v<|.ol<|(kpF G).map Fe.x,.un,.un,.un,.un,.un]) _;refine j9 ?_;refine aMg (i:=3) rfl rfl ?_;refine#[by rw[aA];lia,?_];refine cb_ Fe.x Fe.x (·.pl.isNone) (λe W N P p=>?_) ?_;obtain ⟨nm,ix,kd,vd,pl⟩:=e;cases pl with
 |none=>exact p
 |some z => have T:P (N++[]) _:=p;rw[aP]at T;exact T
 change cX (iQ 6 _) _ (bmH C a I b mk ly J fs cs [vT<|.lst<|G.map Fe.x,.v<|.ol<|(kpF G).map Fe.x,.v<|.ol<|(nwF G).map Fe.x,.un,.un,.un,.un]) _;refine j9 ?_;refine aMg (i:=5) (l:=(nwF G).map Fe.x) rfl rfl ?_;refine#[by rw[aA];lia,?_];refine mY Fe.x (λe=>e.kd.x) (λe W N P p=>p) ?_;rw[bZ,show(nwF G).map (λe=>e.kd.x)=xK ((nwF G).map (·.kd)) by rw[j_,bL];rfl];change cX (iQ 7 _) _ (bmH C a I b mk ly J fs cs [vT<|.lst<|G.map Fe.x,.v<|.ol<|(kpF G).map Fe.x,vT<|.lst<|(nwF G).map Fe.x,.v (.ol (xK ((nwF G).map (·.kd)))),.un,.un,.un]) _;refine#[(nwF G).map (·.kd),rfl,hd_ _ O,R,by lia,by decide,?_];refine#[rfl,m,(nwF G).map (·.kd),ly,rfl,hd_ _ O,R,by decide,d,Z,λe0=>?_];dsimp only;refine hw_ ?_;refine qZ ?_;change cX (iQ 9 _) _ (bmH C a I b mk ly J fs cs [vT<|.lst<|G.map Fe.x,.v<|.ol<|(kpF G).map Fe.x,vT<|.lst<|(nwF G).map Fe.x,vT (.lst (xK ((nwF G).map (·.kd)))),.v<|.ol<|(rsF G).map prT,vT<|.lst<|(dpP (rsF G) ly).map Dx.int,.un]) _;have F9:(dpP (rsF G) ly).length=(rsF G).length:=(lh_ (ly:=ly) d.1 Z.1).len;refine j9<|aMe<|jh_ rfl ?_;refine#[show(jM ((nwF G).map Fe.x)<|(dpP (rsF G) ly).map Dx.int).length<=1000000 by rw[ea_,aA,dD];lia,show cC _ _ _ _ _ (jM ((nwF G).map Fe.x)<|(dpP (rsF G) ly).map Dx.int) _ _ from ?_];rw[ea_];refine mY _ (λp:Fe×Int=>(p.1.put p.2).x) (λp hp N P pp=>#[by show ¬(HT.sIx 4 0 none=0/\HT.sIx 4 4 (some 3)=4);decide,by show 1<=1000000;decide,(λz=>by cases z),by show 3+1<=1000000;decide,pp]) ?_;refine#[by rw[bZ,aA,aA,dD];lia,?_];rw[bZ,show(kpF G).map Fe.x++((nwF G).zip<|dpP (rsF G) ly).map (λp:Fe×Int=>(p.1.put p.2).x)=(dE G ly).map Fe.x by unfold dE;rw[aY,bL];rfl];change cX (aAm C "lying" 0 _) _ (bmH C a I b mk ly J fs cs [vT<|.lst<|G.map Fe.x,vT<|.lst<|(kpF G).map Fe.x,vT<|.lst<|(nwF G).map Fe.x,vT (.lst (xK ((nwF G).map (·.kd)))),.v<|.ol<|(rsF G).map prT,vT<|.lst<|(dpP (rsF G) ly).map Dx.int,.v<|.ol<|(dE G ly).map Fe.x]) _;refine#[rfl,rsF G,dpP (rsF G) ly,rfl,by lia,?_];have G4:=nX (rsF G) ly;refine#[by rw[aA,aA (as:=lV (rsF G) ly)];lia,?_];refine#[(ly++lV (rsF G) ly).map qL,?_,λt ht=>?_,by rw[aA,aI];lia,λus hp hs=>?_];rw [aBp,aY];rfl;obtain ⟨z,_,rfl⟩:=aZ.mp ht;exact λz=>by cases z
 obtain⟨y,rfl,Db,Ft⟩:=aEj hp hs;have U:=aQu d Z hm Mn Db Ft;refine#[rfl,by show 3<1000;decide,λo x=>?_,?_];have:some (Ow.tr<|.lst<|ly.map prT)=some o:=x;cases this;exact`r;have ep:=aWc b mk ly J y;rw[<-aBp y]at ep;have S:∀(X:FsO) (v:Int),X=hsL b mk y v->1<=v->v<=8->(aHx C "makes" 0<|nJ<|bI (cA 9)<|bI (dY gRU<|bI (dY gGE<|bI (m9 C "lying" 0) cG)<|bI (m9 C "multiple" 0) cG) cG) (.bo (.oi C a I X)::vT (.lst `t)::vT (.lst<|cs.map Ch.x)::[vT<|.lst<|G.map Fe.x,vT<|.lst<|(kpF G).map Fe.x,vT<|.lst<|(nwF G).map Fe.x,vT (.lst (xK ((nwF G).map (·.kd)))),vT<|.lst<|(rsF G).map prT,vT<|.lst<|(dpP (rsF G) ly).map Dx.int,.v<|.ol<|(dE G ly).map Fe.x]) (aEo C a I Q):=by
  rintro X v rfl v1 v8;have a3:y.length<=50:=U.2.1;refine#[b,mk,#[a,I,_,_,rfl,rfl],?_];refine#[rfl,y,rfl,by lia,λs hs=>(U.nn hs).2.1,?_];have Og:fK 0 (y.map (·.2))<=2^170:=is_ `b λz hz=>by obtain⟨r,M,rfl⟩:=aZ.mp hz;have:=(U.nn M).2.2;lia
  refine#[rfl,fK 0 (y.map (·.2)),v,rfl,mO _,by lia,by lia,by lia,?_];refine#[by show 2<=1000000;decide,a,I,_,_,mk,rfl,rfl,by lia,?_];show C=C/\a=a/\I=I/\Q (.tr .non) (dJ "makes" (.ol b ((mk++[mkT (dE G ly) (up (fK 0 (y.map (·.2))) v)]).map .tr))<|hsL b mk y v);rw[aWb];exact#[rfl,rfl,rfl,q y _ v Db U v1 v8]
 have a1:∀(X:FsO),X=hsL b mk y J->cX (aAm C "multiple" 0<|dY aLc<|bI (m9 C "multiple" 0)<|bI (dY gGM<|bI (cA 7) cG) cG) (aHx C "makes" 0<|nJ<|bI (cA 9)<|bI (dY gRU<|bI (dY gGE<|bI (m9 C "lying" 0) cG)<|bI (m9 C "multiple" 0) cG) cG) (.bo (.oi C a I X)::vT (.lst `t)::vT (.lst<|cs.map Ch.x)::[vT<|.lst<|G.map Fe.x,vT<|.lst<|(kpF G).map Fe.x,vT<|.lst<|(nwF G).map Fe.x,vT (.lst (xK ((nwF G).map (·.kd)))),vT<|.lst<|(rsF G).map prT,vT<|.lst<|(dpP (rsF G) ly).map Dx.int,.v<|.ol<|(dE G ly).map Fe.x]) (aEo C a I Q):=by
  rintro X rfl;refine#[rfl,rsF G,rfl,by lia,λr M=>(j3 (hd_ _ O) R `b r M).2.2.1,?_];have Og:∀v,v=(if fK 1 ((rsF G).map (·.2))>J then fK 1 ((rsF G).map (·.2))else J)->1<=v/\v<=8:=λv e=>by
   have h1:fK 1 ((rsF G).map (·.2))<=8:=is_ `b λz hz=>by obtain⟨r,M,rfl⟩:=aZ.mp hz;exact(j3 (hd_ _ O) R `b r M).2.2.2
   rw[e];split<;>lia
  obtain⟨v1,v8⟩:=Og _ rfl;show C=C/\_/\_/\_;refine#[rfl,by show 3<1000;decide,λo x=>?_,?_];have:some (Ow.tr<|.int J)=some o:=x;cases this;exact`r;exact S _ _ (aWa b mk y J _) v1 v8
 exact a1 _ ep
end
def aDr(l:List α)(d:α):atI (l++[d]) (-1)=some d:=by
 have a:(l++[d]).length=l.length+1:=by rw[aI];rfl
 have e:ixN (l++[d]).length (-1)=some l.length:=by unfold ixN;rw[if_neg `b,a,if_pos<|Rat.intCast_le_intCast.mp rfl];congr 1;lia
 unfold atI;rw[e];show(l++[d])[l.length]? = some d;rw[bX<|aO _,iI];rfl
structure Beg(fs:S6)(k:Nat)(cs:U3)(m:Nat)(ly:S5)(mu:Int)(mk:S1):Prop where
 fl:fs.length<=100
 cl:cs.length<=100
 ml:mk.length<=1000
 ok:∀e∈gos fs k cs,e.Ok
 ch:chs fs k cs
 ad:jB cs<=5
 nw:(nwF (gos fs k cs)).length<=5
 lo:LyOk m ly
 ll:ly.length<=45
 m15:m<=15
 u1:1<=mu
 u8:mu<=8
def aMl(j:Addr):GO:=λC l o Q=>C=j/\∃(b:Addr) (mk:S1) (e:S5) (h g:Int) (m k:Nat) (fs:S6) (f:U3),l=hsL b (mk++[mkT fs g]) e h/\o=[.lst<|f.map Ch.x]/\Beg fs k f m e h (mk++[mkT fs g]) /\
 ∀(a:S5) (r c i:Int),a.Perm (e++lV (rsF<|gos fs k f) e)->LyOk (m+1) a->1<=c->c<=8->Q (.tr<|.int i) (hsL b (mk++[mkT fs g]++[mkT (dE (gos fs k f) e) r]) a c)
abbrev fQ(fl:List<|Str×Kd×Vd):U3:=fl.map λf=>Ch.add f.1 f.2.1 f.2.2
def gIN(f:Addr):GO:=λC l g Q=>C=f/\l=[]/\∃e:List<|Str×Kd×Vd,g=[.lst<|e.map fdT]/\Beg [] 0 (fQ e) 0 [] 1 [] /\
 ∀(b:Addr) (a:S5) (r c:Int),a.Perm (lV (rsF<|gos [] 0 (fQ e)) [])->LyOk 1 a->1<=c->c<=8->Q (.tr .non) (hsL b [mkT (dE (gos [] 0 (fQ e)) []) r] a c)
def hs1(b:Addr):FsO:=[("makes",.ol b [])]
def hs2(b:Addr):FsO:=[("makes",.ol b []),("lying",.tr<|.lst [])]
def bJu(b:Addr):dJ "lying" (.tr<|.lst []) (hs1 b)=hs2 b:=by show(if("makes" : Str) = "lying" then _ else _)=_;rfl
def bJt(b:Addr):dJ "multiple" (.tr<|.int 1) (hs2 b)=hsL b [] [] 1:=by show(if("makes" : Str) = "multiple" then _ else(_::if("lying" : Str) = "multiple" then _ else _))=_;rfl
section
variable{f:Addr}{n j:Nat}{c C_House:Addr}
def aQl(F:Fun K "next_make" "House.next_make" dv_ f fd)(v:Cls K C_House)(e:NoAttr K C_House "makes")(g:sR P w K mg base j C_House "begin_make" AG<|spO<|gBM C_House)(B:Blt mg):FnOk P w K mg base CX0 (j+1) f fd AM<|spO<|aMl C_House:=by
 refine bAv F ja_ (λC l D Q h=>by obtain⟨_,_,_,_,_,_,_,_,_,_,_,rfl,_⟩:=h;rfl) `b λR A u s H E M=>?_;refine#[_,(cE (nP<|oW (C:=C_House) (i:=0) g (M.mono `a) (pv 0)<|cO (dL K<|aHl (C:=C_House) (i:=0) K v e (pv 0) (m7 cQ)<|λ_ _=>rfl) `h)
  (cP<|dT<|k8 (aOp (C:=C_House) (i:=0) K v e (pv 0) (by rfl) B.len PySem.boot_len) cQ)),λC a o l D Q h=>?_]
 obtain⟨rfl,b,mk,N,O,y,m,k,fs,z,rfl,rfl,B,q⟩:=h;refine#[#[rfl,rfl],b,_,#[a,o,_,_,rfl,rfl],?_];refine#[_,#[a,o,_,_,rfl,rfl],?_];show(match atI (mk++[mkT fs y]) (-1)with | some d=>_ | none=>False);rw[aDr];dsimp only;refine hw_ ?_;refine qZ ?_;refine#[rfl,b,mk++[mkT fs y],N,O,m,k,fs,z,rfl,rfl,B.fl,B.cl,B.ml,B.ok,B.ch,B.ad,B.nw,B.lo,B.ll,B.m15,B.u1,B.u8,λp r t G I J L=>?_];refine#[b,_,#[a,o,_,_,rfl,rfl],?_];show C=C/\a=a/\o=o/\Q _ _;exact#[rfl,rfl,rfl,q p r t _ G I J L]
def aYr(F:Fun K "__init__" "House.__init__" r_ f fd)(z:Cls K C_House)(m:NoAttr K C_House "makes")(g:NoAttr K C_House "lying")(e:NoAttr K C_House "multiple")(p:sR P w K mg base j C_House "begin_make" AG<|spO<|gBM C_House)(D:nB P w K mg base 1 "changes_to_begin" ["fields"] (spE gCB))(W:1<=j):FnOk P w K mg base CX0 (j+1) f fd BJ<|spO<|gIN C_House:=by
 refine bAv F aPk (λC l N Q h=>by obtain⟨_,_,_,rfl,_⟩:=h;rfl) `b λU A L s H E M=>?_;refine#[_,(cE (aOg (C:=C_House) z m (pv 0)<|kF jK)
  (cE (vD (C:=C_House) z g (pv 0)<|kF jK)
  (cE (vD (C:=C_House) z e (pv 0) cQ)
  (cP<|nP<|oW (C:=C_House) (i:=0) p (M.mono `a) (pv 0)<|cO (kF jK)<|dn_ D (M.mono `a)<|eP `h)))),λC a t l N Q h=>?_]
 obtain⟨rfl,rfl,y,rfl,B,q⟩:=h;refine#[bM _,[],a,t,[],_,rfl,rfl,by show 0<1000;decide,rfl,λb=>?_];refine#[bM _,?_];have v:∀X:FsO,X=hsL b [] [] 1->(aOx<|vI C "begin_make" (gBM C) 0<|bI (lB cG)<|bI (vL dQ gCB<|bI (cA 1) cG) cG) [.bo<|.oi C a t X,vT<|.lst<|y.map fdT] (aEo C a t Q):=by rintro X rfl;refine#[#[rfl,rfl],bM _,?_];refine#[y,rfl,by have:=B.cl;rw[aA]at this;exact this,?_];refine#[rfl,b,[],[],1,0,0,[],fQ y,rfl,rfl,B.fl,B.cl,B.ml,B.ok,B.ch,B.ad,B.nw,B.lo,B.ll,B.m15,B.u1,B.u8,λI r J O R S T=>?_];show C=C/\a=a/\t=t/\Q _ _;exact#[rfl,rfl,rfl,q b I r J O R S T]
 have u:∀X:FsO,X=hs2 b->cX (aAm C "multiple" 0<|xC<|.int 1) (aOx<|vI C "begin_make" (gBM C) 0<|bI (lB cG)<|bI (vL dQ gCB<|bI (cA 1) cG) cG) [.bo<|.oi C a t X,vT<|.lst<|y.map fdT] (aEo C a t Q):=by rintro X rfl;refine#[rfl,by show 2<1000;decide,λo G=>(nomatch (show none=some o from G)),?_];exact v _<|bJt b
 refine#[rfl,by show 1<1000;decide,λo G=>(nomatch (show none=some o from G)),?_];exact u _<|bJu b
end
abbrev Mks:=List<|S6×Int
def gT(a:Mks):S1:=a.map λp=>mkT p.1 p.2
def hsF(mk:S1)(ly:S5)(a:Int):List<|Str×Dx:=[("makes",.lst mk),("lying",.lst<|ly.map prT),("multiple",.int a)]
abbrev hsT(C:Addr)(mk:S1)(ly:S5)(a:Int):Dx:=.ins C<|hsF mk ly a
def kO(fs:S6):Prop:=(∀e∈fs,∃p,e.pl=some p)/\(nms fs).Nodup/\fs.length<=1000
def iF(n:Nat)(d:Dx):Prop:=∀i:Int,d=.int i->¬(0<=i/\i<n)
def gHM(C:Addr):GC:=λa Q=>∃(mk:S1) (b:S5) (c:Int),a=[hsT C mk b c]/\Q (.tr<|.int mk.length)
def gMA(C b:Addr):GE:=λc Q Ex=>∃(mk:S1) (e:S5) (f:Int) (d:Dx),c=[hsT C mk e f,d]/\iV d/\((∃(i:Nat) (a:Dx),d=.int (i:Int)/\mk[i]? = some a/\Q (.tr a))\/(iF mk.length d/\Ex (.ref b)))
def plK(fs:S6):U1:=fs.map λe=>(Sum.inr e.nm,plT e.pl)
def gPO(C b:Addr):GE:=λc Q Ex=>∃(a:Mks) (e:S5) (f:Int) (d:Dx),c=[hsT C (gT a) e f,d]/\iV d/\((∃(i:Nat) (p:S6×Int),d=.int (i:Int)/\a[i]? = some p/\kO p.1/\Q (.od<|plK p.1))\/(iF a.length d/\Ex (.ref b)))
def zX(a:S6)(nm:Str):T7:=(a.find? λe=>decide (e.nm=nm)).bind (·.pl)
def shB(a:S6)(e:Fe):Bool:=decide (zX a e.nm=e.pl)
def gNS(b:Bool):GC:=λc Q=>∃fs a:S6,c=[.dic<|plK fs,.dic<|plK a]/\kO fs/\kO a/\Q (.ol<|(fs.filter λe=>shB a e == b).map λe=>.str e.nm)
def aPu(nm:Str):gU (plK gs) (Sum.inr nm)=(gs.find? λe=>decide (e.nm=nm)).map λe=>plT e.pl:=by unfold gU plK;rw[List.find?_map,Option.map_map];congr 1;congr 1;funext e;show decide ((Sum.inr e.nm:Key)=Sum.inr nm)=decide (e.nm=nm);rw[decide_eq_decide];exact#[Sum.inr.inj,congrArg _]
def aJr(h:kO gs)(nm:Str)(p:Int):eqS ((gU (plK gs)<|Sum.inr nm).getD .non) (.int p)=some (decide (zX gs nm=some p)):=by
 rw[aPu];unfold zX;cases e:gs.find? λe=>decide (e.nm=nm)with
 |none=>rfl
 |some x => obtain⟨z,a⟩:=h.1 x<|List.mem_of_find?_eq_some e;show eqS (plT x.pl) (.int p)=some (decide (x.pl=some p));rw[a];show some (decide (z=p))=_;congr 1;rw[decide_eq_decide];exact#[congrArg _,ozI]
def aBj(h:kO fs)(c:e∈fs):gU (plK fs) (Sum.inr e.nm)=some (plT e.pl):=by
 have f:((plK fs).map (·.1)).Nodup:=by
  unfold plK;rw[bL];have:fs.map ((·.1) ∘ λe:Fe=>((Sum.inr e.nm,plT e.pl):Key×Dx))=(nms fs).map (λx:Str=>(Sum.inr x:Key)):=by rw[bL];rfl
  rw[this];exact List.Pairwise.map _ (λa b h e=>h<|Sum.inr.inj e) h.2.1
 exact oJ f<|aZ.mpr #[e,c,rfl]
section
variable{f:Addr}{n j:Nat}{a C_House:Addr}
def aYv(F:Fun K "how_many_makes" "House.how_many_makes" cd_ f fd)(c:Cls K C_House)(b:NoAttr K C_House "makes")(B:Blt mg):FnOk P w K mg base CX0 1 f fd ["self"] (spX<|gHM C_House):=by refine jO F ij_ (λg=>(cP<|dT<|nI<|nR c b `e)) λe Q h=>?_;obtain⟨mk,i,l,rfl,q⟩:=h;refine#[rfl,?_];exact#[_,_,rfl,rfl,q]
def aYh(F:Fun K "make_at" "House.make_at" hm_ f fd)(o:Cls K C_House)(b:NoAttr K C_House "makes")(u:Cal P w K mg base 1 "is_whole" AA<|spX gWB)(B:Blt mg)(t:PyProof.Rows.OwnCls "NoMake" a veM "ValueError.__new__" mg base):FnOk P w K mg base (CXe P w) 2 f fd AC<|spE<|gMA C_House a:=by
 refine rC F q_ (λv Q Ex h=>by obtain⟨_,_,_,_,rfl,_⟩:=h;rfl) `b λG A m s H E Ex I=>?_;refine#[_,(cE (iC (XW.pt<|f8 (lJ<|jD<|dS u<|eP `h)<|i5<|lJ<|oU lZ lY ks_ kq_ cQ `h (nI<|nR o b `e)) (cP<|cy_ t rfl rfl) iH)
  (cP<|dT<|kK K (nR o b `e) `h)),λv Q h=>?_]
 obtain⟨mk,g,l,d,rfl,p,h⟩:=h;rcases h with⟨i,J,rfl,r,q⟩ | ⟨D,q⟩
 have C:=(aL.mp r).1;refine kZ (ρ':=[vT<|hsT C_House mk g l,vT<|.int (i:Int)]) (λQ q=>?_) ?_;refine #[_,rfl,p,?_];have e:=dzT<|Int.natCast_nonneg i;refine(@if_pos _ _ e _ _<|Q (!false) [vT<|hsT C_House mk g l,vT<|.int (i:Int)]).mpr ?_;refine#[_,_,rfl,rfl,?_];show Q (!decide ((i:Int)<((mk.length:Nat):Int))) _;rw[dzT<|Int.ofNat_lt.mpr C];exact q;refine #[_,_,rfl,rfl,?_];show(match atI mk (i:Int)with | some d=>_ | none=>False);rw[k_ r];exact q;refine eg_ true (ρ':=[vT<|hsT C_House mk g l,vT d]) (fun Q q => ?_) (fun _=>q) (fun y=>by cases y);refine#[_,rfl,p,?_];cases d with
 |int i =>
  by_cases c:(0:Int)<=i;have e:=dzT c;refine(@if_pos _ _ e _ _<|Q (!false) [vT<|hsT C_House mk g l,vT<|.int i]).mpr ?_;refine#[_,_,rfl,rfl,?_];show Q (!decide (i<((mk.length:Nat):Int))) _;rw[dzF λz=>D i rfl #[c,z]];exact q;have e:¬ decide ((0:Int)≤i)=true:=by rw [decide_eq_true_eq]; exact c
  exact(@if_neg _ _ e _ _<|Q (!false) [vT<|hsT C_House mk g l,vT<|.int i]).mpr q
 |_=>exact q
end
def aWl(h:kO fs):((plK fs).map (·.1)).Nodup:=by
 unfold plK;rw[bL];have:fs.map ((·.1) ∘ λe:Fe=>((Sum.inr e.nm,plT e.pl):Key×Dx))=(nms fs).map (λx:Str=>(Sum.inr x:Key)):=by rw[bL];rfl
 rw[this];exact List.Pairwise.map _ (λa b h e=>h<|Sum.inr.inj e) h.2.1
def gNA(C g:Addr):GE:=λh Q Ex=>∃(a:Mks) (l:S5) (m:Int) (d c:Dx),h=[hsT C (gT a) l m,d,c]/\iV d/\iV c/\((∃(i j:Nat) (p f:S6×Int),d=.int (i:Int)/\c=.int (j:Int)/\a[i]? = some p/\a[j]? = some f/\kO p.1/\kO f.1/\∀(b:Addr) (o:U4),Q<|.ow<|.ot (.ol b (((p.1.filter λe=>shB f.1 e == true).map λe=>Dx.str e.nm).map .tr)::o))\/((∃(i:Nat) (p:S6×Int),d=.int (i:Int)/\a[i]? = some p/\kO p.1/\iF a.length c/\Ex (.ref g))\/(iF a.length d/\Ex (.ref g))))
def gSN(C c:Addr):GE:=λg Q Ex=>∃(a:Mks) (h:S5) (l:Int) (d b:Dx),g=[hsT C (gT a) h l,d,b]/\iV d/\iV b/\((∃(i j:Nat) (p f:S6×Int),d=.int (i:Int)/\b=.int (j:Int)/\a[i]? = some p/\a[j]? = some f/\kO p.1/\kO f.1/\(i<=j->Q (.ol<|(p.1.filter λe=>shB f.1 e == true).map λe=>Dx.str e.nm))/\(j<i->Ex (.ref c)))\/((∃(i:Nat) (p:S6×Int),d=.int (i:Int)/\a[i]? = some p/\kO p.1/\iF a.length b/\Ex (.ref c))\/(iF a.length d/\Ex (.ref c))))
section
variable{f:Addr}{n j:Nat}{a C_House:Addr}
def aXz(F:Fun K "places_of" "House.places_of" et_ f fd)(b:rV P w K mg base 2 C_House "make_at" AC<|spE<|gMA C_House a)(B:Blt mg):FnOk P w K mg base (CXe P w) 3 f fd AC<|spE<|gPO C_House a:=by
 refine rC F iz_ (λt Q Ex h=>by obtain⟨_,_,_,_,rfl,_⟩:=h;rfl) `b λD A c s H E Ex y=>?_;refine#[_,(cP<|dT<|hf_ (iy_ rfl) xZ rfl B.dict oR<|eP<|mS iz_ [] (lA<|dL K<|he_ b (y.mono `a) `e (eP `h)) lO (kG<|cO `k `k)),λt Q h=>?_];obtain⟨o,m,r,d,rfl,l,h⟩:=h;rcases h with⟨i,p,rfl,v,g,q⟩ | ⟨u,q⟩
 refine #[#[_,rfl,rfl],gT o,m,r,_,rfl,l,.inl #[i,mkT p.1 p.2,rfl,by unfold gT; rw [bK,v]; rfl,?_]];refine hw_ ?_;refine qZ ?_;refine#[show(p.1.map Fe.x).length<=1000000 by rw[aA];have:=g.2.2;lia,show cC _ _ _ _ _ (p.1.map Fe.x) _ _ from ?_];refine mY Fe.x (λe=>.tup [.str e.nm,plT e.pl]) (λe G C P z=>#[by show 2<=1000000;decide,z]) ?_;refine#[plK p.1,?_,aWl g,q];unfold plK;rw[bL];rfl;refine #[#[_,rfl,rfl],gT o,m,r,_,rfl,l,.inr #[?_,q]];unfold gT;rw[aA];exact u
def aYc(F:Fun K "names_shared" "names_shared" gn_ f fd):FnOk P w K mg base CX0 1 f fd AI<|spX<|gNS true:=by
 refine jO F fi_ (λo=>(cP<|dT<|aAi fi_ 0 [0,1] (cj_<|kS (aHm (f6 o) (xv 2) `e #[rfl,rfl,rfl,rfl])<|nV (f6 o) `h `e (λ_ _=>rfl)) `e)) λz Q h=>?_;obtain⟨fs,b,rfl,i,u,q⟩:=h;refine#[rfl,?_];refine#[show(plK fs).length<=1000000 by unfold plK;rw[aA];have:=i.2.2;lia,?_];have t:iW (plK fs)=fs.map λe=>Dx.str e.nm:=by unfold plK iW;rw[bL];rfl
 rw[t];refine cb_ (λe:Fe=>Dx.str e.nm) (λe:Fe=>Dx.str e.nm) (λe=>shB b e == true) (λe m s P p=>?_) q;refine#[`r,?_];obtain⟨g,l⟩:=i.1 e m;show(match gU (plK fs) (Sum.inr e.nm)with | some d=>_ | none=>False);rw[aBj i m];show eqX ((gU (plK b)<|Sum.inr e.nm).getD .non) (plT e.pl) _;have v:=aJr u e.nm g;have y:shB b e=decide (zX b e.nm=some g):=by unfold shB;rw[l]
 rw[l];unfold eqX;rw[show eqS ((gU (plK b)<|Sum.inr e.nm).getD .non) (plT<|some g)=_ from v];rw[y]at p;by_cases c:zX b e.nm=some g;rw [dzT c] at p ⊢;exact p;rw [dzF c] at p ⊢;have r:P (s++[]) _:=p;rw[aP]at r;exact r
def aYd(F:Fun K "names_alone" "names_alone" hl_ f fd):FnOk P w K mg base CX0 1 f fd AI<|spX<|gNS false:=by
 refine jO F gj_ (λo=>(cP<|dT<|aAi gj_ 0 [0,1] (cj_<|kJ (aHm (f6 o) (xv 2) `e #[rfl,rfl,rfl,rfl])<|nV (f6 o) `h `e (λ_ _=>rfl)) `e)) λz Q h=>?_;obtain⟨fs,b,rfl,i,u,q⟩:=h;refine#[rfl,?_];refine#[show(plK fs).length<=1000000 by unfold plK;rw[aA];have:=i.2.2;lia,?_];have t:iW (plK fs)=fs.map λe=>Dx.str e.nm:=by unfold plK iW;rw[bL];rfl
 rw[t];refine cb_ (λe:Fe=>Dx.str e.nm) (λe:Fe=>Dx.str e.nm) (λe=>shB b e == false) (λe m s P p=>?_) q;refine#[`r,?_];obtain⟨g,l⟩:=i.1 e m;show(match gU (plK fs) (Sum.inr e.nm)with | some d=>_ | none=>False);rw[aBj i m];show neX ((gU (plK b)<|Sum.inr e.nm).getD .non) (plT e.pl) _;have v:=aJr u e.nm g;have y:shB b e=decide (zX b e.nm=some g):=by unfold shB;rw[l]
 rw[l];unfold neX;rw[show eqS ((gU (plK b)<|Sum.inr e.nm).getD .non) (plT<|some g)=_ from v];rw[y]at p;by_cases c:zX b e.nm=some g;rw [dzT c] at p ⊢;have r:P (s++[]) _:=p;rw[aP]at r;exact r;rw [dzF c] at p ⊢;exact p
def aYf(F:Fun K "names_apart" "names_apart" hk_ f fd)(b:rV P w K mg base 3 C_House "places_of" AC<|spE<|gPO C_House a)(t:Cal P w K mg base 1 "names_shared" AI<|spX<|gNS true)(C:Cal P w K mg base 1 "names_alone" AI<|spX<|gNS false):FnOk P w K mg base (CXe P w) 4 f fd AD<|spE<|gNA C_House a:=by
 refine rC F ei_ (λJ Q Ex h=>by obtain⟨_,_,_,_,_,rfl,_⟩:=h;rfl) `b λM A z s H E Ex D=>?_;refine#[_,(cE (fS ei_ 3<|he_ b (D.mono `a) `e (eP `h))
  (cE (fS ei_ 4<|he_ b (D.mono `a) `e (eP<|xv 2))
  (cP<|dT<|aAh<|hU (dS t<|cO (xv 3)<|xv 4)<|cO (dS C<|cO (xv 3)<|xv 4)<|dS C<|cO (xv 4)<|xv 3))),λJ Q h=>?_]
 obtain⟨m,l,o,d,N,rfl,u,B,h⟩:=h;rcases h with⟨i,L,p,c,rfl,rfl,y,G,g,r,q⟩ | ⟨i,p,rfl,y,g,v,q⟩ | ⟨v,q⟩
 refine #[#[_,rfl,rfl],m,l,o,_,rfl,u,.inl #[i,p,rfl,y,g,?_]];refine#[#[_,rfl,rfl],m,l,o,_,rfl,B,.inl #[L,c,rfl,G,r,?_]];refine#[p.1,c.1,rfl,g,r,?_];refine#[p.1,c.1,rfl,g,r,?_];refine#[c.1,p.1,rfl,r,g,?_];refine#[by show 3<=1000000;decide,λbs I=>?_]
 match bs,I with
 | [b1,b2,b3],_=>exact#[[.ol b1<|((p.1.filter λe=>shB c.1 e == true).map λe=>Dx.str e.nm).map .tr,.ol b2<|((p.1.filter λe=>shB c.1 e == false).map λe=>Dx.str e.nm).map .tr,.ol b3<|((c.1.filter λe=>shB p.1 e == false).map λe=>Dx.str e.nm).map .tr],rfl,q b1 _]
 refine #[#[_,rfl,rfl],m,l,o,_,rfl,u,.inl #[i,p,rfl,y,g,?_]];exact#[#[_,rfl,rfl],m,l,o,_,rfl,B,.inr #[v,q]];exact#[#[_,rfl,rfl],m,l,o,_,rfl,u,.inr #[v,q]]
def aXq(F:Fun K "steady_names" "steady_names" gm_ f fd)(g:nB P w K mg base 4 "names_apart" AD<|spE<|gNA C_House a)(B:PyProof.Rows.OwnCls "NoMake" a veM "ValueError.__new__" mg base):FnOk P w K mg base (CXe P w) 5 f fd AD<|spE<|gSN C_House a:=by
 refine rC F fh_ (λG Q Ex h=>by obtain⟨_,_,_,_,_,rfl,_⟩:=h;rfl) `b λO A t s H E Ex J=>?_;refine#[_,(cE (fS fh_ 3<|aUs K<|dn_ g (J.mono<|Nat.le_of_ble_eq_true rfl)<|hU `e (cO `h (xv 2)))
  (cE (iC (yD aBt aBq `h (xv 2) (dP _)) (cP<|cy_ B rfl rfl) iH)
  (cP<|dT<|dt_<|pv 3))),λG Q h=>?_]
 obtain⟨o,m,r,d,R,rfl,u,v,h⟩:=h;rcases h with⟨i,c,p,y,rfl,rfl,I,C,z,D,N,M⟩ | h
 refine #[o,m,r,_,_,rfl,u,v,.inl #[i,c,p,y,rfl,rfl,I,C,z,D,fun b L=>#[b,_,L,rfl,?_]]];dsimp only;refine eg_ (decide (c<i)) (ρ':=[vT<|hsT C_House (gT o) m r,vT<|.int (i:Int),vT<|.int (c:Int),.v<|.ol<|(p.1.filter λe=>shB y.1 e == true).map λe=>Dx.str e.nm]) (λQ q=>?_) (λl=>?_)<|λl=>?_;show Q (decide ((c:Int) < (i:Int))) _;rw[show decide ((c:Int)<(i:Int))=decide (c<i) by rw[decide_eq_decide];exact Int.ofNat_lt];exact q;exact M<|of_decide_eq_true l;exact N (by have:=of_decide_eq_false l;exact eJ this);exact#[o,m,r,_,_,rfl,u,v,.inr h]
end
def bHf(fs:S6)(l:S1):Prop:=fs.length<=100/\l.length<=100/\((∃k a d,l=a.map Ch.x++[d]/\chs fs k a/\jB a<=5/\aGp (gos fs k a) d)\/∃a,l=a.map Ch.x/\5<jB a)
def bGh(a:Addr):GE:=λb _ Ex=>∃(c:Dx) (fs:S6) (l:S1),b=[c,.lst `t,.lst l]/\bHf fs l/\Ex `i
def bGe(C a:Addr):GE:=λb _ Ex=>∃(mk:S1) (c:S5) (e f:Int) (fs:S6) (l:S1),b=[hsT C (mk++[mkT fs f]) c e,.lst l]/\bHf fs l/\Ex `i
section
variable{f:Addr}{n j:Nat}{g C_House:Addr}
def aQn(F:Fun K "begin_make" "House.begin_make" db_ f fd)(o:nB P w K mg base j "fields_behind" BL<|spE<|gFB g):FnOk P w K mg base (CXe P w) (j+1) f fd AG<|spE<|bGh g:=by
 refine rC F ba_ (λp Q Ex h=>by obtain⟨_,_,_,rfl,_⟩:=h;rfl) `b λy A m s H E Ex v=>?_;refine#[_,(cE (fS ba_ 3<|dn_ o (v.mono<|aO j)<|cO `h (xv 2))
  aHa),λp Q h=>?_]
 obtain⟨z,fs,l,rfl,⟨r,t,u⟩,q⟩:=h;refine#[fs,l,rfl,r,t,.inr ?_];rcases u with⟨k,i,d,e,a,b,c⟩ | ⟨i,e,a⟩
 exact .inl #[k,i,d,e,a,b,c,q];exact .inr #[i,e,a,q]
def aQk(F:Fun K "next_make" "House.next_make" dv_ f fd)(e:Cls K C_House)(b:NoAttr K C_House "makes")(a:rV P w K mg base j C_House "begin_make" AG<|spE<|bGh g):FnOk P w K mg base (CXe P w) (j+1) f fd AM<|spE<|bGe C_House g:=by
 refine rC F ja_ (λi Q Ex h=>by obtain⟨_,_,_,_,_,_,rfl,_⟩:=h;rfl) `b λr A c s H E Ex o=>?_;refine#[_,(cE (nP<|he_ a (o.mono `a) `e (cO (dL K<|kK K (nR e b `e)<|m7 cQ) `h))
  aHa),λi Q h=>?_]
 obtain⟨mk,t,u,p,fs,l,rfl,m,q⟩:=h;refine#[#[_,rfl,rfl],_,_,rfl,rfl,?_];show(match atI (mk++[mkT fs p]) (-1)with | some d=>_ | none=>False);rw[aDr];dsimp only;refine hw_ ?_;refine qZ ?_;exact#[_,fs,l,rfl,m,q]
end
def sN:bootBuiltins "ValueError" = some (.type "ValueError"):=by decide +kernel
structure Kit41(K:dN)(mg:mI)(Aq Ar Ac Ay Az Be:Addr):Prop where
 mV:mg "NoValue" = some (.ref Aq)
 mB:mg "NoBytes" = some (.ref Ar)
 mM:mg "NoMake" = some (.ref Ac)
 mT:mg "NoText" = some (.ref Ay)
 mN:mg "NoName" = some (.ref Az)
 mR:mg "NoRow" = some (.ref Be)
 kit:PySem.W.excKit K Ac=true
 kM:PySem.W.kitOne K (.ref Ac) (.ref Ac)=some true
 kE:PySem.W.kitOne K (.ref Ac) (.type "ValueError")=some true
 kA:PySem.W.kitAny K (.ref Ac) [.ref Ar,.ref Az,.ref Be,.ref Ay,.ref Aq]=some false
def gKS(a:Addr):GC:=λb Q=>b=[.exc `i]/\Q (.ol [.bl true,.bl false,.bl true])
def gRF(C:Addr):GC:=λe Q=>∃(a:Mks) (f:S5) (g:Int) (d b:Dx),e=[hsT C (gT a) f g,d,b]/\iV d/\iV b/\((∃(i j:Nat) (p c:S6×Int),d=.int (i:Int)/\b=.int (j:Int)/\a[i]? = some p/\a[j]? = some c/\kO p.1/\kO c.1/\j<i)\/((∃(i:Nat) (p:S6×Int),d=.int (i:Int)/\a[i]? = some p/\kO p.1/\iF a.length b)\/iF a.length d))/\Q (.tr<|.bl true)
def gLR(C:Addr):GC:=λb Q=>∃(mk:S1) (c:S5) (f g:Int) (fs:S6) (k:Nat) (a:U3),b=[hsT C (mk++[mkT fs g]) c f,.lst<|a.map Ch.x]/\fs.length<=50/\a.length<=50/\chs fs k a/\jB a<=5/\(∀e∈gos fs k a,e.nm ≠ "none")/\Q (.tr<|.bl true)
def p7(c:Nat):Ch:=.add (("q" : Str)++#[[c].toArray]) (.num 1 1)<|.num 0
def aBb:∀L:T3,jB (L.map p7)=L.length
 | []=>rfl
 |c::r=>by have:=aBb r;unfold jB at this ⊢;show _+1=_+1;rw[this]
def aNo(a b:U3):jB (a++b)=jB a+jB b:=by unfold jB;rw[cT,aI]
section
variable{f:Addr}{n j:Nat}{r o a l g b C_House m:Addr}
def aYm(F:Fun K "_law_kinds" "_law_kinds" kh_ f fd)(c:Kit41 K mg r o a l g b)(B:Blt mg)(i:mg "ValueError" = none):FnOk P w K mg base CX0 1 f fd ["caught"] (spX<|gKS a):=by
 have p:=c.mV;have t:=c.mB;have z:=c.mM;have u:=c.mT;have y:=c.mN;have C:=c.mR;refine xT F jb_ (λD Q h=>by obtain⟨rfl,_⟩:=h;rfl) `b λL A e s H E M=>?_;refine#[_,(cE (fS jb_ 1<|aOo K B.isinstance `e (lK (ev_ (v:=.ref o) rfl t rfl)<|lK (ev_ (v:=.ref g) rfl y rfl)<|lK (ev_ (v:=.ref b) rfl C rfl)<|lK (ev_ (v:=.ref l) rfl u rfl)<|lK (ev_ (v:=.ref r) rfl p rfl) i4) (λ_ _ _ q=>q) (λ_ h=>pD (as:=[o,g,b,l,r]) h) (by simp only[aK,bE];decide))
  (cP<|dT<|kF<|hU (aHj K B.isinstance `e (ev_ (v:=.ref a) rfl z rfl) (λ_ h=>h))<|cO `h (aHj K B.isinstance `e (iq_ (v:=.ty "ValueError") rfl i sN rfl) (λ_ h=>h)))),λD Q h=>?_]
 have G:isC K `i (.exc `i)=some true:=by simp only[isC];rw[if_pos c.kit];exact c.kM
 have I:isC K (.type "ValueError") (.exc `i)=some true:=by simp only[isC];rw[if_pos c.kit];exact c.kE
 have J:aLw K [.ref o,.ref g,.ref b,.ref l,.ref r] (.exc `i)=some false:=by simp only[aLw];rw[if_pos c.kit];exact c.kA
 obtain⟨rfl,q⟩:=h;refine j9<|u_ rfl J ?_;refine u9<|bAq<|hc_<|u_ rfl G ?_;refine hc_<|jh_ rfl ?_;refine hc_<|u_ rfl I ?_;exact#[by show 3<=1000000;decide,q]
def aXx(F:Fun K "_law_refused" "_law_refused" hn_ f fd)(L:nB P w K mg base 5 "steady_names" AD<|spE<|gSN C_House a)(M:Cal P w K mg base 1 "_law_kinds" ["caught"] (spX<|gKS a))(C:PyProof.Rows.OwnCls "FieldError" m veM "ValueError.__new__" mg base)(e:vB base a m):FnOk P w K mg base CX0 6 f fd AD<|spX<|gRF C_House:=by
 refine xT F gX (λO Q h=>by obtain⟨_,_,_,_,_,rfl,_⟩:=h;rfl) `b λY A v s H E y=>?_;refine#[_,(cE (fS gX 3 mJ)
  (cE (aHc (jn:=4) (aUp λ_ _ _ _=>aKb L (y.mono<|Nat.le_of_ble_eq_true rfl)<|hU `e (cO `h (xv 2))) C rfl rfl rfl gX.nd rfl rfl<|λ_=>(cP<|fS gX 3<|xv 4))
  (cP<|dT<|jw_ (aBu<|gA<|f6 y) aKg (dS M<|eP<|xv 3) (kF<|hU j7<|cO j7 j7)<|dP _))),λO Q h=>?_]
 obtain⟨T,S,U,d,N,rfl,D,J,h,q⟩:=h;refine#[T,S,U,d,N,rfl,D,J,?_];rcases h with⟨i,R,p,W,rfl,rfl,u,G,c,I,B⟩ | ⟨i,p,rfl,u,c,t⟩ | t
 exact .inl #[i,R,p,W,rfl,rfl,u,G,c,I,λz=>absurd B<|Nat.not_lt.mpr z,λ_=>#[#[a,rfl,e],rfl,by show 3<=1000000;decide,[true,false,true],[true,false,true],rfl,rfl,rfl,q]];exact .inr<|.inl #[i,p,rfl,u,c,t,#[#[a,rfl,e],rfl,by show 3<=1000000;decide,[true,false,true],[true,false,true],rfl,rfl,rfl,q]];exact .inr<|.inr #[t,#[#[a,rfl,e],rfl,by show 3<=1000000;decide,[true,false,true],[true,false,true],rfl,rfl,rfl,q]]
def aYj(F:Fun K "_law_list_refused" "_law_list_refused" ed_ f fd)(i:rV P w K mg base j C_House "next_make" AM<|spE<|bGe C_House a)(x:Cal P w K mg base 1 "_law_kinds" ["caught"] (spX<|gKS a))(Y:PyProof.Rows.OwnCls "FieldError" m veM "ValueError.__new__" mg base)(y:vB base a m)(hj:1<=j)(B:Blt mg):FnOk P w K mg base CX0 (j+1) f fd BM<|spX<|gLR C_House:=by
 refine xT F dU (λV Q h=>by obtain⟨_,_,_,_,_,_,_,rfl,_⟩:=h;rfl) `b λAi A M s H E u=>?_;refine#[_,(cE (sT dU 2 [] (aHe jR) lO (kG<|hU jR<|hU (lN jR `e)<|cO (kG<|hU jR<|cO cQ cQ) cQ))
  (cE (fS dU 3 mJ)
  (cE (aHc (jn:=4) (aOj λ_ _ _ _=>aJw i (u.mono `a) `e (eP<|lN `h (kK K (kF<|hU (kF<|eP<|kG<|cO jR jR)<|cO (kF<|eP<|kG<|eP jR)<|xv 2)<|mW (nI `h) cQ))) Y rfl rfl (by rfl) dU.nd rfl (by rfl)<|λ_=>(cP<|fS dU 3<|xv 4))
  (cP<|dT<|jw_ (aBu<|gA<|f6 u) aKg (dS x<|eP<|xv 3) (kF<|hU j7<|cO j7 j7)<|dP _)))),λV Q h=>?_]
 obtain⟨mk,I,J,N,fs,k,t,rfl,K8,D5,O,T,G,q⟩:=h;have v:("abcdef" : Str).cps.toList.length=6:=by decide
 refine#[show(sgX "abcdef").length<=1000000 by unfold sgX;rw[aA,v];decide,show cC _ _ _ _ _ (sgX "abcdef") _ _ from ?_];unfold sgX;generalize ("abcdef" : Str).cps.toList=L at v ⊢;refine mY (λc:Nat=>Dx.str #[[c].toArray]) (λc=>(p7 c).x) (λc U Ae P p=>#[(by show 1+1<=1000000;decide),by show 3<=1000000;decide,by show 4<=1000000;decide,p]) ?_;rw[bZ,show L.map (λc=>(p7 c).x)=(L.map p7).map Ch.x by rw[bL];rfl];have h6:jB (L.map p7)=6:=by rw[aBb,v]
 have C:(L.map p7).length=6:=by rw[aA,v]
 generalize L.map p7=S at h6 C ⊢;refine#[#[_,rfl,rfl],by show 2<=1000000;decide,by show 1<=1000000;decide,by show 1<=1000000;decide,by show 1<=1000000;decide,by show 3<=1000000;decide,(by show(0:Int)<3;decide),?_];show(match atI [Dx.lst [(Ch.drop "none").x],Dx.lst [Dx.tup [.str "gone"]],Dx.lst<|S.map Ch.x] ((((t.map Ch.x).length:Nat):Int)%3)with | some d=>_ | none=>False);have R:(t.map Ch.x).length=t.length:=aA ..;have W:("none" : Str)∉nms (gos fs k t):=λz=>by obtain⟨e,he,h⟩:=aZ.mp z;exact G e he h
 have D:Nm "none":=#[by decide,by decide,λc U=>by have Z:c∈[110,111,110,101]:=U;simp at Z;lia];have u:t.length%3=0\/t.length%3=1\/t.length%3=2:=by lia
 rcases u with u | u | u
 rw [show ((((t.map Ch.x).length:Nat):Int) % 3)=((0:Nat):Int) by lia,k_ (j:=0) rfl];refine#[by show(t.map Ch.x).length+1<=1000000;lia,?_];refine#[mk,I,J,N,fs,_,rfl,#[by lia,by show(t.map Ch.x++[_]).length<=100;rw[aI,R];show _+1<=100;lia,.inl #[k,t,_,rfl,O,T,.inl #["none",rfl,D,W]]],?_];exact#[#[a,rfl,y],rfl,by show 3<=1000000;decide,[true,false,true],[true,false,true],rfl,rfl,rfl,q];rw [show ((((t.map Ch.x).length:Nat):Int) % 3)=((1:Nat):Int) by lia,k_ (j:=1) rfl];refine#[by show(t.map Ch.x).length+1<=1000000;lia,?_];refine#[mk,I,J,N,fs,_,rfl,#[by lia,by show(t.map Ch.x++[_]).length<=100;rw[aI,R];show _+1<=100;lia,.inl #[k,t,_,rfl,O,T,.inr rfl]],?_];exact#[#[a,rfl,y],rfl,by show 3<=1000000;decide,[true,false,true],[true,false,true],rfl,rfl,rfl,q];rw [show ((((t.map Ch.x).length:Nat):Int) % 3)=((2:Nat):Int) by lia,k_ (j:=2) rfl];refine#[by show(t.map Ch.x).length+(S.map Ch.x).length<=1000000;rw[aA,aA];lia,?_];refine#[mk,I,J,N,fs,_,rfl,#[by lia,by show(t.map Ch.x++S.map Ch.x).length<=100;rw[aI,aA,aA];lia,.inr #[t++S,(aY).symm,by rw[aNo];lia]],?_];exact#[#[a,rfl,y],rfl,by show 3<=1000000;decide,[true,false,true],[true,false,true],rfl,rfl,rfl,q]
end
def Mid(fs:S6)(k0 k:Nat)(G:S6):Prop:=(nms G).Nodup/\∃A B,G=A++B/\(∀e∈A,e∈fs)/\(∀e∈B,e.pl=none/\k0<=e.ix/\e.ix<k/\e.Ok)/\(B.map (·.ix)).Nodup/\B.length+k0<=k
def tV(h:(nms fs).Nodup):Mid fs k k fs:=#[h,fs,[],(aP _).symm,λ_ h=>h,λ_ h=>(nomatch h),iA,by show 0+k<=k;lia]
def aLa{c:Ch}(h:Mid fs k0 k G)(v:k0<=k)(u:c.Ok G):Mid fs k0 (c.ct k)<|c.go G k:=by
 obtain⟨o,A,B,rfl,l,j,m,C⟩:=h;cases c with
 |drop nm => refine#[?_,A.filter λe=>!decide (e.nm=nm),B.filter λe=>!decide (e.nm=nm),cT ..,λe f=>l e (cU.mp f).1,λe f=>j e (cU.mp f).1,?_,?_];exact o.sublist<|List.Sublist.map _ List.filter_sublist;exact m.sublist<|List.Sublist.map _ List.filter_sublist;have:=dB (fun e:Fe => !decide (e.nm=nm)) B;show _+k0<=k;lia
 |add nm y z =>
  obtain⟨p,q,r,s,t⟩:=u;refine#[?_,A,B++[#[nm,k,y,z,none]],bN ..,l,λe f=>?_,?_,?_];show (nms<|A ++ B ++ [_]).Nodup;unfold nms;rw[aY];refine bS.mpr #[o,by simp,λa g b i=>?_];rw[List.map_singleton,aF]at i;rintro rfl;rw[i]at g;exact q g;rcases aX.mp f with f | f
  obtain ⟨a,b,c,d⟩:=j e f;exact#[a,b,by show e.ix<k+1;exact Nat.lt_add_right 1 c,d];rw [aF.mp f];exact#[rfl,v,Nat.lt_succ_self k,#[p,r,s,t]];rw [aY];refine bS.mpr #[m,by simp,λa g b i=>?_];rw[List.map_singleton,aF]at i;obtain⟨e,f,rfl⟩:=aZ.mp g;have:=(j e f).2.2.1;rintro rfl;lia;rw [aI];show B.length+1+k0<=k+1;lia
def bHa(k:Nat)(c:Ch):k<=c.ct k:=by cases c<;>simp only[Ch.ct]<;>lia
def wY:∀{cs} {G} {k},Mid fs k0 k G->k0<=k->chs G k cs->Mid fs k0 (cts k cs) (gos G k cs)
 | [],_,_,h,_,_=>h
 |c::r,G,k,h,hk,hc=>wY (cs:=r) (aLa h hk hc.1) (nzL hk<|bHa k c) hc.2
def oP:∀{cs} {k},cts k cs=k+jB cs
 | [],k=>rfl
 |c::r,k=>by
  show cts (c.ct k) r=_;rw[oP (cs:=r)];unfold jB;cases c with
  |drop nm=>rfl
  |add nm a b=>show k+1+_=k+(_+1);lia
def aLn{fs G:S6}(f:∀e∈fs,∃p,e.pl=some p)(e:G=A++B)(b:∀e∈A,e∈fs)(c:∀e∈B,e.pl=none/\k0<=e.ix/\e.ix<k/\e.Ok):kpF G=A/\nwF G=B:=by
 subst e;have g:A.filter (·.pl.isSome)=A:=List.filter_eq_self.mpr λe a=>by obtain⟨p,h⟩:=f e<|b e a;rw[h];rfl
 have i:A.filter (·.pl.isNone)=[]:=cW.mpr λe a=>by obtain⟨p,h⟩:=f e<|b e a;rw[h];simp
 have j:B.filter (·.pl.isSome)=[]:=cW.mpr λe a=>by rw[(c e a).1];simp
 have l:B.filter (·.pl.isNone)=B:=List.filter_eq_self.mpr λe a=>by rw[(c e a).1];rfl
 unfold kpF nwF;rw[cT,cT,g,i,j,l];exact#[aP _,bZ _]
structure Hist(ms:Mks)(ly:S5)(k:Nat):Prop where
 plc:∀p∈ms,kO p.1/\∀e∈p.1,e.Ok/\e.ix<k/\∃s∈ly,e.pl=some s.1
 uni:∀p∈ms,∀p'∈ms,∀e∈p.1,∀e'∈p'.1,(e.ix=e'.ix->e=e')/\(e.pl=e'.pl->e.ix=e'.ix)
 mid:∀(a b c:Nat) (p q r:S6×Int) (e:Fe),a<=c->c<=b->ms[a]? = some p->ms[b]? = some q->ms[c]? = some r->e∈p.1->e∈q.1->e∈r.1
def aMr(c:(nms gs).Nodup)(a:e∈gs):gs.find? (λx=>decide (x.nm=e.nm))=some e:=by
 induction gs with
 |nil=>cases a
 |cons g r f =>
  have b:=bW.mp c;rw[fU];rcases aE.mp a with rfl | a
  rw[dzT rfl];have:g.nm≠e.nm:=fun z=>b.1<|aZ.mpr #[e,a,z.symm];rw[dzF this];exact f b.2 a
def aRi(h:Hist m ly k)(z:a<=b)(u:m[a]? = some p)(t:m[b]? = some q)(i:e∈p.1):shB q.1 e=true↔∀(c:Nat) (r:S6×Int),a<=c->c<=b->m[c]? = some r->∃f∈r.1,f.ix=e.ix:=by have j:=bA u;have l:=bA t;unfold shB zX;rw[decide_eq_true_eq];constructor;intro v c r A B E;obtain⟨s,_,hs2⟩:=((h.plc p j).2 e i).2.2;rw[hs2]at v;obtain⟨f,D,y⟩:=bR.mp v;have g:=List.mem_of_find?_eq_some D;have o:=(h.uni p j q l e i f g).2 (by rw[hs2,y]);have:e=f:=(h.uni p j q l e i f g).1 o;subst this;exact#[e,h.mid a b c p q r e A B u t E i g,rfl];intro C;obtain⟨f,g,o⟩:=C b q z (aO b) t;have:e=f:=(h.uni p j q l e i f g).1 o.symm;subst this;rw[aMr (h.plc q l).1.2.1 g];rfl
def aLk{fs G:S6}{k0 k m:Nat}{ly:S5}(t:∀e∈fs,∃p,e.pl=some p)(s:Mid fs k0 k G){e:Fe}(a:e∈dE G ly):e∈fs\/∃(i:Nat) (x:Fe),(nwF G)[i]? = some x/\i<(rsF G).length/\(x.pl=none/\k0<=x.ix/\x.ix<k/\x.Ok)/\e=x.put (pk (dpP (rsF G) ly) i):=by
 obtain⟨z,A,B,q,f,g,v,y⟩:=s;obtain⟨l,o⟩:=aLn t q f g;unfold dE at a;rcases aX.mp a with a | a
 rw [l] at a;exact .inl<|f e a;obtain ⟨x,u,rfl⟩:=aZ.mp a;obtain⟨i,j⟩:=eQ u;obtain⟨b,r⟩:=cY.mp j;have h:=(aL.mp b).1;refine .inr #[i,x.1,b,by rw[em_,aA];exact h,?_,?_];rw [o] at b;exact g x.1<|bA b;have c:pk (dpP (rsF G) ly) i=x.2:=by unfold pk; rw [aU,r]; rfl
 rw[c]
def aKw(i:∀e∈fs,∃p,e.pl=some p)(f:Mid fs k0 k G):((nwF G).map (·.ix)).Nodup/\(nwF G).length+k0<=k:=by obtain⟨j,A,B,a,b,c,g,h⟩:=f;rw[(aLn i a b c).2];exact#[g,h]
def aLb(f:Mid fs k0 k G)(g:∀e∈fs,e.Ok):∀e∈G,e.Ok:=by
 obtain⟨j,A,B,rfl,b,c,h,i⟩:=f;intro e a;rcases aX.mp a with a | a
 exact g e<|b e a;exact(c e a).2.2.2
def kz_(y:∀e∈fs,∃p,e.pl=some p)(t:Mid fs k0 k G)(u:Rs2<|rsF G)(s:LyOk m ly){C:Type}(g:Fe->C)(v:∀e p,g (e.put p)=g e):(dE G ly).map g=G.map g:=by
 obtain⟨F,A,B,f,o,q,D,E⟩:=t;obtain⟨i,j⟩:=aLn y f o q;have h:(dpP (rsF G) ly).length=(nwF G).length:=by rw[(lh_ (ly:=ly) u.1 s.1).len,em_,aA]
 have b:∀(l:S6) (a:S7),a.length=l.length->((l.zip a).map λx=>x.1.put x.2).map g=l.map g:=by
  intro l
  induction l with
  |nil=>intro a _;rfl
  |cons x r z =>
   intro a c;cases a with
   |nil=>simp at c
   |cons p a => show g (x.put p)::_=g x::_;rw[v];exact congrArg (g x :: ·)<|z a<|by simpa using c
 unfold dE;rw[aY,b _ _ h,i,j,f,aY]
def uE(h:Hist ms ly k)(hl:ms[ms.length-1]? = some (fs,r0))(J:Mid fs k k' G)(L:Rs2<|rsF G)(I:LyOk m ly)(y:ly'.Perm<|ly++lV (rsF G) ly)(Q7:k<=k')(G6:G.length<=1000):Hist (ms++[(dE G ly,r)]) ly' k':=by
 have C:=bA hl;have d:=h.plc _ C;have F:=d.1.1;have j:=λ{e:Fe} (f:e∈dE G ly)=>aLk (m:=m) F J f;have Bn:=aKw F J;have A:∀{p},p∈ms++[(dE G ly,r)]->p∈ms\/p=(dE G ly,r):=λy=>by
  rcases aX.mp y with y | y
  exact .inl y;exact .inr<|aF.mp y
 have l:∀{p e i x},p∈ms->e∈p.1->(nwF G)[i]? = some x->i<(rsF G).length->(x.pl=none/\k<=x.ix/\x.ix<k'/\x.Ok)->e.ix≠x.ix/\e.pl≠some (pk (dpP (rsF G) ly) i):=λ{p e i x} v f u t o=>by obtain⟨_,hk,s,hs,Ev⟩:=(h.plc p v).2 e f;refine#[by lia,λz=>?_];rw[Ev]at z;exact(aJq L I t).1 s hs<|ozI z
 refine#[λp v=>?_,λp v p' B e f O g=>?_,λa b c p q s e Rl W N6 Qv Y f g=>?_];rcases A v with v | rfl
 obtain ⟨a,b⟩:=h.plc p v;refine#[a,λe f=>?_];obtain⟨D,S,s,T,U⟩:=b e f;exact#[D,aV S Q7,s,y.mem_iff.mpr<|aM _ T,U];refine #[#[fun e f => ?_,?_,?_],fun e f => ?_];rcases j f with f | ⟨i,x,u,t,o,rfl⟩
 exact F e f;exact`r;show ((dE G ly).map (·.nm)).Nodup;rw[kz_ F J L I (·.nm) λ_ _=>rfl];exact J.1;have:=congrArg List.length (kz_ (ly:=ly) F J L I (·.nm) fun _ _=>rfl);rw[aA,aA]at this;exact le_of_eq_of_le this G6;rcases j f with f | ⟨i,x,u,t,o,rfl⟩
 obtain ⟨D,S,s,T,U⟩:=d.2 e f;exact#[D,aV S Q7,s,y.mem_iff.mpr<|aM _ T,U];refine #[#[o.2.2.2.nm,o.2.2.2.fit,o.2.2.2.deep,o.2.2.2.val],o.2.2.1,(pk (dpP (rsF G) ly) i,pk (dpP (rsF G) ly) i + (rk (rsF G) i).1),y.mem_iff.mpr<|aJ _ ?_,rfl];have F9:=(lh_ (ly:=ly) L.1 I.1).len;have Mg:=aG t;have Re:=aG (i:=i)<|eI t<|id<|Eq.symm F9;refine aZ.mpr #[((rsF G)[i],(dpP (rsF G) ly)[i]),bA<|cY.mpr #[Mg,Re],?_];have e1:=tH Mg;have e2:pk (dpP (rsF G) ly) i=(dpP (rsF G) ly)[i]:=by unfold pk;rw[aU,Re];rfl
 rw[e1,e2];rfl;rcases A v with v | rfl
 rcases A B with B | rfl
 exact h.uni p v p' B e f O g;rcases j g with g | ⟨i,x,u,t,o,rfl⟩
 exact h.uni p v _ C e f O g;obtain ⟨a,b⟩:=l v f u t o;exact#[λz=>absurd z a,λz=>absurd z b];rcases A B with B | rfl
 rcases j f with f | ⟨i,x,u,t,o,rfl⟩
 exact h.uni _ C p' B e f O g;obtain ⟨a,b⟩:=l B g u t o;exact#[λz=>absurd z.symm a,λz=>absurd z.symm b];rcases j f with f | ⟨i,x,u,t,o,rfl⟩
 rcases j g with g | ⟨M,x',H,R,M3,rfl⟩
 exact h.uni _ C _ C e f O g;obtain ⟨a,b⟩:=l C f H R M3;exact#[λz=>absurd z a,λz=>absurd z b];rcases j g with g | ⟨M,x',H,R,M3,rfl⟩
 obtain ⟨a,b⟩:=l C g u t o;exact#[λz=>absurd z.symm a,λz=>absurd z.symm b];refine #[fun z => ?_,fun z => ?_];have Z:x.ix=x'.ix:=z;have g1:((nwF G).map (·.ix))[i]? = some x.ix:=by rw[bK,u];rfl
 have g2:((nwF G).map (·.ix))[M]? = some x.ix:=by rw[bK,H,Z];rfl
 have K5:=(aL.mp g1).1;have:i=M:=(List.getElem?_inj K5 Bn.1).mp<|g1.trans g2.symm;subst this;rw[u]at H;cases H;rfl;have Z:=z;by_cases c:i=M;grind;exact absurd (ozI Z)<|(aJq L I t).2 M R c;have N:∀ {n p},(ms ++ [(dE G ly,r)])[n]? = some p→(n < ms.length∧ms[n]? = some p)∨(n=ms.length∧p=(dE G ly,r)):=fun {n p} E=>by
  by_cases c:n<ms.length;rw [cZ c] at E;exact .inl #[c,E];rw [bX<|eJ c] at E;have:=(aL.mp E).1;have c2:n-ms.length=0:=by simp at this;exact Eq.symm<|Nat.add_right_cancel<|congrFun (congrArg HAdd.hAdd<|id<|Eq.symm this) k
  rw[c2]at E;exact .inr #[by lia,(ozI E).symm]
 rcases N Y with⟨c1,V⟩ | ⟨c1,rfl⟩
 rcases N N6 with ⟨a1,Q⟩ | ⟨a1,_⟩
 rcases N Qv with ⟨D,Nz⟩ | ⟨D,rfl⟩
 exact h.mid a b c p q s e Rl W Q Nz V f g;rcases j g with g | ⟨i,x,u,t,o,rfl⟩
 exact h.mid a (ms.length-1) c p (fs,r0) s e Rl (Nat.le_sub_one_of_lt c1) Q hl V f g;exact absurd rfl (l (bA Q) f u t o).1;lia;rcases N Qv with ⟨D,_⟩ | ⟨D,rfl⟩
 lia;exact g
def aMb(C:Mid [] 0 k' G)(D:Rs2<|rsF G)(B:LyOk m [])(g:ly'.Perm<|lV (rsF G) [])(l:G.length<=1000):Hist [(dE G [],r)] ly' k':=by
 have t:Hist [(([]:S6),(0:Int))] [] 0:=#[λp g=>by
  rw[aF.mp g];exact#[#[λe f=>(nomatch f),iA,by decide],λe f=>(nomatch f)],λp g j i e f=>by
  rw[aF.mp g]at f;exact(nomatch f),λa b c p q s e _ _ o _ _ f=>by
  have:=bA o;rw[aF.mp this]at f;exact(nomatch f)]
 have h:=uE (r:=r) t (fs:=[]) (r0:=0) rfl C D B g (bM _) l;refine#[λp g=>h.plc p<|aC _ g,λp g j i=>h.uni p (aC _ g) j<|aC _ i,λa b c p q s e u v y z A=>h.mid (a+1) (b+1) (c+1) p q s e (gB u 1) (gB v 1) y z A]
abbrev fR(xs:S4):S1:=xs.map Dx.str
def gA0:GC:=λa Q=>∃x:Str,a=[.str x,.str x]/\Q (.tr<|.bl true)
def gAL:GC:=λb Q=>∃a:S4,b=[.lst<|fR a,.lst<|fR a]/\a.length<=1000/\Q (.tr<|.bl true)
def Fe.n(e:Fe):Dx:=.tup [.str e.nm,.int (e.ix:Int),e.kd.x]
def gQ(a:Mks):S1:=a.map λp=>.lst<|p.1.map Fe.n
def gRI(C:Addr):GC:=λf Q=>∃(c:Mks) (e:S5) (g:Int) (k a b:Nat),f=[hsT C (gT c) e g,.lst<|gQ c,.int (a:Int),.int (b:Int)]/\Hist c e k/\a<=b/\b<c.length/\c.length<=1000/\Q (.tr<|.bl true)
section
variable{f:Addr}{n j:Nat}{b C_House:Addr}
def aZo(F:Fun K "_law_alike" "_law_alike" gx_ f fd)(a:Cal P w K mg base 0 "_law_alike" AZ<|spX λ_ _=>False)(B:Blt mg):FnOk P w K mg base CX0 1 f fd AZ<|spX gA0:=by
 refine jO F eb_ (λg=>(cE (iC (jD<|oX .list .tuple B.isinstance `h (qG<|lK (iq_ rfl B.list lp_ rfl)<|lK (iq_ rfl B.tuple ju_ rfl) i4)) (cE (u7<|XW.pt<|f8 (kJ (lE .list `e)<|lE .list `h)<|i5<|kJ (lE .tuple `e)<|lE .tuple `h)
  (cE (u7<|kJ (nI `e)<|nI `h)
  (cP<|dT<|vF (mS eb_ [0,1] (bt_ B.range<|eP<|nI `h) (cj_<|lJ<|jD<|dS a<|cO (kK K `h `e)<|kK K (xv 2) `e) `e)<|kF jK))) iH)
  (cE (iC (jD<|lE .str `h) (cP<|dT<|uQ (lE .str `e)<|k7<|vF `e `h) iH)
  (cP<|dT<|uQ (lE .int `e)<|uQ (m6<|lE .bool `e)<|k7<|vF `e `h)))) λe Q h=>?_
 obtain⟨x,rfl,q⟩:=h;refine#[rfl,?_];refine kZ (ρ':=[vT<|.str x,vT<|.str x]) (λQ q=>q) ?_;refine eg_ true (ρ':=[vT<|.str x,vT<|.str x]) (λQ q=>q) (λ_=>?_) (λc=>by cases c);show Q (.tr<|.bl<|decide (x=x));rw[dzT rfl];exact q
def aZl(F:Fun K "_law_alike" "_law_alike" gx_ f fd)(o:Cal P w K mg base 1 "_law_alike" AZ<|spX gA0)(B:Blt mg):FnOk P w K mg base CX0 2 f fd AZ<|spX gAL:=by
 refine jO F eb_ (λz=>(cE (iC (jD<|oX .list .tuple B.isinstance `h (qG<|lK (iq_ rfl B.list lp_ rfl)<|lK (iq_ rfl B.tuple ju_ rfl) i4)) (cE (u7<|XW.pt<|f8 (kJ (lE .list `e)<|lE .list `h)<|i5<|kJ (lE .tuple `e)<|lE .tuple `h)
  (cE (u7<|kJ (nI `e)<|nI `h)
  (cP<|dT<|vF (mS eb_ [0,1] (bt_ B.range<|eP<|nI `h) (cj_<|lJ<|jD<|dS o<|cO (kK K `h `e)<|kK K (xv 2) `e) `e)<|kF jK))) iH)
  (cE (iC (jD<|lE .str `h) (cP<|dT<|uQ (lE .str `e)<|k7<|vF `e `h) iH)
  (cP<|dT<|uQ (lE .int `e)<|uQ (m6<|lE .bool `e)<|k7<|vF `e `h)))) λv Q h=>?_
 obtain⟨c,rfl,y,q⟩:=h;refine#[rfl,?_];have e:(fR c).length=c.length:=aA ..;refine eg_ true (ρ':=[vT<|.lst<|fR c,vT<|.lst<|fR c]) (λQ q=>q) (λ_=>?_) (λs=>by cases s);refine kZ (ρ':=[vT<|.lst<|fR c,vT<|.lst<|fR c]) (λQ q=>q) ?_;refine kZ (ρ':=[vT<|.lst<|fR c,vT<|.lst<|fR c]) (λQ q=>?_) ?_;show Q (!decide (((fR c).length:Int)=((fR c).length:Int))) _;rw[dzT rfl];exact q;refine #[#[by rw [e]; exact Int.neg_ofNat_le_natCast (2 ^ 62) c.length,by rw [e]; lia],?_];refine#[show(gJ 0 (((fR c).length:Int)).toNat).length<=1000000 by unfold gJ;rw[aA,bV,e];lia,show cC _ _ _ _ _ (gJ 0 (((fR c).length:Int)).toNat) _ _ from ?_];refine cb_ (λk:Nat=>Dx.int<|0+(k:Int)) (λk:Nat=>Dx.int<|0+(k:Int)) (λ_=>false) (λk t l P p=>?_) ?_;have m:=cR.mp t;obtain⟨x,u⟩:∃x,c[k]? = some x:=#[_,aG<|eI m e];have g:atI (fR c) (0+(k:Int))=some (.str x):=by rw[gR];exact k_ (by rw[bK,u];rfl)
 show(match atI (fR c) (0+(k:Int))with | some d=>_ | none=>False);rw[g];show(match atI (fR c) (0+(k:Int))with | some d=>_ | none=>False);rw[g];refine#[x,rfl,?_];have i:P (l++[]) _:=p;rw[aP]at i;exact i;rw [cW.mpr<|fun a r=>bH];exact#[bM _,q]
end
def aNd(f:α->β)(l:List α)(b a:T7):iY (l.map f) b a=(iY l b a).map f:=by unfold iY;rw[aA,<-List.map_drop,<-List.map_take]
def yA{a b:Nat}(o:a<=b)(m:b<l.length){r:α}:r∈iY l (some (a:Int)) (some<|(b:Int)+1)↔∃c,a<=c/\c<=b/\l[c]? = some r:=by
 have e:iY l (some (a:Int)) (some<|(b:Int)+1)=(l.drop a).take (b+1-a):=by unfold iY;rw[show((b:Int)+1)=((b+1:Nat):Int) by exact Int.ofNat_add_one_out b,HT.sIx_nat,HT.sIx_nat,Nat.min_eq_left<|Nat.succ_le_of_lt m,Nat.min_eq_left `a]
 rw[e];constructor;intro h;obtain⟨i,f⟩:=eQ h;rw[List.getElem?_take]at f;split at f;rw [List.getElem?_drop] at f;exact#[a+i,dF a i,by lia,f];cases f;rintro ⟨c,g,p,j⟩;refine bA (i:=c-a) ?_;rw[List.getElem?_take,if_pos `a,List.getElem?_drop,show a+(c-a)=c by exact Nat.add_sub_of_le g];exact j
def zO:∀{xs:T3},((xs.map λk:Nat=>Dx.int (k:Int)).filterMap scV)=xs.map λk:Nat=>V.int (k:Int)
 | []=>rfl
 |x::xs=>by rw[bQ,gK,zO];rfl
def zP:∀{xs:T3},((xs.map λk:Nat=>Dx.int (k:Int)).all λd=>(scV d).isSome)=true
 | []=>rfl
 |x::xs=>by rw[bQ,List.all_cons,zP];rfl
def aLy{x:Nat}{xs:T3}:inV (.int (x:Int)) (xs.map λk:Nat=>V.int (k:Int))=decide (x∈xs):=by
 rw[fV,decide_eq_true_eq];unfold inV;rw[List.any_map,List.any_eq_true];constructor;rintro ⟨y,b,e⟩;have a:=e;have:y=x:=by have:=eq_of_beq a;exact Int.ofNat_inj.mp this
 rw[<-this];exact b;intro h;exact#[x,h,(beq_self_eq_true (x:Int):((x:Int) == (x:Int))=true)]
def bAs{i j k}{a b c}{ρ}{Q}(h:Q<|((ρ.set i<|vT a).set j<|vT b).set k<|vT c):gxT [i,j,k] (.tup [a,b,c]) ρ Q:=h
abbrev eR(fs a:S6):S4:=(fs.filter λe=>shB a e == true).map (·.nm)
section
variable{f:Addr}{n j:Nat}{g C_House:Addr}
abbrev riE(C:Addr)(c:Mks)(ly:S5)(e:Int)(a b:Nat)(r:T1):En:=.v (.tr<|hsT C (gT c) ly e)::vT (.lst<|gQ c)::vT (.int (a:Int))::vT (.int (b:Int))::r
def aXv(F:Fun K "_law_right" "_law_right" gv_ f fd)(M5:nB P w K mg base 5 "steady_names" AD<|spE<|gSN C_House g)(J5:Cal P w K mg base 2 "_law_alike" AZ<|spX gAL):FnOk P w K mg base CX0 6 f fd AV<|spX<|gRI C_House:=by
 refine xT F fJ (λds Q h=>by obtain⟨_,_,_,_,_,_,rfl,_⟩:=h;rfl) `b λAi A a1 s H E y=>?_;refine#[_,(cE (fS fJ 4<|kF jK)
  (cE (k9 PassesOwn.never rfl (lA<|kK K `h (xv 2)) (ko_ rfl<|sP (kI (i:=5) fJ.nd rfl `q)<|sP (kI (i:=6) fJ.nd rfl<|Or.inr rfl)<|sP (kI (i:=7) fJ.nd rfl `q) eu_) (jg_ (n:=99) (is:=[5,6,7]) rfl `b)<|cP<|iC (kS (mS fJ [6] (lA<|yQ K `h (if_<|xv 2) (if_<|lN (xv 3) cQ)) (cj_<|yD (aEx K) (aTs true) `h (vG (hsc:=zR (dsc:=aQ gv_) rfl rfl `c) (dsc:=yE { kind:=ScopeKind.function,names:=[(".0",NameKind.local),("make",NameKind.local),("k",NameKind.free)],isGenerator:=false,isCoroutine:=false }) (N:=["make","k"]) (tgs:=["more","other","kind"]) (outs:=[]) (N':=["more","other","kind"]) (by refine#[rfl,?_,?_,?_,rfl,?_,?_,?_]<;>decide +kernel) (lA `e) (λ_ _ _ _ _=>(wJ K (n:=3) rfl rfl<|sP (kI (i:=0) (show(["more","other","kind"]:S4).Nodup by decide +kernel) rfl `q (.inr rfl))<|sP (kI (i:=1) (show(["more","other","kind"]:S4).Nodup by decide +kernel) rfl `q (.inr rfl))<|sP (kI (i:=2) (show(["more","other","kind"]:S4).Nodup by decide +kernel) rfl `q (.inr rfl)) eu_)) (jg_ (n:=3) (is:=[0,1,2]) rfl `b) (nW<|cl_ `b (cl_ `b (cl_ `b jk_ ck_) (dr_ ck_)) (dr_<|dr_ ck_)) (λ_ _ _ _ _=>lO)<|λ_ _ _ _ _=>`h) (by with_unfolding_all rfl)) cQ)<|kF jK) (cP<|ek_ 4<|xv 5) iH)
  (cE (fS fJ 8<|dn_ M5 (y.mono `a)<|hU `e (cO (xv 2)<|xv 3))
  (cE (u7<|lJ<|jD<|aDz (i:=8) J5 (y.mono `a) (pv 8)<|eP<|xv 4)
  (cE (ek_ 8 jR)
  (cP<|dT<|dS J5<|cO (dn_ M5 (y.mono `a)<|hU `e (cO (xv 2)<|xv 3))<|xv 4)))))),λds Q h=>?_]
 obtain⟨o,t,u,k,a,b,rfl,L,J,G,Oi,q⟩:=h;obtain⟨p,M⟩:∃p,o[a]? = some p:=#[_,aG `a];obtain⟨m,T⟩:∃p,o[b]? = some p:=#[_,aG G];have S:=(L.plc p<|bA M).1;have Dr:=(L.plc m<|bA T).1;have G4:(eR p.1 m.1).length<=1000:=by unfold eR;rw[aA];exact nzL (dB _ _) S.2.2
 have sn:∀{Q:Sv->Prop},Q (.ol<|fR<|eR p.1 m.1)->gSN C_House g [hsT C_House (gT o) t u,.int (a:Int),.int (b:Int)] Q dQ:=λ{Q} q=>by refine#[o,t,u,_,_,rfl,trivial,trivial,.inl #[a,b,p,m,rfl,rfl,M,T,S,Dr,λ_=>?_,λz=>absurd z `a]];rw[show(p.1.filter λe=>shB m.1 e == true).map (λe=>Dx.str e.nm)=fR (eR p.1 m.1) by unfold fR eR;rw[bL];rfl];exact q
 have Ql:∀{r:T1} {Q:Sv->En->Prop},Q (.ol<|fR<|eR p.1 m.1) (riE C_House o t u a b r)->vL dQ (gSN C_House g) (bI (cA 0)<|bI (cA 2)<|bI (cA 3) cG) (riE C_House o t u a b r) Q:=λ{r Q} q=>sn (Q:=λs=>Q s<|riE C_House o t u a b r) q;refine#[bM _,?_];dsimp only;change cX (lC _ _ _) _ (riE C_House o t u a b [.v<|.ol<|fR [],.un,.un,.un,.un]) _;refine cs_ (λv=>∃B C D:Sl,v=riE C_House o t u a b [.v<|.ol<|fR<|eR p.1 m.1,B,C,D,.un]) ?_<|λnx Dw=>?_;rintro v ⟨B,C,D,rfl⟩;refine j9 ?_;refine Ql ?_;refine kZ (ρ':=riE C_House o t u a b [vT<|.lst<|fR<|eR p.1 m.1,B,C,D,.v<|.ol<|fR<|eR p.1 m.1]) (λQ q=>?_) ?_;refine #[`r,?_];exact#[eR p.1 m.1,rfl,G4,true,rfl,q];refine #[rfl,by show (fR<|eR p.1 m.1).length + 1≤_; unfold fR; rw [aA]; lia,?_];dsimp only;change lT _ (riE C_House o t u a b [vT<|.lst<|fR<|eR p.1 m.1,B,C,D,.v<|.ol<|fR (eR p.1 m.1)++[.str "more"]]) _;refine u9<|aRm<|hc_ ?_;refine Ql ?_;exact#[eR p.1 m.1,rfl,G4,q];show (match atI (gQ o) (a:Int) with | some d=>_ | none=>False);rw[show atI (gQ o) (a:Int)=some (.lst<|p.1.map Fe.n)from k_ (by unfold gQ;rw[bK,M];rfl)];show iS _ _ _ (p.1.map Fe.n) _;refine x6 Fe.n (λrest v=>∃(l:S6) (B C D:Sl),p.1=l++rest/\v=riE C_House o t u a b [.v<|.ol<|fR<|eR l m.1,B,C,D,.un]) (λv h=>?_) (λe rest v Kn h hk=>?_) #[[],.un,.un,.un,rfl,rfl];obtain ⟨l,B,C,D,I,rfl⟩:=h;rw[aP]at I;exact Dw _ #[B,C,D,by rw[I]];obtain ⟨l,B,C,D,I,rfl⟩:=h;have a0:e∈p.1:=by rw[I];exact aJ _ aB
 have Nu:=aRi L J M T a0;have F9:l.length<=1000:=by have:=S.2.2;rw[I,aI]at this;lia
 have Kj:∀x:Fe,eR (l++[x]) m.1=eR l m.1++(if shB m.1 x=true then [x.nm]else []):=λx=>by unfold eR;rw[cT,aY,gN,List.filter_nil];cases shB m.1 x<;>rfl
 have Eg:∀v,v=riE C_House o t u a b [.v<|.ol<|fR<|eR (l++[e]) m.1,vT<|.str e.nm,vT<|.int (e.ix:Int),vT e.kd.x,.un]->Kn v:=λv h=>hk v #[l++[e],_,_,_,by rw[I,bN];rfl,h];refine bAs ?_;refine rA (shB m.1 e) (ρ':=riE C_House o t u a b [.v<|.ol<|fR<|eR l m.1,vT<|.str e.nm,vT<|.int (e.ix:Int),vT e.kd.x,.un]) (λQ q=>?_) (λG=>?_)<|λG=>?_;show (iY (gQ o) (some (a:Int))<|some<|(b:Int) + 1).length≤1000000∧cC _ _ _ _ _ (iY (gQ o) (some (a:Int))<|some<|(b:Int) + 1) _ _;unfold gQ;rw[aNd];refine#[?_,?_];rw [aA];unfold iY;rw[fG,iK];lia;refine cb_ (fun p:S6×Int=>Dx.lst<|p.1.map Fe.n) (fun _=>Dx.int 1) (fun r => !decide (e.ix∈r.1.map (·.ix))) (fun r y Ae P R => ?_) ?_;obtain ⟨c,_,_,V⟩:=(yA J G).mp y;have a2:=(L.plc r<|bA V).1.2.2;refine#[show(r.1.map Fe.n).length<=1000000 by rw[aA];lia,show cC _ _ _ _ _ (r.1.map Fe.n) _ _ from ?_];refine mY Fe.n (λx=>.int (x.ix:Int)) (λx O Ae P p=>p) ?_;rw[bZ,show r.1.map (λx=>Dx.int (x.ix:Int))=(r.1.map (·.ix)).map (λk:Nat=>Dx.int (k:Int)) by rw[bL];rfl];refine#[zP,?_];show if(!inV (.int (e.ix:Int)) (((r.1.map (·.ix)).map λk:Nat=>Dx.int (k:Int)).filterMap scV))=true then _ else _
 rw[zO,aLy];by_cases c:e.ix∈r.1.map (·.ix);rw [dzT c] at R ⊢;have m:P (Ae++[]) _:=R;rw[aP]at m;exact m;rw [dzF c] at R ⊢;exact R;refine #[bM _,?_];show Q (List.map (λ_=>Dx.int 1) ((iY o (some (a:Int))<|some<|(b:Int)+1).filter λr=>!decide (e.ix∈r.1.map (·.ix)))).isEmpty _;have G9:(List.map (λ_=>Dx.int 1) ((iY o (some (a:Int))<|some<|(b:Int)+1).filter λr=>!decide (e.ix∈r.1.map (·.ix)))).isEmpty=shB m.1 e:=by rw[fV,List.isEmpty_iff,eY,cW,Nu];constructor;intro h c r Y Z y;have:=h r<|(yA J G).mpr #[c,Y,Z,y];rw[Bool.not_eq_true',decide_eq_false_iff_not,Classical.not_not]at this;obtain⟨W,U,O⟩:=aZ.mp this;exact#[W,U,O];intro h r y;obtain⟨c,Y,Z,V⟩:=(yA J G).mp y;obtain⟨W,U,O⟩:=h c r Y Z V;rw[Bool.not_eq_true',decide_eq_false_iff_not,Classical.not_not];exact aZ.mpr #[W,U,O]
 rw[G9];exact q;refine #[rfl,by show (fR<|eR l m.1).length + 1≤_; unfold fR eR; rw [aA,aA]; have:=dB (fun e=>shB m.1 e == true) l; lia,Eg _ ?_];rw[Kj e,G,if_pos rfl];unfold fR;rw[aY];rfl;refine Eg _ ?_;rw[Kj e,G,if_neg `b,aP]
end
def gVA(n:Nat):GB:=λl e Q=>∃a:Kd,e=[a.x]/\gH l/\a.Fit/\a.deep<=n/\n<=5/\∀(c:Vd) (b:S1),a.Val c->gH b->Q (a.vx c) b
section
variable{f:Addr}{n j:Nat}
def aXm(F:Fun K "_law_value" "_law_value" gu_ f fd)(Dc:Cal P w K mg base 1 "_law_next" BH<|spB gNX)(H9:Cal P w K mg base (j+1) "_law_value" AR<|vU<|gVA n)(B:Blt mg) :
  FnOk P w K mg base CX0 (j+2) f fd AR (vU<|gVA<|n+1):=by
 refine bGn F fI (λl ds Q h=>by obtain⟨kd,rfl,_⟩:=h;rfl) `b `b λAi A a4 s H E hr=>?_;refine#[_,(cE (iC (kS `k jR) (cE (fS fI 2 cQ)
  (cE (k9 PassesOwn.never rfl (bt_ B.range<|eP `k) (kI (i:=3) fI.nd rfl `q) (i_ (n:=99) (i:=3) `b)<|cP<|fS fI 2<|lN (ey_ cQ<|xv 2)<|mW (oN 1 Dc jK) cQ)
  (cP<|dT<|dt_<|pv 2))) iH)
  (cE (iC (kS `k jR) (cP<|dT<|mS fI [0,1] (bt_ B.range<|eP `k) lO (fe_ (i:=2) H9 (hr.mono `a) (dL K `h)<|pv 2)) iH)
  (cE (iC (kS `k jR) (cP<|dT<|hf_ (iy_ rfl) xZ (by rfl) B.dict oR<|eP<|aAj fI [1] (lA `k) lO (kG<|cO `e (fe_ (i:=2) H9 (hr.mono `a) `h (pv 2)))) iH)
  (cE (fS fI 3<|mW (oN 1 Dc jK)<|nI `k)
  (cP<|dT<|kG<|cO (xv 3)<|fe_ (i:=1) H9 (hr.mono `a) (kK K `k (xv 3))<|pv 1))))),λl d Q h=>?_]
 obtain⟨kd,e,V,Z,G7,hn,q⟩:=h;cases e;cases kd with
 |num I m =>
  obtain⟨a1,a2,_⟩:=Z;refine eg_ true (ρ':=[vT (Kd.num I m).x,.bw l,.un,.un]) (λQ q=>q) (λ_=>?_) (λS=>by cases S);refine j9<|hw_ ?_;dsimp only;change cX (lC _ _ _) _ [vT (Kd.num I m).x,.bw l,vT<|.int 0,.un] _;refine cs_ (λJ=>∃(z:Int) (c:S1) (y:Sl),0<=z/\z<256^I.toNat/\gH c/\J=[vT (Kd.num I m).x,.bw c,vT<|.int z,y]) ?_<|λnx Dw=>?_;rintro J ⟨z,c,y,z0,z1,M,rfl⟩;exact q (.num z) c (by simp only[Kd.Val];exact#[z0,z1]) M;refine #[`o,?_];show iS _ _ _ (gJ 0 I.toNat) _;unfold gJ;refine x6 (λk:Nat=>Dx.int<|0+(k:Int)) (λrest J=>∃(i:Nat) (z:Int) (c:S1) (y:Sl),i+rest.length=I.toNat/\0<=z/\z<256^i/\gH c/\J=[vT (Kd.num I m).x,.bw c,vT<|.int z,y]) (λJ h=>?_) (λk rest J Kn h T=>?_) #[0,0,l,.un,by rw[bV];lia,by decide,by decide,V,rfl];obtain ⟨i,z,c,y,t,z0,z1,M,rfl⟩:=h;rw[bE,Nat.add_zero]at t;exact Dw _ #[z,c,y,z0,by rw[<-t];exact z1,M,rfl];obtain ⟨i,z,c,y,t,z0,z1,M,rfl⟩:=h;rw[aK]at t;have h8:=aWj (show i<=8 by lia);have a7:(256:Int)^8<2^65:=by decide
  refine#[#[by decide,by lia],?_];refine#[rfl,rfl,M,λr l2 W Aw=>#[by show(0:Int)<256;decide,?_]];have r1:(0:Int)<=r%256:=bT _ `b;have r2:r%256<256:=bU _ `b;refine T _ #[i+1,256*z+r%256,l2,vT<|.int<|0+(k:Int),by lia,by lia,?_,Aw,rfl];rw[Int.pow_succ];lia
 |row k m =>
  obtain⟨R,m1,m2⟩:=Z;have Ld:k.deep+1<=n+1:=G7;refine kZ (ρ':=[vT (Kd.row k m).x,.bw l,.un,.un]) (λQ q=>q) ?_;refine eg_ true (ρ':=[vT (Kd.row k m).x,.bw l,.un,.un]) (λQ q=>q) (λ_=>?_) (λS=>by cases S);refine#[`o,by show((List.range _).map _).length<=_;rw[aA,bV];lia,?_];refine eq_ (λk:Nat=>Dx.int<|0+(k:Int)) (λrest u D=>∃(p:List Vd) (c:S1),p.length+rest.length=m.toNat/\u=p.map k.vx/\D=[.v<|.tr (Kd.row k m).x,.bw c]/\(∀v∈p,k.Val v)/\gH c) (λu D h=>?_) (λa rest u D Pn h T=>?_) #[[],l,by rw[bV];simp,rfl,rfl,λ_ h=>(nomatch h),V];obtain ⟨p,c,t,rfl,rfl,hv,C⟩:=h;rw[bE]at t;have:=q (.row p) c (by simp only[Kd.Val];exact#[by lia,hv]) C;simp only[Kd.vx]at this;exact this;obtain ⟨p,c,t,rfl,rfl,hv,C⟩:=h;rw[aK]at t;refine#[k,rfl,C,R,by lia,by lia,λY U O N=>T _ _ #[p++[Y],U,by rw[aI,jQ];lia,by rw[aY];rfl,rfl,λv G=>?_,N]];rcases aX.mp G with G | G
  exact hv v G;rw[aF.mp G];exact O
 |rcd fs =>
  obtain⟨R,m1,m2,Bn⟩:=Z;have Ld:gL fs+1<=n+1:=G7;refine kZ (ρ':=[vT (Kd.rcd fs).x,.bw l,.un,.un]) (λQ q=>q) ?_;refine kZ (ρ':=[vT (Kd.rcd fs).x,.bw l,.un,.un]) (λQ q=>q) ?_;refine eg_ true (ρ':=[vT (Kd.rcd fs).x,.bw l,.un,.un]) (λQ q=>q) (λ_=>?_) (λS=>by cases S);show(xF fs).length<=1000000/\cC _ _ _ _ _ (xF fs) _ _;rw[gg_];refine#[by rw[aA];lia,?_];refine eq_ _ (λrest u D=>∃(g:T9) (p:List Vd) (c:S1),fs=g++rest/\u=(vxF g p).map (λkv=>.tup [lL kv.1,kv.2])/\D=[.bw c]/\jH g p/\gH c) (λu D h=>?_) (λfx rest u D Pn h T=>?_) #[[],[],l,rfl,by simp only[vxF];rfl,rfl,by simp only[jH],V];obtain ⟨g,p,c,t,rfl,rfl,hv,C⟩:=h;rw[aP]at t;subst t;have:=q (.rcd p) c (by simp only[Kd.Val];exact hv) C;simp only[Kd.vx]at this;refine#[vxF fs p,rfl,?_,this];rw[hg_<|ff_ hv];have e:(fs.map λf=>(Sum.inr f.1:Key))=(fs.map (·.1)).map (λx:Str=>(Sum.inr x:Key)):=by rw[bL];rfl
  rw[e];exact List.Pairwise.map _ (λa b h e=>h<|Sum.inr.inj e) Bn;obtain ⟨g,p,c,t,rfl,rfl,hv,C⟩:=h;have G:fx∈fs:=by rw[t];exact aJ _ aB
  obtain⟨ff,a6⟩:=aMp R G;have Jw:=ff_ hv;refine#[fx.2,rfl,C,ff,by lia,by lia,λY U O N=>#[by show 2<=1000000;decide,T _ _ #[g++[fx],p++[Y],U,by rw[t,bN];rfl,?_,rfl,sZ hv O,N]]];rw[yV Jw,aY];rfl
 |cho o =>
  obtain⟨R,m1,m2⟩:=Z;have Ld:dW o+1<=n+1:=G7;have b0:(xK o).length=o.length:=by rw[j_,aA]
  refine kZ (ρ':=[vT (Kd.cho o).x,.bw l,.un,.un]) (λQ q=>q) ?_;refine kZ (ρ':=[vT (Kd.cho o).x,.bw l,.un,.un]) (λQ q=>q) ?_;refine kZ (ρ':=[vT (Kd.cho o).x,.bw l,.un,.un]) (λQ q=>q) ?_;refine#[rfl,rfl,V,λW l1 b2 a0=>#[by show(0:Int)<((xK o).length:Int);lia,?_]];have hp:(0:Int)<((xK o).length:Int):=by lia
  have Na:(0:Int)<=W%((xK o).length:Int):=bT _ `a;have a5:W%((xK o).length:Int)<((xK o).length:Int):=bU _ hp;dsimp only;change lT _ [vT (Kd.cho o).x,.bw l1,.un,vT<|.int<|W%((xK o).length:Int)] _;generalize W%((xK o).length:Int)=r at Na a5 ⊢;have Cd:r.toNat<o.length:=by lia
  have L:=aG Cd;generalize o[r.toNat]=kc at L;obtain⟨kf,b1⟩:=aDa R<|bA L;have a3:(xK o)[r.toNat]? = some kc.x:=by rw[j_,bK,L];rfl
  have F1:=k_ a3;rw[Int.toNat_of_nonneg Na]at F1;show match atI (xK o) r with | some d=>_ | none=>False
  rw[F1];refine#[kc,rfl,a0,kf,by lia,by lia,λY U O N=>#[lD,?_]];have:=q (.cho r.toNat Y) U (by simp only[Kd.Val];exact aAr L O) N;simp only[Kd.vx]at this;rw[vM L,Int.toNat_of_nonneg Na]at this;exact this
end
mutual
def Dx.Pl:Dx->Prop
 | .int _=>True
 | .str _=>True
 | .tup l=>l.length<=100000/\kL l
 | .lst l=>l.length<=100000/\kL l
 |_=>False
def kL:S1->Prop
 | []=>True
 |d::r=>d.Pl/\kL r
end
mutual
def Kd.pln:∀k:Kd,k.Fit->k.x.Pl/\k.x.deep<=3*k.deep
 | .num w m,h=>by simp only[Kd.x,Dx.Pl,kL,Dx.deep,eM,Kd.deep,aK,bE];exact#[#[by decide,trivial,trivial,trivial,trivial],by decide]
 | .row k n,h=>by simp only[Kd.Fit]at h;obtain⟨a,b⟩:=Kd.pln k h.1;simp only[Kd.x,Dx.Pl,kL,Dx.deep,eM,Kd.deep,aK,bE];refine#[#[by decide,trivial,a,trivial,trivial],?_];lia
 | .rcd fs,h=>by
  simp only[Kd.Fit]at h;obtain⟨a,b⟩:=bEk fs h.1;have c:(xF fs).length<=100000:=by rw[jx_];lia
  simp only[Kd.x,Dx.Pl,kL,Dx.deep,eM,Kd.deep,aK,bE];refine#[#[by decide,trivial,#[c,a],trivial],?_];lia
 | .cho ks,h=>by
  simp only[Kd.Fit]at h;obtain⟨a,b⟩:=bEj ks h.1;have c:(xK ks).length<=100000:=by rw[gf_];lia
  simp only[Kd.x,Dx.Pl,kL,Dx.deep,eM,Kd.deep,aK,bE];refine#[#[by decide,trivial,#[c,a],trivial],?_];lia
def bEk:∀fs:T9,lM fs->kL (xF fs)/\eM (xF fs)<=3*gL fs+1
 | [],h=>#[by simp only[xF,kL],by simp only[xF,eM];lia]
 |f::r,h=>by simp only[lM]at h;obtain⟨a,b⟩:=Kd.pln f.2 h.1.2;obtain⟨c,d⟩:=bEk r h.2;have e:=Kd.deep_pos f.2;simp only[xF,kL,Dx.Pl,eM,Dx.deep,gL,aK,bE];refine#[#[#[by decide,trivial,a,trivial],c],?_];lia
def bEj:∀ks:T2,jJ ks->kL (xK ks)/\eM (xK ks)<=3*dW ks+1
 | [],h=>#[by simp only[xK,kL],by simp only[xK,eM];lia]
 |k::r,h=>by simp only[jJ]at h;obtain⟨a,b⟩:=Kd.pln k h.1;obtain⟨c,d⟩:=bEj r h.2;simp only[xK,kL,eM,dW];refine#[#[a,c],?_];lia
end
mutual
def Dx.tt:Dx->Dt
 | .int i=>.int i
 | .str x=>.str x
 | .tup l=>.tup (ttX l)
 | .lst l=>.lst (ttX l)
 |_=>.int 0
def ttX:S1->List Dt
 | []=>[]
 |d::r=>d.tt::ttX r
end
mutual
def u5{G H:Hp}(e:Same G H):∀(d:Dx) (x:V),d.Pl->IsX G d x->IsD H d.tt x
 | .int i,x,_,h=>by simp only[IsX]at h;simp only[Dx.tt,IsD];exact h
 | .str i,x,_,h=>by simp only[IsX]at h;simp only[Dx.tt,IsD];exact h
 | .tup l,x,hp,h=>by simp only[Dx.Pl]at hp;obtain⟨p,a,rfl,b,c⟩:=h.tup_eq;simp only[Dx.tt,IsD];exact#[p,a,rfl,e _ _ b,xL e l a hp.2 c]
 | .lst l,x,hp,h=>by simp only[Dx.Pl]at hp;obtain⟨p,a,rfl,b,c⟩:=h.lst_eq;simp only[Dx.tt,IsD];exact#[p,a,rfl,e _ _ b,xL e l a hp.2 c]
 | .bl _,_,hp,_=>by simp only[Dx.Pl]at hp
 | .non,_,hp,_=>by simp only[Dx.Pl]at hp
 | .dic _,_,hp,_=>by simp only[Dx.Pl]at hp
 | .scr _ _,_,hp,_=>by simp only[Dx.Pl]at hp
 | .ins _ _,_,hp,_=>by simp only[Dx.Pl]at hp
 | .exc _,_,hp,_=>by simp only[Dx.Pl]at hp
def xL{G H:Hp}(e:Same G H):∀(l:S1) (vs:S3),kL l->All2 (IsX G) l vs->IsDs H (ttX l) vs
 | [],vs,_,h=>by simp only[ttX,IsDs];exact h
 |d::r,vs,hp,h=>by simp only[kL]at hp;obtain⟨v,a,rfl,b,c⟩:=h;simp only[ttX,IsDs];exact#[v,a,rfl,u5 e d v hp.1 b,xL e r a hp.2 c]
end
mutual
def aAu:∀d:Dx,d.Pl->d.tt.deep<=d.deep
 | .int i,_=>by simp only[Dx.tt,Dt.deep,Dx.deep];lia
 | .str i,_=>by simp only[Dx.tt,Dt.deep,Dx.deep];lia
 | .tup l,hp=>by simp only[Dx.Pl]at hp;have:=pI l hp.2;simp only[Dx.tt,Dt.deep,Dx.deep];lia
 | .lst l,hp=>by simp only[Dx.Pl]at hp;have:=pI l hp.2;simp only[Dx.tt,Dt.deep,Dx.deep];lia
 | .bl _,hp=>by simp only[Dx.Pl]at hp
 | .non,hp=>by simp only[Dx.Pl]at hp
 | .dic _,hp=>by simp only[Dx.Pl]at hp
 | .scr _ _,hp=>by simp only[Dx.Pl]at hp
 | .ins _ _,hp=>by simp only[Dx.Pl]at hp
 | .exc _,hp=>by simp only[Dx.Pl]at hp
def pI:∀l:S1,kL l->kD (ttX l)<=eM l
 | [],_=>by simp only[ttX,kD,eM];lia
 |d::r,hp=>by simp only[kL]at hp;have a:=aAu d hp.1;have b:=pI r hp.2;simp only[ttX,kD,eM];lia
end
def All2.split{d:α}:∀{A} {c:List β},All2 g (A++d::B) c->∃A' v b,c=A'++v::b/\All2 g A A'/\g d v/\All2 g B b
 | [],c,⟨v,vr,e,h1,h2⟩=>#[[],v,vr,e,rfl,h1,h2]
 |a::A,c,⟨v,vr,e,h1,h2⟩=>by obtain⟨A',w,b,f,h,i,j⟩:=All2.split (A:=A) h2;exact#[v::A',w,b,by rw[e,f];rfl,#[v,A',rfl,h1,h],i,j]
def bCx(i:Nat)(t:XT):XS:=λc D=>((c[i]?).bind iR).isSome=true/\t c λs a=>∃l f A d B z e,(a[i]?).bind iR=some (l,f)/\l=A++d::B/\s.d=d/\d=.tup (.str z::e)/\d.Pl/\d.deep<=60/\(∀u∈A++B,∃b r,u=.tup (.str b::r)/\b≠z)/\D.nx (a.set i<|f<|A++B)
def aVj:∀D a H,tXS F (bCx i t) D a H->aAw (tBM K "list" aBh (fO i)<|lU (tX F t) sB) D a H:=by rintro D a H ⟨ρ,fr,dd,E,⟨q0,q⟩,k⟩;obtain⟨⟨l0,f0⟩,Y⟩:=cK.mp q0;obtain⟨p,ws,hv,hp⟩:=xD E Y;refine#[.ref p,hv,.inl #[rfl,ws,SqL.of hp],ρ,fr,_,E,q,λy s H' a1 o h=>?_];obtain⟨l,f,A,d,B,z,U,V,rfl,g,hd,b,Q,L,h⟩:=h;obtain⟨R,I⟩:=o.one;rw[g]at I;obtain⟨p',a0,m,O,hl,N⟩:=ef_ o.drop V;rw[hv]at m;cases m;obtain⟨J,v,M,rfl,C,e,G⟩:=hl.split;refine#[p,J,v,M,y,d.tt,z,rfl,rfl,O,u5 R.hv d v b e,u5 R.hv d y b I,nzL (aAu d b) Q,#[ttX U,by rw[hd];simp only[Dx.tt,ttX]],λu hu=>?_,k.nx a _ _ rfl (N _ _<|All2.app G C) h];obtain⟨j,hj⟩:=eQ hu;obtain⟨W,c,S⟩:=(All2.app G C).get hj;obtain⟨z',r,rfl,hz⟩:=L W<|bA c;obtain⟨T,us,rfl,Z,n⟩:=S.tup_eq;obtain⟨w,wr,rfl,x,h4⟩:=n;cases x.str_eq;exact#[T,wr,z',rfl,R.hv _ _ Z,hz]
def poolS:S4:=["a","ab","b","ba","abc","abcd","eightlet","eightles","length","lengths","count","counter"]
def km_:∀x∈poolS,Nm x/\x ≠ "none":=by
 intro x e;have a:∀x∈(["a","ab","b","ba","abc","abcd","eightlet","eightles","length","lengths","count","counter"]:S4),(decide (1<=(fX x).length)&&decide ((fX x).length<=8)&&(fX x).all (λc=>decide (97<=c)&&decide (c<=122))&&decide (x ≠ "none"))=true:=by decide +kernel
 have:=a x e;simp only[cM,decide_eq_true_eq,List.all_eq_true]at this;exact#[#[this.1.1.1,this.1.1.2,λc b=>this.1.2 c b],this.2]
def aMk:GC:=λa Q=>a=[]/\Q (.ol<|fR poolS)
def gMK:GB3:=λb c f Q=>gH b/\∃(fs:S6) (k:Nat),c=fs.map Fe.n/\f=[.int (k:Int)]/\fs.length<=50/\(nms fs).Nodup/\(∀e∈fs,e.Ok/\e.nm∈poolS)/\k<=20/\∀a:U3,chs fs k a->cts k a<=20->jB a<=5->a.length<=16->(∀e∈gos fs k a,e.nm∈poolS)->Q (.ol<|a.map Ch.x) ((gos fs k a).map Fe.n) [.int ((cts k a:Nat):Int)]
abbrev mkE(e:Addr)(b:S1)(f:Addr)(G:S6)(g:Addr)(c:Nat)(cs:U3)(a:Int)(r:T1):En:=.ba e b :: .ba f (G.map Fe.n) :: .ba g [.int (c:Int)] :: .v (.ol<|cs.map Ch.x)::vT (.int a)::r
def aTk : XS := (cX (iQ 3<|lB cG)
    (cX (iQ 4<|dY aCb<|bI (xC<|.int 20)<|bI (xOp aAa (rX ixP 2<|xC<|.int 0)<|xC<|.int 5) cG)
    (cX (lC (aHf<|bI (xOp sG (kU gNX 0 cG)<|xOp ixX (lB<|bI (xC<|.int 6)<|bI (xC<|.int 6)<|bI (xC<|.int 6)<|bI (xC<|.int 16) cG)<|xOp sG (kU gNX 0 cG)<|xC<|.int 4) cG) (gxN 5) (cX (iQ 6<|xOp ixX (dY aMk cG)<|xOp sG (kU gNX 0 cG)<|xC<|.int 12)
    (cX (xIf (bDi (xB<|rX (neP true) 1<|lB cG)<|xB<|xOp eqX (xOp sG (kU gNX 0 cG)<|xC<|.int 3)<|xC<|.int 0) (iQ 6<|xOp ixX (rX ixP 1<|xOp sG (kU gNX 0 cG)<|aEb 1)<|xC<|.int 0) jC)
    (cX (iQ 7<|m_ 1 1 [6] (gxN 0) (xB<|xOp eqX (xOp ixX (cA 0)<|xC<|.int 0)<|cA 1) (cA 0))
    (xIf (xB<|xOp neX (cA 7)<|lB cG) (cX (aEc 3<|nJ<|bI (xC<|.str "drop")<|bI (cA 6) cG)
    (bCx 1<|xOp ixX (cA 7)<|xC<|.int 0)) (xIf (xB<|xOp ltX (rX ixP 2<|xC<|.int 0)<|cA 4) (cX (iQ 8<|kU gBD 0<|bI (xC<|.int 3)<|bI (xC<|.int 24) cG)
    (cX (aEc 3<|nJ<|bI (xC<|.str "add")<|bI (cA 6)<|bI (cA 8)<|bI (aAn (gVA 3) 0<|cA 8) cG)
    (cX (aEc 1<|nJ<|bI (cA 6)<|bI (rX ixP 2<|xC<|.int 0)<|bI (cA 8) cG)
    (aTc 2 (xC<|.int 0)<|xOp aAa (rX ixP 2<|xC<|.int 0)<|xC<|.int 1)))) jC))))))
    (lT<|aHu 3))))
section
variable{f:Addr}{j:Nat}
def bBf(h:Cal P w K mg base 1 "_law_next" BH<|spB gNX)(r:Cal P w K mg base 1 "_law_pool" [] (spX aMk))(q:Cal P w K mg base j "_law_bounded" AT<|spB gBD)(p:Cal P w K mg base j "_law_value" AR<|vU<|gVA 3)(u:1<=j)(B:Blt mg)
  (l:Room j<|A.deeper<|PyProof.Rows.envOfC "_law_make" (aQ ds_) s.heap.objs.size f o) :
  XSs (jT CX0 P w K mg base (["deck","now","known","changes","most","turn","name","here","kind"]:S4) "_law_make" (aQ ds_) f o A g s H E).nox dQ (fB ds_) aTk:=by
 have m:=f6 l;have t:=gA m;exact(cE (fS fH 3<|kF jK)
  (cE (fS fH 4<|bw_ (aGd<|by rfl) aSh (by rfl) B.min aNk<|cO cQ<|lN (jv_ K (pv 2) cQ<|λ_ _=>rfl) cQ)
  (cE (k9 PassesOwn.never rfl (bt_ B.range<|eP<|mW (oN 0 h jK)<|kK K (kF<|hU cQ<|hU cQ<|cO cQ cQ)<|mW (oN 0 h jK) cQ) (kI (i:=5) fH.nd rfl `q) (i_ (n:=99) (i:=5) `b) (cE (fS fH 6<|kK K (yS r<|l.mono `a)<|mW (oN 0 h jK) cQ)
  (cE (iC (XW.pt<|aGy (aOd K t (pv 1) (kF jK)<|dP _)<|aAf<|kS (mW (oN 0 h jK) cQ) cQ) (cP<|fS fH 6<|dL K<|jv_ K (pv 1) (mW (oN 0 h jK)<|oV K (by rfl) B.len PySem.boot_len<|pv 1)<|λ_ _=>rfl) iH)
  (cE (lG λF=>PS.weak (oA (i:=7) fH.nd rfl rfl (dsc:=aQ ds_) (N:=AS) (tgs:=["one"]) (outs:=[6]) (N':=["one","name"]) (by refine#[rfl,?_,?_,?_,rfl,?_,?_,?_]<;>decide +kernel) (aBk<|pv 1) (λ_ _ _ _ _=>(kI (i:=0) (show(["one","name"]:S4).Nodup by decide +kernel) rfl `q (.inr rfl))) (jl_ `b) (λa b c d e=>XCs.at (Ex:=dQ) F (cj_<|kS `k `h)) (λa b c d e=>XE.at (Ex:=dQ) F `e))<|aPj (i_ (n:=1) (i:=0) `b) `b)
  (cP (iC (kJ (xv 7)<|kF jK) (cE (ek_ 3<|kG<|cO jR<|xv 6)
  (cP (lG λF=>PS.weak (io_ (aKe PySem.F.plainAttrs_list PySem.F.slot_list_remove PySem.F.type_list_remove (aFf l.units) (pv 1) (lK (XE.at (Ex:=dQ) F (dL K<|xv 7)) i4))) aVj))) (cP (iC (yD ks_ kq_ (jv_ K (pv 2) cQ<|λ_ _=>rfl) (xv 4)<|dP _) (cE (fS fH 8<|oN 0 q<|cO cQ cQ)
  (cE (ek_ 3<|kG<|hU jR<|hU (xv 6)<|cO (xv 8)<|fe_ (i:=0) p (l.mono `a) (xv 8)<|pv 0)
  (cE (ek_ 1<|kG<|hU (xv 6)<|cO (jv_ K (pv 2) cQ<|λ_ _=>rfl)<|xv 8)
  (cP (lG λF=>PS.weak (wH (XE.at (Ex:=dQ) F (lN (jv_ K (pv 2) cQ<|λ_ _=>rfl) cQ)) (aJu (pv 2) (XE.at (Ex:=dQ) F cQ) zH)) aAv))))) iH))))))))
  (cP<|dT<|dt_<|pv 3))))
end
section
variable{f:Addr}{n j:Nat}
def aCu{a b}{Q}(h:Q<|.tr<|.int<|a+b):aAa (.int a) (.int b) Q:=h
def aRl{a b}{Q}(h:Q (.tr (.int (if b<a then b else a)))):aCb [.int a,.int b] Q:=h
def aCt{k}{Q}(h:Q<|.int k):ixP [.int k] (.int 0) Q:=by exact h
def aYg(F:Fun K "_law_make" "_law_make" ds_ f fd)(Dc:Cal P w K mg base 1 "_law_next" BH<|spB gNX)(Ly:Cal P w K mg base 1 "_law_pool" [] (spX aMk))(L7:Cal P w K mg base j "_law_bounded" AT<|spB gBD)(H9:Cal P w K mg base j "_law_value" AR<|vU<|gVA 3)(hj:1<=j)(B:Blt mg):FnOk P w K mg base CX0 (j+1) f fd BD<|aIp gMK:=by
 refine bGm F fH rfl `b λAi A a2 s H E hr=>?_;refine#[_,bBf Dc Ly L7 H9 hj B hr,λt o y l1 l2 p Q h=>?_];obtain⟨hN,fs,k,rfl,rfl,K8,Bn,O3,a4,q⟩:=h;unfold aTk;refine#[bM _,?_];refine#[rfl,?_];dsimp only;refine hw_ ?_;refine aCt ?_;refine hw_ ?_;refine aCu ?_;refine aMf ?_;refine aRl ?_;obtain⟨g,Ky,Hk,a5,a6⟩:∃g:Nat,(if(k:Int)+5<20 then(k:Int)+5 else 20)=(g:Int)/\k<=g/\g<=20/\g<=k+5:=by by_cases c:(k:Int)+5<20;exact#[k+5,by rw[if_pos c];lia,by lia,by lia,by lia];exact#[20,by rw[if_neg c];rfl,by lia,by lia,by lia]
 change cX (lC _ _ _) _ (mkE t l1 o fs y k [] (if(k:Int)+5<20 then(k:Int)+5 else 20) [.un,.un,.un,.un]) _;rw[Ky];refine cs_ (λN=>∃(cs:U3) (m:S1) (r:T1),chs fs k cs/\cts k cs<=g/\cs.length<=16/\(∀e∈gos fs k cs,e.nm∈poolS)/\N=mkE t m o (gos fs k cs) y (cts k cs) cs (g:Int) r) ?_<|λnx Dw=>?_;rintro N ⟨cs,m,r,h1,h2,S,h4,rfl⟩;have:=oP (cs:=cs) (k:=k);exact#[rfl,rfl,rfl,q cs h1 `a `a S h4];refine #[rfl,rfl,hN,fun r la r0 Oo=>#[(by show 4≤1000000; decide),rfl,rfl,Oo,fun r' lb b0 On=>#[by show (0:Int) < 4; decide,?_]]];refine xJ (bT _ `b) (bU _ `b) λv hv=>?_;obtain⟨z,rfl,hz⟩:∃z:Int,v=.int z/\0<z/\z<=16:=by
  rcases aE.mp hv with h | hv
  exact#[6,h,by decide,by decide];rcases aE.mp hv with h | hv
  exact#[6,h,by decide,by decide];rcases aE.mp hv with h | hv
  exact#[6,h,by decide,by decide];rcases aE.mp hv with h | hv
  exact#[16,h,by decide,by decide];cases hv
 have z0:=bT r (show z≠0 by lia);have z1:=bU r hz.1;refine#[hz.1,`o,?_];show iS _ _ _ (gJ 0 (r%z).toNat) _;generalize hT:(r%z).toNat=T;have a3:T<=16:=by lia
 unfold gJ;refine x6 (λi:Nat=>Dx.int<|0+(i:Int)) (λrest N=>∃(cs:U3) (m:S1) (y5 y6 y7 D:Sl),gH m/\chs fs k cs/\cts k cs<=g/\cs.length+rest.length<=T/\(nms<|gos fs k cs).Nodup/\(∀e∈gos fs k cs,e.Ok/\e.nm∈poolS)/\N=mkE t m o (gos fs k cs) y (cts k cs) cs (g:Int) [y5,y6,y7,D]) (λN h=>?_) (λi rest N Kn h hk=>?_) #[[],lb,.un,.un,.un,.un,On,trivial,Hk,by rw[bV];simp,Bn,O3,rfl];obtain ⟨cs,m,y5,y6,y7,D,h1,h2,S,h4,h5,R,rfl⟩:=h;rw[bE]at h4;exact Dw _ #[cs,m,_,h2,S,by lia,λe J=>(R e J).2,rfl];obtain ⟨cs,m,y5,y6,y7,D,h1,h2,S,h4,h5,R,rfl⟩:=h;rw[aK]at h4;have stay:∀(M:S1) (W Y Z V:Sl),gH M->Kn (mkE t M o (gos fs k cs) y (cts k cs) cs (g:Int) [W,Y,Z,V]):=λM W Y Z V Dd=>hk _ #[cs,M,W,Y,Z,V,Dd,h2,S,by lia,h5,R,rfl];have step:∀(c:Ch) (M:S1) (W Y Z V:Sl),gH M->c.Ok (gos fs k cs)->c.ct (cts k cs)<=g->(nms<|c.go (gos fs k cs)<|cts k cs).Nodup->(∀e∈c.go (gos fs k cs) (cts k cs),e.Ok/\e.nm∈poolS)->Kn (mkE t M o (c.go (gos fs k cs)<|cts k cs) y (c.ct<|cts k cs) (cs++[c]) (g:Int) [W,Y,Z,V]):=λc M W Y Z V Dd hc Ms hn ho=>hk _ #[cs++[c],M,W,Y,Z,V,Dd,oQ.mpr #[h2,hc,trivial],by rw[yB];exact Ms,by rw[aI];show _+1+_<=_;lia,by rw[iv_];exact hn,by rw[iv_];exact ho,by rw[iv_,yB];rfl];have G6:=hb_ (cs:=cs) (fs:=fs) (k:=k);generalize gos fs k cs=G at h5 R stay step G6 ⊢;generalize cts k cs=C at S stay step ⊢;refine#[rfl,rfl,rfl,h1,λr1 l2 b1 Aw=>#[by show(0:Int)<12;decide,?_]];refine xJ (bT _ `b) (bU _ `b) λv hv=>?_;obtain⟨x,U,rfl⟩:=aZ.mp hv;dsimp only;change cX (xIf _ _ _) _ (mkE t l2 o G y C cs (g:Int) [vT<|.int<|0+(i:Int),vT<|.str x,y7,D]) _;refine cs_ (λN=>∃(x:Str) (p:S1),x∈poolS/\gH p/\N=mkE t p o G y C cs (g:Int) [vT<|.int<|0+(i:Int),vT<|.str x,y7,D]) ?_<|λa7 Gi=>?_;rintro N ⟨x,p,U,F7,rfl⟩;refine j9 ?_;refine#[.ba o<|G.map Fe.n,G.map Fe.n,.ba o,rfl,rfl,by rw[aA];lia,?_];refine cb_ Fe.n Fe.n (λe=>decide (e.nm=x)) (λe J Ae P pp=>?_) ?_;show if decide (e.nm=x)=true then _ else _
 by_cases c:e.nm=x;rw [dzT c] at pp ⊢;exact pp;rw [dzF c] at pp ⊢;have p':P (Ae++[]) _:=pp;rw[aP]at p';exact p';change xIf _ _ _ (mkE t p o G y C cs (g:Int) [vT<|.int<|0+(i:Int),vT<|.str x,.v<|.ol<|(G.filter λe=>decide (e.nm=x)).map Fe.n,D]) _;by_cases D4:x∈nms G;obtain ⟨e,J,Gp⟩:=aZ.mp D4;obtain⟨A,B,rfl⟩:=List.append_of_mem J;have Jc:(A.map (·.nm)++e.nm::B.map (·.nm)).Nodup:=by have:=h5;unfold nms at this;rw[aY,bQ]at this;exact this
 have Ed:∀u∈A++B,u.nm≠x:=λu l z=>by
  have La:e.nm=x:=Gp;rw[bS]at Jc;rcases aX.mp l with l | l
  exact Jc.2.2 u.nm (aZ.mpr #[u,l,rfl]) e.nm aB<|z.trans La.symm;exact(bW.mp Jc.2.1).1<|aZ.mpr #[u,l,z.trans La.symm]
 have Je:(A++e::B).filter (λu=>decide (u.nm=x))=[e]:=by rw[cT,gN,dzT<|show e.nm=x from Gp,cW.mpr λu l=>by simpa using Ed u<|aM _ l,cW.mpr λu l=>by simpa using Ed u<|aJ _ l];rfl
 have K9:(A++e::B).filter (λu=>!decide (u.nm=x))=A++B:=by rw[cT,gN,dzT<|show e.nm=x from Gp,List.filter_eq_self.mpr λu l=>by simpa using Ed u<|aM _ l,List.filter_eq_self.mpr λu l=>by simpa using Ed u<|aJ _ l];rfl
 rw[Je];refine rA true (ρ':=mkE t p o (A++e::B) y C cs (g:Int) [vT<|.int<|0+(i:Int),vT<|.str x,vT<|.lst [e.n],D]) (λQ q=>#[bM _,q]) (λ_=>?_) (λI=>by cases I);refine#[rfl,by show 2<=1000000;decide,by show(cs.map Ch.x).length+1<=_;rw[aA];lia,?_];have Iq:=(R e J).1;have Ag:=Kd.pln e.kd Iq.fit;have O:=step (.drop x) p (vT<|.int<|0+(i:Int)) (vT<|.str x) (vT<|.lst [e.n]) D F7 #[(km_ x U).1,D4] S (by show(nms<|(A++e::B).filter _).Nodup;exact h5.sublist<|List.Sublist.map _ List.filter_sublist)<|λu l=>R u (cU.mp l).1;rw[show Ch.go (A++e::B) C (.drop x)=A++B from K9]at O;refine#[rfl,?_];refine aMe<|jh_ rfl<|hw_ ?_;show(match atI [e.n] 0 with | some d=>_ | none=>False);rw[show atI [e.n] 0=some e.n from k_ (j:=0) rfl];refine#[(A++e::B).map Fe.n,.ba o,A.map Fe.n,e.n,B.map Fe.n,e.nm,[.int (e.ix:Int),e.kd.x],rfl,by rw[aY];rfl,rfl,rfl,?_,?_,λu l=>?_,?_];simp only [Fe.n,Dx.Pl,kL,aK,bE];exact#[by decide,trivial,trivial,Ag.1,trivial];have:=Ag.2;have:=Iq.deep;simp only[Fe.n,Dx.deep,eM];lia;rw [← aY] at l;obtain⟨u',a1,rfl⟩:=aZ.mp l;exact#[u'.nm,_,rfl,λz=>Ed u' a1<|z.trans Gp];rw [← aY];unfold mkE at O;rw[aY (f:=Ch.x)]at O;exact O;have Je:G.filter (fun e=>decide (e.nm=x))=[]:=cW.mpr fun e J=>by simpa using fun z=>D4<|aZ.mpr #[e,J,z]
 rw[Je];refine rA false (ρ':=mkE t p o G y C cs (g:Int) [vT<|.int<|0+(i:Int),vT<|.str x,vT<|.lst [],D]) (λQ q=>#[bM _,q]) (λI=>by cases I)<|λ_=>?_;refine rA (decide (C<g)) (ρ':=mkE t p o G y C cs (g:Int) [vT<|.int<|0+(i:Int),vT<|.str x,vT<|.lst [],D]) (λQ q=>?_) (λI=>?_)<|λI=>?_;refine #[rfl,?_];dsimp only;refine hw_ ?_;refine aCt ?_;show Q (decide ((C:Int)<(g:Int))) _;rw[show decide ((C:Int)<(g:Int))=decide (C<g) by rw[decide_eq_decide];lia];exact q;have Ap:=of_decide_eq_true I;refine#[rfl,rfl,F7,λL l4 hF hd K1=>?_];refine#[rfl,L,rfl,K1,hF,hd,by decide,λvd l5 hv Oq=>#[by show 4<=1000000;decide,by show(cs.map Ch.x).length+1<=_;rw[aA];lia,?_]];have O:=step (.add x L vd) l5 (vT<|.int<|0+(i:Int)) (vT<|.str x) (vT<|.lst []) (vT L.x) Oq #[(km_ x U).1,D4,hF,hd,hv] Ap (by
  show(nms<|G++[_]).Nodup;unfold nms;rw[aY];refine bS.mpr #[h5,by simp,λa ha b I=>?_];rw[List.map_singleton,aF]at I;rintro rfl;rw[I]at ha;exact D4 ha) (λu l=>by
  rcases aX.mp l with l | l
  exact R u l;rw [aF.mp l];exact#[#[(km_ x U).1,hF,hd,hv],U])
 refine#[rfl,?_];dsimp only;refine hc_<|jh_ rfl ?_;refine hc_ ?_;refine#[rfl,?_];dsimp only;refine hw_ ?_;refine aCt ?_;refine hc_<|jh_ rfl<|aMf ?_;refine#[by show 3<=1000000;decide,by show(G.map Fe.n).length+1<=_;rw[aA];lia,?_];have e1:(Ch.go G C<|.add x L vd).map Fe.n=G.map Fe.n++[Dx.tup [.str x,.int (C:Int),L.x]]:=by show(G++[_]).map Fe.n=_;rw[aY];rfl
 have e2:(cs++[Ch.add x L vd]).map Ch.x=cs.map Ch.x++[Dx.tup [.str "add",.str x,L.x,L.vx vd]]:=by rw[aY];rfl
 have e3:((Ch.ct C (.add x L vd):Nat):Int)=(C:Int)+1:=by show((C+1:Nat):Int)=_;lia
 unfold mkE at O;rw[e1,e2,e3]at O;refine#[rfl,?_];refine hw_ ?_;refine aCt ?_;refine hw_ ?_;refine aCu ?_;exact#[rfl,O];exact stay p _ _ _ _ F7;refine #[rfl,bM _,?_];cases G with
 |nil=>exact Gi _ #[x,l2,U,Aw,rfl]
 |cons e0 G0 =>
  refine#[rfl,rfl,Aw,λr2 p b2 F7=>#[by show(0:Int)<3;decide,?_]];show if decide (r2%3=0)=true then _ else _
  by_cases c:r2%3=0;rw [if_pos<|dzT c];have Q4:(0:Int)<(((e0::G0).map Fe.n).length:Int):=by rw[aA,aK];lia
  refine#[rfl,rfl,rfl,F7,λr3 l4 b3 K1=>#[Q4,?_]];obtain⟨d,hd,a0⟩:=z9 (bT r3 `a)<|bU r3 Q4;show(match atI ((e0::G0).map Fe.n) (r3%(((e0::G0).map Fe.n).length:Int))with | some d=>_ | none=>False);rw[hd];obtain⟨e,J,rfl⟩:=aZ.mp<|bA a0;dsimp only;refine hw_ ?_;refine qZ ?_;exact Gi _ #[e.nm,l4,(R e J).2,K1,rfl];rw [if_neg (by rw [decide_eq_true_eq]; exact c)];exact Gi _ #[x,p,U,F7,rfl]
end
section
variable{f:Addr}{n j:Nat}
def aKq(F:Fun K "_law_pool" "_law_pool" pV f fd):FnOk P w K mg base CX0 1 f fd [] (spX aMk):=by refine bGl F zI (λb Q h=>by obtain⟨rfl,_⟩:=h;rfl) `b λc A a s H E e=>?_;refine#[_,(dz_<|bBm<|aSr rfl),λb Q h=>?_];obtain⟨rfl,q⟩:=h;exact#[by decide,q]
end
def aKz{e:Type}[DecidableEq e]:∀{l m:List e},l.Nodup->(∀x∈l,x∈m)->l.length<=m.length
 | [],_,_,_=>bM _
 |a::r,m,h,hs=>by have b:=bW.mp h;have:=aKz (l:=r) b.2 λx c=>(List.mem_erase_of_ne λ(z:x=a)=>b.1<|z ▸ c).mpr<|hs x<|aC _ c;rw[List.length_erase_of_mem<|hs a aB]at this;have f:=List.length_pos_of_mem<|hs a aB;exact Nat.add_le_of_le_sub f this
def aJp(h:(nms fs).Nodup)(b:∀e∈fs,e.nm∈poolS):fs.length<=12:=by
 have:=aKz (m:=poolS) h λx c=>by obtain⟨e,a,rfl⟩:=aZ.mp c;exact b e a
 rw[aA]at this;exact this
structure HsOk(ms:Mks)(ly:S5)(mu:Int)(k:Nat)(fs:S6)(r0:Int)(pre:Mks):Prop where
 is:ms=pre++[(fs,r0)]
 hist:Hist ms ly k
 lo:LyOk ms.length ly
 ll:ly.length<=5*ms.length
 u1:1<=mu
 u8:mu<=8
 k20:k<=20
 pool:∀e∈fs,e.nm∈poolS
def HsOk.last(h:HsOk ms ly mu k fs r0 pre):ms[ms.length-1]? = some (fs,r0):=by rw[h.is,aI,show([(fs,r0)]:Mks).length=1 from rfl,Nat.add_sub_cancel,bX<|aO _,iI];rfl
def HsOk.fs{fs}(h:HsOk ms ly mu k fs r0 pre):kO fs/\(∀e∈fs,e.Ok)/\fs.length<=12:=by have:=h.hist.plc (fs,r0)<|bA h.last;exact#[this.1,λe a=>(this.2 e a).1,aJp this.1.2.1 h.pool]
def aTo(e:Fe)(p:Int):(e.put p).n=e.n:=rfl
def aTz(a:∀e∈G,e.Ok)(h:(nwF G).length<=5):Rs2<|rsF G:=by have b:∀e∈nwF G,e.Ok:=λe g=>a e (cU.mp g).1;obtain⟨c,f⟩:=feK b;exact aIw c (by rw[aA];exact h) f
def aKx(G:S6):(rsF G).length=(nwF G).length:=by rw[em_,aA]
def tY(l:∀e∈fs,∃p,e.pl=some p)(c:Mid fs k0 k G)(f:Rs2<|rsF G)(b:LyOk m ly)(a:∀e∈G,e.nm∈poolS):∀e∈dE G ly,e.nm∈poolS:=λe i=>by have:e.nm∈(dE G ly).map (·.nm):=aZ.mpr #[e,i,rfl];rw[kz_ l c f b (·.nm) λ_ _=>rfl]at this;obtain⟨g,j,h⟩:=aZ.mp this;rw[<-h];exact a g j
def aRg(h:HsOk ms ly mu k fs r0 pre)(H:ms.length<=8)(j:chs fs k cs)(q:cts k cs<=20)(z:jB cs<=5)(t:cs.length<=16)(A:∀e∈gos fs k cs,e.nm∈poolS) :
  Beg fs k cs ms.length ly mu (gT ms)/\∀(a:S5) (r b:Int),a.Perm (ly++lV (rsF<|gos fs k cs) ly)->LyOk (ms.length+1) a->1<=b->b<=8->HsOk (ms++[(dE (gos fs k cs) ly,r)]) a b (cts k cs) (dE (gos fs k cs) ly) r ms/\(dE (gos fs k cs) ly).map Fe.n=(gos fs k cs).map Fe.n:=by
 obtain⟨f,i,C⟩:=h.fs;have c:=wY (tV (k:=k) f.2.1) (aO k) j;have o:=aLb c i;have B:=aKw f.1 c;have p:=oP (cs:=cs) (k:=k);have l:(nwF<|gos fs k cs).length<=5:=by lia
 have g:=aTz o l;have D:=h.ll;have E:=hb_ (cs:=cs) (fs:=fs) (k:=k);refine#[#[by lia,by lia,by unfold gT;rw[aA];lia,o,j,z,l,h.lo,by lia,by lia,h.u1,h.u8],λa r b m u v y=>#[#[rfl,?_,?_,?_,v,y,q,?_],?_]];exact uE h.hist h.last c g h.lo m (Nat.le.intro (id<|Eq.symm p)) `a;rw [aI];exact u;have s:=m.length_eq;have F:=nX (rsF<|gos fs k cs) ly;have G:=aKx<|gos fs k cs;rw[aI]at s;rw[aI,show([(dE (gos fs k cs) ly,r)]:Mks).length=1 from rfl];lia;exact tY f.1 c g h.lo A;exact kz_ f.1 c g h.lo Fe.n aTo
def aCe:LyOk 0 []:=#[#[λs a=>(nomatch a),List.Pairwise.nil],by decide,by decide,λs a=>(nomatch a)]
def bAl(h:chs [] 0 (fQ fl))(E:fl.length<=5)(u:∀e∈gos [] 0 (fQ fl),e.nm∈poolS) :
  Beg [] 0 (fQ fl) 0 [] 1 []/\∀(a:S5) (r b:Int),a.Perm (lV (rsF<|gos [] 0 (fQ fl)) [])->LyOk 1 a->1<=b->b<=8->HsOk [(dE (gos [] 0 (fQ fl)) [],r)] a b (cts 0<|fQ fl) (dE (gos [] 0 (fQ fl)) []) r []/\(dE (gos [] 0 (fQ fl)) []).map Fe.n=(gos [] 0 (fQ fl)).map Fe.n:=by
 have f:∀e∈([]:S6),∃p,e.pl=some p:=by grind
 have c:=wY (tV (fs:=[]) (k:=0) iA) (aO 0) h;have l:=aLb c λe t=>(nomatch t);have v:=aKw f c;have z:=oP (cs:=fQ fl) (k:=0);have y:(fQ fl).length=fl.length:=aA ..;have A:jB (fQ fl)<=(fQ fl).length:=dB _ _;have i:(nwF<|gos [] 0 (fQ fl)).length<=5:=by lia
 have g:=aTz l i;have m:=hb_ (cs:=fQ fl) (fs:=[]) (k:=0);rw[bE]at m;refine#[#[by decide,by lia,by decide,l,h,by lia,i,aCe,by decide,by decide,by decide,by decide],λa r b j o q s=>#[#[rfl,?_,o,?_,q,s,by lia,?_],?_]];exact aMb c g aCe j `a;have B:=j.length_eq;have C:=nX (rsF<|gos [] 0 (fQ fl)) [];have D:=aKx<|gos [] 0 (fQ fl);show _<=5;lia;exact tY f c g aCe u;exact kz_ f c g aCe Fe.n aTo
def gBG(C:Addr):GC:=λj Q=>∃c:Int,j=[.int c]/\∀(fs:S6) (e:Int) (f:S5) (g:Int) (k:Nat) (a l b h i:Addr),HsOk [(fs,e)] f g k fs e []->Q (.ow<|.ot [.oi C a l<|hsL b (gT [(fs,e)]) f g,.ol h<|(fs.map Fe.n).map .tr,.ol i<|[Dx.int (k:Int)].map .tr])
def aPq:poolS.Nodup:=by decide
def aWk:poolS.length=12:=rfl
abbrev qC(s:Int)(i:Nat):Nat:=((s+(i:Int))%12).toNat
def aPr(s:Int)(i:Nat):∃x,poolS[qC s i]? = some x:=#[_,aG (by rw[aWk];have:=bU (s+(i:Int)) (show(0:Int)<12 by decide);have:=bT (s+(i:Int)) (show(12:Int)≠0 by decide);unfold qC;lia)]
def aPp(c:i<j)(e:j<12)(a:poolS[qC s i]? = some x)(b:poolS[qC s j]? = some y):x≠y:=by rintro rfl;have h:=(List.getElem?_inj (aL.mp a).1 aPq).mp<|a.trans b.symm;lia
def aBz:∀{fl:List<|Str×Kd×Vd} {fs:S6} {k},nms (gos fs k<|fQ fl)=nms fs++fl.map (·.1)
 | [],fs,k=>(aP _).symm
 |f::r,fs,k=>by show nms (gos (fs++[#[f.1,k,f.2.1,f.2.2,none]]) (k+1)<|fQ r)=_;rw[aBz (fl:=r)];unfold nms;rw[aY,bN];rfl
def rK:∀{fl} {k},cts k (fQ fl)=k+fl.length
 | [],k=>rfl
 |f::r,k=>by show cts (k+1) (fQ r)=_;rw[rK (fl:=r),aK];lia
section
variable{f:Addr}{n j:Nat}{g C_House:Addr}
abbrev bgE(c:Int)(l:S1)(s:Int)(fl:List<|Str×Kd×Vd)(r:T1):En:=.v (.tr<|.int c) :: .v (.ol l)::vT (.int s) :: .v (.ol<|fl.map fdT) :: .v (.ol<|(gos [] 0 (fQ fl)).map Fe.n)::r
def aZi(F:Fun K "_law_begun" "_law_begun" ki_ f fd)(L6:Cal P w K mg base 2 "_law_deck" BN<|spX gDK)(W:Cal P w K mg base 1 "_law_next" BH<|spB gNX)(Ly:Cal P w K mg base 1 "_law_pool" [] (spX aMk))(L7:Cal P w K mg base j "_law_bounded" AT<|spB gBD)(H9:Cal P w K mg base j "_law_value" AR<|vU<|gVA 3)(o:bCa P w K mg base j C_House BJ<|spO<|gIN C_House)(D8:mg "House" = some (.ref C_House))(hj:2<=j)(B:Blt mg):FnOk P w K mg base CX0 (j+2) f fd ["cell"] (spX<|gBG C_House):=by
 refine jO F eT (λO=>(cE (fS eT 1<|dS L6<|cO `e cQ)
  (cE (fS eT 2<|oN 1 W jK)
  (cE (fS eT 3<|kF jK)
  (cE (fS eT 4<|kF jK)
  (cE (k9 PassesOwn.never rfl (bt_ B.range<|eP<|mW (oN 1 W jK) cQ) (kI (i:=5) eT.nd rfl `q) (i_ (n:=99) (i:=5) `b) (cE (fS eT 6<|kK K (yS Ly<|O.mono `a)<|mW (lN (xv 2)<|xv 5) cQ)
  (cE (fS eT 7<|oN 1 L7<|cO cQ cQ)
  (cE (ek_ 3<|kG<|hU (xv 6)<|cO (xv 7)<|fe_ (i:=1) H9 (O.mono `a) (xv 7)<|pv 1)
  (cP<|ek_ 4<|kG<|hU (xv 6)<|cO (xv 5)<|xv 7)))))
  (cP<|dT<|aAh<|hU (aHi o (O.mono `a) D8<|eP<|xv 3)<|cO (dt_<|pv 4)<|kF<|eP<|nI<|xv 3))))))) λds Q h=>?_
 obtain⟨c,rfl,q⟩:=h;refine#[rfl,?_];refine#[c,90,rfl,by decide,by decide,λl hl=>?_];refine#[rfl,rfl,hl,λs la s0 Oo=>?_];refine#[bM _,?_];refine#[bM _,?_];dsimp only;change cX (lC _ _ _) _ (bgE c la s [] [.un,.un,.un]) _;refine cs_ (λA=>∃(m:List<|Str×Kd×Vd) (u:S1) (r:T1),m.length<=5/\chs [] 0 (fQ m)/\(∀e∈gos [] 0 (fQ m),e.nm∈poolS)/\A=bgE c u s m r) ?_<|λnx Dw=>?_;rintro A ⟨m,u,r,I,C,D,rfl⟩;obtain⟨B,hB⟩:=bAl C I D;refine λa dx=>#[rfl,rfl,m,rfl,B,λb G r H p1 p2 p3 p4=>#[rfl,?_]];obtain⟨hH,hn⟩:=hB G r H p1 p2 p3 p4;refine#[by show 1<=1000000;decide,by show 3<=1000000;decide,λbs Pg=>?_]
 match bs,Pg with
 | [b0,b1,b2],_ => refine#[[_,.ol b1 _,.ol b2 _],rfl,?_];have:=q _ r G H _ a dx b b1 b2 hH;rw[hn,rK,Nat.zero_add]at this;rw[show((m.map fdT).length:Int)=(m.length:Int) by rw[aA]];exact this
 have z0:∀ r:Int,0≤r % 6:=fun r=>bT r `b;have z1:∀r:Int,r%6<6:=λr=>bU r `b;refine#[rfl,rfl,Oo,λr lb r0 On=>#[by show(0:Int)<6;decide,#[by have:=z0 r;lia,by have:=z1 r;lia],?_]];show iS _ _ _ (gJ 0 (r%6).toNat) _;have N:(r%6).toNat<=5:=by have:=z0 r;have:=z1 r;lia
 generalize (r%6).toNat=T at N ⊢;unfold gJ;refine x6 (λi:Nat=>Dx.int<|0+(i:Int)) (λrest A=>∃(m:List<|Str×Kd×Vd) (u:S1) (R S U:Sl),gH u/\chs [] 0 (fQ m)/\(∀e∈gos [] 0 (fQ m),e.nm∈poolS)/\m.length<=T/\rest=List.range' m.length (T-m.length)/\(∀(i:Nat) (f:Str×Kd×Vd),m[i]? = some f->poolS[qC s i]? = some f.1)/\A=bgE c u s m [R,S,U]) (λA h=>?_) (λi rest A Kn h hk=>?_) #[[],lb,.un,.un,.un,On,trivial,λe v=>(nomatch v),bM _,by rw[List.range_eq_range'];rfl,λi f h=>by simp at h,rfl];obtain ⟨m,u,R,S,U,I,C,D,h4,E,M,rfl⟩:=h;exact Dw _ #[m,u,_,by lia,C,D,rfl];obtain ⟨m,u,R,S,U,I,C,D,h4,E,M,rfl⟩:=h;have Ap:m.length<T:=by
  rcases Nat.lt_or_ge m.length T with h | h
  exact h;rw [show T - m.length=0 by lia] at E;cases E
 rw[show T-m.length=(T-(m.length+1))+1 by lia,List.range'_succ]at E;obtain⟨rfl,L⟩:=List.cons.inj E;obtain⟨x,J⟩:=aPr s m.length;have Y:=bA J;have Hj:x∉nms (gos [] 0 (fQ m)):=by rw[aBz];intro z;obtain⟨f,hf,e⟩:=aZ.mp (show x∈m.map (·.1)from z);obtain⟨i,t⟩:=eQ hf;exact aPp (aL.mp t).1 `a (M i f t) J e
 have F1:atI (fR poolS) ((s+(0+(m.length:Int)))%12)=some (.str x):=by rw[gR,<-Int.toNat_of_nonneg (bT (s+(m.length:Int)) (show(12:Int)≠0 by decide))];exact k_ (by rw[bK,J];rfl)
 refine#[rfl,by show(0:Int)<12;decide,?_];show(match atI (fR poolS) ((s+(0+(m.length:Int)))%12)with | some d=>_ | none=>False);rw[F1];refine#[rfl,rfl,I,λp l2 hF hd Aw=>?_];refine#[rfl,p,rfl,Aw,hF,hd,by decide,λy l5 hv Oq=>#[by show 3<=1000000;decide,by show(m.map fdT).length+1<=_;rw[aA];lia,?_]];have G6:=hb_ (cs:=fQ m) (fs:=[]) (k:=0);rw[aA,bE]at G6;refine#[rfl,by show 3<=1000000;decide,by show((gos [] 0 (fQ m)).map Fe.n).length+1<=_;rw[aA];lia,?_];have Z:fQ (m++[(x,p,y)])=fQ m++[Ch.add x p y]:=aY;have V:gos [] 0 (fQ<|m++[(x,p,y)])=gos [] 0 (fQ m)++[#[x,m.length,p,y,none]]:=by rw[Z,iv_,rK,Nat.zero_add];rfl
 refine hk _ #[m++[(x,p,y)],l5,vT<|.int<|0+(m.length:Int),vT<|.str x,vT p.x,Oq,?_,?_,?_,?_,?_,?_];rw [Z];exact oQ.mpr #[C,#[(km_ x Y).1,Hj,hF,hd,hv],trivial];rw [V];intro e v;rcases aX.mp v with v | v
 exact D e v;rw [aF.mp v];exact Y;rw [aI];exact Ap;rw [aI];exact L;intro i f t;by_cases c:i<m.length;rw [cZ c] at t;exact M i f t;rw [bX `a] at t;have:=(aL.mp t).1;have c2:i=m.length:=by simp at this;lia
 subst c2;rw[iI]at t;cases t;exact J;show (Sl.v (.tr<|.int c) :: .v (.ol l5) :: vT (.int s) :: .v (.ol<|m.map fdT ++ [fdT (x,p,y)]) :: .v (.ol<|(gos [] 0 (fQ m)).map Fe.n ++ [Dx.tup [.str x,.int<|0 + (m.length:Int),p.x]]) :: [vT<|.int<|0 + (m.length:Int),vT<|.str x,vT p.x]:En)=_;unfold bgE;rw[V,aY (f:=Fe.n),aY (f:=fdT),gR];rfl
end
def aIy (K : dN) (C_House : Addr) : XS := (cX (aTd 1 2 3<|dY (gBG C_House)<|bI (dY (gCL K)<|bI (cA 0)<|bI (xC<|.int 0) cG) cG)
    (cX (iQ 4<|lB<|bI (vJ 2) cG)
    (cX (lC (xiL<|bCv K (cA 0) (xoS<|xC<|.int 1)<|xoS<|xC<|.int 8) (gxN 5) (cX (iQ 6<|aEb 4)
    (cX (iQ 7<|aHw gMK (dY gDK<|bI (cA 5)<|bI (xC<|.int 90) cG) 2 3)
    (cX (xIf (lR<|xOr (vH<|xB<|dY (gRI C_House)<|bI (cA 1)<|bI (cA 4)<|bI (xC<|.int 0)<|bI (xOp vQ (cA 6)<|xC<|.int 1) cG)<|vH<|xB<|dY (gLR C_House)<|bI (cA 1)<|bI (cA 7) cG) (lT<|xC<|.bl false) jC)
    (cX (xIf (lR<|xOr (vH<|xB<|dY (gRI C_House)<|bI (cA 1)<|bI (cA 4)<|bI (xC<|.int 0)<|bI (xOp vQ (cA 6)<|xC<|.int 1) cG)<|vH<|xB<|dY (gRF C_House)<|bI (cA 1)<|bI (xOp vQ (cA 6)<|xC<|.int 1)<|bI (cA 6) cG) (lT<|xC<|.bl false) jC)
    (cX (aOx<|vI C_House "next_make" (aMl C_House) 1<|bI (cA 7) cG)
    (cX (aEc 4<|vJ 2)
    (xIf (lR<|xB<|xOp neX (lH 1 [1,4,6] (aHf<|bI (cA 6) cG) (gxN 0) (vH<|xB<|dY (gRI C_House)<|bI (cA 1)<|bI (cA 2)<|bI (cA 0)<|bI (cA 3) cG) (cA 0))<|lB cG) (lT<|xC<|.bl false) jC))))))))
    (cX (iQ 8<|aEb 4)
    (cX (lC (aHf<|bI (cA 8) cG) (gxN 9) (cX (xIf (lR<|xB<|xOp neX (lH 1 [1,4,9] (bCt<|bI (cA 9)<|bI (cA 8) cG) (gxN 0) (vH<|xB<|dY (gRI C_House)<|bI (cA 1)<|bI (cA 2)<|bI (cA 3)<|bI (cA 0) cG) (cA 0))<|lB cG) (lT<|xC<|.bl false) jC)
    (xIf (lR<|xB<|xOp neX (lH 1 [1,9] (aHf<|bI (cA 9) cG) (gxN 0) (vH<|xB<|dY (gRF C_House)<|bI (cA 1)<|bI (cA 2)<|bI (cA 0) cG) (cA 0))<|lB cG) (lT<|xC<|.bl false) jC)))
    (cX (iQ 10<|xOp sG (dY (gCL K)<|bI (cA 0)<|bI (xC<|.int 0) cG)<|xOp bEi (xC<|.int 10)<|xC<|.int 30)
    (cX (iQ 11<|xOp sG (cA 10)<|cA 8)
    (cX (lC (xiT<|nJ<|bI (aHt<|xC<|.int 1)<|bI (cA 8)<|bI (xOp vQ (aHt<|xC<|.int 1)<|cA 10)<|bI (xOp aAa (cA 8)<|cA 10)<|bI (xOp vQ (xC<|.int 0)<|cA 8)<|bI (xOp vQ (aHt<|xC<|.int 1)<|xOp sG (cA 10)<|cA 8)<|bI (xC .non)<|bI (xC<|.bl true)<|bI (xC<|.bl false)<|bI (xC<|.str "0")<|bI (lB<|bI (xC<|.int 0) cG)<|bI (nJ<|bI (xC<|.int 0) cG) cG) (gxN 12)<|xIf (lR<|xB<|xOp neX (lH 2 [1] (xiL<|lB<|bI (nJ<|bI (cA 12)<|bI (cA 11) cG)<|bI (nJ<|bI (cA 11)<|bI (cA 12) cG)<|bI (nJ<|bI (cA 12)<|bI (cA 12) cG) cG) (gxT [0,1]) (vH<|xB<|dY (gRF C_House)<|bI (cA 2)<|bI (cA 0)<|bI (cA 1) cG) (xC<|.int 1))<|lB cG) (lT<|xC<|.bl false) jC)
    (lT<|aAo (xOp eqX (aHv C_House "how_many_makes" (gHM C_House) (cA 1) cG)<|cA 8)<|dY (gRI C_House)<|bI (cA 1)<|bI (cA 4)<|bI (cA 11)<|bI (xOp vQ (cA 8)<|xC<|.int 1) cG)))))))))
def bBr(h:Bx<|XE X Ex e t):Bx<|XIt X Ex tg e<|xiT t:=#[aHd h.out]
def x9(ha:Bx<|XE X Ex a ta)(c:Bx<|XE X Ex b tb):Bx<|XE X Ex (.BinOp a .Sub b pos)<|xOp vQ ta tb:=#[k8 ha.out c.out]
def bBn(h:PassesOwn `d X.A X.env X.xe)(c:X.calm=true)(f:Bx<|XIt X Ex tg iter ti)(e:PG X tg g)(a:GX n g gx)(b:Bx<|XSs X Ex body G)(i:∀x,foldedSetIterable iter X.env x=pure x:=by intro _;rfl):Bx<|XSt X Ex (.For tg iter body [] pos)<|lC ti gx G:=#[k9 h c f.out e a b.out i]
def sM(h:Bx<|XSs X Ex l G):XSs X Ex l G:=h.out
section
variable{f:Addr}{L:Nat}{C_House:Addr}
def aSe(o:Cal P w K mg base 1 "_law_cell_at" BO<|spX<|gCL K)(p:Cal P w K mg base 2 "_law_deck" BN<|spX gDK)(t:Cal P w K mg base L "_law_begun" ["cell"] (spX<|gBG C_House))(q:Cal P w K mg base L "_law_make" BD<|aIp gMK)(e:Cal P w K mg base 6 "_law_right" AV<|spX<|gRI C_House)(r:Cal P w K mg base L "_law_list_refused" BM<|spX<|gLR C_House)(g:Cal P w K mg base 6 "_law_refused" AD<|spX<|gRF C_House)(b:sR P w K mg base L C_House "next_make" AM<|spO<|aMl C_House)(a:sR P w K mg base 1 C_House "how_many_makes" ["self"] (spX<|gHM C_House))
  (B:Blt mg) (u:6<=L)
  (h:Room L<|A.deeper<|PyProof.Rows.envOfC "law" (aQ nF) s.heap.objs.size f l) :
  XSs (jT CX0 P w K mg base (["script","house","now","known","makes","cell","last","changes","many","a","far","good","bad"]:S4) "law" (aQ nF) f l A c s H E).nox dQ (fB nF) (aIy K C_House):=by
 exact(sM (x5 (Bx.mk (aOi (K:=K) (i:=1) (j:=2) (m:=3) λF=>wH (XE.at (Ex:=dQ) F (dS t<|eP<|dS o<|cO `e cQ))<|ko_ rfl<|sP (kI (i:=1) gF.nd rfl<|Or.inr rfl)<|sP (kI (i:=2) gF.nd rfl `q)<|sP (kI (i:=3) gF.nd rfl `q) eu_))
  (x5 (Bx.mk<|fS gF 4<|kF<|eP<|sV (i:=2) K (pv 2) B.list)
  (x5 (Bx.mk (k9 PassesOwn.never rfl (lA<|aDv K `e (if_ cQ) (if_ cQ)) (kI (i:=5) gF.nd rfl `q) (i_ (n:=99) (i:=5) `b) (sM (x5 (Bx.mk<|fS gF 6<|oV K (by rfl) B.len PySem.boot_len<|pv 4)
  (x5 (Bx.mk<|fS gF 7<|aHp (i:=2) (j:=3) q (h.mono `a) (dS p<|cO (xv 5) cQ) (pv 2)<|pv 3)
  (x5 (Bx.mk<|iC (ie_<|XW.pt<|f8 (lJ<|jD<|dS e<|hU `h (hU (xv 4)<|cO cQ<|k8 (xv 6) cQ))<|i5<|lJ<|jD<|dS r<|cO `h (xv 7)) (sM<|dz_<|Bx.mk<|dT j7) iH)
  (x5 (Bx.mk<|iC (ie_<|XW.pt<|f8 (lJ<|jD<|dS e<|hU `h (hU (xv 4)<|cO cQ<|k8 (xv 6) cQ))<|i5<|lJ<|jD<|dS g<|hU `h (cO (k8 (xv 6) cQ)<|xv 6)) (sM<|dz_<|Bx.mk<|dT j7) iH)
  (x5 (Bx.mk<|nP<|oW (C:=C_House) (i:=1) b (h.mono `a) (pv 1)<|eP<|xv 7)
  (x5 (Bx.mk<|ek_ 4<|sV (i:=2) K (pv 2) B.list)
  (dz_<|Bx.mk<|iC (ie_<|kJ (mS gF [1,4,6] (bt_ B.range<|eP<|xv 6) (cj_<|lJ<|jD<|dS e<|hU `h (hU (xv 2)<|cO `e (xv 3))) `e)<|kF jK) (sM<|dz_<|Bx.mk<|dT j7) iH))))))))))
  (x5 (Bx.mk<|fS gF 8<|oV K (by rfl) B.len PySem.boot_len<|pv 4)
  (x5 (Bx.mk (k9 PassesOwn.never rfl (bt_ B.range<|eP<|xv 8) (kI (i:=9) gF.nd rfl<|Or.inr rfl) (i_ (n:=99) (i:=9) `b) (sM (x5 (Bx.mk<|iC (ie_<|kJ (mS gF [1,4,9] (sU B.range<|cO (xv 9)<|xv 8) (cj_<|lJ<|jD<|dS e<|hU `h (hU (xv 2)<|cO (xv 3) `e)) `e)<|kF jK) (sM<|dz_<|Bx.mk<|dT j7) iH)
  (dz_<|Bx.mk<|iC (ie_<|kJ (mS gF [1,9] (bt_ B.range<|eP<|xv 9) (cj_<|lJ<|jD<|dS g<|hU `h (cO (xv 2) `e)) `e)<|kF jK) (sM<|dz_<|Bx.mk<|dT j7) iH)))))
  (x5 (Bx.mk<|fS gF 10<|mW (dS o<|cO `e cQ)<|aHh cQ cQ)
  (x5 (Bx.mk<|fS gF 11<|mW (xv 10)<|xv 8)
  (x5 (bBn PassesOwn.never rfl (bBr<|aNm<|co_ (x_ mX)<|co_ (lq_<|pv 8)<|co_ (x9 (x_ mX)<|lq_<|pv 10)<|co_ (bBw (lq_<|pv 8)<|lq_<|pv 10)<|co_ (x9 mX<|lq_<|pv 8)<|co_ (x9 (x_ mX)<|bBu (lq_<|pv 10)<|lq_<|pv 8)<|co_ bBt<|co_ aUo<|co_ aUo<|co_ bBs<|co_ (bBv<|co_ mX y_)<|co_ (aNm<|co_ mX y_) y_) (kI (i:=12) gF.nd rfl `q) (i_ (n:=99) (i:=12) `b)<|Bx.mk<|sM<|dz_<|Bx.mk<|iC (ie_<|kJ (aAj gF [1] (lA<|kF<|hU (kG<|cO (xv 12)<|xv 11)<|cO (kG<|cO (xv 11)<|xv 12)<|kG<|cO (xv 12)<|xv 12) (cj_<|lJ<|jD<|dS g<|hU (xv 2)<|cO `e `h) cQ)<|kF jK) (sM<|dz_<|Bx.mk<|dT j7) iH)
  (dz_<|Bx.mk<|dT<|uQ (vF (aDx a (h.mono `a) `h)<|xv 8)<|k7<|dS e<|hU `h (hU (xv 4)<|cO (xv 11)<|k8 (xv 8) cQ)))))))))))
end
def aRh:(Ow.oi C a dx<|hsL b mk ly mu).d=hsT C mk ly mu:=by unfold hsL hsT hsF;simp only[Ow.d,aEw,aBs]
def xQ{c}{G K}{ρ}{D}(a:∀Q:Bool->En->Prop,(∀ρ',Q false ρ')->c (ρ.map slS) Q)(h:K ρ D):cX (xIf (lR c) G jC) K ρ D:=a _ λ_=>h
def qY{c}{G}{ρ}{D}(a:∀Q:Bool->En->Prop,(∀ρ',Q false ρ')->c (ρ.map slS) Q)(h:D.nx ρ):xIf (lR c) G jC ρ D:=a _ λ_=>h
def ga_{f:Type}{n}{gx}{tc}{te}{Q}{cs}(c:f->Dx){as:List f}(h:∀a∈as,∀(b:S1) (P:S1->T1->Prop),P b cs->tE n gx tc te P (c a) cs b)(q:Q [] cs):cC n gx tc te Q (as.map c) cs []:=by refine cb_ c c (λ_=>false) (λa g b P p=>h a g b P ?_) (by rw[cW.mpr `g];exact q);have e:P (b++[]) cs:=p;rw[aP]at e;exact e
def i6{n}{gx}{tc}{te}{Q}{cs}{l}(h:∀a∈l,∀(b:S1) (P:S1->T1->Prop),P b cs->tE n gx tc te P a cs b)(q:Q [] cs):cC n gx tc te Q l cs []:=by have:=ga_ (Q:=Q) (λd:Dx=>d) h q;rw[List.map_id']at this;exact this
def aQr(a:Mks)(p:S6×Int):gQ (a++[p])=gQ a++[.lst<|p.1.map Fe.n]:=by unfold gQ;rw[aY];rfl
def aCa(a:Mks)(p:S6×Int):gT (a++[p])=gT a++[mkT p.1 p.2]:=by unfold gT;rw[aY];rfl
def wW(a:Mks):(gQ a).length=a.length:=aA ..
def aQt(a:Mks):(gT a).length=a.length:=aA ..
abbrev lwE(K:dN)(ns:S7)(C a dx b:Addr)(f:Mks)(ly:S5)(g:Int)(e:S1)(k:Nat)(c:S1)(r:T1):En:=.v (.tr<|.scr K ns) :: .v (.ow<|.oi C a dx<|hsL b (gT f) ly g) :: .v (.ol e) :: .v (.ol [.int (k:Int)]) :: .v (.ol c)::r
abbrev lwT(K:dN)(ns:S7)(C:Addr)(c:Mks)(ly:S5)(e:Int)(b:S1)(k:Nat)(a:S1)(r:T1):En:=.v (.tr<|.scr K ns)::vT (hsT C (gT c) ly e)::vT (.lst b)::vT (.lst [.int (k:Int)])::vT (.lst a)::r
def it_:(lwE K ns C a dx b ms ly mu now k mks r).map slS=lwT K ns C ms ly mu now k mks (r.map slS):=by show _::Sl.v (.tr (Ow.oi C a dx<|hsL b (gT ms) ly mu).d)::_=_;rw[aRh];rfl
section
variable{f:Addr}{L:Nat}{C_House:Addr}
def ds4(a:x=x')(b:y=y'):[h,m,Dx.int x,Dx.int y]=[h,m,Dx.int x',Dx.int y']:=by rw[a,b]
def aQm(F:Fun K "law" "law" nF f fd)(M8:Cal P w K mg base 1 "_law_cell_at" BO<|spX<|gCL K)(L6:Cal P w K mg base 2 "_law_deck" BN<|spX gDK)(Qh:Cal P w K mg base L "_law_begun" ["cell"] (spX<|gBG C_House))(P6:Cal P w K mg base L "_law_make" BD<|aIp gMK)(Jk:Cal P w K mg base 6 "_law_right" AV<|spX<|gRI C_House)(P7:Cal P w K mg base L "_law_list_refused" BM<|spX<|gLR C_House)(Lx:Cal P w K mg base 6 "_law_refused" AD<|spX<|gRF C_House)(y:sR P w K mg base L C_House "next_make" AM<|spO<|aMl C_House)(u:sR P w K mg base 1 C_House "how_many_makes" ["self"] (spX<|gHM C_House))
  (B:Blt mg) (hL:6<=L) :
  FnOk P w K mg base CX0 (L+1) f fd ["script"] (spX<|bGf K):=by
 refine xT F gF (λds Q h=>by obtain⟨v,rfl,_⟩:=h;rfl) `b λAi A a4 s H E hr=>?_;refine#[_,aSe M8 L6 Qh P6 Jk P7 Lx y u B hL hr,λds Q h=>?_];clear hr;obtain⟨v,rfl,a6,q⟩:=h;unfold aIy;refine#[v,0,rfl,by decide,λc=>?_];refine#[c,rfl,λfs G m o k a dx b b1 b2 D=>?_];refine#[_,_,_,_,_,rfl,?_];dsimp only;change cX _ _ [vT<|.scr K v,.v<|.ow<|.oi C_House a dx<|hsL b (gT [(fs,G)]) m o,.v<|.ol<|fs.map Fe.n,.v<|.ol [.int (k:Int)],.un,.un,.un,.un,.un,.un,.un,.un,.un] _;refine#[_,rfl,by show 1<=1000000;decide,?_];dsimp only;change cX (lC _ _ _) _ (lwE K v C_House a dx b [(fs,G)] m o (fs.map Fe.n) k (gQ [(fs,G)]) [.un,.un,.un,.un,.un,.un,.un,.un]) _;refine cs_ (λρ=>∃(g:Mks) (m:S5) (o:Int) (fs:S6) (k:Nat) (G:Int) (z:Mks) (I J C:Sl),HsOk g m o k fs G z/\g.length<=8/\ρ=lwE K v C_House a dx b g m o (fs.map Fe.n) k (gQ g) [I,J,C,.un,.un,.un,.un,.un]) ?_<|λnx Dw=>?_
 ·rintro ρ ⟨g,m,o,fs,k,G,z,I,J,C,D,h8,rfl⟩;have N0:1<=g.length:=by rw[D.is,aI];show 1<=_+1;lia
  refine j9 ?_;change cX (lC _ _ _) _ (lwE K v C_House a dx b g m o (fs.map Fe.n) k (gQ g) [I,J,C,vT<|.int (gQ g).length,.un,.un,.un,.un]) _;rw[wW];have Y:∀{i:Nat},i<g.length->∃p,g[i]? = some p/\kO p.1:=λ{i} O=>#[g[i],aG O,(D.hist.plc _<|List.getElem_mem O).1];refine cs_ (λρ=>∃S:Sl,ρ=lwE K v C_House a dx b g m o (fs.map Fe.n) k (gQ g) [I,J,C,vT<|.int (g.length:Int),S,.un,.un,.un]) ?_<|λa7 Gi=>?_
  ·rintro ρ ⟨S,rfl⟩;refine#[v,0,rfl,by decide,λc2=>?_];refine#[#[by decide,by decide,by decide],?_];have a5:(0:Int)<10^Int.toNat 30:=by decide
   refine#[a5,?_];dsimp only;have f0:0<=c2%(10^Int.toNat 30):=bT _ `a;generalize c2%(10^Int.toNat 30)=far at f0 ⊢;change cX (iQ 11 _) _ (lwE K v C_House a dx b g m o (fs.map Fe.n) k (gQ g) [I,J,C,vT<|.int (g.length:Int),S,vT<|.int far,.un,.un]) _;have m0:(0:Int)<(g.length:Int):=by lia
   refine#[m0,?_];obtain⟨N,a0,G6⟩:∃N:Nat,far%(g.length:Int)=(N:Int)/\N<g.length:=by have a:=bT far (show(g.length:Int)≠0 by lia);have b:=bU far m0;exact#[(far%(g.length:Int)).toNat,by lia,by lia]
   dsimp only;change cX (lC _ _ _) _ (lwE K v C_House a dx b g m o (fs.map Fe.n) k (gQ g) [I,J,C,vT<|.int (g.length:Int),S,vT<|.int far,vT<|.int<|far%(g.length:Int),.un]) _;rw[a0];obtain⟨pg,a2,N4⟩:=Y G6;refine cs_ (λρ=>∃R:Sl,ρ=lwE K v C_House a dx b g m o (fs.map Fe.n) k (gQ g) [I,J,C,vT<|.int (g.length:Int),S,vT<|.int far,vT<|.int (N:Int),R]) ?_<|λb0 Od=>?_;rintro ρ ⟨R,rfl⟩;refine u9 ?_;refine#[#[_,aRh (a:=a) (dx:=dx),rfl],gT g,m,o,by show [(Ow.oi C_House a dx<|hsL b (gT g) m o).d]=_;rw[aRh],?_];show if decide (((gT g).length:Int)=(g.length:Int))=true then _ else _
   rw[aQt,dzT rfl,if_pos rfl];refine#[g,m,o,k,N,g.length-1,?_,D.hist,by lia,by lia,by lia,q];show [(Ow.oi C_House a dx<|hsL b (gT g) m o).d,Dx.lst<|gQ g,Dx.int (N:Int),Dx.int<|(g.length:Int)-1]=_;rw[aRh];exact ds4 rfl `a
   ·refine #[m0,by show 1≤1000000; decide,by show 1≤1000000; decide,by show 12≤1000000; decide,?_];have Gh:∀d∈[Dx.int<|-1,.int (g.length:Int),.int<|-1-far,.int<|(g.length:Int)+far,.int<|0-(g.length:Int),.int<|-1-far%(g.length:Int),.non,.bl true,.bl false,.str "0",.lst [.int 0],.tup [.int 0]],iV d/\iF g.length d:=by
     intro d hd;simp only[aE,bG,or_false]at hd;rcases hd with rfl | rfl | rfl | rfl | rfl | rfl | rfl | rfl | rfl | rfl | rfl | rfl
     all_goals refine#[trivial,λi O=>?_]
     all_goals first | (cases O;done) | (cases O;lia)
    show iS _ _ _ [Dx.int<|-1,.int (g.length:Int),.int<|-1-far,.int<|(g.length:Int)+far,.int<|0-(g.length:Int),.int<|-1-far%(g.length:Int),.non,.bl true,.bl false,.str "0",.lst [.int 0],.tup [.int 0]] _;generalize [Dx.int<|-1,.int (g.length:Int),.int<|-1-far,.int<|(g.length:Int)+far,.int<|0-(g.length:Int),.int<|-1-far%(g.length:Int),.non,.bl true,.bl false,.str "0",.lst [.int 0],.tup [.int 0]]=W at Gh;refine rB (λrest ρ=>(∀d∈rest,iV d/\iF g.length d)/\∃R:Sl,ρ=lwE K v C_House a dx b g m o (fs.map Fe.n) k (gQ g) [I,J,C,vT<|.int (g.length:Int),S,vT<|.int far,vT<|.int (N:Int),R]) (λρ h=>Od _ h.2) (λd rest ρ Kn h x=>?_) #[Gh,.un,rfl];obtain⟨ho,R,rfl⟩:=h;obtain⟨V,Ob⟩:=ho d aB;refine qY (ρ:=lwE K v C_House a dx b g m o (fs.map Fe.n) k (gQ g) [I,J,C,vT<|.int (g.length:Int),S,vT<|.int far,vT<|.int (N:Int),vT d]) (λQ q=>?_)<|x _ #[λd hd=>ho d<|aC _ hd,_,rfl];rw[it_];refine#[by show 2<=1000000;decide,by show 2<=1000000;decide,by show 2<=1000000;decide,by show 3<=1000000;decide,by show 3<=1000000;decide,?_];refine i6 (λt ht Ae P p=>?_) #[bM _,q _];have Qu:t∈[Dx.tup [d,.int (N:Int)],.tup [.int (N:Int),d],.tup [d,d]]:=ht;simp only[aE,bG,or_false]at Qu;rcases Qu with rfl | rfl | rfl
    exact#[g,m,o,d,.int (N:Int),rfl,V,trivial,.inr<|.inr Ob,p];exact#[g,m,o,.int (N:Int),d,rfl,trivial,V,.inr<|.inl #[N,pg,rfl,a2,N4,Ob],p];exact#[g,m,o,d,d,rfl,V,V,.inr<|.inr Ob,p]
  refine #[`o,?_];show iS _ _ _ (gJ 0 ((g.length:Int)).toNat) _;rw[gC];unfold gJ;refine x6 (λi:Nat=>Dx.int<|0+(i:Int)) (λrest ρ=>(∀i∈rest,i<g.length)/\∃S:Sl,ρ=lwE K v C_House a dx b g m o (fs.map Fe.n) k (gQ g) [I,J,C,vT<|.int (g.length:Int),S,.un,.un,.un]) (λρ h=>?_) (λi rest ρ Kn h x=>?_) #[λi O=>cR.mp O,.un,rfl];exact Gi _ h.2;obtain ⟨Ap,S,rfl⟩:=h;have O:=Ap i aB;refine xQ (ρ:=lwE K v C_House a dx b g m o (fs.map Fe.n) k (gQ g) [I,J,C,vT<|.int (g.length:Int),vT<|.int<|0+(i:Int),.un,.un,.un]) (λQ q=>?_) ?_;rw [it_];refine#[#[by lia,by lia,by lia,by lia],?_];refine#[show(gJ _ _).length<=1000000 by unfold gJ;rw[aA,bV];lia,show cC _ _ _ _ _ (gJ (0+(i:Int)) ((g.length:Int)-(0+(i:Int))).toNat) _ _ from ?_];unfold gJ;refine ga_ _ (λj n Ae P p=>?_) #[bM _,q _];have Mq:=cR.mp n;exact#[g,m,o,k,i,i+j,ds4 `a `a,D.hist,by lia,by lia,by lia,p];refine qY (ρ:=lwE K v C_House a dx b g m o (fs.map Fe.n) k (gQ g) [I,J,C,vT<|.int (g.length:Int),vT<|.int<|0 + (i:Int),.un,.un,.un]) (fun Q q => ?_) ?_;rw [it_];refine#[`o,?_];refine#[show(gJ _ _).length<=1000000 by unfold gJ;rw[aA,bV];lia,show cC _ _ _ _ _ (gJ 0 (0+(i:Int)).toNat) _ _ from ?_];unfold gJ;refine ga_ _ (λj n Ae P p=>?_) #[bM _,q _];have Mq:=cR.mp n;obtain⟨pi,N5,N3⟩:=Y O;obtain⟨pj,a3,N2⟩:=Y (show j<g.length by lia);refine#[g,m,o,_,_,rfl,trivial,trivial,.inl #[i,j,pi,pj,congrArg Dx.int<|gR _,congrArg Dx.int<|gR _,N5,a3,N3,N2,by lia],p];exact x _ #[λi O=>Ap i<|aC _ O,_,rfl]
 refine #[rfl,?_];have D5:(iY v (some 1)<|some 8).length<=7:=by have h1:=HT.sIx_nat v.length v.length 8;have Z:=HT.sIx_nat v.length 0 1;unfold iY;rw[fG,iK];rw[show((8:Nat):Int)=8 from rfl]at h1;rw[show((1:Nat):Int)=1 from rfl]at Z;rw[h1,Z];lia
 show iS _ _ _ ((iY v (some 1)<|some 8).map Dx.int) _;refine x6 Dx.int (λrest ρ=>∃(g:Mks) (m:S5) (o:Int) (fs:S6) (k:Nat) (G:Int) (z:Mks) (I J C:Sl),HsOk g m o k fs G z/\g.length+rest.length<=8/\ρ=lwE K v C_House a dx b g m o (fs.map Fe.n) k (gQ g) [I,J,C,.un,.un,.un,.un,.un]) (λρ h=>?_) (λc rest ρ Kn h x=>?_) #[[(fs,G)],m,o,fs,k,G,[],.un,.un,.un,D,by show 1+_<=8;lia,rfl];obtain ⟨g,m,o,fs,k,G,z,I,J,C,h1,Z,rfl⟩:=h;exact Dw _ #[g,m,o,fs,k,G,z,I,J,C,h1,by rw[bE]at Z;lia,rfl];clear D;obtain⟨g,m,o,fs,k,G,z,I,J,C,D,Z,rfl⟩:=h;rw[aK]at Z;have N0:1<=g.length:=by rw[D.is,aI];show 1<=_+1;lia
 obtain⟨Ag,a1,K8⟩:=D.fs;have Mm:gT g=gT z++[mkT fs G]:=by rw[D.is,aCa]
 refine j9 ?_;change cX (iQ 7 _) _ (lwE K v C_House a dx b g m o (fs.map Fe.n) k (gQ g) [vT<|.int c,vT<|.int (gQ g).length,C,.un,.un,.un,.un,.un]) _;rw[wW];refine#[c,90,rfl,by decide,by decide,λl hl=>#[by decide,l,rfl,hl,fs,k,rfl,rfl,by lia,Ag.2.1,λe he=>#[a1 e he,D.pool e he],D.k20,λM h3 h4 h5 h6 h7=>?_]];obtain⟨hB,hN⟩:=aRg D `a h3 h4 h5 h6 h7;dsimp only;change cX (xIf _ _ _) _ (lwE K v C_House a dx b g m o ((gos fs k M).map Fe.n) (cts k M) (gQ g) [vT<|.int c,vT<|.int (g.length:Int),.v<|.ol<|M.map Ch.x,.un,.un,.un,.un,.un]) _;refine xQ (λQ q=>?_) ?_;rw [it_];refine#[g,m,o,k,0,g.length-1,ds4 rfl `a,D.hist,by lia,by lia,by lia,?_];exact#[gT z,m,o,G,fs,k,M,by rw[<-Mm];rfl,by lia,by lia,h3,h5,λe he=>(km_ e.nm<|h7 e he).2,q _];refine xQ (fun Q q => ?_) ?_;rw [it_];refine#[g,m,o,k,0,g.length-1,ds4 rfl `a,D.hist,by lia,by lia,by lia,?_];refine#[g,m,o,_,_,rfl,trivial,trivial,.inr<|.inl #[g.length-1,(fs,G),congrArg Dx.int `a,D.last,Ag,λi O=>by cases O;lia],q _];refine #[#[rfl,rfl],?_];refine#[rfl,b,gT z,m,o,G,g.length,k,fs,M,by rw[<-Mm],rfl,by rw[<-Mm];exact hB,λT r U i p1 p2 p3 p4=>?_];obtain⟨Rr,Ee⟩:=hN T r U p1 p2 p3 p4;rw[<-Mm,<-aCa g (dE (gos fs k M) m,r),<-Ee];refine#[rfl,_,rfl,by show(gQ g).length<1000000;rw[wW];lia,?_];dsimp only;change xIf _ _ _ (lwE K v C_House a dx b (g++[(dE (gos fs k M) m,r)]) T U ((dE (gos fs k M) m).map Fe.n) (cts k M) (gQ g++[.lst<|(dE (gos fs k M) m).map Fe.n]) [vT<|.int c,vT<|.int (g.length:Int),vT<|.lst<|M.map Ch.x,.un,.un,.un,.un,.un]) _;rw[<-aQr g (dE (gos fs k M) m,r)];have Dd:(g++[(dE (gos fs k M) m,r)]).length=g.length+1:=by rw[aI];rfl
 refine qY (λQ q=>?_)<|x _ #[_,T,U,_,cts k M,r,g,_,_,_,Rr,by lia,rfl];rw[it_];refine#[`o,?_];refine#[show(gJ _ _).length<=1000000 by unfold gJ;rw[aA,bV];lia,show cC _ _ _ _ _ (gJ 0 ((g.length:Int)).toNat) _ _ from ?_];unfold gJ;refine ga_ _ (λj n Ae P p=>?_) #[bM _,q _];have Mq:=cR.mp n;exact#[_,T,U,cts k M,j,g.length,ds4 `a rfl,Rr.hist,by lia,by lia,by lia,p]
end
structure Fx(K:dN)(mg:mI)(nm:Str)(st:Stmt)(ps:S4)(f:Addr)(fd:FuncData):Prop where
 F:Fun K nm nm st f fd
 b:Binds K fd ps []
 k:PySem.W.keepIn K (.ref f)=true
 m:mg nm=some (.ref f)
def Fx.cal(x:Fx K mg nm st ps f fd)(h:FnOk P w K mg base CX0 j f fd ps sp):Cal P w K mg base j nm ps sp:=#[f,fd,h,x.b,x.k,x.m]
def bAw(e:∀l ds Q,¬g l ds Q):FnOk P w K mg base CX0 j f fd ps<|spB g:=
 #[λi H Q E h=>by obtain⟨_,_,_,_,_,_,_,_,_,_,_,_,_,a,_⟩:=h;exact(e _ _ _ a).elim,λA b s H c q i Q E p o m hv h=>by obtain⟨_,_,_,_,_,_,_,_,_,_,_,_,_,a,_⟩:=h;exact(e _ _ _ a).elim]
def uK(c:∀ds Q,¬g ds Q):FnOk P w K mg base CX0 j f fd ps<|spX g:=
 #[λi H Q E h=>by obtain⟨_,ds,e,_,_,h,_⟩:=h;exact absurd h<|c _ _,λA a s H b l i Q E _ _ _ _ h=>by obtain⟨_,ds,e,_,_,h,_⟩:=h;exact absurd h<|c _ _]
structure Mx(K:dN)(C:Addr)(m qual:Str)(st:Stmt)(ps:S4)(f:Addr)(fd:FuncData):Prop where
 F:Fun K m qual st f fd
 b:Binds K fd ps []
 h:Meth K C m f
 c:Cls K C
def Mx.cal(M:Mx K C m qual st ps f fd)(h:FnOk P w K mg base CX0 j f fd ps sp):sR P w K mg base j C m ps sp:=#[M.c,f,fd,M.h,h,M.b]
def aRu(e:∀l ds Q,¬g l ds Q):FnOk P w K mg base CX0 j f fd ps<|vU g:=
 #[λi H Q E h=>by obtain⟨_,_,_,h⟩:=h;obtain⟨_,_,_,_,_,_,_,_,_,_,_,_,_,a,_⟩:=h;exact(e _ _ _ a).elim,λA b s H c q i Q E p o m hv h=>by obtain⟨_,_,_,h⟩:=h;obtain⟨_,_,_,_,_,_,_,_,_,_,_,_,_,a,_⟩:=h;exact(e _ _ _ a).elim]
def Fx.calE(x:Fx K mg nm st ps f fd)(h:FnOk P w K mg base (CXe P w) j f fd ps sp):nB P w K mg base j nm ps sp:=#[f,fd,h,x.b,x.k,x.m]
def Mx.calE(M:Mx K C m qual st ps f fd)(h:FnOk P w K mg base (CXe P w) j f fd ps sp):rV P w K mg base j C m ps sp:=#[M.c,f,fd,M.h,h,M.b]
structure Consts(K:dN)(mg:mI):Prop where
 letters:∃t,mg "SMALL_LETTERS" = some (.str lets t)
 name:∃t,mg "LONGEST_NAME" = some (.int 8 t)
 wide:∃t,mg "WIDEST_NUMBER" = some (.int 8 t)
 mul:∃a,mg "MULTIPLES" = some (.ref a)/\∀H,SqT K H a [.int 1,.int 2,.int 4,.int 8]
 row:∃t,mg "LONGEST_ROW" = some (.int 20 t)
 fields:∃t,mg "MOST_FIELDS" = some (.int 8 t)
 choices:∃t,mg "MOST_CHOICES" = some (.int 6 t)
 deep:∃t,mg "DEEPEST" = some (.int 5 t)
section
def qU(k:Kd):1<=k.deep:=by cases k<;>simp only[Kd.deep]<;>lia
def bBc(d:Dx):1<=d.deep:=by cases d<;>simp only[Dx.deep]<;>lia
def aCk(b:Fx K mg "_law_kind" il_ BG fKN dKN)(c:Fx K mg "_law_names" gw_ ["deck","many"] fLN dLN)(a:Fx K mg "_law_next" fu_ BH fNX dNX)(B:Blt mg):∀n,FnOk P w K mg base CX0 (n+2) fKN dKN BG (spB<|gKN n)
  | 0 => bAw fun l e Q h => by
      obtain⟨d,_,_,f,g,_⟩:=h
      omega
  |n+1=>aYn (j:=n) b.F (a.cal<|wQ a.F) (c.cal<|aYk c.F (a.cal<|wQ a.F) B) (b.cal<|aCk b c a B n) B
def aBe(a:Fx K mg "_law_room" ft_ AX fRM dRM)(b:Fx K mg "_law_up" pT AB fUP dUP)(B:Blt mg):∀n,FnOk P w K mg base CX0 (n+1) fRM dRM AX (spX<|gRM n)
  | 0 => uK fun c Q h => by
      obtain⟨k,_,_,e,_⟩:=h;have:=qU k
      omega
  |n+1=>aXu (j:=n) a.F (a.cal<|aBe a b B n) (b.cal<|aXn b.F) B
def aAp(b:Fx K mg "_law_value" gu_ AR fVA dVA)(a:Fx K mg "_law_next" fu_ BH fNX dNX)(B:Blt mg):∀n,FnOk P w K mg base CX0 (n+1) fVA dVA AR (vU<|gVA n)
  | 0 => aRu fun l e Q h => by
      obtain⟨c,_,_,_,f,_⟩:=h;have:=qU c
      omega
  |n+1=>aXm (j:=n) b.F (a.cal<|wQ a.F) (b.cal<|aAp b a B n) B
def aDj(a:Fx K mg "copied" pY AA fCO dCO)(B:Blt mg):∀n,FnOk P w K mg base CX0 (n+1) fCO dCO AA (spX<|gCO n)
  | 0 => uK fun b Q h => by
      obtain⟨d,_,_,c,_⟩:=h;have:=bBc d
      omega
  |n+1=>bEv (j:=n+1) a.F (a.cal<|aDj a B n) B
def aCo(a:Fx K mg "is_value" im_ AO fIV dIV)(b:Fx K mg "is_whole" fv_ AA fIW dIW)(c:Fx K mg "is_row_value" ej_ AY fIRV dIRV)(e:Fx K mg "is_record_value" cu_ BF fIDV dIDV)(f:Fx K mg "is_choice_value" cv_ BI fICV dICV)
    (g:∃t,mg "BITS_OF_A_BYTE" = some (.int 8 t)) (B:Blt mg):∀n,FnOk P w K mg base CX0 (2*n+1) fIV dIV AO (spX<|gIV n)
  | 0 => uK fun m Q h => by
      obtain⟨l,_,_,_,_,o,_⟩:=h;have:=qU l
      omega
  | n + 1 =>
      have r:=a.cal<|aCo a b c e f g B n;have i:=b.cal (P:=P) (w:=w)<|t6 b.F B
      aYo a.F i (c.cal<|aYq c.F r B) (e.cal<|aYt e.F r B) (f.cal<|aYu (j:=2*n) f.F i r B) g
def aBd(i:Fx K mg "room_of" kf_ AX fRO dRO)(l:Fx K mg "rooms_of" ik_ AN fRS dRS)(RR:Fx K mg "room_of_row" es_ ["kind","n"] fRR dRR)(f:Fx K mg "room_of_record" cc_ AN fRC dRC)(g:Fx K mg "room_of_choice" dd_ AN fRH dRH)(m:Fx K mg "rounded_up" fl_ AB fRU dRU)(o:Fx K mg "step_of" ke_ ["room"] fSO dSO)(b:Fx K mg "chosen_at" gy_ ["multiple"] fCA dCA)(c:Fx K mg "greatest_multiple" cf_ BB fGM dGM)(e:Fx K mg "places_behind" du_ BB fPB dPB)(B:Blt mg):∀n,FnOk P w K mg base CX0 (3*n+2) fRO dRO AX (spX<|gRO n)
  | 0 => uK fun s Q h => by
      obtain⟨k,_,_,t,_⟩:=h;have:=qU k
      omega
  | n + 1 =>
      have r:=i.cal<|aBd i l RR f g m o b c e B n;have a:=m.cal (P:=P) (w:=w)<|aKo m.F;have p:=c.cal (P:=P) (w:=w)<|aKt c.F B;have q:=l.cal<|aKp l.F r
      aXt (j:=3*n+4) i.F ((RR.cal<|aXs RR.F r (o.cal<|aXp o.F a)<|by omega).mono<|by omega) (f.cal<|aXy f.F q p (e.cal<|aYb e.F a) a B<|by omega) (g.cal<|aXw g.F q p (b.cal<|aZg b.F a) a B<|by omega)
def aCi(g:Fx K mg "is_kind_within" df_ AQ fKW dKW)(c:Fx K mg "are_kinds" gz_ AE fAK dAK)(b:Fx K mg "are_fields" fn_ AE fAF dAF)(f:Fx K mg "is_whole" fv_ AA fIW dIW)(m:Fx K mg "is_whole_up_to" de_ AW fWU dWU)(i:Fx K mg "is_list_up_to" dw_ BC fLU dLU)(e:Fx K mg "has_form" in_ AH fHF dHF)(l:Fx K mg "is_name" kj_ AA fNM dNM)(a:Consts K mg)(B:Blt mg):∀n,FnOk P w K mg base CX0 (3*n) fKW dKW AQ (spX<|gKW n)
  | 0 => uK fun q Q h => by
      obtain⟨k,_,_,s,_⟩:=h;have:=qU k
      omega
  | n + 1 =>
      have r:=g.cal<|aCi g c b f m i e l a B n;have p:=f.cal (P:=P) (w:=w)<|t6 f.F B;have o:=c.cal<|aZm c.F r B
      aYl (j:=3*n) g.F p (m.cal<|aXl m.F p) (i.cal<|aYi i.F B) (e.cal<|aKs e.F B) (r.mono<|by omega) (o.mono<|by omega) (b.cal<|aZn (j:=3*n) b.F (l.cal<|aKr l.F B a.name a.letters) o B) a.wide a.row a.fields a.choices a.mul
end
def tZ:∀{cs},(∀c∈cs,PySem.W.kitOne K t c=some false)->PySem.W.kitAny K t cs=some false
 | [],_=>by simp only[PySem.W.kitAny]
 |c::r,h=>by have e:=h c aB;have f:=tZ (cs:=r) λa b=>h a<|aC _ b;simp only[PySem.W.kitAny,e,f]
def bFn{CF CV CB CM CT CN CR}(o:ClsX K mg "FieldError" CF)(h:ClsX K mg "NoValue" CV)(b:ClsX K mg "NoBytes" CB)(a:ClsX K mg "NoMake" CM)(g:ClsX K mg "NoText" CT)(e:ClsX K mg "NoName" CN)(f:ClsX K mg "NoRow" CR)
  (l:[(some true,true),(some false,false),(some false,false),(some true,true),(some false,false),(some false,false),(some false,false)]=(["FieldError","NoValue","NoBytes","NoMake","NoText","NoName","NoRow"]:S4).map (λm=>match mH K m with | some D=>(PySem.W.kitOne K (.ref CM)<|.ref D,aEd K CM D) | none=>(none,false))) (v:PySem.W.kitOne K (.ref CM) (.type "ValueError")=some true) (p:K.In base):Kit41 K mg CV CB CM CT CN CR/\vB base CM CF:=by
 simp only[bQ,fC,o.at',h.at',b.at',a.at',g.at',e.at',f.at',List.cons.injEq,Prod.mk.injEq,and_true]at l;obtain⟨⟨_,j⟩,⟨kV,_⟩,⟨q,_⟩,⟨r,_⟩,⟨u,_⟩,⟨s,_⟩,⟨t,_⟩⟩:=l;refine#[#[h.m,b.m,a.m,g.m,e.m,f.m,aGb a.ok,r.symm,v,tZ λc i=>?_],i7 a.ok j.symm p];simp only[aE,bG,or_false]at i;rcases i with rfl | rfl | rfl | rfl | rfl
 exact q.symm;exact s.symm;exact t.symm;exact u.symm;exact kV.symm
def left_top:PySem.W.LeftO PySem.Challenge.pw_laidfields_k41_steady_names `s [] (λs=>PySem.W.xlAt `s [] s&&PySem.W.recOk [] s) (exHook (seenF PySem.Challenge.pw_laidfields_k41_steady_names)<|seenV PySem.Challenge.pw_laidfields_k41_steady_names).obs (exHook (seenF PySem.Challenge.pw_laidfields_k41_steady_names)<|seenV PySem.Challenge.pw_laidfields_k41_steady_names).val 4000 true:=aFj `b (by kernel_rfl) (λs=>by kernel_rfl) aKn
def ir_{b:Type}{f g:Nat->b}:∀{l:T3},l.map f=l.map g->∀i,i∈l->f i=g i:=λh i a=>List.map_inj_left.mp h i a
def Uc{b:Type}:Nat->(List b->Prop)->Prop
 | 0,P=>P []
 |n+1,P=>∀a,Uc n λl=>P (a::l)
def uc:∀{P:List c->Prop},Uc n P->∀us,us.length=n->P us:=by
 induction n with
 |zero =>
  intro P h us e;cases us with
  |nil=>exact h
  |cons a l=>cases e
 |succ n b =>
  intro P h us e;cases us with
  |nil=>cases e
  |cons a l=>exact b (h a) l<|Nat.succ.inj e
def jW(F:Fun K x a st f fd)(h:Uc ps.length λus=>BA x a st us<|ps.zip us):Binds K fd ps []:=F.binds λ_ _ _ _ _ _ us b=>uc h us b _ _ _ _ _ _
def fx(b:seenF PySem.Challenge.pw_laidfields_k41_steady_names K=seenV PySem.Challenge.pw_laidfields_k41_steady_names)(X:K.In h)(G:h.Ns mainGlobals mg)(i:Nat)(ps:S4)(e:i∈[10,11,12,13,23,24,25,26,27,28,29,30,31,32,33,34,35,36,37,38,39,40,41,43,44,45,46,47,48,49,52,53,54,55,56,60,61,62,63,64,65,67,68,69,70,71,72,73,74,75,76,77,78,79,80,82,83,84,85,86]:=by decide)(c:Uc ps.length λus=>BA (fA `j) (fA `j) `j us (ps.zip us):=by(repeat intro _);rfl):∃f fd,Fx K mg (fA `j) `j ps f fd:=by obtain⟨f,d,a,F⟩:=aFc<|ir_ (f:=λi=>wV K<|fA `j) (g:=λi=>xW `j) (congrArg (λx=>x.1) b) i e;exact#[f,d,F,jW F c,F.kp,PySem.W.mg_of X G a]
def aGn(F:Fun K "law" "law" nF f fd)(s:Shared)(v:Value):BindsTo s fd #[[v],[]] [("script",v)]:=by obtain⟨g,h,kV,a,i,e,c,ct,b,rfl,_⟩:=F.ex;exact .of_eq rfl
def all_mk{l:PySem.W.OpenLaw}(m:seenF PySem.Challenge.pw_laidfields_k41_steady_names K=seenV PySem.Challenge.pw_laidfields_k41_steady_names)(X:K.In h)(G:h.Ns mainGlobals mg)(O6:mg "law" = some (.ref fa)) :
  ∃fd:FuncData,(∀(s:Shared) (v:Value),BindsTo s fd #[[v],[]] [("script",v)])/\∀base:Heap,K.In base->base.Ns mainGlobals mg->FnOk l.prog w K mg base CX0 30 fa fd ["script"] (spLaw K):=by
 have Kx:(bltNs++[(#[[86,97,108,117,101,69,114,114,111,114].toArray]:Str)]).map (qN K)=List.replicate 18 true:=congrArg (λx=>x.2.1) m;rw[aY]at Kx;have Of:bltNs.map (qN K)++[qN K (#[[86,97,108,117,101,69,114,114,111,114].toArray]:Str)]=List.replicate 17 true++[true]:=Kx;obtain⟨hn,hv⟩:=List.append_inj Of (by rw[aA];rfl);have h3:(#[[86,97,108,117,101,69,114,114,111,114].toArray]:Str) = "ValueError":=by rfl
 have Bq:mg "ValueError" = none:=PySem.W.mg_none_of X G<|h3 ▸ a_ (List.cons.inj hv).1;have hc:=ir_ (f:=λi=>wS K<|fA `j) (g:=λi=>bHg `j) (l:=[15,16,17,19,20,21,22,51,58])<|congrArg (λx=>x.2.2.1) m;have ht:=ir_ (f:=λi=>wU K<|fA `j) (g:=λi=>bHh `j) (l:=[18])<|congrArg (λx=>x.2.2.2.1) m;obtain⟨_,l7,B5⟩:=fx m X G 10 AD;obtain⟨_,m0,Bz⟩:=fx m X G 11 AI;obtain⟨_,m1,B6⟩:=fx m X G 12 AI;obtain⟨_,m2,By⟩:=fx m X G 13 AD;obtain⟨_,m3,Bp⟩:=fx m X G 23 AA;obtain⟨_,n0,Cv⟩:=fx m X G 24 AW;obtain⟨_,n1,Da⟩:=fx m X G 25 BC;obtain⟨_,n2,Cw⟩:=fx m X G 26 AA;obtain⟨_,n3,Cb⟩:=fx m X G 27 AH;obtain⟨_,n4,Dv⟩:=fx m X G 28 AA;obtain⟨_,n5,Bi⟩:=fx m X G 29 AQ;obtain⟨_,n7,Eb⟩:=fx m X G 30 AE;obtain⟨_,n8,D1⟩:=fx m X G 31 AE;obtain⟨_,o0,Bo⟩:=fx m X G 32 AB;obtain⟨_,o1,Du⟩:=fx m X G 33 AX;obtain⟨_,o2,Ca⟩:=fx m X G 34 AN;obtain⟨_,o3,An⟩:=fx m X G 35 BB;obtain⟨_,o4,Fl⟩:=fx m X G 36 ["room"];obtain⟨_,o5,Do⟩:=fx m X G 37 ["kind","n"];obtain⟨_,p0,Ct⟩:=fx m X G 38 AN;obtain⟨_,p1,C9⟩:=fx m X G 39 BB;obtain⟨_,p2,Cu⟩:=fx m X G 40 AN;obtain⟨_,p3,Ea⟩:=fx m X G 41 ["multiple"];obtain⟨_,p4,Bh⟩:=fx m X G 43 ["kinds","lying"];obtain⟨_,p5,Bw⟩:=fx m X G 44 BE;obtain⟨_,p6,B0⟩:=fx m X G 45 BP;obtain⟨_,q0,Bl⟩:=fx m X G 46 ["rooms","lying"];obtain⟨_,q1,B7⟩:=fx m X G 47 AU;obtain⟨_,q2,A4⟩:=fx m X G 48 ["ways","how_many"];obtain⟨_,q3,Ci⟩:=fx m X G 49 BK;obtain⟨_,q4,Dg⟩:=fx m X G 52 AO;obtain⟨_,q5,Di⟩:=fx m X G 53 AY;obtain⟨_,q6,Cf⟩:=fx m X G 54 BF;obtain⟨_,q7,Cg⟩:=fx m X G 55 BI;obtain⟨_,q8,D9⟩:=fx m X G 56 AA;obtain⟨_,r0,A5⟩:=fx m X G 60 ["fields"];obtain⟨_,r1,Bt⟩:=fx m X G 61 BL;obtain⟨_,r2,A2⟩:=fx m X G 62 AJ;obtain⟨_,r3,Bj⟩:=fx m X G 63 AL;obtain⟨_,r4,C1⟩:=fx m X G 64 AJ;obtain⟨_,r5,Dh⟩:=fx m X G 65 AL;obtain⟨_,r7,B2⟩:=fx m X G 67 BO;obtain⟨_,r8,C2⟩:=fx m X G 68 ["cell","k"];obtain⟨_,s0,C7⟩:=fx m X G 69 BN;obtain⟨_,s1,Ba⟩:=fx m X G 70 BH;obtain⟨_,s2,D2⟩:=fx m X G 71 ["deck","many"];obtain⟨_,s3,C6⟩:=fx m X G 72 BG;obtain⟨_,s4,Fo⟩:=fx m X G 73 AB;obtain⟨_,s5,C3⟩:=fx m X G 74 AX;obtain⟨_,s6,B3⟩:=fx m X G 75 AT;obtain⟨_,s7,Ck⟩:=fx m X G 76 AR;obtain⟨_,s8,C4⟩:=fx m X G 77 [];obtain⟨_,t1,C5⟩:=fx m X G 78 BD;obtain⟨_,t2,Cn⟩:=fx m X G 79 ["cell"];obtain⟨_,t3,As⟩:=fx m X G 80 AZ;obtain⟨_,t8,Cm⟩:=fx m X G 82 ["caught"];obtain⟨_,u0,B1⟩:=fx m X G 83 AD;obtain⟨_,u1,A3⟩:=fx m X G 84 BM;obtain⟨_,u2,Cl⟩:=fx m X G 85 AV;obtain⟨_,l6,Gc⟩:=fx m X G 86 ["script"];have B:Blt mg:=#[PySem.W.mg_none_of X G<|f7 hn 0 `b (by rfl),PySem.W.mg_none_of X G<|f7 hn 1 `b (by rfl),PySem.W.mg_none_of X G<|f7 hn 2 `b (by rfl),PySem.W.mg_none_of X G<|f7 hn 3 `b (by rfl),PySem.W.mg_none_of X G<|f7 hn 4 `b (by rfl),PySem.W.mg_none_of X G<|f7 hn 5 `b (by rfl),PySem.W.mg_none_of X G<|f7 hn 6 `b (by rfl),PySem.W.mg_none_of X G<|f7 hn 7 `b (by rfl),PySem.W.mg_none_of X G<|f7 hn 8 `b (by rfl),PySem.W.mg_none_of X G<|f7 hn 9 `b (by rfl),PySem.W.mg_none_of X G<|f7 hn 10 `b (by rfl),PySem.W.mg_none_of X G<|f7 hn 11 `b (by rfl),PySem.W.mg_none_of X G<|f7 hn 12 `b (by rfl),PySem.W.mg_none_of X G<|f7 hn 13 `b (by rfl),PySem.W.mg_none_of X G<|f7 hn 14 `b (by rfl),PySem.W.mg_none_of X G<|f7 hn 15 `b (by rfl),PySem.W.mg_none_of X G<|f7 hn 16 `b (by rfl)];obtain⟨_,A1,e9⟩:=cn_ (x:=.str lets)<|hc 15 `b;obtain⟨_,rfl⟩:=e9;obtain⟨_,A9,f1⟩:=cn_ (x:=.int 8)<|hc 16 `b;obtain⟨_,rfl⟩:=f1;obtain⟨_,A0,f0⟩:=cn_ (x:=.int 8)<|hc 17 `b;obtain⟨_,rfl⟩:=f0;obtain⟨_,Bg,f3⟩:=cn_ (x:=.int 20)<|hc 19 `b;obtain⟨_,rfl⟩:=f3;obtain⟨_,Bf,f4⟩:=cn_ (x:=.int 8)<|hc 20 `b;obtain⟨_,rfl⟩:=f4;obtain⟨_,A8,f2⟩:=cn_ (x:=.int 6)<|hc 21 `b;obtain⟨_,rfl⟩:=f2;obtain⟨_,Cz,g3⟩:=cn_ (x:=.int 5)<|hc 22 `b;obtain⟨_,rfl⟩:=g3;obtain⟨_,Aj,e2⟩:=cn_ (x:=.int 8)<|hc 51 `b;obtain⟨_,rfl⟩:=e2;obtain⟨_,Br,g0⟩:=cn_ (x:=.int 5)<|hc 58 `b;obtain⟨_,rfl⟩:=g0;obtain⟨_,_,_,_,_,l4,l5,h4⟩:=aFb (vs:=[.int 1,.int 2,.int 4,.int 8])<|ht 18 `b;have Cj:Consts K mg:=#[#[_,PySem.W.mg_of X G A1],#[_,PySem.W.mg_of X G A9],#[_,PySem.W.mg_of X G A0],#[_,PySem.W.mg_of X G l4,λH=>.inr #[_,_,_,l5,rfl,rfl,(by have:=h4.length;simp only[aK,bE,Array.length_toList]at this;rw[<-this];decide),h4]],#[_,PySem.W.mg_of X G Bg],#[_,PySem.W.mg_of X G Bf],#[_,PySem.W.mg_of X G A8],#[_,PySem.W.mg_of X G Cz]];have hx:=congrArg (λx=>x.2.2.2.2.1) m;dsimp only[seenF,seenV]at hx;rw[aQq]at hx;simp only[bQ,fC,List.cons.injEq,and_true]at hx;obtain⟨Dq,Es,Et,Fs,Fp,Fq,Gf⟩:=hx;obtain⟨Av,A7,h0,h2,h1⟩:=ln_ Dq X G;obtain⟨Aq,El,Jr,Jm,Jp⟩:=ln_ Es X G;obtain⟨Ar,Em,Js,Jn,Jq⟩:=ln_ Et X G;obtain⟨Ac,Dl,Ge,Gd,Kb⟩:=ln_ Fs X G;obtain⟨Ay,Fb,Kc,J6,J9⟩:=ln_ Fp X G;obtain⟨Az,Fc,Ke,J7,Ka⟩:=ln_ Fq X G;obtain⟨Be,F2,Mb,L8,Ma⟩:=ln_ Gf X G;have d3:∃t,mg "BITS_OF_A_BYTE" = some (.int 8 t):=#[_,PySem.W.mg_of X G Aj];have f5:∃t,mg "MOST_ADDED" = some (.int 5 t):=#[_,PySem.W.mg_of X G Br];have hO:=congrArg (λx=>x.2.2.2.2.2) m;dsimp only[seenF,seenV]at hO;simp only[List.cons.injEq,and_true]at hO;have Gw:=hO;obtain⟨C_House,g4,Ad,g6,g5,g1,u,e7⟩:=aKu Gw;have D8:mg "House" = some (.ref C_House):=PySem.W.mg_of X G g4;have T:NoAttr K C_House "lying":=e7 "lying" `p;have a:NoAttr K C_House "makes":=e7 "makes" `p;have F:NoAttr K C_House "multiple":=e7 "multiple" `p;simp only[bQ,fC,List.cons.injEq,and_true]at g1;obtain⟨c0,a4,Y,N,a3,a5,e1,e0⟩:=g1;obtain⟨c3,c2,b4,b5,I⟩:=ch_ c0<|u ("__init__","House.__init__") `p;have c1:Binds K c2 BJ []:=jW (st:=r_) I (by(repeat intro _);rfl);have g2:Mk K C_House c3:=#[g6,b4,b5,g5];obtain⟨b2,D,n,a1,p⟩:=ch_ a4<|u ("next_make","House.next_make") `p;have a7:Binds K D AM []:=jW (st:=dv_) p (by(repeat intro _);rfl);have Am:Mx K C_House "next_make" "House.next_make" dv_ AM b2 D:=#[p,a7,#[n,a1,p.kp],Ad];obtain⟨d,A,U,W,c⟩:=ch_ Y<|u ("begin_make","House.begin_make") `p;have Z:Binds K A AG []:=jW (st:=db_) c (by(repeat intro _);rfl);have Al:Mx K C_House "begin_make" "House.begin_make" db_ AG d A:=#[c,Z,#[U,W,c.kp],Ad];obtain⟨S,r,J,M,b⟩:=ch_ N<|u ("how_many_makes","House.how_many_makes") `p;have O:Binds K r ["self"] []:=jW (st:=cd_) b (by(repeat intro _);rfl);have At:Mx K C_House "how_many_makes" "House.how_many_makes" cd_ ["self"] S r:=#[b,O,#[J,M,b.kp],Ad];obtain⟨b1,C,k,a0,o⟩:=ch_ a3<|u ("fields_of","House.fields_of") `p;have a6:Binds K C AC []:=jW (st:=kk_) o (by(repeat intro _);rfl);have Fd:Mx K C_House "fields_of" "House.fields_of" kk_ AC b1 C:=#[o,a6,#[k,a0,o.kp],Ad];obtain⟨b3,E,V,a2,q⟩:=ch_ a5<|u ("places_of","House.places_of") `p;have b0:Binds K E AC []:=jW (st:=et_) q (by(repeat intro _);rfl);have Bb:Mx K C_House "places_of" "House.places_of" et_ AC b3 E:=#[q,b0,#[V,a2,q.kp],Ad];obtain⟨e6,R,d0,d2,z⟩:=ch_ e1<|u ("room_at","House.room_at") `p;have e4:Binds K R AC []:=jW (st:=tF) z (by(repeat intro _);rfl);have F5:Mx K C_House "room_at" "House.room_at" tF AC e6 R:=#[z,e4,#[d0,d2,z.kp],Ad];obtain⟨e5,Q,c4,d1,y⟩:=ch_ e0<|u ("make_at","House.make_at") `p;have e3:Binds K Q AC []:=jW (st:=hm_) y (by(repeat intro _);rfl);have Bu:Mx K C_House "make_at" "House.make_at" hm_ AC e5 Q:=#[y,e3,#[c4,d1,y.kp],Ad];have e:=O6.symm.trans Gc.m;cases e;refine#[l6,λs v=>aGn Gc.F s v,λbase Mu _=>?_];exact have KT:=bFn A7 El Em Dl Fb Fc F2 Ge Gd Mu
  have ON:=Dl.own Mu;have k0:=Bp.cal (P:=l.prog) (w:=w) (base:=base)<|t6 Bp.F B;have Sa:=Cw.cal (P:=l.prog) (w:=w) (base:=base)<|aKr Cw.F B Cj.name Cj.letters;have Sd:=Cb.cal (P:=l.prog) (w:=w) (base:=base)<|aKs Cb.F B;have j1:=Dv.cal<|aYs Dv.F (Bi.cal (P:=l.prog) (w:=w) (base:=base)<|aCi Bi Eb D1 Bp Cv Da Cb Cw Cj B 5) Cj.deep;have j2:=Dg.cal (P:=l.prog) (w:=w) (base:=base)<|aCo Dg Bp Di Cf Cg d3 B 3;have h8:=D9.cal (P:=l.prog) (w:=w) (base:=base)<|aDj D9 B 9;have R9:=Ca.cal<|aKp Ca.F<|Du.cal (P:=l.prog) (w:=w) (base:=base)<|aBd Du Ca Do Ct Cu Bo Fl Ea An C9 B 3;have R8:=Bo.cal (P:=l.prog) (w:=w) (base:=base)<|aKo Bo.F;have i2:=An.cal (P:=l.prog) (w:=w) (base:=base)<|aKt An.F B;have R6:=Bw.cal (P:=l.prog) (w:=w) (base:=base)<|aXr Bw.F B;have Se:=B0.cal (P:=l.prog) (w:=w) (base:=base)<|aYw B0.F B;have h9:=Bl.cal<|aZd Bl.F (B7.cal<|aZc B7.F (Ci.cal<|aYy Ci.F R8) B) (A4.cal<|aZj A4.F B) B;have l0:=Bh.cal<|aYa Bh.F R9 h9 R6 Se `b;have Sc:=Dh.cal (P:=l.prog) (w:=w) (base:=base)<|aYp Dh.F;have k5:=C1.calE<|aYe (j:=16) C1.F Sa Sc j1 (j2.mono `b) (h8.mono `b) `b ON;have i1:=A2.calE<|aYz (j:=16) A2.F Sd (Bj.calE<|aYx Bj.F Sa Sc ON) k5 `b ON;have Sf:=Bt.calE<|aZa (j:=18) Bt.F Sd i1 `b B f5 ON;have Sh:=Al.cal<|aZh (j:=19) (C_House:=C_House) Al.F Ad T F a Sf (R9.mono `b) (l0.mono `b) R6 i2 Se R8 `b B;have k6:sR l.prog w K mg base 23 C_House "next_make" AM<|spO<|aMl C_House:=Am.cal<|(aQl Am.F Ad a Sh B).mono `b;have CK:bCa l.prog w K mg base 21 C_House BJ<|spO<|gIN C_House:=#[_,_,g2,aYr I Ad a T F Sh (A5.calE<|aZf A5.F B ON) `b,c1];have i3:=At.cal (P:=l.prog) (w:=w) (mg:=mg) (base:=base)<|aYv (C_House:=C_House) At.F Ad a B;have k2:=Bu.calE<|aYh (C_House:=C_House) Bu.F Ad a k0 B ON;have l1:=Bb.calE<|aXz Bb.F k2 B;have k4:=B5.calE<|aYf B5.F l1 (Bz.cal<|aYc Bz.F)<|B6.cal<|aYd B6.F;have Rz:=By.calE<|aXq By.F k4 ON;have P3:=Al.calE<|aQn Al.F Sf;have P1:=Am.calE<|aQk Am.F Ad a P3;have Sb:=Cm.cal (P:=l.prog) (w:=w) (base:=base)<|aYm Cm.F KT.1 B Bq;have l2:=B1.cal<|aXx B1.F Rz Sb (A7.own Mu) KT.2;have k1:=A3.cal<|aYj A3.F P1 Sb (A7.own Mu) KT.2 `b B;have h5:=As.cal (P:=l.prog) (w:=w) (base:=base)<|aZo As.F (As.cal<|uK λ_ _ h=>h) B;have h6:=As.cal<|aZl As.F h5 B;have l3:=Cl.cal<|aXv Cl.F Rz h6;have Sg:=C7.cal<|aZb C7.F (C2.cal (P:=l.prog) (w:=w) (base:=base)<|aXo C2.F) B;have P2:=Ba.cal (P:=l.prog) (w:=w) (base:=base)<|wQ Ba.F;have Lw:=C4.cal (P:=l.prog) (w:=w) (base:=base)<|aKq C4.F;have Si:=B3.cal<|aZk (j:=4) B3.F P2 (C6.cal<|aCk C6 D2 Ba B 3)<|(C3.cal<|aBe C3 Fo B 3).mono `b;have Ry:=Ck.cal (P:=l.prog) (w:=w) (base:=base)<|aAp Ck Ba B 3;have k3:=C5.cal<|aYg (j:=6) C5.F P2 Lw Si (Ry.mono `b) `b B;have h7:=Cn.cal<|aZi (j:=21) Cn.F Sg P2 Lw (Si.mono `b) (Ry.mono `b) CK D8 `b B
  (aLi<|aQm (L:=23) Gc.F (B2.cal<|aZe B2.F B) Sg h7 (k3.mono `b) l3 (k1.mono `b) l2 k6 i3 B `b).mono `b
def lawRec:DefRec:=match nF with
 | .FunctionDef n a b _ _ _ sc _ _ pos=>#[n,a,b,sc,pos]
 |_=>#[#[[].toArray],#[[],[],none,[],[],none,[]],[],aQ nF,#[0,0,0,0]]
end Lf
open PySem PySem.W PyProof.Rows
set_option maxHeartbeats 0 in
theorem PySem.Challenge.cw_laidfields_k41_steady_names_holds : PySem.Challenge.rw_laidfields_k41_steady_names.Holds := by
 w_on;o_law
 refine holds_open (d := Lf.lawRec) (kwd := []) (XP := XL (PySem.W.view PySem.Challenge.pw_laidfields_k41_steady_names [0, 2, 3, 4, 5, 6, 7, 8, 10, 11, 12, 13, 15, 16, 17, 18, 19, 20, 21, 22, 23, 24, 25, 26, 27, 28, 29, 30, 31, 32, 33, 34, 35, 36, 37, 38, 39, 40, 41, 43, 44, 45, 46, 47, 48, 49, 51, 52, 53, 54, 55, 56, 58, 59, 60, 61, 62, 63, 64, 65, 67, 68, 69, 70, 71, 72, 73, 74, 75, 76, 77, 78, 79, 80, 81, 82, 83, 84, 85, 86]) []) Lf.left_top (Hook.of<|L2.exHook (Lf.seenF PySem.Challenge.pw_laidfields_k41_steady_names)<|Lf.seenV PySem.Challenge.pw_laidfields_k41_steady_names) (Hook.keeps<|L2.exHook (Lf.seenF PySem.Challenge.pw_laidfields_k41_steady_names)<|Lf.seenV PySem.Challenge.pw_laidfields_k41_steady_names) (fun s e => xl_of s (gD.mp e).1) XL.keeps (by kernel_rfl) (by kernel_rfl) (by kernel_rfl) (fun s e => recFacts_of (gD.mp e).2) (by rfl) (by assumption) (by decide +kernel) #[rfl, rfl, rfl, rfl, rfl, by decide +kernel] ?hw ?hc
 case hw=>w_witness2
 case hc=>exact L2.walk_ex (l:=PySem.Challenge.rw_laidfields_k41_steady_names) (n:=63) (k:=30) (x:= "script") (CX:=L2.CX0) (sp:=Lf.spLaw) rfl (by decide) (by rfl) (by first | exact#[rfl,by decide,by decide] | exact#[rfl,by decide,by decide,rfl]) (λw K mg j h c X G b=>Lf.all_mk c X G b) (λK H a i g _ f=>#[a,i,rfl,f,g,λ_=>rfl])<|λ_ _ _ _ z=>z
#print axioms PySem.Challenge.cw_laidfields_k41_steady_names_holds

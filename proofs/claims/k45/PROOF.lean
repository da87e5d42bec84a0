import PyProof.Rows.All
import PyProof.ReprRoads
import PyProof.Rows.CatFin
import PyProof.Rows.StrClip
import PyProof.Rows.StrPartPair
import PyProof.StrLawsTight
import PyProof.AutoRange
import PyProof.RangeFor
import PyProof.StrLawsChain
import PyProof.Rows.StrSplitCount
import PyProof.Rows.StrMul
import Wide.All
import OpenK.AllK
import Wide.FinOn
import PyProof.EqAt
import PyProof.EqKinds
import PyProof.NeKinds
import PyProof.TupleCall
import PyProof.StrWalks
import PyProof.ConsumeWalk
import PyProof.EnumMake
import PyProof.EnumFor
import PyProof.ListNew
import PyProof.ListRange
import PyProof.Rows.SortWalk
import PyProof.Rows.Range3
import PyProof.Rows.ChunkEnd
import PyProof.Rows.ChunkLeaf
import PyProof.Rows.StrInSeq
import Wide.Txt
import PyProof.DictIter
import PyProof.DictWalks
import PyProof.AttrMissHeap
import KE.KDictOf
import KE.KSortTup
import KE.KDictList
import KE.KRevIter
import PyProof.Rows.Own
import PyProof.ExcBaseAll.ValueError
import PyProof.RulesAs
import PyProof.NsDelKeeps
import PyProof.ExcClass3
import PyProof.ExcArgsOwn
import KE.KIsAll
import KE.IntBitsLaws
import PyProof.Rows.StrRev
import PyProof.PureStr
import PyProof.ToksMono
import PyProof.MeetsStr3
import PyProof.StrCalls6
import KE.KDictSum
import KE.KIntText
import KE.KEqDict
import PyProof.Rows.SortStr
import PyProof.Rows.SortShellK
import PyProof.Rows.StrKeys3
import Lean
import PySem.Challenge.RW_laidfields_k45_texts_of_no_kind
abbrev AA:List PySem.Str:=["reader","depth"]
abbrev AB:List PySem.Str:=["self","signs"]
abbrev AC:List PySem.Str:=["text","depth"]
abbrev AD:List PySem.Str:=["things","depth"]
abbrev AE:List PySem.Str:=["text"]
abbrev AG:List PySem.Str:=["kind","room","m","end","most","name","part","rooms"]
abbrev AH:List PySem.Str:=["deck","many"]
abbrev AI:List PySem.Str:=["thing"]
abbrev AJ:List PySem.Str:=["thing","depth"]
abbrev AL:List PySem.Str:=["self","most_figures"]
abbrev AM:List PySem.Str:=["cell","many"]
abbrev AN:List PySem.Str:=["thing","word","length"]
abbrev AO:List PySem.Str:=["found","due"]
abbrev AQ:List PySem.Str:=["text","deck"]
abbrev AR:List PySem.Str:=["thing","greatest"]
abbrev AS:List PySem.Str:=["FieldError","NoValue","NoBytes","NoMake","NoText","NoName","NoRow"]
abbrev AT:List PySem.Str:=["deck","depth","way","many","alike","parts"]
abbrev AU:List PySem.Str:=["thing","longest"]
abbrev AV:List PySem.Str:=["text","deck","few","way","many","names"]
abbrev AW:List PySem.Str:=["text","depth","parts","names","kinds","part","name","blank"]
abbrev AX:List PySem.Str:=["kind"]
abbrev AY:List PySem.Str:=["deck","depth","most"]
abbrev AZ:List PySem.Str:=["deck","depth"]
abbrev BB:List PySem.Str:=["word"]
abbrev BC:List PySem.Str:=["deck","k","alike"]
abbrev BD:List PySem.Str:=["self","text"]
abbrev BE:List PySem.Str:=["script","k"]
abbrev BF:List PySem.Str:=["number","m"]
set_option Elab.async false
set_option linter.all false
set_option maxRecDepth 100000
set_option maxHeartbeats 16000000
abbrev dA:=PySem.W.Frag
abbrev kC:=PySem.Str->Option PySem.Value
variable{P:PySem.Program}{w:PySem.World}{K:dA}{mg:kC}{base:PySem.Heap}{fd:PySem.FuncData}
abbrev dzT:=@decide_eq_true
abbrev dzF:=@decide_eq_false
abbrev ozI:=@Option.some.inj
abbrev nzL:=@Nat.le_trans
abbrev eL:=List (PySem.Addr×PySem.Obj)
abbrev gV:=PySem.Value->PySem.Shared->Prop
section
open PySem PySem.Spec PyProof.Rows
abbrev aA:=@List.mem_cons_self
abbrev aB:=@List.mem_cons_of_mem
abbrev aC:=@List.length_append
abbrev aD:=@List.length_map
abbrev aE:=@List.length_cons
abbrev aG:=@List.mem_singleton
abbrev aI:=@List.mem_cons
abbrev aJ:=@List.mem_append_right
abbrev aK:=@List.append_assoc
abbrev aM:=@Nat.lt_of_succ_lt
abbrev aO:=@List.map_cons
abbrev aP:=@Option.bind_eq_some_iff
abbrev aQ:=@Heap.get?_push_of_some
abbrev aR:=@List.getElem?_eq_getElem
abbrev aS:=@List.append_nil
abbrev aU:=@List.cons_append
abbrev aV:=@Nat.le_refl
abbrev aW:=@Bool.false_ne_true
abbrev aX:=@List.mem_append_left
abbrev aY:=@List.length_drop
abbrev aZ:=@List.nil_append
abbrev bC:=@List.length_replicate
abbrev bG:=@List.getElem?_eq_some_iff
abbrev bH:=@Heap.lt_size
abbrev bI:=@List.length_set
abbrev bJ:=@List.length_nil
abbrev bK:=@Option.bind_some
abbrev bL:=@List.mem_append
abbrev bM:=@List.map_append
abbrev bN:=@List.size_toArray
abbrev bO:=@Heap.get?_push_size
abbrev bP:=@Nat.zero_le
abbrev bR:=@Nat.lt_of_lt_of_le
abbrev bS:=@List.not_mem_nil
abbrev bT:=@List.length_singleton
abbrev bU:=@Option.map_eq_some_iff
abbrev bX:=@List.lookup_cons
abbrev bY:=@Bool.and_eq_true
abbrev bZ:=@Bool.true_and
abbrev cA:=@List.getElem?_map
abbrev cB:=@List.length_range
abbrev cD:=@Heap.get?_update_other
abbrev cE:=@List.nodup_cons
abbrev cG:=@List.all_eq_true
abbrev cH:=@Nat.ne_of_lt
abbrev cI:=@Option.isSome_iff_exists
abbrev cJ:=@List.mem_map
abbrev cK:=@List.map_map
abbrev cM:=@List.set_eq_of_length_le
abbrev cN:=@List.nodup_append
abbrev cQ:=@Bool.false_and
abbrev cU:=@Option.map_eq_none_iff
abbrev cX:=@Bool.eq_iff_iff
abbrev cY:=@Int.emod_lt_of_pos
abbrev dB:=@List.getElem?_set_ne
abbrev dE:=@List.any_cons
abbrev dF:=@List.take_of_length_le
abbrev dG:=@List.map_nil
abbrev dH:=@List.getElem?_append_right
abbrev dI:=@List.replicate_succ
abbrev dP:=@Int.le_refl
abbrev dR:=@List.flatten_cons
abbrev dS:=@Int.emod_nonneg
abbrev eE:=@Nat.lt_irrefl
abbrev eF:=@Nat.succ_le_succ
abbrev eG:=@List.length_take
abbrev eM:=@List.mem_range
abbrev eO:=@List.isPrefixOf_iff_prefix
abbrev eQ:=@List.perm_append_comm
abbrev eY:=@List.drop_eq_getElem_cons
abbrev fB:=@Nat.le_max_left
abbrev fC:=@List.find?_cons
abbrev fJ:=@List.mem_of_getElem?
abbrev fK:=@Bool.and_eq_true_iff
abbrev fP:=@List.nodup_nil
abbrev fQ:=@List.drop_left
abbrev fR:=@Int.mul_le_mul_of_nonneg_right
abbrev gC:=@List.all_cons
abbrev gD:=@List.getElem?_eq_none
abbrev gF:=@Int.toNat_natCast
abbrev gG:=@Nat.mul_le_mul_right
abbrev gH:=@List.drop_zero
abbrev gM:=@Nat.le_max_right
abbrev gN:=@List.all_map
abbrev gQ:=@List.map_eq_nil_iff
abbrev gR:=@List.flatten_append
abbrev gS:=@List.flatMap_append
abbrev gT:=@List.filterMap_cons
abbrev gY:=@List.of_mem_zip
abbrev hU:=@List.zip_cons_cons
abbrev iC:=@List.getElem?_replicate
abbrev iK:=@List.getElem?_set_self
abbrev iW:=@List.takeWhile_prefix
abbrev iX:=@List.set_getElem_self
end
namespace L2
open PySem PySem.Spec PyProof.Rows
inductive V where
 |non | bl (b:Bool) | int (i:Int) | str (x:Str) | byt (b:Array UInt8) | flt (b:UInt64) | ref (a:Addr) | ty (n:String)
 deriving DecidableEq
def aGz:Value->Option V
 | .none=>some .non
 | .bool b=>some (.bl b)
 | .int i _=>some (.int i)
 | .str x _=>some (.str x)
 | .bytes b _=>some (.byt b)
 | .float b _=>some (.flt b)
 | .ref a=>some (.ref a)
 | .type n=>some (.ty n)
 |_=>none
def dO(s:Stmt)(j:Nat):Stmt:=match s with
 | .ClassDef _ _ _ body _ _ _ _ _ _ _=>body.getD j (.Pass ⟨0,0,0,0⟩)
 |_=>.Pass ⟨0,0,0,0⟩
def lG(s:Stmt):Arguments:=match s with
 | .FunctionDef _ a _ _ _ _ _ _ _ _=>a
 |_=>{ posonlyargs:=[],args:=[],vararg:=none,kwonlyargs:=[],kw_defaults:=[],kwarg:=none,defaults:=[] }
def dX(s:Stmt):List Stmt:=match s with
 | .FunctionDef _ _ b _ _ _ _ _ _ _=>b
 |_=>[]
def aL(s:Stmt):Scope:=match s with
 | .FunctionDef _ _ _ _ _ _ sc _ _ _=>sc
 |_=>{ kind:=.function,names:=[],isGenerator:=false,isCoroutine:=false }
end L2
namespace L2
open PySem PySem.W PySem.Spec PyProof.Rows PySem.Calls
def aNi(h:Heap):Frag:=(List.range h.objs.size).filterMap λa=>(h.get? a).map λo=>(a,o)
noncomputable def onceSeen (tr:(String->Option Builtin)->Program->World->Nat->Option Value->Nat->Shared->Thread->Option Shared) (tb:String->Option Builtin) (im:List Stmt->List Str) {β:Type} (os:List Str->Shared->β) (p:Program) (N:Nat) {α:Type} (Yf:Frag->α) (w:World) (o:OsState):Option (Bool×β×α):=
 (tr tb p w 11 (some (.ref 6)) N ⟨boot_heap w.params,Array.mk [],boot_drawn,boot_toks,o⟩ (topStub p)).map fun s₁ =>
  (staticsOk (im p.main.body) (boot_heap w.params) s₁.heap&&namesBound p s₁.heap&&gensDone s₁&&laidKept (boot_heap w.params) s₁.heap,os (im p.main.body) s₁,Yf (aNi s₁.heap))
def fD(p:Program)(i:Nat):Stmt:=p.main.body.getD i (.Pass ⟨0,0,0,0⟩)
def fO(s:Stmt):Str:=match s with
 | .FunctionDef n ..=>n
 | .Assign [.Name n _] _ _=>n
 |_=>⟨#[]⟩
abbrev FO:=Option ((Str×Str×Arguments×FuncBody×Scope)×(Addr×List (Str×Addr)×Value×Addr)×Bool)
def tN(K:Frag)(n:Str):FO:=match nsIn K mainGlobals n with
 |some (some (.ref f))=>(match K.lookup f with
  |some ⟨_,_,.func fd,_⟩=>some ((fd.name,fd.qualname,fd.params,fd.body,fd.scope),(fd.globals,fd.closure,fd.defaults,fd.builtins),codeIn K fd.code n)
  |_=>none)
 |_=>none
def uI(s:Stmt):FO:=some ((fO s,fO s,lG s,.stmts (dX s),aL s),(mainGlobals,[],.none,builtinsNs),true)
def pC(K:Frag)(n:Str):Bool:=match nsIn K mainGlobals n with
 |some none=>true
 |_=>false
def tL(K:Frag)(n:Str):Option V:=match nsIn K mainGlobals n with
 |some (some v)=>aGz v
 |_=>none
def tM(K:Frag)(n:Str):Option (List (Option V)):=match nsIn K mainGlobals n with
 |some (some (.ref a))=>(match K.lookup a with
  |some ⟨.type "tuple",_,.seq xs _,_⟩=>some (xs.toList.map aGz)
  |_=>none)
 |_=>none
def bltNs:List Str:=[⟨#[105,115,105,110,115,116,97,110,99,101]⟩,⟨#[105,110,116]⟩,⟨#[98,111,111,108]⟩,⟨#[108,105,115,116]⟩,⟨#[108,101,110]⟩,⟨#[115,116,114]⟩,⟨#[116,117,112,108,101]⟩,⟨#[97,108,108]⟩,⟨#[100,105,99,116]⟩,⟨#[109,97,120]⟩,⟨#[109,105,110]⟩,⟨#[114,97,110,103,101]⟩,⟨#[122,105,112]⟩,⟨#[101,110,117,109,101,114,97,116,101]⟩,⟨#[115,111,114,116,101,100]⟩,⟨#[115,117,109]⟩,⟨#[114,101,118,101,114,115,101,100]⟩]
end L2
namespace Lf
open PySem L2
abbrev veM:List Value:=[.type "ValueError",.type "Exception",.type "BaseException",.type "object"]
end Lf
namespace PySem.W
open PySem PySem.Spec PySem.Calls PyProof.Rows
def excKit(K:Frag)(D:Addr):Bool:=(findIn K (.ref D) "__getattribute__" == some (some (.builtin "BaseException.__getattribute__")))&&(findIn K (.ref D) "__getattr__" == some none)&&(mroIn K D (.type "BaseException") == some true)&&(mroIn K D (.type "object") == some true) &&
 (findIn K (.ref D) "__class__" == some (some (.builtin "object.__class__")))&&(specialIn K (.builtin "object.__class__") "__get__" == some (some (.builtin "getset_descriptor.__get__")))&&(takesIn K (.builtin "object.__class__") == some true)
end PySem.W
namespace Lf
open PySem L2
open PySem.W (Frag nsIn)
def tT(K:Frag)(N:Addr)(n:Str):Bool:=match K.lookup N with
 |some ⟨_,_,.dict es _,_⟩=>es.toList.all (λe=>match e.key with | .str _ _=>true | _=>false)&&(es.toList.find? (·.key.isStr n)).isNone
 |_=>false
def fS(K:Frag):Nat->List Value->Bool
 |n+1,.ref A::r=>(match K.lookup A with
  |some ⟨_,_,.cls cd,_⟩=>tT K cd.ns "__init__" && fS K n r
  |_=>false)
 |_,l=>l == veM
def lX(K:Frag)(C:Addr):Bool:=match K.lookup C with
 |some ⟨.type "type",_,.cls cd,sl⟩=>(match cd.mro with
  | .ref C'::tl=>C' == C&&cd.hasDel == false&&sl.size == 6&&sl[4]? == some (some (.builtin "ValueError.__new__"))&&tT K cd.ns "__init__" && fS K 4 tl
  |_=>false)&&PySem.W.excKit K C
 |_=>false
def lH(K:Frag)(n:Str):Option Addr:=match nsIn K mainGlobals n with
 |some (some (.ref C))=>some C
 |_=>none
def p7(K:Frag)(C D:Addr):Bool:=match K.lookup C with
 |some ⟨_,_,.cls cd,_⟩=>cd.mro.contains (.ref D)
 |_=>false
def aSr(K:Frag)(ns:List Str):List (Bool×List (Option Bool×Bool)×Option Bool×Option Bool):=ns.map λn=>match lH K n with
 |some C=>(lX K C,ns.map (λm=>match lH K m with | some D=>(PySem.W.kitOne K (.ref C) (.ref D),p7 K C D) | none=>(none,false)),PySem.W.kitOne K (.ref C) (.type "ValueError"),PySem.W.kitOne K (.type "NoneType") (.ref C))
 |none=>(false,[],none,none)
abbrev OX:=Bool×List (Option Bool×Bool)×Option Bool×Option Bool
end Lf
namespace L2
open PySem PySem.Spec PySem.SeqAt PySem.AutoSeq1 PySem.MeetsSeq PyProof.Rows
def isNone:Value->Bool
 | .none=>true
 |_=>false
end L2
namespace L2
open PySem PySem.W PySem.Spec PyProof.Rows PySem.Calls
def mZ(K:Frag)(C:Addr)(m q:Str):FO:=match findIn K (.ref C) m with
 |some (some (.ref f))=>(match K.lookup f with
  |some ⟨_,_,.func fd,_⟩=>some ((fd.name,fd.qualname,fd.params,fd.body,fd.scope),(fd.globals,fd.closure,fd.defaults,fd.builtins),codeIn K fd.code q)
  |_=>none)
 |_=>none
def f8(K:Frag)(C:Addr)(m:Str):Bool:=match findIn K (.ref C) m with
 |some (some v)=>isFn K v
 |_=>false
def fG(m q:Str)(s:Stmt):FO:=some ((m,q,lG s,.stmts (dX s),aL s),(mainGlobals,[],.none,builtinsNs),true)
abbrev OCl:=Option ((Bool×Bool×Bool×Option (Option Value)×Bool×Bool)×List FO×List Bool×List (Option (Option Value)))
def f9(K:Frag)(n:Str)(ms:List (Str×Str))(fs:List Str):OCl:=match nsIn K mainGlobals n with
 |some (some (.ref C))=>some ((plainGet K C Str.empty,hasDictIn K C,plainOver K C,findIn K (.ref C) "__setattr__",makesIn K C,keepIn K (.ref C)),ms.map (λp=>mZ K C p.1 p.2),ms.map (λp=>f8 K C p.1),fs.map λf=>findIn K (.ref C) f)
 |_=>none
def l9(es:List FO)(ms:List (Str×Str))(fs:List Str):OCl:=some ((true,true,true,some (some (.builtin "object.__setattr__")),true,true),es,List.replicate ms.length true,List.replicate fs.length (some none))
end L2
namespace Lf
open PySem L2
theorem bCp:Nat.ble 1 PySem.Challenge.pw_laidfields_k45_texts_of_no_kind.main.body.length=true:=by k_qdec
def bAe(s:Stmt):Option V:=match s with
 | .Assign _ (.Constant (.int i) _ _) _=>some (.int i)
 | .Assign _ (.Constant (.str x) _ _) _=>some (.str x)
 |_=>none
def bCq(e:Expr):Option V:=match e with
 | .Constant (.int i) _ _=>some (.int i)
 |_=>none
def bAf(s:Stmt):Option (List (Option V)):=match s with
 | .Assign _ (.Tuple es _ _) _=>some (es.map bCq)
 |_=>none
abbrev zF:Option Bool×Bool:=(some false,false)
end Lf
namespace L2
open PySem PySem.W PySem.Spec PyProof.Rows
theorem once_two {tr : (String → Option Builtin) → Program → World → Nat → Option Value → Nat → Shared → Thread → Option Shared} {tb : String → Option Builtin} {im : List Stmt → List Str} {β α α₁ α₂ : Type} {os : List Str → Shared → β} {p : Program} {N : Nat} {Y : Frag → α} {Y1 : Frag → α₁} {Y2 : Frag → α₂} {w : World} {a : Bool} {b : β} {v : α} {v1 : α₁} {v2 : α₂} (h1 : onceSeen tr tb im os p N Y1 w = fun _ => some (a, b, v1)) (h2 : onceSeen tr tb im os p N Y2 w = fun _ => some (a, b, v2)) (hY : ∀ K, Y1 K = v1 → Y2 K = v2 → Y K = v) : onceSeen tr tb im os p N Y w = fun _ => some (a, b, v) := by
  funext o
  obtain ⟨s, r, e⟩ := Option.map_eq_some_iff.mp (congrFun h1 o)
  obtain ⟨s', r', e'⟩ := Option.map_eq_some_iff.mp (congrFun h2 o)
  rw [r] at r'
  cases r'
  obtain ⟨e1, e2, e3⟩ : _ ∧ _ ∧ _ := by simpa only [Prod.mk.injEq] using e
  obtain ⟨_, _, e4⟩ : _ ∧ _ ∧ _ := by simpa only [Prod.mk.injEq] using e'
  refine Option.map_eq_some_iff.mpr ⟨s, r, ?_⟩
  rw [e1, e2, hY _ e3 e4]
end L2
namespace Lf
open PySem L2
def seenF(p:Program)(K:dA):List FO×List Bool×List (Option V)×List (Option (List (Option V)))×List OX×List OCl:=([17,18,19,20,21,22,23,24,25,30,31,33,34,35,36,37,39,40,41,42,43,44,45,46,47,48,49,50,51,52,53,54,55,56,57,58,59,60,61].map λi=>tN K (fO (fD p i)),(bltNs++[(⟨#[86,97,108,117,101,69,114,114,111,114]⟩:Str)]).map (pC K),[9,10,11,13,14,15,16,28,27,29].map λi=>tL K (fO (fD p i)),[12].map λi=>tM K (fO (fD p i)),aSr K AS,[f9 K "Reader" [("__init__","Reader.__init__"),("passes","Reader.passes"),("take","Reader.take"),("take_end","Reader.take_end"),("take_run","Reader.take_run"),("take_number","Reader.take_number")] ["place","text"]])
def seenV(p:Program):List FO×List Bool×List (Option V)×List (Option (List (Option V)))×List OX×List OCl:=([17,18,19,20,21,22,23,24,25,30,31,33,34,35,36,37,39,40,41,42,43,44,45,46,47,48,49,50,51,52,53,54,55,56,57,58,59,60,61].map λi=>uI (fD p i),List.replicate 18 true,[9,10,11,13,14,15,16,28,27,29].map λi=>bAe (fD p i),[12].map λi=>bAf (fD p i),[(true,[(some true,true),zF,zF,zF,zF,zF,zF],some true,some false),(true,[(some true,true),(some true,true),zF,zF,zF,zF,zF],some true,some false),(true,[(some true,true),zF,(some true,true),zF,zF,zF,zF],some true,some false),(true,[(some true,true),zF,zF,(some true,true),zF,zF,zF],some true,some false),(true,[(some true,true),zF,zF,zF,(some true,true),zF,zF],some true,some false),(true,[(some true,true),zF,zF,zF,zF,(some true,true),zF],some true,some false),(true,[(some true,true),zF,zF,zF,zF,zF,(some true,true)],some true,some false)],[l9 [fG "__init__" "Reader.__init__" (dO (fD p 32) 0),fG "passes" "Reader.passes" (dO (fD p 32) 1),fG "take" "Reader.take" (dO (fD p 32) 2),fG "take_end" "Reader.take_end" (dO (fD p 32) 3),fG "take_run" "Reader.take_run" (dO (fD p 32) 4),fG "take_number" "Reader.take_number" (dO (fD p 32) 5)] [("__init__","Reader.__init__"),("passes","Reader.passes"),("take","Reader.take"),("take_end","Reader.take_end"),("take_run","Reader.take_run"),("take_number","Reader.take_number")] ["place","text"]])
def seenFA(p:Program)(K:dA):List FO:=[17,18,19,20,21,22,23,24,25,30,31,33,34].map λi=>tN K (fO (fD p i))
def seenVA(p:Program):List FO:=[17,18,19,20,21,22,23,24,25,30,31,33,34].map λi=>uI (fD p i)
def seenFB(p:Program)(K:dA):List FO:=[35,36,37,39,40,41,42,43,44,45,46,47,48].map λi=>tN K (fO (fD p i))
def seenVB(p:Program):List FO:=[35,36,37,39,40,41,42,43,44,45,46,47,48].map λi=>uI (fD p i)
def seenFC(p:Program)(K:dA):List FO:=[49,50,51,52,53,54,55].map λi=>tN K (fO (fD p i))
def seenVC(p:Program):List FO:=[49,50,51,52,53,54,55].map λi=>uI (fD p i)
def seenFE(p:Program)(K:dA):List FO:=[56,57,58,59,60,61].map λi=>tN K (fO (fD p i))
def seenVE(p:Program):List FO:=[56,57,58,59,60,61].map λi=>uI (fD p i)
def seenFD(p:Program)(K:dA):List Bool×List (Option V)×List (Option (List (Option V)))×List OX×List OCl:=((bltNs++[(⟨#[86,97,108,117,101,69,114,114,111,114]⟩:Str)]).map (pC K),[9,10,11,13,14,15,16,28,27,29].map λi=>tL K (fO (fD p i)),[12].map λi=>tM K (fO (fD p i)),aSr K AS,[f9 K "Reader" [("__init__","Reader.__init__"),("passes","Reader.passes"),("take","Reader.take"),("take_end","Reader.take_end"),("take_run","Reader.take_run"),("take_number","Reader.take_number")] ["place","text"]])
def seenVD(p:Program):List Bool×List (Option V)×List (Option (List (Option V)))×List OX×List OCl:=(List.replicate 18 true,[9,10,11,13,14,15,16,28,27,29].map λi=>bAe (fD p i),[12].map λi=>bAf (fD p i),[(true,[(some true,true),zF,zF,zF,zF,zF,zF],some true,some false),(true,[(some true,true),(some true,true),zF,zF,zF,zF,zF],some true,some false),(true,[(some true,true),zF,(some true,true),zF,zF,zF,zF],some true,some false),(true,[(some true,true),zF,zF,(some true,true),zF,zF,zF],some true,some false),(true,[(some true,true),zF,zF,zF,(some true,true),zF,zF],some true,some false),(true,[(some true,true),zF,zF,zF,zF,(some true,true),zF],some true,some false),(true,[(some true,true),zF,zF,zF,zF,zF,(some true,true)],some true,some false)],[l9 [fG "__init__" "Reader.__init__" (dO (fD p 32) 0),fG "passes" "Reader.passes" (dO (fD p 32) 1),fG "take" "Reader.take" (dO (fD p 32) 2),fG "take_end" "Reader.take_end" (dO (fD p 32) 3),fG "take_run" "Reader.take_run" (dO (fD p 32) 4),fG "take_number" "Reader.take_number" (dO (fD p 32) 5)] [("__init__","Reader.__init__"),("passes","Reader.passes"),("take","Reader.take"),("take_end","Reader.take_end"),("take_run","Reader.take_run"),("take_number","Reader.take_number")] ["place","text"]])
theorem seenF_two(p:Program)(K:dA):seenF p K=(seenFA p K++(seenFB p K++(seenFC p K++seenFE p K)),seenFD p K):=rfl
theorem seenV_two(p:Program):seenV p=(seenVA p++(seenVB p++(seenVC p++seenVE p)),seenVD p):=rfl
theorem onceE:∀w:World,onceSeen PySem.W.topRun treeTable importedModules (λm s=>PySem.W.openSeen (PySem.W.view PySem.Challenge.pw_laidfields_k45_texts_of_no_kind [1,2,3,4,5,6,7,9,10,11,12,13,14,15,16,17,18,19,20,21,22,23,24,25,27,28,29,30,31,32,33,34,35,36,37,39,40,41,42,43,44,45,46,47,48,49,50,51,52,53,54,55,56,57,58,59,60,61]) [] m (λs=>PySem.W.xlAt (PySem.W.view PySem.Challenge.pw_laidfields_k45_texts_of_no_kind [1,2,3,4,5,6,7,9,10,11,12,13,14,15,16,17,18,19,20,21,22,23,24,25,27,28,29,30,31,32,33,34,35,36,37,39,40,41,42,43,44,45,46,47,48,49,50,51,52,53,54,55,56,57,58,59,60,61]) [] s&&PySem.W.recOk [] s) true s) PySem.Challenge.pw_laidfields_k45_texts_of_no_kind 3300 (seenFE PySem.Challenge.pw_laidfields_k45_texts_of_no_kind) w=λ_=>some (true,PySem.W.openGood (PySem.W.view PySem.Challenge.pw_laidfields_k45_texts_of_no_kind [1,2,3,4,5,6,7,9,10,11,12,13,14,15,16,17,18,19,20,21,22,23,24,25,27,28,29,30,31,32,33,34,35,36,37,39,40,41,42,43,44,45,46,47,48,49,50,51,52,53,54,55,56,57,58,59,60,61]) [],seenVE PySem.Challenge.pw_laidfields_k45_texts_of_no_kind):=by
 have _:=bCp
 rw[PySem.W.Fast.te16664586886520899455,PySem.W.Fast.te14082659384304107361,PySem.W.Fast.te14364793385576792824,PySem.W.Fast.te5923862056798008813,PySem.W.Fast.te4187177175401517315]
 exact λw=>by kernel_rfl
theorem onceC:∀w:World,onceSeen PySem.W.topRun treeTable importedModules (λm s=>PySem.W.openSeen (PySem.W.view PySem.Challenge.pw_laidfields_k45_texts_of_no_kind [1,2,3,4,5,6,7,9,10,11,12,13,14,15,16,17,18,19,20,21,22,23,24,25,27,28,29,30,31,32,33,34,35,36,37,39,40,41,42,43,44,45,46,47,48,49,50,51,52,53,54,55,56,57,58,59,60,61]) [] m (λs=>PySem.W.xlAt (PySem.W.view PySem.Challenge.pw_laidfields_k45_texts_of_no_kind [1,2,3,4,5,6,7,9,10,11,12,13,14,15,16,17,18,19,20,21,22,23,24,25,27,28,29,30,31,32,33,34,35,36,37,39,40,41,42,43,44,45,46,47,48,49,50,51,52,53,54,55,56,57,58,59,60,61]) [] s&&PySem.W.recOk [] s) true s) PySem.Challenge.pw_laidfields_k45_texts_of_no_kind 3300 (seenFC PySem.Challenge.pw_laidfields_k45_texts_of_no_kind) w=λ_=>some (true,PySem.W.openGood (PySem.W.view PySem.Challenge.pw_laidfields_k45_texts_of_no_kind [1,2,3,4,5,6,7,9,10,11,12,13,14,15,16,17,18,19,20,21,22,23,24,25,27,28,29,30,31,32,33,34,35,36,37,39,40,41,42,43,44,45,46,47,48,49,50,51,52,53,54,55,56,57,58,59,60,61]) [],seenVC PySem.Challenge.pw_laidfields_k45_texts_of_no_kind):=by
 have _:=bCp
 rw[PySem.W.Fast.te16664586886520899455,PySem.W.Fast.te14082659384304107361,PySem.W.Fast.te14364793385576792824,PySem.W.Fast.te5923862056798008813,PySem.W.Fast.te4187177175401517315]
 exact λw=>by kernel_rfl
theorem onceB:∀w:World,onceSeen PySem.W.topRun treeTable importedModules (λm s=>PySem.W.openSeen (PySem.W.view PySem.Challenge.pw_laidfields_k45_texts_of_no_kind [1,2,3,4,5,6,7,9,10,11,12,13,14,15,16,17,18,19,20,21,22,23,24,25,27,28,29,30,31,32,33,34,35,36,37,39,40,41,42,43,44,45,46,47,48,49,50,51,52,53,54,55,56,57,58,59,60,61]) [] m (λs=>PySem.W.xlAt (PySem.W.view PySem.Challenge.pw_laidfields_k45_texts_of_no_kind [1,2,3,4,5,6,7,9,10,11,12,13,14,15,16,17,18,19,20,21,22,23,24,25,27,28,29,30,31,32,33,34,35,36,37,39,40,41,42,43,44,45,46,47,48,49,50,51,52,53,54,55,56,57,58,59,60,61]) [] s&&PySem.W.recOk [] s) true s) PySem.Challenge.pw_laidfields_k45_texts_of_no_kind 3300 (seenFB PySem.Challenge.pw_laidfields_k45_texts_of_no_kind) w=λ_=>some (true,PySem.W.openGood (PySem.W.view PySem.Challenge.pw_laidfields_k45_texts_of_no_kind [1,2,3,4,5,6,7,9,10,11,12,13,14,15,16,17,18,19,20,21,22,23,24,25,27,28,29,30,31,32,33,34,35,36,37,39,40,41,42,43,44,45,46,47,48,49,50,51,52,53,54,55,56,57,58,59,60,61]) [],seenVB PySem.Challenge.pw_laidfields_k45_texts_of_no_kind):=by
 have _:=bCp
 rw[PySem.W.Fast.te16664586886520899455,PySem.W.Fast.te14082659384304107361,PySem.W.Fast.te14364793385576792824,PySem.W.Fast.te5923862056798008813,PySem.W.Fast.te4187177175401517315]
 exact λw=>by kernel_rfl
theorem onceA:∀w:World,onceSeen PySem.W.topRun treeTable importedModules (λm s=>PySem.W.openSeen (PySem.W.view PySem.Challenge.pw_laidfields_k45_texts_of_no_kind [1,2,3,4,5,6,7,9,10,11,12,13,14,15,16,17,18,19,20,21,22,23,24,25,27,28,29,30,31,32,33,34,35,36,37,39,40,41,42,43,44,45,46,47,48,49,50,51,52,53,54,55,56,57,58,59,60,61]) [] m (λs=>PySem.W.xlAt (PySem.W.view PySem.Challenge.pw_laidfields_k45_texts_of_no_kind [1,2,3,4,5,6,7,9,10,11,12,13,14,15,16,17,18,19,20,21,22,23,24,25,27,28,29,30,31,32,33,34,35,36,37,39,40,41,42,43,44,45,46,47,48,49,50,51,52,53,54,55,56,57,58,59,60,61]) [] s&&PySem.W.recOk [] s) true s) PySem.Challenge.pw_laidfields_k45_texts_of_no_kind 3300 (seenFA PySem.Challenge.pw_laidfields_k45_texts_of_no_kind) w=λ_=>some (true,PySem.W.openGood (PySem.W.view PySem.Challenge.pw_laidfields_k45_texts_of_no_kind [1,2,3,4,5,6,7,9,10,11,12,13,14,15,16,17,18,19,20,21,22,23,24,25,27,28,29,30,31,32,33,34,35,36,37,39,40,41,42,43,44,45,46,47,48,49,50,51,52,53,54,55,56,57,58,59,60,61]) [],seenVA PySem.Challenge.pw_laidfields_k45_texts_of_no_kind):=by
 have _:=bCp
 rw[PySem.W.Fast.te16664586886520899455,PySem.W.Fast.te14082659384304107361,PySem.W.Fast.te14364793385576792824,PySem.W.Fast.te5923862056798008813,PySem.W.Fast.te4187177175401517315]
 exact λw=>by kernel_rfl
theorem onceD:∀w:World,onceSeen PySem.W.topRun treeTable importedModules (λm s=>PySem.W.openSeen (PySem.W.view PySem.Challenge.pw_laidfields_k45_texts_of_no_kind [1,2,3,4,5,6,7,9,10,11,12,13,14,15,16,17,18,19,20,21,22,23,24,25,27,28,29,30,31,32,33,34,35,36,37,39,40,41,42,43,44,45,46,47,48,49,50,51,52,53,54,55,56,57,58,59,60,61]) [] m (λs=>PySem.W.xlAt (PySem.W.view PySem.Challenge.pw_laidfields_k45_texts_of_no_kind [1,2,3,4,5,6,7,9,10,11,12,13,14,15,16,17,18,19,20,21,22,23,24,25,27,28,29,30,31,32,33,34,35,36,37,39,40,41,42,43,44,45,46,47,48,49,50,51,52,53,54,55,56,57,58,59,60,61]) [] s&&PySem.W.recOk [] s) true s) PySem.Challenge.pw_laidfields_k45_texts_of_no_kind 3300 (seenFD PySem.Challenge.pw_laidfields_k45_texts_of_no_kind) w=λ_=>some (true,PySem.W.openGood (PySem.W.view PySem.Challenge.pw_laidfields_k45_texts_of_no_kind [1,2,3,4,5,6,7,9,10,11,12,13,14,15,16,17,18,19,20,21,22,23,24,25,27,28,29,30,31,32,33,34,35,36,37,39,40,41,42,43,44,45,46,47,48,49,50,51,52,53,54,55,56,57,58,59,60,61]) [],seenVD PySem.Challenge.pw_laidfields_k45_texts_of_no_kind):=by
 have _:=bCp
 rw[PySem.W.Fast.te16664586886520899455,PySem.W.Fast.te14082659384304107361,PySem.W.Fast.te14364793385576792824,PySem.W.Fast.te5923862056798008813,PySem.W.Fast.te4187177175401517315]
 exact λw=>by kernel_rfl
theorem aEg:∀w:World,onceSeen PySem.W.topRun treeTable importedModules (λm s=>PySem.W.openSeen (PySem.W.view PySem.Challenge.pw_laidfields_k45_texts_of_no_kind [1,2,3,4,5,6,7,9,10,11,12,13,14,15,16,17,18,19,20,21,22,23,24,25,27,28,29,30,31,32,33,34,35,36,37,39,40,41,42,43,44,45,46,47,48,49,50,51,52,53,54,55,56,57,58,59,60,61]) [] m (λs=>PySem.W.xlAt (PySem.W.view PySem.Challenge.pw_laidfields_k45_texts_of_no_kind [1,2,3,4,5,6,7,9,10,11,12,13,14,15,16,17,18,19,20,21,22,23,24,25,27,28,29,30,31,32,33,34,35,36,37,39,40,41,42,43,44,45,46,47,48,49,50,51,52,53,54,55,56,57,58,59,60,61]) [] s&&PySem.W.recOk [] s) true s) PySem.Challenge.pw_laidfields_k45_texts_of_no_kind 3300 (seenF PySem.Challenge.pw_laidfields_k45_texts_of_no_kind) w=λ_=>some (true,PySem.W.openGood (PySem.W.view PySem.Challenge.pw_laidfields_k45_texts_of_no_kind [1,2,3,4,5,6,7,9,10,11,12,13,14,15,16,17,18,19,20,21,22,23,24,25,27,28,29,30,31,32,33,34,35,36,37,39,40,41,42,43,44,45,46,47,48,49,50,51,52,53,54,55,56,57,58,59,60,61]) [],seenV PySem.Challenge.pw_laidfields_k45_texts_of_no_kind):=λw=>
 once_two (Y1:=λK=>(seenFA PySem.Challenge.pw_laidfields_k45_texts_of_no_kind K,seenFB PySem.Challenge.pw_laidfields_k45_texts_of_no_kind K)) (Y2:=λK=>(seenFC PySem.Challenge.pw_laidfields_k45_texts_of_no_kind K,seenFD PySem.Challenge.pw_laidfields_k45_texts_of_no_kind K,seenFE PySem.Challenge.pw_laidfields_k45_texts_of_no_kind K)) (once_two (onceA w) (onceB w) λ_ a b=>by rw[a,b]) (once_two (onceC w) (once_two (Y:=λK=>(seenFD PySem.Challenge.pw_laidfields_k45_texts_of_no_kind K,seenFE PySem.Challenge.pw_laidfields_k45_texts_of_no_kind K)) (onceD w) (onceE w) λ_ a b=>by rw[a,b]) λ_ a b=>by rw[a,b]) λK h1 h2=>by rw[seenF_two,seenV_two,(Prod.mk.inj h1).1,(Prod.mk.inj h1).2,(Prod.mk.inj h2).1,(Prod.mk.inj (Prod.mk.inj h2).2).1,(Prod.mk.inj (Prod.mk.inj h2).2).2]
end Lf
namespace L2
open PySem PySem.Spec PyProof.Rows
abbrev Key:=Sum Int Str
def rA:Key->Value->Bool
 | .inl k,v=>Value.isInt k v
 | .inr x,v=>Value.isStrOf x v
def bCr(w:World):Key->Int
 | .inl k=>hashInt k
 | .inr x=>hashStr w x
theorem cg_:∀{k:Key} {v:Value},rA k v=true->(∃i t,k=Sum.inl i/\v=Value.int i t)\/(∃x t,k=Sum.inr x/\v=Value.str x t)
 | .inl i,v,h=>by
  obtain⟨t,e⟩:=Value.isInt_shape (k:=i) (v:=v) h
  exact .inl ⟨i,t,rfl,e⟩
 | .inr x,v,h=>by
  obtain⟨t,e⟩:=Value.isStrOf_shape (x:=x) (v:=v) h
  exact .inr ⟨x,t,rfl,e⟩
theorem w5(i:Int)(t:Tok):rA (.inl i) (.int i t)=true:=by simp[rA,Value.isInt]
theorem w4(x:Str)(t:Tok):rA (.inr x) (.str x t)=true:=by simp[rA,Value.isStrOf]
theorem aTe(a b:Int):decide ((Sum.inl a:Key)=Sum.inl b)=(a == b):=by
 by_cases e:a=b
 ·subst e;simp
 ·have h:¬ (Sum.inl a:Key)=Sum.inl b:=fun q=>e (Sum.inl.inj q)
  rw[dzF h]
  exact(beq_eq_false_iff_ne.mpr e).symm
theorem aTb(a b:Str):decide ((Sum.inr a:Key)=Sum.inr b)=decide (a=b):=by
 by_cases e:a=b
 ·subst e;simp
 ·have h:¬ (Sum.inr a:Key)=Sum.inr b:=fun q=>e (Sum.inr.inj q)
  rw[dzF h,dzF e]
theorem aTd(a:Int)(b:Str):decide ((Sum.inl a:Key)=Sum.inr b)=false:=dzF (λq=>nomatch q)
theorem aTc(a:Str)(b:Int):decide ((Sum.inr a:Key)=Sum.inl b)=false:=dzF (λq=>nomatch q)
def fF(prog:Program)(w:World):PySem.KeyKind prog w Key where
 is:=rA
 hash:=bCr w
 inj:=λv a b ha hb=>by
  rcases cg_ ha with⟨i,t,rfl,rfl⟩ | ⟨x,t,rfl,rfl⟩
  ·rcases cg_ hb with ⟨j,u,rfl,e⟩ | ⟨y,u,rfl,e⟩
   ·injection e with e1 _;rw[e1]
   ·exact nomatch e
  ·rcases cg_ hb with ⟨j,u,rfl,e⟩ | ⟨y,u,rfl,e⟩
   ·exact nomatch e
   ·injection e with e1 _;rw[e1]
 byValue:=λk v h=>by
  rcases cg_ h with⟨i,t,rfl,rfl⟩ | ⟨x,t,rfl,rfl⟩<;>rfl
 pyHash:=λhv h=>by
  rcases cg_ hv with⟨i,t,rfl,rfl⟩ | ⟨x,t,rfl,rfl⟩
  ·exact wpAny_pyHash_int h
  ·exact wpAny_pyHash_str h
 eqBool:=λhu hv h=>by
  rcases cg_ hu with⟨i,t,rfl,rfl⟩ | ⟨x,t,rfl,rfl⟩
  ·rcases cg_ hv with ⟨j,u,rfl,rfl⟩ | ⟨y,u,rfl,rfl⟩
   ·rw[aTe]at h;exact wpAny_eqBool_int h
   ·rw[aTd]at h;exact SeqAt.EqAt.int_str i t y u _ _ _ _ h
  ·rcases cg_ hv with ⟨j,u,rfl,rfl⟩ | ⟨y,u,rfl,rfl⟩
   ·rw[aTc]at h;exact SeqAt.EqAt.str_int x t j u _ _ _ _ h
   ·rw[aTb]at h;exact wpAny_eqBool_str h
 «strs»:=λk x t v h=>by
  rcases cg_ h with⟨i,u,rfl,e⟩ | ⟨y,u,rfl,e⟩
  ·exact nomatch e
  ·injection e with e1 _
   subst e1
   cases v<;>rfl
theorem wB(prog:Program)(w:World)(i:Int)(t:Tok):(fF prog w).is (.inl i) (.int i t)=true:=w5 i t
theorem wA(prog:Program)(w:World)(x:Str)(t:Tok):(fF prog w).is (.inr x) (.str x t)=true:=w4 x t
def RelV:V->Value->Prop
 | .non,u=>u=Value.none
 | .bl b,u=>u=Value.bool b
 | .int i,u=>∃t,u=Value.int i t
 | .str x,u=>∃t,u=Value.str x t
 | .byt b,u=>∃t,u=Value.bytes b t
 | .flt b,u=>∃t,u=Value.float b t
 | .ref a,u=>u=Value.ref a
 | .ty n,u=>u=Value.type n
abbrev Vals:List V->List Value->Prop:=Paired RelV
theorem Vals.length{xs:List V}{us:List Value}(r:Vals xs us):xs.length=us.length:=Paired.length r
theorem Vals.get:∀{xs:List V} {us:List Value} {i:Nat} {x:V},Vals xs us->xs[i]? = some x->∃u,us[i]? = some u/\RelV x u
 |_,_,_,_,.nil,e=>by simp at e
 |_,_,0,_,.cons r _,e=>by simp at e;subst e;exact⟨_,rfl,r⟩
 |_,_,i+1,x,.cons _ t,e=>by
  obtain⟨u,h1,h2⟩:=Vals.get (i:=i) (x:=x) t (by simpa using e)
  exact⟨u,by simpa using h1,h2⟩
theorem Vals.set{x:V}{u:Value}(r:RelV x u):∀{xs:List V} {us:List Value} (i:Nat),Vals xs us->Vals (xs.set i x) (us.set i u)
 |_,_,_,.nil=>.nil
 |_,_,0,.cons _ t=>.cons r t
 |_,_,i+1,.cons q t=>.cons q (Vals.set r i t)
theorem Vals.append:∀{xs ys:List V} {us ws:List Value},Vals xs us->Vals ys ws->Vals (xs++ys) (us++ws)
 |_,_,_,_,.nil,s=>s
 |_,_,_,_,.cons r t,s=>.cons r (Vals.append t s)
theorem Vals.take:∀{xs:List V} {us:List Value} (n:Nat),Vals xs us->Vals (xs.take n) (us.take n)
 |_,_,0,_=>.nil
 |_,_,_+1,.nil=>.nil
 |_,_,n+1,.cons r t=>.cons r (Vals.take n t)
theorem Vals.drop:∀{xs:List V} {us:List Value} (n:Nat),Vals xs us->Vals (xs.drop n) (us.drop n)
 |_,_,0,r=>r
 |_,_,_+1,.nil=>.nil
 |_,_,n+1,.cons _ t=>Vals.drop n t
def RelO:Option V->Option Value->Prop
 |some v,some u=>RelV v u
 |none,none=>True
 |_,_=>False
def KV{κ:Type}:List (κ×V)->List (κ×Value)->Prop:=Paired λ(p:κ×V) (q:κ×Value)=>p.1=q.1/\RelV p.2 q.2
def kV:Key->V
 | .inl i=>.int i
 | .inr x=>.str x
inductive HO where
 /-- a list -/
 |lst (xs:List V)
 /-- a tuple (never changes) -/
 |tup (xs:List V)
 /-- a dict whose keys are ints and texts;one whose keys are tuples of ints and texts (the empty one is both) -/
 |dK (kvs:List (Key×V)) | dT (kvs:List (List Key×V))
 /-- a set of ints: its members,its size -/
 |set (S:Int->Bool) (n:Nat)
 /-- an instance of the class at C,its dict at dx,its attributes -/
 |ins (C dx:Addr) (fs:List (Str×V))
 /-- the dict of the instance at x -/
 |own (x:Addr)
 /-- the dict of an exception -/
 |xd (fs:List (Str×V))
 /-- a bound method,f of x -/
 |met (f x:Addr)
 /-- a range object lo,lo+1,.. below hi -/
 |rng (lo hi:Int)
 /-- a thing that is known to the object (the script;a dict while a loop walks it): read,never written while it is so -/
 |frz (o:Obj) (u:HO)
 /-- a code object's table -/
 |tbl (ps:Array Value)
 /-- any other thing,by what is true of its one object (a def of one's own: SetO a S n:=HO.ext λh=>..) -/
 |ext (φ:Heap->Prop)
abbrev Hp:=Addr->Option HO
def upd(H:Hp)(a:Addr)(o:HO):Hp:=λb=>if b=a then some o else H b
theorem xD{H:Hp}{a:Addr}{o:HO}:upd H a o a=some o:=by unfold upd;rw[if_pos rfl]
theorem gU{H:Hp}{a b:Addr}{o:HO}(h:b≠a):upd H a o b=H b:=by unfold upd;rw[if_neg h]
theorem aYd{H:Hp}{a b:Addr}{o u:HO}(h:H a=some o)(h':H b=some u)(d:o≠u):a≠b:=by
 intro e;subst e;rw[h]at h';exact d (ozI h')
theorem cb_{H:Hp}{a b:Addr}{o:HO}(h:H a=some o)(h':H b=none):a≠b:=by
 intro e;subst e;rw[h]at h';cases h'
section
variable(P:Program)(w:World)
def ObjOk(H:Hp)(h:Heap)(a:Addr):HO->Prop
 | .lst xs=>xs.length<=sizeLine/\∃(its:List Value) (n:Nat),Vals xs its/\h.get? a=some { cls:=.type "list",data:=.seq its.toArray n }
 | .tup xs=>xs.length<=sizeLine/\∃its:List Value,Vals xs its/\IsTup h a its.toArray
 | .dK kvs=>kvs.length<=sizeLine/\(a == sysModules)=false/\∃vs,KV kvs vs/\h.DictOf (fF P w) a vs
 | .dT kvs => kvs.length ≤ sizeLine ∧ (a == sysModules) = false ∧ ∃ xs : List (List Key × Addr × Value),
   Paired (λ(p:List Key×V) (q:List Key×Addr×Value)=>p.1=q.1/\H q.2.1=some (.tup (p.1.map kV))/\RelV p.2 q.2.2) kvs xs /\
   ∃o es ep,h.get? a=some o/\o.ExactDict/\o.data=.dict es ep/\es.toList=xs.map (entryOfKey (tupleKind (fF P w)))/\(xs.map (·.1)).Nodup
 | .set S n=>h.SetOf (intKind P w) a S n
 | .ins C dx fs => H dx = some (.own a) ∧ fs.length ≤ 1000 ∧ dx ≠ a ∧ h.get? a = some (PySem.W.instObj C dx) ∧
   ∃mA,h.Ns1 dx mA/\(∀f,RelO (fs.lookup f) (mA f))/\PySem.Within mA (fs.map (·.1))
 | .own _=>∃o,h.get? a=some o
 | .xd fs=>∃mA,h.Ns1 a mA/\∀f,RelO (fs.lookup f) (mA f)
 | .rng lo hi=>∃t u v,h.get? a=some { cls:=.type "range",data:=.fields #[.int lo t,.int hi u,.int 1 v] }
 | .frz o u=>h.get? a=some o/\ObjOk H h a u
 | .tbl ps=>h.get? a=some { cls:=.none,data:=.fields ps }
 | .met f x=>h.get? a=some (PySem.W.methodObj (.ref f) (.ref x))
 | .ext φ=>φ h/\(∃o,h.get? a=some o)/\∀h1 h2:Heap,φ h1->(∀o,h1.get? a=some o->h2.get? a=some o)->φ h2
def HOk(H:Hp)(h:Heap):Prop:=∀a o,H a=some o->ObjOk P w H h a o
end
section
variable{P:Program}{w:World}{H H':Hp}{h h':Heap}{a:Addr}{o:HO}
theorem ObjOk.lt(x:ObjOk P w H h a o):a<h.objs.size:=by
 cases o with
 |lst xs=>obtain⟨_,_,_,_,e⟩:=x;exact bH e
 |tup xs=>obtain⟨_,_,_,p⟩:=x;exact p.lt
 |dK kvs=>obtain⟨_,_,_,_,o,_,_,e,_⟩:=x;exact bH e
 |dT kvs=>obtain⟨_,_,_,_,o,_,_,e,_⟩:=x;exact bH e
 |set S n=>obtain⟨o,_,_,_,e,_⟩:=x;exact bH e
 |ins C dx fs=>obtain⟨_,_,_,e,_⟩:=x;exact bH e
 |own y=>obtain⟨_,e⟩:=x;exact bH e
 |xd fs=>obtain⟨_,⟨_,_,_,e,_⟩,_⟩:=x;exact bH e
 |rng lo hi=>obtain⟨_,_,_,e⟩:=x;exact bH e
 |frz ob u=>obtain⟨e,_⟩:=x;exact bH e
 |tbl ps=>exact bH (show h.get? a=some _ from x)
 |met f y=>exact bH (show h.get? a=some _ from x)
 |ext φ=>obtain⟨_,⟨_,e⟩,_⟩:=x;exact bH e
theorem Paired.mapP{α β:Type}{F G:α->β->Prop}:∀{l₁:List α} {l₂:List β},Paired F l₁ l₂->(∀a b,F a b->G a b)->Paired G l₁ l₂
 |_,_,.nil,_=>.nil
 |_,_,.cons r t,f=>.cons (f _ _ r) (Paired.mapP t f)
theorem ObjOk.stay(x:ObjOk P w H h a o)(k:∀b u,(b=a\/H b=some (.own a))->h.get? b=some u->h'.get? b=some u)
  (ho:∀b,H b=some (.own a)->H' b=some (.own a)) (ht:∀b xs,H b=some (.tup xs)->H' b=some (.tup xs)):ObjOk P w H' h' a o:=by
 induction o with
 |lst xs=>obtain⟨z,its,n,r,e⟩:=x;exact⟨z,its,n,r,k _ _ (.inl rfl) e⟩
 |tup xs=>obtain⟨z,its,r,ob,e,c⟩:=x;exact⟨z,its,r,ob,k _ _ (.inl rfl) e,c⟩
 |dK kvs=>obtain⟨z,y,vs,r,ob,es,ep,e,c⟩:=x;exact⟨z,y,vs,r,ob,es,ep,k _ _ (.inl rfl) e,c⟩
 |dT kvs =>
  obtain⟨z,y,xs,r,ob,es,ep,e,c⟩:=x
  exact⟨z,y,xs,Paired.mapP r λp q z=>⟨z.1,ht _ _ z.2.1,z.2.2⟩,ob,es,ep,k _ _ (.inl rfl) e,c⟩
 |set S n=>obtain⟨ob,es,ep,t,e,c⟩:=x;exact⟨ob,es,ep,t,k _ _ (.inl rfl) e,c⟩
 |ins C dx fs =>
  obtain⟨d,z,ne,e,mA,⟨od,es,ep,e2,c⟩,r⟩:=x
  exact⟨ho _ d,z,ne,k _ _ (.inl rfl) e,mA,⟨od,es,ep,k _ _ (.inr d) e2,c⟩,r⟩
 |own y=>obtain⟨ob,e⟩:=x;exact⟨ob,k _ _ (.inl rfl) e⟩
 |xd fs=>obtain⟨mA,⟨od,es,ep,e,c⟩,r⟩:=x;exact⟨mA,⟨od,es,ep,k _ _ (.inl rfl) e,c⟩,r⟩
 |rng lo hi=>obtain⟨t,u,v,e⟩:=x;exact⟨t,u,v,k _ _ (.inl rfl) e⟩
 |frz ob u ih=>obtain⟨e,q⟩:=x;exact⟨k _ _ (.inl rfl) e,ih q⟩
 |tbl ps =>
  have e:h.get? a=some { cls:=.none,data:=.fields ps }:=x
  show h'.get? a=some { cls:=.none,data:=.fields ps }
  exact k a _ (.inl rfl) e
 |met f y =>
  have e:h.get? a=some (PySem.W.methodObj (.ref f) (.ref y)):=x
  show h'.get? a=some (PySem.W.methodObj (.ref f) (.ref y))
  exact k a _ (.inl rfl) e
 |ext φ=>obtain⟨p,⟨o,e⟩,st⟩:=x;exact⟨st _ _ p λo q=>k _ _ (.inl rfl) q,⟨o,k _ _ (.inl rfl) e⟩,st⟩
theorem HOk.lt(x:HOk P w H h)(e:H a=some o):a<h.objs.size:=(x a o e).lt
theorem HOk.fresh(x:HOk P w H h)(e:h.objs.size<=a):H a=none:=by
 cases q:H a with
 |none=>rfl
 |some u=>exact absurd (bR (x.lt q) e) (eE _)
theorem HOk.kept(x:HOk P w H h)(k:∀b u,h.get? b=some u->h'.get? b=some u):HOk P w H h':=λa o e =>
 (x a o e).stay (λb u _ q=>k b u q) (λ_ q=>q) λ_ _ q=>q
theorem HOk.laid(x:HOk P w H h)(k:∀b u,h.get? b=some u->h'.get? b=some u)(hp:h.objs.size<=a)(new:ObjOk P w (upd H a o) h' a o):HOk P w (upd H a o) h':=λb u e=>by
 have hn:=x.fresh hp
 by_cases hb:b=a
 ·subst hb;rw[xD]at e;cases e;exact new
 ·rw [gU hb] at e
  exact(x b u e).stay (λc v _ q=>k c v q) (λc q=>by rw[gU (cb_ q hn)];exact q) λc xs q=>by rw[gU (cb_ q hn)];exact q
end
def Rd(H:Hp)(a:Addr)(u:HO):Prop:=H a=some u\/∃o,H a=some (.frz o u)
theorem Rd.of{H:Hp}{a:Addr}{u:HO}(h:H a=some u):Rd H a u:=.inl h
theorem Rd.ok{P:Program}{w:World}{H:Hp}{h:Heap}{a:Addr}{u:HO}(r:Rd H a u)(x:HOk P w H h):ObjOk P w H h a u:=by
 rcases r with r | ⟨o,r⟩
 ·exact x a u r
 ·obtain ⟨_,q⟩:=x a _ r
  exact q
def Mut:Option HO->Prop
 |some (.lst _)=>True
 |some (.dK _)=>True
 |some (.dT _)=>True
 |some (.set _ _)=>True
 |some (.ins _ _ _)=>True
 |some (.ext _)=>True
 |_=>False
section
variable{P:Program}{w:World}{H:Hp}{h h':Heap}{x e:Addr}{o':HO}
theorem HOk.write(ok:HOk P w H h)(mu:Mut (H x))(he:e=x\/H e=some (.own x))(k:∀b u,b≠e->h.get? b=some u->h'.get? b=some u)(Ho:∃u,h'.get? e=some u)
  (new:ObjOk P w (upd H x o') h' x o'):HOk P w (upd H x o') h':=λb u q=>by
 have nown:∀c y,H c=some (.own y)->c≠x:=λc y r z=>by subst z;rw[r]at mu;exact mu
 have ntup:∀c xs,H c=some (.tup xs)->c≠x:=λc xs r z=>by subst z;rw[r]at mu;exact mu
 by_cases hb:b=x
 ·subst hb;rw[xD]at q;cases q;exact new
 ·rw [gU hb] at q
  by_cases Gb:b=e
  ·have q':H b=some (.own x):=by
    rcases he with z | z
    ·exact absurd (Gb.trans z) hb
    ·rw[Gb];exact z
   rw[q]at q';cases q'
   obtain⟨v,hv⟩:=Ho
   exact⟨v,by rw[Gb];exact hv⟩
  ·refine (ok b u q).stay (fun c v hc r=>k c v ?_ r) (fun c r=>by rw [gU (nown c b r)]; exact r) fun c xs r=>by rw [gU (ntup c xs r)]; exact r
   rcases hc with rfl | hc
   ·exact Gb
   ·rintro rfl
    rcases he with z | z
    ·exact nown c b hc z
    ·rw[hc]at z;cases z;exact hb rfl
end
structure Un(fs ex:List Addr)(H H':Hp)(h h':Heap):Prop where
 keep:∀b o,h.get? b=some o->H b=none->b∉fs->b∉ex->h'.get? b=some o
 slot:∀b o,h.get? b=some o->H b=none->b∈fs->b∉ex->∃sl,h'.get? b=some { o with slots:=sl }
 free:∀b o,h.get? b=some o->H b=none->b∉ex->H' b=none
 there:∀b o,h.get? b=some o->b∉ex->∃o',h'.get? b=some o'
 tups:∀b xs,H b=some (.tup xs)->H' b=some (.tup xs)
 frzs:∀b o u,H b=some (.frz o u)->H' b=some (.frz o u)
 tbls:∀b ps,H b=some (.tbl ps)->∃more,H' b=some (.tbl (ps++more))
section
variable{fs fs' ex ex':List Addr}{H H1 H2:Hp}{h h1 h2 h':Heap}{a x e:Addr}{o:HO}
theorem Un.any(u:Un fs ex H H1 h h1){b:Addr}{ob:Obj}(q:h.get? b=some ob)(n:H b=none)(hx:b∉ex):∃sl,h1.get? b=some { ob with slots:=sl }:=by
 by_cases hb:b∈fs
 ·exact u.slot b ob q n hb hx
 ·exact⟨ob.slots,u.keep b ob q n hb hx⟩
theorem Un.kept(k:∀b u,h.get? b=some u->h'.get? b=some u):Un fs ex H H h h':=
 ⟨λb ob q _ _ _=>k b ob q,λb ob q _ _ _=>⟨ob.slots,k b ob q⟩,λ_ _ _ n _=>n,λb ob q _=>⟨ob,k b ob q⟩,λ_ _ q=>q,λ_ _ _ q=>q,λ_ ps q=>⟨#[],by rw[q];simp⟩⟩
theorem Un.refl:Un fs ex H H h h:=Un.kept λ_ _ q=>q
theorem Un.laid(k:∀b u,h.get? b=some u->h'.get? b=some u)(hp:h.objs.size<=a)(hn:H a=none):Un fs ex H (upd H a o) h h' where
 keep:=λb u q _ _ _=>k b u q
 slot:=λb u q _ _ _=>⟨u.slots,k b u q⟩
 free:=λb u q n _=>by rw[gU (cH (bR (bH q) hp))];exact n
 there:=λb u q _=>⟨u,k b u q⟩
 tups:=λb xs q=>by rw[gU (cb_ q hn)];exact q
 frzs:=λb u xs q=>by rw[gU (cb_ q hn)];exact q
 tbls:=λb ps q=>⟨#[],by rw[gU (cb_ q hn),q];simp⟩
theorem Un.write(mu:Mut (H x))(he:e=x\/H e=some (.own x))(k:∀b u,b≠e->h.get? b=some u->h'.get? b=some u)(Ho:∃u,h'.get? e=some u):Un fs ex H (upd H x o) h h':=by
 have hx:∀b,H b=none->b≠x:=λb n z=>by subst z;rw[n]at mu;exact mu
 have hb:∀b,H b=none->b≠e:=λb n z=>by
  subst z
  rcases he with r | r
  ·exact hx b n r
  ·rw[n]at r;cases r
 have hm:∀b u,H b=some u->¬Mut (some u)->b≠x:=λb u q nm z=>by subst z;rw[q]at mu;exact nm mu
 refine⟨λb u q n _ _=>k b u (hb b n) q,λb u q n _ _=>⟨u.slots,k b u (hb b n) q⟩,λb u q n _=>by rw[gU (hx b n)];exact n,λb u q _=>?_,
  λb xs q=>by rw[gU (hm b _ q λz=>z)];exact q,λb u xs q=>by rw[gU (hm b _ q λz=>z)];exact q,λb ps q=>⟨#[],by rw[gU (hm b _ q λz=>z),q];simp⟩⟩
 by_cases Gb:b=e
 ·subst Gb;exact Ho
 ·exact⟨u,k b u Gb q⟩
end
def trk(h:Heap)(H:Hp):List Addr:=(List.range h.objs.size).filter λa=>(H a).isSome
def uB(h:Heap)(H:Hp):Heap:=PySem.W.hideAll h (trk h H)
theorem x8(h:Heap)(H:Hp):(uB h H).objs.size=h.objs.size:=PySem.W.hideAll_size _ _
theorem aFm{h:Heap}{H:Hp}{b:Addr}{o:Obj}(e:h.get? b=some o)(n:H b=none):(uB h H).get? b=some o:=
 PySem.W.hideAll_get _ e λhm=>by
  have q:(H b).isSome=true:=(List.mem_filter.mp hm).2
  rw[n]at q;simp at q
theorem aKu{h:Heap}{H:Hp}{b:Addr}{o:Obj}(e:(uB h H).get? b=some o):h.get? b=some o/\H b=none:=by
 have e':h.get? b=some o:=PySem.W.of_hideAll (trk h H) e
 refine⟨e',?_⟩
 cases q:H b with
 |none=>rfl
 |some x =>
  have hm:b∈trk h H:=List.mem_filter.mpr ⟨eM.mpr (bH e'),by simp[q]⟩
  have z:(uB h H).get? b=none:=PySem.W.hideAll_none (trk h H) hm
  rw[z]at e;cases e
def aNg(g h:Heap)(L:Addr):List (Addr×Obj):=(List.range h.objs.size).filterMap λa=>if a=L\/(g.get? a).isSome=true then none else(h.get? a).map λo=>(a,o)
def rest(g h:Heap)(L d:Addr):List (Addr×Obj):=(aNg g h L).filter λp=>decide (p.1≠d)
structure Mod(K:dA)(mg:kC)(base:Heap):Prop where
 kin:K.In base
 glob:base.Ns mainGlobals mg
 blt:∃mb,base.Ns builtinsNs mb/\∀x:Str,x ≠ "__name__" -> mb x=bootBuiltins x
 nolimit:base.NoLimit
structure Cx where
 prog:Program
 w:World
 K:PySem.W.Frag
 mg:Str->Option Value
 base:Heap
 A:Around
 N:List Str
 s₀:Shared
 H₀:Hp
 env:Env
 outer:List Env
 stack:List Env
 ex:List Addr
 fn:Str->Bool
 calm:Bool
 pn:List (Addr×Obj)
 xe:Value->Shared->Prop
def frs(l:List Env):List Addr:=l.filterMap (·.frame)
abbrev Cx.fs(X:Cx):List Addr:=frs X.outer
def Vis(sc:Scope)(x:Str):Prop:=sc.names.lookup x=some .local\/sc.names.lookup x=some .cell\/sc.names.lookup x=some .free
def Loc(sc:Scope)(x:Str):Prop:=sc.names.lookup x=some .local\/sc.names.lookup x=some .cell
def bDw(env:Env)(h:Heap)(m:kC)(x:Str)(u:Value):Prop:=
 (env.kindOf x=some .local/\m x=some u)\/((env.kindOf x=some .cell\/env.kindOf x=some .free)/\∃c,env.cells.lookup x=some c/\h.IsCell c (some u))
structure Cx.Ok(X:Cx):Prop where
 mod:Mod X.K X.mg X.base
 kind:X.env.scope.kind=.function
 glob:X.env.globals=mainGlobals
 blt:X.env.builtins=builtinsNs
 above:X.s₀.heap.objs.size<=X.env.locals
 inj:∀x y c,X.env.cells.lookup x=some c->X.env.cells.lookup y=some c->x=y
 has:∀x,(X.env.kindOf x=some .cell\/X.env.kindOf x=some .free)->∃c,X.env.cells.lookup x=some c
 cab:∀x c,X.fn x=true->X.env.cells.lookup x=some c->X.s₀.heap.objs.size<=c
 hd:X.calm=true->X.A.handled=none
 frames:X.A.frames=some X.stack
 stk:X.stack=X.outer\/(X.stack=X.env::X.outer/\X.env.frame=some X.env.locals)
 exf:∀b∈X.ex,b≠X.env.locals/\∀x c,X.env.cells.lookup x=some c->c≠b
 bs:∀b o,X.base.get? b=some o->X.s₀.heap.get? b=some o/\X.H₀ b=none
 bsz:X.base.objs.size<=X.s₀.heap.objs.size
 noex:∀b o,X.base.get? b=some o->b∉X.ex
 exfs:∀b∈X.ex,b∉X.fs
 funs:X.s₀.heap.FunFrames X.base X.outer
 frf:∀b∈X.fs,X.H₀ b=none
structure Inv(X:Cx)(Aa:eL)(σ:List (Option V))(H:Hp)(s:Shared):Prop where
 ok:X.Ok
 os:s.os=X.s₀.os
 bare:AllBare s.gens
 base:Un X.fs X.ex X.H₀ H X.s₀.heap s.heap
 loc:∃m,s.heap.Ns X.env.locals m/\∀(i:Nat) (x:Str) (v:V),X.N[i]? = some x->σ[i]? = some (some v)->Vis X.env.scope x->∃u,RelV v u/\bDw X.env s.heap m x u
 cell:∀x c,X.env.cells.lookup x=some c->∃v,s.heap.IsCell c v
 free:H X.env.locals=none
 freeC:∀x c,X.env.cells.lookup x=some c->H c=none
 pin:∀p∈X.pn++Aa,s.heap.get? p.1=some p.2/\H p.1=none/\p.1≠X.env.locals/\p.1∉X.fs/\∀v,p.2.data ≠ .cell v
 hok:HOk X.prog X.w H s.heap
 len:σ.length=X.N.length
section
variable{X:Cx}{Aa:eL}{σ:List (Option V)}{H H':Hp}{s:Shared}{h':Heap}
theorem Cx.Ok.nofr(ok:X.Ok){b:Addr}{o:Obj}(e:X.base.get? b=some o):b∉X.fs:=λhb=>by
 have:=(ok.funs.mem hb).1
 rw[e]at this;cases this
theorem Inv.bs(I:Inv X Aa σ H s):∀b o,X.base.get? b=some o->s.heap.get? b=some o/\H b=none:=λb o e =>
 ⟨I.base.keep b o (I.ok.bs b o e).1 (I.ok.bs b o e).2 (I.ok.nofr e) (I.ok.noex b o e),I.base.free b o (I.ok.bs b o e).1 (I.ok.bs b o e).2 (I.ok.noex b o e)⟩
theorem Inv.bk(I:Inv X Aa σ H s):∀b o,X.base.get? b=some o->s.heap.get? b=some o:=λb o e=>(I.bs b o e).1
theorem Inv.mod(I:Inv X Aa σ H s):Mod X.K X.mg X.base:=I.ok.mod
theorem Inv.kIn(I:Inv X Aa σ H s):X.K.In s.heap:=I.ok.mod.kin.keeps I.bk
theorem Inv.fr(I:Inv X Aa σ H s):∃m,Fr X.base X.env.locals s.heap m:=
 let ⟨m,hn,_⟩:=I.loc
 ⟨m,hn,I.bk,nzL I.ok.bsz I.ok.above⟩
theorem Inv.lt(I:Inv X Aa σ H s):X.env.locals<s.heap.objs.size:=let ⟨_,hn,_⟩:=I.loc;hn.lt
theorem Inv.sz(I:Inv X Aa σ H s):X.s₀.heap.objs.size<=s.heap.objs.size:=nzL I.ok.above (Nat.le_of_lt I.lt)
theorem Inv.nofs(I:Inv X Aa σ H s){a:Addr}(h:s.heap.objs.size<=a):a∉X.fs:=λhb=>by
 obtain⟨_,o,ho,_⟩:=I.ok.funs.mem hb
 exact absurd (bR (bH ho) (nzL I.sz h)) (eE _)
theorem Inv.cne(I:Inv X Aa σ H s):∀x c,X.env.cells.lookup x=some c->c≠X.env.locals:=λx c e z=>by
 obtain⟨v,o,ho,hd⟩:=I.cell x c e
 obtain⟨m,⟨o',es,ep,Du,Hr,_⟩,_⟩:=I.loc
 rw[z,Du]at ho;cases ho;rw[Hr]at hd;cases hd
theorem Inv.funs(I:Inv X Aa σ H s):s.heap.FunFrames X.base X.outer:=by
 have all:∀(l:List Env),(∀b∈frs l,b∈X.fs)->X.s₀.heap.FunFrames X.base l->s.heap.FunFrames X.base l:=by
  intro l
  induction l with
  |nil=>intro _ _;trivial
  |cons env r ih =>
   intro hs hl
   obtain⟨hk,⟨L,o,hf,hn,ho,hd⟩,hr⟩:=hl
   have hL:L∈X.fs:=hs L (by unfold frs;rw[gT,hf];exact aA)
   obtain⟨sl,e⟩:=I.base.slot L o ho (I.ok.frf L hL) hL λz=>I.ok.exfs L z hL
   exact⟨hk,⟨L,_,hf,hn,e,hd⟩,ih (λb hb=>hs b (by unfold frs;rw[gT,hf];exact aB _ hb)) hr⟩
 exact all X.outer (λ_ hb=>hb) I.ok.funs
theorem Inv.stack(I:Inv X Aa σ H s):s.heap.FunFrames X.base X.stack:=by
 rcases I.ok.stk with e | ⟨e,hf⟩
 ·rw[e];exact I.funs
 ·rw [e]
  obtain⟨m,hn,_⟩:=I.loc
  refine .cons (by rw[I.ok.kind];decide) hf hn ?_ I.funs
  exact Heap.get?_none_of_le (nzL I.ok.bsz I.ok.above)
theorem Inv.stkSub(I:Inv X Aa σ H s):∀b∈frs X.stack,b∈X.env.locals::X.fs:=λb hb=>by
 rcases I.ok.stk with e | ⟨e,hf⟩
 ·rw[e]at hb;exact aB _ hb
 ·rw [e] at hb
  unfold frs at hb
  rw[gT,hf]at hb
  exact hb
theorem Inv.stkFree(I:Inv X Aa σ H s):∀b∈frs X.stack,H b=none:=λb hb=>by
 rcases aI.mp (I.stkSub b hb)with e | hb
 ·rw[e];exact I.free
 ·obtain ⟨_,o,ho,_⟩:=I.ok.funs.mem hb
  exact I.base.free b o ho (I.ok.frf b hb) λz=>I.ok.exfs b z hb
theorem Inv.step{g':Array GenState}{t':Nat}{d':Drawn}{ch:List Addr}(I:Inv X Aa σ H s)
  (D9:∀b∈ch,(b∈X.ex\/X.s₀.heap.objs.size<=b)/\b≠X.env.locals/\(∀x c,X.env.cells.lookup x=some c->c≠b)/\∀p∈X.pn++Aa,p.1≠b)
  (keep:∀b o,b≠X.env.locals->b∉X.fs->b∉ch->s.heap.get? b=some o->H b=none->h'.get? b=some o)
  (slot:∀b o,b≠X.env.locals->b∈X.fs->b∉ch->s.heap.get? b=some o->H b=none->∃sl,h'.get? b=some { o with slots:=sl }) (free:∀b o,b∉ch->s.heap.get? b=some o->H b=none->H' b=none)
  (there:∀b o,b∉ch->s.heap.get? b=some o->∃o',h'.get? b=some o')
  (tups:∀b xs,H b=some (.tup xs)->H' b=some (.tup xs)) (frzs:∀b o u,H b=some (.frz o u)->H' b=some (.frz o u)) (tbls:∀b ps,H b=some (.tbl ps)->∃more,H' b=some (.tbl (ps++more)))
  (ns:∀m,s.heap.Ns X.env.locals m->h'.Ns X.env.locals m) (hok:HOk X.prog X.w H' h') (hg:AllBare g') :
  Inv X Aa σ H' { s with heap:=h',gens:=g',drawn:=d',toks:=t' }:=by
 have neL:∀b o,X.s₀.heap.get? b=some o->b≠X.env.locals:=λb o e=>cH (bR (bH e) I.ok.above)
 have neC:∀b o,X.s₀.heap.get? b=some o->b∉X.ex->b∉ch:=λb o e hx hb=>by
  rcases(D9 b hb).1 with z | z
  ·exact hx z
  ·exact absurd (bR (bH e) z) (eE _)
 have cellK:∀x c,X.env.cells.lookup x=some c->∀v,s.heap.IsCell c v->h'.IsCell c v:=λx c e v ⟨o,ho,hd⟩=>by
  have nch:c∉ch:=λz=>(D9 c z).2.2.1 x c e rfl
  by_cases hc:c∈X.fs
  ·obtain ⟨sl,q⟩:=slot c o (I.cne x c e) hc nch ho (I.freeC x c e)
   exact⟨_,q,hd⟩
  ·exact⟨o,keep c o (I.cne x c e) hc nch ho (I.freeC x c e),hd⟩
 refine⟨I.ok,I.os,hg,⟨λb o e n hb hx=>?_,λb o e n hb hx=>?_,λb o e n hx=>?_,λb o e hx=>?_,λb xs e=>tups b xs (I.base.tups b xs e),λb o xs e=>frzs b o xs (I.base.frzs b o xs e),λb ps e=>?_⟩,?_,λx c e=>?_,?_,λx c e=>?_,λp hp=>?_,hok,I.len⟩
 ·exact keep b o (neL b o e) hb (neC b o e hx) (I.base.keep b o e n hb hx) (I.base.free b o e n hx)
 ·obtain ⟨sl,e1⟩:=I.base.slot b o e n hb hx
  obtain⟨sl',e2⟩:=slot b _ (neL b o e) hb (neC b o e hx) e1 (I.base.free b o e n hx)
  exact⟨sl',e2⟩
 ·obtain ⟨o',e1⟩:=I.base.there b o e hx
  exact free b o' (neC b o e hx) e1 (I.base.free b o e n hx)
 ·obtain ⟨o',e1⟩:=I.base.there b o e hx
  exact there b o' (neC b o e hx) e1
 ·obtain ⟨m1,e1⟩:=I.base.tbls b ps e
  obtain⟨m2,e2⟩:=tbls b _ e1
  exact⟨m1++m2,by rw[e2,Array.append_assoc]⟩
 ·obtain ⟨m,hn,hl⟩:=I.loc
  refine⟨m,ns m hn,λi x v e1 e2 e3=>?_⟩
  obtain⟨u,r,l⟩:=hl i x v e1 e2 e3
  refine⟨u,r,?_⟩
  rcases l with l | ⟨k,c,e,z⟩
  ·exact .inl l
  ·exact .inr ⟨k,c,e,cellK x c e _ z⟩
 ·obtain ⟨v,z⟩:=I.cell x c e
  exact⟨v,cellK x c e v z⟩
 ·obtain ⟨m,⟨o,_,_,ho,_⟩,_⟩:=I.loc
  exact free _ o (λz=>(D9 _ z).2.1 rfl) ho I.free
 ·obtain ⟨v,o,ho,hd⟩:=I.cell x c e
  exact free c o (λz=>(D9 c z).2.2.1 x c e rfl) ho (I.freeC x c e)
 ·obtain ⟨e,n,ne,nf,d⟩:=I.pin p hp
  have nch:p.1∉ch:=λz=>(D9 p.1 z).2.2.2 p hp rfl
  exact⟨keep p.1 p.2 ne nf nch e n,free p.1 p.2 nch e n,ne,nf,d⟩
theorem Inv.un{t':Nat}(I:Inv X Aa σ H s)(u:Un X.fs [] H H' s.heap h')(hok:HOk X.prog X.w H' h'):Inv X Aa σ H' { s with heap:=h',toks:=t' }:=by
 obtain⟨m,⟨o,es,ep,ho,r⟩,_⟩:=id I.loc
 obtain⟨sl,hL⟩:=u.any ho I.free (by simp)
 exact I.step (g':=s.gens) (d':=s.drawn) (ch:=[]) (λ_ z=>nomatch z) (λb o _ hb _ e n=>u.keep b o e n hb (by simp)) (λb o _ hb _ e n=>u.slot b o e n hb (by simp)) (λb o _ e n=>u.free b o e n (by simp)) (λb o _ e=>u.there b o e (by simp)) u.tups u.frzs u.tbls (λm' hm=>by
  obtain⟨o',es',ep',Du,r'⟩:=hm
  rw[ho]at Du;cases Du
  exact⟨_,es',ep',hL,r'⟩) hok I.bare
theorem Inv.call{g':Array GenState}{t':Nat}{d':Drawn}{ch:List Addr}(I:Inv X Aa σ H s)(u:Un (frs X.stack) ch H H' s.heap h')(hok:HOk X.prog X.w H' h')(hg:AllBare g')
  (D9:∀b∈ch,(b∈X.ex\/X.s₀.heap.objs.size<=b)/\b≠X.env.locals/\(∀x c,X.env.cells.lookup x=some c->c≠b)/\∀p∈X.pn++Aa,p.1≠b) :
  Inv X Aa σ H' { s with heap:=h',gens:=g',drawn:=d',toks:=t' }:=by
 obtain⟨m,⟨o,es,ep,ho,r⟩,_⟩:=id I.loc
 obtain⟨sl,hL⟩:=u.any ho I.free λz=>(D9 _ z).2.1 rfl
 exact I.step (ch:=ch) D9 (λb o hL hb hc e n=>u.keep b o e n (λz=>(aI.mp (I.stkSub b z)).elim hL hb) hc) (λb o _ _ hc e n=>u.any e n hc) (λb o hc e n=>u.free b o e n hc) (λb o hc e=>u.there b o e hc) u.tups u.frzs u.tbls (λm' hm=>by
  obtain⟨o',es',ep',Du,r'⟩:=hm
  rw[ho]at Du;cases Du
  exact⟨_,es',ep',hL,r'⟩) hok hg
theorem Inv.turned{t':Nat}{it:Addr}(I:Inv X Aa σ H s)(k:∀b o,b≠it->s.heap.get? b=some o->h'.get? b=some o)(hn:H it=none)(hL:it≠X.env.locals)
  (h1:it∈X.ex\/X.s₀.heap.objs.size<=it) (h2:∀x c,X.env.cells.lookup x=some c->c≠it) (h3:∀p∈X.pn++Aa,p.1≠it):Inv X Aa σ H { s with heap:=h',toks:=t' }:=by
 have nit:∀b u,H b=some u->b≠it:=λb u e z=>by rw[z,hn]at e;cases e
 refine I.step (g':=s.gens) (d':=s.drawn) (ch:=[it]) (λb hb=>?_) (λb o _ _ hc e _=>k b o (λz=>hc (by simp[z])) e) (λb o _ _ hc e _=>⟨o.slots,k b o (λz=>hc (by simp[z])) e⟩) (λ_ _ _ _ n=>n)
  (λb o hc e=>⟨o,k b o (λz=>hc (by simp[z])) e⟩) (λ_ _ e=>e) (λ_ _ _ e=>e) (λb ps e=>⟨#[],by rw[e];simp⟩) (λm hm=>?_) (λb u e=>?_) I.bare
 ·have e:b=it:=by simpa using hb
  subst e
  exact⟨h1,hL,h2,h3⟩
 ·obtain ⟨o,es,ep,ho,r⟩:=hm
  exact⟨o,es,ep,k _ o (Ne.symm hL) ho,r⟩
 ·refine (I.hok b u e).stay (fun c v hc q=>k c v ?_ q) (fun _ q=>q) fun _ _ q=>q
  rcases hc with z | z
  ·rw[z];exact nit b u e
  ·exact nit c _ z
theorem Inv.tok(I:Inv X Aa σ H s)(t:Nat):Inv X Aa σ H { s with toks:=t }:=I.un (h':=s.heap) (t':=t) Un.refl I.hok
theorem Inv.kept{t':Nat}(I:Inv X Aa σ H s)(k:∀b u,s.heap.get? b=some u->h'.get? b=some u):Inv X Aa σ H { s with heap:=h',toks:=t' }:=I.un (Un.kept k) (I.hok.kept k)
theorem Inv.laid{a:Addr}{o:HO}{t':Nat}(I:Inv X Aa σ H s)(k:∀b u,s.heap.get? b=some u->h'.get? b=some u)(hp:s.heap.objs.size<=a)(new:ObjOk X.prog X.w (upd H a o) h' a o) :
  Inv X Aa σ (upd H a o) { s with heap:=h',toks:=t' }:=I.un (Un.laid k hp (I.hok.fresh hp)) (I.hok.laid k hp new)
theorem Inv.write{x e:Addr}{o:HO}{t':Nat}(I:Inv X Aa σ H s)(mu:Mut (H x))(he:e=x\/H e=some (.own x))(k:∀b u,b≠e->s.heap.get? b=some u->h'.get? b=some u)(Ho:∃u,h'.get? e=some u)
  (new:ObjOk X.prog X.w (upd H x o) h' x o):Inv X Aa σ (upd H x o) { s with heap:=h',toks:=t' }:=I.un (Un.write mu he k Ho) (I.hok.write mu he k Ho new)
theorem Inv.weak{σ':List (Option V)}(I:Inv X Aa σ H s)(hl:σ'.length=σ.length)(w:∀(i:Nat) v,σ'[i]? = some (some v)->σ[i]? = some (some v)):Inv X Aa σ' H s:=
 ⟨I.ok,I.os,I.bare,I.base,let ⟨m,hn,F2⟩:=I.loc;⟨m,hn,λi x v e1 e2 e3=>F2 i x v e1 (w i v e2) e3⟩,I.cell,I.free,I.freeC,I.pin,I.hok,hl.trans I.len⟩
theorem Inv.pins_of{pins':eL}(I:Inv X Aa σ H s)(h:∀p∈pins',s.heap.get? p.1=some p.2/\H p.1=none/\p.1≠X.env.locals/\p.1∉X.fs/\∀v,p.2.data ≠ .cell v):Inv X pins' σ H s:=
 ⟨I.ok,I.os,I.bare,I.base,I.loc,I.cell,I.free,I.freeC,λp hp=>(bL.mp hp).elim (λz=>I.pin p (aX _ z)) (h p),I.hok,I.len⟩
theorem pE{N:List Str}(hN:N.Nodup){i j:Nat}{x:Str}(a:N[i]? = some x)(b:N[j]? = some x):i=j:=by
 obtain⟨h1,e1⟩:=bG.mp a
 obtain⟨h2,e2⟩:=bG.mp b
 exact(List.getElem_inj hN).mp (e1.trans e2.symm)
theorem jf_{M:Model}{A:Around}{E:gV}{i:Nat}{x:Str}{v:V}{u:Value}{Q:Unit->Shared->Prop}(I:Inv X Aa σ H s)(hN:X.N.Nodup)(hi:X.N[i]? = some x)(hx:Loc X.env.scope x)(r:RelV v u)
  (h:∀s',Inv X Aa (σ.set i (some v)) H s'->(∃a,Heap.SameBut a s.heap s'.heap/\(a=X.env.locals\/X.env.cells.lookup x=some a))->Q () s') (hf:X.fn x=true\/X.env.scope.names.lookup x=some .local:=by first | exact .inl rfl | exact .inr rfl | assumption):wpAny M A (storeName X.env x u) Q E s:=by
 obtain⟨m,hn,hl⟩:=id I.loc
 have Dy:(X.env.scope.kind == .class||(X.env.scope.kind == .module&&X.env.locals != X.env.globals))=false:=by rw[I.ok.kind];rfl
 have hiσ:i<σ.length:=by rw[I.len];exact(bG.mp hi).1
 have cne:=I.cne
 have tracked:∀{a:Addr} {h':Heap},(∃o,s.heap.get? a=some o/\H a=none)->Heap.SameBut a s.heap h'->HOk X.prog X.w H h':=λ{a h'} ha hs b ob e=>by
  obtain⟨_,_,Go⟩:=ha
  refine(I.hok b ob e).stay (λc w' hc q=>(hs.2 c ?_).trans q) (λ_ q=>q) λ_ _ q=>q
  rintro rfl
  rcases hc with rfl | hc
  ·rw[Go]at e;cases e
  ·rw[Go]at hc;cases hc
 rcases hx with hk | hk
 ·refine wpAny_storeName_local hk hn (fun h' C5 hs => ?_) Dy
  obtain⟨oL,_,_,Ml,_⟩:=id hn
  refine h _ ⟨I.ok,I.os,I.bare,⟨λb o e n hb hx=>?_,λb o e n hb hx=>?_,I.base.free,λb o e hx=>?_,I.base.tups,I.base.frzs,I.base.tbls⟩,⟨_,C5,λj y v' e1 e2 e3=>?_⟩,λy c e=>?_,I.free,I.freeC,λp hp=>?_,tracked ⟨oL,Ml,I.free⟩ hs,by simpa using I.len⟩ ⟨_,hs,.inl rfl⟩
  ·exact(hs.2 b (cH (bR (bH e) I.ok.above))).trans (I.base.keep b o e n hb hx)
  ·obtain ⟨sl,e1⟩:=I.base.slot b o e n hb hx
   exact⟨sl,(hs.2 b (cH (bR (bH e) I.ok.above))).trans e1⟩
  ·obtain ⟨o',e1⟩:=I.base.there b o e hx
   exact⟨o',(hs.2 b (cH (bR (bH e) I.ok.above))).trans e1⟩
  ·by_cases hj:j=i
   ·subst hj
    rw[hi]at e1;cases e1
    rw[iK hiσ]at e2
    cases e2
    exact⟨u,r,.inl ⟨hk,by simp⟩⟩
   ·rw [dB (Ne.symm hj)] at e2
    obtain⟨u',r',q⟩:=hl j y v' e1 e2 e3
    refine⟨u',r',?_⟩
    rcases q with⟨k,e⟩ | ⟨k,c,e,z⟩
    ·refine .inl ⟨k,?_⟩
     have:y≠x:=λe=>hj (pE hN e1 (e ▸ hi))
     simp[this,e]
    ·exact .inr ⟨k,c,e,z.sameBut hs (cne y c e)⟩
  ·obtain ⟨w',z⟩:=I.cell y c e
   exact⟨w',z.sameBut hs (cne y c e)⟩
  ·obtain ⟨e,n,ne,nf,d⟩:=I.pin p hp
   exact⟨(hs.2 p.1 ne).trans e,n,ne,nf,d⟩
 ·have La:X.fn x=true:=by
   rcases hf with z | z
   ·exact z
   ·rw[z]at hk;cases hk
  obtain⟨c,hc⟩:=I.ok.has x (.inl hk)
  obtain⟨w',z⟩:=I.cell x c hc
  refine wpAny_storeName_cell I.ok.kind hk hc z (λh' Jd hs=>?_)
  obtain⟨oc,F0,Ky⟩:=id z
  refine h { s with heap:=h' } ⟨I.ok,I.os,I.bare,⟨λb o e n hb hx=>?_,λb o e n hb hx=>?_,I.base.free,λb o e hx=>?_,I.base.tups,I.base.frzs,I.base.tbls⟩,⟨m,hn.sameBut hs (Ne.symm (cne x c hc)),λj y v' e1 e2 e3=>?_⟩,λy c' e=>?_,I.free,I.freeC,λp hp=>?_,tracked ⟨oc,F0,I.freeC x c hc⟩ hs,by simpa using I.len⟩ ⟨c,hs,.inr hc⟩
  ·exact(hs.2 b (cH (bR (bH e) (I.ok.cab x c La hc)))).trans (I.base.keep b o e n hb hx)
  ·obtain ⟨sl,e1⟩:=I.base.slot b o e n hb hx
   exact⟨sl,(hs.2 b (cH (bR (bH e) (I.ok.cab x c La hc)))).trans e1⟩
  ·obtain ⟨o',e1⟩:=I.base.there b o e hx
   exact⟨o',(hs.2 b (cH (bR (bH e) (I.ok.cab x c La hc)))).trans e1⟩
  ·by_cases hj:j=i
   ·subst hj
    rw[hi]at e1;cases e1
    rw[iK hiσ]at e2
    cases e2
    exact⟨u,r,.inr ⟨.inl hk,c,hc,Jd⟩⟩
   ·rw [dB (Ne.symm hj)] at e2
    obtain⟨u',r',q⟩:=hl j y v' e1 e2 e3
    refine⟨u',r',?_⟩
    rcases q with q | ⟨k,c',e,z'⟩
    ·exact .inl q
    ·refine .inr ⟨k,c',e,z'.sameBut hs ?_⟩
     rintro rfl
     exact hj (pE hN e1 (I.ok.inj _ _ _ e hc ▸ hi))
  ·by_cases Lm:c'=c
   ·subst Lm;exact⟨_,Jd⟩
   ·obtain ⟨w2,z2⟩:=I.cell y c' e
    exact⟨w2,z2.sameBut hs Lm⟩
  ·obtain ⟨e,n,ne,nf,d⟩:=I.pin p hp
   refine⟨(hs.2 p.1 ?_).trans e,n,ne,nf,d⟩
   intro q
   rw[q,F0]at e
   have q':oc=p.2:=ozI e
   exact d w' (by rw[<-q'];exact Ky)
theorem vL{M:Model}{A:Around}{E:gV}{i:Nat}{x:Str}{v:V}{u:Value}{Q:Unit->Shared->Prop}(I:Inv X Aa σ H s)(hN:X.N.Nodup)(hi:X.N[i]? = some x)(hx:Loc X.env.scope x)(r:RelV v u)
  (h:∀s',Inv X Aa (σ.set i (some v)) H s'->Q () s') (hf:X.fn x=true\/X.env.scope.names.lookup x=some .local:=by first | exact .inl rfl | exact .inr rfl | assumption):wpAny M A (storeName X.env x u) Q E s:=
 jf_ I hN hi hx r (λs' I' _=>h s' I') hf
theorem Inv.call'{s':Shared}{ch:List Addr}(I:Inv X Aa σ H s)(ho:s'.os=s.os)(u:Un (frs X.stack) ch H H' s.heap s'.heap)(hok:HOk X.prog X.w H' s'.heap)(hg:AllBare s'.gens)
  (D9:∀b∈ch,(b∈X.ex\/X.s₀.heap.objs.size<=b)/\b≠X.env.locals/\(∀x c,X.env.cells.lookup x=some c->c≠b)/\∀p∈X.pn++Aa,p.1≠b):Inv X Aa σ H' s':=by
 obtain⟨h',g',d',t',o'⟩:=s'
 have e:o'=s.os:=ho
 subst e
 exact I.call (g':=g') (t':=t') (d':=d') u hok hg D9
end
abbrev XK:=Value->Option Addr->Hp->Prop
abbrev St:=List (Option V)
abbrev VK:=V->Hp->Prop
abbrev TE:=St->Hp->VK->Prop
abbrev TT:=St->Hp->(Bool->Hp->Prop)->Prop
abbrev TA:=St->Hp->(List V->Hp->Prop)->Prop
structure Ends where
 nx:St->Hp->Prop
 rt:VK
 bk:St->Hp->Prop:=λ_ _=>False
 ct:St->Hp->Prop:=λ_ _=>False
abbrev TS:=Ends->St->Hp->Prop
def EP(X:Cx)(Aa:eL)(σ:St)(Q:VK)(u:Value)(s':Shared):Prop:=∃v H',Inv X Aa σ H' s'/\RelV v u/\Q v H'
def TP(X:Cx)(Aa:eL)(σ:St)(Q:Bool->Hp->Prop)(b:Bool)(s':Shared):Prop:=∃H',Inv X Aa σ H' s'/\Q b H'
def AP(X:Cx)(Aa:eL)(σ:St)(Q:List V->Hp->Prop)(us:List Value)(s':Shared):Prop:=∃vs H',Inv X Aa σ H' s'/\Vals vs us/\Q vs H'
def SP(X:Cx)(Aa:eL)(D:Ends)(f:Flow)(s':Shared):Prop:=
 match f with
 | .next=>∃σ' H',Inv X Aa σ' H' s'/\D.nx σ' H'
 | .brk=>∃σ' H',Inv X Aa σ' H' s'/\D.bk σ' H'
 | .cont=>∃σ' H',Inv X Aa σ' H' s'/\D.ct σ' H'
 | .ret u=>∃v σ' H',Inv X Aa σ' H' s'/\RelV v u/\D.rt v H'
def PE(X:Cx)(e:Expr)(t:TE):Prop:=
 ∀(Aa:eL) (s:Shared) (σ:St) (H:Hp) (Q:VK),Inv X Aa σ H s->t σ H Q->wpAny (model X.prog X.w) X.A (eval e X.env) (EP X Aa σ Q) X.xe s
def PT(X:Cx)(e:Expr)(t:TT):Prop:=
 ∀(Aa:eL) (s:Shared) (σ:St) (H:Hp) (Q:Bool->Hp->Prop),Inv X Aa σ H s->t σ H Q->wpAny (model X.prog X.w) X.A (isTrue e X.env (eval e X.env)) (TP X Aa σ Q) X.xe s
def PW(X:Cx)(e:Expr)(t:TT):Prop:=
 ∀(whole:Sem Value) (Aa:eL) (s:Shared) (σ:St) (H:Hp) (Q:Bool->Hp->Prop),Inv X Aa σ H s->t σ H Q->wpAny (model X.prog X.w) X.A (isTrue e X.env whole) (TP X Aa σ Q) X.xe s
theorem PW.pt{X:Cx}{e:Expr}{t:TT}(h:PW X e t):PT X e t:=h _
def PA(X:Cx)(es:List Expr)(t:TA):Prop:=
 ∀(pos:Pos) (Aa:eL) (s:Shared) (σ:St) (H:Hp) (Q:List V->Hp->Prop),Inv X Aa σ H s->t σ H Q->wpAny (model X.prog X.w) X.A (spliced (backTo pos (starEach es X.env))) (AP X Aa σ Q) X.xe s
def PS(X:Cx)(st:Stmt)(t:TS):Prop:=
 ∀(Aa:eL) (s:Shared) (σ:St) (H:Hp) (D:Ends),Inv X Aa σ H s->t D σ H->wpAny (model X.prog X.w) X.A (exec st X.env) (SP X Aa D) X.xe s
def PSs(X:Cx)(st:List Stmt)(t:TS):Prop:=
 ∀(Aa:eL) (s:Shared) (σ:St) (H:Hp) (D:Ends),Inv X Aa σ H s->t D σ H->wpAny (model X.prog X.w) X.A (execs st X.env) (SP X Aa D) X.xe s
theorem dN{α:Type}{t:Sem α}{Q Q':α->Shared->Prop}{M:Model}{A:Around}{E:gV}{s:Shared}(h:wpAny M A t Q E s)(hQ:∀a s,Q a s->Q' a s):wpAny M A t Q' E s:=wpAny_mono h hQ λ_ _ x=>x
section
variable{X:Cx}
def gL(i:Nat):TE:=λσ H Q=>∃v,σ[i]? = some (some v)/\Q v H
def tC(v:V):TE:=λ_ H Q=>Q v H
theorem aRf{i:Nat}{x:Str}{pos:Pos}(hN:X.N[i]? = some x)(hv:Vis X.env.scope x)(hd:(x == ("__debug__" : Str))=false:=by decide)(C7:(x == ("__classdict__" : Str))=false:=by decide):PE X (.Name x pos) (gL i):=by
 intro Aa s σ H Q I h
 obtain⟨v,e,h⟩:=h
 obtain⟨m,hn,hl⟩:=I.loc
 obtain⟨u,r,l⟩:=hl i x v hN e hv
 have fin:EP X Aa σ Q u s:=⟨v,H,I,r,h⟩
 rcases l with⟨hk,hm⟩ | ⟨hk,c,hc,Gr⟩
 ·exact wpAny_Name (wpAny_loadName_local I.ok.kind hk hn hm fin) hd
 ·rcases hk with hk | hk
  ·exact wpAny_Name (wpAny_loadName_cell I.ok.kind hk hc Gr fin) hd
  ·exact wpAny_Name (wpAny_loadName_free I.ok.kind hk hc Gr fin C7) hd
theorem oZ{i j pos}:PE X (.Constant (.int i) j pos) (tC (.int i)):=λ_ _ _ H _ I h=>wpAny_Constant_int ⟨.int i,H,I.tok _,⟨_,rfl⟩,h⟩
theorem aXt{b j pos}:PE X (.Constant (.bool b) j pos) (tC (.bl b)):=λ_ _ _ H _ I h=>Constant_bool ⟨.bl b,H,I,rfl,h⟩
theorem aRi{j pos}:PE X (.Constant .none j pos) (tC .non):=λ_ _ _ H _ I h=>Constant_none ⟨.non,H,I,rfl,h⟩
theorem oY{x j pos}:PE X (.Constant (.str x) j pos) (tC (.str x)):=λ_ _ _ H _ I h=>Calls.Constant_str ⟨.str x,H,I.tok _,⟨_,rfl⟩,h⟩
def Gl(X:Cx)(x:Str):Prop:=X.env.kindOf x=some .globalImplicit
theorem ic_{E:gV}{Aa:eL}{s:Shared}{σ:St}{H:Hp}{x:Str}{u:Value}{pos:Pos}{Q:gV}(I:Inv X Aa σ H s)(hg:Gl X x)(hm:X.mg x=some u)(h:Q u s)
  (hd:(x == ("__debug__" : Str))=false:=by decide):wpAny (model X.prog X.w) X.A (eval (.Name x pos) X.env) Q E s:=
 Calls.Name_function_global I.ok.kind hg (Calls.loadGlobal_global (by rw[I.ok.glob];exact I.mod.glob.keeps I.bk) hm h) hd
theorem pJ{E:gV}{Aa:eL}{s:Shared}{σ:St}{H:Hp}{x:Str}{u:Value}{pos:Pos}{Q:gV}(I:Inv X Aa σ H s)(hg:Gl X x)(hm:X.mg x=none)(hv:bootBuiltins x=some u)(h:Q u s)
  (hn:x ≠ "__name__":=by decide) (hd:(x == ("__debug__" : Str))=false:=by decide):wpAny (model X.prog X.w) X.A (eval (.Name x pos) X.env) Q E s:=by
 obtain⟨mb,h1,h2⟩:=I.mod.blt
 exact Calls.Name_function_global I.ok.kind hg (Calls.loadGlobal_builtin (by rw[I.ok.glob];exact I.mod.glob.keeps I.bk) hm (by rw[I.ok.blt];exact h1.keeps I.bk) ((h2 x hn).trans hv) h) hd
theorem fl_{x:Str}{v:V}{u:Value}{pos:Pos}(hg:Gl X x)(hm:X.mg x=some u)(r:RelV v u)(hd:(x == ("__debug__" : Str))=false:=by decide):PE X (.Name x pos) (tC v):=
 λ_ _ _ H _ I h=>ic_ I hg hm ⟨v,H,I,r,h⟩ hd
theorem rV{x:Str}{v:V}{u:Value}{pos:Pos}(hg:Gl X x)(hm:X.mg x=none)(hv:bootBuiltins x=some u)(r:RelV v u)(hn:x ≠ "__name__":=by decide)(hd:(x == ("__debug__" : Str))=false:=by decide):PE X (.Name x pos) (tC v):=
 λ_ _ _ H _ I h=>pJ I hg hm hv ⟨v,H,I,r,h⟩ hn hd
variable{a b:Expr}{ta tb:TE}{pos:Pos}
def PC(X:Cx)(op:CmpOp)(a b:Expr)(t:TE):Prop:=
 ∀(Aa:eL) (s:Shared) (σ:St) (H:Hp) (Q:VK),Inv X Aa σ H s->t σ H Q ->
  wpAny (model X.prog X.w) X.A (eval a X.env) (λv s₁=>wpAny (model X.prog X.w) X.A (eval b X.env) (λu s₂=>wpAny (model X.prog X.w) X.A (compareOp op v u) (EP X Aa σ Q) X.xe s₂) X.xe s₁) X.xe s
theorem aEn(b:Expr){op:CmpOp}(h:op ≠ .In)(h2:op ≠ .NotIn):behindInMarks op b=false:=by
 have e1:(op == CmpOp.In)=false:=by cases op<;>first | rfl | exact absurd rfl h
 have e2:(op == CmpOp.NotIn)=false:=by cases op<;>first | rfl | exact absurd rfl h2
 cases b<;>simp[behindInMarks,e1,e2]
def tB(t:TE):TT:=λσ H Q=>t σ H λx H1=>∃c,x=.bl c/\Q c H1
theorem aDi{op:CmpOp}{t:TE}(h:PC X op a b t)(h1:behindInMarks op b=false:=by first | exact aEn _ (by decide) (by decide) | rfl):PT X (.Compare a [op] [b] pos) (tB t):=by
 intro Aa s σ H Q I hw
 refine wpAny_isTrue_Compare1 (dN (h Aa s σ H _ I hw) λv s1 h1=>dN h1 λu s2 h2=>dN h2 λc s3 ⟨x,H1,I1,r1,q1⟩=>?_) h1
 obtain⟨d,rfl,q⟩:=q1
 cases r1
 exact wpAny_truthy_bool ⟨H1,I1,q⟩
theorem aQx{e:Expr}{t:TE}(h:PE X e t)(he:∀whole,isTrue e X.env whole=(do let v <-whole;standAt e.pos;holding [v] (truthy v)):=by intro _;rfl):PT X e (tB t):=by
 intro Aa s σ H Q I hw
 refine isTrue_plain (dN (h Aa s σ H _ I hw) λv s1 ⟨x,H1,I1,r1,q1⟩=>?_) (he _)
 obtain⟨d,rfl,q⟩:=q1
 cases r1
 exact wpAny_truthy_bool ⟨H1,I1,q⟩
variable{tA tB':TT}{rest:List Expr}
def bCi(t u:TT):TT:=λσ H Q=>t σ H λc H1=>if c=true then u σ H1 Q else Q false H1
def tOr(t u:TT):TT:=λσ H Q=>t σ H λc H1=>if c=true then Q true H1 else u σ H1 Q
def bCe(t:TT):TT:=λσ H Q=>t σ H λc H1=>Q (!c) H1
theorem aJd(ha:PT X a tA):PW X (.BoolOp .And [a] pos) tA:=by
 intro wh Aa s σ H Q I h
 refine isTrue_and (dN (ha Aa s σ H Q I h) λc s1 e=>?_)
 cases c with
 |true=>exact isTrue_and_nil e
 |false=>exact e
theorem aQv(ha:PT X a tA):PW X (.BoolOp .Or [a] pos) tA:=by
 intro wh Aa s σ H Q I h
 refine isTrue_or (dN (ha Aa s σ H Q I h) λc s1 e=>?_)
 cases c with
 |false=>exact isTrue_or_nil e
 |true=>exact e
theorem aQw(ha:PT X a tA)(hb:PW X (.BoolOp .And (b::rest) pos) tB'):PW X (.BoolOp .And (a::b::rest) pos) (bCi tA tB'):=by
 intro wh Aa s σ H Q I h
 refine isTrue_and (dN (ha Aa s σ H _ I h) λc s1 ⟨H1,I1,q1⟩=>?_)
 cases c with
 |true=>exact hb wh Aa s1 σ H1 Q I1 q1
 |false=>exact⟨H1,I1,q1⟩
theorem aXn(ha:PT X a tA)(hb:PW X (.BoolOp .Or (b::rest) pos) tB'):PW X (.BoolOp .Or (a::b::rest) pos) (tOr tA tB'):=by
 intro wh Aa s σ H Q I h
 refine isTrue_or (dN (ha Aa s σ H _ I h) λc s1 ⟨H1,I1,q1⟩=>?_)
 cases c with
 |true=>exact⟨H1,I1,q1⟩
 |false=>exact hb wh Aa s1 σ H1 Q I1 q1
theorem aQy(ha:PT X a tA):PT X (.UnaryOp .Not a pos) (bCe tA):=by
 intro Aa s σ H Q I h
 exact isTrue_not (ha Aa s σ H (λc H1=>Q (!c) H1) I h)
def aWw(ta tb:TE):TE:=λσ H Q=>ta σ H λx H1=>∃c,x=.bl c/\if c=true then tb σ H1 Q else Q (.bl false) H1
def bCd(ta tb:TE):TE:=λσ H Q=>ta σ H λx H1=>∃c,x=.bl c/\if c=true then Q (.bl true) H1 else tb σ H1 Q
def aWp(ta:TE):TE:=λσ H Q=>ta σ H λx H1=>∃c,x=.bl c/\Q (.bl (!c)) H1
theorem aRg{op}{t:TE}(h:PE X a t):PE X (.BoolOp op [a] pos) t:=λAa s σ H Q I hw=>BoolOp_one (h Aa s σ H Q I hw)
theorem aRm(ha:PE X a ta)(hb:PE X (.BoolOp .And (b::rest) pos) tb):PE X (.BoolOp .And (a::b::rest) pos) (aWw ta tb):=by
 intro Aa s σ H Q I h
 refine BoolOp_and (dN (ha Aa s σ H _ I h) λv s1 ⟨x,H1,I1,r1,q1⟩=>?_)
 obtain⟨c,rfl,q1⟩:=q1
 cases r1
 refine wpAny_truthy_bool ?_
 cases c with
 |true=>exact hb Aa s1 σ H1 Q I1 q1
 |false=>exact⟨.bl false,H1,I1,rfl,q1⟩
theorem aXr(ha:PE X a ta)(hb:PE X (.BoolOp .Or (b::rest) pos) tb):PE X (.BoolOp .Or (a::b::rest) pos) (bCd ta tb):=by
 intro Aa s σ H Q I h
 refine BoolOp_or (dN (ha Aa s σ H _ I h) λv s1 ⟨x,H1,I1,r1,q1⟩=>?_)
 obtain⟨c,rfl,q1⟩:=q1
 cases r1
 refine wpAny_truthy_bool ?_
 cases c with
 |false=>exact hb Aa s1 σ H1 Q I1 q1
 |true=>exact⟨.bl true,H1,I1,rfl,q1⟩
theorem aRh(ha:PE X a ta):PE X (.UnaryOp .Not a pos) (aWp ta):=by
 intro Aa s σ H Q I h
 refine UnaryOp_ (dN (ha Aa s σ H _ I h) λv s1 ⟨x,H1,I1,r1,q1⟩=>?_)
 obtain⟨c,rfl,q1⟩:=q1
 cases r1
 exact not_of (wpAny_truthy_bool ⟨.bl (!c),H1,I1,rfl,q1⟩)
end
def SqL(K:dA)(H:Hp)(a:Addr)(xs:List V):Prop:=
 Rd H a (.lst xs) \/
  ∃(o:Obj) (its:Array Value) (n:Nat),K.lookup a=some o/\o.cls=.type "list" /\ o.dict=none/\o.data=.seq its n/\its.size<=sizeLine/\Vals xs its.toList
def SqT(K:dA)(H:Hp)(a:Addr)(xs:List V):Prop:=
 Rd H a (.tup xs) \/
  ∃(o:Obj) (its:Array Value) (n:Nat),K.lookup a=some o/\o.cls=.type "tuple" /\ o.data=.seq its n/\its.size<=sizeLine/\Vals xs its.toList
theorem RelV.abs{x:V}{u:Value}(r:RelV x u):aGz u=some x:=by
 cases x with
 |non=>cases r;rfl
 |bl _=>cases r;rfl
 |int _=>obtain⟨t,rfl⟩:=r;rfl
 |str _=>obtain⟨t,rfl⟩:=r;rfl
 |byt _=>obtain⟨t,rfl⟩:=r;rfl
 |flt _=>obtain⟨t,rfl⟩:=r;rfl
 |ref _=>cases r;rfl
 |ty _=>cases r;rfl
theorem RelV.inj{x y:V}{u:Value}(r:RelV x u)(q:RelV y u):x=y:=ozI (r.abs.symm.trans q.abs)
theorem Vals.inj:∀{xs ys:List V} {us:List Value},Vals xs us->Vals ys us->xs=ys
 |_,_,_,.nil,.nil=>rfl
 |_,_,_,.cons r t,.cons r' t'=>by rw[r.inj r',Vals.inj t t']
section
variable{X:Cx}{Aa:eL}{σ:St}{H:Hp}{s:Shared}{a:Addr}{xs ys:List V}
theorem SqL.of{K:dA}(h:H a=some (.lst xs)):SqL K H a xs:=.inl (.inl h)
theorem SqT.of{K:dA}(h:H a=some (.tup xs)):SqT K H a xs:=.inl (.inl h)
theorem Inv.list(I:Inv X Aa σ H s)(h:SqL X.K H a xs):∃its:List Value,Vals xs its/\PlainL s.heap a its.toArray/\xs.length<=sizeLine:=by
 rcases h with h | ⟨o,its,n,hk,hc,hd,hs,hz,r⟩
 ·obtain ⟨z,its,n,r,e⟩:=h.ok I.hok
  exact⟨its,r,⟨_,n,e,rfl,rfl,rfl⟩,z⟩
 ·refine ⟨its.toList,r,⟨o,n,I.kIn a o hk,hc,hd,by simpa using hs⟩,?_⟩
  have e:=r.length
  simp only[Array.length_toList]at e
  omega
theorem Inv.tuple(I:Inv X Aa σ H s)(h:SqT X.K H a xs):∃its:List Value,Vals xs its/\IsTup s.heap a its.toArray/\xs.length<=sizeLine:=by
 rcases h with h | ⟨o,its,n,hk,hc,hs,hz,r⟩
 ·obtain ⟨z,its,r,p⟩:=h.ok I.hok
  exact⟨its,r,p,z⟩
 ·refine ⟨its.toList,r,⟨o,I.kIn a o hk,hc,n,by simpa using hs⟩,?_⟩
  have e:=r.length
  simp only[Array.length_toList]at e
  omega
theorem Inv.list_inj(I:Inv X Aa σ H s)(h:SqL X.K H a xs)(h':SqL X.K H a ys):xs=ys:=by
 obtain⟨its,r,⟨o,n,e,_,_,d⟩,_⟩:=I.list h
 obtain⟨its',r',⟨o',n',e',_,_,d'⟩,_⟩:=I.list h'
 rw[e]at e';cases e'
 rw[d]at d'
 injection d' with d1 _
 have:its=its':=by simpa using congrArg Array.toList d1
 subst this
 exact r.inj r'
end
abbrev Cx.wish(X:Cx)(E:gV):Cx:={ X with xe:=E }
abbrev Cx.nox(X:Cx):Cx:=X.wish λ_ _=>False
theorem Cx.Ok.wish{X:Cx}(ok:X.Ok)(E:gV):(X.wish E).Ok:=
 ⟨ok.mod,ok.kind,ok.glob,ok.blt,ok.above,ok.inj,ok.has,ok.cab,ok.hd,ok.frames,ok.stk,ok.exf,ok.bs,ok.bsz,ok.noex,ok.exfs,ok.funs,ok.frf⟩
theorem Cx.Ok.unwish{X:Cx}{E:gV}(ok:(X.wish E).Ok):X.Ok:=
 ⟨ok.mod,ok.kind,ok.glob,ok.blt,ok.above,ok.inj,ok.has,ok.cab,ok.hd,ok.frames,ok.stk,ok.exf,ok.bs,ok.bsz,ok.noex,ok.exfs,ok.funs,ok.frf⟩
section
variable{X:Cx}{Aa:eL}{σ:St}{H:Hp}{s:Shared}{E:gV}
theorem Inv.wish(I:Inv X Aa σ H s)(E:gV):Inv (X.wish E) Aa σ H s:=⟨I.ok.wish E,I.os,I.bare,I.base,I.loc,I.cell,I.free,I.freeC,I.pin,I.hok,I.len⟩
theorem Inv.unwish(I:Inv (X.wish E) Aa σ H s):Inv X Aa σ H s:=⟨I.ok.unwish,I.os,I.bare,I.base,I.loc,I.cell,I.free,I.freeC,I.pin,I.hok,I.len⟩
theorem SP.unwish{D:Ends}{f:Flow}{s':Shared}(h:SP (X.wish E) Aa D f s'):SP X Aa D f s':=by
 cases f with
 |next=>obtain⟨σ',H',I,q⟩:=h;exact⟨σ',H',I.unwish,q⟩
 |brk=>obtain⟨σ',H',I,q⟩:=h;exact⟨σ',H',I.unwish,q⟩
 |cont=>obtain⟨σ',H',I,q⟩:=h;exact⟨σ',H',I.unwish,q⟩
 |ret u=>obtain⟨v,σ',H',I,r,q⟩:=h;exact⟨v,σ',H',I.unwish,r,q⟩
theorem PSs.nox{st:List Stmt}{t:TS}(h:PSs X.nox st t):PSs X st t:=λAa s σ H D I hw =>
 wpAny_mono (h Aa s σ H D (I.wish _) hw) (λ_ _ q=>q.unwish) λ_ _ z=>False.elim z
end
section
variable{X:Cx}{st:Stmt}{rest:List Stmt}{t u:TS}{e:Expr}{te:TE}{pos:Pos}
def aWr:TS:=λD σ H=>D.nx σ H
def bCc(t u:TS):TS:=λD σ H=>t { D with nx:=u D } σ H
theorem aJe:PSs X [] aWr:=λ_ _ σ H _ I h=>wpAny_execs_nil ⟨σ,H,I,h⟩
theorem aDl(h1:PS X st t)(h2:PSs X rest u):PSs X (st::rest) (bCc t u):=by
 intro Aa s σ H D I h
 refine wpAny_execs_cons (dN (h1 Aa s σ H { D with nx:=u D } I h) λf s1 q=>?_)
 cases f with
 |next =>
  obtain⟨σ',H',I',q⟩:=q
  exact h2 Aa s1 σ' H' D I' q
 |ret v=>exact q
 |brk=>exact q
 |cont=>exact q
theorem d_(h1:PS X st t):PSs X [st] t:=by
 intro Aa s σ H D I h
 refine wpAny_execs_cons (dN (h1 Aa s σ H D I h) λf s1 q=>?_)
 cases f with
 |next=>exact wpAny_execs_nil q
 |ret v=>exact q
 |brk=>exact q
 |cont=>exact q
theorem Inv.quiet{Aa:eL}{σ:St}{H:Hp}{s:Shared}(I:Inv X Aa σ H s):interactive X.env=false:=by simp[interactive,I.ok.kind]
def aNu(te:TE):TS:=λD σ H=>te σ H λ_ H1=>D.nx σ H1
theorem fz_(he:PE X e te)(hs:swapsWith e none pos.line X.env=pure false:=by rfl):PS X (.Expr e pos) (aNu te):=by
 intro Aa s σ H D I h
 exact wpAny_Expr_any (dN (he Aa s σ H _ I h) λv s1 ⟨x,H1,I1,r1,q1⟩=>⟨σ,H1,I1,q1⟩) I.quiet hs
def aWm(te:TE):TS:=λD σ H=>te σ H D.rt
theorem aQz(he:PE X e te):PS X (.Return (some e) pos) (aWm te):=by
 intro Aa s σ H D I h
 exact wpAny_Return_some (dN (he Aa s σ H _ I h) λv s1 ⟨x,H1,I1,r1,q1⟩=>⟨x,σ,H1,I1,r1,q1⟩)
def aWt(c:TT)(t u:TS):TS:=λD σ H=>c σ H λb H1=>if b=true then t D σ H1 else u D σ H1
theorem aXo{c:Expr}{a b:List Stmt}{tc:TT}(hc:PT X c tc)(ha:PSs X a t)(hb:PSs X b u):PS X (.If c a b pos) (aWt tc t u):=by
 intro Aa s σ H D I h
 refine wpAny_If (dN (hc Aa s σ H _ I h) λd s1 ⟨H1,I1,q1⟩=>?_)
 cases d with
 |true=>exact ha Aa s1 σ H1 D I1 q1
 |false=>exact hb Aa s1 σ H1 D I1 q1
def aQf:TS:=λ_ _ _=>False
theorem t7{sts:List Stmt}:PSs X sts aQf:=λ_ _ _ _ _ _ h=>h.elim
end
abbrev TG:=V->St->Hp->(St->Hp->Prop)->Prop
abbrev TGs:=List V->St->Hp->(St->Hp->Prop)->Prop
def PG(X:Cx)(target:Expr)(t:TG):Prop:=
 ∀(Aa:eL) (s:Shared) (σ:St) (H:Hp) (v:V) (u:Value) (Q:St->Hp->Prop),Inv X Aa σ H s->RelV v u->t v σ H Q ->
  wpAny (model X.prog X.w) X.A (assign target X.env u) (λ_ s'=>∃σ' H',Inv X Aa σ' H' s'/\Q σ' H') X.xe s
def PGs(X:Cx)(ts:List Expr)(t:TGs):Prop:=
 ∀(Aa:eL) (s:Shared) (σ:St) (H:Hp) (vs:List V) (us:List Value) (Q:St->Hp->Prop),Inv X Aa σ H s->Vals vs us->t vs σ H Q ->
  wpAny (model X.prog X.w) X.A (assignInOrder ((assignEach ts X.env).map (·.2)) us) (λ_ s'=>∃σ' H',Inv X Aa σ' H' s'/\Q σ' H') X.xe s
abbrev aUw:=V->V->V->Hp->(Hp->Prop)->Prop
def bAj(X:Cx)(t:aUw):Prop:=
 ∀(Aa:eL) (s:Shared) (σ:St) (H:Hp) (o i v:V) (ov iv u:Value) (Q:Hp->Prop),Inv X Aa σ H s->RelV o ov->RelV i iv->RelV v u->t o i v H Q ->
  wpAny (model X.prog X.w) X.A (setItem ov iv u) (λ_ s'=>∃H',Inv X Aa σ H' s'/\Q H') X.xe s
section
variable{X:Cx}{pos:Pos}
def jN(i:Nat):TG:=λv σ H Q=>Q (σ.set i (some v)) H
theorem jP{i:Nat}{x:Str}(hN:X.N.Nodup)(hi:X.N[i]? = some x)(hx:Loc X.env.scope x)(hf:X.fn x=true\/X.env.scope.names.lookup x=some .local:=by first | exact .inl rfl | exact .inr rfl | assumption):PG X (.Name x pos) (jN i):=by
 intro Aa s σ H v u Q I r h
 exact wpAny_assign_Name (vL I hN hi hx r (λs' I'=>⟨_,H,I',h⟩) hf)
def aMc:TGs:=λvs σ H Q=>vs=[]/\Q σ H
def j9(t:TG)(u:TGs):TGs:=λvs σ H Q=>∃v r,vs=v::r/\t v σ H λσ' H'=>u r σ' H' Q
theorem hb_:PGs X [] aMc:=by
 intro Aa s σ H vs us Q I r h
 obtain⟨e,h⟩:=h
 subst e
 cases r
 exact assignInOrder_nil ⟨σ,H,I,h⟩
theorem zI{e:Expr}{es:List Expr}{t:TG}{u:TGs}(h1:PG X e t)(h2:PGs X es u)
  (hs:(assignEach (e::es) X.env).map (·.2)=assign e X.env::(assignEach es X.env).map (·.2):=by rfl):PGs X (e::es) (j9 t u):=by
 intro Aa s σ H vs us Q I r h
 obtain⟨v,vr,e1,h⟩:=h
 subst e1
 cases r with
 |cons r rr =>
  rw[hs]
  refine assignInOrder_cons (dN (h1 Aa s σ H _ _ _ I r h) λ_ s1 ⟨σ1,H1,I1,q1⟩=>?_)
  exact h2 Aa s1 σ1 H1 _ _ Q I1 rr q1
def aMa(K:dA)(n:Nat)(t:TGs):TG:=λv σ H Q=>∃a xs,v=.ref a/\SqT K H a xs/\xs.length=n/\t xs σ H Q
theorem lM{es:List Expr}{k:Nat}{t:TGs}{n:Nat}(hc:X.calm=true)(h:PGs X es t)
  (hn:(assignEach es X.env).length=n:=by rfl) (Cf:(assignEach es X.env).findIdx? (·.1)=none:=by rfl):PG X (.Tuple es k pos) (aMa X.K n t):=by
 intro Aa s σ H v u Q I r hw
 obtain⟨a,xs,e1,hq,hl,hw⟩:=hw
 subst e1
 cases r
 obtain⟨its,rv,ht,hz⟩:=I.tuple hq
 refine assign_Tuple_tuple (I.ok.hd hc) ht (by simp[hn,<-hl,rv.length]) Cf λh' hx=>?_
 have I1:Inv X Aa σ H { s with heap:=h' }:=I.kept (t':=s.toks) λb o e=>hx b o (cH (bH e)) e
 exact h Aa _ σ H xs _ Q I1 (by simpa using rv) hw
def aZe(to ti:TE)(t:aUw):TG:=λv σ H Q=>to σ H λo H1=>ti σ H1 λi H2=>t o i v H2 λH3=>Q σ H3
theorem aRe{o i:Expr}{to ti:TE}{t:aUw}(ho:PE X o to)(hi:PE X i ti)(hs:bAj X t)
  (ha:∀ v,assign (.Subscript o i pos) X.env v=(do
   let ov <-holding [v] (eval o X.env)
   let iv <-holding [v,ov] (eval i X.env)
   standAt pos
   holding [v,ov,iv] (setItem ov iv v)
   release [v,ov,iv] []):=by intro _;rfl):PG X (.Subscript o i pos) (aZe to ti t):=by
 intro Aa s σ H v u Q I r h
 rw[ha]
 refine wpAny_bind (wpAny_holding (dN (ho Aa s σ H _ I h) λov s1 ⟨x,H1,I1,r1,q1⟩=>?_))
 refine wpAny_bind (wpAny_holding (dN (hi Aa s1 σ H1 _ I1 q1) λiv s2 ⟨y,H2,I2,r2,q2⟩=>?_))
 refine wpAny_bind (wpAny_standAt (wpAny_bind (wpAny_holding (dN (hs Aa s2 σ H2 x y v ov iv u _ I2 r1 r2 r q2) λ_ s3 ⟨H3,I3,q3⟩=>?_))))
 exact wpAny_release ⟨σ,H3,I3,q3⟩
def vJ(te:TE)(g:TG):TS:=λD σ H=>te σ H λx H1=>g x σ H1 D.nx
theorem oV{tg e:Expr}{te:TE}{g:TG}(he:PE X e te)(hg:PG X tg g)(hs:swapsWithSole [tg] e pos.line X.env=pure false:=by rfl)(hw:swappedStores [tg] e X.env=pure none:=by rfl)
  (h1:(assignEach [tg] X.env).map (·.2)=[assign tg X.env]:=by rfl):PS X (.Assign [tg] e pos) (vJ te g):=by
 intro Aa s σ H D I h
 refine wpAny_Assign_stores (dN (he Aa s σ H _ I h) λv s1 ⟨x,H1,I1,r1,q1⟩=>?_) hs hw
 rw[h1]
 exact dN (hg Aa s1 σ H1 x v _ I1 r1 q1) λ_ s2 q=>q
theorem o4{i:Nat}{x:Str}{e:Expr}{te:TE}{pos':Pos}(hN:X.N.Nodup)(hi:X.N[i]? = some x)(hx:Loc X.env.scope x)(he:PE X e te)(hs:swapsWith e (some (.Name x pos')) pos.line X.env=pure false:=by rfl)(hf:X.fn x=true\/X.env.scope.names.lookup x=some .local:=by first | exact .inl rfl | exact .inr rfl | assumption) :
  PS X (.Assign [.Name x pos'] e pos) (vJ te (jN i)):=by
 intro Aa s σ H D I h
 refine wpAny_Assign_Name (dN (he Aa s σ H _ I h) λv s1 ⟨y,H1,I1,r1,q1⟩=>?_) hs
 exact vL I1 hN hi hx r1 (λs2 I2=>⟨_,H1,I2,q1⟩) hf
end
section
variable{X:Cx}{pos:Pos}
def aQd(c:TT)(tb:TS):TS:=λD σ H=>∃W:Nat->St->Hp->Prop,(∃m,W m σ H)/\∀m σ H,W m σ H ->
 c σ H λb H1=>if b=true then ∃N:St->Hp->Prop,(∀σ' H',N σ' H'->∃m',m'<m/\W m' σ' H')/\tb { D with nx:=N,ct:=N,bk:=D.nx } σ H1 else D.nx σ H1
theorem aDm{c:Expr}{body:List Stmt}{tc:TT}{tb:TS}(hp:PassesOwn (model X.prog X.w) X.A X.env X.xe)(hc:PT X c tc)(hb:PSs X body tb):PS X (.While c body [] pos) (aQd tc tb):=by
 intro Aa s σ H D I h
 obtain⟨W,⟨m0,w0⟩,turn⟩:=h
 refine wpAny_While (codeAny_whileLoop (λn s'=>∃σ' H',Inv X Aa σ' H' s'/\W n σ' H') ?_ m0 ⟨σ,H,I,w0⟩)
 rintro n s1 ⟨σ1,H1,I1,w1⟩
 refine wpAny_passesOwn hp (dN (hc Aa s1 σ1 H1 _ I1 (turn n σ1 H1 w1)) λb s2 ⟨H2,I2,q2⟩=>?_)
 cases b with
 |true =>
  obtain⟨N,hN,q2⟩:=q2
  rw[if_pos rfl]
  refine wpAny_passesOwn hp (dN (hb Aa s2 σ1 H2 _ I2 q2) λf s3 q3=>?_)
  cases f with
  |next =>
   obtain⟨σ3,H3,I3,n3⟩:=q3
   obtain⟨m',hm,w3⟩:=hN σ3 H3 n3
   exact⟨m',hm,σ3,H3,I3,w3⟩
  |cont =>
   obtain⟨σ3,H3,I3,n3⟩:=q3
   obtain⟨m',hm,w3⟩:=hN σ3 H3 n3
   exact⟨m',hm,σ3,H3,I3,w3⟩
  |brk=>exact q3
  |ret v=>exact q3
 |false =>
  rw[if_neg aW]
  exact wpAny_execs_nil ⟨σ1,H2,I2,q2⟩
end
structure It where
 go:Nat->Hp->Prop
 yld:Nat->Hp->V->Hp->Prop
 stop:Nat->Hp->Prop
def qH(X:Cx)(Aa:eL)(H:Hp)(b:Addr):Prop:=
 H b=none/\b≠X.env.locals/\b∉X.fs/\(b∈X.ex\/X.s₀.heap.objs.size<=b)/\(∀x c,X.env.cells.lookup x=some c->c≠b)/\∀p∈X.pn++Aa,p.1≠b
theorem Inv.fpOk{X:Cx}{Aa:eL}{σ:St}{H H':Hp}{s:Shared}{b:Addr}(I:Inv X Aa σ H s)(hb:s.heap.objs.size<=b)(hn:H' b=none):qH X Aa H' b:=by
 refine⟨hn,Nat.ne_of_gt (bR I.lt hb),I.nofs hb,.inr (nzL I.sz hb),λx c e z=>?_,λp hp z=>?_⟩
 ·obtain ⟨v,q⟩:=I.cell x c e
  exact absurd (bR q.lt (by rw[z];exact hb)) (eE _)
 ·exact absurd (bR (bH (I.pin p hp).1) (by rw[z];exact hb)) (eE _)
structure Turn(P:Program)(w:World)(K:dA)(tg:Expr)(J:It)(fp:List Addr)(it:Addr)(tn:Nat->Heap->Prop):Prop where
 mem:it∈fp
 obj:∀i h,tn i h->∀b∈fp,∃o,h.get? b=some o/\∀v,o.data ≠ .cell v
 keep:∀i h h',tn i h->(∀b∈fp,∀o,h.get? b=some o->h'.get? b=some o)->tn i h'
 item:∀(X:Cx),X.prog=P->X.w=w->X.K=K->X.calm=true->∀(i:Nat) (Aa:eL) (s:Shared) (σ:St) (H:Hp) (E:gV),Inv X Aa σ H s->(∀b∈fp,qH X Aa H b)->tn i s.heap->J.go i H ->
  wpAny (model P w) X.A (pyNext (.ref it)) (λr s1=>∃u,r=some u /\
   wpAny (model P w) X.A (letOwnedTupleGo tg (.ref it) u) (λ_ s2=>∃x H',Inv X Aa σ H' s2/\RelV x u/\J.yld i H x H'/\tn (i+1) s2.heap/\∀b∈fp,H' b=none) E s1) E s
 done:∀(X:Cx),X.prog=P->X.w=w->X.K=K->X.calm=true->∀(i:Nat) (Aa:eL) (s:Shared) (σ:St) (H:Hp) (E:gV),Inv X Aa σ H s->(∀b∈fp,qH X Aa H b)->tn i s.heap->J.stop i H ->
  wpAny (model P w) X.A (pyNext (.ref it)) (λr s1=>r=none/\Inv X Aa σ H s1) E s
 self:∀(A:Around) (i:Nat) (s:Shared) (Q:gV) (E:gV),tn i s.heap->Q (.ref it) s->wpAny (model P w) A (pyIter (.ref it)) Q E s
abbrev TI:=St->Hp->(It->Hp->Prop)->Prop
def PIE(X:Cx)(Aa:eL)(σ:St)(tg:Expr)(R:It->Hp->Prop)(itv:Value)(s2:Shared):Prop:=
 ∃(it:Addr) (fp:List Addr) (tn:Nat->Heap->Prop) (J:It) (H':Hp),itv=.ref it/\Inv X Aa σ H' s2/\Turn X.prog X.w X.K tg J fp it tn/\tn 0 s2.heap/\(∀b∈fp,qH X Aa H' b)/\R J H'
def PI(X:Cx)(tg iter:Expr)(wi:TI):Prop:=
 ∀(Aa:eL) (s:Shared) (σ:St) (H:Hp) (R:It->Hp->Prop),Inv X Aa σ H s->wi σ H R ->
  wpAny (model X.prog X.w) X.A (eval iter X.env) (λv s1=>wpAny (model X.prog X.w) X.A (pyIter v) (PIE X Aa σ tg R) X.xe s1) X.xe s
theorem j8{M:Model}{A:Around}{E:gV}{s:Shared}{tg:Expr}{it:Addr}{u:Value}{o:Obj}{n:String}{vs:Array Value}{Q:Unit->Shared->Prop}(ho:s.heap.get? it=some o)(hc:o.cls=.type n)(hd:o.data=.fields vs)
    (hn:["enumerate","zip","dict_itemiterator","dict_reverseitemiterator","odict_iterator","itertools.zip_longest","itertools.pairwise"].contains n=false) (hQ:Q () s):wpAny M A (letOwnedTupleGo tg (.ref it) u) Q E s:=by
  unfold letOwnedTupleGo
  cases tg<;>first
    |exact wpAny_pure hQ
    |(cases u<;>first
        |exact wpAny_pure hQ
        | (refine wpAny_bind (wpAny_load ho ?_)
           rw[hc,hd]
           show wpAny M A (if(["enumerate","zip","dict_itemiterator","dict_reverseitemiterator","odict_iterator","itertools.zip_longest","itertools.pairwise"].contains n&&vs[0]? == some (rawInt _))=true then _ else _) Q E s
           rw[if_neg (by intro h;rw[hn,cQ]at h;cases h)]
           exact wpAny_pure hQ))
def Itl(K:dA)(a:Addr):It:=
 ⟨λi H=>∃xs x,SqL K H a xs/\xs[i]? = some x,λi H x H'=>H'=H/\∀xs,SqL K H a xs->xs[i]? = some x,λi H=>∃xs,SqL K H a xs/\xs.length<=i⟩
def Itr(lo:Int)(n:Nat):It:=⟨λi _=>i<n,λi H x H'=>H'=H/\x=.int (lo+i),λi _=>n<=i⟩
theorem p_{P:Program}{w:World}{K:dA}{tg:Expr}(a it:Addr):Turn P w K tg (Itl K a) [it] it (λi h=>h.IsListIter it a i)where
 mem:=by simp
 obj:=λi h st b hb=>by
  have e:b=it:=by simpa using hb
  subst e
  obtain⟨o,e,c,d⟩:=st
  exact⟨o,e,λv z=>by rw[d]at z;cases z⟩
 keep:=λi h h' st k=>st.at λo e=>k it (by simp) o e
 item:=by
  intro X hP hw hK hc i Aa s σ H E I hf st hg
  subst hP hw hK
  obtain⟨xs,x,hq,hx⟩:=hg
  obtain⟨its,rv,p,hz⟩:=I.list hq
  obtain⟨u,hu,ru⟩:=rv.get hx
  obtain⟨f0,f1,f2,f3,f4,f5⟩:=hf it (by simp)
  refine wpAny_pyNext_list_item st p.isList (x:=u) (by simpa using hu) λh' st' sb=>?_
  have I1:Inv X Aa σ H { s with heap:=h' }:=I.turned (t':=s.toks) (λb o hb e=>(sb.2 b hb).trans e) f0 f1 f3 f4 f5
  obtain⟨o,e,c,d⟩:=id st'
  exact⟨u,rfl,j8 (s:={ s with heap:=h' }) e c d (by decide) ⟨x,H,I1,ru,⟨rfl,λys hy=>by rw[I.list_inj hy hq];exact hx⟩,st',λb hb=>(hf b hb).1⟩⟩
 done:=by
  intro X hP hw hK hc i Aa s σ H E I hf st hg
  subst hP hw hK
  obtain⟨xs,hq,hx⟩:=hg
  obtain⟨its,rv,p,hz⟩:=I.list hq
  obtain⟨f0,f1,f2,f3,f4,f5⟩:=hf it (by simp)
  have hl:=rv.length
  exact wpAny_pyNext_list_end (I.ok.hd hc) st p.isList (by simp;omega) λh' eb=>⟨rfl,I.turned (t':=s.toks) (λb o hb e=>eb b o hb e) f0 f1 f3 f4 f5⟩
 self:=λ_ _ _ _ _ st h=>wpAny_pyIter_listiter st h
theorem xT{P:Program}{w:World}{K:dA}{tg:Expr}(it:Addr)(lo:Int)(n:Nat):Turn P w K tg (Itr lo n) [it] it (λi h=>IsRangeIter h it (lo+(i:Nat)*1) ((n:Int)-(i:Nat)) 1)where
 mem:=by simp
 obj:=λi h st b hb=>by
  have e:b=it:=by simpa using hb
  subst e
  exact⟨_,st,λv z=>by
   have z':Data.fields _=Data.cell v:=z
   cases z'⟩
 keep:=λi h h' st k=>k it (by simp) _ st
 item:=by
  intro X hP hw hK hc i Aa s σ H E I hf st hg
  subst hP hw hK
  obtain⟨f0,f1,f2,f3,f4,f5⟩:=hf it (by simp)
  have W:=Walks.range (prog:=X.prog) (w:=X.w) (I.ok.hd hc) it lo 1 n
  refine W.item i s _ _ hg st λv h' tk hv st' kk=>?_
  obtain⟨t,rfl⟩:=hv
  have I1:Inv X Aa σ H { s with heap:=h',toks:=tk }:=I.turned (λb o hb e=>kk b o (by simpa using hb) e) f0 f1 f3 f4 f5
  refine⟨_,rfl,j8 (s:={ s with heap:=h',toks:=tk }) (n:= "range_iterator") st' rfl rfl (by decide) ⟨.int (lo+i),H,I1,⟨t,?_⟩,⟨rfl,rfl⟩,st',λb hb=>(hf b hb).1⟩⟩
  rw[Int.mul_one]
 done:=by
  intro X hP hw hK hc i Aa s σ H E I hf st hg
  subst hP hw hK
  obtain⟨f0,f1,f2,f3,f4,f5⟩:=hf it (by simp)
  exact wpAny_pyNext_range_end (I.ok.hd hc) st (by have:n<=i:=hg;omega) λh' eb=>⟨rfl,I.turned (t':=s.toks) (λb o hb e=>eb b o hb e) f0 f1 f3 f4 f5⟩
 self:=λ_ _ _ _ _ st h=>wpAny_pyIter_rangeiter st h
section
variable{X:Cx}{tg:Expr}
def aYr(K:dA)(tl:TE):TI:=λσ H R=>tl σ H λx H1=>∃a,x=.ref a/\(∃xs,SqL K H1 a xs)/\R (Itl K a) H1
theorem aJm{l:Expr}{tl:TE}(hl:PE X l tl):PI X tg l (aYr X.K tl):=by
 intro Aa s σ H R I h
 refine dN (hl Aa s σ H _ I h) λv s1 ⟨x,H1,I1,r1,q1⟩=>?_
 obtain⟨a,e,⟨xs,hq⟩,q⟩:=q1
 subst e
 cases r1
 obtain⟨its,rv,p,hz⟩:=I1.list hq
 refine wpAny_pyIter_list p.isList ?_
 refine⟨s1.heap.objs.size,[s1.heap.objs.size],_,_,H1,rfl,I1.kept (t':=s1.toks) λb o e=>aQ _ e,p_ a _,⟨_,bO _ rfl,rfl,rfl⟩,λb hb=>?_,q⟩
 have e:b=s1.heap.objs.size:=by simpa using hb
 subst e
 exact I1.fpOk (aV _) (I1.hok.fresh (aV _))
theorem aCw{Aa:eL}{σ:St}{H:Hp}{s:Shared}{R:It->Hp->Prop}{E:gV}{lo hi:Int}{t u v:Tok}{tk:Nat}(I:Inv X Aa σ H s)(h1 : -(2^62)<=lo)(h2:lo<2^62)(h3 : -(2^62)<=hi)(h4:hi<2^62)
  (q:R (Itr lo (hi-lo).toNat) H):wpAny (model X.prog X.w) X.A (pyIter (.ref s.heap.objs.size)) (PIE X Aa σ tg R) E { s with heap:=s.heap.push { cls:=.type "range",data:=.fields #[.int lo t,.int hi u,.int 1 v] },toks:=tk }:=by
 refine wpAny_pyIter_range (IsRange.new ..) (small_one h1 h2 h3 h4) ?_
 have I1:Inv X Aa σ H { s with heap:=s.heap.push { cls:=.type "range",data:=.fields #[.int lo t,.int hi u,.int 1 v] },toks:=tk }:=I.kept λb o e=>aQ _ e
 refine⟨(s.heap.push { cls:=.type "range",data:=.fields #[.int lo t,.int hi u,.int 1 v] }).objs.size,[(s.heap.push { cls:=.type "range",data:=.fields #[.int lo t,.int hi u,.int 1 v] }).objs.size],_,_,H,rfl,
  I1.kept (t':=tk) λb o e=>aQ _ e,xT _ lo (hi-lo).toNat,?_,λb hb=>?_,q⟩
 ·have e1:lo + ((0:Nat):Int) * 1=lo:=by simp
  have e2:(((hi-lo).toNat:Nat):Int)-((0:Nat):Int)=Builtin.Range.rangeSize lo hi 1:=by rw[rangeSize_one];split<;>omega
  show IsRangeIter _ _ (lo+((0:Nat):Int)*1) ((((hi-lo).toNat:Nat):Int)-((0:Nat):Int)) 1
  rw[e1,e2]
  exact bO _ rfl
 ·have e:b=(s.heap.push { cls:=.type "range",data:=.fields #[.int lo t,.int hi u,.int 1 v] }).objs.size:=by simpa using hb
  subst e
  exact I1.fpOk (aV _) (I1.hok.fresh (aV _))
def aYq(ta:TA):TI:=λσ H R=>ta σ H λvs H1=>∃j:Int,vs=[.int j] /\ -(2^62)<=j/\j<2^62/\R (Itr 0 j.toNat) H1
theorem t_{a:Expr}{ta:TA}{p pos:Pos}(hg:Gl X "range")(hm:X.mg "range" = none)(ha:PA X [a] ta)(hs:starEach [a] X.env=[(false,eval a X.env)]:=by rfl):PI X tg (.Call (.Name "range" p) [a] [] pos) (aYq ta):=by
 intro Aa s σ H R I h
 refine Call_ (pJ I hg hm boot_range (PyProof.Rows.callWith_type1 (dN (ha pos Aa s σ H _ I h) λus s1 ⟨vs,H1,I1,r1,q1⟩=>?_) hs rfl))
 obtain⟨j,e,q1,q2,q⟩:=q1
 subst e
 cases r1 with
 |cons r rr =>
  cases rr
  obtain⟨t,rfl⟩:=r
  exact call_range_1 (aCw I1 (by omega) (by omega) q1 q2 (by simpa using q))
def aWu(wi:TI)(g:TG)(tb:TS):TS:=λD σ H=>wi σ H λJ H1=>∃W:Nat->Nat->St->Hp->Prop,(∃m,W 0 m σ H1)/\∀i m σ H,W i m σ H ->
 (J.stop i H/\D.nx σ H)\/(J.go i H/\∃N:St->Hp->Prop,(∀σ' H',N σ' H'->∃m',m'<m/\W (i+1) m' σ' H')/\∀x H',J.yld i H x H'->g x σ H' λσ2 H2=>tb { D with nx:=N,ct:=N,bk:=D.nx } σ2 H2)
def oW(fp:List Addr)(h:Heap):List (Addr×Obj):=fp.filterMap λb=>(h.get? b).map λo=>(b,o)
theorem gi_{fp:List Addr}{h:Heap}{b:Addr}{o:Obj}(hb:b∈fp)(e:h.get? b=some o):(b,o)∈oW fp h:=List.mem_filterMap.mpr ⟨b,hb,by rw[e];rfl⟩
theorem u8{fp:List Addr}{h:Heap}{p:Addr×Obj}(hp:p∈oW fp h):p.1∈fp/\h.get? p.1=some p.2:=by
 obtain⟨b,hb,e⟩:=List.mem_filterMap.mp hp
 cases q:h.get? b with
 |none=>rw[q]at e;cases e
 |some o =>
  rw[q]at e
  have e':(b,o)=p:=ozI e
  subst e'
  exact⟨hb,q⟩
theorem Inv.pinned{Aa:eL}{σ:St}{H:Hp}{s:Shared}{fp:List Addr}(I:Inv X Aa σ H s)(hf:∀b∈fp,qH X Aa H b)(ho:∀b∈fp,∃o,s.heap.get? b=some o/\∀v,o.data ≠ .cell v):Inv X (Aa++oW fp s.heap) σ H s:=
 I.pins_of λp hp=>(bL.mp hp).elim (λz=>I.pin p (aJ _ z)) λz=>by
  obtain⟨hb,e⟩:=u8 z
  obtain⟨f0,f1,f2,_⟩:=hf p.1 hb
  obtain⟨o,e',d⟩:=ho p.1 hb
  rw[e]at e';cases e'
  exact⟨e,f0,f1,f2,d⟩
theorem Inv.unpinned{Aa pl:eL}{σ:St}{H:Hp}{s:Shared}(I:Inv X (Aa++pl) σ H s):Inv X Aa σ H s:=I.pins_of λp hp=>I.pin p (aJ _ (aX _ hp))
theorem aRb{iter:Expr}{body:List Stmt}{wi:TI}{g:TG}{tb:TS}{pos:Pos}(hp:PassesOwn (model X.prog X.w) X.A X.env X.xe)(hc:X.calm=true)(hi:PI X tg iter wi)(hg:PG X tg g)(hb:PSs X body tb)
  (hs:∀x,foldedSetIterable iter X.env x=pure x:=by intro _;rfl):PS X (.For tg iter body [] pos) (aWu wi g tb):=by
 intro Aa s σ H D I h
 refine wpAny_For (dN (hi Aa s σ H _ I h) λv s1 h1=>dN h1 λitv s2 h2=>?_) hs
 obtain⟨it,fp,tn,J,H2,e,I2,T,Gj,f2,W,⟨m0,w0⟩,turn⟩:=h2
 subst e
 have stat:∀{H':Hp},(∀b∈fp,H' b=none)->∀b∈fp,qH X Aa H' b:=λhn b hb=>⟨hn b hb,(f2 b hb).2⟩
 refine codeAny_forLoop_any (λn s'=>∃i σ' H',Inv X Aa σ' H' s'/\tn i s'.heap/\(∀b∈fp,H' b=none)/\W i n σ' H') ?_ m0 ⟨0,σ,H2,I2,Gj,λb hb=>(f2 b hb).1,w0⟩
 rintro n s3 ⟨i,σ3,H3,I3,st3,M6,w3⟩
 rcases turn i n σ3 H3 w3 with⟨stop,qn⟩ | ⟨go,N,hN,step⟩
 ·refine wpAny_passesOwn hp (dN (T.done X rfl rfl rfl hc i Aa s3 σ3 H3 X.xe I3 (stat M6) st3 stop) fun r s4 ⟨hr,I4⟩ => ?_)
  subst hr
  exact wpAny_execs_nil ⟨σ3,H3,I4,qn⟩
 ·refine wpAny_passesOwn hp (dN (T.item X rfl rfl rfl hc i Aa s3 σ3 H3 X.xe I3 (stat M6) st3 go) fun r s4 ⟨u,hr,h4⟩ => ?_)
  subst hr
  refine wpAny_passesOwn hp (dN h4 λ_ s5 ⟨x,H5,I5,r5,y5,Gi,L4⟩=>?_)
  have I5':=I5.pinned (stat L4) (T.obj _ _ Gi)
  refine wpAny_passesOwn hp (dN (hg _ s5 σ3 H5 x u _ I5' r5 (step x H5 y5)) λ_ s6 ⟨σ6,H6,I6,q6⟩=>?_)
  refine wpAny_passesOwn hp (dN (hb _ s6 σ6 H6 _ I6 q6) λf s7 q7=>?_)
  have again:∀{σ7:St} {H7:Hp},Inv X (Aa++oW fp s5.heap) σ7 H7 s7->N σ7 H7->∃m,m<n/\∃i σ' H',Inv X Aa σ' H' s7/\tn i s7.heap/\(∀b∈fp,H' b=none)/\W i m σ' H':=λ{σ7 H7} I7 n7=>by
   obtain⟨m',hm,w7⟩:=hN σ7 H7 n7
   refine⟨m',hm,i+1,σ7,H7,I7.unpinned,T.keep _ _ _ Gi λb hb o e=>(I7.pin (b,o) (aJ _ (aJ _ (gi_ hb e)))).1,λb hb=>?_,w7⟩
   obtain⟨o,e,d⟩:=T.obj _ _ Gi b hb
   exact(I7.pin (b,o) (aJ _ (aJ _ (gi_ hb e)))).2.1
  cases f with
  |next=>obtain⟨σ7,H7,I7,n7⟩:=q7;exact again I7 n7
  |cont=>obtain⟨σ7,H7,I7,n7⟩:=q7;exact again I7 n7
  |brk=>obtain⟨σ7,H7,I7,q7⟩:=q7;exact⟨σ7,H7,I7.unpinned,q7⟩
  |ret v=>obtain⟨x7,σ7,H7,I7,r7,q7⟩:=q7;exact⟨x7,σ7,H7,I7.unpinned,r7,q7⟩
end
abbrev R2:=V->V->Hp->VK->Prop
def OpR(X:Cx)(f:Value->Value->Sem Value)(r:R2):Prop:=
 ∀(Aa:eL) (s:Shared) (σ:St) (H:Hp) (x y:V) (v u:Value) (Q:VK),Inv X Aa σ H s->RelV x v->RelV y u->r x y H Q ->
  wpAny (model X.prog X.w) X.A (f v u) (EP X Aa σ Q) X.xe s
def UnR(X:Cx)(f:Value->Sem Value)(r:V->Hp->VK->Prop):Prop:=
 ∀(Aa:eL) (s:Shared) (σ:St) (H:Hp) (x:V) (v:Value) (Q:VK),Inv X Aa σ H s->RelV x v->r x H Q ->
  wpAny (model X.prog X.w) X.A (f v) (EP X Aa σ Q) X.xe s
def CallR(X:Cx)(f:Value)(r:List V->Hp->VK->Prop):Prop:=
 ∀(Aa:eL) (s:Shared) (σ:St) (H:Hp) (xs:List V) (us:List Value) (Q:VK),Inv X Aa σ H s->Vals xs us->r xs H Q ->
  wpAny (model X.prog X.w) X.A (call f us) (EP X Aa σ Q) X.xe s
def tOp(r:R2)(ta tb:TE):TE:=λσ H Q=>ta σ H λx H1=>tb σ H1 λy H2=>r x y H2 Q
def tUn(r:V->Hp->VK->Prop)(ta:TE):TE:=λσ H Q=>ta σ H λx H1=>r x H1 Q
def rI(C:Int->Int->Prop)(g:Int->Int->V):R2:=λx y H Q=>∃i j,x=.int i/\y=.int j/\C i j/\Q (g i j) H
def rI0(g:Int->Int->V):R2:=λx y H Q=>∃i j,x=.int i/\y=.int j/\Q (g i j) H
def rU(g:Int->V):V->Hp->VK->Prop:=λx H Q=>∃i,x=.int i/\Q (g i) H
section
variable{X:Cx}{a b c:Expr}{ta tb tc:TE}{pos:Pos}
theorem aUr(ha:PE X a ta)(hb:PE X b tb){Aa:eL}{s:Shared}{σ:St}{H:Hp}{R:V->V->Hp->Prop}(I:Inv X Aa σ H s)
  (h:ta σ H λx H1=>tb σ H1 λy H2=>R x y H2) {Q:gV} {f:Value->Value->Sem Value}
  (hf:∀v u s2 x y H2,Inv X Aa σ H2 s2->RelV x v->RelV y u->R x y H2->wpAny (model X.prog X.w) X.A (f v u) Q X.xe s2) :
  wpAny (model X.prog X.w) X.A (eval a X.env) (λv s₁=>wpAny (model X.prog X.w) X.A (eval b X.env) (λu s₂=>wpAny (model X.prog X.w) X.A (f v u) Q X.xe s₂) X.xe s₁) X.xe s:=by
 refine dN (ha Aa s σ H _ I h) λv s1 ⟨x,H1,I1,r1,q1⟩=>?_
 refine dN (hb Aa s1 σ H1 _ I1 q1) λu s2 ⟨y,H2,I2,r2,q2⟩=>?_
 exact hf v u s2 x y H2 I2 r1 r2 q2
theorem aXs{op:Operator}{r:R2}(ho:OpR X (binaryOp op) r)(ha:PE X a ta)(hb:PE X b tb):PE X (.BinOp a op b pos) (tOp r ta tb):=by
 intro Aa s σ H Q I h
 exact wpAny_BinOp (aUr ha hb I h λv u s2 x y H2 I2 rx ry q=>ho Aa s2 σ H2 x y v u Q I2 rx ry q)
theorem aDn{op:UnaryOp}{r:V->Hp->VK->Prop}(ho:UnR X (unaryOp op) r)(ha:PE X a ta):PE X (.UnaryOp op a pos) (tUn r ta):=by
 intro Aa s σ H Q I h
 exact UnaryOp_ (dN (ha Aa s σ H _ I h) λv s1 ⟨x,H1,I1,r1,q1⟩=>ho Aa s1 σ H1 x v Q I1 r1 q1)
theorem opI{f:Value->Value->Sem Value}{C:Int->Int->Prop}{g:Int->Int->Int}
  (rule:∀(i j:Int) (t u:Tok) (s:Shared) (Q:gV) (E:gV),C i j->Q (.int (g i j) s.toks) { s with toks:=s.toks+1 }->wpAny (model X.prog X.w) X.A (f (.int i t) (.int j u)) Q E s) :
  OpR X f (rI C λi j=>.int (g i j)):=by
 intro Aa s σ H x y v u Q I rx ry h
 obtain⟨i,j,rfl,rfl,hc,q⟩:=h
 obtain⟨t,rfl⟩:=rx
 obtain⟨t',rfl⟩:=ry
 exact rule i j t t' s _ _ hc ⟨.int (g i j),H,I.tok _,⟨_,rfl⟩,q⟩
theorem aXy{f:Value->Value->Sem Value}{g:Int->Int->Int}
  (rule:∀(i j:Int) (t u:Tok) (s:Shared) (Q:gV) (E:gV),Q (.int (g i j) s.toks) { s with toks:=s.toks+1 }->wpAny (model X.prog X.w) X.A (f (.int i t) (.int j u)) Q E s) :
  OpR X f (rI0 λi j=>.int (g i j)):=by
 intro Aa s σ H x y v u Q I rx ry h
 obtain⟨i,j,rfl,rfl,q⟩:=h
 obtain⟨t,rfl⟩:=rx
 obtain⟨t',rfl⟩:=ry
 exact rule i j t t' s _ _ ⟨.int (g i j),H,I.tok _,⟨_,rfl⟩,q⟩
theorem aJz{f:Value->Value->Sem Value}{g:Int->Int->Bool}
  (rule:∀(i j:Int) (t u:Tok) (s:Shared) (Q:gV) (E:gV),Q (.bool (g i j)) s->wpAny (model X.prog X.w) X.A (f (.int i t) (.int j u)) Q E s) :
  OpR X f (rI0 λi j=>.bl (g i j)):=by
 intro Aa s σ H x y v u Q I rx ry h
 obtain⟨i,j,rfl,rfl,q⟩:=h
 obtain⟨t,rfl⟩:=rx
 obtain⟨t',rfl⟩:=ry
 exact rule i j t t' s _ _ ⟨.bl (g i j),H,I,rfl,q⟩
def aVa(i j:Int):Prop:=0<=j/\j<=1000000/\i.natAbs<2^64
theorem aRw:OpR X (binaryOp .Add) (rI0 λi j=>.int (i+j)):=aXy λ_ _ _ _ _ _ _ q=>add_int q
theorem aRq:OpR X (binaryOp .Sub) (rI0 λi j=>.int (i-j)):=aXy λ_ _ _ _ _ _ _ q=>sub_int q
theorem aRt:OpR X (binaryOp .Mod) (rI (λ_ j=>0<j) λi j=>.int (i%j)):=opI λi j _ _ _ _ _ hc q=>by
 have h1:(0:Int)<j:=hc
 exact mod_int' (by omega) (by rw[Int.fmod_eq_emod_of_nonneg i (by omega)];exact q)
theorem aRs:OpR X (binaryOp .Pow) (rI aVa λi j=>.int (i^j.toNat)):=opI λ_ _ _ _ _ _ _ hc q=>pow_int_small hc.1 hc.2.1 hc.2.2 q
theorem unI{f:Value->Sem Value}{g:Int->Int}
  (rule:∀(i:Int) (t:Tok) (s:Shared) (Q:gV) (E:gV),Q (.int (g i) s.toks) { s with toks:=s.toks+1 }->wpAny (model X.prog X.w) X.A (f (.int i t)) Q E s) :
  UnR X f (rU λi=>.int (g i)):=by
 intro Aa s σ H x v Q I rx h
 obtain⟨i,rfl,q⟩:=h
 obtain⟨t,rfl⟩:=rx
 exact rule i t s _ _ ⟨.int (g i),H,I.tok _,⟨_,rfl⟩,q⟩
theorem xR:UnR X (unaryOp .USub) (rU λi=>.int (-i)):=unI λ_ _ _ _ _ q=>neg_int q
end
def aQp:V->V->Bool
 | .non,.non=>true | .non,.int _=>true | .int _,.non=>true | .non,.bl _=>true | .bl _,.non=>true | .non,.str _=>true | .str _,.non=>true
 | .int _,.int _=>true | .bl _,.bl _=>true | .str _,.str _=>true | .byt _,.byt _=>true
 | .int _,.str _=>true | .str _,.int _=>true | .bl _,.str _=>true | .str _,.bl _=>true
 |_,_=>false
def rEq:R2:=λx y H Q=>aQp x y=true/\Q (.bl (decide (x=y))) H
def rNe:R2:=λx y H Q=>aQp x y=true/\Q (.bl (!decide (x=y))) H
theorem m4{i j:Int}:decide (V.int i=V.int j)=(i == j):=by
 rw[cX]
 simp
theorem aGl{i j:Bool}:decide (V.bl i=V.bl j)=(i == j):=by
 rw[cX]
 simp
theorem m3{i j:Str}:decide (V.str i=V.str j)=(i == j):=by
 rw[cX]
 simp
theorem m5{i j:Array UInt8}:decide (V.byt i=V.byt j)=(i.toList == j.toList):=by
 rw[cX]
 cases i
 cases j
 simp
section
variable{X:Cx}{a b c:Expr}{ta tb tc:TE}{pos:Pos}
theorem jU{Aa:eL}{σ:St}{H:Hp}{s:Shared}{Q:VK}{k k':Bool}(I:Inv X Aa σ H s)(q:Q (.bl k) H)(e:k=k'):EP X Aa σ Q (.bool k') s:=by
 subst e
 exact⟨.bl k,H,I,rfl,q⟩
theorem aXx:OpR X (compareOp .Eq) rEq:=by
 intro Aa s σ H x y v u Q I rx ry h
 obtain⟨hs,q⟩:=h
 cases x with
 |non =>
  cases rx
  cases y with
  |non=>cases ry;exact PySem.EqNone.eq_none_none (jU I q (by simp))
  |bl j=>cases ry;exact PySem.EqNone.eq_none_bool (jU I q (by simp))
  |int j=>obtain⟨t',rfl⟩:=ry;exact PySem.EqNone.eq_none_int (jU I q (by simp))
  |str j=>obtain⟨t',rfl⟩:=ry;exact PySem.EqNone.eq_none_str (jU I q (by simp))
  |_=>exact absurd (show false=true from hs) aW
 |bl i =>
  cases rx
  cases y with
  |non=>cases ry;exact PySem.EqNone.eq_bool_none (jU I q (by simp))
  |bl j=>cases ry;exact eq_bool (jU I q aGl)
  |str j=>obtain⟨t',rfl⟩:=ry;exact PySem.EqMixed.eq_bool_str (jU I q (by simp))
  |_=>exact absurd (show false=true from hs) aW
 |int i =>
  obtain⟨t,rfl⟩:=rx
  cases y with
  |non=>cases ry;exact PySem.EqNone.eq_int_none (jU I q (by simp))
  |int j=>obtain⟨t',rfl⟩:=ry;exact eq_int (jU I q m4)
  |str j=>obtain⟨t',rfl⟩:=ry;exact PySem.EqMixed.eq_int_str (jU I q (by simp))
  |_=>exact absurd (show false=true from hs) aW
 |str i =>
  obtain⟨t,rfl⟩:=rx
  cases y with
  |non=>cases ry;exact PySem.EqNone.eq_str_none (jU I q (by simp))
  |bl j=>cases ry;exact PySem.EqMixed.eq_str_bool (jU I q (by simp))
  |int j=>obtain⟨t',rfl⟩:=ry;exact PySem.EqMixed.eq_str_int (jU I q (by simp))
  |str j=>obtain⟨t',rfl⟩:=ry;exact eq_str (jU I q m3)
  |_=>exact absurd (show false=true from hs) aW
 |byt i =>
  obtain⟨t,rfl⟩:=rx
  cases y with
  |byt j=>obtain⟨t',rfl⟩:=ry;exact PySem.W.eq_bytes (jU I q m5)
  |_=>exact absurd (show false=true from hs) aW
 |_=>cases y<;>exact absurd (show false=true from hs) aW
theorem aXw:OpR X (compareOp .NotEq) rNe:=by
 intro Aa s σ H x y v u Q I rx ry h
 obtain⟨hs,q⟩:=h
 cases x with
 |non =>
  cases rx
  cases y with
  |non=>cases ry;exact PySem.EqNone.ne_none_none (jU I q (by simp))
  |bl j=>cases ry;exact PySem.EqNone.ne_none_bool (jU I q (by simp))
  |int j=>obtain⟨t',rfl⟩:=ry;exact PySem.EqNone.ne_none_int (jU I q (by simp))
  |str j=>obtain⟨t',rfl⟩:=ry;exact PySem.EqNone.ne_none_str (jU I q (by simp))
  |_=>exact absurd (show false=true from hs) aW
 |bl i =>
  cases rx
  cases y with
  |non=>cases ry;exact PySem.EqNone.ne_bool_none (jU I q (by simp))
  |bl j=>cases ry;exact ne_bool (jU I q (congrArg not aGl))
  |str j=>obtain⟨t',rfl⟩:=ry;exact PySem.EqMixed.ne_bool_str (jU I q (by simp))
  |_=>exact absurd (show false=true from hs) aW
 |int i =>
  obtain⟨t,rfl⟩:=rx
  cases y with
  |non=>cases ry;exact PySem.EqNone.ne_int_none (jU I q (by simp))
  |int j=>obtain⟨t',rfl⟩:=ry;exact ne_int (jU I q (congrArg not m4))
  |str j=>obtain⟨t',rfl⟩:=ry;exact PySem.EqMixed.ne_int_str (jU I q (by simp))
  |_=>exact absurd (show false=true from hs) aW
 |str i =>
  obtain⟨t,rfl⟩:=rx
  cases y with
  |non=>cases ry;exact PySem.EqNone.ne_str_none (jU I q (by simp))
  |bl j=>cases ry;exact PySem.EqMixed.ne_str_bool (jU I q (by simp))
  |int j=>obtain⟨t',rfl⟩:=ry;exact PySem.EqMixed.ne_str_int (jU I q (by simp))
  |str j=>obtain⟨t',rfl⟩:=ry;exact ne_str (jU I q (congrArg not m3))
  |_=>exact absurd (show false=true from hs) aW
 |byt i =>
  obtain⟨t,rfl⟩:=rx
  cases y with
  |byt j=>obtain⟨t',rfl⟩:=ry;exact PySem.W.ne_bytes (jU I q (congrArg not m5))
  |_=>exact absurd (show false=true from hs) aW
 |_=>cases y<;>exact absurd (show false=true from hs) aW
theorem xJ:OpR X (compareOp .Lt) (rI0 λi j=>.bl (decide (i<j))):=aJz λ_ _ _ _ _ _ _ q=>lt_int q
theorem lU:OpR X (compareOp .LtE) (rI0 λi j=>.bl (decide (i<=j))):=aJz λ_ _ _ _ _ _ _ q=>le_int q
theorem ip_:OpR X (compareOp .Gt) (rI0 λi j=>.bl (decide (j<i))):=aJz λ_ _ _ _ _ _ _ q=>gt_int q
theorem aEd:OpR X (compareOp .GtE) (rI0 λi j=>.bl (decide (j<=i))):=aJz λ_ _ _ _ _ _ _ q=>ge_int q
theorem eq_:OpR X (compareOp .In) (λx y H Q=>∃i j,x=.str i/\y=.str j/\Q (.bl (!(Builtin.Str.occurrences j i 0 j.length 1).isEmpty)) H):=by
 intro Aa s σ H x y v u Q I rx ry h
 obtain⟨i,j,rfl,rfl,q⟩:=h
 obtain⟨t,rfl⟩:=rx
 obtain⟨t',rfl⟩:=ry
 exact in_str (jU I q rfl)
theorem pB:OpR X (compareOp .Is) (λx y H Q=>y=.non/\Q (.bl (decide (x=.non))) H):=by
 intro Aa s σ H x y v u Q I rx ry h
 obtain⟨rfl,q⟩:=h
 cases ry
 refine is_none_gen (jU I q ?_)
 cases x<;>first
  |(cases rx;rfl)
  |(obtain⟨t,rfl⟩:=rx;rfl)
theorem aJx:OpR X (compareOp .IsNot) (λx y H Q=>y=.non/\Q (.bl (!decide (x=.non))) H):=by
 intro Aa s σ H x y v u Q I rx ry h
 obtain⟨rfl,q⟩:=h
 cases ry
 refine isnot_none_gen (jU I q ?_)
 cases x<;>first
  |(cases rx;rfl)
  |(obtain⟨t,rfl⟩:=rx;rfl)
theorem ik_:OpR X (compareOp .NotIn) (λx y H Q=>∃i j,x=.str i/\y=.str j/\Q (.bl (!(!(Builtin.Str.occurrences j i 0 j.length 1).isEmpty))) H):=by
 intro Aa s σ H x y v u Q I rx ry h
 obtain⟨i,j,rfl,rfl,q⟩:=h
 obtain⟨t,rfl⟩:=rx
 obtain⟨t',rfl⟩:=ry
 exact notIn_str (jU I q rfl)
theorem OpR.or{f:Value->Value->Sem Value}{r r':R2}(h:OpR X f r)(h':OpR X f r'):OpR X f (λx y H Q=>r x y H Q\/r' x y H Q):=by
 intro Aa s σ H x y v u Q I rx ry q
 rcases q with q | q
 ·exact h Aa s σ H x y v u Q I rx ry q
 ·exact h' Aa s σ H x y v u Q I rx ry q
theorem bD(b:Expr){op:CmpOp}(h:op ≠ .In:=by decide)(h2:op ≠ .NotIn:=by decide):behindInMarks op b=false:=by
 have e1:(op == CmpOp.In)=false:=by cases op<;>first | rfl | exact absurd rfl h
 have e2:(op == CmpOp.NotIn)=false:=by cases op<;>first | rfl | exact absurd rfl h2
 cases b<;>simp[behindInMarks,e1,e2]
theorem e8{op:CmpOp}{r:R2}(ho:OpR X (compareOp op) r)(ha:PE X a ta)(hb:PE X b tb)(hm:behindInMarks op b=false):PE X (.Compare a [op] [b] pos) (tOp r ta tb):=by
 intro Aa s σ H Q I h
 exact wpAny_Compare1 (aUr ha hb I h λv u s2 x y H2 I2 rx ry q=>ho Aa s2 σ H2 x y v u Q I2 rx ry q) hm
def b3(t:TE):TT:=λσ H Q=>t σ H λx H'=>∃k,x=.bl k/\Q k H'
theorem tF{op:CmpOp}{r:R2}(ho:OpR X (compareOp op) r)(ha:PE X a ta)(hb:PE X b tb)(hm:behindInMarks op b=false):PT X (.Compare a [op] [b] pos) (b3 (tOp r ta tb)):=by
 intro Aa s σ H Q I h
 refine wpAny_isTrue_Compare1 (dN (ha Aa s σ H _ I h) λv s1 ⟨x,H1,I1,r1,q1⟩=>dN (hb Aa s1 σ H1 _ I1 q1) λu s2 ⟨y,H2,I2,r2,q2⟩ =>
  dN (ho Aa s2 σ H2 x y v u _ I2 r1 r2 q2) λc s3 ⟨z,H3,I3,r3,k,e,q3⟩=>?_) hm
 subst e
 cases r3
 exact wpAny_truthy_bool ⟨H3,I3,q3⟩
def xV(r r':R2)(ta tb tc:TE):TE:=λσ H Q=>ta σ H λx H1=>tb σ H1 λy H2=>r x y H2 λz H3=>∃k,z=.bl k /\
 (if k=true then tc σ H3 λw' H4=>r' y w' H4 Q else Q (.bl false) H3)
theorem aDt{op op':CmpOp}{r r':R2}(ho:OpR X (compareOp op) r)(Du:OpR X (compareOp op') r')(ha:PE X a ta)(hb:PE X b tb)(hc:PE X c tc)
  (hm:lastMarks [op,op'] [b,c]=false:=by with_unfolding_all rfl):PE X (.Compare a [op,op'] [b,c] pos) (xV r r' ta tb tc):=by
 intro Aa s σ H Q I h
 refine Compare_chain (dN (ha Aa s σ H _ I h) λv s1 ⟨x,H1,I1,r1,q1⟩=>chain_link (dN (hb Aa s1 σ H1 _ I1 q1) λu s2 ⟨y,H2,I2,r2,q2⟩ =>
  dN (ho Aa s2 σ H2 x y v u _ I2 r1 r2 q2) λd s3 ⟨z,H3,I3,r3,k,e,q3⟩=>?_)) hm
 subst e
 cases r3
 refine wpAny_truthy_bool ?_
 cases k with
 |false=>exact ite_ff ⟨.bl false,H3,I3,rfl,q3⟩
 |true=>exact ite_tt (chain_last (dN (hc Aa s3 σ H3 _ I3 q3) λw' s4 ⟨z',H4,I4,r4,q4⟩=>Du Aa s4 σ H4 y z' u w' Q I4 r2 r4 q4))
theorem aDj{op op':CmpOp}{r r':R2}(ho:OpR X (compareOp op) r)(Du:OpR X (compareOp op') r')(ha:PE X a ta)(hb:PE X b tb)(hc:PE X c tc)
  (hm:lastMarks [op,op'] [b,c]=false:=by with_unfolding_all rfl):PT X (.Compare a [op,op'] [b,c] pos) (b3 (xV r r' ta tb tc)):=by
 intro Aa s σ H Q I h
 refine isTrue_chain (dN (ha Aa s σ H _ I h) λv s1 ⟨x,H1,I1,r1,q1⟩=>test_link (dN (hb Aa s1 σ H1 _ I1 q1) λu s2 ⟨y,H2,I2,r2,q2⟩ =>
  dN (ho Aa s2 σ H2 x y v u _ I2 r1 r2 q2) λd s3 ⟨z,H3,I3,r3,k,e,q3⟩=>?_)) hm
 subst e
 cases r3
 refine wpAny_truthy_bool ?_
 cases k with
 |false =>
  obtain⟨k',e',q'⟩:=q3
  cases e'
  exact ite_ff ⟨H3,I3,q'⟩
 |true =>
  refine ite_tt (test_last (dN (hc Aa s3 σ H3 _ I3 q3) λw' s4 ⟨z',H4,I4,r4,q4⟩=>dN (Du Aa s4 σ H4 y z' u w' _ I4 r2 r4 q4) λd' s5 ⟨z2,H5,I5,r5,k2,e2,q5⟩=>?_))
  subst e2
  cases r5
  exact wpAny_truthy_bool ⟨H5,I5,q5⟩
theorem kL:(sizeLine:Nat)<2^63:=by rw[sizeLine_eq];decide
theorem yK:OpR X (binaryOp .Add) (λx y H Q=>∃i j,x=.str i/\y=.str j/\i.length+j.length<=sizeLine/\Q (.str (i++j)) H):=by
 intro Aa s σ H x y v u Q I rx ry h
 obtain⟨i,j,rfl,rfl,hz,q⟩:=h
 obtain⟨t,rfl⟩:=rx
 obtain⟨t',rfl⟩:=ry
 exact add_str (λt' tk=>⟨.str (i++j),H,I.tok _,⟨_,rfl⟩,q⟩) hz
theorem gO{x:V}{us:List Value}(r:Vals [x] us):∃u,us=[u]/\RelV x u:=by
 cases r with
 |cons r1 r2=>cases r2;exact⟨_,rfl,r1⟩
theorem qU{x y:V}{us:List Value}(r:Vals [x,y] us):∃u w',us=[u,w']/\RelV x u/\RelV y w':=by
 cases r with
 |cons r1 r2 =>
  cases r2 with
  |cons r3 r4=>cases r4;exact⟨_,_,rfl,r1,r3⟩
theorem rS(hc:X.calm=true):CallR X (.builtin "max") (λxs H Q=>∃i j,xs=[.int i,.int j]/\Q (.int (if j>i then j else i)) H):=by
 intro Aa s σ H xs us Q I r h
 obtain⟨i,j,rfl,q⟩:=h
 obtain⟨u,w',rfl,⟨t,rfl⟩,⟨t',rfl⟩⟩:=qU r
 refine max_two_ints (I.ok.hd hc) λh' tk k=>⟨_,H,I.kept k,?_,q⟩
 by_cases hj:j>i
 ·rw[if_pos hj,if_pos hj];exact⟨_,rfl⟩
 ·rw[if_neg hj,if_neg hj];exact⟨_,rfl⟩
theorem aAl(hc:X.calm=true):CallR X (.builtin "min") (λxs H Q=>∃i j,xs=[.int i,.int j]/\Q (.int (if j<i then j else i)) H):=by
 intro Aa s σ H xs us Q I r h
 obtain⟨i,j,rfl,q⟩:=h
 obtain⟨u,w',rfl,⟨t,rfl⟩,⟨t',rfl⟩⟩:=qU r
 refine min_two_ints (I.ok.hd hc) λh' tk k=>⟨_,H,I.kept k,?_,q⟩
 by_cases hj:j<i
 ·rw[if_pos hj,if_pos hj];exact⟨_,rfl⟩
 ·rw[if_neg hj,if_neg hj];exact⟨_,rfl⟩
theorem dv_:CallR X (.type "int") (λxs H Q=>(∃i,xs=[.int i]/\Q (.int i) H)\/∃k,xs=[.bl k]/\Q (.int (if k then 1 else 0)) H):=by
 intro Aa s σ H xs us Q I r h
 rcases h with⟨i,rfl,q⟩ | ⟨k,rfl,q⟩
 ·obtain ⟨u,rfl,t,rfl⟩:=gO r
  exact call_int_int ⟨.int i,H,I,⟨_,rfl⟩,q⟩
 ·obtain ⟨u,rfl,r1⟩:=gO r
  cases r1
  exact call_int_bool ⟨.int (if k then 1 else 0),H,I.tok _,⟨_,rfl⟩,q⟩
end
structure ObjM(h:Heap)(x dx C:Addr)(mA:kC):Prop where
 obj:h.get? x=some (PySem.W.instObj C dx)
 ns:h.Ns1 dx mA
 ne:dx≠x
theorem v6{h:Heap}{dx:Addr}{mA:kC}(n:h.Ns1 dx mA):∃od,h.get? dx=some od/\∀name,PySem.W.lookIn name od=some (mA name):=by
 obtain⟨o,es,ep,ho,hd,hk,_,hm⟩:=n
 refine⟨o,ho,λname=>?_⟩
 have e:=hm name
 unfold nsFind findBy at e
 rw[<-Array.find?_toList]at e
 unfold PySem.W.lookIn
 rw[hd]
 dsimp only
 split
 ·rename_i y q
  rw[q]at e
  exact congrArg some e
 ·rename_i q
  rw[q]at e
  have a:es.toList.any (·.refKey)=false:=by
   rw[List.any_eq_false]
   intro y hy
   obtain⟨z,t,K6⟩:=hk y (Array.mem_toList_iff.mp hy)
   simp[DictEntry.refKey,K6]
  have a':¬es.toList.any (·.refKey)=true:=by rw[a];exact aW
  rw[if_neg a']
  exact congrArg some e
theorem ObjM.look{h:Heap}{x dx C:Addr}{mA:kC}(I:ObjM h x dx C mA):∃od,PySem.W.InstAt h x (PySem.W.instObj C dx) C (some od)/\∀name,PySem.W.lookIn name od=some (mA name):=
 let ⟨od,ho,hl⟩:=v6 I.ns
 ⟨od,⟨I.obj,rfl,rfl,ho⟩,hl⟩
section
variable{prog:Program}{w:World}{A:Around}{E:gV}{s:Shared}{K:dA}{x dx C f:Addr}{mA:kC}{name:Str}{v:Value}
theorem aLz{expr:Bool}{Q:gV}(X:K.In s.heap)(I:ObjM s.heap x dx C mA)(hg:PySem.W.plainGet K C name=true)(hh:PySem.W.hasDictIn K C=true)
  (ha:PySem.W.findIn K (.ref C) name=some none) (hv:mA name=some v) (Be:PySem.W.handedIn v=true) (h:Q v { s with toks:=s.toks+1 }) :
  wpAny (model prog w) A (getAttr (.ref x) name expr) Q E s:=by
 obtain⟨od,J,hl⟩:=I.look
 exact PySem.W.get_value X J (PySem.W.plainGet_of hg).1 (PySem.W.findObj_own hh ha rfl (by rw[hl,hv])) Be h
theorem aFu{pl:Sem Bool}{Q:Value×List Value->Shared->Prop}(X:K.In s.heap)(I:ObjM s.heap x dx C mA)(hg:PySem.W.plainGet K C name=true)
  (hf:PySem.W.findIn K (.ref C) name=some (some (.ref f))) (ht:PySem.W.isFn K (.ref f)=true) (hv:mA name=none) (h:Q (.ref f,[.ref x]) s) :
  wpAny (model prog w) A (getMethod (.ref x) name pl) Q E s:=by
 obtain⟨od,J,hl⟩:=I.look
 exact PySem.W.method_fn X J (PySem.W.plainGet_of hg).1 (PySem.W.plainGet_of hg).2 hf (beq_iff_eq.mp ht) (by show(PySem.W.lookIn name od).map (·.isSome)=some false;rw[hl,hv];rfl) h
theorem aIy{ns:List Str}{Q:Unit->Shared->Prop}(X:K.In s.heap)(I:ObjM s.heap x dx C mA)
  (hs:PySem.W.findIn K (.ref C) "__setattr__" = some (some (.builtin "object.__setattr__"))) (hp:PySem.W.plainOver K C=true) (ht:PySem.W.takerIn K C name=some none) (hh:PySem.W.hasDictIn K C=true)
  (hw:PySem.Within mA ns) (hsz:ns.length<=sizeLine)
  (h:∀h',ObjM h' x dx C (λy=>if y=name then some v else mA y)->Heap.SameBut dx s.heap h'->Q () { s with heap:=h',toks:=s.toks+2 }) :
  wpAny (model prog w) A (setAttr (.ref x) name v) Q E s:=by
 obtain⟨od,J,hl⟩:=I.look
 refine PySem.W.set_plain X J hs (PySem.W.osa_open (s:={ s with toks:=s.toks+1 }) (r:=none) X J hp ht λb=>?_)
 obtain⟨cd,hc,Hr⟩:=PySem.W.any_some hh
 have hx:s.heap.get? x=some ⟨.ref C,some dx,.plain,#[]⟩:=I.obj
 refine wpAny_bind (wpAny_pure (wpAny_bind (wpAny_bind (wpAny_loadPart hx (wpAny_bind (PySem.W.Looks.here (s:={ s with toks:=s.toks+1 }) (PySem.W.looks_clsIn X hc) ?_))))))
 rw[Hr]
 refine wpAny_pure (a:=some dx) (wpAny_bind (wpAny_pure (wpAny_bind ?_)))
 refine wpAny_nsSet1 (s:={ s with toks:=s.toks+1 }) I.ns λh' J0 D3=>?_
 obtain⟨oD,esD,epD,hoD,hdD,Ga⟩:=J0.count (PySem.Within.cons name v hw)
 refine wpAny_bind (wpAny_lookBehind hoD (by rw[hdD];exact pastItsLine_dict (nzL Ga (by rw[aE];omega))) ?_)
 exact wpAny_pure (h _ ⟨(D3.2 _ (Ne.symm I.ne)).trans I.obj,J0,I.ne⟩ D3)
theorem aEr{R:Result->Shared->Prop}{vs:List Value}{kw:List (Str×Value)}(X:K.In s.heap)(hm:PySem.W.makesIn K C=true)
  (hi:PySem.W.findIn K (.ref C) "__init__" = some (some (.ref f))) (hf:PySem.W.typeIn K (.ref f)=some (.type "function"))
  (h:codeAny (model prog w) (A.under (.builtin "type.__call__" ⟨.ref C :: vs,kw⟩)) (.call (.ref f) ⟨.ref (s.heap.objs.size + 1) :: vs,kw⟩) (PySem.W.InitBack (s.heap.objs.size + 1) R)
   { s with heap:=(s.heap.push PySem.W.emptyDict).push (PySem.W.instObj C s.heap.objs.size) }) :
  codeAny (model prog w) A (.call (.ref C) ⟨vs,kw⟩) R s:=by
 obtain⟨hh,g,d,t,os⟩:=s
 exact PySem.W.make_core (PySem.W.makes_of X hm) (PySem.W.looks_findIn X hi) (λself=>PySem.W.bind_fn X self hf) (.inl rfl) h
end
def iE(f:Str)(v:V):List (Str×V)->List (Str×V)
 | []=>[(f,v)]
 |(g,x)::r=>if g=f then(g,v)::r else(g,x)::iE f v r
theorem jr_(f g:Str)(v:V):∀fs:List (Str×V),(iE f v fs).lookup g=if g=f then some v else fs.lookup g
 | []=>by
  show List.lookup g [(f,v)]=_
  by_cases h:g=f
  ·have hb:(g == f)=true:=beq_iff_eq.mpr h
   simp only[List.lookup,hb,if_pos h]
  ·have hb:(g == f)=false:=beq_eq_false_iff_ne.mpr h
   simp only[List.lookup,hb,if_neg h]
 |(k,x)::r=>by
  have ih:=jr_ f g v r
  rw[show iE f v ((k,x)::r)=(if k=f then(k,v)::r else(k,x)::iE f v r)from rfl]
  by_cases hk:k=f
  ·rw [if_pos hk]
   by_cases h:g=k
   ·have hb:(g == k)=true:=beq_iff_eq.mpr h
    simp only[List.lookup,hb,if_pos (h.trans hk)]
   ·have hb:(g == k)=false:=beq_eq_false_iff_ne.mpr h
    simp only[List.lookup,hb,if_neg (λe:g=f=>h (e.trans hk.symm))]
  ·rw [if_neg hk]
   by_cases h:g=k
   ·have hb:(g == k)=true:=beq_iff_eq.mpr h
    simp only[List.lookup,hb,if_neg (λe:g=f=>hk (h.symm.trans e))]
   ·have hb:(g == k)=false:=beq_eq_false_iff_ne.mpr h
    simp only[List.lookup,hb]
    exact ih
theorem ju_(f:Str)(v:V):∀fs:List (Str×V),f∈(iE f v fs).map (·.1)/\∀g,g∈fs.map (·.1)->g∈(iE f v fs).map (·.1)
 | []=>⟨by simp[iE],λg h=>by simp at h⟩
 |(k,x)::r=>by
  obtain⟨i1,i2⟩:=ju_ f v r
  rw[show iE f v ((k,x)::r)=(if k=f then(k,v)::r else(k,x)::iE f v r)from rfl]
  by_cases hk:k=f
  ·rw [if_pos hk]
   subst hk
   exact⟨by simp,λg h=>by simpa using h⟩
  ·rw [if_neg hk]
   refine⟨?_,λg h=>?_⟩
   ·rw [aO]
    exact aB _ i1
   ·rw [aO] at h ⊢
    rcases aI.mp h with e | e
    ·exact aI.mpr (.inl e)
    ·exact aB _ (i2 g e)
theorem jt_(f:Str)(v:V):∀fs:List (Str×V),(iE f v fs).length<=fs.length+1
 | []=>by simp[iE]
 |(k,x)::r=>by
  have ih:=jt_ f v r
  rw[show iE f v ((k,x)::r)=(if k=f then(k,v)::r else(k,x)::iE f v r)from rfl]
  by_cases hk:k=f
  ·rw[if_pos hk,aE,aE];omega
  ·rw[if_neg hk,aE,aE];omega
theorem RelO.some_of{v:V}{o:Option Value}(r:RelO (some v) o):∃u,o=some u/\RelV v u:=by
 cases o with
 |none=>exact(show False from r).elim
 |some u=>exact⟨u,rfl,r⟩
theorem RelO.none_of{o:Option Value}(r:RelO none o):o=none:=by
 cases o with
 |none=>rfl
 |some u=>exact(show False from r).elim
theorem x9{v:V}{u:Value}(r:RelV v u):PySem.W.handedIn u=true:=by
 cases v with
 |non=>cases(show u=Value.none from r);rfl
 |bl b=>cases(show u=Value.bool b from r);rfl
 |int i=>obtain⟨t,e⟩:=(show ∃t,u=Value.int i t from r);cases e;rfl
 |str x=>obtain⟨t,e⟩:=(show ∃t,u=Value.str x t from r);cases e;rfl
 |byt b=>obtain⟨t,e⟩:=(show ∃t,u=Value.bytes b t from r);cases e;rfl
 |flt b=>obtain⟨t,e⟩:=(show ∃t,u=Value.float b t from r);cases e;rfl
 |ref a=>cases(show u=Value.ref a from r);rfl
 |ty n=>cases(show u=Value.type n from r);rfl
section
variable{P:Program}{w:World}{H H':Hp}{h h':Heap}{a C dx:Addr}{fs fs':List (Str×V)}
theorem nE(hok:HOk P w H h)(e:H a=some (.ins C dx fs)):∃mA,ObjM h a dx C mA/\(∀f,RelO (fs.lookup f) (mA f))/\PySem.Within mA (fs.map (·.1))/\fs.length<=1000/\H dx=some (.own a):=by
 obtain⟨d,z,ne,ob,mA,n,r,q⟩:=(show ObjOk P w H h a (.ins C dx fs)from hok a _ e)
 exact⟨mA,⟨ob,n,ne⟩,r,q,z,d⟩
end
structure Cls(K:dA)(C:Addr):Prop where
 pg:PySem.W.plainGet K C Str.empty=true
 hd:PySem.W.hasDictIn K C=true
 po:PySem.W.plainOver K C=true
 sa:PySem.W.findIn K (.ref C) "__setattr__" = some (some (.builtin "object.__setattr__"))
theorem Cls.get{K:dA}{C:Addr}(c:Cls K C)(f:Str):PySem.W.plainGet K C f=true:=c.pg
def NoAttr(K:dA)(C:Addr)(f:Str):Prop:=PySem.W.findIn K (.ref C) f=some none
theorem NoAttr.taker{K:dA}{C:Addr}{f:Str}(n:NoAttr K C f):PySem.W.takerIn K C f=some none:=by
 unfold PySem.W.takerIn
 rw[show PySem.W.findIn K (.ref C) f=some none from n]
 rfl
structure Meth(K:dA)(C:Addr)(m:Str)(f:Addr):Prop where
 at_:PySem.W.findIn K (.ref C) m=some (some (.ref f))
 fn:PySem.W.isFn K (.ref f)=true
 kp:PySem.W.keepIn K (.ref f)=true
section
variable{X:Cx}{Aa:eL}{σ:St}{H:Hp}{s:Shared}{a C dx:Addr}{fs:List (Str×V)}{f:Str}{v:V}{A:Around}{E:gV}
theorem yX{b:Bool}{Q:gV}(I:Inv X Aa σ H s)(e:H a=some (.ins C dx fs))(c:Cls X.K C)(n:NoAttr X.K C f)(l:fs.lookup f=some v)
  (h:∀u s',Inv X Aa σ H s'->RelV v u->Q u s'):wpAny (model X.prog X.w) A (getAttr (.ref a) f b) Q E s:=by
 obtain⟨mA,O,r,_,_,_⟩:=nE I.hok e
 obtain⟨u,hu,ru⟩:=RelO.some_of (v:=v) (o:=mA f) (by rw[<-l];exact r f)
 exact aLz I.kIn O (c.get f) c.hd n hu (x9 ru) (h u _ (I.tok _) ru)
theorem pO{m:Str}{g:Addr}{pl:Sem Bool}{Q:Value×List Value->Shared->Prop}(I:Inv X Aa σ H s)(e:H a=some (.ins C dx fs))(c:Cls X.K C)(k:Meth X.K C m g)(l:fs.lookup m=none)
  (h:Q (.ref g,[.ref a]) s):wpAny (model X.prog X.w) A (getMethod (.ref a) m pl) Q E s:=by
 obtain⟨mA,O,r,_,_,_⟩:=nE I.hok e
 have hn:mA m=none:=RelO.none_of (by rw[<-l];exact r m)
 exact aFu I.kIn O (c.get m) k.at_ k.fn hn h
theorem xZ{y:V}{u:Value}{Q:Unit->Shared->Prop}(I:Inv X Aa σ H s)(e:H a=some (.ins C dx fs))(c:Cls X.K C)(n:NoAttr X.K C f)(hl:fs.length<1000)(ry:RelV y u)
  (h:∀s',Inv X Aa σ (upd H a (.ins C dx (iE f y fs))) s'->Q () s'):wpAny (model X.prog X.w) A (setAttr (.ref a) f u) Q E s:=by
 obtain⟨mA,O,r,wi,_,ho⟩:=nE I.hok e
 have hz:(fs.map (·.1)).length<=sizeLine:=by rw[aD,sizeLine_eq];omega
 refine aIy I.kIn O c.sa c.po n.taker c.hd wi hz λh' O' sb=>h _ ?_
 have hd:∃o,h'.get? dx=some o:=let ⟨o,_,_,e',_⟩:=O'.ns;⟨o,e'⟩
 refine I.write (x:=a) (e:=dx) (by rw[e];exact True.intro) (.inr ho) (λb q hb z=>(sb.2 b hb).trans z) hd ?_
 refine⟨by rw[gU O.ne];exact ho,?_,O.ne,O'.obj,_,O'.ns,λg=>?_,λg hg=>?_⟩
 ·have:=jt_ f y fs;omega
 ·show RelO ((iE f y fs).lookup g) (if g=f then some u else mA g)
  rw[jr_]
  by_cases q:g=f
  ·rw[if_pos q,if_pos q];exact ry
  ·rw[if_neg q,if_neg q];exact r g
 ·by_cases q:g=f
  ·rw[q];exact(ju_ f y fs).1
  ·refine (ju_ f y fs).2 g (wi g fun z=>hg ?_)
   show(if g=f then some u else mA g)=none
   rw[if_neg q];exact z
theorem Inv.made(I:Inv X Aa σ H s):Inv X Aa σ (upd (upd H s.heap.objs.size (.own (s.heap.objs.size+1))) (s.heap.objs.size+1) (.ins C s.heap.objs.size []))
  { s with heap:=(s.heap.push PySem.W.emptyDict).push (PySem.W.instObj C s.heap.objs.size) }:=by
 have e1:(s.heap.push PySem.W.emptyDict).get? s.heap.objs.size=some PySem.W.emptyDict:=bO s.heap rfl
 have e2:((s.heap.push PySem.W.emptyDict).push (PySem.W.instObj C s.heap.objs.size)).get? (s.heap.objs.size+1)=some (PySem.W.instObj C s.heap.objs.size):=by
  have:=bO (s.heap.push PySem.W.emptyDict) (o:=PySem.W.instObj C s.heap.objs.size) rfl
  rwa [Heap.size_push]at this
 have e3:(s.heap.push PySem.W.emptyDict).Ns s.heap.objs.size (λ_=>none):=⟨PySem.W.emptyDict,#[],_,e1,rfl,(λe he=>absurd he (by simp)),λ_=>rfl⟩
 have I1:=I.laid (a:=s.heap.objs.size) (o:=.own (s.heap.objs.size+1)) (h':=s.heap.push PySem.W.emptyDict) (t':=s.toks) (λb u q=>aQ _ q) (aV _) ⟨_,e1⟩
 refine I1.laid (a:=s.heap.objs.size+1) (o:=.ins C s.heap.objs.size []) (t':=s.toks) (λb u q=>aQ _ q) (Nat.le_of_eq (Heap.size_push _ _)) ?_
 have ne:s.heap.objs.size≠s.heap.objs.size+1:=cH (Nat.lt_succ_self _)
 refine⟨by rw[gU ne,xD],bP _,ne,e2,λ_=>none,(Heap.Ns1.of_empty e3).at λo q=>aQ _ q,λ_=>True.intro,λy hy=>absurd rfl hy⟩
theorem aNd{prog:Program}{w:World}{env:Env}{e:Expr}{f:Str}{pos:Pos}{s:Shared}{Q:gV}(hb:attributeBase e f env (eval e env)=eval e env)
  (h:wpAny (model prog w) A (eval e env) (λo s₁=>wpAny (model prog w) A (getAttr o f true) Q E s₁) E s):wpAny (model prog w) A (eval (.Attribute e f pos) env) Q E s:=
 Attribute_any_ h (by rw[arm_eval_Attribute,hb])
end
def bCh(K:dA)(ta:TE)(f:Str):TE:=λσ H Q=>ta σ H λx H1=>∃a C dx fs v,x=.ref a/\H1 a=some (.ins C dx fs)/\Cls K C/\NoAttr K C f/\fs.lookup f=some v/\Q v H1
def bCk(K:dA)(ta tv:TE)(f:Str):TS:=λD σ H=>tv σ H λy H1=>ta σ H1 λx H2=>∃a C dx fs,x=.ref a/\H2 a=some (.ins C dx fs)/\Cls K C/\NoAttr K C f/\fs.length<1000 /\
 D.nx σ (upd H2 a (.ins C dx (iE f y fs)))
section
variable{X:Cx}{o e value:Expr}{f:Str}{pos pos' tpos:Pos}{ta tv:TE}
theorem aRk(he:PE X e ta)(hb:attributeBase e f X.env (eval e X.env)=eval e X.env):PE X (.Attribute e f pos) (bCh X.K ta f):=by
 intro Aa s σ H Q I h
 refine aNd hb (dN (he Aa s σ H _ I h) λu s1 ⟨x,H1,I1,rx,a,C,dx,fs,v,ex,ea,c,n,l,q⟩=>?_)
 subst ex
 obtain rfl:u=Value.ref a:=rx
 exact yX I1 ea c n l λu' s2 I2 ru=>⟨v,H1,I2,ru,q⟩
theorem aRc(ha:PE X o ta)(hv:PE X value tv)(hs:swapsWith value (some (.Attribute o f pos')) pos.line X.env=pure false):PS X (.Assign [.Attribute o f pos'] value pos) (bCk X.K ta tv f):=by
 intro Aa s σ H D I h
 refine plainObj_wpAny_Assign_Attribute (dN (hv Aa s σ H _ I h) λu s1 ⟨y,H1,I1,ry,q⟩=>dN (ha Aa s1 σ H1 _ I1 q) λov s2 ⟨x,H2,I2,rx,a,C,dx,fs,ex,ea,c,n,l,q2⟩=>?_) hs
 subst ex
 obtain rfl:ov=Value.ref a:=rx
 exact xZ I2 ea c n l ry λs3 I3=>⟨σ,_,I3,q2⟩
end
section
variable{X:Cx}{Aa:eL}{σ:St}{H:Hp}{s:Shared}{A:Around}{E:gV}{Q:gV}{c:Value}{b:Bool}
inductive TyOf(K:dA)(H:Hp):V->Value->Prop where
 |non:TyOf K H .non (.type "NoneType")
 |bl (x:Bool):TyOf K H (.bl x) (.type "bool")
 |int (i:Int):TyOf K H (.int i) (.type "int")
 |str (x:Str):TyOf K H (.str x) (.type "str")
 |flt (x:UInt64):TyOf K H (.flt x) (.type "float")
 |lst {a:Addr} {xs:List V} (e:H a=some (.lst xs)):TyOf K H (.ref a) (.type "list")
 |frz {a:Addr} {o:Obj} {xs:List V} (e:H a=some (.frz o (.lst xs))):TyOf K H (.ref a) (.type "list")
 |tup {a:Addr} {xs:List V} (e:H a=some (.tup xs)):TyOf K H (.ref a) (.type "tuple")
 |dK {a:Addr} {kvs:List (Key×V)} (e:H a=some (.dK kvs)):TyOf K H (.ref a) (.type "dict")
 |dT {a:Addr} {kvs:List (List Key×V)} (e:H a=some (.dT kvs)):TyOf K H (.ref a) (.type "dict")
 | ins {a C dx : Addr} {fs : List (Str × V)} (e : H a = some (.ins C dx fs)) (cl : Cls K C) (ha : PySem.W.findIn K (.ref C) "__class__" = some (some (.builtin "object.__class__")))
   (hn:PySem.W.specialIn K (.builtin "object.__class__") "__get__" = some (some (.builtin "getset_descriptor.__get__"))) (Mj:PySem.W.takesIn K (.builtin "object.__class__")=some true)
   (hm:PySem.W.mroIn K C (.type "object")=some true):TyOf K H (.ref a) (.ref C)
theorem es_{x:V}{u t:Value}(I:Inv X Aa σ H s)(rx:RelV x u)(ty:TyOf X.K H x t)(e:PySem.W.kitOne X.K t c=some b)(h:∀tk,Q (.bool b) { s with toks:=tk }) :
  wpAny (model X.prog X.w) A (call (.builtin "isinstance") [u,c]) Q E s:=by
 cases ty with
 |non=>cases(show u=Value.none from rx);exact PySem.W.kia_one PySem.W.kitx_none I.kIn True.intro e (λz=>nomatch z) h
 |bl y=>cases(show u=Value.bool y from rx);exact PySem.W.kia_one PySem.W.kitx_bool I.kIn True.intro e (λz=>nomatch z) h
 |int i=>obtain⟨t,q⟩:=(show ∃t,u=Value.int i t from rx);cases q;exact PySem.W.kia_one PySem.W.kitx_int I.kIn True.intro e (λz=>nomatch z) h
 |str y=>obtain⟨t,q⟩:=(show ∃t,u=Value.str y t from rx);cases q;exact PySem.W.kia_one PySem.W.kitx_str I.kIn True.intro e (λz=>nomatch z) h
 |flt y=>obtain⟨t,q⟩:=(show ∃t,u=Value.float y t from rx);cases q;exact PySem.W.kia_one PySem.W.kitx_float I.kIn True.intro e (λz=>nomatch z) h
 | @lst a xs ea =>
  cases(show u=Value.ref a from rx)
  obtain⟨_,_,n,_,h1⟩:=(show ObjOk X.prog X.w H s.heap a (.lst xs)from I.hok a _ ea)
  exact PySem.W.kia_one PySem.W.kitx_list I.kIn ⟨_,h1,rfl⟩ e (λz=>nomatch z) h
 | @frz a ob xs ea =>
  cases(show u=Value.ref a from rx)
  obtain⟨_,_,_,n,_,h1⟩:=(show ObjOk X.prog X.w H s.heap a (.frz ob (.lst xs))from I.hok a _ ea)
  exact PySem.W.kia_one PySem.W.kitx_list I.kIn ⟨_,h1,rfl⟩ e (λz=>nomatch z) h
 | @tup a xs ea =>
  cases(show u=Value.ref a from rx)
  obtain⟨_,_,_,p⟩:=(show ObjOk X.prog X.w H s.heap a (.tup xs)from I.hok a _ ea)
  obtain⟨o,h1,h2,_⟩:=p
  exact PySem.W.kia_one PySem.W.kitx_tuple I.kIn ⟨o,h1,h2⟩ e (λz=>nomatch z) h
 | @dK a kvs ea =>
  cases(show u=Value.ref a from rx)
  obtain⟨_,_,vs,_,p⟩:=(show ObjOk X.prog X.w H s.heap a (.dK kvs)from I.hok a _ ea)
  obtain⟨o,es,ep,h1,h2,_⟩:=p
  exact PySem.W.kia_one PySem.W.kitx_dict I.kIn ⟨o,h1,h2.1⟩ e (λz=>nomatch z) h
 | @dT a kvs ea =>
  cases(show u=Value.ref a from rx)
  obtain⟨_,_,xs,_,o,es,ep,h1,h2,_⟩:=(show ObjOk X.prog X.w H s.heap a (.dT kvs)from I.hok a _ ea)
  exact PySem.W.kia_one PySem.W.kitx_dict I.kIn ⟨o,h1,h2.1⟩ e (λz=>nomatch z) h
 | @ins a C dx fs ea cl ha hn Mj hm =>
  cases(show u=Value.ref a from rx)
  obtain⟨mA,O,_⟩:=nE I.hok ea
  obtain⟨od,J,_⟩:=O.look
  exact PySem.W.kia_one (PySem.W.kitx_own (cl.get _) cl.hd ha hn Mj hm) I.kIn J e (λz=>nomatch z) h
end
structure Room(k:Nat)(A:Around):Prop where
 hd:A.handled=none
 dp:A.depth+3*k+5<recursionLimit
 un:A.units+16*k+200<cLine
 gd:A.guards=some []
theorem Room.mono{j k:Nat}{A:Around}(r:Room k A)(h:j<=k):Room j A:=⟨r.hd,by have:=r.dp;omega,by have:=r.un;omega,r.gd⟩
theorem Room.deeper{k:Nat}{A:Around}(r:Room (k+1) A)(env:Env):Room k (A.deeper env):=
 ⟨r.hd,by have:=r.dp;show A.depth+1+3*k+5<_;omega,by have:=r.un;show A.units+3+16*k+200<_;omega,r.gd⟩
theorem yP{A:Around}{C:Addr}{us:List Value}{kw:List (Str×Value)}:(A.under (.builtin "type.__call__" ⟨.ref C::us,kw⟩)).depth=A.depth+1:=by
 first | rfl | simp[Around.under,Code.weight,Code.isCreation,Code.isGuard,Code.isCaller,Code.frames,Code.isFrame,guardIds]
theorem yO{A:Around}{C:Addr}{us:List Value}{kw:List (Str×Value)}:(A.under (.builtin "type.__call__" ⟨.ref C::us,kw⟩)).units=A.units+1:=by
 first | rfl | simp[Around.under,Code.cUnits,Code.frames,Code.isFrame]
theorem wC{A:Around}{C:Addr}{us:List Value}{kw:List (Str×Value)}:(A.under (.builtin "type.__call__" ⟨.ref C::us,kw⟩)).guards=A.guards:=rfl
theorem Room.make{k:Nat}{A:Around}(r:Room (k+1) A)(C:Addr)(us:List Value)(kw:List (Str×Value)):Room k (A.under (.builtin "type.__call__" ⟨.ref C::us,kw⟩)):=
 ⟨r.hd,by have:=r.dp;rw[yP];omega,by have:=r.un;rw[yO];omega,by rw[wC];exact r.gd⟩
theorem Room.depth{k:Nat}{A:Around}(r:Room k A):A.depth<recursionLimit:=by have:=r.dp;omega
theorem Room.units{k:Nat}{A:Around}(r:Room k A):A.units+64<cLine:=by have:=r.un;omega
def aCc:TA:=λ_ H Q=>Q [] H
def b5(ta:TE)(tr:TA):TA:=λσ H Q=>ta σ H λx H1=>tr σ H1 λxs H2=>Q (x::xs) H2
section
variable{X:Cx}{e:Expr}{es:List Expr}{te:TE}{t:TA}{pos:Pos}
theorem uL:PA X [] aCc:=λ_ _ _ _ H Q I h=>Calls.spliced_nil ⟨[],H,I,.nil,h⟩
theorem kS(ha:PE X e te)(hr:PA X es t)(hs:starEach (e::es) X.env=(false,eval e X.env)::starEach es X.env:=by rfl):PA X (e::es) (b5 te t):=by
 intro pos Aa s σ H Q I h
 rw[hs]
 show wpAny _ _ (spliced ((false,eval e X.env)::backTo pos (starEach es X.env))) _ _ s
 refine Calls.spliced_cons (dN (ha Aa s σ H _ I h) λu s1 ⟨x,H1,I1,r1,q1⟩=>?_)
 exact dN (hr pos Aa s1 σ H1 _ I1 q1) λus s2 ⟨xs,H2,I2,r2,q2⟩=>⟨x::xs,H2,I2,.cons r1 r2,q2⟩
def bCb(t:TA):TE:=λσ H Q=>t σ H λxs H1=>xs.length<=sizeLine/\∀p,H1 p=none->Q (.ref p) (upd H1 p (.tup xs))
def bCf(t:TA):TE:=λσ H Q=>t σ H λxs H1=>xs.length<=sizeLine/\∀p,H1 p=none->Q (.ref p) (upd H1 p (.lst xs))
theorem aDo{x1}(h:PA X es t):PE X (.Tuple es x1 pos) (bCb t):=by
 intro Aa s σ H Q I hq
 refine wpAny_Tuple_spliced (dN (h pos Aa s σ H _ I hq) λus s1 ⟨xs,H1,I1,r,z,q⟩=>⟨by rw[<-r.length];exact z,?_⟩)
 have hf:H1 s1.heap.objs.size=none:=I1.hok.fresh (aV _)
 refine⟨.ref s1.heap.objs.size,upd H1 s1.heap.objs.size (.tup xs),I1.laid (t':=s1.toks) (λb u e=>aQ _ e) (aV _) ?_,rfl,q _ hf⟩
 exact⟨z,us,r,⟨_,bO _ rfl,rfl,_,rfl⟩⟩
theorem aRj(h:PA X es t):PE X (.List es pos) (bCf t):=by
 intro Aa s σ H Q I hq
 refine wpAny_List_spliced (dN (h pos Aa s σ H _ I hq) λus s1 ⟨xs,H1,I1,r,z,q⟩=>⟨by rw[<-r.length];exact z,?_⟩)
 have hf:H1 s1.heap.objs.size=none:=I1.hok.fresh (aV _)
 refine⟨.ref s1.heap.objs.size,upd H1 s1.heap.objs.size (.lst xs),I1.laid (t':=s1.toks) (λb u e=>aQ _ e) (aV _) ?_,rfl,q _ hf⟩
 exact⟨z,us,0,r,bO _ rfl⟩
end
abbrev Sp:=List V->Hp->VK->XK->Prop
abbrev CXT:=List Env->Hp->Shared->XK->Value->Shared->Prop
structure Env0(P:Program)(w:World)(K:dA)(mg:kC)(base:Heap)(A:Around)(outer:List Env)(s:Shared)(H:Hp):Prop where
 frames:A.frames=some outer
 mod:Mod K mg base
 bs:∀b o,base.get? b=some o->s.heap.get? b=some o/\H b=none
 bsz:base.objs.size<=s.heap.objs.size
 funs:s.heap.FunFrames base outer
 frf:∀b∈frs outer,H b=none
 hok:HOk P w H s.heap
 bare:AllBare s.gens
def CE(outer:List Env)(P:Program)(w:World)(H:Hp)(s:Shared)(Q:VK)(u:Value)(s':Shared):Prop:=
 ∃v H',s'.os=s.os/\AllBare s'.gens/\Un (frs outer) [] H H' s.heap s'.heap/\HOk P w H' s'.heap/\RelV v u/\Q v H'
def CR(CX:CXT)(outer:List Env)(P:Program)(w:World)(H:Hp)(s:Shared)(Q:VK)(E:XK)(r:Result)(s':Shared):Prop:=
 match r with
 | .ok (.ret u)=>CE outer P w H s Q u s'
 | .ok _=>False
 | .error e=>CX outer H s E e s'
structure FnOk(P:Program)(w:World)(K:dA)(mg:kC)(base:Heap)(CX:CXT)(k:Nat)(f:Addr)(fd:FuncData)(ps:List Str)(sp:Sp):Prop where
 len:∀vs H Q E,sp vs H Q E->vs.length=ps.length
 run:∀(A:Around) (outer:List Env) (s:Shared) (H:Hp) (args:Args) (us:List Value) (vs:List V) (Q:VK) (E:XK),Room k A->Env0 P w K mg base A outer s H->BindsTo s fd args (ps.zip us)->Vals vs us->sp vs H Q E ->
  codeAny (model P w) A (.call (.ref f) args) (CR CX outer P w H s Q E) s
theorem FnOk.mono{CX:CXT}{j k:Nat}{f:Addr}{fd:FuncData}{ps:List Str}{sp:Sp}(F:FnOk P w K mg base CX j f fd ps sp)(h:j<=k) :
  FnOk P w K mg base CX k f fd ps sp:=⟨F.len,λA outer s H args us vs Q E hr=>F.run A outer s H args us vs Q E (hr.mono h)⟩
theorem FnOk.imp{CX:CXT}{k:Nat}{f:Addr}{fd:FuncData}{ps:List Str}{sp sp':Sp}(F:FnOk P w K mg base CX k f fd ps sp)
  (h:∀vs H Q E,sp' vs H Q E->sp vs H Q E):FnOk P w K mg base CX k f fd ps sp':=
 ⟨λvs H Q E q=>F.len vs H Q E (h _ _ _ _ q),λA outer s H args us vs Q E hr he hb hv hs=>F.run A outer s H args us vs Q E hr he hb hv (h _ _ _ _ hs)⟩
theorem Env0.make{A:Around}{outer:List Env}{s:Shared}{H:Hp}(e:Env0 P w K mg base A outer s H)(C:Addr)(us:List Value)(kw:List (Str×Value)) :
  Env0 P w K mg base (A.under (.builtin "type.__call__" ⟨.ref C::us,kw⟩)) outer s H:=⟨by first | exact e.frames | (simpa [Around.under,Code.envs,Code.isFrame,pushEnvs]using e.frames),e.mod,e.bs,e.bsz,e.funs,e.frf,e.hok,e.bare⟩
section
variable{X:Cx}{Aa:eL}{σ:St}{H:Hp}{s s':Shared}
theorem Inv.env0(I:Inv X Aa σ H s):Env0 X.prog X.w X.K X.mg X.base X.A X.stack s H:=
 ⟨I.ok.frames,I.ok.mod,I.bs,nzL I.ok.bsz I.sz,I.stack,I.stkFree,I.hok,I.bare⟩
theorem Inv.after{Q:VK}{u:Value}(I:Inv X Aa σ H s)(h:CE X.stack X.prog X.w H s Q u s'):EP X Aa σ Q u s':=by
 obtain⟨v,H',os,bare,un,hok,r,q⟩:=h
 obtain⟨hh,g,d,t,os'⟩:=s'
 obtain rfl:os'=s.os:=os
 exact⟨v,H',I.call (h':=hh) (g':=g) (d':=d) (t':=t) (ch:=[]) un hok bare (λb z=>absurd z (by simp)),r,q⟩
end
def aCe(sp:Sp)(dvs:List V)(E:XK)(t:TA):TE:=λσ H Q=>t σ H λvs H1=>sp (vs++dvs) H1 Q E
def aNt(C:Addr)(m:Str)(sp:Sp)(dvs:List V)(E:XK)(ta:TE)(t:TA):TE:=λσ H Q=>ta σ H λx H1=>∃a dx fs,x=.ref a/\H1 a=some (.ins C dx fs)/\fs.lookup m=none /\
 t σ H1 λvs H2=>sp (x::(vs++dvs)) H2 Q E
def aWs(C:Addr)(sp:Sp)(dvs:List V)(E:XK)(t:TA):TE:=λσ H Q=>t σ H λvs H1=>∀x dx,H1 x=none->H1 dx=none->dx≠x ->
 sp (.ref x::(vs++dvs)) (upd (upd H1 dx (.own x)) x (.ins C dx [])) (λv H2=>v=.non/\Q (.ref x) H2) E
def Binds(K:dA)(fd:FuncData)(ps:List Str)(ds:List Value):Prop:=
 ∀(s:Shared) (us:List Value),K.In s.heap->(us++ds).length=ps.length->BindsTo s fd ⟨us,[]⟩ (ps.zip (us++ds))
theorem Binds.all{K:dA}{fd:FuncData}{ps:List Str}(h:∀us:List Value,us.length=ps.length->bindArgs fd ⟨us,[]⟩=pure (ps.zip us)):Binds K fd ps []:=λs us _ hl=>by
 rw[aS]at hl ⊢
 exact .of_eq (h us hl)
def jR(CX:CXT)(X:Cx)(E:XK):Prop:=∀(Aa:eL) (σ:St) (H:Hp) (s:Shared) (e:Value) (s':Shared),Inv X Aa σ H s->CX X.stack H s E e s'->X.xe e s'
section
variable{X:Cx}{CX:CXT}{k:Nat}{f C:Addr}{ps:List Str}{sp:Sp}{dvs:List V}{ds:List Value}{E:XK}{x m:Str}{p pos apos:Pos}{e o:Expr}{es:List Expr}{ta:TE}{t:TA}
theorem yD{Aa:eL}{σ:St}{H:Hp}{s:Shared}{Q:VK}{us:List Value}{vs:List V}(F:FnOk X.prog X.w X.K X.mg X.base CX k f fd ps sp)(hr:Room k X.A)(hb:Binds X.K fd ps ds)(hd:Vals dvs ds)(hx:jR CX X E)
  (I:Inv X Aa σ H s) (r:Vals vs us) (h:sp (vs++dvs) H Q E):wpAny (model X.prog X.w) X.A (call (.ref f) us) (EP X Aa σ Q) X.xe s:=by
 have r2:Vals (vs++dvs) (us++ds):=r.append hd
 have hl:(us++ds).length=ps.length:=by rw[<-r2.length];exact F.len _ _ _ _ h
 refine wpAny_call (codeAny_mono (F.run X.A X.stack s H ⟨us,[]⟩ (us++ds) (vs++dvs) Q E hr I.env0 (hb s us I.kIn hl) r2 h) λr s' hq=>?_)
 cases r with
 |error e=>exact hx Aa σ H s e s' I hq
 |ok fl =>
  cases fl with
  |ret u=>exact I.after hq
  |next=>exact False.elim hq
  |brk=>exact False.elim hq
  |cont=>exact False.elim hq
theorem e9(F:FnOk X.prog X.w X.K X.mg X.base CX k f fd ps sp)(hr:Room k X.A)(hg:Gl X x)(hm:X.mg x=some (.ref f))(hk:PySem.W.keepIn X.K (.ref f)=true)(hb:Binds X.K fd ps ds)(hd:Vals dvs ds)(hx:jR CX X E)
  (ha:PA X (e::es) t) (B2:(x == ("__debug__" : Str))=false:=by decide) (he:starEach (e::es) X.env=(false,eval e X.env)::starEach es X.env:=by rfl) (A9:(backTo pos (starEach es X.env)).any (·.1)=false:=by rfl) :
  PE X (.Call (.Name x p) (e::es) [] pos) (aCe sp dvs E t):=by
 intro Aa s σ H Q I h
 refine wpAny_Call_Name_kw (ic_ I hg hm ?_ B2)
 refine PySem.W.callWith_K (h₀:=X.base) I.ok.mod.kin hk (dN (ha pos Aa s σ H _ I h) λus s1 ⟨vs,H1,I1,r,q⟩=>⟨I1.kIn,?_⟩) he A9
 exact yD F hr hb hd hx I1 r q
theorem e7{pl:Sem Bool}(he:PE X o ta)(c:Cls X.K C)(hm:Meth X.K C m f)(F:FnOk X.prog X.w X.K X.mg X.base CX k f fd ps sp)(hr:Room k X.A)(hb:Binds X.K fd ps ds)(hd:Vals dvs ds)(hx:jR CX X E)(ha:PA X (e::es) t)
  (Cf:starEach (e::es) X.env=(false,eval e X.env)::starEach es X.env:=by rfl) (A9:(backTo pos (starEach es X.env)).any (·.1)=false:=by rfl)
  (ht:eval (.Call (.Attribute o m apos) (e :: es) [] pos) X.env=(do
   let ov <-eval o X.env
   standAt apos.atName
   let (f,first) <-holding [ov] (getMethod ov m pl)
   callWith pos f first (backTo pos (starEach (e::es) X.env)) (backToKw pos (keywordEach [] X.env))):=by rfl) :
  PE X (.Call (.Attribute o m apos) (e::es) [] pos) (aNt C m sp dvs E ta t):=by
 intro Aa s σ H Q I h
 refine PySem.W.methodCall_KW (pl:=pl) (dN (he Aa s σ H _ I h) λu s1 ⟨x,H1,I1,rx,a,dx,fs,ex,ea,l,q⟩=>?_) ht
 subst ex
 obtain rfl:u=Value.ref a:=rx
 refine pO I1 ea c hm l ?_
 refine PySem.W.callWith_K (first:=[.ref a]) (h₀:=X.base) I.ok.mod.kin hm.kp (dN (ha pos Aa s1 σ H1 _ I1 q) λus s2 ⟨vs,H2,I2,r,q2⟩=>⟨I2.kIn,?_⟩) Cf A9
 exact yD (us:=.ref a::us) (vs:=.ref a::vs) F hr hb hd hx I2 (.cons rfl r) q2
theorem aDq{pl:Sem Bool}(he:PE X o ta)(c:Cls X.K C)(hm:Meth X.K C m f)(F:FnOk X.prog X.w X.K X.mg X.base CX k f fd ps sp)(hr:Room k X.A)(hb:Binds X.K fd ps ds)(hd:Vals dvs ds)(hx:jR CX X E)
  (ht:eval (.Call (.Attribute o m apos) [] [] pos) X.env=(do
   let ov <-eval o X.env
   standAt apos.atName
   let (f,first) <-holding [ov] (getMethod ov m pl)
   callWith pos f first (backTo pos (starEach [] X.env)) (backToKw pos (keywordEach [] X.env))):=by rfl) :
  PE X (.Call (.Attribute o m apos) [] [] pos) (aNt C m sp dvs E ta aCc):=by
 intro Aa s σ H Q I h
 refine PySem.W.methodCall_KW (pl:=pl) (dN (he Aa s σ H _ I h) λu s1 ⟨x,H1,I1,rx,a,dx,fs,ex,ea,l,q⟩=>?_) ht
 subst ex
 obtain rfl:u=Value.ref a:=rx
 refine pO I1 ea c hm l ?_
 exact PySem.W.callWith_K0 (first:=[.ref a]) I1.kIn hm.kp (yD (us:=[.ref a]) (vs:=[.ref a]) F hr hb hd hx I1 (.cons rfl .nil) q)
structure Mk(K:dA)(C f:Addr):Prop where
 makes:PySem.W.makesIn K C=true
 init:PySem.W.findIn K (.ref C) "__init__" = some (some (.ref f))
 fn:PySem.W.isFn K (.ref f)=true
 kp:PySem.W.keepIn K (.ref C)=true
theorem aCr{Aa:eL}{σ:St}{H:Hp}{s:Shared}{Q:VK}{us:List Value}{vs:List V}(M:Mk X.K C f)(F:FnOk X.prog X.w X.K X.mg X.base CX k f fd ps sp)(hr:Room (k+1) X.A)(hb:Binds X.K fd ps ds)(hd:Vals dvs ds)
  (hx:jR CX X E) (I:Inv X Aa σ H s) (r:Vals vs us)
  (h:∀x dx,H x=none->H dx=none->dx≠x->sp (.ref x::(vs++dvs)) (upd (upd H dx (.own x)) x (.ins C dx [])) (λv H2=>v=.non/\Q (.ref x) H2) E) :
  wpAny (model X.prog X.w) X.A (call (.ref C) us) (EP X Aa σ Q) X.xe s:=by
 have hq:=h (s.heap.objs.size+1) s.heap.objs.size (I.hok.fresh (Nat.le_succ _)) (I.hok.fresh (aV _)) (cH (Nat.lt_succ_self _))
 have I2:=Inv.made (C:=C) I
 have r2:Vals (V.ref (s.heap.objs.size+1)::(vs++dvs)) (Value.ref (s.heap.objs.size+1)::(us++ds)):=.cons rfl (r.append hd)
 have hl:(Value.ref (s.heap.objs.size+1)::us++ds).length=ps.length:=by
  have e:=r2.length
  rw[F.len _ _ _ _ hq]at e
  exact e.symm
 refine wpAny_call (aEr (f:=f) I.kIn M.makes M.init (beq_iff_eq.mp M.fn) (codeAny_mono (F.run _ X.stack _ _ ⟨Value.ref (s.heap.objs.size+1)::us,[]⟩ (Value.ref (s.heap.objs.size+1)::(us++ds)) _ _ E (hr.make C us [])
  (I2.env0.make C us []) (hb _ (Value.ref (s.heap.objs.size+1)::us) I2.kIn hl) r2 hq) λr s' Io=>?_))
 cases r with
 |error e=>exact hx Aa σ _ _ e s' I2 Io
 |ok fl =>
  cases fl with
  |ret u =>
   obtain⟨v,H',I3,rv,ev,q3⟩:=I2.after Io
   subst ev
   exact⟨rv,⟨V.ref (s.heap.objs.size+1),H',I3,rfl,q3⟩⟩
  |next=>exact False.elim Io
  |brk=>exact False.elim Io
  |cont=>exact False.elim Io
theorem aJp(M:Mk X.K C f)(F:FnOk X.prog X.w X.K X.mg X.base CX k f fd ps sp)(hr:Room (k+1) X.A)(hg:Gl X x)(hm:X.mg x=some (.ref C))(hb:Binds X.K fd ps ds)(hd:Vals dvs ds)(hx:jR CX X E)
  (ha:PA X (e::es) t) (B2:(x == ("__debug__" : Str))=false:=by decide) (he:starEach (e::es) X.env=(false,eval e X.env)::starEach es X.env:=by rfl) (A9:(backTo pos (starEach es X.env)).any (·.1)=false:=by rfl) :
  PE X (.Call (.Name x p) (e::es) [] pos) (aWs C sp dvs E t):=by
 intro Aa s σ H Q I h
 refine wpAny_Call_Name_kw (ic_ I hg hm ?_ B2)
 refine PySem.W.callWith_K (h₀:=X.base) I.ok.mod.kin M.kp (dN (ha pos Aa s σ H _ I h) λus s1 ⟨vs,H1,I1,r,q⟩=>⟨I1.kIn,?_⟩) he A9
 exact aCr M F hr hb hd hx I1 r q
end
structure FnScope(N P:List Str)(sc:Scope):Prop where
 kind:sc.kind=.function
 co:sc.isCoroutine=false
 gen:sc.isGenerator=false
 nd:N.Nodup
 pre:N.take P.length=P
 par:∀x∈P,sc.names.lookup x=some .local\/sc.names.lookup x=some .cell
 nofree:∀y∈sc.names,y.2 ≠ .free
theorem iD{N P:List Str}{sc:Scope}(h:(sc.kind=.function/\sc.isCoroutine=false/\sc.isGenerator=false)/\N.Nodup/\N.take P.length=P/\(∀x∈P,sc.names.lookup x=some .local\/sc.names.lookup x=some .cell)/\∀y∈sc.names,y.2 ≠ .free):FnScope N P sc:=⟨h.1.1,h.1.2.1,h.1.2.2,h.2.1,h.2.2.1,h.2.2.2.1,h.2.2.2.2⟩
theorem rX{kindOf:Str->Option NameKind}{x:Str}:∀{binds:List (Str×Value)} {m:kC},(∀v,(x,v)∉binds)->bindL kindOf binds m x=m x
 | [],_,_=>rfl
 |(n,v)::r,m,h=>by
  unfold bindL
  rw[rX λw hw=>h w (aB _ hw)]
  split
  ·have:x≠n:=by rintro rfl; exact h v aA
   simp[this]
  ·rfl
theorem rZ{kindOf:Str->Option NameKind}{x:Str}:∀{binds:List (Str×Value)} {m:kC},(∀v,(x,v)∉binds)->bindC kindOf binds m x=m x
 | [],_,_=>rfl
 |(n,v)::r,m,h=>by
  unfold bindC
  rw[rZ λw hw=>h w (aB _ hw)]
  split
  ·rfl
  ·have:x≠n:=by rintro rfl; exact h v aA
   simp[this]
theorem rY{kindOf:Str->Option NameKind}{x:Str}{v:Value}:∀{P:List Str} {vs:List Value} {i:Nat} {m:kC},P.Nodup->P[i]? = some x->vs[i]? = some v->kindOf x=some .local ->
  bindL kindOf (P.zip vs) m x=some v
 | [],_,_,_,_,h,_,_=>by simp at h
 |_::_,[],_,_,_,_,h,_=>by simp at h
 |p::P,w::vs,0,m,nd,h1,h2,hk=>by
  simp at h1 h2;subst h1;subst h2
  show bindL kindOf ((p,w)::P.zip vs) m p=_
  unfold bindL
  rw[rX λv hv=>(cE.mp nd).1 (gY hv).1,if_pos hk]
  simp
 |p::P,w::vs,i+1,m,nd,h1,h2,hk=>by
  show bindL kindOf ((p,w)::P.zip vs) m x=_
  unfold bindL
  exact rY (i:=i) (cE.mp nd).2 (by simpa using h1) (by simpa using h2) hk
theorem sA{kindOf:Str->Option NameKind}{x:Str}{v:Value}:∀{P:List Str} {vs:List Value} {i:Nat} {m:kC},P.Nodup->P[i]? = some x->vs[i]? = some v->kindOf x≠some .local ->
  bindC kindOf (P.zip vs) m x=some v
 | [],_,_,_,_,h,_,_=>by simp at h
 |_::_,[],_,_,_,_,h,_=>by simp at h
 |p::P,w::vs,0,m,nd,h1,h2,hk=>by
  simp at h1 h2;subst h1;subst h2
  show bindC kindOf ((p,w)::P.zip vs) m p=_
  unfold bindC
  rw[rZ λv hv=>(cE.mp nd).1 (gY hv).1,if_neg hk]
  simp
 |p::P,w::vs,i+1,m,nd,h1,h2,hk=>by
  show bindC kindOf ((p,w)::P.zip vs) m x=_
  unfold bindC
  exact sA (i:=i) (cE.mp nd).2 (by simpa using h1) (by simpa using h2) hk
def start(N:List Str)(vs:List V):St:=vs.map some++List.replicate (N.length-vs.length) none
def iS(CX:CXT)(P:Program)(w:World)(K:dA)(mg:kC)(base:Heap)(N:List Str)(qual:Str)(scope:Scope)(f:Addr)(cd:Value)(A:Around)(outer:List Env)(s:Shared)(H:Hp)(E:XK):Cx where
 prog:=P
 w:=w
 K:=K
 mg:=mg
 base:=base
 A:=A.deeper (envOfC qual scope s.heap.objs.size f cd)
 N:=N
 s₀:=s
 H₀:=H
 env:=envOfC qual scope s.heap.objs.size f cd
 outer:=outer
 stack:=envOfC qual scope s.heap.objs.size f cd::outer
 ex:=[]
 calm:=true
 fn:=λ_=>true
 pn:=[]
 xe:=λe s'=>wpAny (model P w) (A.deeper (envOfC qual scope s.heap.objs.size f cd)) (leaving (envOfC qual scope s.heap.objs.size f cd) e) (λ_ s''=>CX outer H s E e s'') (λe' s''=>CX outer H s E e' s'') s'
theorem xA{sc:Scope}{n:Nat}{x:Str}(h:sc.names.lookup x=some .cell):∃c,(cellsFrom n sc.names []).lookup x=some c:=by
 have q:=PySem.W.cellsFrom_some sc.names n [] (.inl h)
 exact cI.mp q
theorem x4{CX:CXT}{N ps:List Str}{qual:Str}{scope:Scope}{f:Addr}{cd:Value}{A:Around}{outer:List Env}{s s1:Shared}{H:Hp}{E:XK}{us:List Value}{vs:List V}
  (S:FnScope N ps scope) (hd:A.handled=none) (e0:Env0 P w K mg base A outer s H) (hl:vs.length=ps.length) (r:Vals vs us)
  (x:InCallC s s.heap.objs.size (bindL (envOfC qual scope s.heap.objs.size f cd).kindOf (ps.zip us) λ_=>none) (cellsFrom (s.heap.objs.size+1) scope.names []) (bindC (envOfC qual scope s.heap.objs.size f cd).kindOf (ps.zip us) λ_=>none) s1) :
  Inv (iS CX P w K mg base N qual scope f cd A outer s H E) [] (start N vs) H s1:=by
 have A9:ps.length<=N.length:=by have:=congrArg List.length S.pre;rw[eG]at this;omega
 obtain⟨h1,tk,rfl,hk⟩:=x.done
 have noA:∀b:Addr,b∉(iS CX P w K mg base N qual scope f cd A outer s H E).ex:=λb z=>absurd (show b∈([]:List Addr)from z) (by simp)
 refine⟨⟨e0.mod,S.kind,rfl,rfl,aV _,λy z c h1 h2=>?_,λy hy=>?_,λy c _ h=>?_,λ_=>hd,Around.frames_deeper e0.frames,.inr ⟨rfl,rfl⟩,λb z=>absurd z (noA b),e0.bs,e0.bsz,λb _ _=>noA b,λb z=>absurd z (noA b),e0.funs,e0.frf⟩,
  rfl,e0.bare,Un.kept hk,⟨_,x.toInCall.ns,λi y v h1 h2 h3=>?_⟩,λy c h=>⟨_,x.cell y c h⟩,e0.hok.fresh (aV _),λy c h=>?_,λp hp=>absurd (show p∈([]:eL)from hp) (by simp),e0.hok.kept hk,?_⟩
 ·exact name_of_addr x.apart (PySem.mem_of_lookup h1) (PySem.mem_of_lookup h2)
 ·have hy:scope.names.lookup y=some .cell∨scope.names.lookup y=some .free:=hy
  rcases hy with hy | hy
  ·exact xA hy
  ·exact absurd rfl (S.nofree _ (PySem.mem_of_lookup hy))
 ·exact Nat.le_of_lt (x.above y c (PySem.mem_of_lookup h))
 ·have hi:i < vs.length:=by
   unfold start at h2
   by_cases hi:i<vs.length
   ·exact hi
   ·rw [dH (by simpa using hi)] at h2
    rw[iC]at h2
    split at h2<;>cases h2
  have ha:vs[i]? = some v:=by
   unfold start at h2
   rw[List.getElem?_append_left (by simpa using hi),cA]at h2
   cases e:vs[i]? with
   |none=>rw[e]at h2;cases h2
   |some a=>rw[e]at h2;cases h2;rfl
  obtain⟨u,hu,rv⟩:=r.get ha
  have hp:ps[i]? = some y:=by
   rw[<-S.pre,List.getElem?_take_of_lt (by omega)];exact h1
  have ndP:ps.Nodup:=by rw[<-S.pre];exact S.nd.sublist (List.take_sublist _ _)
  refine⟨u,rv,?_⟩
  rcases S.par y (fJ hp)with k | k
  ·exact .inl ⟨k,rY ndP hp hu k⟩
  ·obtain ⟨c,e⟩:=xA (n:=s.heap.objs.size + 1) k
   refine .inr ⟨.inl k,c,e,?_⟩
   have q:=x.cell y c e
   rw[sA ndP hp hu (by show scope.names.lookup y≠_;rw[k];decide)]at q
   exact q
 ·exact e0.hok.fresh (Nat.le_of_lt (x.above y c (PySem.mem_of_lookup h)))
 ·unfold start
  show _=N.length
  rw[aC,aD,bC]
  omega
theorem aFy{CX:CXT}{k:Nat}{f:Addr}{name qual:Str}{params:Arguments}{body:List Stmt}{scope:Scope}{dV kV doc pm Ai ct oc:Value}{an od:Option Addr}
  {osl:Array (Option Value)} {N ps:List Str} {sp:Sp} (lk:K.lookup f=some ⟨oc,od,.func (PySem.W.fnOf name qual params body scope dV kV doc pm an Ai ct),osl⟩) (C7:PySem.W.codeIn K Ai qual=true) (S:FnScope N ps scope)
  (len:∀vs H Q E,sp vs H Q E->vs.length=ps.length)
  (A0:∀ (A:Around) (outer:List Env) (s:Shared) (H:Hp) (vs:List V) (Q:VK) (E:XK),Room k (A.deeper (envOfC qual scope s.heap.objs.size f Ai))→sp vs H Q E →
   ∃t,PSs (iS CX P w K mg base N qual scope f Ai A outer s H E) body t/\t { nx:=λ_ H'=>Q .non H',rt:=Q } (start N vs) H) :
  FnOk P w K mg base CX (k+1) f (PySem.W.fnOf name qual params body scope dV kV doc pm an Ai ct) ps sp:=by
 refine⟨len,λA outer s H args us vs Q E hr e0 hb r Ct=>?_⟩
 have hl:=len _ _ _ _ Ct
 have KX:K.In s.heap:=e0.mod.kin.keeps λb o e=>(e0.bs b o e).1
 have lim:s.heap.NoLimit:=e0.mod.nolimit.keeps λb o e=>(e0.bs b o e).1
 have Iz:∀y∈ps.zip us,scope.names.lookup y.1=some .local\/(scope.names.lookup y.1=some .cell/\((cellsFrom (s.heap.objs.size+1) scope.names []).lookup y.1).isSome=true):=λ⟨n,v⟩ hy=>by
  rcases S.par n (gY hy).1 with q | q
  ·exact .inl q
  ·exact .inr ⟨q,PySem.W.cellsFrom_some _ _ _ (.inl q)⟩
 refine codeAny_call_function hr.depth (KX _ _ lk) rfl S.co S.gen rfl (PySem.W.codeRec_of KX C7) (hb _ _ _ _ ?_)
 refine wpAny_newFunctionEnv_cells S.kind Iz λenv he s1 x=>?_
 subst he
 refine⟨lim.keeps x.toInCall.keep,codeAny_func ?_⟩
 obtain⟨t,ht,hq⟩:=A0 A outer s H vs Q E (hr.deeper _) Ct
 have I:Inv (iS CX P w K mg base N qual scope f Ai A outer s H E) [] (start N vs) H s1:=x4 S hr.hd e0 hl r x
 refine wpAny_mono (ht [] s1 (start N vs) H _ I hq) (λfl s' hs=>?_) λe s' hs=>hs
 have fin:∀{σ':St} {H':Hp} {v:V} {u:Value},Inv (iS CX P w K mg base N qual scope f Ai A outer s H E) [] σ' H' s'->RelV v u->Q v H'->CE outer P w H s Q u s':=
  λ{σ' H' v u} J rv q=>⟨v,H',J.os,J.bare,J.base,J.hok,rv,q⟩
 cases fl with
 |ret u =>
  obtain⟨v,σ',H',J,rv,q⟩:=hs
  exact fin J rv q
 |next =>
  obtain⟨σ',H',J,q⟩:=hs
  exact fin (v:=V.non) (u:=Value.none) J rfl q
 |brk =>
  obtain⟨_,_,_,q⟩:=hs
  exact False.elim q
 |cont =>
  obtain⟨_,_,_,q⟩:=hs
  exact False.elim q
section
variable{X:Cx}{x:Str}{p pos:Pos}{e:Expr}{es:List Expr}{t:TA}{id T:String}{r:List V->Hp->VK->Prop}
def tCB(r:List V->Hp->VK->Prop)(t:TA):TE:=λσ H Q=>t σ H λvs H1=>r vs H1 Q
theorem iz_(hc:CallR X (.builtin id) r)(hg:Gl X x)(hm:X.mg x=none)(hv:bootBuiltins x=some (.builtin id))(ha:PA X (e::es) t)(hn:x ≠ "__name__":=by decide)(B2:(x == ("__debug__" : Str))=false:=by decide)
  (he:starEach (e::es) X.env=(false,eval e X.env)::starEach es X.env:=by rfl) (A9:(backTo pos (starEach es X.env)).any (·.1)=false:=by rfl):PE X (.Call (.Name x p) (e::es) [] pos) (tCB r t):=by
 intro Aa s σ H Q I h
 refine wpAny_Call_Name_kw (pJ I hg hm hv ?_ hn B2)
 exact PyProof.Rows.callWith_builtin1 (dN (ha pos Aa s σ H _ I h) λus s1 ⟨vs,H1,I1,r1,q1⟩=>hc Aa s1 σ H1 vs us Q I1 r1 q1) he A9
theorem u0(hc:CallR X (.type T) r)(hg:Gl X x)(hm:X.mg x=none)(hv:bootBuiltins x=some (.type T))(ha:PA X (e::es) t)(hn:x ≠ "__name__":=by decide)(B2:(x == ("__debug__" : Str))=false:=by decide)
  (he:starEach (e::es) X.env=(false,eval e X.env)::starEach es X.env:=by rfl) (A9:(backTo pos (starEach es X.env)).any (·.1)=false:=by rfl):PE X (.Call (.Name x p) (e::es) [] pos) (tCB r t):=by
 intro Aa s σ H Q I h
 refine wpAny_Call_Name_kw (pJ I hg hm hv ?_ hn B2)
 exact PyProof.Rows.callWith_type1 (dN (ha pos Aa s σ H _ I h) λus s1 ⟨vs,H1,I1,r1,q1⟩=>hc Aa s1 σ H1 vs us Q I1 r1 q1) he A9
end
end L2
namespace HT
open PySem PyProof.Rows
section
open PySem.SeqAt
open PySem.AutoSeq1 (wpAny_loadPart')
open PySem.MeetsSeq PySem.MeetsSeq2 PySem.MeetsSeq3
end
section
variable{prog:Program}{w:World}{A:Around}{E:gV}{s:Shared}
def sIx(n d:Nat):Option Int->Nat
 |none=>d
 |some v=>if v<0 then(v+(n:Int)).toNat else min v.toNat n
end
end HT
namespace L2
open PySem PySem.Spec PyProof.Rows
abbrev TO:=St->Hp->(Option Int->Hp->Prop)->Prop
def PO(X:Cx)(e:Option Expr)(t:TO):Prop:=
 ∀(Aa:eL) (s:Shared) (σ:St) (H:Hp) (Q:Option Int->Hp->Prop),Inv X Aa σ H s->t σ H Q ->
  wpAny (model X.prog X.w) X.A (evalPart e X.env) (λu s'=>∃o H',Inv X Aa σ H' s'/\IsPart u o/\Q o H') X.xe s
def aIr:TO:=λ_ H Q=>Q none H
def aWo(t:TE):TO:=λσ H Q=>t σ H λx H1=>∃i,x=.int i/\Q (some i) H1
theorem yU{ns:List Int}:∀{us:List Value},Vals (ns.map V.int) us->IntsAre us ns:=by
 induction ns with
 |nil=>intro us r;rw[dG]at r;cases r;exact .nil
 |cons n ns ih =>
  intro us r
  rw[aO]at r
  cases r with
  |cons r1 r2 =>
   obtain⟨t,e⟩:=r1
   subst e
   exact .cons n t (ih r2)
section
variable{X:Cx}{e:Expr}{te:TE}{lo hi:Option Expr}{tl th:TO}{pos p2:Pos}
theorem aJl:PO X none aIr:=by
 intro Aa s σ H Q I h
 rw[evalPart_none]
 exact wpAny_pure ⟨none,H,I,.none,h⟩
theorem aJk(h:PE X e te):PO X (some e) (aWo te):=by
 intro Aa s σ H Q I hw
 rw[evalPart_some]
 refine dN (h Aa s σ H _ I hw) λu s1 ⟨x,H1,I1,r1,q1⟩=>?_
 obtain⟨i,rfl,q⟩:=q1
 obtain⟨t,rfl⟩:=r1
 exact⟨some i,H1,I1,.int i t,q⟩
def SlR(X:Cx)(r:V->Option Int->Option Int->Hp->VK->Prop):Prop:=
 ∀(Aa:eL) (s:Shared) (σ:St) (H:Hp) (x:V) (v vl vu:Value) (lo hi:Option Int) (sl:Addr) (Q:VK),Inv X Aa σ H s->RelV x v->s.heap.IsSliceOf sl vl vu .none->IsPart vl lo->IsPart vu hi->r x lo hi H Q ->
  ∃T id,typeLookup (.type T) "__getitem__" = pure (some (.builtin id))/\s.TypeIs v T/\wpAny (model X.prog X.w) X.A (getItem v (.ref sl)) (EP X Aa σ Q) X.xe s
theorem SlR.or{r r':V->Option Int->Option Int->Hp->VK->Prop}(h:SlR X r)(h':SlR X r'):SlR X (λx lo hi H Q=>r x lo hi H Q\/r' x lo hi H Q):=by
 intro Aa s σ H x v vl vu lo hi sl Q I rx hs pl pu q
 rcases q with q | q
 ·exact h Aa s σ H x v vl vu lo hi sl Q I rx hs pl pu q
 ·exact h' Aa s σ H x v vl vu lo hi sl Q I rx hs pl pu q
def tSl(r:V->Option Int->Option Int->Hp->VK->Prop)(te:TE)(tl th:TO):TE:=λσ H Q=>te σ H λx H1=>tl σ H1 λl H2=>th σ H2 λu H3=>r x l u H3 Q
theorem aDp{r:V->Option Int->Option Int->Hp->VK->Prop}(hr:SlR X r)(he:PE X e te)(hl:PO X lo tl)(hu:PO X hi th):PE X (.Subscript e (.Slice lo hi none p2) pos) (tSl r te tl th):=by
 intro Aa s σ H Q I h
 refine Subscript_ (dN (he Aa s σ H _ I h) λv s1 ⟨x,H1,I1,r1,q1⟩=>?_)
 refine wpAny_Slice (dN (hl Aa s1 σ H1 _ I1 q1) λvl s2 ⟨l,H2,I2,pl,q2⟩=>dN (hu Aa s2 σ H2 _ I2 q2) λvu s3 ⟨u,H3,I3,pu,q3⟩=>?_)
 rw[evalPart_none]
 refine wpAny_pure ?_
 have I4:Inv X Aa σ H3 { s3 with heap:=s3.heap.push { cls:=.type "slice",data:=.fields #[vl,vu,.none] } }:=I3.kept (t':=s3.toks) λb ob q=>aQ _ q
 obtain⟨T,id,hT,ht,hg⟩:=hr Aa { s3 with heap:=s3.heap.push { cls:=.type "slice",data:=.fields #[vl,vu,.none] } } σ H3 x v vl vu l u s3.heap.objs.size Q I4 r1 (Heap.IsSliceOf.new ..) pl pu q3
 show wpAny (model X.prog X.w) X.A (subscriptTail e (.Slice lo hi none p2) v (.ref s3.heap.objs.size)) (EP X Aa σ Q) X.xe { s3 with heap:=s3.heap.push { cls:=.type "slice",data:=.fields #[vl,vu,.none] } }
 exact tail_any (ops:=[.ref s3.heap.objs.size,v]) ht hT hg (by with_unfolding_all rfl)
def aGo(xs:List V)(lo hi:Option Int):List V:=(xs.drop (HT.sIx xs.length 0 lo)).take (HT.sIx xs.length xs.length hi-HT.sIx xs.length 0 lo)
theorem wX(xs:List V)(lo hi:Option Int):(aGo xs lo hi).length<=xs.length:=by
 unfold aGo
 rw[eG,aY]
 omega
end
def ixN(n:Nat)(i:Int):Option Nat:=if 0<=i then(if i<n then some i.toNat else none)else if -(n:Int)<=i then some (i+n).toNat else none
def atI{α:Type}(xs:List α)(i:Int):Option α:=(ixN xs.length i).bind λj=>xs[j]?
theorem j3{n:Nat}{i:Int}{j:Nat}(h:ixN n i=some j):seqIndex? i n=some j/\j<n /\ -(n:Int)<=i/\i<n:=by
 unfold ixN at h
 by_cases h0:0<=i
 ·rw [if_pos h0] at h
  by_cases h1:i<n
  ·rw [if_pos h1] at h
   have e:i.toNat=j:=ozI h
   exact⟨by rw[seqIndex_of h0 h1,e],by omega,by omega,h1⟩
  ·rw[if_neg h1]at h;cases h
 ·rw [if_neg h0] at h
  by_cases h1 : -(n:Int)<=i
  ·rw [if_pos h1] at h
   have e:(i+n).toNat=j:=ozI h
   exact⟨by rw[seqIndex_neg (by omega) h1,e],by omega,h1,by omega⟩
  ·rw[if_neg h1]at h;cases h
theorem uX{α:Type}{xs:List α}{i:Int}{v:α}(h:atI xs i=some v):∃j,seqIndex? i xs.length=some j/\xs[j]? = some v/\j<xs.length /\ -(xs.length:Int)<=i/\i<xs.length:=by
 unfold atI at h
 cases e:ixN xs.length i with
 |none=>rw[e]at h;cases h
 |some j =>
  rw[e]at h
  obtain⟨h1,h2,h3,h4⟩:=j3 e
  exact⟨j,h1,h,h2,h3,h4⟩
theorem rO{α:Type}{xs:List α}{j:Nat}{v:α}(h:xs[j]? = some v):atI xs (j:Int)=some v:=by
 have hj:j<xs.length:=(bG.mp h).1
 have e:ixN xs.length (j:Int)=some j:=by
  unfold ixN
  rw[if_pos (by omega),if_pos (by omega)];simp
 unfold atI;rw[e];exact h
def jC(b:Expr):Prop:=∀o i,subscripted b false o i=operate [o,i] (getItem o i)
def IxR(X:Cx)(r:R2):Prop:=
 ∀(value slice:Expr) (Aa:eL) (s:Shared) (σ:St) (H:Hp) (x y:V) (v u:Value) (Q:VK),Inv X Aa σ H s->RelV x v->RelV y u->r x y H Q ->
  subscripted slice false v u=operate [v,u] (getItem v u)->wpAny (model X.prog X.w) X.A (subscriptTail value slice v u) (EP X Aa σ Q) X.xe s
def MtR(X:Cx)(id:String)(r:V->List V->Hp->VK->Prop):Prop:=
 ∀(Aa:eL) (s:Shared) (σ:St) (H:Hp) (x:V) (xs:List V) (v:Value) (us:List Value) (Q:VK),Inv X Aa σ H s->RelV x v->Vals xs us->r x xs H Q ->
  wpAny (model X.prog X.w) X.A (call (.builtin id) (v::us)) (EP X Aa σ Q) X.xe s
section
variable{X:Cx}{a b:Expr}{ta tb:TE}{pos:Pos}
theorem IxR.or{r r':R2}(h:IxR X r)(h':IxR X r'):IxR X (λx y H Q=>r x y H Q\/r' x y H Q):=by
 intro value slice Aa s σ H x y v u Q I rx ry q hs
 rcases q with q | q
 ·exact h value slice Aa s σ H x y v u Q I rx ry q hs
 ·exact h' value slice Aa s σ H x y v u Q I rx ry q hs
theorem aDr{r:R2}(hr:IxR X r)(ha:PE X a ta)(hb:PE X b tb)(hs:jC b):PE X (.Subscript a b pos) (tOp r ta tb):=by
 intro Aa s σ H Q I h
 exact Subscript_ (aUr ha hb I h λv u s2 x y H2 I2 rx ry q=>hr a b Aa s2 σ H2 x y v u Q I2 rx ry q (hs _ _))
def aCz(K:dA):R2:=λx y H Q=>∃p xs i v,x=.ref p/\y=.int i/\SqL K H p xs/\atI xs i=some v/\Q v H
def aQu(K:dA):R2:=λx y H Q=>∃p xs i v,x=.ref p/\y=.int i/\SqT K H p xs/\atI xs i=some v/\Q v H
def aXl:R2:=λx y H Q=>∃z i c,x=.str z/\y=.int i/\z.length<=sizeLine/\atI z.cps.toList i=some c/\Q (.str ⟨#[c]⟩) H
theorem j0:IxR X (aCz X.K):=by
 intro value slice Aa s σ H x y v u Q I rx ry h hs
 obtain⟨p,xs,i,z,rfl,rfl,hq,he,q⟩:=h
 cases rx
 obtain⟨t,rfl⟩:=ry
 obtain⟨its,r,pl,hz⟩:=I.list hq
 obtain⟨j,h1,h2,h3,h4,h5⟩:=uX he
 obtain⟨w,ew,rw'⟩:=r.get h2
 have hl:=r.length
 have hn:=kL
 have fin:EP X Aa σ Q w s:=⟨z,H,I,rw',q⟩
 by_cases h0:0<=i
 ·have hj:i.toNat=j:=by
   rw[seqIndex_of h0 h5]at h1
   exact ozI h1
  exact item_listR pl.isList h0 (by omega) (by rw[hj];simpa using ew) fin hs
 ·have hj:(i + (its.toArray.size:Int)).toNat=j:=by
   rw[seqIndex_neg (by omega) h4]at h1
   rw[bN,<-hl]
   exact ozI h1
  exact subscriptTail_builtinR (x:=w) pl.isList.typeIs slot_list_getitem.lookup
   (wpAny_getItem_list_neg (Q:=λr s'=>r=w/\EP X Aa σ Q r s') pl.isList (by omega) (by rw[bN]<;>omega) (by omega) (by rw[hj];simpa using ew) ⟨rfl,fin⟩) hs
theorem aTj:IxR X (aQu X.K):=by
 intro value slice Aa s σ H x y v u Q I rx ry h hs
 obtain⟨p,xs,i,z,rfl,rfl,hq,he,q⟩:=h
 cases rx
 obtain⟨t,rfl⟩:=ry
 obtain⟨its,r,pl,hz⟩:=I.tuple hq
 obtain⟨j,h1,h2,h3,h4,h5⟩:=uX he
 obtain⟨w,ew,rw'⟩:=r.get h2
 have hl:=r.length
 have hn:=kL
 have fin:EP X Aa σ Q w s:=⟨z,H,I,rw',q⟩
 exact subscriptTail_builtinR (x:=w) pl.typeIs slot_tuple_getitem.lookup
  (getItem_tuple (j:=j) (Q:=λr s'=>r=w/\EP X Aa σ Q r s') pl (by omega) (by omega) (by rw[bN,<-hl];exact h1) (by simpa using ew) ⟨rfl,fin⟩) hs
theorem aTk:IxR X aXl:=by
 intro value slice Aa s σ H x y v u Q I rx ry h hs
 obtain⟨z,i,c,rfl,rfl,hz,he,q⟩:=h
 obtain⟨t,rfl⟩:=rx
 obtain⟨t',rfl⟩:=ry
 obtain⟨j,h1,h2,h3,h4,h5⟩:=uX he
 have hl:z.cps.toList.length=z.length:=by simp[Str.length]
 rw[hl]at h1 h4 h5
 have hn:=kL
 exact tail_any (typeIs_str s z t) slot_str_getitem.lookup (getItem_str (c:=c) (by
  have e1:decide (i < -(2^63:Int))=false:=dzF (by omega)
  have e2:decide (i>=2^63)=false:=dzF (by omega)
  rw[e1,e2,Bool.or_false]) (by rw[h1];simpa using h2) ⟨.str ⟨#[c]⟩,H,I.tok _,⟨_,rfl⟩,q⟩) hs
theorem yN(its:List Value)(n j:Nat)(u:Value):Obj.mapSeq (·.setIfInBounds j u) { cls:=.type "list",data:=.seq its.toArray n }={ cls:=.type "list",data:=.seq (its.set j u).toArray n }:=by
 simp[Obj.mapSeq]
theorem Inv.lst{Aa:eL}{σ:St}{H:Hp}{s:Shared}{p:Addr}{xs:List V}(I:Inv X Aa σ H s)(h:H p=some (.lst xs)) :
  ∃(its:List Value) (n:Nat),Vals xs its/\s.heap.get? p=some { cls:=.type "list",data:=.seq its.toArray n }/\xs.length<=sizeLine:=by
 obtain⟨z,its,n,r,e⟩:=I.hok p _ h
 exact⟨its,n,r,e,z⟩
theorem Inv.lstUpd{Aa:eL}{σ:St}{H:Hp}{s:Shared}{p:Addr}{xs ys:List V}{its its':List Value}{n n':Nat}{f:Obj->Obj}(I:Inv X Aa σ H s)(h:H p=some (.lst xs))
  (ho:s.heap.get? p=some { cls:=.type "list",data:=.seq its.toArray n }) (hf:f { cls:=.type "list",data:=.seq its.toArray n }={ cls:=.type "list",data:=.seq its'.toArray n' }) (r:Vals ys its') (hz:ys.length<=sizeLine) (t:Nat) :
  Inv X Aa σ (upd H p (.lst ys)) { s with heap:=s.heap.update p f,toks:=t }:=by
 have e:(s.heap.update p f).get? p=some { cls:=.type "list",data:=.seq its'.toArray n' }:=by
  rw[Heap.get?_update_self f ho (by rw[hf]<;>rfl),hf]
 refine I.write (x:=p) (e:=p) (by rw[h];trivial) (.inl rfl) (λb u hb q=>(cD _ _ (Ne.symm hb)).trans q) ⟨_,e⟩ ?_
 exact⟨hz,its',n',r,e⟩
def aOi:V->V->V->Hp->(Hp->Prop)->Prop:=λo i v H Q=>∃p xs k j,o=.ref p/\i=.int k/\H p=some (.lst xs)/\ixN xs.length k=some j/\Q (upd H p (.lst (xs.set j v)))
theorem aCq:bAj X aOi:=by
 intro Aa s σ H o i v ov iv u Q I ro ri rv h
 obtain⟨p,xs,k,j,rfl,rfl,hp,hj,q⟩:=h
 cases ro
 obtain⟨t,rfl⟩:=ri
 obtain⟨its,n,r,ho,hz⟩:=I.lst hp
 obtain⟨h1,h2,h3,h4⟩:=j3 hj
 have hl:=r.length
 have hn:=kL
 have I':Inv X Aa σ (upd H p (.lst (xs.set j v))) { s with heap:=s.heap.update p (Obj.mapSeq (·.setIfInBounds j u)) }:=
  I.lstUpd hp ho (yN its n j u) (r.set rv j) (by rw[bI];exact hz) s.toks
 by_cases h0:0<=k
 ·have hk:k.toNat=j:=by
   rw[seqIndex_of h0 h4]at h1
   exact ozI h1
  exact PySem.W.ki_setAt ho h0 (by omega) (by rw[bN,<-hl];exact h4) (by rw[hk];exact⟨_,I',q⟩)
 ·have hk:(k + (its.toArray.size:Int)).toNat=j:=by
   rw[seqIndex_neg (by omega) h3]at h1
   rw[bN,<-hl]
   exact ozI h1
  exact PySem.W.ki_setBack ho (by omega) (by rw[bN,<-hl];exact h3) (by omega) (by rw[hk];exact⟨_,I',q⟩)
theorem sR(lo hi:Option Int)(n:Nat):(sliceBounds lo hi none n).1=((HT.sIx n 0 lo:Nat):Int)/\(sliceBounds lo hi none n).2.1=((HT.sIx n n hi:Nat):Int)/\(sliceBounds lo hi none n).2.2=1:=by
 refine⟨?_,?_,rfl⟩
 ·cases lo with
  |none=>simp[sliceBounds,HT.sIx]
  |some i =>
   simp only[sliceBounds,HT.sIx,Option.getD_none,show(1:Int)>0 by decide,if_true]
   by_cases h:i<0
   ·simp only[h,if_true]<;>omega
   ·simp only[h,if_false]<;>omega
 ·cases hi with
  |none=>simp[sliceBounds,HT.sIx]
  |some i =>
   simp only[sliceBounds,HT.sIx,Option.getD_none,show(1:Int)>0 by decide,if_true]
   by_cases h:i<0
   ·simp only[h,if_true]<;>omega
   ·simp only[h,if_false]<;>omega
theorem qK(its:List Value)(lo hi:Option Int):slicePick its.toArray lo hi none=((its.drop (HT.sIx its.length 0 lo)).take (HT.sIx its.length its.length hi-HT.sIx its.length 0 lo)).toArray:=by
 obtain⟨h1,h2,h3⟩:=sR lo hi its.toArray.size
 unfold slicePick
 rw[h1,h2,h3]
 simp only[sliceRange_one,pick_run,bN]<;>rfl
def aXi(K:dA):V->Option Int->Option Int->Hp->VK->Prop:=λx lo hi H Q=>∃a xs,x=.ref a/\SqL K H a xs/\∀p,H p=none->Q (.ref p) (upd H p (.lst (aGo xs lo hi)))
theorem aIv:SlR X (aXi X.K):=by
 intro Aa s σ H x v vl vu lo hi sl Q I rx hs pl pu h
 obtain⟨a,xs,rfl,hx,q⟩:=h
 cases rx
 obtain⟨its,r,ht,hz⟩:=I.list hx
 have Ak:=r.length
 refine⟨"list",_,slot_list_getitem.lookup,ht.isList.typeIs,?_⟩
 refine wpAny_getItem_list_slice ht.isList hs pl pu .none (by simp) ?_ (by rw[bN]<;>omega)
 rw[qK,<-Ak]
 refine⟨.ref s.heap.objs.size,_,I.laid (t':=s.toks) (o:=.lst (aGo xs lo hi)) (λb ob q=>aQ _ q) (aV _) ?_,rfl,q _ (I.hok.fresh (aV _))⟩
 exact⟨nzL (wX xs lo hi) hz,_,0,(r.drop (HT.sIx xs.length 0 lo)).take (HT.sIx xs.length xs.length hi-HT.sIx xs.length 0 lo),bO _ rfl⟩
def jF:V->Bool
 | .non=>true
 | .bl _=>true
 | .int _=>true
 | .str _=>true
 |_=>false
def eqV:V->V->Bool
 | .non,.non=>true
 | .bl a,.bl b=>a == b
 | .bl a,.int b=>(if a then 1 else 0) == b
 | .int a,.bl b=>a == (if b then 1 else 0)
 | .int a,.int b=>a == b
 | .str a,.str b=>a == b
 |_,_=>false
theorem aUi{A:Around}{s:Shared}{y x:V}{u v:Value}(ry:RelV y u)(rx:RelV x v)(fy:jF y=true)(fx:jF x=true):SeqAt.EqAt A s u v (eqV y x):=by
 cases y with
 |non =>
  cases ry
  cases x with
  |non=>cases rx;exact SeqAt.EqAt.same _
  |bl b=>cases rx;exact SeqAt.EqAt.none_bool b
  |int b=>obtain⟨t,rfl⟩:=rx;exact SeqAt.EqAt.none_int b t
  |str b=>obtain⟨t,rfl⟩:=rx;exact SeqAt.EqAt.none_str b t
  |_=>exact absurd (show false=true from fx) aW
 |bl a =>
  cases ry
  cases x with
  |non=>cases rx;exact SeqAt.EqAt.bool_none a
  |bl b=>cases rx;exact SeqAt.EqAt.bool_bool a b
  |int b=>obtain⟨t,rfl⟩:=rx;exact SeqAt.EqAt.bool_int a b t
  |str b=>obtain⟨t,rfl⟩:=rx;exact SeqAt.EqAt.bool_str a b t
  |_=>exact absurd (show false=true from fx) aW
 |int a =>
  obtain⟨t',rfl⟩:=ry
  cases x with
  |non=>cases rx;exact SeqAt.EqAt.int_none a t'
  |bl b=>cases rx;exact SeqAt.EqAt.int_bool a t' b
  |int b=>obtain⟨t,rfl⟩:=rx;exact SeqAt.EqAt.int_int a t' b t
  |str b=>obtain⟨t,rfl⟩:=rx;exact SeqAt.EqAt.int_str a t' b t
  |_=>exact absurd (show false=true from fx) aW
 |str a =>
  obtain⟨t',rfl⟩:=ry
  cases x with
  |non=>cases rx;exact SeqAt.EqAt.str_none a t'
  |bl b=>cases rx;exact SeqAt.EqAt.str_bool a t' b
  |int b=>obtain⟨t,rfl⟩:=rx;exact SeqAt.EqAt.str_int a t' b t
  |str b=>obtain⟨t,rfl⟩:=rx;exact SeqAt.EqAt.str_str a t' b t
  |_=>exact absurd (show false=true from fx) aW
 |_=>exact absurd (show false=true from fy) aW
def eqU(x:V)(u:Value):Bool:=match u with
 | .none=>eqV .non x
 | .bool b=>eqV (.bl b) x
 | .int i _=>eqV (.int i) x
 | .str z _=>eqV (.str z) x
 |_=>false
theorem aGg{x y:V}{u:Value}(r:RelV y u)(f:jF y=true):eqU x u=eqV y x:=by
 cases y with
 |non=>cases r;rfl
 |bl b=>cases r;rfl
 |int i=>obtain⟨t,rfl⟩:=r;rfl
 |str z=>obtain⟨t,rfl⟩:=r;rfl
 |_=>exact absurd (show false=true from f) aW
theorem kg_{x:V}:∀{xs:List V} {us:List Value},Vals xs us->xs.all jF=true->us.any (eqU x)=xs.any λy=>eqV y x
 |_,_,.nil,_=>rfl
 |y::xs,u::us,.cons r t,f=>by
  rw[gC,bY]at f
  rw[dE,dE,aGg r f.1,kg_ t f.2]
theorem hj_{A:Around}{s:Shared}{x:V}{v:Value}(rx:RelV x v)(fx:jF x=true):∀{xs:List V} {us:List Value},Vals xs us->xs.all jF=true->∀u∈us,SeqAt.EqAt A s u v (eqU x u)
 |_,_,.nil,_=>λu hu=>by cases hu
 |y::xs,u::us,.cons r t,f=>λu' hu=>by
  rw[gC,bY]at f
  rcases aI.mp hu with rfl | hu
  ·rw[aGg r f.1];exact aUi r rx f.1 fx
  ·exact hj_ rx fx t f.2 u' hu
def inV(x:V)(xs:List V):Bool:=xs.any λy=>eqV y x
def rIn(K:dA)(neg:Bool):R2:=λx y H Q=>∃p xs,y=.ref p/\(SqL K H p xs\/SqT K H p xs)/\jF x=true/\xs.all jF=true/\Q (.bl (if neg then !inV x xs else inV x xs)) H
theorem u7:OpR X (compareOp .In) (rIn X.K false):=by
 intro Aa s σ H x y v u Q I rx ry h
 obtain⟨p,xs,rfl,hq,fx,fs,q⟩:=h
 cases ry
 rcases hq with hq | hq
 ·obtain ⟨its,r,pl,hz⟩:=I.list hq
  refine SeqAt.in_listAt (eqU x) pl.isList (λw hw=>hj_ rx fx r fs w (by simpa using hw)) ⟨.bl _,H,I,rfl,?_⟩
  rw[show its.toArray.any (eqU x)=its.any (eqU x) by simp,kg_ r fs]
  exact q
 ·obtain ⟨its,r,pl,hz⟩:=I.tuple hq
  refine SeqAt.in_tupleAt (eqU x) pl (λw hw=>hj_ rx fx r fs w (by simpa using hw)) ⟨.bl _,H,I,rfl,?_⟩
  rw[show its.toArray.any (eqU x)=its.any (eqU x) by simp,kg_ r fs]
  exact q
theorem tI:OpR X (compareOp .NotIn) (rIn X.K true):=by
 intro Aa s σ H x y v u Q I rx ry h
 obtain⟨p,xs,rfl,hq,fx,fs,q⟩:=h
 cases ry
 rcases hq with hq | hq
 ·obtain ⟨its,r,pl,hz⟩:=I.list hq
  refine SeqAt.notIn_listAt (eqU x) pl.isList (λw hw=>hj_ rx fx r fs w (by simpa using hw)) ⟨.bl _,H,I,rfl,?_⟩
  rw[show its.toArray.any (eqU x)=its.any (eqU x) by simp,kg_ r fs]
  exact q
 ·obtain ⟨its,r,pl,hz⟩:=I.tuple hq
  refine SeqAt.notIn_tupleAt (eqU x) pl (λw hw=>hj_ rx fx r fs w (by simpa using hw)) ⟨.bl _,H,I,rfl,?_⟩
  rw[show its.toArray.any (eqU x)=its.any (eqU x) by simp,kg_ r fs]
  exact q
theorem uT:CallR X (.builtin "len") (λxs H Q=>∃p ys,xs=[.ref p]/\(SqL X.K H p ys\/SqT X.K H p ys)/\Q (.int ys.length) H):=by
 intro Aa s σ H xs us Q I r h
 obtain⟨p,ys,rfl,hq,q⟩:=h
 obtain⟨u,rfl,rx⟩:=gO r
 cases rx
 have hn:=kL
 rcases hq with hq | hq
 ·obtain ⟨its,r',pl,hz⟩:=I.list hq
  have Ak:=r'.length
  exact Calls.call_len_list pl.isList (by simp only[bN]<;>omega) ⟨.int ys.length,H,I.tok _,⟨s.toks+1,by rw[bN,Ak]⟩,q⟩
 ·obtain ⟨its,r',pl,hz⟩:=I.tuple hq
  have Ak:=r'.length
  exact len_tuple pl (by simp only[bN]<;>omega) ⟨.int ys.length,H,I.tok _,⟨s.toks+1,by rw[bN,Ak]⟩,q⟩
theorem uS:CallR X (.builtin "len") (λxs H Q=>∃z,xs=[.str z]/\z.length<=sizeLine/\Q (.int z.length) H):=by
 intro Aa s σ H xs us Q I r h
 obtain⟨z,rfl,hz,q⟩:=h
 obtain⟨u,rfl,t,rfl⟩:=gO r
 have hn:=kL
 exact len_str (by omega) ⟨.int z.length,H,I.tok _,⟨_,rfl⟩,q⟩
theorem CallR.or{f:Value}{r r':List V->Hp->VK->Prop}(h:CallR X f r)(h':CallR X f r'):CallR X f (λxs H Q=>r xs H Q\/r' xs H Q):=by
 intro Aa s σ H xs us Q I rs q
 rcases q with q | q
 ·exact h Aa s σ H xs us Q I rs q
 ·exact h' Aa s σ H xs us Q I rs q
def tyV(K:dA)(T:String)(x:V)(H:Hp):Prop:=match x with
 | .str _=>T = "str"
 | .int _=>T = "int"
 | .ref p => (T = "list" ∧ ∃ xs, SqL K H p xs) ∨ (T = "tuple" ∧ ∃ o, K.lookup p = some o ∧ o.cls = .type "tuple" ∧ o.dict = none) ∨
   (T = "dict" /\ ((∃kvs,H p=some (.dK kvs))\/∃kvs,H p=some (.dT kvs)))\/(T = "set" /\ ∃S n,H p=some (.set S n))
 |_=>False
theorem xS{Aa:eL}{σ:St}{H:Hp}{s:Shared}{T:String}{x:V}{v:Value}(I:Inv X Aa σ H s)(r:RelV x v)(ty:tyV X.K T x H) :
  s.TypeIs v T/\∀a,v=.ref a->∃ob,s.heap.get? a=some ob/\ob.dict=none:=by
 cases x with
 |str z =>
  obtain⟨t,rfl⟩:=r
  cases(show T = "str" from ty)
  exact⟨typeIs_str s z t,λ_ e=>nomatch e⟩
 |int i =>
  obtain⟨t,rfl⟩:=r
  cases(show T = "int" from ty)
  exact⟨typeIs_int s i t,λ_ e=>nomatch e⟩
 |ref p =>
  cases r
  rcases ty with⟨rfl,xs,hq⟩ | ⟨rfl,o,hk,hc,hd⟩ | ⟨rfl,hk⟩ | ⟨rfl,S,n,hk⟩
  ·obtain ⟨its,_,pl,_⟩:=I.list hq
   refine⟨pl.isList.typeIs,λa e=>?_⟩
   cases e
   obtain⟨o,n,e,c,hd,_⟩:=pl
   exact⟨o,e,hd⟩
  ·refine ⟨⟨o,I.kIn p o hk,hc⟩,fun a e => ?_⟩
   cases e
   exact⟨o,I.kIn _ o hk,hd⟩
  ·have z:∃ o,s.heap.get? p=some o∧o.ExactDict:=by
    rcases hk with⟨kvs,hk⟩ | ⟨kvs,hk⟩
    ·obtain ⟨_,_,_,_,o,_,_,e,ex,_⟩:=I.hok p _ hk
     exact⟨o,e,ex⟩
    ·obtain ⟨_,_,_,_,o,_,_,e,ex,_⟩:=I.hok p _ hk
     exact⟨o,e,ex⟩
   obtain⟨o,e,ex⟩:=z
   refine⟨⟨o,e,ex.1⟩,λa e2=>?_⟩
   cases e2
   exact⟨o,e,ex.2.1⟩
  ·obtain ⟨o,_,_,_,e,ex,_⟩:=I.hok p _ hk
   refine⟨⟨o,e,ex.1⟩,λa e2=>?_⟩
   cases e2
   exact⟨o,e,ex.2.1⟩
 |_=>exact False.elim ty
def aWv(K:dA)(T:String)(r:V->List V->Hp->VK->Prop)(to:TE):TE:=λσ H Q=>to σ H λx H1=>tyV K T x H1/\r x [] H1 Q
def tBM(K:dA)(T:String)(r:V->List V->Hp->VK->Prop)(to:TE)(t:TA):TE:=λσ H Q=>to σ H λx H1=>tyV K T x H1/\t σ H1 λxs H2=>r x xs H2 Q
variable{o e:Expr}{es:List Expr}{to:TE}{t:TA}{name:Str}{apos cpos:Pos}{T id:String}{r:V->List V->Hp->VK->Prop}
theorem aRl(pa:PlainAttrs T)(slot:Slot T name id)(Km:typeOf (.builtin id)=pure (.type "method_descriptor"))(hm:MtR X id r)(ho:PE X o to)
  (A1:attributeBase o name X.env (eval o X.env)=eval o X.env:=by rfl) (A7:(apos.endLine == cpos.line)=true:=by rfl):PE X (.Call (.Attribute o name apos) [] [] cpos) (aWv X.K T r to):=by
 intro Aa s σ H Q I h
 refine wpAny_Call_method0_late A1 A7 (dN (ho Aa s σ H _ I h) λv s1 ⟨x,H1,I1,r1,ty,q1⟩=>?_)
 obtain⟨h1,h2⟩:=xS I1 r1 ty
 exact⟨T,id,pa,slot,Km,h1,h2,Calls.callWith_builtin rfl (PySem.evalArgs_none (hm Aa s1 σ H1 x [] v [] Q I1 r1 .nil q1))⟩
theorem jm_(pa:PlainAttrs T)(slot:Slot T name id)(Km:typeOf (.builtin id)=pure (.type "method_descriptor"))(hm:MtR X id r)(ho:PE X o to)(ha:PA X (e::es) t)
  (A1:attributeBase o name X.env (eval o X.env)=eval o X.env:=by rfl)
  (Ci:((backTo cpos (starEach (e :: es) X.env)).all (fun x => !x.1) && (backToKw cpos (keywordEach [] X.env)).all (fun x=>x.1.isSome)
   && decide ((e::es).length+([]:List Keyword).length+(if([]:List Keyword).isEmpty then 0 else 1)<30))=true:=by rfl)
  (A7:(apos.endLine == cpos.line)=true:=by rfl) (hs:starEach (e::es) X.env=(false,eval e X.env)::starEach es X.env:=by rfl) (Ay:(backTo cpos (starEach es X.env)).any (·.1)=false:=by rfl) :
  PE X (.Call (.Attribute o name apos) (e::es) [] cpos) (tBM X.K T r to t):=by
 intro Aa s σ H Q I h
 refine wpAny_Call_method_late A1 Ci A7 rfl (dN (ho Aa s σ H _ I h) λv s1 ⟨x,H1,I1,r1,ty,q1⟩=>?_)
 obtain⟨h1,h2⟩:=xS I1 r1 ty
 refine⟨T,id,pa,slot,Km,h1,h2,?_⟩
 have hA:=ha cpos Aa s1 σ H1 _ I1 q1
 rw[hs]at hA ⊢
 refine Calls.callWith_builtin (by show(false||(backTo cpos (starEach es X.env)).any (·.1))=false;rw[Ay]<;>rfl) (Calls.evalArgs_plain ?_)
 exact dN hA λus s2 ⟨vs,H2,I2,r2,q2⟩=>hm Aa s2 σ H2 x vs v us Q I2 r1 r2 q2
end
def MtM(X:Cx)(id:String)(r:V->List V->Hp->VK->Prop):Prop:=
 ∀(Aa:eL) (s:Shared) (σ:St) (H:Hp) (x:V) (xs:List V) (v:Value) (us:List Value) (Q:VK),Inv X Aa σ H s->RelV x v->Vals xs us->r x xs H Q ->
  wpAny (model X.prog X.w) X.A (call (.builtin id) (v::us)) (EP X Aa σ Q) X.xe s
theorem Vals.one:∀{x:V} {us:List Value},Vals [x] us->∃u,us=[u]/\RelV x u
 |_,_,.cons r .nil=>⟨_,rfl,r⟩
theorem Vals.zero:∀{us:List Value},Vals [] us->us=[]
 |_,.nil=>rfl
theorem Vals.dropLast{xs:List V}{us:List Value}(h:Vals xs us):Vals xs.dropLast us.dropLast:=by
 induction h with
 |nil=>exact .nil
 |cons r t ih =>
  cases t with
  |nil=>exact .nil
  |cons q t'=>exact .cons r ih
theorem Vals.reverse{xs:List V}{us:List Value}(h:Vals xs us):Vals xs.reverse us.reverse:=by
 induction h with
 |nil=>exact .nil
 |cons r t ih=>rw[List.reverse_cons,List.reverse_cons];exact Vals.append ih (.cons r .nil)
theorem Vals.rep{xs:List V}{us:List Value}(h:Vals xs us):∀k:Nat,Vals (List.replicate k xs).flatten (List.replicate k us).flatten
 | 0=>.nil
 |k+1=>by
  rw[dI,dI,dR,dR]
  exact Vals.append h (Vals.rep h k)
theorem yZ{α:Type}(l:List α):l.eraseIdx (l.length-1)=l.dropLast:=by
 induction l with
 |nil=>rfl
 |cons a r ih =>
  cases r with
  |nil=>rfl
  |cons b r =>
   have e:(a::b::r).length-1=((b::r).length-1)+1:=by
    have h1:(a::b::r).length=r.length+2:=rfl
    have h2:(b::r).length=r.length+1:=rfl
    omega
   rw[e,List.eraseIdx_cons_succ,ih]
   all_goals rfl
theorem rG(its:List Value):∀(k:Nat) (Ah:List Value),
  List.foldl (λx1 x2=>x1++x2) Ah.toArray (List.replicate k its.toArray)=(Ah++(List.replicate k its).flatten).toArray
 | 0,Ah=>by simp
 |k+1,Ah=>by
  have e:Ah.toArray++its.toArray=(Ah++its).toArray:=by simp
  have e2:(Ah++its)++(List.replicate k its).flatten=Ah++(List.replicate (k+1) its).flatten:=by
   rw[dI,dR,aK]
  rw[<-e2,<-rG its k (Ah++its),<-e,dI,List.foldl_cons]
section
variable{X:Cx}{Aa:eL}{σ:St}{H:Hp}{s:Shared}{l b:Addr}{xs ys zs:List V}
theorem Inv.lset{its its':List Value}{n:Nat}{f:Array Value->Array Value}{t':Nat}(I:Inv X Aa σ H s)(hH:H l=some (.lst xs))
  (e:s.heap.get? l=some { cls:=.type "list",data:=.seq its.toArray n }) (hf:f its.toArray=its'.toArray) (hv:Vals ys its') (hz:ys.length<=sizeLine) :
  Inv X Aa σ (upd H l (.lst ys)) { s with heap:=s.heap.update l (Obj.mapSeq f),toks:=t' }:=by
 have q:=PySem.IsL.update e f
 rw[hf]at q
 refine I.write (x:=l) (e:=l) (by rw[hH];exact trivial) (.inl rfl) (λb' u hb hu=>(cD s.heap (Obj.mapSeq f) (Ne.symm hb)).trans hu) ⟨_,q⟩ ?_
 exact⟨hz,its',_,hv,q⟩
theorem Inv.lnew{its:List Value}{t':Nat}(I:Inv X Aa σ H s)(hv:Vals ys its)(hz:ys.length<=sizeLine) :
  Inv X Aa σ (upd H s.heap.objs.size (.lst ys)) { s with heap:=s.heap.push { cls:=.type "list",data:=.seq its.toArray },toks:=t' }:=
 I.laid (λ_ _ q=>aQ _ q) (aV _) ⟨hz,its,0,hv,bO _ rfl⟩
theorem Inv.fresh(I:Inv X Aa σ H s):H s.heap.objs.size=none:=I.hok.fresh (aV _)
theorem Inv.lstM(I:Inv X Aa σ H s)(hH:H l=some (.lst xs)):xs.length<=sizeLine/\∃(its:List Value) (n:Nat),Vals xs its/\xs.length=its.length/\s.heap.get? l=some { cls:=.type "list",data:=.seq its.toArray n }:=by
 obtain⟨z,its,n,r,e⟩:=I.hok l _ hH
 exact⟨z,its,n,r,r.length,e⟩
theorem aEm{n:Nat}(h:n<=sizeLine):Builtin.List.listTooLong n=false:=by
 unfold Builtin.List.listTooLong
 exact dzF (by omega)
end
section
variable{X:Cx}
def d7:V->List V->Hp->VK->Prop:=λx vs H Q=>∃l xs y,x=.ref l/\vs=[y]/\H l=some (.lst xs)/\xs.length<sizeLine/\Q .non (upd H l (.lst (xs++[y])))
theorem er_:MtM X "list.append" d7:=by
 intro Aa s σ H x vs v us Q I rx rv h
 obtain⟨l,xs,y,rfl,rfl,hH,hz,q⟩:=h
 cases rx
 obtain⟨u,rfl,ru⟩:=rv.one
 obtain⟨z,its,n,r,hl,e⟩:=I.lstM hH
 refine call_meets F.slot_list_append ⟨_,e,rfl⟩ F.entry_list_append (F.args_list_append_2 _ _) (PySem.list_append l its.toArray n u (by rw[bN];omega)) ⟨e,?_⟩
 refine⟨.non,_,I.lset (its':=its++[u]) hH e (by simp) (r.append (.cons ru .nil)) ?_,rfl,q⟩
 rw[aC,bT]
 omega
def aXk:V->List V->Hp->VK->Prop:=λx vs H Q=>∃l xs y,x=.ref l/\vs=[]/\H l=some (.lst xs)/\xs[xs.length-1]? = some y/\Q y (upd H l (.lst xs.dropLast))
theorem aSw:MtM X "list.pop" aXk:=by
 intro Aa s σ H x vs v us Q I rx rv h
 obtain⟨l,xs,y,rfl,rfl,hH,hy,q⟩:=h
 cases rx
 have hus:=rv.zero
 subst hus
 obtain⟨z,its,n,r,hl,e⟩:=I.lstM hH
 obtain⟨u,hu,ru⟩:=r.get hy
 have hy':its.toArray[its.toArray.size-1]? = some u:=by
  show its.toArray[its.length-1]? = some u
  rw[<-Array.getElem?_toList,<-hl]
  exact hu
 refine call_meets F.slot_list_pop ⟨_,e,rfl⟩ F.entry_list_pop (F.args_list_pop_1 _) (MeetsSeq.list_pop_last l its.toArray n u hy' (by rw[bN];omega)) ⟨e,?_⟩
 refine⟨y,_,I.lset (its':=its.dropLast) hH e ?_ r.dropLast ?_,ru,q⟩
 ·show its.toArray.eraseIdxIfInBounds (its.toArray.size - 1)=its.dropLast.toArray
  rw[bN,List.eraseIdxIfInBounds_toArray,yZ]
 ·rw [List.length_dropLast]
  omega
def bCn:R2:=λx y H Q=>∃l b xs zs,x=.ref l/\y=.ref b/\H l=some (.lst xs)/\H b=some (.lst zs)/\xs.length+zs.length<=sizeLine/\∀p,H p=none->Q (.ref p) (upd H p (.lst (xs++zs)))
theorem aRv:OpR X (binaryOp .Add) bCn:=by
 intro Aa s σ H x y v u Q I rx ry h
 obtain⟨l,b,xs,zs,rfl,rfl,hH,hB,hz,q⟩:=h
 cases rx
 cases ry
 obtain⟨z,its,n,r,hl,e⟩:=I.lstM hH
 obtain⟨z2,its2,n2,r2,Ch,e2⟩:=I.lstM hB
 refine PySem.P.add_list e e2 ?_ (by rw[bN,bN];omega)
 have ea:its.toArray++its2.toArray=(its++its2).toArray:=by simp
 rw[ea]
 exact⟨.ref _,_,I.lnew (t':=s.toks) (r.append r2) (by rw[aC];omega),rfl,q _ I.fresh⟩
def bCm:R2:=λx y H Q=>∃l k xs,x=.ref l/\y=.int k/\H l=some (.lst xs) /\ -(2^63)<=k/\k<2^63/\xs.length*k.toNat<=sizeLine /\
 ∀p,H p=none->Q (.ref p) (upd H p (.lst (List.replicate k.toNat xs).flatten))
theorem aLa{α:Type}(xs:List α)(k:Nat):(List.replicate k xs).flatten.length=k*xs.length:=by
 induction k with
 |zero=>simp
 |succ k ih=>rw[dI,dR,aC,ih,Nat.succ_mul,Nat.add_comm]
theorem aRr:OpR X (binaryOp .Mult) bCm:=by
 intro Aa s σ H x y v u Q I rx ry h
 obtain⟨l,k,xs,rfl,rfl,hH,h1,h2,hz,q⟩:=h
 cases rx
 obtain⟨t,rfl⟩:=ry
 obtain⟨z,its,n,r,hl,e⟩:=I.lstM hH
 have Ak:its.toArray.size*k.toNat<=sizeLine:=by rw[bN,<-hl];exact hz
 have Ln:¬its.toArray.size*k.toNat>(2^63-1)/8:=by
  have:(sizeLine:Nat)<=(2^63-1)/8:=by decide
  omega
 have Lb:¬(!Builtin.List.listFitsIndex k)=true:=by
  rw[fitsIndex_both h1 h2]
  exact aW
 have Iy:¬Builtin.List.listTooLong (its.toArray.size*k.toNat)=true:=by
  rw[aEm Ak]
  exact aW
 have Ej:List.foldl (λx1 x2=>x1++x2) #[] (List.replicate (if its.toArray.isEmpty=true then 0 else k.toNat) its.toArray)=(List.replicate k.toNat its).flatten.toArray:=by
  have f0:∀m:Nat,List.foldl (λx1 x2=>x1++x2) #[] (List.replicate m its.toArray)=(List.replicate m its).flatten.toArray:=λm=>by
   have:=rG its m []
   rw[aZ]at this
   exact this
  rw[f0]
  cases its with
  |nil=>simp
  |cons a r'=>rw[if_neg (by simp)]
 refine wpAny_binaryOp_repeat_ref (T:= "list") (U:= "int") (by decide) ⟨_,e,rfl⟩ (λs'=>typeIs_int s' k t) noFill_list_mul F.fills_int_mul F.slot_int_rmul repeat_list F.slot_int_index.lookup
  (call_meets F.slot_int_rmul (typeIs_int s k t) F.entry_int_rmul (F.args_int_rmul_2 _ _) (int___rmul___int_list k t l its.toArray n)
   ⟨e,rfl,⟨_,e,rfl⟩,call_meets F.slot_list_mul ⟨_,e,rfl⟩ F.entry_list_mul (F.args_list_mul_2 _ _) (AutoListH.list___mul___list_int_3 l its.toArray n k t Lb Ln Iy) ⟨e,?_⟩⟩)
 rw[Ej]
 exact⟨.ref _,_,I.lnew (t':=s.toks) (r.rep k.toNat) (by rw[aLa,Nat.mul_comm];exact hz),rfl,q _ I.fresh⟩
end
end L2
namespace Att
open PySem PySem.W PySem.Calls PyProof.Rows
theorem jw_{P:Params}{h:Heap}:∀(ns:List Int) (vs:List Value),WellAll P h vs (ns.map WData.int)->IntsAre vs ns:=by
 intro ns
 induction ns with
 |nil =>
  intro vs w
  rw[dG]at w
  cases w
  exact .nil
 |cons n ns ih =>
  intro vs w
  rw[aO]at w
  cases w with
  |cons a b =>
   cases a
   exact .cons _ _ (ih _ b)
theorem r9{l:OpenLaw}{n:Nat}(hn:l.most=some n){P:Params}{h:Heap}{args:List WData}{jW:List Value}
  (Fz:l.row.toRowW.claim.pre args=true) (Kk:WellAll P h jW args) :
  ∃a vs ns,jW=[Value.ref a]/\args=[WData.list (ns.map WData.int)]/\h.get? a=some { cls:=.type "list",data:=.seq vs.toArray }/\IntsAre vs ns/\ns.length<=n:=by
 have hsh:WShape.hasAll [] args [.list .int]=true:=(pre_splitW Fz).1
 have hc:l.pre.holds [] { args:=args }=true:=(pre_splitW Fz).2
 obtain⟨d,r,rfl,h1,h2⟩:=hasAllW_cons hsh
 obtain rfl:=hasAllW_nil h2
 obtain⟨xs,rfl,h3⟩:=hasW_list h1
 obtain⟨ns,rfl⟩:=items_int h3
 have Ak:ns.length<=n:=by
  unfold OpenLaw.pre at hc
  have h4:(WTm.not (.lt (.lit (.int (n:Int))) (.len (.arg 0)))).holds [] { args:=[.list (ns.map .int)] }=true:=by
   have h4:=(holds_andW hc).1
   rw[hn]at h4
   exact h4
  have h5:=condW_of h4 (w_not (w_lt w_lit (w_len_list (w_arg rfl))))
  rw[aD]at h5
  refine Nat.le_of_not_lt λq=>?_
  have q':(n:Int)<((ns.length:Nat):Int):=by omega
  first
   |(rw[dzT q']at h5;exact absurd h5 (by decide))
   |(simp at h5;omega)
 cases Kk with
 |cons w1 w2 =>
  cases w2
  cases w1 with
  |list ho Cd=>exact⟨_,_,ns,rfl,rfl,ho,jw_ ns _ Cd,Ak⟩
theorem t8(l:OpenLaw)(args:List WData):l.row.toRowW.claim.post args (.bool true) args=true:=
 postW_of (r:=l.row.toRowW) (X:=(true == true))
  (show WShape.has [] (.bool true) .bool=true by first | rfl | decide | simp[WShape.has,WShape.arms,WShape.armsAll])
  (show(WTm.eq .res (.lit (.bool true))).value [] { args:=args,res:=some (.bool true),after:=args }=some (.bool (true == true))from w_eq_bool (w_res rfl) w_lit) rfl
theorem attach_call{l:OpenLaw}{n:Nat}{q:Program}{loose:List Str}{XP:(Str->Option Value)->Heap->Prop}{YP:World->Heap->Prop}{d:DefRec}
  (hn:l.most=some n) (Lk:d.params.defaults=[])
  (call:∀ (w:World) (s₀ s₁:Shared) (mg mb:kC) (fa:Addr) (o:Obj) (pm cd doc:Value) (a:Addr) (vs:List Value) (ns:List Int),
   Ground q loose [] XP w s₀ mg mb s₁.heap->YP w s₁.heap ->
   s₁.heap.get? fa=some o->o.data=.func (docDef d.name d.params d.body d.scope pm cd doc)->s₁.heap.CodeRec cd d.name->mg d.name=some (.ref fa) ->
   s₁.heap.get? a=some { cls:=.type "list",data:=.seq vs.toArray }->IntsAre vs ns->ns.length<=n->s₁.gens = #[] ->
   codeAny (model l.prog w) callerA (.call (.ref fa) ⟨[.ref a],[]⟩) (λr s'=>r=.ok (.ret (.bool true))/\OldK s₁.heap s'.heap/\s'.os=s₁.os/\AllBare s'.gens) s₁) :
  WalkO q loose XP YP l.row.toRowW d [] (λf vs=>PySem.call f vs):=by
 intro w s₀ s₁ mg mb G Y fa o pm cd doc dV kV ho hd C7 hD K1 hg args jW as Fz hlay hrd Kk G3
 obtain rfl:dV=.none:=Dflts.none hD Lk
 obtain rfl:kV=.none:=Dflts.noKw hD
 obtain⟨a,vs,ns,rfl,rfl,Gz,Fe,Ak⟩:=r9 hn Fz Kk
 refine enter_call (codeAny_mono (call w s₀ s₁ mg mb fa o pm cd doc a vs ns G Y ho (fd_plain hd) C7 K1 Gz Fe Ak hg) λr s' hq=>?_)
 obtain⟨rfl,h2,h3,h4⟩:=hq
 exact⟨.inl ⟨.bool true,.bool true,[],rfl,λ_=>rfl,.bool true,t8 l _,λ_=>⟨List.Pairwise.nil,λ_ hm=>(nomatch hm)⟩⟩,h2,h3,h4⟩
end Att
namespace L2
open PySem PySem.Spec PyProof.Rows
theorem qT:∀{vs:List Value} {ns:List Int},IntsAre vs ns->Vals (ns.map V.int) vs
 |_,_,.nil=>.nil
 |_,_,.cons n t h=>.cons ⟨t,rfl⟩ (qT h)
def aUz(H:Hp):Prop:=∀b,H b=none\/∃o xs,H b=some (.frz o (.lst xs))
theorem aEz{P:Program}{w:World}{K:dA}{mg mb:kC}{CX:CXT}{k:Nat}{fa a:Addr}{fd:FuncData}{x:Str}{sp:Sp}{s₁:Shared}{vs:List Value}{ns:List Int}
  (KX:K.In s₁.heap) (D4:s₁.heap.Ns mainGlobals mg) (hb:s₁.heap.Ns builtinsNs mb) (hbb:∀x:Str,x ≠ "__name__" -> mb x=bootBuiltins x) (K4:s₁.heap.NoLimit) (hg:s₁.gens = #[])
  (ha:s₁.heap.get? a=some { cls:=.type "list",data:=.seq vs.toArray }) (hi:IntsAre vs ns) (hl:ns.length<=sizeLine) (hr:Room k callerA)
  (F:∀base:Heap,K.In base->base.Ns mainGlobals mg->FnOk P w K mg base CX k fa fd [x] sp) (Je:∀(s:Shared) (u:Value),BindsTo s fd ⟨[u],[]⟩ [(x,u)])
  (Ct:∀H:Hp,aUz H->SqL K H a (ns.map V.int)->sp [.ref a] H (λv _=>v=.bl true) λ_ _ _=>False)
  (Lz:∀H e s',CX [] H s₁ (λ_ _ _=>False) e s'->False) :
  codeAny (model P w) callerA (.call (.ref fa) ⟨[.ref a],[]⟩) (λr s'=>r=.ok (.ret (.bool true))/\OldK s₁.heap s'.heap/\s'.os=s₁.os/\AllBare s'.gens) s₁:=by
 have rv:=qT hi
 have lenV:=hi.length
 have core:∀H:Hp,aUz H->SqL K H a (ns.map V.int)->HOk P w H s₁.heap->(∀b,H b≠none->b=a)->(H a≠none->K.lookup a=none) ->
   codeAny (model P w) callerA (.call (.ref fa) ⟨[.ref a],[]⟩) (λr s'=>r=.ok (.ret (.bool true))/\OldK s₁.heap s'.heap/\s'.os=s₁.os/\AllBare s'.gens) s₁:=by
  intro H hO hS hok hA hK
  have base_of:∀{b:Addr} {o:Obj},s₁.heap.get? b=some o->H b=none->(uB s₁.heap H).get? b=some o:=λe n=>aFm e n
  have noA:∀{b:Addr} {o:Obj} {es:Array DictEntry} {ep:Nat},s₁.heap.get? b=some o->o.data=.dict es ep->H b=none:=λ{b o es ep} e d=>by
   cases q:H b with
   |none=>rfl
   |some u =>
    have e':b=a:=hA b (by rw[q];simp)
    subst e'
    rw[ha]at e;cases e
    have d':Data.seq vs.toArray _=Data.dict es ep:=d
    cases d'
  have nsK:∀{b:Addr} {m:kC},s₁.heap.Ns b m->(uB s₁.heap H).Ns b m:=λ{b m} ⟨o,es,ep,e,d,r⟩=>⟨o,es,ep,base_of e (noA e d),d,r⟩
  have M5:K.In (uB s₁.heap H):=λb o e=>base_of (KX b o e) (by
   cases q:H b with
   |none=>rfl
   |some u =>
    have e':b=a:=hA b (by rw[q];simp)
    subst e'
    rw[hK (by rw[q];simp)]at e;cases e)
  have hM:Mod K mg (uB s₁.heap H):=⟨M5,nsK D4,⟨mb,nsK hb,hbb⟩,let ⟨mc,h1,h2⟩:=K4;⟨mc,nsK h1,h2⟩⟩
  have e0:Env0 P w K mg (uB s₁.heap H) callerA [] s₁ H:=⟨rfl,hM,λb o e=>aKu e,Nat.le_of_eq (x8 _ _),trivial,λb hb=>absurd (show b∈([]:List Addr)from hb) (by simp),hok,.of_eq hg⟩
  refine codeAny_mono ((F _ M5 (nsK D4)).run callerA [] s₁ H ⟨[.ref a],[]⟩ [.ref a] [.ref a] _ _ hr e0 (Je s₁ (.ref a)) (.cons rfl .nil) (Ct H hO hS)) λr s' h=>?_
  cases r with
  |error e=>exact(Lz H e s' h).elim
  |ok fl =>
   cases fl with
   |next=>exact False.elim h
   |brk=>exact False.elim h
   |cont=>exact False.elim h
   |ret u =>
    obtain⟨v,H',os,bare,un,Kx,r',q⟩:=h
    have q':v=.bl true:=q
    subst q'
    obtain rfl:u=Value.bool true:=r'
    refine⟨rfl,OldK.of_keep λb o e=>?_,os,bare⟩
    cases q:H b with
    |none=>exact un.keep b o e q (by intro z;exact absurd (show b∈([]:List Addr)from z) (by simp)) (by simp)
    |some u =>
     rcases hO b with z | ⟨ob,xs,z⟩
     ·rw[q]at z;cases z
     ·have z2:=un.frzs b ob _ z
      obtain⟨e1,_⟩:=hok b _ z
      obtain⟨e2,_⟩:=Kx b _ z2
      rw[e]at e1;cases e1
      exact e2
 cases hk:K.lookup a with
 |some o =>
  have e:=KX a o hk
  rw[ha]at e
  cases e
  refine core (λ_=>none) (λ_=>.inl rfl) (.inr ⟨_,vs.toArray,_,hk,rfl,rfl,rfl,by rw[bN,lenV];exact hl,by simpa using rv⟩) (λb u z=>by have z':(none:Option HO)=some u:=z;cases z') (λb z=>absurd rfl z) λz=>absurd rfl z
 |none =>
  refine core (λb=>if b=a then some (.frz { cls:=.type "list",data:=.seq vs.toArray } (.lst (ns.map V.int)))else none) (λb=>?_) (.inl (.inr ⟨{ cls:=.type "list",data:=.seq vs.toArray },if_pos rfl⟩)) (λb u z=>?_) (λb z=>?_) λ_=>hk
  ·by_cases hb:b=a
   ·exact .inr ⟨_,_,if_pos hb⟩
   ·exact .inl (if_neg hb)
  ·by_cases hb:b=a
   ·have z':=(if_pos hb).symm.trans z
    cases z'
    subst hb
    exact⟨ha,by rw[aD];exact hl,vs,_,rv,ha⟩
   ·have z':=(if_neg hb).symm.trans z
    cases z'
  ·by_cases hb:b=a
   ·exact hb
   ·exact absurd (if_neg hb) z
abbrev CX0:CXT:=λ_ _ _ _ _ _=>False
abbrev E0:XK:=λ_ _ _=>False
theorem aOl{X:Cx}:jR CX0 X E0:=λ_ _ _ _ _ _ _ h=>h.elim
structure Fun(K:dA)(x qual:Str)(st:Stmt)(f:Addr)(fd:FuncData):Prop where
 ex:∃(oc:Value) (od:Option Addr) (kV doc pm:Value) (an:Option Addr) (Ai ct:Value) (osl:Array (Option Value)),
  fd=PySem.W.fnOf x qual (lG st) (dX st) (aL st) .none kV doc pm an Ai ct/\K.lookup f=some ⟨oc,od,.func fd,osl⟩/\PySem.W.codeIn K Ai qual=true
 kp:PySem.W.keepIn K (.ref f)=true
section
theorem Fun.ok{x qual:Str}{st:Stmt}{f:Addr}{fd:FuncData}{N ps:List Str}{k:Nat}{sp:Sp}(F:Fun K x qual st f fd)(S:FnScope N ps (aL st))(len:∀vs H Q E,sp vs H Q E->vs.length=ps.length)
  (A0:∀ (Ai:Value) (A:Around) (outer:List Env) (s:Shared) (H:Hp) (vs:List V) (Q:VK) (E:XK),Room k (A.deeper (envOfC qual (aL st) s.heap.objs.size f Ai))→sp vs H Q E →
   ∃t,PSs (iS CX0 P w K mg base N qual (aL st) f Ai A outer s H E).nox (dX st) t/\t { nx:=λ_ H'=>Q .non H',rt:=Q } (start N vs) H):FnOk P w K mg base CX0 (k+1) f fd ps sp:=by
 obtain⟨oc,od,kV,doc,pm,an,Ai,ct,osl,rfl,lk,C7⟩:=F.ex
 refine aFy lk C7 S len λA outer s H vs Q E hr Ct=>?_
 obtain⟨t,h,q⟩:=A0 Ai A outer s H vs Q E hr Ct
 exact⟨t,h.nox,q⟩
theorem Fun.binds{x qual:Str}{st:Stmt}{f:Addr}{fd:FuncData}{ps:List Str}(F:Fun K x qual st f fd)
  (h:∀(kV doc pm:Value) (an:Option Addr) (Ai ct:Value) (us:List Value),us.length=ps.length->bindArgs (PySem.W.fnOf x qual (lG st) (dX st) (aL st) .none kV doc pm an Ai ct) ⟨us,[]⟩=pure (ps.zip us)):Binds K fd ps []:=by
 obtain⟨oc,od,kV,doc,pm,an,Ai,ct,osl,rfl,lk,C7⟩:=F.ex
 exact .all (h kV doc pm an Ai ct)
end
theorem iT{A:Around}{k:Nat}(hr:Room k A):A.units+1<cLine:=Nat.lt_of_le_of_lt (Nat.add_le_add_left (by decide:1<=64) _) hr.units
section
variable{X:Cx}
theorem pv(i:Nat){x:Str}{pos:Pos}(hN:X.N[i]? = some x:=by rfl)(hv:Vis X.env.scope x:=by first | exact Or.inl rfl | exact Or.inr (Or.inl rfl) | exact Or.inr (Or.inr rfl))(hd:(x == ("__debug__" : Str))=false:=by decide)
  (C7:(x == ("__classdict__" : Str))=false:=by decide):PE X (.Name x pos) (gL i):=aRf hN hv hd C7
end
theorem wH{c A B:Prop}[Decidable c](h1:c->A)(h2:¬c->B):if c then A else B:=by
 by_cases h:c
 ·rw [if_pos h]
  exact h1 h
 ·rw [if_neg h]
  exact h2 h
def Same(H H':Hp):Prop:=∀b o,H b=some o->H' b=some o
theorem Same.refl(H:Hp):Same H H:=λ_ _ h=>h
end L2
namespace L2
open PySem PySem.W PySem.Spec PyProof.Rows PySem.Calls
theorem pH{α β:Type}[BEq α][LawfulBEq α]{a:α}{b:β}:∀{l:List (α×β)},l.lookup a=some b->(a,b)∈l
 | [],h=>by simp at h
 |(c,d)::r,h=>by
  by_cases e:a=c
  ·subst e;simp at h;subst h;exact aA
  ·rw [bX,beq_eq_false_iff_ne.mpr e] at h
   exact aB _ (pH h)
theorem aNh(h:Heap):(aNi h).In h:=λa o e=>by
 obtain⟨b,_,hb⟩:=List.mem_filterMap.mp (pH e)
 obtain⟨o',h1,h2⟩:=bU.mp hb
 cases h2
 exact h1
def exHook{α:Type}(f:Frag->α)(v:α):Hook where
 α:=α
 obs:=λs=>f (aNi s.heap)
 val:=λ_=>v
 says:=λ_ h=>∃K:Frag,K.In h/\f K=v
 of:=λ_ s e=>⟨aNi s.heap,aNh _,e⟩
 keeps:=λ_ _ _ e g=>by
  obtain⟨K,k,e⟩:=e
  exact⟨K,λa o q=>g _ _ (k a o q),e⟩
theorem aAq:∀w:World,((boot_heap w.params).isNs mainGlobals&&(Array.mk []:Array GenState).size == 0,(boot_heap w.params).objs.size,(boot_heap w.params).nsMap mainGlobals "__annotations__")=(true,11,some (.ref 6)):=λw=>by kernel_rfl
theorem v7{p q:Program}{loose:List Str}{Xt:Shared->Bool}{α:Type}{Yf:Frag->α}{v:α}{N:Nat}{g0:Bool}(hN:Nat.ble 600 N=true)(e:opening p=plainProg p.main.scope.names)(f:∀s,fenceModules? p s=some s)
  (all:∀w:World,onceSeen topRun treeTable importedModules (λm s=>openSeen q loose m Xt g0 s) p N Yf w=λ_=>some (true,openGood q loose,v)) :
  LeftO p q loose Xt (exHook Yf v).obs (exHook Yf v).val N g0:=λw=>by
 obtain⟨⟨h,gs,d,k,os⟩,e1,e'⟩:=bU.mp (boot_open e hN f w)
 obtain⟨rfl,rfl,rfl,rfl⟩:h=boot_heap w.params/\gs=Array.mk []/\d=boot_drawn/\k=boot_toks:=by simpa using e'
 obtain⟨z1,z2,z3⟩:_/\_/\_:=by simpa only[Prod.mk.injEq]using aAq w
 obtain⟨s₁,r,r2⟩:=bU.mp (congrFun (all w) os)
 obtain⟨l1,l2,l3⟩:_/\_/\_:=by simpa only[Prod.mk.injEq]using r2
 have t:topFrom treeTable p w N ⟨boot_heap w.params,Array.mk [],boot_drawn,boot_toks,os⟩=some s₁:=by
  unfold topFrom
  dsimp only
  rw[z1,z2,z3]
  show(topRun treeTable p w 11 (some (.ref 6)) N _ (topStub p)).bind _=_
  rw[r]
  show(match staticsOk (importedModules p.main.body) (boot_heap w.params) s₁.heap&&namesBound p s₁.heap&&gensDone s₁&&laidKept (boot_heap w.params) s₁.heap with | true=>_ | false=>_)=_
  rw[l1]
 unfold openEnds
 rw[e1]
 show(topFrom treeTable p w N _).map _=_
 rw[t]
 exact congrArg some (Prod.ext l2 l3)
theorem walk_ex{l:PySem.W.OpenLaw}{n k:Nat}{q:Program}{loose:List Str}{XP:(Str->Option Value)->Heap->Prop}{α:Type}{f:Frag->α}{v:α}{d:DefRec}{CX:CXT}{sp:PySem.W.Frag->Sp}{x:Str}
  (hn:l.most=some n) (J0:n<=sizeLine) (Lk:d.params.defaults=[]) (hr:Room k callerA)
  (F:∀ (w:World) (K:Frag) (mg:kC) (fa:Addr) (h:Heap),f K=v→K.In h→h.Ns mainGlobals mg→mg d.name=some (.ref fa) →
   ∃fd:FuncData,(∀(s:Shared) (u:Value),BindsTo s fd ⟨[u],[]⟩ [(x,u)]) /\
    ∀base:Heap,K.In base->base.Ns mainGlobals mg->FnOk l.prog w K mg base CX k fa fd [x] (sp K))
  (Ct:∀(K:dA) (H:Hp) (a:Addr) (ns:List Int),ns.length<=n->aUz H->SqL K H a (ns.map V.int)->sp K [.ref a] H (λv _=>v=.bl true) λ_ _ _=>False)
  (Lz:∀(H:Hp) (s:Shared) (e:Value) (s':Shared),CX [] H s (λ_ _ _=>False) e s'->False) :
  PySem.W.WalkO q loose XP (exHook f v).says l.row.toRowW d [] (λf vs=>PySem.call f vs):=by
 refine Att.attach_call hn Lk λw s₀ s₁ mg mb fa o pm cd doc a vs ns G Y ho hd C7 K1 Gz Fe Ak hg=>?_
 obtain⟨K,KX,hK⟩:=Y
 obtain⟨fd,hb,hF⟩:=F w K mg fa _ hK KX G.T.g K1
 exact aEz KX G.T.g G.T.b G.T.builtins G.T.nolimit hg Gz Fe (nzL Ak J0) hr hF hb (λH hO hS=>Ct K H a ns Ak hO hS) λH e s'=>Lz H s₁ e s'
theorem jB{K:Frag}{s:Stmt}(h:tN K (fO s)=uI s):∃f fd,nsIn K mainGlobals (fO s)=some (some (.ref f))/\Fun K (fO s) (fO s) s f fd:=by
 unfold tN at h
 cases e:nsIn K mainGlobals (fO s)with
 |none=>rw[e]at h;cases h
 |some o =>
  cases o with
  |none=>rw[e]at h;cases h
  |some v =>
   cases v with
   |ref f =>
    rw[e]at h
    dsimp only at h
    cases e2:K.lookup f with
    |none=>rw[e2]at h;cases h
    |some ob =>
     obtain⟨oc,od,da,sl⟩:=ob
     rw[e2]at h
     cases da with
     |func fd =>
      obtain⟨nm,qn,pa,bo,sc,gl,cl,df,kw,dc,pm,an,cd,ct,bl⟩:=fd
      simp only[uI,Option.some.injEq,Prod.mk.injEq]at h
      obtain⟨⟨rfl,rfl,rfl,rfl,rfl⟩,⟨rfl,rfl,rfl,rfl⟩,h3⟩:=h
      refine⟨f,_,rfl,⟨oc,od,kw,dc,pm,an,cd,ct,sl,rfl,e2,h3⟩,?_⟩
      unfold keepIn
      dsimp only
      rw[e2]
     |_=>cases h
   |_=>rw[e]at h;cases h
theorem vY{K:Frag}{n:Str}(h:pC K n=true):nsIn K mainGlobals n=some none:=by
 unfold pC at h
 split at h
 ·assumption
 ·cases h
theorem xG:∀{v:Value} {x:V},aGz v=some x->RelV x v
 | .none,x,h=>by cases h;rfl
 | .bool b,x,h=>by cases h;rfl
 | .int i t,x,h=>by cases h;exact⟨t,rfl⟩
 | .str i t,x,h=>by cases h;exact⟨t,rfl⟩
 | .bytes i t,x,h=>by cases h;exact⟨t,rfl⟩
 | .float i t,x,h=>by cases h;exact⟨t,rfl⟩
 | .ref a,x,h=>by cases h;rfl
 | .type n,x,h=>by cases h;rfl
 | .builtin _,x,h=>by cases h
theorem cw_{K:Frag}{n:Str}{x:V}(h:tL K n=some x):∃v,nsIn K mainGlobals n=some (some v)/\RelV x v:=by
 unfold tL at h
 split at h
 ·exact⟨_,by assumption,xG h⟩
 ·cases h
theorem vF:∀{xs:List Value} {vs:List V},xs.map aGz=vs.map some->Vals vs xs
 | [],[],_=>.nil
 |x::xs,v::vs,h=>by
  simp only[aO,List.cons.injEq]at h
  exact .cons (xG h.1) (vF h.2)
 | [],_::_,h=>by simp at h
 |_::_,[],h=>by simp at h
theorem u9{K:Frag}{n:Str}{vs:List V}(h:tM K n=some (vs.map some)):∃a od xs m sl,nsIn K mainGlobals n=some (some (.ref a))/\K.lookup a=some ⟨.type "tuple",od,.seq xs m,sl⟩/\Vals vs xs.toList:=by
 unfold tM at h
 split at h
 ·split at h
  ·exact⟨_,_,_,_,_,by assumption,by assumption,vF (ozI h)⟩
  ·cases h
 ·cases h
section
variable{K:Frag}{x qual:Str}{st:Stmt}{f:Addr}{p1 p2 p3 p4 p5 p6:Str}
abbrev BA(x qual:Str)(st:Stmt)(us:List Value)(r:List (Str×Value)):Prop:=∀(kV doc pm:Value) (an:Option Addr) (Ai ct:Value),bindArgs (PySem.W.fnOf x qual (lG st) (dX st) (aL st) .none kV doc pm an Ai ct) ⟨us,[]⟩=pure r
theorem fV(F:Fun K x qual st f fd)(h:∀a,BA x qual st [a] [(p1,a)]):Binds K fd [p1] []:=F.binds λ_ _ _ _ _ _ us hl=>by
 match us,hl with
 | [a],_=>exact h a _ _ _ _ _ _
theorem dD(F:Fun K x qual st f fd)(h:∀a b,BA x qual st [a,b] [(p1,a),(p2,b)]):Binds K fd [p1,p2] []:=F.binds λ_ _ _ _ _ _ us hl=>by
 match us,hl with
 | [a,b],_=>exact h a b _ _ _ _ _ _
theorem zP(F:Fun K x qual st f fd)(h:∀a b c,BA x qual st [a,b,c] [(p1,a),(p2,b),(p3,c)]):Binds K fd [p1,p2,p3] []:=F.binds λ_ _ _ _ _ _ us hl=>by
 match us,hl with
 | [a,b,c],_=>exact h a b c _ _ _ _ _ _
end
theorem iq_{K:Frag}(h:bltNs.map (pC K)=List.replicate 17 true){n:Str}(i:Nat)(hi:i<17)(e:bltNs[i]? = some n):nsIn K mainGlobals n=some none:=by
 refine vY ?_
 have:=congrArg (λl=>l[i]?) h
 simp only[cA,e,Option.map_some,iC,hi,if_true,Option.some.injEq]at this
 exact this
end L2
namespace Lf
open PySem
inductive Kd where
 |num (w m:Int)
 |row (k:Kd) (n:Int)
 |rcd (fs:List (Str×Kd))
 |cho (ks:List Kd)
def up(n m:Int):Int:=(n+m-1)/m*m
theorem aWi{n m:Int}(hm:0<m):up n m=n+m-1-(n+m-1)%m:=by
 have:=Int.mul_ediv_add_emod (n+m-1) m
 rw[Int.mul_comm]at this
 unfold up
 omega
theorem fw_{n m:Int}(hm:0<m):n<=up n m/\up n m<n+m:=by
 have a:=dS (n+m-1) (Int.ne_of_gt hm)
 have b:=cY (n+m-1) hm
 rw[aWi hm]
 omega
def maxL(d:Int)(l:List Int):Int:=l.foldr max d
def z9(e:Int):List (Int×Int)->List Int
 | []=>[]
 |r::rs=>(up e r.2+r.1)::z9 (up e r.2+r.1) rs
def i5(e:Int):List (Int×Int)->Int
 | []=>e
 |r::rs=>i5 (up e r.2+r.1) rs
def aXg(rs:List (Int×Int)):Int×Int:=(up (i5 0 rs) (maxL 1 (rs.map (·.2))),maxL 1 (rs.map (·.2)))
def bAc(rs:List (Int×Int)):Int×Int:=(up (up 1 (maxL 1 (rs.map (·.2)))+maxL 0 (rs.map (·.1))) (maxL 1 (rs.map (·.2))),maxL 1 (rs.map (·.2)))
mutual
def Kd.rm:Kd->Int×Int
 | .num w m=>(w,m)
 | .row k n=>(n*up k.rm.1 k.rm.2,k.rm.2)
 | .rcd fs=>aXg (rmF fs)
 | .cho ks=>bAc (rmK ks)
def rmF:List (Str×Kd)->List (Int×Int)
 | []=>[]
 |f::r=>f.2.rm::rmF r
def rmK:List Kd->List (Int×Int)
 | []=>[]
 |k::r=>k.rm::rmK r
end
mutual
def Kd.deep:Kd->Nat
 | .num _ _=>1
 | .row k _=>k.deep+1
 | .rcd fs=>eV fs+1
 | .cho ks=>eK ks+1
def eV:List (Str×Kd)->Nat
 | []=>0
 |f::r=>max f.2.deep (eV r)
def eK:List Kd->Nat
 | []=>0
 |k::r=>max k.deep (eK r)
end
theorem Kd.deep_pos:∀k:Kd,1<=k.deep
 | .num _ _=>aV _
 | .row k _=>Nat.le_add_left 1 k.deep
 | .rcd fs=>Nat.le_add_left 1 (eV fs)
 | .cho ks=>Nat.le_add_left 1 (eK ks)
end Lf
namespace L2
open PySem PySem.Spec PyProof.Rows
section
variable{X:Cx}
def aHc(_ j:Int):Prop:=0<j/\j<2^250
theorem aEu{j:Int}(h1:0<j)(h2:j<2^250):j.natAbs.log2<9000:=by
 have h0:j.natAbs≠0:=by omega
 have h3:j.natAbs<2^250:=by omega
 exact Nat.lt_trans ((Nat.log2_lt h0).mpr h3) (by decide)
theorem aEe:OpR X (binaryOp .FloorDiv) (rI aHc λi j=>.int (i/j)):=opI λi j _ _ _ _ _ hc q=>by
 have h1:(0:Int)<j:=hc.1
 exact floordiv_int (by omega) (by rw[Int.fdiv_eq_ediv_of_nonneg i (by omega)];exact q) (.inl (PyProof.noPylong_of_log2 (aEu hc.1 hc.2)))
def CMulB(i j:Int):Prop:=i.natAbs<2^250/\j.natAbs<2^250
theorem CMulB.ok{i j:Int}(h:CMulB i j):IntMulOk i j:=by
 have a:Builtin.Int.intBits i<=250:=intBits_le h.1
 have b:Builtin.Int.intBits j<=250:=intBits_le h.2
 unfold IntMulOk Builtin.Int.intTooBig
 intro z
 rw[bY]at z
 have c:=of_decide_eq_true z.2
 rw[bitsLine_eq]at c
 omega
theorem aJy:OpR X (binaryOp .Mult) (rI CMulB λi j=>.int (i*j)):=opI λ_ _ _ _ _ _ _ hc q=>mul_int q hc.ok
end
section
variable{K:dA}
theorem aFe(T:String):PySem.W.kitOne K (.type T) (.type T)=some true:=by
 unfold PySem.W.kitOne
 rw[if_pos (beq_self_eq_true _)]
theorem aSz{T S:String}{b:Bool}(h1:(Value.type T == Value.type S)=false)(h2:PySem.W.kitMeta S=true)(h3:(fastBuiltinMro T).map (·.contains (Value.type S))=some b):PySem.W.kitOne K (.type T) (.type S)=some b:=by
 unfold PySem.W.kitOne
 rw[if_neg (by rw[h1];exact aW)]
 show(if PySem.W.kitMeta S=true then PySem.W.subIn K (.type T) (.type S)else none)=some b
 rw[if_pos h2]
 exact h3
theorem fp_:bootBuiltins "isinstance" = some (.builtin "isinstance"):=by decide +kernel
theorem uU:bootBuiltins "max" = some (.builtin "max"):=by decide +kernel
theorem aUp:bootBuiltins "min" = some (.builtin "min"):=by decide +kernel
theorem fs_:bootBuiltins "int" = some (.type "int"):=by decide +kernel
theorem o0:bootBuiltins "bool" = some (.type "bool"):=by decide +kernel
theorem gs_:bootBuiltins "str" = some (.type "str"):=by decide +kernel
theorem nN:bootBuiltins "list" = some (.type "list"):=by decide +kernel
theorem hr_:bootBuiltins "tuple" = some (.type "tuple"):=by decide +kernel
theorem aNb:bootBuiltins "dict" = some (.type "dict"):=by decide +kernel
end
theorem qC{scope:Scope}{env:Env}(h:∀y∈scope.names,y.2=.free->∃c,env.cells.lookup y.1=some c) :
  ∃cl,closureFor scope env=pure cl/\(∀x c,cl.lookup x=some c->env.cells.lookup x=some c)/\(∀y∈scope.names,y.2=.free->∃c,cl.lookup y.1=some c):=by
 have key:∀(ns:List (Str×NameKind)) (cs:List (Str×Addr)),(∀y∈ns,y.2=.free->∃c,env.cells.lookup y.1=some c)->(∀x c,cs.lookup x=some c->env.cells.lookup x=some c) ->
   ∃cl,(forIn ns cs λ(x:Str×NameKind) (cs:List (Str×Addr))=>(if x.2 == .free then do let c <-cellOf env x.1;pure (ForInStep.yield ((x.1,c)::cs))else pure (ForInStep.yield cs):Sem _))=pure cl /\
    (∀x c,cl.lookup x=some c->env.cells.lookup x=some c)/\(∀x c,cs.lookup x=some c->∃c,cl.lookup x=some c)/\(∀y∈ns,y.2=.free->∃c,cl.lookup y.1=some c):=by
  intro ns
  induction ns with
  |nil=>intro cs _ hc;exact⟨cs,rfl,hc,λx c e=>⟨c,e⟩,λy hy=>nomatch hy⟩
  |cons y r ih =>
   intro cs hn hc
   obtain⟨n,k⟩:=y
   by_cases hk:k=.free
   ·subst hk
    obtain⟨c,e⟩:=hn (n,.free) aA rfl
    obtain⟨cl,e1,e2,e3,e4⟩:=ih ((n,c)::cs) (λy hy=>hn y (aB _ hy)) (λx c' q=>by
     rw[bX]at q
     cases hx:x == n with
     |true =>
      rw[hx]at q
      cases q
      have:x=n:=by simpa using hx
      rw[this]
      exact e
     |false =>
      rw[hx]at q
      exact hc x c' q)
    refine⟨cl,?_,e2,λx c' q=>?_,λy hy Fv=>?_⟩
    ·rw [List.forIn_cons]
     have e':env.cells.lookup n=some c:=e
     simp only[beq_self_eq_true,if_true,cellOf,e']
     exact e1
    ·cases hx:x == n with
     |true=>exact e3 x c (by rw[bX,hx])
     |false=>exact e3 x c' (by rw[bX,hx];exact q)
    ·rcases aI.mp hy with rfl | hy
     ·exact e3 n c (by rw[bX];simp)
     ·exact e4 y hy Fv
   ·obtain ⟨cl,e1,e2,e3,e4⟩:=ih cs (fun y hy=>hn y (aB _ hy)) hc
    refine⟨cl,?_,e2,e3,λy hy Fv=>?_⟩
    ·rw [List.forIn_cons]
     have hb:(k == NameKind.free)=false:=by simpa using hk
     simp only[hb,Bool.false_eq_true,if_false]
     exact e1
    ·rcases aI.mp hy with rfl | hy
     ·exact absurd Fv hk
     ·exact e4 y hy Fv
 obtain⟨cl,e1,e2,_,e4⟩:=key scope.names [] h (λx c e=>by simp at e)
 refine⟨cl,?_,e2,e4⟩
 simp only[closureFor]
 rw[show(forIn scope.names ([]:List (Str×Addr)) λ(x:Str×NameKind) (cs:List (Str×Addr))=>(if x.2 == .free then do let c <-cellOf env x.1;pure (ForInStep.yield ((x.1,c)::cs))else pure (ForInStep.yield cs):Sem _))=pure cl from e1]
 rfl
theorem jl_{scope:Scope}{env:Env}{x:Str}{k:NameKind}(h:(relabel scope env).names.lookup x=some k):∃k0,scope.names.lookup x=some k0/\(k0=k\/(k0=.free/\k=.cell)):=by
 unfold relabel at h
 dsimp only at h
 revert h
 generalize scope.names=ns
 induction ns with
 |nil=>intro h;simp at h
 |cons y r ih =>
  obtain⟨n,k'⟩:=y
  intro h
  rw[aO]at h
  cases hx:x == n with
  |true =>
   rw[bX,hx]
   refine⟨k',rfl,?_⟩
   dsimp only at h
   split at h
   ·rename_i hc
    rw[bX,hx]at h
    cases h
    rw[bY,bY]at hc
    exact .inr ⟨by simpa using hc.1.1,rfl⟩
   ·rw [bX,hx] at h
    cases h
    exact .inl rfl
  |false =>
   rw[bX,hx]
   dsimp only at h
   apply ih
   split at h
   ·rw[bX,hx]at h;exact h
   ·rw[bX,hx]at h;exact h
theorem sZ{scope:Scope}{env:Env}{x:Str}(h:scope.names.lookup x=some .free)(hk:env.scope.kind=.function)(hc:env.kindOf x=some .cell):(relabel scope env).names.lookup x=some .cell:=by
 unfold relabel
 dsimp only
 revert h
 generalize scope.names=ns
 induction ns with
 |nil=>intro h;simp at h
 |cons y r ih =>
  obtain⟨n,k'⟩:=y
  intro h
  rw[aO]
  cases hx:x == n with
  |true =>
   rw[bX,hx]at h
   cases h
   have:x=n:=by simpa using hx
   subst this
   dsimp only
   rw[if_pos (by rw[hk,hc];rfl),bX,hx]
  |false =>
   rw[bX,hx]at h
   dsimp only
   split
   ·rw[bX,hx];exact ih h
   ·rw[bX,hx];exact ih h
section
variable{prog:Program}{w:World}{A:Around}{R:Result->Shared->Prop}{s:Shared}
theorem uO{elt target iter:Expr}{ifs:List Expr}{scope:Scope}{pos:Pos}{it Ah:Value}{env:Env}(I:Nat->Shared->Prop)
  (turn:∀ n s,I n s→wpAny (model prog w) A (pyNext it) (fun r s₁=>match r with
   |none=>R (.ok .next) s₁
   | some v => wpAny (model prog w) A (letOwnedTupleGo target it v) (fun _ s₀ => wpAny (model prog w) A (assign target env v) (fun _ s₂ =>
     wpAny (model prog w) A (forIn ifs true λc r=>if r=true then do let ok <-isTrue c env (eval c env);pure (ForInStep.yield ok)else pure (ForInStep.yield r)) (λok s₃ =>
      if ok=true then wpAny (model prog w) A (eval elt env) (λx s₄ =>
       wpAny (model prog w) A (call (.builtin "list.append") [Ah,x]) (λ_ s₅=>∃m,m<n/\I m s₅) (λ_ _=>False) s₄) (λ_ _=>False) s₃
      else ∃m,m<n/\I m s₃) (λ_ _=>False) s₂) (λ_ _=>False) s₀) (λ_ _=>False) s₁) (λ_ _=>False) s)
  (n:Nat) (h:I n s) :
  codeAny (model prog w) A (.compLoop (.ListComp elt [⟨target,iter,ifs,0⟩] scope pos) 0 it Ah env) R s:=by
 refine codeAny_loop rfl I (λn s hI=>?_) n h
 show wpAny _ A ((compTurn (.ListComp elt [⟨target,iter,ifs,0⟩] scope pos) 0 it Ah env).onRaise (λx=>do noteFrame x env;theTreesLotGoes x)) _ _ s
 refine wpAny_noted ?_
 rw[compTurn_list]
 refine wpAny_bind (wpAny_standAt (wpAny_bind (wpAny_mono (turn n s hI) (λr s₁ h₁=>?_) λ_ _ h'=>h'.elim)))
 cases r with
 |none=>exact wpAny_pure h₁
 |some v =>
  refine wpAny_bind (wpAny_mono h₁ (λ_ s₀ h₀=>?_) λ_ _ h'=>h'.elim)
  refine wpAny_bind (wpAny_mono h₀ (λ_ s₂ h₂=>wpAny_bind (wpAny_mono h₂ (λok s₃ h₃=>?_) λ_ _ h'=>h'.elim)) λ_ _ h'=>h'.elim)
  cases ok with
  |false=>exact wpAny_pure ⟨rfl,h₃⟩
  |true =>
   exact wpAny_bind (wpAny_bind (wpAny_mono h₃ (λx s₄ h₄=>wpAny_bind (wpAny_mono h₄ (λ_ s₅ h₅=>wpAny_pure (wpAny_pure ⟨rfl,h₅⟩)) λ_ _ h'=>h'.elim)) λ_ _ h'=>h'.elim))
end
section
variable{X:Cx}{Aa:eL}{σ:St}{H:Hp}{s:Shared}
def PCs(X:Cx)(ifs:List Expr)(t:TT):Prop:=
 ∀(Aa:eL) (s:Shared) (σ:St) (H:Hp) (Q:Bool->Hp->Prop),Inv X Aa σ H s->t σ H Q ->
  wpAny (model X.prog X.w) X.A (forIn ifs true λc r=>if r=true then do let ok <-isTrue c X.env (eval c X.env);pure (ForInStep.yield ok)else pure (ForInStep.yield r)) (TP X Aa σ Q) X.xe s
def bCa:TT:=λ_ H Q=>Q true H
theorem aJv:PCs X [] bCa:=λAa s σ H Q I h=>wpAny_tests_nil ⟨H,I,h⟩
theorem aJu{c:Expr}{t:TT}(h:PT X c t):PCs X [c] t:=λAa s σ H Q I q=>wpAny_tests_one (h Aa s σ H Q I q)
end
def jL(n:Nat)(outs:List Nat)(σ:St):St:=List.replicate n none++outs.map λj=>(σ[j]?).join
theorem oX(n:Nat)(outs:List Nat)(σ:St):(jL n outs σ).length=n+outs.length:=by
 unfold jL
 rw[aC,bC,aD]
def dQ(X:Cx)(N':List Str)(scope:Scope)(cl:List (Str×Addr))(C:Addr)(s:Shared)(H:Hp)(ex:List Addr):Cx where
 prog:=X.prog
 w:=X.w
 K:=X.K
 mg:=X.mg
 base:=X.base
 A:=X.A
 N:=N'
 s₀:=s
 H₀:=H
 env:=compEnvC scope cl C X.env
 outer:=X.stack
 stack:=X.stack
 ex:=ex
 fn:=λ_=>false
 calm:=X.calm
 pn:=[]
 xe:=λ_ _=>False
structure CompScope(dsc scope:Scope)(N tgs:List Str)(outs:List Nat)(N':List Str):Prop where
 kind:scope.kind=.function
 names:∀x∈scope.names,x.2=.local->scope.names.lookup x.1=some .local
 nocell:∀y∈scope.names,y.2 ≠ .cell
 free:∀y∈scope.names,y.2=.free->dsc.names.lookup y.1=some .cell
 isN:N'=tgs++outs.map (λj=>N.getD j "")
 lts:∀j∈outs,j<N.length
 outF:∀j∈outs,scope.names.lookup (N.getD j "")=some .free
 nd:N'.Nodup
def Tgt(n:Nat)(g:TG):Prop:=∀x σ H Q,g x σ H Q->g x σ H (λσ2 H2=>Q σ2 H2/\σ2.length=σ.length/\∀i,n<=i->σ2[i]? = σ[i]?)
theorem cz_{n i:Nat}(h:i<n):Tgt n (jN i):=λx σ H Q q=>⟨q,by rw[bI],λj hj=>dB (by omega)⟩
def aNk(n:Nat)(g:TGs):Prop:=∀xs σ H Q,g xs σ H Q->g xs σ H (λσ2 H2=>Q σ2 H2/\σ2.length=σ.length/\∀i,n<=i->σ2[i]? = σ[i]?)
theorem vH{n:Nat}:aNk n aMc:=λxs σ H Q ⟨e,q⟩=>⟨e,q,rfl,λ_ _=>rfl⟩
def o6(g:TGs):Prop:=∀xs σ H Q Q',(∀σ2 H2,Q σ2 H2->Q' σ2 H2)->g xs σ H Q->g xs σ H Q'
theorem he_{n i:Nat}{u:TGs}(h:i<n)(hu:aNk n u)(mu:o6 u):aNk n (j9 (jN i) u):=λxs σ H Q ⟨v,r,e,q⟩=>by
 refine⟨v,r,e,?_⟩
 have z:=hu r (σ.set i (some v)) H Q q
 refine mu r _ H _ _ (λσ2 H2 ⟨a,b,c⟩=>⟨a,?_,λj hj=>?_⟩) z
 ·rw[b,bI]
 ·rw[c j hj,dB (by omega)]
theorem hd_:o6 aMc:=λxs σ H Q Q' h ⟨e,q⟩=>⟨e,h _ _ q⟩
theorem nX{i:Nat}{u:TGs}(mu:o6 u):o6 (j9 (jN i) u):=λxs σ H Q Q' h ⟨v,r,e,q⟩=>⟨v,r,e,mu r _ H _ _ h q⟩
theorem a9{K:dA}{n k:Nat}{t:TGs}(h:aNk n t):Tgt n (aMa K k t):=λx σ H Q ⟨a,xs,e,hq,hl,q⟩=>⟨a,xs,e,hq,hl,h xs σ H Q q⟩
def b7(n:Nat)(outs:List Nat)(wi:TI)(g:TG)(tc:TT)(te:TE):TE:=λσ H Q=>wi σ H λJ H1 =>
 ∃W:Nat->Nat->List V->Hp->Prop,(∃m,W 0 m [] H1)/\∀i m Ah H,W i m Ah H ->
  (J.stop i H/\Ah.length<=sizeLine/\∀l,H l=none->Q (.ref l) (upd H l (.lst Ah))) \/
  (J.go i H∧Ah.length < sizeLine∧∃ N:List V→Hp→Prop,(∀ acc' H',N acc' H'→∃ m',m' < m∧W (i + 1) m' acc' H')∧∀ x H',J.yld i H x H'→g x (jL n outs σ) H' fun σ2 H2=>tc σ2 H2 fun b H3 =>
   if b=true then te σ2 H3 λy H4=>N (Ah++[y]) H4 else N Ah H3)
section
variable{X:Cx}{Aa:eL}{σ:St}{H2:Hp}{s2:Shared}{dsc scope:Scope}{tgs N':List Str}{outs:List Nat}{cl:List (Str×Addr)}{fp:List Addr}{C D:Addr}{h1:Heap}{tk:Nat}{mC:kC}
theorem zG(S:CompScope dsc scope X.N tgs outs N')(Ez:X.env.scope=dsc)(I2:Inv X Aa σ H2 s2)(f2:∀b∈fp,qH X Aa H2 b)(E6:∀b∈fp,b<s2.heap.objs.size)
  (Dj:∀x c,cl.lookup x=some c->X.env.cells.lookup x=some c) (F8:∀y∈scope.names,y.2=.free->∃c,cl.lookup y.1=some c)
  (hC:s2.heap.objs.size<=C) (kp:∀b o,s2.heap.get? b=some o->h1.get? b=some o) (nC:h1.Ns C mC) :
  Inv (dQ X N' scope cl C s2 H2 fp) [] (jL tgs.length outs σ) H2 { s2 with heap:=h1,toks:=tk }:=by
 have freeAt:∀x,scope.names.lookup x=some .free->(relabel scope X.env).names.lookup x=some .cell:=λx e =>
  sZ e I2.ok.kind (by show X.env.scope.names.lookup x=some .cell;rw[Ez];exact S.free (x,.free) (PySem.mem_of_lookup e) rfl)
 refine⟨⟨I2.ok.mod,?_,I2.ok.glob,I2.ok.blt,hC,λx y c e1 e2=>I2.ok.inj x y c (Dj x c e1) (Dj y c e2),λx hx=>?_,(λx c h=>nomatch h),I2.ok.hd,I2.ok.frames,.inl rfl,λb hb=>?_,I2.bs,nzL I2.ok.bsz I2.sz,λb o e hb=>?_,λb hb=>?_,I2.stack,I2.stkFree⟩,
  rfl,I2.bare,Un.kept kp,⟨mC,nC,λi x v e1 e2 e3=>?_⟩,λx c e=>?_,I2.hok.fresh hC,λx c e=>I2.freeC x c (Dj x c e),λp hp=>absurd (show p∈([]:eL)from hp) (by simp),I2.hok.kept kp,?_⟩
 ·exact S.kind
 ·have Df:(relabel scope X.env).names.lookup x=some .cell∨(relabel scope X.env).names.lookup x=some .free:=hx
  have z:scope.names.lookup x=some .free:=by
   rcases Df with Df | Df
   ·obtain ⟨k0,e,h | ⟨h,_⟩⟩:=jl_ Df
    ·rw [h] at e
     exact absurd rfl (S.nocell _ (PySem.mem_of_lookup e))
    ·rw[h]at e;exact e
   ·obtain ⟨k0,e,h | ⟨h,_⟩⟩:=jl_ Df
    ·rw[h]at e;exact e
    ·rw[h]at e;exact e
  exact F8 (x,.free) (PySem.mem_of_lookup z) rfl
 ·refine ⟨fun z => ?_,fun x c e=>(f2 b hb).2.2.2.2.1 x c (Dj x c e)⟩
  have z':b=C:=z
  exact absurd (bR (E6 b hb) hC) (by rw[z'];exact eE _)
 ·rcases (f2 b hb).2.2.2.1 with z | z
  ·exact I2.ok.noex b o e z
  ·exact absurd (bR (bH e) (nzL I2.ok.bsz z)) (eE _)
 ·intro z
  rcases aI.mp (I2.stkSub b z)with z | z
  ·exact(f2 b hb).2.1 z
  ·exact(f2 b hb).2.2.1 z
 ·have e2':(List.replicate tgs.length (none:Option V) ++ outs.map fun j=>(σ[j]?).join)[i]? = some (some v):=e2
  have e1':N'[i]? = some x:=e1
  by_cases hi:i<tgs.length
  ·rw [List.getElem?_append_left (by rw [bC]; exact hi),iC,if_pos hi] at e2'
   cases e2'
  ·rw [dH (by rw [bC]; omega),bC,cA] at e2'
   rw[S.isN,dH (by omega),cA]at e1'
   cases ej:outs[i-tgs.length]? with
   |none=>rw[ej]at e2';cases e2'
   |some j =>
    rw[ej]at e1' e2'
    have hj:j∈outs:=fJ ej
    have ex:X.N.getD j "" = x:=ozI e1'
    have ev:(σ[j]?).join=some v:=ozI e2'
    have ev':σ[j]? = some (some v):=by
     cases q:σ[j]? with
     |none=>rw[q]at ev;cases ev
     |some o=>rw[q]at ev;exact congrArg some ev
    have eN:X.N[j]? = some x:=by
     have hl:=S.lts j hj
     rw[<-ex,List.getD_eq_getElem?_getD,aR hl]
     rfl
    have fx:scope.names.lookup x=some .free:=by rw[<-ex];exact S.outF j hj
    have cx:X.env.scope.names.lookup x=some .cell:=by rw[Ez];exact S.free (x,.free) (PySem.mem_of_lookup fx) rfl
    obtain⟨m,hn,hl⟩:=I2.loc
    obtain⟨u,ru,lk⟩:=hl j x v eN ev' (.inr (.inl cx))
    refine⟨u,ru,?_⟩
    rcases lk with⟨k,_⟩ | ⟨k,c,ec,⟨oc,F0,Jb⟩⟩
    ·have k':X.env.scope.names.lookup x=some .local:=k
     rw[cx]at k';cases k'
    ·obtain ⟨c',ec'⟩:=F8 (x,.free) (PySem.mem_of_lookup fx) rfl
     have ecc:=Dj x c' ec'
     rw[ec]at ecc
     cases ecc
     exact .inr ⟨.inl (freeAt x fx),c,ec',oc,kp _ _ F0,Jb⟩
 ·obtain ⟨v,oc,F0,Jb⟩:=I2.cell x c (Dj x c e)
  exact⟨v,oc,kp _ _ F0,Jb⟩
 ·show (jL tgs.length outs σ).length=N'.length
  rw[oX,S.isN,aC,aD]
theorem aGq{σ5:St}{H5:Hp}{s5:Shared}{Ah:List V}{its:List Value}{n:Nat}(I2:Inv X Aa σ H2 s2)(I5:Inv (dQ X N' scope cl C s2 H2 fp) [] σ5 H5 s5)(f2:∀b∈fp,qH X Aa H2 b)
  (hD:s2.heap.objs.size<=D) (eD:s5.heap.get? D=some { cls:=.type "list",data:=.seq its.toArray n }) (r:Vals Ah its) (hz:Ah.length<=sizeLine) (hn:H5 D=none):Inv X Aa σ (upd H5 D (.lst Ah)) s5:=by
 have ne:∀b o,s2.heap.get? b=some o->b≠D:=λb o e z=>absurd (bR (bH e) (by rw[z];exact hD)) (eE _)
 refine I2.call' (ch:=fp) I5.os ⟨λb o e nn hb hx=>?_,λb o e nn hb hx=>?_,λb o e nn hx=>?_,λb o e hx=>?_,λb xs e=>?_,λb o u e=>?_,λb ps e=>?_⟩ (λb u e=>?_) I5.bare λb hb=>⟨(f2 b hb).2.2.2.1,(f2 b hb).2.1,(f2 b hb).2.2.2.2.1,(f2 b hb).2.2.2.2.2⟩
 ·exact I5.base.keep b o e nn hb hx
 ·exact I5.base.slot b o e nn hb hx
 ·rw [gU (ne b o e)]
  exact I5.base.free b o e nn hx
 ·exact I5.base.there b o e hx
 ·have q:=I5.base.tups b xs e
  rw[gU (cb_ q hn)]
  exact q
 ·have q:=I5.base.frzs b o u e
  rw[gU (cb_ q hn)]
  exact q
 ·obtain ⟨more,q⟩:=I5.base.tbls b ps e
  refine⟨more,?_⟩
  rw[gU (cb_ q hn)]
  exact q
 ·by_cases hb:b=D
  ·subst hb
   rw[xD]at e
   cases e
   exact⟨hz,its,n,r,eD⟩
  ·rw [gU hb] at e
   exact(I5.hok b u e).stay (λc v _ q=>q) (λc q=>by rw[gU (cb_ q hn)];exact q) λc xs q=>by rw[gU (cb_ q hn)];exact q
end
theorem qX{n:Nat}{outs:List Nat}{σ σ6:St}(k6:∀i,n<=i->σ6[i]? = (jL n outs σ)[i]?):∀(i:Nat) v,(jL n outs σ)[i]? = some (some v)->σ6[i]? = some (some v):=λi v e=>by
 by_cases hi:n<=i
 ·rw[k6 i hi];exact e
 ·unfold jL at e
  rw[List.getElem?_append_left (by rw[bC];omega),iC,if_pos (by omega)]at e
  cases e
section
variable{X:Cx}{tg elt iter:Expr}{ifs:List Expr}{dsc scope:Scope}{tgs N':List Str}{outs:List Nat}{wi:TI}{g:TG}{tc:TT}{te:TE}{pos:Pos}
theorem qA{Aa:eL}{σ:St}{H2:Hp}{s2:Shared}{cl:List (Str×Addr)}{it:Addr}{fp:List Addr}{tn:Nat->Heap->Prop}{J:It}(S:CompScope dsc scope X.N tgs outs N')(Ez:X.env.scope=dsc)(hc:X.calm=true)
  (hg:∀cl C s H ex,PG (dQ X N' scope cl C s H ex) tg g) (G5:Tgt tgs.length g) (F7:∀cl C s H ex,PCs (dQ X N' scope cl C s H ex) ifs tc) (he:∀cl C s H ex,PE (dQ X N' scope cl C s H ex) elt te)
  (Dj:∀x c,cl.lookup x=some c->X.env.cells.lookup x=some c) (F8:∀y∈scope.names,y.2=.free->∃c,cl.lookup y.1=some c)
  (I2:Inv X Aa σ H2 s2) (T:Turn X.prog X.w X.K tg J fp it tn) (Gj:tn 0 s2.heap) (f2:∀b∈fp,qH X Aa H2 b)
  {W:Nat->Nat->List V->Hp->Prop} {m0:Nat} (w0:W 0 m0 [] H2) {Qf:List V->Hp->Prop}
  (turn:∀ i m Ah H,W i m Ah H→(J.stop i H∧Ah.length≤sizeLine∧Qf Ah H)∨(J.go i H∧Ah.length < sizeLine∧∃ N:List V→Hp→Prop,(∀ acc' H',N acc' H'→∃ m',m' < m∧W (i + 1) m' acc' H')∧∀ x H',J.yld i H x H'→g x (jL tgs.length outs σ) H' fun σ2 H2=>tc σ2 H2 fun b H3 =>
   if b=true then te σ2 H3 λy H4=>N (Ah++[y]) H4 else N Ah H3))
  {E:gV} {RR:Value->Addr->Result->Shared->Prop}
  (fin:∀D C s5 mC Ah H5,Inv X Aa σ (upd H5 D (.lst Ah)) s5->H5 D=none->Qf Ah H5->s5.heap.Ns C mC->qH X Aa (upd H5 D (.lst Ah)) C->RR (.ref D) C (.ok .next) s5) :
  wpAny (model X.prog X.w) X.A (newList []) (λAh s₃=>wpAny (model X.prog X.w) X.A (newFunctionEnv scope X.env.globals cl [] X.env.qual none .none (some X.env)) (λcenv s₄ =>
   codeAny (model X.prog X.w) X.A (.compStart (.ListComp elt [⟨tg,iter,ifs,0⟩] scope pos) 0 (.ref it) Ah { cenv with scope:=relabel scope X.env }) (RR Ah cenv.locals) s₄) E s₃) E s2:=by
 have E6:∀b∈fp,b<s2.heap.objs.size:=λb hb=>let ⟨o,e,_⟩:=T.obj 0 _ Gj b hb;bH e
 refine wpAny_newObj_type (wpAny_newFunctionEnv S.nocell (by intro y hy;simp at hy) (λh₁ hns₁ hsb₁=>?_) S.kind)
 dsimp only at hns₁ hsb₁ ⊢
 generalize Lw:s2.heap.push { cls:=.type "list",dict:=none,data:=.seq ([]:List Value).toArray }=HH at hns₁ hsb₁ ⊢
 have hC:HH.objs.size=s2.heap.objs.size+1:=by rw[<-Lw,Heap.size_push]
 have J7:s2.heap.objs.size≠HH.objs.size:=by rw[hC];exact cH (Nat.lt_succ_self _)
 have Jm:s2.heap.objs.size<=HH.objs.size:=by rw[hC];exact Nat.le_succ _
 have old:∀b o,s2.heap.get? b=some o->h₁.get? b=some o:=λb o e=>hsb₁.extBut b o (by rw[hC];exact cH (Nat.lt_succ_of_lt (bH e))) (aQ _ (Lw ▸ aQ _ e))
 have Lu:h₁.get? s2.heap.objs.size=some { cls:=.type "list",data:=.seq ([]:List Value).toArray 0 }:=hsb₁.extBut _ _ J7 (aQ _ (Lw ▸ bO _ rfl))
 have Jl:∀b∈fp,s2.heap.objs.size≠b:=λb hb=>Nat.ne_of_gt (E6 b hb)
 have fresh2:H2 s2.heap.objs.size=none:=I2.hok.fresh (aV _)
 have I4:=zG (tk:=s2.toks+([]:List (Str×Value)).length) S Ez I2 f2 E6 Dj F8 Jm old hns₁
 have Md:tn 0 h₁:=T.keep 0 _ _ Gj λb hb o e=>old b o e
 generalize hCC:HH.objs.size=C at *
 generalize J6:s2.heap.objs.size=D at *
 have nofs:D∉(dQ X N' scope cl C s2 H2 fp).fs:=λz=>by
  obtain⟨_,o,ho,_⟩:=I2.stack.mem (show D∈frs X.stack from z)
  have:=bH ho
  rw[J6]at this
  exact eE _ this
 have pinD:∀{σ':St} {H':Hp} {s':Shared} {its:List Value} {n:Nat},Inv (dQ X N' scope cl C s2 H2 fp) [] σ' H' s'->s'.heap.get? D=some { cls:=.type "list",data:=.seq its.toArray n }->H' D=none ->
   Inv (dQ X N' scope cl C s2 H2 fp) [(D,{ cls:=.type "list",data:=.seq its.toArray n })] σ' H' s':=λ{σ' H' s' its n} J e hn=>J.pins_of λp hp=>by
  have ep:p=(D,{ cls:=.type "list",data:=.seq its.toArray n }):=by simpa using hp
  subst ep
  exact⟨e,hn,J7,nofs,λv z=>by cases z⟩
 have stat:∀{H':Hp} {o:Obj},(∀b∈fp,H' b=none)->∀b∈fp,qH (dQ X N' scope cl C s2 H2 fp) [(D,o)] H' b:=λ{H' o} hn b hb=>by
  refine⟨hn b hb,(I4.ok.exf b hb).1,I4.ok.exfs b hb,.inl hb,(I4.ok.exf b hb).2,λp hp=>?_⟩
  have Fq:p∈([]:eL)++[(D,o)]:=hp
  have ep:p=(D,o):=by simpa using Fq
  subst ep
  exact Jl b hb
 have loop:∀s₃:Shared,s₃={ s2 with heap:=h₁,toks:=s2.toks+([]:List (Str×Value)).length } ->
   codeAny (model X.prog X.w) X.A (.compLoop (.ListComp elt [⟨tg,iter,ifs,0⟩] scope pos) 0 (.ref it) (.ref D) (compEnvC scope cl C X.env)) (RR (.ref D) C) s₃:=by
  rintro s₃ rfl
  refine uO (λm s'=>∃i Ah H its n,Inv (dQ X N' scope cl C s2 H2 fp) [(D,{ cls:=.type "list",data:=.seq its.toArray n })] (jL tgs.length outs σ) H s'/\tn i s'.heap/\(∀b∈fp,H b=none)/\Vals Ah its/\W i m Ah H) ?_ m0
   ⟨0,[],H2,[],0,pinD I4 Lu fresh2,Md,λb hb=>(f2 b hb).1,.nil,w0⟩
  rintro m s' ⟨i,Ah,H,its,n,I',st',fr',rD,w'⟩
  rcases turn i m Ah H w' with⟨stop,hz,q⟩ | ⟨go,hz,N,hN,step⟩
  ·refine dN (T.done (dQ X N' scope cl C s2 H2 fp) rfl rfl rfl hc i _ s' _ H _ I' (stat fr') st' stop) fun r s4 ⟨hr,J4⟩ => ?_
   subst hr
   obtain⟨eD,nD,_⟩:=J4.pin (D,{ cls:=.type "list",data:=.seq its.toArray n }) (aJ _ aA)
   obtain⟨mC,nsC,_⟩:=J4.loc
   have I5:Inv X Aa σ (upd H D (.lst Ah)) s4:=aGq (D:=D) I2 (J4.pins_of (pins':=[]) (λp hp=>nomatch hp)) f2 (by rw[J6];exact aV _) eD rD hz nD
   refine fin D C s4 mC Ah H I5 nD q nsC (I2.fpOk (by rw[J6];exact Jm) ?_)
   rw[gU (Ne.symm J7)]
   exact J4.free
  ·refine dN (T.item (dQ X N' scope cl C s2 H2 fp) rfl rfl rfl hc i _ s' _ H _ I' (stat fr') st' go) fun r s4 ⟨u,hr,h4⟩ => ?_
   subst hr
   dsimp only
   refine dN h4 λ_ s5 ⟨x,H5,I5,r5,y5,Gi,L4⟩=>?_
   have I5':=I5.pinned (stat L4) (T.obj _ _ Gi)
   refine dN (hg cl C s2 H2 fp _ s5 _ H5 x u _ I5' r5 (G5 x _ H5 _ (step x H5 y5))) λ_ s6 ⟨σ6,H6,I6,q6,l6,k6⟩=>?_
   refine dN (F7 cl C s2 H2 fp _ s6 σ6 H6 _ I6 q6) λb s7 ⟨H7,I7,q7⟩=>?_
   have tail:∀{H':Hp} {s':Shared},Inv (dQ X N' scope cl C s2 H2 fp) ([(D,{ cls:=.type "list",data:=.seq its.toArray n })]++oW fp s5.heap) σ6 H' s'->(∀b∈fp,∀o,s5.heap.get? b=some o->s'.heap.get? b=some o)/\∀b∈fp,H' b=none:=λ{H' s'} J =>
    ⟨fun b hb o e=>(J.pin (b,o) (aJ _ (aJ _ (gi_ hb e)))).1,fun b hb=>by
     obtain⟨o,e,d⟩:=T.obj _ _ Gi b hb
     exact(J.pin (b,o) (aJ _ (aJ _ (gi_ hb e)))).2.1⟩
   cases b with
   |false =>
    rw[if_neg aW]at q7 ⊢
    obtain⟨m',hm,w7⟩:=hN _ _ q7
    obtain⟨t1,t2⟩:=tail I7
    exact⟨m',hm,i+1,Ah,H7,its,n,I7.unpinned.weak l6.symm (qX k6),T.keep _ _ _ Gi t1,t2,rD,w7⟩
   |true =>
    rw[if_pos rfl]at q7 ⊢
    refine dN (he cl C s2 H2 fp _ s7 σ6 H7 _ I7 q7) λv s8 ⟨y,H8,I8,r8,q8⟩=>?_
    obtain⟨m',hm,w8⟩:=hN _ _ q8
    obtain⟨t1,t2⟩:=tail I8
    obtain⟨eD,nD,_⟩:=I8.pin (D,{ cls:=.type "list",data:=.seq its.toArray n }) (aJ _ (aX _ aA))
    have hl:=rD.length
    refine call_meets F.slot_list_append ⟨_,eD,rfl⟩ F.entry_list_append (F.args_list_append_2 _ _) (PySem.list_append D its.toArray n v (by rw[bN];omega)) ⟨eD,?_⟩
    have q:=PySem.IsL.update eD (·.push v)
    have eA:its.toArray.push v=(its++[v]).toArray:=by simp
    rw[eA]at q
    refine⟨m',hm,i+1,Ah++[y],H8,its++[v],_,pinD (Inv.weak (Inv.turned (it:=D) (I8.pins_of (pins':=[]) (λp hp=>nomatch hp)) (λb o hb e=>(cD _ _ (Ne.symm hb)).trans e) nD J7 (.inr (by show s2.heap.objs.size<=D;rw[J6];exact aV _)) (λx c e z=>?_) (λp hp=>nomatch hp)) l6.symm (qX k6)) q nD,
     T.keep _ _ _ Gi (λb hb o e=>(cD _ _ (Jl b hb)).trans (t1 b hb o e)),t2,rD.append (.cons r8 .nil),w8⟩
    obtain⟨v',oc,F0,Jb⟩:=I8.cell x c e
    rw[z,eD]at F0
    cases F0
    cases Jb
 exact codeAny_compStart_list (loop _ rfl) (T.self X.A 0 _ _ _ Md (loop _ rfl))
theorem aJq{N:List Str}(S:CompScope dsc scope N tgs outs N')(hi:PI X tg iter wi)(hg:∀cl C s H ex,PG (dQ X N' scope cl C s H ex) tg g)(G5:Tgt tgs.length g)(F7:∀cl C s H ex,PCs (dQ X N' scope cl C s H ex) ifs tc)
  (he:∀cl C s H ex,PE (dQ X N' scope cl C s H ex) elt te) (Jj:X.N=N:=by rfl) (Ez:X.env.scope=dsc:=by rfl) (hc:X.calm=true:=by rfl) (hs:∀x,foldedSetIterable iter X.env x=pure x:=by intro _;rfl) :
  PE X (.ListComp elt [⟨tg,iter,ifs,0⟩] scope pos) (b7 tgs.length outs wi g tc te):=by
 subst Jj
 intro Aa s σ H Q I h
 obtain⟨cl,e1,e2,e3⟩:=qC (scope:=scope) (env:=X.env) (λy hy hk=>I.ok.has y.1 (.inl (by show X.env.scope.names.lookup y.1=_;rw[Ez];exact S.free y hy hk)))
 rw[eval_ListComp]
 refine wpAny_comprehension_free (use:=none) rfl hs e1 S.kind S.names (wpAny_mono (hi Aa s σ H _ I h) (λxv s1 h1=>wpAny_mono h1 (λitv s2 h2=>?_) λ_ _ e=>e) λ_ _ e=>e)
 obtain⟨it,fp,tn,J,H2,rfl,I2,T,Gj,f2,W,⟨m0,w0⟩,turn⟩:=h2
 refine qA (RR:=λAh C=>compPost (model X.prog X.w) X.A X.xe none (EP X Aa σ Q) Ah C) S Ez hc hg G5 F7 he e2 e3 I2 T Gj f2 w0 (Qf:=λAh H=>∀l,H l=none->Q (.ref l) (upd H l (.lst Ah))) turn ?_
 intro D C s5 mC Ah H5 I5 nD q nsC hf
 refine⟨mC,nsC,λh' Fw=>⟨.ref D,_,?_,rfl,q D nD⟩⟩
 exact I5.turned (it:=C) (t':=s5.toks) (λb o hb e=>(Fw.2 b hb).trans e) hf.1 hf.2.1 hf.2.2.2.1 hf.2.2.2.2.1 hf.2.2.2.2.2
theorem aJf{N:List Str}{i:Nat}{x:Str}{px spos:Pos}(hN:X.N.Nodup)(hx:X.N[i]? = some x)(hl:X.env.scope.names.lookup x=some .local)(S:CompScope dsc scope N tgs outs N')(hi:PI X tg iter wi)(hg:∀cl C s H ex,PG (dQ X N' scope cl C s H ex) tg g)(G5:Tgt tgs.length g)
  (F7:∀cl C s H ex,PCs (dQ X N' scope cl C s H ex) ifs tc) (he:∀cl C s H ex,PE (dQ X N' scope cl C s H ex) elt te)
  (hsw:swapsWith (.ListComp elt [⟨tg,iter,ifs,0⟩] scope pos) (some (.Name x px)) spos.line X.env=pure true:=by rfl)
  (Jj:X.N=N:=by rfl) (Ez:X.env.scope=dsc:=by rfl) (hc:X.calm=true:=by rfl) (hs:∀x,foldedSetIterable iter X.env x=pure x:=by intro _;rfl) :
  PS X (.Assign [.Name x px] (.ListComp elt [⟨tg,iter,ifs,0⟩] scope pos) spos) (vJ (b7 tgs.length outs wi g tc te) (jN i)):=by
 subst Jj
 intro Aa s σ H Dn I h
 obtain⟨cl,e1,e2,e3⟩:=qC (scope:=scope) (env:=X.env) (λy hy hk=>I.ok.has y.1 (.inl (by show X.env.scope.names.lookup y.1=_;rw[Ez];exact S.free y hy hk)))
 rw[exec_Assign_Name_used _ _ _ _ hsw]
 refine wpAny_bind (wpAny_standAt (wpAny_bind ?_))
 show wpAny _ X.A (do let _ <-comprehension (.ListComp elt [⟨tg,iter,ifs,0⟩] scope pos) scope X.env _ (newList []) false (eval iter X.env) (some (assign (.Name x px) X.env))) _ _ s
 refine wpAny_bind (wpAny_mono (wpAny_comprehension_free (use:=some (assign (.Name x px) X.env)) (Q:=λ_ s'=>SP X Aa Dn .next s') rfl hs e1 S.kind S.names
  (wpAny_mono (hi Aa s σ H _ I h) (λxv s1 h1=>wpAny_mono h1 (λitv s2 h2=>?_) λ_ _ e=>e) λ_ _ e=>e)) (λ_ s' hq=>wpAny_pure (wpAny_pure hq)) λ_ _ e=>e)
 obtain⟨it,fp,tn,J,H2,rfl,I2,T,Gj,f2,W,⟨m0,w0⟩,turn⟩:=h2
 refine qA (RR:=λAh C=>compPost (model X.prog X.w) X.A X.xe (some (assign (.Name x px) X.env)) (λ_ s'=>SP X Aa Dn .next s') Ah C) S Ez hc hg G5 F7 he e2 e3 I2 T Gj f2 w0
  (Qf:=λAh H=>∀l,H l=none->Dn.nx (σ.set i (some (.ref l))) (upd H l (.lst Ah))) turn ?_
 intro D C s5 mC Ah H5 I5 nD q nsC hf
 show wpAny _ X.A (assign (.Name x px) X.env (.ref D)) _ _ _
 refine wpAny_assign_Name (jf_ I5 hN hx (.inl hl) (show RelV (.ref D) (.ref D)from rfl) (λs' I' ⟨a,sb,ha⟩=>?_) (.inr hl))
 have hCa:C≠a:=by
  rcases ha with ha | ha
  ·rw[ha];exact hf.2.1
  ·exact Ne.symm (hf.2.2.2.2.1 x a ha)
 refine⟨mC,nsC.sameBut sb hCa,λh' Fw=>⟨_,_,I'.turned (it:=C) (t':=s'.toks) (λb o hb e=>(Fw.2 b hb).trans e) hf.1 hf.2.1 hf.2.2.2.1 hf.2.2.2.2.1 hf.2.2.2.2.2,q D nD⟩⟩
end
section
variable{X:Cx}
theorem aAn(hc:X.calm=true):CallR X (.builtin "max") (λxs H Q=>∃p ns,xs=[.ref p]/\SqL X.K H p (ns.map V.int)/\ns≠[]/\∀M,M∈ns->(∀a∈ns,a<=M)->Q (.int M) H):=by
 intro Aa s σ H xs us Q I r h
 obtain⟨p,ns,rfl,hq,Cg,q⟩:=h
 obtain⟨u,rfl,rx⟩:=gO r
 cases rx
 obtain⟨its,r',pl,hz⟩:=I.list hq
 have hi:=yU r'
 obtain⟨zs,e⟩:=hi.allInts.items
 have D4:ns=zs.toList.map (·.1):=by rw[<-hi.numsOf,<-nums_intItems,<-e]
 have hsz:0<zs.size:=by
  have h3:=List.length_pos_iff.mpr Cg
  rw[D4,aD,Array.length_toList]at h3
  exact h3
 have pl':=pl.isList
 rw[e]at pl'
 refine max_intList (I.ok.hd hc) pl' hsz λv h' tk hv hk=>?_
 obtain⟨t,rfl⟩:=intItems_at hv
 obtain⟨h1,h2⟩:=argBest_gt (numAt zs) (zs.size-1)
 refine⟨.int _,H,I.kept hk,⟨t,rfl⟩,q _ ?_ λa ha=>?_⟩
 ·rw [D4,numAt_eq]
  exact getD_mem (by rw[aD,Array.length_toList];omega)
 ·rw [D4] at ha
  obtain⟨j,hj,rfl⟩:=mem_getD ha
  rw[aD,Array.length_toList]at hj
  rw[<-numAt_eq]
  exact h2 j (by omega)
theorem aEf(hu:X.A.units<cLine):OpR X (compareOp .Eq) (λx y H Q=>∃p b xs,x=.ref p/\y=.ref b/\SqL X.K H p xs/\SqL X.K H b []/\Q (.bl xs.isEmpty) H):=by
 intro Aa s σ H x y v u Q I rx ry h
 obtain⟨p,b,xs,rfl,rfl,h1,h2,q⟩:=h
 cases rx
 cases ry
 obtain⟨its,r1,p1,_⟩:=I.list h1
 obtain⟨its2,r2,p2,_⟩:=I.list h2
 cases r2
 cases r1 with
 |nil=>exact PySem.SeqAt.eq_listAt (e:=λ_=>true) p1.isList p2.isList rfl hu (λj a1=>absurd a1 (by simp)) ⟨.bl true,H,I,rfl,q⟩
 |cons ra rb=>exact PySem.SeqAt.eq_list_lengthsAt p1.isList p2.isList (by simp) hu ⟨.bl false,H,I,rfl,q⟩
theorem aEb(hu:X.A.units<cLine):OpR X (compareOp .NotEq) (λx y H Q=>∃p b xs,x=.ref p/\y=.ref b/\SqL X.K H p xs/\SqL X.K H b []/\Q (.bl (!xs.isEmpty)) H):=by
 intro Aa s σ H x y v u Q I rx ry h
 obtain⟨p,b,xs,rfl,rfl,h1,h2,q⟩:=h
 cases rx
 cases ry
 obtain⟨its,r1,p1,_⟩:=I.list h1
 obtain⟨its2,r2,p2,_⟩:=I.list h2
 cases r2
 cases r1 with
 |nil=>exact PySem.SeqAt.RcNeAt.lists (e:=λ_=>true) p1.isList p2.isList rfl hu (λj a1=>absurd a1 (by simp)) _ _ _ _ ⟨.bl false,H,I,rfl,q⟩
 |cons ra rb=>exact PySem.SeqAt.RcNeAt.lists_lengths p1.isList p2.isList (by simp) hu _ _ _ _ ⟨.bl true,H,I,rfl,q⟩
theorem aQk:SlR X (λx lo hi H Q=>∃z,x=.str z/\z.length<=sizeLine/\Q (.str (Txt.slice z lo hi)) H):=by
 intro Aa s σ H x v vl vu lo hi sl Q I rx hs pl pu h
 obtain⟨z,rfl,hz,q⟩:=h
 obtain⟨t,rfl⟩:=rx
 refine⟨"str",_,PySem.F.slot_str_getitem.lookup,typeIs_str _ _ _,?_⟩
 obtain⟨o,h1,h2,h3⟩:=hs
 cases pl with
 |none =>
  cases pu with
  |none=>exact wpAny_getItem_str_slice (l:=none) (u:=none) (st:=none) ⟨o,h1,h2,h3⟩ rfl (post_val_or_str ⟨nzL (Txt.slice_le z _ _) hz,λt' k=>⟨.str _,H,I.tok _,⟨_,rfl⟩,q⟩⟩)
  |int j uj=>exact wpAny_getItem_str_slice (l:=none) (u:=some (j,uj)) (st:=none) ⟨o,h1,h2,h3⟩ rfl (post_val_or_str ⟨nzL (Txt.slice_le z _ _) hz,λt' k=>⟨.str _,H,I.tok _,⟨_,rfl⟩,q⟩⟩)
 |int i ui =>
  cases pu with
  |none=>exact wpAny_getItem_str_slice (l:=some (i,ui)) (u:=none) (st:=none) ⟨o,h1,h2,h3⟩ rfl (post_val_or_str ⟨nzL (Txt.slice_le z _ _) hz,λt' k=>⟨.str _,H,I.tok _,⟨_,rfl⟩,q⟩⟩)
  |int j uj=>exact wpAny_getItem_str_slice (l:=some (i,ui)) (u:=some (j,uj)) (st:=none) ⟨o,h1,h2,h3⟩ rfl (post_val_or_str ⟨nzL (Txt.slice_le z _ _) hz,λt' k=>⟨.str _,H,I.tok _,⟨_,rfl⟩,q⟩⟩)
theorem yJ:OpR X (binaryOp .Mult) (λx y H Q=>∃z n,x=.str z/\y=.int n/\z.length<=1000/\0<=n/\n<=1000/\Q (.str (Txt.mul z n)) H):=by
 intro Aa s σ H x y v u Q I rx ry h
 obtain⟨z,n,rfl,rfl,hz,h0,h1,q⟩:=h
 obtain⟨t,rfl⟩:=rx
 obtain⟨t',rfl⟩:=ry
 exact SB.mul (mulOk_of 1000 1000 hz (by omega) (by omega) (by decide) (by decide)) λt' k=>⟨.str _,H,I.tok _,⟨_,rfl⟩,q⟩
theorem strsAre_of{ys:List Str}:∀{us:List Value},Vals (ys.map V.str) us->StrsAre us ys:=by
 induction ys with
 |nil=>intro us r;rw[dG]at r;cases r;exact .nil
 |cons n ns ih =>
  intro us r
  rw[aO]at r
  cases r with
  |cons r1 r2 =>
   obtain⟨t,e⟩:=r1
   subst e
   exact .cons n t (ih r2)
theorem aKy:MtR X "str.join" (λx vs H Q=>∃z p ys,x=.str z/\vs=[.ref p]/\SqL X.K H p (ys.map V.str)/\(ys.map (·.length)).sum+ys.length*z.length<=16777216/\Q (.str (Txt.join z ys)) H):=by
 intro Aa s σ H x vs v us Q I rx rv h
 obtain⟨z,p,ys,rfl,rfl,hq,hok,q⟩:=h
 obtain⟨t,rfl⟩:=rx
 obtain⟨u,rfl,ru⟩:=rv.one
 cases ru
 obtain⟨its,r',pl,hz⟩:=I.list hq
 exact join_list pl.isList (by rw[List.toList_toArray];exact strsAre_of r') hok λt' k=>⟨.str _,H,I.tok _,⟨_,rfl⟩,q⟩
end
section
variable{X:Cx}(K:dA)(h:X.K=K:=by rfl)
include h
theorem aLe:IxR X (aQu K):=h ▸ aTj
theorem wG:IxR X (aCz K):=h ▸ j0
theorem aEc:OpR X (compareOp .In) (rIn K false):=h ▸ u7
theorem jo_:OpR X (compareOp .NotIn) (rIn K true):=h ▸ tI
theorem aCm:SlR X (aXi K):=h ▸ aIv
theorem e6{pos:Pos}{es:List Expr}{k:Nat}{t:TGs}{n:Nat}(hc:X.calm=true)(hh:PGs X es t)(hn:(assignEach es X.env).length=n:=by rfl)(Cf:(assignEach es X.env).findIdx? (·.1)=none:=by rfl):PG X (.Tuple es k pos) (aMa K n t):=h ▸ lM hc hh hn Cf
end
def aCy(K:dA):List V->Hp->VK->Prop:=λxs H Q=>∃p ns,xs=[.ref p]/\SqL K H p (ns.map V.int)/\ns≠[]/\∀M,M∈ns->(∀a∈ns,a<=M)->Q (.int M) H
theorem aAm{X:Cx}(hc:X.calm=true):CallR X (.builtin "max") (aCy X.K):=aAn hc
end L2
namespace Lf
open PySem L2
theorem oP{H:Hp}{p:Addr}(h:H p=none)(o:HO):Same H (upd H p o):=λb u q=>by rw[gU (cb_ q h)];exact q
def aFl(p:Addr)(H:Hp):Hp:=λb=>if b=p then none else H b
theorem nF{p b:Addr}{H:Hp}(h:b≠p):aFl p H b=H b:=if_neg h
abbrev SameX(p:Addr)(H H':Hp):Prop:=Same (aFl p H) (aFl p H')
theorem SameX.get{p b:Addr}{H H':Hp}{o:HO}(e:SameX p H H')(n:b≠p)(h:H b=some o):H' b=some o:=by
 have:=e b o (by rw[nF n];exact h)
 rw[nF n]at this
 exact this
end Lf
namespace L2
open PySem PySem.Spec PyProof.Rows
section
variable{κ:Type}[DecidableEq κ]
def kZ(kvs:List (κ×V))(k:κ):Option V:=(kvs.find? λkv=>decide (kv.1=k)).map (·.2)
def lL(kvs:List (κ×V))(k:κ)(v:V):List (κ×V):=
 if(kvs.any λkv=>decide (kv.1=k))=true then kvs.map (λkv=>if kv.1=k then(kv.1,v)else kv)else kvs++[(k,v)]
theorem it_{p:κ×V}{r:List (κ×V)}{k:κ}(e:p.1=k):kZ (p::r) k=some p.2:=by simp[kZ,fC,e]
theorem iu_{p:κ×V}{r:List (κ×V)}{k:κ}(e:¬p.1=k):kZ (p::r) k=kZ r k:=by simp[kZ,fC,e]
theorem vG(k:κ):∀kvs:List (κ×V),(kvs.any λkv=>decide (kv.1=k))=(kZ kvs k).isSome
 | []=>rfl
 |p::r=>by
  rw[dE]
  by_cases e:p.1=k
  ·simp only[it_ e,dzT e,Bool.true_or,Option.isSome_some]
  ·rw[iu_ e,dzF e,Bool.false_or];exact vG k r
theorem js_(kvs:List (κ×V))(k:κ)(v:V):(lL kvs k v).length<=kvs.length+1:=by
 unfold lL
 split
 ·rw[aD];omega
 ·rw[aC,aE,bJ];omega
theorem RelO.isSome_eq{o:Option V}{u:Option Value}(r:RelO o u):o.isSome=u.isSome:=by
 cases o with
 |none=>cases u with
  |none=>rfl
  |some _=>exact(show False from r).elim
 |some _=>cases u with
  |none=>exact(show False from r).elim
  |some _=>rfl
theorem KV.val{kvs:List (κ×V)}{vs:List (κ×Value)}(r:KV kvs vs)(k:κ):RelO (kZ kvs k) (valueAt vs k):=by
 unfold KV at r
 induction r with
 |nil=>exact True.intro
 | @cons p q ps qs h t ih =>
  obtain⟨h1,h2⟩:=h
  by_cases e:p.1=k
  ·have e':q.1=k:=h1.symm.trans e
   have b:valueAt (q::qs) k=some q.2:=by simp[valueAt,fC,e']
   rw[it_ e,b];exact h2
  ·have e':¬ q.1=k:=fun z=>e (h1.trans z)
   have b:valueAt (q::qs) k=valueAt qs k:=by simp[valueAt,fC,e']
   rw[iu_ e,b];exact ih
theorem KV.any{kvs:List (κ×V)}{vs:List (κ×Value)}(r:KV kvs vs)(k:κ):(kvs.any λkv=>decide (kv.1=k))=vs.any λkv=>decide (kv.1=k):=by
 unfold KV at r
 induction r with
 |nil=>rfl
 |cons h t ih=>rw[dE,dE,ih,h.1]
theorem KV.repl{kvs:List (κ×V)}{vs:List (κ×Value)}(r:KV kvs vs)(k:κ){y:V}{u:Value}(ry:RelV y u) :
  KV (kvs.map λkv=>if kv.1=k then(kv.1,y)else kv) (vs.map λkv=>if kv.1=k then(kv.1,u)else kv):=by
 unfold KV at r ⊢
 induction r with
 |nil=>exact .nil
 | @cons p q ps qs h t ih =>
  rw[aO,aO]
  refine .cons ?_ ih
  obtain⟨h1,h2⟩:=h
  by_cases e:p.1=k
  ·rw[if_pos e,if_pos (h1.symm.trans e)];exact⟨h1,ry⟩
  ·rw[if_neg e,if_neg (λz=>e (h1.trans z))];exact⟨h1,h2⟩
theorem KV.put{kvs:List (κ×V)}{vs:List (κ×Value)}(r:KV kvs vs)(k:κ){y:V}{u:Value}(ry:RelV y u):KV (lL kvs k y) (stored vs k u):=by
 unfold lL stored
 rw[r.any k]
 by_cases e:(vs.any λkv=>decide (kv.1=k))=true
 ·rw[if_pos e,if_pos e];exact r.repl k ry
 ·rw[if_neg e,if_neg e];exact Paired.snoc r ⟨rfl,ry⟩
theorem KV.length{kvs:List (κ×V)}{vs:List (κ×Value)}(r:KV kvs vs):kvs.length=vs.length:=Paired.length r
end
theorem aFf{P:Program}{w:World}{k:Key}{u:Value}(r:RelV (kV k) u):(fF P w).is k u=true:=by
 cases k with
 |inl i=>obtain⟨t,e⟩:=(show ∃t,u=Value.int i t from r);subst e;exact wB P w i t
 |inr x=>obtain⟨t,e⟩:=(show ∃t,u=Value.str x t from r);subst e;exact wA P w x t
theorem rB{P:Program}{w:World}:∀{ks:List Key} {us:List Value},Vals (ks.map kV) us->ItemsAre (fF P w) ks us
 | [],_,r=>by rw[dG]at r;cases r;exact .nil
 |k::ks,_,r=>by
  rw[aO]at r
  cases r with
  |cons h t=>exact .cons (aFf h) (rB t)
abbrev KT(H:Hp):List (List Key×V)->List (List Key×Addr×Value)->Prop:=Paired λp q=>p.1=q.1/\H q.2.1=some (.tup (p.1.map kV))/\RelV p.2 q.2.2
theorem KT.val{H:Hp}{kvs:List (List Key×V)}{xs:List (List Key×Addr×Value)}(r:KT H kvs xs)(k:List Key):RelO (kZ kvs k) ((atKey xs k).map (·.2)):=by
 induction r with
 |nil=>exact True.intro
 | @cons p q ps qs h t ih =>
  obtain⟨h1,_,h2⟩:=h
  by_cases e:p.1=k
  ·have e':q.1=k:=h1.symm.trans e
   have b:atKey (q::qs) k=some q.2:=by simp[atKey,fC,e']
   rw[it_ e,b];exact h2
  ·have e':¬ q.1=k:=fun z=>e (h1.trans z)
   have b:atKey (q::qs) k=atKey qs k:=by simp[atKey,fC,e']
   rw[iu_ e,b];exact ih
theorem KT.repl{H:Hp}{kvs:List (List Key×V)}{xs:List (List Key×Addr×Value)}(r:KT H kvs xs)(k:List Key){y:V}{u:Value}(ry:RelV y u) :
  KT H (kvs.map λkv=>if kv.1=k then(kv.1,y)else kv) (xs.map (putAt k u)):=by
 induction r with
 |nil=>exact .nil
 | @cons p q ps qs h t ih =>
  rw[aO,aO]
  refine .cons ?_ ih
  obtain⟨h1,h2,h3⟩:=h
  unfold putAt
  by_cases e:p.1=k
  ·rw[if_pos e,if_pos (h1.symm.trans e)];exact⟨h1,h2,ry⟩
  ·rw[if_neg e,if_neg (λz=>e (h1.trans z))];exact⟨h1,h2,h3⟩
theorem KT.put{H:Hp}{kvs:List (List Key×V)}{xs:List (List Key×Addr×Value)}(r:KT H kvs xs)(k:List Key){b:Addr}{y:V}{u:Value}(hb:H b=some (.tup (k.map kV)))(ry:RelV y u) :
  KT H (lL kvs k y) (storedH xs k b u):=by
 have e:(kvs.any λkv=>decide (kv.1=k))=(atKey xs k).isSome:=by
  rw[vG,(r.val k).isSome_eq,Option.isSome_map]
 unfold lL storedH
 rw[e]
 by_cases q:(atKey xs k).isSome=true
 ·rw[if_pos q,if_pos q];exact r.repl k ry
 ·rw[if_neg q,if_neg q];exact Paired.snoc r ⟨rfl,hb,ry⟩
theorem KT.keeps{H H':Hp}{kvs:List (List Key×V)}{xs:List (List Key×Addr×Value)}(r:KT H kvs xs)(ht:∀b ys,H b=some (.tup ys)->H' b=some (.tup ys)):KT H' kvs xs:=
 Paired.mapP r λ_ _ z=>⟨z.1,ht _ _ z.2.1,z.2.2⟩
section
variable{P:Program}{w:World}{H:Hp}{h:Heap}{a:Addr}
theorem aOd{u:HO}(ok:HOk P w H h)(e:Rd H a u):ObjOk P w H h a u:=e.ok ok
theorem aGh{kvs:List (Key×V)}(ok:HOk P w H h)(e:Rd H a (.dK kvs)):kvs.length<=sizeLine/\(a == sysModules)=false/\∃vs,KV kvs vs/\h.DictOf (fF P w) a vs:=
 show ObjOk P w H h a (.dK kvs)from aOd ok e
theorem aZv{kvs:List (Key×V)}(ok:HOk P w H h)(e:H a=some (.dK kvs)):kvs.length<=sizeLine/\(a == sysModules)=false/\∃vs,KV kvs vs/\h.DictOf (fF P w) a vs:=aGh ok (.inl e)
theorem yT{ks:List Key}(ok:HOk P w H h)(e:H a=some (.tup (ks.map kV))):(tupleKind (fF P w)).is h ks a:=by
 obtain⟨_,its,r,o,h1,h2,n,h3⟩:=(show ObjOk P w H h a (.tup (ks.map kV))from ok a _ e)
 exact⟨o,its.toArray,n,h1,h2,h3,by simpa using rB r⟩
theorem aPg{kvs:List (List Key×V)}(ok:HOk P w H h)(e:Rd H a (.dT kvs)):kvs.length<=sizeLine/\(a == sysModules)=false /\
  ∃xs,KT H kvs xs/\h.DictOfH (tupleKind (fF P w)) a xs:=by
 obtain⟨z,y,xs,r,o,es,ep,h1,h2,h3,h4,h5⟩:=(show ObjOk P w H h a (.dT kvs)from aOd ok e)
 refine⟨z,y,xs,r,o,es,ep,h1,h2,h3,h4,λx hx=>?_,h5⟩
 have all:∀{l:List (List Key×V)} {m:List (List Key×Addr×Value)},KT H l m->∀x∈m,(tupleKind (fF P w)).is h x.1 x.2.1:=by
  intro l m q
  induction q with
  |nil=>intro x hx;exact nomatch hx
  | @cons p q ps qs hq t ih =>
   intro x hx
   rcases aI.mp hx with e | hx
   ·subst e
    exact yT ok (by rw[<-hq.1];exact hq.2.1)
   ·exact ih x hx
 exact all r x hx
theorem aZs{kvs:List (List Key×V)}(ok:HOk P w H h)(e:H a=some (.dT kvs)):kvs.length<=sizeLine/\(a == sysModules)=false /\
  ∃xs,KT H kvs xs/\h.DictOfH (tupleKind (fF P w)) a xs:=aPg ok (.inl e)
end
def DGet(H:Hp)(a:Addr)(y:V)(r:Option V):Prop:=
 (∃kvs k,Rd H a (.dK kvs)/\y=kV k/\r=kZ kvs k)\/∃kvs k b,Rd H a (.dT kvs)/\y=.ref b/\H b=some (.tup (k.map kV))/\r=kZ kvs k
def DPut(H:Hp)(a:Addr)(y v:V)(H':Hp):Prop:=
 (∃kvs k,H a=some (.dK kvs)/\y=kV k/\kvs.length<sizeLine/\H'=upd H a (.dK (lL kvs k v))) \/
 ∃kvs k b,H a=some (.dT kvs)/\y=.ref b/\H b=some (.tup (k.map kV))/\kvs.length<sizeLine/\H'=upd H a (.dT (lL kvs k v))
theorem DGet.k{H:Hp}{a:Addr}{kvs:List (Key×V)}{k:Key}(e:H a=some (.dK kvs)):DGet H a (kV k) (kZ kvs k):=.inl ⟨kvs,k,.inl e,rfl,rfl⟩
theorem DPut.k{H:Hp}{a:Addr}{kvs:List (Key×V)}{k:Key}{v:V}(e:H a=some (.dK kvs))(hl:kvs.length<sizeLine):DPut H a (kV k) v (upd H a (.dK (lL kvs k v))):=.inl ⟨kvs,k,e,rfl,hl,rfl⟩
section
variable{X:Cx}{Aa:eL}{σ:St}{H:Hp}{s:Shared}{a:Addr}{y v:V}{u r:Value}{o:Option V}{A:Around}{E:gV}
theorem Inv.big(I:Inv X Aa σ H s):sysModules<s.heap.objs.size:=by
 have h:mainGlobals<s.heap.objs.size:=(I.mod.glob.keeps I.bk).lt
 exact Nat.lt_trans (by decide) h
theorem bDu{Q:gV}(hu:A.units+1<cLine)(I:Inv X Aa σ H s)(g:DGet H a y o)(ry:RelV y u)(h:∀s',Inv X Aa σ H s'->Q (.bool o.isSome) s') :
  wpAny (model X.prog X.w) A (compareOp .In u (.ref a)) Q E s:=by
 rcases g with⟨kvs,k,e,ey,l⟩ | ⟨kvs,k,b,e,ey,eb,l⟩
 ·subst ey
  obtain⟨z,hd,vs,rel,dd⟩:=aGh I.hok e
  refine wpAny_in_of (aFf ry) hd dd.mapOf ?_
  rw[<-(rel.val k).isSome_eq,<-l]
  exact h _ (I.tok _)
 ·subst ey
  cases(show u=Value.ref b from ry)
  obtain⟨z,hd,xs,rel,dd⟩:=aPg I.hok e
  refine wpAny_in_heap (tupleKind_room_in1 hu) (yT I.hok eb) hd dd ?_
  have q:=(rel.val k).isSome_eq
  rw[Option.isSome_map]at q
  rw[<-q,<-l]
  exact h _ (I.tok _)
theorem m6{h':Heap}{t':Nat}{ob:HO}(I:Inv X Aa σ H s)(mu:Mut (H a))(hs:Heap.SameBut a s.heap h')(he:∃q,h'.get? a=some q)(new:ObjOk X.prog X.w (upd H a ob) h' a ob) :
  Inv X Aa σ (upd H a ob) { s with heap:=h',toks:=t' }:=
 I.write (x:=a) (e:=a) mu (.inl rfl) (λb q hb z=>(hs.2 b hb).trans z) he new
theorem aUm{P:Program}{w:World}{H':Hp}{h':Heap}{kvs:List (Key×V)}{vs:List (Key×Value)}(z:kvs.length<=sizeLine)(hd:(a == sysModules)=false)(rel:KV kvs vs)(dd:h'.DictOf (fF P w) a vs) :
  ObjOk P w H' h' a (.dK kvs):=⟨z,hd,vs,rel,dd⟩
theorem aAc{H':Hp}{Q:Unit->Shared->Prop}(hu:A.units+1<cLine)(I:Inv X Aa σ H s)(g:DPut H a y v H')(ry:RelV y u)(rv:RelV v r)(h:∀s',Inv X Aa σ H' s'->Q () s') :
  wpAny (model X.prog X.w) A (setItem (.ref a) u r) Q E s:=by
 rcases g with⟨kvs,k,e,ey,l,eH⟩ | ⟨kvs,k,b,e,ey,eb,l,eH⟩
 ·subst ey eH
  obtain⟨z,hd,vs,rel,dd⟩:=aZv I.hok e
  have hz:vs.length<=sizeLine:=by rw[<-rel.length];exact z
  have hl:(lL kvs k v).length<=sizeLine:=by have:=js_ kvs k v;omega
  refine wpAny_setItem_pairs (hsz:=hz) (aFf ry) dd λh' dd' hs=>h _ ?_
  have he:∃q,h'.get? a=some q:=let ⟨q,_,_,hq,_⟩:=dd';⟨q,hq⟩
  exact m6 I (by rw[e];exact True.intro) hs he (aUm hl hd (rel.put k rv) dd')
 ·subst ey eH
  cases(show u=Value.ref b from ry)
  obtain⟨z,hd,xs,rel,dd⟩:=aZs I.hok e
  have hz:xs.length<=sizeLine:=by rw[<-Paired.length rel];exact z
  have hl:(lL kvs k v).length<=sizeLine:=by have:=js_ kvs k v;omega
  refine wpAny_setItem_heap (hsz:=hz) (tupleKind_room_in1 hu) (yT I.hok eb) dd λh' dd' hs=>h _ ?_
  obtain⟨q,es,ep,hq,h2,h3,h4,_,h5⟩:=dd'
  refine m6 I (by rw[e];exact True.intro) hs ⟨q,hq⟩ ⟨hl,hd,_,(rel.put k eb rv).keeps λc ys ec=>?_,q,es,ep,hq,h2,h3,h4,h5⟩
  rw[gU (aYd ec e (λz=>nomatch z))]
  exact ec
end
section
variable{X:Cx}{Aa:eL}{σ:St}{H:Hp}{s:Shared}{a:Addr}{kvs:List (Key×V)}{k:Key}{u:Value}{A:Around}{E:gV}
theorem aZw{Q:gV}(I:Inv X Aa σ H s)(e:Rd H a (.dK kvs))(h:∀t s',Inv X Aa σ H s'->Q (.int kvs.length t) s'):wpAny (model X.prog X.w) A (call (.builtin "len") [.ref a]) Q E s:=by
 obtain⟨z,hd,vs,rel,dd⟩:=aGh I.hok e
 refine call_len_dict hd dd (by rw[<-rel.length];rw[sizeLine_eq]at z;omega) ?_
 rw[<-rel.length]
 exact h _ _ (I.tok _)
end
def aQi(ty td:TE):TE:=λσ H Q=>ty σ H λy H1=>td σ H1 λx H2=>∃a o,x=.ref a/\DGet H2 a y o/\Q (.bl o.isSome) H2
def aOa(td ty tv:TE):TS:=λD σ H=>tv σ H λv H1=>td σ H1 λx H2=>ty σ H2 λy H3=>∃a H4,x=.ref a/\DPut H3 a y v H4/\D.nx σ H4
section
variable{X:Cx}{o i e value:Expr}{pos pos' tpos:Pos}{td ty tv:TE}
theorem aRn(hu:X.A.units+1<cLine)(hi:PE X i ty)(ho:PE X o td):PC X .In i o (aQi ty td):=by
 intro Aa s σ H Q I h
 refine dN (hi Aa s σ H _ I h) λiv s1 ⟨y,H1,I1,ry,q1⟩=>dN (ho Aa s1 σ H1 _ I1 q1) λu s2 ⟨x,H2,I2,rx,a,ov,ex,g,q2⟩=>?_
 subst ex
 obtain rfl:u=Value.ref a:=rx
 exact bDu hu I2 g ry λs3 I3=>⟨.bl ov.isSome,H2,I3,rfl,q2⟩
theorem aJh(hu:X.A.units+1<cLine)(ho:PE X o td)(hi:PE X i ty)(hv:PE X value tv)(hs:swapsWith value (some (.Subscript o i pos')) pos.line X.env=pure false) :
  PS X (.Assign [.Subscript o i pos'] value pos) (aOa td ty tv):=by
 intro Aa s σ H D I h
 refine wpAny_Assign_Subscript (dN (hv Aa s σ H _ I h) λr s1 ⟨v,H1,I1,rv,q1⟩=>dN (ho Aa s1 σ H1 _ I1 q1) λu s2 ⟨x,H2,I2,rx,q2⟩=>dN (hi Aa s2 σ H2 _ I2 q2) λiv s3 ⟨y,H3,I3,ry,a,H4,ex,g,q3⟩=>?_) hs
 subst ex
 obtain rfl:u=Value.ref a:=rx
 exact aAc hu I3 g ry rv λs4 I4=>⟨σ,H4,I4,q3⟩
end
theorem aGi{P:Program}{w:World}{H:Hp}(h:Heap)(hb:sysModules<h.objs.size):ObjOk P w H (h.push { cls:=.type "dict",data:=.dict #[] }) h.objs.size (.dK []):=
 ⟨bP _,beq_eq_false_iff_ne.mpr (Ne.symm (cH hb)),[],.nil,Heap.DictOf.new h⟩
def aQh:TE:=λ_ H Q=>∀p,H p=none->Q (.ref p) (upd H p (.dK []))
section
variable{X:Cx}{pos:Pos}
theorem aDs:PE X (.Dict [] [] pos) aQh:=λAa s σ H Q I h =>
 wpAny_Dict_empty ⟨.ref s.heap.objs.size,_,I.laid (a:=s.heap.objs.size) (o:=.dK []) (t':=s.toks) (λ_ _ q=>aQ _ q) (aV _) (aGi s.heap I.big),rfl,h _ (I.hok.fresh (aV _))⟩
end
theorem zL:bootBuiltins "all" = some (.builtin "all"):=by decide +kernel
theorem a7:∀{bs:List Bool} {us:List Value},Vals (bs.map V.bl) us->us=bs.map Value.bool
 | [],_,h=>by cases h;rfl
 |b::bs,_,h=>by
  cases h with
  |cons ra rb =>
   cases ra
   rw[a7 rb]
   rfl
theorem t6:∀(bs:List Bool),(List.range bs.length).all (λi=>bs[i]?.getD false)=bs.all id:=by
 intro bs
 rw[cX,cG,cG]
 constructor
 ·intro h b hb
  obtain⟨i,hi,rfl⟩:=List.getElem_of_mem hb
  have:=h i (eM.mpr hi)
  rw[aR hi]at this
  exact this
 ·intro h i hi
  have Di:=eM.mp hi
  rw[aR Di]
  exact h _ (List.getElem_mem Di)
section
variable{X:Cx}
def aDb(K:dA):List V->Hp->VK->Prop:=λxs H Q=>∃(p:Addr) (bs:List Bool),xs=[.ref p]/\SqL K H p (bs.map V.bl)/\Q (.bl (bs.all id)) H
theorem aAp(hc:X.calm=true):CallR X (.builtin "all") (aDb X.K):=by
 intro Aa s σ H xs us Q I r h
 obtain⟨p,bs,rfl,hq,q⟩:=h
 obtain⟨u,rfl,rx⟩:=gO r
 cases rx
 obtain⟨its,r',pl,hz⟩:=I.list hq
 have hi:=a7 r'
 subst hi
 have hh:X.A.in1.handled=none:=I.ok.hd hc
 have lt:p<s.heap.objs.size:=by obtain⟨_,e,_⟩:=pl.isList;exact bH e
 refine call_all_walk (wpAny_pyIter_list pl.isList ⟨_,_,_,_,_,_,λi=>bs[i]?.getD false,rfl,Walks.list hh s.heap.objs.size p (cH lt) (bs.map Value.bool).toArray,⟨⟨_,bO _ rfl,rfl,rfl⟩,?_⟩,?_,λh' tk hk=>?_⟩)
 ·obtain ⟨o,e,r⟩:=pl.isList
  exact⟨o,aQ _ e,r⟩
 ·intro i v s' Q' E' hv hQ
  have Be:(bs.map Value.bool)[i]? = some v:=by simpa using hv
  rw[cA]at Be
  cases hb:bs[i]? with
  |none=>rw[hb]at Be;cases Be
  |some b =>
   rw[hb]at Be
   cases Be
   have M2:Q' (bs[i]?.getD false) s':=hQ
   rw[hb]at M2
   exact wpAny_truthy_bool M2
 ·have G4:∀ b o,s.heap.get? b=some o→h'.get? b=some o:=fun b o e=>hk b o (by simp; exact cH (bH e)) (aQ _ e)
  refine⟨.bl _,H,I.kept G4,?_,q⟩
  show Value.bool _=Value.bool _
  rw[bN,aD,t6]
end
def Its(x:Str):It:=⟨λi H=>i<x.cps.size,λi H v H'=>H'=H/\∃c,x.cps[i]? = some c/\v=.str ⟨#[c]⟩,λi H=>x.cps.size<=i⟩
theorem p9{P:Program}{w:World}{K:dA}{tg:Expr}(x:Str)(t:Tok)(it:Addr):Turn P w K tg (Its x) [it] it (λi h=>h.IsStrIter it "str_ascii_iterator" x t i)where
 mem:=by simp
 obj:=λi h st b hb=>by
  have e:b=it:=by simpa using hb
  subst e
  obtain⟨o,e,c,d⟩:=st
  exact⟨o,e,λv z=>by rw[d]at z;cases z⟩
 keep:=λi h h' st k=>let ⟨o,ho,r⟩:=st;⟨o,k it (by simp) o ho,r⟩
 item:=by
  intro X hP hw hK hc i Aa s σ H E I hf st hg
  subst hP hw hK
  obtain⟨f0,f1,f2,f3,f4,f5⟩:=hf it (by simp)
  have Fg:i<x.cps.size:=hg
  refine wpAny_pyNext_ascii_item st (c:=x.cps[i]) (by simp[Fg]) λh' st' sb=>?_
  have I1:Inv X Aa σ H { s with heap:=h',toks:=s.toks+1 }:=I.turned (t':=s.toks+1) (λb o hb e=>(sb.2 b hb).trans e) f0 f1 f3 f4 f5
  obtain⟨o,e,c,d⟩:=id st'
  exact⟨_,rfl,j8 (s:={ s with heap:=h',toks:=s.toks+1 }) e c d (by decide) ⟨.str ⟨#[x.cps[i]]⟩,H,I1,⟨_,rfl⟩,⟨rfl,_,by simp[Fg],rfl⟩,st',λb hb=>(hf b hb).1⟩⟩
 done:=by
  intro X hP hw hK hc i Aa s σ H E I hf st hg
  subst hP hw hK
  obtain⟨f0,f1,f2,f3,f4,f5⟩:=hf it (by simp)
  have Fg:x.cps.size<=i:=hg
  exact wpAny_pyNext_ascii_end (I.ok.hd hc) st (by simp[Fg]) λh' eb=>⟨rfl,I.turned (t':=s.toks) (λb o hb e=>eb b o hb e) f0 f1 f3 f4 f5⟩
 self:=λ_ _ _ _ _ st h=>wpAny_pyIter_striter_ascii st h
theorem p8{P:Program}{w:World}{K:dA}{tg:Expr}(x:Str)(t:Tok)(it:Addr):Turn P w K tg (Its x) [it] it (λi h=>h.IsStrIter it "str_iterator" x t i)where
 mem:=by simp
 obj:=λi h st b hb=>by
  have e:b=it:=by simpa using hb
  subst e
  obtain⟨o,e,c,d⟩:=st
  exact⟨o,e,λv z=>by rw[d]at z;cases z⟩
 keep:=λi h h' st k=>let ⟨o,ho,r⟩:=st;⟨o,k it (by simp) o ho,r⟩
 item:=by
  intro X hP hw hK hc i Aa s σ H E I hf st hg
  subst hP hw hK
  obtain⟨f0,f1,f2,f3,f4,f5⟩:=hf it (by simp)
  have Fg:i<x.cps.size:=hg
  refine wpAny_pyNext_wide_item st (c:=x.cps[i]) (by simp[Fg]) λh' st' sb=>?_
  have I1:Inv X Aa σ H { s with heap:=h',toks:=s.toks+1 }:=I.turned (t':=s.toks+1) (λb o hb e=>(sb.2 b hb).trans e) f0 f1 f3 f4 f5
  obtain⟨o,e,c,d⟩:=id st'
  exact⟨_,rfl,j8 (s:={ s with heap:=h',toks:=s.toks+1 }) e c d (by decide) ⟨.str ⟨#[x.cps[i]]⟩,H,I1,⟨_,rfl⟩,⟨rfl,_,by simp[Fg],rfl⟩,st',λb hb=>(hf b hb).1⟩⟩
 done:=by
  intro X hP hw hK hc i Aa s σ H E I hf st hg
  subst hP hw hK
  obtain⟨f0,f1,f2,f3,f4,f5⟩:=hf it (by simp)
  have Fg:x.cps.size<=i:=hg
  exact wpAny_pyNext_wide_end (I.ok.hd hc) st (by simp[Fg]) λh' eb=>⟨rfl,I.turned (t':=s.toks) (λb o hb e=>eb b o hb e) f0 f1 f3 f4 f5⟩
 self:=λ_ _ _ _ _ st h=>wpAny_pyIter_striter_wide st h
def bDe(tl:TE):TI:=λσ H R=>tl σ H λv H1=>∃x,v=.str x/\R (Its x) H1
theorem aRd{X:Cx}{tg l:Expr}{tl:TE}(hl:PE X l tl):PI X tg l (bDe tl):=by
 intro Aa s σ H R I h
 refine dN (hl Aa s σ H _ I h) λv s1 ⟨y,H1,I1,r1,q1⟩=>?_
 obtain⟨x,e,q⟩:=q1
 subst e
 obtain⟨t,rfl⟩:=r1
 have fin:∀(o:Obj) (tn:Nat->Heap->Prop),Turn X.prog X.w X.K tg (Its x) [s1.heap.objs.size] s1.heap.objs.size tn->tn 0 (s1.heap.push o)->PIE X Aa σ tg R (.ref s1.heap.objs.size) { s1 with heap:=s1.heap.push o }:=λo tn T st=>by
  refine⟨s1.heap.objs.size,[s1.heap.objs.size],tn,_,H1,rfl,I1.kept (t':=s1.toks) λb o e=>aQ _ e,T,st,λb hb=>?_,q⟩
  have e:b=s1.heap.objs.size:=by simpa using hb
  subst e
  exact I1.fpOk (aV _) (I1.hok.fresh (aV _))
 cases ha:x.cps.all (· < 128)
 ·exact wpAny_pyIter_wide ha (fin _ _ (p8 x t _) ⟨_,bO _ rfl,rfl,rfl⟩)
 ·exact wpAny_pyIter_ascii ha (fin _ _ (p9 x t _) ⟨_,bO _ rfl,rfl,rfl⟩)
theorem aEx:∀i,i<26->("abcdefghijklmnopqrstuvwxyz" : Str).cps.extract i (i+1) = #[97+i]:=by decide +kernel
theorem aEw:∀j,j<26->(!(Builtin.Str.occurrences ("abcdefghijklmnopqrstuvwxyz" : Str) ⟨#[97+j]⟩ 0 ("abcdefghijklmnopqrstuvwxyz" : Str).length 1).isEmpty)=true:=by decide +kernel
theorem aLk(c:Nat):(!(Builtin.Str.occurrences ("abcdefghijklmnopqrstuvwxyz" : Str) ⟨#[c]⟩ 0 ("abcdefghijklmnopqrstuvwxyz" : Str).length 1).isEmpty)=(decide (97<=c)&&decide (c<=122)):=by
 by_cases h:97<=c/\c<=122
 ·have e:c=97 + (c - 97):=by omega
  rw[dzT h.1,dzT h.2,e]
  exact aEw _ (by omega)
 ·have z:(decide (97≤c) && decide (c≤122))=false:=by
   cases h1:decide (97<=c)
   ·rfl
   ·cases h2:decide (c≤122)
    ·rfl
    ·exact absurd ⟨of_decide_eq_true h1,of_decide_eq_true h2⟩ h
  rw[z,PySem.W.occ_nil_of_no]
  ·rfl
  ·intro i hi
   have Di:i<26:=by
    have:i+1<=26:=hi
    omega
   show(("abcdefghijklmnopqrstuvwxyz" : Str).cps.extract i (i+1) == #[c])=false
   rw[aEx i Di]
   have:97+i≠c:=by omega
   simpa using this
section
variable{X:Cx}
def aXj(K:dA):V->Hp->VK->Prop:=λx H Q=>∃a xs,x=.ref a/\SqL K H a xs/\∀p,H p=none->Q (.ref p) (upd H p (.lst xs.reverse))
def aWl(K:dA)(te:TE):TE:=λσ H Q=>te σ H λx H1=>aXj K x H1 Q
theorem aJo{e:Expr}{te:TE}{k:Nat}{p1 p2 p3 pos:Pos}(he:PE X e te):PE X (.Subscript e (.Slice none none (some (.UnaryOp .USub (.Constant (.int 1) k p1) p2)) p3) pos) (aWl X.K te):=by
 intro Aa s σ H Q I h
 refine Subscript_ (dN (he Aa s σ H _ I h) λv s1 ⟨x,H1,I1,r1,q1⟩=>?_)
 obtain⟨a,xs,rfl,hx,q⟩:=q1
 cases r1
 refine wpAny_Slice ?_
 rw[evalPart_none]
 refine wpAny_pure (wpAny_pure ?_)
 rw[evalPart_some]
 refine dN ((aDn xR oZ:PE X (.UnaryOp .USub (.Constant (.int 1) k p1) p2) _) Aa s1 σ H1 (λx H'=>x=.int (-1)/\H'=H1) I1 ⟨_,rfl,rfl,rfl⟩) λvs s2 ⟨y,H2,I2,r2,e2,e3⟩=>?_
 subst e2 e3
 obtain⟨t,rfl⟩:=r2
 have I3:Inv X Aa σ H2 { s2 with heap:=s2.heap.push { cls:=.type "slice",data:=.fields #[.none,.none,.int (-1) t] } }:=I2.kept (t':=s2.toks) λb ob q=>aQ _ q
 obtain⟨its,r,ht,hz⟩:=I3.list hx
 have Ak:=r.length
 refine tail_any (ops:=[.ref a,.ref s2.heap.objs.size]) ht.isList.typeIs slot_list_getitem.lookup ?_ (by with_unfolding_all rfl)
 refine wpAny_getItem_list_slice ht.isList (Heap.IsSliceOf.new ..) .none .none (.int _ _) (by simp) ?_ (by rw[bN]<;>omega)
 rw[PySem.W.krv_pick]
 refine⟨.ref _,_,I3.laid (t':=s2.toks) (o:=.lst xs.reverse) (λb ob q=>aQ _ q) (aV _) ?_,rfl,q _ (I3.hok.fresh (aV _))⟩
 exact⟨by rw[List.length_reverse];exact hz,its.reverse,0,r.reverse,bO _ rfl⟩
end
end L2
namespace Lf
open PySem L2
end Lf
namespace L2
open PySem PySem.Spec PyProof.Rows
end L2
namespace Lf
open PySem PySem.W PyProof.Rows
end Lf
namespace L2
open PySem PySem.Spec PyProof.Rows PySem.W
section
variable{prog:Program}{w:World}{A:Around}{E:gV}{s:Shared}
abbrev TI2:=Addr×List Int
def t0:TI2:=(0,[])
end
end L2
namespace Lf
open PySem
def Pw(m:Int):Prop:=m=1\/m=2\/m=4\/m=8
theorem Pw.max{a b:Int}(ha:Pw a)(hb:Pw b):Pw (max a b):=by
 by_cases h:a<=b
 ·rw[Int.max_eq_right h];exact hb
 ·rw[Int.max_eq_left (by omega)];exact ha
theorem Pw.maxL{l:List Int}(h:∀a∈l,Pw a):Pw (maxL 1 l):=by
 induction l with
 |nil=>exact .inl rfl
 |cons b r ih=>exact Pw.max (h b aA) (ih λa ha=>h a (aB _ ha))
end Lf
namespace Lf
end Lf
namespace Lf
open PySem
end Lf
namespace Lf
end Lf
namespace Lf
end Lf
namespace Lf
end Lf
namespace L2
open PySem PySem.Spec PyProof.Rows
end L2
namespace Lf
open PySem L2
def All2{α β:Type}(g:α->β->Prop):List α->List β->Prop
 | [],ys=>ys=[]
 |x::xs,ys=>∃y yr,ys=y::yr/\g x y/\All2 g xs yr
section
variable{α β:Type}{g h:α->β->Prop}
theorem All2.nil:All2 g [] []:=rfl
theorem All2.imp(i:∀v x,g v x->h v x):∀{vs:List α} {xs:List β},All2 g vs xs->All2 h vs xs
 | [],_,e=>e
 |_::_,_,⟨x,xr,e,a,b⟩=>⟨x,xr,e,i _ _ a,All2.imp i b⟩
theorem All2.len:∀{vs:List α} {xs:List β},All2 g vs xs->xs.length=vs.length
 | [],_,e=>by rw[show _=[]from e];rfl
 |_::_,_,⟨x,xr,e,a,b⟩=>by rw[e,aE,aE,All2.len b]
theorem All2.at:∀{vs:List α} {xs:List β} {i:Nat} {v:α},All2 g vs xs->vs[i]? = some v->∃x,xs[i]? = some x/\g v x
 | [],_,_,_,e,h=>by simp at h
 |v::vs,_,0,w,⟨y,yr,e,a,b⟩,h=>by rw[e];cases(ozI h);exact⟨y,rfl,a⟩
 |v::vs,_,i+1,w,⟨y,yr,e,a,b⟩,h=>by
  rw[e]
  obtain⟨u,hu,hg⟩:=All2.at (i:=i) b (by simpa using h)
  exact⟨u,by simpa using hu,hg⟩
theorem All2.app{us:List α}{ys:List β}(hu:All2 g us ys):∀{vs:List α} {xs:List β},All2 g vs xs->All2 g (vs++us) (xs++ys)
 | [],_,e=>by rw[show _=[]from e];exact hu
 |_::_,_,⟨y,yr,e,a,b⟩=>by rw[e];exact⟨y,yr++ys,rfl,a,All2.app hu b⟩
theorem All2.one{v:α}{x:β}(hg:g v x):All2 g [v] [x]:=⟨x,[],rfl,hg,rfl⟩
theorem All2.snoc{v:α}{x:β}(hg:g v x){vs:List α}{xs:List β}(h:All2 g vs xs):All2 g (vs++[v]) (xs++[x]):=All2.app (All2.one hg) h
theorem All2.take:∀(n:Nat) {vs:List α} {xs:List β},All2 g vs xs->All2 g (vs.take n) (xs.take n)
 | 0,_,_,_=>by simp only[List.take_zero];rfl
 |n+1,[],_,e=>by rw[show _=[]from e];rfl
 |n+1,_::_,_,⟨y,yr,e,a,b⟩=>by rw[e];exact⟨y,yr.take n,rfl,a,All2.take n b⟩
theorem All2.drop:∀(n:Nat) {vs:List α} {xs:List β},All2 g vs xs->All2 g (vs.drop n) (xs.drop n)
 | 0,_,_,h=>h
 |n+1,[],_,e=>by rw[show _=[]from e];rfl
 |n+1,_::_,_,⟨y,yr,e,a,b⟩=>by rw[e];exact All2.drop n b
theorem All2.rev:∀{vs:List α} {xs:List β},All2 g vs xs->All2 g vs.reverse xs.reverse
 | [],_,e=>by rw[show _=[]from e];rfl
 |_::_,_,⟨y,yr,e,a,b⟩=>by rw[e,List.reverse_cons,List.reverse_cons];exact All2.snoc a (All2.rev b)
theorem All2.set{v:α}{x:β}(hg:g v x):∀(i:Nat) {vs:List α} {xs:List β},All2 g vs xs->All2 g (vs.set i v) (xs.set i x)
 |_,[],_,e=>by rw[show _=[]from e];rfl
 | 0,_::_,_,⟨y,yr,e,a,b⟩=>by rw[e];exact⟨x,yr,rfl,hg,b⟩
 |i+1,_::_,_,⟨y,yr,e,a,b⟩=>by rw[e];exact⟨y,yr.set i x,rfl,a,All2.set hg i b⟩
end
inductive Dx where
 |non | bl (b:Bool) | int (i:Int) | str (x:Str) | tup (l:List Dx) | lst (l:List Dx) | dic (l:List (Key×Dx)) | scr (K:dA) (ns:List Int)
 |ins (C:Addr) (fs:List (Str×Dx)) | exc (c:Value)
def wT(a:Addr)(c:Value):Heap->Prop:=λh=>∃o vs,h.get? a=some o/\o.cls=c/\o.data=.fields vs/\o.dict=none
mutual
def IsX(H:Hp):Dx->V->Prop
 | .non,v=>v=.non
 | .bl b,v=>v=.bl b
 | .int i,v=>v=.int i
 | .str x,v=>v=.str x
 | .tup ds,v=>∃a vs,v=.ref a/\H a=some (.tup vs)/\IsXs H ds vs
 | .lst ds,v=>∃a vs,v=.ref a/\H a=some (.lst vs)/\IsXs H ds vs
 | .dic ks,v=>∃a ws,v=.ref a/\Rd H a (.dK ws)/\IsXk H ks ws
 | .scr K ns,v=>∃a,v=.ref a/\SqL K H a (ns.map V.int)
 | .ins C fs,v=>∃a dx ws,v=.ref a/\H a=some (.ins C dx ws)/\IsXf H fs ws
 | .exc c,v=>∃a,v=.ref a/\H a=some (.ext (wT a c))
def IsXs(H:Hp):List Dx->List V->Prop
 | [],vs=>vs=[]
 |d::r,vs=>∃v vr,vs=v::vr/\IsX H d v/\IsXs H r vr
def IsXk(H:Hp):List (Key×Dx)->List (Key×V)->Prop
 | [],ws=>ws=[]
 |k::r,ws=>∃w wr,ws=w::wr/\(k.1=w.1/\IsX H k.2 w.2)/\IsXk H r wr
def IsXf(H:Hp):List (Str×Dx)->List (Str×V)->Prop
 | [],ws=>ws=[]
 |k::r,ws=>∃w wr,ws=w::wr/\(k.1=w.1/\IsX H k.2 w.2)/\IsXf H r wr
end
theorem IsXs.all{H:Hp}:∀{ds:List Dx} {vs:List V},IsXs H ds vs↔All2 (IsX H) ds vs
 | [],vs=>by simp only[IsXs,All2]
 |d::r,vs=>by
  simp only[IsXs,All2]
  constructor
  ·rintro⟨v,vr,e,a,b⟩;exact⟨v,vr,e,a,IsXs.all.mp b⟩
  ·rintro⟨v,vr,e,a,b⟩;exact⟨v,vr,e,a,IsXs.all.mpr b⟩
abbrev KvX(H:Hp)(k:Key×Dx)(w:Key×V):Prop:=k.1=w.1/\IsX H k.2 w.2
theorem IsXk.all{H:Hp}:∀{ds:List (Key×Dx)} {vs:List (Key×V)},IsXk H ds vs↔All2 (KvX H) ds vs
 | [],vs=>by simp only[IsXk,All2]
 |d::r,vs=>by
  simp only[IsXk,All2]
  constructor
  ·rintro⟨v,vr,e,a,b⟩;exact⟨v,vr,e,a,IsXk.all.mp b⟩
  ·rintro⟨v,vr,e,a,b⟩;exact⟨v,vr,e,a,IsXk.all.mpr b⟩
abbrev FvX(H:Hp)(k:Str×Dx)(w:Str×V):Prop:=k.1=w.1/\IsX H k.2 w.2
theorem IsXf.all{H:Hp}:∀{ds:List (Str×Dx)} {vs:List (Str×V)},IsXf H ds vs↔All2 (FvX H) ds vs
 | [],vs=>by simp only[IsXf,All2]
 |d::r,vs=>by
  simp only[IsXf,All2]
  constructor
  ·rintro⟨v,vr,e,a,b⟩;exact⟨v,vr,e,a,IsXf.all.mp b⟩
  ·rintro⟨v,vr,e,a,b⟩;exact⟨v,vr,e,a,IsXf.all.mpr b⟩
def SameF(H H':Hp):Prop:=∀b o,H b=some o->H' b=some o\/∃ob ws,(o=.dK ws/\H' b=some (.frz ob (.dK ws)))\/(o=.frz ob (.dK ws)/\H' b=some (.dK ws))
theorem SameF.of{H H':Hp}(e:Same H H'):SameF H H':=λb o h=>.inl (e _ _ h)
theorem SameF.tup{H H':Hp}(e:SameF H H'){a:Addr}{vs:List V}(h:H a=some (.tup vs)):H' a=some (.tup vs):=by
 rcases e _ _ h with q | ⟨ob,ws,q | q⟩
 ·exact q
 ·cases q.1
 ·cases q.1
theorem SameF.lst{H H':Hp}(e:SameF H H'){a:Addr}{vs:List V}(h:H a=some (.lst vs)):H' a=some (.lst vs):=by
 rcases e _ _ h with q | ⟨ob,ws,q | q⟩
 ·exact q
 ·cases q.1
 ·cases q.1
theorem SameF.dic{H H':Hp}(e:SameF H H'){a:Addr}{ws:List (Key×V)}(h:Rd H a (.dK ws)):Rd H' a (.dK ws):=by
 rcases h with h | ⟨o,h⟩
 ·rcases e _ _ h with q | ⟨ob,ws,q | q⟩
  ·exact .inl q
  ·obtain⟨q1,q2⟩:=q;cases q1;exact .inr ⟨_,q2⟩
  ·cases q.1
 ·rcases e _ _ h with q | ⟨ob,ws,q | q⟩
  ·exact .inr ⟨_,q⟩
  ·cases q.1
  ·obtain⟨q1,q2⟩:=q;cases q1;exact .inl q2
theorem SameF.ins{H H':Hp}(e:SameF H H'){a C dx:Addr}{ws:List (Str×V)}(h:H a=some (.ins C dx ws)):H' a=some (.ins C dx ws):=by
 rcases e _ _ h with q | ⟨ob,ws,q | q⟩
 ·exact q
 ·cases q.1
 ·cases q.1
theorem SameF.ext{H H':Hp}(e:SameF H H'){a:Addr}{φ:Heap->Prop}(h:H a=some (.ext φ)):H' a=some (.ext φ):=by
 rcases e _ _ h with q | ⟨ob,ws,q | q⟩
 ·exact q
 ·cases q.1
 ·cases q.1
theorem SameF.sq{H H':Hp}(e:SameF H H'){K:dA}{a:Addr}{xs:List V}(h:SqL K H a xs):SqL K H' a xs:=by
 rcases h with(h | ⟨o,h⟩) | h
 ·exact .inl (.inl (e.lst h))
 ·rcases e _ _ h with q | ⟨ob,ws,q | q⟩
  ·exact .inl (.inr ⟨o,q⟩)
  ·cases q.1
  ·cases q.1
 ·exact .inr h
mutual
theorem IsX.sameF{H H':Hp}(e:SameF H H'):∀(d:Dx) (v:V),IsX H d v->IsX H' d v
 | .non,v,h=>by simpa only[IsX]using h
 | .bl _,v,h=>by simpa only[IsX]using h
 | .int _,v,h=>by simpa only[IsX]using h
 | .str _,v,h=>by simpa only[IsX]using h
 | .tup ds,v,h=>by
  simp only[IsX]at h ⊢
  obtain⟨a,vs,h1,h2,h3⟩:=h
  exact⟨a,vs,h1,e.tup h2,IsXs.sameF e ds vs h3⟩
 | .lst ds,v,h=>by
  simp only[IsX]at h ⊢
  obtain⟨a,vs,h1,h2,h3⟩:=h
  exact⟨a,vs,h1,e.lst h2,IsXs.sameF e ds vs h3⟩
 | .dic ks,v,h=>by
  simp only[IsX]at h ⊢
  obtain⟨a,ws,h1,h2,h3⟩:=h
  exact⟨a,ws,h1,e.dic h2,IsXk.sameF e ks ws h3⟩
 | .scr K ns,v,h=>by
  simp only[IsX]at h ⊢
  obtain⟨a,h1,h2⟩:=h
  exact⟨a,h1,e.sq h2⟩
 | .ins C fs,v,h=>by
  simp only[IsX]at h ⊢
  obtain⟨a,dx,ws,h1,h2,h3⟩:=h
  exact⟨a,dx,ws,h1,e.ins h2,IsXf.sameF e fs ws h3⟩
 | .exc c,v,h=>by
  simp only[IsX]at h ⊢
  obtain⟨a,h1,h2⟩:=h
  exact⟨a,h1,e.ext h2⟩
theorem IsXs.sameF{H H':Hp}(e:SameF H H'):∀(ds:List Dx) (vs:List V),IsXs H ds vs->IsXs H' ds vs
 | [],vs,h=>by simpa only[IsXs]using h
 |d::r,vs,h=>by
  simp only[IsXs]at h ⊢
  obtain⟨v,vr,h1,h2,h3⟩:=h
  exact⟨v,vr,h1,IsX.sameF e d v h2,IsXs.sameF e r vr h3⟩
theorem IsXk.sameF{H H':Hp}(e:SameF H H'):∀(ds:List (Key×Dx)) (ws:List (Key×V)),IsXk H ds ws->IsXk H' ds ws
 | [],vs,h=>by simpa only[IsXk]using h
 |d::r,vs,h=>by
  simp only[IsXk]at h ⊢
  obtain⟨v,vr,h1,h2,h3⟩:=h
  exact⟨v,vr,h1,⟨h2.1,IsX.sameF e d.2 v.2 h2.2⟩,IsXk.sameF e r vr h3⟩
theorem IsXf.sameF{H H':Hp}(e:SameF H H'):∀(ds:List (Str×Dx)) (ws:List (Str×V)),IsXf H ds ws->IsXf H' ds ws
 | [],vs,h=>by simpa only[IsXf]using h
 |d::r,vs,h=>by
  simp only[IsXf]at h ⊢
  obtain⟨v,vr,h1,h2,h3⟩:=h
  exact⟨v,vr,h1,⟨h2.1,IsX.sameF e d.2 v.2 h2.2⟩,IsXf.sameF e r vr h3⟩
end
theorem IsX.toF{H H':Hp}{d:Dx}{v:V}(h:IsX H d v)(e:SameF H H'):IsX H' d v:=IsX.sameF e d v h
theorem IsX.to{H H':Hp}{d:Dx}{v:V}(h:IsX H d v)(e:Same H H'):IsX H' d v:=IsX.sameF (.of e) d v h
theorem IsX.int_eq{H:Hp}{i:Int}{v:V}(h:IsX H (.int i) v):v=.int i:=by simpa only[IsX]using h
theorem IsX.bl_eq{H:Hp}{i:Bool}{v:V}(h:IsX H (.bl i) v):v=.bl i:=by simpa only[IsX]using h
theorem IsX.str_eq{H:Hp}{i:Str}{v:V}(h:IsX H (.str i) v):v=.str i:=by simpa only[IsX]using h
theorem IsX.non_eq{H:Hp}{v:V}(h:IsX H .non v):v=.non:=by simpa only[IsX]using h
theorem IsX.tup_eq{H:Hp}{l:List Dx}{v:V}(h:IsX H (.tup l) v):∃a vs,v=.ref a/\H a=some (.tup vs)/\All2 (IsX H) l vs:=by
 simp only[IsX]at h
 obtain⟨a,vs,h1,h2,h3⟩:=h
 exact⟨a,vs,h1,h2,IsXs.all.mp h3⟩
theorem IsX.lst_eq{H:Hp}{l:List Dx}{v:V}(h:IsX H (.lst l) v):∃a vs,v=.ref a/\H a=some (.lst vs)/\All2 (IsX H) l vs:=by
 simp only[IsX]at h
 obtain⟨a,vs,h1,h2,h3⟩:=h
 exact⟨a,vs,h1,h2,IsXs.all.mp h3⟩
theorem IsX.dic_eq{H:Hp}{l:List (Key×Dx)}{v:V}(h:IsX H (.dic l) v):∃a ws,v=.ref a/\Rd H a (.dK ws)/\All2 (KvX H) l ws:=by
 simp only[IsX]at h
 obtain⟨a,vs,h1,h2,h3⟩:=h
 exact⟨a,vs,h1,h2,IsXk.all.mp h3⟩
theorem IsX.scr_eq{H:Hp}{K:dA}{ns:List Int}{v:V}(h:IsX H (.scr K ns) v):∃a,v=.ref a/\SqL K H a (ns.map V.int):=by simpa only[IsX]using h
theorem IsX.of_scr{H:Hp}{K:dA}{ns:List Int}{a:Addr}(h:SqL K H a (ns.map V.int)):IsX H (.scr K ns) (.ref a):=by simp only[IsX];exact⟨a,rfl,h⟩
theorem IsX.ins_eq{H:Hp}{C:Addr}{fs:List (Str×Dx)}{v:V}(h:IsX H (.ins C fs) v):∃a dx ws,v=.ref a/\H a=some (.ins C dx ws)/\All2 (FvX H) fs ws:=by
 simp only[IsX]at h
 obtain⟨a,dx,ws,h1,h2,h3⟩:=h
 exact⟨a,dx,ws,h1,h2,IsXf.all.mp h3⟩
theorem IsX.exc_eq{H:Hp}{c:Value}{v:V}(h:IsX H (.exc c) v):∃a,v=.ref a/\H a=some (.ext (wT a c)):=by simpa only[IsX]using h
theorem IsX.of_ins{H:Hp}{C a dx:Addr}{fs:List (Str×Dx)}{ws:List (Str×V)}(h:H a=some (.ins C dx ws))(h':All2 (FvX H) fs ws):IsX H (.ins C fs) (.ref a):=by simp only[IsX];exact⟨a,dx,ws,rfl,h,IsXf.all.mpr h'⟩
theorem IsX.of_exc{H:Hp}{c:Value}{a:Addr}(h:H a=some (.ext (wT a c))):IsX H (.exc c) (.ref a):=by simp only[IsX];exact⟨a,rfl,h⟩
theorem IsX.of_int{H:Hp}(i:Int):IsX H (.int i) (.int i):=by simp only[IsX]
theorem IsX.of_bl{H:Hp}(i:Bool):IsX H (.bl i) (.bl i):=by simp only[IsX]
theorem IsX.of_str{H:Hp}(i:Str):IsX H (.str i) (.str i):=by simp only[IsX]
theorem IsX.of_non{H:Hp}:IsX H .non .non:=by simp only[IsX]
theorem IsX.of_tup{H:Hp}{l:List Dx}{a:Addr}{vs:List V}(h:H a=some (.tup vs))(h':All2 (IsX H) l vs):IsX H (.tup l) (.ref a):=by simp only[IsX];exact⟨a,vs,rfl,h,IsXs.all.mpr h'⟩
theorem IsX.of_lst{H:Hp}{l:List Dx}{a:Addr}{vs:List V}(h:H a=some (.lst vs))(h':All2 (IsX H) l vs):IsX H (.lst l) (.ref a):=by simp only[IsX];exact⟨a,vs,rfl,h,IsXs.all.mpr h'⟩
theorem IsX.of_dic{H:Hp}{l:List (Key×Dx)}{a:Addr}{vs:List (Key×V)}(h:Rd H a (.dK vs))(h':All2 (KvX H) l vs):IsX H (.dic l) (.ref a):=by simp only[IsX];exact⟨a,vs,rfl,h,IsXk.all.mpr h'⟩
inductive Ow where
 |tr (d:Dx) | ol (a:Addr) (l:List Ow) | od (a:Addr) (l:List (Key×Ow)) | oi (C a dx:Addr) (l:List (Str×Ow)) | ot (l:List Ow)
mutual
def Ow.d:Ow->Dx
 | .tr d=>d
 | .ol _ l=>.lst (u6 l)
 | .od _ l=>.dic (aDz l)
 | .oi C _ _ l=>.ins C (aEa l)
 | .ot l=>.tup (u6 l)
def u6:List Ow->List Dx
 | []=>[]
 |o::r=>o.d::u6 r
def aDz:List (Key×Ow)->List (Key×Dx)
 | []=>[]
 |o::r=>(o.1,o.2.d)::aDz r
def aEa:List (Str×Ow)->List (Str×Dx)
 | []=>[]
 |o::r=>(o.1,o.2.d)::aEa r
end
mutual
def Ow.fp:Ow->List Addr
 | .tr _=>[]
 | .ol a l=>a::qL l
 | .od a l=>a::tH l
 | .oi _ a dx l=>a::dx::jX l
 | .ot l=>qL l
def qL:List Ow->List Addr
 | []=>[]
 |o::r=>o.fp++qL r
def tH:List (Key×Ow)->List Addr
 | []=>[]
 |o::r=>o.2.fp++tH r
def jX:List (Str×Ow)->List Addr
 | []=>[]
 |o::r=>o.2.fp++jX r
end
mutual
def OwOk(G H:Hp):Ow->V->Prop
 | .tr d,v=>IsX G d v
 | .ol a l,v=>v=.ref a/\∃vs,H a=some (.lst vs)/\OwOks G H l vs
 | .od a l,v=>v=.ref a/\∃ws,H a=some (.dK ws)/\OwOkk G H l ws
 | .oi C a dx l,v=>v=.ref a/\∃ws,H a=some (.ins C dx ws)/\H dx=some (.own a)/\OwOkf G H l ws
 | .ot l,v=>∃a vs,v=.ref a/\G a=some (.tup vs)/\OwOks G H l vs
def OwOks(G H:Hp):List Ow->List V->Prop
 | [],vs=>vs=[]
 |o::r,vs=>∃v vr,vs=v::vr/\OwOk G H o v/\OwOks G H r vr
def OwOkk(G H:Hp):List (Key×Ow)->List (Key×V)->Prop
 | [],vs=>vs=[]
 |o::r,vs=>∃v vr,vs=v::vr/\(o.1=v.1/\OwOk G H o.2 v.2)/\OwOkk G H r vr
def OwOkf(G H:Hp):List (Str×Ow)->List (Str×V)->Prop
 | [],vs=>vs=[]
 |o::r,vs=>∃v vr,vs=v::vr/\(o.1=v.1/\OwOk G H o.2 v.2)/\OwOkf G H r vr
end
section
variable{G G' H H':Hp}
mutual
theorem OwOk.mono(e:SameF G G'):∀(o:Ow) (v:V),(∀b∈o.fp,H' b=H b)->OwOk G H o v->OwOk G' H' o v
 | .tr d,v,_,h=>by simp only[OwOk]at h ⊢;exact h.toF e
 | .ol a l,v,k,h=>by
  simp only[OwOk,Ow.fp]at h k ⊢
  obtain⟨h1,vs,h2,h3⟩:=h
  exact⟨h1,vs,by rw[k a aA];exact h2,OwOks.mono e l vs (λb hb=>k b (aB _ hb)) h3⟩
 | .od a l,v,k,h=>by
  simp only[OwOk,Ow.fp]at h k ⊢
  obtain⟨h1,vs,h2,h3⟩:=h
  exact⟨h1,vs,by rw[k a aA];exact h2,OwOkk.mono e l vs (λb hb=>k b (aB _ hb)) h3⟩
 | .oi C a dx l,v,k,h=>by
  simp only[OwOk,Ow.fp]at h k ⊢
  obtain⟨h1,vs,h2,h4,h3⟩:=h
  exact⟨h1,vs,by rw[k a aA];exact h2,by rw[k dx (aB _ aA)];exact h4,OwOkf.mono e l vs (λb hb=>k b (aB _ (aB _ hb))) h3⟩
 | .ot l,v,k,h=>by
  simp only[OwOk,Ow.fp]at h k ⊢
  obtain⟨a,vs,h1,h2,h3⟩:=h
  exact⟨a,vs,h1,e.tup h2,OwOks.mono e l vs k h3⟩
theorem OwOks.mono(e:SameF G G'):∀(l:List Ow) (vs:List V),(∀b∈qL l,H' b=H b)->OwOks G H l vs->OwOks G' H' l vs
 | [],vs,_,h=>by simpa only[OwOks]using h
 |o::r,vs,k,h=>by
  simp only[OwOks,qL]at h k ⊢
  obtain⟨v,vr,h1,h2,h3⟩:=h
  exact⟨v,vr,h1,OwOk.mono e o v (λb hb=>k b (aX _ hb)) h2,OwOks.mono e r vr (λb hb=>k b (aJ _ hb)) h3⟩
theorem OwOkk.mono(e:SameF G G'):∀(l:List (Key×Ow)) (vs:List (Key×V)),(∀b∈tH l,H' b=H b)->OwOkk G H l vs->OwOkk G' H' l vs
 | [],vs,_,h=>by simpa only[OwOkk]using h
 |o::r,vs,k,h=>by
  simp only[OwOkk,tH]at h k ⊢
  obtain⟨v,vr,h1,h2,h3⟩:=h
  exact⟨v,vr,h1,⟨h2.1,OwOk.mono e o.2 v.2 (λb hb=>k b (aX _ hb)) h2.2⟩,OwOkk.mono e r vr (λb hb=>k b (aJ _ hb)) h3⟩
theorem OwOkf.mono(e:SameF G G'):∀(l:List (Str×Ow)) (vs:List (Str×V)),(∀b∈jX l,H' b=H b)->OwOkf G H l vs->OwOkf G' H' l vs
 | [],vs,_,h=>by simpa only[OwOkf]using h
 |o::r,vs,k,h=>by
  simp only[OwOkf,jX]at h k ⊢
  obtain⟨v,vr,h1,h2,h3⟩:=h
  exact⟨v,vr,h1,⟨h2.1,OwOk.mono e o.2 v.2 (λb hb=>k b (aX _ hb)) h2.2⟩,OwOkf.mono e r vr (λb hb=>k b (aJ _ hb)) h3⟩
end
def aNl(H:Hp)(b:Addr):Prop:=∃o,H b=some o/\(∀ob u,o ≠ .frz ob u)/\∀vs,o ≠ .tup vs
mutual
theorem OwOk.there:∀(o:Ow) (v:V),OwOk G H o v->∀b∈o.fp,aNl H b
 | .tr d,v,_,b,hb=>by simp only[Ow.fp]at hb;cases hb
 | .ol a l,v,h,b,hb=>by
  simp only[OwOk,Ow.fp]at h hb
  obtain⟨h1,vs,h2,h3⟩:=h
  rcases aI.mp hb with rfl | hb
  ·exact⟨_,h2,(λ_ _ z=>nomatch z),λ_ z=>nomatch z⟩
  ·exact OwOks.there l vs h3 b hb
 | .od a l,v,h,b,hb=>by
  simp only[OwOk,Ow.fp]at h hb
  obtain⟨h1,vs,h2,h3⟩:=h
  rcases aI.mp hb with rfl | hb
  ·exact⟨_,h2,(λ_ _ z=>nomatch z),λ_ z=>nomatch z⟩
  ·exact OwOkk.there l vs h3 b hb
 | .oi C a dx l,v,h,b,hb=>by
  simp only[OwOk,Ow.fp]at h hb
  obtain⟨h1,vs,h2,h4,h3⟩:=h
  rcases aI.mp hb with rfl | hb
  ·exact⟨_,h2,(λ_ _ z=>nomatch z),λ_ z=>nomatch z⟩
  ·rcases aI.mp hb with rfl | hb
   ·exact⟨_,h4,(λ_ _ z=>nomatch z),λ_ z=>nomatch z⟩
   ·exact OwOkf.there l vs h3 b hb
 | .ot l,v,h,b,hb=>by
  simp only[OwOk,Ow.fp]at h hb
  obtain⟨a,vs,h1,h2,h3⟩:=h
  exact OwOks.there l vs h3 b hb
theorem OwOks.there:∀(l:List Ow) (vs:List V),OwOks G H l vs->∀b∈qL l,aNl H b
 | [],vs,_,b,hb=>by simp only[qL]at hb;cases hb
 |o::r,vs,h,b,hb=>by
  simp only[OwOks,qL]at h hb
  obtain⟨v,vr,h1,h2,h3⟩:=h
  rcases bL.mp hb with hb | hb
  ·exact OwOk.there o v h2 b hb
  ·exact OwOks.there r vr h3 b hb
theorem OwOkk.there:∀(l:List (Key×Ow)) (vs:List (Key×V)),OwOkk G H l vs->∀b∈tH l,aNl H b
 | [],vs,_,b,hb=>by simp only[tH]at hb;cases hb
 |o::r,vs,h,b,hb=>by
  simp only[OwOkk,tH]at h hb
  obtain⟨v,vr,h1,h2,h3⟩:=h
  rcases bL.mp hb with hb | hb
  ·exact OwOk.there o.2 v.2 h2.2 b hb
  ·exact OwOkk.there r vr h3 b hb
theorem OwOkf.there:∀(l:List (Str×Ow)) (vs:List (Str×V)),OwOkf G H l vs->∀b∈jX l,aNl H b
 | [],vs,_,b,hb=>by simp only[jX]at hb;cases hb
 |o::r,vs,h,b,hb=>by
  simp only[OwOkf,jX]at h hb
  obtain⟨v,vr,h1,h2,h3⟩:=h
  rcases bL.mp hb with hb | hb
  ·exact OwOk.there o.2 v.2 h2.2 b hb
  ·exact OwOkf.there r vr h3 b hb
end
mutual
theorem OwOk.tree(e:SameF G G'):∀(o:Ow) (v:V),(∀b∈o.fp,G' b=H b)->OwOk G H o v->IsX G' o.d v
 | .tr d,v,_,h=>by simp only[OwOk,Ow.d]at h ⊢;exact h.toF e
 | .ol a l,v,k,h=>by
  simp only[OwOk,Ow.fp,Ow.d]at h k ⊢
  obtain⟨h1,vs,h2,h3⟩:=h
  subst h1
  exact IsX.of_lst (by rw[k a aA];exact h2) (OwOks.tree e l vs (λb hb=>k b (aB _ hb)) h3)
 | .od a l,v,k,h=>by
  simp only[OwOk,Ow.fp,Ow.d]at h k ⊢
  obtain⟨h1,vs,h2,h3⟩:=h
  subst h1
  exact IsX.of_dic (.inl (by rw[k a aA];exact h2)) (OwOkk.tree e l vs (λb hb=>k b (aB _ hb)) h3)
 | .oi C a dx l,v,k,h=>by
  simp only[OwOk,Ow.fp,Ow.d]at h k ⊢
  obtain⟨h1,vs,h2,h4,h3⟩:=h
  subst h1
  exact IsX.of_ins (by rw[k a aA];exact h2) (OwOkf.tree e l vs (λb hb=>k b (aB _ (aB _ hb))) h3)
 | .ot l,v,k,h=>by
  simp only[OwOk,Ow.fp,Ow.d]at h k ⊢
  obtain⟨a,vs,h1,h2,h3⟩:=h
  subst h1
  exact IsX.of_tup (e.tup h2) (OwOks.tree e l vs k h3)
theorem OwOks.tree(e:SameF G G'):∀(l:List Ow) (vs:List V),(∀b∈qL l,G' b=H b)->OwOks G H l vs->All2 (IsX G') (u6 l) vs
 | [],vs,_,h=>by simpa only[OwOks,u6,All2]using h
 |o::r,vs,k,h=>by
  simp only[OwOks,qL,u6]at h k ⊢
  obtain⟨v,vr,h1,h2,h3⟩:=h
  exact⟨v,vr,h1,OwOk.tree e o v (λb hb=>k b (aX _ hb)) h2,OwOks.tree e r vr (λb hb=>k b (aJ _ hb)) h3⟩
theorem OwOkk.tree(e:SameF G G'):∀(l:List (Key×Ow)) (vs:List (Key×V)),(∀b∈tH l,G' b=H b)->OwOkk G H l vs->All2 (KvX G') (aDz l) vs
 | [],vs,_,h=>by simpa only[OwOkk,aDz,All2]using h
 |o::r,vs,k,h=>by
  simp only[OwOkk,tH,aDz]at h k ⊢
  obtain⟨v,vr,h1,h2,h3⟩:=h
  exact⟨v,vr,h1,⟨h2.1,OwOk.tree e o.2 v.2 (λb hb=>k b (aX _ hb)) h2.2⟩,OwOkk.tree e r vr (λb hb=>k b (aJ _ hb)) h3⟩
theorem OwOkf.tree(e:SameF G G'):∀(l:List (Str×Ow)) (vs:List (Str×V)),(∀b∈jX l,G' b=H b)->OwOkf G H l vs->All2 (FvX G') (aEa l) vs
 | [],vs,_,h=>by simpa only[OwOkf,aEa,All2]using h
 |o::r,vs,k,h=>by
  simp only[OwOkf,jX,aEa]at h k ⊢
  obtain⟨v,vr,h1,h2,h3⟩:=h
  exact⟨v,vr,h1,⟨h2.1,OwOk.tree e o.2 v.2 (λb hb=>k b (aX _ hb)) h2.2⟩,OwOkf.tree e r vr (λb hb=>k b (aJ _ hb)) h3⟩
end
end
inductive Sv where
 |tr (d:Dx) | ol (l:List Dx) | od (l:List (Key×Dx)) | ow (o:Ow)
def Sv.d:Sv->Dx
 | .tr d=>d
 | .ol l=>.lst l
 | .od l=>.dic l
 | .ow o=>o.d
inductive Sl where
 |un | v (s:Sv) | bw (l:List Dx) | bo (o:Ow) | pn (v:V) | ba (a:Addr) (l:List Dx)
abbrev vT(d:Dx):Sl:=.v (.tr d)
abbrev Rw:=Sl×Option V
def fY:Rw->List Addr
 |(.v (.ol _),some (.ref a))=>[a]
 |(.v (.od _),some (.ref a))=>[a]
 |(.bw _,some (.ref a))=>[a]
 |(.v (.ow o),_)=>o.fp
 |(.bo o,_)=>o.fp
 |(.ba a _,_)=>[a]
 |_=>[]
def bQ(P:List Rw):List Addr:=P.flatMap fY
def hid(O:List Addr)(H:Hp):Hp:=λb=>if b∈O then none else H b
theorem bB{O:List Addr}{H:Hp}{b:Addr}{o:HO}:hid O H b=some o↔b∉O/\H b=some o:=by
 unfold hid
 by_cases h:b∈O
 ·rw[if_pos h];simp[h]
 ·rw[if_neg h];simp[h]
theorem pM{O:List Addr}{H H':Hp}(e:Same H H'):Same (hid O H) (hid O H'):=λb o h=>bB.mpr ⟨(bB.mp h).1,e _ _ (bB.mp h).2⟩
theorem lI{O O':List Addr}{H:Hp}(e:∀a∈O',a∈O):Same (hid O H) (hid O' H):=λb o h=>bB.mpr ⟨λz=>(bB.mp h).1 (e _ z),(bB.mp h).2⟩
theorem tZ{O:List Addr}{H:Hp}:Same (hid O H) H:=λb o h=>(bB.mp h).2
def nf:Option HO->Option HO
 |some (.frz _ _)=>none
 |o=>o
theorem tV{x:Option HO}{o:HO}(h:nf x=some o):x=some o:=by
 unfold nf at h
 split at h
 ·cases h
 ·exact h
theorem nA{x y:Option HO}{o:HO}(h:nf x=some o)(e:∀o,x=some o->y=some o):nf y=some o:=by
 have hx:=tV h
 rw[hx]at h
 rw[e o hx]
 exact h
def ext(Hs H0 H:Hp):Hp:=λb=>match H0 b with | none=>nf (H b) | some _=>Hs b
theorem nM{Hs H0 H:Hp}{b:Addr}(h:H0 b=none):ext Hs H0 H b=nf (H b):=by unfold ext;rw[h]
theorem lZ{Hs H0 H:Hp}{b:Addr}{o:HO}(h:H0 b=some o):ext Hs H0 H b=Hs b:=by unfold ext;rw[h]
theorem gk_{Hs H0 H H':Hp}(e:Same H H'):Same (ext Hs H0 H) (ext Hs H0 H'):=λb o h=>by
 cases q:H0 b with
 |none=>rw[nM q]at h ⊢;exact nA h (e b)
 |some u=>rw[lZ q]at h ⊢;exact h
def RowOk(O:List Addr)(G H:Hp):Rw->Prop
 |(.un,_)=>True
 |(.pn w,v)=>v=some w
 |(.v (.tr d),v)=>∃x,v=some x/\IsX (hid O G) d x
 |(.v (.ol l),v)=>∃a vs,v=some (.ref a)/\H a=some (.lst vs)/\All2 (IsX (hid O G)) l vs
 |(.v (.od l),v)=>∃a ws,v=some (.ref a)/\H a=some (.dK ws)/\All2 (KvX (hid O G)) l ws
 |(.bw l,v)=>∃a vs,v=some (.ref a)/\H a=some (.lst vs)/\All2 (IsX (hid O G)) l vs
 |(.v (.ow o),v)=>∃x,v=some x/\OwOk (hid O G) H o x
 |(.bo o,v)=>∃x,v=some x/\OwOk (hid O G) H o x
 |(.ba a l,v)=>v=some (.ref a)/\∃vs,H a=some (.lst vs)/\All2 (IsX (hid O G)) l vs
theorem KvX.toF{H H':Hp}{k:Key×Dx}{w:Key×V}(h:KvX H k w)(e:SameF H H'):KvX H' k w:=⟨h.1,h.2.toF e⟩
theorem KvX.to{H H':Hp}{k:Key×Dx}{w:Key×V}(h:KvX H k w)(e:Same H H'):KvX H' k w:=⟨h.1,h.2.to e⟩
theorem RowOk.mono{O O':List Addr}{G G' H H':Hp}{r:Rw}(h:RowOk O G H r)(e:SameF (hid O G) (hid O' G'))(ho:∀a∈fY r,H' a=H a):RowOk O' G' H' r:=by
 match r,h,ho with
 |(.un,_),_,_=>trivial
 |(.pn w,v),h,_=>exact h
 |(.v (.tr d),v),⟨x,h1,h2⟩,_=>exact⟨x,h1,h2.toF e⟩
 |(.v (.ol l),v),⟨a,vs,h1,h2,h3⟩,ho =>
  subst h1
  exact⟨a,vs,rfl,by rw[ho a (aG.mpr rfl)];exact h2,h3.imp λ_ _ z=>z.toF e⟩
 |(.v (.od l),v),⟨a,vs,h1,h2,h3⟩,ho =>
  subst h1
  exact⟨a,vs,rfl,by rw[ho a (aG.mpr rfl)];exact h2,h3.imp λ_ _ z=>z.toF e⟩
 |(.bw l,v),⟨a,vs,h1,h2,h3⟩,ho =>
  subst h1
  exact⟨a,vs,rfl,by rw[ho a (aG.mpr rfl)];exact h2,h3.imp λ_ _ z=>z.toF e⟩
 |(.v (.ow o),v),⟨x,h1,h2⟩,ho=>exact⟨x,h1,OwOk.mono e o x ho h2⟩
 |(.bo o,v),⟨x,h1,h2⟩,ho=>exact⟨x,h1,OwOk.mono e o x ho h2⟩
 |(.ba a l,v),⟨h1,vs,h2,h3⟩,ho=>exact⟨h1,vs,by rw[ho a (aG.mpr rfl)];exact h2,h3.imp λ_ _ z=>z.toF e⟩
structure Fm where
 H0:Hp
 Hs:Hp
 B:List Addr
 sub:Same Hs H0
 nb:∀b∈B,Hs b=none
 ib:∀b∈B,∃o,H0 b=some o
abbrev Fm.vis(F:Fm)(H:Hp):Hp:=ext F.Hs F.H0 H
def FrOk(F:Fm)(r:Rw)(a:Addr):Prop:=match r.1 with
 | .bw _=>a∈F.B
 | .bo _=>a∈F.B\/F.H0 a=none
 | .ba _ _=>a∈F.B
 |_=>F.H0 a=none
theorem FrOk.or{F:Fm}{r:Rw}{a:Addr}(h:FrOk F r a):a∈F.B\/F.H0 a=none:=by
 unfold FrOk at h
 split at h
 ·exact .inl h
 ·exact h
 ·exact .inl h
 ·exact .inr h
structure Rep(F:Fm)(P:List Rw)(H:Hp):Prop where
 nd:(bQ P).Nodup
 ok:∀r∈P,RowOk (bQ P) (F.vis H) H r
 fr:∀r∈P,∀a∈fY r,FrOk F r a
 kp:∀b o,F.H0 b=some o->b∉F.B->H b=some o
 lv:∀b∈F.B,∃o,H b=some o
section
variable{F:Fm}{P P':List Rw}{H H':Hp}{r r':Rw}{d:Dx}{v:V}{a p:Addr}{l l':List Dx}{vs vs':List V}{k k':List (Key×Dx)}{ws ws':List (Key×V)}{s:Sv}{x:Option V}
theorem lJ:bQ (r::P)=fY r++bQ P:=by
 unfold bQ
 rw[List.flatMap_cons]
theorem vW:bQ (P++P')=bQ P++bQ P':=by
 unfold bQ
 rw[gS]
theorem jG(h:fY r=[a]):bQ (r::P)=a::bQ P:=by rw[lJ,h];rfl
theorem ga_(h:fY r=[]):bQ (r::P)=bQ P:=by rw[lJ,h];rfl
theorem u5(h:P.Perm P'):(bQ P).Perm (bQ P'):=h.flatMap_right _
theorem Rep.vis(R:Rep F P H):Same (F.vis H) H:=λb o h=>by
 cases q:F.H0 b with
 |none=>exact tV ((nM q).symm.trans h)
 |some u =>
  have h:=(lZ q).symm.trans h
  have:=F.sub _ _ h
  exact R.kp b o this λz=>by rw[F.nb b z]at h;cases h
theorem Rep.hv(R:Rep F P H){O:List Addr}:Same (hid O (F.vis H)) H:=λb o h=>R.vis b o (bB.mp h).2
theorem Rep.fresh(R:Rep F P H)(hp:H p=none):F.H0 p=none:=by
 cases q:F.H0 p with
 |none=>rfl
 |some o =>
  by_cases hB:p∈F.B
  ·obtain⟨u,hu⟩:=R.lv p hB;rw[hp]at hu;cases hu
  ·rw[R.kp p o q hB]at hp;cases hp
theorem Rep.perm(R:Rep F P H)(h:P.Perm P'):Rep F P' H:=by
 have hp:(bQ P).Perm (bQ P'):=u5 h
 exact⟨hp.nodup_iff.mp R.nd,λr hr=>(R.ok r (h.mem_iff.mpr hr)).mono (.of (lI λa ha=>hp.mem_iff.mpr ha)) λ_ _=>rfl,λr hr=>R.fr r (h.mem_iff.mpr hr),R.kp,R.lv⟩
theorem Rep.tail(R:Rep F (r::P) H):Rep F P H:=by
 have hs:∀a∈bQ P,a∈bQ (r::P):=λa ha=>by rw[lJ];exact aJ _ ha
 refine⟨?_,λx hx=>(R.ok x (aB _ hx)).mono (.of (lI hs)) λ_ _=>rfl,λx hx=>R.fr x (aB _ hx),R.kp,R.lv⟩
 have:=R.nd
 rw[lJ]at this
 exact(cN.mp this).2.1
theorem fm_(h:r∈P)(e:a∈fY r):a∈bQ P:=List.mem_flatMap.mpr ⟨r,h,e⟩
theorem aYf{α:Type}{x:α}{l:List α}(h:l=[x]):x∈l:=by rw[h];exact aG.mpr rfl
theorem eq1{α:Type}{x y:α}{l:List α}(h:l=[x])(hy:y∈l):y=x:=by rw[h]at hy;exact aG.mp hy
theorem Rep.own_in(R:Rep F P H)(h:a∈bQ P):∃o,H a=some o:=by
 obtain⟨⟨sl,v⟩,hr,e⟩:=List.mem_flatMap.mp h
 have t:=R.ok (sl,v) hr
 cases sl with
 |v s =>
  cases s with
  |tr d=>exact absurd (show a∈([]:List Addr)from e) bS
  |ol l =>
   obtain⟨c,vs,h1,h2,_⟩:=t
   cases h1
   rw[aG.mp (show a∈[c]from e)]
   exact⟨_,h2⟩
  |od l =>
   obtain⟨c,vs,h1,h2,_⟩:=t
   cases h1
   rw[aG.mp (show a∈[c]from e)]
   exact⟨_,h2⟩
  |ow o =>
   obtain⟨x,h1,h2⟩:=t
   obtain⟨u,hu,_⟩:=OwOk.there o x h2 a e
   exact⟨u,hu⟩
 |bw l =>
  obtain⟨c,vs,h1,h2,_⟩:=t
  cases h1
  rw[aG.mp (show a∈[c]from e)]
  exact⟨_,h2⟩
 |bo o =>
  obtain⟨x,h1,h2⟩:=t
  obtain⟨u,hu,_⟩:=OwOk.there o x h2 a e
  exact⟨u,hu⟩
 |ba c l =>
  obtain⟨_,vs,h2,_⟩:=t
  rw[aG.mp (show a∈[c]from e)]
  exact⟨_,h2⟩
 |un=>exact absurd (show a∈([]:List Addr)from e) bS
 |pn _=>exact absurd (show a∈([]:List Addr)from e) bS
theorem Rep.not_own(R:Rep F P H)(hp:H p=none):p∉bQ P:=λz=>by
 obtain⟨o,ho⟩:=R.own_in z
 rw[hp]at ho
 cases ho
theorem Rep.grow(R:Rep F P H)(e:Same H H'):Rep F P H':=by
 refine⟨R.nd,λr hr=>(R.ok r hr).mono (.of (pM (gk_ e))) λa ha=>?_,R.fr,λb o h1 h2=>e _ _ (R.kp b o h1 h2),λb hb=>?_⟩
 ·obtain ⟨o,ho⟩:=R.own_in (fm_ hr ha)
  rw[ho,e _ _ ho]
 ·obtain ⟨o,ho⟩:=R.lv b hb
  exact⟨o,e _ _ ho⟩
theorem Rep.cons0(R:Rep F P H)(ho:fY r=[])(h:RowOk (bQ P) (F.vis H) H r):Rep F (r::P) H:=by
 refine⟨by rw[ga_ ho];exact R.nd,λx hx=>?_,λx hx a ha=>?_,R.kp,R.lv⟩
 ·rw [ga_ ho]
  rcases aI.mp hx with rfl | hx
  ·exact h
  ·exact R.ok x hx
 ·rcases aI.mp hx with rfl | hx
  ·rw[ho]at ha;cases ha
  ·exact R.fr x hx a ha
theorem Rep.add(R:Rep F P H)(h:IsX (hid (bQ P) (F.vis H)) d v):Rep F ((vT d,some v)::P) H:=R.cons0 rfl ⟨v,rfl,h⟩
theorem Rep.addU(R:Rep F P H):Rep F ((.un,x)::P) H:=R.cons0 rfl trivial
theorem Rep.head(R:Rep F ((.v s,x)::P) H):∃v,x=some v/\IsX (hid (bQ P) (F.vis H)) s.d v:=by
 have h:=R.ok _ aA
 have hs:∀a∈bQ P,a∈bQ ((.v s,x)::P):=λa ha=>by rw[lJ];exact aJ _ ha
 have hn:=R.nd
 have hf:=R.fr _ aA
 match s,h with
 | .tr d,⟨v,h1,h2⟩=>exact⟨v,h1,h2.to (lI hs)⟩
 | .ol l,⟨a,vs,h1,h2,h3⟩ =>
  subst h1
  have q:F.H0 a=none:=hf a (aG.mpr rfl)
  rw[jG (a:=a) rfl]at hn
  exact⟨.ref a,rfl,IsX.of_lst (vs:=vs) (bB.mpr ⟨(cE.mp hn).1,(nM q).trans (by rw[h2];rfl)⟩) (h3.imp λ_ _ z=>z.to (lI hs))⟩
 | .od l,⟨a,vs,h1,h2,h3⟩ =>
  subst h1
  have q:F.H0 a=none:=hf a (aG.mpr rfl)
  rw[jG (a:=a) rfl]at hn
  exact⟨.ref a,rfl,IsX.of_dic (vs:=vs) (.inl (bB.mpr ⟨(cE.mp hn).1,(nM q).trans (by rw[h2];rfl)⟩)) (h3.imp λ_ _ z=>z.to (lI hs))⟩
 | .ow o,⟨v,h1,h2⟩ =>
  refine⟨v,h1,OwOk.tree (.of (lI hs)) o v (λb hb=>?_) h2⟩
  have q:F.H0 b=none:=hf b hb
  obtain⟨u,hu,C5,_⟩:=OwOk.there o v h2 b hb
  rw[lJ]at hn
  have Fj:b∉bQ P:=λz=>(cN.mp hn).2.2 b hb b z rfl
  rw[hu]
  refine bB.mpr ⟨Fj,(nM q).trans ?_⟩
  rw[hu]
  unfold nf
  split
  ·rename_i e;cases e;exact absurd rfl (C5 _ _)
  ·rfl
theorem Rep.frz(R:Rep F ((.v s,x)::P) H):Rep F ((vT s.d,x)::P) H:=by
 obtain⟨v,rfl,h⟩:=R.head
 exact R.tail.add h
theorem uA{O:List Addr}{Hs H0:Hp}(hp:H p=none){o:HO}(hq:H0 p=none):Same (hid O (ext Hs H0 H)) (hid (p::O) (ext Hs H0 (upd H p o))):=λb u hb=>by
 have Au:=bB.mp hb
 have Gs:b≠p:=λz=>by have:=tV ((nM hq).symm.trans (z ▸ Au.2));rw[hp]at this;cases this
 refine bB.mpr ⟨λz=>(aI.mp z).elim Gs Au.1,?_⟩
 cases q:H0 b with
 |none=>exact(nM q).trans ((congrArg nf (gU Gs)).trans ((nM q).symm.trans Au.2))
 |some w=>exact(lZ q).trans ((lZ q).symm.trans Au.2)
theorem Rep.new_own(R:Rep F P H)(hp:H p=none){o:HO}(hA:fY (.v s,some (.ref p))=[p])(h:RowOk (p::bQ P) (F.vis (upd H p o)) (upd H p o) (.v s,some (.ref p))):Rep F ((.v s,some (.ref p))::P) (upd H p o):=by
 have Ba:=R.not_own hp
 have hq:=R.fresh hp
 refine⟨by rw[jG hA];exact cE.mpr ⟨Ba,R.nd⟩,λr hr=>?_,λr hr a ha=>?_,λb o h1 h2=>?_,λb hb=>?_⟩
 ·rw [jG hA]
  rcases aI.mp hr with rfl | hr
  ·exact h
  ·exact(R.ok r hr).mono (.of (uA hp hq)) λa ha=>gU λz=>Ba (z ▸ fm_ hr ha)
 ·rcases aI.mp hr with rfl | hr
  ·cases eq1 hA ha;exact hq
  ·exact R.fr r hr a ha
 ·have:=R.kp b o h1 h2
  rw[gU λz=>by rw[z,hp]at this;cases this]
  exact this
 ·obtain ⟨u,hu⟩:=R.lv b hb
  exact⟨u,by rw[gU λz=>by rw[z,hp]at hu;cases hu];exact hu⟩
theorem Rep.newL(R:Rep F P H)(hp:H p=none)(h:All2 (IsX (hid (bQ P) (F.vis H))) l vs):Rep F ((.v (.ol l),some (.ref p))::P) (upd H p (.lst vs)):=
 R.new_own hp rfl ⟨p,vs,rfl,xD,h.imp λ_ _ z=>z.to (uA hp (R.fresh hp))⟩
theorem Rep.newD(R:Rep F P H)(hp:H p=none)(h:All2 (KvX (hid (bQ P) (F.vis H))) k ws):Rep F ((.v (.od k),some (.ref p))::P) (upd H p (.dK ws)):=
 R.new_own hp rfl ⟨p,ws,rfl,xD,h.imp λ_ _ z=>z.to (uA hp (R.fresh hp))⟩
theorem Rep.newT(R:Rep F P H)(hp:H p=none)(h:All2 (IsX (hid (bQ P) (F.vis H))) l vs):Rep F ((vT (.tup l),some (.ref p))::P) (upd H p (.tup vs)):=by
 have e:Same H (upd H p (.tup vs)):=oP hp _
 exact(R.grow e).add (IsX.of_tup (vs:=vs) (bB.mpr ⟨R.not_own hp,(nM (R.fresh hp)).trans (by rw[xD];rfl)⟩) (h.imp λ_ _ z=>z.to (pM (gk_ e))))
theorem nG{O:List Addr}{o:HO}{Hs H0:Hp}:Same (hid (a::O) (ext Hs H0 H)) (hid (a::O) (ext Hs H0 (upd H a o))):=λb u hb=>by
 have Au:=bB.mp hb
 have Jf:b≠a:=λz=>Au.1 (by rw[z];exact aA)
 refine bB.mpr ⟨Au.1,?_⟩
 cases q:H0 b with
 |none=>exact(nM q).trans ((congrArg nf (gU Jf)).trans ((nM q).symm.trans Au.2))
 |some w=>exact(lZ q).trans ((lZ q).symm.trans Au.2)
theorem Rep.put{o:HO}(R:Rep F (r::P) H)(hA:fY r=[a])(Hb:fY r'=[a])(hF:FrOk F r a->FrOk F r' a)(h:RowOk (a::bQ P) (F.vis (upd H a o)) (upd H a o) r'):Rep F (r'::P) (upd H a o):=by
 have hn:=R.nd
 rw[jG hA]at hn
 have Fs:=(cE.mp hn).1
 have R1:=R.ok
 rw[jG hA]at R1
 have Co:=R.fr r aA a (aYf hA)
 refine⟨by rw[jG Hb];exact hn,λx hx=>?_,λx hx b hb=>?_,λb u h1 h2=>?_,λb hb=>?_⟩
 ·rw [jG Hb]
  rcases aI.mp hx with rfl | hx
  ·exact h
  ·exact(R1 x (aB _ hx)).mono (.of nG) λb hb=>gU λz=>Fs (z ▸ fm_ hx hb)
 ·rcases aI.mp hx with rfl | hx
  ·cases eq1 Hb hb;exact hF Co
  ·exact R.fr x (aB _ hx) b hb
 ·have hb:=R.kp b u h1 h2
  by_cases z:b=a
  ·subst z
   rcases Co.or with Co | Co
   ·exact absurd Co h2
   ·rw[Co]at h1;cases h1
  ·rw[gU z];exact hb
 ·by_cases z:b=a
  ·subst z;exact⟨o,xD⟩
  ·rw[gU z];exact R.lv b hb
theorem Rep.putD(R:Rep F ((.v (.od k),some (.ref a))::P) H)(h:All2 (KvX (hid (a::bQ P) (F.vis H))) k' ws'):Rep F ((.v (.od k'),some (.ref a))::P) (upd H a (.dK ws')):=
 R.put (a:=a) rfl rfl id ⟨a,ws',rfl,xD,h.imp λ_ _ z=>z.to nG⟩
theorem Rep.atL(R:Rep F ((.v (.ol l),x)::P) H):∃a vs,x=some (.ref a)/\H a=some (.lst vs)/\All2 (IsX (hid (a::bQ P) (F.vis H))) l vs:=by
 obtain⟨a,vs,h1,h2,h3⟩:=R.ok _ aA
 subst h1
 exact⟨a,vs,rfl,h2,by rw[<-jG (a:=a) (r:=(.v (.ol l),some (.ref a))) rfl];exact h3⟩
theorem Rep.atB(R:Rep F ((.bw l,x)::P) H):∃a vs,x=some (.ref a)/\H a=some (.lst vs)/\All2 (IsX (hid (a::bQ P) (F.vis H))) l vs:=by
 obtain⟨a,vs,h1,h2,h3⟩:=R.ok _ aA
 subst h1
 exact⟨a,vs,rfl,h2,by rw[<-jG (a:=a) (r:=(.bw l,some (.ref a))) rfl];exact h3⟩
theorem Rep.atD(R:Rep F ((.v (.od k),x)::P) H):∃a ws,x=some (.ref a)/\H a=some (.dK ws)/\All2 (KvX (hid (a::bQ P) (F.vis H))) k ws:=by
 obtain⟨a,vs,h1,h2,h3⟩:=R.ok _ aA
 subst h1
 exact⟨a,vs,rfl,h2,by rw[<-jG (a:=a) (r:=(.v (.od k),some (.ref a))) rfl];exact h3⟩
theorem Rep.atT(R:Rep F ((vT d,x)::P) H):∃v,x=some v/\IsX (hid (bQ P) (F.vis H)) d v:=R.head
end
section
variable{ρ:List Sl}{σ:St}{i:Nat}{s s':Sl}{v v':Option V}
theorem aPl(h1:ρ[i]? = some s)(h2:σ[i]? = some v):(ρ.zip σ)[i]? = some (s,v):=(List.getElem?_zip_eq_some (z:=(s,v))).mpr ⟨h1,h2⟩
theorem aOj{α:Type}:∀(l:List α) (i:Nat) (h:i<l.length),l.Perm (l[i]::l.eraseIdx i)
 |x::l,0,_=>.refl _
 |x::l,i+1,h=>((aOj l i (by simpa using h)).cons x).trans (.swap _ _ _)
theorem aDg{α:Type}{l:List α}{x:α}{i:Nat}(h:l[i]? = some x):l.Perm (x::l.eraseIdx i):=by
 obtain⟨hi,e⟩:=bG.mp h
 subst e
 exact aOj l i hi
theorem dd_(h1:ρ[i]? = some s)(h2:σ[i]? = some v):(ρ.zip σ).Perm ((s,v)::(ρ.zip σ).eraseIdx i):=aDg (aPl h1 h2)
theorem zS:∀{ρ:List Sl} {σ:St} (i:Nat),(ρ.set i s).zip (σ.set i v)=(ρ.zip σ).set i (s,v)
 | [],_,_=>by simp
 |_::_,[],_=>by simp
 |a::ρ,b::σ,0=>rfl
 |a::ρ,b::σ,i+1=>by simp only[List.set_cons_succ,hU];rw[zS i]
theorem mP(hl:ρ.length=σ.length)(h:i<ρ.length):((ρ.set i s).zip (σ.set i v)).Perm ((s,v)::(ρ.zip σ).eraseIdx i):=by
 rw[zS]
 have hi:i<(ρ.zip σ).length:=by rw[List.length_zip];omega
 have:=aDg (l:=(ρ.zip σ).set i (s,v)) (x:=(s,v)) (i:=i) (by rw[iK hi])
 rwa [List.eraseIdx_set_eq]at this
theorem aCp(h:σ[i]? = some v):σ.set i v=σ:=by
 obtain⟨hi,e⟩:=bG.mp h
 subst e
 exact iX hi
theorem dc_(hl:ρ.length=σ.length)(h:i<ρ.length)(h2:σ[i]? = some v):((ρ.set i s).zip σ).Perm ((s,v)::(ρ.zip σ).eraseIdx i):=by
 have:=mP (s:=s) (v:=v) hl h
 rwa [aCp h2]at this
end
end Lf
namespace L2
open PySem
theorem PE.weak{X:Cx}{e:Expr}{t u:TE}(h:PE X e t)(w:∀σ H Q,u σ H Q->t σ H Q):PE X e u:=λAa s σ H Q I q=>h Aa s σ H Q I (w σ H Q q)
theorem PT.weak{X:Cx}{e:Expr}{t u:TT}(h:PT X e t)(w:∀σ H Q,u σ H Q->t σ H Q):PT X e u:=λAa s σ H Q I q=>h Aa s σ H Q I (w σ H Q q)
theorem PW.weak{X:Cx}{e:Expr}{t u:TT}(h:PW X e t)(w:∀σ H Q,u σ H Q->t σ H Q):PW X e u:=λwh Aa s σ H Q I q=>h wh Aa s σ H Q I (w σ H Q q)
theorem PA.weak{X:Cx}{e:List Expr}{t u:TA}(h:PA X e t)(w:∀σ H Q,u σ H Q->t σ H Q):PA X e u:=λpos Aa s σ H Q I q=>h pos Aa s σ H Q I (w σ H Q q)
end L2
namespace Lf
open PySem L2
abbrev En:=List Sl
abbrev XT:=En->(Sv->En->Prop)->Prop
abbrev XC:=En->(Bool->En->Prop)->Prop
abbrev XA:=En->(List Sv->En->Prop)->Prop
structure EOk(F:Fm)(ρ:En)(σ:St)(fr:List Rw)(H:Hp):Prop where
 len:ρ.length=σ.length
 rep:Rep F (ρ.zip σ++fr) H
def tX(F:Fm)(t:XT):TE:=λσ H Q=>∃ρ fr Qx,EOk F ρ σ fr H/\t ρ Qx/\∀v s H' ρ',EOk F ρ' σ ((.v s,some v)::fr) H'->Qx s ρ'->Q v H'
def tXc(F:Fm)(t:XC):TT:=λσ H Q=>∃ρ fr Qx,EOk F ρ σ fr H/\t ρ Qx/\∀b H' ρ',EOk F ρ' σ fr H'->Qx b ρ'->Q b H'
def jH(ss:List Sv)(vs:List V):List Rw:=(ss.zip vs).map λp=>(.v p.1,some p.2)
def tXa(F:Fm)(t:XA):TA:=λσ H Q=>∃ρ fr Qx,EOk F ρ σ fr H/\t ρ Qx/\∀vs ss H' ρ',ss.length=vs.length->EOk F ρ' σ (jH ss vs++fr) H'->Qx ss ρ'->Q vs H'
abbrev ExT:=Value->Prop
abbrev fZ:ExT:=λ_=>False
def lQ(F:Fm)(H:Hp):Prop:=∀b o,F.H0 b=some o->b∉F.B->H b=some o
def Air(nw:Addr->Prop)(h':Heap)(H:Hp)(ea:Addr)(cls:Value):Prop:=nw ea/\H ea=none/\∃oe vs,h'.get? ea=some oe/\oe.cls=cls/\oe.data=.fields vs/\oe.dict=none/\1<vs.size /\
 (vs[1]? = some .none\/∃T oT ts,vs[1]? = some (.ref T)/\T≠ea/\nw T/\H T=none/\h'.get? T=some oT/\oT.data=.fields ts/\3<ts.size)
def CXe(P:Program)(w:World):CXT:=λouter H s E e s'=>∃(ea:Addr) (cls:Value) (H':Hp),e=.ref ea/\s'.os=s.os/\PyProof.Rows.AllBare s'.gens/\Un (frs outer) [] H H' s.heap s'.heap/\HOk P w H' s'.heap/\Air (λb=>s.heap.get? b=none) s'.heap H' ea cls/\E cls none H'
abbrev NwX(X:Cx)(Aa:eL):Addr->Prop:=λb=>(X.s₀.heap.get? b=none\/b∈X.ex)/\∀p∈X.pn++Aa,p.1≠b
class OkF(X:Cx)(Ex:ExT)(F:Fm):Prop where
 pass1:∀(Aa:eL) (σ:St) (H:Hp) (s':Shared) (ea:Addr) (cls:Value),Inv X Aa σ H s'->Air (NwX X Aa) s'.heap H ea cls->Ex cls->lQ F H->X.xe (.ref ea) s'
instance{X:Cx}{F:Fm}:OkF X fZ F:=⟨λ_ _ _ _ _ _ _ _ h _=>h.elim⟩
def XE(X:Cx)(Ex:ExT)(e:Expr)(t:XT):Prop:=∀F,[OkF X Ex F]->PE X e (tX F t)
def XTe(X:Cx)(Ex:ExT)(e:Expr)(t:XC):Prop:=∀F,[OkF X Ex F]->PT X e (tXc F t)
def XW(X:Cx)(Ex:ExT)(e:Expr)(t:XC):Prop:=∀F,[OkF X Ex F]->PW X e (tXc F t)
def XAs(X:Cx)(Ex:ExT)(es:List Expr)(t:XA):Prop:=∀F,[OkF X Ex F]->PA X es (tXa F t)
section
variable{F:Fm}{ρ ρ':En}{σ:St}{fr P:List Rw}{H H':Hp}{s:Sv}{v x y:V}{a b:Dx}
theorem EOk.grow(E:EOk F ρ σ fr H)(e:Same H H'):EOk F ρ σ fr H':=⟨E.len,E.rep.grow e⟩
theorem tY{α:Type}{x:α}{A B:List α}:(A++x::B).Perm (x::(A++B)):=List.perm_middle
theorem EOk.front{r:Rw}(E:EOk F ρ σ (r::fr) H):Rep F (r::(ρ.zip σ++fr)) H:=E.rep.perm tY
theorem EOk.back{r:Rw}(hl:ρ.length=σ.length)(R:Rep F (r::(ρ.zip σ++fr)) H):EOk F ρ σ (r::fr) H:=⟨hl,R.perm tY.symm⟩
theorem EOk.drop{r:Rw}(E:EOk F ρ σ (r::fr) H):EOk F ρ σ fr H:=⟨E.len,E.front.tail⟩
theorem EOk.one(E:EOk F ρ σ ((.v s,some v)::fr) H):Rep F (ρ.zip σ++fr) H/\IsX (hid (bQ (ρ.zip σ++fr)) (F.vis H)) s.d v:=by
 obtain⟨v',e,h⟩:=E.front.head
 cases e
 exact⟨E.front.tail,h⟩
theorem EOk.two{s1 s2:Sv}{v1 v2:V}(E:EOk F ρ σ ((.v s2,some v2)::(.v s1,some v1)::fr) H) :
  Rep F (ρ.zip σ++fr) H/\IsX (hid (bQ (ρ.zip σ++fr)) (F.vis H)) s1.d v1/\IsX (hid (bQ (ρ.zip σ++fr)) (F.vis H)) s2.d v2:=by
 obtain⟨R1,h1⟩:=E.drop.one
 obtain⟨R2,h2⟩:=E.one
 refine⟨R1,h1,h2.to (lI λc hc=>?_)⟩
 have:(bQ ((.v s1,some v1)::(ρ.zip σ++fr))).Perm (bQ (ρ.zip σ++(.v s1,some v1)::fr)):=tY.symm.flatMap_right _
 refine this.mem_iff.mp ?_
 rw[lJ]
 exact aJ _ hc
end
def bW(i:Nat):XT:=λρ Q=>match ρ[i]? with
 |some (.v s)=>Q (.tr s.d) (ρ.set i (.v (.tr s.d)))
 |_=>False
def aNq(i:Nat):XT:=λρ Q=>match ρ[i]? with
 |some (.v s)=>Q s (ρ.set i .un)
 |_=>False
theorem aLy{ρ:En}{σ:St}{i:Nat}{s:Sl}(hl:ρ.length=σ.length)(h:ρ[i]? = some s):∃v,σ[i]? = some v:=by
 have:=(bG.mp h).1
 exact⟨_,aR (by omega)⟩
section
variable{X:Cx}{Ex:ExT}{i:Nat}{x:Str}{pos:Pos}
theorem rW{F:Fm}{ρ:En}{σ:St}{fr:List Rw}{H:Hp}{s:Sl}(E:EOk F ρ σ fr H)(h:ρ[i]? = some s):∃v,σ[i]? = some v/\i<ρ.length/\Rep F ((s,v)::((ρ.zip σ).eraseIdx i++fr)) H:=by
 obtain⟨v,hv⟩:=aLy E.len h
 exact⟨v,hv,(bG.mp h).1,E.rep.perm ((dd_ h hv).append_right fr)⟩
theorem uK{F:Fm}{ρ:En}{σ:St}{fr:List Rw}{H:Hp}{s:Sl}{v:Option V}(hl:ρ.length=σ.length)(hi:i<ρ.length)(hv:σ[i]? = some v)(R:Rep F ((s,v)::((ρ.zip σ).eraseIdx i++fr)) H):EOk F (ρ.set i s) σ fr H:=
 ⟨by rw[bI];exact hl,R.perm ((dc_ hl hi hv).append_right fr).symm⟩
theorem bE(h:PE X (.Name x pos) (gL i)):XE X Ex (.Name x pos) (bW i):=λF=>h.weak λσ H Q=>by
 rintro⟨ρ,fr,Qx,E,t,k⟩
 unfold bW at t
 split at t
 ·rename_i s hs
  obtain⟨v,hv,hi,R⟩:=rW E hs
  obtain⟨w,rfl,hx⟩:=R.head
  refine⟨w,hv,k w _ H _ ?_ t⟩
  have R2:=R.frz
  have R3:Rep F ((vT s.d,some w)::(vT s.d,some w)::((ρ.zip σ).eraseIdx i++fr)) H:=R2.add hx
  exact EOk.back (by rw[bI];exact E.len) (R3.perm (((dc_ E.len hi hv).append_right fr).symm.cons _))
 ·exact t.elim
theorem ez_(h:PE X (.Name x pos) (gL i)):XE X Ex (.Name x pos) (aNq i):=λF=>h.weak λσ H Q=>by
 rintro⟨ρ,fr,Qx,E,t,k⟩
 unfold aNq at t
 split at t
 ·rename_i s hs
  obtain⟨v,hv,hi,R⟩:=rW E hs
  obtain⟨w,rfl,hx⟩:=R.head
  refine⟨w,hv,k w _ H _ ?_ t⟩
  have R3:Rep F ((.v s,some w)::(.un,some w)::((ρ.zip σ).eraseIdx i++fr)) H:=(R.addU (x:=some w)).perm (.swap _ _ _)
  exact EOk.back (by rw[bI];exact E.len) (R3.perm (((dc_ E.len hi hv).append_right fr).symm.cons _))
 ·exact t.elim
end
def xC(d:Dx):XT:=λρ Q=>Q (.tr d) ρ
theorem o_{X:Cx}{Ex:ExT}{e:Expr}{v:V}(h:PE X e (tC v))(d:Dx)(hd:∀H,IsX H d v):XE X Ex e (xC d):=λF=>h.weak λσ H Q=>by
 rintro⟨ρ,fr,Qx,E,t,k⟩
 exact k v _ H ρ (EOk.back E.len (E.rep.add (hd _))) t
section
variable{X:Cx}{Ex:ExT}
theorem cC{i j pos}:XE X Ex (.Constant (.int i) j pos) (xC (.int i)):=o_ oZ _ λ_=>IsX.of_int _
theorem vA{b j pos}:XE X Ex (.Constant (.bool b) j pos) (xC (.bl b)):=o_ aXt _ λ_=>IsX.of_bl _
theorem mJ{j pos}:XE X Ex (.Constant .none j pos) (xC .non):=o_ aRi _ λ_=>IsX.of_non
theorem dL{x j pos}:XE X Ex (.Constant (.str x) j pos) (xC (.str x)):=o_ oY _ λ_=>IsX.of_str _
end
abbrev G2:=Dx->Dx->(Sv->Prop)->Prop
def OpX(r:R2)(g:G2):Prop:=∀(F:Fm) (P:List Rw) (H:Hp) (a b:Dx) (x y:V) (Q:VK) (Qx:Sv->Prop),Rep F P H->IsX (hid (bQ P) (F.vis H)) a x->IsX (hid (bQ P) (F.vis H)) b y->g a b Qx ->
 (∀v s H',Rep F ((.v s,some v)::P) H'->Qx s->Q v H')->r x y H Q
def xOp(g:G2)(ta tb:XT):XT:=λρ Q=>ta ρ λa ρ1=>tb ρ1 λb ρ2=>g a.d b.d λs=>Q s ρ2
theorem qW{F:Fm}{r:R2}{g:G2}{ta tb:XT}(hx:OpX r g):∀σ H Q,tX F (xOp g ta tb) σ H Q->tOp r (tX F ta) (tX F tb) σ H Q:=by
 rintro σ H Q ⟨ρ,fr,Qx,E,t,k⟩
 refine⟨ρ,fr,_,E,t,λv s H' ρ' E' t'=>?_⟩
 refine⟨ρ',_,_,E',t',λw s2 H2 ρ2 E2 t2=>?_⟩
 obtain⟨R,h1,h2⟩:=E2.two
 exact hx F _ H2 s.d s2.d v w Q (λz=>Qx z ρ2) R h1 h2 t2 λv' s' H' R' q=>k v' s' H' ρ2 (EOk.back E2.len R') q
def xB(t:XT):XC:=λρ Q=>t ρ λs ρ'=>match s with
 | .tr (.bl b)=>Q b ρ'
 |_=>False
theorem gx_{F:Fm}{t:TE}{u:XT}(h:∀σ H Q,tX F u σ H Q->t σ H Q):∀σ H Q,tXc F (xB u) σ H Q->b3 t σ H Q:=by
 rintro σ H Q ⟨ρ,fr,Qx,E,t,k⟩
 refine h _ _ _ ⟨ρ,fr,_,E,t,λv s H' ρ' E' q=>?_⟩
 split at q
 ·rename_i b
  obtain⟨_,hx⟩:=E'.one
  cases hx.bl_eq
  exact⟨b,rfl,k b H' ρ' E'.drop q⟩
 ·exact q.elim
section
variable{X:Cx}{Ex:ExT}{a b c e:Expr}{pos:Pos}{r r':R2}{g g':G2}{ta tb tc:XT}
theorem qR{op:Operator}(ho:OpR X (binaryOp op) r)(hx:OpX r g)(ha:XE X Ex a ta)(hb:XE X Ex b tb):XE X Ex (.BinOp a op b pos) (xOp g ta tb):=λF=>(aXs ho (ha F) (hb F)).weak (qW hx)
theorem xM{op:CmpOp}(ho:OpR X (compareOp op) r)(hx:OpX r g)(ha:XE X Ex a ta)(hb:XE X Ex b tb)(hm:behindInMarks op b=false):XE X Ex (.Compare a [op] [b] pos) (xOp g ta tb):=λF=>(e8 ho (ha F) (hb F) hm).weak (qW hx)
theorem dW{op:CmpOp}(ho:OpR X (compareOp op) r)(hx:OpX r g)(ha:XE X Ex a ta)(hb:XE X Ex b tb)(hm:behindInMarks op b=false):XTe X Ex (.Compare a [op] [b] pos) (xB (xOp g ta tb)):=λF=>(tF ho (ha F) (hb F) hm).weak (gx_ (qW hx))
theorem jZ{t:XT}(h:XE X Ex e t)(he:∀whole,isTrue e X.env whole=(do let v <-whole;standAt e.pos;holding [v] (truthy v)):=by intro _;rfl):XTe X Ex e (xB t):=λF=>(aQx (h F) he).weak (gx_ λ_ _ _ z=>z)
def aIg(t u:XC):XC:=λρ Q=>t ρ λc ρ1=>if c=true then u ρ1 Q else Q false ρ1
def xOr(t u:XC):XC:=λρ Q=>t ρ λc ρ1=>if c=true then Q true ρ1 else u ρ1 Q
def aIc(t:XC):XC:=λρ Q=>t ρ λc ρ1=>Q (!c) ρ1
theorem fv_{t:XC}(h:XTe X Ex a t):XW X Ex (.BoolOp .And [a] pos) t:=λF=>aJd (h F)
theorem uM{t:XC}(h:XTe X Ex a t):XW X Ex (.BoolOp .Or [a] pos) t:=λF=>aQv (h F)
theorem ig_{t u:XC}{rest:List Expr}(h:XTe X Ex a t)(h':XW X Ex (.BoolOp .And (b::rest) pos) u):XW X Ex (.BoolOp .And (a::b::rest) pos) (aIg t u):=λF=>(aQw (h F) (h' F)).weak λσ H Q=>by
 rintro⟨ρ,fr,Qx,E,t,k⟩
 refine⟨ρ,fr,_,E,t,λc H' ρ' E' q=>?_⟩
 cases c with
 |true=>exact⟨ρ',fr,Qx,E',q,k⟩
 |false=>exact k false H' ρ' E' q
theorem qI{t u:XC}{rest:List Expr}(h:XTe X Ex a t)(h':XW X Ex (.BoolOp .Or (b::rest) pos) u):XW X Ex (.BoolOp .Or (a::b::rest) pos) (xOr t u):=λF=>(aXn (h F) (h' F)).weak λσ H Q=>by
 rintro⟨ρ,fr,Qx,E,t,k⟩
 refine⟨ρ,fr,_,E,t,λc H' ρ' E' q=>?_⟩
 cases c with
 |true=>exact k true H' ρ' E' q
 |false=>exact⟨ρ',fr,Qx,E',q,k⟩
theorem zB{t:XC}(h:XTe X Ex a t):XTe X Ex (.UnaryOp .Not a pos) (aIc t):=λF=>(aQy (h F)).weak λσ H Q=>by
 rintro⟨ρ,fr,Qx,E,t,k⟩
 exact⟨ρ,fr,_,E,t,λc H' ρ' E' q=>k (!c) H' ρ' E' q⟩
theorem XW.pt{t:XC}(h:XW X Ex e t):XTe X Ex e t:=λF=>(h F).pt
def aBs(t u:XT):XT:=λρ Q=>xB t ρ λc ρ1=>if c=true then u ρ1 Q else Q (.tr (.bl false)) ρ1
def bBw(t u:XT):XT:=λρ Q=>xB t ρ λc ρ1=>if c=true then Q (.tr (.bl true)) ρ1 else u ρ1 Q
def aVy(t:XT):XT:=λρ Q=>xB t ρ λc ρ1=>Q (.tr (.bl (!c))) ρ1
theorem xN{op}{t:XT}(h:XE X Ex a t):XE X Ex (.BoolOp op [a] pos) t:=λF=>aRg (h F)
theorem vB{t u:XT}{rest:List Expr}(h:XE X Ex a t)(h':XE X Ex (.BoolOp .And (b::rest) pos) u):XE X Ex (.BoolOp .And (a::b::rest) pos) (aBs t u):=λF=>(aRm (h F) (h' F)).weak λσ H Q=>by
 rintro⟨ρ,fr,Qx,E,t,k⟩
 refine⟨ρ,fr,_,E,t,λv s H' ρ' E' q=>?_⟩
 split at q
 ·rename_i c
  obtain⟨_,hx⟩:=E'.one
  cases hx.bl_eq
  refine⟨c,rfl,?_⟩
  cases c with
  |true=>exact⟨ρ',fr,Qx,E'.drop,q,k⟩
  |false=>exact k _ _ H' ρ' (EOk.back E'.len (E'.drop.rep.add (IsX.of_bl _))) q
 ·exact q.elim
theorem aVs{t u:XT}{rest:List Expr}(h:XE X Ex a t)(h':XE X Ex (.BoolOp .Or (b::rest) pos) u):XE X Ex (.BoolOp .Or (a::b::rest) pos) (bBw t u):=λF=>(aXr (h F) (h' F)).weak λσ H Q=>by
 rintro⟨ρ,fr,Qx,E,t,k⟩
 refine⟨ρ,fr,_,E,t,λv s H' ρ' E' q=>?_⟩
 split at q
 ·rename_i c
  obtain⟨_,hx⟩:=E'.one
  cases hx.bl_eq
  refine⟨c,rfl,?_⟩
  cases c with
  |false=>exact⟨ρ',fr,Qx,E'.drop,q,k⟩
  |true=>exact k _ _ H' ρ' (EOk.back E'.len (E'.drop.rep.add (IsX.of_bl _))) q
 ·exact q.elim
theorem aBj{t:XT}(h:XE X Ex a t):XE X Ex (.UnaryOp .Not a pos) (aVy t):=λF=>(aRh (h F)).weak λσ H Q=>by
 rintro⟨ρ,fr,Qx,E,t,k⟩
 refine⟨ρ,fr,_,E,t,λv s H' ρ' E' q=>?_⟩
 split at q
 ·rename_i c
  obtain⟨_,hx⟩:=E'.one
  cases hx.bl_eq
  exact⟨c,rfl,k _ _ H' ρ' (EOk.back E'.len (E'.drop.rep.add (IsX.of_bl _))) q⟩
 ·exact q.elim
end
def cV:XA:=λρ Q=>Q [] ρ
def bA(t:XT)(u:XA):XA:=λρ Q=>t ρ λs ρ1=>u ρ1 λss ρ2=>Q (s::ss) ρ2
section
variable{X:Cx}{Ex:ExT}{e:Expr}{es:List Expr}{t:XT}{u:XA}{pos:Pos}
theorem bV:XAs X Ex [] cV:=λF=>(uL (X:=X)).weak λσ H Q=>by
 rintro⟨ρ,fr,Qx,E,t,k⟩
 exact k [] [] H ρ rfl E t
theorem bF(h:XE X Ex e t)(h':XAs X Ex es u)(he:starEach (e::es) X.env=(false,eval e X.env)::starEach es X.env:=by rfl):XAs X Ex (e::es) (bA t u):=λF=>(kS (h F) (h' F) he).weak λσ H Q=>by
 rintro⟨ρ,fr,Qx,E,t,k⟩
 refine⟨ρ,fr,_,E,t,λv s H' ρ' E' q=>⟨ρ',_,_,E',q,λvs ss H2 ρ2 hl E2 q2=>?_⟩⟩
 refine k (v::vs) (s::ss) H2 ρ2 (by rw[aE,aE,hl]) ⟨E2.len,E2.rep.perm ?_⟩ q2
 exact List.Perm.append_left _ List.perm_middle
theorem EOk.many{F:Fm}{ρ:En}{σ:St}{fr:List Rw}{H:Hp}:∀{ss:List Sv} {vs:List V},ss.length=vs.length->EOk F ρ σ (jH ss vs++fr) H->Rep F (ρ.zip σ++fr) H/\All2 (IsX (hid (bQ (ρ.zip σ++fr)) (F.vis H))) (ss.map Sv.d) vs
 | [],[],_,E=>⟨E.rep,rfl⟩
 | [],_::_,h,_=>by simp at h
 |_::_,[],h,_=>by simp at h
 |s::ss,v::vs,h,E=>by
  have E':EOk F ρ σ ((.v s,some v)::(jH ss vs++fr)) H:=E
  obtain⟨R,hs⟩:=EOk.many (ss:=ss) (vs:=vs) (by simpa using h) E'.drop
  obtain⟨_,hx⟩:=E'.one
  refine⟨R,v,vs,rfl,hx.to (lI λc hc=>?_),hs⟩
  have:bQ (ρ.zip σ++(jH ss vs++fr))=bQ (ρ.zip σ)++(bQ (jH ss vs)++bQ fr):=by unfold bQ;rw[gS,gS]
  rw[this]
  have h2:bQ (ρ.zip σ++fr)=bQ (ρ.zip σ)++bQ fr:=by unfold bQ;rw[gS]
  rw[h2]at hc
  rcases bL.mp hc with hc | hc
  ·exact aX _ hc
  ·exact aJ _ (aJ _ hc)
def sH(u:XA):XT:=λρ Q=>u ρ λss ρ'=>ss.length<=1000000/\Q (.tr (.tup (ss.map Sv.d))) ρ'
def kY(u:XA):XT:=λρ Q=>u ρ λss ρ'=>ss.length<=1000000/\Q (.ol (ss.map Sv.d)) ρ'
theorem fW:(1000000:Nat)<sizeLine:=by rw[sizeLine_eq];decide
theorem lO{j:Nat}(h:XAs X Ex es u):XE X Ex (.Tuple es j pos) (sH u):=λF=>(aDo (h F)).weak λσ H Q=>by
 rintro⟨ρ,fr,Qx,E,t,k⟩
 refine⟨ρ,fr,_,E,t,λvs ss H2 ρ2 hl E2 q2=>⟨by have:=fW;omega,λp hp=>?_⟩⟩
 obtain⟨R,hs⟩:=E2.many hl
 exact k _ _ _ ρ2 (EOk.back E2.len (R.newT hp hs)) q2.2
theorem mI(h:XAs X Ex es u):XE X Ex (.List es pos) (kY u):=λF=>(aRj (h F)).weak λσ H Q=>by
 rintro⟨ρ,fr,Qx,E,t,k⟩
 refine⟨ρ,fr,_,E,t,λvs ss H2 ρ2 hl E2 q2=>⟨by have:=fW;omega,λp hp=>?_⟩⟩
 obtain⟨R,hs⟩:=E2.many hl
 exact k _ _ _ ρ2 (EOk.back E2.len (R.newL hp hs)) q2.2
end
def gI(f:Int->Int->Dx):G2
 | .int i,.int j,Q=>Q (.tr (f i j))
 |_,_,_=>False
def gIC(C:Int->Int->Prop)(f:Int->Int->Dx):G2
 | .int i,.int j,Q=>C i j/\Q (.tr (f i j))
 |_,_,_=>False
theorem vX{f:Int->Int->V}{fd:Int->Int->Dx}(h:∀H i j,IsX H (fd i j) (f i j)):OpX (rI0 f) (gI fd):=by
 intro F P H a b x y Q Qx R ha hb g k
 unfold gI at g
 split at g
 ·cases ha.int_eq; cases hb.int_eq
  exact⟨_,_,rfl,rfl,k _ _ H (R.add (h _ _ _)) g⟩
 ·exact g.elim
theorem yI{C:Int->Int->Prop}{f:Int->Int->V}{fd:Int->Int->Dx}(h:∀H i j,IsX H (fd i j) (f i j)):OpX (rI C f) (gIC C fd):=by
 intro F P H a b x y Q Qx R ha hb g k
 unfold gIC at g
 split at g
 ·cases ha.int_eq; cases hb.int_eq
  exact⟨_,_,rfl,rfl,g.1,k _ _ H (R.add (h _ _ _)) g.2⟩
 ·exact g.elim
abbrev aWy:G2:=gI λi j=>.int (i-j)
abbrev aZo:G2:=gIC aHc λi j=>.int (i/j)
abbrev aKz:G2:=gIC (λ_ j=>0<j) λi j=>.int (i%j)
abbrev bCo:G2:=gIC aVa λi j=>.int (i^j.toNat)
abbrev ltX:G2:=gI λi j=>.bl (decide (i<j))
abbrev leX:G2:=gI λi j=>.bl (decide (i<=j))
abbrev gtX:G2:=gI λi j=>.bl (decide (j<i))
abbrev geX:G2:=gI λi j=>.bl (decide (j<=i))
theorem oi{f:Int->Int->Int}:∀H i j,IsX H (.int (f i j)) (.int (f i j)):=λ_ _ _=>IsX.of_int _
theorem ob{f:Int->Int->Bool}:∀H i j,IsX H (.bl (f i j)) (.bl (f i j)):=λ_ _ _=>IsX.of_bl _
def fA:G2
 | .int i,.int j,Q=>Q (.tr (.int (i+j)))
 | .str i,.str j,Q=>i.length+j.length<=1000000/\Q (.tr (.str (i++j)))
 | .lst l,.lst m,Q=>l.length+m.length<=1000000/\Q (.ol (l++m))
 |_,_,_=>False
def tW:G2
 | .int i,.int j,Q=>CMulB i j/\Q (.tr (.int (i*j)))
 | .lst l,.int j,Q=>(j<=1000000 /\ -1000000<=j/\l.length*j.toNat<=1000000)/\Q (.ol (List.replicate j.toNat l).flatten)
 | .str z,.int j,Q=>(z.length<=1000/\0<=j/\j<=1000)/\Q (.tr (.str (Txt.mul z j)))
 |_,_,_=>False
section
variable{X:Cx}{Ex:ExT}{a b e:Expr}{pos:Pos}{ta tb:XT}
theorem eZ(ha:XE X Ex a ta)(hb:XE X Ex b tb):XE X Ex (.BinOp a .Add b pos) (xOp fA ta tb):=qR (aRw.or (yK.or aRv)) (by
 intro F P H a b x y Q Qx R ha hb g k
 unfold fA at g
 split at g
 ·cases ha.int_eq; cases hb.int_eq
  exact .inl ⟨_,_,rfl,rfl,k _ _ H (R.add (IsX.of_int _)) g⟩
 ·cases ha.str_eq; cases hb.str_eq
  exact .inr (.inl ⟨_,_,rfl,rfl,by have:=fW;omega,k _ _ H (R.add (IsX.of_str _)) g.2⟩)
 ·obtain ⟨p,vs,rfl,h1,h2⟩:=ha.lst_eq
  obtain⟨q,ws,rfl,h3,h4⟩:=hb.lst_eq
  refine .inr (.inr ⟨p,q,vs,ws,rfl,rfl,R.hv _ _ h1,R.hv _ _ h3,by rw[h2.len,h4.len];have:=fW;omega,λl hl=>k _ _ _ (R.newL hl (All2.app h4 h2)) g.2⟩)
 ·exact g.elim) ha hb
theorem sB{α β:Type}{g:α->β->Prop}{l:List α}{m:List β}(h:All2 g l m):∀n,All2 g (List.replicate n l).flatten (List.replicate n m).flatten
 | 0=>rfl
 |n+1=>by rw[dI,dI,dR,dR];exact All2.app (sB h n) h
theorem z8(ha:XE X Ex a ta)(hb:XE X Ex b tb):XE X Ex (.BinOp a .Mult b pos) (xOp tW ta tb):=qR (aJy.or (aRr.or yJ)) (by
 intro F P H a b x y Q Qx R ha hb g k
 unfold tW at g
 split at g
 ·cases ha.int_eq; cases hb.int_eq
  exact .inl ⟨_,_,rfl,rfl,g.1,k _ _ H (R.add (IsX.of_int _)) g.2⟩
 ·obtain ⟨p,vs,rfl,h1,h2⟩:=ha.lst_eq
  cases hb.int_eq
  obtain⟨⟨g1,g2,g3⟩,g4⟩:=g
  refine .inr (.inl ⟨p,_,vs,rfl,rfl,R.hv _ _ h1,by omega,by omega,by rw[h2.len];have:=fW;omega,λl hl=>k _ _ _ (R.newL hl (sB h2 _)) g4⟩)
 ·cases ha.str_eq; cases hb.int_eq
  exact .inr (.inr ⟨_,_,rfl,rfl,g.1.1,g.1.2.1,g.1.2.2,k _ _ H (R.add (IsX.of_str _)) g.2⟩)
 ·exact g.elim) ha hb
theorem zA(ha:XE X Ex a ta)(hb:XE X Ex b tb):XE X Ex (.BinOp a .Sub b pos) (xOp aWy ta tb):=qR aRq (vX oi) ha hb
theorem sG(ha:XE X Ex a ta)(hb:XE X Ex b tb):XE X Ex (.BinOp a .FloorDiv b pos) (xOp aZo ta tb):=qR aEe (yI oi) ha hb
theorem gn_(ha:XE X Ex a ta)(hb:XE X Ex b tb):XE X Ex (.BinOp a .Mod b pos) (xOp aKz ta tb):=qR aRt (yI oi) ha hb
theorem aPr(ha:XE X Ex a ta)(hb:XE X Ex b tb):XE X Ex (.BinOp a .Pow b pos) (xOp bCo ta tb):=qR aRs (yI oi) ha hb
end
theorem xL:OpX (rI0 λi j=>.bl (decide (i<j))) ltX:=vX ob
theorem lT:OpX (rI0 λi j=>.bl (decide (i<=j))) leX:=vX ob
theorem io_:OpX (rI0 λi j=>.bl (decide (j<i))) gtX:=vX ob
theorem aDy:OpX (rI0 λi j=>.bl (decide (j<=i))) geX:=vX ob
def eqS:Dx->Dx->Option Bool
 | .int i,.int j=>some (decide (i=j))
 | .str i,.str j=>some (decide (i=j))
 | .bl i,.bl j=>some (decide (i=j))
 | .non,.non=>some true
 | .non,.int _=>some false | .int _,.non=>some false | .non,.bl _=>some false | .bl _,.non=>some false | .non,.str _=>some false | .str _,.non=>some false
 | .int _,.str _=>some false | .str _,.int _=>some false | .bl _,.str _=>some false | .str _,.bl _=>some false
 | .lst l,.lst []=>some l.isEmpty
 |_,_=>none
def eqX:G2:=λa b Q=>match eqS a b with
 |some c=>Q (.tr (.bl c))
 |none=>False
def neX:G2:=λa b Q=>match eqS a b with
 |some c=>Q (.tr (.bl (!c)))
 |none=>False
def scV:Dx->Option V
 | .int i=>some (.int i)
 | .str i=>some (.str i)
 | .bl i=>some (.bl i)
 | .non=>some .non
 |_=>none
theorem ij_{H:Hp}{d:Dx}{x v:V}(h:IsX H d x)(e:scV d=some v):x=v:=by
 cases d<;>simp only[scV,Option.some.injEq]at e<;>first | (subst e;first | exact h.int_eq | exact h.str_eq | exact h.bl_eq | exact h.non_eq) | cases e
theorem wU{a b:Dx}{c:Bool}(h:eqS a b=some c):(∃l,a=.lst l/\b=.lst []/\c=l.isEmpty)\/∃x y,scV a=some x/\scV b=some y/\aQp x y=true/\decide (x=y)=c:=by
 unfold eqS at h
 split at h<;>(try simp only[Option.some.injEq]at h)<;>first
  |(subst h;exact .inr ⟨_,_,rfl,rfl,rfl,by simp⟩)
  |(subst h;exact .inl ⟨_,rfl,rfl,rfl⟩)
  |cases h
section
variable{K:dA}
def aDa(K:dA)(n:Bool):R2:=λx y H Q=>∃p b xs,x=.ref p/\y=.ref b/\SqL K H p xs/\SqL K H b []/\Q (.bl (if n then !xs.isEmpty else xs.isEmpty)) H
theorem iP:OpX (λx y H Q=>rEq x y H Q\/aDa K false x y H Q) eqX:=by
 intro F P H a b x y Q Qx R ha hb g k
 unfold eqX at g
 split at g
 ·rename_i c hc
  rcases wU hc with⟨l,rfl,rfl,rfl⟩ | ⟨u,w,h1,h2,h3,h4⟩
  ·obtain ⟨p,vs,rfl,q1,q2⟩:=ha.lst_eq
   obtain⟨p',vs',rfl,q3,q4⟩:=hb.lst_eq
   cases(show vs'=[]from q4)
   refine .inr ⟨p,p',vs,rfl,rfl,SqL.of (R.hv _ _ q1),SqL.of (R.hv _ _ q3),k _ (.tr (.bl l.isEmpty)) H (R.add ?_) g⟩
   have:vs.isEmpty=l.isEmpty:=by
    have:=q2.len
    cases vs<;>cases l<;>simp at this ⊢
   simp only[IsX,this];rfl
  ·cases ij_ ha h1; cases ij_ hb h2
   exact .inl ⟨h3,k _ _ H (R.add (by rw[h4];exact IsX.of_bl _)) g⟩
 ·exact g.elim
theorem lC:OpX (λx y H Q=>rNe x y H Q\/aDa K true x y H Q) neX:=by
 intro F P H a b x y Q Qx R ha hb g k
 unfold neX at g
 split at g
 ·rename_i c hc
  rcases wU hc with⟨l,rfl,rfl,rfl⟩ | ⟨u,w,h1,h2,h3,h4⟩
  ·obtain ⟨p,vs,rfl,q1,q2⟩:=ha.lst_eq
   obtain⟨p',vs',rfl,q3,q4⟩:=hb.lst_eq
   cases(show vs'=[]from q4)
   refine .inr ⟨p,p',vs,rfl,rfl,SqL.of (R.hv _ _ q1),SqL.of (R.hv _ _ q3),k _ (.tr (.bl (!l.isEmpty))) H (R.add ?_) g⟩
   have:vs.isEmpty=l.isEmpty:=by
    have:=q2.len
    cases vs<;>cases l<;>simp at this ⊢
   simp only[IsX,this];rfl
  ·cases ij_ ha h1; cases ij_ hb h2
   exact .inl ⟨h3,k _ _ H (R.add (by rw[h4];exact IsX.of_bl _)) g⟩
 ·exact g.elim
end
section
variable{X:Cx}{Ex:ExT}(K:dA)(h:X.K=K)
theorem iJ(hu:X.A.units<cLine)(h:X.K=K:=by rfl):OpR X (compareOp .Eq) (λx y H Q=>rEq x y H Q\/aDa K false x y H Q):=by subst h;exact aXx.or (aEf hu)
theorem hh_(hu:X.A.units<cLine)(h:X.K=K:=by rfl):OpR X (compareOp .NotEq) (λx y H Q=>rNe x y H Q\/aDa K true x y H Q):=by subst h;exact aXw.or (aEb hu)
end
def mH(neg:Bool):G2
 | .non,.non,Q=>Q (.tr (.bl !neg))
 |_,.non,Q=>Q (.tr (.bl neg))
 |_,_,_=>False
theorem aFi{H:Hp}{a:Dx}{x:V}(h:IsX H a x)(ha:a ≠ .non):¬x=.non:=by
 intro z
 subst z
 cases a with
 |non=>exact ha rfl
 |bl _=>cases h.bl_eq
 |int _=>cases h.int_eq
 |str _=>cases h.str_eq
 |tup _=>obtain⟨_,_,e,_⟩:=h.tup_eq;cases e
 |lst _=>obtain⟨_,_,e,_⟩:=h.lst_eq;cases e
 |dic _=>obtain⟨_,_,e,_⟩:=h.dic_eq;cases e
 |scr _ _=>obtain⟨_,e,_⟩:=h.scr_eq;cases e
 |ins _ _=>obtain⟨_,_,_,e,_⟩:=h.ins_eq;cases e
 |exc _=>obtain⟨_,e,_⟩:=h.exc_eq;cases e
theorem pA:OpX (λx y H Q=>y=.non/\Q (.bl (decide (x=.non))) H) (mH false):=by
 intro F P H a b x y Q Qx R ha hb g k
 unfold mH at g
 split at g
 ·cases ha.non_eq; cases hb.non_eq
  exact⟨rfl,k _ _ H (R.add (IsX.of_bl _)) g⟩
 ·rename_i Fs
  cases hb.non_eq
  exact⟨rfl,k _ _ H (R.add (by rw[dzF (aFi ha λz=>Fs z)];exact IsX.of_bl _)) g⟩
 ·exact g.elim
theorem aJw:OpX (λx y H Q=>y=.non/\Q (.bl (!decide (x=.non))) H) (mH true):=by
 intro F P H a b x y Q Qx R ha hb g k
 unfold mH at g
 split at g
 ·cases ha.non_eq; cases hb.non_eq
  exact⟨rfl,k _ _ H (R.add (IsX.of_bl _)) g⟩
 ·rename_i Fs
  cases hb.non_eq
  exact⟨rfl,k _ _ H (R.add (by rw[dzF (aFi ha λz=>Fs z)];exact IsX.of_bl _)) g⟩
 ·exact g.elim
def ixX:G2
 | .lst l,.int i,Q=>(match atI l i with | some d=>Q (.tr d) | none=>False)
 | .tup l,.int i,Q=>(match atI l i with | some d=>Q (.tr d) | none=>False)
 | .str z,.int i,Q=>z.length<=1000000/\(match atI z.cps.toList i with | some c=>Q (.tr (.str ⟨#[c]⟩)) | none=>False)
 |_,_,_=>False
theorem qG{α β:Type}{g:α->β->Prop}{l:List α}{m:List β}{i:Int}{d:α}(h:All2 g l m)(e:atI l i=some d):∃v,atI m i=some v/\g d v:=by
 unfold atI at e ⊢
 rw[h.len]
 obtain⟨j,h1,h2⟩:=aP.mp e
 obtain⟨v,h3,h4⟩:=h.at h2
 exact⟨v,aP.mpr ⟨j,h1,h3⟩,h4⟩
theorem aXu{K:dA}:OpX (λx y H Q=>aCz K x y H Q\/aQu K x y H Q\/aXl x y H Q) ixX:=by
 intro F P H a b x y Q Qx R ha hb g k
 unfold ixX at g
 split at g
 ·obtain ⟨p,vs,rfl,h1,h2⟩:=ha.lst_eq
  cases hb.int_eq
  split at g
  ·rename_i d hd
   obtain⟨v,h3,h4⟩:=qG h2 hd
   exact .inl ⟨p,vs,_,v,rfl,rfl,SqL.of (R.hv _ _ h1),h3,k _ _ H (R.add h4) g⟩
  ·exact g.elim
 ·obtain ⟨p,vs,rfl,h1,h2⟩:=ha.tup_eq
  cases hb.int_eq
  split at g
  ·rename_i d hd
   obtain⟨v,h3,h4⟩:=qG h2 hd
   exact .inr (.inl ⟨p,vs,_,v,rfl,rfl,SqT.of (R.hv _ _ h1),h3,k _ _ H (R.add h4) g⟩)
  ·exact g.elim
 ·cases ha.str_eq; cases hb.int_eq
  obtain⟨g0,g⟩:=g
  split at g
  ·rename_i c hc
   exact .inr (.inr ⟨_,_,c,rfl,rfl,by have:=fW;omega,hc,k _ _ H (R.add (IsX.of_str _)) g⟩)
  ·exact g.elim
 ·exact g.elim
theorem IxR.or{X:Cx}{r r':R2}(h:IxR X r)(h':IxR X r'):IxR X (λx y H Q=>r x y H Q\/r' x y H Q):=λa b Aa s σ H x y v u Q I rx ry q hs=>q.elim (λq=>h a b Aa s σ H x y v u Q I rx ry q hs) λq=>h' a b Aa s σ H x y v u Q I rx ry q hs
theorem kW{X:Cx}{Ex:ExT}{a b:Expr}{pos:Pos}{ta tb:XT}(K:dA)(ha:XE X Ex a ta)(hb:XE X Ex b tb)(hs:jC b)(h:X.K=K:=by rfl):XE X Ex (.Subscript a b pos) (xOp ixX ta tb):=λF =>
 (aDr (IxR.or (wG K h) (IxR.or (aLe K h) aTk)) (ha F) (hb F) hs).weak (qW aXu)
def lN(l:List (Key×Dx))(k:Key):Option Dx:=(l.find? λp=>decide (p.1=k)).map (·.2)
theorem wN{G:Hp}{k:Key}:∀{l:List (Key×Dx)} {ws:List (Key×V)},All2 (KvX G) l ws->(lN l k=none/\kZ ws k=none)\/∃d v,lN l k=some d/\kZ ws k=some v/\IsX G d v
 | [],_,h=>by rw[show _=[]from h];exact .inl ⟨rfl,rfl⟩
 |p::l,_,⟨w,wr,e,⟨h1,h2⟩,h3⟩=>by
  rw[e]
  by_cases hk:p.1=k
  ·refine .inr ⟨p.2,w.2,?_,it_ (h1 ▸ hk),h2⟩
   unfold lN
   rw[fC,dzT hk]
   rfl
  ·rw [iu_ (h1 ▸ hk)]
   have:lN (p::l) k=lN l k:=by unfold lN;rw[fC,dzF hk]
   rw[this]
   exact wN h3
def aLd:Dx->Option Key
 | .int i=>some (.inl i)
 | .str x=>some (.inr x)
 |_=>none
theorem i8{H:Hp}{d:Dx}{x:V}{k:Key}(h:IsX H d x)(e:aLd d=some k):x=kV k:=by
 cases d<;>simp only[aLd,Option.some.injEq]at e<;>first | (subst e;first | exact h.int_eq | exact h.str_eq) | cases e
theorem DGet.rd{H:Hp}{a:Addr}{kvs:List (Key×V)}{k:Key}(e:Rd H a (.dK kvs)):DGet H a (kV k) (kZ kvs k):=.inl ⟨kvs,k,e,rfl,rfl⟩
theorem aCu{F:Fm}{P:List Rw}{H:Hp}(R:Rep F P H){O:List Addr}{a:Addr}{u:HO}(h:Rd (hid O (F.vis H)) a u):Rd H a u:=by
 rcases h with h | ⟨o,h⟩
 ·exact .inl (R.hv _ _ h)
 ·exact .inr ⟨o,R.hv _ _ h⟩
section
variable{X:Cx}{Ex:ExT}{a b o i:Expr}{pos:Pos}{ta tb:XT}
def aBr:XT:=λρ Q=>Q (.od []) ρ
theorem zW:XE X Ex (.Dict [] [] pos) aBr:=λF=>(aDs (X:=X)).weak λσ H Q=>by
 rintro⟨ρ,fr,Qx,E,t,k⟩
 exact λp hp=>k _ _ _ ρ (EOk.back E.len (E.rep.newD hp All2.nil)) t
end
abbrev GC:=List Dx->(Sv->Prop)->Prop
def iB(r:List V->Hp->VK->Prop)(g:GC):Prop:=∀(F:Fm) (P:List Rw) (H:Hp) (ds:List Dx) (xs:List V) (Q:VK) (Qx:Sv->Prop),Rep F P H->All2 (IsX (hid (bQ P) (F.vis H))) ds xs->g ds Qx ->
 (∀v s H',Rep F ((.v s,some v)::P) H'->Qx s->Q v H')->r xs H Q
def dU(g:GC)(u:XA):XT:=λρ Q=>u ρ λss ρ'=>g (ss.map Sv.d) λs=>Q s ρ'
theorem aNv{F:Fm}{r:List V->Hp->VK->Prop}{g:GC}{u:XA}(hx:iB r g):∀σ H Q,tX F (dU g u) σ H Q->tCB r (tXa F u) σ H Q:=by
 rintro σ H Q ⟨ρ,fr,Qx,E,t,k⟩
 refine⟨ρ,fr,_,E,t,λvs ss H2 ρ2 hl E2 q2=>?_⟩
 obtain⟨R,hs⟩:=E2.many hl
 exact hx F _ H2 _ vs Q (λs=>Qx s ρ2) R hs q2 λv s H' R' q=>k v s H' ρ2 (EOk.back E2.len R') q
section
variable{X:Cx}{Ex:ExT}{e:Expr}{es:List Expr}{x:Str}{p pos:Pos}{r:List V->Hp->VK->Prop}{g:GC}{u:XA}{id T:String}
theorem jV(hc:CallR X (.builtin id) r)(hx:iB r g)(hg:Gl X x)(hm:X.mg x=none)(hv:bootBuiltins x=some (.builtin id))(ha:XAs X Ex (e::es) u)(hn:x ≠ "__name__":=by decide)(B2:(x == ("__debug__" : Str))=false:=by decide)
  (he:starEach (e::es) X.env=(false,eval e X.env)::starEach es X.env:=by rfl) (A9:(backTo pos (starEach es X.env)).any (·.1)=false:=by rfl):XE X Ex (.Call (.Name x p) (e::es) [] pos) (dU g u):=λF=>(iz_ hc hg hm hv (ha F) hn B2 he A9).weak (aNv hx)
theorem zK(hc:CallR X (.type T) r)(hx:iB r g)(hg:Gl X x)(hm:X.mg x=none)(hv:bootBuiltins x=some (.type T))(ha:XAs X Ex (e::es) u)(hn:x ≠ "__name__":=by decide)(B2:(x == ("__debug__" : Str))=false:=by decide)
  (he:starEach (e::es) X.env=(false,eval e X.env)::starEach es X.env:=by rfl) (A9:(backTo pos (starEach es X.env)).any (·.1)=false:=by rfl):XE X Ex (.Call (.Name x p) (e::es) [] pos) (dU g u):=λF=>(u0 hc hg hm hv (ha F) hn B2 he A9).weak (aNv hx)
end
theorem qJ{α β:Type}{g:α->β->Prop}{a:α}{xs:List β}(h:All2 g [a] xs):∃x,xs=[x]/\g a x:=by
 obtain⟨x,xr,rfl,h1,h2⟩:=h
 cases(show xr=[]from h2)
 exact⟨x,rfl,h1⟩
theorem zR{α β:Type}{g:α->β->Prop}{a b:α}{xs:List β}(h:All2 g [a,b] xs):∃x y,xs=[x,y]/\g a x/\g b y:=by
 obtain⟨x,xr,rfl,h1,h2⟩:=h
 obtain⟨y,rfl,h3⟩:=qJ h2
 exact⟨x,y,rfl,h1,h3⟩
def aLb:GC
 | [.lst l],Q=>Q (.tr (.int l.length))
 | [.tup l],Q=>Q (.tr (.int l.length))
 | [.str z],Q=>z.length<=1000000/\Q (.tr (.int z.length))
 | [.dic l],Q=>Q (.tr (.int l.length))
 |_,_=>False
abbrev aQt(K:dA):List V->Hp->VK->Prop:=λxs H Q=>(∃p ys,xs=[.ref p]/\(SqL K H p ys\/SqT K H p ys)/\Q (.int ys.length) H)\/(∃z,xs=[.str z]/\z.length<=sizeLine/\Q (.int z.length) H)\/(∃a kvs,xs=[V.ref a]/\Rd H a (.dK kvs)/\Q (.int kvs.length) H)
theorem mF{X:Cx}(K:dA)(h:X.K=K:=by rfl):CallR X (.builtin "len") (aQt K):=by
 subst h
 refine uT.or (uS.or ?_)
 intro Aa s σ H xs us Q I r h
 obtain⟨a,kvs,rfl,ha,q⟩:=h
 obtain⟨u,rfl,ru⟩:=gO r
 cases ru
 exact aZw I ha λt s' I'=>⟨.int kvs.length,H,I',⟨t,rfl⟩,q⟩
theorem nJ{K:dA}:iB (aQt K) aLb:=by
 intro F P H ds xs Q Qx R hs g k
 unfold aLb at g
 split at g
 ·obtain ⟨x,rfl,hx⟩:=qJ hs
  obtain⟨a,vs,rfl,h1,h2⟩:=hx.lst_eq
  exact .inl ⟨a,vs,rfl,.inl (SqL.of (R.hv _ _ h1)),k _ _ H (R.add (by rw[h2.len];exact IsX.of_int _)) g⟩
 ·obtain ⟨x,rfl,hx⟩:=qJ hs
  obtain⟨a,vs,rfl,h1,h2⟩:=hx.tup_eq
  exact .inl ⟨a,vs,rfl,.inr (SqT.of (R.hv _ _ h1)),k _ _ H (R.add (by rw[h2.len];exact IsX.of_int _)) g⟩
 ·obtain ⟨x,rfl,hx⟩:=qJ hs
  cases hx.str_eq
  exact .inr (.inl ⟨_,rfl,by have:=fW;omega,k _ _ H (R.add (IsX.of_int _)) g.2⟩)
 ·obtain ⟨x,rfl,hx⟩:=qJ hs
  obtain⟨a,vs,rfl,h1,h2⟩:=hx.dic_eq
  exact .inr (.inr ⟨a,vs,rfl,aCu R h1,k _ _ H (R.add (by rw[h2.len];exact IsX.of_int _)) g⟩)
 ·exact g.elim
def aLi:GC
 | [.int i],Q=>Q (.tr (.int i))
 | [.bl b],Q=>Q (.tr (.int (if b then 1 else 0)))
 |_,_=>False
theorem im_:iB (λxs H Q=>(∃i,xs=[.int i]/\Q (.int i) H)\/∃k,xs=[.bl k]/\Q (.int (if k then 1 else 0)) H) aLi:=by
 intro F P H ds xs Q Qx R hs g k
 unfold aLi at g
 split at g
 ·obtain ⟨x,rfl,hx⟩:=qJ hs
  cases hx.int_eq
  exact .inl ⟨_,rfl,k _ _ H (R.add (IsX.of_int _)) g⟩
 ·obtain ⟨x,rfl,hx⟩:=qJ hs
  cases hx.bl_eq
  exact .inr ⟨_,rfl,k _ _ H (R.add (IsX.of_int _)) g⟩
 ·exact g.elim
inductive Ty where
 |bool | int | str | tuple | list | dict
def Ty.nm:Ty->String
 | .bool => "bool" | .int => "int" | .str => "str" | .tuple => "tuple" | .list => "list" | .dict => "dict"
def tyN:Dx->String
 | .non => "NoneType" | .bl _ => "bool" | .int _ => "int" | .str _ => "str" | .tup _ => "tuple" | .lst _ => "list" | .dic _ => "dict" | .scr _ _ => "list" | .ins _ _ => "object" | .exc _ => "object"
def isT:Ty->Dx->Bool
 | .bool,.bl _=>true
 | .int,.int _=>true
 | .int,.bl _=>true
 | .str,.str _=>true
 | .tuple,.tup _=>true
 | .list,.lst _=>true
 | .dict,.dic _=>true
 | .list,.scr _ _=>true
 |_,_=>false
def pF:Dx->Prop
 | .scr _ _=>False
 | .ins _ _=>False
 | .exc _=>False
 |_=>True
theorem aLc{K:dA}{d:Dx}{n:Ty}(hd:pF d):PySem.W.kitOne K (.type (tyN d)) (.type n.nm)=some (isT n d):=by
 have h:∀T∈["NoneType","bool","int","str","tuple","list","dict"],∀n:Ty,PySem.W.kitOne K (.type T) (.type n.nm)=some (T == n.nm||(n.nm == "int" && T == "bool")):=by
  intro T hT n
  simp only[aI,bS,or_false]at hT
  rcases hT with rfl | rfl | rfl | rfl | rfl | rfl | rfl<;>cases n<;>first
   |exact aFe _
   |exact aSz (by decide +kernel) (by decide +kernel) (by decide +kernel)
 rw[h _ (by cases d<;>first | exact hd.elim | simp[tyN]) n]
 cases d<;>cases n<;>first | rfl | exact hd.elim
theorem w9{X:Cx}{Aa:eL}{σ:St}{H:Hp}{s:Shared}{A:Around}{E:gV}{Q:gV}{b:Bool}{c:Value}{d:Dx}{x:V}{u:Value}(I:Inv X Aa σ H s)(rx:RelV x u)(hx:IsX H d x)(hd:pF d)(e:PySem.W.kitOne X.K (.type (tyN d)) c=some b)(h:∀tk,Q (.bool b) { s with toks:=tk }) :
  wpAny (model X.prog X.w) A (call (.builtin "isinstance") [u,c]) Q E s:=by
 cases d with
 |non=>cases hx.non_eq;exact es_ I rx .non e h
 |bl _=>cases hx.bl_eq;exact es_ I rx (.bl _) e h
 |int _=>cases hx.int_eq;exact es_ I rx (.int _) e h
 |str _=>cases hx.str_eq;exact es_ I rx (.str _) e h
 |tup _=>obtain⟨a,vs,rfl,h1,_⟩:=hx.tup_eq;exact es_ I rx (.tup h1) e h
 |lst _=>obtain⟨a,vs,rfl,h1,_⟩:=hx.lst_eq;exact es_ I rx (.lst h1) e h
 |dic _ =>
  obtain⟨a,vs,rfl,h1,_⟩:=hx.dic_eq
  rcases h1 with h1 | ⟨ob,h1⟩
  ·exact es_ I rx (.dK h1) e h
  ·cases (show u=Value.ref a from rx)
   obtain⟨_,_,_,_,_,p⟩:=(show ObjOk X.prog X.w H s.heap a (.frz ob (.dK vs))from I.hok a _ h1)
   obtain⟨o,es,ep,h1,h2,_⟩:=p
   exact PySem.W.kia_one PySem.W.kitx_dict I.kIn ⟨o,h1,h2.1⟩ e (λz=>nomatch z) h
 |scr _ _=>exact hd.elim
 |ins _ _=>exact hd.elim
 |exc _=>exact hd.elim
theorem aGu{X:Cx}(n:Ty):CallR X (.builtin "isinstance") (λxs H Q=>∃x d,xs=[x,.ty n.nm]/\IsX H d x/\pF d/\Q (.bl (isT n d)) H):=by
 intro Aa s σ H xs us Q I r h
 obtain⟨x,d,rfl,hx,hd,q⟩:=h
 obtain⟨u,w',rfl,r1,r2⟩:=qU r
 cases(show w'=Value.type n.nm from r2)
 exact w9 I r1 hx hd (aLc hd) (λtk=>⟨.bl _,H,I.tok _,rfl,q⟩)
def xIs(n:Ty)(t:XT):XT:=λρ Q=>t ρ λs ρ'=>match s.d with
 | .scr _ _=>False
 | .ins _ _=>False
 | .exc _=>False
 |d=>Q (.tr (.bl (isT n d))) ρ'
theorem uW{X:Cx}{Ex:ExT}{e:Expr}{t:XT}{nm:Str}{p q pos:Pos}(n:Ty)(hm:X.mg "isinstance" = none)(h:XE X Ex e t)(hT:PE X (.Name nm q) (tC (.ty n.nm)))(hg:Gl X "isinstance":=by rfl)
  (he:starEach [e,.Name nm q] X.env=(false,eval e X.env)::starEach [.Name nm q] X.env:=by rfl) (F4:starEach [.Name nm q] X.env=(false,eval (.Name nm q) X.env)::starEach [] X.env:=by rfl) (A9:(backTo pos (starEach [.Name nm q] X.env)).any (·.1)=false:=by rfl):XE X Ex (.Call (.Name "isinstance" p) [e,.Name nm q] [] pos) (xIs n t):=λF =>
 (iz_ (aGu n) hg hm fp_ (kS (h F) (kS hT uL F4) he) (by decide) (by decide) he A9).weak fun σ H Q=>by
  rintro⟨ρ,fr,Qx,E,t,k⟩
  refine⟨ρ,fr,_,E,t,λv s H' ρ' E' q=>?_⟩
  obtain⟨R,hx⟩:=E'.one
  generalize hd:s.d=d at q hx
  cases d with
  |scr _ _=>exact q.elim
  |ins _ _=>exact q.elim
  |exc _=>exact q.elim
  |_=>exact⟨v,_,rfl,hx.to R.hv,trivial,k _ _ H' ρ' (EOk.back E'.len (R.add (IsX.of_bl _))) q⟩
def Cal(P:Program)(w:World)(K:dA)(mg:kC)(base:Heap)(j:Nat)(x:Str)(ps:List Str)(sp:Sp):Prop:=∃f fd,FnOk P w K mg base CX0 j f fd ps sp/\Binds K fd ps []/\PySem.W.keepIn K (.ref f)=true/\mg x=some (.ref f)
theorem yG{X:Cx}{j:Nat}{x:Str}{ps:List Str}{sp:Sp}{e:Expr}{es:List Expr}{t:TA}{p pos:Pos}(C:Cal X.prog X.w X.K X.mg X.base j x ps sp)(hr:Room j X.A)(ha:PA X (e::es) t)(hg:Gl X x:=by rfl)(B2:(x == ("__debug__" : Str))=false:=by decide)
  (he:starEach (e::es) X.env=(false,eval e X.env)::starEach es X.env:=by rfl) (A9:(backTo pos (starEach es X.env)).any (·.1)=false:=by rfl):PE X (.Call (.Name x p) (e::es) [] pos) (aCe sp [] E0 t):=by
 obtain⟨f,fd,G,b,k,m⟩:=C
 exact e9 G hr hg m k b .nil aOl ha B2 he A9
def o7(Hs H H':Hp):Sv->V->Prop
 | .tr d,v=>IsX (ext Hs H H') d v
 | .ol l,v=>∃a vs,v=.ref a/\H a=none/\H' a=some (.lst vs)/\All2 (IsX (hid [a] (ext Hs H H'))) l vs
 | .od l,v=>∃a ws,v=.ref a/\H a=none/\H' a=some (.dK ws)/\All2 (KvX (hid [a] (ext Hs H H'))) l ws
 | .ow o,v=>o.fp.Nodup/\(∀a∈o.fp,H a=none)/\OwOk (hid o.fp (ext Hs H H')) H' o v
def spX(g:GC):Sp:=λvs H Q _=>∃Hs ds Qx,Same Hs H/\All2 (IsX Hs) ds vs/\g ds Qx/\∀s v H',Same H H'->o7 Hs H H' s v->Qx s->Q v H'
section
variable{F:Fm}{P:List Rw}{H H':Hp}{a:Addr}{s:Sv}{v:V}
theorem uH(R:Rep F P H)(e:Same H H'):Same (ext (hid (bQ P) (F.vis H)) H H') (hid (bQ P) (F.vis H')):=λb o hb=>by
 cases q:H b with
 |none =>
  rw[nM q]at hb
  exact bB.mpr ⟨R.not_own q,(nM (R.fresh q)).trans hb⟩
 |some u =>
  rw[lZ q]at hb
  exact pM (gk_ e) _ _ hb
theorem Rep.adopt(R:Rep F P H)(e:Same H H')(ha:H a=none)(hA:fY (.v s,some (.ref a))=[a])(h:RowOk (a::bQ P) (F.vis H') H' (.v s,some (.ref a))):Rep F ((.v s,some (.ref a))::P) H':=by
 have Ba:=R.not_own ha
 have hq:=R.fresh ha
 have R':=R.grow e
 refine⟨by rw[jG hA];exact cE.mpr ⟨Ba,R.nd⟩,λr hr=>?_,λr hr b hb=>?_,R'.kp,R'.lv⟩
 ·rw [jG hA]
  rcases aI.mp hr with rfl | hr
  ·exact h
  ·refine (R.ok r hr).mono (.of fun b o hb => ?_) fun b hb => ?_
   ·have Au:=bB.mp hb
    have Jf:b≠a:=λz=>by have:=R.vis _ _ Au.2;rw[z,ha]at this;cases this
    exact bB.mpr ⟨λz=>(aI.mp z).elim Jf Au.1,gk_ e _ _ Au.2⟩
   ·obtain ⟨o,ho⟩:=R.own_in (fm_ hr hb)
    rw[ho,e _ _ ho]
 ·rcases aI.mp hr with rfl | hr
  ·cases eq1 hA hb;exact hq
  ·exact R.fr r hr b hb
theorem Rep.adoptW{o:Ow}(R:Rep F P H)(e:Same H H')(hn:o.fp.Nodup)(ha:∀a∈o.fp,H a=none)(h:OwOk (hid (o.fp++bQ P) (F.vis H')) H' o v):Rep F ((.v (.ow o),some v)::P) H':=by
 have R':=R.grow e
 have hO:bQ ((.v (.ow o),some v)::P)=o.fp++bQ P:=lJ
 have F6:∀a∈o.fp,a∉bQ P:=λa h1=>R.not_own (ha a h1)
 refine⟨?_,λr hr=>?_,λr hr b hb=>?_,R'.kp,R'.lv⟩
 ·rw [hO]
  exact cN.mpr ⟨hn,R.nd,λa h1 b h2 z=>F6 a h1 (z ▸ h2)⟩
 ·rw [hO]
  rcases aI.mp hr with rfl | hr
  ·exact⟨v,rfl,h⟩
  ·refine (R.ok r hr).mono (.of fun b u hb => ?_) fun b hb => ?_
   ·have Au:=bB.mp hb
    refine bB.mpr ⟨λz=>(bL.mp z).elim (λz=>?_) Au.1,gk_ e _ _ Au.2⟩
    have:=R.vis _ _ Au.2;rw[ha b z]at this;cases this
   ·obtain ⟨u,hu⟩:=R.own_in (fm_ hr hb)
    rw[hu,e _ _ hu]
 ·rcases aI.mp hr with rfl | hr
  ·exact R.fresh (ha b hb)
  ·exact R.fr r hr b hb
theorem wR(R:Rep F P H)(e:Same H H')(ha:H a=none):Same (hid [a] (ext (hid (bQ P) (F.vis H)) H H')) (hid (a::bQ P) (F.vis H')):=λb o hb=>by
 have Au:=bB.mp hb
 have:=bB.mp (uH R e _ _ Au.2)
 exact bB.mpr ⟨λz=>(aI.mp z).elim (λz=>Au.1 (by rw[z];exact aA)) this.1,this.2⟩
theorem Rep.res(R:Rep F P H)(e:Same H H')(h:o7 (hid (bQ P) (F.vis H)) H H' s v):Rep F ((.v s,some v)::P) H':=by
 match s,h with
 | .tr d,h=>exact(R.grow e).add (IsX.to h (uH R e))
 | .ol l,⟨a,vs,h1,h2,h3,h4⟩ =>
  subst h1
  exact R.adopt e h2 rfl ⟨a,vs,rfl,h3,h4.imp λ_ _ z=>z.to (wR R e h2)⟩
 | .od l,⟨a,vs,h1,h2,h3,h4⟩ =>
  subst h1
  exact R.adopt e h2 rfl ⟨a,vs,rfl,h3,h4.imp λ_ _ z=>z.to (wR R e h2)⟩
 | .ow o,⟨h1,h2,h3⟩ =>
  refine R.adoptW e h1 h2 (OwOk.mono (.of λb u hb=>?_) o v (λ_ _=>rfl) h3)
  have Au:=bB.mp hb
  have:=bB.mp (uH R e _ _ Au.2)
  exact bB.mpr ⟨λz=>(bL.mp z).elim Au.1 this.1,this.2⟩
end
theorem fH{X:Cx}{Ex:ExT}{j:Nat}{x:Str}{ps:List Str}{g:GC}{e:Expr}{es:List Expr}{u:XA}{p pos:Pos}(C:Cal X.prog X.w X.K X.mg X.base j x ps (spX g))(hr:Room j X.A)(ha:XAs X Ex (e::es) u)(hg:Gl X x:=by rfl)(B2:(x == ("__debug__" : Str))=false:=by decide)
  (he:starEach (e::es) X.env=(false,eval e X.env)::starEach es X.env:=by rfl) (A9:(backTo pos (starEach es X.env)).any (·.1)=false:=by rfl):XE X Ex (.Call (.Name x p) (e::es) [] pos) (dU g u):=λF=>(yG C hr (ha F) hg B2 he A9).weak λσ H Q=>by
 rintro⟨ρ,fr,Qx,E,t,k⟩
 refine⟨ρ,fr,_,E,t,λvs ss H2 ρ2 hl E2 q2=>?_⟩
 obtain⟨R,hs⟩:=E2.many hl
 rw[aS]
 exact⟨_,_,_,R.hv,hs,q2,λs v H' e hr q=>k v s H' ρ2 (EOk.back E2.len (R.res e hr)) q⟩
abbrev GB:=List Dx->List Dx->(Dx->List Dx->Prop)->Prop
def spB(g:GB):Sp:=λvs H Q _=>∃p ws l vr Hs ds Qx,vs=.ref p::vr/\H p=some (.lst ws)/\Same Hs H/\Hs p=none/\All2 (IsX Hs) l ws/\All2 (IsX Hs) ds vr/\g l ds Qx /\
 ∀d v l' ws' H',SameX p H H'->H' p=some (.lst ws')->All2 (IsX (hid [p] (ext Hs H H'))) l' ws'->IsX (ext Hs H H') d v->Qx d l'->Q v H'
def jY:Sl->Option (List Dx×(List Dx->Sl))
 | .bw l=>some (l,.bw)
 | .ba a l=>some (l,.ba a)
 | .v (.ol l)=>some (l,λl'=>.v (.ol l'))
 |_=>none
def dY(g:GB)(i:Nat)(u:XA):XT:=λρ Q=>((ρ[i]?).bind jY).isSome=true/\u ρ λss ρ'=>match (ρ'[i]?).bind jY with
 |some (l,f)=>g l (ss.map Sv.d) λd l'=>Q (.tr d) (ρ'.set i (f l'))
 |none=>False
section
variable{F:Fm}{P:List Rw}{H H':Hp}{a p:Addr}{s:Sv}{v:V}{r r':Rw}
theorem Rep.called(R:Rep F (r::P) H)(hA:fY r=[p])(Hb:fY r'=[p])(hF:FrOk F r p->FrOk F r' p)(e:SameX p H H')(hp:∃o,H' p=some o)(h:RowOk (p::bQ P) (F.vis H') H' r'):Rep F (r'::P) H':=by
 have hn:=R.nd
 rw[jG hA]at hn
 have Fs:=(cE.mp hn).1
 have R1:=R.ok
 rw[jG hA]at R1
 have Co:=R.fr r aA p (aYf hA)
 have ev:Same (hid (p::bQ P) (F.vis H)) (hid (p::bQ P) (F.vis H')):=λb o hb=>by
  have Au:=bB.mp hb
  have Gs:b≠p:=λz=>Au.1 (by rw[z];exact aA)
  refine bB.mpr ⟨Au.1,?_⟩
  cases q:F.H0 b with
  |none=>exact(nM q).trans (nA ((nM q).symm.trans Au.2) λo h=>e.get Gs h)
  |some u=>exact(lZ q).trans ((lZ q).symm.trans Au.2)
 refine⟨by rw[jG Hb];exact hn,λx hx=>?_,λx hx b hb=>?_,λb u h1 h2=>?_,λb hb=>?_⟩
 ·rw [jG Hb]
  rcases aI.mp hx with rfl | hx
  ·exact h
  ·refine (R1 x (aB _ hx)).mono (.of ev) fun b hb => ?_
   have Gs:b≠p:=λz=>Fs (z ▸ fm_ hx hb)
   obtain⟨o,ho⟩:=R.own_in (fm_ (aB _ hx) hb)
   rw[ho,e.get Gs ho]
 ·rcases aI.mp hx with rfl | hx
  ·cases eq1 Hb hb;exact hF Co
  ·exact R.fr x (aB _ hx) b hb
 ·have hb:=R.kp b u h1 h2
  by_cases z:b=p
  ·subst z
   rcases Co.or with Co | Co
   ·exact absurd Co h2
   ·rw[Co]at h1;cases h1
  ·exact e.get z hb
 ·by_cases z:b=p
  ·subst z;exact hp
  ·obtain ⟨o,ho⟩:=R.lv b hb
   exact⟨o,e.get z ho⟩
theorem pS(R:Rep F (r::P) H)(hA:fY r=[p])(e:SameX p H H'):Same (ext (hid (bQ (r::P)) (F.vis H)) H H') (hid (bQ (r::P)) (F.vis H')):=λb o hb=>by
 have hpo:p∈bQ (r::P):=by rw[jG hA];exact aA
 cases q:H b with
 |none =>
  rw[nM q]at hb
  exact bB.mpr ⟨R.not_own q,(nM (R.fresh q)).trans hb⟩
 |some u =>
  rw[lZ q]at hb
  have Au:=bB.mp hb
  have Gs:b≠p:=λz=>Au.1 (by rw[z];exact hpo)
  refine bB.mpr ⟨Au.1,?_⟩
  cases q:F.H0 b with
  |none=>exact(nM q).trans (nA ((nM q).symm.trans Au.2) λo h=>e.get Gs h)
  |some u=>exact(lZ q).trans ((lZ q).symm.trans Au.2)
end
theorem hk_{sl:Sl}{x:Option V}{l:List Dx}{f:List Dx->Sl}{F:Fm}{P:List Rw}{H:Hp}(h:jY sl=some (l,f))(R:Rep F ((sl,x)::P) H):∃p ws,x=some (.ref p)/\H p=some (.lst ws)/\fY (sl,some (.ref p))=[p]/\All2 (IsX (hid (p::bQ P) (F.vis H))) l ws /\
  ∀l',fY (f l',some (.ref p))=[p]/\(FrOk F (sl,some (.ref p)) p->FrOk F (f l',some (.ref p)) p)/\∀{O:List Addr} {G H':Hp} {ws':List V},H' p=some (.lst ws')->All2 (IsX (hid O G)) l' ws'->RowOk O G H' (f l',some (.ref p)):=by
 match sl,h with
 | .bw l,h =>
  cases h
  obtain⟨p,ws,h1,h2,h3⟩:=R.atB
  exact⟨p,ws,h1,h2,rfl,h3,λl'=>⟨rfl,id,λa b=>⟨p,_,rfl,a,b⟩⟩⟩
 | .v (.ol l),h =>
  cases h
  obtain⟨p,ws,h1,h2,h3⟩:=R.atL
  exact⟨p,ws,h1,h2,rfl,h3,λl'=>⟨rfl,id,λa b=>⟨p,_,rfl,a,b⟩⟩⟩
 | .ba a l,h =>
  cases h
  obtain⟨h1,ws,h2,h3⟩:=R.ok _ aA
  subst h1
  exact⟨a,ws,rfl,h2,rfl,by rw[<-jG (a:=a) (r:=(.ba a l,some (.ref a))) rfl];exact h3,λl'=>⟨rfl,id,λa b=>⟨rfl,_,a,b⟩⟩⟩
theorem kU{X:Cx}{Ex:ExT}{j i:Nat}{x:Str}{ps:List Str}{g:GB}{e:Expr}{es:List Expr}{u:XA}{p pos:Pos}(C:Cal X.prog X.w X.K X.mg X.base j x ps (spB g))(hr:Room j X.A)(hv:PE X e (gL i))(ha:XAs X Ex es u)(hg:Gl X x:=by rfl)(B2:(x == ("__debug__" : Str))=false:=by decide)
  (he:starEach (e::es) X.env=(false,eval e X.env)::starEach es X.env:=by rfl) (A9:(backTo pos (starEach es X.env)).any (·.1)=false:=by rfl):XE X Ex (.Call (.Name x p) (e::es) [] pos) (dY g i u):=λF=>(yG C hr (kS hv (ha F) he) hg B2 he A9).weak λσ H Q=>by
 rintro⟨ρ,fr,Qx,E,⟨t0,t⟩,k⟩
 obtain⟨⟨l0,f0⟩,h0⟩:=cI.mp t0
 obtain⟨Hh,h1,h2⟩:=aP.mp h0
 obtain⟨v,hv,hi,R0⟩:=rW E h1
 obtain⟨p,_,rfl,_⟩:=hk_ h2 R0
 refine⟨.ref p,hv,ρ,fr,_,E,t,λvs ss H2 ρ2 hl E2 q2=>?_⟩
 obtain⟨R,hs⟩:=E2.many hl
 split at q2
 ·rename_i l f hb
  obtain⟨sl,h3,h4⟩:=aP.mp hb
  have E3:EOk F ρ2 σ fr H2:=⟨E2.len,R⟩
  obtain⟨v',Be,Di,R2⟩:=rW E3 h3
  rw[hv]at Be
  cases Be
  obtain⟨p',ws,ep,h5,h6,h7,h8⟩:=hk_ h4 R2
  cases ep
  rw[aS]
  have hO:(bQ (ρ2.zip σ++fr)).Perm (bQ ((sl,some (V.ref p))::((ρ2.zip σ).eraseIdx i++fr))):=((dd_ h3 hv).append_right fr).flatMap_right _
  have Lv:∀a∈bQ ((sl,some (V.ref p))::((ρ2.zip σ).eraseIdx i++fr)),a∈bQ (ρ2.zip σ++fr):=λa ha=>hO.mem_iff.mpr ha
  refine⟨p,ws,l,vs,hid (bQ ((sl,some (V.ref p))::((ρ2.zip σ).eraseIdx i++fr))) (F.vis H2),_,_,rfl,h5,R2.hv,?_,?_,hs.imp λ_ _ z=>z.to (lI Lv),q2,λd w l' ws' H' e hp F2 hd q=>?_⟩
  ·unfold hid
   rw[if_pos (by rw[jG h6];exact aA)]
  ·rw [jG h6]
   exact h7
  ·obtain ⟨k1,k2,k3⟩:=h8 l'
   have ev:=pS R2 h6 e
   have R3:=R2.called h6 k1 k2 e ⟨_,hp⟩ (k3 hp (F2.imp λ_ _ z=>z.to λb o hb=>by
    have Au:=bB.mp hb
    have:=ev _ _ Au.2
    rw[jG h6]at this
    exact this))
   refine k w (.tr d) H' _ (EOk.back (by rw[bI];exact E2.len) ?_) q
   have R4:=R3.add (d:=d) (v:=w) (hd.to λb o hb=>by
    have:=ev _ _ hb
    rw[jG h6]at this
    rw[jG k1]
    exact this)
   exact R4.perm (((dc_ E2.len Di hv).append_right fr).symm.cons _)
 ·exact q2.elim
end Lf
variable{X:L2.Cx}{Ex:Lf.ExT}
namespace L2
open PySem
theorem PI.weak{X:Cx}{tg e:Expr}{t u:TI}(h:PI X tg e t)(w:∀σ H Q,u σ H Q->t σ H Q):PI X tg e u:=λAa s σ H Q I q=>h Aa s σ H Q I (w σ H Q q)
theorem PCs.weak{X:Cx}{e:List Expr}{t u:TT}(h:PCs X e t)(w:∀σ H Q,u σ H Q->t σ H Q):PCs X e u:=λAa s σ H Q I q=>h Aa s σ H Q I (w σ H Q q)
end L2
namespace Lf
open PySem L2
abbrev XI:=En->(List Dx->En->Prop)->Prop
structure ItX(F:Fm)(J:It)(row:List Rw)(ds:List Dx):Prop where
 go:∀P H i d,Rep F (row++P) H->ds[i]? = some d->J.go i H
 stop:∀P H i,Rep F (row++P) H->ds.length<=i->J.stop i H
 yld:∀P H i d x H',Rep F (row++P) H->ds[i]? = some d->J.yld i H x H'->Rep F ((vT d,some x)::(row++P)) H'
def tXi(F:Fm)(t:XI):TI:=λσ H R=>∃ρ fr Qx,EOk F ρ σ fr H/\t ρ Qx/\∀J H' ρ' row ds,EOk F ρ' σ (row++fr) H'->ItX F J row ds->Qx ds ρ'->R J H'
def XIt(X:Cx)(Ex:ExT)(tg iter:Expr)(t:XI):Prop:=∀F,[OkF X Ex F]->PI X tg iter (tXi F t)
def xiL(t:XT):XI:=λρ Q=>t ρ λs ρ'=>match s.d with
 | .lst l=>Q l ρ'
 |_=>False
def xiT(t:XT):XI:=λρ Q=>t ρ λs ρ'=>match s.d with
 | .tup l=>Q l ρ'
 |_=>False
theorem aFh{F:Fm}{K:dA}{a:Addr}{l:List Dx}:ItX F (Itl K a) [(vT (.lst l),some (.ref a))] l where
 go:=λP H i d R hd=>by
  obtain⟨v,e,h⟩:=R.atT;cases e
  obtain⟨_,vs,e,h1,h2⟩:=h.lst_eq;cases e
  obtain⟨x,h3,_⟩:=h2.at hd
  exact⟨vs,x,SqL.of (R.hv _ _ h1),h3⟩
 stop:=λP H i R hi=>by
  obtain⟨v,e,h⟩:=R.atT;cases e
  obtain⟨_,vs,e,h1,h2⟩:=h.lst_eq;cases e
  exact⟨vs,SqL.of (R.hv _ _ h1),by rw[h2.len];exact hi⟩
 yld:=λP H i d x H' R hd q=>by
  obtain⟨rfl,q⟩:=q
  obtain⟨v,e,h⟩:=R.atT;cases e
  obtain⟨_,vs,e,h1,h2⟩:=h.lst_eq;cases e
  obtain⟨y,h3,h4⟩:=h2.at hd
  rw[q vs (SqL.of (R.hv _ _ h1))]at h3
  cases h3
  exact R.add h4
section
variable{tg l a b:Expr}{t:XT}{u:XA}{p pos:Pos}
theorem ey_(h:XE X Ex l t):XIt X Ex tg l (xiL t):=λF=>(aJm (h F)).weak λσ H R=>by
 rintro⟨ρ,fr,Qx,E,t,k⟩
 refine⟨ρ,fr,_,E,t,λv s H' ρ' E' q=>?_⟩
 split at q
 ·rename_i m hm
  have R1:=E'.front.frz
  rw[hm]at R1
  obtain⟨v',e,h⟩:=R1.atT;cases e
  obtain⟨c,vs,rfl,h1,h2⟩:=h.lst_eq
  exact⟨c,rfl,⟨vs,SqL.of (R1.hv _ _ h1)⟩,k _ H' ρ' [(vT (.lst m),some (.ref c))] m (EOk.back E'.len R1) aFh q⟩
 ·exact q.elim
def lK(lo:Int)(n:Nat):List Dx:=(List.range n).map λk:Nat=>.int (lo+(k:Int))
theorem c_{lo:Int}{n i:Nat}{d:Dx}(h:(lK lo n)[i]? = some d):i<n/\d=.int (lo+i):=by
 unfold lK at h
 rw[cA]at h
 obtain⟨k,h1,h2⟩:=bU.mp h
 obtain⟨h3,h4⟩:=bG.mp h1
 rw[List.getElem_range]at h4
 rw[cB]at h3
 subst h4
 exact⟨h3,h2.symm⟩
theorem w6{F:Fm}{lo:Int}{n:Nat}:ItX F (Itr lo n) [] (lK lo n)where
 go:=λP H i d R hd=>(c_ hd).1
 stop:=λP H i R hi=>by unfold lK at hi;rw[aD,cB]at hi;exact hi
 yld:=λP H i d x H' R hd q=>by
  obtain⟨rfl,rfl⟩:=q
  rw[(c_ hd).2]
  exact R.add (IsX.of_int _)
def aPq(u:XA):XI:=λρ Q=>u ρ λss ρ'=>match ss.map Sv.d with
 | [.int j]=>(-(2^62)<=j/\j<2^62)/\Q (lK 0 j.toNat) ρ'
 |_=>False
theorem df_(hm:X.mg "range" = none)(ha:XAs X Ex [a] u)(hg:Gl X "range":=by rfl)(hs:starEach [a] X.env=[(false,eval a X.env)]:=by rfl):XIt X Ex tg (.Call (.Name "range" p) [a] [] pos) (aPq u):=λF=>(t_ hg hm (ha F) hs).weak λσ H R=>by
 rintro⟨ρ,fr,Qx,E,t,k⟩
 refine⟨ρ,fr,_,E,t,λvs ss H2 ρ2 hl E2 q=>?_⟩
 obtain⟨R,hs⟩:=E2.many hl
 split at q
 ·rename_i j hj
  rw[hj]at hs
  obtain⟨x,rfl,hx⟩:=qJ hs
  cases hx.int_eq
  exact⟨j,rfl,q.1.1,q.1.2,k _ H2 ρ2 [] _ ⟨E2.len,R⟩ w6 q.2⟩
 ·exact q.elim
end
abbrev XG:=Dx->En->(En->Prop)->Prop
def GX(n:Nat)(g:TG)(gx:XG):Prop:=∀(F:Fm) (ρ:En) (σ:St) (fr:List Rw) (H:Hp) (d:Dx) (x:V) (Q:St->Hp->Prop) (Qx:En->Prop),EOk F ρ σ ((vT d,some x)::fr) H->gx d ρ Qx ->
 (∀σ' H' ρ',EOk F ρ' σ' fr H'->σ'.length=σ.length->(∀i,n<=i->σ'[i]? = σ[i]?)->Qx ρ'->Q σ' H')->g x σ H Q
def gxN(i:Nat):XG:=λd ρ Q=>Q (ρ.set i (vT d))
theorem if_{F:Fm}{ρ:En}{σ:St}{fr:List Rw}{H:Hp}{s:Sv}{x:V}{i:Nat}(E:EOk F ρ σ ((.v s,some x)::fr) H):EOk F (ρ.set i (.v s)) (σ.set i (some x)) fr H:=by
 by_cases hi:i<ρ.length
 ·refine ⟨by rw [bI,bI]; exact E.len,?_⟩
  have hz:=aDg (l:=ρ.zip σ) (i:=i) (aR (by rw[List.length_zip];have:=E.len;omega))
  have R:=E.front.perm ((hz.append_right fr).cons _)
  exact(R.perm (.swap _ _ _)).tail.perm ((mP E.len hi).append_right fr).symm
 ·rw [cM (by omega),cM (by have:=E.len; omega)]
  exact E.drop
theorem rP{n i:Nat}(h:i<n):GX n (jN i) (gxN i):=λF ρ σ fr H d x Q Qx E g k=>k _ H _ (if_ E) (bI) (λj hj=>dB (by omega)) g
@[reducible] def aTs:List Nat->TGs
 | []=>aMc
 |i::is=>j9 (jN i) (aTs is)
def gxs:List Nat->List Dx->En->(En->Prop)->Prop
 | [],[],ρ,Q=>Q ρ
 |i::is,d::ds,ρ,Q=>gxs is ds (ρ.set i (.v (.tr d))) Q
 |_,_,_,_=>False
def gxT(is:List Nat):XG:=λd ρ Q=>match d with
 | .tup ds=>gxs is ds ρ Q
 |_=>False
theorem aFn{n:Nat}{F:Fm}{fr:List Rw}{H:Hp}{Q:St->Hp->Prop}{Qx:En->Prop}:∀{is:List Nat} {ds:List Dx} {xs:List V} {ρ:En} {σ:St},(∀i∈is,i<n)->EOk F ρ σ fr H->All2 (IsX (hid (bQ (ρ.zip σ++fr)) (F.vis H))) ds xs->gxs is ds ρ Qx ->
  (∀σ' ρ',EOk F ρ' σ' fr H->σ'.length=σ.length->(∀i,n<=i->σ'[i]? = σ[i]?)->Qx ρ'->Q σ' H)->aTs is xs σ H Q
 | [],[],xs,ρ,σ,_,E,ha,g,k=>⟨ha,k σ ρ E rfl (λ_ _=>rfl) g⟩
 |i::is,d::ds,xs,ρ,σ,hi,E,⟨x,xr,e,h1,h2⟩,g,k=>by
  have E1:EOk F (ρ.set i (vT d)) (σ.set i (some x)) fr H:=if_ (EOk.back E.len (E.rep.add h1))
  refine⟨x,xr,e,aFn (λj hj=>hi j (aB _ hj)) E1 (h2.imp λa b z=>z.to (lI λc hc=>?_)) g λσ' ρ' E' hl hs q=>k σ' ρ' E' (hl.trans bI) (λj hj=>(hs j hj).trans (dB (by have:=hi i aA;omega))) q⟩
  by_cases Da:i<ρ.length
  ·have hp:=((mP (s:=.v (.tr d)) (v:=some x) E.len Da).append_right fr).flatMap_right fY
   have hz:=((aDg (l:=ρ.zip σ) (i:=i) (aR (by rw[List.length_zip];have:=E.len;omega))).append_right fr).flatMap_right fY
   refine hz.mem_iff.mpr ?_
   have:=hp.mem_iff.mp hc
   rw[aU,List.flatMap_cons]at this
   rw[aU,List.flatMap_cons]
   rcases bL.mp this with z | z
   ·cases z
   ·exact aJ _ z
  ·rw [cM (by omega),cM (by have:=E.len; omega)] at hc
   exact hc
 | [],_::_,_,_,_,_,_,_,g,_=>g.elim
 |_::_,[],_,_,_,_,_,_,g,_=>g.elim
theorem j5{Q:En->Prop}:∀{is:List Nat} {ds:List Dx} {ρ:En},gxs is ds ρ Q->ds.length=is.length
 | [],[],_,_=>rfl
 |i::is,d::ds,ρ,g=>congrArg (· + 1) (j5 (is:=is) (ds:=ds) (ρ:=ρ.set i (.v (.tr d))) g)
 | [],_::_,_,g=>g.elim
 |_::_,[],_,g=>g.elim
theorem jx_{K:dA}{n m:Nat}{is:List Nat}(hm:is.length=m)(h:∀i∈is,i<n):GX n (aMa K m (aTs is)) (gxT is):=λF ρ σ fr H d x Q Qx E g k=>by
 unfold gxT at g
 split at g
 ·obtain ⟨R,hx⟩:=E.one
  obtain⟨a,vs,rfl,h1,h2⟩:=hx.tup_eq
  exact⟨a,vs,rfl,SqT.of (R.hv _ _ h1),by rw[h2.len,j5 g,hm],aFn h E.drop h2 g λσ' ρ' E' hl hs q=>k σ' H ρ' E' hl hs q⟩
 ·exact g.elim
def aPt:XC:=λρ Q=>Q true ρ
def XCs(X:Cx)(Ex:ExT)(ifs:List Expr)(t:XC):Prop:=∀F,[OkF X Ex F]->PCs X ifs (tXc F t)
theorem dw_{X:Cx}{Ex:ExT}:XCs X Ex [] aPt:=λF=>(aJv (X:=X)).weak λσ H Q=>by
 rintro⟨ρ,fr,Qx,E,t,k⟩
 exact k true H ρ E t
theorem zX{c:Expr}{t:XC}(h:XTe X Ex c t):XCs X Ex [c] t:=λF=>aJu (h F)
def eB(n:Nat)(gx:XG)(tc:XC)(te:XT)(Q:List Dx->List Sl->Prop):List Dx->List Sl->List Dx->Prop
 | [],cs,Ah=>Q Ah cs
 |d::ds,cs,Ah=>gx d (List.replicate n .un++cs) λρ1=>tc ρ1 λb ρ2=>if b=true then te ρ2 λs ρ3=>eB n gx tc te Q ds (ρ3.drop n) (Ah++[s.d])else eB n gx tc te Q ds (ρ2.drop n) Ah
def cut:List Nat->En->En
 | [],ρ=>ρ
 |j::js,ρ=>cut js (ρ.set j .un)
def uR(outs:List Nat)(ρ:En):List Sl:=outs.map λj=>(ρ[j]?).getD .un
def back:List Nat->List Sl->En->En
 |j::js,c::cs,ρ=>back js cs (ρ.set j c)
 |_,_,ρ=>ρ
def vD(n:Nat)(outs:List Nat)(ti:XI)(gx:XG)(tc:XC)(te:XT):XT:=λρ Q=>ti ρ λds ρ1=>ds.length<=1000000/\eB n gx tc te (λAh cs=>Q (.ol Ah) (back outs cs ρ1)) ds (uR outs ρ1) []
theorem sw{α:Type}{A B C:List α}:(A++(B++C)).Perm (B++(A++C)):=by
 rw[<-aK,<-aK]
 exact eQ.append_right C
section
variable{F:Fm}{H:Hp}{σ:St}
abbrev jW(σ:St)(outs:List Nat):St:=outs.map λj=>(σ[j]?).join
theorem aGt{js:List Nat}{j:Nat}{s:Sl}{ρ:En}(h:j∉js):uR js (ρ.set j s)=uR js ρ:=by
 unfold uR
 refine List.map_congr_left λk hk=>?_
 rw[dB (λz=>h (by rw[z];exact hk))]
theorem nI:∀{js:List Nat} {ρ:En},(cut js ρ).length=ρ.length
 | [],_=>rfl
 |j::js,ρ=>(nI (js:=js)).trans bI
theorem n6:∀{js:List Nat} {j:Nat} {s:Sl} {ρ:En},j∉js->cut js (ρ.set j s)=(cut js ρ).set j s
 | [],_,_,_,_=>rfl
 |k::js,j,s,ρ,h=>by
  show cut js ((ρ.set j s).set k .un)=(cut js (ρ.set k .un)).set j s
  rw[List.set_comm _ _ (λz=>h (by rw[z];exact aA)),n6 λz=>h (aB _ z)]
theorem d8:∀{outs:List Nat} {ρ:En} {T:List Rw},outs.Nodup->ρ.length=σ.length->Rep F (ρ.zip σ++T) H->Rep F ((uR outs ρ).zip (jW σ outs)++((cut outs ρ).zip σ++T)) H
 | [],_,_,_,_,R=>R
 |j::js,ρ,T,hn,hl,R=>by
  have C5:=cE.mp hn
  have step:Rep F ((ρ.set j .un).zip σ++(((ρ[j]?).getD .un,(σ[j]?).join)::T)) H:=by
   by_cases hj:j<ρ.length
   ·have h1:ρ[j]? = some ρ[j]:=aR hj
    have h2:σ[j]? = some (σ[j]'(by omega)):=aR (by omega)
    have R1:=R.perm ((dd_ h1 h2).append_right T)
    have R2:=R1.addU (x:=σ[j]'(by omega))
    rw[h1,h2]
    refine R2.perm ?_
    refine(List.Perm.swap _ _ _).trans ?_
    exact(((dc_ hl hj h2).append_right T).symm.cons _).trans tY.symm
   ·rw [cM (by omega),gD (by omega),gD (by omega)]
    exact(R.addU (x:=none)).perm tY.symm
  have:=d8 (outs:=js) C5.2 (by rw[bI];exact hl) step
  rw[aGt C5.1]at this
  show Rep F ((((ρ[j]?).getD .un,(σ[j]?).join)::(uR js ρ).zip (jW σ js))++((cut js (ρ.set j .un)).zip σ++T)) H
  refine this.perm ?_
  refine List.Perm.trans ?_ (List.Perm.refl _)
  rw[<-aK]
  exact tY.trans (by rw[aK];exact .refl _)
theorem aDf:∀{outs:List Nat} {cs:List Sl} {ρ:En} {T:List Rw},outs.Nodup->ρ.length=σ.length->cs.length=outs.length->Rep F (cs.zip (jW σ outs)++((cut outs ρ).zip σ++T)) H->Rep F ((back outs cs ρ).zip σ++T) H
 | [],[],_,_,_,_,_,R=>R
 | [],_::_,_,_,_,_,h,_=>by simp at h
 |_::_,[],_,_,_,_,h,_=>by simp at h
 |j::js,c::cs,ρ,T,hn,hl,hc,R=>by
  have C5:=cE.mp hn
  refine aDf (outs:=js) (cs:=cs) (ρ:=ρ.set j c) C5.2 (by rw[bI];exact hl) (by simpa using hc) ?_
  have R1:Rep F ((c,(σ[j]?).join)::(cs.zip (jW σ js)++((cut js (ρ.set j .un)).zip σ++T))) H:=R
  rw[n6 C5.1]at R1 ⊢
  have F9:(cut js ρ).length=σ.length:=nI.trans hl
  by_cases hj:j<ρ.length
  ·have Ms:j < (cut js ρ).length:=by rw [nI]; exact hj
   have h2:σ[j]? = some (σ[j]'(by omega)):=aR (by omega)
   rw[h2]at R1
   have p1:=((dc_ (s:=.un) F9 Ms h2).append_right T)
   have p2:=((dc_ (s:=c) F9 Ms h2).append_right T)
   have R2:=R1.perm ((List.Perm.append_left _ p1).cons _)
   have R3:=R2.perm ((tY.cons _).trans (.swap _ _ _))
   exact R3.tail.perm (tY.symm.trans (List.Perm.append_left _ p2.symm))
  ·have hz:(cut js ρ).length≤j:=by rw [nI]; omega
   rw[cM hz]at R1 ⊢
   exact R1.tail
theorem Rep.drops:∀{A P:List Rw},Rep F (A++P) H->Rep F P H
 | [],_,R=>R
 |_::_,_,R=>Rep.drops R.tail
theorem Rep.addUs{P:List Rw}(R:Rep F P H):∀n,Rep F (List.replicate n (.un,none)++P) H
 | 0=>R
 |n+1=>(Rep.addUs R n).addU
def mL(ds:List Dx)(xs:List V):List Rw:=(ds.zip xs).map λp=>(vT p.1,some p.2)
theorem Rep.accs:∀{ds:List Dx} {xs:List V} {P:List Rw},ds.length=xs.length->Rep F (mL ds xs++P) H->Rep F P H/\All2 (IsX (hid (bQ P) (F.vis H))) ds xs
 | [],[],P,_,R=>⟨R,rfl⟩
 | [],_::_,_,h,_=>by simp at h
 |_::_,[],_,h,_=>by simp at h
 |d::ds,x::xs,P,h,R=>by
  obtain⟨v,e,hx⟩:=Rep.atT (show Rep F ((vT d,some x)::(mL ds xs++P)) H from R)
  cases e
  obtain⟨R1,h1⟩:=Rep.accs (ds:=ds) (xs:=xs) (by simpa using h) (Rep.tail (show Rep F ((vT d,some x)::(mL ds xs++P)) H from R))
  refine⟨R1,x,xs,rfl,hx.to (lI λc hc=>?_),h1⟩
  unfold bQ
  rw[gS]
  exact aJ _ hc
end
section
variable{dsc scope:Scope}{tgs N':List Str}{outs:List Nat}{tg iter elt:Expr}{ifs:List Expr}{pos:Pos}{ti:XI}{g:TG}{gx:XG}{tc:XC}{te:XT}
theorem aAd{F:Fm}{n:Nat}(Dw:GX n g gx)(Ba:outs.Nodup){tcT:TT}{teT:TE}(htc:∀σ H Q,tXc F tc σ H Q->tcT σ H Q)(hte:∀σ H Q,tX F te σ H Q->teT σ H Q){σ:St}{H':Hp}{Q:VK}{Qx:Sv->En->Prop}{ρ':En}{fr row:List Rw}{ds:List Dx}{J:It}
  (k:∀v s H' ρ',EOk F ρ' σ ((.v s,some v)::fr) H'->Qx s ρ'->Q v H') (E':EOk F ρ' σ (row++fr) H') (hJ:ItX F J row ds) (q:ds.length<=1000000/\eB n gx tc te (λAh cs=>Qx (.ol Ah) (back outs cs ρ')) ds (uR outs ρ') []) :
  ∃W:Nat->Nat->List V->Hp->Prop,(∃m,W 0 m [] H')/\∀i m Ah H,W i m Ah H ->
  (J.stop i H/\Ah.length<=sizeLine/\∀l,H l=none->Q (.ref l) (upd H l (.lst Ah))) \/
  (J.go i H∧Ah.length < sizeLine∧∃ N:List V→Hp→Prop,(∀ acc' H',N acc' H'→∃ m',m' < m∧W (i + 1) m' acc' H')∧∀ x H',J.yld i H x H'→g x (jL n outs σ) H' fun σ2 H2=>tcT σ2 H2 fun b H3 =>
   if b=true then teT σ2 H3 λy H4=>N (Ah++[y]) H4 else N Ah H3):=by
 obtain⟨hd,q⟩:=q
 have zl:=fW
 refine⟨λi m Ah H=>m=ds.length-i/\i<=ds.length/\∃cs accD,cs.length=outs.length/\accD.length=Ah.length/\Ah.length<=i/\Rep F (cs.zip (jW σ outs)++(mL accD Ah++(row++((cut outs ρ').zip σ++fr)))) H /\
  eB n gx tc te (λAh cs=>Qx (.ol Ah) (back outs cs ρ')) (ds.drop i) cs accD,⟨ds.length,by simp,bP _,uR outs ρ',[],by simp[uR],rfl,aV _,?_,by simpa using q⟩,?_⟩
 ·have R:=d8 (outs:=outs) Ba E'.len E'.rep
  refine R.perm (List.Perm.append_left _ ?_)
  exact sw
 rintro i m Ah H3 ⟨rfl,hi,cs,accD,F9,G7,hai,R,hq⟩
 have Dh:Rep F (row++(cs.zip (jW σ outs)++(mL accD Ah++((cut outs ρ').zip σ++fr)))) H3:=by
  exact R.perm ((List.Perm.append_left _ sw).trans sw)
 by_cases Da:i<ds.length
 ·right
  have Ja:ds[i]? = some ds[i]:=aR Da
  rw[eY Da]at hq
  refine⟨hJ.go _ _ i _ Dh Ja,by omega,λacc' H4=>∃m',m'<ds.length-i/\(m'=ds.length-(i+1)/\i+1<=ds.length/\∃cs accD,cs.length=outs.length/\accD.length=acc'.length/\acc'.length<=i+1/\Rep F (cs.zip (jW σ outs)++(mL accD acc'++(row++((cut outs ρ').zip σ++fr)))) H4 /\
   eB n gx tc te (λAh cs=>Qx (.ol Ah) (back outs cs ρ')) (ds.drop (i+1)) cs accD),λacc' H4 h=>h,λx H4 hy=>?_⟩
  have R4:=hJ.yld _ _ i _ x H4 Dh Ja hy
  have Kf:∀(cs:List Sl),cs.length=outs.length->(List.replicate n Sl.un++cs).zip (jL n outs σ)=List.replicate n (Sl.un,none)++cs.zip (jW σ outs):=λcs F7=>by
   unfold jL
   rw[List.zip_append (by rw[bC,bC]),List.zip_replicate]
   simp
  have Ei:EOk F (List.replicate n .un++cs) (jL n outs σ) ((vT ds[i],some x)::(mL accD Ah++(row++((cut outs ρ').zip σ++fr)))) H4:=by
   refine⟨by rw[oX,aC,bC,F9],?_⟩
   rw[Kf cs F9,aK]
   refine Rep.addUs (R4.perm ?_) n
   exact((sw.trans (List.Perm.append_left _ sw)).cons _).trans tY.symm
  have fin:∀{ρ3:En} {σ2:St} {H5:Hp} {accD':List Dx} {acc':List V},σ2.length=(jL n outs σ).length->(∀j,n<=j->σ2[j]? = (jL n outs σ)[j]?)->EOk F ρ3 σ2 (mL accD' acc'++(row++((cut outs ρ').zip σ++fr))) H5->accD'.length=acc'.length->acc'.length<=i+1 ->
    eB n gx tc te (λAh cs=>Qx (.ol Ah) (back outs cs ρ')) (ds.drop (i+1)) (ρ3.drop n) accD' ->
    ∃m',m'<ds.length-i/\(m'=ds.length-(i+1)/\i+1<=ds.length/\∃cs accD,cs.length=outs.length/\accD.length=acc'.length/\acc'.length<=i+1/\Rep F (cs.zip (jW σ outs)++(mL accD acc'++(row++((cut outs ρ').zip σ++fr)))) H5 /\
     eB n gx tc te (λAh cs=>Qx (.ol Ah) (back outs cs ρ')) (ds.drop (i+1)) cs accD):=λ{ρ3 σ2 H5 accD' acc'} Ch D3 E3 h1 h2 h3=>by
   have Dv:ρ3.length=n+outs.length:=by rw[E3.len,Ch,oX]
   refine⟨ds.length-(i+1),by omega,rfl,Da,ρ3.drop n,accD',by rw[aY,Dv];omega,h1,h2,?_,h3⟩
   have hv:σ2.drop n=jW σ outs:=by
    apply List.ext_getElem?
    intro j
    rw[List.getElem?_drop,D3 _ (Nat.le_add_right n j)]
    unfold jL
    rw[dH (by rw[bC];omega),bC,Nat.add_sub_cancel_left]
   have hz:ρ3.zip σ2=(ρ3.take n).zip (σ2.take n)++(ρ3.drop n).zip (σ2.drop n):=by
    rw[<-List.zip_append (by rw[eG,eG,E3.len]),List.take_append_drop,List.take_append_drop]
   have R5:=E3.rep
   rw[hz,hv,aK]at R5
   exact Rep.drops R5
  refine Dw F _ _ _ H4 _ x _ _ Ei hq λσ2 H5 ρ1 E1 Ch D3 q1=>htc _ _ _ ⟨ρ1,_,_,E1,q1,λb H6 ρ2 E2 q2=>?_⟩
  cases b with
  |false=>exact fin Ch D3 E2 G7 (by omega) q2
  |true =>
   refine hte _ _ _ ⟨ρ2,_,_,E2,q2,λy s H7 ρ3 E3 q3=>?_⟩
   refine fin (accD':=accD++[s.d]) (acc':=Ah++[y]) Ch D3 ⟨E3.len,?_⟩ (by rw[aC,aC,G7];rfl) (by rw[aC];show Ah.length+1<=_;omega) q3
   have R7:=(EOk.front E3).frz
   have he:mL (accD++[s.d]) (Ah++[y])=mL accD Ah++[(vT s.d,some y)]:=by
    unfold mL
    rw[List.zip_append G7,bM]
    rfl
   rw[he,aK]
   exact R7.perm (tY.symm.trans (List.Perm.append_left _ tY.symm))
 ·left
  have K9:i=ds.length:=by omega
  subst K9
  rw[List.drop_length]at hq
  refine⟨hJ.stop _ _ _ Dh (aV _),by omega,λl hl=>?_⟩
  have R1:=R.perm (sw.trans (List.Perm.append_left _ sw))
  obtain⟨R2,ha⟩:=R1.accs G7
  have R3:Rep F (row++((.v (.ol accD),some (.ref l))::(cs.zip (jW σ outs)++((cut outs ρ').zip σ++fr)))) (upd H3 l (.lst Ah)):=(R2.newL hl ha).perm tY.symm
  have R4:Rep F (cs.zip (jW σ outs)++((cut outs ρ').zip σ++((.v (.ol accD),some (.ref l))::fr))) (upd H3 l (.lst Ah)):=R3.drops.perm (tY.symm.trans (List.Perm.append_left _ tY.symm))
  have Lp:∀{js:List Nat} {cs:List Sl} {ρ:En},(back js cs ρ).length=ρ.length:=by
   intro js
   induction js with
   |nil=>intro cs ρ;cases cs<;>rfl
   |cons j js ih=>intro cs ρ;cases cs with
    |nil=>rfl
    |cons c cs=>exact(ih (cs:=cs) (ρ:=ρ.set j c)).trans bI
  exact k _ (.ol accD) _ (back outs cs ρ') ⟨Lp.trans E'.len,aDf Ba E'.len F9 R4⟩ hq
theorem b6{F:Fm}{n:Nat}(Dw:GX n g gx)(Ba:outs.Nodup):∀σ H Q,tX F (vD n outs ti gx tc te) σ H Q->b7 n outs (tXi F ti) g (tXc F tc) (tX F te) σ H Q:=by
 rintro σ H Q ⟨ρ,fr,Qx,E,t,k⟩
 exact⟨ρ,fr,_,E,t,λJ H' ρ' row ds E' hJ q=>aAd Dw Ba (λ_ _ _ z=>z) (λ_ _ _ z=>z) k E' hJ q⟩
end
end Lf
namespace L2
open PySem
theorem PS.weak{X:Cx}{e:Stmt}{t u:TS}(h:PS X e t)(w:∀D σ H,u D σ H->t D σ H):PS X e u:=λAa s σ H D I q=>h Aa s σ H D I (w D σ H q)
theorem PSs.weak{X:Cx}{e:List Stmt}{t u:TS}(h:PSs X e t)(w:∀D σ H,u D σ H->t D σ H):PSs X e u:=λAa s σ H D I q=>h Aa s σ H D I (w D σ H q)
end L2
namespace Lf
open PySem L2
theorem dl_{dsc scope:Scope}{tgs N' N:List Str}{outs:List Nat}{tg iter elt:Expr}{ifs:List Expr}{pos:Pos}{ti:XI}{g:TG}{gx:XG}{tc:XC}{te:XT}(S:CompScope dsc scope N tgs outs N')(hi:XIt X Ex tg iter ti)(hg:∀cl C s H ex,PG (dQ X N' scope cl C s H ex) tg g)(Dw:GX tgs.length g gx)(G5:Tgt tgs.length g)
  (F7:∀cl C s H ex,XCs (dQ X N' scope cl C s H ex) fZ ifs tc) (he:∀cl C s H ex,XE (dQ X N' scope cl C s H ex) fZ elt te) (Ba:outs.Nodup:=by decide) (Jj:X.N=N:=by rfl) (Ez:X.env.scope=dsc:=by rfl) (hc:X.calm=true:=by rfl) (hs:∀x,foldedSetIterable iter X.env x=pure x:=by intro _;rfl) :
  XE X Ex (.ListComp elt [⟨tg,iter,ifs,0⟩] scope pos) (vD tgs.length outs ti gx tc te):=λF =>
 (aJq S (hi F) hg G5 (λa b c d e=>F7 a b c d e F) (λa b c d e=>he a b c d e F) Jj Ez hc hs).weak (b6 Dw Ba)
structure XD where
 nx:En->Prop
 rt:Sv->En->Prop
 bk:En->Prop
 ct:En->Prop
abbrev XS:=En->XD->Prop
structure DOk(F:Fm)(n:Nat)(fr:List Rw)(D:Ends)(d:XD):Prop where
 nx:∀σ' H' ρ',σ'.length=n->EOk F ρ' σ' fr H'->d.nx ρ'->D.nx σ' H'
 rt:∀v s σ' H' ρ',σ'.length=n->EOk F ρ' σ' ((.v s,some v)::fr) H'->d.rt s ρ'->D.rt v H'
 bk:∀σ' H' ρ',σ'.length=n->EOk F ρ' σ' fr H'->d.bk ρ'->D.bk σ' H'
 ct:∀σ' H' ρ',σ'.length=n->EOk F ρ' σ' fr H'->d.ct ρ'->D.ct σ' H'
def tXS(F:Fm)(G:XS):TS:=λD σ H=>∃ρ fr d,EOk F ρ σ fr H/\G ρ d/\DOk F σ.length fr D d
def XSt(X:Cx)(Ex:ExT)(st:Stmt)(G:XS):Prop:=∀F,[OkF X Ex F]->PS X st (tXS F G)
def XSs(X:Cx)(Ex:ExT)(st:List Stmt)(G:XS):Prop:=∀F,[OkF X Ex F]->PSs X st (tXS F G)
def eR:XS:=λρ D=>D.nx ρ
def cL(G K:XS):XS:=λρ D=>G ρ { D with nx:=λρ'=>K ρ' D }
def gK(i:Nat)(t:XT):XS:=λρ D=>t ρ λs ρ'=>D.nx (ρ'.set i (.v s))
def aWg(t:XT)(gx:XG):XS:=λρ D=>t ρ λs ρ'=>gx s.d ρ' D.nx
def bBx(t:XT):XS:=λρ D=>t ρ λ_ ρ'=>D.nx ρ'
def hX(t:XT):XS:=λρ D=>t ρ λs ρ'=>D.rt s ρ'
def xIf(c:XC)(G K:XS):XS:=λρ D=>c ρ λb ρ'=>if b=true then G ρ' D else K ρ' D
def iR(gx:XG)(G:XS)(D:XD):List Dx->En->Prop
 | [],ρ=>D.nx ρ
 |d::ds,ρ=>gx d ρ λρ1=>G ρ1 { D with nx:=iR gx G D ds,ct:=iR gx G D ds,bk:=D.nx }
def aIe(ti:XI)(gx:XG)(G:XS):XS:=λρ D=>ti ρ λds ρ'=>iR gx G D ds ρ'
section
variable{st:Stmt}{rest:List Stmt}{G K:XS}{e c tg iter:Expr}{t:XT}{tc:XC}{pos:Pos}{i:Nat}
theorem eJ:XSs X Ex [] eR:=λF=>(aJe (X:=X)).weak λD σ H=>by
 rintro⟨ρ,fr,d,E,q,k⟩
 exact k.nx σ H ρ rfl E q
theorem cO(h:XSt X Ex st G)(h':XSs X Ex rest K):XSs X Ex (st::rest) (cL G K):=λF=>(aDl (h F) (h' F)).weak λD σ H=>by
 rintro⟨ρ,fr,d,E,q,k⟩
 exact⟨ρ,fr,_,E,q,⟨λσ' H' ρ' hl E' q'=>⟨ρ',fr,d,E',q',by rw[hl];exact k⟩,k.rt,k.bk,k.ct⟩⟩
theorem cP(h:XSt X Ex st G):XSs X Ex [st] G:=λF=>d_ (h F)
theorem al_(h:∀F,[OkF X Ex F]->PS X st (vJ (tX F t) (jN i))):XSt X Ex st (gK i t):=λF=>(h F).weak λD σ H=>by
 rintro⟨ρ,fr,d,E,q,k⟩
 exact⟨ρ,fr,_,E,q,λv s H' ρ' E' q'=>k.nx _ H' _ bI (if_ E') q'⟩
theorem mQ{n:Nat}{g:TG}{gx:XG}(Dw:GX n g gx)(h:∀F,[OkF X Ex F]->PS X st (vJ (tX F t) g)):XSt X Ex st (aWg t gx):=λF=>(h F).weak λD σ H=>by
 rintro⟨ρ,fr,d,E,q,k⟩
 exact⟨ρ,fr,_,E,q,λv s H' ρ' E' q'=>Dw F ρ' σ fr H' s.d v _ _ (EOk.back E'.len E'.front.frz) q' λσ' H2 ρ2 E2 hl _ q2=>k.nx σ' H2 ρ2 hl E2 q2⟩
theorem ht_(he:XE X Ex e t)(hs:swapsWith e none pos.line X.env=pure false:=by rfl):XSt X Ex (.Expr e pos) (bBx t):=λF=>(fz_ (he F) hs).weak λD σ H=>by
 rintro⟨ρ,fr,d,E,q,k⟩
 exact⟨ρ,fr,_,E,q,λv s H' ρ' E' q'=>k.nx σ H' ρ' rfl E'.drop q'⟩
theorem cZ(he:XE X Ex e t):XSt X Ex (.Return (some e) pos) (hX t):=λF=>(aQz (he F)).weak λD σ H=>by
 rintro⟨ρ,fr,d,E,q,k⟩
 exact⟨ρ,fr,_,E,q,λv s H' ρ' E' q'=>k.rt v s σ H' ρ' rfl E' q'⟩
theorem eC{a b:List Stmt}(hc:XTe X Ex c tc)(ha:XSs X Ex a G)(hb:XSs X Ex b K):XSt X Ex (.If c a b pos) (xIf tc G K):=λF=>(aXo (hc F) (ha F) (hb F)).weak λD σ H=>by
 rintro⟨ρ,fr,d,E,q,k⟩
 refine⟨ρ,fr,_,E,q,λb H' ρ' E' q'=>?_⟩
 cases b with
 |true=>exact⟨ρ',fr,d,E',q',k⟩
 |false=>exact⟨ρ',fr,d,E',q',k⟩
def xNo:XS:=λ_ _=>False
theorem aFx{F:Fm}{n:Nat}{g:TG}{gx:XG}(Dw:GX n g gx){tb:TS}(htb:∀D σ H,tXS F G D σ H->tb D σ H){D:Ends}{d:XD}{σ:St}{H':Hp}{ρ':En}{fr row:List Rw}{ds:List Dx}{J:It}(k:DOk F σ.length fr D d)(E':EOk F ρ' σ (row++fr) H')(hJ:ItX F J row ds)(q':iR gx G d ds ρ') :
  ∃W:Nat->Nat->St->Hp->Prop,(∃m,W 0 m σ H')/\∀i m σ H,W i m σ H ->
  (J.stop i H/\D.nx σ H)\/(J.go i H/\∃N:St->Hp->Prop,(∀σ' H',N σ' H'->∃m',m'<m/\W (i+1) m' σ' H')/\∀x H',J.yld i H x H'->g x σ H' λσ2 H2=>tb { D with nx:=N,ct:=N,bk:=D.nx } σ2 H2):=by
 refine⟨λi m σ1 H1=>m=ds.length-i/\i<=ds.length/\σ1.length=σ.length/\∃ρ1,EOk F ρ1 σ1 (row++fr) H1/\iR gx G d (ds.drop i) ρ1,⟨ds.length,by simp,bP _,rfl,ρ',E',by simpa using q'⟩,?_⟩
 rintro i m σ1 H1 ⟨rfl,hi,hl,ρ1,E1,q1⟩
 have Dh:Rep F (row++(ρ1.zip σ1++fr)) H1:=E1.rep.perm sw
 by_cases Da:i<ds.length
 ·right
  have Ja:ds[i]? = some ds[i]:=aR Da
  rw[eY Da]at q1
  refine⟨hJ.go _ _ i _ Dh Ja,λσ2 H2=>∃m',m'<ds.length-i/\(m'=ds.length-(i+1)/\i+1<=ds.length/\σ2.length=σ.length/\∃ρ1,EOk F ρ1 σ2 (row++fr) H2/\iR gx G d (ds.drop (i+1)) ρ1),λ_ _ h=>h,λx H2 hy=>?_⟩
  have R2:=hJ.yld _ _ i _ x H2 Dh Ja hy
  have E2:EOk F ρ1 σ1 ((vT ds[i],some x)::(row++fr)) H2:=⟨E1.len,R2.perm ((sw.cons _).trans tY.symm)⟩
  refine Dw F ρ1 σ1 _ H2 _ x _ _ E2 q1 λσ2 H3 ρ2 E3 Ch _ q2=>?_
  have nxt:∀σ' H' ρ',σ'.length=σ2.length->EOk F ρ' σ' (row++fr) H'->iR gx G d (ds.drop (i+1)) ρ'->∃m',m'<ds.length-i/\(m'=ds.length-(i+1)/\i+1<=ds.length/\σ'.length=σ.length/\∃ρ1,EOk F ρ1 σ' (row++fr) H'/\iR gx G d (ds.drop (i+1)) ρ1):=λσ' H' ρ' h1 h2 h3 =>
   ⟨ds.length-(i+1),by omega,rfl,Da,by rw[h1,Ch,hl],ρ',h2,h3⟩
  have z9:∀{σ':St} {H':Hp} {ρ':En} {M7:List Rw},EOk F ρ' σ' (row++M7) H'->EOk F ρ' σ' M7 H':=λh=>⟨h.len,Rep.drops (A:=row) (h.rep.perm sw)⟩
  refine htb _ _ _ ⟨ρ2,row++fr,_,E3,q2,⟨nxt,λv s σ' H' ρ' h1 h2 h3=>k.rt v s σ' H' ρ' (by rw[h1,Ch,hl]) ?_ h3,λσ' H' ρ' h1 h2 h3=>k.nx σ' H' ρ' (by rw[h1,Ch,hl]) (z9 h2) h3,nxt⟩⟩
  exact z9 ⟨h2.len,h2.rep.perm (List.Perm.append_left _ tY.symm)⟩
 ·left
  have K9:i=ds.length:=by omega
  subst K9
  rw[List.drop_length]at q1
  exact⟨hJ.stop _ _ _ Dh (aV _),k.nx σ1 H1 ρ1 hl ⟨E1.len,Rep.drops (A:=row) Dh⟩ q1⟩
theorem aQg{F:Fm}{ti:XI}{n:Nat}{g:TG}{gx:XG}(Dw:GX n g gx):∀D σ H,tXS F (aIe ti gx G) D σ H->aWu (tXi F ti) g (tXS F G) D σ H:=by
 rintro D σ H ⟨ρ,fr,d,E,q,k⟩
 exact⟨ρ,fr,_,E,q,λJ H' ρ' row ds E' hJ q'=>aFx Dw (λ_ _ _ z=>z) k E' hJ q'⟩
theorem hc_{body:List Stmt}{ti:XI}{n:Nat}{g:TG}{gx:XG}(hp:PassesOwn (model X.prog X.w) X.A X.env X.xe)(hc:X.calm=true)(hi:XIt X Ex tg iter ti)(hg:PG X tg g)(Dw:GX n g gx)(hb:XSs X Ex body G)(hs:∀x,foldedSetIterable iter X.env x=pure x:=by intro _;rfl):XSt X Ex (.For tg iter body [] pos) (aIe ti gx G):=λF =>
 (aRb hp hc (hi F) hg (hb F) hs).weak (aQg Dw)
theorem kD(h:∀F,[OkF X Ex F]->PS X st (tXS F G)):XSt X Ex st G:=h
end
section
variable{F:Fm}{ρ:En}{σ:St}{fr:List Rw}{H:Hp}{i:Nat}
theorem fn_{l:List Dx}{f:List Dx->Sl}(E:EOk F ρ σ fr H)(h:(ρ[i]?).bind jY=some (l,f)):∃p ws,σ[i]? = some (some (.ref p))/\H p=some (.lst ws)/\All2 (IsX (hid (bQ (ρ.zip σ++fr)) (F.vis H))) l ws /\
  ∀l' ws',All2 (IsX (hid (bQ (ρ.zip σ++fr)) (F.vis H))) l' ws'->EOk F (ρ.set i (f l')) σ fr (upd H p (.lst ws')):=by
 obtain⟨sl,h3,h4⟩:=aP.mp h
 obtain⟨v,hv,hi,R⟩:=rW E h3
 obtain⟨p,ws,rfl,h5,h6,h7,h8⟩:=hk_ h4 R
 have hO:(bQ (ρ.zip σ++fr)).Perm (bQ ((sl,some (V.ref p))::((ρ.zip σ).eraseIdx i++fr))):=((dd_ h3 hv).append_right fr).flatMap_right _
 rw[jG h6]at hO
 refine⟨p,ws,hv,h5,h7.imp λ_ _ z=>z.to (lI λa ha=>hO.mem_iff.mp ha),λl' ws' F2=>?_⟩
 obtain⟨k1,k2,k3⟩:=h8 l'
 exact uK E.len hi hv (R.put h6 k1 k2 (k3 xD (F2.imp λ_ _ z=>(z.to (lI λa ha=>hO.mem_iff.mpr ha)).to nG)))
theorem pU{l:List (Key×Dx)}(E:EOk F ρ σ fr H)(h:ρ[i]? = some (.v (.od l))):∃p ws,σ[i]? = some (some (.ref p))/\H p=some (.dK ws)/\All2 (KvX (hid (bQ (ρ.zip σ++fr)) (F.vis H))) l ws /\
  ∀l' ws',All2 (KvX (hid (bQ (ρ.zip σ++fr)) (F.vis H))) l' ws'->EOk F (ρ.set i (.v (.od l'))) σ fr (upd H p (.dK ws')):=by
 obtain⟨v,hv,hi,R⟩:=rW E h
 obtain⟨p,ws,rfl,h5,h7⟩:=R.atD
 have hO:(bQ (ρ.zip σ++fr)).Perm (bQ ((.v (.od l),some (V.ref p))::((ρ.zip σ).eraseIdx i++fr))):=((dd_ h hv).append_right fr).flatMap_right _
 rw[jG (a:=p) rfl]at hO
 refine⟨p,ws,hv,h5,h7.imp λ_ _ z=>z.to (lI λa ha=>hO.mem_iff.mp ha),λl' ws' F2=>?_⟩
 exact uK E.len hi hv (R.putD (F2.imp λ_ _ z=>z.to (lI λa ha=>hO.mem_iff.mpr ha)))
theorem i4{l:List Dx}{f:List Dx->Sl}(E:EOk F ρ σ fr H)(h:(ρ[i]?).bind jY=some (l,f)):∃p ws,σ[i]? = some (some (.ref p))/\H p=some (.lst ws):=by
 obtain⟨p,ws,h1,h2,_⟩:=fn_ E h
 exact⟨p,ws,h1,h2⟩
end
def bBz(i:Nat)(t:XT):XS:=λρ D=>((ρ[i]?).bind jY).isSome=true/\t ρ λs ρ'=>match (ρ'[i]?).bind jY with
 |some (l,f)=>l.length<1000000/\D.nx (ρ'.set i (f (l++[s.d])))
 |none=>False
def bEi(i:Nat)(t:XT):XS:=λρ D=>((ρ[i]?).bind jY).isSome=true/\t ρ λs ρ'=>match (ρ'[i]?).bind jY,s.d with
 |some (l,f),.lst m=>l.length+m.length<=1000000/\D.nx (ρ'.set i (f (l++m)))
 |_,_=>False
def aVv(i:Nat):XT:=λρ Q=>match (ρ[i]?).bind jY with
 |some (l,f)=>(match l.getLast? with | some d=>Q (.tr d) (ρ.set i (f l.dropLast)) | none=>False)
 |none=>False
def aVt(i:Nat)(ti te:XT):XS:=λρ D=>te ρ λs ρ1=>((ρ1[i]?).bind jY).isSome=true/\ti ρ1 λk ρ2=>match (ρ2[i]?).bind jY,k.d with
 |some (l,f),.int j=>(match ixN l.length j with | some n=>D.nx (ρ2.set i (f (l.set n s.d))) | none=>False)
 |_,_=>False
def aDe(l:List (Key×Dx))(k:Key)(d:Dx):List (Key×Dx):=if(l.any λkv=>decide (kv.1=k))=true then l.map (λkv=>if kv.1=k then(kv.1,d)else kv)else l++[(k,d)]
def aWf(i:Nat)(tk tv:XT):XS:=λρ D=>tv ρ λs ρ1=>(∃l,ρ1[i]? = some (.v (.od l)))/\tk ρ1 λk ρ2=>match ρ2[i]?,aLd k.d with
 |some (.v (.od l)),some key=>l.length<1000000/\D.nx (ρ2.set i (.v (.od (aDe l key s.d))))
 |_,_=>False
theorem aDc{G:Hp}{l:List (Key×Dx)}{ws:List (Key×V)}{k:Key}{d:Dx}{v:V}(h:All2 (KvX G) l ws)(hd:IsX G d v):All2 (KvX G) (aDe l k d) (lL ws k v):=by
 have any:∀{l:List (Key×Dx)} {ws:List (Key×V)},All2 (KvX G) l ws->(l.any λkv=>decide (kv.1=k))=(ws.any λkv=>decide (kv.1=k)):=by
  intro l
  induction l with
  |nil=>intro ws h;rw[show ws=[]from h];rfl
  |cons p l ih =>
   intro ws h
   obtain⟨w,wr,rfl,⟨h1,_⟩,h3⟩:=h
   rw[dE,dE,ih h3,h1]
 have mp:∀{l:List (Key×Dx)} {ws:List (Key×V)},All2 (KvX G) l ws->All2 (KvX G) (l.map λkv=>if kv.1=k then(kv.1,d)else kv) (ws.map λkv=>if kv.1=k then(kv.1,v)else kv):=by
  intro l
  induction l with
  |nil=>intro ws h;rw[show ws=[]from h];rfl
  |cons p l ih =>
   intro ws h
   obtain⟨w,wr,rfl,⟨h1,h2⟩,h3⟩:=h
   refine⟨_,_,rfl,?_,ih h3⟩
   by_cases e:p.1=k
   ·show KvX G (if p.1=k then (p.1,d) else p) (if w.1=k then (w.1,v) else w)
    rw[if_pos e,if_pos (h1 ▸ e)];exact⟨h1,hd⟩
   ·show KvX G (if p.1=k then (p.1,d) else p) (if w.1=k then (w.1,v) else w)
    rw[if_neg e,if_neg (h1 ▸ e)];exact⟨h1,h2⟩
 unfold aDe lL
 rw[any h]
 split
 ·exact mp h
 ·exact h.snoc ⟨rfl,hd⟩
section
variable{st:Stmt}{i:Nat}{t ti te tk tv:XT}{F:Fm}{K:dA}
theorem je_:∀D σ H,tXS F (bBz i t) D σ H->aNu (tBM K "list" d7 (gL i) (b5 (tX F t) aCc)) D σ H:=by
 rintro D σ H ⟨ρ,fr,d,E,⟨q0,q⟩,k⟩
 obtain⟨⟨l0,f0⟩,h0⟩:=cI.mp q0
 obtain⟨p,ws,hv,hp⟩:=i4 E h0
 refine⟨.ref p,hv,.inl ⟨rfl,ws,SqL.of hp⟩,ρ,fr,_,E,q,λy s H' ρ' E' q'=>?_⟩
 split at q'
 ·rename_i l f hb
  obtain⟨R,hx⟩:=E'.one
  obtain⟨p',ws',Be,Fq,hl,Ds⟩:=fn_ E'.drop hb
  rw[hv]at Be
  cases Be
  exact⟨p,ws',y,rfl,rfl,Fq,by rw[hl.len];have:=fW;omega,k.nx σ _ _ rfl (Ds _ _ (hl.snoc hx)) q'.2⟩
 ·exact q'.elim
theorem aAs{α β:Type}{g:α->β->Prop}{l:List α}{m:List β}{d:α}(h:All2 g l m)(e:l.getLast? = some d):∃v,m[m.length-1]? = some v/\g d v:=by
 rw[List.getLast?_eq_getElem?]at e
 obtain⟨v,h1,h2⟩:=h.at e
 exact⟨v,by rw[h.len];exact h1,h2⟩
theorem aNj{α β:Type}{g:α->β->Prop}{l:List α}{m:List β}(h:All2 g l m):All2 g l.dropLast m.dropLast:=by
 rw[List.dropLast_eq_take,List.dropLast_eq_take,h.len]
 exact h.take _
theorem aQe:∀σ H Q,tX F (aVv i) σ H Q->aWv K "list" aXk (gL i) σ H Q:=by
 rintro σ H Q ⟨ρ,fr,Qx,E,q,k⟩
 unfold aVv at q
 split at q
 ·rename_i l f hb
  obtain⟨p,ws,hv,hp,hl,Ds⟩:=fn_ E hb
  split at q
  ·rename_i d hd
   obtain⟨v,h1,h2⟩:=aAs hl hd
   refine⟨.ref p,hv,.inl ⟨rfl,ws,SqL.of hp⟩,p,ws,v,rfl,rfl,hp,h1,k v (.tr d) _ _ ?_ q⟩
   have E2:=Ds _ _ (aNj hl)
   refine EOk.back E2.len (E2.rep.add (h2.to ?_))
   obtain⟨sl,h3,h4⟩:=aP.mp hb
   obtain⟨v',Be,hi,R⟩:=rW E h3
   rw[hv]at Be;cases Be
   obtain⟨_,_,e',_,h6,_,h8⟩:=hk_ h4 R
   cases e'
   have hO:(bQ (ρ.zip σ++fr)).Perm (bQ ((sl,some (V.ref p))::((ρ.zip σ).eraseIdx i++fr))):=((dd_ h3 hv).append_right fr).flatMap_right _
   have M3:(bQ ((ρ.set i (f l.dropLast)).zip σ++fr)).Perm (bQ ((f l.dropLast,some (V.ref p))::((ρ.zip σ).eraseIdx i++fr))):=((dc_ E.len hi hv).append_right fr).flatMap_right _
   rw[jG h6]at hO
   rw[jG (h8 _).1]at M3
   intro b o hb
   have h9:=lI (O':=p::bQ ((ρ.zip σ).eraseIdx i++fr)) (λa ha=>hO.mem_iff.mpr ha) _ _ hb
   exact lI (λa ha=>M3.mem_iff.mp ha) _ _ (nG (o:=.lst ws.dropLast) _ _ h9)
  ·exact q.elim
 ·exact q.elim
theorem aIq:∀D σ H,tXS F (aVt i ti te) D σ H->vJ (tX F te) (aZe (gL i) (tX F ti) aOi) D σ H:=by
 rintro D σ H ⟨ρ,fr,d,E,q,k⟩
 refine⟨ρ,fr,_,E,q,λy s H' ρ' E' q'=>?_⟩
 obtain⟨q0,q'⟩:=q'
 obtain⟨⟨l0,f0⟩,h0⟩:=cI.mp q0
 obtain⟨p,ws,hv,hp⟩:=i4 E' h0
 refine⟨.ref p,hv,ρ',_,_,E',q',λz s2 H2 ρ2 E2 q2=>?_⟩
 split at q2
 ·rename_i l f j hb hj
  obtain⟨R,Ey,Do⟩:=E2.two
  rw[hj]at Do
  cases Do.int_eq
  obtain⟨p',ws',Be,Fq,hl,Ds⟩:=fn_ (E2.drop.drop) hb
  rw[hv]at Be
  cases Be
  split at q2
  ·rename_i n hn
   exact⟨p,ws',j,n,rfl,rfl,Fq,by rw[hl.len];exact hn,k.nx σ _ _ rfl (Ds _ _ (hl.set Ey n)) q2⟩
  ·exact q2.elim
 ·exact q2.elim
theorem aIs:∀D σ H,tXS F (aWf i tk tv) D σ H->aOa (gL i) (tX F tk) (tX F tv) D σ H:=by
 rintro D σ H ⟨ρ,fr,d,E,q,k⟩
 refine⟨ρ,fr,_,E,q,λy s H' ρ' E' q'=>?_⟩
 obtain⟨⟨l0,h0⟩,q'⟩:=q'
 obtain⟨p,ws,hv,hp,_⟩:=pU E' h0
 refine⟨.ref p,hv,ρ',_,_,E',q',λz s2 H2 ρ2 E2 q2=>?_⟩
 split at q2
 ·rename_i l key hb hk
  obtain⟨R,Ey,Do⟩:=E2.two
  obtain⟨p',ws',Be,Fq,hl,Ds⟩:=pU (E2.drop.drop) hb
  rw[hv]at Be
  cases Be
  cases i8 Do hk
  exact⟨p,_,rfl,DPut.k Fq (by rw[hl.len];have:=fW;omega),k.nx σ _ _ rfl (Ds _ _ (aDc hl Ey)) q2.2⟩
 ·exact q2.elim
end
def nQ(c:XC)(G:XS):XS:=λρ D=>∃W:Nat->En->Prop,(∃m,W m ρ)/\∀m ρ,W m ρ->c ρ λb ρ1=>if b=true then ∃N:En->Prop,(∀ρ',N ρ'->∃m',m'<m/\W m' ρ')/\G ρ1 { D with nx:=N,ct:=N,bk:=D.nx }else D.nx ρ1
theorem gc_{c:Expr}{body:List Stmt}{pos:Pos}{tc:XC}{G:XS}(hp:PassesOwn (model X.prog X.w) X.A X.env X.xe)(hc:XTe X Ex c tc)(hb:XSs X Ex body G):XSt X Ex (.While c body [] pos) (nQ tc G):=λF=>(aDm hp (hc F) (hb F)).weak λD σ H=>by
 rintro⟨ρ,fr,d,E,⟨W,⟨m0,w0⟩,turn⟩,k⟩
 refine⟨λm σ1 H1=>σ1.length=σ.length/\∃ρ1,EOk F ρ1 σ1 fr H1/\W m ρ1,⟨m0,rfl,ρ,E,w0⟩,?_⟩
 rintro m σ1 H1 ⟨hl,ρ1,E1,w1⟩
 refine⟨ρ1,fr,_,E1,turn m ρ1 w1,λb H2 ρ2 E2 q2=>?_⟩
 cases b with
 |false=>exact k.nx σ1 H2 ρ2 hl E2 q2
 |true =>
  obtain⟨N,hN,q2⟩:=q2
  have nxt:∀σ' H' ρ',σ'.length=σ1.length->EOk F ρ' σ' fr H'->N ρ'->∃m',m'<m/\σ'.length=σ.length/\∃ρ1,EOk F ρ1 σ' fr H'/\W m' ρ1:=λσ' H' ρ' h1 h2 h3=>by
   obtain⟨m',h4,h5⟩:=hN ρ' h3
   exact⟨m',h4,by rw[h1,hl],ρ',h2,h5⟩
  exact⟨λσ' H'=>∃m',m'<m/\σ'.length=σ.length/\∃ρ1,EOk F ρ1 σ' fr H'/\W m' ρ1,λσ' H' h=>h,ρ2,fr,_,E2,q2,⟨nxt,λv s σ' H' ρ' h1 h2 h3=>k.rt v s σ' H' ρ' (by rw[h1,hl]) h2 h3,λσ' H' ρ' h1 h2 h3=>k.nx σ' H' ρ' (by rw[h1,hl]) h2 h3,nxt⟩⟩
def iZ(N:List Str)(ds:List Dx):En:=ds.map (λd=>.v (.tr d))++List.replicate (N.length-ds.length) .un
abbrev s_(Q:Sv->Prop):XD:=⟨λ_=>Q (.tr .non),λs _=>Q s,λ_=>False,λ_=>False⟩
theorem hg_{F:Fm}{H:Hp}(R0:Rep F [] H){m:Nat}:∀{ds:List Dx} {vs:List V},All2 (IsX (F.vis H)) ds vs->Rep F ((ds.map (λd=>Sl.v (.tr d))++List.replicate m Sl.un).zip (vs.map some++List.replicate m none)) H
 | [],_,h=>by
  rw[show _=[]from h]
  simp only[dG,aZ]
  rw[List.zip_replicate,Nat.min_self]
  have:=R0.addUs m
  simpa using this
 |d::ds,_,⟨v,vr,e,h1,h2⟩=>by
  subst e
  have R:=hg_ (m:=m) R0 h2
  simp only[aO,aU,hU]
  refine R.add (h1.to λb o hb=>bB.mpr ⟨λz=>?_,hb⟩)
  obtain⟨r,hr,hb⟩:=List.mem_flatMap.mp z
  have:∀{ds:List Dx} {vs:List (Option V)} {r:Rw},r∈((ds.map (λd=>Sl.v (.tr d))++List.replicate m Sl.un).zip vs)->fY r=[]:=by
   intro ds vs r hr
   obtain⟨a,b⟩:=r
   have:=(gY hr).1
   rcases bL.mp this with h | h
   ·obtain⟨d,_,rfl⟩:=cJ.mp h;rfl
   ·rw[(List.mem_replicate.mp h).2];rfl
  rw[this hr]at hb
  cases hb
theorem sX{H Hs:Hp}{sub:Same Hs H}{nb:∀b∈([]:List Addr),Hs b=none}{ib:∀b∈([]:List Addr),∃o,H b=some o}{P:List Rw}{H':Hp}{s:Sv}{v:V}(R:Rep ⟨H,Hs,[],sub,nb,ib⟩ ((.v s,some v)::P) H'):Same H H'/\o7 Hs H H' s v:=by
 refine⟨λb o h=>R.kp b o h (by simp),?_⟩
 match s with
 | .tr d =>
  obtain⟨v',e,h⟩:=R.atT
  cases e
  exact h.to tZ
 | .ol l =>
  obtain⟨a,vs,e,h1,h2⟩:=R.atL
  cases e
  exact⟨a,vs,rfl,R.fr _ aA a (aG.mpr rfl),h1,h2.imp λ_ _ z=>z.to (lI λc hc=>by rw[aG.mp hc];exact aA)⟩
 | .od l =>
  obtain⟨a,vs,e,h1,h2⟩:=R.atD
  cases e
  exact⟨a,vs,rfl,R.fr _ aA a (aG.mpr rfl),h1,h2.imp λ_ _ z=>z.to (lI λc hc=>by rw[aG.mp hc];exact aA)⟩
 | .ow o =>
  have hn:=R.nd
  rw[lJ]at hn
  obtain⟨x,e,h⟩:=R.ok _ aA
  cases e
  refine⟨(cN.mp hn).1,λa ha=>R.fr _ aA a ha,OwOk.mono (.of (lI λc hc=>?_)) o v (λ_ _=>rfl) h⟩
  rw[lJ]
  exact aX _ hc
theorem lF{x qual:Str}{st:Stmt}{f:Addr}{fd:FuncData}{N ps:List Str}{k:Nat}{g:GC}(Fn:Fun K x qual st f fd)(S:FnScope N ps (aL st))(Ak:∀ds Q,g ds Q->ds.length=ps.length)(hN:ps.length<=N.length)
  (A0:∀ (Ai:Value) (A:Around) (outer:List Env) (s:Shared) (H:Hp) (E:XK),Room k (A.deeper (PyProof.Rows.envOfC qual (aL st) s.heap.objs.size f Ai)) →
   ∃G,XSs (iS CX0 P w K mg base N qual (aL st) f Ai A outer s H E).nox fZ (dX st) G/\∀ds Q,g ds Q->G (iZ N ds) (s_ Q)):FnOk P w K mg base CX0 (k+1) f fd ps (spX g):=by
 refine Fn.ok S (λvs H Q E h=>?_) (λAi A outer s H vs Q E hr h=>?_)
 ·obtain ⟨Hs,ds,Qx,h1,h2,h3,_⟩:=h
  rw[h2.len]
  exact Ak ds Qx h3
 obtain⟨Hs,ds,Qx,h1,h2,h3,h4⟩:=h
 obtain⟨G,hG,hq⟩:=A0 Ai A outer s H E hr
 have hl:=Ak ds Qx h3
 refine⟨_,hG ⟨H,Hs,[],h1,by simp,by simp⟩,iZ N ds,[],s_ Qx,⟨?_,?_⟩,hq ds Qx h3,⟨λσ' H' ρ' _ E' q=>?_,λv s σ' H' ρ' _ E' q=>?_,λ_ _ _ _ _ q=>q.elim,λ_ _ _ _ _ q=>q.elim⟩⟩
 ·unfold iZ L2.start
  simp only[aC,aD,bC]
  rw[h2.len]
 ·rw [aS]
  have hv:(Fm.vis ⟨H,Hs,[],h1,by simp,by simp⟩ H)=ext Hs H H:=rfl
  have R0:Rep ⟨H,Hs,[],h1,by simp,by simp⟩ [] H:=⟨fP,λr hr=>by simp at hr,λr hr=>by simp at hr,λb o h _=>h,λb hb=>by simp at hb⟩
  unfold iZ L2.start
  rw[h2.len]
  refine hg_ R0 (h2.imp λ_ _ z=>z.to λb o hb=>?_)
  cases q:H b with
  |none=>rw[h1 _ _ hb]at q;cases q
  |some u=>exact(lZ q).trans hb
 ·have R:=E'.rep.add (d:=.non) (v:=.non) IsX.of_non
  obtain⟨e1,e2⟩:=sX R
  exact h4 _ _ _ e1 e2 q
 ·obtain ⟨e1,e2⟩:=sX E'.front
  exact h4 _ _ _ e1 e2 q
end Lf
namespace L2
open PySem
end L2
namespace Lf
open PySem L2
def xQ(g g':G2)(ta tb tc:XT):XT:=λρ Q=>ta ρ λa ρ1=>tb ρ1 λb ρ2=>g a.d b.d λs=>match s with
 | .tr (.bl k)=>if k=true then tc ρ2 λc ρ3=>g' b.d c.d λs'=>Q s' ρ3 else Q (.tr (.bl false)) ρ2
 |_=>False
theorem vI{F:Fm}{r r':R2}{g g':G2}{ta tb tc:XT}(hx:OpX r g)(Df:OpX r' g'):∀σ H Q,tX F (xQ g g' ta tb tc) σ H Q->xV r r' (tX F ta) (tX F tb) (tX F tc) σ H Q:=by
 rintro σ H Q ⟨ρ,fr,Qx,E,t,k⟩
 refine⟨ρ,fr,_,E,t,λv s H' ρ' E' t'=>⟨ρ',_,_,E',t',λw s2 H2 ρ2 E2 t2=>?_⟩⟩
 obtain⟨R,h1,h2⟩:=E2.two
 have E2b:EOk F ρ2 σ ((.v s2,some w)::fr) H2:=⟨E2.len,((E2.rep.perm (List.Perm.append_left _ (.swap _ _ _))).perm tY).tail.perm (.refl _)⟩
 have E2c:EOk F ρ2 σ ((vT s2.d,some w)::fr) H2:=EOk.back E2.len (E2b.front.frz)
 obtain⟨Rb,hb⟩:=E2c.one
 have h1b:IsX (hid (bQ (ρ2.zip σ++(vT s2.d,some w)::fr)) (F.vis H2)) s.d v:=h1.to (lI λc hc=>by
  have:(bQ ((vT s2.d,some w)::(ρ2.zip σ++fr))).Perm (bQ (ρ2.zip σ++(vT s2.d,some w)::fr)):=tY.symm.flatMap_right _
  have:=this.mem_iff.mpr hc
  rw[ga_ rfl]at this
  exact this)
 have h2b:IsX (hid (bQ (ρ2.zip σ++(vT s2.d,some w)::fr)) (F.vis H2)) s2.d w:=hb.to (lI λc hc=>by
  have:(bQ ((vT s2.d,some w)::(ρ2.zip σ++fr))).Perm (bQ (ρ2.zip σ++(vT s2.d,some w)::fr)):=tY.symm.flatMap_right _
  have:=this.mem_iff.mpr hc
  rw[ga_ rfl]at this
  exact this)
 refine hx F (ρ2.zip σ++(vT s2.d,some w)::fr) H2 s.d s2.d v w _ _ E2c.rep h1b h2b t2 λz s3 H3 R3 q=>?_
 split at q
 ·rename_i kb
  obtain⟨z',e,hz⟩:=R3.atT
  cases e
  cases hz.bl_eq
  refine⟨kb,rfl,?_⟩
  have E3:EOk F ρ2 σ ((vT s2.d,some w)::fr) H3:=⟨E2.len,R3.tail⟩
  cases kb with
  |true =>
   refine⟨ρ2,_,_,E3,q,λu s4 H4 ρ4 E4 q4=>?_⟩
   obtain⟨R5,h5,h6⟩:=E4.two
   exact Df F _ H4 s2.d s4.d w u Q (λz=>Qx z ρ4) R5 h5 h6 q4 λv' s' H' R' q=>k v' s' H' ρ4 (EOk.back E4.len R') q
  |false=>exact k _ _ H3 ρ2 (EOk.back E2.len (E3.drop.rep.add (IsX.of_bl _))) q
 ·exact q.elim
section
variable{a b c e:Expr}{pos:Pos}{r r':R2}{g g':G2}{ta tb tc te:XT}{op op':CmpOp}
theorem nP(ho:OpR X (compareOp op) r)(hx:OpX r g)(Du:OpR X (compareOp op') r')(Df:OpX r' g')(ha:XE X Ex a ta)(hb:XE X Ex b tb)(hc:XE X Ex c tc)(hm:lastMarks [op,op'] [b,c]=false:=by with_unfolding_all rfl):XE X Ex (.Compare a [op,op'] [b,c] pos) (xQ g g' ta tb tc):=λF=>(aDt ho Du (ha F) (hb F) (hc F) hm).weak (vI hx Df)
theorem aBg(ho:OpR X (compareOp op) r)(hx:OpX r g)(Du:OpR X (compareOp op') r')(Df:OpX r' g')(ha:XE X Ex a ta)(hb:XE X Ex b tb)(hc:XE X Ex c tc)(hm:lastMarks [op,op'] [b,c]=false:=by with_unfolding_all rfl):XTe X Ex (.Compare a [op,op'] [b,c] pos) (xB (xQ g g' ta tb tc)):=λF=>(aDj ho Du (ha F) (hb F) (hc F) hm).weak (gx_ (vI hx Df))
end
abbrev XO:=En->(Option Int->En->Prop)->Prop
def tXo(F:Fm)(t:XO):TO:=λσ H Q=>∃ρ fr Qx,EOk F ρ σ fr H/\t ρ Qx/\∀b H' ρ',EOk F ρ' σ fr H'->Qx b ρ'->Q b H'
def XOp(X:Cx)(Ex:ExT)(e:Option Expr)(t:XO):Prop:=∀F,[OkF X Ex F]->PO X e (tXo F t)
def xoN:XO:=λρ Q=>Q none ρ
def xoS(t:XT):XO:=λρ Q=>t ρ λs ρ'=>match s.d with
 | .int i=>Q (some i) ρ'
 |_=>False
theorem mK{X:Cx}{Ex:ExT}:XOp X Ex none xoN:=λF _ Aa s σ H Q I h=>by
 obtain⟨ρ,fr,Qx,E,t,k⟩:=h
 exact aJl Aa s σ H Q I (k none H ρ E t)
theorem jQ{e:Expr}{t:XT}(h:XE X Ex e t):XOp X Ex (some e) (xoS t):=λF _ Aa s σ H Q I hq=>by
 refine aJk (h F) Aa s σ H Q I ?_
 obtain⟨ρ,fr,Qx,E,t,k⟩:=hq
 refine⟨ρ,fr,_,E,t,λv s H' ρ' E' q=>?_⟩
 split at q
 ·rename_i i hi
  obtain⟨R,hx⟩:=E'.one
  rw[hi]at hx
  cases hx.int_eq
  exact⟨i,rfl,k (some i) H' ρ' E'.drop q⟩
 ·exact q.elim
def jO{α:Type}(xs:List α)(lo hi:Option Int):List α:=(xs.drop (HT.sIx xs.length 0 lo)).take (HT.sIx xs.length xs.length hi-HT.sIx xs.length 0 lo)
def slX(a:Dx)(lo hi:Option Int)(Q:Sv->Prop):Prop:=match a with
 | .lst l=>Q (.ol (jO l lo hi))
 | .str z=>z.length<=1000000/\Q (.tr (.str (Txt.slice z lo hi)))
 |_=>False
def xSl(t:XT)(lo hi:XO):XT:=λρ Q=>t ρ λa ρ1=>lo ρ1 λl ρ2=>hi ρ2 λh ρ3=>slX a.d l h λs=>Q s ρ3
theorem kX{e:Expr}{lo hi:Option Expr}{p2 pos:Pos}{t:XT}{tl th:XO}(K:dA)(he:XE X Ex e t)(hl:XOp X Ex lo tl)(hh:XOp X Ex hi th)(h:X.K=K:=by rfl):XE X Ex (.Subscript e (.Slice lo hi none p2) pos) (xSl t tl th):=λF =>
 (aDp (SlR.or (aCm K h) aQk) (he F) (hl F) (hh F)).weak fun σ H Q=>by
  rintro⟨ρ,fr,Qx,E,t,k⟩
  refine⟨ρ,fr,_,E,t,λv s H' ρ' E' q=>⟨ρ',_,_,E',q,λl H2 ρ2 E2 q2=>⟨ρ2,_,_,E2,q2,λu H3 ρ3 E3 q3=>?_⟩⟩⟩
  obtain⟨R,hx⟩:=E3.one
  unfold slX at q3
  split at q3
  ·rename_i m hm
   rw[hm]at hx
   obtain⟨a,vs,rfl,h1,h2⟩:=hx.lst_eq
   refine .inl ⟨a,vs,rfl,SqL.of (R.hv _ _ h1),λp hp=>k _ _ _ ρ3 (EOk.back E3.len (R.newL hp ?_)) q3⟩
   unfold aGo jO
   rw[h2.len]
   exact(h2.drop _).take _
  ·rename_i z hz
   rw[hz]at hx
   cases hx.str_eq
   exact .inr ⟨z,rfl,by have:=fW;omega,k _ _ H3 ρ3 (EOk.back E3.len (R.add (IsX.of_str _))) q3.2⟩
  ·exact q3.elim
def aNo(t:XT):XT:=λρ Q=>t ρ λs ρ'=>match s.d with
 | .lst l=>Q (.ol l.reverse) ρ'
 |_=>False
theorem zT{e:Expr}{t:XT}{k:Nat}{p1 p2 p3 pos:Pos}(he:XE X Ex e t):XE X Ex (.Subscript e (.Slice none none (some (.UnaryOp .USub (.Constant (.int 1) k p1) p2)) p3) pos) (aNo t):=λF=>(aJo (he F)).weak λσ H Q=>by
 rintro⟨ρ,fr,Qx,E,t,k⟩
 refine⟨ρ,fr,_,E,t,λv s H' ρ' E' q=>?_⟩
 split at q
 ·rename_i m hm
  obtain⟨R,hx⟩:=E'.one
  rw[hm]at hx
  obtain⟨a,vs,rfl,h1,h2⟩:=hx.lst_eq
  exact⟨a,vs,rfl,SqL.of (R.hv _ _ h1),λp hp=>k _ _ _ ρ' (EOk.back E'.len (R.newL hp h2.rev)) q⟩
 ·exact q.elim
def inX(neg:Bool):G2:=λa b Q=>match scV a,(match b with | .lst l=>some l | .tup l=>some l | _=>none)with
 |some x,some l=>(l.all λd=>(scV d).isSome)=true/\Q (.tr (.bl (if neg then !inV x (l.filterMap scV)else inV x (l.filterMap scV))))
 |_,_=>False
theorem ji_{d:Dx}{v:V}(h:scV d=some v):jF v=true:=by
 cases d<;>simp only[scV,Option.some.injEq]at h<;>first | (subst h;rfl) | cases h
theorem sV{G:Hp}:∀{l:List Dx} {vs:List V},All2 (IsX G) l vs->(l.all λd=>(scV d).isSome)=true->vs=l.filterMap scV/\vs.all jF=true
 | [],_,h,_=>by rw[show _=[]from h];exact⟨rfl,rfl⟩
 |d::l,_,⟨v,vr,e,h1,h2⟩,h=>by
  rw[gC,bY]at h
  obtain⟨x,hx⟩:=cI.mp h.1
  obtain⟨e1,e2⟩:=sV h2 h.2
  subst e
  have:=ij_ h1 hx
  subst this
  exact⟨by rw[gT,hx,<-e1],by rw[gC,ji_ hx,e2];rfl⟩
theorem aDx{K:dA}(neg:Bool):OpX (rIn K neg) (inX neg):=by
 intro F P H a b x y Q Qx R ha hb g k
 unfold inX at g
 split at g
 ·rename_i u l hu hl
  cases ij_ ha hu
  obtain⟨g1,g2⟩:=g
  split at hl
  ·cases hl
   obtain⟨p,vs,rfl,h1,h2⟩:=hb.lst_eq
   obtain⟨e1,e2⟩:=sV h2 g1
   subst e1
   exact⟨p,_,rfl,.inl (SqL.of (R.hv _ _ h1)),ji_ hu,e2,k _ _ H (R.add (IsX.of_bl _)) g2⟩
  ·cases hl
   obtain⟨p,vs,rfl,h1,h2⟩:=hb.tup_eq
   obtain⟨e1,e2⟩:=sV h2 g1
   subst e1
   exact⟨p,_,rfl,.inr (SqT.of (R.hv _ _ h1)),ji_ hu,e2,k _ _ H (R.add (IsX.of_bl _)) g2⟩
  ·cases hl
 ·exact g.elim
def bAg:GC
 | [.lst l],Q=>(∃bs:List Bool,l=bs.map Dx.bl/\Q (.tr (.bl (bs.all id))))
 |_,_=>False
theorem o1{G:Hp}:∀{bs:List Bool} {vs:List V},All2 (IsX G) (bs.map Dx.bl) vs->vs=bs.map V.bl
 | [],_,h=>h
 |b::bs,_,⟨v,vr,e,h1,h2⟩=>by rw[e,h1.bl_eq,o1 h2];rfl
theorem wI{G:Hp}:∀{bs:List Int} {vs:List V},All2 (IsX G) (bs.map Dx.int) vs->vs=bs.map V.int
 | [],_,h=>h
 |b::bs,_,⟨v,vr,e,h1,h2⟩=>by rw[e,h1.int_eq,wI h2];rfl
theorem zE{K:dA}:iB (aDb K) bAg:=by
 intro F P H ds xs Q Qx R hs g k
 unfold bAg at g
 split at g
 ·obtain ⟨bs,rfl,g⟩:=g
  obtain⟨x,rfl,hx⟩:=qJ hs
  obtain⟨a,vs,rfl,h1,h2⟩:=hx.lst_eq
  have:=o1 h2
  subst this
  exact⟨a,bs,rfl,SqL.of (R.hv _ _ h1),k _ _ H (R.add (IsX.of_bl _)) g⟩
 ·exact g.elim
theorem kc_{X:Cx}(K:dA)(hc:X.calm=true)(h:X.K=K:=by rfl):CallR X (.builtin "all") (aDb K):=by subst h;exact aAp hc
def aEq:GC
 | [.int i,.int j],Q=>Q (.tr (.int (if j>i then j else i)))
 |_,_=>False
def aEp:GC
 | [.int i,.int j],Q=>Q (.tr (.int (if j<i then j else i)))
 |_,_=>False
theorem m9:iB (λxs H Q=>∃i j,xs=[.int i,.int j]/\Q (.int (if j>i then j else i)) H) aEq:=by
 intro F P H ds xs Q Qx R hs g k
 unfold aEq at g
 split at g
 ·obtain ⟨x,y,rfl,hx,hy⟩:=zR hs
  cases hx.int_eq;cases hy.int_eq
  exact⟨_,_,rfl,k _ _ H (R.add (IsX.of_int _)) g⟩
 ·exact g.elim
theorem aMv:iB (λxs H Q=>∃i j,xs=[.int i,.int j]/\Q (.int (if j<i then j else i)) H) aEp:=by
 intro F P H ds xs Q Qx R hs g k
 unfold aEp at g
 split at g
 ·obtain ⟨x,y,rfl,hx,hy⟩:=zR hs
  cases hx.int_eq;cases hy.int_eq
  exact⟨_,_,rfl,k _ _ H (R.add (IsX.of_int _)) g⟩
 ·exact g.elim
def aOm:GC
 | [.lst l],Q=>(∃ns:List Int,l=ns.map Dx.int/\ns≠[]/\∀M,M∈ns->(∀a∈ns,a<=M)->Q (.tr (.int M)))
 |_,_=>False
theorem m8{K:dA}:iB (aCy K) aOm:=by
 intro F P H ds xs Q Qx R hs g k
 unfold aOm at g
 split at g
 ·obtain ⟨bs,rfl,g1,g⟩:=g
  obtain⟨x,rfl,hx⟩:=qJ hs
  obtain⟨a,vs,rfl,h1,h2⟩:=hx.lst_eq
  have:=wI h2
  subst this
  exact⟨a,bs,rfl,SqL.of (R.hv _ _ h1),g1,λM h3 h4=>k _ _ H (R.add (IsX.of_int _)) (g M h3 h4)⟩
 ·exact g.elim
theorem rR{X:Cx}(K:dA)(hc:X.calm=true)(h:X.K=K:=by rfl):CallR X (.builtin "max") (aCy K):=by subst h;exact aAm hc
theorem aQo{F:Fm}{ti:XI}{n i:Nat}{g:TG}{gx:XG}{outs:List Nat}{tc:XC}{te:XT}(Dw:GX n g gx)(Ba:outs.Nodup):∀D σ H,tXS F (gK i (vD n outs ti gx tc te)) D σ H->vJ (b7 n outs (tXi F ti) g (tXc F tc) (tX F te)) (jN i) D σ H:=by
 rintro D σ H ⟨ρ,fr,d,E,q,k⟩
 exact b6 Dw Ba σ H _ ⟨ρ,fr,_,E,q,λv s H' ρ' E' q'=>k.nx _ H' _ bI (if_ E') q'⟩
def oB(N:List Str)(l:List Dx)(ds:List Dx):En:=.bw l::(ds.map (λd=>.v (.tr d))++List.replicate (N.length-(ds.length+1)) .un)
def nB(Q:Dx->List Dx->Prop)(d:Dx)(ρ:En):Prop:=match (ρ[0]? : Option Sl)with
 |some (Sl.bw l)=>Q d l
 |_=>False
abbrev aXf(Q:Dx->List Dx->Prop):XD:=⟨λρ=>nB Q .non ρ,λs ρ=>nB Q s.d ρ,λ_=>False,λ_=>False⟩
theorem aMh{x:Str}{st:Stmt}{f:Addr}{fd:FuncData}{N ps:List Str}{k:Nat}{g:GB}(Fn:Fun K x x st f fd)(S:FnScope N ps (aL st))(Ak:∀l ds Q,g l ds Q->ds.length+1=ps.length)(hN:ps.length<=N.length)
  (A0:∀ (Ai:Value) (A:Around) (outer:List Env) (s:Shared) (H:Hp) (E:XK),Room k (A.deeper (PyProof.Rows.envOfC x (aL st) s.heap.objs.size f Ai)) →
   ∃G,XSs (iS CX0 P w K mg base N x (aL st) f Ai A outer s H E).nox fZ (dX st) G/\∀l ds Q,g l ds Q->G (oB N l ds) (aXf Q)):FnOk P w K mg base CX0 (k+1) f fd ps (spB g):=by
 refine Fn.ok S (λvs H Q E h=>?_) (λAi A outer s H vs Q E hr h=>?_)
 ·obtain ⟨p,ws,l,vr,Hs,ds,Qx,rfl,_,_,_,_,h2,h3,_⟩:=h
  rw[aE,h2.len]
  exact Ak l ds Qx h3
 obtain⟨p,ws,l,vr,Hs,ds,Qx,rfl,hp,h1,Ct,hl,h2,h3,h4⟩:=h
 obtain⟨G,hG,hq⟩:=A0 Ai A outer s H E hr
 have Gn:=Ak l ds Qx h3
 have nb:∀b∈[p],Hs b=none:=λb hb=>by rw[aG.mp hb];exact Ct
 have ib:∀b∈[p],∃o,H b=some o:=λb hb=>by rw[aG.mp hb];exact⟨_,hp⟩
 have fin:∀{d:Dx} {v:V} {σ':St} {H':Hp} {ρ':En},EOk ⟨H,Hs,[p],h1,nb,ib⟩ ρ' σ' ((vT d,some v)::[]) H'->nB Qx d ρ'->Q v H':=λ{d v σ' H' ρ'} E' q=>by
  unfold nB at q
  split at q
  ·rename_i l' h0
   obtain⟨R,hx⟩:=E'.one
   obtain⟨y,hy,hi,R2⟩:=rW ⟨E'.len,R⟩ h0
   obtain⟨a,ws',rfl,h5,h6⟩:=R2.atB
   have ha:a=p:=aG.mp (R2.fr _ aA a (aG.mpr rfl))
   subst ha
   refine h4 d v l' ws' H' (λb o hb=>?_) h5 (h6.imp λ_ _ z=>z.to (lI λc hc=>by rw[aG.mp hc];exact aA)) (hx.to tZ) q
   have Au:b≠a:=λz=>by rw[z]at hb;unfold aFl at hb;rw[if_pos rfl]at hb;cases hb
   rw[nF Au]at hb ⊢
   exact R.kp b o hb λz=>Au (aG.mp z)
  ·exact q.elim
 refine⟨_,hG ⟨H,Hs,[p],h1,nb,ib⟩,oB N l ds,[],aXf Qx,⟨?_,?_⟩,hq l ds Qx h3,⟨λσ' H' ρ' _ E' q=>fin (EOk.back E'.len (E'.rep.add (d:=.non) (v:=.non) IsX.of_non)) q,λv s σ' H' ρ' _ E' q=>fin (EOk.back E'.len E'.front.frz) q,λ_ _ _ _ _ q=>q.elim,λ_ _ _ _ _ q=>q.elim⟩⟩
 ·unfold oB L2.start
  simp only[aC,aD,bC,aE]
  rw[h2.len]
  omega
 ·have R0:Rep ⟨H,Hs,[p],h1,nb,ib⟩ [] H:=⟨fP,fun r hr=>by simp at hr,fun r hr=>by simp at hr,fun b o h _=>h,ib⟩
  have Dg:Same Hs (Fm.vis ⟨H,Hs,[p],h1,nb,ib⟩ H):=λb o hb=>(lZ (h1 _ _ hb)).trans hb
  have R1:=hg_ (m:=N.length-(ds.length+1)) R0 (h2.imp λ_ _ z=>z.to Dg)
  have Eh:bQ ((ds.map (λd=>Sl.v (.tr d))++List.replicate (N.length-(ds.length+1)) Sl.un).zip (vr.map some++List.replicate (N.length-(ds.length+1)) none))=[]:=by
   unfold bQ
   refine List.flatMap_eq_nil_iff.mpr λr hr=>?_
   obtain⟨a,b⟩:=r
   rcases bL.mp (gY hr).1 with h | h
   ·obtain⟨d,_,rfl⟩:=cJ.mp h;rfl
   ·rw[(List.mem_replicate.mp h).2];rfl
  rw[aS]
  have e:(oB N l ds).zip (L2.start N (.ref p::vr))=(.bw l,some (.ref p))::(ds.map (λd=>Sl.v (.tr d))++List.replicate (N.length-(ds.length+1)) Sl.un).zip (vr.map some++List.replicate (N.length-(ds.length+1)) none):=by
   unfold oB L2.start
   rw[aO,aU,hU,aE,h2.len]
  rw[e]
  refine⟨by rw[jG (a:=p) rfl,Eh];simp,λr hr=>?_,λr hr a ha=>?_,R1.kp,R1.lv⟩
  ·rw [jG (a:=p) rfl,Eh]
   rcases aI.mp hr with rfl | hr
   ·refine ⟨p,ws,rfl,hp,hl.imp fun _ _ z=>z.to fun b o hb=>bB.mpr ⟨fun z => ?_,Dg _ _ hb⟩⟩
    rw[aG.mp z,Ct]at hb;cases hb
   ·refine (R1.ok r hr).mono (.of fun b o hb => ?_) fun _ _=>rfl
    have Au:=bB.mp hb
    refine bB.mpr ⟨λz=>?_,Au.2⟩
    have h9:Hs p=some o:=(lZ hp).symm.trans (aG.mp z ▸ Au.2)
    rw[Ct]at h9;cases h9
  ·rcases aI.mp hr with rfl | hr
   ·exact ha
   ·exact R1.fr r hr a ha
theorem Cal.mono{i j:Nat}{x:Str}{ps:List Str}{sp:Sp}(C:Cal P w K mg base i x ps sp)(h:i<=j):Cal P w K mg base j x ps sp:=by
 obtain⟨f,fd,G,b,k,m⟩:=C
 exact⟨f,fd,G.mono h,b,k,m⟩
theorem wP{gx:XG}{G:XS}{D:XD}(Pv:List Dx->En->Prop)(hd:∀ρ,Pv [] ρ->D.nx ρ)(hs:∀d ds ρ (K:En->Prop),Pv (d::ds) ρ->(∀ρ',Pv ds ρ'->K ρ')->gx d ρ λρ1=>G ρ1 { D with nx:=K,ct:=K,bk:=D.nx }) :
  ∀{ds:List Dx} {ρ:En},Pv ds ρ->iR gx G D ds ρ
 | [],ρ,h=>hd ρ h
 |d::ds,ρ,h=>hs d ds ρ (iR gx G D ds) h λρ' h'=>wP Pv hd hs h'
theorem qE{α:Type}{l:List α}{i:Int}(h0:0<=i)(h1:i<l.length):∃x,atI l i=some x/\l[i.toNat]? = some x:=by
 have hk:i.toNat<l.length:=by omega
 refine⟨l[i.toNat],?_,aR hk⟩
 unfold atI
 have:ixN l.length i=some i.toNat:=by
  unfold ixN
  simp only[h0]
  split<;>simp_all<;>omega
 rw[this]
 exact aR hk
abbrev GP:=List Dx->Dx->(Dx->Prop)->Prop
def OpL(r:R2)(g:GP):Prop:=∀(G:Hp) (H:Hp) (p:Addr) (ws:List V) (l:List Dx) (b:Dx) (y:V) (Q:VK) (Qx:Dx->Prop),Same G H->H p=some (.lst ws)->All2 (IsX G) l ws->IsX G b y->g l b Qx->(∀v d,IsX G d v->Qx d->Q v H)->r (.ref p) y H Q
def bAl(r:R2)(g:GP):Prop:=∀(G:Hp) (H:Hp) (p:Addr) (ws:List V) (l:List Dx) (b:Dx) (y:V) (Q:VK) (Qx:Dx->Prop),Same G H->H p=some (.lst ws)->All2 (IsX G) l ws->IsX G b y->g l b Qx->(∀v d,IsX G d v->Qx d->Q v H)->r y (.ref p) H Q
def aPx(g:GP)(i:Nat)(t:XT):XT:=λρ Q=>((ρ[i]?).bind jY).isSome=true/\t ρ λk ρ'=>match (ρ'[i]?).bind jY with
 |some (l,_)=>g l k.d λd=>Q (.tr d) ρ'
 |none=>False
def aPw(g:GP)(t:XT)(i:Nat):XT:=λρ Q=>t ρ λk ρ'=>match (ρ'[i]?).bind jY with
 |some (l,_)=>g l k.d λd=>Q (.tr d) ρ'
 |none=>False
section
variable{F:Fm}{i:Nat}{t:XT}{r:R2}{g:GP}{x:Str}{a b e:Expr}{p pos:Pos}
theorem aOk(hx:OpL r g):∀σ H Q,tX F (aPx g i t) σ H Q->tOp r (gL i) (tX F t) σ H Q:=by
 rintro σ H Q ⟨ρ,fr,Qx,E,⟨h0,q⟩,k⟩
 obtain⟨⟨l,f⟩,h1⟩:=cI.mp h0
 obtain⟨p,ws,hv,_⟩:=fn_ E h1
 refine⟨.ref p,hv,ρ,fr,_,E,q,λw s H' ρ' E' q'=>?_⟩
 split at q'
 ·rename_i l' f' hb
  obtain⟨R,hs⟩:=E'.one
  obtain⟨p',ws',Be,hp,hl,_⟩:=fn_ E'.drop hb
  rw[hv]at Be;cases Be
  exact hx _ H' p ws' l' s.d w Q _ R.hv hp hl hs q' λv d hd qd=>k v (.tr d) H' ρ' (EOk.back E'.len (R.add hd)) qd
 ·exact q'.elim
theorem aXp(hx:bAl r g):∀σ H Q,tX F (aPw g t i) σ H Q->tOp r (tX F t) (gL i) σ H Q:=by
 rintro σ H Q ⟨ρ,fr,Qx,E,q,k⟩
 refine⟨ρ,fr,_,E,q,λw s H' ρ' E' q'=>?_⟩
 split at q'
 ·rename_i l' f' hb
  obtain⟨R,hs⟩:=E'.one
  obtain⟨p,ws',hv,hp,hl,_⟩:=fn_ E'.drop hb
  exact⟨.ref p,hv,hx _ H' p ws' l' s.d w Q _ R.hv hp hl hs q' λv d hd qd=>k v (.tr d) H' ρ' (EOk.back E'.len (R.add hd)) qd⟩
 ·exact q'.elim
def ixP:GP:=λl k Q=>match k with
 | .int j=>(match atI l j with | some d=>Q d | none=>False)
 |_=>False
theorem aYa{K:dA}:OpL (aCz K) ixP:=by
 intro G H p ws l b y Q Qx hs hp hl hb g k
 unfold ixP at g
 split at g
 ·cases hb.int_eq
  split at g
  ·rename_i d hd
   obtain⟨v,h1,h2⟩:=qG hl hd
   exact⟨_,_,_,_,rfl,rfl,SqL.of hp,h1,k v d h2 g⟩
  ·exact g.elim
 ·exact g.elim
theorem zU(K:dA)(hv:PE X (.Name x p) (gL i))(hb:XE X Ex b t)(hs:jC b)(h:X.K=K:=by rfl):XE X Ex (.Subscript (.Name x p) b pos) (aPx ixP i t):=λF=>by
 subst h
 exact(aDr j0 hv (hb F) hs).weak (aOk aYa)
def neP(n:Bool):GP:=λl k Q=>match k with
 | .lst []=>Q (.bl (if n then !l.isEmpty else l.isEmpty))
 |_=>False
theorem aXz{K:dA}{r:R2}(n:Bool):OpL (λx y H Q=>r x y H Q\/aDa K n x y H Q) (neP n):=by
 intro G H p ws l b y Q Qx hs hp hl hb g k
 unfold neP at g
 split at g
 ·obtain ⟨p',vs',rfl,q3,q4⟩:=hb.lst_eq
  cases(show vs'=[]from q4)
  refine .inr ⟨p,p',ws,rfl,rfl,SqL.of hp,SqL.of (hs _ _ q3),k _ _ ?_ g⟩
  have:ws.isEmpty=l.isEmpty:=by
   have:=hl.len
   cases ws<;>cases l<;>simp at this ⊢
  rw[this]
  exact IsX.of_bl _
 ·exact g.elim
theorem aHt(K:dA)(hu:X.A.units<cLine)(hv:PE X (.Name x p) (gL i))(hb:XE X Ex b t)(hm:behindInMarks .Eq b=false)(h:X.K=K:=by rfl):XTe X Ex (.Compare (.Name x p) [.Eq] [b] pos) (xB (aPx (neP false) i t)):=λF=>(tF (iJ K hu h) hv (hb F) hm).weak (gx_ (aOk (aXz false)))
def inP(neg:Bool):GP:=λl k Q=>match scV k with
 |some u=>(l.all λd=>(scV d).isSome)=true/\Q (.bl (if neg then !inV u (l.filterMap scV)else inV u (l.filterMap scV)))
 |none=>False
theorem aXv{K:dA}(neg:Bool):bAl (rIn K neg) (inP neg):=by
 intro G H p ws l b y Q Qx hs hp hl hb g k
 unfold inP at g
 split at g
 ·rename_i u hu
  cases ij_ hb hu
  obtain⟨e1,e2⟩:=sV hl g.1
  subst e1
  exact⟨p,_,rfl,.inl (SqL.of hp),ji_ hu,e2,k _ _ (IsX.of_bl _) g.2⟩
 ·exact g.elim
theorem aHs(K:dA)(hb:XE X Ex b t)(hv:PE X (.Name x p) (gL i))(hm:behindInMarks .In (.Name x p)=false)(h:X.K=K:=by rfl):XTe X Ex (.Compare b [.In] [.Name x p] pos) (xB (aPw (inP false) t i)):=λF=>(tF (aEc K h) (hb F) hv hm).weak (gx_ (aXp (aXv false)))
end
theorem XE.at{e:Expr}{t:XT}(F:Fm)[OkF X Ex F](h:XE X Ex e t):PE X e (tX F t):=h F
theorem gA{e:Expr}{t:XT}{x:Str}{i:Nat}{pos pos':Pos}(hN:X.N.Nodup)(hi:X.N[i]? = some x)(hx:Loc X.env.scope x)(he:XE X fZ e t)(hs:swapsWith e (some (.Name x pos')) pos.line X.env=pure false:=by rfl)(hf:X.fn x=true\/X.env.scope.names.lookup x=some .local:=by first | exact .inl rfl | exact .inr rfl | assumption):XSt X Ex (.Assign [.Name x pos'] e pos) (gK i t):=al_ λF=>o4 hN hi hx (XE.at (Ex:=fZ) F he) hs hf
theorem gJ{x:Str}{p q pos:Pos}{i j:Nat}{n:Int}(K:dA)(h0:PE X (.Name x p) (gL i))(h:X.K=K:=by rfl):XE X Ex (.Subscript (.Name x p) (.Constant (.int n) j q) pos) (xOp ixX (bW i) (xC (.int n))):=kW K (bE h0) cC (λ_ _=>rfl) h
theorem XIt.at{tg e:Expr}{t:XI}(F:Fm)[OkF X Ex F](h:XIt X Ex tg e t):PI X tg e (tXi F t):=h F
theorem XCs.at{e:List Expr}{t:XC}(F:Fm)[OkF X Ex F](h:XCs X Ex e t):PCs X e (tXc F t):=h F
section
variable{α:Type}{n:Nat}{gx:XG}{tc:XC}{te:XT}{Q:List Dx->List Sl->Prop}
abbrev aCg(n:Nat)(gx:XG)(tc:XC)(te:XT)(P:List Dx->List Sl->Prop)(d:Dx)(cs:List Sl)(Ah:List Dx):Prop:=gx d (List.replicate n .un++cs) λρ1=>tc ρ1 λb ρ2=>if b=true then te ρ2 λs ρ3=>P (Ah++[s.d]) (ρ3.drop n)else P Ah (ρ2.drop n)
theorem du_{cs:List Sl}(φ ψ:α->Dx):∀{as:List α} {Ah:List Dx},(∀a∈as,∀(Ah:List Dx) (P:List Dx->List Sl->Prop),P (Ah++[ψ a]) cs->aCg n gx tc te P (φ a) cs Ah) ->
  Q (Ah++as.map ψ) cs->eB n gx tc te Q (as.map φ) cs Ah
 | [],Ah,_,q=>by simpa [eB]using q
 |a::as,Ah,h,q=>by
  show gx (φ a) _ _
  exact h a aA Ah (λAh cs=>eB n gx tc te Q (as.map φ) cs Ah) (du_ φ ψ (λa' ha=>h a' (aB _ ha)) (by simpa [aK]using q))
theorem eu_(φ:α->Dx)(I:List α->List Dx->List Sl->Prop)(hd:∀Ah cs,I [] Ah cs->Q Ah cs)(hs:∀a as Ah cs (P:List Dx->List Sl->Prop),I (a::as) Ah cs->(∀acc' cs',I as acc' cs'->P acc' cs')->aCg n gx tc te P (φ a) cs Ah) :
  ∀{as:List α} {Ah:List Dx} {cs:List Sl},I as Ah cs->eB n gx tc te Q (as.map φ) cs Ah
 | [],Ah,cs,h=>hd Ah cs h
 |a::as,Ah,cs,h=>by
  show gx (φ a) _ _
  exact hs a as Ah cs (λAh cs=>eB n gx tc te Q (as.map φ) cs Ah) h λacc' cs' h'=>eu_ φ I hd hs h'
theorem dj_{gx:XG}{G:XS}{D:XD}(φ:α->Dx)(Pv:List α->En->Prop)(hd:∀ρ,Pv [] ρ->D.nx ρ)(hs:∀d ds ρ (K:En->Prop),Pv (d::ds) ρ->(∀ρ',Pv ds ρ'->K ρ')->gx (φ d) ρ λρ1=>G ρ1 { D with nx:=K,ct:=K,bk:=D.nx }) :
  ∀{ds:List α} {ρ:En},Pv ds ρ->iR gx G D (ds.map φ) ρ
 | [],ρ,h=>hd ρ h
 |d::ds,ρ,h=>hs d ds ρ (iR gx G D (ds.map φ)) h λρ' h'=>dj_ φ Pv hd hs h'
end
section
variable{F:Fm}{e:Expr}{kws:List Keyword}{x:Str}{p pos:Pos}{u:XA}{t:XT}
theorem zD{i:Int}(hg:Gl X x)(hm:∃t,X.mg x=some (.int i t))(hd:(x == ("__debug__" : Str))=false:=by decide):XE X Ex (.Name x pos) (xC (.int i)):=by
 obtain⟨t,hm⟩:=hm
 exact o_ (fl_ (v:=.int i) hg hm ⟨t,rfl⟩ hd) _ λ_=>IsX.of_int _
end
def neL:G2:=λa b Q=>match a,b with
 | .lst l,.lst m=>∃ns:List Int,l=ns.map Dx.int/\m=ns.map Dx.int/\Q (.tr (.bl false))
 |_,_=>False
theorem OkF.up{X:Cx}{Ex Ex':ExT}{F F':Fm}(h:OkF X Ex F)(hx:∀c,Ex' c->Ex c)(hk:∀H,lQ F' H->lQ F H):OkF X Ex' F':=
 ⟨λAa σ H s' ea cls I a e k=>h.pass1 Aa σ H s' ea cls I a (hx _ e) (hk _ k)⟩
section
variable{F:Fm}{a b e:Expr}{x:Str}{p pos:Pos}{ta tb t:XT}{tl th:XO}{u:XA}{K:dA}
theorem aNe{α β:Type}{f:α->β}{l:List α}{i:Int}:atI (l.map f) i=(atI l i).map f:=by
 unfold atI
 rw[aD]
 cases ixN l.length i with
 |none=>rfl
 |some n=>exact cA
def ixZ(K:dA):G2
 | .scr K' ns,.int i,Q=>K'=K/\(match atI ns i with | some n=>Q (.tr (.int n)) | none=>False)
 |_,_,_=>False
theorem aRo:OpX (aCz K) (ixZ K):=by
 intro F P H a b x y Q Qx R ha hb g k
 unfold ixZ at g
 split at g
 ·obtain ⟨rfl,g⟩:=g
  obtain⟨p,rfl,h1⟩:=ha.scr_eq
  cases hb.int_eq
  split at g
  ·rename_i n hn
   refine⟨p,_,_,V.int n,rfl,rfl,SameF.sq (.of R.hv) h1,?_,k _ _ H (R.add (IsX.of_int _)) g⟩
   rw[aNe,hn];rfl
  ·exact g.elim
 ·exact g.elim
theorem aPs(K:dA)(ha:XE X Ex a ta)(hb:XE X Ex b tb)(hs:jC b)(h:X.K=K:=by rfl):XE X Ex (.Subscript a b pos) (xOp (ixZ K) ta tb):=λF=>(aDr (wG K h) (ha F) (hb F) hs).weak (qW aRo)
def aSy(K:dA):GC
 | [.scr K' ns],Q=>K'=K/\Q (.tr (.int ns.length))
 |_,_=>False
theorem m_:iB (aQt K) (aSy K):=by
 intro F P H ds xs Q Qx R hs g k
 unfold aSy at g
 split at g
 ·obtain ⟨rfl,g⟩:=g
  obtain⟨x,rfl,hx⟩:=qJ hs
  obtain⟨a,rfl,h1⟩:=hx.scr_eq
  exact .inl ⟨a,_,rfl,.inl (SameF.sq (.of R.hv) h1),k _ _ H (R.add (by rw[aD];exact IsX.of_int _)) g⟩
 ·exact g.elim
theorem n_{α β:Type}{f:α->β}(l:List α)(lo hi:Option Int):jO (l.map f) lo hi=(jO l lo hi).map f:=by
 unfold jO
 rw[aD,List.map_take,List.map_drop]
end
def spLaw(K:dA):Sp:=λvs H Q _=>∃(a:Addr) (ns:List Int),vs=[.ref a]/\SqL K H a (ns.map V.int)/\ns.length<=63/\∀H',Q (.bl true) H'
def aZh(K:dA):GC:=λds Q=>∃ns:List Int,ds=[.scr K ns]/\ns.length<=63/\Q (.tr (.bl true))
theorem aEy{f:Addr}{fd:FuncData}{j:Nat}(h:FnOk P w K mg base CX0 j f fd ["script"] (spX (aZh K))):FnOk P w K mg base CX0 j f fd ["script"] (spLaw K):=h.imp λvs H Q E=>by
 rintro⟨a,ns,rfl,hS,hl,q⟩
 refine⟨H,[.scr K ns],λs=>s=.tr (.bl true),Same.refl _,⟨_,_,rfl,IsX.of_scr hS,rfl⟩,⟨ns,rfl,hl,rfl⟩,λs v H' _ hr e=>?_⟩
 subst e
 have Kr:IsX (ext H H H') (.bl true) v:=hr
 cases Kr.bl_eq
 exact q H'
end Lf
namespace L2
open PySem
section
variable{M:Model}{A:Around}{E:gV}{s:Shared}
def sC(fs S:List Addr)(h h':Heap):Prop:=∀b o,h.get? b=some o->b∉S->(b∉fs->h'.get? b=some o)/\∃sl,h'.get? b=some { o with slots:=sl }
end
end L2
namespace Lf
open PySem L2
section
variable{M:Model}{A:Around}{E:gV}{s:Shared}
theorem yY{nw:Addr->Prop}{H:Hp}{ea:Addr}{cls:Value}{fl:Option Addr}{Q:Unit->Shared->Prop}(a:Air nw s.heap H ea cls)
  (h:∀h' S,(∀b∈S,nw b/\H b=none/\∃o vs,s.heap.get? b=some o/\o.data=.fields vs)->sC [] S s.heap h'->Air nw h' H ea cls->Q () { s with heap:=h' }):wpAny M A (setFlight (.ref ea) fl) Q E s:=by
 obtain⟨a1,a2,oe,vs,he,hc,hd,D8,hsz,a3⟩:=a
 unfold setFlight
 rcases a3 with a3 | ⟨T,oT,ts,a3,aT,aN,aH,hT,Eo,h3⟩
 ·refine wpAny_bind (wpAny_field he hd a3 ?_)
  rw[if_neg (by decide)]
  exact wpAny_pure (h s.heap [] (λb hb=>nomatch hb) (λb o hb _=>⟨λ_=>hb,o.slots,hb⟩) ⟨a1,a2,oe,vs,he,hc,hd,D8,hsz,.inl a3⟩)
 ·refine wpAny_bind (wpAny_field he hd a3 ?_)
  rw[if_pos (show(Value.ref T != Value.none)=true from by simp)]
  refine wpAny_setField hT Eo h3 (h _ [T] (λb hb=>?_) (λb o hb Ht=>?_) ⟨a1,a2,oe,vs,(cD _ _ aT).trans he,hc,hd,D8,hsz,.inr ⟨T,_,_,a3,aT,aN,aH,Heap.get?_update_self _ hT (Obj.isFreed_of_fields (Obj.data_mapFields Eo _)),Obj.data_mapFields Eo _,by simpa using h3⟩⟩)
  ·rw[aG.mp hb];exact⟨aN,aH,oT,ts,hT,Eo⟩
  ·have n2:b≠T:=fun z=>Ht (aG.mpr z)
   have e2:=(cD s.heap (Obj.mapFields (·.setIfInBounds 3 (fl.elim Value.none λf=>rawInt f))) (Ne.symm n2)).trans hb
   exact⟨λ_=>e2,o.slots,e2⟩
def Tb(h':Heap)(ea:Addr):Prop:=∃oe vs T,h'.get? ea=some oe/\oe.data=.fields vs/\vs[1]? = some (.ref T)
theorem v4{base:Heap}{nw:Addr->Prop}{H:Hp}{env:Env}{outer:List Env}{L ea:Addr}{cls:Value}{Q:Unit->Shared->Prop}
  (Co:A.frames=some (env::outer)) (hl:s.heap.FunFrames base (env::outer)) (hf:env.frame=some L) (hz:∀T,s.heap.objs.size<=T->nw T) (hH:∀a,s.heap.objs.size<=a->H a=none) (a:Air nw s.heap H ea cls)
  (h:∀h' S,(∀b∈S,nw b/\H b=none/\∃o vs,s.heap.get? b=some o/\o.data=.fields vs)->sC (frs (env::outer)) S s.heap h'->Air nw h' H ea cls->Tb h' ea->Q () { s with heap:=h' }):wpAny M A (noteFrame (.ref ea) env) Q E s:=by
 have entry:∀{s:Shared} {oe:Obj} {vs:Array Value} {head:Value} {Ea:Bool} {Q:Unit->Shared->Prop},s.heap.FunFrames base (env::outer)->s.heap.get? ea=some oe->oe.data=.fields vs->1<vs.size ->
   (∀h' T oT ts,sC (frs (env::outer)) [ea] s.heap h'->s.heap.objs.size<=T->T≠ea->h'.get? ea=some (oe.mapFields (·.setIfInBounds 1 (.ref T)))->h'.get? T=some oT->oT.data=.fields ts->3<ts.size->Q () { s with heap:=h' }) ->
   wpAny M A (do let a <-frameOf env;let pl <-entryPlaceOf L Ea;let b <-EntryCells.newEntry head a .none (rawInt L) .none pl;setField (.ref ea) 1 b) Q E s:=by
  intro s oe vs head Ea Q hl he hd hsz h
  have Lg:ea∉(env::outer).filterMap (·.frame):=λhm=>by
   obtain⟨_,o,ho,Iu⟩:=hl.mem hm
   rw[he]at ho;injection ho with ho;subst ho;exact Iu vs hd
  refine wpAny_bind (wpAny_frameOf_fun Co hl hf λh₁ hs₁=>?_)
  refine wpAny_bind (wpAny_entryPlaceOf λpl A9=>?_)
  unfold EntryCells.newEntry newFields
  refine wpAny_bind (wpAny_newObj_type ?_ (A9.sizeOk5 _ _ _ _ _))
  have he₁:h₁.get? ea=some oe:=(hs₁.2.1 ea Lg).trans he
  have he₂:=aQ (h:=h₁) { cls:=.type "traceback",dict:=none,data:=.fields ([head,.ref L,.none,rawInt L,.none]++(if pl.isEmpty then List.replicate 6 Value.none else pl)).toArray } he₁
  have M1:h₁.objs.size≠ea:=Nat.ne_of_gt (bH he₁)
  have hd₃:=Obj.data_mapFields hd (·.setIfInBounds 1 (Value.ref h₁.objs.size))
  have he₃:=Heap.get?_update_self (Obj.mapFields (·.setIfInBounds 1 (Value.ref h₁.objs.size))) he₂ (Obj.isFreed_of_fields hd₃)
  have hT₃:=(cD (h₁.push { cls:=.type "traceback",dict:=none,data:=.fields ([head,.ref L,.none,rawInt L,.none]++(if pl.isEmpty then List.replicate 6 Value.none else pl)).toArray })
   (Obj.mapFields (·.setIfInBounds 1 (Value.ref h₁.objs.size))) (Ne.symm M1)).trans (bO h₁ rfl)
  refine wpAny_setField he₂ hd hsz (h _ h₁.objs.size _ _ ?_ (Nat.le_of_eq hs₁.1.symm) M1 he₃ hT₃ rfl (by simp only[bN,aC,aE,bJ]<;>omega))
  intro b o hb Gb
  have Lq:b≠ea:=λz=>Gb (aG.mpr z)
  have keep:∀o,h₁.get? b=some o->((h₁.push { cls:=.type "traceback",dict:=none,data:=.fields ([head,.ref L,.none,rawInt L,.none]++(if pl.isEmpty then List.replicate 6 Value.none else pl)).toArray }).update ea (Obj.mapFields (·.setIfInBounds 1 (Value.ref h₁.objs.size)))).get? b=some o:=λo hb=>by
   rw[cD _ _ (Ne.symm Lq)]
   exact aQ _ hb
  refine⟨λhbf=>keep o ((hs₁.2.1 b hbf).trans hb),?_⟩
  obtain⟨sl,hs⟩:=hs₁.2.2 b o hb
  exact⟨sl,keep _ hs⟩
 obtain⟨a1,a2,oe,vs,he,hc,hd,D8,hsz,a3⟩:=a
 have fin:∀(h':Heap) (T:Addr) (oT:Obj) (ts:Array Value),s.heap.objs.size<=T->T≠ea->h'.get? ea=some (oe.mapFields (·.setIfInBounds 1 (.ref T)))->h'.get? T=some oT->oT.data=.fields ts->3<ts.size->Air nw h' H ea cls/\Tb h' ea:=λh' T oT ts g1 g2 g3 g4 g5 g6=>by
  refine⟨⟨a1,a2,_,_,g3,(Obj.cls_mapFields _ _).trans hc,Obj.data_mapFields hd _,by obtain⟨c,dct,dt,sl⟩:=oe;cases dt<;>exact D8,by simpa using hsz,.inr ⟨T,oT,ts,by simp[hsz],g2,hz T g1,hH T g1,g4,g5,g6⟩⟩,⟨_,_,T,g3,Obj.data_mapFields hd _,by simp[hsz]⟩⟩
 unfold noteFrame
 simp only[hf]
 rcases a3 with a3 | ⟨T,oT,ts,a3,aT,aN,aH,hT,Eo,h3⟩
 ·refine wpAny_bind (wpAny_field he hd a3 ?_)
  rw[if_neg (by decide)]
  exact entry hl he hd hsz λh' T oT ts g0 g1 g2 g3 g4 g5 g6=>h h' [ea] (λb hb=>by rw[aG.mp hb];exact⟨a1,a2,_,_,he,hd⟩) g0 (fin h' T oT ts g1 g2 g3 g4 g5 g6).1 (fin h' T oT ts g1 g2 g3 g4 g5 g6).2
 ·refine wpAny_bind (wpAny_field he hd a3 ?_)
  rw[if_pos (show(Value.ref T != Value.none)=true from by simp)]
  obtain⟨x3,e3⟩:∃x,ts[3]? = some x:=⟨_,Array.getElem?_eq_getElem h3⟩
  refine wpAny_bind (wpAny_field hT Eo e3 ?_)
  by_cases hx:(x3 == rawInt L)=true
  ·rw [if_pos hx]
   exact wpAny_pure (h s.heap [] (λb hb=>nomatch hb) (λb o hb _=>⟨λ_=>hb,o.slots,hb⟩) ⟨a1,a2,oe,vs,he,hc,hd,D8,hsz,.inr ⟨T,oT,ts,a3,aT,aN,aH,hT,Eo,h3⟩⟩ ⟨oe,vs,T,he,hd,a3⟩)
  rw[if_neg hx]
  refine wpAny_bind (wpAny_setField hT Eo h3 ?_)
  have other:∀b,b≠T->(s.heap.update T (Obj.mapFields (·.setIfInBounds 3 Value.none))).get? b=s.heap.get? b:=λb hb=>cD _ _ (Ne.symm hb)
  have noRecord:∀b o,s.heap.get? b=some o->(∀vs,o.data ≠ .fields vs)->b≠T:=λb o hb Iu q=>by
   rw[q,hT]at hb;injection hb with hb;subst hb;exact Iu ts Eo
  have Ih:(s.heap.update T (Obj.mapFields (·.setIfInBounds 3 Value.none))).objs.size=s.heap.objs.size:=Heap.size_after_update ..
  refine entry (s:={ s with heap:=_ }) (hl.of_keeps λb o hb Iu=>⟨o,(other b (noRecord b o hb Iu)).trans hb,rfl⟩) ((other ea (Ne.symm aT)).trans he) hd hsz
   λh' T' oT' ts' g0 g1 g2 g3 g4 g5 g6=>h h' [ea,T] (λb hb=>?_) (λb o hb Ht=>?_) (fin h' T' oT' ts' (by rw[<-Ih];exact g1) g2 g3 g4 g5 g6).1 (fin h' T' oT' ts' (by rw[<-Ih];exact g1) g2 g3 g4 g5 g6).2
  ·rcases aI.mp hb with rfl | hb
   ·exact⟨a1,a2,_,_,he,hd⟩
   ·rw[aG.mp hb];exact⟨aN,aH,_,_,hT,Eo⟩
  ·have n1:b≠ea:=fun z=>Ht (by rw [z]; exact aA)
   have n2:b≠T:=λz=>Ht (by rw[z];exact aB _ aA)
   exact g0 b o ((other b n2).trans hb) λz=>n1 (aG.mp z)
theorem vZ{base:Heap}{nw:Addr->Prop}{H:Hp}{env:Env}{outer:List Env}{L ea:Addr}{cls:Value}{Q:Unit->Shared->Prop}
  (Co:A.frames=some (env::outer)) (hl:s.heap.FunFrames base (env::outer)) (hf:env.frame=some L) (hz:∀T,s.heap.objs.size<=T->nw T) (hH:∀a,s.heap.objs.size<=a->H a=none) (a:Air nw s.heap H ea cls)
  (h:∀h' S,(∀b∈S,nw b/\H b=none/\∃o vs,s.heap.get? b=some o/\o.data=.fields vs)->sC (frs (env::outer)) S s.heap h'->Air nw h' H ea cls->Q () { s with heap:=h' }):wpAny M A (noteFrame (.ref ea) env) (λ_ s₂=>wpAny M A (setFlight (.ref ea) none) Q E s₂) E s:=
 v4 Co hl hf hz hH a λh' S hS kx air' _=>yY (s:={ s with heap:=h' }) air' λh2 S2 hS2 Me air2=>h h2 (S++S2.filter λb=>(s.heap.get? b).isSome) (λb hb=>by
  rcases bL.mp hb with z | z
  ·exact hS b z
  ·by_cases Au:b∈S
   ·exact hS b Au
   obtain⟨z1,z2⟩:=List.mem_filter.mp z
   obtain⟨o,e⟩:=cI.mp z2
   obtain⟨g1,g2,o2,vs2,e2,d2⟩:=hS2 b z1
   obtain⟨sl,e3⟩:=(kx b o e Au).2
   have e4:some o2=some { o with slots:=sl }:=e2.symm.trans e3
   cases e4
   exact⟨g1,g2,o,vs2,e,d2⟩) (λb o e n=>by
  have n1:b∉S:=λz=>n (aX _ z)
  have n2:b∉S2:=λz=>n (aJ _ (List.mem_filter.mpr ⟨z,by rw[e];rfl⟩))
  obtain⟨p,sl,q⟩:=kx b o e n1
  refine⟨λhf=>(Me b o (p hf) n2).1 (by simp),?_⟩
  obtain⟨sl',q'⟩:=(Me b _ q n2).2
  exact⟨sl',q'⟩) air2
end
theorem rC{P:Program}{w:World}{H:Hp}{h h':Heap}{fs S:List Addr}(x:HOk P w H h)(k:sC fs S h h')(hf:∀b∈fs,H b=none)(hS:∀b∈S,H b=none):HOk P w H h':=λa o e =>
 ObjOk.stay (x a o e) (λb u hb hu=>by
  have Au:∃o,H b=some o:=by
   rcases hb with rfl | hb
   ·exact⟨_,e⟩
   ·exact⟨_,hb⟩
  obtain⟨ob,Jy⟩:=Au
  exact(k b u hu λz=>by rw[hS b z]at Jy;cases Jy).1 λz=>by rw[hf b z]at Jy;cases Jy) (λ_ z=>z) (λ_ _ z=>z)
section
variable{X:Cx}{Aa:eL}{σ:St}{H H':Hp}{s s':Shared}
theorem Inv.thrown(I:Inv X Aa σ H s)(os:s'.os=s.os)(bare:PyProof.Rows.AllBare s'.gens)(un:Un (frs X.stack) [] H H' s.heap s'.heap)(hok:HOk X.prog X.w H' s'.heap):Inv X Aa σ H' s':=by
 obtain⟨hh,g,d,t,os'⟩:=s'
 obtain rfl:os'=s.os:=os
 exact I.call (h':=hh) (g':=g) (d':=d) (t':=t) (ch:=[]) un hok bare (λb z=>absurd z (by simp))
end
theorem Air.older{n0 n:Addr->Prop}{h':Heap}{H:Hp}{ea:Addr}{cls:Value}(a:Air n h' H ea cls)(k:∀b,n b->n0 b):Air n0 h' H ea cls:=by
 obtain⟨a1,a2,oe,vs,he,hc,hd,D8,hsz,a3⟩:=a
 refine⟨k _ a1,a2,oe,vs,he,hc,hd,D8,hsz,?_⟩
 rcases a3 with a3 | ⟨T,oT,ts,a3,aT,aN,r⟩
 ·exact .inl a3
 ·exact .inr ⟨T,oT,ts,a3,aT,k _ aN,r⟩
theorem OkF.pass{F:Fm}[OkF X Ex F](Aa:eL)(σ:St)(H:Hp)(s:Shared)(e:Value)(s':Shared)(I:Inv X Aa σ H s)(h:CXe X.prog X.w X.stack H s (λc _ H'=>Ex c/\lQ F H') e s'):X.xe e s':=by
 obtain⟨ea,cls,H',rfl,os,bare,un,hok,air,hx,hk⟩:=h
 refine OkF.pass1 (Ex:=Ex) (F:=F) Aa σ H' s' ea cls (Inv.thrown I os bare un hok) (air.older λb hb=>⟨?_,λp hp z=>?_⟩) hx hk
 ·by_cases J2:b∈X.ex
  ·exact .inr J2
  ·left
   cases q:X.s₀.heap.get? b with
   |none=>rfl
   |some o =>
    obtain⟨o',e'⟩:=I.base.there b o q J2
    rw[hb]at e';cases e'
 ·have:=(I.pin p hp).1
  rw[z,hb]at this;cases this
section
variable{N:List Str}{x:Str}{scope:Scope}{f:Addr}{Ai:Value}{A:Around}{outer:List Env}{s:Shared}{H:Hp}{E:XK}{Ex:ExT}{F:Fm}
theorem f7(hE:∀c H',Ex c->lQ F H'->E c none H'):OkF (iS (CXe P w) P w K mg base N x scope f Ai A outer s H E) Ex F:=⟨λAa σ H' s' ea cls I' air hx hk=>by
 have older:∀b,NwX (iS (CXe P w) P w K mg base N x scope f Ai A outer s H E) Aa b->s.heap.get? b=none:=λb hb=>hb.1.elim (λz=>z) λz=>nomatch z
 refine wpAny_bind (vZ (base:=base) (nw:=λb=>s.heap.get? b=none) (H:=H') (L:=s.heap.objs.size) I'.ok.frames I'.stack rfl (λT hT=>Heap.get?_none_of_le (nzL I'.sz hT)) (λa ha=>I'.hok.fresh ha) (air.older older) λh' S hS kx air'=>?_)
 have nS:∀b o,s.heap.get? b=some o->b∉S:=λb o hb z=>by rw[(hS b z).1]at hb;cases hb
 have nL:∀b o,s.heap.get? b=some o->b∈frs (PyProof.Rows.envOfC x scope s.heap.objs.size f Ai::outer)->b∈frs outer:=λb o hb z=>by
  rcases aI.mp (show b∈s.heap.objs.size::frs outer from z)with z | z
  ·exact absurd (bH hb) (by rw[z];exact eE _)
  ·exact z
 have B:=I'.base
 refine⟨ea,cls,H',rfl,I'.os,I'.bare,⟨λb o hb n hf he=>?_,λb o hb n hf he=>?_,λb o hb n he=>B.free b o hb n he,λb o hb he=>?_,B.tups,B.frzs,B.tbls⟩,rC I'.hok kx I'.stkFree (λb hb=>(hS b hb).2.1),air',hE cls H' hx hk⟩
 ·exact(kx b o (B.keep b o hb n hf he) (nS b o hb)).1 λz=>hf (nL b o hb z)
 ·obtain ⟨sl,e1⟩:=B.slot b o hb n hf he
  obtain⟨sl',e2⟩:=(kx b _ e1 (nS b o hb)).2
  exact⟨sl',e2⟩
 ·obtain ⟨o',e1⟩:=B.there b o hb he
  obtain⟨sl',e2⟩:=(kx b _ e1 (nS b o hb)).2
  exact⟨_,e2⟩⟩
end
abbrev aQb{H Hs:Hp}(h:Same Hs H):Fm:=⟨H,Hs,[],h,λb hb=>by simp at hb,λb hb=>by simp at hb⟩
abbrev GE:=List Dx->(Sv->Prop)->ExT->Prop
def spE(g:GE):Sp:=λvs H Q E=>∃Hs ds Qx Ex,Same Hs H/\All2 (IsX Hs) ds vs/\g ds Qx Ex/\(∀s v H',Same H H'->o7 Hs H H' s v->Qx s->Q v H')/\∀c H',Same H H'->Ex c->E c none H'
theorem bDn{x qual:Str}{st:Stmt}{f:Addr}{fd:FuncData}{N ps:List Str}{k:Nat}{g:GE}(Fn:Fun K x qual st f fd)(S:FnScope N ps (aL st))(Ak:∀ds Q Ex,g ds Q Ex->ds.length=ps.length)(hN:ps.length<=N.length)
  (A0:∀ (Ai:Value) (A:Around) (outer:List Env) (s:Shared) (H:Hp) (E:XK) (Ex:ExT),Room k (A.deeper (PyProof.Rows.envOfC qual (aL st) s.heap.objs.size f Ai)) →
   ∃G,XSs (iS (CXe P w) P w K mg base N qual (aL st) f Ai A outer s H E) Ex (dX st) G/\∀ds Q,g ds Q Ex->G (iZ N ds) (s_ Q)):FnOk P w K mg base (CXe P w) (k+1) f fd ps (spE g):=by
 obtain⟨oc,od,kV,doc,pm,an,Ai,ct,osl,rfl,lk,C7⟩:=Fn.ex
 refine aFy lk C7 S (λvs H Q E h=>?_) λA outer s H vs Q E hr h=>?_
 ·obtain ⟨Hs,ds,Qx,Ex,h1,h2,h3,_⟩:=h
  rw[h2.len]
  exact Ak ds Qx Ex h3
 obtain⟨Hs,ds,Qx,Ex,h1,h2,h3,h4,h5⟩:=h
 obtain⟨G,hG,hq⟩:=A0 Ai A outer s H E Ex hr
 have hl:=Ak ds Qx Ex h3
 haveI:OkF (iS (CXe P w) P w K mg base N qual (aL st) f Ai A outer s H E) Ex (aQb h1):=f7 λc H' e k=>h5 c H' (λb o hb=>k b o hb (by simp)) e
 refine⟨_,hG (aQb h1),iZ N ds,[],s_ Qx,⟨?_,?_⟩,hq ds Qx h3,⟨λσ' H' ρ' _ E' q=>?_,λv s σ' H' ρ' _ E' q=>?_,λ_ _ _ _ _ q=>q.elim,λ_ _ _ _ _ q=>q.elim⟩⟩
 ·unfold iZ L2.start
  simp only[aC,aD,bC]
  rw[h2.len]
 ·rw [aS]
  have R0:Rep (aQb h1) [] H:=⟨fP,λr hr=>by simp at hr,λr hr=>by simp at hr,λb o h _=>h,λb hb=>by simp at hb⟩
  unfold iZ L2.start
  rw[h2.len]
  refine hg_ R0 (h2.imp λ_ _ z=>z.to λb o hb=>?_)
  cases q:H b with
  |none=>rw[h1 _ _ hb]at q;cases q
  |some u=>exact(lZ q).trans hb
 ·have R:=E'.rep.add (d:=.non) (v:=.non) IsX.of_non
  obtain⟨e1,e2⟩:=sX R
  exact h4 _ _ _ e1 e2 q
 ·obtain ⟨e1,e2⟩:=sX E'.front
  exact h4 _ _ _ e1 e2 q
def CalE(P:Program)(w:World)(K:dA)(mg:kC)(base:Heap)(j:Nat)(x:Str)(ps:List Str)(sp:Sp):Prop:=∃f fd,FnOk P w K mg base (CXe P w) j f fd ps sp/\Binds K fd ps []/\PySem.W.keepIn K (.ref f)=true/\mg x=some (.ref f)
theorem CalE.mono{i j:Nat}{x:Str}{ps:List Str}{sp:Sp}(C:CalE P w K mg base i x ps sp)(h:i<=j):CalE P w K mg base j x ps sp:=by
 obtain⟨f,fd,G,b,k,m⟩:=C
 exact⟨f,fd,G.mono h,b,k,m⟩
theorem aJr{X:Cx}{j:Nat}{x:Str}{ps:List Str}{sp:Sp}{E:XK}{e:Expr}{es:List Expr}{t:TA}{p pos:Pos}(C:CalE X.prog X.w X.K X.mg X.base j x ps sp)(hr:Room j X.A)(hx:jR (CXe X.prog X.w) X E)(ha:PA X (e::es) t)(hg:Gl X x:=by rfl)(B2:(x == ("__debug__" : Str))=false:=by decide)
  (he:starEach (e::es) X.env=(false,eval e X.env)::starEach es X.env:=by rfl) (A9:(backTo pos (starEach es X.env)).any (·.1)=false:=by rfl):PE X (.Call (.Name x p) (e::es) [] pos) (aCe sp [] E t):=by
 obtain⟨f,fd,G,b,k,m⟩:=C
 exact e9 G hr hg m k b .nil hx ha B2 he A9
theorem u_{P:Program}{w:World}{H:Hp}{h:Heap}{a:Addr}{o:HO}(x:ObjOk P w H h a o):∃ob,h.get? a=some ob:=by
 cases o with
 |lst xs=>obtain⟨z,its,n,r,e⟩:=x;exact⟨_,e⟩
 |tup xs=>obtain⟨z,its,r,ob,e,c⟩:=x;exact⟨_,e⟩
 |dK kvs=>obtain⟨z,y,vs,r,ob,es,ep,e,c⟩:=x;exact⟨_,e⟩
 |dT kvs=>obtain⟨z,y,xs,r,ob,es,ep,e,c⟩:=x;exact⟨_,e⟩
 |set S n=>obtain⟨ob,es,ep,t,e,c⟩:=x;exact⟨_,e⟩
 |ins C dx fs=>obtain⟨d,z,ne,e,_⟩:=x;exact⟨_,e⟩
 |own y=>exact x
 |xd fs=>obtain⟨mA,⟨od,es,ep,e,c⟩,r⟩:=x;exact⟨_,e⟩
 |rng lo hi=>obtain⟨t,u,v,e⟩:=x;exact⟨_,e⟩
 |frz ob u=>exact⟨_,x.1⟩
 |tbl ps=>exact⟨_,x⟩
 |met f y=>exact⟨_,x⟩
 |ext φ=>exact x.2.1
theorem HOk.none{P:Program}{w:World}{H:Hp}{h:Heap}(x:HOk P w H h){a:Addr}(n:h.get? a=.none):H a=.none:=by
 cases q:H a with
 |none=>rfl
 |some o =>
  obtain⟨ob,e⟩:=u_ (x a o q)
  rw[n]at e;cases e
abbrev bAk(X:Cx)(x:Str)(C:Addr):Prop:=PyProof.Rows.OwnCls x C veM "ValueError.__new__" X.mg X.base
def aPv(Ex:ExT)(c:Value):XS:=λ_ _=>Ex c
theorem fi_{x z:Str}{C:Addr}{np cpos pos p:Pos}{j:Nat}(O:bAk X x C)(hc:X.calm=true)(hg:Gl X x)(hd:(x == ("__debug__" : Str))=false:=by decide)
  (he:starEach [.Constant (.str z) j p] X.env=[(false,eval (.Constant (.str z) j p) X.env)]:=by rfl):XSt X Ex (.Raise (some (.Call (.Name x np) [.Constant (.str z) j p] [] cpos)) none pos) (aPv Ex (.ref C)):=λF _ Aa s σ H D I h=>by
 obtain⟨ρ,fr,d,E,q,k⟩:=h
 have pa:PA X [.Constant (.str z) j p] (b5 (tC (.str z)) aCc):=kS oY uL he
 obtain⟨tl,N,nm,qn,bs,hdct,sn,sub,ab,col,dd,k0,k1,k2,k3,k5,mN,hC,hN,Hm,T⟩:=O.obj
 refine wpAny_Raise_call_subT (C:=C) (nm:=nm) (q:=qn) (N:=N) (bs:=bs) (bm:=tl) (hdct:=hdct) (sn:=sn) (sub:=sub) (ab:=ab) (col:=col) (dd:=dd) (k0:=k0) (k1:=k1) (k2:=k2) (k3:=k3) (k5:=k5)
  PySem.F.excBase_ValueError (mN:=mN) (T.hasType PySem.F.excBase_ValueError.hasBase) (I.ok.hd hc) (by rw[he];rfl) Hm (ic_ I hg O.bound ⟨rfl,?_⟩ hd)
 refine Calls.evalArgs_plain ?_
 refine wpAny_mono (pa cpos Aa s σ H (λvs H1=>vs=[.str z]/\H1=H) I ⟨rfl,rfl⟩) (λus s₂ h₂=>?_) λ_ _ y=>y
 obtain⟨vs,H1,I2,rv,rfl,rfl⟩:=h₂
 refine⟨rfl,by rw[<-rv.length];show 1<=sizeLine;exact nzL (by decide) (Nat.le_of_lt fW),I2.bk _ _ hC,hN.keeps I2.bk,T.keeps I2.bk,λh' e hm=>?_⟩
 obtain⟨t,ht,tn,_⟩:=hm.there
 refine OkF.pass (Ex:=Ex) (F:=F) Aa σ H1 s₂ _ _ I2 ⟨e,.ref C,H1,rfl,rfl,I2.bare,Un.kept hm.keeps,I2.hok.kept hm.keeps,⟨hm.new,HOk.none I2.hok hm.new,_,_,ht,rfl,rfl,rfl,by show 1<6;decide,.inl rfl⟩,q,λb o h1 h2=>E.rep.kp b o h1 h2⟩
section
variable{X:Cx}{Aa:eL}{σ:St}{H H':Hp}{s s':Shared}{h':Heap}{S:List Addr}
theorem Inv.noLoc(I:Inv X Aa σ H s){b:Addr}{o:Obj}{vs:Array Value}(h:s.heap.get? b=some o)(hd:o.data=.fields vs):b≠X.env.locals/\∀x c,X.env.cells.lookup x=some c->c≠b:=by
 refine⟨λz=>?_,λx c e z=>?_⟩
 ·obtain ⟨m,⟨oL,es,ep,hL,hLd,_⟩,_⟩:=I.loc
  rw[z,hL]at h;cases h;rw[hLd]at hd;cases hd
 ·obtain ⟨v,o',ho,hv⟩:=I.cell x c e
  rw[z,h]at ho;cases ho;rw[hv]at hd;cases hd
theorem Inv.noted{t':Nat}(I:Inv X Aa σ H s)(kx:sC (frs X.stack) S s.heap h')(hS:∀b∈S,(X.s₀.heap.get? b=none/\∀p∈X.pn++Aa,p.1≠b)/\H b=none/\∃o vs,s.heap.get? b=some o/\o.data=.fields vs):Inv X Aa σ H { s with heap:=h',toks:=t' }:=by
 have neL:∀b o,X.s₀.heap.get? b=some o->b≠X.env.locals:=λb o e=>cH (bR (bH e) I.ok.above)
 have nS:∀b o,X.s₀.heap.get? b=some o->b∉S:=λb o e z=>by rw[(hS b z).1.1]at e;cases e
 have nst:∀b,b≠X.env.locals->b∉X.fs->b∉frs X.stack:=λb h1 h2 z=>(aI.mp (I.stkSub b z)).elim h1 h2
 have lS:X.env.locals∉S:=λz=>by obtain⟨_,_,o,vs,h1,h2⟩:=hS _ z;exact(Inv.noLoc I h1 h2).1 rfl
 have cS:∀x c,X.env.cells.lookup x=some c->c∉S:=λx c e z=>by obtain⟨_,_,o,vs,h1,h2⟩:=hS _ z;exact(Inv.noLoc I h1 h2).2 x c e rfl
 have cell:∀x c,X.env.cells.lookup x=some c->∀v,s.heap.IsCell c v->h'.IsCell c v:=λx c e v ⟨o,ho,hd⟩=>by
  obtain⟨sl,e2⟩:=(kx c o ho (cS x c e)).2
  exact⟨_,e2,hd⟩
 have B:=I.base
 refine⟨I.ok,I.os,I.bare,⟨λb o e n hb hx=>?_,λb o e n hb hx=>?_,B.free,λb o e hx=>?_,B.tups,B.frzs,B.tbls⟩,?_,λx c e=>?_,I.free,I.freeC,λp hp=>?_,rC I.hok kx I.stkFree (λb hb=>(hS b hb).2.1),I.len⟩
 ·exact(kx b o (B.keep b o e n hb hx) (nS b o e)).1 (nst b (neL b o e) hb)
 ·obtain ⟨sl,e1⟩:=B.slot b o e n hb hx
  obtain⟨sl',e2⟩:=(kx b _ e1 (nS b o e)).2
  exact⟨sl',e2⟩
 ·obtain ⟨o',e1⟩:=B.there b o e hx
  obtain⟨sl',e2⟩:=(kx b _ e1 (nS b o e)).2
  exact⟨_,e2⟩
 ·obtain ⟨m,⟨oL,es,ep,hL,r⟩,hl⟩:=I.loc
  obtain⟨sl,e2⟩:=(kx _ oL hL lS).2
  refine⟨m,⟨_,es,ep,e2,r⟩,λi x v e1 e2 e3=>?_⟩
  obtain⟨u,ru,lk⟩:=hl i x v e1 e2 e3
  refine⟨u,ru,?_⟩
  rcases lk with lk | ⟨k,c,e,z⟩
  ·exact .inl lk
  ·exact .inr ⟨k,c,e,cell x c e _ z⟩
 ·obtain ⟨v,z⟩:=I.cell x c e
  exact⟨v,cell x c e v z⟩
 ·obtain ⟨e,n,ne,nf,d⟩:=I.pin p hp
  exact⟨(kx p.1 p.2 e λz=>(hS p.1 z).1.2 p hp rfl).1 (nst p.1 ne nf),n,ne,nf,d⟩
theorem Inv.caught{ea:Addr}{cls:Value}{o:Obj}{vs:Array Value}(I:Inv X Aa σ H s)(nw:X.s₀.heap.get? ea=none/\∀p∈X.pn++Aa,p.1≠ea)(hn:H ea=none)(he:s.heap.get? ea=some o)(hc:o.cls=cls)(hd:o.data=.fields vs)(D8:o.dict=none) :
  Inv X Aa σ (upd H ea (.ext (wT ea cls))) s:=by
 obtain⟨nl,nc⟩:=Inv.noLoc I he hd
 have B:=I.base
 have ne:∀b u,H b=some u->b≠ea:=λb u e z=>by rw[z,hn]at e;cases e
 refine⟨I.ok,I.os,I.bare,⟨B.keep,B.slot,λb o e n hx=>?_,B.there,λb xs e=>?_,λb o xs e=>?_,λb ps e=>?_⟩,I.loc,I.cell,?_,λx c e=>?_,λp hp=>?_,λa u e=>?_,I.len⟩
 ·rw[gU λz=>by rw[z,nw.1]at e;cases e];exact B.free b o e n hx
 ·have:=B.tups b xs e;rw[gU (ne b _ this)];exact this
 ·have:=B.frzs b o xs e;rw[gU (ne b _ this)];exact this
 ·obtain⟨more,h1⟩:=B.tbls b ps e;exact⟨more,by rw[gU (ne b _ h1)];exact h1⟩
 ·rw[gU (Ne.symm nl)];exact I.free
 ·rw[gU (nc x c e)];exact I.freeC x c e
 ·obtain ⟨e1,e2,e3⟩:=I.pin p hp
  exact⟨e1,by rw[gU (nw.2 p hp)];exact e2,e3⟩
 ·by_cases z:a=ea
  ·subst z
   rw[xD]at e
   cases e
   exact⟨⟨o,vs,he,hc,hd,D8⟩,⟨o,he⟩,λh1 h2 ⟨o',vs',a1,a2⟩ k=>⟨o',vs',k o' a1,a2⟩⟩
  ·rw [gU z] at e
   exact ObjOk.stay (I.hok a u e) (λb v _ hv=>hv) (λb hb=>by rw[gU (ne b _ hb)];exact hb) (λb xs hb=>by rw[gU (ne b _ hb)];exact hb)
theorem hi_{M:Model}{A:Around}{E:gV}{i:Nat}{n:Str}{pos:Pos}{Q:Unit->Shared->Prop}(I:Inv X Aa σ H s)(hN:X.N.Nodup)(hi:X.N[i]? = some n)(hk:X.env.kindOf n=some .local)
  (h:∀s',Inv X Aa (σ.set i none) H s'->Q () s'):wpAny M A (do bindName X.env n .none;unbindBehindTheSuite X.env n pos) Q E s:=by
 obtain⟨m,hn,hl⟩:=id I.loc
 obtain⟨oL,_,_,Ml,_⟩:=id hn
 have Dy:(X.env.scope.kind == .class||(X.env.scope.kind == .module&&X.env.locals != X.env.globals))=false:=by rw[I.ok.kind];rfl
 have hiσ:i<σ.length:=by rw[I.len];exact(bG.mp hi).1
 refine wpAny_nameGoes_keeps hk hn Dy λh' v C5 hs=>h _ ?_
 have nl:∀b o,X.s₀.heap.get? b=some o->b≠X.env.locals:=λb o e=>cH (bR (bH e) I.ok.above)
 refine⟨I.ok,I.os,I.bare,⟨λb o e n hb hx=>?_,λb o e n hb hx=>?_,I.base.free,λb o e hx=>?_,I.base.tups,I.base.frzs,I.base.tbls⟩,⟨_,C5,λj y v' e1 e2 e3=>?_⟩,λy c e=>?_,I.free,I.freeC,λp hp=>?_,λb ob e=>?_,by simpa using I.len⟩
 ·exact(hs.2 b (nl b o e)).trans (I.base.keep b o e n hb hx)
 ·obtain ⟨sl,e1⟩:=I.base.slot b o e n hb hx
  exact⟨sl,(hs.2 b (nl b o e)).trans e1⟩
 ·obtain ⟨o',e1⟩:=I.base.there b o e hx
  exact⟨o',(hs.2 b (nl b o e)).trans e1⟩
 ·by_cases hj:j=i
  ·subst hj
   rw[iK hiσ]at e2
   cases e2
  ·rw [dB (Ne.symm hj)] at e2
   obtain⟨u',r',q⟩:=hl j y v' e1 e2 e3
   refine⟨u',r',?_⟩
   rcases q with⟨k,e⟩ | ⟨k,c,e,z⟩
   ·refine .inl ⟨k,?_⟩
    have:y≠n:=λe=>hj (pE hN e1 (e ▸ hi))
    simp[this,e]
   ·exact .inr ⟨k,c,e,z.sameBut hs (I.cne y c e)⟩
 ·obtain ⟨v',z⟩:=I.cell y c e
  exact⟨v',z.sameBut hs (I.cne y c e)⟩
 ·obtain ⟨e,n,ne,nf,d⟩:=I.pin p hp
  exact⟨(hs.2 p.1 ne).trans e,n,ne,nf,d⟩
 ·refine (I.hok b ob e).stay (fun c w' hc q=>(hs.2 c ?_).trans q) (fun _ q=>q) fun _ _ q=>q
  rintro rfl
  rcases hc with rfl | hc
  ·rw[I.free]at e;cases e
  ·rw[I.free]at hc;cases hc
end
abbrev NwT(X:Cx)(Aa:eL):Addr->Prop:=λb=>X.s₀.heap.get? b=none/\∀p∈X.pn++Aa,p.1≠b
abbrev q9(X:Cx)(Aa:eL)(σ:St)(Qe:Value->Hp->Prop):Cx:={ X with pn:=X.pn++Aa,xe:=λe s'=>∃ea cls H',e=.ref ea/\Inv X Aa σ H' s'/\Air (NwT X Aa) s'.heap H' ea cls/\Qe cls H' }
section
variable{X:Cx}{Aa:eL}{σ:St}{H:Hp}{s:Shared}{Qe:Value->Hp->Prop}
theorem Inv.inTry{σ0:St}(I:Inv X Aa σ H s):Inv (q9 X Aa σ0 Qe) [] σ H s:=
 ⟨⟨I.ok.mod,I.ok.kind,I.ok.glob,I.ok.blt,I.ok.above,I.ok.inj,I.ok.has,I.ok.cab,I.ok.hd,I.ok.frames,I.ok.stk,I.ok.exf,I.ok.bs,I.ok.bsz,I.ok.noex,I.ok.exfs,I.ok.funs,I.ok.frf⟩,I.os,I.bare,I.base,I.loc,I.cell,I.free,I.freeC,λp hp=>I.pin p (by simpa using hp),I.hok,I.len⟩
theorem Inv.outTry{σ0:St}{pins':eL}(I:Inv (q9 X Aa σ0 Qe) pins' σ H s):Inv X Aa σ H s:=
 ⟨⟨I.ok.mod,I.ok.kind,I.ok.glob,I.ok.blt,I.ok.above,I.ok.inj,I.ok.has,I.ok.cab,I.ok.hd,I.ok.frames,I.ok.stk,I.ok.exf,I.ok.bs,I.ok.bsz,I.ok.noex,I.ok.exfs,I.ok.funs,I.ok.frf⟩,I.os,I.bare,I.base,I.loc,I.cell,I.free,I.freeC,λp hp=>I.pin p (aX _ hp),I.hok,I.len⟩
end
abbrev XQ:=En->(En->Prop)->(Value->En->Prop)->Prop
def tXQ(F:Fm)(σ0:St)(Qe:Value->Hp->Prop)(q:XQ):TS:=λD σ H=>σ=σ0/\∃ρ fr Qx Qe',EOk F ρ σ fr H/\q ρ Qx Qe'/\(∀σ' H' ρ',σ'.length=σ.length->EOk F ρ' σ' fr H'->Qx ρ'->D.nx σ' H')/\∀c H' ρ',EOk F ρ' σ fr H'->Qe' c ρ'->Qe c H'
def XQs(X:Cx)(sts:List Stmt)(q:XQ):Prop:=∀Aa σ0 Qe F,PSs (q9 X Aa σ0 Qe) sts (tXQ F σ0 Qe q)
section
variable{X:Cx}{Aa:eL}{σ0:St}{Qe:Value->Hp->Prop}{F:Fm}{g:GE}{u:XA}
def aCd(F:Fm)(σ0:St)(Qe:Value->Hp->Prop)(g:GE)(u:XA):TE:=λσ H Q=>σ=σ0/\∃(ρ:En) (fr:List Rw) (Qx:Sv->En->Prop) (Qe':Value->En->Prop),EOk F ρ σ fr H/\(u ρ λss ρ'=>g (ss.map Sv.d) (λs=>Qx s ρ') (λc=>Qe' c ρ'))/\(∀v s H' ρ',EOk F ρ' σ ((.v s,some v)::fr) H'->Qx s ρ'->Q v H')/\∀c H' ρ',EOk F ρ' σ fr H'->Qe' c ρ'->Qe c H'
theorem aDu{j:Nat}{x:Str}{ps:List Str}{e:Expr}{es:List Expr}{p pos:Pos}(C:CalE X.prog X.w X.K X.mg X.base j x ps (spE g))(hr:Room j X.A)(ha:XAs (q9 X Aa σ0 Qe) fZ (e::es) u)(hex:X.ex=[]:=by rfl)(hg:Gl X x:=by rfl)(B2:(x == ("__debug__" : Str))=false:=by decide)
  (he:starEach (e::es) X.env=(false,eval e X.env)::starEach es X.env:=by rfl) (A9:(backTo pos (starEach es X.env)).any (·.1)=false:=by rfl):PE (q9 X Aa σ0 Qe) (.Call (.Name x p) (e::es) [] pos) (aCd F σ0 Qe g u):=by
 obtain⟨f,fd,G,hb,hk,hm⟩:=C
 intro pins' s σ H Q I h
 obtain⟨rfl,ρ,fr,Qx,Qe',E,q,k1,k2⟩:=h
 refine wpAny_Call_Name_kw (ic_ I hg hm ?_ B2)
 refine PySem.W.callWith_K (h₀:=X.base) I.ok.mod.kin hk (dN (ha F pos pins' s σ H (λvs H1=>spE g vs H1 Q (λc _ H'=>Qe c H')) I ⟨ρ,fr,_,E,q,λvs ss H2 ρ2 hl E2 q2=>?_⟩) λus s1 ⟨vs,H1,I1,r,q⟩=>⟨I1.kIn,?_⟩) he A9
 ·obtain ⟨R,hs⟩:=E2.many hl
  exact⟨_,_,_,λc=>Qe' c ρ2,R.hv,hs,q2,λs v H' e hr q=>k1 v s H' ρ2 (EOk.back E2.len (R.res e hr)) q,λc H' e q=>k2 c H' ρ2 ⟨E2.len,R.grow e⟩ q⟩
 ·have hl:=G.len _ _ _ _ q
  have Ch:us.length=ps.length:=by rw[<-r.length];exact hl
  refine wpAny_call (codeAny_mono (G.run X.A X.stack s1 H1 ⟨us,[]⟩ us vs Q _ hr I1.env0 (by have:=hb s1 us I1.kIn (by rw[aS];exact Ch);rwa [aS]at this) r q) λr s' hq=>?_)
  cases r with
  |error e =>
   obtain⟨ea,cls,H',rfl,os,bare,un,hok,air,hx⟩:=hq
   refine⟨ea,cls,H',rfl,Inv.outTry (Inv.thrown I1 os bare un hok),air.older λb hb=>⟨?_,λp hp z=>?_⟩,hx⟩
   ·cases qq:X.s₀.heap.get? b with
    |none=>rfl
    |some o =>
     obtain⟨o',e'⟩:=I1.base.there b o qq (by show b∉X.ex;rw[hex];simp)
     rw[hb]at e';cases e'
   ·obtain ⟨e1,_⟩:=I1.pin p (aX _ hp)
    rw[z,hb]at e1;cases e1
  |ok fl =>
   cases fl with
   |ret v=>exact I1.after hq
   |next=>exact False.elim hq
   |brk=>exact False.elim hq
   |cont=>exact False.elim hq
end
def aVr(i:Nat)(g:GE)(u:XA):XQ:=λρ N Qe=>u ρ λss ρ'=>g (ss.map Sv.d) (λs=>N (ρ'.set i (.v s))) (λc=>Qe c ρ')
section
variable{X:Cx}{st:Stmt}{i:Nat}{g:GE}{u:XA}{q r:XQ}{e c:Expr}{tc:XC}{pos:Pos}
theorem aPp(h:∀Aa σ0 Qe F,PS (q9 X Aa σ0 Qe) st (vJ (aCd F σ0 Qe g u) (jN i))):XQs X [st] (aVr i g u):=λAa σ0 Qe F=>(d_ (h Aa σ0 Qe F)).weak λD σ H=>by
 rintro⟨rfl,ρ,fr,Qx,Qe',E,q,k1,k2⟩
 exact⟨rfl,ρ,fr,λs ρ'=>Qx (ρ'.set i (.v s)),Qe',E,q,λv s H' ρ' E' q'=>k1 _ H' _ bI (if_ E') q',k2⟩
end
def xH(base:Heap)(C D:Addr):Prop:=∃nm q N bs bm hdct sn sub ab col dd k0 k1 k2 k3 k5 newId,base.get? C=some (excClassObj nm q C N bs bm hdct sn sub ab col dd k0 k1 k2 k3 k5 newId)/\(Value.ref C::bm).contains (.ref D)=true
section
variable{M:Model}{A:Around}{E:gV}{h:Heap}{g:Array GenState}{d:Drawn}{t:Nat}{os:OsState}
theorem pT{C D e:Addr}{oe:Obj}{Q:Bool->Shared->Prop}{nm q:Str}{N:Addr}{bs bm:List Value}{hdct:Bool}{sn:List Str}{sub:List Value}{ab:Bool}{col:Option Bool}{dd:Option Addr}{k0 k1 k2 k3 k5:Option Value}{newId:String}
  {nm' q':Str} {N':Addr} {bs' bm':List Value} {Gp:Bool} {sn':List Str} {sub':List Value} {ab':Bool} {col':Option Bool} {dd':Option Addr} {k0' k1' k2' k3' k5':Option Value} {newId':String}
  (hC:h.get? C=some (excClassObj nm q C N bs bm hdct sn sub ab col dd k0 k1 k2 k3 k5 newId)) (hD:h.get? D=some (excClassObj nm' q' D N' bs' bm' Gp sn' sub' ab' col' dd' k0' k1' k2' k3' k5' newId')) (he:h.get? e=some oe) (Dy:oe.cls=.ref C)
  (A1:bm'.contains (.type "BaseException")=true) (C2:(Value.ref C::bm).contains (.ref D)=true) (hq:Q true ⟨h,g,d,t,os⟩):wpAny M A (excMatches (.ref e) (.ref D)) Q E ⟨h,g,d,t,os⟩:=by
 have hcB:(Value.ref D::bm').contains (.type "BaseException")=true:=by rw[List.contains_cons,A1,Bool.or_true]
 have f:=tc_notTuple
 unfold excMatches
 repeat (first | (with_reducible refine wpAny_loadPart_at he ?_;rw[Dy]) | with_reducible refine wpAny_loadPart_at hD ?_ | (with_reducible refine wpAny_isSubtype_exc hD ?_;rw[hcB]) | (with_reducible refine wpAny_isSubtype_exc hC ?_;rw[C2]) | wp_step)
 exact hq
end
abbrev aGe(X:Cx)(ea:Addr):Cx:={ X with A:=X.A.mark (some (.ref ea)),calm:=false,xe:=λ_ _=>False }
section
variable{X:Cx}{Aa:eL}{σ:St}{H:Hp}{s:Shared}{ea:Addr}
theorem Inv.inExc(I:Inv X Aa σ H s):Inv (aGe X ea) Aa σ H s:=
 ⟨⟨I.ok.mod,I.ok.kind,I.ok.glob,I.ok.blt,I.ok.above,I.ok.inj,I.ok.has,I.ok.cab,(λz=>nomatch z),I.ok.frames,I.ok.stk,I.ok.exf,I.ok.bs,I.ok.bsz,I.ok.noex,I.ok.exfs,I.ok.funs,I.ok.frf⟩,I.os,I.bare,I.base,I.loc,I.cell,I.free,I.freeC,I.pin,I.hok,I.len⟩
theorem Inv.outExc(ok:X.Ok)(I:Inv (aGe X ea) Aa σ H s):Inv X Aa σ H s:=⟨ok,I.os,I.bare,I.base,I.loc,I.cell,I.free,I.freeC,I.pin,I.hok,I.len⟩
end
def bBv(M:Value->Prop)(jn:Nat)(q:XQ)(K:XS):XS:=λρ D=>q ρ D.nx λc ρ'=>M c/\K (ρ'.set jn (vT (.exc c))) ⟨λρ2=>D.nx (ρ2.set jn .un),λs ρ2=>D.rt s (ρ2.set jn .un),λρ2=>D.bk (ρ2.set jn .un),λρ2=>D.ct (ρ2.set jn .un)⟩
theorem jc_{F:Fm}{ρ:En}{σ:St}{fr:List Rw}{H:Hp}{i:Nat}(E:EOk F ρ σ fr H):EOk F (ρ.set i .un) (σ.set i none) fr H:=by
 by_cases hi:i<ρ.length
 ·refine ⟨by rw [bI,bI]; exact E.len,?_⟩
  have hz:=aDg (l:=ρ.zip σ) (i:=i) (aR (by rw[List.length_zip];have:=E.len;omega))
  have R:=E.rep.perm (hz.append_right fr)
  exact(R.tail.addU (x:=none)).perm ((mP E.len hi).append_right fr).symm
 ·rw [cM (by omega),cM (by have:=E.len; omega)]
  exact E
theorem aPn{body suite:List Stmt}{b₀:Stmt}{cn n:Str}{jn:Nat}{Cc:Addr}{q:XQ}{K:XS}{cp hp pos:Pos}(hq:XQs X body q)(O:bAk X cn Cc)(Cf:X.stack=X.env::X.outer)(Co:X.env.frame=some X.env.locals)(hgc:Gl X cn)(hN:X.N.Nodup)(hi:X.N[jn]? = some n)(hk:X.env.kindOf n=some .local)
  (hh:∀ea,XSs (aGe X ea) fZ (b₀::suite) K) (B2:(cn == ("__debug__" : Str))=false:=by decide) (hf:X.fn n=true\/X.env.scope.names.lookup n=some .local:=by first | exact .inl rfl | exact .inr rfl) :
  XSt X Ex (.Try body [.ExceptHandler (some (.Name cn cp)) (some n) (b₀::suite) hp] [] [] pos) (bBv (λc=>∃C,c=.ref C/\xH X.base C Cc) jn q K):=λF _ Aa s σ H D I h=>by
 obtain⟨ρ,fr,d,E,t,k⟩:=h
 let Qe:Value->Hp->Prop:=λc H'=>∃ρ',EOk F ρ' σ fr H'/\(∃C,c=.ref C/\xH X.base C Cc)/\K (ρ'.set jn (vT (.exc c))) ⟨λρ2=>d.nx (ρ2.set jn .un),λs ρ2=>d.rt s (ρ2.set jn .un),λρ2=>d.bk (ρ2.set jn .un),λρ2=>d.ct (ρ2.set jn .un)⟩
 refine wpAny_Try_except (wpAny_mono (hq Aa σ Qe F [] s σ H ⟨D.nx,λ_ _=>False,λ_ _=>False,λ_ _=>False⟩ (Inv.inTry I) ⟨rfl,ρ,fr,d.nx,_,E,t,λσ' H' ρ' hl E' q'=>k.nx σ' H' ρ' hl E' q',λc H' ρ' E' q'=>⟨ρ',E',q'⟩⟩) (λf s₁ h₁=>?_) λe s₁ h₁=>?_)
 ·cases f with
  |next =>
   obtain⟨σ',H',I',q'⟩:=h₁
   exact wpAny_execs_nil ⟨σ',H',Inv.outTry I',q'⟩
  |brk=>obtain⟨_,_,_,q'⟩:=h₁;exact q'.elim
  |cont=>obtain⟨_,_,_,q'⟩:=h₁;exact q'.elim
  |ret u=>obtain⟨_,_,_,_,_,q'⟩:=h₁;exact q'.elim
 ·obtain ⟨ea,cls,H',rfl,I1,air,ρ',E1,⟨C,rfl,hUn⟩,hK⟩:=h₁
  have fr1:X.A.frames=some (X.env::X.outer):=by rw[<-Cf];exact I1.ok.frames
  refine vZ (base:=X.base) (nw:=NwT X Aa) (H:=H') (L:=X.env.locals) fr1 (by rw[<-Cf];exact I1.stack) Co (λT hT=>⟨Heap.get?_none_of_le (nzL I1.sz hT),λp hp z=>?_⟩) (λa ha=>I1.hok.fresh ha) air λh2 S hS kx air2=>?_
  ·obtain ⟨e1,_⟩:=I1.pin p hp
   exact absurd (bH e1) (by rw[z];exact Nat.not_lt.mpr hT)
  have I2:Inv X Aa σ H' { s₁ with heap:=h2 }:=Inv.noted (t':=s₁.toks) I1 (by rw[Cf];exact kx) hS
  generalize D3:({ s₁ with heap:=h2 }:Shared)=s₂ at I2 ⊢
  have air3:Air (NwT X Aa) s₂.heap H' ea (.ref C):=by rw[<-D3];exact air2
  clear air2 D3 kx hS I1
  obtain⟨nm,qn,N,bs,bm,hdct,sn,sub,ab,col,dd,k0,k1,k2,k3,k5,newId,hC,C2⟩:=hUn
  obtain⟨tl,N',nm',qn',bs',Gp,sn',sub',ab',col',dd',k0',k1',k2',k3',k5',mN',hD,hN',hni',T'⟩:=O.obj
  obtain⟨nw,Jz,oe,vs,he,hc,hd,D8,hsz,a3⟩:=air3
  refine wpAny_handleBy_cons (codeAny_handlers_test (ic_ (X:=aGe X ea) (Inv.inExc I2) hgc O.bound ?_ B2)) (by intro z;cases z)
  obtain⟨Gy,g2,d2,t2,Jt⟩:=s₂
  refine pT (I2.bk _ _ hC) (I2.bk _ _ hD) he hc (T'.hasType PySem.F.excBase_ValueError.hasBase) C2 ?_
  rw[if_pos rfl]
  refine codeAny_handlers_suite_as ?_
  have fl:∀{Q:Unit->Shared->Prop} {E':gV},(∀h3,Inv X Aa σ H' ⟨h3,g2,d2,t2,Jt⟩->(∃o vs,h3.get? ea=some o/\o.cls=.ref C/\o.data=.fields vs/\o.dict=none)->Q () ⟨h3,g2,d2,t2,Jt⟩)->wpAny (model X.prog X.w) (X.A.mark (some (.ref ea))) (setFlight (.ref ea) none) Q E' ⟨Gy,g2,d2,t2,Jt⟩:=λ{Q E'} hQ=>by
   rcases a3 with a3 | ⟨T,oT,ts,a3,aT,aN,aH,hT,Eo,h3⟩
   ·unfold setFlight
    refine wpAny_bind (wpAny_field he hd a3 ?_)
    rw[if_neg (by decide)]
    exact wpAny_pure (hQ Gy I2 ⟨oe,vs,he,hc,hd,D8⟩)
   ·refine wpAny_setFlight_none he hd a3 hT Eo h3 (hQ _ ?_ ⟨oe,vs,?_,hc,hd,D8⟩)
    ·refine Inv.noted (s:=⟨Gy,g2,d2,t2,Jt⟩) (S:=[T]) (t':=t2) I2 (fun b o hb Ht => ?_) (fun b hb=>by rw [aG.mp hb]; exact ⟨aN,aH,oT,ts,hT,Eo⟩)
     have n2:b≠T:=λz=>Ht (aG.mpr z)
     have e2:=(cD Gy (Obj.mapFields (·.setIfInBounds 3 Value.none)) (Ne.symm n2)).trans hb
     exact⟨λ_=>e2,o.slots,e2⟩
    ·exact(cD _ _ aT).trans he
  refine fl λh3 I3 ⟨o3,vs3,he3,hc3,hd3,Lj⟩=>?_
  have I4:=Inv.caught I3 nw Jz he3 hc3 hd3 Lj
  refine jf_ (X:=aGe X ea) (v:=.ref ea) (Inv.inExc I4) hN hi (.inl hk) rfl (λs5 I5 _=>?_) hf
  have e4:Same H' (upd H' ea (.ext (wT ea (.ref C)))):=oP Jz _
  have E4:=E1.grow e4
  have E5:EOk F (ρ'.set jn (vT (.exc (.ref C)))) (σ.set jn (some (.ref ea))) fr (upd H' ea (.ext (wT ea (.ref C)))):=by
   refine if_ (EOk.back E4.len (E4.rep.add (IsX.of_exc (bB.mpr ⟨E1.rep.not_own Jz,(nM (E1.rep.fresh Jz)).trans ?_⟩))))
   rw[xD];rfl
  have z9:DOk F (σ.set jn (some (.ref ea))).length fr ⟨λσ' H2=>D.nx (σ'.set jn none) H2,λv H2=>D.rt v H2,λσ' H2=>D.bk (σ'.set jn none) H2,λσ' H2=>D.ct (σ'.set jn none) H2⟩ ⟨λρ2=>d.nx (ρ2.set jn .un),λs ρ2=>d.rt s (ρ2.set jn .un),λρ2=>d.bk (ρ2.set jn .un),λρ2=>d.ct (ρ2.set jn .un)⟩:=by
   have hl:(σ.set jn (some (.ref ea))).length=σ.length:=bI
   refine⟨λσ' H2 ρ2 h1 h2 h3=>k.nx _ H2 _ (by rw[bI,h1,hl]) (jc_ h2) h3,λv s σ' H2 ρ2 h1 h2 h3=>k.rt v s (σ'.set jn none) H2 _ (by rw[bI,h1,hl]) (jc_ h2) h3,λσ' H2 ρ2 h1 h2 h3=>k.bk _ H2 _ (by rw[bI,h1,hl]) (jc_ h2) h3,λσ' H2 ρ2 h1 h2 h3=>k.ct _ H2 _ (by rw[bI,h1,hl]) (jc_ h2) h3⟩
  refine wpAny_mono (hh ea F Aa s5 _ _ _ I5 ⟨_,fr,_,E5,hK,z9⟩) (λf s6 h6=>?_) λ_ _ z=>False.elim z
  cases f with
  |next =>
   obtain⟨σ',H2,I6,q6⟩:=h6
   exact hi_ (Inv.outExc I4.ok I6) hN hi hk λs7 I7=>⟨_,H2,I7,q6⟩
  |brk =>
   obtain⟨σ',H2,I6,q6⟩:=h6
   exact hi_ (Inv.outExc I4.ok I6) hN hi hk λs7 I7=>⟨_,H2,I7,q6⟩
  |cont =>
   obtain⟨σ',H2,I6,q6⟩:=h6
   exact hi_ (Inv.outExc I4.ok I6) hN hi hk λs7 I7=>⟨_,H2,I7,q6⟩
  |ret u =>
   obtain⟨v,σ',H2,I6,rv,q6⟩:=h6
   exact hi_ (Inv.outExc I4.ok I6) hN hi hk λs7 I7=>⟨v,_,H2,I7,rv,q6⟩
end Lf
namespace PySem.W
open PySem PySem.Spec PySem.Calls PyProof.Rows
section
variable{prog:Program}{w:World}{A:Around}{E:gV}{s:Shared}{K:Frag}{x C D:Addr}{ox:Obj}{od:Obj}{odo:Option Obj}{name:Str}
theorem v9{M:Model}{nameV:Value}{Q:Unit->Shared->Prop}(X:K.In s.heap)(I:InstAt s.heap x ox D odo)(hm:mroIn K D (.type "BaseException")=some true)(hq:Q () s):wpAny M A (checkBuiltinCall "BaseException.__getattribute__" ⟨[.ref x,nameV],[]⟩) Q E s:=by
 have hk:builtinKind "BaseException.__getattribute__" = some .slot:=by decide +kernel
 have Gx:splitId "BaseException.__getattribute__" = some ("BaseException","__getattribute__"):=by decide +kernel
 have ha:=F.args_bexc_ga (.ref x) nameV
 have L0:=I.type (M:=M)
 have L1:=looks_mroIn (M:=M) X hm
 obtain⟨hh,g,d,t,os⟩:=s
 simp only[checkBuiltinCall,hk,Gx]
 refine wpAny_bind ?_
 unfold isInstance
 refine wpAny_bind (L0.at (L1.at ?_))
 repeat (first | assumption | wp_step)
theorem v8{Q:Option Value->Shared->Prop}(X:K.In s.heap)(I:InstAt s.heap x ox D odo)(J1:findIn K (.ref D) "__getattribute__" = some (some (.builtin "BaseException.__getattribute__")))(hk:findIn K (.ref D) "__getattr__" = some none)
  (hm:mroIn K D (.type "BaseException")=some true) (hmo:mroIn K D (.type "object")=some true) (hf:findObj K D odo "__class__" = some (.bind (.builtin "getset_descriptor.__get__") (.builtin "object.__class__")))
  (h:Q (some (.ref D)) { s with toks:=s.toks+1 }):wpAny (model prog w) A (getAttr? (.ref x) "__class__") Q E s:=by
 have GA:=(F.excAttr_ValueError).ga
 obtain⟨hh,g,d,t,os⟩:=s
 have L0:=I.type (M:=model prog w)
 have L1:=looks_findIn (M:=model prog w) X J1
 have L2:=looks_findIn (M:=model prog w) X hk
 have L3:=looks_find (M:=model prog w) X I hf
 have f3:=GA.bind (.ref x)
 unfold getAttr? getAttrBy? getAttrBy
 refine wpAny_bind (wpAny_mkText (wpAny_bind (wpAny_attempt (wpAny_holding (wpAny_bind (L0.at (wpAny_bind (L1.at ?_))))))))
 dsimp only
 rw[if_neg (show ¬(onTheHeap (Value.ref D)&&(Value.builtin "BaseException.__getattribute__" == Value.builtin "object.__getattribute__"))=true from by rw[show(Value.builtin "BaseException.__getattribute__" == Value.builtin "object.__getattribute__")=false from by decide +kernel,Bool.and_false];exact aW)]
 unfold getAttrByItsOwn hookBefore
 rw[if_pos (show onTheHeap (Value.ref D)=true from rfl)]
 refine wpAny_bind (L2.at (wpAny_bind (wpAny_attempt (wpAny_holding ?_))))
 unfold callGetattribute
 rw[if_neg (by decide)]
 unfold boundAndCalled
 repeat (any_goals (first | assumption | wp_step))
 refine codeAny_call_builtin GA.plain F.entry_bexc_ga (v9 (s:=⟨hh,g,d,t+1,os⟩) X I hm ?_)
 unfold Builtin.«object.__getattribute__»
 repeat (any_goals (first | assumption | with_reducible refine wpAny_bind (L0.at ?_) | with_reducible refine wpAny_bind (L3.at ?_) | wp_step))
 refine class_get (s:=⟨hh,g,d,t+1,os⟩) X I hmo ?_
 repeat (any_goals (first | assumption | wp_step))
theorem kitx_exc{x D:Addr}(hk:excKit K D=true):KitX K (.ref x) (.ref D) (λh=>∃ox,InstAt h x ox D none):=by
 simp only[excKit,bY,beq_iff_eq]at hk
 obtain⟨⟨⟨⟨⟨⟨h1,h2⟩,h3⟩,h4⟩,h5⟩,h6⟩,h7⟩:=hk
 have Dy:∃cd,clsIn K D=some cd:=by
  obtain⟨cd,a,_⟩:=aP.mp h3
  exact⟨cd,a⟩
 obtain⟨cdD,Ga⟩:=Dy
 have hf:findObj K D none "__class__" = some (.bind (.builtin "getset_descriptor.__get__") (.builtin "object.__class__")):=by
  unfold findObj
  rw[Ga,bK,h5,bK]
  simp[h6,h7]
 refine⟨λ_ _ _ ⟨ox,I⟩=>I.type,λ_ _ X _=>?_,λh tp dd its n sl X htp=>?_,λ{_ _ _ _ _ _} X ⟨ox,I⟩ k=>v8 X I h1 h2 h3 h4 hf k⟩
 ·unfold clsIn at Ga
  split at Ga
  ·rename_i c' d' cd' sl' ho
   intro A' Q' E' s' k q
   unfold isType loadHead
   exact wpAny_bind (wpAny_loadPart (k _ _ (X _ _ ho)) (wpAny_pure q))
  ·cases Ga
 ·refine Bool.eq_false_iff.mpr fun q => ?_
  have e:D=tp:=Value.ref.inj (beq_iff_eq.mp q)
  subst e
  unfold clsIn at Ga
  split at Ga
  ·rename_i c' d' cd' sl' ho
   have z:=(X _ _ ho).symm.trans htp
   cases z
  ·cases Ga
end
end PySem.W
namespace Lf
open PySem L2
open PySem.W (Frag nsIn)
section
variable{K:Frag}{h:Heap}
theorem qY{N:Addr}{n:Str}(e:tT K N n=true)(X:K.In h):∃m,h.Ns N m/\m n=none:=by
 unfold tT at e
 split at e
 ·rename_i c d es ep sl q
  obtain⟨e1,e2⟩:=fK.mp e
  refine⟨nsFind es,⟨_,es,ep,X _ _ q,rfl,λen hen=>?_,λ_=>rfl⟩,?_⟩
  ·have:=cG.mp e1 en (by simpa using hen)
   split at this
   ·rename_i x t hk;exact⟨x,t,hk⟩
   ·cases this
  ·unfold nsFind findBy
   rw[<-Array.find?_toList]
   rw[Option.isNone_iff_eq_none]at e2
   rw[e2]
   rfl
 ·cases e
theorem nY:∀(k:Nat) (l:List Value),fS K k l=true->K.In h->OwnTail h veM l
  | 0, l, e, X => by
    have:l=veM:=by simpa [fS]using e
    rw[this];exact .base
  | k + 1, [], e, X => by
    have:([]:List Value)=veM:=by simpa [fS]using e
    rw[this];exact .base
  | k + 1, v :: r, e, X => by
    cases v with
    | ref A =>
      unfold fS at e
      split at e
      . rename_i c d cd sl q
        obtain⟨e1,e2⟩:=fK.mp e
        obtain⟨m,hm,hn⟩:=qY e1 X
        exact .own (X _ _ q) hm hn (nY k r e2 X)
      . cases e
    | none => have : Value.none :: r = veM := by simpa [fS] using e
              cases this
    | bool b => have : Value.bool b :: r = veM := by simpa [fS] using e
                cases this
    | int i t => have : Value.int i t :: r = veM := by simpa [fS] using e
                 cases this
    | str x t => have : Value.str x t :: r = veM := by simpa [fS] using e
                 cases this
    | bytes x t => have : Value.bytes x t :: r = veM := by simpa [fS] using e
                   cases this
    | float x t => have : Value.float x t :: r = veM := by simpa [fS] using e
                   cases this
    | builtin x => have : Value.builtin x :: r = veM := by simpa [fS] using e
                   cases this
    | type T => have : Value.type T :: r = veM := by simpa [fS] using e
                rw[this];exact .base
    |_=>first | (simp[fS]at e;done) | (exfalso;revert e;simp[fS])
theorem rN{C:Addr}{x:Str}{mg:kC}(e:lX K C=true)(hm:mg x=some (.ref C))(X:K.In h):PyProof.Rows.OwnCls x C veM "ValueError.__new__" mg h:=by
 unfold lX at e
 split at e
 ·rename_i dd cd sl q
  obtain⟨e1,_⟩:=fK.mp e
  split at e1
  ·rename_i C' tl Iw
   simp only[bY,beq_iff_eq]at e1
   obtain⟨⟨⟨⟨⟨rfl,h2⟩,h3⟩,h4⟩,h5⟩,h6⟩:=e1
   obtain⟨m,D4,Hm⟩:=qY h5 X
   have Eg:sl = #[sl.getD 0 none,sl.getD 1 none,sl.getD 2 none,sl.getD 3 none,some (.builtin "ValueError.__new__"),sl.getD 5 none]:=by
    apply Array.ext_getElem?
    intro i
    match i with
    | 0=>simp[h3]
    | 1=>simp[h3]
    | 2=>simp[h3]
    | 3=>simp[h3]
    | 4=>simp[h4]
    | 5=>simp[h3]
    |i+6=>rw[Array.getElem?_eq_none (by rw[h3];omega),Array.getElem?_eq_none (by simp)]
   refine⟨hm,tl,cd.ns,cd.name,cd.qualname,cd.bases,cd.hasDict,cd.slotNames,cd.subclasses,cd.abstract,cd.collection,dd,sl.getD 0 none,sl.getD 1 none,sl.getD 2 none,sl.getD 3 none,sl.getD 5 none,m,?_,D4,Hm,nY 4 tl h6 X⟩
   have:=X _ _ q
   rw[this]
   obtain⟨nm,bs,mro,ns,qn,hd,sn,sub,ab,col,hdel⟩:=cd
   dsimp only at Iw h2 ⊢
   subst Iw h2
   unfold excClassObj
   rw[<-Eg]
  ·cases e1
 ·cases e
theorem aAe{C:Addr}(e:lX K C=true):PySem.W.excKit K C=true:=by
 unfold lX at e
 split at e
 ·exact(fK.mp e).2
 ·cases e
theorem wZ{C D:Addr}(e:lX K C=true)(hu:p7 K C D=true)(X:K.In h):xH h C D:=by
 obtain⟨_,tl,N,nm,q,bs,hdct,sn,sub,ab,col,dd,k0,k1,k2,k3,k5,mN,hC,_⟩:=rN (x:= "x") (mg:=λ_=>some (.ref C)) e rfl X
 refine⟨nm,q,N,bs,tl,hdct,sn,sub,ab,col,dd,k0,k1,k2,k3,k5,_,hC,?_⟩
 unfold p7 at hu
 split at hu
 ·rename_i c d cd sl ql
  have:=X _ _ ql
  rw[hC]at this
  cases this
  exact hu
 ·cases hu
end
def isC(K:Frag)(c:Value):Dx->Option Bool
 | .non=>PySem.W.kitOne K (.type "NoneType") c
 | .exc (.ref C)=>if PySem.W.excKit K C=true then PySem.W.kitOne K (.ref C) c else none
 |_=>none
def w_(K:Frag)(cs:List Value):Dx->Option Bool
 | .non=>PySem.W.kitAny K (.type "NoneType") cs
 | .exc (.ref C)=>if PySem.W.excKit K C=true then PySem.W.kitAny K (.ref C) cs else none
 |_=>none
def xP(f:Dx->Option Bool)(t:XT):XT:=λρ Q=>t ρ λs ρ'=>match f s.d with
 |some b=>Q (.tr (.bl b)) ρ'
 |none=>False
theorem wS{X:Cx}{Aa:eL}{σ:St}{H:Hp}{s:Shared}{a C:Addr}(I:Inv X Aa σ H s)(h:H a=some (.ext (wT a (.ref C)))):∃ox,PySem.W.InstAt s.heap a ox C none:=by
 obtain⟨⟨o,vs,h1,h2,h3,h4⟩,_⟩:=(show ObjOk X.prog X.w H s.heap a (.ext (wT a (.ref C)))from I.hok a _ h)
 refine⟨o,h1,h2,?_,?_⟩
 ·unfold PySem.W.notCls;rw[h3]
 ·rw[h4];trivial
theorem aGv{X:Cx}{c:Value}{vc:V}(hv:∀u,RelV vc u->u=c):CallR X (.builtin "isinstance") (λxs H Q=>∃x d b,xs=[x,vc]/\IsX H d x/\isC X.K c d=some b/\Q (.bl b) H):=by
 intro Aa s σ H xs us Q I r h
 obtain⟨x,d,b,rfl,hx,hb,q⟩:=h
 obtain⟨u,w',rfl,r1,r2⟩:=qU r
 cases hv _ r2
 cases d with
 |non=>cases hx.non_eq;cases(show u=Value.none from r1);exact PySem.W.kia_one PySem.W.kitx_none I.kIn True.intro hb (λz=>nomatch z) (λtk=>⟨.bl _,H,I.tok _,rfl,q⟩)
 |exc e =>
  cases e with
  |ref C =>
   simp only[isC]at hb
   split at hb
   ·rename_i hk
    obtain⟨a,rfl,h1⟩:=hx.exc_eq
    cases(show u=Value.ref a from r1)
    exact PySem.W.kia_one (PySem.W.kitx_exc hk) I.kIn (wS I h1) hb (λz=>nomatch z) (λtk=>⟨.bl _,H,I.tok _,rfl,q⟩)
   ·cases hb
  |_=>cases hb
 |_=>cases hb
theorem aAo{X:Cx}{cs:List Value}{vcs:List V}(hv:∀us,Vals vcs us->us=cs):CallR X (.builtin "isinstance") (λxs H Q=>∃x d b p,xs=[x,.ref p]/\IsX H d x/\H p=some (.tup vcs)/\w_ X.K cs d=some b/\Q (.bl b) H):=by
 intro Aa s σ H xs us Q I r h
 obtain⟨x,d,b,p,rfl,hx,hp,hb,q⟩:=h
 obtain⟨u,w',rfl,r1,r2⟩:=qU r
 cases r2
 obtain⟨_,its,rv,o,h2,h3,n',h4⟩:=(show ObjOk X.prog X.w H s.heap p (.tup vcs)from I.hok p _ hp)
 have ei:=hv its rv
 subst ei
 obtain⟨cls,dd,data,sl⟩:=o
 dsimp only at h3 h4
 subst h3 h4
 cases d with
 |non=>cases hx.non_eq;cases(show u=Value.none from r1);exact PySem.W.kia_tup PySem.W.kitx_none I.kIn True.intro h2 hb (λz=>nomatch z) (λtk=>⟨.bl _,H,I.tok _,rfl,q⟩)
 |exc e =>
  cases e with
  |ref C =>
   simp only[w_]at hb
   split at hb
   ·rename_i hk
    obtain⟨a,rfl,h1⟩:=hx.exc_eq
    cases(show u=Value.ref a from r1)
    exact PySem.W.kia_tup (PySem.W.kitx_exc hk) I.kIn (wS I h1) h2 hb (λz=>nomatch z) (λtk=>⟨.bl _,H,I.tok _,rfl,q⟩)
   ·cases hb
  |_=>cases hb
 |_=>cases hb
theorem aBk{e:Expr}{t:XT}{nm:Str}{p q pos:Pos}{c:Value}{vc:V}(K:Frag)(hm:X.mg "isinstance" = none)(h:XE X Ex e t)(hT:PE X (.Name nm q) (tC vc))(hv:∀u,RelV vc u->u=c)(hK:X.K=K:=by rfl)(hg:Gl X "isinstance":=by rfl)
  (he:starEach [e,.Name nm q] X.env=(false,eval e X.env)::starEach [.Name nm q] X.env:=by rfl) (F4:starEach [.Name nm q] X.env=(false,eval (.Name nm q) X.env)::starEach [] X.env:=by rfl) (A9:(backTo pos (starEach [.Name nm q] X.env)).any (·.1)=false:=by rfl):XE X Ex (.Call (.Name "isinstance" p) [e,.Name nm q] [] pos) (xP (isC K c) t):=λF=>by
 subst hK
 exact(iz_ (aGv hv) hg hm fp_ (kS (h F) (kS hT uL F4) he) (by decide) (by decide) he A9).weak λσ H Q=>by
  rintro⟨ρ,fr,Qx,E,t,k⟩
  refine⟨ρ,fr,_,E,t,λv s H' ρ' E' q=>?_⟩
  obtain⟨R,hx⟩:=E'.one
  split at q
  ·rename_i b hb
   exact⟨v,s.d,b,rfl,hx.to R.hv,hb,k _ _ H' ρ' (EOk.back E'.len (R.add (IsX.of_bl _))) q⟩
  ·exact q.elim
theorem aHy{e:Expr}{es:List Expr}{t:XT}{p q3 pos:Pos}{j:Nat}{cs:List Value}{vcs:List V}{ta:TA}(K:Frag)(hm:X.mg "isinstance" = none)(h:XE X Ex e t)(hT:PA X es ta)(ht:∀σ H Q,Q vcs H->ta σ H Q)(hv:∀us,Vals vcs us->us=cs)(hl:vcs.length<=1000)(hK:X.K=K:=by rfl)(hg:Gl X "isinstance":=by rfl)
  (he:starEach [e,.Tuple es j q3] X.env=(false,eval e X.env)::starEach [.Tuple es j q3] X.env:=by rfl) (F4:starEach [.Tuple es j q3] X.env=(false,eval (.Tuple es j q3) X.env)::starEach [] X.env:=by rfl)
  (A9:(backTo pos (starEach [.Tuple es j q3] X.env)).any (·.1)=false:=by rfl):XE X Ex (.Call (.Name "isinstance" p) [e,.Tuple es j q3] [] pos) (xP (w_ K cs) t):=λF=>by
 subst hK
 exact(iz_ (aAo hv) hg hm fp_ (kS (h F) (kS (aDo hT) uL F4) he) (by decide) (by decide) he A9).weak λσ H Q=>by
  rintro⟨ρ,fr,Qx,E,t,k⟩
  refine⟨ρ,fr,_,E,t,λv s H' ρ' E' q=>ht _ _ _ ⟨by have:=fW;omega,λp hp=>?_⟩⟩
  obtain⟨R,hx⟩:=E'.one
  have e:Same H' (upd H' p (.tup vcs)):=oP hp _
  have R2:=R.grow e
  split at q
  ·rename_i b hb
   exact⟨v,s.d,b,p,rfl,(hx.to R.hv).to e,xD,hb,k _ _ _ ρ' (EOk.back E'.len (R2.add (IsX.of_bl _))) q⟩
  ·exact q.elim
end Lf
namespace L2
open PySem PySem.Spec PySem.SeqAt PySem.AutoSeq1 PySem.MeetsSeq PyProof.Rows
section
variable{A:Around}{s:Shared}
def DictH(h:Heap)(l:Addr):Prop:=∃es n dd sl,h.get? l=some { cls:=.type "dict",dict:=dd,data:=.dict es n,slots:=sl }
theorem DictH.of{P:Program}{w:World}{h:Heap}{a:Addr}{vs}(d:h.DictOf (fF P w) a vs):DictH h a:=by
 obtain⟨⟨cls,dd,data,sl⟩,es,ep,ho,⟨e1,_,_⟩,e2,_⟩:=d
 simp only at e1 e2
 subst e1 e2
 exact⟨_,_,_,_,ho⟩
end
end L2
namespace L2
open PySem PySem.Spec PySem.SeqAt PyProof.Rows
section
variable{X:Cx}
theorem Inv.dictH{Aa:eL}{σ:St}{H:Hp}{s:Shared}{a:Addr}{ws:List (Key×V)}(I:Inv X Aa σ H s)(h:H a=some (.dK ws)\/∃o,H a=some (.frz o (.dK ws))):DictH s.heap a:=by
 rcases h with h | ⟨o,h⟩
 ·obtain ⟨_,_,vs,_,d⟩:=(show ObjOk X.prog X.w H s.heap a (.dK ws) from I.hok a _ h)
  exact DictH.of d
 ·obtain ⟨_,_,_,vs,_,d⟩:=(show ObjOk X.prog X.w H s.heap a (.frz o (.dK ws)) from I.hok a _ h)
  exact DictH.of d
end
end L2
namespace Lf
open PySem L2
open PySem.W (Frag nsIn)
def aSs(K:Frag)(ns:List Str)(n:Str):OX:=match lH K n with
 |some C=>(lX K C,ns.map (λm=>match lH K m with | some D=>(PySem.W.kitOne K (.ref C) (.ref D),p7 K C D) | none=>(none,false)),PySem.W.kitOne K (.ref C) (.type "ValueError"),PySem.W.kitOne K (.type "NoneType") (.ref C))
 |none=>(false,[],none,none)
theorem aKv(K:Frag)(ns:List Str):aSr K ns=ns.map (aSs K ns):=rfl
structure ClsX(K:Frag)(mg:kC)(n:Str)(C:Addr):Prop where
 at':lH K n=some C
 m:mg n=some (.ref C)
 ok:lX K C=true
theorem kb_{K:Frag}{ns:List Str}{n:Str}{l:List (Option Bool×Bool)}{a b:Option Bool}{h:Heap}{mg:kC}(e:aSs K ns n=(true,l,a,b))(X:K.In h)(G:h.Ns mainGlobals mg):∃C,ClsX K mg n C/\l=ns.map (λm=>match lH K m with | some D=>(PySem.W.kitOne K (.ref C) (.ref D),p7 K C D) | none=>(none,false))/\PySem.W.kitOne K (.ref C) (.type "ValueError")=a/\PySem.W.kitOne K (.type "NoneType") (.ref C)=b:=by
 unfold aSs at e
 cases hc:lH K n with
 |none=>rw[hc]at e;simp at e
 |some C =>
  rw[hc]at e
  simp only[Prod.mk.injEq]at e
  obtain⟨e1,e2,e3,e4⟩:=e
  refine⟨C,⟨hc,?_,e1⟩,e2.symm,e3,e4⟩
  unfold lH at hc
  split at hc
  ·rename_i C' hn
   cases hc
   exact PySem.W.mg_of X G hn
  ·cases hc
theorem ClsX.own{K:Frag}{mg:kC}{n:Str}{C:Addr}{base:Heap}(x:ClsX K mg n C)(X:K.In base):PyProof.Rows.OwnCls n C veM "ValueError.__new__" mg base:=rN x.ok x.m X
def aWa(t:XT):XT:=λρ Q=>t ρ λs ρ'=>match s.d with
 | .int i=>Q (.tr (.int (-i))) ρ'
 |_=>False
theorem ih_{e:Expr}{t:XT}{pos:Pos}(h:XE X Ex e t):XE X Ex (.UnaryOp .USub e pos) (aWa t):=λF=>(aDn xR (h F)).weak λσ H Q=>by
 rintro⟨ρ,fr,Qx,E,t,k⟩
 refine⟨ρ,fr,_,E,t,λv s H' ρ' E' q=>?_⟩
 split at q
 ·rename_i i hi
  obtain⟨R,hx⟩:=E'.one
  rw[hi]at hx
  cases hx.int_eq
  exact⟨i,rfl,k _ _ H' ρ' (EOk.back E'.len (R.add (IsX.of_int _))) q⟩
 ·exact q.elim
def bCl:List Dx->List V->List Rw
 |d::ds,v::vs=>(.v (.tr d),some v)::bCl ds vs
 |_,_=>[]
end Lf
namespace L2
open PySem PySem.Spec PyProof.Rows
end L2
namespace Lf
open PySem L2
def sgX(x:Str):List Dx:=x.cps.toList.map λc=>.str ⟨#[c]⟩
theorem aCo{x:Str}{i:Nat}{d:Dx}(h:(sgX x)[i]? = some d):∃c,x.cps[i]? = some c/\d=.str ⟨#[c]⟩:=by
 unfold sgX at h
 rw[cA]at h
 obtain⟨c,h1,h2⟩:=bU.mp h
 exact⟨c,by simpa using h1,h2.symm⟩
theorem aLg{F:Fm}{x:Str}:ItX F (Its x) [] (sgX x)where
 go:=λP H i d R hd=>by
  obtain⟨c,h1,_⟩:=aCo hd
  exact(Array.getElem?_eq_some_iff.mp h1).1
 stop:=λP H i R hi=>by
  unfold sgX at hi
  rw[aD,Array.length_toList]at hi
  exact hi
 yld:=λP H i d y H' R hd q=>by
  obtain⟨rfl,c,h1,rfl⟩:=q
  obtain⟨c',h2,rfl⟩:=aCo hd
  rw[h1]at h2
  cases h2
  exact R.add (IsX.of_str _)
def xiS(t:XT):XI:=λρ Q=>t ρ λs ρ'=>match s.d with
 | .str z=>Q (sgX z) ρ'
 |_=>False
section
variable{tg l a b:Expr}{t ta tb:XT}{x:Str}{p pos:Pos}
theorem sF(h:XE X Ex l t):XIt X Ex tg l (xiS t):=λF=>(aRd (h F)).weak λσ H R=>by
 rintro⟨ρ,fr,Qx,E,t,k⟩
 refine⟨ρ,fr,_,E,t,λv s H' ρ' E' q=>?_⟩
 split at q
 ·rename_i z hz
  obtain⟨R1,hs⟩:=E'.one
  rw[hz]at hs
  cases hs.str_eq
  exact⟨z,rfl,k _ H' ρ' [] _ ⟨E'.len,R1⟩ aLg q⟩
 ·exact q.elim
def aLl(neg:Bool):G2
 | .str i,.str j,Q=>Q (.tr (.bl (if neg then !(!(Builtin.Str.occurrences j i 0 j.length 1).isEmpty)else !(Builtin.Str.occurrences j i 0 j.length 1).isEmpty)))
 |_,_,_=>False
theorem jn_:OpX (λx y H Q=>∃i j,x=.str i/\y=.str j/\Q (.bl (!(Builtin.Str.occurrences j i 0 j.length 1).isEmpty)) H) (aLl false):=by
 intro F P H a b x y Q Qx R ha hb g k
 unfold aLl at g
 split at g
 ·cases ha.str_eq
  cases hb.str_eq
  exact⟨_,_,rfl,rfl,k _ _ H (R.add (IsX.of_bl _)) g⟩
 ·exact g.elim
theorem aDw:OpX (λx y H Q=>∃i j,x=.str i/\y=.str j/\Q (.bl (!(!(Builtin.Str.occurrences j i 0 j.length 1).isEmpty))) H) (aLl true):=by
 intro F P H a b x y Q Qx R ha hb g k
 unfold aLl at g
 split at g
 ·cases ha.str_eq
  cases hb.str_eq
  exact⟨_,_,rfl,rfl,k _ _ H (R.add (IsX.of_bl _)) g⟩
 ·exact g.elim
theorem gd_{i:Str}(hg:Gl X x)(hm:∃t,X.mg x=some (.str i t))(hd:(x == ("__debug__" : Str))=false:=by decide):XE X Ex (.Name x pos) (xC (.str i)):=by
 obtain⟨t,hm⟩:=hm
 exact o_ (fl_ (v:=.str i) hg hm ⟨t,rfl⟩ hd) _ λ_=>IsX.of_str _
def aWc(vs:List V)(t:XT):XT:=λρ Q=>t ρ λs ρ'=>match scV s.d with
 |some v=>Q (.tr (.bl (inV v vs))) ρ'
 |none=>False
theorem aYp{F:Fm}{K:dA}{vs:List V}{c:Addr}(hf:vs.all jF=true)(hq:∀H,SqT K H c vs):∀σ H Q,tX F (aWc vs t) σ H Q->tOp (rIn K false) (tX F t) (tC (.ref c)) σ H Q:=by
 rintro σ H Q ⟨ρ,fr,Qx,E,q,k⟩
 refine⟨ρ,fr,_,E,q,λv s H' ρ' E' q'=>?_⟩
 split at q'
 ·rename_i u hu
  obtain⟨R,hs⟩:=E'.one
  cases ij_ hs hu
  exact⟨c,vs,rfl,.inr (hq _),ji_ hu,hf,k _ _ H' ρ' (EOk.back E'.len (R.add (IsX.of_bl _))) q'⟩
 ·exact q'.elim
theorem aBl(K:dA)(vs:List V)(ha:XE X Ex a t)(hg:Gl X x)(hm:∃c,X.mg x=some (.ref c)/\∀H,SqT K H c vs)(hf:vs.all jF=true:=by decide)(hd:(x == ("__debug__" : Str))=false:=by decide)(hb:behindInMarks .In (.Name x p)=false:=by with_unfolding_all rfl)(h:X.K=K:=by rfl) :
  XE X Ex (.Compare a [.In] [.Name x p] pos) (aWc vs t):=λF=>by
 obtain⟨c,hm,hq⟩:=hm
 exact(e8 (aEc (h:=h)) (ha F) (fl_ (v:=.ref c) hg hm rfl hd) hb).weak (aYp hf hq)
end
def aVw(t:XT)(i:Nat):XT:=λρ Q=>t ρ λk ρ'=>match aLd k.d,ρ'[i]? with
 |some kk,some (.v (.od l))=>Q (.tr (.bl (lN l kk).isSome)) ρ'
 |_,_=>False
section
variable{F:Fm}{i:Nat}{t:XT}{x:Str}{a b e:Expr}{p pos:Pos}
theorem aXq:∀σ H Q,tX F (aVw t i) σ H Q->aQi (tX F t) (gL i) σ H Q:=by
 rintro σ H Q ⟨ρ,fr,Qx,E,q,k⟩
 refine⟨ρ,fr,_,E,q,λw s H' ρ' E' q'=>?_⟩
 split at q'
 ·rename_i kk l hk hb
  obtain⟨R,hs⟩:=E'.one
  obtain⟨p,ws,hv,hp,hl,_⟩:=pU E'.drop hb
  cases i8 hs hk
  refine⟨.ref p,hv,p,_,rfl,DGet.rd (k:=kk) (.inl hp),k _ _ H' ρ' (EOk.back E'.len (R.add ?_)) q'⟩
  rcases wN (k:=kk) hl with⟨z1,z2⟩ | ⟨d',v,z1,z2,z3⟩
  ·rw[z1,z2];exact IsX.of_bl _
  ·rw[z1,z2];exact IsX.of_bl _
 ·exact q'.elim
theorem aBf(hu:X.A.units+1<cLine)(hb:XE X Ex b t)(hv:PE X (.Name x p) (gL i))(hm:behindInMarks .In (.Name x p)=false):XTe X Ex (.Compare b [.In] [.Name x p] pos) (xB (aVw t i)):=λF=>(aDi (aRn hu (hb F) hv) hm).weak (gx_ (t:=aQi (tX F t) (gL i)) λσ H Q h=>aXq σ H Q h)
end
theorem zC{G K:XS}{ρ:En}{D:XD}(M:En->Prop)(h1:∀ρ',M ρ'->K ρ' D)(h2:∀nx:En->Prop,(∀ρ',M ρ'->nx ρ')->G ρ { D with nx:=nx }):cL G K ρ D:=h2 _ h1
end Lf
namespace L2
open PySem PySem.Spec PyProof.Rows
section
variable{X:Cx}
def s9(z:Str):Str:=Txt.sliceBy z none none (-1,0)
theorem oQ(z:Str):(s9 z).length=z.length:=PyProof.Rows.step_rev_len z 0
theorem vV(z:Str)(u:Tok):Txt.sliceBy z none none (-1,u)=s9 z:=PyProof.Rows.str_ext_getD (by rw[oQ,PyProof.Rows.step_rev_len]) λi hi=>by
 rw[PyProof.Rows.step_rev_len]at hi
 unfold s9
 rw[PyProof.Rows.step_rev_getD z u i hi,PyProof.Rows.step_rev_getD z 0 i hi]
def aWk(te:TE):TE:=λσ H Q=>te σ H λx H1=>∃z,x=.str z/\z.length<=sizeLine/\Q (.str (s9 z)) H1
theorem aJn{e:Expr}{te:TE}{k:Nat}{p1 p2 p3 pos:Pos}(he:PE X e te):PE X (.Subscript e (.Slice none none (some (.UnaryOp .USub (.Constant (.int 1) k p1) p2)) p3) pos) (aWk te):=by
 intro Aa s σ H Q I h
 refine Subscript_ (dN (he Aa s σ H _ I h) λv s1 ⟨x,H1,I1,r1,q1⟩=>?_)
 obtain⟨z,rfl,hz,q⟩:=q1
 obtain⟨t1,rfl⟩:=r1
 refine wpAny_Slice ?_
 rw[evalPart_none]
 refine wpAny_pure (wpAny_pure ?_)
 rw[evalPart_some]
 refine dN ((aDn xR oZ:PE X (.UnaryOp .USub (.Constant (.int 1) k p1) p2) _) Aa s1 σ H1 (λx H'=>x=.int (-1)/\H'=H1) I1 ⟨_,rfl,rfl,rfl⟩) λvs s2 ⟨y,H2,I2,r2,e2,e3⟩=>?_
 subst e2 e3
 obtain⟨t,rfl⟩:=r2
 have I3:Inv X Aa σ H2 { s2 with heap:=s2.heap.push { cls:=.type "slice",data:=.fields #[.none,.none,.int (-1) t] } }:=I2.kept (t':=s2.toks) λb ob q=>aQ _ q
 refine tail_any (ops:=[.str z t1,.ref s2.heap.objs.size]) (typeIs_str _ _ _) PySem.F.slot_str_getitem.lookup ?_ (by with_unfolding_all rfl)
 refine wpAny_getItem_str_slice (l:=none) (u:=none) (st:=some (-1,t)) ⟨_,bO _ rfl,rfl,rfl⟩ rfl ?_
 refine post_val_or_str ⟨?_,λt' k=>⟨.str _,H2,I3.tok _,⟨_,rfl⟩,?_⟩⟩
 ·show (Txt.sliceBy z none none (-1,t)).length≤_
  rw[vV,oQ]
  exact hz
 ·show Q (.str (Txt.sliceBy z none none (-1,t))) H2
  rw[vV]
  exact q
end
end L2
namespace Lf
open PySem L2
section
variable{a b e:Expr}{ta tb t:XT}{lo hi:Option Expr}{tl th:XO}{p2 pos:Pos}
def aNn(t:XT):XT:=λρ Q=>t ρ λs ρ'=>match s.d with
 | .str z=>z.length<=1000000/\Q (.tr (.str (s9 z))) ρ'
 |_=>False
theorem aHw{k:Nat}{p1 p3:Pos}(he:XE X Ex e t):XE X Ex (.Subscript e (.Slice none none (some (.UnaryOp .USub (.Constant (.int 1) k p1) p2)) p3) pos) (aNn t):=λF=>(aJn (he F)).weak λσ H Q=>by
 rintro⟨ρ,fr,Qx,E,t,k⟩
 refine⟨ρ,fr,_,E,t,λv s H' ρ' E' q=>?_⟩
 split at q
 ·rename_i z hz
  obtain⟨R,hx⟩:=E'.one
  rw[hz]at hx
  cases hx.str_eq
  exact⟨z,rfl,by have:=fW;omega,k _ _ H' ρ' (EOk.back E'.len (R.add (IsX.of_str _))) q.2⟩
 ·exact q.elim
end
def nst:Expr->Bool
 | .Starred _ _=>false
 |_=>true
theorem c5{e:Expr}{es:List Expr}{env:Env}(h:nst e=true):starEach (e::es) env=(false,eval e env)::starEach es env:=by
 cases e<;>first | rfl | cases h
theorem aBn{e:Expr}{es:List Expr}{t:XT}{u:XA}(h:XE X Ex e t)(h':XAs X Ex es u)(hn:nst e=true:=by rfl):XAs X Ex (e::es) (bA t u):=bF h h' (c5 hn)
structure Bx(p:Prop):Prop where
 out:p
section
variable{a b c e o k v l:Expr}{es:List Expr}{t ta tb te tk tv:XT}{u:XA}{pos p p2:Pos}{x:Str}{i j:Nat}
theorem pZ{i:Int}{j:Nat}:Bx (XE X Ex (.Constant (.int i) j pos) (xC (.int i))):=⟨cC⟩
theorem bAd{b:Bool}{j:Nat}:Bx (XE X Ex (.Constant (.bool b) j pos) (xC (.bl b))):=⟨vA⟩
theorem aUs{j:Nat}:Bx (XE X Ex (.Constant .none j pos) (xC .non)):=⟨mJ⟩
theorem iI{x:Str}{j:Nat}:Bx (XE X Ex (.Constant (.str x) j pos) (xC (.str x))):=⟨dL⟩
theorem gt_(h:PE X (.Name x pos) (gL i)):Bx (XE X Ex (.Name x pos) (bW i)):=⟨bE h⟩
theorem zQ{j:Nat}(h:Bx (XAs X Ex es u)):Bx (XE X Ex (.Tuple es j pos) (sH u)):=⟨lO h.out⟩
theorem gu_(h:Bx (XAs X Ex es u)):Bx (XE X Ex (.List es pos) (kY u)):=⟨mI h.out⟩
theorem aNc:Bx (XE X Ex (.Dict [] [] pos) aBr):=⟨zW⟩
theorem kf_(ha:Bx (XE X Ex a ta))(hb:Bx (XE X Ex b tb)):Bx (XE X Ex (.BinOp a .Add b pos) (xOp fA ta tb)):=⟨eZ ha.out hb.out⟩
theorem mE(K:dA)(ha:Bx (XE X Ex a ta))(hb:Bx (XE X Ex b tb))(hs:jC b)(h:X.K=K:=by rfl):Bx (XE X Ex (.Subscript a b pos) (xOp ixX ta tb)):=⟨kW K ha.out hb.out hs h⟩
variable{lo hi:Option Expr}{tl th:XO}
theorem qO:Bx (XAs X Ex [] cV):=⟨bV⟩
theorem eW(h:Bx (XE X Ex e t))(h':Bx (XAs X Ex es u))(hn:nst e=true:=by rfl):Bx (XAs X Ex (e::es) (bA t u)):=⟨aBn h.out h'.out hn⟩
def aEl:List Expr->Bool
 | []=>true
 |e::es=>nst e&&aEl es
theorem aCh{env:Env}:∀{es:List Expr},aEl es=true->(backTo pos (starEach es env)).any (·.1)=false
 | [],_=>rfl
 |e::es,h=>by
  simp only[aEl,bY]at h
  rw[c5 h.1]
  exact aCh h.2
theorem fq_{ps:List Str}{g:GB}(C:Cal X.prog X.w X.K X.mg X.base j x ps (spB g))(hr:Room j X.A)(hv:PE X e (gL i))(ha:Bx (XAs X Ex es u))(hg:Gl X x:=by rfl)(B2:(x == ("__debug__" : Str))=false:=by decide)(he:nst e=true:=by rfl)(Hn:aEl es=true:=by rfl):Bx (XE X Ex (.Call (.Name x p) (e::es) [] pos) (dY g i u)):=⟨kU C hr hv ha.out hg B2 (c5 he) (aCh Hn)⟩
theorem aGy{id:String}{r:List V->Hp->VK->Prop}{g:GC}(hc:CallR X (.builtin id) r)(hx:iB r g)(hg:Gl X x)(hm:X.mg x=none)(hv:bootBuiltins x=some (.builtin id))(ha:Bx (XAs X Ex (e::es) u))(hn:x ≠ "__name__":=by decide)(B2:(x == ("__debug__" : Str))=false:=by decide)(he:nst e=true:=by rfl)(Hn:aEl es=true:=by rfl):Bx (XE X Ex (.Call (.Name x p) (e::es) [] pos) (dU g u)):=⟨jV hc hx hg hm hv ha.out hn B2 (c5 he) (aCh Hn)⟩
variable{r:R2}{g:G2}{op:CmpOp}{tc uc:XC}{rest:List Expr}
variable{st:Stmt}{sts as bs:List Stmt}{G K:XS}
theorem hs_{pos':Pos}(hN:X.N.Nodup)(hi:X.N[i]? = some x)(hx:Loc X.env.scope x)(he:Bx (XE X Ex e t))(hs:swapsWith e (some (.Name x pos')) pos.line X.env=pure false:=by rfl)(hf:X.fn x=true\/X.env.scope.names.lookup x=some .local:=by first | exact .inl rfl | exact .inr rfl | assumption):Bx (XSt X Ex (.Assign [.Name x pos'] e pos) (gK i t)):=⟨al_ λF=>o4 hN hi hx (XE.at (Ex:=Ex) F he.out) hs hf⟩
theorem xE(hc:Bx (XTe X Ex c tc))(ha:Bx (XSs X Ex as G))(hb:Bx (XSs X Ex bs K)):Bx (XSt X Ex (.If c as bs pos) (xIf tc G K)):=⟨eC hc.out ha.out hb.out⟩
theorem uV(he:Bx (XE X Ex e t)):Bx (XSt X Ex (.Return (some e) pos) (hX t)):=⟨cZ he.out⟩
theorem kd_:Bx (XSs X Ex [] eR):=⟨eJ⟩
theorem lY(h:Bx (XSt X Ex st G)):Bx (XSs X Ex [st] G):=⟨cP h.out⟩
theorem gZ(h:Bx (XSt X Ex st G))(h':Bx (XSs X Ex sts K)):Bx (XSs X Ex (st::sts) (cL G K)):=⟨cO h.out h'.out⟩
end
end Lf
namespace L2
open PySem PySem.Spec PySem.SeqAt PySem.AutoSeq1 PySem.MeetsSeq PyProof.Rows
theorem qN(l:Addr)(es:Array DictEntry)(n:Nat)(dd:Option Addr)(sl:Array (Option Value)) :
  Meets (Builtin.«dict.__eq__» ⟨[.ref l,.none],[]⟩) (λ_ R s=>s.heap.get? l=some { cls:=.type "dict",dict:=dd,data:=.dict es n,slots:=sl }/\R (.ok (.ret .notImplemented)) s):=
 .of_wp λprog w A R s h=>by obtain⟨hp,g,d,tk,os⟩:=s;obtain⟨hl,h⟩:=h;have f1:=F.sub_NoneType_dict;wp_walk using wpAny_loadPart' hl;exact⟨_,rfl,h⟩
section
variable{A:Around}{s:Shared}
theorem tD{l:Addr}(hl:DictH s.heap l)(hu:A.units<cLine):RcAt A s (.ref l) .none false:=λprog w E Q h=>by
 obtain⟨es,n,dd,sl,ho⟩:=hl
 exact rc_eq_decline_or (k:=false) ⟨_,ho,rfl⟩ rfl (by decide) F.sub_NoneType_dict F.slot_dict_eq F.slot_NoneType_eq_refl
  (λ_ hq=>call_meets F.slot_dict_eq ⟨_,ho,rfl⟩ F.entry_dict_eq (F.args_dict_eq_2 _ _) (qN l es n dd sl) ⟨ho,hq⟩)
  (λ_ hq=>call_gives F.slot_NoneType_eq_refl rfl F.entry_NoneType_eq (F.args_NoneType_eq_2 _ _) (NoneType___eq___none_ref_0 l) hq)
  (λ_ hq=>wpAny_of_eq (rfl:isSame (.ref l) .none=pure false) hq) (.inr hu) h
theorem uJ{l:Addr}(hl:DictH s.heap l)(hu:A.units<cLine):EqAt A s (.ref l) .none false:=λprog w E Q h=>by
 unfold eqBool
 refine wpAny_holding ?_
 refine wpAny_ite_split (λG8=>absurd (eq_of_beq G8) nofun) (λ_=>?_)
 exact wpAny_bind (tD hl hu prog w E _ (wpAny_truthy_bool h))
end
inductive ShN(K:dA)(H:Hp):V->Bool->Prop
 |non:ShN K H .non true
 |int (i:Int):ShN K H (.int i) false
 |lst {a:Addr} {xs:List V} (h:SqL K H a xs):ShN K H (.ref a) false
 |tup {a:Addr} {xs:List V} (h:SqT K H a xs):ShN K H (.ref a) false
 |dic {a:Addr} {ws:List (Key×V)} (h:H a=some (.dK ws)\/∃o,H a=some (.frz o (.dK ws))):ShN K H (.ref a) false
def aXm(K:dA):R2:=λx y H Q=>∃p ws,x=.non/\y=.ref p/\SqL K H p ws/\∃bs:List Bool,Lf.All2 (λv b=>ShN K H v b) ws bs/\Q (.bl (bs.any id)) H
section
variable{X:Cx}
theorem aFk{Aa:eL}{σ:St}{H:Hp}{s:Shared}(I:Inv X Aa σ H s){A:Around}(hu:A.units<cLine):∀{ws:List V} {its:List Value} {bs:List Bool},Vals ws its->Lf.All2 (λv b=>ShN X.K H v b) ws bs->(∀y∈its,EqAt A s y .none (isNone y))/\its.any isNone=bs.any id
 |_,_,_,.nil,h=>by cases(show _=[]from h);exact⟨λy hy=>absurd hy (by simp),rfl⟩
 |v::ws,u::its,bs,.cons r t,h=>by
  obtain⟨b,br,rfl,h1,h2⟩:=h
  obtain⟨g1,g2⟩:=aFk I hu t h2
  have key:EqAt A s u .none (isNone u)/\isNone u=b:=by
   cases h1 with
   |non=>cases r;exact⟨EqAt.same .none,rfl⟩
   |int i=>obtain⟨t,rfl⟩:=r;exact⟨EqAt.int_none i t,rfl⟩
   |lst h=>cases r;obtain⟨_,_,p,_⟩:=I.list h;exact⟨EqAt.list_none p.isList hu,rfl⟩
   |tup h=>cases r;obtain⟨_,_,p,_⟩:=I.tuple h;exact⟨EqAt.tuple_none p hu,rfl⟩
   |dic h=>cases r;exact⟨uJ (I.dictH h) hu,rfl⟩
  refine⟨λy hy=>?_,?_⟩
  ·rcases aI.mp hy with rfl | hy
   ·exact key.1
   ·exact g1 y hy
  ·rw[dE,dE,key.2,g2];rfl
theorem aRu(hu:X.A.units+1<cLine):OpR X (compareOp .In) (aXm X.K):=by
 intro Aa s σ H x y v u Q I rx ry h
 obtain⟨p,ws,rfl,rfl,hq,bs,hb,q⟩:=h
 cases ry
 cases rx
 obtain⟨its,r,pl,hz⟩:=I.list hq
 obtain⟨g1,g2⟩:=aFk (A:=X.A.in1) I hu r hb
 refine SeqAt.in_listAt isNone pl.isList (λw hw=>g1 w (by simpa using hw)) ⟨.bl _,H,I,rfl,?_⟩
 rw[show its.toArray.any isNone=its.any isNone by simp,g2]
 exact q
end
end L2
namespace Lf
open PySem L2
def shN:Dx->Option Bool
 | .non=>some true
 | .int _=>some false
 | .lst _=>some false
 | .tup _=>some false
 | .dic _=>some false
 |_=>none
theorem aQn{K:dA}{F:Fm}{P:List Rw}{H:Hp}{d:Dx}{v:V}{b:Bool}(R:Rep F P H)(h:IsX (hid (bQ P) (F.vis H)) d v)(e:shN d=some b):ShN K H v b:=by
 unfold shN at e
 split at e
 ·cases e;rw[h.non_eq];exact .non
 ·cases e;rw[h.int_eq];exact .int _
 ·cases e;obtain⟨a,vs,rfl,q,_⟩:=h.lst_eq;exact .lst (SqL.of (R.hv _ _ q))
 ·cases e;obtain⟨a,vs,rfl,q,_⟩:=h.tup_eq;exact .tup (SqT.of (R.hv _ _ q))
 ·cases e;obtain⟨a,ws,rfl,q,_⟩:=h.dic_eq;exact .dic (aCu R q)
 ·cases e
def aTm:G2:=λa b Q=>match a,b with
 | .non,.lst l=>(l.all λd=>(shN d).isSome)=true/\Q (.tr (.bl (l.any λd=>shN d == some true)))
 |_,_=>False
theorem c8{K:dA}{F:Fm}{P:List Rw}{H:Hp}(R:Rep F P H):∀{l:List Dx} {vs:List V},All2 (IsX (hid (bQ P) (F.vis H))) l vs->(l.all λd=>(shN d).isSome)=true->∃bs:List Bool,All2 (λv b=>ShN K H v b) vs bs/\bs.any id=l.any λd=>shN d == some true
 | [],_,h,_=>⟨[],by rw[show _=[]from h];exact rfl,rfl⟩
 |d::l,_,⟨v,vr,e,h1,h2⟩,h=>by
  rw[gC,bY]at h
  obtain⟨x,hx⟩:=cI.mp h.1
  obtain⟨bs,e1,e2⟩:=c8 (K:=K) R h2 h.2
  subst e
  refine⟨x::bs,⟨x,bs,rfl,aQn R h1 hx,e1⟩,?_⟩
  rw[dE,dE,e2,hx]
  cases x<;>rfl
theorem aRp{K:dA}:OpX (aXm K) aTm:=by
 intro F P H a b x y Q Qx R ha hb g k
 unfold aTm at g
 split at g
 ·cases ha.non_eq
  obtain⟨p,vs,rfl,q3,q4⟩:=hb.lst_eq
  obtain⟨bs,e1,e2⟩:=c8 (K:=K) R q4 g.1
  exact⟨p,vs,rfl,rfl,SqL.of (R.hv _ _ q3),bs,e1,k _ _ H (R.add (IsX.of_bl _)) (by rw[e2];exact g.2)⟩
 ·exact g.elim
end Lf
namespace L2
open PySem PySem.Spec PySem.SeqAt PyProof.Rows
theorem nV:∀{as:List Addr} {us:List Value},Vals (as.map V.ref) us->us=as.map Value.ref
 | [],_,h=>by cases h;rfl
 |x::xs,_,h=>by
  cases h with
  |cons ra rb=>rw[nV rb];cases ra;rfl
end L2
namespace Lf
open PySem L2
def aBq(z:Str)(t:XT):XT:=λρ Q=>t ρ λs ρ'=>∃ys:List Str,s.d=.lst (ys.map Dx.str)/\(ys.map (·.length)).sum+ys.length*z.length<=16777216/\Q (.tr (.str (Txt.join z ys))) ρ'
theorem b9{G:Hp}:∀{ys:List Str} {vs:List V},All2 (IsX G) (ys.map Dx.str) vs->vs=ys.map V.str
 | [],_,h=>h
 |x::xs,_,⟨v,vr,e,h1,h2⟩=>by rw[e,b9 h2,h1.str_eq];rfl
theorem zV{e:Expr}{t:XT}{z:Str}{j:Nat}{sp apos cpos:Pos}(h:XE X Ex e t)
  (A1:attributeBase (.Constant (.str z) j sp) "join" X.env (eval (.Constant (.str z) j sp) X.env)=eval (.Constant (.str z) j sp) X.env:=by rfl)
  (Ci:((backTo cpos (starEach [e] X.env)).all (fun x => !x.1) && (backToKw cpos (keywordEach [] X.env)).all (fun x=>x.1.isSome)
   && decide ([e].length+([]:List Keyword).length+(if([]:List Keyword).isEmpty then 0 else 1)<30))=true:=by rfl)
  (A7:(apos.endLine == cpos.line)=true:=by rfl) (hs:starEach [e] X.env=(false,eval e X.env)::starEach [] X.env:=by rfl) (Ay:(backTo cpos (starEach [] X.env)).any (·.1)=false:=by rfl) :
  XE X Ex (.Call (.Attribute (.Constant (.str z) j sp) "join" apos) [e] [] cpos) (aBq z t):=λF =>
 (jm_ PySem.F.plainAttrs_str PySem.F.slot_str_join PySem.F.type_str_join aKy (oY (x:=z)) (kS (h F) uL hs) A1 Ci A7 hs Ay).weak fun σ H Q=>by
  rintro⟨ρ,fr,Qx,E,t,k⟩
  refine⟨rfl,ρ,fr,_,E,t,λv s H' ρ' E' q=>?_⟩
  obtain⟨ys,hd,hz,q⟩:=q
  obtain⟨R,hx⟩:=E'.one
  rw[hd]at hx
  obtain⟨p,vs,rfl,q1,q2⟩:=hx.lst_eq
  cases b9 q2
  exact⟨z,p,ys,rfl,rfl,SqL.of (R.hv _ _ q1),hz,k _ _ H' ρ' (EOk.back E'.len (R.add (IsX.of_str _))) q⟩
end Lf
namespace L2
open PySem PySem.Spec PyProof.Rows
section
variable{X:Cx}
def atF(x y:Str):Int:=match Builtin.Str.occurrences x y 0 x.length 1 with | i::_=>(i:Int) | []=>-1
end
end L2
namespace Lf
open PySem L2
end Lf
namespace L2
open PySem PySem.Spec PyProof.Rows Builtin Builtin.Str
section
variable{X:Cx}
theorem c4:∀(l:List (Str×Tok)),Vals ((l.map (·.1)).map V.str) (strValues l)
 | []=>.nil
 |p::r=>.cons ⟨p.2,rfl⟩ (c4 r)
theorem aEo:MtR X "str.split" (λx vs H Q=>∃z y,x=.str z/\vs=[.str y]/\(y.length == 0)=false/\z.length+2<=sizeLine/\∀p,H p=none->Q (.ref p) (upd H p (.lst ((Txt.split z y).map V.str)))):=by
 intro Aa s σ H x vs v us Q I rx rv h
 obtain⟨z,y,rfl,rfl,hy,hsz,q⟩:=h
 obtain⟨t,rfl⟩:=rx
 cases rv with
 |cons r1 r2 =>
  cases r2
  obtain⟨u,rfl⟩:=r1
  have hn:(partsBetween z (occurrences z y 0 z.length (z.length+1)) y.length).length<=sizeLine:=by
   have e1:=StrLaws.occ_length_le z y 0 z.length (z.length+1)
   rw[length_partsBetween];omega
  have fin:∀(l:List (Str×Tok)) (k:Nat),l.map (·.1)=Txt.split z y->l.length<=sizeLine->EP X Aa σ Q (.ref s.heap.objs.size) { s with heap:=s.heap.push { cls:=.type "list",data:=.seq (strValues l).toArray },toks:=k }:=λl k e hl =>
   ⟨.ref s.heap.objs.size,_,I.laid (λb o e=>aQ _ e) (aV _) (show ObjOk X.prog X.w _ _ _ (.lst ((Txt.split z y).map V.str))from⟨by rw[<-e,aD,aD];exact hl,strValues l,0,by rw[<-e];exact c4 l,bO _ rfl⟩),rfl,q _ (I.hok.fresh (aV _))⟩
  cases h1:(decide (z.length<y.length)||decide (strKind z<strKind y))
  ·cases hf:(occurrences z y 0 z.length (z.length + 1)).isEmpty
   ·refine call_meets F.slot_str_split (typeIs_str _ _ _) F.entry_str_split (F.args_str_split_2 _ _) (meets_str_split_sep z y t u h1 hy hf (by omega) hn) ?_
    show wants _ _ _ { s with toks:=_,heap:=s.heap.push { cls:=.type "list",data:=.seq (strsFrom s.toks (partsBetween z (occurrences z y 0 z.length (z.length+1)) y.length)).toArray } }
    rw[strsFrom_eq]
    have e:=((numbered_texts s.toks (partsBetween z (occurrences z y 0 z.length (z.length+1)) y.length)).trans ((if_neg (ne_true_of_eq_false h1)).trans (if_neg (ne_true_of_eq_false hf))).symm:_=Txt.split z y)
    exact fin (numbered s.toks _) _ e (by have e2:=congrArg List.length (numbered_texts s.toks (partsBetween z (occurrences z y 0 z.length (z.length+1)) y.length));rw[aD]at e2;rw[e2];exact hn)
   ·exact call_meets F.slot_str_split (typeIs_str _ _ _) F.entry_str_split (F.args_str_split_2 _ _) (meets_str_split_not_found z y t u h1 hy hf)
     (fin [(z,t)] s.toks ((if_neg (ne_true_of_eq_false h1)).trans (if_pos hf)).symm (by show 1<=sizeLine;decide))
  ·exact call_meets F.slot_str_split (typeIs_str _ _ _) F.entry_str_split (F.args_str_split_2 _ _) (meets_str_split_cannot_occur z y t u h1)
    (fin [(z,t)] s.toks (if_pos h1).symm (by show 1<=sizeLine;decide))
end
end L2
namespace Lf
open PySem L2
def bAm(g:GC)(i:Nat)(u:XA):XT:=λρ Q=>(∃s,ρ[i]? = some (.v s))/\u ρ λss ρ'=>match ρ'[i]? with
 |some (.v s)=>g (s.d::ss.map Sv.d) λr=>∃b,r=.tr (.bl b)/\Q (.tr (.bl b)) ρ'
 |_=>False
def aPu(y:Str)(to:XT):XT:=λρ Q=>to ρ λo ρ'=>∃z,o.d=.str z/\z.length+2<=sizeLine/\Q (.ol ((Txt.split z y).map Dx.str)) ρ'
theorem nZ{G:Hp}:∀(ys:List Str),All2 (IsX G) (ys.map Dx.str) (ys.map V.str)
 | []=>rfl
 |x::xs=>⟨_,_,rfl,IsX.of_str _,nZ xs⟩
theorem aBi{o:Expr}{to:XT}{y:Str}{j:Nat}{sp apos cpos:Pos}(ho:XE X Ex o to)(hy:(y.length == 0)=false)
  (A1:attributeBase o "split" X.env (eval o X.env)=eval o X.env:=by rfl)
  (Ci:((backTo cpos (starEach [.Constant (.str y) j sp] X.env)).all (fun x => !x.1) && (backToKw cpos (keywordEach [] X.env)).all (fun x=>x.1.isSome)
   && decide ([Expr.Constant (.str y) j sp].length+([]:List Keyword).length+(if([]:List Keyword).isEmpty then 0 else 1)<30))=true:=by rfl)
  (A7:(apos.endLine == cpos.line)=true:=by rfl) (hs:starEach [.Constant (.str y) j sp] X.env=(false,eval (.Constant (.str y) j sp) X.env)::starEach [] X.env:=by rfl) (Ay:(backTo cpos (starEach [] X.env)).any (·.1)=false:=by rfl) :
  XE X Ex (.Call (.Attribute o "split" apos) [.Constant (.str y) j sp] [] cpos) (aPu y to):=λF =>
 (jm_ PySem.F.plainAttrs_str PySem.F.slot_str_split PySem.F.type_str_split aEo (ho F) (kS (oY (x:=y)) uL hs) A1 Ci A7 hs Ay).weak fun σ H Q=>by
  rintro⟨ρ,fr,Qx,E,t,k⟩
  refine⟨ρ,fr,_,E,t,λv s H' ρ' E' q=>?_⟩
  obtain⟨z,hd,hz,q⟩:=q
  obtain⟨R,hx⟩:=E'.one
  rw[hd]at hx
  cases hx.str_eq
  exact⟨rfl,z,y,rfl,rfl,hy,hz,λp hp=>k _ _ _ ρ' (EOk.back E'.len (R.newL hp (nZ _))) q⟩
def vM(g:GB):Sp:=λvs H Q E=>∃a p,vs=[a,p]/\spB g [p,a] H Q E
def lA(N:List Str)(l:List Dx)(d:Dx):En:=.v (.tr d) :: .bw l::List.replicate (N.length-2) .un
def lD(Q:Dx->List Dx->Prop)(d:Dx)(ρ:En):Prop:=match (ρ[1]? : Option Sl)with
 |some (.bw l)=>Q d l
 |_=>False
abbrev aOb(Q:Dx->List Dx->Prop):XD:=⟨λρ=>lD Q .non ρ,λs ρ=>lD Q s.d ρ,λ_=>False,λ_=>False⟩
theorem aPb{x:Str}{st:Stmt}{f:Addr}{fd:FuncData}{N ps:List Str}{k:Nat}{g:GB}(Fn:Fun K x x st f fd)(S:FnScope N ps (aL st))(Ak:∀l ds Q,g l ds Q->ds.length=1)(Dt:ps.length=2)(hN:2<=N.length)
  (A0:∀ (Ai:Value) (A:Around) (outer:List Env) (s:Shared) (H:Hp) (E:XK),Room k (A.deeper (PyProof.Rows.envOfC x (aL st) s.heap.objs.size f Ai)) →
   ∃G,XSs (iS CX0 P w K mg base N x (aL st) f Ai A outer s H E).nox fZ (dX st) G/\∀l d Q,g l [d] Q->G (lA N l d) (aOb Q)):FnOk P w K mg base CX0 (k+1) f fd ps (vM g):=by
 refine Fn.ok S (λvs H Q E h=>?_) (λAi A outer s H vs Q E hr h=>?_)
 ·obtain ⟨a,p,rfl,_⟩:=h
  rw[Dt];rfl
 obtain⟨va,vp,rfl,p,ws,l,vr,Hs,ds,Qx,e0,hp,h1,Ct,hl,h2,h3,h4⟩:=h
 cases e0
 obtain⟨G,hG,hq⟩:=A0 Ai A outer s H E hr
 obtain⟨d,rfl⟩:=List.length_eq_one_iff.mp (Ak l ds Qx h3)
 obtain⟨_,_,e1,hd,_⟩:=h2
 cases e1
 have nb:∀b∈[p],Hs b=none:=λb hb=>by rw[aG.mp hb];exact Ct
 have ib:∀b∈[p],∃o,H b=some o:=λb hb=>by rw[aG.mp hb];exact⟨_,hp⟩
 have fin:∀{d:Dx} {v:V} {σ':St} {H':Hp} {ρ':En},EOk ⟨H,Hs,[p],h1,nb,ib⟩ ρ' σ' ((vT d,some v)::[]) H'->lD Qx d ρ'->Q v H':=λ{d v σ' H' ρ'} E' q=>by
  unfold lD at q
  split at q
  ·rename_i l' h0
   obtain⟨R,hx⟩:=E'.one
   obtain⟨y,hy,hi,R2⟩:=rW ⟨E'.len,R⟩ h0
   obtain⟨a,ws',rfl,h5,h6⟩:=R2.atB
   have ha:a=p:=aG.mp (R2.fr _ aA a (aG.mpr rfl))
   subst ha
   refine h4 d v l' ws' H' (λb o hb=>?_) h5 (h6.imp λ_ _ z=>z.to (lI λc hc=>by rw[aG.mp hc];exact aA)) (hx.to tZ) q
   have Au:b≠a:=λz=>by rw[z]at hb;unfold aFl at hb;rw[if_pos rfl]at hb;cases hb
   rw[nF Au]at hb ⊢
   exact R.kp b o hb λz=>Au (aG.mp z)
  ·exact q.elim
 refine⟨_,hG ⟨H,Hs,[p],h1,nb,ib⟩,lA N l d,[],aOb Qx,⟨?_,?_⟩,hq l d Qx h3,⟨λσ' H' ρ' _ E' q=>fin (EOk.back E'.len (E'.rep.add (d:=.non) (v:=.non) IsX.of_non)) q,λv s σ' H' ρ' _ E' q=>fin (EOk.back E'.len E'.front.frz) q,λ_ _ _ _ _ q=>q.elim,λ_ _ _ _ _ q=>q.elim⟩⟩
 ·unfold lA L2.start
  simp only[aC,aD,bC,aE,bJ]
  omega
 ·have R0:Rep ⟨H,Hs,[p],h1,nb,ib⟩ [] H:=⟨fP,fun r hr=>by simp at hr,fun r hr=>by simp at hr,fun b o h _=>h,ib⟩
  have Dg:Same Hs (Fm.vis ⟨H,Hs,[p],h1,nb,ib⟩ H):=λb o hb=>(lZ (h1 _ _ hb)).trans hb
  have R1:=hg_ (m:=N.length-2) R0 (ds:=[]) (vs:=[]) rfl
  rw[dG,dG,aZ,aZ]at R1
  have Eh:bQ ((List.replicate (N.length-2) Sl.un).zip (List.replicate (N.length-2) (none:Option V)))=[]:=by
   unfold bQ
   refine List.flatMap_eq_nil_iff.mpr λr hr=>?_
   obtain⟨a,b⟩:=r
   rw[(List.mem_replicate.mp (gY hr).1).2];rfl
  rw[aS]
  have e:(lA N l d).zip (L2.start N [va,.ref p])=(vT d,some va)::(.bw l,some (.ref p))::(List.replicate (N.length-2) Sl.un).zip (List.replicate (N.length-2) none):=by
   unfold lA L2.start
   rfl
  rw[e]
  have M4:∀b o,Hs b=some o->b≠p:=λb o hb z=>by rw[z,Ct]at hb;cases hb
  have R2:Rep ⟨H,Hs,[p],h1,nb,ib⟩ ((.bw l,some (.ref p))::(List.replicate (N.length-2) Sl.un).zip (List.replicate (N.length-2) none)) H:=by
   refine⟨by rw[jG (a:=p) rfl,Eh];simp,λr hr=>?_,λr hr a ha=>?_,R1.kp,R1.lv⟩
   ·rw [jG (a:=p) rfl,Eh]
    rcases aI.mp hr with rfl | hr
    ·exact⟨p,ws,rfl,hp,hl.imp λ_ _ z=>z.to λb o hb=>bB.mpr ⟨λz=>M4 b o hb (aG.mp z),Dg _ _ hb⟩⟩
    ·refine (R1.ok r hr).mono (.of fun b o hb => ?_) fun _ _=>rfl
     have Au:=bB.mp hb
     refine bB.mpr ⟨λz=>?_,Au.2⟩
     have h9:Hs p=some o:=(lZ hp).symm.trans (aG.mp z ▸ Au.2)
     rw[Ct]at h9;cases h9
   ·rcases aI.mp hr with rfl | hr
    ·exact ha
    ·exact R1.fr r hr a ha
  exact R2.add (hd.to λb o hb=>bB.mpr ⟨λz=>by rw[jG (a:=p) rfl,Eh]at z;exact M4 b o hb (aG.mp z),Dg _ _ hb⟩)
def sM(g:GB)(i:Nat)(t:XT):XT:=λρ Q=>t ρ λs ρ'=>match (ρ'[i]?).bind jY with
 |some (l,f)=>g l [s.d] λd l'=>Q (.tr d) (ρ'.set i (f l'))
 |none=>False
theorem qS{j i:Nat}{x:Str}{ps:List Str}{g:GB}{e e2:Expr}{t:XT}{p pos:Pos}(C:Cal X.prog X.w X.K X.mg X.base j x ps (vM g))(hr:Room j X.A)(ht:XE X Ex e t)(hv:PE X e2 (gL i))(hg:Gl X x:=by rfl)(B2:(x == ("__debug__" : Str))=false:=by decide)
  (he:starEach [e,e2] X.env=(false,eval e X.env)::starEach [e2] X.env:=by rfl) (F4:starEach [e2] X.env=(false,eval e2 X.env)::starEach [] X.env:=by rfl) (A9:(backTo pos (starEach [e2] X.env)).any (·.1)=false:=by rfl):XE X Ex (.Call (.Name x p) [e,e2] [] pos) (sM g i t):=λF=>(yG C hr (kS (ht F) (kS hv uL F4) he) hg B2 he A9).weak λσ H Q=>by
 rintro⟨ρ,fr,Qx,E,t,k⟩
 refine⟨ρ,fr,_,E,t,λva s2 H2 ρ2 E2 q2=>?_⟩
 obtain⟨R,hs⟩:=E2.one
 split at q2
 ·rename_i l f hb
  obtain⟨sl,h3,h4⟩:=aP.mp hb
  have E3:EOk F ρ2 σ fr H2:=⟨E2.len,R⟩
  obtain⟨v',Be,Di,R2⟩:=rW E3 h3
  obtain⟨p,ws,rfl,h5,h6,h7,h8⟩:=hk_ h4 R2
  refine⟨.ref p,Be,va,.ref p,rfl,?_⟩
  have hO:(bQ (ρ2.zip σ++fr)).Perm (bQ ((sl,some (V.ref p))::((ρ2.zip σ).eraseIdx i++fr))):=((dd_ h3 Be).append_right fr).flatMap_right _
  have Lv:∀a∈bQ ((sl,some (V.ref p))::((ρ2.zip σ).eraseIdx i++fr)),a∈bQ (ρ2.zip σ++fr):=λa ha=>hO.mem_iff.mpr ha
  refine⟨p,ws,l,[va],hid (bQ ((sl,some (V.ref p))::((ρ2.zip σ).eraseIdx i++fr))) (F.vis H2),[s2.d],_,rfl,h5,R2.hv,?_,?_,All2.one (hs.to (lI Lv)),q2,λd w l' ws' H' e hp F2 hd q=>?_⟩
  ·unfold hid
   rw[if_pos (by rw[jG h6];exact aA)]
  ·rw [jG h6]
   exact h7
  ·obtain ⟨k1,k2,k3⟩:=h8 l'
   have ev:=pS R2 h6 e
   have R3:=R2.called h6 k1 k2 e ⟨_,hp⟩ (k3 hp (F2.imp λ_ _ z=>z.to λb o hb=>by
    have Au:=bB.mp hb
    have:=ev _ _ Au.2
    rw[jG h6]at this
    exact this))
   refine k w (.tr d) H' _ (EOk.back (by rw[bI];exact E2.len) ?_) q
   have R4:=R3.add (d:=d) (v:=w) (hd.to λb o hb=>by
    have:=ev _ _ hb
    rw[jG h6]at this
    rw[jG k1]
    exact this)
   exact R4.perm (((dc_ E2.len Di Be).append_right fr).symm.cons _)
 ·exact q2.elim
end Lf
namespace L2
open PySem PySem.Spec PyProof.Rows Builtin Builtin.Str
theorem jv_(y z:Str)(u v:Tok)(h0:(u == 0||v == 0)=false)(Ie:(u == v)=true):isSame (.str y u) (.str z v)=pure true:=by
 show(if(u == 0||v == 0)=true then _ else if(u == v)=true then pure true else _:Sem Bool)=_
 rw[h0,Ie]
 rfl
theorem wM(x y z:Str)(t u v k:Tok)(h0:(u == 0||v == 0)=false)(Gu:(y == z)=false)(hl:tooLong (x.length+(occurrences x y 0 x.length 1).length*z.length)=false) :
    Gives («str.replace» ⟨[.str x t,.str y u,.str z v,.int 1 k],[]⟩) (if((occurrences x y 0 x.length 1).isEmpty||(y.length == 0&&z.length == 0))=true then .val (.str x t)else if(u == v)=true then .val (.str x t)else .str (glued z (partsBetween x (occurrences x y 0 x.length 1) y.length))):=by
  show Gives (do
      let limit <-countLimit "str.replace" (some (.int 1 k)) (x.length+1)
      if ((occurrences x y 0 x.length limit).isEmpty || (y.length == 0 && z.length == 0))=true then (do rule "str.replace.nothing"; ret (.str x t)) else
          (do let same ← isSame (.str y u) (.str z v)
              if same=true then(do rule "str.replace.old-is-new";ret (.str x t))else
              if tooLong (x.length+(occurrences x y 0 x.length limit).length*z.length)=true then unsupported "str.replace:memory" else
              retStr (glued z (partsBetween x (occurrences x y 0 x.length limit) y.length)))) _
  rw[countLimit_int "str.replace" 1 k (x.length+1) (by decide)]
  show Gives (if((occurrences x y 0 x.length 1).isEmpty||(y.length == 0&&z.length == 0))=true then(do rule "str.replace.nothing";ret (.str x t))else
          (do let same ← isSame (.str y u) (.str z v)
              if same=true then(do rule "str.replace.old-is-new";ret (.str x t))else
              if tooLong (x.length+(occurrences x y 0 x.length 1).length*z.length)=true then unsupported "str.replace:memory" else
              retStr (glued z (partsBetween x (occurrences x y 0 x.length 1) y.length)))) _
  cases hc:((occurrences x y 0 x.length 1).isEmpty||(y.length == 0&&z.length == 0))
  . cases Ie : (u == v)
    . rw [isSame_str_other y z u v h0 Ie Gu, hl]
      exact .of_eq rfl
    . rw [jv_ y z u v h0 Ie]
      exact .rule (.of_eq rfl)
  . exact .rule (.of_eq rfl)
theorem rF(x y z:Str):(glued z (partsBetween x (occurrences x y 0 x.length 1) y.length)).length<=x.length+z.length:=by
 have h1:=StrLaws.occ_length_le x y 0 x.length 1
 have hy:(glued y (partsBetween x (occurrences x y 0 x.length 1) y.length)).length=x.length:=by rw[StrLaws.glued_between_self]
 rw[size_glued,length_partsBetween,Nat.add_sub_cancel]at hy
 rw[size_glued,length_partsBetween,Nat.add_sub_cancel]
 have h2:(occurrences x y 0 x.length 1).length*z.length<=1*z.length:=gG _ h1
 omega
theorem zJ{prog:Program}{w:World}{A:Around}{E:gV}{s:Shared}{x y z:Str}{t u v k:Tok}{Q:gV}(hu:u≠0)(hv:v≠0)(Gu:(y == z)=false)(hb:x.length+z.length<=16777216)
  (hq:∀x' t' k',x'.length<=x.length+z.length->Q (.str x' t') { s with toks:=k' }):wpAny (model prog w) A (call (.builtin "str.replace") [.str x t,.str y u,.str z v,.int 1 k]) Q E s:=by
 have e:(2:Nat)^24=16777216:=by decide
 have hl:tooLong (x.length+(occurrences x y 0 x.length 1).length*z.length)=false:=by
  have h1:=StrLaws.occ_length_le x y 0 x.length 1
  have h2:(occurrences x y 0 x.length 1).length*z.length<=1*z.length:=gG _ h1
  unfold tooLong sizeLine
  exact dzF (by omega)
 refine call_gives F.slot_str_replace (typeIs_str _ _ _) F.entry_str_replace (F.args_str_replace_4 _ _ _ _)
  (wM x y z t u v k (by simp[hu,hv]) Gu hl) ?_
 cases hc:((occurrences x y 0 x.length 1).isEmpty||(y.length == 0&&z.length == 0))
 ·cases Ie:(u == v)
  ·simp only [Bool.false_eq_true,if_false]
   exact⟨by rw[sizeLine_eq];exact nzL (rF x y z) hb,hq _ _ _ (rF x y z)⟩
  ·simp only [Bool.false_eq_true,if_false,if_true]
   exact hq x t s.toks (Nat.le_add_right _ _)
 ·simp only [if_true]
  exact hq x t s.toks (Nat.le_add_right _ _)
def PS1(X:Cx)(st:Stmt)(t:TS):Prop:=
 ∀(Aa:eL) (s:Shared) (σ:St) (H:Hp) (D:Ends),Inv X Aa σ H s->0<s.toks->t D σ H->wpAny (model X.prog X.w) X.A (exec st X.env) (SP X Aa D) X.xe s
def aUy(X:Cx)(st:List Stmt)(t:TS):Prop:=
 ∀(Aa:eL) (s:Shared) (σ:St) (H:Hp) (D:Ends),Inv X Aa σ H s->0<s.toks->t D σ H->wpAny (model X.prog X.w) X.A (execs st X.env) (SP X Aa D) X.xe s
def PE1(X:Cx)(e:Expr)(t:TE):Prop:=
 ∀(Aa:eL) (s:Shared) (σ:St) (H:Hp) (Q:VK),Inv X Aa σ H s->0<s.toks->t σ H Q->wpAny (model X.prog X.w) X.A (eval e X.env) (EP X Aa σ Q) X.xe s
def aPk(u:Value):Prop:=∀x t,u=.str x t->t≠0
def PE2(X:Cx)(e:Expr)(t:TE):Prop:=
 ∀(Aa:eL) (s:Shared) (σ:St) (H:Hp) (Q:VK),Inv X Aa σ H s->0<s.toks->t σ H Q->wpAny (model X.prog X.w) X.A (eval e X.env) (λu s'=>EP X Aa σ Q u s'/\aPk u/\0<s'.toks) X.xe s
def PA2(X:Cx)(es:List Expr)(t:TA):Prop:=
 ∀(pos:Pos) (Aa:eL) (s:Shared) (σ:St) (H:Hp) (Q:List V->Hp->Prop),Inv X Aa σ H s->0<s.toks->t σ H Q->wpAny (model X.prog X.w) X.A (spliced (backTo pos (starEach es X.env))) (λus s'=>AP X Aa σ Q us s'/\(∀u∈us,aPk u)/\0<s'.toks) X.xe s
section
variable{X:Cx}{e o:Expr}{es:List Expr}{te to:TE}{t:TA}{ts us:TS}{pos apos cpos:Pos}
theorem e_{x j pos}:PE2 X (.Constant (.str x) j pos) (tC (.str x)):=λ_ s _ H _ I hp h=>Calls.Constant_str ⟨⟨.str x,H,I.tok _,⟨_,rfl⟩,h⟩,λy t e=>by cases e;exact Nat.pos_iff_ne_zero.mp hp,Nat.succ_pos _⟩
theorem aJt{i j pos}:PE2 X (.Constant (.int i) j pos) (tC (.int i)):=λ_ s _ H _ I hp h=>wpAny_Constant_int ⟨⟨.int i,H,I.tok _,⟨_,rfl⟩,h⟩,λy t e=>(nomatch e),Nat.succ_pos _⟩
theorem f6:PA2 X [] aCc:=λ_ _ _ _ H Q I hp h=>Calls.spliced_nil ⟨⟨[],H,I,.nil,h⟩,λu hu=>absurd hu bS,hp⟩
theorem ja_(ha:PE2 X e te)(hr:PA2 X es t)(hs:starEach (e::es) X.env=(false,eval e X.env)::starEach es X.env:=by rfl):PA2 X (e::es) (b5 te t):=by
 intro pos Aa s σ H Q I hp h
 rw[hs]
 show wpAny _ _ (spliced ((false,eval e X.env)::backTo pos (starEach es X.env))) _ _ s
 refine Calls.spliced_cons (dN (ha Aa s σ H _ I hp h) λu s1 ⟨⟨x,H1,I1,r1,q1⟩,k1,p1⟩=>?_)
 exact dN (hr pos Aa s1 σ H1 _ I1 p1 q1) λus s2 ⟨⟨xs,H2,I2,r2,q2⟩,k2,p2⟩=>⟨⟨x::xs,H2,I2,.cons r1 r2,q2⟩,λu hu=>by
  rcases aI.mp hu with rfl | hu
  ·exact k1
  ·exact k2 u hu,p2⟩
theorem aDk{st:Stmt}(h1:PS1 X st ts):aUy X [st] ts:=by
 intro Aa s σ H D I hp h
 refine wpAny_execs_cons (dN (h1 Aa s σ H D I hp h) λf s1 q=>?_)
 cases f with
 |next=>exact wpAny_execs_nil q
 |brk=>exact q
 |cont=>exact q
 |ret u=>exact q
theorem aJg(he:PE1 X e te):PS1 X (.Return (some e) pos) (aWm te):=by
 intro Aa s σ H D I hp h
 exact wpAny_Return_some (dN (he Aa s σ H _ I hp h) λv s1 ⟨x,H1,I1,r1,q1⟩=>⟨x,σ,H1,I1,r1,q1⟩)
theorem aRa{a:Expr}{ta tb:TE}{op:CmpOp}{r:R2}{c:Int}{j:Nat}{p1 p2:Pos}{sa sb:List Stmt}(ho:OpR X (compareOp op) r)(ha:PE X a ta)(hC:∀σ H Q,tb σ H Q->Q (.int c) H)(hm:behindInMarks op (.Constant (.int c) j p1)=false)(hA:aUy X sa ts)(hB:PSs X sb us) :
  PS X (.If (.Compare a [op] [.Constant (.int c) j p1] p2) sa sb pos) (aWt (b3 (tOp r ta tb)) ts us):=by
 intro Aa s σ H D I h
 refine wpAny_If (wpAny_isTrue_Compare1 (dN (ha Aa s σ H _ I h) λv s1 ⟨x,H1,I1,r1,q1⟩=>wpAny_Constant_int (wpAny_with_toks (n:=1) (eF (bP _)) (wpAny_mono (ho Aa _ σ H1 x (.int c) v _ _ (I1.tok _) r1 ⟨_,rfl⟩ (hC _ _ _ q1)) (λb s3 ⟨z,H3,I3,r3,k,e,q3⟩ hp=>?_) λ_ _ h _=>h))) hm)
 subst e
 cases r3
 refine wpAny_truthy_bool ?_
 cases k with
 |true=>exact hA Aa s3 σ H3 D I3 hp q3
 |false=>exact hB Aa s3 σ H3 D I3 q3
def bCg(t:TA)(tb:TE):TE:=λσ H Q=>t σ H λxs H1=>xs.length<=sizeLine/\tb σ H1 λy H2=>∃(i:Nat) (v:V),y=.int (i:Int)/\xs[i]? = some v/\Q v H2
theorem aJs{b:Expr}{tb:TE}{p1:Pos}(ha:PA2 X es t)(hb:PE X b tb)(hs:jC b):PE2 X (.Subscript (.List es p1) b pos) (bCg t tb):=by
 intro Aa s σ H Q I hp h
 refine PyProof.Rows.Subscript_ (wpAny_List_spliced (dN (ha p1 Aa s σ H _ I hp h) λus s1 ⟨⟨xs,H1,I1,r1,z1,q1⟩,k1,p1'⟩=>⟨by rw[<-r1.length];exact z1,?_⟩))
 have hf:H1 s1.heap.objs.size=none:=I1.hok.fresh (aV _)
 have I2:Inv X Aa σ H1 { s1 with heap:=s1.heap.push { cls:=.type "list",data:=.seq us.toArray } }:=I1.kept (t':=s1.toks) λb u e=>aQ _ e
 have I3:Inv X (Aa++[(s1.heap.objs.size,{ cls:=.type "list",data:=.seq us.toArray })]) σ H1 { s1 with heap:=s1.heap.push { cls:=.type "list",data:=.seq us.toArray } }:=I2.pins_of λp hp=>by
  rcases bL.mp hp with hp | hp
  ·exact I2.pin p (aJ _ hp)
  ·rw [aG.mp hp]
   exact⟨bO _ rfl,hf,(cH I1.lt).symm,I1.nofs (aV _),λv e=>(nomatch e)⟩
 refine wpAny_with_toks (n:=1) p1' (wpAny_mono (hb _ _ σ H1 _ I3 q1) (λw s4 ⟨y,H4,I4,r4,i,v,e,hv,q4⟩ hp4=>?_) λ_ _ h _=>h)
 subst e
 obtain⟨t4,rfl⟩:=r4
 obtain⟨g1,_⟩:=I4.pin (s1.heap.objs.size,{ cls:=.type "list",data:=.seq us.toArray }) (aJ _ (aJ _ aA))
 obtain⟨u,hu,ru⟩:=r1.get hv
 have hi:i<xs.length:=by
  rcases Nat.lt_or_ge i xs.length with h | h
  ·exact h
  ·rw[gD h]at hv;cases hv
 have hn:=kL
 exact PyProof.Rows.item_listR (show s4.heap.IsList s1.heap.objs.size us.toArray from⟨_,g1,rfl,_,rfl⟩) (Int.natCast_nonneg i) (by omega) (by rw[gF];simpa using hu) ⟨⟨v,H4,I4.unpinned,ru,q4⟩,k1 u (fJ hu),hp4⟩ (hs _ _)
def aWn(K:dA)(to:TE)(t:TA):TE:=λσ H Q=>to σ H λx H1=>tyV K "str" x H1/\t σ H1 λvs H2=>∃x0 y z,x=.str x0/\vs=[.str y,.str z,.int 1]/\(y == z)=false/\x0.length+z.length<=16777216/\∀x',x'.length<=x0.length+z.length->Q (.str x') H2
theorem aDv(ho:PE X o to)(ha:PA2 X (e::es) t)
  (A1:attributeBase o "replace" X.env (eval o X.env)=eval o X.env:=by rfl)
  (Ci:((backTo cpos (starEach (e :: es) X.env)).all (fun x => !x.1) && (backToKw cpos (keywordEach [] X.env)).all (fun x=>x.1.isSome)
   && decide ((e::es).length+([]:List Keyword).length+(if([]:List Keyword).isEmpty then 0 else 1)<30))=true:=by rfl)
  (A7:(apos.endLine == cpos.line)=true:=by rfl) (hs:starEach (e::es) X.env=(false,eval e X.env)::starEach es X.env:=by rfl) (Ay:(backTo cpos (starEach es X.env)).any (·.1)=false:=by rfl) :
  PE1 X (.Call (.Attribute o "replace" apos) (e::es) [] cpos) (aWn X.K to t):=by
 intro Aa s σ H Q I hp h
 refine wpAny_Call_method_late A1 Ci A7 rfl (wpAny_with_toks (n:=1) hp (wpAny_mono (ho Aa s σ H _ I h) (λv s1 ⟨x,H1,I1,r1,ty,q1⟩ Fc=>?_) λ_ _ h _=>h))
 obtain⟨h1,h2⟩:=xS I1 r1 ty
 refine⟨"str","str.replace",PySem.F.plainAttrs_str,PySem.F.slot_str_replace,PySem.F.type_str_replace,h1,h2,?_⟩
 have hA:=ha cpos Aa s1 σ H1 _ I1 Fc q1
 rw[hs]at hA ⊢
 refine Calls.callWith_builtin (by show(false||(backTo cpos (starEach es X.env)).any (·.1))=false;rw[Ay]<;>rfl) (Calls.evalArgs_plain ?_)
 refine dN hA λus s2 ⟨⟨vs,H2,I2,r2,x0,y,z,ex,ev,Gu,hl,q2⟩,k2,p2⟩=>?_
 subst ex
 subst ev
 obtain⟨t0,rfl⟩:=r1
 cases r2 with
 |cons ra r2=>cases r2 with
  |cons rb r2=>cases r2 with
   |cons rc r2 =>
    cases r2
    obtain⟨ta,rfl⟩:=ra
    obtain⟨tb,rfl⟩:=rb
    obtain⟨tc,rfl⟩:=rc
    exact zJ (k2 _ aA y ta rfl) (k2 _ (aB _ aA) z tb rfl) Gu hl λx' t' k' Df=>⟨.str x',H2,I2.tok _,⟨_,rfl⟩,q2 x' Df⟩
end
end L2
namespace L2
open PySem PySem.Spec PyProof.Rows
theorem PE2.weak{X:Cx}{e:Expr}{t t':TE}(h:PE2 X e t)(w:∀σ H Q,t' σ H Q->t σ H Q):PE2 X e t':=λAa s σ H Q I hp q=>h Aa s σ H Q I hp (w σ H Q q)
theorem PE1.weak{X:Cx}{e:Expr}{t t':TE}(h:PE1 X e t)(w:∀σ H Q,t' σ H Q->t σ H Q):PE1 X e t':=λAa s σ H Q I hp q=>h Aa s σ H Q I hp (w σ H Q q)
theorem PS1.weak{X:Cx}{st:Stmt}{t t':TS}(h:PS1 X st t)(w:∀D σ H,t' D σ H->t D σ H):PS1 X st t':=λAa s σ H D I hp q=>h Aa s σ H D I hp (w D σ H q)
end L2
namespace Lf
open PySem L2
def b4(zs:List Str):TA:=λ_ H Q=>Q (zs.map V.str) H
def XE2(X:Cx)(Ex:ExT)(e:Expr)(t:XT):Prop:=∀F,[OkF X Ex F]->PE2 X e (tX F t)
def XE1(X:Cx)(Ex:ExT)(e:Expr)(t:XT):Prop:=∀F,[OkF X Ex F]->PE1 X e (tX F t)
def bAh(X:Cx)(Ex:ExT)(st:Stmt)(G:XS):Prop:=∀F,[OkF X Ex F]->PS1 X st (tXS F G)
def bAi(X:Cx)(Ex:ExT)(st:List Stmt)(G:XS):Prop:=∀F,[OkF X Ex F]->aUy X st (tXS F G)
section
variable{e o b:Expr}{es:List Expr}{to t tb:XT}{apos cpos pos p1 p2:Pos}{z y:Str}{zs:List Str}{j:Nat}{G K:XS}
theorem aIa:PA2 X [] (b4 []):=f6
theorem is_(h:PA2 X es (b4 zs))(hs:starEach (.Constant (.str z) j pos::es) X.env=(false,eval (.Constant (.str z) j pos) X.env)::starEach es X.env:=by rfl):PA2 X (.Constant (.str z) j pos::es) (b4 (z::zs)):=ja_ e_ h hs
def aWb(zs:List Str)(tb:XT):XT:=λρ Q=>tb ρ λs ρ'=>∃(i:Nat) (z:Str),s.d=.int (i:Int)/\zs[i]? = some z/\Q (.tr (.str z)) ρ'
theorem aHz(ha:PA2 X es (b4 zs))(hl:zs.length<=1000000)(hb:XE X Ex b tb)(hs:jC b):XE2 X Ex (.Subscript (.List es p1) b pos) (aWb zs tb):=λF=>(aJs ha (hb F) hs).weak λσ H Q=>by
 rintro⟨ρ,fr,Qx,E,q,k⟩
 refine⟨by rw[aD];exact nzL hl (by rw[sizeLine_eq];decide),ρ,fr,_,E,q,λv s H' ρ' E' q'=>?_⟩
 obtain⟨i,z,hi,hz,q'⟩:=q'
 obtain⟨R,hx⟩:=E'.one
 rw[hi]at hx
 cases hx.int_eq
 exact⟨i,.str z,rfl,by rw[cA,hz];rfl,k _ _ H' ρ' (EOk.back E'.len (R.add (IsX.of_str z))) q'⟩
def aNp(y:Str)(to t:XT):XT:=λρ Q=>to ρ λo ρ1=>(∃x,o.d=.str x)/\t ρ1 λz ρ2=>∃x z',o.d=.str x/\z.d=.str z'/\(y == z')=false/\x.length+z'.length<=16777216/\∀x':Str,x'.length<=x.length+z'.length->Q (.tr (.str x')) ρ2
theorem aBm{j2:Nat}{p3:Pos}(ho:XE X Ex o to)(h:XE2 X Ex e t)
  (A1:attributeBase o "replace" X.env (eval o X.env)=eval o X.env:=by rfl)
  (Ci:((backTo cpos (starEach [.Constant (.str y) j pos,e,.Constant (.int 1) j2 p3] X.env)).all (fun x => !x.1) && (backToKw cpos (keywordEach [] X.env)).all (fun x=>x.1.isSome)
   && decide ([Expr.Constant (.str y) j pos,e,.Constant (.int 1) j2 p3].length+([]:List Keyword).length+(if([]:List Keyword).isEmpty then 0 else 1)<30))=true:=by rfl)
  (A7:(apos.endLine == cpos.line)=true:=by rfl) (hs:starEach [.Constant (.str y) j pos,e,.Constant (.int 1) j2 p3] X.env=(false,eval (.Constant (.str y) j pos) X.env)::starEach [e,.Constant (.int 1) j2 p3] X.env:=by rfl) (D3:starEach [e,.Constant (.int 1) j2 p3] X.env=(false,eval e X.env)::starEach [.Constant (.int 1) j2 p3] X.env:=by rfl) (hs3:starEach [.Constant (.int 1) j2 p3] X.env=(false,eval (.Constant (.int 1) j2 p3) X.env)::starEach [] X.env:=by rfl) (Ay:(backTo cpos (starEach [e,.Constant (.int 1) j2 p3] X.env)).any (·.1)=false:=by rfl) :
  XE1 X Ex (.Call (.Attribute o "replace" apos) [.Constant (.str y) j pos,e,.Constant (.int 1) j2 p3] [] cpos) (aNp y to t):=λF =>
 (aDv (ho F) (ja_ e_ (ja_ (h F) (ja_ aJt f6 hs3) D3) hs) A1 Ci A7 hs Ay).weak fun σ H Q=>by
  rintro⟨ρ,fr,Qx,E,q,k⟩
  refine⟨ρ,fr,_,E,q,λv s H' ρ' E' q'=>?_⟩
  obtain⟨⟨x,hx⟩,q'⟩:=q'
  obtain⟨R,hd⟩:=E'.one
  rw[hx]at hd
  cases hd.str_eq
  refine⟨rfl,ρ',_,_,E'.drop,q',λu s2 H2 ρ2 E2 q2=>?_⟩
  obtain⟨x2,z',e1,e2,Gu,hl,q2⟩:=q2
  rw[hx]at e1
  cases e1
  obtain⟨R2,Do⟩:=E2.one
  rw[e2]at Do
  cases Do.str_eq
  exact⟨x,y,z',rfl,rfl,Gu,hl,λx' Df=>k _ _ H2 ρ2 (EOk.back E2.len (R2.add (IsX.of_str x'))) (q2 x' Df)⟩
theorem aHu(he:XE1 X Ex e t):bAh X Ex (.Return (some e) pos) (hX t):=λF=>(aJg (he F)).weak λD σ H=>by
 rintro⟨ρ,fr,d,E,q,k⟩
 exact⟨ρ,fr,_,E,q,λv s H' ρ' E' q'=>k.rt v s σ H' ρ' rfl E' q'⟩
theorem aBh{st:Stmt}(h:bAh X Ex st G):bAi X Ex [st] G:=λF=>aDk (h F)
theorem aPo{a:Expr}{ta:XT}{op:CmpOp}{r:R2}{g:G2}{c:Int}{sa sb:List Stmt}(ho:OpR X (compareOp op) r)(hx:OpX r g)(ha:XE X Ex a ta)(hm:behindInMarks op (.Constant (.int c) j p1)=false)(hA:bAi X Ex sa G)(hB:XSs X Ex sb K) :
  XSt X Ex (.If (.Compare a [op] [.Constant (.int c) j p1] p2) sa sb pos) (xIf (xB (xOp g ta (xC (.int c)))) G K):=λF=>(aRa (tb:=tX F (xC (.int c))) ho (ha F) (λσ H Q=>by
   rintro⟨ρ,fr,Qx,E,q,k⟩
   exact k _ _ H ρ (EOk.back E.len (E.rep.add (IsX.of_int c))) q) hm (hA F) (hB F)).weak λD σ H=>by
 rintro⟨ρ,fr,d,E,q,k⟩
 refine gx_ (qW hx) _ _ _ ⟨ρ,fr,_,E,q,λb H' ρ' E' q'=>?_⟩
 cases b with
 |true=>exact⟨ρ',fr,d,E',q',k⟩
 |false=>exact⟨ρ',fr,d,E',q',k⟩
end
theorem aPm{sts:List Stmt}:XSs X Ex sts xNo:=λF=>PSs.weak (t7 (X:=X)) λD σ H=>by
 rintro⟨ρ,fr,d,E,q,k⟩
 exact q
theorem strsAre_of:∀{ks:List Str} {us:List Value},Vals (ks.map V.str) us->PyProof.Rows.StrsAre us ks
 | [],us,h=>by cases h;exact .nil
 |k::ks,us,h=>by
  cases h with
  |cons r t =>
   obtain⟨tk,rfl⟩:=r
   exact .cons k tk (strsAre_of t)
section
variable{X:Cx}{Ex:ExT}
def cF(n:Int):Str:=Str.ofString (toString n)
theorem jT:CallR X (.type "str") (λxs H Q=>∃n:Int,xs=[.int n]/\0<=n/\n<18446744073709551616/\Q (.str (cF n)) H):=by
 intro Aa s σ H xs us Q I r h
 obtain⟨n,rfl,h0,h1,q⟩:=h
 obtain⟨u,rfl,rx⟩:=gO r
 obtain⟨t,rfl⟩:=rx
 exact P.str_of_int (PyProof.Rows.shown_abs (N:=18446744073709551616) (by rw[if_neg (by omega)];exact h1) (by decide +kernel)) ⟨.str (cF n),H,I.tok _,⟨_,rfl⟩,q⟩
end
abbrev FsO:=List (Str×Ow)
abbrev GO:=Addr->FsO->List Dx->(Sv->FsO->Prop)->Prop
def spO(g:GO):Sp:=λvs H Q _=>∃(F:Fm) (C a dx:Addr) (l:FsO) (vr:List V) (ds:List Dx) (Qx:Sv->FsO->Prop),vs=.ref a::vr/\F.H0=H/\F.B=(Ow.oi C a dx l).fp/\ds.length=vr.length/\Rep F ((.bo (.oi C a dx l),some (.ref a))::jH (ds.map .tr) vr) H/\g C l ds Qx /\
 ∀s v l' H',Rep F [(.bo (.oi C a dx l'),some (.ref a)),(.v s,some v)] H'->Qx s l'->Q v H'
def f_:Sl->Option (Addr×Addr×Addr×FsO×(Ow->Sl))
 | .bo (.oi C a dx l)=>some (C,a,dx,l,.bo)
 | .v (.ow (.oi C a dx l))=>some (C,a,dx,l,λo=>.v (.ow o))
 |_=>none
abbrev jE(ρ:En)(i:Nat):Option (Addr×Addr×Addr×FsO×(Ow->Sl)):=(ρ[i]?).bind f_
def bBy(g:GO)(i:Nat)(u:XA):XT:=λρ Q=>(jE ρ i).isSome=true/\u ρ λss ρ'=>match jE ρ' i with
 |some (C,a,dx,l,f)=>g C l (ss.map Sv.d) λs l'=>Q s (ρ'.set i (f (.oi C a dx l')))
 |none=>False
def aPy(C0:Addr)(m:Str)(g:GO)(i:Nat)(u:XA):XT:=λρ Q=>(match jE ρ i with
 |some (C,_,_,l,_)=>C=C0/\l.lookup m=none
 |none=>False)/\u ρ λss ρ'=>match jE ρ' i with
 |some (C,a,dx,l,f)=>g C l (ss.map Sv.d) λs l'=>Q s (ρ'.set i (f (.oi C a dx l')))
 |none=>False
def aWd(C0:Addr)(f:Str)(i:Nat):XT:=λρ Q=>match jE ρ i with
 |some (C,_,_,l,_)=>C=C0/\(match l.lookup f with
  |some (.tr d)=>Q (.tr d) ρ
  |_=>False)
 |none=>False
def iG(f:Str)(o:Ow):FsO->FsO
 | []=>[(f,o)]
 |(g,x)::r=>if g=f then(g,o)::r else(g,x)::iG f o r
def aVu(C0:Addr)(f:Str)(i:Nat)(t:XT):XS:=λρ D=>t ρ λs ρ'=>match jE ρ' i with
 |some (C,a,dx,l,g)=>C=C0/\l.length<1000/\(∀o,l.lookup f=some o->∃d,o=.tr d)/\D.nx (ρ'.set i (g (.oi C a dx (iG f (.tr s.d) l))))
 |none=>False
section
variable{F F':Fm}{P A':List Rw}{H H':Hp}{r:Rw}{sl:Sl}{x:Option V}{C a dx:Addr}{l l':FsO}{f:Ow->Sl}
theorem Rep.back(R:Rep F (r::P) H)(h0:F'.H0=H)(hB:F'.B=fY r)(hS:F'.Hs=hid (bQ (r::P)) (F.vis H))(R':Rep F' A' H')(hv:∀q∈A',(∃o,q.1=.bo o)\/∃s,q.1=.v s):Rep F (A'++P) H':=by
 have hr:∀b∈fY r,b∈F.B\/F.H0 b=none:=λb hb=>(R.fr r aA b hb).or
 have nd:=R.nd
 rw[lJ]at nd
 have F6:∀b∈fY r,b∉bQ P:=λb h1 h2=>(cN.mp nd).2.2 b h1 b h2 rfl
 have Ej:∀b∈bQ A',b∈fY r\/H b=none:=λb hb=>by
  obtain⟨q,hq,e⟩:=List.mem_flatMap.mp hb
  have:=(R'.fr q hq b e).or
  rw[hB,h0]at this
  exact this
 have D6:∀b u,b∉fY r->H b=some u->H' b=some u:=λb u h1 h2=>R'.kp b u (by rw[h0];exact h2) (by rw[hB];exact h1)
 have Dg:∀b u,b∉fY r->F.vis H b=some u->F.vis H' b=some u:=λb u h1 h2=>by
  cases q:F.H0 b with
  |none=>exact(nM q).trans (nA ((nM q).symm.trans h2) λo h=>D6 b o h1 h)
  |some w=>exact(lZ q).trans ((lZ q).symm.trans h2)
 have hPP:∀b∈bQ P,b∉bQ A':=λb h1 h2=>by
  rcases Ej b h2 with h | h
  ·exact F6 b h h1
  ·exact R.not_own h (by rw[lJ];exact aJ _ h1)
 refine⟨?_,λq hq=>?_,λq hq b hb=>?_,λb u h1 h2=>?_,λb hb=>?_⟩
 ·rw [vW]
  exact cN.mpr ⟨R'.nd,(cN.mp nd).2.1,λa h1 b h2 z=>hPP b h2 (z ▸ h1)⟩
 ·rw [vW]
  rcases bL.mp hq with hq | hq
  ·refine (R'.ok q hq).mono (.of fun b u hb => ?_) fun _ _=>rfl
   obtain⟨k1,k2⟩:=bB.mp hb
   cases z:H b with
   |none =>
    have k2:=(nM (by rw[h0];exact z)).symm.trans k2
    refine bB.mpr ⟨λw=>(bL.mp w).elim k1 λw=>R.not_own z (by rw[lJ];exact aJ _ w),(nM (R.fresh z)).trans k2⟩
   |some w =>
    have k2:=(lZ (by rw[h0];exact z)).symm.trans k2
    rw[hS]at k2
    obtain⟨k3,k4⟩:=bB.mp k2
    rw[lJ]at k3
    exact bB.mpr ⟨λw=>(bL.mp w).elim k1 λw=>k3 (aJ _ w),Dg b u (λw=>k3 (aX _ w)) k4⟩
  ·refine (R.ok q (aB _ hq)).mono (.of fun b u hb => ?_) fun b hb => ?_
   ·obtain ⟨k3,k4⟩:=bB.mp hb
    rw[lJ]at k3
    have k5:b∉fY r:=λw=>k3 (aX _ w)
    refine bB.mpr ⟨λw=>(bL.mp w).elim (λw=>?_) λw=>k3 (aJ _ w),Dg b u k5 k4⟩
    rcases Ej b w with h | h
    ·exact k5 h
    ·have:=R.vis _ _ k4;rw[h]at this;cases this
   ·have hbP:=fm_ hq hb
    obtain⟨u,hu⟩:=R.own_in (fm_ (aB _ hq) hb)
    rw[hu,D6 b u (λw=>F6 b w hbP) hu]
 ·rcases bL.mp hq with hq | hq
  ·have hf:=R'.fr q hq b hb
   obtain⟨q1,q2⟩:=q
   rcases hv _ hq with⟨o,e⟩ | ⟨s,e⟩
   ·cases (show q1=Sl.bo o from e)
    have hf:b∈F'.B\/F'.H0 b=none:=hf
    rw[hB,h0]at hf
    rcases hf with h | h
    ·exact hr b h
    ·exact .inr (R.fresh h)
   ·cases (show q1=Sl.v s from e)
    have hf:F'.H0 b=none:=hf
    rw[h0]at hf
    exact R.fresh hf
  ·exact R.fr q (aB _ hq) b hb
 ·by_cases z:b∈fY r
  ·rcases hr b z with h | h
   ·exact absurd h h2
   ·rw[h]at h1;cases h1
  ·exact D6 b u z (R.kp b u h1 h2)
 ·by_cases z:b∈fY r
  ·exact R'.lv b (by rw[hB];exact z)
  ·obtain ⟨u,hu⟩:=R.lv b hb
   exact⟨u,D6 b u z hu⟩
theorem Rep.boOw{o:Ow}(R:Rep F ((.bo o,x)::P) H)(h:∀b∈o.fp,F.H0 b=none):Rep F ((.v (.ow o),x)::P) H:=by
 have e:bQ ((.v (.ow o),x)::P)=bQ ((.bo o,x)::P):=by rw[lJ,lJ];rfl
 refine⟨by rw[e];exact R.nd,λr hr=>?_,λr hr b hb=>?_,R.kp,R.lv⟩
 ·rw [e]
  rcases aI.mp hr with rfl | hr
  ·exact R.ok (.bo o,x) aA
  ·exact R.ok r (aB _ hr)
 ·rcases aI.mp hr with rfl | hr
  ·exact h b hb
  ·exact R.fr r (aB _ hr) b hb
theorem dy_(h:f_ sl=some (C,a,dx,l,f))(R:Rep F ((sl,x)::P) H):x=some (.ref a)/\fY (sl,x)=(Ow.oi C a dx l).fp/\OwOk (hid (bQ ((sl,x)::P)) (F.vis H)) H (.oi C a dx l) (.ref a) /\
  ((sl=.bo (.oi C a dx l)/\f=.bo)\/(sl=.v (.ow (.oi C a dx l))/\f=λo=>.v (.ow o))):=by
 match sl,h with
 | .bo (.oi C a dx l),h =>
  cases h
  obtain⟨v,e,h2⟩:=R.ok _ aA
  have e2:=h2
  simp only[OwOk]at e2
  obtain⟨rfl,_⟩:=e2
  subst e
  exact⟨rfl,rfl,h2,.inl ⟨rfl,rfl⟩⟩
 | .v (.ow (.oi C a dx l)),h =>
  cases h
  obtain⟨v,e,h2⟩:=R.ok _ aA
  have e2:=h2
  simp only[OwOk]at e2
  obtain⟨rfl,_⟩:=e2
  subst e
  exact⟨rfl,rfl,h2,.inr ⟨rfl,rfl⟩⟩
theorem OwOk.ins(h:OwOk (hid (bQ P) (F.vis H)) H' (.oi C a dx l) (.ref a)):∃ws,H' a=some (.ins C dx ws)/\H' dx=some (.own a)/\OwOkf (hid (bQ P) (F.vis H)) H' l ws:=by
 simp only[OwOk]at h
 obtain⟨_,ws,h1,h2,h3⟩:=h
 exact⟨ws,h1,h2,h3⟩
theorem Rep.lend(h:f_ sl=some (C,a,dx,l,f))(R:Rep F ((sl,x)::P) H):∃F':Fm,F'.H0=H/\F'.B=(Ow.oi C a dx l).fp/\F'.Hs=hid (bQ ((sl,x)::P)) (F.vis H)/\Rep F' [(.bo (.oi C a dx l),some (.ref a))] H /\
  ∀{s:Sv} {v:V} {l':FsO} {H':Hp},Rep F' [(.bo (.oi C a dx l'),some (.ref a)),(.v s,some v)] H'->Rep F ((.v s,some v)::(f (.oi C a dx l'),x)::P) H':=by
 obtain⟨rfl,hA,hO,hf⟩:=dy_ h R
 have Ff:∀b∈(Ow.oi C a dx l).fp,b∈bQ ((sl,some (.ref a))::P):=λb hb=>by rw[lJ,hA];exact aX _ hb
 have nb:∀b∈(Ow.oi C a dx l).fp,hid (bQ ((sl,some (.ref a))::P)) (F.vis H) b=none:=λb hb=>by unfold hid;rw[if_pos (Ff b hb)]
 have ib:∀b∈(Ow.oi C a dx l).fp,∃o,H b=some o:=λb hb=>R.own_in (Ff b hb)
 refine⟨⟨H,hid (bQ ((sl,some (.ref a))::P)) (F.vis H),(Ow.oi C a dx l).fp,R.hv,nb,ib⟩,rfl,rfl,rfl,?_,λ{s v l' H'} R'=>?_⟩
 ·have e:bQ [((Sl.bo (.oi C a dx l),some (V.ref a)):Rw)]=(Ow.oi C a dx l).fp:=by rw [lJ]; exact aS _
  refine⟨?_,λr hr=>?_,λr hr b hb=>?_,λb o hb _=>hb,ib⟩
  ·rw [e,← hA]
   have:=R.nd
   rw[lJ]at this
   exact(cN.mp this).1
  ·rw [aG.mp hr,e]
   refine⟨_,rfl,OwOk.mono (.of λb u hb=>?_) _ _ (λ_ _=>rfl) hO⟩
   have Au:=bB.mp hb
   exact bB.mpr ⟨λz=>Au.1 (Ff b z),(lZ (R.hv _ _ hb)).trans hb⟩
  ·rw [aG.mp hr] at hb ⊢
   exact .inl hb
 ·have R2:=R.back (F':=⟨H,hid (bQ ((sl,some (.ref a)) :: P)) (F.vis H),(Ow.oi C a dx l).fp,R.hv,nb,ib⟩) rfl hA.symm rfl R' fun q hq=>by
   rcases aI.mp hq with rfl | hq
   ·exact .inl ⟨_,rfl⟩
   ·rw[aG.mp hq];exact .inr ⟨_,rfl⟩
  rcases hf with⟨e1,rfl⟩ | ⟨e1,rfl⟩
  ·exact R2.perm (.swap _ _ _)
  ·refine Rep.perm (R2.boOw fun b hb => ?_) (.swap _ _ _)
   have Co:b∈(Ow.oi C a dx l).fp\/H b=none:=R'.fr _ aA b hb
   rcases Co with hb | hb
   ·have:=R.fr _ aA b (by rw [hA]; exact hb)
    rw[e1]at this
    exact this
   ·exact R.fresh hb
theorem OwOkf.look{G:Hp}{f:Str}{o:Ow}:∀{l:FsO} {ws:List (Str×V)},OwOkf G H l ws->l.lookup f=some o->∃v,ws.lookup f=some v/\OwOk G H o v
 | [],_,_,e=>by simp at e
 |(g,y)::r,ws,h,e=>by
  simp only[OwOkf]at h
  obtain⟨w,wr,rfl,⟨h1,h2⟩,h3⟩:=h
  obtain⟨w1,w2⟩:=w
  cases(show g=w1 from h1)
  by_cases z:f=g
  ·subst z
   rw[List.lookup_cons_self]at e ⊢
   cases e
   exact⟨w2,rfl,h2⟩
  ·have hz:(f == g)=false:=by simpa using z
   rw[bX,hz]at e ⊢
   exact OwOkf.look h3 e
theorem OwOkf.miss{G:Hp}{f:Str}:∀{l:FsO} {ws:List (Str×V)},OwOkf G H l ws->l.lookup f=none->ws.lookup f=none
 | [],_,h,_=>by simp only[OwOkf]at h;rw[h];rfl
 |(g,y)::r,ws,h,e=>by
  simp only[OwOkf]at h
  obtain⟨w,wr,rfl,⟨h1,h2⟩,h3⟩:=h
  obtain⟨w1,w2⟩:=w
  cases(show g=w1 from h1)
  by_cases z:f=g
  ·subst z
   rw[List.lookup_cons_self]at e
   cases e
  ·have hz:(f == g)=false:=by simpa using z
   rw[bX,hz]at e ⊢
   exact OwOkf.miss h3 e
theorem OwOkf.len{G:Hp}:∀{l:FsO} {ws:List (Str×V)},OwOkf G H l ws->ws.length=l.length
 | [],_,h=>by simp only[OwOkf]at h;rw[h];rfl
 |(g,y)::r,ws,h=>by
  simp only[OwOkf]at h
  obtain⟨w,wr,rfl,_,h3⟩:=h
  rw[aE,aE,OwOkf.len h3]
theorem OwOkf.put{G:Hp}{f:Str}{d:Dx}{v:V}(hd:IsX G d v):∀{l:FsO} {ws:List (Str×V)},OwOkf G H l ws->OwOkf G H (iG f (.tr d) l) (iE f v ws)
 | [],_,h=>by
  simp only[OwOkf]at h
  subst h
  simp only[iG,iE,OwOkf,OwOk]
  exact⟨_,_,rfl,⟨rfl,hd⟩,rfl⟩
 |(g,y)::r,ws,h=>by
  simp only[OwOkf]at h
  obtain⟨w,wr,rfl,⟨h1,h2⟩,h3⟩:=h
  obtain⟨w1,w2⟩:=w
  cases(show g=w1 from h1)
  by_cases z:g=f
  ·simp only [iG,iE,if_pos z,OwOkf,OwOk]
   exact⟨_,_,rfl,⟨rfl,hd⟩,h3⟩
  ·simp only [iG,iE,if_neg z,OwOkf]
   exact⟨_,_,rfl,⟨rfl,h2⟩,OwOkf.put hd h3⟩
theorem oU{f:Str}{d:Dx}:∀{l:FsO},(∀o,l.lookup f=some o->∃d,o=.tr d)->jX (iG f (.tr d) l)=jX l
 | [],_=>by simp only[iG,jX,Ow.fp,aS]
 |(g,y)::r,h=>by
  by_cases z:g=f
  ·subst z
   obtain⟨d',rfl⟩:=h y List.lookup_cons_self
   simp only[iG,if_pos,jX,Ow.fp]
  ·have hz:(f == g)=false:=by simpa using fun e=>z e.symm
   simp only[iG,if_neg z,jX]
   rw[oU λo ho=>h o (by rw[bX,hz];exact ho)]
theorem Rep.setF{fl:Str}{d:Dx}{v:V}{ws:List (Str×V)}(h:f_ sl=some (C,a,dx,l,f))(R:Rep F ((sl,x)::P) H)(hn:∀o,l.lookup fl=some o->∃d,o=.tr d)(hd:IsX (hid (bQ ((sl,x)::P)) (F.vis H)) d v)(hw:H a=some (.ins C dx ws)) :
  Rep F ((f (.oi C a dx (iG fl (.tr d) l)),x)::P) (upd H a (.ins C dx (iE fl v ws))):=by
 obtain⟨F',h0,hB,hS,R1,bk⟩:=R.lend h
 obtain⟨rfl,hA,hO,hf⟩:=dy_ h R
 obtain⟨ws',h1,h2,h3⟩:=OwOk.ins hO
 rw[hw]at h1
 cases h1
 have E6:(Ow.oi C a dx (iG fl (.tr d) l)).fp=(Ow.oi C a dx l).fp:=by simp only[Ow.fp,oU hn]
 have El:=R1.nd
 have e1:bQ [((Sl.bo (.oi C a dx l),some (V.ref a)):Rw)]=(Ow.oi C a dx l).fp:=by rw[lJ];exact aS _
 have e2:bQ [((Sl.bo (.oi C a dx (iG fl (.tr d) l)),some (V.ref a)):Rw)]=(Ow.oi C a dx l).fp:=by rw[lJ,<-E6];exact aS _
 rw[e1]at El
 simp only[Ow.fp]at El
 have Fs:=(cE.mp El).1
 have I0:dx≠a:=λz=>Fs (by rw[z];exact aA)
 have hff:∀b∈jX l,b≠a:=λb hb z=>Fs (aB _ (z ▸ hb))
 have haB:a∈F'.B:=by rw[hB];simp only[Ow.fp];exact aA
 have Ff:∀b∈(Ow.oi C a dx l).fp,b∈bQ ((sl,some (.ref a))::P):=λb hb=>by rw[lJ,hA];exact aX _ hb
 have R2:Rep F' [(.bo (.oi C a dx (iG fl (.tr d) l)),some (.ref a))] (upd H a (.ins C dx (iE fl v ws))):=by
  refine⟨by rw[e2,<-e1];exact R1.nd,λr hr=>?_,λr hr b hb=>?_,λb o hb Fj=>?_,λb hb=>?_⟩
  ·rw [aG.mp hr,e2]
   refine⟨_,rfl,?_⟩
   simp only[OwOk]
   refine⟨trivial,_,xD,by rw[gU I0];exact h2,?_⟩
   refine OwOkf.mono (.of λb u hb=>?_) _ _ (λb hb=>gU (hff b (by rw[oU hn]at hb;exact hb))) (OwOkf.put hd h3)
   have Au:=bB.mp hb
   exact bB.mpr ⟨λz=>Au.1 (Ff b z),(lZ (by rw[h0];exact R.hv _ _ hb)).trans (by rw[hS];exact hb)⟩
  ·rw [aG.mp hr] at hb ⊢
   refine .inl ?_
   rw[hB,<-E6]
   exact hb
  ·have Jf:b≠a:=fun z=>Fj (by rw [z]; exact haB)
   rw[gU Jf]
   rw[h0]at hb
   exact hb
  ·by_cases z:b=a
   ·exact⟨_,by rw[z];exact xD⟩
   ·rw [gU z]
    obtain⟨o,ho⟩:=F'.ib b hb
    rw[h0]at ho
    exact⟨o,ho⟩
 have R3:=bk (s:=.tr .non) (v:=.non) (Rep.perm (R2.add (d:=.non) (v:=.non) IsX.of_non) (.swap _ _ _))
 exact R3.tail
end
theorem iy_{F:Fm}{H:Hp}:∀{ds:List Dx} {vs:List V} {P:List Rw},Rep F P H->All2 (IsX (hid (bQ P) (F.vis H))) ds vs->Rep F (jH (ds.map .tr) vs++P) H/\bQ (jH (ds.map .tr) vs++P)=bQ P
 | [],_,P,R,e=>by rw[show _=[]from e];exact⟨R,rfl⟩
 |d::ds,_,P,R,⟨y,yr,e,h1,h2⟩=>by
  subst e
  obtain⟨R2,e2⟩:=iy_ R h2
  refine⟨Rep.add (P:=jH (ds.map .tr) yr++P) (d:=d) (v:=y) R2 (by rw[e2];exact h1),?_⟩
  show bQ ((vT d,some y)::(jH (ds.map .tr) yr++P))=_
  rw[ga_ rfl,e2]
theorem aIu{F:Fm}{ρ2:En}{σ:St}{fr:List Rw}{H2:Hp}{ss:List Sv}{vs:List V}{g:GO}{i:Nat}{Q:VK}{Qx:Sv->En->Prop}{a0:Addr}{Ek:XK}(Gw:σ[i]? = some (some (.ref a0)))(hl:ss.length=vs.length)(E2:EOk F ρ2 σ (jH ss vs++fr) H2)
  (q2:match jE ρ2 i with
   |some (C,a,dx,l,f)=>g C l (ss.map Sv.d) λs l'=>Qx s (ρ2.set i (f (.oi C a dx l')))
   |none=>False)
  (k:∀v s H' ρ',EOk F ρ' σ ((.v s,some v)::fr) H'->Qx s ρ'->Q v H'):spO g (.ref a0::vs) H2 Q Ek:=by
 obtain⟨R,hs⟩:=E2.many hl
 split at q2
 ·rename_i C a dx l f hb
  obtain⟨sl,h3,h4⟩:=aP.mp hb
  have E3:EOk F ρ2 σ fr H2:=⟨E2.len,R⟩
  obtain⟨v',Be,Di,R2⟩:=rW E3 h3
  rw[Gw]at Be
  cases Be
  obtain⟨ex,hA,_⟩:=dy_ h4 R2
  cases ex
  obtain⟨F',h0,hB,hS,R1,bk⟩:=R2.lend h4
  have hO:(bQ (ρ2.zip σ++fr)).Perm (bQ ((sl,some (V.ref a0))::((ρ2.zip σ).eraseIdx i++fr))):=((dd_ h3 Gw).append_right fr).flatMap_right _
  have e1:bQ [((Sl.bo (.oi C a0 dx l),some (V.ref a0)):Rw)]=(Ow.oi C a0 dx l).fp:=by rw[lJ];exact aS _
  have Fw:All2 (IsX (hid (bQ [((Sl.bo (.oi C a0 dx l),some (V.ref a0)):Rw)]) (F'.vis H2))) (ss.map Sv.d) vs:=hs.imp λd v z=>z.to λb u hb=>by
   have Fj:=lI (λc hc=>hO.mem_iff.mpr hc) b u hb
   have Au:=bB.mp Fj
   refine bB.mpr ⟨λz=>Au.1 ?_,(lZ (by rw[h0];exact R2.hv _ _ Fj)).trans (by rw[hS];exact Fj)⟩
   rw[lJ,hA]
   rw[e1]at z
   exact aX _ z
  refine⟨F',C,a0,dx,l,vs,ss.map Sv.d,_,rfl,h0,hB,by rw[aD];exact hl,(iy_ R1 Fw).1.perm ?_,q2,λs v l' H' R' q=>k v s H' _ (EOk.back (by rw[bI];exact E2.len) ((bk R').perm (((dc_ E2.len Di Gw).append_right fr).symm.cons _))) q⟩
  exact eQ
 ·exact q2.elim
section
variable{j i:Nat}{x m:Str}{ps:List Str}{g:GO}{e o:Expr}{es:List Expr}{u:XA}{p pos apos:Pos}{C:Addr}
def mO(P:Program)(w:World)(K:dA)(mg:kC)(base:Heap)(j:Nat)(C:Addr)(m:Str)(ps:List Str)(sp:Sp):Prop:=Cls K C/\∃f fd,Meth K C m f/\FnOk P w K mg base CX0 j f fd ps sp/\Binds K fd ps []
theorem eb_{pl:Sem Bool}(M:mO X.prog X.w X.K X.mg X.base j C m ps (spO g))(hr:Room j X.A)(hv:PE X o (gL i))(ha:XAs X Ex (e::es) u)
  (Cf:starEach (e::es) X.env=(false,eval e X.env)::starEach es X.env:=by rfl) (A9:(backTo pos (starEach es X.env)).any (·.1)=false:=by rfl)
  (ht:eval (.Call (.Attribute o m apos) (e :: es) [] pos) X.env=(do
   let ov <-eval o X.env
   standAt apos.atName
   let (f,first) <-holding [ov] (getMethod ov m pl)
   callWith pos f first (backTo pos (starEach (e::es) X.env)) (backToKw pos (keywordEach [] X.env))):=by rfl) :
  XE X Ex (.Call (.Attribute o m apos) (e::es) [] pos) (aPy C m g i u):=λF=>by
 obtain⟨c,f,fd,hm,hf,hb⟩:=M
 refine(e7 hv c hm hf hr hb .nil aOl (ha F) Cf A9 ht).weak λσ H Q=>?_
 rintro⟨ρ,fr,Qx,E,⟨t0,t⟩,k⟩
 split at t0
 ·rename_i C0 a0 Fu l0 f0 h0
  obtain⟨rfl,Ix⟩:=t0
  obtain⟨Hh,h1,h2⟩:=aP.mp h0
  obtain⟨v,hv,hi,R0⟩:=rW E h1
  obtain⟨rfl,_,hO,_⟩:=dy_ h2 R0
  obtain⟨ws,h5,_,h6⟩:=OwOk.ins hO
  refine⟨.ref a0,hv,a0,Fu,ws,rfl,h5,h6.miss Ix,ρ,fr,_,E,t,λvs ss H2 ρ2 hl E2 q2=>?_⟩
  show spO g (V.ref a0::(vs++[])) H2 Q E0
  rw[aS]
  exact aIu hv hl E2 q2 k
 ·exact t0.elim
theorem z7{f:Str}(c:Cls X.K C)(hn:NoAttr X.K C f)(hv:PE X o (gL i))(hb:attributeBase o f X.env (eval o X.env)=eval o X.env:=by rfl):XE X Ex (.Attribute o f pos) (aWd C f i):=λF=>(aRk hv hb).weak λσ H Q=>by
 rintro⟨ρ,fr,Qx,E,t,k⟩
 unfold aWd at t
 split at t
 ·rename_i C0 a0 Fu l0 f0 h0
  obtain⟨rfl,t⟩:=t
  split at t
  ·rename_i d hd
   obtain⟨Hh,h1,h2⟩:=aP.mp h0
   obtain⟨v,hv,hi,R0⟩:=rW E h1
   obtain⟨rfl,_,hO,_⟩:=dy_ h2 R0
   obtain⟨ws,h5,_,h6⟩:=OwOk.ins hO
   obtain⟨w,hw,hx⟩:=h6.look hd
   simp only[OwOk]at hx
   refine⟨.ref a0,hv,a0,C0,Fu,ws,w,rfl,h5,c,hn,hw,k w _ H ρ (EOk.back E.len (E.rep.add (hx.to (lI λb hb=>?_)))) t⟩
   exact(((dd_ h1 hv).append_right fr).flatMap_right _).mem_iff.mp hb
  ·exact t.elim
 ·exact t.elim
theorem sE{f:Str}{value:Expr}{tv:XT}{pos':Pos}(c:Cls X.K C)(hn:NoAttr X.K C f)(hv:PE X o (gL i))(ht:XE X Ex value tv)(hs:swapsWith value (some (.Attribute o f pos')) pos.line X.env=pure false:=by rfl):XSt X Ex (.Assign [.Attribute o f pos'] value pos) (aVu C f i tv):=λF=>(aRc hv (ht F) hs).weak λD σ H=>by
 rintro⟨ρ,fr,d,E,t,DK⟩
 refine⟨ρ,fr,_,E,t,λv s H2 ρ2 E2 t2=>?_⟩
 split at t2
 ·rename_i C0 a0 Fu l0 f0 h0
  obtain⟨rfl,hl,Ba,t2⟩:=t2
  obtain⟨R,hx⟩:=E2.one
  obtain⟨Hh,h1,h2⟩:=aP.mp h0
  obtain⟨v',Be,hi,R0⟩:=rW ⟨E2.len,R⟩ h1
  obtain⟨rfl,_,hO,_⟩:=dy_ h2 R0
  obtain⟨ws,h5,_,h6⟩:=OwOk.ins hO
  refine⟨.ref a0,Be,a0,C0,Fu,ws,rfl,h5,c,hn,by rw[h6.len];exact hl,DK.nx _ _ _ rfl (uK E2.len hi Be (R0.setF h2 Ba (hx.to (lI λb hb=>?_)) h5)) t2⟩
  exact(((dd_ h1 Be).append_right fr).flatMap_right _).mem_iff.mpr hb
 ·exact t2.elim
end
def iL(N:List Str)(o:Ow)(ds:List Dx):En:=.bo o::(ds.map (λd=>.v (.tr d))++List.replicate (N.length-(ds.length+1)) .un)
def iA(C a dx:Addr)(Q:Sv->FsO->Prop)(s:Sv)(ρ:En):Prop:=match (ρ[0]? : Option Sl)with
 |some (.bo (.oi C' a' dx' l))=>C'=C/\a'=a/\dx'=dx/\Q s l
 |_=>False
abbrev aJb(C a dx:Addr)(Q:Sv->FsO->Prop):XD:=⟨λρ=>iA C a dx Q (.tr .non) ρ,λs ρ=>iA C a dx Q s ρ,λ_=>False,λ_=>False⟩
theorem nO:∀{ds:List Dx} {vs:List V},ds.length=vs.length->(ds.map (λd=>Sl.v (.tr d))).zip (vs.map some)=jH (ds.map .tr) vs
 | [],[],_=>rfl
 | [],_::_,h=>by simp at h
 |_::_,[],h=>by simp at h
 |d::ds,v::vs,h=>by
  show(Sl.v (.tr d),some v)::(ds.map (λd=>Sl.v (.tr d))).zip (vs.map some)=(Sl.v (.tr d),some v)::jH (ds.map .tr) vs
  rw[nO (by simpa using h)]
theorem aZm{x qual:Str}{st:Stmt}{f:Addr}{fd:FuncData}{N ps:List Str}{k:Nat}{g:GO}(Fn:Fun K x qual st f fd)(S:FnScope N ps (aL st))(Ak:∀C l ds Q,g C l ds Q->ds.length+1=ps.length)(hN:ps.length<=N.length)
  (A0:∀ (Ai:Value) (A:Around) (outer:List Env) (s:Shared) (H:Hp) (E:XK),Room k (A.deeper (PyProof.Rows.envOfC qual (aL st) s.heap.objs.size f Ai)) →
   ∃G,XSs (iS CX0 P w K mg base N qual (aL st) f Ai A outer s H E).nox fZ (dX st) G/\∀C a dx l ds Q,g C l ds Q->G (iL N (.oi C a dx l) ds) (aJb C a dx Q)):FnOk P w K mg base CX0 (k+1) f fd ps (spO g):=by
 refine Fn.ok S (λvs H Q E h=>?_) (λAi A outer s H vs Q E hr h=>?_)
 ·obtain ⟨F,C,a,dx,l,vr,ds,Qx,rfl,_,_,h2,_,h3,_⟩:=h
  rw[aE,<-h2]
  exact Ak C l ds Qx h3
 obtain⟨F,C,a,dx,l,vr,ds,Qx,rfl,h0,hB,h2,R,h3,h4⟩:=h
 obtain⟨G,hG,hq⟩:=A0 Ai A outer s H E hr
 have Gn:=Ak C l ds Qx h3
 have fin:∀{sv:Sv} {v:V} {σ':St} {H':Hp} {ρ':En},EOk F ρ' σ' ((.v sv,some v)::[]) H'->iA C a dx Qx sv ρ'->Q v H':=λ{sv v σ' H' ρ'} E' q=>by
  unfold iA at q
  split at q
  ·rename_i C' a' dx' l' e0
   obtain⟨rfl,rfl,rfl,q⟩:=q
   obtain⟨y,hy,hi,R2⟩:=rW E' e0
   obtain⟨rfl,_⟩:=dy_ rfl R2
   refine h4 sv v l' H' (Rep.drops (A:=(ρ'.zip σ').eraseIdx 0) (R2.perm ?_)) q
   exact List.perm_middle.symm
  ·exact q.elim
 refine⟨_,hG F,iL N (.oi C a dx l) ds,[],aJb C a dx Qx,⟨?_,?_⟩,hq C a dx l ds Qx h3,⟨λσ' H' ρ' _ E' q=>fin (EOk.back E'.len (E'.rep.add (d:=.non) (v:=.non) IsX.of_non)) q,λv s σ' H' ρ' _ E' q=>fin E' q,λ_ _ _ _ _ q=>q.elim,λ_ _ _ _ _ q=>q.elim⟩⟩
 ·unfold iL L2.start
  simp only[aC,aD,bC,aE]
  omega
 ·have e:(iL N (.oi C a dx l) ds).zip (L2.start N (.ref a :: vr))=((.bo (.oi C a dx l),some (.ref a)) :: jH (ds.map .tr) vr) ++ List.replicate (N.length - (ds.length + 1)) (.un,none):=by
   unfold iL L2.start
   rw[aO,aU,hU,aE,<-h2,List.zip_append (by rw[aD,aD];exact h2),nO h2,List.zip_replicate',aU]
  rw[e,aS]
  exact(R.addUs _).perm eQ
end Lf
namespace L2
open PySem PySem.Spec PyProof.Rows
section
variable{X:Cx}
def st3(x y:Str)(i:Int):Bool:=fromIndex x.length i+y.length<=x.length&&Builtin.Str.subAt x y (fromIndex x.length i)
theorem v5:MtR X "str.startswith" (λx vs H Q=>∃z y i,x=.str z/\vs=[.str y,.int i]/\Q (.bl (st3 z y i)) H):=by
 intro Aa s σ H x vs v us Q I rx rv h
 obtain⟨z,y,i,rfl,rfl,q⟩:=h
 obtain⟨t,rfl⟩:=rx
 cases rv with
 |cons r1 r2 =>
  cases r2 with
  |cons r3 r4 =>
   cases r4
   obtain⟨u,rfl⟩:=r1
   obtain⟨u2,rfl⟩:=r3
   exact call_gives F.slot_str_startswith (typeIs_str s z t) F.entry_str_startswith (F.args_str_startswith_3 _ _ _) (gives_str_startswith_from z y i t u u2) ⟨.bl _,H,I,rfl,q⟩
theorem rT:CallR X (.type "int") (λxs H Q=>∃x n,xs=[.str x]/\x.length<=640/\PySem.intText? x=some n/\Q (.int n) H):=by
 intro Aa s σ H xs us Q I r h
 obtain⟨x,n,rfl,hl,hn,q⟩:=h
 obtain⟨u,rfl,rx⟩:=gO r
 obtain⟨t,rfl⟩:=rx
 exact PySem.W.KIN.call_text hn hl ⟨.int n,H,I.tok _,⟨_,rfl⟩,q⟩
end
end L2
namespace Lf
open PySem L2
def bDb:GC:=λds Q=>∃x n,ds=[.str x]/\x.length<=640/\PySem.intText? x=some n/\Q (.tr (.int n))
theorem n4:iB (λxs H Q=>∃x n,xs=[.str x]/\x.length<=640/\PySem.intText? x=some n/\Q (.int n) H) bDb:=by
 intro F P H ds xs Q Qx R hs g k
 obtain⟨x,n,rfl,hl,hn,q⟩:=g
 obtain⟨y,rfl,hx⟩:=qJ hs
 cases hx.str_eq
 exact⟨x,n,rfl,hl,hn,k _ _ H (R.add (IsX.of_int _)) q⟩
def aIb(to ta tb:XT):XT:=λρ Q=>to ρ λo ρ1=>(∃z,o.d=.str z)/\ta ρ1 λa ρ2=>tb ρ2 λb ρ3=>match o.d,a.d,b.d with
 | .str z,.str y,.int i=>Q (.tr (.bl (st3 z y i))) ρ3
 |_,_,_=>False
section
variable{o e e2:Expr}{to t t2:XT}{apos cpos pos:Pos}{F:Fm}{i:Nat}{K:dA}{es:List Expr}{u:XA}
theorem o8(ho:XE X Ex o to)(h:XE X Ex e t)(h2:XE X Ex e2 t2)
  (A1:attributeBase o "startswith" X.env (eval o X.env)=eval o X.env:=by rfl)
  (Ci:((backTo cpos (starEach [e,e2] X.env)).all (fun x => !x.1) && (backToKw cpos (keywordEach [] X.env)).all (fun x=>x.1.isSome)
   && decide ([e,e2].length+([]:List Keyword).length+(if([]:List Keyword).isEmpty then 0 else 1)<30))=true:=by rfl)
  (A7:(apos.endLine == cpos.line)=true:=by rfl) (hs:starEach [e,e2] X.env=(false,eval e X.env)::starEach [e2] X.env:=by rfl) (D3:starEach [e2] X.env=(false,eval e2 X.env)::starEach [] X.env:=by rfl) (Ay:(backTo cpos (starEach [e2] X.env)).any (·.1)=false:=by rfl) :
  XE X Ex (.Call (.Attribute o "startswith" apos) [e,e2] [] cpos) (aIb to t t2):=λF =>
 (jm_ PySem.F.plainAttrs_str PySem.F.slot_str_startswith PySem.F.type_str_startswith v5 (ho F) (kS (h F) (kS (h2 F) uL D3) hs) A1 Ci A7 hs Ay).weak fun σ H Q=>by
  rintro⟨ρ,fr,Qx,E,q,k⟩
  refine⟨ρ,fr,_,E,q,λv s H' ρ' E' q'=>?_⟩
  obtain⟨⟨z,hz⟩,q'⟩:=q'
  obtain⟨R,hx⟩:=E'.one
  rw[hz]at hx q'
  cases hx.str_eq
  refine⟨rfl,ρ',_,_,E'.drop,q',λu s2 H2 ρ2 E2 q2=>?_⟩
  refine⟨ρ2,_,_,E2,q2,λu3 s3 H3 ρ3 E3 q3=>?_⟩
  obtain⟨R3,Do,Ki⟩:=E3.two
  split at q3
  ·rename_i z' y' i' e1 e2 e3
   cases e1
   rw[e2]at Do
   rw[e3]at Ki
   cases Do.str_eq
   cases Ki.int_eq
   exact⟨z,y',i',rfl,rfl,k _ _ H3 ρ3 (EOk.back E3.len (R3.add (IsX.of_bl _))) q3⟩
  ·exact q3.elim
end
end Lf
namespace L2
open PySem PySem.W PySem.Spec PyProof.Rows PySem.Calls
theorem ek_{K:Frag}{C:Addr}{m q:Str}{s:Stmt}(h:mZ K C m q=fG m q s)(h2:f8 K C m=true):∃f fd,findIn K (.ref C) m=some (some (.ref f))/\isFn K (.ref f)=true/\Fun K m q s f fd:=by
 unfold mZ at h
 unfold f8 at h2
 cases e:findIn K (.ref C) m with
 |none=>rw[e]at h;cases h
 |some o =>
  cases o with
  |none=>rw[e]at h;cases h
  |some v =>
   rw[e]at h2
   cases v with
   |ref f =>
    rw[e]at h
    dsimp only at h
    cases e2:K.lookup f with
    |none=>rw[e2]at h;cases h
    |some ob =>
     obtain⟨oc,od,da,sl⟩:=ob
     rw[e2]at h
     cases da with
     |func fd =>
      obtain⟨nm,qn,pa,bo,sc,gl,cl,df,kw,dc,pm,an,cd,ct,bl⟩:=fd
      simp only[fG,Option.some.injEq,Prod.mk.injEq]at h
      obtain⟨⟨rfl,rfl,rfl,rfl,rfl⟩,⟨rfl,rfl,rfl,rfl⟩,h3⟩:=h
      refine⟨f,_,rfl,h2,⟨oc,od,kw,dc,pm,an,cd,ct,sl,rfl,e2,h3⟩,?_⟩
      unfold keepIn
      dsimp only
      rw[e2]
     |_=>cases h
   |_=>rw[e]at h;cases h
theorem sY{α β:Type}{f:α->β}{b:β}:∀{l:List α},l.map f=List.replicate l.length b->∀a∈l,f a=b
 | [],_,a,h=>by simp at h
 |x::r,h,a,ha=>by
  simp only[aO,aE,dI,List.cons.injEq]at h
  rcases aI.mp ha with rfl | ha
  ·exact h.1
  ·exact sY h.2 a ha
theorem aEj{K:Frag}{n:Str}{ms:List (Str×Str)}{fs:List Str}{es:List FO}(h:f9 K n ms fs=l9 es ms fs):∃C,nsIn K mainGlobals n=some (some (.ref C))/\Cls K C/\makesIn K C=true/\keepIn K (.ref C)=true/\ms.map (λp=>mZ K C p.1 p.2)=es/\(∀p∈ms,f8 K C p.1=true)/\∀f∈fs,NoAttr K C f:=by
 unfold f9 l9 at h
 split at h
 ·rename_i C hn
  simp only[Option.some.injEq,Prod.mk.injEq]at h
  obtain⟨⟨h1,h2,h3,h4,h5,h6⟩,h7,h8,h9⟩:=h
  exact⟨C,hn,⟨h1,h2,h3,h4⟩,h5,h6,h7,sY h8,sY h9⟩
 ·cases h
end L2
namespace Lf
open PySem L2
abbrev GOE:=Addr->FsO->List Dx->(Sv->FsO->Prop)->ExT->Prop
def eI(g:GOE):Sp:=λvs H Q E=>∃(F:Fm) (C a dx:Addr) (l:FsO) (vr:List V) (ds:List Dx) (Qx:Sv->FsO->Prop) (Ex:ExT),vs=.ref a::vr/\F.H0=H/\F.B=(Ow.oi C a dx l).fp/\ds.length=vr.length/\Rep F ((.bo (.oi C a dx l),some (.ref a))::jH (ds.map .tr) vr) H/\g C l ds Qx Ex /\
 (∀s v l' H',Rep F [(.bo (.oi C a dx l'),some (.ref a)),(.v s,some v)] H'->Qx s l'->Q v H')/\∀c H',lQ F H'->Ex c->E c none H'
def aIf(Ex:ExT)(g:GOE)(i:Nat)(u:XA):XT:=λρ Q=>(jE ρ i).isSome=true/\u ρ λss ρ'=>match jE ρ' i with
 |some (C,a,dx,l,f)=>g C l (ss.map Sv.d) (λs l'=>Q s (ρ'.set i (f (.oi C a dx l')))) Ex
 |none=>False
def zZ(Ex:ExT)(C0:Addr)(m:Str)(g:GOE)(i:Nat)(u:XA):XT:=λρ Q=>(match jE ρ i with
 |some (C,_,_,l,_)=>C=C0/\l.lookup m=none
 |none=>False)/\u ρ λss ρ'=>match jE ρ' i with
 |some (C,a,dx,l,f)=>g C l (ss.map Sv.d) (λs l'=>Q s (ρ'.set i (f (.oi C a dx l')))) Ex
 |none=>False
def aId(Ex:ExT)(C:Addr)(g:GOE)(u:XA):XT:=λρ Q=>u ρ λss ρ'=>∀a dx,g C [] (ss.map Sv.d) (λs l'=>s.d=.non/\Q (.ow (.oi C a dx l')) ρ') Ex
theorem i9{F F':Fm}{r:Rw}{P:List Rw}{H H':Hp}(R:Rep F (r::P) H)(h0:F'.H0=H)(hB:F'.B=fY r)(k:lQ F' H'):lQ F H':=λb o h1 h2=>by
 refine k b o (by rw[h0];exact R.kp b o h1 h2) λz=>?_
 rw[hB]at z
 rcases(R.fr r aA b z).or with h | h
 ·exact h2 h
 ·rw[h]at h1;cases h1
theorem oH{F:Fm}{ρ2:En}{σ:St}{fr:List Rw}{H2:Hp}{ss:List Sv}{vs:List V}{g:GOE}{Ex:ExT}{i:Nat}{Q:VK}{Qx:Sv->En->Prop}{a0:Addr}(Gw:σ[i]? = some (some (.ref a0)))(hl:ss.length=vs.length)(E2:EOk F ρ2 σ (jH ss vs++fr) H2)
  (q2:match jE ρ2 i with
   |some (C,a,dx,l,f)=>g C l (ss.map Sv.d) (λs l'=>Qx s (ρ2.set i (f (.oi C a dx l')))) Ex
   |none=>False)
  (k:∀v s H' ρ',EOk F ρ' σ ((.v s,some v)::fr) H'->Qx s ρ'->Q v H'):eI g (.ref a0::vs) H2 Q (λc _ H'=>Ex c/\lQ F H'):=by
 obtain⟨R,hs⟩:=E2.many hl
 split at q2
 ·rename_i C a dx l f hb
  obtain⟨sl,h3,h4⟩:=aP.mp hb
  have E3:EOk F ρ2 σ fr H2:=⟨E2.len,R⟩
  obtain⟨v',Be,Di,R2⟩:=rW E3 h3
  rw[Gw]at Be
  cases Be
  obtain⟨ex,hA,_⟩:=dy_ h4 R2
  cases ex
  obtain⟨F',h0,hB,hS,R1,bk⟩:=R2.lend h4
  have hO:(bQ (ρ2.zip σ++fr)).Perm (bQ ((sl,some (V.ref a0))::((ρ2.zip σ).eraseIdx i++fr))):=((dd_ h3 Gw).append_right fr).flatMap_right _
  have e1:bQ [((Sl.bo (.oi C a0 dx l),some (V.ref a0)):Rw)]=(Ow.oi C a0 dx l).fp:=by rw[lJ];exact aS _
  have Fw:All2 (IsX (hid (bQ [((Sl.bo (.oi C a0 dx l),some (V.ref a0)):Rw)]) (F'.vis H2))) (ss.map Sv.d) vs:=hs.imp λd v z=>z.to λb u hb=>by
   have Fj:=lI (λc hc=>hO.mem_iff.mpr hc) b u hb
   have Au:=bB.mp Fj
   refine bB.mpr ⟨λz=>Au.1 ?_,(lZ (by rw[h0];exact R2.hv _ _ Fj)).trans (by rw[hS];exact Fj)⟩
   rw[lJ,hA]
   rw[e1]at z
   exact aX _ z
  refine⟨F',C,a0,dx,l,vs,ss.map Sv.d,_,Ex,rfl,h0,hB,by rw[aD];exact hl,(iy_ R1 Fw).1.perm ?_,q2,λs v l' H' R' q=>k v s H' _ (EOk.back (by rw[bI];exact E2.len) ((bk R').perm (((dc_ E2.len Di Gw).append_right fr).symm.cons _))) q,λc H' kp hx=>⟨hx,i9 R2 h0 (hB.trans hA.symm) kp⟩⟩
  exact eQ
 ·exact q2.elim
def iV(P:Program)(w:World)(K:dA)(mg:kC)(base:Heap)(j:Nat)(C:Addr)(m:Str)(ps:List Str)(sp:Sp):Prop:=Cls K C/\∃f fd,Meth K C m f/\FnOk P w K mg base (CXe P w) j f fd ps sp/\Binds K fd ps []
def aHb(P:Program)(w:World)(K:dA)(mg:kC)(base:Heap)(j:Nat)(C:Addr)(ps:List Str)(sp:Sp):Prop:=∃f fd,Mk K C f/\FnOk P w K mg base (CXe P w) j f fd ps sp/\Binds K fd ps []
section
variable{j i:Nat}{x m:Str}{ps:List Str}{g:GOE}{e o:Expr}{es:List Expr}{u:XA}{p pos apos:Pos}{C:Addr}
theorem cv_(C:CalE X.prog X.w X.K X.mg X.base j x ps (eI g))(hr:Room j X.A)(hv:PE X e (gL i))(ha:XAs X Ex es u)(hg:Gl X x:=by rfl)(B2:(x == ("__debug__" : Str))=false:=by decide)
  (he:starEach (e::es) X.env=(false,eval e X.env)::starEach es X.env:=by rfl) (A9:(backTo pos (starEach es X.env)).any (·.1)=false:=by rfl):XE X Ex (.Call (.Name x p) (e::es) [] pos) (aIf Ex g i u):=λF=>(aJr (E:=λc _ H'=>Ex c/\lQ F H') C hr (λAa σ H s e s' I h=>OkF.pass Aa σ H s e s' I h) (kS hv (ha F) he) hg B2 he A9).weak λσ H Q=>by
 rintro⟨ρ,fr,Qx,E,⟨t0,t⟩,k⟩
 obtain⟨⟨C0,a0,Fu,l0,f0⟩,h0⟩:=cI.mp t0
 obtain⟨Hh,h1,h2⟩:=aP.mp h0
 obtain⟨v,hv,hi,R0⟩:=rW E h1
 obtain⟨rfl,_⟩:=dy_ h2 R0
 refine⟨.ref a0,hv,ρ,fr,_,E,t,λvs ss H2 ρ2 hl E2 q2=>?_⟩
 show eI g (V.ref a0::(vs++[])) H2 Q _
 rw[aS]
 exact oH hv hl E2 q2 k
theorem dg_{pl:Sem Bool}(M:iV X.prog X.w X.K X.mg X.base j C m ps (eI g))(hr:Room j X.A)(hv:PE X o (gL i))(ha:XAs X Ex (e::es) u)
  (Cf:starEach (e::es) X.env=(false,eval e X.env)::starEach es X.env:=by rfl) (A9:(backTo pos (starEach es X.env)).any (·.1)=false:=by rfl)
  (ht:eval (.Call (.Attribute o m apos) (e :: es) [] pos) X.env=(do
   let ov <-eval o X.env
   standAt apos.atName
   let (f,first) <-holding [ov] (getMethod ov m pl)
   callWith pos f first (backTo pos (starEach (e::es) X.env)) (backToKw pos (keywordEach [] X.env))):=by rfl) :
  XE X Ex (.Call (.Attribute o m apos) (e::es) [] pos) (zZ Ex C m g i u):=λF=>by
 obtain⟨c,f,fd,hm,hf,hb⟩:=M
 refine(e7 (E:=λc _ H'=>Ex c/\lQ F H') hv c hm hf hr hb .nil (λAa σ H s e s' I h=>OkF.pass Aa σ H s e s' I h) (ha F) Cf A9 ht).weak λσ H Q=>?_
 rintro⟨ρ,fr,Qx,E,⟨t0,t⟩,k⟩
 split at t0
 ·rename_i C0 a0 Fu l0 f0 h0
  obtain⟨rfl,Ix⟩:=t0
  obtain⟨Hh,h1,h2⟩:=aP.mp h0
  obtain⟨v,hv,hi,R0⟩:=rW E h1
  obtain⟨rfl,_,hO,_⟩:=dy_ h2 R0
  obtain⟨ws,h5,_,h6⟩:=OwOk.ins hO
  refine⟨.ref a0,hv,a0,Fu,ws,rfl,h5,h6.miss Ix,ρ,fr,_,E,t,λvs ss H2 ρ2 hl E2 q2=>?_⟩
  show eI g (V.ref a0::(vs++[])) H2 Q _
  rw[aS]
  exact oH hv hl E2 q2 k
 ·exact t0.elim
theorem xO{pl:Sem Bool}(M:iV X.prog X.w X.K X.mg X.base j C m ps (eI g))(hr:Room j X.A)(hv:PE X o (gL i))
  (ht:eval (.Call (.Attribute o m apos) [] [] pos) X.env=(do
   let ov <-eval o X.env
   standAt apos.atName
   let (f,first) <-holding [ov] (getMethod ov m pl)
   callWith pos f first (backTo pos (starEach [] X.env)) (backToKw pos (keywordEach [] X.env))):=by rfl) :
  XE X Ex (.Call (.Attribute o m apos) [] [] pos) (zZ Ex C m g i cV):=λF=>by
 obtain⟨c,f,fd,hm,hf,hb⟩:=M
 refine(aDq (E:=λc _ H'=>Ex c/\lQ F H') hv c hm hf hr hb .nil (λAa σ H s e s' I h=>OkF.pass Aa σ H s e s' I h) ht).weak λσ H Q=>?_
 rintro⟨ρ,fr,Qx,E,⟨t0,t⟩,k⟩
 split at t0
 ·rename_i C0 a0 Fu l0 f0 h0
  obtain⟨rfl,Ix⟩:=t0
  obtain⟨Hh,h1,h2⟩:=aP.mp h0
  obtain⟨v,hv,hi,R0⟩:=rW E h1
  obtain⟨rfl,_,hO,_⟩:=dy_ h2 R0
  obtain⟨ws,h5,_,h6⟩:=OwOk.ins hO
  refine⟨.ref a0,hv,a0,Fu,ws,rfl,h5,h6.miss Ix,?_⟩
  exact oH (ss:=[]) (vs:=[]) hv rfl E t k
 ·exact t0.elim
theorem o9(M:aHb X.prog X.w X.K X.mg X.base j C ps (eI g))(hr:Room (j+1) X.A)(hm:X.mg x=some (.ref C))(ha:XAs X Ex (e::es) u)(hg:Gl X x:=by rfl)(B2:(x == ("__debug__" : Str))=false:=by decide)
  (he:starEach (e::es) X.env=(false,eval e X.env)::starEach es X.env:=by rfl) (A9:(backTo pos (starEach es X.env)).any (·.1)=false:=by rfl) :
  XE X Ex (.Call (.Name x p) (e::es) [] pos) (aId Ex C g u):=λF=>by
 obtain⟨f,fd,hk,hf,hb⟩:=M
 refine(aJp (E:=λc _ H'=>Ex c/\lQ F H') hk hf hr hg hm hb .nil (λAa σ H s e s' I h=>OkF.pass Aa σ H s e s' I h) (ha F) B2 he A9).weak λσ H Q=>?_
 rintro⟨ρ,fr,Qx,E,t,k⟩
 refine⟨ρ,fr,_,E,t,λvs ss H2 ρ2 hl E2 q2=>?_⟩
 intro a dx ha I0 Cg
 rw[aS]
 obtain⟨R,hs⟩:=E2.many hl
 have eS:Same H2 (upd (upd H2 dx (.own a)) a (.ins C dx [])):=λb o hb=>by
  have n1:b≠a:=λz=>by rw[z,ha]at hb;cases hb
  have n2:b≠dx:=λz=>by rw[z,I0]at hb;cases hb
  rw[gU n1,gU n2]
  exact hb
 have E6:(Ow.oi C a dx []).fp=[a,dx]:=by simp only[Ow.fp,jX]
 have R1:Rep F ((.v (.ow (.oi C a dx [])),some (.ref a))::(ρ2.zip σ++fr)) (upd (upd H2 dx (.own a)) a (.ins C dx [])):=by
  refine R.adoptW eS (by rw[E6];simp[Ne.symm Cg]) (λb hb=>?_) ?_
  ·rw [E6] at hb
   rcases aI.mp hb with rfl | hb
   ·exact ha
   ·rw[aG.mp hb];exact I0
  ·simp only [OwOk,OwOkf]
   exact⟨trivial,[],xD,by rw[gU Cg];exact xD,rfl⟩
 obtain⟨F',h0,hB,hS,R2,bk⟩:=R1.lend rfl
 have e1:bQ [((Sl.bo (.oi C a dx []),some (V.ref a)):Rw)]=[a,dx]:=by rw[lJ,<-E6];exact aS _
 have e2:bQ ((Sl.v (.ow (.oi C a dx [])),some (V.ref a))::(ρ2.zip σ++fr))=[a,dx]++bQ (ρ2.zip σ++fr):=by rw[lJ,<-E6];rfl
 have Fw:All2 (IsX (hid (bQ [((Sl.bo (.oi C a dx []),some (V.ref a)):Rw)]) (F'.vis (upd (upd H2 dx (.own a)) a (.ins C dx []))))) (ss.map Sv.d) vs:=hs.imp λd v z=>z.to λb u hb=>by
  have Au:=bB.mp hb
  have hH:=R.hv _ _ hb
  have Iq:b∉[a,dx]:=λz=>by
   rcases aI.mp z with rfl | z
   ·rw[ha]at hH;cases hH
   ·rw[aG.mp z,I0]at hH;cases hH
  refine bB.mpr ⟨by rw[e1];exact Iq,(lZ (by rw[h0];exact eS _ _ hH)).trans ?_⟩
  rw[hS,e2]
  exact bB.mpr ⟨λz=>(bL.mp z).elim Iq Au.1,gk_ eS _ _ Au.2⟩
 refine⟨F',C,a,dx,[],vs,ss.map Sv.d,_,Ex,rfl,h0,hB,by rw[aD];exact hl,(iy_ R2 Fw).1.perm eQ,q2 a dx,λs v l' H' R' q=>?_,λc H' kp hx=>⟨hx,i9 R1 h0 (by rw[hB];rfl) kp⟩⟩
 have R3:=bk R'
 obtain⟨w,ew,hw⟩:=R3.head
 cases ew
 rw[q.1]at hw
 refine⟨?_,k _ _ H' ρ2 (EOk.back E2.len R3.tail) q.2⟩
 simpa only[IsX]using hw
end
theorem kH{x qual:Str}{st:Stmt}{f:Addr}{fd:FuncData}{N ps:List Str}{k:Nat}{g:GOE}(Fn:Fun K x qual st f fd)(S:FnScope N ps (aL st))(Ak:∀C l ds Q Ex,g C l ds Q Ex->ds.length+1=ps.length)(hN:ps.length<=N.length)
  (A0:∀ (Ai:Value) (A:Around) (outer:List Env) (s:Shared) (H:Hp) (E:XK) (Ex:ExT),Room k (A.deeper (PyProof.Rows.envOfC qual (aL st) s.heap.objs.size f Ai)) →
   ∃G,XSs (iS (CXe P w) P w K mg base N qual (aL st) f Ai A outer s H E) Ex (dX st) G/\∀C a dx l ds Q,g C l ds Q Ex->G (iL N (.oi C a dx l) ds) (aJb C a dx Q)):FnOk P w K mg base (CXe P w) (k+1) f fd ps (eI g):=by
 obtain⟨oc,od,kV,doc,pm,an,Ai,ct,osl,rfl,lk,C7⟩:=Fn.ex
 refine aFy lk C7 S (λvs H Q E h=>?_) λA outer s H vs Q E hr h=>?_
 ·obtain ⟨F,C,a,dx,l,vr,ds,Qx,Ex,rfl,_,_,h2,_,h3,_⟩:=h
  rw[aE,<-h2]
  exact Ak C l ds Qx Ex h3
 obtain⟨F,C,a,dx,l,vr,ds,Qx,Ex,rfl,h0,hB,h2,R,h3,h4,h5⟩:=h
 obtain⟨G,hG,hq⟩:=A0 Ai A outer s H E Ex hr
 have Gn:=Ak C l ds Qx Ex h3
 haveI:OkF (iS (CXe P w) P w K mg base N qual (aL st) f Ai A outer s H E) Ex F:=f7 λc H' e k=>h5 c H' k e
 have fin:∀{sv:Sv} {v:V} {σ':St} {H':Hp} {ρ':En},EOk F ρ' σ' ((.v sv,some v)::[]) H'->iA C a dx Qx sv ρ'->Q v H':=λ{sv v σ' H' ρ'} E' q=>by
  unfold iA at q
  split at q
  ·rename_i C' a' dx' l' e0
   obtain⟨rfl,rfl,rfl,q⟩:=q
   obtain⟨y,hy,hi,R2⟩:=rW E' e0
   obtain⟨rfl,_⟩:=dy_ rfl R2
   refine h4 sv v l' H' (Rep.drops (A:=(ρ'.zip σ').eraseIdx 0) (R2.perm ?_)) q
   exact List.perm_middle.symm
  ·exact q.elim
 refine⟨_,hG F,iL N (.oi C a dx l) ds,[],aJb C a dx Qx,⟨?_,?_⟩,hq C a dx l ds Qx h3,⟨λσ' H' ρ' _ E' q=>fin (EOk.back E'.len (E'.rep.add (d:=.non) (v:=.non) IsX.of_non)) q,λv s σ' H' ρ' _ E' q=>fin E' q,λ_ _ _ _ _ q=>q.elim,λ_ _ _ _ _ q=>q.elim⟩⟩
 ·unfold iL L2.start
  simp only[aC,aD,bC,aE]
  omega
 ·have e:(iL N (.oi C a dx l) ds).zip (L2.start N (.ref a :: vr))=((.bo (.oi C a dx l),some (.ref a)) :: jH (ds.map .tr) vr) ++ List.replicate (N.length - (ds.length + 1)) (.un,none):=by
   unfold iL L2.start
   rw[aO,aU,hU,aE,<-h2,List.zip_append (by rw[aD,aD];exact h2),nO h2,List.zip_replicate',aU]
  rw[e,aS]
  exact(R.addUs _).perm eQ
end Lf
namespace L2
open PySem PySem.Spec PyProof.Rows Builtin Builtin.Str
section
variable{X:Cx}
theorem aKx:MtR X "str.partition" (λx vs H Q=>∃z y,x=.str z/\vs=[.str y]/\(y.length == 0)=false/\z.length<=sizeLine/\∀p,H p=none->Q (.ref p) (upd H p (.tup [.str (Txt.partition z y).1,.str (Txt.partition z y).2.1,.str (Txt.partition z y).2.2]))):=by
 intro Aa s σ H x vs v us Q I rx rv h
 obtain⟨z,y,rfl,rfl,hy,hsz,q⟩:=h
 obtain⟨t,rfl⟩:=rx
 cases rv with
 |cons r1 r2 =>
  cases r2
  obtain⟨u,rfl⟩:=r1
  have fin:∀(ta tb tc:Tok) (k:Nat),EP X Aa σ Q (.ref s.heap.objs.size) { s with heap:=s.heap.push { cls:=.type "tuple",data:=.seq [.str (Txt.partition z y).1 ta,.str (Txt.partition z y).2.1 tb,.str (Txt.partition z y).2.2 tc].toArray },toks:=k }:=λta tb tc k =>
   ⟨.ref s.heap.objs.size,_,I.laid (λb o e=>aQ _ e) (aV _) (show ObjOk X.prog X.w _ _ _ (.tup [.str (Txt.partition z y).1,.str (Txt.partition z y).2.1,.str (Txt.partition z y).2.2])from⟨by show 3<=sizeLine;decide,_,.cons ⟨ta,rfl⟩ (.cons ⟨tb,rfl⟩ (.cons ⟨tc,rfl⟩ .nil)),⟨_,bO _ rfl,rfl,_,rfl⟩⟩),rfl,q _ (I.hok.fresh (aV _))⟩
  refine call_meets F.slot_str_partition (typeIs_str _ _ _) F.entry_str_partition (F.args_str_partition_2 _ _) (meets_str_partition z y t u hy hsz) ?_
  have f':=fin
  unfold Txt.partition at f'
  revert f'
  cases occurrences z y 0 z.length 1 with
  |nil=>intro f';exact f' _ _ _ _
  |cons i r=>intro f';exact f' _ _ _ _
end
end L2
namespace Lf
open PySem L2
def aVx(y:Str)(to:XT):XT:=λρ Q=>to ρ λo ρ'=>∃z,o.d=.str z/\z.length<=sizeLine/\Q (.tr (.tup [.str (Txt.partition z y).1,.str (Txt.partition z y).2.1,.str (Txt.partition z y).2.2])) ρ'
theorem aHx{o:Expr}{to:XT}{y:Str}{j:Nat}{sp apos cpos:Pos}(ho:XE X Ex o to)(hy:(y.length == 0)=false)
  (A1:attributeBase o "partition" X.env (eval o X.env)=eval o X.env:=by rfl)
  (Ci:((backTo cpos (starEach [.Constant (.str y) j sp] X.env)).all (fun x => !x.1) && (backToKw cpos (keywordEach [] X.env)).all (fun x=>x.1.isSome)
   && decide ([Expr.Constant (.str y) j sp].length+([]:List Keyword).length+(if([]:List Keyword).isEmpty then 0 else 1)<30))=true:=by rfl)
  (A7:(apos.endLine == cpos.line)=true:=by rfl) (hs:starEach [.Constant (.str y) j sp] X.env=(false,eval (.Constant (.str y) j sp) X.env)::starEach [] X.env:=by rfl) (Ay:(backTo cpos (starEach [] X.env)).any (·.1)=false:=by rfl) :
  XE X Ex (.Call (.Attribute o "partition" apos) [.Constant (.str y) j sp] [] cpos) (aVx y to):=λF =>
 (jm_ PySem.F.plainAttrs_str PySem.F.slot_str_partition PySem.F.type_str_partition aKx (ho F) (kS (oY (x:=y)) uL hs) A1 Ci A7 hs Ay).weak fun σ H Q=>by
  rintro⟨ρ,fr,Qx,E,t,k⟩
  refine⟨ρ,fr,_,E,t,λv s H' ρ' E' q=>?_⟩
  obtain⟨z,hd,hz,q⟩:=q
  obtain⟨R,hx⟩:=E'.one
  rw[hd]at hx
  cases hx.str_eq
  refine⟨rfl,z,y,rfl,rfl,hy,hz,λp hp=>k _ _ _ ρ' (EOk.back E'.len (R.newT hp (l:=[.str (Txt.partition z y).1,.str (Txt.partition z y).2.1,.str (Txt.partition z y).2.2]) (nZ [(Txt.partition z y).1,(Txt.partition z y).2.1,(Txt.partition z y).2.2]))) q⟩
def oA:List Expr->Option (List Str)
 | []=>some []
 | .Constant (.str x) _ _::r=>(oA r).map (x :: ·)
 |_=>none
def aBp:List Str->XA
 | []=>cV
 |z::r=>bA (xC (.str z)) (aBp r)
theorem zY{X:Cx}{Ex:ExT}:∀{es:List Expr} {zs:List Str},oA es=some zs->XAs X Ex es (aBp zs)
 | [],zs,h=>by cases h;exact bV
 |e::es,zs,h=>by
  unfold oA at h
  split at h
  ·rename_i Le;cases Le
  ·rename_i x j p r Le
   cases Le
   obtain⟨ys,hy,rfl⟩:=bU.mp h
   exact bF dL (zY hy) rfl
  ·cases h
theorem vC:∀{zs:List Str} {ρ:En} {Q:List Sv->En->Prop},Q (zs.map λz=>.tr (.str z)) ρ->aBp zs ρ Q
 | [],_,_,q=>q
 |z::r,ρ,Q,q=>vC (zs:=r) q
def aNm(zs:List Str):XT:=λρ Q=>zs.length<=1000000/\Q (.ol (zs.map Dx.str)) ρ
theorem aHv{es:List Expr}{zs:List Str}{pos:Pos}(h:oA es=some zs):XE X Ex (.List es pos) (aNm zs):=λF=>(mI (Ex:=Ex) (zY h) F).weak λσ H Q=>by
 rintro⟨ρ,fr,Qx,E,⟨t1,t2⟩,k⟩
 refine⟨ρ,fr,Qx,E,vC ⟨by rw[aD];exact t1,?_⟩,k⟩
 rw[cK]
 exact t2
theorem ke_{es:List Expr}{zs:List Str}{pos:Pos}(h:oA es=some zs):Bx (XE X Ex (.List es pos) (aNm zs)):=⟨aHv h⟩
theorem aZl{x:Str}{st:Stmt}{f:Addr}{fd:FuncData}{N ps:List Str}{k:Nat}{g:GC}(Fn:Fun K x x st f fd)(S:FnScope N ps (aL st))(Ak:∀ds Q,g ds Q->ds.length=ps.length)(hN:ps.length<=N.length)
  (A0:∀ (Ai:Value) (A:Around) (outer:List Env) (s:Shared) (H:Hp) (E:XK),Room k (A.deeper (PyProof.Rows.envOfC x (aL st) s.heap.objs.size f Ai)) →
   ∃G,Bx (XSs (iS CX0 P w K mg base N x (aL st) f Ai A outer s H E).nox fZ (dX st) G)/\∀ds Q,g ds Q->G (iZ N ds) (s_ Q)):FnOk P w K mg base CX0 (k+1) f fd ps (spX g):=lF Fn S Ak hN λAi A outer s H E hr=>by
 obtain⟨G,h,q⟩:=A0 Ai A outer s H E hr
 exact⟨G,h.out,q⟩
theorem aUt{a b:Expr}{ta tb:XT}{pos:Pos}(ha:Bx (XE X Ex a ta))(hb:Bx (XE X Ex b tb)):Bx (XE X Ex (.BinOp a .Mod b pos) (xOp aKz ta tb)):=⟨gn_ ha.out hb.out⟩
end Lf
namespace L2
open PySem PySem.Spec PyProof.Rows
def aOg(H:Hp)(xs:List V)(Q:VK):Prop:=∃(a:Addr) (d:PyData),xs=[.ref a]/\d.showable=true/\d.depth<=8/\d.shown.length<=sizeLine/\Q (.str d.shown) H /\
 ((∃i,d=.list [.int i]/\Rd H a (.lst [.int i]))\/(∃x,d=.list [.str x]/\Rd H a (.lst [.str x]))\/(∃x,d=.tuple [.str x]/\Rd H a (.tup [.str x]))\/d=.dict []/\Rd H a (.dK []))
section
variable{X:Cx}
theorem aAh(hg:X.A.guards=some [])(hu:X.A.units+64<cLine):CallR X (.type "str") (λxs H Q=>aOg H xs Q):=by
 intro Aa s σ H xs us Q I r h
 obtain⟨a,d,rfl,hs,hd,hz,q,hc⟩:=h
 obtain⟨u,rfl,rx⟩:=gO r
 cases rx
 have fin:∀as,Reads s.heap (.ref a) d as->(d.hasDict=true->sysModules∉as)->wpAny (model X.prog X.w) X.A (call (.type "str") [.ref a]) (EP X Aa σ Q) X.xe s:=λas hr hsm =>
  str_of_reads hr hs hsm hg (by omega) (λb o e=>e) (λh' u tk hk=>⟨.str d.shown,H,I.kept hk,⟨_,rfl⟩,q⟩) hz
 rcases hc with⟨i,rfl,hR⟩ | ⟨x,rfl,hR⟩ | ⟨x,rfl,hR⟩ | ⟨rfl,hR⟩
 ·obtain ⟨_,its,n,hv,ho⟩:=(show ObjOk X.prog X.w H s.heap a (.lst [.int i]) from hR.ok I.hok)
  obtain⟨w,rfl,t,rfl⟩:=gO hv
  exact fin _ (.list ho rfl rfl (.cons (.int _ _) .nil)) (λz=>by cases z)
 ·obtain ⟨_,its,n,hv,ho⟩:=(show ObjOk X.prog X.w H s.heap a (.lst [.str x]) from hR.ok I.hok)
  obtain⟨w,rfl,t,rfl⟩:=gO hv
  exact fin _ (.list ho rfl rfl (.cons (.str _ _) .nil)) (λz=>by cases z)
 ·obtain ⟨_,its,hv,o,ho,hc,n,Fi⟩:=(show ObjOk X.prog X.w H s.heap a (.tup [.str x]) from hR.ok I.hok)
  obtain⟨w,rfl,t,rfl⟩:=gO hv
  exact fin _ (.tuple ho hc Fi (.cons (.str _ _) .nil)) (λz=>by cases z)
 ·obtain ⟨_,hS,vs,hv,hD⟩:=(show ObjOk X.prog X.w H s.heap a (.dK []) from hR.ok I.hok)
  have hvs:vs=[]:=by cases hv;rfl
  subst hvs
  obtain⟨o,es,ep,ho,he,Fi,_,hp,_⟩:=hD
  have Hn:es.toList=[]:=by cases h:es.toList with
   |nil=>rfl
   |cons x y=>rw[h]at hp;cases hp
  exact fin _ (.dict (kvs:=[]) ho he.1 Fi (by rw[Hn];exact .nil) (by rw[Hn];exact .nil)) (λ_ z=>by
   rcases aI.mp z with z | z
   ·rw [z] at hS
    simp at hS
   ·cases z)
end
end L2
namespace Lf
open PySem L2
def pyD:Dx->Option PyData
 | .lst [.int i]=>some (.list [.int i])
 | .lst [.str x]=>some (.list [.str x])
 | .tup [.str x]=>some (.tuple [.str x])
 | .dic []=>some (.dict [])
 |_=>none
def aWz:GC:=λds Q=>(∃x,ds=[.str x]/\Q (.tr (.str x)))\/(∃n:Int,ds=[.int n]/\0<=n/\n<18446744073709551616/\Q (.tr (.str (cF n))))\/(ds=[.non]/\Q (.tr (.str "None")))\/(∃b:Bool,ds=[.bl b]/\Q (.tr (.str (if b=true then Str.ofString "True" else Str.ofString "False")))) \/
 ∃d p,ds=[d]/\pyD d=some p/\p.showable=true/\p.depth<=8/\p.shown.length<=1000000/\Q (.tr (.str p.shown))
section
variable{X:Cx}
theorem aAg:CallR X (.type "str") (λxs H Q=>∃x,xs=[.str x]/\Q (.str x) H):=by
 intro Aa s σ H xs us Q I r h
 obtain⟨x,rfl,q⟩:=h
 obtain⟨u,rfl,rx⟩:=gO r
 obtain⟨t,rfl⟩:=rx
 exact P.str_of_str ⟨.str x,H,I,⟨_,rfl⟩,q⟩
theorem aAi:CallR X (.type "str") (λxs H Q=>xs=[.non]/\Q (.str "None") H):=by
 intro Aa s σ H xs us Q I r h
 obtain⟨rfl,q⟩:=h
 obtain⟨u,rfl,rx⟩:=gO r
 cases rx
 exact P.str_of_none ⟨.str "None",H,I.tok _,⟨_,rfl⟩,q⟩
theorem aAj:CallR X (.type "str") (λxs H Q=>∃b:Bool,xs=[.bl b]/\Q (.str (if b=true then Str.ofString "True" else Str.ofString "False")) H):=by
 intro Aa s σ H xs us Q I r h
 obtain⟨b,rfl,q⟩:=h
 obtain⟨u,rfl,rx⟩:=gO r
 cases rx
 exact P.str_of_bool ⟨.str _,H,I.tok _,⟨_,rfl⟩,q⟩
abbrev aCx:List V->Hp->VK->Prop:=λxs H Q=>(∃x,xs=[.str x]/\Q (.str x) H)\/((∃n:Int,xs=[.int n]/\0<=n/\n<18446744073709551616/\Q (.str (cF n)) H)\/((xs=[.non]/\Q (.str "None") H)\/((∃b:Bool,xs=[.bl b]/\Q (.str (if b=true then Str.ofString "True" else Str.ofString "False")) H)\/aOg H xs Q)))
theorem aAk(hg:X.A.guards=some [])(hu:X.A.units+64<cLine):CallR X (.type "str") aCx:=aAg.or (jT.or (aAi.or (aAj.or (aAh hg hu))))
end
theorem aMu:iB aCx aWz:=by
 intro F P H ds xs Q Qx R hs g k
 rcases g with⟨x,rfl,q⟩ | ⟨n,rfl,h0,h1,q⟩ | ⟨rfl,q⟩ | ⟨b,rfl,q⟩ | ⟨d,p,rfl,hp,h1,h2,h3,q⟩
 ·obtain ⟨y,rfl,hx⟩:=qJ hs
  cases hx.str_eq
  exact .inl ⟨_,rfl,k _ _ H (R.add (IsX.of_str _)) q⟩
 ·obtain ⟨y,rfl,hx⟩:=qJ hs
  cases hx.int_eq
  exact .inr (.inl ⟨_,rfl,h0,h1,k _ _ H (R.add (IsX.of_str _)) q⟩)
 ·obtain ⟨y,rfl,hx⟩:=qJ hs
  cases hx.non_eq
  exact .inr (.inr (.inl ⟨rfl,k _ _ H (R.add (IsX.of_str _)) q⟩))
 ·obtain ⟨y,rfl,hx⟩:=qJ hs
  cases hx.bl_eq
  exact .inr (.inr (.inr (.inl ⟨_,rfl,k _ _ H (R.add (IsX.of_str _)) q⟩)))
 ·obtain ⟨y,rfl,hx⟩:=qJ hs
  refine .inr (.inr (.inr (.inr ?_)))
  have fin:=k _ _ H (R.add (IsX.of_str p.shown)) q
  unfold pyD at hp
  split at hp
  ·cases hp
   obtain⟨a,vs,rfl,h4,h5⟩:=hx.lst_eq
   obtain⟨v,rfl,hv⟩:=qJ h5
   cases hv.int_eq
   exact⟨a,_,rfl,h1,h2,by have:=fW;omega,fin,.inl ⟨_,rfl,.of (R.hv _ _ h4)⟩⟩
  ·cases hp
   obtain⟨a,vs,rfl,h4,h5⟩:=hx.lst_eq
   obtain⟨v,rfl,hv⟩:=qJ h5
   cases hv.str_eq
   exact⟨a,_,rfl,h1,h2,by have:=fW;omega,fin,.inr (.inl ⟨_,rfl,.of (R.hv _ _ h4)⟩)⟩
  ·cases hp
   obtain⟨a,vs,rfl,h4,h5⟩:=hx.tup_eq
   obtain⟨v,rfl,hv⟩:=qJ h5
   cases hv.str_eq
   exact⟨a,_,rfl,h1,h2,by have:=fW;omega,fin,.inr (.inr (.inl ⟨_,rfl,.of (R.hv _ _ h4)⟩))⟩
  ·cases hp
   obtain⟨a,vs,rfl,h4,h5⟩:=hx.dic_eq
   cases h5
   exact⟨a,_,rfl,h1,h2,by have:=fW;omega,fin,.inr (.inr (.inr ⟨rfl,aCu R h4⟩))⟩
  ·cases hp
section
open AutoSeq1 (wpAny_loadPart')
open MeetsSeq MeetsSeq2 MeetsSeq3 SeqRoads2 SeqAt
end
end Lf
namespace L2
open PySem PySem.Spec PyProof.Rows
end L2
namespace Lf
open PySem L2
end Lf
namespace L2
open PySem
end L2
namespace Lf
open PySem L2
end Lf
namespace L2
open PySem PySem.Spec PySem.Calls PyProof.Rows
theorem t5(r:Addr)(lo hi i:Int)(t u v ti:Tok):Meets (Builtin.«range.__contains__» ⟨[.ref r,.int i ti],[]⟩) (λA R s=>s.heap.get? r=some { cls:=.type "range",data:=.fields #[.int lo t,.int hi u,.int 1 v] }/\R (.ok (.ret (.bool (Builtin.Range.rangePlace? lo hi 1 i).isSome))) s):=by
 intro prog w A R s h
 obtain⟨hp,g,d,tk,os⟩:=s
 obtain⟨hl,h⟩:=h
 wp_walk using wpAny_loadPart' hl
 exact h
theorem t9(lo hi i:Int):(Builtin.Range.rangePlace? lo hi 1 i).isSome=(decide (lo<=i)&&decide (i<hi)):=by
 unfold Builtin.Range.rangePlace?
 dsimp only
 rw[if_pos (show(1:Int)>0 by decide),Int.emod_one]
 cases decide (lo<=i)<;>cases decide (i<hi)<;>rfl
section
variable{X:Cx}
def aWq(lo hi:Int)(ta:TE):TE:=λσ H Q=>ta σ H λx H1=>∃i,x=.int i/\Q (.bl (!(decide (lo<=i)&&decide (i<hi)))) H1
theorem u4{a:Expr}{ta:TE}{lo hi:Int}{j1 j2:Nat}{p p1 p2 pos:Pos}(ha:PE X a ta)(hg:Gl X "range")(hm:X.mg "range" = none):PC X .NotIn a (.Call (.Name "range" p) [.Constant (.int lo) j1 p1,.Constant (.int hi) j2 p2] [] pos) (aWq lo hi ta):=by
 intro Aa s σ H Q I h
 refine dN (ha Aa s σ H _ I h) λv s1 ⟨x,H1,I1,rx,q1⟩=>?_
 obtain⟨i,rfl,q1⟩:=q1
 obtain⟨ti,rfl⟩:=rx
 have pa:PA X [.Constant (.int lo) j1 p1,.Constant (.int hi) j2 p2] (λσ H R=>R [.int lo,.int hi] H):=kS oZ (kS oZ uL)
 refine Call_ (pJ I1 hg hm boot_range (PyProof.Rows.callWith_type1 (dN (pa pos Aa s1 σ H1 (λvs H=>vs=[.int lo,.int hi]/\H=H1) I1 ⟨rfl,rfl⟩) λus s2 ⟨vs,H2,I2,r1,q2⟩=>?_) rfl rfl))
 obtain⟨rfl,rfl⟩:=q2
 cases r1 with
 |cons r rr =>
  cases rr with
  |cons r' rr =>
   cases rr
   obtain⟨t,rfl⟩:=r
   obtain⟨t',rfl⟩:=r'
   refine call_range_2 ?_
   refine PySem.SeqRoads2.notIn_meets ⟨_,bO _ rfl,rfl⟩ F.slot_range_contains F.entry_range_contains (F.args_range_contains_2 _ _) (t5 _ lo hi i _ _ _ _) ⟨bO _ rfl,_,rfl,?_⟩
   rw[t9]
   exact⟨.bl _,H2,I2.kept λb o e=>aQ _ e,rfl,q1⟩
end
end L2
namespace Lf
open PySem L2
def aVz(lo hi:Int)(t:XT):XC:=λρ Q=>t ρ λs ρ'=>∃i,s.d=.int i/\Q (!(decide (lo<=i)&&decide (i<hi))) ρ'
theorem sD{a:Expr}{ta:XT}{lo hi:Int}{j1 j2:Nat}{p p1 p2 q pos:Pos}(ha:XE X Ex a ta)(hm:X.mg "range" = none)(hg:Gl X "range":=by rfl)(hb:behindInMarks .NotIn (.Call (.Name "range" p) [.Constant (.int lo) j1 p1,.Constant (.int hi) j2 p2] [] q)=false:=by rfl):XTe X Ex (.Compare a [.NotIn] [.Call (.Name "range" p) [.Constant (.int lo) j1 p1,.Constant (.int hi) j2 p2] [] q] pos) (aVz lo hi ta):=λF=>(aDi (u4 (ha F) hg hm) hb).weak λσ H Q=>by
 rintro⟨ρ,fr,Qx,E,t,k⟩
 refine⟨ρ,fr,_,E,t,λv s H' ρ' E' q'=>?_⟩
 obtain⟨i,hs,q'⟩:=q'
 obtain⟨R,hx⟩:=E'.one
 rw[hs]at hx
 have hy:v=.int i:=by simpa only[IsX]using hx
 subst hy
 exact⟨i,rfl,_,rfl,k _ H' ρ' ⟨E'.len,R⟩ q'⟩
end Lf
namespace L2
open PySem PySem.Spec PyProof.Rows
abbrev tri(x:Str)(i j:Int):PyData:=.tuple [.str x,.int i,.int j]
def aOf(H:Hp)(xs:List V)(Q:VK):Prop:=∃(a:Addr) (x:Str) (i j:Int),xs=[.ref a]/\(tri x i j).showable=true/\(tri x i j).depth<=8/\(tri x i j).shown.length<=sizeLine/\Q (.str (tri x i j).shown) H/\Rd H a (.tup [.str x,.int i,.int j])
theorem p0{x:V}{l:List V}{us:List Value}(r:Vals (x::l) us):∃u ws,us=u::ws/\RelV x u/\Vals l ws:=by
 cases r with
 |cons a b=>exact⟨_,_,rfl,a,b⟩
theorem aAf{X:Cx}(hg:X.A.guards=some [])(hu:X.A.units+64<cLine):CallR X (.type "str") (λxs H Q=>aOf H xs Q):=by
 intro Aa s σ H xs us Q I r h
 obtain⟨a,x,i,j,rfl,hs,hd,hz,q,hR⟩:=h
 obtain⟨u,rfl,rx⟩:=gO r
 cases rx
 obtain⟨_,its,hv,o,ho,hc,n,Fi⟩:=(show ObjOk X.prog X.w H s.heap a (.tup [.str x,.int i,.int j])from hR.ok I.hok)
 obtain⟨u1,w1,rfl,⟨t1,rfl⟩,Kl⟩:=p0 hv
 obtain⟨u2,u3,rfl,⟨t2,rfl⟩,⟨t3,rfl⟩⟩:=qU Kl
 exact str_of_reads (d:=tri x i j) (.tuple ho hc Fi (.cons (.str _ _) (.cons (.int _ _) (.cons (.int _ _) .nil)))) hs (λz=>by cases z) hg (by omega) (λb o e=>e) (λh' u tk hk=>⟨.str (tri x i j).shown,H,I.kept hk,⟨_,rfl⟩,q⟩) hz
end L2
namespace Lf
open PySem L2
def b_:GC:=λds Q=>aWz ds Q\/∃x i j,ds=[.tup [.str x,.int i,.int j]]/\(tri x i j).showable=true/\(tri x i j).depth<=8/\(tri x i j).shown.length<=1000000/\Q (.tr (.str (tri x i j).shown))
abbrev aOh:List V->Hp->VK->Prop:=λxs H Q=>aCx xs H Q\/aOf H xs Q
theorem rQ{X:Cx}(hg:X.A.guards=some [])(hu:X.A.units+64<cLine):CallR X (.type "str") aOh:=(aAk hg hu).or (aAf hg hu)
theorem m7:iB aOh b_:=by
 intro F P H ds xs Q Qx R hs g k
 rcases g with g | ⟨x,i,j,rfl,h1,h2,h3,q⟩
 ·exact .inl (aMu F P H ds xs Q Qx R hs g k)
 ·obtain ⟨y,rfl,hx⟩:=qJ hs
  obtain⟨a,vs,rfl,h4,h5⟩:=hx.tup_eq
  obtain⟨v1,vr,rfl,Kl,hvr⟩:=h5
  obtain⟨v2,v3,rfl,hv2,hv3⟩:=zR hvr
  cases Kl.str_eq
  cases hv2.int_eq
  cases hv3.int_eq
  exact .inr ⟨a,x,i,j,rfl,h1,h2,by have:=fW;omega,k _ _ H (R.add (IsX.of_str _)) q,.of (R.hv _ _ h4)⟩
def top(i:Nat):Stmt:=PySem.Challenge.pw_laidfields_k45_texts_of_no_kind.main.body.getD i (.Pass ⟨0,0,0,0⟩)
abbrev hz_:Stmt:=top 17
abbrev dx_:Stmt:=top 18
abbrev eo_:Stmt:=top 19
abbrev hf_:Stmt:=top 20
abbrev ia_:Stmt:=top 21
abbrev jk_:Stmt:=top 22
abbrev cj_:Stmt:=top 23
abbrev ep_:Stmt:=top 24
abbrev dt_:Stmt:=top 25
abbrev gy_:Stmt:=top 30
abbrev eh_:Stmt:=top 31
abbrev ds_:Stmt:=top 33
abbrev ck_:Stmt:=top 34
abbrev dq_:Stmt:=top 35
abbrev ee_:Stmt:=top 36
abbrev ed_:Stmt:=top 37
abbrev fk_:Stmt:=top 39
abbrev fj_:Stmt:=top 40
abbrev hy_:Stmt:=top 41
abbrev gg_:Stmt:=top 42
abbrev ej_:Stmt:=top 43
abbrev gh_:Stmt:=top 44
abbrev ix_:Stmt:=top 45
abbrev dm_:Stmt:=top 46
abbrev do_:Stmt:=top 47
abbrev cl_:Stmt:=top 48
abbrev en_:Stmt:=top 49
abbrev fy_:Stmt:=top 50
abbrev gz_:Stmt:=top 51
abbrev hx_:Stmt:=top 52
abbrev dn_:Stmt:=top 53
abbrev eg_:Stmt:=top 54
abbrev cp_:Stmt:=top 55
abbrev co_:Stmt:=top 56
abbrev ct_:Stmt:=top 57
abbrev ha_:Stmt:=top 58
abbrev bx_:Stmt:=top 59
abbrev jj_:Stmt:=top 60
abbrev lB:Stmt:=top 61
theorem vQ:FnScope AI AI (aL hz_):=iD (by decide +kernel)
theorem hw_:FnScope AR AR (aL dx_):=iD (by decide +kernel)
theorem in_:FnScope AU AU (aL eo_):=iD (by decide +kernel)
theorem yA:FnScope AI AI (aL hf_):=iD (by decide +kernel)
theorem vR:FnScope AN AN (aL ia_):=iD (by decide +kernel)
theorem yB:FnScope AI AI (aL jk_):=iD (by decide +kernel)
theorem fe_:FnScope AJ AJ (aL cj_):=iD (by decide +kernel)
theorem sU:FnScope AD AD (aL ep_):=iD (by decide +kernel)
theorem iM:FnScope ["things","depth","names","thing"] AD (aL dt_):=iD (by decide +kernel)
theorem jA:FnScope ["text","reader","kind"] AE (aL gy_):=iD (by decide +kernel)
theorem oO:FnScope AE AE (aL eh_):=iD (by decide +kernel)
theorem eX:FnScope ["reader","depth","kind"] AA (aL ds_):=iD (by decide +kernel)
theorem gW:FnScope ["reader","depth","w"] AA (aL ck_):=iD (by decide +kernel)
theorem jD:FnScope ["reader","depth","fields"] AA (aL dq_):=iD (by decide +kernel)
theorem jJ:FnScope ["reader","depth","name"] AA (aL ee_):=iD (by decide +kernel)
theorem jI:FnScope ["reader","depth","kinds"] AA (aL ed_):=iD (by decide +kernel)
theorem oN:FnScope BE BE (aL fk_):=iD (by decide +kernel)
theorem dC:FnScope ["cell","many","found","rest","stir","k","again"] AM (aL fj_):=iD (by decide +kernel)
theorem vP:FnScope AM AM (aL hy_):=iD (by decide +kernel)
theorem vO:FnScope AH AH (aL gg_):=iD (by decide +kernel)
theorem gP:FnScope AT AZ (aL ej_):=iD (by decide +kernel)
theorem iF:FnScope ["deck","k","alike","name","j"] BC (aL gh_):=iD (by decide +kernel)
theorem s0:FnScope BF BF (aL ix_):=iD (by decide +kernel)
theorem cR:FnScope AG AX (aL dm_):=iD (by decide +kernel)
theorem hZ:FnScope ["deck","depth","most","kind"] AY (aL do_):=iD (by decide +kernel)
theorem dJ:FnScope ["kind","found","part"] AX (aL cl_):=iD (by decide +kernel)
theorem sT:FnScope AO AO (aL en_):=iD (by decide +kernel)
theorem kF:FnScope ["word","sign"] BB (aL fy_):=iD (by decide +kernel)
theorem eP:FnScope ["text","parts","level","k"] AE (aL gz_):=iD (by decide +kernel)
theorem gB:FnScope ["text","found","level","k"] AE (aL hx_):=iD (by decide +kernel)
theorem hY:FnScope ["text","words"] AE (aL dn_):=iD (by decide +kernel)
theorem oM:FnScope BB BB (aL eg_):=iD (by decide +kernel)
theorem cT:FnScope AW AC (aL cp_):=iD (by decide +kernel)
theorem dM:FnScope ["text","depth","at","kind"] AC (aL co_):=iD (by decide +kernel)
theorem fM:FnScope ["text","deck","at","sign","way","more"] AQ (aL ct_):=iD (by decide +kernel)
theorem fN:FnScope ["text","found","caught","e"] AE (aL ha_):=iD (by decide +kernel)
theorem dZ:FnScope AV AQ (aL bx_):=iD (by decide +kernel)
theorem fX:FnScope ["number","some"] ["number"] (aL jj_):=iD (by decide +kernel)
theorem fT:FnScope ["script","k","deck","text","ways","way","due","kept","word","found"] ["script"] (aL lB):=iD (by decide +kernel)
abbrev yC:Stmt:=dO (top 32) 0
theorem aJa:FnScope BD BD (aL yC):=iD (by decide +kernel)
abbrev iw_:Stmt:=dO (top 32) 1
theorem r_:FnScope AB AB (aL iw_):=iD (by decide +kernel)
abbrev sW:Stmt:=dO (top 32) 2
theorem aIz:FnScope AB AB (aL sW):=iD (by decide +kernel)
abbrev gf_:Stmt:=dO (top 32) 3
theorem vN:FnScope ["self"] ["self"] (aL gf_):=iD (by decide +kernel)
abbrev ge_:Stmt:=dO (top 32) 4
theorem lR:FnScope ["self","signs","begin"] AB (aL ge_):=iD (by decide +kernel)
abbrev ef_:Stmt:=dO (top 32) 5
theorem jK:FnScope ["self","most_figures","figures"] AL (aL ef_):=iD (by decide +kernel)
theorem dp_{G K:XS}{ρ:En}{D:XD}(M:En->Prop)(h1:∀ρ',M ρ'->K ρ' D)(h2:∀D':XD,(∀ρ',M ρ'->D'.nx ρ')->G ρ D'):cL G K ρ D:=h2 { D with nx:=λρ'=>K ρ' D } h1
theorem nK{i:Nat}{t:XT}{K:XS}{ρ:En}{D:XD}(h:t ρ λs ρ'=>K (ρ'.set i (.v s)) D):cL (gK i t) K ρ D:=h
theorem aLt{i:Nat}{t:XT}{ρ:En}{D:XD}(h:t ρ λs ρ'=>D.nx (ρ'.set i (.v s))):gK i t ρ D:=h
theorem z6{i:Nat}{s:Sv}{ρ:En}{Q:Sv->En->Prop}(hi:ρ[i]? = some (.v s))(h:Q (.tr s.d) (ρ.set i (vT s.d))):bW i ρ Q:=by
 unfold bW
 rw[hi]
 exact h
theorem aWj{i:Nat}{s:Sv}{ρ:En}{Q:Sv->En->Prop}{d:Dx}(hi:ρ[i]? = some (.v s))(hs:s.d=d)(h:Q (.tr d) (ρ.set i (vT d))):bW i ρ Q:=by
 subst hs
 exact z6 hi h
theorem ir_{d:Dx}{ρ:En}{Q:Sv->En->Prop}(h:Q (.tr d) ρ):xC d ρ Q:=h
theorem et_{g:GC}{u:XA}{ρ:En}{Q:Sv->En->Prop}(h:u ρ λss ρ'=>g (ss.map Sv.d) λs=>Q s ρ'):dU g u ρ Q:=h
theorem wY{t:XT}{u:XA}{ρ:En}{Q:List Sv->En->Prop}(h:t ρ λs ρ1=>u ρ1 λss ρ2=>Q (s::ss) ρ2):bA t u ρ Q:=h
theorem il_{ρ:En}{Q:List Sv->En->Prop}(h:Q [] ρ):cV ρ Q:=h
theorem rK{g:G2}{ta tb:XT}{ρ:En}{Q:Sv->En->Prop}(h:ta ρ λa ρ1=>tb ρ1 λb ρ2=>g a.d b.d λs=>Q s ρ2):xOp g ta tb ρ Q:=h
theorem mD{c:XC}{G K:XS}{ρ ρ':En}{D:XD}(hc:∀Q:Bool->En->Prop,Q false ρ'->c ρ Q)(h:K ρ' D):cL (xIf c G eR) K ρ D:=hc _ h
theorem ie_{c:XC}{G:XS}{ρ ρ':En}{D:XD}(hc:∀Q:Bool->En->Prop,Q false ρ'->c ρ Q)(h:D.nx ρ'):xIf c G eR ρ D:=hc _ h
theorem iY{c:XC}{G K:XS}{ρ ρ':En}{D:XD}(b:Bool)(hc:∀Q:Bool->En->Prop,Q b ρ'->c ρ Q)(ht:b=true->G ρ' { D with nx:=λρ=>K ρ D })(hf:b=false->K ρ' D):cL (xIf c G eR) K ρ D:=by
 refine hc _ ?_
 cases b with
 |true=>exact ht rfl
 |false=>exact hf rfl
theorem kG{c u:XC}{ρ:En}{Q:Bool->En->Prop}(h:c ρ λb ρ1=>if b=true then Q true ρ1 else u ρ1 Q):xOr c u ρ Q:=h
theorem aFt{c u:XC}{ρ:En}{Q:Bool->En->Prop}(h:c ρ λb ρ1=>if b=true then u ρ1 Q else Q false ρ1):aIg c u ρ Q:=h
theorem aFo{c:XC}{ρ:En}{Q:Bool->En->Prop}(h:c ρ λb ρ1=>Q (!b) ρ1):aIc c ρ Q:=h
theorem jM{t:XT}{ρ:En}{Q:Bool->En->Prop} (h:t ρ λs ρ'=>match s with
 | .tr (.bl b)=>Q b ρ'
 |_=>False):xB t ρ Q:=h
theorem gr_{t:XT}{ρ:En}{D:XD}(h:t ρ λs ρ'=>D.rt s ρ'):hX t ρ D:=h
theorem yV{u:XA}{ρ:En}{Q:Sv->En->Prop}(h:u ρ λss ρ'=>ss.length<=1000000/\Q (.ol (ss.map Sv.d)) ρ'):kY u ρ Q:=h
theorem yW{f:Dx->Option Bool}{i:Nat}{d:Dx}{b:Bool}{ρ:En}{Q:Sv->En->Prop}(hi:ρ[i]? = some (vT d))(e:f d=some b)(q:Q (.tr (.bl b)) ρ):xP f (bW i) ρ Q:=by
 unfold xP bW
 rw[hi]
 show match f d with | some b=>Q (.tr (.bl b)) (ρ.set i (.v (.tr d))) | none=>False
 rw[e]
 have e2:ρ.set i (vT d)=ρ:=by
  obtain⟨h1,h2⟩:=bG.mp hi
  rw[<-h2,iX]
 rw[e2]
 exact q
theorem wD{α:Type}{a b:α}:[a,b].length<=1000000:=by show 2<=1000000;decide
theorem mG{n:Nat}(h:n<=1000000):n<=1000000:=h
theorem hl_{l:List Dx}{r:Int}{Q:Sv->Prop}(h0:0<=r)(h1:r<l.length)(q:∀d∈l,Q (.tr d)):ixX (.lst l) (.int r) Q:=by
 obtain⟨x,hx,hm⟩:=qE h0 h1
 show(match atI l r with | some d=>Q (.tr d) | none=>False)
 rw[hx]
 exact q x (fJ hm)
theorem aFr{c:XC}{G K:XS}{ρ ρ':En}{D:XD}(b:Bool)(hc:∀Q:Bool->En->Prop,Q b ρ'->c ρ Q)(ht:b=true->G ρ' D)(hf:b=false->K ρ' D):xIf c G K ρ D:=by
 refine hc _ ?_
 cases b with
 |true=>exact ht rfl
 |false=>exact hf rfl
def aF(x:Str):List Nat:=x.cps.toList
theorem fL(x:Str):x.length=(aF x).length:=by simp[aF,Str.length]
theorem lP(x y:Str):aF (x++y)=aF x++aF y:=by
 show(x.cps++y.cps).toList=_
 rw[Array.toList_append]
 rfl
theorem qQ{x y:Str}(h:aF x=aF y):x=y:=by
 obtain⟨a⟩:=x
 obtain⟨b⟩:=y
 have:a=b:=Array.ext' h
 rw[this]
theorem aGr{x:Str}{k:Int}(h0:0<=k)(h1:k<=(aF x).length):aF (Txt.slice x none (some k))=(aF x).take k.toNat:=by
 have e:=beq_iff_eq.mp (PyProof.Rows.slice_closes_toL (x:=x) h0 (by rw[fL];exact h1))
 rw[e]
 show(((x.cps.toList.drop 0).take (k-0).toNat).toArray).toList=_
 simp[aF]
theorem qB{x:Str}{k:Int}(h0:0<=k)(h1:k<=(aF x).length):aF (Txt.slice x (some k) none)=(aF x).drop k.toNat:=by
 rw[PyProof.Rows.slice_from_eq (x:=x) (b:=x.length) h0 (by rw[fL];exact h1) rfl]
 show(((x.cps.toList.drop k.toNat).take ((x.length:Int)-k).toNat).toArray).toList=_
 rw[List.toList_toArray,dF]
 ·rfl
 ·rw [aY,fL]
  show x.cps.toList.length-k.toNat<=(((aF x).length:Int)-k).toNat
  show(aF x).length-k.toNat<=(((aF x).length:Int)-k).toNat
  omega
def Low(l:List Nat):Prop:=∀c∈l,97<=c/\c<=122
def Nm(x:Str):Prop:=1<=(aF x).length/\(aF x).length<=8/\Low (aF x)
abbrev fU:Str:= "abcdefghijklmnopqrstuvwxyz"
theorem pI:aF fU=(List.range 26).map (97 + ·):=by decide +kernel
theorem kI(x y:Str):(x++y).length=x.length+y.length:=by rw[fL,lP,aC,fL x,fL y]
mutual
def Kd.Full:Kd->Prop
 | .num _ _=>True
 | .row k _=>k.Full
 | .rcd fs=>fs≠[]/\aOz fs
 | .cho ks=>ks≠[]/\aOy ks
def aOz:List (Str×Kd)->Prop
 | []=>True
 |f::r=>f.2.Full/\aOz r
def aOy:List Kd->Prop
 | []=>True
 |k::r=>k.Full/\aOy r
end
mutual
def Kd.Fit:Kd->Prop
 | .num w m=>1<=w/\w<=8/\(m=1\/m=2\/m=4\/m=8)
 | .row k n=>k.Fit/\1<=n/\n<=20
 | .rcd fs=>kQ fs/\1<=fs.length/\fs.length<=8/\(fs.map (·.1)).Nodup
 | .cho ks=>kO ks/\1<=ks.length/\ks.length<=6
def kQ:List (Str×Kd)->Prop
 | []=>True
 |f::r=>(Nm f.1/\f.2.Fit)/\kQ r
def kO:List Kd->Prop
 | []=>True
 |k::r=>k.Fit/\kO r
end
theorem rJ:∀{fs:List (Str×Kd)} {f:Str×Kd},kQ fs->Nm f.1->f.2.Fit->kQ (fs++[f])
 | [],_,_,a,b=>⟨⟨a,b⟩,trivial⟩
 |g::r,f,h,a,b=>⟨h.1,rJ h.2 a b⟩
theorem rH:∀{ks:List Kd} {k:Kd},kO ks->k.Fit->kO (ks++[k])
 | [],_,_,b=>⟨b,trivial⟩
 |g::r,f,h,b=>⟨h.1,rH h.2 b⟩
theorem pX:∀{fs:List (Str×Kd)} {f:Str×Kd} {n:Nat},eV fs<=n->f.2.deep<=n->eV (fs++[f])<=n
 | [],f,n,_,b=>by show max f.2.deep 0<=n;omega
 |g::r,f,n,h,b=>by
  have h':max g.2.deep (eV r)<=n:=h
  have:=pX (fs:=r) (f:=f) (n:=n) (by omega) b
  show max g.2.deep (eV (r++[f]))<=n
  omega
theorem pV:∀{ks:List Kd} {k:Kd} {n:Nat},eK ks<=n->k.deep<=n->eK (ks++[k])<=n
 | [],f,n,_,b=>by show max f.deep 0<=n;omega
 |g::r,f,n,h,b=>by
  have h':max g.deep (eK r)<=n:=h
  have:=pV (ks:=r) (k:=f) (n:=n) (by omega) b
  show max g.deep (eK (r++[f]))<=n
  omega
def tk:Nat->Int
 | 0=>0
 |n+1=>3000+12*tk n
mutual
def Kd.x:Kd->Dx
 | .num w m=>.tup [.str "number",.int w,.int m]
 | .row k n=>.tup [.str "row",k.x,.int n]
 | .rcd fs=>.tup [.str "record",.lst (xF fs)]
 | .cho ks=>.tup [.str "choice",.lst (xK ks)]
def xF:List (Str×Kd)->List Dx
 | []=>[]
 |f::r=>.tup [.str f.1,f.2.x]::xF r
def xK:List Kd->List Dx
 | []=>[]
 |k::r=>k.x::xK r
end
theorem ii_:∀fs:List (Str×Kd),xF fs=fs.map λf=>.tup [.str f.1,f.2.x]
 | []=>rfl
 |f::r=>by rw[xF,ii_ r];rfl
theorem go_:∀ks:List Kd,xK ks=ks.map Kd.x
 | []=>rfl
 |f::r=>by rw[xK,go_ r];rfl
def rdr(t:Str)(p:Nat):FsO:=[("text",.tr (.str t)),("place",.tr (.int (p:Int)))]
abbrev eU:Str:= "0123456789"
abbrev zH:Str:= ", "
def gPA(C0:Addr):GO:=λC l ds Q=>C=C0/\∃(t y:Str) (p:Nat),l=rdr t p/\ds=[.str y]/\p<=t.length/\t.length<=100000/\(∀b,b=(aF y).isPrefixOf ((aF t).drop p)->Q (.tr (.bl b)) (rdr t (if b=true then p+y.length else p)))
theorem sO{f:Nat->Bool}:∀{l:List Nat} {k:Nat},(∀c∈l.take k,f c=true)->(∀c,l[k]? = some c->f c=false)->l.takeWhile f=l.take k
 | [],_,_,_=>by simp
 |a::l,0,_,h2=>by rw[List.takeWhile_cons,h2 a rfl];simp
 |a::l,k+1,h,h2=>by
  rw[List.takeWhile_cons,h a (by simp),if_pos rfl,List.take_succ_cons,sO (λc hc=>h c (by rw[List.take_succ_cons];exact aB _ hc)) (λc hc=>h2 c (by simpa using hc))]
theorem aQj{t y:Str}{p:Nat}(hp:p<=t.length):st3 t y (p:Int)=(aF y).isPrefixOf ((aF t).drop p):=by
 have hf:PySem.fromIndex t.length (p:Int)=p:=by
  unfold PySem.fromIndex
  rw[if_neg (by omega)]
  omega
 have hx:(t.cps.extract p (p+y.length)).toList=((aF t).drop p).take y.length:=by
  rw[Array.toList_extract]
  simp only[aF,List.extract_eq_take_drop,Nat.add_sub_cancel_left]
 unfold st3 Builtin.Str.subAt
 rw[hf,cX,bY,decide_eq_true_eq,beq_iff_eq,eO,List.prefix_iff_eq_take,<-fL]
 constructor
 ·rintro ⟨_,h⟩
  rw[<-hx,h]
  rfl
 ·intro h
  refine⟨?_,Array.ext' (by rw[hx];exact h.symm)⟩
  have h2:=congrArg List.length h
  rw[eG,aY,<-fL,<-fL]at h2
  omega
theorem aJi{t y:Str}{p:Nat}(h:(aF y).isPrefixOf ((aF t).drop p)=true):y.length<=t.length:=by
 have:=(eO.mp h).length_le
 rw[aY,<-fL,<-fL]at this
 omega
theorem aCs{t:Str}{p:Nat}{o:Ow}(ho:List.lookup (Str.ofString "place") (rdr t p)=some o):∃d,o=.tr d:=by
 cases ho
 exact⟨_,rfl⟩
def inT(z:Str)(c:Nat):Bool:= !(Builtin.Str.occurrences z ⟨#[c]⟩ 0 z.length 1).isEmpty
def iQ(z t:Str)(p:Nat):List Nat:=((aF t).drop p).takeWhile (inT z)
def gTR(C0:Addr):GO:=λC l ds Q=>C=C0/\∃(t z:Str) (p:Nat),l=rdr t p/\ds=[.str z]/\p<=t.length/\t.length<=100000/\Q (.tr (.str ⟨(iQ z t p).toArray⟩)) (rdr t (p+(iQ z t p).length))
def noT:Dx->Prop
 | .str _=>False | .scr _ _=>False | .ins _ _=>False | .exc _=>False
 |_=>True
def aTv(C0 CN:Addr):GOE:=λC l ds Q Ex=>C=C0/\l=[]/\∃d:Dx,ds=[d]/\((∃t,d=.str t/\Q (.tr .non) (rdr t 0))\/noT d/\Ex (.ref CN))
def y_(C0 CN:Addr):GOE:=λC l ds Q Ex=>C=C0/\∃(t y:Str) (p:Nat),l=rdr t p/\ds=[.str y]/\p<=t.length/\t.length<=100000/\((aF y).isPrefixOf ((aF t).drop p)=true->Q (.tr .non) (rdr t (p+y.length)))/\((aF y).isPrefixOf ((aF t).drop p)=false->Ex (.ref CN))
def aZd(C0 CN:Addr):GOE:=λC l ds Q Ex=>C=C0/\∃(t:Str) (p:Nat),l=rdr t p/\ds=[]/\p<=t.length/\t.length<=100000/\(p=t.length->Q (.tr .non) (rdr t p))/\(p<t.length->Ex (.ref CN))
section
variable{f:Addr}{C_Reader Ac:Addr}
theorem aEi(F:Fun K "__init__" "Reader.__init__" yC f fd)(Ae:Cls K C_Reader)(na_Reader_text:NoAttr K C_Reader "text")(na_Reader_place:NoAttr K C_Reader "place")(Ab:mg "isinstance" = none)(m_str:mg "str" = none)(An:PyProof.Rows.OwnCls "NoText" Ac veM "ValueError.__new__" mg base):FnOk P w K mg base (CXe P w) 1 f fd BD (eI (aTv C_Reader Ac)):=by
 refine kH F aJa (λC l ds Q Ex h=>by obtain⟨_,_,t,rfl,_⟩:=h;rfl) (by decide) λAi A outer s H E Ex hr=>?_
 have Am:=iT hr
 have Aj:=aM Am
 refine⟨_,(cO (eC (zB (jZ (uW .str Ab (bE (pv 1)) (rV (v:=.ty "str") rfl m_str gs_ rfl)))) (cP (fi_ An rfl (by rfl))) eJ)
  (cO (sE (C:=C_Reader) Ae na_Reader_text (pv 0) (bE (pv 1)))
  (cP (sE (C:=C_Reader) Ae na_Reader_place (pv 0) cC)))),λC a dx l ds Q h=>?_⟩
 obtain⟨rfl,rfl,d,rfl,h⟩:=h
 rcases h with⟨t,rfl,q⟩ | ⟨hn,q⟩
 ·refine ⟨rfl,(by decide),(fun o ho=>by cases ho),?_⟩
  refine⟨rfl,(by decide:1<1000),(λo ho=>by cases ho),?_⟩
  exact⟨rfl,rfl,rfl,q⟩
 ·cases d with
  |int i=>exact q
  |bl i=>exact q
  |non=>exact q
  |lst l=>exact q
  |tup l=>exact q
  |dic l=>exact q
  |_=>cases hn
theorem aEh(F:Fun K "take" "Reader.take" sW f fd)(CM_passes:mO P w K mg base 1 C_Reader "passes" AB (spO (gPA C_Reader)))(An:PyProof.Rows.OwnCls "NoText" Ac veM "ValueError.__new__" mg base):FnOk P w K mg base (CXe P w) 2 f fd AB (eI (y_ C_Reader Ac)):=by
 refine kH F aIz (λC l ds Q Ex h=>by obtain⟨_,t,y,p,_,rfl,_⟩:=h;rfl) (by decide) λAi A outer s H E Ex hr=>?_
 have Am:=iT hr
 have Aj:=aM Am
 refine⟨_,(cP (eC (zB (jZ (eb_ (C:=C_Reader) (i:=0) CM_passes (hr.mono (by omega)) (pv 0) (bF (bE (pv 1)) bV)))) (cP (fi_ An rfl (by rfl))) eJ)),λC a dx l ds Q h=>?_⟩
 obtain⟨rfl,t,y,p,rfl,rfl,hp,hl,qy,qn⟩:=h
 refine⟨⟨rfl,rfl⟩,rfl,t,y,p,rfl,rfl,hp,hl,λb hb=>?_⟩
 cases b with
 |true=>exact⟨rfl,rfl,rfl,qy hb.symm⟩
 |false=>exact qn hb.symm
theorem tK(F:Fun K "take_end" "Reader.take_end" gf_ f fd)(Ae:Cls K C_Reader)(na_Reader_text:NoAttr K C_Reader "text")(na_Reader_place:NoAttr K C_Reader "place")(Ad:mg "len" = none)(An:PyProof.Rows.OwnCls "NoText" Ac veM "ValueError.__new__" mg base):FnOk P w K mg base (CXe P w) 1 f fd ["self"] (eI (aZd C_Reader Ac)):=by
 refine kH F vN (λC l ds Q Ex h=>by obtain⟨_,t,p,_,rfl,_⟩:=h;rfl) (by decide) λAi A outer s H E Ex hr=>?_
 have Am:=iT hr
 have Aj:=aM Am
 refine⟨_,(cP (eC (dW xJ xL (z7 (C:=C_Reader) Ae na_Reader_place (pv 0)) (jV (mF K) nJ (by rfl) Ad PySem.boot_len (bF (z7 (C:=C_Reader) Ae na_Reader_text (pv 0)) bV)) (bD _)) (cP (fi_ An rfl (by rfl))) eJ)),λC a dx l ds Q h=>?_⟩
 obtain⟨rfl,t,p,rfl,rfl,hp,hl,qy,qn⟩:=h
 refine⟨rfl,rfl,by show t.length<=1000000;omega,?_⟩
 refine wH (λh=>?_) (λh=>?_)
 ·have h':decide ((p:Int) < (t.length:Int))=true:=h
  rw[decide_eq_true_eq]at h'
  exact qn (by omega)
 ·have h':¬ decide ((p:Int) < (t.length:Int))=true:=h
  rw[decide_eq_true_eq]at h'
  exact⟨rfl,rfl,rfl,qy (by omega)⟩
theorem yM(F:Fun K "passes" "Reader.passes" iw_ f fd)(Ae:Cls K C_Reader)(na_Reader_text:NoAttr K C_Reader "text")(na_Reader_place:NoAttr K C_Reader "place")(Ad:mg "len" = none):FnOk P w K mg base CX0 1 f fd AB (spO (gPA C_Reader)):=by
 refine aZm F r_ (λC l ds Q h=>by obtain⟨_,t,y,p,_,rfl,_⟩:=h;rfl) (by decide) λAi A outer s H E hr=>?_
 have Am:=iT hr
 have Aj:=aM Am
 refine⟨_,(cO (eC (zB (jZ (o8 (z7 (C:=C_Reader) Ae na_Reader_text (pv 0)) (bE (pv 1)) (z7 (C:=C_Reader) Ae na_Reader_place (pv 0))))) (cP (cZ vA)) eJ)
  (cO (sE (C:=C_Reader) Ae na_Reader_place (pv 0) (eZ (z7 (C:=C_Reader) Ae na_Reader_place (pv 0)) (jV (mF K) nJ (by rfl) Ad PySem.boot_len (bF (bE (pv 1)) bV))))
  (cP (cZ vA)))),λC a dx l ds Q h=>?_⟩
 obtain⟨rfl,t,y,p,rfl,rfl,hp,hl,q⟩:=h
 refine⟨rfl,⟨t,rfl⟩,rfl,?_⟩
 have e:=aQj (y:=y) hp
 cases hb:(aF y).isPrefixOf ((aF t).drop p)with
 |false =>
  rw[hb]at e
  have e':(!(st3 t y (p:Int)))=true:=by rw[e];rfl
  refine(if_pos e').mpr ?_
  exact⟨rfl,rfl,rfl,q false hb.symm⟩
 |true =>
  rw[hb]at e
  have e':¬((!(st3 t y (p:Int)))=true):=by rw[e];decide
  refine(if_neg e').mpr ?_
  have hy:=aJi hb
  refine⟨rfl,by show y.length<=1000000;omega,rfl,(by show 2<1000;decide),λo ho=>aCs ho,?_⟩
  exact⟨rfl,rfl,rfl,q true hb.symm⟩
theorem tJ(F:Fun K "take_run" "Reader.take_run" ge_ f fd)(Ae:Cls K C_Reader)(na_Reader_text:NoAttr K C_Reader "text")(na_Reader_place:NoAttr K C_Reader "place")(Ad:mg "len" = none):FnOk P w K mg base CX0 1 f fd AB (spO (gTR C_Reader)):=by
 refine aZm F lR (λC l ds Q h=>by obtain⟨_,t,z,p,_,rfl,_⟩:=h;rfl) (by decide) λAi A outer s H E hr=>?_
 have Am:=iT hr
 have Aj:=aM Am
 refine⟨_,(cO (gA (i:=2) lR.nd rfl (Or.inl rfl) (z7 (C:=C_Reader) Ae na_Reader_place (pv 0)))
  (cO (gc_ PassesOwn.never (XW.pt (ig_ (dW xJ xL (z7 (C:=C_Reader) Ae na_Reader_place (pv 0)) (jV (mF K) nJ (by rfl) Ad PySem.boot_len (bF (z7 (C:=C_Reader) Ae na_Reader_text (pv 0)) bV)) (bD _)) (fv_ (dW eq_ jn_ (kW K (z7 (C:=C_Reader) Ae na_Reader_text (pv 0)) (z7 (C:=C_Reader) Ae na_Reader_place (pv 0)) (λ_ _=>rfl)) (bE (pv 1)) (by with_unfolding_all rfl))))) (cP (sE (C:=C_Reader) Ae na_Reader_place (pv 0) (eZ (z7 (C:=C_Reader) Ae na_Reader_place (pv 0)) cC))))
  (cP (cZ (kX K (z7 (C:=C_Reader) Ae na_Reader_text (pv 0)) (jQ (bE (pv 2))) (jQ (z7 (C:=C_Reader) Ae na_Reader_place (pv 0)))))))),λC a dx l ds Q h=>?_⟩
 obtain⟨rfl,t,z,p,rfl,rfl,hp,hl,q⟩:=h
 refine⟨rfl,?_⟩
 refine⟨λm ρ=>∃k:Nat,p+k+m=t.length/\(∀c∈((aF t).drop p).take k,inT z c=true)/\ρ=[.bo (.oi C a dx (rdr t (p+k))),vT (.str z),vT (.int (p:Int))],⟨t.length-p,0,by omega,λc hc=>by simp at hc,rfl⟩,?_⟩
 rintro m ρ ⟨k,hk,Ff,rfl⟩
 have Mo:=fL t
 refine⟨rfl,rfl,by show t.length<=1000000;omega,?_⟩
 have stop:∀n,iQ z t p=((aF t).drop p).take n->n<=t.length-p->n=k->iA C a dx Q (.tr (.str (Txt.slice t (some (p:Int)) (some ((p+k:Nat):Int))))) [.bo (.oi C a dx (rdr t (p+k))),vT (.str z),vT (.int (p:Int))]:=λn hn Ch e=>by
  subst e
  have Eg:Txt.slice t (some (p:Int)) (some ((p+n:Nat):Int))=⟨(iQ z t p).toArray⟩:=by
   rw[beq_iff_eq.mp (PyProof.Rows.slice_closesL (x:=t) (i:=(p:Int)) (j:=((p+n:Nat):Int)) (by omega) (by omega) (by omega)),hn]
   congr 3
   omega
  have hll:(iQ z t p).length=n:=by rw[hn,eG,aY];omega
  rw[Eg]
  rw[hll]at q
  exact⟨rfl,rfl,rfl,q⟩
 by_cases Da:p+k<t.length
 ·have hd:decide ((((p + k:Nat):Int)) < ((t.length:Nat):Int))=true:=dzT (by omega)
  refine(if_pos hd).mpr ?_
  obtain⟨c,hc⟩:∃c,(aF t)[p+k]? = some c:=⟨_,aR (by omega)⟩
  have Gc:atI t.cps.toList ((p+k:Nat):Int)=some c:=rO hc
  refine⟨rfl,rfl,by show t.length<=1000000;omega,?_⟩
  show match atI t.cps.toList ((p+k:Nat):Int)with | some c=>_ | none=>False
  rw[Gc]
  show if inT z c=true then _ else _
  have Cw:((aF t).drop p)[k]? = some c:=by rw[List.getElem?_drop];exact hc
  cases hz:inT z c with
  |true =>
   refine(if_pos rfl).mpr ?_
   refine⟨λρ'=>∃m',m'<m/\∃k:Nat,p+k+m'=t.length/\(∀c∈((aF t).drop p).take k,inT z c=true)/\ρ'=[.bo (.oi C a dx (rdr t (p+k))),vT (.str z),vT (.int (p:Int))],λρ' h=>h,?_⟩
   refine⟨rfl,rfl,(by show 2<1000;decide),λo ho=>aCs ho,m-1,by omega,k+1,by omega,λc' Jd=>?_,rfl⟩
   rw[List.take_succ,Cw]at Jd
   rcases bL.mp Jd with h | h
   ·exact Ff c' h
   ·rw[aG.mp h];exact hz
  |false =>
   refine(if_neg aW).mpr ?_
   exact⟨rfl,rfl,(by show t.length<=1000000;omega),stop k (sO Ff λc' h=>by rw[Cw]at h;cases h;exact hz) (by omega) rfl⟩
 ·have hd:¬ (decide ((((p + k:Nat):Int)) < ((t.length:Nat):Int))=true):=by rw [decide_eq_true_eq]; omega
  refine(if_neg hd).mpr ?_
  exact⟨rfl,rfl,(by show t.length<=1000000;omega),stop k (sO Ff λc' h=>by
   have:=(bG.mp h).1
   rw[aY]at this
   omega) (by omega) rfl⟩
end
theorem fd_{n:Int}(h:0<=n):aF (cF n)=(Nat.toDigits 10 n.toNat).map Char.toNat:=by
 have e:=PySem.W.KIN.signs_num n.toNat
 rw[Int.toNat_of_nonneg h]at e
 exact e
theorem z5:∀c:Fin 10,inT eU (48+c.val)=true:=by decide +kernel
theorem aAb{c:Nat}{m:Nat}(h:c∈(Nat.toDigits 10 m).map Char.toNat):inT eU c=true:=by
 obtain⟨ch,D9,rfl⟩:=cJ.mp h
 have r:=PyProof.Rows.digit_range (Nat.isDigit_of_mem_toDigits (by decide) (by decide) D9)
 have:=z5 ⟨ch.toNat-48,by omega⟩
 rwa [show 48+(ch.toNat-48)=ch.toNat by omega]at this
theorem wW:∀d:Nat,d<10->(Nat.digitChar d).toNat=48+d:=by decide
theorem wV(m:Nat):∃c r,(Nat.toDigits 10 m).map Char.toNat=c::r/\(r=[]\/c≠48)/\(0<m->c≠48):=by
 induction m using Nat.strongRecOn with
 |_ m ih =>
  by_cases h:m<10
  ·rw [Nat.toDigits_of_lt_base h]
   have:=wW m h
   exact⟨_,[],rfl,.inl rfl,λh0=>by omega⟩
  ·have hm:m % 10 < 10:=Nat.mod_lt m (by decide)
   have t:Nat.toDigits 10 (m/10)++Nat.toDigits 10 (m%10)=Nat.toDigits 10 (10*(m/10)+m%10):=Nat.toDigits_append_toDigits (by decide) (by omega) hm
   rw[Nat.div_add_mod]at t
   obtain⟨c,r,e,_,h3⟩:=ih (m/10) (by omega)
   have hc:=h3 (by omega)
   rw[<-t,bM,e]
   exact⟨c,r++(Nat.toDigits 10 (m%10)).map Char.toNat,rfl,.inr hc,λ_=>hc⟩
theorem fx_{n:Int}(h:0<=n):(∀c∈aF (cF n),inT eU c=true)/\∃c r,aF (cF n)=c::r/\(r=[]\/c≠48):=by
 rw[fd_ h]
 refine⟨λc hc=>aAb hc,?_⟩
 obtain⟨c,r,e,h2,_⟩:=wV n.toNat
 exact⟨c,r,e,h2⟩
theorem aIl{n:Int}{k:Nat}(h:0<=n)(h1:n<10^k)(hk:0<k):(cF n).length<=k:=by
 rw[fL,fd_ h,aD]
 refine(Nat.length_toDigits_le_iff (by decide) hk).mpr ?_
 have e:(10:Int)^k=((10^k:Nat):Int):=by push_cast;rfl
 rw[e]at h1
 omega
theorem a8{n:Int}(h:0<=n):1<=(cF n).length:=by
 obtain⟨c,r,e,_⟩:=(fx_ h).2
 rw[fL,e]
 exact eF (bP _)
theorem lE{z:Str}{c:Nat}:inT z c=true↔c∈aF z:=by
 unfold inT
 rw[PySem.StrLaws.found_one]
 exact decide_eq_true_iff
theorem aZn:∀c∈aF eU,48<=c/\c<=57:=by decide +kernel
theorem lW{c:Nat}(h:inT eU c=true):48<=c/\c<=57:=aZn c (lE.mp h)
def uZ(l:List Nat):Prop:=(∀c∈l,inT eU c=true)/\∃c r,l=c::r/\(r=[]\/c≠48)
theorem pQ{n:Int}(h:0<=n):uZ (aF (cF n)):=fx_ h
theorem l_{c:Nat}(h:48<=c/\c<=57):(Nat.digitChar (c-48)).toNat=c:=by
 have:=wW (c-48) (by omega)
 omega
theorem wQ:∀(m:Nat) (l:List Nat),l.length=m->uZ l->∃n:Nat,(Nat.toDigits 10 n).map Char.toNat=l/\(∀c r,l=c::r->c≠48->0<n)
 | 0,l,hm,h=>by
  obtain⟨_,c,r,rfl,_⟩:=h
  simp at hm
 |m+1,l,hm,h=>by
  obtain⟨ha,c,r,rfl,hc⟩:=h
  rcases List.eq_nil_or_concat r with rfl | ⟨r',d,Fy⟩
  ·have hr:=lW (ha c aA)
   refine⟨c-48,?_,λc' r' e h48=>by cases e;omega⟩
   rw[Nat.toDigits_of_lt_base (by omega)]
   show [(Nat.digitChar (c-48)).toNat]=[c]
   rw[l_ hr]
  ·rw [List.concat_eq_append] at Fy
   subst Fy
   have Ep:c≠48:=hc.resolve_left (by simp)
   obtain⟨n,h1,h2⟩:=wQ m (c::r') (by simp at hm ⊢;omega) ⟨λx hx=>ha x (by rcases aI.mp hx with rfl | hx;exact aA;exact aB _ (aX _ hx)),c,r',rfl,.inr Ep⟩
   have hn:=h2 c r' rfl Ep
   have hr:=lW (ha d (aB _ (aJ _ aA)))
   refine⟨10*n+(d-48),?_,λ_ _ _ _=>by omega⟩
   rw[<-Nat.toDigits_append_toDigits (by decide) hn (by omega),bM,h1,Nat.toDigits_of_lt_base (by omega)]
   show c::r'++[(Nat.digitChar (d-48)).toNat]=_
   rw[l_ hr]
   rfl
theorem pR{l:List Nat}(h:uZ l):∃n:Int,0<=n/\l=aF (cF n):=by
 obtain⟨n,h1,_⟩:=wQ l.length l rfl h
 exact⟨n,by omega,by rw[fd_ (by omega),gF,h1]⟩
theorem jq_{a b:Int}(ha:0<=a)(hb:0<=b)(h:aF (cF a)=aF (cF b)):a=b:=by
 rw[fd_ ha,fd_ hb]at h
 have h2:=congrArg PySem.NumText.digitsVal h
 rw[PySem.W.KIN.val_back,PySem.W.KIN.val_back]at h2
 omega
theorem nW{n:Int}(h:0<=n)(hl:(cF n).length<=600):PySem.intText? (cF n)=some n:=by
 obtain⟨m,rfl⟩:=Int.eq_ofNat_of_zero_le h
 have hd:PySem.NumText.AllDigits (cF (m:Int)).cps.toList:=by
  intro c hc
  have e:=fd_ h
  unfold aF at e
  rw[e]at hc
  obtain⟨ch,D9,e2⟩:=cJ.mp hc
  have r:=PyProof.Rows.digit_range (Nat.isDigit_of_mem_toDigits (by decide) (by decide) D9)
  rw[<-e2]
  exact r
 have Cg:(cF (m:Int)).cps.toList≠[]:=by
  obtain⟨c,r,e,_⟩:=(fx_ h).2
  unfold aF at e
  rw[e]
  exact List.cons_ne_nil _ _
 have e:=PySem.intText_digits hd Cg (nzL hl (by decide))
 have e2:=PySem.W.KIN.signs_num m
 have e3:(cF (m:Int)).cps.toList=(Nat.toDigits 10 m).map Char.toNat:=e2
 rw[e3,PySem.W.KIN.val_back]at e
 exact e
def aZj:GC:=λds Q=>∃x:Str,ds=[.str x]/\x.length<=100000/\(uZ (aF x)->Q (.tr (.bl true)))/\(¬uZ (aF x)->Q (.tr (.bl false)))
def xI(t:Str)(p:Nat)(m n:Int):Prop:=0<=n/\iQ eU t p=aF (cF n)/\((cF n).length:Int)<=m
def aFw(C0 CN:Addr):GOE:=λC l ds Q Ex=>C=C0/\∃(t:Str) (p:Nat) (m:Int),l=rdr t p/\ds=[.int m]/\p<=t.length/\t.length<=100000/\m<=600/\(∀n,xI t p m n->Q (.tr (.int n)) (rdr t (p+(cF n).length)))/\((∀n,¬xI t p m n)->Ex (.ref CN))
theorem aQq{z t:Str}{p:Nat}:(iQ z t p).length<=t.length:=by
 have h1:=(iW (p:=inT z) (l:=(aF t).drop p)).length_le
 rw[aY,<-fL]at h1
 unfold iQ
 omega
section
variable{f:Addr}{C_Reader Ac:Addr}
theorem aKt(F:Fun K "are_figures" "are_figures" eh_ f fd)(Ad:mg "len" = none)(Br:mg "all" = none)(Bk:∃t,mg "FIGURES" = some (.str eU t)):FnOk P w K mg base CX0 1 f fd AE (spX aZj):=by
 refine lF F oO (λds Q h=>by obtain⟨_,rfl,_⟩:=h;rfl) (by decide) λAi A outer s H E hr=>?_
 have Am:=iT hr
 have Aj:=aM Am
 refine⟨_,(cO (eC (XW.pt (qI (dW (iJ K Aj) iP (bE (pv 0)) dL (bD _)) (uM (zB (jZ (jV (kc_ K (by rfl)) zE (by rfl) Br zL (bF (dl_ (dsc:=aL eh_) (N:=AE) (tgs:=["sign"]) (outs:=[]) (N':=["sign"]) (by refine⟨rfl,?_,?_,?_,rfl,?_,?_,?_⟩<;>decide +kernel) (sF (bE (pv 0))) (λ_ _ _ _ _=>(jP (i:=0) (show(["sign"]:List Str).Nodup by decide +kernel) rfl (Or.inl rfl) (.inr rfl))) (rP (n:=1) (i:=0) (by decide)) (cz_ (by decide)) (λ_ _ _ _ _=>dw_) (λ_ _ _ _ _=>(xM eq_ jn_ (bE (pv 0)) (gd_ (by rfl) Bk) (by with_unfolding_all rfl)))) bV))))))) (cP (cZ vA)) eJ)
  (cP (cZ (aVs (xM (iJ K Aj) iP (jV (mF K) nJ (by rfl) Ad PySem.boot_len (bF (bE (pv 0)) bV)) cC (bD _)) (xN (xM (hh_ K Aj) lC (gJ K (pv 0)) dL (bD _))))))),λds Q h=>?_⟩
 clear Aj Am
 obtain⟨x,rfl,Jw,qy,qn⟩:=h
 by_cases Cd:x ≠ "" /\ ∀c∈aF x,inT eU c=true
 ·obtain ⟨Cg,Cd⟩:=Cd
  obtain⟨c,r,hc⟩:∃c r,aF x=c::r:=by
   cases e:aF x with
   |nil=>exact absurd (qQ (y:= "") (by rw[e];rfl)) Cg
   |cons c r=>exact⟨c,r,rfl⟩
  refine iY false (ρ':=[vT (.str x)]) (λQ q=>?_) (λhb=>by cases hb) (λhb=>?_)
  ·show if decide (x = "")=true then _ else _
   rw[dzF Cg]
   show(sgX x).length<=1000000/\eB _ _ _ _ _ (sgX x) _ _
   have esg:sgX x=(aF x).map λc=>Dx.str ⟨#[c]⟩:=rfl
   rw[esg]
   refine⟨by rw[aD,<-fL];omega,?_⟩
   refine du_ (λc:Nat=>Dx.str ⟨#[c]⟩) (λc=>.bl (inT eU c)) (λc hm Ah P p=>p) ?_
   refine⟨(aF x).map (inT eU),by rw[cK];rfl,?_⟩
   have e:((aF x).map (inT eU)).all id=true:=by
    rw[cG]
    intro b hb
    obtain⟨c',h1,rfl⟩:=cJ.mp hb
    exact Cd c' h1
   rw[e]
   exact q
  ·have Id:atI x.cps.toList 0=some c:=rO (xs:=aF x) (j:=0) (by rw [hc]; rfl)
   have Ak:x.length=r.length+1:=by rw[fL,hc];rfl
   refine⟨by show x.length<=1000000;omega,?_⟩
   show if decide ((x.length:Int)=1)=true then _ else _
   by_cases h1:x.length=1
   ·rw [dzT (by omega)]
    exact qy ⟨Cd,c,r,hc,.inl (List.length_eq_zero_iff.mp (by omega))⟩
   ·rw [dzF (by omega)]
    refine⟨by show x.length<=1000000;omega,?_⟩
    show match atI x.cps.toList 0 with | some c=>_ | none=>False
    rw[Id]
    show Q (.tr (.bl (!decide ((⟨#[c]⟩:Str) = "0"))))
    by_cases Ep:c=48
    ·subst Ep
     rw[dzT (show(⟨#[48]⟩:Str) = "0" from by decide)]
     refine qn λh=>?_
     obtain⟨_,c',r',e,h2⟩:=h
     rw[hc]at e
     cases e
     rcases h2 with h2 | h2
     ·rw[h2]at Ak;exact h1 Ak
     ·exact h2 rfl
    ·have G0:(⟨#[c]⟩ : Str) ≠ "0" := fun z=>Ep (by
      have:=congrArg aF z
      exact(List.cons.inj (show [c]=[48]from this)).1)
     rw[dzF G0]
     exact qy ⟨Cd,c,r,hc,.inr Ep⟩
 ·refine iY true (ρ':=[vT (.str x)]) (fun Q q => ?_) (fun hb => ?_) (fun hb=>by cases hb)
  ·show if decide (x = "")=true then _ else _
   by_cases Cg:x = ""
   ·rw [dzT Cg]
    exact q
   ·rw [dzF Cg]
    show(sgX x).length<=1000000/\eB _ _ _ _ _ (sgX x) _ _
    have esg:sgX x=(aF x).map λc=>Dx.str ⟨#[c]⟩:=rfl
    rw[esg]
    refine⟨by rw[aD,<-fL];omega,?_⟩
    refine du_ (λc:Nat=>Dx.str ⟨#[c]⟩) (λc=>.bl (inT eU c)) (λc hm Ah P p=>p) ?_
    refine⟨(aF x).map (inT eU),by rw[cK];rfl,?_⟩
    have e:((aF x).map (inT eU)).all id=false:=by
     cases e0:((aF x).map (inT eU)).all id with
     |false=>rfl
     |true =>
      rw[cG]at e0
      exact absurd ⟨Cg,λc hc=>e0 _ (List.mem_map_of_mem hc)⟩ Cd
    rw[e]
    exact q
  ·refine qn fun h=>Cd ⟨fun z => ?_,h.1⟩
   obtain⟨_,c,r,e,_⟩:=h
   rw[z]at e
   cases e
theorem jp_(F:Fun K "take_number" "Reader.take_number" ef_ f fd)(CM_take_run:mO P w K mg base 1 C_Reader "take_run" AB (spO (gTR C_Reader)))(Jr:Cal P w K mg base 1 "are_figures" AE (spX aZj))(Ad:mg "len" = none)(m_int:mg "int" = none)(Bk:∃t,mg "FIGURES" = some (.str eU t))(An:PyProof.Rows.OwnCls "NoText" Ac veM "ValueError.__new__" mg base):FnOk P w K mg base (CXe P w) 2 f fd AL (eI (aFw C_Reader Ac)):=by
 refine kH F jK (λC l ds Q Ex h=>by obtain⟨_,t,p,m,_,rfl,_⟩:=h;rfl) (by decide) λAi A outer s H E Ex hr=>?_
 have Am:=iT hr
 have Aj:=aM Am
 refine⟨_,(cO (al_ λF=>o4 (i:=2) jK.nd rfl (Or.inl rfl) (XE.at (Ex:=Ex) F (eb_ (C:=C_Reader) (i:=0) CM_take_run (hr.mono (by omega)) (pv 0) (bF (gd_ (by rfl) Bk) bV))))
  (cO (eC (XW.pt (qI (zB (jZ (fH Jr (hr.mono (by omega)) (bF (bE (pv 2)) bV)))) (uM (dW ip_ io_ (jV (mF K) nJ (by rfl) Ad PySem.boot_len (bF (bE (pv 2)) bV)) (bE (pv 1)) (bD _))))) (cP (fi_ An rfl (by rfl))) eJ)
  (cP (cZ (zK rT n4 (by rfl) m_int fs_ (bF (bE (pv 2)) bV)))))),λC a dx l ds Q h=>?_⟩
 obtain⟨rfl,t,p,m,rfl,rfl,hp,hl,hm,qy,qn⟩:=h
 have Kp:=aQq (z:=eU) (t:=t) (p:=p)
 refine⟨⟨rfl,rfl⟩,rfl,t,eU,p,rfl,rfl,hp,hl,?_⟩
 obtain⟨x,hx⟩:∃x:Str,x=⟨(iQ eU t p).toArray⟩:=⟨_,rfl⟩
 have Kh:aF x=iQ eU t p:=by rw[hx];rfl
 have Jw:x.length=(iQ eU t p).length:=by rw[fL,Kh]
 rw[<-hx,<-Jw]
 dsimp only
 change cL _ _ [.bo (.oi C a dx (rdr t (p+x.length))),vT (.int m),vT (.str x)] _
 by_cases hF:uZ (aF x)/\(x.length:Int)<=m
 ·obtain ⟨hF,hxm⟩:=hF
  obtain⟨n,h0,hn⟩:=pR hF
  have ex:x=cF n:=qQ hn
  refine mD (ρ':=[.bo (.oi C a dx (rdr t (p+x.length))),vT (.int m),vT (.str x)]) (λQ q=>?_) ?_
  ·refine ⟨x,rfl,by omega,fun _ => ?_,fun h=>absurd hF h⟩
   refine⟨by show x.length<=1000000;omega,?_⟩
   show Q (decide (m<(x.length:Int))) _
   rw[dzF (by omega)]
   exact q
  ·subst ex
   exact⟨cF n,n,rfl,by omega,nW h0 (by omega),rfl,rfl,rfl,qy n ⟨h0,Kh.symm,hxm⟩⟩
 ·have Ba:∀ n,¬ xI t p m n:=fun n hn=>hF (by
   obtain⟨h0,h1,h2⟩:=hn
   have ex:x=cF n:=qQ (Kh.trans h1)
   rw[ex]
   exact⟨pQ h0,h2⟩)
  refine iY true (ρ':=[.bo (.oi C a dx (rdr t (p+x.length))),vT (.int m),vT (.str x)]) (λQ q=>?_) (λ_=>qn Ba) (λhb=>by cases hb)
  refine⟨x,rfl,by omega,λh=>?_,λh=>q⟩
  refine⟨by show x.length<=1000000;omega,?_⟩
  show Q (decide (m<(x.length:Int))) _
  rw[dzT (by
   have:¬(x.length:Int)<=m:=λz=>hF ⟨h,z⟩
   omega)]
  exact q
end
def aHa(r:List Nat):Prop:=∀c l,r=c::l->inT eU c=false
theorem aBz{f:Nat->Bool}{l r:List Nat}(h:∀c∈l,f c=true)(h2:∀c r',r=c::r'->f c=false):(l++r).takeWhile f=l:=by
 induction l with
 |nil =>
  cases r with
  |nil=>rfl
  |cons c r=>rw[aZ,List.takeWhile_cons,h2 c r rfl];rfl
 |cons a l ih=>rw[aU,List.takeWhile_cons,h a aA,if_pos rfl,ih λc hc=>h c (aB _ hc)]
theorem jd_:∀k:Kd,1<=k.deep
 | .num _ _=>aV _
 | .row k n=>eF (bP _)
 | .rcd fs=>eF (bP _)
 | .cho ks=>eF (bP _)
def aGd(f:Str×Kd):Dx:=.tup [.str f.1,f.2.x]
theorem z_{t:Str}{p:Nat}{a r:List Nat}(h:(aF t).drop p=a++r):(aF t).drop (p+a.length)=r/\(p<=t.length->p+a.length<=t.length):=by
 refine⟨by rw[<-List.drop_drop,h,fQ],λhp=>?_⟩
 have:=congrArg List.length h
 rw[aY,aC,<-fL]at this
 omega
theorem aJj{a b:List Nat}:a.isPrefixOf (a++b)=true:=eO.mpr (List.prefix_append a b)
theorem sK{f:Str×Kd}:∀{l:List (Str×Kd)},xF (l++[f])=xF l++[aGd f]
 | []=>by simp only[aZ,xF,aGd]
 |g::l=>by simp only[aU,xF,sK]
theorem sI{f:Kd}:∀{l:List Kd},xK (l++[f])=xK l++[f.x]
 | []=>by simp only[aZ,xK]
 |g::l=>by simp only[aU,xK,sI]
theorem sL:∀{l:List (Str×Kd)},(xF l).length=l.length
 | []=>rfl
 |g::l=>by simp only[xF,aE,sL]
theorem sJ:∀{l:List Kd},(xK l).length=l.length
 | []=>rfl
 |g::l=>by simp only[xK,aE,sJ]
def aXa:GC:=λds Q=>∃n:Int,ds=[.int n]/\0<=n/\n<18446744073709551616/\Q (.tr (.str (cF n)))
theorem uN:iB (λxs H Q=>∃n:Int,xs=[.int n]/\0<=n/\n<18446744073709551616/\Q (.str (cF n)) H) aXa:=by
 intro F P H ds xs Q Qx R hs g k
 obtain⟨n,rfl,h0,h1,q⟩:=g
 obtain⟨y,rfl,hx⟩:=qJ hs
 cases hx.int_eq
 exact⟨n,rfl,h0,h1,k _ _ H (R.add (IsX.of_str _)) q⟩
theorem gj_:∀{fs:List (Str×Kd)} {f:Str×Kd},kQ fs->f∈fs->Nm f.1/\f.2.Fit/\f.2.deep<=eV fs
 | [],_,_,h=>absurd h bS
 |g::r,f,h,hf=>by
  rcases aI.mp hf with rfl | hf
  ·exact⟨h.1.1,h.1.2,fB _ _⟩
  ·obtain ⟨a,b,c⟩:=gj_ h.2 hf
   exact⟨a,b,nzL c (gM _ _)⟩
theorem ho_:∀{ks:List Kd} {k:Kd},kO ks->k∈ks->k.Fit/\k.deep<=eK ks
 | [],_,_,h=>absurd h bS
 |g::r,f,h,hf=>by
  rcases aI.mp hf with rfl | hf
  ·exact⟨h.1,fB _ _⟩
  ·obtain ⟨b,c⟩:=ho_ h.2 hf
   exact⟨b,nzL c (gM _ _)⟩
def tS(l:List Nat):Str:=⟨l.toArray⟩
theorem ec_(l:List Nat):aF (tS l)=l:=by unfold tS aF;rfl
theorem gp_(l:List Nat):(tS l).length=l.length:=by rw[fL,ec_]
def fI(l:List Dx):Prop:=∃xs:List Int,l=xs.map Dx.int/\∀x∈xs,0<=x
def gCA(K:dA):GC:=λds Q=>∃(ns:List Int) (k:Int),ds=[.scr K ns,.int k]/\0<=k/\∀c:Int,Q (.tr (.int c))
def gNU:GC:=λds Q=>∃(c m:Int),ds=[.int c,.int m]/\0<=m/\m<=300/\∀xs:List Int,(xs.length:Int)=m->(∀x∈xs,0<=x/\x<720720)->Q (.ol (xs.map Dx.int))
def gTK:GB:=λl ds Q=>∃many:Int,ds=[.int many]/\fI l/\0<many/\∀(r:Int) (l':List Dx),0<=r->r<many->fI l'->Q (.int r) l'
section
variable{f:Addr}
theorem aSn(F:Fun K "_law_cell_at" "_law_cell_at" fk_ f fd)(Ad:mg "len" = none):FnOk P w K mg base CX0 1 f fd BE (spX (gCA K)):=by
 refine lF F oN (λds Q h=>by obtain⟨ns,k,rfl,_⟩:=h;rfl) (by decide) λAi A outer s H E hr=>?_
 have Am:=iT hr
 have Aj:=aM Am
 refine⟨_,(cO (eC (dW xJ xL (bE (pv 1)) (jV (mF K) m_ (by rfl) Ad PySem.boot_len (bF (bE (pv 0)) bV)) (bD _)) (cP (cZ (aPs K (bE (pv 0)) (bE (pv 1)) (λ_ _=>rfl)))) eJ)
  (cP (cZ cC))),λds Q h=>?_⟩
 clear Aj Am
 obtain⟨ns,k,rfl,h0,q⟩:=h
 refine⟨rfl,?_⟩
 refine wH (λc=>?_) (λc=>q 0)
 have c':=of_decide_eq_true c
 obtain⟨v,hv,_⟩:=qE (l:=ns) h0 c'
 refine⟨rfl,?_⟩
 rw[hv]
 exact q v
theorem aSe(F:Fun K "_law_numbers" "_law_numbers" fj_ f fd)(Af:mg "range" = none):FnOk P w K mg base CX0 1 f fd AM (spX gNU):=by
 refine lF F dC (λds Q h=>by obtain⟨ns,k,rfl,_⟩:=h;rfl) (by decide) λAi A outer s H E hr=>?_
 have Am:=iT hr
 have Aj:=aM Am
 refine⟨_,(cO (gA (i:=2) dC.nd rfl (Or.inl rfl) (mI bV))
  (cO (gA (i:=3) dC.nd rfl (Or.inl rfl) (bE (pv 0)))
  (cO (gA (i:=4) dC.nd rfl (Or.inl rfl) (gn_ (bE (pv 0)) cC))
  (cO (hc_ PassesOwn.never rfl (df_ Af (bF (bE (pv 1)) bV)) (jP (i:=5) dC.nd rfl (Or.inl rfl)) (rP (n:=99) (i:=5) (by decide)) (cP (eC (XW.pt (ig_ (dW aEd aDy (bE (pv 0)) (aPr cC cC) (bD _)) (fv_ (dW ip_ io_ (bE (pv 3)) cC (bD _))))) (cO (kD λF=>PS.weak (fz_ (jm_ PySem.F.plainAttrs_list PySem.F.slot_list_append PySem.F.type_list_append er_ (pv 2) (kS (XE.at (Ex:=fZ) F (gn_ (bE (pv 3)) cC)) uL))) je_)
  (cP (gA (i:=3) dC.nd rfl (Or.inl rfl) (sG (bE (pv 3)) cC)))) (cO (gA (i:=4) dC.nd rfl (Or.inl rfl) (gn_ (z8 (eZ (eZ (bE (pv 4)) (z8 cC (bE (pv 5)))) cC) cC) cC))
  (cO (gA (i:=6) dC.nd rfl (Or.inl rfl) (gn_ (z8 (gn_ (z8 (bE (pv 4)) (bE (pv 4))) cC) cC) cC))
  (cP (kD λF=>PS.weak (fz_ (jm_ PySem.F.plainAttrs_list PySem.F.slot_list_append PySem.F.type_list_append er_ (pv 2) (kS (XE.at (Ex:=fZ) F (gn_ (sG (bE (pv 6)) cC) cC)) uL))) je_)))))))
  (cP (cZ (ez_ (pv 2)))))))),λds Q h=>?_⟩
 clear Aj Am
 obtain⟨c,m,rfl,m0,m1,q⟩:=h
 have cp:aVa 10 18:=⟨by decide,by decide,by decide⟩
 refine⟨bP _,?_⟩
 dsimp only
 refine⟨by show(0:Int)<2147483647;decide,?_⟩
 dsimp only
 change cL _ _ [vT (.int c),vT (.int m),.v (.ol []),vT (.int c),vT (.int (c%2147483647)),.un,.un] _
 refine zC (λρ=>∃(xs:List Int) (y3 y4 y5 y6:Sl),(xs.length:Int)=m/\(∀x∈xs,0<=x/\x<720720)/\ρ=[vT (.int c),vT (.int m),.v (.ol (xs.map Dx.int)),y3,y4,y5,y6]) ?_ (λnx Cb=>?_)
 ·rintro ρ ⟨xs,y3,y4,y5,y6,hl,hx,rfl⟩
  exact q xs hl hx
 refine⟨⟨by omega,by omega⟩,?_⟩
 refine dj_ (λk:Nat=>Dx.int (0+(k:Int))) (λrest ρ=>∃(xs:List Int) (re st:Int) (y5 y6:Sl),((xs.length+rest.length:Nat):Int)=m/\(∀x∈xs,0<=x/\x<720720)/\(∀k∈rest,k<300)/\0<=st/\st<2147483647/\ρ=[vT (.int c),vT (.int m),.v (.ol (xs.map Dx.int)),vT (.int re),vT (.int st),y5,y6]) (λρ h=>?_) (λk rest ρ Kn h hk=>?_) ⟨[],c,c%2147483647,.un,.un,by rw[cB,bJ];omega,λx hx=>absurd hx bS,λk hk=>by have:=eM.mp hk;omega,dS _ (by decide),cY _ (by decide),rfl⟩
 ·obtain ⟨xs,re,st,y5,y6,hl,hx,_,_,_,rfl⟩:=h
  exact Cb _ ⟨xs,_,_,_,_,hl,hx,rfl⟩
 obtain⟨xs,re,st,y5,y6,hl,hx,Gk,hs0,hs1,rfl⟩:=h
 have Mr:=Gk k aA
 have Dm:(xs.map Dx.int).length<1000000:=by rw[aD];omega
 have fin:∀(x re' st':Int) (y6:Sl),0<=x/\x<720720->0<=st'->st'<2147483647->Kn [vT (.int c),vT (.int m),.v (.ol (xs.map Dx.int++[.int x])),vT (.int re'),vT (.int st'),vT (.int (0+(k:Int))),y6]:=λx re' st' y6 h0 h1 h2=>by
  refine hk _ ⟨xs++[x],re',st',_,_,by rw[aC,bT];rw[aE]at hl;omega,λz hz=>?_,λk' G4=>Gk k' (aB _ G4),h1,h2,by rw[bM];rfl⟩
  rcases bL.mp hz with hz | hz
  ·exact hx z hz
  ·rw[aG.mp hz];exact h0
 refine aFr (decide ((10:Int)^18<=c)&&decide (0<re)) (ρ':=[vT (.int c),vT (.int m),.v (.ol (xs.map Dx.int)),vT (.int re),vT (.int st),vT (.int (0+(k:Int))),y6]) (λQ q=>?_) (λ_=>?_) (λ_=>?_)
 ·refine ⟨cp,?_⟩
  refine wH (λh=>?_) (λh=>?_)
  ·have h':decide ((10:Int) ^ 18≤c)=true:=h
   rw[h',bZ]at q
   exact q
  ·have h':decide ((10:Int) ^ 18≤c)=false:=Bool.not_eq_true _ ▸ h
   rw[h',cQ]at q
   exact q
 ·refine ⟨rfl,by show (0:Int) < 64; decide,?_⟩
  dsimp only
  refine⟨Dm,?_⟩
  refine aLt ⟨by show aHc re 64;exact⟨by decide,by decide⟩,?_⟩
  exact fin (re%64) _ _ _ ⟨dS _ (by decide),by have:=cY re (show(0:Int)<64 by decide);omega⟩ hs0 hs1
 ·refine ⟨⟨by decide,by omega⟩,⟨by omega,by decide⟩,by show (0:Int) < 2147483647; decide,?_⟩
  dsimp only
  have a0:(0:Int)<=(st+7*(0+(k:Int))+3)*48271%2147483647:=dS _ (by decide)
  have a1:(st+7*(0+(k:Int))+3)*48271%2147483647<2147483647:=cY _ (by decide)
  generalize (st+7*(0+(k:Int))+3)*48271%2147483647=S at a0 a1 ⊢
  have b0:(0:Int)<=S*S%2147483629:=dS _ (by decide)
  have b1:S*S%2147483629<2147483629:=cY _ (by decide)
  refine⟨⟨by omega,by omega⟩,by show(0:Int)<2147483629;decide,⟨by show(S*S%2147483629).natAbs<2^250;omega,by decide⟩,by show(0:Int)<2147483587;decide,?_⟩
  refine⟨rfl,⟨by decide,by decide⟩,by show(0:Int)<720720;decide,Dm,?_⟩
  exact fin _ _ _ _ ⟨dS _ (by decide),cY _ (by decide)⟩ a0 a1
theorem yL(F:Fun K "_law_take" "_law_take" gg_ f fd):FnOk P w K mg base CX0 1 f fd AH (spB gTK):=by
 refine aMh F vO (λl ds Q h=>by obtain⟨m,rfl,_⟩:=h;rfl) (by decide) λAi A outer s H E hr=>?_
 have Aj:=aM (iT hr)
 refine⟨_,(cO (eC (aHt K Aj (pv 0) (mI bV) (bD _)) (cP (cZ cC)) eJ)
  (cP (cZ (gn_ (λF=>PE.weak (aRl PySem.F.plainAttrs_list PySem.F.slot_list_pop PySem.F.type_list_pop aSw (pv 0)) aQe) (bE (pv 1)))))),λl ds Q h=>?_⟩
 obtain⟨many,rfl,⟨xs,rfl,hx⟩,h2,q⟩:=h
 by_cases e:xs=[]
 ·subst e
  exact⟨rfl,bP _,q 0 [] (by decide) h2 ⟨[],rfl,hx⟩⟩
 ·have Lh:(xs.map Dx.int).isEmpty=false:=by cases xs <;> first | rfl | exact absurd rfl e
  refine mD (ρ':=[.bw (xs.map Dx.int),vT (.int many)]) (λQ q=>?_) ?_
  ·refine ⟨rfl,bP _,?_⟩
   show Q (xs.map Dx.int).isEmpty _
   rw[Lh]
   exact q
  ·show match (xs.map Dx.int).getLast? with | some d=>_ | none=>False
   rw[List.getLast?_map,List.getLast?_eq_getLast e]
   refine⟨h2,q _ _ (dS _ (by omega)) (cY _ h2) ⟨xs.dropLast,by rw[List.map_dropLast],λx hm=>hx x ((List.dropLast_sublist xs).subset hm)⟩⟩
theorem aSl(F:Fun K "_law_deck" "_law_deck" hy_ f fd)(Jo:Cal P w K mg base 1 "_law_numbers" AM (spX gNU)):FnOk P w K mg base CX0 2 f fd AM (spX gNU):=by
 refine lF F vP (λds Q h=>by obtain⟨ns,k,rfl,_⟩:=h;rfl) (by decide) λAi A outer s H E hr=>?_
 have Am:=iT hr
 have Aj:=aM Am
 refine⟨_,(cP (cZ (zT (fH Jo (hr.mono (by omega)) (bF (bE (pv 0)) (bF (bE (pv 1)) bV)))))),λds Q h=>?_⟩
 clear Aj Am
 obtain⟨c,m,rfl,m0,m1,q⟩:=h
 refine⟨c,m,rfl,m0,m1,λxs hl hx=>?_⟩
 show Q (.ol (xs.map Dx.int).reverse)
 rw[<-List.map_reverse]
 exact q xs.reverse (by rw[List.length_reverse];exact hl) (λx hm=>hx x (List.mem_reverse.mp hm))
end
abbrev n1S:Str:= "abcdefgh"
abbrev n2S:Str:= "nmlkjiop"
abbrev n3S:Str:= "qrstuvwx"
def xU(al:Int):Str:=if al=1 then n1S else if al=2 then n2S else n3S
def kJ(al k:Int):Nat:=((aF (xU al))[k.toNat]?).getD 0
theorem aQc:∀(a:Fin 3) (k:Fin 8),(aF (xU (a.val+1:Nat)))[k.val]? = some (kJ (a.val+1:Nat) (k.val:Nat))/\97<=kJ (a.val+1:Nat) (k.val:Nat)/\kJ (a.val+1:Nat) (k.val:Nat)<=122:=by decide +kernel
theorem aIn:∀(a:Fin 3) (k l:Fin 8),kJ (a.val+1:Nat) (k.val:Nat)=kJ (a.val+1:Nat) (l.val:Nat)->k=l:=by decide +kernel
def NmK(al k:Int)(x:Str):Prop:=if al=0 then aF x=List.replicate (k.toNat+1) 97 else(aF x).head? = some (kJ al k)
theorem aKw{al k l:Int}{x:Str}(ha:0<=al)(ha3:al<4)(hk:0<=k)(hk8:k<8)(hl:0<=l)(hl8:l<8)(h:NmK al k x)(h':NmK al l x):k=l:=by
 unfold NmK at h h'
 by_cases e:al=0
 ·rw [if_pos e] at h h'
  have:=congrArg List.length (h.symm.trans h')
  rw[bC,bC]at this
  omega
 ·rw [if_neg e] at h h'
  have e2:=ozI (h.symm.trans h')
  have:=aIn ⟨(al-1).toNat,by omega⟩ ⟨k.toNat,by omega⟩ ⟨l.toNat,by omega⟩ (by
   show kJ (((al-1).toNat+1:Nat):Int) (k.toNat:Nat)=kJ (((al-1).toNat+1:Nat):Int) (l.toNat:Nat)
   rw[show(((al-1).toNat+1:Nat):Int)=al from by omega,show((k.toNat:Nat):Int)=k from by omega,show((l.toNat:Nat):Int)=l from by omega]
   exact e2)
  have:=congrArg Fin.val this
  dsimp only at this
  omega
theorem aUv{r:Int}(h0:0<=r)(h1:r<7):∃c,atI (Str.ofString "abcxyzn").cps.toList r=some c/\97<=c/\c<=122:=by
 have h:∀i:Fin 7,∃c,((Str.ofString "abcxyzn").cps.toList)[i.val]? = some c/\97<=c/\c<=122:=λi=>by
  have:∀i:Fin 7,(match ((Str.ofString "abcxyzn").cps.toList)[i.val]? with | some c=>decide (97<=c/\c<=122) | none=>false)=true:=by decide +kernel
  have:=this i
  split at this
  ·rename_i c e;exact⟨c,e,of_decide_eq_true this⟩
  ·cases this
 obtain⟨c,h2,h3⟩:=h ⟨r.toNat,by omega⟩
 have q:=rO h2
 have e:((r.toNat:Nat):Int)=r:=by omega
 exact⟨c,by rw[<-e];exact q,h3⟩
theorem qV{v:Dx}{a b c:Int}(h:v∈[Dx.int a,Dx.int b,Dx.int c]):∃z,v=.int z/\(z=a\/z=b\/z=c):=by
 simp only[aI,bS,or_false]at h
 rcases h with rfl | rfl | rfl
 ·exact⟨_,rfl,.inl rfl⟩
 ·exact⟨_,rfl,.inr (.inl rfl)⟩
 ·exact⟨_,rfl,.inr (.inr rfl)⟩
theorem aIo{al:Int}(h0:0<al)(h1:al<4):atI [Dx.str "abcdefgh",Dx.str "nmlkjiop",Dx.str "qrstuvwx"] (al-1)=some (.str (xU al)):=by
 have:al=1\/al=2\/al=3:=by omega
 rcases this with rfl | rfl | rfl
 ·exact rO (j:=0) rfl
 ·exact rO (j:=1) rfl
 ·exact rO (j:=2) rfl
theorem aIp{al k:Int}(h0:0<al)(h1:al<4)(k0:0<=k)(k1:k<8):atI (xU al).cps.toList k=some (kJ al k)/\97<=kJ al k/\kJ al k<=122:=by
 obtain⟨e,h⟩:=aQc ⟨(al-1).toNat,by omega⟩ ⟨k.toNat,by omega⟩
 dsimp only at e h
 rw[show(((al-1).toNat+1:Nat):Int)=al from by omega,show((k.toNat:Nat):Int)=k from by omega]at e h
 refine⟨?_,h⟩
 have q:=rO e
 rw[show((k.toNat:Nat):Int)=k from by omega]at q
 exact q
theorem aCb(al:Int):(xU al).length<=1000000:=by
 unfold xU
 split
 ·decide
 ·split<;>decide
def aZg:GB:=λl ds Q=>∃k al:Int,ds=[.int k,.int al]/\fI l/\0<=k/\k<8/\0<=al/\al<4/\∀(x:Str) (l':List Dx),Nm x->NmK al k x->fI l'->Q (.str x) l'
section
variable{f:Addr}{n j:Nat}
theorem aKj(F:Fun K "_law_name" "_law_name" gh_ f fd)(Bd:Cal P w K mg base 1 "_law_take" AH (spB gTK))(Af:mg "range" = none):FnOk P w K mg base CX0 2 f fd BC (spB aZg):=by
 refine aMh F iF (λl ds Q h=>by obtain⟨k,al,rfl,_⟩:=h;rfl) (by decide) λAi A outer s H E hr=>?_
 have Am:=iT hr
 have Aj:=aM Am
 refine⟨_,(cO (eC (dW (iJ K Aj) iP (bE (pv 2)) cC (bD _)) (cP (cZ (kX K dL mK (jQ (eZ (bE (pv 1)) cC))))) eJ)
  (cO (gA (i:=3) iF.nd rfl (Or.inl rfl) (kW K (kW K (mI (bF dL (bF dL (bF dL bV)))) (zA (bE (pv 2)) cC) (λ_ _=>rfl)) (bE (pv 1)) (λ_ _=>rfl)))
  (cO (hc_ PassesOwn.never rfl (df_ Af (bF (kU (i:=0) Bd (hr.mono (by omega)) (pv 0) (bF (kW K (mI (bF cC (bF cC (bF cC bV)))) (kU (i:=0) Bd (hr.mono (by omega)) (pv 0) (bF cC bV)) (λ_ _=>rfl)) bV)) bV)) (jP (i:=4) iF.nd rfl (Or.inl rfl)) (rP (n:=99) (i:=4) (by decide)) (cP (gA (i:=3) iF.nd rfl (Or.inl rfl) (eZ (bE (pv 3)) (kW K dL (kU (i:=0) Bd (hr.mono (by omega)) (pv 0) (bF cC bV)) (λ_ _=>rfl))))))
  (cP (cZ (ez_ (pv 3))))))),λl ds Q h=>?_⟩
 clear Aj Am
 obtain⟨k,al,rfl,hl,k0,k8,a0,a4,q⟩:=h
 refine iY (decide (al=0)) (ρ':=[.bw l,vT (.int k),vT (.int al),.un,.un]) (λQ q=>q) (λhb=>?_) (λhb=>?_)
 ·have ha:=of_decide_eq_true hb
  refine⟨(by decide),?_⟩
  have ec:aF (Txt.slice "aaaaaaaa" none (some (k+1)))=List.replicate (k.toNat+1) 97:=by
   rw[aGr (by omega) (by rw[show(aF "aaaaaaaa").length=8 from by decide];omega),show aF "aaaaaaaa" = List.replicate 8 97 from by decide,List.take_replicate]
   congr 1
   omega
  refine q _ l ⟨by rw[ec,bC];omega,by rw[ec,bC];omega,λc hc=>?_⟩ (by unfold NmK;rw[if_pos ha];exact ec) hl
  rw[ec]at hc
  have:=(List.mem_replicate.mp hc).2
  omega
 ·have ha:al≠0:=fun e=>by rw [e] at hb; cases hb
  obtain⟨e2,c0,c1⟩:=aIp (al:=al) (k:=k) (by omega) a4 k0 k8
  refine⟨(by show 3<=1000000;decide),?_⟩
  show match atI [Dx.str "abcdefgh",Dx.str "nmlkjiop",Dx.str "qrstuvwx"] (al-1)with | some d=>_ | none=>False
  rw[aIo (by omega) a4]
  refine⟨aCb al,?_⟩
  show match atI (xU al).cps.toList k with | some c=>_ | none=>False
  rw[e2]
  dsimp only
  change cL _ _ [.bw l,vT (.int k),vT (.int al),vT (.str ⟨#[kJ al k]⟩),.un] _
  refine zC (λρ=>∃(x:Str) (l':List Dx) (y:Sl),Nm x/\NmK al k x/\fI l'/\ρ=[.bw l',vT (.int k),vT (.int al),vT (.str x),y]) ?_ (λnx Cb=>?_)
  ·rintro ρ ⟨x,l',y,h1,h2,h3,rfl⟩
   exact q x l' h1 h2 h3
  refine⟨rfl,(by show 3<=1000000;decide),rfl,3,rfl,hl,by decide,λr l1 r0 r1 Dp=>?_⟩
  refine hl_ r0 r1 λv hv=>?_
  obtain⟨z,rfl,hz⟩:=qV hv
  refine⟨z,rfl,Dp,by omega,λm l2 m0 m1 Ch=>?_⟩
  refine⟨⟨by omega,by omega⟩,?_⟩
  have Cg:¬al=0:=ha
  refine dj_ (λi:Nat=>Dx.int (0+(i:Int))) (λrest ρ=>∃(x:Str) (l':List Dx) (y:Sl),1<=(aF x).length/\(aF x).length+rest.length<=8/\Low (aF x)/\(aF x).head? = some (kJ al k)/\fI l'/\ρ=[.bw l',vT (.int k),vT (.int al),vT (.str x),y]) (λρ h=>?_) (λi rest ρ Kn h hk=>?_) ⟨⟨#[kJ al k]⟩,l2,.un,(by decide:1<=1),by rw[cB];show 1+_<=8;omega,λc hc=>by rw[aG.mp (show c∈[kJ al k]from hc)];exact⟨c0,c1⟩,rfl,Ch,rfl⟩
  ·obtain ⟨x,l',y,h1,h2,h3,h4,h5,rfl⟩:=h
   rw[bJ]at h2
   exact Cb _ ⟨x,l',y,⟨h1,by omega,h3⟩,by unfold NmK;rw[if_neg Cg];exact h4,h5,rfl⟩
  ·obtain ⟨x,l',y,h1,h2,h3,h4,h5,rfl⟩:=h
   rw[aE]at h2
   refine⟨rfl,7,rfl,h5,by decide,λr l3 r0 r1 Dv=>?_⟩
   obtain⟨c,hc,hc0,hc1⟩:=aUv r0 r1
   refine⟨(by decide),?_⟩
   show match atI (Str.ofString "abcxyzn").cps.toList r with | some c=>_ | none=>False
   rw[hc]
   refine⟨by show x.length+1<=1000000;rw[fL];omega,hk _ ⟨x++⟨#[c]⟩,l3,_,?_,?_,?_,?_,Dv,rfl⟩⟩
   ·rw[lP,aC];omega
   ·rw[lP,aC];show _+1+_<=8;omega
   ·intro b hb
    rw[lP]at hb
    rcases bL.mp hb with hb | hb
    ·exact h3 b hb
    ·rw[aG.mp (show b∈[c]from hb)];exact⟨hc0,hc1⟩
   ·rw [lP]
    cases hx:aF x with
    |nil=>rw[hx]at h1;exact absurd h1 (by decide)
    |cons b r=>rw[hx]at h4;exact h4
end
def gKN(n:Nat):GB:=λl ds Q=>∃d:Int,ds=[.int d]/\fI l/\1<=d/\d<=n/\n<=5/\∀(kd:Kd) (l':List Dx),kd.Fit->(kd.deep:Int)<=d->fI l'->Q kd.x l'
theorem aPa{v:Dx}(h:v∈[Dx.int 1,Dx.int 2,Dx.int 4,Dx.int 8]):∃z,v=.int z/\(z=1\/z=2\/z=4\/z=8):=by
 simp only[aI,bS,or_false]at h
 rcases h with rfl | rfl | rfl | rfl
 ·exact⟨_,rfl,by omega⟩
 ·exact⟨_,rfl,by omega⟩
 ·exact⟨_,rfl,by omega⟩
 ·exact⟨_,rfl,by omega⟩
theorem aUj{v:Dx}(h:v∈[Dx.int 1,Dx.int 2,Dx.int 4,Dx.int 8,Dx.int 3,Dx.int 5,Dx.int 6,Dx.int 7]):∃z,v=.int z/\1<=z/\z<=8:=by
 simp only[aI,bS,or_false]at h
 rcases h with rfl | rfl | rfl | rfl | rfl | rfl | rfl | rfl<;>exact⟨_,rfl,by decide,by decide⟩
def mx(way:Int):Int:=if 5<way then 6 else 8
theorem aYe(way:Int):atI [Dx.int 8,Dx.int 6] (if decide (5<way)=true then 1 else 0)=some (.int (mx way)):=by
 unfold mx
 by_cases h:5<way
 ·rw[if_pos (dzT h),if_pos h];exact rO (j:=1) rfl
 ·rw[if_neg (by rw[decide_eq_true_eq];exact h),if_neg h];exact rO (j:=0) rfl
theorem aGc:∀{ks:List Kd} {i:Nat} {k:Kd},kO ks->ks[i]? = some k->k.Fit/\k.deep<=eK ks
 | [],_,_,_,e=>by simp at e
 |k'::r,0,k,h,e=>by simp at e;subst e;exact⟨h.1,fB _ _⟩
 |k'::r,i+1,k,h,e=>by obtain⟨a,b⟩:=aGc (i:=i) h.2 (by simpa using e);exact⟨a,nzL b (gM _ _)⟩
theorem yF{N i k:Nat}{r:List Nat}(h:k::r=(List.range N).drop i):k=i/\r=(List.range N).drop (i+1)/\i<N:=by
 have e:(k::r)[0]? = ((List.range N).drop i)[0]?:=by rw[h]
 rw[List.getElem?_drop,List.getElem?_cons_zero]at e
 have hi:i<N:=by
  have:=(bG.mp e.symm).1
  rw[cB]at this
  omega
 rw[Nat.add_zero,List.getElem?_range hi]at e
 refine⟨ozI e,?_,hi⟩
 have e2:=congrArg List.tail h
 rw[List.tail_drop]at e2
 exact e2
theorem iU{l:List Stmt}{G:XS}(h:Bx (XSs X Ex l G)):XSs X Ex l G:=h.out
section
variable{f:Addr}{n j:Nat}
theorem aSi(F:Fun K "_law_kind" "_law_kind" ej_ f fd)(Bd:Cal P w K mg base 1 "_law_take" AH (spB gTK))(Hw:Cal P w K mg base 2 "_law_name" BC (spB aZg))(Ka:Cal P w K mg base (j+2) "_law_kind" AZ (spB (gKN n)))(Af:mg "range" = none)(m_int:mg "int" = none):FnOk P w K mg base CX0 (j+3) f fd AZ (spB (gKN (n+1))):=by
 refine aMh F gP (λl ds Q h=>by obtain⟨d,rfl,_⟩:=h;rfl) (by decide) λAi A outer s H E hr=>?_
 have Am:=iT hr
 have Aj:=aM Am
 refine⟨_,(iU (gZ (Bx.mk (gA (i:=2) gP.nd rfl (Or.inl rfl) (kU (i:=0) Bd (hr.mono (by omega)) (pv 0) (bF cC bV))))
  (gZ (xE (Bx.mk (XW.pt (qI (dW xJ xL (bE (pv 1)) cC (bD _)) (uM (dW xJ xL (bE (pv 2)) cC (bD _)))))) (lY (uV (zQ (eW iI (eW (mE K (gu_ (eW pZ (eW pZ (eW pZ (eW pZ (eW pZ (eW pZ (eW pZ (eW pZ qO))))))))) (fq_ (i:=0) Bd (hr.mono (by omega)) (pv 0) (eW pZ qO)) (λ_ _=>rfl)) (eW (mE K (gu_ (eW pZ (eW pZ (eW pZ (eW pZ qO))))) (fq_ (i:=0) Bd (hr.mono (by omega)) (pv 0) (eW pZ qO)) (λ_ _=>rfl)) qO)))))) kd_)
  (gZ (Bx.mk (eC (dW (iJ K Aj) iP (bE (pv 2)) cC (bD _)) (iU (lY (Bx.mk (cZ (lO (bF dL (bF (kU (i:=0) Ka (hr.mono (by omega)) (pv 0) (bF (zA (bE (pv 1)) cC) bV)) (bF (eZ cC (kU (i:=0) Bd (hr.mono (by omega)) (pv 0) (bF (kW K (mI (bF cC (bF cC (bF cC bV)))) (kU (i:=0) Bd (hr.mono (by omega)) (pv 0) (bF cC bV)) (λ_ _=>rfl)) bV))) bV)))))))) eJ))
  (gZ (Bx.mk (gA (i:=3) gP.nd rfl (Or.inl rfl) (eZ cC (kU (i:=0) Bd (hr.mono (by omega)) (pv 0) (bF (kW K (mI (bF cC (bF cC (bF cC (bF (kW K (mI (bF cC (bF cC bV))) (zK dv_ im_ (by rfl) m_int fs_ (bF (xM ip_ io_ (bE (pv 2)) cC (bD _)) bV)) (λ_ _=>rfl)) bV))))) (kU (i:=0) Bd (hr.mono (by omega)) (pv 0) (bF cC bV)) (λ_ _=>rfl)) bV)))))
  (gZ (Bx.mk (gA (i:=4) gP.nd rfl (Or.inr rfl) (kU (i:=0) Bd (hr.mono (by omega)) (pv 0) (bF cC bV))))
  (gZ (Bx.mk (gA (i:=5) gP.nd rfl (Or.inr rfl) (dl_ (dsc:=aL ej_) (N:=AT) (tgs:=["k"]) (outs:=[0,1]) (N':=["k","deck","depth"]) (by refine⟨rfl,?_,?_,?_,rfl,?_,?_,?_⟩<;>decide +kernel) (df_ Af (bF (bE (pv 3)) bV)) (λ_ _ _ _ _=>(jP (i:=0) (show(["k","deck","depth"]:List Str).Nodup by decide +kernel) rfl (Or.inl rfl) (.inr rfl))) (rP (n:=1) (i:=0) (by decide)) (cz_ (by decide)) (λ_ _ _ _ _=>dw_) (λ_ _ _ _ _=>(kU (i:=1) Ka (hr.mono (by omega)) (pv 1) (bF (zA (bE (pv 2)) cC) bV))))))
  (gZ (Bx.mk (eC (dW ip_ io_ (bE (pv 2)) cC (bD _)) (iU (lY (Bx.mk (cZ (lO (bF dL (bF (bE (pv 5)) bV))))))) eJ))
  (lY (Bx.mk (cZ (lO (bF dL (bF (dl_ (dsc:=aL ej_) (N:=AT) (tgs:=["k"]) (outs:=[0,4,5]) (N':=["k","deck","alike","parts"]) (by refine⟨rfl,?_,?_,?_,rfl,?_,?_,?_⟩<;>decide +kernel) (df_ Af (bF (bE (pv 3)) bV)) (λ_ _ _ _ _=>(jP (i:=0) (show(["k","deck","alike","parts"]:List Str).Nodup by decide +kernel) rfl (Or.inl rfl) (.inr rfl))) (rP (n:=1) (i:=0) (by decide)) (cz_ (by decide)) (λ_ _ _ _ _=>dw_) (λ_ _ _ _ _=>(lO (bF (kU (i:=1) Hw (hr.mono (by omega)) (pv 1) (bF (bE (pv 0)) (bF (bE (pv 2)) bV))) (bF (kW K (bE (pv 3)) (bE (pv 0)) (λ_ _=>rfl)) bV))))) bV)))))))))))))),λl ds Q h=>?_⟩
 clear Aj Am
 obtain⟨d,rfl,hl,d1,dn,n5,q⟩:=h
 refine⟨rfl,8,rfl,hl,by decide,λway l1 w0 w1 Dp=>?_⟩
 dsimp only
 change cL _ _ [.bw l1,vT (.int d),vT (.int way),.un,.un,.un] _
 refine iY (decide (d<2)||decide (way<3)) (ρ':=[.bw l1,vT (.int d),vT (.int way),.un,.un,.un]) (λQ q=>?_) (λhb=>?_) (λhb=>?_)
 ·refine wH (fun h => ?_) (fun h => ?_)
  ·have h':decide (d < 2)=true:=h
   rw[h',Bool.true_or]at q
   exact q
  ·have h':decide (d < 2)=false:=Bool.not_eq_true _ ▸ h
   rw[h',Bool.false_or]at q
   exact q
 ·refine ⟨(by show 8≤1000000; decide),rfl,8,rfl,Dp,by decide,fun r l2 r0 r1 Ch => ?_⟩
  refine hl_ r0 r1 λv hv=>?_
  obtain⟨x,rfl,x0,x1⟩:=aUj hv
  refine⟨(by show 4<=1000000;decide),rfl,4,rfl,Ch,by decide,λr l3 r0 r1 Dv=>?_⟩
  refine hl_ r0 r1 λv hv=>?_
  obtain⟨m,rfl,hm⟩:=aPa hv
  exact⟨(by show 3<=1000000;decide),q (.num x m) l3 ⟨x0,x1,hm⟩ (by show((1:Nat):Int)<=d;omega) Dv⟩
 have Fi:2<=d:=by
  rw[Bool.or_eq_false_iff]at hb
  have:=of_decide_eq_false hb.1
  omega
 refine iY (decide (way=3)) (ρ':=[.bw l1,vT (.int d),vT (.int way),.un,.un,.un]) (λQ q=>q) (λhb=>?_) (λhb3=>?_)
 ·refine ⟨rfl,d - 1,rfl,Dp,by omega,by omega,by omega,fun kd l2 hF G6 Ch => ?_⟩
  refine⟨rfl,(by show 3<=1000000;decide),rfl,3,rfl,Ch,by decide,λr l3 r0 r1 Dv=>?_⟩
  refine hl_ r0 r1 λv hv=>?_
  obtain⟨z,rfl,hz⟩:=qV hv
  refine⟨z,rfl,Dv,by omega,λm l4 m0 m1 K5=>?_⟩
  refine⟨(by show 3<=1000000;decide),q (.row kd (1+m)) l4 ⟨hF,by omega,by omega⟩ ?_ K5⟩
  show((kd.deep+1:Nat):Int)<=d
  omega
 refine⟨rfl,wD,?_⟩
 show match atI [Dx.int 8,Dx.int 6] (if decide (5<way)=true then 1 else 0)with | some d=>_ | none=>False
 rw[aYe]
 refine⟨(by show 4<=1000000;decide),rfl,4,rfl,Dp,by decide,λr l2 r0 r1 Ch=>?_⟩
 have Mm:mx way=6\/mx way=8:=by unfold mx;split<;>omega
 refine hl_ r0 r1 λv hv=>?_
 have hvz:∃z,v=.int z/\0<z/\z<=mx way:=by
  have Be:v∈[Dx.int 3,Dx.int 3,Dx.int 3,Dx.int (mx way)]:=hv
  simp only[aI,bS,or_false]at Be
  rcases Be with rfl | rfl | rfl | rfl
  ·exact⟨_,rfl,by decide,by omega⟩
  ·exact⟨_,rfl,by decide,by omega⟩
  ·exact⟨_,rfl,by decide,by omega⟩
  ·exact⟨_,rfl,by omega,by omega⟩
 obtain⟨z,rfl,z0,z1⟩:=hvz
 refine⟨z,rfl,Ch,z0,λm l3 m0 m1 Dv=>?_⟩
 refine⟨rfl,4,rfl,Dv,by decide,λal l4 a0 a1 K5=>?_⟩
 dsimp only
 change cL _ _ [.bw l4,vT (.int d),vT (.int way),vT (.int (1+m)),vT (.int al),.un] _
 have hdd:d-1=((d-1).toNat:Int):=by omega
 refine⟨⟨by omega,by omega⟩,by show((List.range _).map _).length<=_;rw[aD,cB];omega,?_⟩
 refine eu_ (λk:Nat=>Dx.int (0+(k:Int))) (λrest Ah cs=>∃(ks:List Kd) (l':List Dx),ks.length+rest.length=(1+m).toNat/\Ah=xK ks/\cs=[.bw l',vT (.int d)]/\kO ks/\eK ks<=(d-1).toNat/\fI l') (λAh cs h=>?_) (λnm rest Ah cs Pn h hk=>?_) ⟨[],l4,by rw[cB];simp,rfl,rfl,trivial,bP _,K5⟩
 rotate_left
 ·obtain ⟨ks,l',e1,rfl,rfl,hF,G6,J3⟩:=h
  rw[aE]at e1
  exact⟨rfl,d-1,rfl,J3,by omega,by omega,by omega,λkd l6 hF6 hdp6 Jh=>hk _ _ ⟨ks++[kd],l6,by rw[aC];show ks.length+1+_=_;omega,by rw[sI];rfl,rfl,rH hF hF6,pV G6 (by omega),Jh⟩⟩
 obtain⟨ks,l',e1,rfl,rfl,hF,G6,J3⟩:=h
 rw[bJ]at e1
 dsimp only
 change cL _ _ [.bw l',vT (.int d),vT (.int way),vT (.int (1+m)),vT (.int al),.v (.ol (xK ks))] _
 refine iY (decide (5<way)) (ρ':=[.bw l',vT (.int d),vT (.int way),vT (.int (1+m)),vT (.int al),.v (.ol (xK ks))]) (λQ q=>q) (λhb=>?_) (λhb=>?_)
 ·have h5:=of_decide_eq_true hb
  have hm6:mx way=6:=by unfold mx;rw[if_pos h5]
  refine⟨wD,q (.cho ks) l' ⟨hF,by omega,by omega⟩ ?_ J3⟩
  show((eK ks+1:Nat):Int)<=d
  omega
 refine⟨⟨by omega,by omega⟩,by show((List.range _).map _).length<=_;rw[aD,cB];omega,?_⟩
 refine eu_ (λk:Nat=>Dx.int (0+(k:Int))) (λrest Ah cs=>∃(fs:List (Str×Kd)) (l':List Dx) (sv:Sv),rest=(List.range (1+m).toNat).drop fs.length/\fs.map (·.2)=ks.take fs.length/\fs.length<=ks.length/\Ah=xF fs/\sv.d=.lst (xK ks)/\cs=[.bw l',vT (.int al),.v sv]/\kQ fs/\eV fs<=(d-1).toNat/\(fs.map (·.1)).Nodup/\(∀x∈fs.map (·.1),∃i:Nat,i<fs.length/\NmK al i x)/\fI l') (λAh cs h=>?_) (λk rest Ah cs Pn h hk=>?_) ⟨[],l',.ol (xK ks),rfl,rfl,bP _,rfl,rfl,rfl,trivial,bP _,fP,λx hx=>absurd hx bS,J3⟩
 ·obtain ⟨fs,l',sv,e2,e3,e4,rfl,e5,rfl,Jk,I9,El,D5,Jh⟩:=h
  have Mu:(1+m).toNat<=fs.length:=by
   have:=congrArg List.length e2
   rw[bJ,aY,cB]at this
   omega
  refine⟨wD,q (.rcd fs) l' ⟨Jk,by omega,by omega,El⟩ ?_ Jh⟩
  show((eV fs+1:Nat):Int)<=d
  omega
 ·obtain ⟨fs,l',sv,e2,e3,e4,rfl,e5,rfl,Jk,I9,El,D5,Jh⟩:=h
  obtain⟨rfl,e2b,Da⟩:=yF e2
  obtain⟨kd,K7⟩:∃kd,ks[fs.length]? = some kd:=⟨_,aR (by omega)⟩
  obtain⟨hFk,hdk⟩:=aGc hF K7
  refine⟨rfl,0+(fs.length:Int),al,rfl,Jh,by omega,by omega,a0,a1,λx l6 hx Kg Mp=>?_⟩
  have K8:atI (xK ks) (0+(fs.length:Int))=some kd.x:=by
   rw[Int.zero_add]
   exact rO (by rw[go_,cA,K7];rfl)
  dsimp only
  refine wY (rK (aWj (s:=sv) rfl e5 ?_))
  show match atI (xK ks) (0+(fs.length:Int))with | some d=>_ | none=>False
  rw[K8]
  rw[Int.zero_add]at Kg
  refine⟨wD,hk _ _ ⟨fs++[(x,kd)],l6,.tr (.lst (xK ks)),by rw[aC];exact e2b,?_,by rw[aC];show fs.length+1<=_;omega,by rw[sK];rfl,rfl,rfl,rJ Jk hx hFk,pX I9 (by show kd.deep<=_;omega),?_,?_,Mp⟩⟩
  ·rw [bM,e3,aC]
   show ks.take fs.length++[kd]=ks.take (fs.length+1)
   rw[List.take_succ,K7]
   rfl
  ·rw [bM]
   refine cN.mpr ⟨El,by simp,λy hy b hb e=>?_⟩
   have J2:b=x:=aG.mp hb
   obtain⟨i,hi,Fv⟩:=D5 y hy
   rw[e,J2]at Fv
   have:=aKw a0 a1 (by omega) (by omega) (by omega) (by omega) Fv Kg
   omega
  ·intro y hy
   rw[bM]at hy
   rw[aC]
   rcases bL.mp hy with hy | hy
   ·obtain ⟨i,hi,Fv⟩:=D5 y hy
    exact⟨i,bR hi (Nat.le_add_right _ _),Fv⟩
   ·have hyx:y=x:=aG.mp hy
    rw[hyx]
    exact⟨fs.length,Nat.lt_succ_self _,Kg⟩
end
def gUP:GC:=λds Q=>∃n m:Int,ds=[.int n,.int m]/\0<=n/\n<2^60/\0<m/\m<=8/\Q (.tr (.int (up n m)))
def rb:Nat->Int
 | 0=>8
 |n+1=>1000*rb n
theorem aCv:∀n,8<=rb n
 | 0=>by decide
 |n+1=>by have:=aCv n;show 8<=1000*rb n;omega
theorem aXh:∀{n:Nat},n<=4->rb n<2^50:=by
 intro n h
 have:n=0\/n=1\/n=2\/n=3\/n=4:=by omega
 rcases this with rfl | rfl | rfl | rfl | rfl<;>decide
mutual
def Kd.lo:Kd->Nat
 | .num w _=>w.toNat
 | .row k n=>n.toNat*k.lo
 | .rcd fs=>loF fs
 | .cho ks=>loK ks
def loF:List (Str×Kd)->Nat
 | []=>0
 |f::r=>f.2.lo+loF r
def loK:List Kd->Nat
 | []=>0
 |k::r=>max k.lo (loK r)
end
theorem aEv{M:Int}:∀{ks:List Kd},0<=M->(∀g∈ks,(g.lo:Int)<=M)->(loK ks:Int)<=M
 | [],h0,_=>by simp only[loK];exact h0
 |k::r,h0,h=>by
  have h1:=h k aA
  have h2:=aEv h0 λg hg=>h g (aB _ hg)
  simp only[loK]
  omega
def gRM(n:Nat):GC:=λds Q=>∃k:Kd,ds=[k.x]/\k.Fit/\k.deep<=n/\n<=5/\∀a b:Int,(k.lo:Int)<=a->a<=rb n->1<=b->b<=8->Q (.tr (.tup [.int a,.int b]))
section
variable{f:Addr}{n j:Nat}
theorem aSb(F:Fun K "_law_up" "_law_up" ix_ f fd):FnOk P w K mg base CX0 1 f fd BF (spX gUP):=by
 refine lF F s0 (λds Q h=>by obtain⟨_,_,rfl,_⟩:=h;rfl) (by decide) λAi A outer s H E hr=>?_
 have Am:=iT hr
 have Aj:=aM Am
 refine⟨_,(cP (cZ (z8 (sG (zA (eZ (bE (pv 0)) (bE (pv 1))) cC) (bE (pv 1))) (bE (pv 1))))),λds Q h=>?_⟩
 clear Aj Am
 obtain⟨n,m,rfl,h0,h1,h2,h3,q⟩:=h
 have h4:(n+m-1)/m<=n+m-1:=Int.ediv_le_self _ (by omega)
 have h5:0<=(n+m-1)/m:=Int.ediv_nonneg (by omega) (by omega)
 exact⟨⟨h2,by omega⟩,⟨by omega,by omega⟩,q⟩
theorem aSc(F:Fun K "_law_room" "_law_room" dm_ f fd)(Hv:Cal P w K mg base (j+1) "_law_room" AX (spX (gRM n)))(Jn:Cal P w K mg base 1 "_law_up" BF (spX gUP))(Bj:mg "max" = none):FnOk P w K mg base CX0 (j+2) f fd AX (spX (gRM (n+1))):=by
 refine lF F cR (λds Q h=>by obtain⟨_,rfl,_⟩:=h;rfl) (by decide) λAi A outer s H E hr=>?_
 have Am:=iT hr
 have Aj:=aM Am
 refine⟨_,(cO (eC (dW (iJ K Aj) iP (gJ K (pv 0)) dL (bD _)) (cP (cZ (lO (bF (gJ K (pv 0)) (bF (gJ K (pv 0)) bV))))) eJ)
  (cO (eC (dW (iJ K Aj) iP (gJ K (pv 0)) dL (bD _)) (cO (mQ (jx_ (n:=99) (is:=[1,2]) rfl (by decide)) λF=>oV (XE.at (Ex:=fZ) F (fH Hv (hr.mono (by omega)) (bF (gJ K (pv 0)) bV))) (lM rfl (zI (jP (i:=1) cR.nd rfl (Or.inl rfl)) (zI (jP (i:=2) cR.nd rfl (Or.inl rfl)) hb_))))
  (cP (cZ (lO (bF (z8 (fH Jn (hr.mono (by omega)) (bF (bE (pv 1)) (bF (bE (pv 2)) bV))) (gJ K (pv 0))) (bF (bE (pv 2)) bV)))))) eJ)
  (cO (gA (i:=3) cR.nd rfl (Or.inl rfl) cC)
  (cO (gA (i:=4) cR.nd rfl (Or.inl rfl) cC)
  (cO (eC (dW (iJ K Aj) iP (gJ K (pv 0)) dL (bD _)) (cO (hc_ PassesOwn.never rfl (ey_ (gJ K (pv 0))) (lM rfl (zI (jP (i:=5) cR.nd rfl (Or.inl rfl)) (zI (jP (i:=6) cR.nd rfl (Or.inl rfl)) hb_))) (jx_ (n:=99) (is:=[5,6]) rfl (by decide)) (cO (mQ (jx_ (n:=99) (is:=[1,2]) rfl (by decide)) λF=>oV (XE.at (Ex:=fZ) F (fH Hv (hr.mono (by omega)) (bF (bE (pv 6)) bV))) (lM rfl (zI (jP (i:=1) cR.nd rfl (Or.inl rfl)) (zI (jP (i:=2) cR.nd rfl (Or.inl rfl)) hb_))))
  (cO (gA (i:=3) cR.nd rfl (Or.inl rfl) (eZ (fH Jn (hr.mono (by omega)) (bF (bE (pv 3)) (bF (bE (pv 2)) bV))) (bE (pv 1))))
  (cP (gA (i:=4) cR.nd rfl (Or.inl rfl) (jV (rS (by rfl)) m9 (by rfl) Bj uU (bF (bE (pv 4)) (bF (bE (pv 2)) bV))))))))
  (cP (cZ (lO (bF (fH Jn (hr.mono (by omega)) (bF (bE (pv 3)) (bF (bE (pv 4)) bV))) (bF (bE (pv 4)) bV)))))) eJ)
  (cO (kD λF=>PS.weak (aJf (i:=7) cR.nd rfl rfl (dsc:=aL dm_) (N:=AG) (tgs:=["part"]) (outs:=[]) (N':=["part"]) (by refine⟨rfl,?_,?_,?_,rfl,?_,?_,?_⟩<;>decide +kernel) (XIt.at (Ex:=fZ) F (ey_ (gJ K (pv 0)))) (λ_ _ _ _ _=>(jP (i:=0) (show(["part"]:List Str).Nodup by decide +kernel) rfl (Or.inl rfl) (.inr rfl))) (cz_ (by decide)) (λa b c d e=>XCs.at (Ex:=fZ) F dw_) (λa b c d e=>XE.at (Ex:=fZ) F (fH Hv (hr.mono (by omega)) (bF (bE (pv 0)) bV)))) (aQo (rP (n:=1) (i:=0) (by decide)) (by decide)))
  (cO (gA (i:=4) cR.nd rfl (Or.inl rfl) (jV (rR K (by rfl)) m8 (by rfl) Bj uU (bF (dl_ (dsc:=aL dm_) (N:=AG) (tgs:=["room","m"]) (outs:=[]) (N':=["room","m"]) (by refine⟨rfl,?_,?_,?_,rfl,?_,?_,?_⟩<;>decide +kernel) (ey_ (bE (pv 7))) (λ_ _ _ _ _=>(e6 K (n:=2) rfl rfl (zI (jP (i:=0) (show(["room","m"]:List Str).Nodup by decide +kernel) rfl (Or.inl rfl) (.inr rfl)) (zI (jP (i:=1) (show(["room","m"]:List Str).Nodup by decide +kernel) rfl (Or.inl rfl) (.inr rfl)) hb_)))) (jx_ (n:=2) (is:=[0,1]) rfl (by decide)) (a9 (he_ (by decide) (he_ (by decide) vH hd_) (nX hd_))) (λ_ _ _ _ _=>dw_) (λ_ _ _ _ _=>(bE (pv 1)))) bV)))
  (cP (cZ (lO (bF (fH Jn (hr.mono (by omega)) (bF (eZ (fH Jn (hr.mono (by omega)) (bF cC (bF (bE (pv 4)) bV))) (jV (rR K (by rfl)) m8 (by rfl) Bj uU (bF (dl_ (dsc:=aL dm_) (N:=AG) (tgs:=["room","m"]) (outs:=[]) (N':=["room","m"]) (by refine⟨rfl,?_,?_,?_,rfl,?_,?_,?_⟩<;>decide +kernel) (ey_ (bE (pv 7))) (λ_ _ _ _ _=>(e6 K (n:=2) rfl rfl (zI (jP (i:=0) (show(["room","m"]:List Str).Nodup by decide +kernel) rfl (Or.inl rfl) (.inr rfl)) (zI (jP (i:=1) (show(["room","m"]:List Str).Nodup by decide +kernel) rfl (Or.inl rfl) (.inr rfl)) hb_)))) (jx_ (n:=2) (is:=[0,1]) rfl (by decide)) (a9 (he_ (by decide) (he_ (by decide) vH hd_) (nX hd_))) (λ_ _ _ _ _=>dw_) (λ_ _ _ _ _=>(bE (pv 0)))) bV))) (bF (bE (pv 4)) bV))) (bF (bE (pv 4)) bV)))))))))))),λds Q h=>?_⟩
 clear Aj Am
 obtain⟨k,rfl,hF,hd,hn5,q⟩:=h
 have hp:=aCv n
 have hl:=aXh (n:=n) (by omega)
 have e1:rb (n+1)=1000*rb n:=rfl
 rw[e1]at q
 cases k with
 |num v m =>
  simp only[Kd.Fit]at hF
  exact⟨wD,q v m (by simp only[Kd.lo];omega) (by omega) (by omega) (by omega)⟩
 |row k m =>
  simp only[Kd.Fit]at hF
  simp only[Kd.deep]at hd
  refine⟨k,rfl,hF.1,by omega,by omega,λa b a0 a1 b0 b1=>?_⟩
  obtain⟨u1,u2⟩:=fw_ (n:=a) (m:=b) (by omega)
  refine⟨a,b,rfl,by omega,by omega,by omega,b1,?_⟩
  have hm:up a b*m<=(rb n+8)*20:=Int.mul_le_mul (by omega) (by omega) (by omega) (by omega)
  have hm0:0<=up a b*m:=Int.mul_nonneg (by omega) (by omega)
  have G3:((Kd.row k m).lo:Int)<=up a b*m:=by
   have e:((Kd.row k m).lo:Int)=(k.lo:Int)*m:=by
    simp only[Kd.lo]
    rw[Int.natCast_mul,Int.toNat_of_nonneg (by omega),Int.mul_comm]
   rw[e]
   exact fR (by omega) (by omega)
  exact⟨⟨by omega,by omega⟩,wD,q _ b G3 (by omega) b0 b1⟩
 |rcd fs =>
  simp only[Kd.Fit]at hF
  simp only[Kd.deep]at hd
  refine mD (ρ':=[vT (Kd.rcd fs).x,.un,.un,.un,.un,.un,.un,.un]) (λQ q=>q) ?_
  refine mD (ρ':=[vT (Kd.rcd fs).x,.un,.un,.un,.un,.un,.un,.un]) (λQ q=>q) ?_
  refine nK (ir_ (nK (ir_ ?_)))
  refine iY true (ρ':=[vT (Kd.rcd fs).x,.un,.un,vT (.int 0),vT (.int 1),.un,.un,.un]) (λQ q=>q) (λ_=>?_) (λhb=>by cases hb)
  refine zC (λρ=>∃(e mo:Int) (y1 y2 y5 y6:Sl),(loF fs:Int)<=e/\e<=8*(rb n+8)/\1<=mo/\mo<=8/\ρ=[vT (Kd.rcd fs).x,y1,y2,vT (.int e),vT (.int mo),y5,y6,.un]) ?_ (λnx Cb=>?_)
  ·rintro ρ ⟨e,mo,y1,y2,y5,y6,e0,e1,m0,m1,rfl⟩
   obtain⟨u1,u2⟩:=fw_ (n:=e) (m:=mo) (by omega)
   exact⟨e,mo,rfl,by omega,by omega,by omega,m1,wD,q _ mo (by simp only[Kd.lo];omega) (by omega) m0 m1⟩
  show iR _ _ _ (xF fs) _
  rw[ii_]
  refine dj_ (λf=>Dx.tup [.str f.1,f.2.x]) (λrest ρ=>(∀g∈rest,g∈fs)/\∃(c:Nat) (e mo:Int) (y1 y2 y5 y6:Sl),c+rest.length=fs.length/\(0<=e/\(loF fs:Int)<=e+loF rest)/\e<=(c:Int)*(rb n+8)/\1<=mo/\mo<=8/\ρ=[vT (Kd.rcd fs).x,y1,y2,vT (.int e),vT (.int mo),y5,y6,.un]) (λρ h=>?_) (λg rest ρ Kn h hk=>?_) ⟨λg hg=>hg,0,0,1,.un,.un,.un,.un,by simp,⟨by decide,by omega⟩,by simp,by decide,by decide,rfl⟩
  ·obtain ⟨_,c,e,mo,y1,y2,y5,y6,hc,e0,e1,m0,m1,rfl⟩:=h
   rw[bJ]at hc
   have:(c:Int)*(rb n+8)<=8*(rb n+8):=fR (by omega) (by omega)
   exact Cb _ ⟨e,mo,y1,y2,y5,y6,by have:=e0.2;simp only[loF]at this;omega,by omega,m0,m1,rfl⟩
  ·obtain ⟨C2,c,e,mo,y1,y2,y5,y6,hc,e0,e1,m0,m1,rfl⟩:=h
   rw[aE]at hc
   obtain⟨a1,a2,a3⟩:=gj_ hF.1 (C2 g aA)
   have Lm:(c:Int)*(rb n+8)<=8*(rb n+8):=fR (by omega) (by omega)
   have F7:((c+1:Nat):Int)*(rb n+8)=(c:Int)*(rb n+8)+(rb n+8):=by push_cast;rw[Int.add_mul,Int.one_mul]
   refine⟨g.2,rfl,a2,by omega,by omega,λa b a0 a1 b0 b1=>?_⟩
   obtain⟨u1,u2⟩:=fw_ (n:=e) (m:=b) (by omega)
   have e2:=e0.2
   simp only[loF]at e2
   refine⟨e,b,rfl,e0.1,by omega,by omega,b1,?_⟩
   exact hk _ ⟨λx hx=>C2 x (aB _ hx),c+1,up e b+a,if b>mo then b else mo,_,_,_,_,by omega,⟨by omega,by omega⟩,by omega,by split<;>omega,by split<;>omega,rfl⟩
 |cho ks =>
  simp only[Kd.Fit]at hF
  simp only[Kd.deep]at hd
  have Cg:ks≠[]:=λe=>by rw[e]at hF;exact absurd hF.2.1 (by decide)
  refine mD (ρ':=[vT (Kd.cho ks).x,.un,.un,.un,.un,.un,.un,.un]) (λQ q=>q) ?_
  refine mD (ρ':=[vT (Kd.cho ks).x,.un,.un,.un,.un,.un,.un,.un]) (λQ q=>q) ?_
  refine nK (ir_ (nK (ir_ ?_)))
  refine mD (ρ':=[vT (Kd.cho ks).x,.un,.un,vT (.int 0),vT (.int 1),.un,.un,.un]) (λQ q=>q) ?_
  refine⟨show(xK ks).length<=1000000 by rw[go_,aD];omega,show eB _ _ _ _ _ (xK ks) _ _ from ?_⟩
  rw[go_]
  refine eu_ Kd.x (λrest Ah cs=>(∀g∈rest,g∈ks)/\∃rs:List (Int×Int),rs.length+rest.length=ks.length/\(∀g∈ks,g∈rest\/∃r∈rs,(g.lo:Int)<=r.1)/\(∀r∈rs,0<=r.1/\r.1<=rb n/\1<=r.2/\r.2<=8)/\Ah=rs.map (λr=>Dx.tup [.int r.1,.int r.2])/\cs=[]) (λAh cs h=>?_) (λg rest Ah cs Pn h hk=>?_) ⟨λg hg=>hg,[],by simp,λg hg=>.inl hg,λr hr=>absurd hr bS,rfl,rfl⟩
  rotate_left
  ·obtain ⟨C2,rs,Dp,G3,Jx,rfl,rfl⟩:=h
   obtain⟨a2,a3⟩:=ho_ hF.1 (C2 g aA)
   refine⟨g,rfl,a2,by omega,by omega,λa b a0 a1 b0 b1=>hk _ _ ⟨λx hx=>C2 x (aB _ hx),rs++[(a,b)],by rw[aC];rw[aE]at Dp;show rs.length+1+_=_;omega,λg' Fg=>?_,λr hr=>?_,by rw[bM];rfl,rfl⟩⟩
   ·rcases G3 g' Fg with h | ⟨r,h1,h2⟩
    ·rcases aI.mp h with rfl | h
     ·exact .inr ⟨(a,b),aJ _ aA,a0⟩
     ·exact .inl h
    ·exact .inr ⟨r,aX _ h1,h2⟩
   rcases bL.mp hr with hr | hr
   ·exact Jx r hr
   ·rw[aG.mp hr];exact⟨by show 0<=a;omega,a1,b0,b1⟩
  obtain⟨C2,rs,Dp,G3,Jx,rfl,rfl⟩:=h
  rw[bJ]at Dp
  have Il:rs≠[]:=λe=>by rw[e,bJ]at Dp;omega
  dsimp only
  change cL _ _ [vT (Kd.cho ks).x,.un,.un,vT (.int 0),vT (.int 1),.un,.un,.v (.ol (rs.map (λr=>Dx.tup [.int r.1,.int r.2])))] _
  refine⟨by show(rs.map _).length<=1000000;rw[aD];omega,show eB _ _ _ _ _ (rs.map λr=>Dx.tup [.int r.1,.int r.2]) _ _ from ?_⟩
  refine du_ (λr:Int×Int=>Dx.tup [.int r.1,.int r.2]) (λr=>.int r.2) (λr _ Ah P p=>p) ?_
  refine⟨rs.map (·.2),by rw[cK];rfl,λz=>Il (gQ.mp z),λM hM _=>?_⟩
  obtain⟨r,Im,rfl⟩:=cJ.mp hM
  obtain⟨c0,c1,c2,c3⟩:=Jx r Im
  obtain⟨u1,u2⟩:=fw_ (n:=1) (m:=r.2) (by omega)
  refine⟨1,r.2,rfl,by decide,by decide,by omega,c3,?_⟩
  refine⟨by show(rs.map _).length<=1000000;rw[aD];omega,show eB _ _ _ _ _ (rs.map λr=>Dx.tup [.int r.1,.int r.2]) _ _ from ?_⟩
  refine du_ (λr:Int×Int=>Dx.tup [.int r.1,.int r.2]) (λr=>.int r.1) (λr _ Ah P p=>p) ?_
  refine⟨rs.map (·.1),by rw[cK];rfl,λz=>Il (gQ.mp z),λM hM Mm=>?_⟩
  obtain⟨r',Kq,rfl⟩:=cJ.mp hM
  obtain⟨d0,d1,d2,d3⟩:=Jx r' Kq
  obtain⟨v1,v2⟩:=fw_ (n:=up 1 r.2+r'.1) (m:=r.2) (by omega)
  have hloK:(loK ks:Int)<=r'.1:=aEv d0 λg hg=>by
   rcases G3 g hg with h | ⟨r2,h1,h2⟩
   ·cases h
   ·exact Int.le_trans h2 (Mm _ (List.mem_map_of_mem h1))
  exact⟨up 1 r.2+r'.1,r.2,rfl,by omega,by omega,by omega,c3,wD,q _ r.2 (by simp only[Kd.lo];omega) (by omega) c2 c3⟩
end
def aMe:GB:=λl ds Q=>∃d mo:Int,ds=[.int d,.int mo]/\fI l/\1<=d/\d<=5/\160<=mo/\mo<=2000/\∀(kd:Kd) (l':List Dx),kd.Fit->kd.deep<=5->kd.lo<=2000->fI l'->Q kd.x l'
section
variable{f:Addr}{n j:Nat}
theorem aKq(F:Fun K "_law_kind_within" "_law_kind_within" do_ f fd)(Bd:Cal P w K mg base 1 "_law_take" AH (spB gTK))(Ka:Cal P w K mg base (j+1) "_law_kind" AZ (spB (gKN 5)))(Hv:Cal P w K mg base (j+1) "_law_room" AX (spX (gRM 5))):FnOk P w K mg base CX0 (j+2) f fd AY (spB aMe):=by
 refine aMh F hZ (λl ds Q h=>by obtain⟨d,mo,rfl,_⟩:=h;rfl) (by decide) λAi A outer s H E hr=>?_
 have Am:=iT hr
 have Aj:=aM Am
 refine⟨_,(cO (gA (i:=3) hZ.nd rfl (Or.inl rfl) (kU (i:=0) Ka (hr.mono (by omega)) (pv 0) (bF (bE (pv 1)) bV)))
  (cO (eC (XW.pt (ig_ (dW ip_ io_ (kW K (fH Hv (hr.mono (by omega)) (bF (bE (pv 3)) bV)) cC (λ_ _=>rfl)) (bE (pv 2)) (bD _)) (fv_ (dW xJ xL (bE (pv 2)) cC (bD _))))) (cP (cZ (lO (bF dL (bF (eZ cC (kU (i:=0) Bd (hr.mono (by omega)) (pv 0) (bF cC bV))) (bF (kW K (mI (bF cC (bF cC (bF cC (bF cC bV))))) (kU (i:=0) Bd (hr.mono (by omega)) (pv 0) (bF cC bV)) (λ_ _=>rfl)) bV)))))) eJ)
  (cO (eC (dW ip_ io_ (kW K (fH Hv (hr.mono (by omega)) (bF (bE (pv 3)) bV)) cC (λ_ _=>rfl)) (bE (pv 2)) (bD _)) (cP (cZ (lO (bF dL (bF (lO (bF dL (bF (eZ cC (kU (i:=0) Bd (hr.mono (by omega)) (pv 0) (bF cC bV))) (bF cC bV)))) (bF (eZ cC (kU (i:=0) Bd (hr.mono (by omega)) (pv 0) (bF cC bV))) bV)))))) eJ)
  (cP (cZ (ez_ (pv 3))))))),λl ds Q h=>?_⟩
 clear Aj Am
 obtain⟨d,mo,rfl,hl,d1,d5,mo1,mo2,q⟩:=h
 refine⟨rfl,d,rfl,hl,d1,by omega,by decide,λkd l1 hF G6 Dp=>?_⟩
 dsimp only
 change cL _ _ [.bw l1,vT (.int d),vT (.int mo),vT kd.x] _
 refine⟨kd,rfl,hF,by omega,by decide,λa b _ _ _ _=>wH (λh=>wH (λh2=>?_) (λh2=>?_)) (λh=>?_)⟩
 ·refine ⟨rfl,8,rfl,Dp,by decide,fun r l2 r0 r1 Ch => ?_⟩
  refine⟨(by show 4<=1000000;decide),rfl,4,rfl,Ch,by decide,λr3 l3 r30 r31 Dv=>?_⟩
  refine hl_ r30 r31 λv hv=>?_
  obtain⟨m,rfl,hm⟩:=aPa hv
  exact⟨(by show 3<=1000000;decide),q (.num (1+r) m) l3 ⟨by omega,by omega,hm⟩ (by show 1<=5;decide) (by simp only[Kd.lo];omega) Dv⟩
 ·refine ⟨kd,rfl,hF,by omega,by decide,fun a2 b2 a20 _ _ _=>wH (fun h => ?_) (fun h=>q kd l1 hF (by omega) (by have h5:¬ decide (mo < a2)=true:=h; rw [decide_eq_true_eq] at h5; omega) Dp)⟩
  refine⟨rfl,8,rfl,Dp,by decide,λr l2 r0 r1 Ch=>⟨(by show 3<=1000000;decide),rfl,20,rfl,Ch,by decide,λr3 l3 r30 r31 Dv=>⟨(by show 3<=1000000;decide),?_⟩⟩⟩
  exact q (.row (.num (1+r) 1) (1+r3)) l3 ⟨⟨by omega,by omega,by omega⟩,by omega,by omega⟩ (by show 2<=5;decide) (by
   simp only[Kd.lo]
   have:=Nat.mul_le_mul (show(1+r3).toNat<=20 by omega) (show(1+r).toNat<=8 by omega)
   omega) Dv
 ·refine ⟨kd,rfl,hF,by omega,by decide,fun a2 b2 a20 _ _ _=>wH (fun h => ?_) (fun h=>q kd l1 hF (by omega) (by have h5:¬ decide (mo < a2)=true:=h; rw [decide_eq_true_eq] at h5; omega) Dp)⟩
  refine⟨rfl,8,rfl,Dp,by decide,λr l2 r0 r1 Ch=>⟨(by show 3<=1000000;decide),rfl,20,rfl,Ch,by decide,λr3 l3 r30 r31 Dv=>⟨(by show 3<=1000000;decide),?_⟩⟩⟩
  exact q (.row (.num (1+r) 1) (1+r3)) l3 ⟨⟨by omega,by omega,by omega⟩,by omega,by omega⟩ (by show 2<=5;decide) (by
   simp only[Kd.lo]
   have:=Nat.mul_le_mul (show(1+r3).toNat<=20 by omega) (show(1+r).toNat<=8 by omega)
   omega) Dv
end
mutual
def Dx.deep:Dx->Nat
 | .tup l=>iH l+1
 | .lst l=>iH l+1
 | .dic l=>aGk l+1
 |_=>1
def iH:List Dx->Nat
 | []=>0
 |d::r=>max d.deep (iH r)
def aGk:List (Key×Dx)->Nat
 | []=>0
 |k::r=>max k.2.deep (aGk r)
end
mutual
def Dx.Sz:Dx->Prop
 | .tup l=>l.length<=100000/\szX l
 | .lst l=>l.length<=100000/\szX l
 | .dic l=>l.length<=100000/\(l.map (·.1)).Nodup/\aWx l
 | .str x=>x.length<=100000
 | .scr _ _=>False
 | .ins _ _=>False
 | .exc _=>False
 |_=>True
def szX:List Dx->Prop
 | []=>True
 |d::r=>d.Sz/\szX r
def aWx:List (Key×Dx)->Prop
 | []=>True
 |k::r=>k.2.Sz/\aWx r
end
theorem ka_:∀{l:List Dx} {d:Dx},d∈l->d.deep<=iH l
 |e::r,d,h=>by
  show _<=max _ _
  rcases aI.mp h with rfl | h
  ·exact fB _ _
  ·exact nzL (ka_ h) (gM _ _)
theorem mU:∀{l:List Dx} {d:Dx},szX l->d∈l->d.Sz
 |e::r,d,hs,h=>by
  rcases aI.mp h with rfl | h
  ·exact hs.1
  ·exact mU hs.2 h
theorem aDd{l:List (Key×Dx)}{k:Key}{d:Dx}(h:k∉l.map (·.1)):aDe l k d=l++[(k,d)]:=by
 unfold aDe
 have:(l.any λkv=>decide (kv.1=k))=false:=by
  rw[List.any_eq_false]
  intro kv hkv z
  exact h (by rw[<-of_decide_eq_true z];exact List.mem_map_of_mem (f:=λx:Key×Dx=>x.1) hkv)
 rw[this,if_neg aW]
theorem aFp{l:List Dx}{i j:Nat}{d:Dx}{ρ:En}{Q:Sv->En->Prop}(hi:ρ[i]? = some (vT (.tup l)))(h:l[j]? = some d)(q:Q (.tr d) ρ):xOp ixX (bW i) (xC (.int (j:Int))) ρ Q:=by
 have e:ρ.set i (vT (.tup l))=ρ:=by
  obtain⟨h1,h2⟩:=bG.mp hi
  rw[<-h2,iX]
 unfold xOp bW xC
 rw[hi]
 show ixX (.tup l) (.int (j:Int)) λs=>Q s (ρ.set i (vT (.tup l)))
 rw[e]
 show(match atI l (j:Int)with | some d=>Q (.tr d) ρ | none=>False)
 rw[rO h]
 exact q
theorem aLx{t u:XT}{ρ:En}{Q:Sv->En->Prop} (h:t ρ λs ρ'=>match s with
 | .tr (.bl b)=>if b=true then u ρ' Q else Q (.tr (.bl false)) ρ'
 |_=>False):aBs t u ρ Q:=h
theorem aYx{n:Ty}{t:XT}{ρ:En}{Q:Sv->En->Prop} (h:t ρ λs ρ'=>match s.d with
 | .scr _ _=>False
 | .ins _ _=>False
 | .exc _=>False
 |d=>Q (.tr (.bl (isT n d))) ρ'):xIs n t ρ Q:=h
def whD:Dx->Bool
 | .int _=>true
 |_=>false
def nmB(x:Str):Bool:=decide (1<=(x.length:Int))&&decide ((x.length:Int)<=8)&&x.cps.toList.all λc=>decide (97<=c)&&decide (c<=122)
def nmD:Dx->Bool
 | .str x=>nmB x
 |_=>false
def wuD:Dx->Int->Bool
 | .int i,g=>decide (1<=i)&&decide (i<=g)
 |_,_=>false
def luD:Dx->Int->Bool
 | .lst l,g=>decide (1<=(l.length:Int))&&decide ((l.length:Int)<=g)
 |_,_=>false
def hfD:Dx->Str->Int->Bool
 | .tup (.str z::l),w,n=>decide (((l.length+1:Nat):Int)=n)&&decide (z=w)
 |_,_,_=>false
def inM:Dx->Bool
 | .int i=>inV (.int i) [.int 1,.int 2,.int 4,.int 8]
 |_=>false
def aCj:Dx->Dx
 | .tup [_,b]=>b
 |_=>.non
def iO:List Str->List Dx->Bool
 |_,[]=>true
 |seen,.tup [.str x,_]::r=>nmB x && !decide (x∈seen)&&iO (seen++[x]) r
 |_,_::_=>false
def ikN:Nat->Dx->Bool
  |n+1,.tup [.str w,a,b]=>if w=("number" : Str)then wuD a 8&&whD b&&inM b else if w=("row" : Str)then wuD b 20&&ikN n a else false
  | n + 1, .tup [.str w, a] => if w = ("record" : Str) then luD a 8 && (match a with
      | .lst l=>iO [] l&&l.all λt=>ikN n (aCj t)
      |_=>false)else if w=("choice" : Str)then luD a 6&&(match a with
      | .lst l=>l.all (ikN n)
      |_=>false)else false
  |_,_=>false
theorem vK{d:Dx}(h:d.Sz):pF d:=by cases d<;>simp only[Dx.Sz]at h<;>first | exact h.elim | trivial
def gWB:GC:=λds Q=>∃d:Dx,ds=[d]/\pF d/\Q (.tr (.bl (whD d)))
def gWU:GC:=λds Q=>∃(d:Dx) (g:Int),ds=[d,.int g]/\pF d/\Q (.tr (.bl (wuD d g)))
def gLU:GC:=λds Q=>∃(d:Dx) (g:Int),ds=[d,.int g]/\pF d/\Q (.tr (.bl (luD d g)))
def gNM:GC:=λds Q=>∃d:Dx,ds=[d]/\d.Sz/\Q (.tr (.bl (nmD d)))
def gHF:GC:=λds Q=>∃(d:Dx) (w:Str) (n:Int),ds=[d,.str w,.int n]/\d.Sz/\1<=n/\Q (.tr (.bl (hfD d w n)))
def gKW(n:Nat):GC:=λds Q=>∃d:Dx,ds=[d,.int (n:Int)]/\d.Sz/\Q (.tr (.bl (ikN n d)))
def gAK(n:Nat):GC:=λds Q=>∃l:List Dx,ds=[.lst l,.int (n:Int)]/\(Dx.lst l).Sz/\Q (.tr (.bl (l.all (ikN n))))
def gAF(n:Nat):GC:=λds Q=>∃l:List Dx,ds=[.lst l,.int (n:Int)]/\(Dx.lst l).Sz/\Q (.tr (.bl (iO [] l&&l.all λt=>ikN n (aCj t))))
def gNo:GC:=λ_ _=>False
def gIK:GC:=λds Q=>∃d:Dx,ds=[d]/\d.Sz/\Q (.tr (.bl (ikN 5 d)))
section
variable{f:Addr}{n j:Nat}
theorem aSa(F:Fun K "is_whole" "is_whole" hz_ f fd)(Ab:mg "isinstance" = none)(m_int:mg "int" = none)(Bm:mg "bool" = none):FnOk P w K mg base CX0 1 f fd AI (spX gWB):=by
 refine lF F vQ (λds Q h=>by obtain⟨_,rfl,_⟩:=h;rfl) (by decide) λAi A outer s H E hr=>?_
 refine⟨_,(cP (cZ (vB (uW .int Ab (bE (pv 0)) (rV (v:=.ty "int") rfl m_int fs_ rfl)) (xN (aBj (uW .bool Ab (bE (pv 0)) (rV (v:=.ty "bool") rfl Bm o0 rfl))))))),λds Q h=>?_⟩
 obtain⟨d,rfl,hd,q⟩:=h
 cases d<;>first | exact q | exact hd.elim
theorem aRx(F:Fun K "is_whole_up_to" "is_whole_up_to" dx_ f fd)(Gh:Cal P w K mg base 1 "is_whole" AI (spX gWB)):FnOk P w K mg base CX0 2 f fd AR (spX gWU):=by
 refine lF F hw_ (λds Q h=>by obtain⟨_,_,rfl,_⟩:=h;rfl) (by decide) λAi A outer s H E hr=>?_
 refine⟨_,(cP (cZ (vB (fH Gh (hr.mono (by omega)) (bF (bE (pv 0)) bV)) (xN (nP lU lT lU lT cC (bE (pv 0)) (bE (pv 1))))))),λds Q h=>?_⟩
 obtain⟨d,g,rfl,hd,q⟩:=h
 refine⟨d,rfl,hd,?_⟩
 cases d<;>first | exact q | skip
 rename_i i
 simp only[wuD]at q
 by_cases h1:1<=i
 ·rw [dzT h1,bZ] at q
  show if decide (1<=i)=true then _ else _
  rw[if_pos (dzT h1)]
  exact q
 ·rw [dzF h1,cQ] at q
  show if decide (1<=i)=true then _ else _
  rw[dzF h1]
  exact q
theorem aSg(F:Fun K "is_list_up_to" "is_list_up_to" eo_ f fd)(Ab:mg "isinstance" = none)(m_list:mg "list" = none)(Ad:mg "len" = none):FnOk P w K mg base CX0 1 f fd AU (spX gLU):=by
 refine lF F in_ (λds Q h=>by obtain⟨_,_,rfl,_⟩:=h;rfl) (by decide) λAi A outer s H E hr=>?_
 refine⟨_,(cP (cZ (vB (uW .list Ab (bE (pv 0)) (rV (v:=.ty "list") rfl m_list nN rfl)) (xN (nP lU lT lU lT cC (jV (mF K) nJ (by rfl) Ad PySem.boot_len (bF (bE (pv 0)) bV)) (bE (pv 1))))))),λds Q h=>?_⟩
 obtain⟨d,g,rfl,hd,q⟩:=h
 cases d<;>first | exact q | exact hd.elim | skip
 rename_i l
 simp only[luD]at q
 by_cases h1:1<=(l.length:Int)
 ·rw [dzT h1,bZ] at q
  show if decide (1<=(l.length:Int))=true then _ else _
  rw[if_pos (dzT h1)]
  exact q
 ·rw [dzF h1,cQ] at q
  show if decide (1<=(l.length:Int))=true then _ else _
  rw[dzF h1]
  exact q
theorem aSf(F:Fun K "is_name" "is_name" hf_ f fd)(Ab:mg "isinstance" = none)(m_str:mg "str" = none)(Ad:mg "len" = none)(Br:mg "all" = none)(A8:∃t,mg "LONGEST_NAME" = some (.int 8 t))(Al:∃t,mg "SMALL_LETTERS" = some (.str fU t)):FnOk P w K mg base CX0 1 f fd AI (spX gNM):=by
 refine lF F yA (λds Q h=>by obtain⟨_,rfl,_⟩:=h;rfl) (by decide) λAi A outer s H E hr=>?_
 refine⟨_,(cO (eC (XW.pt (qI (zB (jZ (uW .str Ab (bE (pv 0)) (rV (v:=.ty "str") rfl m_str gs_ rfl)))) (uM (zB (aBg lU lT lU lT cC (jV (mF K) nJ (by rfl) Ad PySem.boot_len (bF (bE (pv 0)) bV)) (zD (by rfl) A8)))))) (cP (cZ vA)) eJ)
  (cP (cZ (jV (kc_ K (by rfl)) zE (by rfl) Br zL (bF (dl_ (dsc:=aL hf_) (N:=AI) (tgs:=["sign"]) (outs:=[]) (N':=["sign"]) (by refine⟨rfl,?_,?_,?_,rfl,?_,?_,?_⟩<;>decide +kernel) (sF (bE (pv 0))) (λ_ _ _ _ _=>(jP (i:=0) (show(["sign"]:List Str).Nodup by decide +kernel) rfl (Or.inl rfl) (.inr rfl))) (rP (n:=1) (i:=0) (by decide)) (cz_ (by decide)) (λ_ _ _ _ _=>dw_) (λ_ _ _ _ _=>(xM eq_ jn_ (bE (pv 0)) (gd_ (by rfl) Al) (by with_unfolding_all rfl)))) bV))))),λds Q h=>?_⟩
 obtain⟨d,rfl,hd,q⟩:=h
 cases d<;>first | exact q | (simp only[Dx.Sz]at hd;done) | skip
 rename_i x
 simp only[Dx.Sz]at hd
 simp only[nmD,nmB]at q
 refine⟨by omega,?_⟩
 by_cases h1:1<=(x.length:Int)
 ·by_cases h2:(x.length:Int)≤8
  ·rw [dzT h1,dzT h2,bZ,bZ] at q
   show if decide (1<=(x.length:Int))=true then _ else _
   rw[if_pos (dzT h1)]
   show if(!decide ((x.length:Int)<=8))=true then _ else _
   rw[dzT h2]
   refine⟨show(sgX x).length<=1000000 from ?_,show eB _ _ _ _ _ (sgX x) _ _ from ?_⟩
   ·unfold sgX
    rw[aD,Array.length_toList]
    show x.length<=1000000
    omega
   ·unfold sgX
    refine du_ (λc:Nat=>Dx.str ⟨#[c]⟩) (λc=>.bl (decide (97<=c)&&decide (c<=122))) (λc hc Ah P p=>?_) ?_
    ·show P (Ah ++ [Dx.bl (!(Builtin.Str.occurrences ("abcdefghijklmnopqrstuvwxyz" : Str) ⟨#[c]⟩ 0 ("abcdefghijklmnopqrstuvwxyz" : Str).length 1).isEmpty)]) _
     rw[aLk]
     exact p
    ·rw [aZ]
     refine⟨x.cps.toList.map λc=>(decide (97<=c)&&decide (c<=122)),by rw[cK];rfl,?_⟩
     rw[gN]
     exact q
  ·rw [dzT h1,dzF h2,bZ,cQ] at q
   show if decide (1<=(x.length:Int))=true then _ else _
   rw[if_pos (dzT h1)]
   show if(!decide ((x.length:Int)<=8))=true then _ else _
   rw[dzF h2]
   exact q
 ·rw [dzF h1,cQ,cQ] at q
  show if decide (1<=(x.length:Int))=true then _ else _
  rw[dzF h1]
  exact q
theorem aSk(F:Fun K "has_form" "has_form" ia_ f fd)(Ab:mg "isinstance" = none)(m_tuple:mg "tuple" = none)(m_str:mg "str" = none)(Ad:mg "len" = none):FnOk P w K mg base CX0 1 f fd AN (spX gHF):=by
 refine lF F vR (λds Q h=>by obtain⟨_,_,_,rfl,_⟩:=h;rfl) (by decide) λAi A outer s H E hr=>?_
 have Am:=iT hr
 have Aj:=aM Am
 refine⟨_,(cO (eC (XW.pt (qI (zB (jZ (uW .tuple Ab (bE (pv 0)) (rV (v:=.ty "tuple") rfl m_tuple hr_ rfl)))) (uM (dW (hh_ K Aj) lC (jV (mF K) nJ (by rfl) Ad PySem.boot_len (bF (bE (pv 0)) bV)) (bE (pv 2)) (bD _))))) (cP (cZ vA)) eJ)
  (cP (cZ (vB (uW .str Ab (gJ K (pv 0)) (rV (v:=.ty "str") rfl m_str gs_ rfl)) (xN (xM (iJ K Aj) iP (gJ K (pv 0)) (bE (pv 1)) (bD _))))))),λds Q h=>?_⟩
 clear Aj Am
 obtain⟨d,w,n,rfl,hd,hn,q⟩:=h
 cases d<;>first | exact q | (simp only[Dx.Sz]at hd;done) | skip
 rename_i l
 simp only[Dx.Sz]at hd
 show if(!decide ((l.length:Int)=n))=true then _ else _
 by_cases hl:(l.length:Int)=n
 ·rw [dzT hl]
  cases l with
  |nil=>rw[<-hl]at hn;exact absurd hn (by decide)
  |cons a r =>
   have ha:=hd.2.1
   show aBs (xIs Ty.str (xOp ixX (bW 0) (xC (.int 0)))) (xOp eqX (xOp ixX (bW 0) (xC (.int 0))) (bW 1)) [vT (.tup (a::r)),vT (.str w),vT (.int n)] _
   refine aLx (aYx (aFp (l:=a::r) (i:=0) (j:=0) (d:=a) rfl rfl ?_))
   cases a<;>first | exact q | (simp only[Dx.Sz]at ha;done) | skip
   rename_i z
   simp only[hfD]at q
   rw[dzT (show((r.length+1:Nat):Int)=n from hl),bZ]at q
   show xOp eqX (xOp ixX (bW 0) (xC (.int 0))) (bW 1) [vT (.tup (.str z::r)),vT (.str w),vT (.int n)] _
   refine rK (aFp (l:=.str z::r) (i:=0) (j:=0) (d:=.str z) rfl rfl ?_)
   exact q
 ·rw [dzF hl]
  have:hfD (.tup l) w n=false:=by
   cases l with
   |nil=>rfl
   |cons a r =>
    cases a<;>first | rfl | skip
    show(decide (((r.length+1:Nat):Int)=n)&&_)=false
    rw[dzF (show ¬((r.length+1:Nat):Int)=n from hl)]
    rfl
  rw[this]at q
  exact q
theorem aSp(F:Fun K "are_kinds" "are_kinds" ep_ f fd)(Fp:Cal P w K mg base j "is_kind_within" AJ (spX (gKW n)))(Br:mg "all" = none):FnOk P w K mg base CX0 (j+1) f fd AD (spX (gAK n)):=by
 refine lF F sU (λds Q h=>by obtain⟨_,rfl,_⟩:=h;rfl) (by decide) λAi A outer s H E hr=>?_
 refine⟨_,(cP (cZ (jV (kc_ K (by rfl)) zE (by rfl) Br zL (bF (dl_ (dsc:=aL ep_) (N:=AD) (tgs:=AI) (outs:=[1]) (N':=AJ) (by refine⟨rfl,?_,?_,?_,rfl,?_,?_,?_⟩<;>decide +kernel) (ey_ (bE (pv 0))) (λ_ _ _ _ _=>(jP (i:=0) (show(["thing","depth"]:List Str).Nodup by decide +kernel) rfl (Or.inl rfl) (.inr rfl))) (rP (n:=1) (i:=0) (by decide)) (cz_ (by decide)) (λ_ _ _ _ _=>dw_) (λ_ _ _ _ _=>(fH Fp (hr.mono (by omega)) (bF (bE (pv 0)) (bF (bE (pv 1)) bV))))) bV)))),λds Q h=>?_⟩
 obtain⟨l,rfl,hd,q⟩:=h
 simp only[Dx.Sz]at hd
 refine⟨show l.length<=1000000 by omega,show eB _ _ _ _ _ l _ _ from ?_⟩
 rw[show l=l.map (λd:Dx=>d)from(List.map_id' l).symm]
 refine du_ (λd:Dx=>d) (λd=>.bl (ikN n d)) (λd hm Ah P p=>⟨d,rfl,mU hd.2 hm,p⟩) ?_
 rw[aZ]
 refine⟨l.map (ikN n),by rw[cK];rfl,?_⟩
 rw[gN]
 exact q
theorem v_(seen:List Str)(x:Str):(lN (seen.map λy=>((Sum.inr y,.bl true):Key×Dx)) (Sum.inr x)).isSome=decide (x∈seen):=by
 induction seen with
 |nil=>rfl
 |cons y r ih =>
  by_cases h:y=x
  ·subst h
   rw[dzT aA]
   simp[lN]
  ·have e:lN ((y :: r).map fun y=>((Sum.inr y,.bl true):Key×Dx)) (Sum.inr x)=lN (r.map fun y=>((Sum.inr y,.bl true):Key×Dx)) (Sum.inr x):=by
    simp[lN,h]
   rw[e,ih]
   congr 1
   simp[aI,show ¬x=y from λz=>h z.symm]
theorem aCf:∀{l:List Dx},(∀d∈l,d.Sz)->szX l
 | [],_=>trivial
 |d::l,h=>⟨h d aA,aCf λe he=>h e (aB _ he)⟩
theorem k9:∀{l:List Dx} {seen:List Str},iO seen l=true->∀d∈l,∃a b,d=.tup [a,b]
 | [],_,_,d,hm=>by simp at hm
 |e::r,seen,h,d,hm=>by
  unfold iO at h
  split at h
  ·rename_i h0;cases h0
  ·rename_i x b r' h0
   cases h0
   rcases aI.mp hm with rfl | hm
   ·exact⟨_,_,rfl⟩
   ·rw [bY] at h
    exact k9 h.2 d hm
  ·cases h
theorem aUb{a b:Dx}{r:List Dx}{seen:List Str}(h:nmD a=false):iO seen (.tup [a,b]::r)=false:=by
 cases a<;>first | rfl | skip
 simp only[iO]
 rw[show nmB _=false from h]
 rfl
theorem aMj{t r:List Dx}{seen:List Str}(h:¬(t.length:Int)=2):iO seen (.tup t::r)=false:=by
 unfold iO
 split
 ·rename_i h0;cases h0
 ·rename_i x b r' h0
  cases h0
  exact absurd rfl h
 ·rfl
theorem aSq(F:Fun K "are_fields" "are_fields" dt_ f fd)(Hw:Cal P w K mg base 1 "is_name" AI (spX gNM))(Jq:Cal P w K mg base j "are_kinds" AD (spX (gAK n)))(Ab:mg "isinstance" = none)(m_tuple:mg "tuple" = none)(Ad:mg "len" = none)(hj:1<=j):FnOk P w K mg base CX0 (j+1) f fd AD (spX (gAF n)):=by
 refine lF F iM (λds Q h=>by obtain⟨_,rfl,_⟩:=h;rfl) (by decide) λAi A outer s H E hr=>?_
 have Am:=iT hr
 have Aj:=aM Am
 refine⟨_,(cO (gA (i:=2) iM.nd rfl (Or.inl rfl) zW)
  (cO (hc_ PassesOwn.never rfl (ey_ (bE (pv 0))) (jP (i:=3) iM.nd rfl (Or.inl rfl)) (rP (n:=99) (i:=3) (by decide)) (cO (eC (XW.pt (qI (zB (jZ (uW .tuple Ab (bE (pv 3)) (rV (v:=.ty "tuple") rfl m_tuple hr_ rfl)))) (uM (dW (hh_ K Aj) lC (jV (mF K) nJ (by rfl) Ad PySem.boot_len (bF (bE (pv 3)) bV)) cC (bD _))))) (cP (cZ vA)) eJ)
  (cO (eC (XW.pt (qI (zB (jZ (fH Hw (hr.mono (by omega)) (bF (gJ K (pv 3)) bV)))) (uM (aBf Am (gJ K (pv 3)) (pv 2) (by with_unfolding_all rfl))))) (cP (cZ vA)) eJ)
  (cP (kD λF=>PS.weak (aJh Am (pv 2) (XE.at (Ex:=fZ) F (gJ K (pv 3))) (XE.at (Ex:=fZ) F vA) rfl) aIs)))))
  (cP (cZ (fH Jq (hr.mono (by omega)) (bF (dl_ (dsc:=aL dt_) (N:=["things","depth","names","thing"]) (tgs:=AI) (outs:=[]) (N':=AI) (by refine⟨rfl,?_,?_,?_,rfl,?_,?_,?_⟩<;>decide +kernel) (ey_ (bE (pv 0))) (λ_ _ _ _ _=>(jP (i:=0) (show(["thing"]:List Str).Nodup by decide +kernel) rfl (Or.inl rfl) (.inr rfl))) (rP (n:=1) (i:=0) (by decide)) (cz_ (by decide)) (λ_ _ _ _ _=>dw_) (λ_ _ _ _ _=>(gJ K (pv 0)))) (bF (bE (pv 1)) bV))))))),λds Q h=>?_⟩
 clear Aj Am hj
 obtain⟨l,rfl,hd,q⟩:=h
 simp only[Dx.Sz]at hd
 refine nK ?_
 change cL _ _ [vT (.lst l),vT (.int (n:Int)),.v (.od []),.un] _
 refine zC (λρ=>iO [] l=true/\∃(y2 y3:Sl),ρ=[vT (.lst l),vT (.int (n:Int)),y2,y3]) ?_ (λnx Cb=>?_)
 ·rintro ρ ⟨hf,y2,y3,rfl⟩
  rw[hf,bZ]at q
  refine⟨show l.length<=1000000 by omega,show eB _ _ _ _ _ l _ _ from ?_⟩
  have Cd:=k9 hf
  rw[show l=l.map (λd:Dx=>d)from(List.map_id' l).symm]
  refine du_ (λd:Dx=>d) aCj (λd hm Ah P p=>?_) ?_
  ·obtain ⟨a,b,rfl⟩:=Cd d hm
   exact p
  ·rw [aZ]
   refine⟨l.map aCj,rfl,?_,?_⟩
   ·simp only [Dx.Sz]
    refine⟨by rw[aD];omega,aCf λd hm=>?_⟩
    obtain⟨t,ht,rfl⟩:=cJ.mp hm
    obtain⟨a,b,rfl⟩:=Cd t ht
    have:=mU hd.2 ht
    simp only[Dx.Sz,szX]at this
    exact this.2.2.1
   ·rw [gN]
    exact q
 ·have hq:iO [] l=false→Q (.tr (.bl false)):=fun hf=>by rw [hf,cQ] at q; exact q
  show iR _ _ _ l _
  refine wP (λrest ρ=>∃(seen:List Str) (y3:Sl),iO [] l=iO seen rest/\(∀d∈rest,d.Sz)/\seen.length+rest.length=l.length/\ρ=[vT (.lst l),vT (.int (n:Int)),.v (.od (seen.map λx=>(Sum.inr x,.bl true))),y3]) (λρ h=>?_) (λd rest ρ Kn h hk=>?_) ⟨[],.un,rfl,λd hm=>mU hd.2 hm,by simp,rfl⟩
  ·obtain ⟨seen,y3,e1,_,_,rfl⟩:=h
   exact Cb _ ⟨by rw[e1];simp only[iO],_,_,rfl⟩
  ·obtain ⟨seen,y3,e1,hsz,K3,rfl⟩:=h
   have Li:=hsz d aA
   rw[aE]at K3
   cases d with
   |tup t =>
    simp only[Dx.Sz]at Li
    show if(!decide ((t.length:Int)=2))=true then _ else _
    by_cases ht:(t.length:Int)=2
    ·rw [dzT ht]
     obtain⟨a,b,rfl⟩:∃a b,t=[a,b]:=by
      match t,ht with
      | [a,b],_=>exact⟨a,b,rfl⟩
     have ha:=Li.2.1
     refine⟨a,rfl,ha,?_⟩
     cases hn:nmD a with
     |false =>
      refine hq ?_
      rw[e1]
      exact aUb hn
     |true =>
      obtain⟨x,rfl⟩:∃x,a=.str x:=by
       cases a<;>first | exact⟨_,rfl⟩ | (simp only[nmD]at hn;cases hn)
      show if((lN (seen.map λx=>((Sum.inr x,.bl true):Key×Dx)) (Sum.inr x)).isSome)=true then _ else _
      rw[v_]
      by_cases hx:x∈seen
      ·rw [dzT hx]
       refine hq ?_
       rw[e1]
       simp only[iO]
       rw[dzT hx]
       simp
      ·rw [dzF hx]
       have Ej:(Sum.inr x:Key)∉(seen.map λx=>((Sum.inr x,.bl true):Key×Dx)).map (·.1):=by
        rw[cK]
        intro z
        obtain⟨y,hy,e⟩:=cJ.mp z
        exact hx ((Sum.inr.inj e) ▸ hy)
       refine⟨⟨_,rfl⟩,show(seen.map _).length<1000000 by rw[aD];omega,?_⟩
       refine hk _ ⟨seen++[x],vT (.tup [.str x,b]),?_,λd hm=>hsz d (aB _ hm),by rw[aC,bT];omega,?_⟩
       ·rw [e1]
        simp only[iO]
        rw[dzF hx,show nmB x=true from hn]
        simp
       ·rw [bM,aO,dG,← aDd Ej]
        rfl
    ·rw [dzF ht]
     refine hq ?_
     rw[e1]
     exact aMj ht
   |_=>first | exact hq (by rw[e1];rfl) | (simp only[Dx.Sz]at Li;done)
theorem aFa(F:Fun K "is_kind_within" "is_kind_within" cj_ f fd)(Ew:Cal P w K mg base 1 "has_form" AN (spX gHF))(Ge:Cal P w K mg base 2 "is_whole_up_to" AR (spX gWU))(Gf:Cal P w K mg base 1 "is_list_up_to" AU (spX gLU))(Gh:Cal P w K mg base 1 "is_whole" AI (spX gWB))(Fp:Cal P w K mg base j "is_kind_within" AJ (spX gNo))(Jr:Cal P w K mg base j "are_fields" AD (spX gNo))(Jq:Cal P w K mg base j "are_kinds" AD (spX gNo))(Aq:∃t,mg "WIDEST_NUMBER" = some (.int 8 t))(Aw:∃t,mg "LONGEST_ROW" = some (.int 20 t))(Av:∃t,mg "MOST_FIELDS" = some (.int 8 t))(Ar:∃t,mg "MOST_CHOICES" = some (.int 6 t))(B1:∃c,mg "MULTIPLES" = some (.ref c)/\∀H,SqT K H c [.int 1,.int 2,.int 4,.int 8])(hj:2<=j):FnOk P w K mg base CX0 (j+1) f fd AJ (spX (gKW 0)):=by
 refine lF F fe_ (λds Q h=>by obtain⟨_,rfl,_⟩:=h;rfl) (by decide) λAi A outer s H E hr=>?_
 have Am:=iT hr
 have Aj:=aM Am
 refine⟨_,(cO (eC (dW xJ xL (bE (pv 1)) cC (bD _)) (cP (cZ vA)) eJ)
  (cO (eC (jZ (fH Ew (hr.mono (by omega)) (bF (bE (pv 0)) (bF dL (bF cC bV))))) (cP (cZ (vB (fH Ge (hr.mono (by omega)) (bF (gJ K (pv 0)) (bF (zD (by rfl) Aq) bV))) (vB (fH Gh (hr.mono (by omega)) (bF (gJ K (pv 0)) bV)) (xN (aBl K [.int 1,.int 2,.int 4,.int 8] (gJ K (pv 0)) (by rfl) B1)))))) eJ)
  (cO (eC (jZ (fH Ew (hr.mono (by omega)) (bF (bE (pv 0)) (bF dL (bF cC bV))))) (cP (cZ (vB (fH Ge (hr.mono (by omega)) (bF (gJ K (pv 0)) (bF (zD (by rfl) Aw) bV))) (xN (fH Fp (hr.mono (by omega)) (bF (gJ K (pv 0)) (bF (zA (bE (pv 1)) cC) bV))))))) eJ)
  (cO (eC (jZ (fH Ew (hr.mono (by omega)) (bF (bE (pv 0)) (bF dL (bF cC bV))))) (cP (cZ (vB (fH Gf (hr.mono (by omega)) (bF (gJ K (pv 0)) (bF (zD (by rfl) Av) bV))) (xN (fH Jr (hr.mono (by omega)) (bF (gJ K (pv 0)) (bF (zA (bE (pv 1)) cC) bV))))))) eJ)
  (cO (eC (jZ (fH Ew (hr.mono (by omega)) (bF (bE (pv 0)) (bF dL (bF cC bV))))) (cP (cZ (vB (fH Gf (hr.mono (by omega)) (bF (gJ K (pv 0)) (bF (zD (by rfl) Ar) bV))) (xN (fH Jq (hr.mono (by omega)) (bF (gJ K (pv 0)) (bF (zA (bE (pv 1)) cC) bV))))))) eJ)
  (cP (cZ vA))))))),λds Q h=>?_⟩
 clear Aj Am hj
 obtain⟨d,rfl,hs,q⟩:=h
 have:ikN 0 d=false:=by cases d<;>rfl
 rw[this]at q
 exact q
theorem hf3{w k:Str}{x y:Dx}:hfD (.tup [.str w,x,y]) k 3=decide (w=k):=by simp[hfD]
theorem hf2{w k:Str}{x:Dx}:hfD (.tup [.str w,x]) k 2=decide (w=k):=by simp[hfD]
theorem hf0{w k:Str}{r:List Dx}{n:Int}(h:((r.length+1:Nat):Int)≠n):hfD (.tup (.str w::r)) k n=false:=by simp only[hfD];rw[dzF h];rfl
theorem aSh(F:Fun K "is_kind_within" "is_kind_within" cj_ f fd)(Ew:Cal P w K mg base 1 "has_form" AN (spX gHF))(Ge:Cal P w K mg base 2 "is_whole_up_to" AR (spX gWU))(Gf:Cal P w K mg base 1 "is_list_up_to" AU (spX gLU))(Gh:Cal P w K mg base 1 "is_whole" AI (spX gWB))(Fp:Cal P w K mg base j "is_kind_within" AJ (spX (gKW n)))(Jr:Cal P w K mg base j "are_fields" AD (spX (gAF n)))(Jq:Cal P w K mg base j "are_kinds" AD (spX (gAK n)))(Aq:∃t,mg "WIDEST_NUMBER" = some (.int 8 t))(Aw:∃t,mg "LONGEST_ROW" = some (.int 20 t))(Av:∃t,mg "MOST_FIELDS" = some (.int 8 t))(Ar:∃t,mg "MOST_CHOICES" = some (.int 6 t))(B1:∃c,mg "MULTIPLES" = some (.ref c)/\∀H,SqT K H c [.int 1,.int 2,.int 4,.int 8])(hj:2<=j):FnOk P w K mg base CX0 (j+1) f fd AJ (spX (gKW (n+1))):=by
 refine lF F fe_ (λds Q h=>by obtain⟨_,rfl,_⟩:=h;rfl) (by decide) λAi A outer s H E hr=>?_
 have Am:=iT hr
 have Aj:=aM Am
 refine⟨_,(cO (eC (dW xJ xL (bE (pv 1)) cC (bD _)) (cP (cZ vA)) eJ)
  (cO (eC (jZ (fH Ew (hr.mono (by omega)) (bF (bE (pv 0)) (bF dL (bF cC bV))))) (cP (cZ (vB (fH Ge (hr.mono (by omega)) (bF (gJ K (pv 0)) (bF (zD (by rfl) Aq) bV))) (vB (fH Gh (hr.mono (by omega)) (bF (gJ K (pv 0)) bV)) (xN (aBl K [.int 1,.int 2,.int 4,.int 8] (gJ K (pv 0)) (by rfl) B1)))))) eJ)
  (cO (eC (jZ (fH Ew (hr.mono (by omega)) (bF (bE (pv 0)) (bF dL (bF cC bV))))) (cP (cZ (vB (fH Ge (hr.mono (by omega)) (bF (gJ K (pv 0)) (bF (zD (by rfl) Aw) bV))) (xN (fH Fp (hr.mono (by omega)) (bF (gJ K (pv 0)) (bF (zA (bE (pv 1)) cC) bV))))))) eJ)
  (cO (eC (jZ (fH Ew (hr.mono (by omega)) (bF (bE (pv 0)) (bF dL (bF cC bV))))) (cP (cZ (vB (fH Gf (hr.mono (by omega)) (bF (gJ K (pv 0)) (bF (zD (by rfl) Av) bV))) (xN (fH Jr (hr.mono (by omega)) (bF (gJ K (pv 0)) (bF (zA (bE (pv 1)) cC) bV))))))) eJ)
  (cO (eC (jZ (fH Ew (hr.mono (by omega)) (bF (bE (pv 0)) (bF dL (bF cC bV))))) (cP (cZ (vB (fH Gf (hr.mono (by omega)) (bF (gJ K (pv 0)) (bF (zD (by rfl) Ar) bV))) (xN (fH Jq (hr.mono (by omega)) (bF (gJ K (pv 0)) (bF (zA (bE (pv 1)) cC) bV))))))) eJ)
  (cP (cZ vA))))))),λds Q h=>?_⟩
 clear Aj Am hj
 obtain⟨d,rfl,hs,q⟩:=h
 have Em:((n+1:Nat):Int)-1=(n:Int):=by omega
 cases d with
 |tup t =>
  cases t with
  |nil=>exact⟨_,_,_,rfl,hs,by decide,⟨_,_,_,rfl,hs,by decide,⟨_,_,_,rfl,hs,by decide,⟨_,_,_,rfl,hs,by decide,q⟩⟩⟩⟩
  |cons a r =>
   cases a with
   |str w =>
    have hsz:=hs
    simp only[Dx.Sz,szX]at hsz
    match r,hs,hsz,q with
    | [],hs,_,q=>exact⟨_,_,_,rfl,hs,by decide,⟨_,_,_,rfl,hs,by decide,⟨_,_,_,rfl,hs,by decide,⟨_,_,_,rfl,hs,by decide,q⟩⟩⟩⟩
    | [x],hs,hsz,q =>
     refine⟨_,_,_,rfl,hs,by decide,⟨_,_,_,rfl,hs,by decide,⟨_,_,_,rfl,hs,by decide,?_⟩⟩⟩
     show if hfD (.tup [.str w,x]) "record" 2=true then _ else _
     rw[hf2]
     simp only[ikN]at q
     by_cases h1:w=("record" : Str)
     ·rw [if_pos h1] at q
      rw[dzT h1]
      refine⟨x,8,rfl,vK hsz.2.2.1,?_⟩
      cases hl:luD x 8 with
      |false=>rw[hl,cQ]at q;exact q
      |true =>
       rw[hl,bZ]at q
       cases x with
       |lst l =>
        refine⟨l,?_,hsz.2.2.1,q⟩
        show [Dx.lst l,Dx.int (((n+1:Nat):Int)-1)]=_
        rw[Em]
       |_=>simp only[luD]at hl;cases hl
     ·rw [if_neg h1] at q
      rw[dzF h1]
      refine⟨_,_,_,rfl,hs,by decide,?_⟩
      show if hfD (.tup [.str w,x]) "choice" 2=true then _ else _
      rw[hf2]
      by_cases h2:w=("choice" : Str)
      ·rw [if_pos h2] at q
       rw[dzT h2]
       refine⟨x,6,rfl,vK hsz.2.2.1,?_⟩
       cases hl:luD x 6 with
       |false=>rw[hl,cQ]at q;exact q
       |true =>
        rw[hl,bZ]at q
        cases x with
        |lst l =>
         refine⟨l,?_,hsz.2.2.1,q⟩
         show [Dx.lst l,Dx.int (((n+1:Nat):Int)-1)]=_
         rw[Em]
        |_=>simp only[luD]at hl;cases hl
      ·rw [if_neg h2] at q
       rw[dzF h2]
       exact q
    | [x,y],hs,hsz,q =>
     refine⟨_,_,_,rfl,hs,by decide,?_⟩
     show if hfD (.tup [.str w,x,y]) "number" 3=true then _ else _
     rw[hf3]
     simp only[ikN]at q
     by_cases h1:w=("number" : Str)
     ·rw [if_pos h1] at q
      rw[dzT h1]
      refine⟨x,8,rfl,vK hsz.2.2.1,?_⟩
      cases hl:wuD x 8 with
      |false=>rw[hl,cQ,cQ]at q;exact q
      |true =>
       rw[hl,bZ]at q
       refine⟨y,rfl,vK hsz.2.2.2.1,?_⟩
       cases y with
       |int i=>exact q
       |_=>exact q
     ·rw [if_neg h1] at q
      rw[dzF h1]
      refine⟨_,_,_,rfl,hs,by decide,?_⟩
      show if hfD (.tup [.str w,x,y]) "row" 3=true then _ else _
      rw[hf3]
      by_cases h2:w=("row" : Str)
      ·rw [if_pos h2] at q
       rw[dzT h2]
       refine⟨y,20,rfl,vK hsz.2.2.2.1,?_⟩
       cases hl:wuD y 20 with
       |false=>rw[hl,cQ]at q;exact q
       |true =>
        rw[hl,bZ]at q
        refine⟨x,?_,hsz.2.2.1,q⟩
        show [x,Dx.int (((n+1:Nat):Int)-1)]=_
        rw[Em]
      ·rw [if_neg h2] at q
       rw[dzF h2]
       exact⟨_,_,_,rfl,hs,by decide,⟨_,_,_,rfl,hs,by decide,q⟩⟩
    |x::y::z::s,hs,hsz,q =>
     have e3:∀k,hfD (.tup (.str w::x::y::z::s)) k 3=false:=λk=>hf0 (by simp only[aE];omega)
     have e2:∀k,hfD (.tup (.str w::x::y::z::s)) k 2=false:=λk=>hf0 (by simp only[aE];omega)
     refine⟨_,_,_,rfl,hs,by decide,?_⟩
     show if hfD (.tup (.str w::x::y::z::s)) "number" 3=true then _ else _
     rw[e3]
     refine⟨_,_,_,rfl,hs,by decide,?_⟩
     show if hfD (.tup (.str w::x::y::z::s)) "row" 3=true then _ else _
     rw[e3]
     refine⟨_,_,_,rfl,hs,by decide,?_⟩
     show if hfD (.tup (.str w::x::y::z::s)) "record" 2=true then _ else _
     rw[e2]
     refine⟨_,_,_,rfl,hs,by decide,?_⟩
     show if hfD (.tup (.str w::x::y::z::s)) "choice" 2=true then _ else _
     rw[e2]
     exact q
   |_=>exact⟨_,_,_,rfl,hs,by decide,⟨_,_,_,rfl,hs,by decide,⟨_,_,_,rfl,hs,by decide,⟨_,_,_,rfl,hs,by decide,q⟩⟩⟩⟩
 |_=>exact⟨_,_,_,rfl,hs,by decide,⟨_,_,_,rfl,hs,by decide,⟨_,_,_,rfl,hs,by decide,⟨_,_,_,rfl,hs,by decide,q⟩⟩⟩⟩
theorem aSj(F:Fun K "is_kind" "is_kind" jk_ f fd)(Fp:Cal P w K mg base j "is_kind_within" AJ (spX (gKW 5)))(Bl:∃t,mg "DEEPEST" = some (.int 5 t)):FnOk P w K mg base CX0 (j+1) f fd AI (spX gIK):=by
 refine lF F yB (λds Q h=>by obtain⟨_,rfl,_⟩:=h;rfl) (by decide) λAi A outer s H E hr=>?_
 refine⟨_,(cP (cZ (fH Fp (hr.mono (by omega)) (bF (bE (pv 0)) (bF (zD (by rfl) Bl) bV))))),λds Q h=>?_⟩
 obtain⟨d,rfl,hs,q⟩:=h
 exact⟨d,rfl,hs,q⟩
end
theorem l8:∀{fs:List (Str×Kd)} {f:Str×Kd},kQ fs->f∈fs->f.2.Fit/\f.2.deep<=eV fs
 |g::r,f,h,hm=>by
  rcases aI.mp hm with rfl | hm
  ·exact⟨h.1.2,fB _ _⟩
  ·exact⟨(l8 h.2 hm).1,nzL (l8 h.2 hm).2 (gM _ _)⟩
theorem l7:∀{ks:List Kd} {k:Kd},kO ks->k∈ks->k.Fit/\k.deep<=eK ks
 |g::r,f,h,hm=>by
  rcases aI.mp hm with rfl | hm
  ·exact⟨h.1,fB _ _⟩
  ·exact⟨(l7 h.2 hm).1,nzL (l7 h.2 hm).2 (gM _ _)⟩
theorem pY:∀{fs:List (Str×Kd)} {m:Nat},(∀f∈fs,f.2.deep<=m)->eV fs<=m
 | [],m,_=>bP _
 |g::r,m,h=>Nat.max_le.mpr ⟨h g aA,pY λf hf=>h f (aB _ hf)⟩
theorem pW:∀{ks:List Kd} {m:Nat},(∀k∈ks,k.deep<=m)->eK ks<=m
 | [],m,_=>bP _
 |g::r,m,h=>Nat.max_le.mpr ⟨h g aA,pW λf hf=>h f (aB _ hf)⟩
theorem aSv{x:Str}(h:Nm x):nmB x=true:=by
 obtain⟨h1,h2,h3⟩:=h
 unfold nmB
 rw[fL,dzT (by omega),dzT (by omega),bZ,bZ,cG]
 intro c hc
 obtain⟨a,b⟩:=h3 c hc
 rw[dzT a,dzT b]
 rfl
theorem aFz:∀(fs:List (Str×Kd)) (seen:List Str),kQ fs->(fs.map (·.1)).Nodup->(∀f∈fs,f.1∉seen)->iO seen (xF fs)=true
 | [],_,_,_,_=>by simp only[xF,iO]
 |f::r,seen,h,hn,hs=>by
  rw[aO,cE]at hn
  simp only[xF,iO]
  rw[aSv h.1.1,dzF (hs f aA),Bool.not_false,bZ,bZ]
  refine aFz r _ h.2 hn.2 λg hg=>?_
  intro z
  rcases bL.mp z with z | z
  ·exact hs g (aB _ hg) z
  ·rw [aG] at z
   exact hn.1 (z ▸ List.mem_map_of_mem (f:=λx:Str×Kd=>x.1) hg)
theorem rM(n:Nat):∀fs:List (Str×Kd),(fs.all λf=>decide (f.2.deep<=n))=decide (eV fs<=n)
 | []=>by rw[List.all_nil];exact(dzT (bP _)).symm
 |f::r=>by
  rw[gC,rM n r,show eV (f::r)=max f.2.deep (eV r)from rfl,<-Bool.decide_and]
  exact decide_eq_decide.mpr Nat.max_le.symm
theorem rL(n:Nat):∀ks:List Kd,(ks.all λk=>decide (k.deep<=n))=decide (eK ks<=n)
 | []=>by rw[List.all_nil];exact(dzT (bP _)).symm
 |f::r=>by
  rw[gC,rL n r,show eK (f::r)=max f.deep (eK r)from rfl,<-Bool.decide_and]
  exact decide_eq_decide.mpr Nat.max_le.symm
theorem x5:∀(n:Nat) (kd:Kd),kd.Fit->ikN n kd.x=decide (kd.deep<=n)
 | 0,kd,hF=>by
  have:ikN 0 kd.x=false:=by cases kd<;>rfl
  rw[this,dzF (by have:=Kd.deep_pos kd;omega)]
 |n+1,.num w m,hF=>by
  obtain⟨a,b,c⟩:=hF
  rw[dzT (show(Kd.num w m).deep<=n+1 by show 1<=n+1;omega)]
  simp only[Kd.x,ikN,if_true,wuD,whD,inM]
  rw[dzT a,dzT b]
  rcases c with rfl | rfl | rfl | rfl<;>rfl
 |n+1,.row k m,hF=>by
  obtain⟨a,b,c⟩:=hF
  simp only[Kd.x,ikN,wuD]
  rw[if_neg (by decide),if_pos trivial,dzT b,dzT c,bZ,bZ,x5 n k a]
  exact decide_eq_decide.mpr ⟨λh=>eF h,λh=>Nat.le_of_succ_le_succ h⟩
 |n+1,.rcd fs,hF=>by
  obtain⟨f1,f2,f3,f4⟩:=hF
  have hl:(xF fs).length=fs.length:=by rw[ii_,aD]
  simp only[Kd.x,ikN,luD]
  rw[if_pos trivial,hl,dzT (by omega),dzT (by omega),bZ,bZ,aFz fs [] f1 f4 (λf _=>bS),bZ,ii_,gN]
  have:fs.all ((λt=>ikN n (aCj t)) ∘ λf=>Dx.tup [.str f.1,f.2.x])=fs.all λf=>decide (f.2.deep<=n):=by
   rw[cX,cG,cG]
   constructor
   ·intro h f hf
    rw[<-x5 n f.2 (l8 f1 hf).1]
    exact h f hf
   ·intro h f hf
    show ikN n f.2.x=true
    rw[x5 n f.2 (l8 f1 hf).1]
    exact h f hf
  rw[this,rM]
  exact decide_eq_decide.mpr ⟨λh=>eF h,λh=>Nat.le_of_succ_le_succ h⟩
 |n+1,.cho ks,hF=>by
  obtain⟨f1,f2,f3⟩:=hF
  have hl:(xK ks).length=ks.length:=by rw[go_,aD]
  simp only[Kd.x,ikN,luD]
  rw[if_neg (by decide),if_pos trivial,hl,dzT (by omega),dzT (by omega),bZ,bZ,go_,gN]
  have:ks.all ((ikN n) ∘ Kd.x)=ks.all λk=>decide (k.deep<=n):=by
   rw[cX,cG,cG]
   constructor
   ·intro h f hf
    rw[<-x5 n f (l7 f1 hf).1]
    exact h f hf
   ·intro h f hf
    show ikN n f.x=true
    rw[x5 n f (l7 f1 hf).1]
    exact h f hf
  rw[this,rL]
  exact decide_eq_decide.mpr ⟨λh=>eF h,λh=>Nat.le_of_succ_le_succ h⟩
mutual
def Kd.w:Kd->List Nat
 | .num w m=>110::(aF (cF w)++47::aF (cF m))
 | .row k n=>k.w++42::aF (cF n)
 | .rcd fs=>123::((wF fs).drop 2++[125])
 | .cho ks=>60::((wK ks).drop 2++[62])
def wF:List (Str×Kd)->List Nat
 | []=>[]
 |f::r=>44::32::(aF f.1++32::(f.2.w++wF r))
def wK:List Kd->List Nat
 | []=>[]
 |k::r=>44::32::(k.w++wK r)
end
theorem qM{n:Int}(h:0<=n)(h1:n<100):(cF n).length<=2:=aIl (k:=2) h h1 (by decide)
def Kd.ws(k:Kd):Str:=⟨k.w.toArray⟩
theorem ew_(k:Kd):aF k.ws=k.w:=by unfold Kd.ws aF;rfl
theorem nR(k:Kd):k.ws.length=k.w.length:=by rw[fL,ew_]
def wl:Nat->Nat
 | 0=>6
 | 1=>6
 |n+2=>90+8*wl (n+1)
theorem mS:∀n,wl n<=wl (n+1)/\(1<=n->wl (n+1)=90+8*wl n)
 | 0=>⟨by decide,λh=>absurd h (by decide)⟩
 |n+1=>⟨by show wl (n+1)<=90+8*wl (n+1);omega,λ_=>rfl⟩
theorem sN{a b:Nat}(h:a<=b):wl a<=wl b:=by
 induction b with
 |zero=>rw[Nat.le_zero.mp h];exact aV _
 |succ b ih =>
  by_cases e:a=b+1
  ·rw[e];exact aV _
  ·exact nzL (ih (by omega)) (mS b).1
mutual
theorem a6:∀k:Kd,k.Fit->k.w.length<=wl k.deep
 | .num w m,h=>by
  simp only[Kd.Fit]at h
  have h1:=qM (n:=w) (by omega) (by omega)
  have h2:=qM (n:=m) (by omega) (by omega)
  rw[fL]at h1 h2
  simp only[Kd.w,Kd.deep,aE,aC]
  show _<=6
  omega
 | .row k n,h=>by
  simp only[Kd.Fit]at h
  have h1:=qM (n:=n) (by omega) (by omega)
  have h2:=a6 k h.1
  have h3:=(mS k.deep).2 (jd_ k)
  rw[fL]at h1
  simp only[Kd.w,Kd.deep,aE,aC]
  omega
 | .rcd fs,h=>by
  simp only[Kd.Fit]at h
  have h2:=aBw fs (eV fs) h.1 (aV _)
  have h4:=gG (11+wl (eV fs)) h.2.2.1
  have h1:1<=eV fs:=by
   cases fs with
   |nil=>exact absurd h.2.1 (by decide)
   |cons f r=>exact nzL (jd_ f.2) (fB _ _)
  have h3:=(mS (eV fs)).2 h1
  simp only[Kd.w,Kd.deep,aE,aC,aY,bJ]
  omega
 | .cho ks,h=>by
  simp only[Kd.Fit]at h
  have h2:=aBt ks (eK ks) h.1 (aV _)
  have h4:=gG (11+wl (eK ks)) (nzL h.2.2 (by decide:6<=8))
  have h1:1<=eK ks:=by
   cases ks with
   |nil=>exact absurd h.2.1 (by decide)
   |cons f r=>exact nzL (jd_ f) (fB _ _)
  have h3:=(mS (eK ks)).2 h1
  simp only[Kd.w,Kd.deep,aE,aC,aY,bJ]
  omega
theorem aBw:∀(fs:List (Str×Kd)) (D:Nat),kQ fs->eV fs<=D->(wF fs).length<=fs.length*(11+wl D)
 | [],D,_,_=>by simp[wF]
 |f::r,D,h,hd=>by
  simp only[kQ]at h
  simp only[eV]at hd
  have h1:=a6 f.2 h.1.2
  have h2:=sN (a:=f.2.deep) (b:=D) (by omega)
  have h3:=aBw r D h.2 (by omega)
  have h4:=h.1.1.2.1
  simp only[wF,aE,aC]
  rw[Nat.add_mul,Nat.one_mul]
  omega
theorem aBt:∀(ks:List Kd) (D:Nat),kO ks->eK ks<=D->(wK ks).length<=ks.length*(11+wl D)
 | [],D,_,_=>by simp[wK]
 |k::r,D,h,hd=>by
  simp only[kO]at h
  simp only[eK]at hd
  have h1:=a6 k h.1
  have h2:=sN (a:=k.deep) (b:=D) (by omega)
  have h3:=aBt r D h.2 (by omega)
  simp only[wK,aE,aC]
  rw[Nat.add_mul,Nat.one_mul]
  omega
end
theorem vE{k:Kd}(h:k.Fit)(hd:k.deep<=5):k.w.length<=80000:=nzL (a6 k h) (nzL (sN hd) (by decide))
theorem gw_:∀fs:List (Str×Kd),wF fs=(fs.map λf=>44::32::(aF f.1++32::f.2.w)).flatten
 | []=>rfl
 |f::r=>by simp only[wF,aO,dR,gw_ r,aU,aK]
theorem gv_:∀ks:List Kd,wK ks=(ks.map λk=>44::32::k.w).flatten
 | []=>rfl
 |k::r=>by simp only[wK,aO,dR,gv_ r,aU,aK]
theorem aSt(v m:Int):("n" ++ cF v ++ "/" ++ cF m:Str)=(Kd.num v m).ws:=qQ (by
 rw[ew_,lP,lP,lP,show aF "n" = [110]from by decide,show aF "/" = [47]from by decide]
 simp only[Kd.w,aU,aZ,aK])
theorem aQr(k:Kd)(m:Int):(k.ws ++ "*" ++ cF m:Str)=(Kd.row k m).ws:=qQ (by
 rw[ew_,lP,lP,ew_,show aF "*" = [42]from by decide]
 simp only[Kd.w,aU,aZ,aK])
def gSW(n:Nat):GC:=λds Q=>∃k:Kd,ds=[k.x]/\k.Fit/\k.deep<=n/\n<=5/\Q (.tr (.str k.ws))
theorem aIk(fs:List (Str×Kd))(f:Str×Kd):wF (fs++[f])=wF fs++44::32::(aF f.1++32::f.2.w):=by
 rw[gw_,gw_,bM,gR]
 simp
theorem aIj(ks:List Kd)(k:Kd):wK (ks++[k])=wK ks++44::32::k.w:=by
 rw[gv_,gv_,bM,gR]
 simp
theorem aQa(a b:List (Str×Kd)):wF (a++b)=wF a++wF b:=by rw[gw_,gw_,gw_,bM,gR]
theorem aPz(a b:List Kd):wK (a++b)=wK a++wK b:=by rw[gv_,gv_,gv_,bM,gR]
theorem aJc{fs:List (Str×Kd)}(h:fs≠[]):("{" ++ Txt.slice (tS (wF fs)) (some 2) none ++ "}" : Str)=(Kd.rcd fs).ws:=qQ (by
 cases fs with
 |nil=>exact absurd rfl h
 |cons f r =>
 have hl:2<=(wF (f::r)).length:=by simp only[wF,aE];omega
 rw[ew_,lP,lP,qB (by decide) (by rw[ec_];omega),ec_,show aF "{" = [123]from by decide,show aF "}" = [125]from by decide]
 simp only[Kd.w,aU,aZ]
 rfl)
theorem aMz{ks:List Kd}(h:ks≠[]):("<" ++ Txt.slice (tS (wK ks)) (some 2) none ++ ">" : Str)=(Kd.cho ks).ws:=qQ (by
 cases ks with
 |nil=>exact absurd rfl h
 |cons f r =>
 have hl:2<=(wK (f::r)).length:=by simp only[wK,aE];omega
 rw[ew_,lP,lP,qB (by decide) (by rw[ec_];omega),ec_,show aF "<" = [60]from by decide,show aF ">" = [62]from by decide]
 simp only[Kd.w,aU,aZ]
 rfl)
section
variable{f:Addr}{n j:Nat}
theorem aRy(F:Fun K "_law_kind_written" "_law_kind_written" cl_ f fd)(Hc:Cal P w K mg base j "_law_kind_written" AX (spX (gSW n)))(m_str:mg "str" = none):FnOk P w K mg base CX0 (j+1) f fd AX (spX (gSW (n+1))):=by
 refine lF F dJ (λds Q h=>by obtain⟨_,rfl,_⟩:=h;rfl) (by decide) λAi A outer s H E hr=>?_
 have Am:=iT hr
 have Aj:=aM Am
 refine⟨_,(cO (eC (dW (iJ K Aj) iP (gJ K (pv 0)) dL (bD _)) (cP (cZ (eZ (eZ (eZ dL (zK jT uN (by rfl) m_str gs_ (bF (gJ K (pv 0)) bV))) dL) (zK jT uN (by rfl) m_str gs_ (bF (gJ K (pv 0)) bV))))) eJ)
  (cO (eC (dW (iJ K Aj) iP (gJ K (pv 0)) dL (bD _)) (cP (cZ (eZ (eZ (fH Hc (hr.mono (by omega)) (bF (gJ K (pv 0)) bV)) dL) (zK jT uN (by rfl) m_str gs_ (bF (gJ K (pv 0)) bV))))) eJ)
  (cO (gA (i:=1) dJ.nd rfl (Or.inl rfl) dL)
  (cO (hc_ PassesOwn.never rfl (ey_ (gJ K (pv 0))) (jP (i:=2) dJ.nd rfl (Or.inl rfl)) (rP (n:=99) (i:=2) (by decide)) (cP (eC (dW (iJ K Aj) iP (gJ K (pv 0)) dL (bD _)) (cP (gA (i:=1) dJ.nd rfl (Or.inl rfl) (eZ (eZ (eZ (eZ (bE (pv 1)) dL) (gJ K (pv 2))) dL) (fH Hc (hr.mono (by omega)) (bF (gJ K (pv 2)) bV))))) (cP (gA (i:=1) dJ.nd rfl (Or.inl rfl) (eZ (eZ (bE (pv 1)) dL) (fH Hc (hr.mono (by omega)) (bF (bE (pv 2)) bV))))))))
  (cO (eC (dW (iJ K Aj) iP (gJ K (pv 0)) dL (bD _)) (cP (cZ (eZ (eZ dL (kX K (bE (pv 1)) (jQ cC) mK)) dL))) eJ)
  (cP (cZ (eZ (eZ dL (kX K (bE (pv 1)) (jQ cC) mK)) dL)))))))),λds Q h=>?_⟩
 clear Aj Am
 obtain⟨k,rfl,hF,hd,hn5,q⟩:=h
 have Ak:=vE hF (by omega)
 have hq:=nR
 cases k with
 |num v m =>
  simp only[Kd.Fit]at hF
  have h1:=qM (n:=v) (by omega) (by omega)
  have h2:=qM (n:=m) (by omega) (by omega)
  rw[<-aSt]at q
  refine⟨v,rfl,by omega,by omega,(by show 1+(cF v).length<=1000000;omega),?_⟩
  refine⟨(by show("n" ++ cF v:Str).length+1<=1000000;rw[kI];show 1+_+1<=_;omega),m,rfl,by omega,by omega,(by show("n" ++ cF v ++ "/" : Str).length+(cF m).length<=1000000;rw[kI,kI];show 1+_+1+_<=_;omega),q⟩
 |row k m =>
  simp only[Kd.Fit]at hF
  simp only[Kd.deep]at hd
  have h2:=qM (n:=m) (by omega) (by omega)
  have h3:=vE hF.1 (by omega)
  have h4:=nR k
  rw[<-aQr]at q
  refine⟨k,rfl,hF.1,by omega,by omega,(by show k.ws.length+1<=1000000;omega),m,rfl,by omega,by omega,(by show(k.ws ++ "*" : Str).length+(cF m).length<=1000000;rw[kI];show _+1+_<=_;omega),q⟩
 |rcd fs =>
  simp only[Kd.Fit]at hF
  simp only[Kd.deep]at hd
  have Cg:fs≠[]:=λe=>by rw[e]at hF;exact absurd hF.2.1 (by decide)
  have K2:(wF fs).length<=80000:=by
   simp only[Kd.w,aE,aC,aY,bJ]at Ak
   omega
  rw[<-aJc Cg]at q
  refine mD (ρ':=[vT (Kd.rcd fs).x,.un,.un]) (λQ q=>q) ?_
  refine mD (ρ':=[vT (Kd.rcd fs).x,.un,.un]) (λQ q=>q) ?_
  refine nK (ir_ ?_)
  change cL _ _ [vT (Kd.rcd fs).x,vT (.str ""),.un] _
  refine zC (λρ=>∃y:Sl,ρ=[vT (Kd.rcd fs).x,vT (.str (tS (wF fs))),y]) ?_ (λnx Cb=>?_)
  ·rintro ρ ⟨y,rfl⟩
   have Eg:=Txt.slice_le (tS (wF fs)) (some 2) none
   rw[gp_]at Eg
   exact⟨(by show(tS (wF fs)).length<=1000000;rw[gp_];omega),(by show 1+(Txt.slice (tS (wF fs)) (some 2) none).length<=1000000;omega),(by show("{" ++ Txt.slice (tS (wF fs)) (some 2) none:Str).length+1<=1000000;rw[kI];show 1+_+1<=_;omega),q⟩
  show iR _ _ _ (xF fs) _
  rw[ii_]
  refine dj_ (λf=>Dx.tup [.str f.1,f.2.x]) (λrest ρ=>∃(dn:List (Str×Kd)) (y:Sl),fs=dn++rest/\ρ=[vT (Kd.rcd fs).x,vT (.str (tS (wF dn))),y]) (λρ h=>?_) (λg rest ρ Kn h hk=>?_) ⟨[],.un,rfl,rfl⟩
  ·obtain ⟨dn,y,e,rfl⟩:=h
   rw[aS]at e
   subst e
   exact Cb _ ⟨y,rfl⟩
  ·obtain ⟨dn,y,e,rfl⟩:=h
   have hg:g∈fs:=by rw[e];exact aJ _ aA
   obtain⟨a1,a2,a3⟩:=gj_ hF.1 hg
   have h3:=vE a2 (by omega)
   have h4:=nR g.2
   have h8:=a1.2.1
   rw[<-fL]at h8
   have D8:(wF dn).length<=80000:=by rw[e,aQa,aC]at K2;omega
   have eS:(tS (wF dn) ++ ", " ++ g.1 ++ " " ++ g.2.ws:Str)=tS (wF (dn++[g])):=qQ (by
    rw[lP,lP,lP,lP,ec_,ec_,ew_,aIk,show aF ", " = [44,32]from by decide,show aF " " = [32]from by decide]
    simp only[aK,aU,aZ])
   refine⟨(by show(tS (wF dn)).length+2<=1000000;rw[gp_];omega),(by show(tS (wF dn) ++ ", " : Str).length+g.1.length<=1000000;rw[kI,gp_];show _+2+_<=_;omega),(by show(tS (wF dn) ++ ", " ++ g.1:Str).length+1<=1000000;rw[kI,kI,gp_];show _+2+_+1<=_;omega),g.2,rfl,a2,by omega,by omega,(by show(tS (wF dn) ++ ", " ++ g.1 ++ " " : Str).length+g.2.ws.length<=1000000;rw[kI,kI,kI,gp_];show _+2+_+1+_<=_;omega),hk _ ⟨dn++[g],vT (.tup [.str g.1,g.2.x]),by rw[e,aK];rfl,?_⟩⟩
   rw[<-eS]
   rfl
 |cho ks =>
  simp only[Kd.Fit]at hF
  simp only[Kd.deep]at hd
  have Cg:ks≠[]:=λe=>by rw[e]at hF;exact absurd hF.2.1 (by decide)
  have K2:(wK ks).length<=80000:=by
   simp only[Kd.w,aE,aC,aY,bJ]at Ak
   omega
  rw[<-aMz Cg]at q
  refine mD (ρ':=[vT (Kd.cho ks).x,.un,.un]) (λQ q=>q) ?_
  refine mD (ρ':=[vT (Kd.cho ks).x,.un,.un]) (λQ q=>q) ?_
  refine nK (ir_ ?_)
  change cL _ _ [vT (Kd.cho ks).x,vT (.str ""),.un] _
  refine zC (λρ=>∃y:Sl,ρ=[vT (Kd.cho ks).x,vT (.str (tS (wK ks))),y]) ?_ (λnx Cb=>?_)
  ·rintro ρ ⟨y,rfl⟩
   have Eg:=Txt.slice_le (tS (wK ks)) (some 2) none
   rw[gp_]at Eg
   exact⟨(by show(tS (wK ks)).length<=1000000;rw[gp_];omega),(by show 1+(Txt.slice (tS (wK ks)) (some 2) none).length<=1000000;omega),(by show("<" ++ Txt.slice (tS (wK ks)) (some 2) none:Str).length+1<=1000000;rw[kI];show 1+_+1<=_;omega),q⟩
  show iR _ _ _ (xK ks) _
  rw[go_]
  refine dj_ Kd.x (λrest ρ=>∃(dn:List Kd) (y:Sl),ks=dn++rest/\ρ=[vT (Kd.cho ks).x,vT (.str (tS (wK dn))),y]) (λρ h=>?_) (λg rest ρ Kn h hk=>?_) ⟨[],.un,rfl,rfl⟩
  ·obtain ⟨dn,y,e,rfl⟩:=h
   rw[aS]at e
   subst e
   exact Cb _ ⟨y,rfl⟩
  ·obtain ⟨dn,y,e,rfl⟩:=h
   have hg:g∈ks:=by rw[e];exact aJ _ aA
   obtain⟨a2,a3⟩:=ho_ hF.1 hg
   have h3:=vE a2 (by omega)
   have h4:=nR g
   have D8:(wK dn).length<=80000:=by rw[e,aPz,aC]at K2;omega
   have eS:(tS (wK dn) ++ ", " ++ g.ws:Str)=tS (wK (dn++[g])):=qQ (by
    rw[lP,lP,ec_,ec_,ew_,aIj,show aF ", " = [44,32]from by decide]
    simp only[aK,aU,aZ])
   refine⟨(by show(tS (wK dn)).length+2<=1000000;rw[gp_];omega),g,rfl,a2,by omega,by omega,(by show(tS (wK dn) ++ ", " : Str).length+g.ws.length<=1000000;rw[kI,gp_];show _+2+_<=_;omega),hk _ ⟨dn++[g],vT g.x,by rw[e,aK];rfl,?_⟩⟩
   rw[<-eS]
   rfl
end
def cW(a l:List Nat):Option (List Nat):=if a.isPrefixOf l=true then some (l.drop a.length)else none
def uY(l:List Nat)(m n:Int):Prop:=0<=n/\l.takeWhile (inT eU)=aF (cF n)/\((cF n).length:Int)<=m
open Classical in
noncomputable def numP (m:Int) (l:List Nat):Option (Int×List Nat):=if h:∃n,uY l m n then some (h.choose,l.drop (cF h.choose).length)else none
theorem cx_{a l r:List Nat}(h:cW a l=some r):a.isPrefixOf l=true/\l=a++r:=by
 unfold cW at h
 split at h
 ·rename_i hp
  refine⟨hp,?_⟩
  obtain⟨z,rfl⟩:=eO.mp hp
  cases h
  rw[fQ]
 ·cases h
theorem ei_{a r:List Nat}:cW a (a++r)=some r:=by
 unfold cW
 rw[if_pos aJj,fQ]
theorem v0{l:List Nat}{m a b:Int}(h:uY l m a)(h':uY l m b):a=b:=jq_ h.1 h'.1 (h.2.1.symm.trans h'.2.1)
theorem tR{l:List Nat}{m n:Int}(h:uY l m n):numP m l=some (n,l.drop (cF n).length):=by
 have hx:∃n,uY l m n:=⟨n,h⟩
 unfold numP
 rw[dif_pos hx,v0 hx.choose_spec h]
theorem ff_{l r:List Nat}{m n:Int}(h:numP m l=some (n,r)):uY l m n/\l=aF (cF n)++r:=by
 by_cases hx:∃n,uY l m n
 ·obtain ⟨n',hn⟩:=hx
  rw[tR hn]at h
  cases h
  refine⟨hn,?_⟩
  have e:=iW (p:=inT eU) (l:=l)
  rw[hn.2.1]at e
  obtain⟨z,hz⟩:=e
  rw[fL,<-hz,fQ]
 ·unfold numP at h
  rw[dif_neg hx]at h
  cases h
theorem pD{r:List Nat}{m n:Int}(h0:0<=n)(hm:((cF n).length:Int)<=m)(hr:aHa r):numP m (aF (cF n)++r)=some (n,r):=by
 have h:uY (aF (cF n)++r) m n:=⟨h0,aBz (fx_ h0).1 hr,hm⟩
 rw[tR h,fL,fQ]
theorem jb_{a l r:List Nat}(h:cW a l=some r):l.length=a.length+r.length:=by rw[(cx_ h).2,aC]
theorem g7{l r:List Nat}{m n:Int}(h:numP m l=some (n,r)):r.length<l.length:=by
 obtain⟨hn,e⟩:=ff_ h
 have:=a8 hn.1
 rw[fL]at this
 rw[e,aC]
 omega
noncomputable def starP (k:Kd) (l:List Nat):Option (Kd×List Nat):=match h:cW [42] l with
 |none=>some (k,l)
 |some l1=>match h2:numP 2 l1 with
  |none=>none
  |some x=>starP (.row k x.1) x.2
termination_by l.length
decreasing_by
 have h3:=jb_ h
 have h4:=g7 (n:=x.1) (r:=x.2) h2
 simp only[bT]at h3
 omega
theorem oE{k:Kd}{l:List Nat}(h:cW [42] l=none):starP k l=some (k,l):=by
 rw[starP]
 split
 ·rfl
 ·rename_i l1 e
  rw[h]at e
  cases e
theorem jg_{k:Kd}{l l1:List Nat}(h:cW [42] l=some l1):starP k l=(numP 2 l1).bind λx=>starP (.row k x.1) x.2:=by
 rw[starP]
 split
 ·rename_i e
  rw[h]at e
  cases e
 ·rename_i l2 e
  rw[h]at e
  cases e
  split
  ·rename_i e2
   rw[e2]
   rfl
  ·rename_i x e2
   rw[e2]
   rfl
noncomputable def sepP {α:Type} (g:List Nat->Option (α×List Nat)) (l:List Nat):Option (List α×List Nat):=match cW [44,32] l with
 |none=>some ([],l)
 |some l1=>match g l1 with
  |none=>none
  |some x=>if h:x.2.length<l.length then(sepP g x.2).bind λy=>some (x.1::y.1,y.2)else none
termination_by l.length
theorem mW{α:Type}{g:List Nat->Option (α×List Nat)}{l:List Nat}(h:cW [44,32] l=none):sepP g l=some ([],l):=by
 rw[sepP,h]
theorem iv_{α:Type}{g:List Nat->Option (α×List Nat)}{l l1:List Nat}(h:cW [44,32] l=some l1)(hg:∀x r,g l1=some (x,r)->r.length<=l1.length):sepP g l=(g l1).bind λx=>(sepP g x.2).bind λy=>some (x.1::y.1,y.2):=by
 rw[sepP,h]
 dsimp only
 cases e:g l1 with
 |none=>rfl
 |some x =>
  have h1:=hg x.1 x.2 e
  have h2:=jb_ h
  simp only[aE,bJ]at h2
  dsimp only
  rw[dif_pos (show x.2.length<l.length by omega)]
  rfl
noncomputable def fldP (g:List Nat->Option (Kd×List Nat)) (l:List Nat):Option ((Str×Kd)×List Nat):=(cW [32] (l.drop (l.takeWhile (inT fU)).length)).bind λl1=>(g l1).bind λx=>some ((⟨(l.takeWhile (inT fU)).toArray⟩,x.1),x.2)
noncomputable def fsP (g:List Nat->Option (Kd×List Nat)) (l:List Nat):Option (List (Str×Kd)×List Nat):=(fldP g l).bind λx=>(sepP (fldP g) x.2).bind λy=>(cW [125] y.2).bind λr=>some (x.1::y.1,r)
noncomputable def ksP (g:List Nat->Option (Kd×List Nat)) (l:List Nat):Option (List Kd×List Nat):=(g l).bind λx=>(sepP g x.2).bind λy=>(cW [62] y.2).bind λr=>some (x.1::y.1,r)
noncomputable def numK (l:List Nat):Option (Kd×List Nat):=(cW [110] l).bind λl1=>(numP 2 l1).bind λa=>(cW [47] a.2).bind λl2=>(numP 2 l2).bind λb=>some (Kd.num a.1 b.1,b.2)
noncomputable def innP (g:List Nat->Option (Kd×List Nat)) (l:List Nat):Option (Kd×List Nat):=match cW [123] l with
 |some l1=>(fsP g l1).bind λx=>some (.rcd x.1,x.2)
 |none=>match cW [60] l with
  |some l1=>(ksP g l1).bind λx=>some (.cho x.1,x.2)
  |none=>numK l
noncomputable def kP:Nat->List Nat->Option (Kd×List Nat)
 | 0,_=>none
 |n+1,l=>(innP (kP n) l).bind λx=>starP x.1 x.2
theorem oC:∀(m:Nat) {k k':Kd} {l r:List Nat},l.length<=m->starP k l=some (k',r)->k.w++l=k'.w++r
 |m,k,k',l,r,hm,h=>by
  cases e:cW [42] l with
  |none =>
   rw[oE e]at h
   cases h
   rfl
  |some l1 =>
   rw[jg_ e,aP]at h
   obtain⟨x,hx,h⟩:=h
   have hl:=jb_ e
   have Da:=g7 (n:=x.1) (r:=x.2) hx
   simp only[bT]at hl
   match m,hm with
   | 0,hm=>omega
   |m+1,hm =>
    have ih:=oC m (by omega) h
    rw[<-ih,(cx_ e).2,(ff_ (n:=x.1) (r:=x.2) hx).2]
    simp only[Kd.w,aK,aU,aZ]
def kK{α:Type}(wr:α->List Nat)(ys:List α):List Nat:=(ys.map λy=>44::32::wr y).flatten
theorem dh_{α:Type}{wr:α->List Nat}{y:α}{ys:List α}:kK wr (y::ys)=[44,32]++(wr y++kK wr ys):=by simp[kK]
theorem jh_{α:Type}{wr:α->List Nat}{g:List Nat->Option (α×List Nat)}(hg:∀l x r,g l=some (x,r)->l=wr x++r):∀(m:Nat) {l r:List Nat} {ys:List α},l.length<=m->sepP g l=some (ys,r)->l=kK wr ys++r
 |m,l,r,ys,hm,h=>by
  cases e:cW [44,32] l with
  |none =>
   rw[mW e]at h
   cases h
   rfl
  |some l1 =>
   have Ak:∀x r,g l1=some (x,r)->r.length<=l1.length:=λx r h=>by rw[hg _ _ _ h,aC];omega
   rw[iv_ e Ak,aP]at h
   obtain⟨x,hx,h⟩:=h
   rw[aP]at h
   obtain⟨y,hy,h⟩:=h
   cases h
   have hl:=jb_ e
   have Da:=Ak x.1 x.2 hx
   simp only[aE,bJ]at hl
   match m,hm with
   | 0,hm=>omega
   |m+1,hm =>
    have ih:=jh_ hg m (show x.2.length<=m by omega) hy
    rw[dh_,(cx_ e).2,hg _ _ _ hx,ih]
    simp only[aK]
def iN(f:Str×Kd):List Nat:=aF f.1++32::f.2.w
theorem hn_{g:List Nat->Option (Kd×List Nat)}(hg:∀l x r,g l=some (x,r)->l=x.w++r){l r:List Nat}{f:Str×Kd}(h:fldP g l=some (f,r)):l=iN f++r:=by
 unfold fldP at h
 rw[aP]at h
 obtain⟨l1,h1,h⟩:=h
 rw[aP]at h
 obtain⟨x,hx,h⟩:=h
 cases h
 have e1:=(cx_ h1).2
 have e2:=hg _ _ _ hx
 obtain⟨z,hz⟩:=iW (p:=inT fU) (l:=l)
 have e3:l.drop (l.takeWhile (inT fU)).length=z:=by
  conv=>lhs;arg 2;rw[<-hz]
  rw[fQ]
 rw[e3]at e1
 have e4:l=l.takeWhile (inT fU)++(32::(x.1.w++x.2)):=by
  conv=>lhs;rw[<-hz]
  rw[e1,e2]
  rfl
 conv=>lhs;rw[e4]
 unfold iN
 rw[aK]
 rfl
theorem nU(fs:List (Str×Kd)):wF fs=kK iN fs:=by rw[gw_];rfl
theorem nT(ks:List Kd):wK ks=kK Kd.w ks:=by rw[gv_];rfl
theorem fo_:∀(n:Nat) (l:List Nat) (k:Kd) (r:List Nat),kP n l=some (k,r)->l=k.w++r
 | 0,l,k,r,h=>by cases h
 |n+1,l,k,r,h=>by
  simp only[kP,aP]at h
  obtain⟨x,hx,h⟩:=h
  have ih:=fo_ n
  rw[<-oC _ (aV _) h]
  unfold innP at hx
  split at hx
  ·rename_i l1 e
   rw[aP]at hx
   obtain⟨y,hy,hx⟩:=hx
   cases hx
   unfold fsP at hy
   simp only[aP]at hy
   obtain⟨f,hf,z,hz,r',hr,hy⟩:=hy
   cases hy
   have e1:=hn_ ih hf
   have e2:=jh_ (wr:=iN) (λl x r h=>hn_ ih h) _ (aV _) hz
   simp only[Kd.w,nU,dh_]
   rw[(cx_ e).2,e1,e2,(cx_ hr).2]
   simp only[aK,aU,aZ,List.drop_succ_cons,gH]
  ·split at hx
   ·rename_i l1 e
    rw[aP]at hx
    obtain⟨y,hy,hx⟩:=hx
    cases hx
    unfold ksP at hy
    simp only[aP]at hy
    obtain⟨f,hf,z,hz,r',hr,hy⟩:=hy
    cases hy
    have e1:=ih _ _ _ hf
    have e2:=jh_ (wr:=Kd.w) ih _ (aV _) hz
    simp only[Kd.w,nT,dh_]
    rw[(cx_ e).2,e1,e2,(cx_ hr).2]
    simp only[aK,aU,aZ,List.drop_succ_cons,gH]
   ·unfold numK at hx
    simp only[aP]at hx
    obtain⟨l1,h1,a,ha,l2,h2,b,hb,hx⟩:=hx
    cases hx
    rw[(cx_ h1).2,(ff_ (n:=a.1) (r:=a.2) ha).2,(cx_ h2).2,(ff_ (n:=b.1) (r:=b.2) hb).2]
    simp only[Kd.w,aK,aU,aZ]
theorem jz_{a:Nat}{b l:List Nat}{c:Nat}(h:c≠a):cW (a::b) (c::l)=none:=by
 unfold cW
 have:(a::b).isPrefixOf (c::l)=false:=by
  simp only[List.isPrefixOf,Bool.and_eq_false_iff]
  exact .inl (by simpa using λz=>h z.symm)
 rw[this]
 rfl
def jS(r:List Nat):Prop:=∀c l,r=c::l->c≠42/\inT eU c=false
theorem j4{c:Nat}{l:List Nat}(h:inT eU c=false):aHa (c::l):=λc' l' e=>by cases e;exact h
theorem id_{c:Nat}{l:List Nat}(h:c≠42)(h2:inT eU c=false):jS (c::l):=λc' l' e=>by cases e;exact⟨h,h2⟩
theorem hp_{c:Nat}(h:c<48\/57<c):inT eU c=false:=by
 cases e:inT eU c with
 |false=>rfl
 |true=>have:=lW e;omega
theorem q_{k:Kd}{r:List Nat}(h:jS r):starP k r=some (k,r):=oE (by
 cases r with
 |nil=>rfl
 |cons c l=>exact jz_ (h c l rfl).1)
theorem oJ{α:Type}{wr:α->List Nat}{g:List Nat->Option (α×List Nat)}(hs:∀l x r,g l=some (x,r)->l=wr x++r){c:Nat}{rest:List Nat}(hc:c≠44/\c≠42/\inT eU c=false):∀{ys:List α},(∀y∈ys,∀r,jS r->g (wr y++r)=some (y,r))->sepP g (kK wr ys++c::rest)=some (ys,c::rest)
 | [],_=>mW (jz_ hc.1)
 |y::ys,h=>by
  have ih:=oJ hs (rest:=rest) hc (ys:=ys) λz hz=>h z (aB _ hz)
  have hr:jS (kK wr ys++c::rest):=by
   cases ys with
   |nil=>exact id_ hc.2.1 hc.2.2
   |cons z zs =>
    rw[dh_]
    exact id_ (by decide) (hp_ (by decide))
  have hgy:=h y aA _ hr
  rw[dh_,aK,aK,iv_ ei_ (λx r hx=>by rw[hs _ _ _ hx,aC];omega),hgy,bK,ih]
  rfl
theorem g_{c:Nat}(h:97<=c/\c<=122):inT fU c=true:=lE.mpr (by rw[pI];exact cJ.mpr ⟨c-97,eM.mpr (by omega),by omega⟩)
theorem i0{c:Nat}(h:inT fU c=true):97<=c/\c<=122:=by
 have:=lE.mp h
 rw[pI]at this
 obtain⟨i,hi,rfl⟩:=cJ.mp this
 have:=eM.mp hi
 omega
theorem aGb{g:List Nat->Option (Kd×List Nat)}{f:Str×Kd}{r:List Nat}(hn:Nm f.1)(h:g (f.2.w++r)=some (f.2,r)):fldP g (iN f++r)=some (f,r):=by
 have e:(iN f++r).takeWhile (inT fU)=aF f.1:=by
  unfold iN
  rw[aK]
  refine aBz (λc hc=>g_ (hn.2.2 c hc)) (λc r' e=>?_)
  cases e
  cases e:inT fU 32 with
  |false=>rfl
  |true=>have:=i0 e;omega
 unfold fldP
 rw[e]
 have e2:(iN f++r).drop (aF f.1).length=[32]++(f.2.w++r):=by
  unfold iN
  rw[aK,fQ]
  rfl
 rw[e2,ei_,bK,h]
 rfl
theorem wJ{n:Nat}(ih:∀(k:Kd) (r:List Nat),k.Fit->k.deep<=n->jS r->kP n (k.w++r)=some (k,r)):∀(k:Kd) (r:List Nat),k.Fit->k.deep<=n+1->aHa r->((innP (kP n) (k.w++r)).bind λx=>starP x.1 x.2)=starP k r
 | .num w m,r,hF,hd,hr=>by
  simp only[Kd.Fit]at hF
  have e:(Kd.num w m).w++r=[110]++(aF (cF w)++([47]++(aF (cF m)++r))):=by simp only[Kd.w,aU,aK,aZ]
  have e0:innP (kP n) ((Kd.num w m).w++r)=some (.num w m,r):=by
   rw[e]
   unfold innP
   rw[show cW [123] ([110]++(aF (cF w)++([47]++(aF (cF m)++r))))=none from jz_ (by decide),show cW [60] ([110]++(aF (cF w)++([47]++(aF (cF m)++r))))=none from jz_ (by decide)]
   dsimp only
   unfold numK
   have h1:=qM (n:=w) (by omega) (by omega)
   have h2:=qM (n:=m) (by omega) (by omega)
   rw[ei_,bK,pD (m:=2) (n:=w) (r:=[47]++(aF (cF m)++r)) (by omega) (by omega) (j4 (c:=47) (hp_ (by decide))),bK]
   dsimp only
   rw[ei_,bK,pD (by omega) (by omega) hr]
   rfl
  rw[e0]
  rfl
 | .row k m,r,hF,hd,hr=>by
  simp only[Kd.Fit]at hF
  simp only[Kd.deep]at hd
  have e:(Kd.row k m).w++r=k.w++(42::(aF (cF m)++r)):=by simp only[Kd.w,aU,aK]
  have h2:=qM (n:=m) (by omega) (by omega)
  rw[e,wJ ih k _ hF.1 (by omega) (j4 (hp_ (by decide))),jg_ (l:=42::(aF (cF m)++r)) (l1:=aF (cF m)++r) (show cW [42] ([42]++(aF (cF m)++r))=_ from ei_),pD (by omega) (by omega) hr]
  rfl
 | .rcd fs,r,hF,hd,hr=>by
  simp only[Kd.Fit]at hF
  simp only[Kd.deep]at hd
  obtain⟨h1,h2,h3,h4⟩:=hF
  match fs,h1,h2,hd with
  |f::fr,h1,_,hd =>
   have Fd:∀f'∈f::fr,∀r,jS r->fldP (kP n) (iN f'++r)=some (f',r):=λf' hf r hr=>by
    obtain⟨a,b,c⟩:=gj_ h1 hf
    exact aGb a (ih f'.2 r b (by omega) hr)
   have e:(Kd.rcd (f::fr)).w++r=[123]++(iN f++(kK iN fr++125::r)):=by
    simp only[Kd.w,nU,dh_,aU,aK,aZ,List.drop_succ_cons,gH]
   have hh:jS (kK iN fr++125::r):=by
    cases fr with
    |nil=>exact id_ (by decide) (hp_ (by decide))
    |cons z zs=>rw[dh_];exact id_ (by decide) (hp_ (by decide))
   have e0:innP (kP n) ((Kd.rcd (f::fr)).w++r)=some (.rcd (f::fr),r):=by
    rw[e]
    unfold innP
    rw[ei_]
    dsimp only
    unfold fsP
    rw[Fd f aA _ hh,bK]
    dsimp only
    rw[oJ (wr:=iN) (λl x r h=>hn_ (fo_ n) h) ⟨by decide,by decide,hp_ (by decide)⟩ (λy hy=>Fd y (aB _ hy)),bK]
    dsimp only
    rw[show(125::r)=[125]++r from rfl,ei_]
    rfl
   rw[e0]
   rfl
 | .cho ks,r,hF,hd,hr=>by
  simp only[Kd.Fit]at hF
  simp only[Kd.deep]at hd
  obtain⟨h1,h2,h3⟩:=hF
  match ks,h1,h2,hd with
  |f::fr,h1,_,hd =>
   have Fd:∀f'∈f::fr,∀r,jS r->kP n (f'.w++r)=some (f',r):=λf' hf r hr=>by
    obtain⟨b,c⟩:=ho_ h1 hf
    exact ih f' r b (by omega) hr
   have e:(Kd.cho (f::fr)).w++r=[60]++(f.w++(kK Kd.w fr++62::r)):=by
    simp only[Kd.w,nT,dh_,aU,aK,aZ,List.drop_succ_cons,gH]
   have hh:jS (kK Kd.w fr++62::r):=by
    cases fr with
    |nil=>exact id_ (by decide) (hp_ (by decide))
    |cons z zs=>rw[dh_];exact id_ (by decide) (hp_ (by decide))
   have e0:innP (kP n) ((Kd.cho (f::fr)).w++r)=some (.cho (f::fr),r):=by
    rw[e]
    unfold innP
    rw[show cW [123] ([60]++(f.w++(kK Kd.w fr++62::r)))=none from jz_ (by decide),ei_]
    dsimp only
    unfold ksP
    rw[Fd f aA _ hh,bK]
    dsimp only
    rw[oJ (wr:=Kd.w) (fo_ n) ⟨by decide,by decide,hp_ (by decide)⟩ (λy hy=>Fd y (aB _ hy)),bK]
    dsimp only
    rw[show(62::r)=[62]++r from rfl,ei_]
    rfl
   rw[e0]
   rfl
theorem i_:∀(n:Nat) (k:Kd) (r:List Nat),k.Fit->k.deep<=n->jS r->kP n (k.w++r)=some (k,r)
 | 0,k,r,hF,hd,_=>by have:=Kd.deep_pos k;omega
 |n+1,k,r,hF,hd,hr=>by
  show((innP (kP n) (k.w++r)).bind λx=>starP x.1 x.2)=_
  rw[wJ (i_ n) k r hF hd λc l e=>(hr c l e).2]
  exact q_ hr
theorem aYc{x:Str}(h:nmB x=true):Nm x:=by
 unfold nmB at h
 simp only[bY,decide_eq_true_eq,cG]at h
 obtain⟨⟨a,b⟩,c⟩:=h
 rw[fL]at a b
 exact⟨by omega,by omega,λd hd=>c d hd⟩
theorem aGa:∀{fs:List (Str×Kd)} {seen:List Str},iO seen (xF fs)=true->(∀f∈fs,Nm f.1/\f.1∉seen)/\(fs.map (·.1)).Nodup
 | [],_,_=>⟨λf hf=>(nomatch hf),fP⟩
 |f::r,seen,h=>by
  simp only[xF,iO,bY,Bool.not_eq_true',decide_eq_false_iff_not]at h
  obtain⟨⟨a,b⟩,c⟩:=h
  obtain⟨d,e⟩:=aGa c
  refine⟨λg hg=>?_,?_⟩
  ·rcases aI.mp hg with rfl | hg
   ·exact⟨aYc a,b⟩
   ·exact⟨(d g hg).1,λz=>(d g hg).2 (aX _ z)⟩
  ·rw [aO]
   refine cE.mpr ⟨λz=>?_,e⟩
   obtain⟨g,hg,hz⟩:=cJ.mp z
   exact(d g hg).2 (aJ _ (by rw[hz];exact List.mem_singleton_self _))
theorem uF:∀{fs:List (Str×Kd)},(∀f∈fs,Nm f.1/\f.2.Fit)->kQ fs
 | [],_=>trivial
 |f::r,h=>⟨h f aA,uF λg hg=>h g (aB _ hg)⟩
theorem uE:∀{ks:List Kd},(∀k∈ks,k.Fit)->kO ks
 | [],_=>trivial
 |k::r,h=>⟨h k aA,uE λg hg=>h g (aB _ hg)⟩
theorem pL:∀(n:Nat) (k:Kd),ikN n k.x=true->k.Fit/\k.deep<=n
 | 0,k,h=>by
  have:ikN 0 k.x=false:=by cases k<;>rfl
  rw[this]at h
  cases h
 |n+1,.num w m,h=>by
  simp only[Kd.x,ikN,if_true,wuD,whD,inM,bY,decide_eq_true_eq]at h
  refine⟨⟨h.1.1.1,h.1.1.2,?_⟩,by show 1<=n+1;omega⟩
  have hm:=h.2
  unfold inV at hm
  rw[List.any_eq_true]at hm
  obtain⟨y,hy,e⟩:=hm
  simp only[aI,bS,or_false]at hy
  rcases hy with rfl | rfl | rfl | rfl
  ·exact .inl (eq_of_beq (show((1:Int) == m)=true from e)).symm
  ·exact .inr (.inl (eq_of_beq (show((2:Int) == m)=true from e)).symm)
  ·exact .inr (.inr (.inl (eq_of_beq (show((4:Int) == m)=true from e)).symm))
  ·exact .inr (.inr (.inr (eq_of_beq (show((8:Int) == m)=true from e)).symm))
 |n+1,.row k m,h=>by
  simp only[Kd.x,ikN,wuD]at h
  rw[if_neg (by decide),if_pos trivial]at h
  simp only[bY,decide_eq_true_eq]at h
  obtain⟨a,b⟩:=pL n k h.2
  exact⟨⟨a,h.1.1,h.1.2⟩,by show k.deep+1<=n+1;omega⟩
 |n+1,.rcd fs,h=>by
  simp only[Kd.x,ikN,luD]at h
  rw[if_pos trivial]at h
  have hl:(xF fs).length=fs.length:=by rw[ii_,aD]
  simp only[bY,decide_eq_true_eq,hl]at h
  obtain⟨⟨h1,h2⟩,h3,h4⟩:=h
  obtain⟨a,b⟩:=aGa h3
  rw[ii_,gN,cG]at h4
  have h5:∀f∈fs,f.2.Fit/\f.2.deep<=n:=λf hf=>pL n f.2 (h4 f hf)
  refine⟨⟨uF λf hf=>⟨(a f hf).1,(h5 f hf).1⟩,by omega,by omega,b⟩,?_⟩
  show eV fs+1<=n+1
  have:=pY (m:=n) λf hf=>(h5 f hf).2
  omega
 |n+1,.cho ks,h=>by
  simp only[Kd.x,ikN,luD]at h
  rw[if_neg (by decide),if_pos trivial]at h
  have hl:(xK ks).length=ks.length:=by rw[go_,aD]
  simp only[bY,decide_eq_true_eq,hl]at h
  obtain⟨⟨h1,h2⟩,h4⟩:=h
  rw[go_,gN,cG]at h4
  have h5:∀k∈ks,k.Fit/\k.deep<=n:=λk hk=>pL n k (h4 k hk)
  refine⟨⟨uE λk hk=>(h5 k hk).1,by omega,by omega⟩,?_⟩
  show eK ks+1<=n+1
  have:=pW (m:=n) λk hk=>(h5 k hk).2
  omega
mutual
theorem aIi:∀(k:Kd),k.w.length<=100000->k.x.Sz
 | .num w m,_=>by simp only[Kd.x,Dx.Sz,szX];exact⟨by show 3<=100000;decide,by decide,trivial,trivial,trivial⟩
 | .row k n,h=>by
  simp only[Kd.w,aC,aE]at h
  simp only[Kd.x,Dx.Sz,szX]
  exact⟨by show 3<=100000;decide,by decide,aIi k (by omega),trivial,trivial⟩
 | .rcd fs,h=>by
  simp only[Kd.w,aC,aE,aY,bJ]at h
  obtain⟨a,b⟩:=aNs fs (by omega)
  simp only[Kd.x,Dx.Sz,szX]
  exact⟨by show 2<=100000;decide,by decide,⟨b,a⟩,trivial⟩
 | .cho ks,h=>by
  simp only[Kd.w,aC,aE,aY,bJ]at h
  obtain⟨a,b⟩:=aNr ks (by omega)
  simp only[Kd.x,Dx.Sz,szX]
  exact⟨by show 2<=100000;decide,by decide,⟨b,a⟩,trivial⟩
theorem aNs:∀(fs:List (Str×Kd)),(wF fs).length<=100001->szX (xF fs)/\(xF fs).length<=100000
 | [],_=>⟨trivial,bP _⟩
 |f::r,h=>by
  simp only[wF,aC,aE]at h
  obtain⟨a,b⟩:=aNs r (by omega)
  have hn:f.1.length<=100000:=by rw[fL];omega
  simp only[xF,szX,Dx.Sz]
  have hb:(wF r).length+3<=100001:=by omega
  refine⟨⟨⟨by show 2<=100000;decide,hn,aIi f.2 (by omega),trivial⟩,a⟩,?_⟩
  have:=aBy r
  show(xF r).length+1<=100000
  rw[sL]
  omega
theorem aNr:∀(ks:List Kd),(wK ks).length<=100001->szX (xK ks)/\(xK ks).length<=100000
 | [],_=>⟨trivial,bP _⟩
 |k::r,h=>by
  simp only[wK,aC,aE]at h
  obtain⟨a,b⟩:=aNr r (by omega)
  simp only[xK,szX]
  refine⟨⟨aIi k (by omega),a⟩,?_⟩
  have:=aBv r
  show(xK r).length+1<=100000
  rw[sJ]
  omega
theorem aBy:∀(fs:List (Str×Kd)),fs.length<=(wF fs).length
 | []=>bP _
 |f::r=>by have:=aBy r;simp only[wF,aC,aE];omega
theorem aBv:∀(ks:List Kd),ks.length<=(wK ks).length
 | []=>bP _
 |f::r=>by have:=aBv r;simp only[wK,aC,aE];omega
end
def Wr(n:Nat)(l:List Nat)(k:Kd):Prop:=k.Fit/\k.deep<=n/\l=k.w
theorem x_:jS []:=λc l e=>by cases e
theorem wE{n:Nat}{k:Kd}{l:List Nat}(h:Wr n l k):kP n l=some (k,[]):=by
 have:=i_ n k [] h.1 h.2.1 x_
 rw[aS,<-h.2.2]at this
 exact this
theorem aIh{n:Nat}{k k':Kd}{l:List Nat}(h:Wr n l k)(h':Wr n l k'):k=k':=by
 have:=(wE h).symm.trans (wE h')
 cases this
 rfl
theorem aWh{l:List Nat}{k:Kd}(h:kP 5 l=some (k,[]))(hi:ikN 5 k.x=true):Wr 5 l k:=by
 have:=fo_ 5 l k [] h
 rw[aS]at this
 exact⟨(pL 5 k hi).1,(pL 5 k hi).2,this⟩
def Out(t:Str)(o:Option (Sv×List Nat))(CN:Addr)(Q:Sv->FsO->Prop)(Ex:ExT):Prop:=(∀s r,o=some (s,r)->∀x:Nat,x<=t.length->(aF t).drop x=r->Q s (rdr t x))/\(o=none->Ex (.ref CN))
def gO5(o:Str->Nat->Option (Sv×List Nat))(d:Int)(C0 CN:Addr):GOE:=λC l ds Q Ex=>C=C0/\∃(t:Str) (p:Nat),l=rdr t p/\ds=[.int d]/\t.length<=100000/\p<=t.length/\Out t (o t p) CN Q Ex
noncomputable def oK (n:Nat) (t:Str) (p:Nat):Option (Sv×List Nat):=(kP n ((aF t).drop p)).map λy=>(.tr y.1.x,y.2)
noncomputable def oI (n:Nat) (t:Str) (p:Nat):Option (Sv×List Nat):=(innP (kP n) ((aF t).drop p)).map λy=>(.tr y.1.x,y.2)
noncomputable def oG (n:Nat) (t:Str) (p:Nat):Option (Sv×List Nat):=(fldP (kP n) ((aF t).drop p)).map λy=>(.tr (.tup [.str y.1.1,y.1.2.x]),y.2)
noncomputable def oF (n:Nat) (t:Str) (p:Nat):Option (Sv×List Nat):=(fsP (kP n) ((aF t).drop p)).map λy=>(.ol (xF y.1),y.2)
noncomputable def oS (n:Nat) (t:Str) (p:Nat):Option (Sv×List Nat):=(ksP (kP n) ((aF t).drop p)).map λy=>(.ol (xK y.1),y.2)
abbrev y0(C0 CN:Addr)(n:Nat):GOE:=gO5 (oK n) (n:Int) C0 CN
abbrev aZa(C0 CN:Addr)(n:Nat):GOE:=gO5 (oI n) ((n:Int)+1) C0 CN
abbrev aZb(C0 CN:Addr)(n:Nat):GOE:=gO5 (oG n) (n:Int) C0 CN
abbrev aZc(C0 CN:Addr)(n:Nat):GOE:=gO5 (oF n) (n:Int) C0 CN
abbrev aYz(C0 CN:Addr)(n:Nat):GOE:=gO5 (oS n) (n:Int) C0 CN
theorem fa_{t:Str}{p:Nat}{a:List Nat}(h:a.isPrefixOf ((aF t).drop p)=true):cW a ((aF t).drop p)=some ((aF t).drop (p+a.length)):=by
 unfold cW
 rw[if_pos h,List.drop_drop]
theorem dr_{t:Str}{p:Nat}{a:List Nat}(h:a.isPrefixOf ((aF t).drop p)=false):cW a ((aF t).drop p)=none:=by
 unfold cW
 rw[h]
 rfl
theorem gq_{t:Str}{p:Nat}{a:List Nat}(hp:p<=t.length)(h:a.isPrefixOf ((aF t).drop p)=true):p+a.length<=t.length:=by
 have:=(eO.mp h).length_le
 rw[aY,<-fL]at this
 omega
theorem tP{t:Str}{p:Nat}{m i:Int}(hi:xI t p m i)(hp:p<=t.length):numP m ((aF t).drop p)=some (i,(aF t).drop (p+(cF i).length))/\p+(cF i).length<=t.length:=by
 have hL:uY ((aF t).drop p) m i:=hi
 have e:=tR hL
 obtain⟨_,e2⟩:=ff_ e
 obtain⟨e3,e4⟩:=z_ e2
 rw[<-fL]at e3 e4
 rw[<-e3]at e
 exact⟨e,e4 hp⟩
theorem tQ{t:Str}{p:Nat}{m:Int}(h:∀n,¬xI t p m n):numP m ((aF t).drop p)=none:=by
 cases e:numP m ((aF t).drop p)with
 |none=>rfl
 |some x=>exact absurd (ff_ (n:=x.1) (r:=x.2) e).1 (h x.1)
section
variable{f:Addr}{C_Reader Ac:Addr}{n j:Nat}
theorem aKc(F:Fun K "taken_kind" "taken_kind" ds_ f fd)(L7:CalE P w K mg base 0 "taken_inner_kind" AA (eI λ_ _ _ _ _=>False))(CM_passes:mO P w K mg base 1 C_Reader "passes" AB (spO (gPA C_Reader)))(CM_take_number:iV P w K mg base 2 C_Reader "take_number" AL (eI (aFw C_Reader Ac)))(Ag:∃t,mg "FIGURES_OF_A_KIND" = some (.int 2 t))(An:PyProof.Rows.OwnCls "NoText" Ac veM "ValueError.__new__" mg base):FnOk P w K mg base (CXe P w) 3 f fd AA (eI (y0 C_Reader Ac 0)):=by
 refine kH F eX (λC l ds Q Ex h=>by obtain⟨_,_,_,_,rfl,_⟩:=h;rfl) (by decide) λAi A outer s H E Ex hr=>?_
 have Am:=iT hr
 have Aj:=aM Am
 refine⟨_,(cO (eC (dW xJ xL (bE (pv 1)) cC (bD _)) (cP (fi_ An rfl (by rfl))) eJ)
  (cO (al_ λF=>o4 (i:=2) eX.nd rfl (Or.inl rfl) (XE.at (Ex:=Ex) F (cv_ (i:=0) L7 (hr.mono (by omega)) (pv 0) (bF (bE (pv 1)) bV))))
  (cO (gc_ PassesOwn.leaving (jZ (eb_ (C:=C_Reader) (i:=0) CM_passes (hr.mono (by omega)) (pv 0) (bF dL bV))) (cP (al_ λF=>o4 (i:=2) eX.nd rfl (Or.inl rfl) (XE.at (Ex:=Ex) F (lO (bF dL (bF (bE (pv 2)) (bF (dg_ (C:=C_Reader) (i:=0) CM_take_number (hr.mono (by omega)) (pv 0) (bF (zD (by rfl) Ag) bV)) bV))))))))
  (cP (cZ (ez_ (pv 2))))))),λC a dx l ds Q h=>?_⟩
 obtain⟨rfl,t,p,rfl,rfl,A4,hp,qy,qn⟩:=h
 refine iY true (ρ':=[.bo (.oi C a dx (rdr t p)),vT (.int 0),.un]) (λQ q=>q) (λ_=>qn rfl) (λhb=>by cases hb)
theorem aKb(F:Fun K "taken_kind" "taken_kind" ds_ f fd)(L7:CalE P w K mg base j "taken_inner_kind" AA (eI (aZa C_Reader Ac n)))(CM_passes:mO P w K mg base 1 C_Reader "passes" AB (spO (gPA C_Reader)))(CM_take_number:iV P w K mg base 2 C_Reader "take_number" AL (eI (aFw C_Reader Ac)))(Ag:∃t,mg "FIGURES_OF_A_KIND" = some (.int 2 t))(An:PyProof.Rows.OwnCls "NoText" Ac veM "ValueError.__new__" mg base)(hj:2<=j):FnOk P w K mg base (CXe P w) (j+1) f fd AA (eI (y0 C_Reader Ac (n+1))):=by
 refine kH F eX (λC l ds Q Ex h=>by obtain⟨_,_,_,_,rfl,_⟩:=h;rfl) (by decide) λAi A outer s H E Ex hr=>?_
 have Am:=iT hr
 have Aj:=aM Am
 refine⟨_,(cO (eC (dW xJ xL (bE (pv 1)) cC (bD _)) (cP (fi_ An rfl (by rfl))) eJ)
  (cO (al_ λF=>o4 (i:=2) eX.nd rfl (Or.inl rfl) (XE.at (Ex:=Ex) F (cv_ (i:=0) L7 (hr.mono (by omega)) (pv 0) (bF (bE (pv 1)) bV))))
  (cO (gc_ PassesOwn.leaving (jZ (eb_ (C:=C_Reader) (i:=0) CM_passes (hr.mono (by omega)) (pv 0) (bF dL bV))) (cP (al_ λF=>o4 (i:=2) eX.nd rfl (Or.inl rfl) (XE.at (Ex:=Ex) F (lO (bF dL (bF (bE (pv 2)) (bF (dg_ (C:=C_Reader) (i:=0) CM_take_number (hr.mono (by omega)) (pv 0) (bF (zD (by rfl) Ag) bV)) bV))))))))
  (cP (cZ (ez_ (pv 2))))))),λC a dx l ds Q h=>?_⟩
 obtain⟨rfl,t,p,rfl,rfl,A4,hp,qy,qn⟩:=h
 unfold oK at qy qn
 simp only[kP]at qy qn
 refine mD (ρ':=[.bo (.oi C a dx (rdr t p)),vT (.int ((n+1:Nat):Int)),.un]) (λQ q=>?_) ?_
 ·show Q (decide (((n + 1:Nat):Int) < 1)) _
  rw[dzF (by omega)]
  exact q
 refine⟨rfl,rfl,t,p,rfl,by show [Dx.int ((n+1:Nat):Int)]=[.int ((n:Int)+1)];congr 1,A4,hp,λs r hs x hx Cw=>?_,λhs=>?_⟩
 ·obtain ⟨y,hy,e⟩:=bU.mp hs
  cases e
  rw[hy,bK]at qy qn
  dsimp only
  change cL (nQ _ _) _ [.bo (.oi C a dx (rdr t x)),vT (.int ((n+1:Nat):Int)),vT y.1.x] _
  generalize hW:starP y.1 y.2=W0 at qy qn
  refine zC (λρ=>∃(k:Kd) (x:Nat),W0=some (k,(aF t).drop x)/\x<=t.length/\ρ=[.bo (.oi C a dx (rdr t x)),vT (.int ((n+1:Nat):Int)),vT k.x]) ?_ (λnx Cb=>?_)
  ·rintro ρ ⟨k,x,hw,hx,rfl⟩
   exact⟨rfl,rfl,rfl,qy _ _ (by rw[hw];rfl) x hx rfl⟩
  ·refine ⟨fun m ρ => ∃ (k:Kd) (x:Nat),x + m=t.length∧W0=starP k ((aF t).drop x)∧ρ=[.bo (.oi C a dx (rdr t x)),vT (.int ((n + 1:Nat):Int)),vT k.x],⟨t.length - x,y.1,x,by omega,by rw [← hW,Cw],rfl⟩,?_⟩
   rintro m ρ ⟨k,x,hm,hw,rfl⟩
   refine⟨⟨rfl,rfl⟩,rfl,t, "*",x,rfl,rfl,by omega,A4,λb hb=>?_⟩
   cases b with
   |false =>
    have e42:cW [42] ((aF t).drop x)=none:=dr_ (a:=[42]) hb.symm
    rw[oE e42]at hw
    exact Cb _ ⟨k,x,hw,by omega,rfl⟩
   |true =>
    have e42:cW [42] ((aF t).drop x)=some ((aF t).drop (x+1)):=fa_ (a:=[42]) hb.symm
    have Ey:x+1<=t.length:=gq_ (a:=[42]) (by omega) hb.symm
    rw[jg_ e42]at hw
    refine⟨λρ=>∃m'<m,∃(k:Kd) (x:Nat),x+m'=t.length/\W0=starP k ((aF t).drop x)/\ρ=[.bo (.oi C a dx (rdr t x)),vT (.int ((n+1:Nat):Int)),vT k.x],λρ' h=>h,?_⟩
    refine⟨⟨rfl,rfl⟩,rfl,t,x+1,2,rfl,rfl,Ey,A4,by omega,λi hi=>?_,λBa=>?_⟩
    ·obtain ⟨e,he⟩:=tP hi Ey
     rw[e,bK]at hw
     exact⟨by show 3<=1000000;decide,t.length-(x+1+(cF i).length),by omega,.row k i,x+1+(cF i).length,by omega,hw,rfl⟩
    ·rw [tQ Ba] at hw
     exact qn (by rw[hw];rfl)
 ·refine qn ?_
  rw[cU.mp hs]
  rfl
theorem aKe(F:Fun K "taken_field" "taken_field" ee_ f fd)(Hu:CalE P w K mg base j "taken_kind" AA (eI (y0 C_Reader Ac n)))(CM_take_run:mO P w K mg base 1 C_Reader "take_run" AB (spO (gTR C_Reader)))(CM_take:iV P w K mg base 2 C_Reader "take" AB (eI (y_ C_Reader Ac)))(Al:∃t,mg "SMALL_LETTERS" = some (.str fU t))(hj:2<=j):FnOk P w K mg base (CXe P w) (j+1) f fd AA (eI (aZb C_Reader Ac n)):=by
 refine kH F jJ (λC l ds Q Ex h=>by obtain⟨_,_,_,_,rfl,_⟩:=h;rfl) (by decide) λAi A outer s H E Ex hr=>?_
 refine⟨_,(cO (al_ λF=>o4 (i:=2) jJ.nd rfl (Or.inl rfl) (XE.at (Ex:=Ex) F (eb_ (C:=C_Reader) (i:=0) CM_take_run (hr.mono (by omega)) (pv 0) (bF (gd_ (by rfl) Al) bV))))
  (cO (ht_ (dg_ (C:=C_Reader) (i:=0) CM_take (hr.mono (by omega)) (pv 0) (bF dL bV)))
  (cP (cZ (lO (bF (bE (pv 2)) (bF (cv_ (i:=0) Hu (hr.mono (by omega)) (pv 0) (bF (bE (pv 1)) bV)) bV))))))),λC a dx l ds Q h=>?_⟩
 obtain⟨rfl,t,p,rfl,rfl,A4,hp,qy,qn⟩:=h
 unfold oG fldP at qy qn
 have Kp:p+(iQ fU t p).length<=t.length:=by
  have h1:=(iW (p:=inT fU) (l:=(aF t).drop p)).length_le
  rw[aY,<-fL]at h1
  unfold iQ
  omega
 have ed:((aF t).drop p).drop (((aF t).drop p).takeWhile (inT fU)).length=(aF t).drop (p+(iQ fU t p).length):=List.drop_drop ..
 rw[ed]at qy qn
 refine⟨⟨rfl,rfl⟩,rfl,t,fU,p,rfl,rfl,hp,A4,?_⟩
 refine⟨⟨rfl,rfl⟩,rfl,t, " ",p+(iQ fU t p).length,rfl,rfl,Kp,A4,λhb=>?_,λhb=>?_⟩
 ·have e32:cW [32] ((aF t).drop (p + (iQ fU t p).length))=some ((aF t).drop (p + (iQ fU t p).length + 1)):=fa_ (a:=[32]) hb
  have Fc:p+(iQ fU t p).length+1<=t.length:=gq_ (a:=[32]) Kp hb
  rw[e32,bK]at qy qn
  refine⟨rfl,rfl,t,p+(iQ fU t p).length+1,rfl,rfl,A4,Fc,λs r hs x hx Cw=>?_,λhs=>?_⟩
  ·obtain ⟨y,hy,e⟩:=bU.mp hs
   cases e
   rw[hy]at qy
   exact⟨by show 2<=1000000;decide,rfl,rfl,rfl,qy _ _ rfl x hx Cw⟩
  ·exact qn (by rw[cU.mp hs];rfl)
 ·have e32:cW [32] ((aF t).drop (p + (iQ fU t p).length))=none:=dr_ (a:=[32]) hb
  exact qn (by rw[e32];rfl)
end
theorem aOn{n:Nat}{l:List Nat}{x:Kd}{r:List Nat}(h:kP n l=some (x,r)):l=x.w++r:=fo_ n l x r h
theorem k_{n:Nat}{l:List Nat}{x:Str×Kd}{r:List Nat}(h:fldP (kP n) l=some (x,r)):l=iN x++r:=hn_ (fo_ n) h
section
variable{f:Addr}{C_Reader Ac:Addr}{n j:Nat}
theorem aKf(F:Fun K "taken_fields" "taken_fields" dq_ f fd)(Ng:CalE P w K mg base j "taken_field" AA (eI (aZb C_Reader Ac n)))(CM_passes:mO P w K mg base 1 C_Reader "passes" AB (spO (gPA C_Reader)))(CM_take:iV P w K mg base 2 C_Reader "take" AB (eI (y_ C_Reader Ac)))(A3:∃t,mg "COMMA" = some (.str zH t))(hj:2<=j):FnOk P w K mg base (CXe P w) (j+1) f fd AA (eI (aZc C_Reader Ac n)):=by
 refine kH F jD (λC l ds Q Ex h=>by obtain⟨_,_,_,_,rfl,_⟩:=h;rfl) (by decide) λAi A outer s H E Ex hr=>?_
 have Am:=iT hr
 have Aj:=aM Am
 refine⟨_,(cO (al_ λF=>o4 (i:=2) jD.nd rfl (Or.inl rfl) (XE.at (Ex:=Ex) F (mI (bF (cv_ (i:=0) Ng (hr.mono (by omega)) (pv 0) (bF (bE (pv 1)) bV)) bV))))
  (cO (gc_ PassesOwn.leaving (jZ (eb_ (C:=C_Reader) (i:=0) CM_passes (hr.mono (by omega)) (pv 0) (bF (gd_ (by rfl) A3) bV))) (cP (kD λF=>PS.weak (fz_ (jm_ PySem.F.plainAttrs_list PySem.F.slot_list_append PySem.F.type_list_append er_ (pv 2) (kS (XE.at (Ex:=Ex) F (cv_ (i:=0) Ng (hr.mono (by omega)) (pv 0) (bF (bE (pv 1)) bV))) uL))) je_)))
  (cO (ht_ (dg_ (C:=C_Reader) (i:=0) CM_take (hr.mono (by omega)) (pv 0) (bF dL bV)))
  (cP (cZ (ez_ (pv 2))))))) ,λC a dx l ds Q h=>?_⟩
 obtain⟨rfl,t,p,rfl,rfl,A4,hp,qy,qn⟩:=h
 unfold oF fsP at qy qn
 refine⟨rfl,rfl,t,p,rfl,rfl,A4,hp,λs r hs x hx Cw=>?_,λhs=>?_⟩
 ·obtain ⟨y,hy,e⟩:=bU.mp hs
  cases e
  rw[hy,bK]at qy qn
  refine⟨by show 1<=1000000;decide,?_⟩
  change cL (nQ _ _) _ [.bo (.oi C a dx (rdr t x)),vT (.int (n:Int)),.v (.ol (xF [y.1]))] _
  generalize hW:((sepP (fldP (kP n)) y.2).bind λz=>(cW [125] z.2).bind λr=>some (y.1::z.1,r))=W0 at qy qn
  refine zC (λρ=>∃(dn:List (Str×Kd)) (x:Nat),W0=((cW [125] ((aF t).drop x)).bind λr=>some (dn,r))/\x<=t.length/\ρ=[.bo (.oi C a dx (rdr t x)),vT (.int (n:Int)),.v (.ol (xF dn))]) ?_ (λnx Cb=>?_)
  ·rintro ρ ⟨dn,x,hw,hx,rfl⟩
   refine⟨⟨rfl,rfl⟩,rfl,t, "}",x,rfl,rfl,hx,A4,λhb=>?_,λhb=>?_⟩
   ·rw [show cW [125] ((aF t).drop x)=some ((aF t).drop (x + 1)) from fa_ (a:=[125]) hb] at hw
    exact⟨rfl,rfl,rfl,qy _ _ (by rw[hw];rfl) (x+1) (gq_ (a:=[125]) hx hb) rfl⟩
   ·rw [show cW [125] ((aF t).drop x)=none from dr_ (a:=[125]) hb] at hw
    exact qn (by rw[hw];rfl)
  ·refine ⟨fun m ρ => ∃ (dn:List (Str×Kd)) (x:Nat),x + m=t.length∧dn.length + m≤t.length + 1∧W0=((sepP (fldP (kP n)) ((aF t).drop x)).bind fun z=>(cW [125] z.2).bind fun r=>some (dn ++ z.1,r))∧ρ=[.bo (.oi C a dx (rdr t x)),vT (.int (n:Int)),.v (.ol (xF dn))],⟨t.length - x,[y.1],x,by omega,by show 1 + _≤_; omega,by rw [← hW,Cw]; rfl,rfl⟩,?_⟩
   rintro m ρ ⟨dn,x,hm,Mv,hw,rfl⟩
   refine⟨⟨rfl,rfl⟩,rfl,t,zH,x,rfl,rfl,by omega,A4,λb hb=>?_⟩
   cases b with
   |false =>
    rw[mW (show cW [44,32] ((aF t).drop x)=none from dr_ (a:=[44,32]) hb.symm),bK,aS]at hw
    exact Cb _ ⟨dn,x,hw,by omega,rfl⟩
   |true =>
    have Ey:x+2<=t.length:=gq_ (a:=[44,32]) (by omega) hb.symm
    rw[iv_ (show cW [44,32] ((aF t).drop x)=some ((aF t).drop (x+2))from fa_ (a:=[44,32]) hb.symm) (λz r hz=>by rw[k_ hz,aC];omega)]at hw
    refine⟨λρ=>∃m'<m,∃(dn:List (Str×Kd)) (x:Nat),x+m'=t.length/\dn.length+m'<=t.length+1/\W0=((sepP (fldP (kP n)) ((aF t).drop x)).bind λz=>(cW [125] z.2).bind λr=>some (dn++z.1,r))/\ρ=[.bo (.oi C a dx (rdr t x)),vT (.int (n:Int)),.v (.ol (xF dn))],λρ' h=>h,?_⟩
    refine⟨rfl,rfl,rfl,t,x+2,rfl,rfl,A4,Ey,λs r hs x2 Do Fh=>?_,λhs=>?_⟩
    ·obtain ⟨z,hz,e⟩:=bU.mp hs
     cases e
     have Ak:x<x2:=by
      have h1:=congrArg List.length (k_ (l:=(aF t).drop (x+2)) (x:=z.1) (r:=z.2) hz)
      rw[aC,<-Fh,aY,aY,<-fL]at h1
      omega
     refine⟨by show(xF dn).length<1000000;rw[sL];omega,t.length-x2,by omega,dn++[z.1],x2,by omega,by rw[aC,bT];omega,?_,by rw[sK];rfl⟩
     rw[hw,hz,Fh,bK]
     cases sepP (fldP (kP n)) z.2 with
     |none=>rfl
     |some u=>simp only[bK,aK,aU,aZ]
    ·rw [cU.mp hs] at hw
     exact qn (by rw[hw];rfl)
 ·exact qn (by rw[cU.mp hs];rfl)
theorem aKa(F:Fun K "taken_kinds" "taken_kinds" ed_ f fd)(Hu:CalE P w K mg base j "taken_kind" AA (eI (y0 C_Reader Ac n)))(CM_passes:mO P w K mg base 1 C_Reader "passes" AB (spO (gPA C_Reader)))(CM_take:iV P w K mg base 2 C_Reader "take" AB (eI (y_ C_Reader Ac)))(A3:∃t,mg "COMMA" = some (.str zH t))(hj:2<=j):FnOk P w K mg base (CXe P w) (j+1) f fd AA (eI (aYz C_Reader Ac n)):=by
 refine kH F jI (λC l ds Q Ex h=>by obtain⟨_,_,_,_,rfl,_⟩:=h;rfl) (by decide) λAi A outer s H E Ex hr=>?_
 have Am:=iT hr
 have Aj:=aM Am
 refine⟨_,(cO (al_ λF=>o4 (i:=2) jI.nd rfl (Or.inl rfl) (XE.at (Ex:=Ex) F (mI (bF (cv_ (i:=0) Hu (hr.mono (by omega)) (pv 0) (bF (bE (pv 1)) bV)) bV))))
  (cO (gc_ PassesOwn.leaving (jZ (eb_ (C:=C_Reader) (i:=0) CM_passes (hr.mono (by omega)) (pv 0) (bF (gd_ (by rfl) A3) bV))) (cP (kD λF=>PS.weak (fz_ (jm_ PySem.F.plainAttrs_list PySem.F.slot_list_append PySem.F.type_list_append er_ (pv 2) (kS (XE.at (Ex:=Ex) F (cv_ (i:=0) Hu (hr.mono (by omega)) (pv 0) (bF (bE (pv 1)) bV))) uL))) je_)))
  (cO (ht_ (dg_ (C:=C_Reader) (i:=0) CM_take (hr.mono (by omega)) (pv 0) (bF dL bV)))
  (cP (cZ (ez_ (pv 2))))))) ,λC a dx l ds Q h=>?_⟩
 obtain⟨rfl,t,p,rfl,rfl,A4,hp,qy,qn⟩:=h
 unfold oS ksP at qy qn
 refine⟨rfl,rfl,t,p,rfl,rfl,A4,hp,λs r hs x hx Cw=>?_,λhs=>?_⟩
 ·obtain ⟨y,hy,e⟩:=bU.mp hs
  cases e
  rw[hy,bK]at qy qn
  refine⟨by show 1<=1000000;decide,?_⟩
  change cL (nQ _ _) _ [.bo (.oi C a dx (rdr t x)),vT (.int (n:Int)),.v (.ol (xK [y.1]))] _
  generalize hW:((sepP (kP n) y.2).bind λz=>(cW [62] z.2).bind λr=>some (y.1::z.1,r))=W0 at qy qn
  refine zC (λρ=>∃(dn:List Kd) (x:Nat),W0=((cW [62] ((aF t).drop x)).bind λr=>some (dn,r))/\x<=t.length/\ρ=[.bo (.oi C a dx (rdr t x)),vT (.int (n:Int)),.v (.ol (xK dn))]) ?_ (λnx Cb=>?_)
  ·rintro ρ ⟨dn,x,hw,hx,rfl⟩
   refine⟨⟨rfl,rfl⟩,rfl,t, ">",x,rfl,rfl,hx,A4,λhb=>?_,λhb=>?_⟩
   ·rw [show cW [62] ((aF t).drop x)=some ((aF t).drop (x + 1)) from fa_ (a:=[62]) hb] at hw
    exact⟨rfl,rfl,rfl,qy _ _ (by rw[hw];rfl) (x+1) (gq_ (a:=[62]) hx hb) rfl⟩
   ·rw [show cW [62] ((aF t).drop x)=none from dr_ (a:=[62]) hb] at hw
    exact qn (by rw[hw];rfl)
  ·refine ⟨fun m ρ => ∃ (dn:List Kd) (x:Nat),x + m=t.length∧dn.length + m≤t.length + 1∧W0=((sepP (kP n) ((aF t).drop x)).bind fun z=>(cW [62] z.2).bind fun r=>some (dn ++ z.1,r))∧ρ=[.bo (.oi C a dx (rdr t x)),vT (.int (n:Int)),.v (.ol (xK dn))],⟨t.length - x,[y.1],x,by omega,by show 1 + _≤_; omega,by rw [← hW,Cw]; rfl,rfl⟩,?_⟩
   rintro m ρ ⟨dn,x,hm,Mv,hw,rfl⟩
   refine⟨⟨rfl,rfl⟩,rfl,t,zH,x,rfl,rfl,by omega,A4,λb hb=>?_⟩
   cases b with
   |false =>
    rw[mW (show cW [44,32] ((aF t).drop x)=none from dr_ (a:=[44,32]) hb.symm),bK,aS]at hw
    exact Cb _ ⟨dn,x,hw,by omega,rfl⟩
   |true =>
    have Ey:x+2<=t.length:=gq_ (a:=[44,32]) (by omega) hb.symm
    rw[iv_ (show cW [44,32] ((aF t).drop x)=some ((aF t).drop (x+2))from fa_ (a:=[44,32]) hb.symm) (λz r hz=>by rw[aOn hz,aC];omega)]at hw
    refine⟨λρ=>∃m'<m,∃(dn:List Kd) (x:Nat),x+m'=t.length/\dn.length+m'<=t.length+1/\W0=((sepP (kP n) ((aF t).drop x)).bind λz=>(cW [62] z.2).bind λr=>some (dn++z.1,r))/\ρ=[.bo (.oi C a dx (rdr t x)),vT (.int (n:Int)),.v (.ol (xK dn))],λρ' h=>h,?_⟩
    refine⟨rfl,rfl,rfl,t,x+2,rfl,rfl,A4,Ey,λs r hs x2 Do Fh=>?_,λhs=>?_⟩
    ·obtain ⟨z,hz,e⟩:=bU.mp hs
     cases e
     have Ak:x<x2:=by
      have h1:=congrArg List.length (aOn (l:=(aF t).drop (x+2)) (x:=z.1) (r:=z.2) hz)
      rw[aC,<-Fh,aY,aY,<-fL]at h1
      omega
     refine⟨by show(xK dn).length<1000000;rw[sJ];omega,t.length-x2,by omega,dn++[z.1],x2,by omega,by rw[aC,bT];omega,?_,by rw[sI];rfl⟩
     rw[hw,hz,Fh,bK]
     cases sepP (kP n) z.2 with
     |none=>rfl
     |some u=>simp only[bK,aK,aU,aZ]
    ·rw [cU.mp hs] at hw
     exact qn (by rw[hw];rfl)
 ·exact qn (by rw[cU.mp hs];rfl)
theorem aKd(F:Fun K "taken_inner_kind" "taken_inner_kind" ck_ f fd)(CTF:CalE P w K mg base j "taken_fields" AA (eI (aZc C_Reader Ac n)))(CTS:CalE P w K mg base j "taken_kinds" AA (eI (aYz C_Reader Ac n)))(CM_passes:mO P w K mg base 1 C_Reader "passes" AB (spO (gPA C_Reader)))(CM_take:iV P w K mg base 2 C_Reader "take" AB (eI (y_ C_Reader Ac)))(CM_take_number:iV P w K mg base 2 C_Reader "take_number" AL (eI (aFw C_Reader Ac)))(Ag:∃t,mg "FIGURES_OF_A_KIND" = some (.int 2 t))(hj:2<=j):FnOk P w K mg base (CXe P w) (j+1) f fd AA (eI (aZa C_Reader Ac n)):=by
 refine kH F gW (λC l ds Q Ex h=>by obtain⟨_,_,_,_,rfl,_⟩:=h;rfl) (by decide) λAi A outer s H E Ex hr=>?_
 have Am:=iT hr
 have Aj:=aM Am
 refine⟨_,(cO (eC (jZ (eb_ (C:=C_Reader) (i:=0) CM_passes (hr.mono (by omega)) (pv 0) (bF dL bV))) (cP (cZ (lO (bF dL (bF (cv_ (i:=0) CTF (hr.mono (by omega)) (pv 0) (bF (zA (bE (pv 1)) cC) bV)) bV))))) eJ)
  (cO (eC (jZ (eb_ (C:=C_Reader) (i:=0) CM_passes (hr.mono (by omega)) (pv 0) (bF dL bV))) (cP (cZ (lO (bF dL (bF (cv_ (i:=0) CTS (hr.mono (by omega)) (pv 0) (bF (zA (bE (pv 1)) cC) bV)) bV))))) eJ)
  (cO (ht_ (dg_ (C:=C_Reader) (i:=0) CM_take (hr.mono (by omega)) (pv 0) (bF dL bV)))
  (cO (al_ λF=>o4 (i:=2) gW.nd rfl (Or.inl rfl) (XE.at (Ex:=Ex) F (dg_ (C:=C_Reader) (i:=0) CM_take_number (hr.mono (by omega)) (pv 0) (bF (zD (by rfl) Ag) bV))))
  (cO (ht_ (dg_ (C:=C_Reader) (i:=0) CM_take (hr.mono (by omega)) (pv 0) (bF dL bV)))
  (cP (cZ (lO (bF dL (bF (bE (pv 2)) (bF (dg_ (C:=C_Reader) (i:=0) CM_take_number (hr.mono (by omega)) (pv 0) (bF (zD (by rfl) Ag) bV)) bV))))))))))),λC a dx l ds Q h=>?_⟩
 obtain⟨rfl,t,p,rfl,rfl,A4,hp,qy,qn⟩:=h
 unfold oI innP at qy qn
 have Gq:[Dx.int ((n:Int)+1-1)]=[Dx.int (n:Int)]:=by congr 2;omega
 refine⟨⟨rfl,rfl⟩,rfl,t, "{",p,rfl,rfl,hp,A4,λb hb=>?_⟩
 cases b with
 |true =>
  have Fc:p+1<=t.length:=gq_ (a:=[123]) hp hb.symm
  rw[show cW [123] ((aF t).drop p)=some ((aF t).drop (p+1))from fa_ (a:=[123]) hb.symm]at qy qn
  dsimp only at qy qn
  refine⟨rfl,rfl,t,p+1,rfl,Gq,A4,Fc,λs r hs x hx Cw=>?_,λhs=>?_⟩
  ·obtain ⟨y,hy,e⟩:=bU.mp hs
   cases e
   rw[hy]at qy
   exact⟨by show 2<=1000000;decide,rfl,rfl,rfl,qy _ _ rfl x hx Cw⟩
  ·exact qn (by rw[cU.mp hs];rfl)
 |false =>
  rw[show cW [123] ((aF t).drop p)=none from dr_ (a:=[123]) hb.symm]at qy qn
  dsimp only at qy qn
  refine⟨⟨rfl,rfl⟩,rfl,t, "<",p,rfl,rfl,hp,A4,λb hb=>?_⟩
  cases b with
  |true =>
   have Fc:p+1<=t.length:=gq_ (a:=[60]) hp hb.symm
   rw[show cW [60] ((aF t).drop p)=some ((aF t).drop (p+1))from fa_ (a:=[60]) hb.symm]at qy qn
   dsimp only at qy qn
   refine⟨rfl,rfl,t,p+1,rfl,Gq,A4,Fc,λs r hs x hx Cw=>?_,λhs=>?_⟩
   ·obtain ⟨y,hy,e⟩:=bU.mp hs
    cases e
    rw[hy]at qy
    exact⟨by show 2<=1000000;decide,rfl,rfl,rfl,qy _ _ rfl x hx Cw⟩
   ·exact qn (by rw[cU.mp hs];rfl)
  |false =>
   rw[show cW [60] ((aF t).drop p)=none from dr_ (a:=[60]) hb.symm]at qy qn
   dsimp only at qy qn
   unfold numK at qy qn
   refine⟨⟨rfl,rfl⟩,rfl,t, "n",p,rfl,rfl,hp,A4,λhb=>?_,λhb=>?_⟩
   ·have Fc:p + 1≤t.length:=gq_ (a:=[110]) hp hb
    rw[show cW [110] ((aF t).drop p)=some ((aF t).drop (p+1))from fa_ (a:=[110]) hb]at qy qn
    simp only[bK]at qy qn
    refine⟨⟨rfl,rfl⟩,rfl,t,p+1,2,rfl,rfl,Fc,A4,by omega,λi hi=>?_,λBa=>?_⟩
    ·obtain ⟨e,he⟩:=tP hi Fc
     rw[e]at qy qn
     simp only[bK]at qy qn
     refine⟨⟨rfl,rfl⟩,rfl,t, "/",p+1+(cF i).length,rfl,rfl,he,A4,λhb=>?_,λhb=>?_⟩
     ·have Gy:p + 1 + (cF i).length + 1≤t.length:=gq_ (a:=[47]) he hb
      rw[show cW [47] ((aF t).drop (p+1+(cF i).length))=some ((aF t).drop (p+1+(cF i).length+1))from fa_ (a:=[47]) hb]at qy qn
      simp only[bK]at qy qn
      refine⟨⟨rfl,rfl⟩,rfl,t,p+1+(cF i).length+1,2,rfl,rfl,Gy,A4,by omega,λi2 hi2=>?_,λBa=>?_⟩
      ·obtain ⟨e2,F4⟩:=tP hi2 Gy
       rw[e2]at qy
       exact⟨by show 3<=1000000;decide,rfl,rfl,rfl,qy _ _ rfl _ F4 rfl⟩
      ·exact qn (by rw[tQ Ba];rfl)
     ·exact qn (by rw[show cW [47] ((aF t).drop (p+1+(cF i).length))=none from dr_ (a:=[47]) hb];rfl)
    ·exact qn (by rw[tQ Ba];rfl)
   ·exact qn (by rw[show cW [110] ((aF t).drop p)=none from dr_ (a:=[110]) hb];rfl)
def aZf(CN:Addr):GE:=λds Q Ex=>∃d:Dx,ds=[d]/\((∃t,d=.str t/\t.length<=100000/\(∀k,Wr 5 (aF t) k->Q (.tr k.x))/\((∀k,¬Wr 5 (aF t) k)->Ex (.ref CN)))\/noT d/\Ex (.ref CN))
theorem aKh(F:Fun K "read_kind" "read_kind" gy_ f fd)(CK_Reader:aHb P w K mg base 1 C_Reader BD (eI (aTv C_Reader Ac)))(Cv:mg "Reader" = some (.ref C_Reader))(Hu:CalE P w K mg base j "taken_kind" AA (eI (y0 C_Reader Ac 5)))(CM_take_end:iV P w K mg base 1 C_Reader "take_end" ["self"] (eI (aZd C_Reader Ac)))(CIK:Cal P w K mg base j "is_kind" AI (spX gIK))(Bl:∃t,mg "DEEPEST" = some (.int 5 t))(An:PyProof.Rows.OwnCls "NoText" Ac veM "ValueError.__new__" mg base)(hj:2<=j):FnOk P w K mg base (CXe P w) (j+1) f fd AE (spE (aZf Ac)):=by
 refine bDn F jA (λds Q Ex h=>by obtain⟨_,rfl,_⟩:=h;rfl) (by decide) λAi A outer s H E Ex hr=>?_
 have Am:=iT hr
 have Aj:=aM Am
 refine⟨_,(cO (al_ λF=>o4 (i:=1) jA.nd rfl (Or.inl rfl) (XE.at (Ex:=Ex) F (o9 CK_Reader (hr.mono (by omega)) Cv (bF (bE (pv 0)) bV))))
  (cO (al_ λF=>o4 (i:=2) jA.nd rfl (Or.inl rfl) (XE.at (Ex:=Ex) F (cv_ (i:=1) Hu (hr.mono (by omega)) (pv 1) (bF (zD (by rfl) Bl) bV))))
  (cO (ht_ (xO (C:=C_Reader) (i:=1) CM_take_end (hr.mono (by omega)) (pv 1)))
  (cO (eC (zB (jZ (fH CIK (hr.mono (by omega)) (bF (bE (pv 2)) bV)))) (cP (fi_ An rfl (by rfl))) eJ)
  (cP (cZ (ez_ (pv 2)))))))),λds Q h=>?_⟩
 clear Aj Am hj
 obtain⟨d,rfl,h⟩:=h
 intro a dx
 rcases h with⟨t,rfl,hl,qy,qn⟩ | ⟨hn,q⟩
 ·refine ⟨rfl,rfl,.str t,rfl,.inl ⟨t,rfl,?_⟩⟩
  refine⟨rfl,rfl,rfl,t,0,rfl,rfl,hl,bP _,λs r hs x hx Cw=>?_,λhs=>?_⟩
  ·obtain ⟨y,hy,e⟩:=bU.mp hs
   cases e
   rw[gH]at hy
   have hsd:=fo_ 5 _ y.1 y.2 hy
   refine⟨⟨rfl,rfl⟩,rfl,t,x,rfl,rfl,hx,hl,λe=>?_,λe=>?_⟩
   ·have Fy:y.2=[]:=by rw [← Cw,e,fL,List.drop_length]
    have Mg:kP 5 (aF t)=some (y.1,[]):=by rw[hy,<-Fy]
    have hsz:y.1.x.Sz:=aIi y.1 (by
     have:=congrArg List.length hsd
     rw[aC,<-fL]at this
     omega)
    dsimp only
    change cL (xIf _ _ _) _ [vT (.str t),.v (.ow (.oi C_Reader a dx (rdr t x))),vT y.1.x] _
    cases hi:ikN 5 y.1.x with
    |true =>
     refine mD (ρ':=[vT (.str t),.v (.ow (.oi C_Reader a dx (rdr t x))),vT y.1.x]) (λQ q=>⟨y.1.x,rfl,hsz,by rw[hi];exact q⟩) ?_
     exact qy y.1 (aWh Mg hi)
    |false =>
     refine iY true (ρ':=[vT (.str t),.v (.ow (.oi C_Reader a dx (rdr t x))),vT y.1.x]) (λQ q=>⟨y.1.x,rfl,hsz,by rw[hi];exact q⟩) (λ_=>qn λk hk=>?_) (λhb=>by cases hb)
     have:=(wE hk).symm.trans Mg
     cases this
     rw[x5 5 _ hk.1,dzT hk.2.1]at hi
     cases hi
   ·refine qn fun k hk => ?_
    have:=(wE hk).symm.trans hy
    have Fy:y.2=[]:=by cases this;rfl
    have h1:=congrArg List.length Cw
    rw[aY,<-fL,Fy,bJ]at h1
    omega
  ·refine qn fun k hk => ?_
   rw[show oK 5 t 0=(kP 5 (aF t)).map _ from by unfold oK;rw[gH],wE hk]at hs
   cases hs
 ·exact⟨rfl,rfl,d,rfl,.inr ⟨hn,q⟩⟩
end
theorem aTn(len:Nat)(i:Option Int){j:Int}(h:(len:Int)<=j):Builtin.Str.strSliceIndices i (some j) 1 len=Builtin.Str.strSliceIndices i (some (len:Int)) 1 len:=by
 have a1:¬j<0:=by omega
 have a2:¬((len:Int)<0):=by omega
 have e1:max (0:Int) (min j (len:Int))=len:=by omega
 have e2:max (0:Int) (min (len:Int) (len:Int))=len:=by omega
 simp[Builtin.Str.strSliceIndices,a1,a2,e1,e2]
theorem aLm(len:Nat)(i:Option Int){j:Int}(h:j<0)(h2:0<=j+len):Builtin.Str.strSliceIndices i (some j) 1 len=Builtin.Str.strSliceIndices i (some (j+len)) 1 len:=by
 have a2:¬(j+(len:Int)<0):=by omega
 simp[Builtin.Str.strSliceIndices,h,a2]
theorem aXd{x:Str}{i:Option Int}{j:Int}(h:(x.length:Int)<=j):Txt.slice x i (some j)=Txt.slice x i (some (x.length:Int)):=by
 show StrLaws.sliceText x i (some j)=StrLaws.sliceText x i (some (x.length:Int))
 unfold StrLaws.sliceText
 rw[aTn x.length i h]
theorem aQl{x:Str}{i:Option Int}{j:Int}(h:j<0)(h2:0<=j+x.length):Txt.slice x i (some j)=Txt.slice x i (some (j+x.length)):=by
 show StrLaws.sliceText x i (some j)=StrLaws.sliceText x i (some (j+x.length))
 unfold StrLaws.sliceText
 rw[aLm x.length i h h2]
theorem aCl{x:Str}{i j:Nat}(h0:i<=x.length)(h1:i<=j):aF (Txt.slice x (some (i:Int)) (some (j:Int)))=((aF x).drop i).take (j-i):=by
 by_cases h:j<=x.length
 ·rw [beq_iff_eq.mp (PyProof.Rows.slice_closesL (x:=x) (i:=(i:Int)) (j:=(j:Int)) (by omega) (by omega) (by omega))]
  show((aF x).drop (i:Int).toNat).take ((j:Int)-(i:Int)).toNat=_
  rw[gF,show((j:Int)-(i:Int)).toNat=j-i by omega]
 ·rw [aXd (by omega),beq_iff_eq.mp (PyProof.Rows.slice_closesL (x:=x) (i:=(i:Int)) (j:=(x.length:Int)) (by omega) (by omega) (by omega))]
  show((aF x).drop (i:Int).toNat).take ((x.length:Int)-(i:Int)).toNat=_
  rw[gF,dF (by rw[aY,<-fL];omega),dF (by rw[aY,<-fL];omega)]
theorem aXc{x:Str}(h:2<=x.length):aF (Txt.slice x (some 1) (some (-1)))=((aF x).drop 1).take (x.length-2):=by
 rw[aQl (by decide) (by omega),show(-1+(x.length:Int))=((x.length-1:Nat):Int) by omega,show((1:Int))=((1:Nat):Int)from rfl,aCl (by omega) (by omega)]
 congr 1
theorem aCk{x:Str}{j:Nat}:aF (Txt.slice x none (some (j:Int)))=(aF x).take j:=by
 rw[beq_iff_eq.mp (PyProof.Rows.slice_to_min_closes (x:=x) (n:=(j:Int)) (m:=_) (by omega) rfl)]
 show((aF x).drop (0:Int).toNat).take _=_
 rw[show(0:Int).toNat=0 from rfl,gH]
 split
 ·rw[dF (by rw[<-fL];omega),dF (by rw[<-fL];omega)]
 ·congr 1
theorem c7{x:Str}{i:Nat}(h:i<=x.length):aF (Txt.slice x (some (i:Int)) none)=(aF x).drop i:=by
 rw[PyProof.Rows.slice_from_eq (x:=x) (b:=x.length) (by omega) (by omega) rfl]
 show((aF x).drop (i:Int).toNat).take _=_
 rw[gF,dF (by rw[aY,<-fL];omega)]
def pP:GC:=λds Q=>∃x:Str,ds=[.str x]/\x.length<=100000/\(∀n,0<=n->x=cF n->x.length<=20->Q (.tr (.int n)))/\(¬(uZ (aF x)/\x.length<=20)->Q (.tr (.int (-1))))
section
variable{f:Addr}{n j:Nat}
theorem aKl(F:Fun K "_law_number" "_law_number" fy_ f fd)(Ad:mg "len" = none)(m_int:mg "int" = none):FnOk P w K mg base CX0 1 f fd BB (spX pP):=by
 refine lF F kF (λds Q h=>by obtain⟨_,rfl,_⟩:=h;rfl) (by decide) λAi A outer s H E hr=>?_
 have Am:=iT hr
 have Aj:=aM Am
 refine⟨_,(cO (eC (XW.pt (qI (dW (iJ K Aj) iP (bE (pv 0)) dL (bD _)) (qI (dW ip_ io_ (jV (mF K) nJ (by rfl) Ad PySem.boot_len (bF (bE (pv 0)) bV)) cC (bD _)) (uM (XW.pt (ig_ (dW ip_ io_ (jV (mF K) nJ (by rfl) Ad PySem.boot_len (bF (bE (pv 0)) bV)) cC (bD _)) (fv_ (dW (iJ K Aj) iP (gJ K (pv 0)) dL (bD _))))))))) (cP (cZ (ih_ cC))) eJ)
  (cO (hc_ PassesOwn.never rfl (sF (bE (pv 0))) (jP (i:=1) kF.nd rfl (Or.inl rfl)) (rP (n:=99) (i:=1) (by decide)) (cP (eC (dW ik_ aDw (bE (pv 1)) dL (by with_unfolding_all rfl)) (cP (cZ (ih_ cC))) eJ)))
  (cP (cZ (zK rT n4 (by rfl) m_int fs_ (bF (bE (pv 0)) bV)))))),λds Q h=>?_⟩
 clear Aj Am
 obtain⟨x,rfl,Jw,qy,qn⟩:=h
 by_cases hA:x = "" \/ 20<x.length\/∃r,aF x=48::r/\r≠[]
 ·refine iY true (ρ':=[vT (.str x),.un]) (fun Q q => ?_) (fun _ => ?_) (fun hb=>by cases hb)
  ·show if decide (x = "")=true then _ else _
   by_cases h0:x = ""
   ·rw[dzT h0];exact q
   rw[dzF h0]
   refine⟨by show x.length<=1000000;omega,?_⟩
   show if decide ((20:Int)<(x.length:Int))=true then _ else _
   by_cases h1:20<x.length
   ·rw[dzT (by omega)];exact q
   rw[dzF (by omega)]
   obtain⟨r,Fy,hr1⟩:=(hA.resolve_left h0).resolve_left h1
   have Id:atI x.cps.toList 0=some 48:=rO (xs:=aF x) (j:=0) (by rw[Fy];rfl)
   have Ak:x.length=r.length+1:=by rw[fL,Fy];rfl
   have hrp:=List.length_pos_iff.mpr hr1
   refine⟨by show x.length<=1000000;omega,?_⟩
   show if decide ((1:Int)<(x.length:Int))=true then _ else _
   rw[dzT (by omega)]
   refine⟨by show x.length<=1000000;omega,?_⟩
   show match atI x.cps.toList 0 with | some c=>_ | none=>False
   rw[Id]
   show Q (decide ((⟨#[48]⟩:Str) = "0")) _
   rw[dzT (show(⟨#[48]⟩:Str) = "0" from by decide)]
   exact q
  ·refine qn fun h => ?_
   obtain⟨⟨_,c,r,e,hc⟩,hl⟩:=h
   rcases hA with rfl | h | ⟨r',e',Kr⟩
   ·cases e
   ·omega
   ·rw [e] at e'
    cases e'
    rcases hc with hc | hc
    ·exact Kr hc
    ·exact hc rfl
 ·have h0:x ≠ "" := fun z=>hA (.inl z)
  have h1:x.length<=20:=Nat.not_lt.mp λz=>hA (.inr (.inl z))
  obtain⟨c,r,hc⟩:∃c r,aF x=c::r:=by
   cases e:aF x with
   |nil=>exact absurd (qQ (y:= "") (by rw[e];rfl)) h0
   |cons c r=>exact⟨c,r,rfl⟩
  have Ak:x.length=r.length+1:=by rw[fL,hc];rfl
  refine mD (ρ':=[vT (.str x),.un]) (λQ q=>?_) ?_
  ·show if decide (x = "")=true then _ else _
   rw[dzF h0]
   refine⟨by show x.length<=1000000;omega,?_⟩
   show if decide ((20:Int)<(x.length:Int))=true then _ else _
   rw[dzF (by omega)]
   refine⟨by show x.length<=1000000;omega,?_⟩
   show if decide ((1:Int)<(x.length:Int))=true then _ else _
   by_cases h2:1<x.length
   ·rw [dzT (by omega)]
    have Id:atI x.cps.toList 0=some c:=rO (xs:=aF x) (j:=0) (by rw[hc];rfl)
    refine⟨by show x.length<=1000000;omega,?_⟩
    show match atI x.cps.toList 0 with | some c=>_ | none=>False
    rw[Id]
    have G0:(⟨#[c]⟩:Str) ≠ "0":=λz=>by
     have h3:=congrArg aF z
     have h4:c=48:=(List.cons.inj (show [c]=[48]from h3)).1
     subst h4
     exact hA (.inr (.inr ⟨r,hc,λz=>by rw[z]at Ak;simp at Ak;omega⟩))
    show Q (decide ((⟨#[c]⟩:Str) = "0")) _
    rw[dzF G0]
    exact q
   ·rw [dzF (by omega)]
    exact q
  ·refine zC (fun ρ=>(∀ c∈aF x,inT eU c=true)∧∃ y,ρ=[vT (.str x),y]) ?_ (fun nx Cb => ?_)
   ·rintro ρ ⟨Cd,y,rfl⟩
    have hF:uZ (aF x):=⟨Cd,c,r,hc,by
     by_cases h4:c=48
     ·subst h4
      exact .inl (Classical.byContradiction λz=>hA (.inr (.inr ⟨r,hc,z⟩)))
     ·exact .inr h4⟩
    obtain⟨i,Mt,hi⟩:=pR hF
    have ex:x=cF i:=qQ hi
    have q':=qy i Mt ex h1
    rw[ex]at h1
    refine⟨x,i,rfl,by omega,by rw[ex];exact nW Mt (by omega),q'⟩
   ·show iR _ _ _ (sgX x) _
    have esg:sgX x=(aF x).map λc=>Dx.str ⟨#[c]⟩:=rfl
    rw[esg]
    refine dj_ (λc:Nat=>Dx.str ⟨#[c]⟩) (λtd ρ=>∃dn y,aF x=dn++td/\(∀c∈dn,inT eU c=true)/\ρ=[vT (.str x),y]) (λρ h=>?_) (λg tr ρ Kn h hk=>?_) ⟨[],.un,rfl,(λc h=>by cases h),rfl⟩
    ·obtain ⟨dn,y,e,hd,rfl⟩:=h
     rw[aS]at e
     exact Cb _ ⟨by rw[e];exact hd,y,rfl⟩
    ·obtain ⟨dn,y,e,hd,rfl⟩:=h
     show if(!(inT eU g))=true then _ else _
     cases hg:inT eU g with
     | true => exact hk _ ⟨dn ++ [g], _, by rw [e, aK]; rfl, (fun c hc => by
       rcases bL.mp hc with h | h
       ·exact hd c h
       ·rw[aG.mp h];exact hg),rfl⟩
     |false =>
      refine qn λh=>?_
      have:=h.1.1 g (by rw[e];exact aJ _ aA)
      rw[hg]at this
      cases this
end
def lvl(c:Nat):Int:=(if inT "{<[" c=true then 1 else 0)-(if inT "}>]" c=true then 1 else 0)
def gE:List Nat->Bool->Int->List (List Nat)->List Nat->Option (List (List Nat))
 | [],_,lv,dn,cur=>if 0<lv then none else some (dn++[cur])
 |_::r,true,lv,dn,cur=>gE r false lv dn cur
 |c::r,false,lv,dn,cur=>if lv=0/\(c::r).take 2=[44,32]then gE r true lv (dn++[cur]) []else if lv+lvl c<0 then none else gE r false (lv+lvl c) dn (cur++[c])
def txS(l:List Nat):Dx:=.str ⟨l.toArray⟩
def aTu:GC:=λds Q=>∃t:Str,ds=[.str t]/\t.length<=400000/\(∀ps,gE (aF t) false 0 [] []=some ps->Q (.ol (ps.map txS)))/\(gE (aF t) false 0 [] []=none->Q (.tr .non))
theorem aIm{cur:List Nat}{c:Nat}:((⟨cur.toArray⟩:Str)++(⟨#[c]⟩:Str))=⟨(cur++[c]).toArray⟩:=qQ (by rw[lP];rfl)
theorem aYg(c:Nat) : -1<=lvl c/\lvl c<=1:=by unfold lvl;split<;>split<;>omega
theorem aLv{c:XC}{G K:XS}{ρ ρ':En}{D:XD}(hc:∀Q:Bool->En->Prop,Q false ρ'->c ρ Q)(h:K ρ' D):xIf c G K ρ D:=hc _ h
theorem jy_{c:XC}{G K:XS}{ρ ρ':En}{D:XD}(hc:∀Q:Bool->En->Prop,Q true ρ'->c ρ Q)(h:G ρ' D):xIf c G K ρ D:=hc _ h
section
variable{f:Addr}{n j:Nat}
theorem aKi(F:Fun K "_law_parts" "_law_parts" gz_ f fd)(Ad:mg "len" = none)(m_int:mg "int" = none):FnOk P w K mg base CX0 1 f fd AE (spX aTu):=by
 refine lF F eP (λds Q h=>by obtain⟨_,rfl,_⟩:=h;rfl) (by decide) λAi A outer s H E hr=>?_
 have Am:=iT hr
 have Aj:=aM Am
 refine⟨_,(cO (gA (i:=1) eP.nd rfl (Or.inl rfl) (mI (bF dL bV)))
  (cO (gA (i:=2) eP.nd rfl (Or.inl rfl) cC)
  (cO (gA (i:=3) eP.nd rfl (Or.inl rfl) cC)
  (cO (gc_ PassesOwn.never (dW xJ xL (bE (pv 3)) (jV (mF K) nJ (by rfl) Ad PySem.boot_len (bF (bE (pv 0)) bV)) (bD _)) (cO (eC (XW.pt (ig_ (dW (iJ K Aj) iP (bE (pv 2)) cC (bD _)) (fv_ (dW (iJ K Aj) iP (kX K (bE (pv 0)) (jQ (bE (pv 3))) (jQ (eZ (bE (pv 3)) cC))) dL (bD _))))) (cO (kD λF=>PS.weak (fz_ (jm_ PySem.F.plainAttrs_list PySem.F.slot_list_append PySem.F.type_list_append er_ (pv 1) (kS (XE.at (Ex:=fZ) F dL) uL))) je_)
  (cP (gA (i:=3) eP.nd rfl (Or.inl rfl) (eZ (bE (pv 3)) cC)))) (cO (gA (i:=2) eP.nd rfl (Or.inl rfl) (zA (eZ (bE (pv 2)) (zK dv_ im_ (by rfl) m_int fs_ (bF (xM eq_ jn_ (kW K (bE (pv 0)) (bE (pv 3)) (λ_ _=>rfl)) dL (by with_unfolding_all rfl)) bV))) (zK dv_ im_ (by rfl) m_int fs_ (bF (xM eq_ jn_ (kW K (bE (pv 0)) (bE (pv 3)) (λ_ _=>rfl)) dL (by with_unfolding_all rfl)) bV))))
  (cP (kD λF=>PS.weak (oV (XE.at (Ex:=fZ) F (eZ (zU K (pv 1) (ih_ cC) (λ_ _=>rfl)) (kW K (bE (pv 0)) (bE (pv 3)) (λ_ _=>rfl)))) (aRe (pv 1) (XE.at (Ex:=fZ) F (ih_ cC)) aCq)) aIq))))
  (cO (eC (dW xJ xL (bE (pv 2)) cC (bD _)) (cP (cZ mJ)) eJ)
  (cP (gA (i:=3) eP.nd rfl (Or.inl rfl) (eZ (bE (pv 3)) cC))))))
  (cO (eC (dW ip_ io_ (bE (pv 2)) cC (bD _)) (cP (cZ mJ)) eJ)
  (cP (cZ (ez_ (pv 1))))))))),λds Q h=>?_⟩
 clear Aj Am
 obtain⟨t,rfl,A4,qy,qn⟩:=h
 have Mo:=fL t
 refine⟨(by show 1<=1000000;decide),?_⟩
 dsimp only
 show cL (nQ _ _) _ [vT (.str t),.v (.ol [.str ""]),vT (.int 0),vT (.int 0)] _
 generalize hW:gE (aF t) false 0 [] []=W at qy qn
 refine zC (λρ=>∃(lv:Int) (dn:List (List Nat)) (cur:List Nat) (k:Int),0<=lv/\W=(if 0<lv then none else some (dn++[cur]))/\ρ=[vT (.str t),.v (.ol ((dn++[cur]).map txS)),vT (.int lv),vT (.int k)]) ?_ (λnx Cb=>?_)
 ·rintro ρ ⟨lv,dn,cur,k,h0,hw,rfl⟩
  by_cases hl:0<lv
  ·rw [if_pos hl] at hw
   refine iY true (ρ':=[vT (.str t),.v (.ol ((dn++[cur]).map txS)),vT (.int lv),vT (.int k)]) (λQ q=>?_) (λ_=>qn hw) (λhb=>by cases hb)
   show Q (decide ((0:Int)<lv)) _
   rw[dzT hl]
   exact q
  ·rw [if_neg hl] at hw
   refine mD (ρ':=[vT (.str t),.v (.ol ((dn++[cur]).map txS)),vT (.int lv),vT (.int k)]) (λQ q=>?_) ?_
   ·show Q (decide ((0:Int) < lv)) _
    rw[dzF hl]
    exact q
   ·exact qy _ hw
 ·refine ⟨fun m ρ => ∃ (lv:Int) (dn:List (List Nat)) (cur:List Nat) (k:Nat),k + m=t.length∧0≤lv∧lv≤k∧dn.length≤k∧cur.length≤k∧W=gE ((aF t).drop k) false lv dn cur∧ρ=[vT (.str t),.v (.ol ((dn ++ [cur]).map txS)),vT (.int lv),vT (.int (k:Int))],⟨t.length,0,[],[],0,by omega,dP _,dP _,aV _,aV _,hW.symm,rfl⟩,?_⟩
  rintro m ρ ⟨lv,dn,cur,k,hk,hl0,hlk,hdk,hck,hw,rfl⟩
  refine⟨by show t.length<=1000000;omega,?_⟩
  by_cases Da:k<t.length
  ·have hd:decide ((k:Int) < ((t.length:Nat):Int))=true:=dzT (by omega)
   refine(if_pos hd).mpr ?_
   obtain⟨c,hc⟩:∃c,(aF t)[k]? = some c:=⟨_,aR (by omega)⟩
   have Gc:atI t.cps.toList (k:Int)=some c:=rO hc
   have Cw:(aF t).drop k=c::(aF t).drop (k+1):=by
    have h1:=eY (l:=aF t) (i:=k) (by omega)
    rw[aR (by omega)]at hc
    rw[h1,ozI hc]
   rw[Cw]at hw
   simp only[gE]at hw
   have Eg:decide (Txt.slice t (some (k:Int)) (some ((k:Int)+2)) = ", ")=decide ((c::(aF t).drop (k+1)).take 2=[44,32]):=by
    have e:=aCl (x:=t) (i:=k) (j:=k+2) (by omega) (by omega)
    rw[show k+2-k=2 by omega,Cw]at e
    have e2:(((k+2:Nat)):Int)=(k:Int)+2:=by omega
    rw[e2]at e
    by_cases h:Txt.slice t (some (k:Int)) (some ((k:Int)+2)) = ", "
    ·rw[dzT h,dzT (by rw[<-e,h];decide)]
    ·rw[dzF h,dzF (λz=>h (qQ (by rw[e,z];decide)))]
   refine⟨λρ=>∃m',m'<m/\∃(lv:Int) (dn:List (List Nat)) (cur:List Nat) (k:Nat),k+m'=t.length/\0<=lv/\lv<=k/\dn.length<=k/\cur.length<=k/\W=gE ((aF t).drop k) false lv dn cur/\ρ=[vT (.str t),.v (.ol ((dn++[cur]).map txS)),vT (.int lv),vT (.int (k:Int))],λρ' h=>h,?_⟩
   by_cases Ct:lv=0/\(c::(aF t).drop (k+1)).take 2=[44,32]
   ·rw [if_pos Ct] at hw
    obtain⟨rfl,h2⟩:=Ct
    obtain⟨r,Im⟩:∃r,(aF t).drop (k+1)=32::r:=by
     cases e:(aF t).drop (k+1)with
     |nil=>rw[e]at h2;cases h2
     |cons d r=>rw[e]at h2;simp at h2;rw[h2.2];exact⟨r,rfl⟩
    have Kq:(aF t).drop (k+2)=r:=by rw[show k+2=k+1+1 from rfl,<-List.drop_drop,Im];rfl
    have hk2:k+2<=t.length:=by
     have:=congrArg List.length Im
     rw[aY,aE,<-fL]at this
     omega
    rw[Im]at hw
    simp only[gE]at hw
    refine dp_ (M:=λρ=>ρ=[vT (.str t),.v (.ol (((dn++[cur])++[[]]).map txS)),vT (.int 0),vT (.int ((k:Int)+1))]) ?_ ?_
    ·rintro ρ rfl
     refine mD (ρ':=[vT (.str t),.v (.ol (((dn++[cur])++[[]]).map txS)),vT (.int 0),vT (.int ((k:Int)+1))]) (λQ q=>(by
      show Q (decide ((0:Int)<0)) _
      exact q)) ?_
     refine⟨m-2,by omega,0,dn++[cur],[],k+2,by omega,dP _,by omega,by simp only[aC,bT];omega,bP _,by rw[Kq];exact hw,?_⟩
     rw[show(((k+2:Nat)):Int)=(k:Int)+1+1 by omega]
     rfl
    ·intro D' Ly
     refine jy_ (ρ':=[vT (.str t),.v (.ol ((dn++[cur]).map txS)),vT (.int 0),vT (.int (k:Int))]) (λQ q=>?_) ?_
     ·refine ⟨by show t.length≤1000000; omega,?_⟩
      show Q (decide (Txt.slice t (some (k:Int)) (some ((k:Int)+2)) = ", ")) _
      rw[Eg,dzT h2]
      exact q
     refine⟨rfl,(by show((dn++[cur]).map txS).length<1000000;simp only[aD,aC,bT];omega),Ly _ ?_⟩
     simp only[bM,aO,dG,aK,aU,aZ]
     rfl
   ·rw [if_neg Ct] at hw
    have hlv:=aYg c
    refine dp_ (M:=λρ=>ρ=[vT (.str t),.v (.ol ((dn++[cur++[c]]).map txS)),vT (.int (lv+lvl c)),vT (.int (k:Int))]) ?_ ?_
    ·rintro ρ rfl
     by_cases F1:lv+lvl c<0
     ·rw [if_pos F1] at hw
      refine iY true (ρ':=[vT (.str t),.v (.ol ((dn++[cur++[c]]).map txS)),vT (.int (lv+lvl c)),vT (.int (k:Int))]) (λQ q=>?_) (λ_=>qn hw) (λhb=>by cases hb)
      show Q (decide (lv+lvl c<0)) _
      rw[dzT F1]
      exact q
     ·rw [if_neg F1] at hw
      refine mD (ρ':=[vT (.str t),.v (.ol ((dn++[cur++[c]]).map txS)),vT (.int (lv+lvl c)),vT (.int (k:Int))]) (λQ q=>?_) ?_
      ·show Q (decide (lv + lvl c < 0)) _
       rw[dzF F1]
       exact q
      ·exact⟨m-1,by omega,lv+lvl c,dn,cur++[c],k+1,by omega,by omega,by omega,by omega,by rw[aC,bT];omega,hw,rfl⟩
    ·intro D' Ly
     refine aLv (ρ':=[vT (.str t),.v (.ol ((dn++[cur]).map txS)),vT (.int lv),vT (.int (k:Int))]) (λQ q=>?_) ?_
     ·show if decide (lv=0)=true then _ else _
      by_cases h0:lv=0
      ·rw [if_pos (dzT h0)]
       refine⟨by show t.length<=1000000;omega,?_⟩
       show Q (decide (Txt.slice t (some (k:Int)) (some ((k:Int)+2)) = ", ")) _
       rw[Eg,dzF (λz=>Ct ⟨h0,z⟩)]
       exact q
      ·rw [if_neg (by rw [decide_eq_true_eq]; exact h0)]
       exact q
     ·refine dp_ (M:=fun ρ=>ρ=[vT (.str t),.v (.ol ((dn ++ [cur]).map txS)),vT (.int (lv + lvl c)),vT (.int (k:Int))]) ?_ (fun D2 Lx => ?_)
      case refine_2 =>
       refine⟨by show t.length<=1000000;omega,?_⟩
       show match atI t.cps.toList (k:Int)with | some c=>_ | none=>False
       rw[Gc]
       refine⟨by show t.length<=1000000;omega,?_⟩
       show match atI t.cps.toList (k:Int)with | some c=>_ | none=>False
       rw[Gc]
       refine Lx _ ?_
       have G1:lv+(if inT "{<[" c=true then 1 else 0)-(if inT "}>]" c=true then 1 else 0)=lv+lvl c:=by unfold lvl;omega
       rw[<-G1]
       rfl
      rintro ρ rfl
      have Mn:(dn++[cur]).map txS=dn.map txS++[txS cur]:=by rw[bM];rfl
      have Ls:atI ((dn++[cur]).map txS) (-1)=some (txS cur):=by
       unfold atI ixN
       rw[Mn,if_neg (by decide),if_pos (by simp;omega)]
       simp only[bK,aC,bT]
       rw[show(-1+(((dn.map txS).length+1:Nat):Int)).toNat=(dn.map txS).length by omega]
       simp
      refine⟨rfl,?_⟩
      show match atI ((dn++[cur]).map txS) (-1)with | some c=>_ | none=>False
      rw[Ls]
      refine⟨by show t.length<=1000000;omega,?_⟩
      show match atI t.cps.toList (k:Int)with | some c=>_ | none=>False
      rw[Gc]
      refine⟨by show(⟨cur.toArray⟩:Str).length+1<=1000000;rw[fL];show cur.length+1<=1000000;omega,rfl,?_⟩
      have K8:ixN ((dn++[cur]).map txS).length (-1)=some dn.length:=by
       unfold ixN
       rw[if_neg (by decide),if_pos (by simp;omega)]
       simp only[aD,aC,bT]
       rw[show(-1+((dn.length+1:Nat):Int)).toNat=dn.length by omega]
      show match ixN ((dn++[cur]).map txS).length (-1)with | some n=>_ | none=>False
      rw[K8]
      refine Ly _ ?_
      show [Sl.v (.tr (.str t)),.v (.ol (((dn++[cur]).map txS).set dn.length (.str ((⟨cur.toArray⟩:Str)++(⟨#[c]⟩:Str))))),vT (.int (lv+lvl c)),vT (.int (k:Int))]=_
      have Ko:((dn++[cur]).map txS).set dn.length (.str (⟨(cur++[c]).toArray⟩:Str))=(dn++[cur++[c]]).map txS:=by
       rw[Mn,List.set_append]
       simp[txS]
      rw[aIm,Ko]
  ·have hd:¬ (decide ((k:Int) < ((t.length:Nat):Int))=true):=by rw [decide_eq_true_eq]; omega
   refine(if_neg hd).mpr ?_
   rw[List.drop_of_length_le (by omega)]at hw
   exact Cb _ ⟨lv,dn,cur,k,hl0,hw,rfl⟩
end
def gX(ps:List (List Nat)):List Nat:=(ps.map λp=>44::32::p).flatten
theorem uD(a b:List (List Nat)):gX (a++b)=gX a++gX b:=by simp only[gX,bM,gR]
theorem nH(a:List Nat):gX [a]=44::32::a:=by simp[gX]
theorem ex_(a:List Nat)(b:List (List Nat)):gX (a::b)=44::32::(a++gX b):=by simp[gX]
theorem mY:∀{l:List Nat} {b:Bool} {lv:Int} {dn:List (List Nat)} {cur:List Nat} {ps:List (List Nat)},gE l b lv dn cur=some ps->gX ps=gX (dn++[cur])++(if b=true then l.tail else l)
 | [],b,lv,dn,cur,ps,h=>by
  have e:gE [] b lv dn cur=if 0<lv then none else some (dn++[cur]):=by cases b<;>rfl
  rw[e]at h
  split at h
  ·cases h
  ·cases h
   cases b<;>simp
 |c::r,true,lv,dn,cur,ps,h=>by
  simp only[gE]at h
  have:=mY h
  simpa using this
 |c::r,false,lv,dn,cur,ps,h=>by
  simp only[gE]at h
  split at h
  ·rename_i Ct
   have e:=mY h
   have h2:=Ct.2
   cases r with
   |nil=>cases h2
   |cons d r =>
    simp at h2
    rw[h2.1,h2.2]
    rw[e,uD (dn++[cur]) [[]],nH]
    simp
  ·split at h
   ·cases h
   ·have e:=mY h
    rw[e,uD,uD,nH,nH]
    simp
def Sld(n:Int)(l:List Nat):Prop:=∀lv:Int,n<=lv->∀dn cur rest,gE (l++rest) false lv dn cur=gE rest false lv dn (cur++l)
theorem xX{n:Int}:Sld n []:=λlv _ dn cur rest=>by rw[aZ,aS]
theorem fr_{n:Int}{a b:List Nat}(ha:Sld n a)(hb:Sld n b):Sld n (a++b):=λlv h dn cur rest=>by
 rw[aK,ha lv h,hb lv h,aK]
theorem sS{n:Int}{c:Nat}(h0:0<=n)(h1:c≠44\/1<=n)(h2:lvl c=0):Sld n [c]:=λlv h dn cur rest=>by
 show gE (c::rest) false lv dn cur=_
 simp only[gE]
 rw[if_neg (λz=>by
  rcases h1 with h1 | h1
  ·have:=z.2
   cases rest with
   |nil=>cases this
   |cons d r=>simp at this;exact h1 this.1
  ·have:=z.1;omega),h2,Int.add_zero,if_neg (by omega)]
theorem aNx{l:List Nat}(h:Sld 0 l):Sld 1 l:=λlv hl=>h lv (by omega)
theorem aNy{m:List Nat}{o c:Nat}(hm:Sld 1 m)(ho:lvl o=1)(hc:lvl c = -1)(Kz:o≠44)(Lo:c≠44):Sld 0 (o::(m++[c])):=λlv h dn cur rest=>by
 show gE (o::((m++[c])++rest)) false lv dn cur=_
 simp only[gE]
 have n1:∀(x:Nat) (r:List Nat),x≠44->¬(x::r).take 2=[44,32]:=λx r hx z=>by
  cases r with
  |nil=>cases z
  |cons d r=>simp at z;exact hx z.1
 rw[if_neg (λz=>n1 _ _ Kz z.2),ho,if_neg (by omega),aK,hm (lv+1) (by omega)]
 show gE (c::rest) false (lv+1) dn (cur++[o]++m)=_
 simp only[gE]
 rw[if_neg (λz=>n1 _ _ Lo z.2),hc,show lv+1 + -1=lv by omega,if_neg (by omega)]
 simp
theorem xY{n:Int}(h0:0<=n):∀{l:List Nat},(∀c∈l,c≠44/\lvl c=0)->Sld n l
 | [],_=>xX
 |c::r,h=>fr_ (a:=[c]) (sS h0 (.inl (h c aA).1) (h c aA).2) (xY h0 λx hx=>h x (aB _ hx))
theorem aSx{c:Nat}(h:c∉aF "{<[" /\ c∉aF "}>]"):lvl c=0:=by
 unfold lvl
 rw[if_neg (λz=>h.1 (lE.mp z)),if_neg (λz=>h.2 (lE.mp z))]
 rfl
theorem aMx:aF "{<[" = [123,60,91]:=by decide
theorem aMy:aF "}>]" = [125,62,93]:=by decide
theorem cq_{c:Nat}(h:c<=59\/97<=c/\c<=122):lvl c=0:=aSx (by rw[aMx,aMy];simp;omega)
theorem xW{n:Int}(h:0<=n):Sld 0 (aF (cF n)):=xY (dP _) λc hc=>by
 have:=lW ((fx_ h).1 c hc)
 exact⟨by omega,cq_ (.inl (by omega))⟩
theorem aQm:Sld 1 [44,32]:=fr_ (a:=[44]) (sS (by decide) (.inr (by decide)) (cq_ (.inl (by decide)))) (sS (by decide) (.inr (by decide)) (cq_ (.inl (by decide))))
theorem aCn{ps:List (List Nat)}(h:∀p∈ps,Sld 0 p):Sld 1 ((gX ps).drop 2):=by
 cases ps with
 |nil=>exact xX
 |cons p r =>
  rw[ex_]
  show Sld 1 (p++gX r)
  refine fr_ (aNx (h p aA)) ?_
  have h':∀q∈r,Sld 0 q:=λq hq=>h q (aB _ hq)
  clear h
  induction r with
  |nil=>exact xX
  |cons q r ih =>
   rw[ex_]
   exact fr_ (a:=[44,32]) aQm (fr_ (aNx (h' q aA)) (ih λx hx=>h' x (aB _ hx)))
theorem d9:∀{qs:List (List Nat)} {q:List Nat} {dn:List (List Nat)},Sld 0 q->(∀p∈qs,Sld 0 p)->gE (q++gX qs) false 0 dn []=some (dn++q::qs)
 | [],q,dn,hq,_=>by
  rw[hq 0 (dP _),aZ]
  rfl
 |p::qs,q,dn,hq,h=>by
  rw[hq 0 (dP _),aZ,ex_]
  simp only[gE]
  rw[if_pos ⟨trivial,rfl⟩,d9 (h p aA) (λx hx=>h x (aB _ hx))]
  simp
theorem aDh{ps:List (List Nat)}(Cg:ps≠[])(h:∀p∈ps,Sld 0 p):gE ((gX ps).drop 2) false 0 [] []=some ps:=by
 cases ps with
 |nil=>exact absurd rfl Cg
 |cons q qs =>
  rw[ex_]
  exact d9 (dn:=[]) (h q aA) (λx hx=>h x (aB _ hx))
theorem tE{l:List Nat}{ps:List (List Nat)}(h:gE l false 0 [] []=some ps):l=(gX ps).drop 2/\ps≠[]:=by
 have e:=mY h
 rw[aZ,nH]at e
 refine⟨by rw[e];rfl,λz=>by rw[z]at e;cases e⟩
theorem yH(t:Str):(32∉aF t/\Txt.partition t " " = (t,("" : Str),("" : Str)))\/∃a b,aF t=a++32::b/\32∉a/\Txt.partition t " " = ((⟨a.toArray⟩:Str),(" " : Str),(⟨b.toArray⟩:Str)):=by
 have e32:(" " : Str)=⟨#[32]⟩:=by decide
 rw[e32]
 rcases PyProof.Rows.partition_whole t ⟨#[32]⟩with⟨hp,hn⟩ | ⟨i,hp,hi,hk⟩
 ·refine .inl ⟨fun z => ?_,hp⟩
  obtain⟨i,hi⟩:=(PyProof.Rows.mem_iff_at t 32).mp z
  exact hn i hi
 ·refine .inr ⟨aF (Builtin.Str.strSub t 0 i),aF (Builtin.Str.strSub t (i + 1) t.length),?_,?_,?_⟩
  ·have e:=PySem.StrLaws.partition_sum t ⟨#[32]⟩
   rw[hp]at e
   have e2:=congrArg aF e
   rw[lP,lP,aK]at e2
   exact e2.symm
  ·exact PySem.StrLaws.part_free t 32 0 i (by have:=hi.1;omega) (λk _ hki=>hk k hki)
  ·rw [hp]
   rfl
theorem sQ{c:Nat}:∀{a a' b b':List Nat},c∉a->c∉a'->a++c::b=a'++c::b'->a=a'/\b=b'
 | [],[],b,b',_,_,h=>⟨rfl,(List.cons.inj h).2⟩
 | [],x::a',b,b',_,h2,h=>absurd ((List.cons.inj h).1 ▸ aA) h2
 |x::a,[],b,b',h1,_,h=>absurd ((List.cons.inj h).1 ▸ aA) h1
 |x::a,y::a',b,b',h1,h2,h=>by
  obtain⟨e,h'⟩:=List.cons.inj h
  obtain⟨e1,e2⟩:=sQ (λz=>h1 (aB _ z)) (λz=>h2 (aB _ z)) h'
  exact⟨by rw[e,e1],e2⟩
theorem j_:∀{ps:List (List Nat)} {p:List Nat},p∈ps->p.length+2<=(gX ps).length
 |q::r,p,h=>by
  rw[ex_,aE,aE,aC]
  rcases aI.mp h with rfl | h
  ·omega
  ·have:=j_ h;omega
theorem k7:∀{ps:List (List Nat)},ps.length<=(gX ps).length
 | []=>bP _
 |q::r=>by
  rw[ex_,aE,aE,aE,aC]
  have:=k7 (ps:=r)
  omega
theorem g9:lvl 123=1:=by decide +kernel
theorem g8:lvl 125 = -1:=by decide +kernel
theorem aEt:lvl 60=1:=by decide +kernel
theorem aEs:lvl 62 = -1:=by decide +kernel
theorem hv_{α:Type}(wr:α->List Nat)(ys:List α):kK wr ys=gX (ys.map wr):=by unfold kK gX;rw[cK];rfl
theorem aIw{c:Nat}(h:c≠44)(h2:c<=59\/97<=c/\c<=122):Sld 0 [c]:=sS (by decide) (.inl h) (cq_ h2)
theorem aXb{x:Str}(h:Nm x):Sld 0 (aF x):=xY (dP _) λc hc=>by
 have:=h.2.2 c hc
 exact⟨by omega,cq_ (.inr this)⟩
mutual
theorem aFb:∀{k:Kd},k.Fit->Sld 0 k.w
 | .num w m,hF=>by
  simp only[Kd.Fit]at hF
  simp only[Kd.w]
  exact fr_ (a:=[110]) (aIw (by decide) (.inr (by decide))) (fr_ (xW (by omega)) (fr_ (a:=[47]) (aIw (by decide) (.inl (by decide))) (xW (by omega))))
 | .row k m,hF=>by
  simp only[Kd.Fit]at hF
  simp only[Kd.w]
  exact fr_ (aFb hF.1) (fr_ (a:=[42]) (aIw (by decide) (.inl (by decide))) (xW (by omega)))
 | .rcd fs,hF=>by
  simp only[Kd.Fit]at hF
  simp only[Kd.w,nU,hv_]
  exact aNy (aCn (yS hF.1)) g9 g8 (by decide) (by decide)
 | .cho ks,hF=>by
  simp only[Kd.Fit]at hF
  simp only[Kd.w,nT,hv_]
  exact aNy (aCn (yR hF.1)) aEt aEs (by decide) (by decide)
theorem yS:∀{fs:List (Str×Kd)},kQ fs->∀p∈fs.map iN,Sld 0 p
 | [],_,p,hp=>by cases hp
 |g::r,h,p,hf=>by
  rw[aO]at hf
  rcases aI.mp hf with rfl | hf
  ·exact fr_ (aXb h.1.1) (fr_ (a:=[32]) (aIw (by decide) (.inl (by decide))) (aFb h.1.2))
  ·exact yS h.2 p hf
theorem yR:∀{ks:List Kd},kO ks->∀p∈ks.map Kd.w,Sld 0 p
 | [],_,p,hp=>by cases hp
 |g::r,h,p,hk=>by
  rw[aO]at hk
  rcases aI.mp hk with rfl | hk
  ·exact aFb h.1
  ·exact yR h.2 p hk
end
def stG:List Nat->Nat->Int->Int->Int
 | [],_,_,fd=>fd
 |c::r,k,lv,fd=>stG r (k+1) (lv+lvl c) (if lv+lvl c=0/\c=42 then(k:Int)else fd)
def Bs(n:Int)(l:List Nat):Prop:=∀lv:Int,n<=lv->∀(k:Nat) (fd:Int) (rest:List Nat),stG (l++rest) k lv fd=stG rest (k+l.length) lv fd
theorem zN{n:Int}:Bs n []:=λlv _ k fd rest=>rfl
theorem ft_{n:Int}{a b:List Nat}(ha:Bs n a)(hb:Bs n b):Bs n (a++b):=λlv h k fd rest=>by rw[aK,ha lv h,hb lv h,aC,Nat.add_assoc]
theorem zM{n:Int}{c:Nat}(h1:c≠42\/1<=n)(h2:lvl c=0):Bs n [c]:=λlv h k fd rest=>by
 show stG rest (k+1) (lv+lvl c) (if lv+lvl c=0/\c=42 then(k:Int)else fd)=_
 rw[h2,Int.add_zero,if_neg (λz=>by rcases h1 with h1 | h1;exact h1 z.2;omega)]
 rfl
theorem aPi{l:List Nat}(h:Bs 0 l):Bs 1 l:=λlv hl=>h lv (by omega)
theorem aPj{m:List Nat}{o c:Nat}(hm:Bs 1 m)(ho:lvl o=1)(hc:lvl c = -1)(Kz:o≠42)(Lo:c≠42):Bs 0 (o::(m++[c])):=λlv h k fd rest=>by
 show stG ((m++[c])++rest) (k+1) (lv+lvl o) (if lv+lvl o=0/\o=42 then(k:Int)else fd)=_
 rw[if_neg (λz=>Kz z.2),ho,aK,hm (lv+1) (by omega)]
 show stG rest (k+1+m.length+1) (lv+1+lvl c) (if lv+1+lvl c=0/\c=42 then((k+1+m.length:Nat):Int)else fd)=_
 rw[if_neg (λz=>Lo z.2),hc,show lv+1 + -1=lv by omega]
 congr 1
 rw[aE,aC,bT]
 omega
theorem zO{n:Int}:∀{l:List Nat},(∀c∈l,c≠42/\lvl c=0)->Bs n l
 | [],_=>zN
 |c::r,h=>ft_ (a:=[c]) (zM (.inl (h c aA).1) (h c aA).2) (zO λx hx=>h x (aB _ hx))
theorem qD{n m:Int}(h:0<=n):Bs m (aF (cF n)):=zO λc hc=>by
 have:=lW ((fx_ h).1 c hc)
 exact⟨by omega,cq_ (.inl (by omega))⟩
theorem aGx{n:Int}{c:Nat}(h:c≠42)(h2:c<=59\/97<=c/\c<=122):Bs n [c]:=zM (.inl h) (cq_ h2)
theorem aUq{n:Int}:Bs n [44,32]:=ft_ (a:=[44]) (aGx (by decide) (.inl (by decide))) (aGx (by decide) (.inl (by decide)))
theorem aGw{ps:List (List Nat)}(h:∀p∈ps,Bs 1 p):Bs 1 ((gX ps).drop 2):=by
 cases ps with
 |nil=>exact zN
 |cons p r =>
  rw[ex_]
  show Bs 1 (p++gX r)
  refine ft_ (h p aA) ?_
  have h':∀q∈r,Bs 1 q:=λq hq=>h q (aB _ hq)
  clear h
  induction r with
  |nil=>exact zN
  |cons q r ih =>
   rw[ex_]
   exact ft_ (a:=[44,32]) aUq (ft_ (h' q aA) (ih λx hx=>h' x (aB _ hx)))
def Kd.isRow:Kd->Bool
 | .row _ _=>true
 |_=>false
mutual
theorem pK:∀{k:Kd},k.Fit->Bs 1 k.w/\(k.isRow=false->Bs 0 k.w)
 | .num w m,hF=>by
  simp only[Kd.Fit]at hF
  simp only[Kd.w]
  have h:∀n,Bs n (110::(aF (cF w)++47::aF (cF m))):=λn=>ft_ (a:=[110]) (aGx (by decide) (.inr (by decide))) (ft_ (qD (by omega)) (ft_ (a:=[47]) (aGx (by decide) (.inl (by decide))) (qD (by omega))))
  exact⟨h 1,λ_=>h 0⟩
 | .row k m,hF=>by
  simp only[Kd.Fit]at hF
  simp only[Kd.w]
  exact⟨ft_ (pK hF.1).1 (ft_ (a:=[42]) (zM (.inr (by decide)) (cq_ (.inl (by decide)))) (qD (by omega))),λh=>by cases h⟩
 | .rcd fs,hF=>by
  simp only[Kd.Fit]at hF
  simp only[Kd.w,nU,hv_]
  have h:=aPj (aGw (aFd hF.1)) g9 g8 (by decide) (by decide)
  exact⟨aPi h,λ_=>h⟩
 | .cho ks,hF=>by
  simp only[Kd.Fit]at hF
  simp only[Kd.w,nT,hv_]
  have h:=aPj (aGw (aFc hF.1)) aEt aEs (by decide) (by decide)
  exact⟨aPi h,λ_=>h⟩
theorem aFd:∀{fs:List (Str×Kd)},kQ fs->∀p∈fs.map iN,Bs 1 p
 | [],_,p,hp=>by cases hp
 |g::r,h,p,hf=>by
  rw[aO]at hf
  rcases aI.mp hf with rfl | hf
  ·refine ft_ (zO fun c hc => ?_) (ft_ (a:=[32]) (aGx (by decide) (.inl (by decide))) (pK h.1.2).1)
   have:=h.1.1.2.2 c hc
   exact⟨by omega,cq_ (.inr this)⟩
  ·exact aFd h.2 p hf
theorem aFc:∀{ks:List Kd},kO ks->∀p∈ks.map Kd.w,Bs 1 p
 | [],_,p,hp=>by cases hp
 |g::r,h,p,hk=>by
  rw[aO]at hk
  rcases aI.mp hk with rfl | hk
  ·exact(pK h.1).1
  ·exact aFc h.2 p hk
end
theorem sP{k:Kd}(h:k.Fit)(hr:k.isRow=false):stG k.w 0 0 (-1) = -1:=by
 have:=(pK h).2 hr 0 (dP _) 0 (-1) []
 rw[aS]at this
 exact this
theorem c6:∀{k:Kd},k.Fit->∀(i:Nat) (fd:Int) (rest:List Nat),∃fd',stG (k.w++rest) i 0 fd=stG rest (i+k.w.length) 0 fd'
 | .num w m,h,i,fd,rest=>⟨fd,(pK h).2 rfl 0 (dP _) i fd rest⟩
 | .rcd fs,h,i,fd,rest=>⟨fd,(pK h).2 rfl 0 (dP _) i fd rest⟩
 | .cho ks,h,i,fd,rest=>⟨fd,(pK h).2 rfl 0 (dP _) i fd rest⟩
 | .row k m,h,i,fd,rest=>by
  simp only[Kd.Fit]at h
  obtain⟨fd',e⟩:=c6 h.1 i fd (42::(aF (cF m)++rest))
  refine⟨((i+k.w.length:Nat):Int),?_⟩
  simp only[Kd.w]
  rw[aK,aU,e]
  show stG (aF (cF m)++rest) (i+k.w.length+1) (0+lvl 42) (if(0:Int)+lvl 42=0/\42=42 then((i+k.w.length:Nat):Int)else fd')=_
  rw[show lvl 42=0 from cq_ (.inl (by decide)),if_pos ⟨rfl,rfl⟩,show(0:Int)+0=0 from rfl,qD (by omega) 0 (dP _)]
  congr 1
  rw[aC,aE]
  omega
theorem aCi{k:Kd}{m:Int}(h:(Kd.row k m).Fit):stG (Kd.row k m).w 0 0 (-1)=(k.w.length:Int):=by
 simp only[Kd.Fit]at h
 obtain⟨fd',e⟩:=c6 h.1 0 (-1) (42::aF (cF m))
 simp only[Kd.w]
 rw[e]
 show stG (aF (cF m)) (0+k.w.length+1) (0+lvl 42) (if(0:Int)+lvl 42=0/\42=42 then((0+k.w.length:Nat):Int)else fd')=_
 have:=qD (n:=m) (m:=0) (by omega) 0 (dP _) (0+k.w.length+1) ((0+k.w.length:Nat):Int) []
 rw[aS]at this
 rw[show lvl 42=0 from cq_ (.inl (by decide)),if_pos ⟨rfl,rfl⟩,show(0:Int)+0=0 from rfl,this]
 show((0+k.w.length:Nat):Int)=_
 omega
theorem aNw:∀(l pre:List Nat) (lv fd:Int),(fd = -1\/∃i:Nat,fd=(i:Int)/\(pre++l)[i]? = some 42)->(stG l pre.length lv fd = -1\/∃i:Nat,stG l pre.length lv fd=(i:Int)/\(pre++l)[i]? = some 42)
 | [],pre,lv,fd,h=>h
 |c::r,pre,lv,fd,h=>by
  have ih:=aNw r (pre++[c]) (lv+lvl c) (if lv+lvl c=0/\c=42 then(pre.length:Int)else fd) (by
   rw[aK]
   split
   ·rename_i hc
    refine .inr ⟨pre.length,rfl,?_⟩
    rw[dH (aV _),Nat.sub_self,hc.2]
    rfl
   ·exact h)
  rw[aK,aC,bT]at ih
  exact ih
def aMb:GC:=λds Q=>∃t:Str,ds=[.str t]/\t.length<=100000/\Q (.tr (.int (stG (aF t) 0 0 (-1))))
def aTw:GC:=λds Q=>∃x:Str,ds=[.str x]/\x.length<=100000/\(Nm x->Q (.tr (.bl true)))/\(¬Nm x->Q (.tr (.bl false)))
theorem tU{x:Str}:Nm x↔(1<=x.length/\x.length<=8)/\∀c∈aF x,inT fU c=true:=by
 unfold Nm Low
 rw[fL]
 exact⟨λh=>⟨⟨h.1,h.2.1⟩,λc hc=>g_ (h.2.2 c hc)⟩,λh=>⟨h.1.1,h.1.2,λc hc=>i0 (h.2 c hc)⟩⟩
theorem hq_{α:Type}{n:Nat}{gx:XG}{tc:XC}{te:XT}{Q:List Dx->List Sl->Prop}{cs:List Sl}(φ ψ:α->Dx)(p:α->Bool){as:List α}(h:∀a∈as,∀(Ah:List Dx) (P:List Dx->List Sl->Prop),P (Ah++(if p a=true then [ψ a]else [])) cs->aCg n gx tc te P (φ a) cs Ah)(q:Q ((as.filter p).map ψ) cs):eB n gx tc te Q (as.map φ) cs []:=by
 refine eu_ φ (λrest Ah cs'=>cs'=cs/\∃done,as=done++rest/\Ah=(done.filter p).map ψ) (λAh cs' h'=>?_) (λa rest Ah cs' P h' k=>?_) ⟨rfl,[],rfl,rfl⟩
 ·obtain ⟨rfl,done,e1,rfl⟩:=h'
  rw[aS]at e1
  subst e1
  exact q
 ·obtain ⟨rfl,done,e1,rfl⟩:=h'
  refine h a (by rw[e1];exact aJ _ aA) _ P (k _ _ ⟨rfl,done++[a],by rw[e1,aK];rfl,?_⟩)
  rw[List.filter_append,bM,List.filter_cons,List.filter_nil]
  split<;>rfl
theorem aTt{i:Int}{ρ:En}{Q:Sv->En->Prop}(h:Q (.tr (.int (-i))) ρ):aWa (xC (.int i)) ρ Q:=h
section
variable{f:Addr}{n j:Nat}
theorem aKg(F:Fun K "_law_star" "_law_star" hx_ f fd)(Ad:mg "len" = none)(m_int:mg "int" = none)(Af:mg "range" = none):FnOk P w K mg base CX0 1 f fd AE (spX aMb):=by
 refine lF F gB (λds Q h=>by obtain⟨_,rfl,_⟩:=h;rfl) (by decide) λAi A outer s H E hr=>?_
 have Am:=iT hr
 have Aj:=aM Am
 refine⟨_,(cO (gA (i:=1) gB.nd rfl (Or.inl rfl) (ih_ cC))
  (cO (gA (i:=2) gB.nd rfl (Or.inl rfl) cC)
  (cO (hc_ PassesOwn.never rfl (df_ Af (bF (jV (mF K) nJ (by rfl) Ad PySem.boot_len (bF (bE (pv 0)) bV)) bV)) (jP (i:=3) gB.nd rfl (Or.inl rfl)) (rP (n:=99) (i:=3) (by decide)) (cO (gA (i:=2) gB.nd rfl (Or.inl rfl) (zA (eZ (bE (pv 2)) (zK dv_ im_ (by rfl) m_int fs_ (bF (xM eq_ jn_ (kW K (bE (pv 0)) (bE (pv 3)) (λ_ _=>rfl)) dL (by with_unfolding_all rfl)) bV))) (zK dv_ im_ (by rfl) m_int fs_ (bF (xM eq_ jn_ (kW K (bE (pv 0)) (bE (pv 3)) (λ_ _=>rfl)) dL (by with_unfolding_all rfl)) bV))))
  (cP (eC (XW.pt (ig_ (dW (iJ K Aj) iP (bE (pv 2)) cC (bD _)) (fv_ (dW (iJ K Aj) iP (kW K (bE (pv 0)) (bE (pv 3)) (λ_ _=>rfl)) dL (bD _))))) (cP (gA (i:=1) gB.nd rfl (Or.inl rfl) (bE (pv 3)))) eJ))))
  (cP (cZ (ez_ (pv 1))))))),λds Q h=>?_⟩
 clear Aj Am
 obtain⟨t,rfl,A4,q⟩:=h
 have Mo:=fL t
 refine nK (aTt ?_)
 refine nK (ir_ ?_)
 change cL (aIe _ _ _) _ [vT (.str t),vT (.int (-1)),vT (.int 0),.un] _
 refine zC (λρ=>∃lv k:Sl,ρ=[vT (.str t),vT (.int (stG (aF t) 0 0 (-1))),lv,k]) ?_ (λnx Cb=>?_)
 ·rintro ρ ⟨lv,k,rfl⟩
  exact q
 ·refine ⟨by show t.length≤1000000; omega,⟨by omega,by omega⟩,?_⟩
  show iR _ _ _ (lK 0 ((t.length:Int)).toNat) _
  rw[gF]
  unfold lK
  refine dj_ (λi:Nat=>Dx.int (0+(i:Int))) (λrest ρ=>∃(k:Nat) (lv fd:Int) (y:Sl),k<=t.length/\rest=List.range' k (t.length-k)/\stG (aF t) 0 0 (-1)=stG ((aF t).drop k) k lv fd/\ρ=[vT (.str t),vT (.int fd),vT (.int lv),y]) (λρ h=>?_) (λi rest ρ Kn h hk=>?_) ⟨0,0,-1,.un,bP _,by rw[List.range_eq_range'];rfl,rfl,rfl⟩
  ·obtain ⟨k,lv,fd,y,h1,h2,h3,rfl⟩:=h
   have hk:t.length<=k:=by
    have:=congrArg List.length h2
    rw[List.length_range',bJ]at this
    omega
   refine Cb _ ⟨.v (.tr (.int lv)),y,?_⟩
   rw[h3,List.drop_eq_nil_of_le (by omega)]
   rfl
  ·obtain ⟨k,lv,fd,y,h1,h2,h3,rfl⟩:=h
   have Da:k<t.length:=by
    rcases Nat.lt_or_ge k t.length with h | h
    ·exact h
    ·rw [show t.length - k=0 by omega] at h2
     cases h2
   rw[show t.length-k=(t.length-(k+1))+1 by omega,List.range'_succ]at h2
   obtain⟨rfl,h2'⟩:=List.cons.inj h2
   obtain⟨c,hc⟩:∃c,(aF t)[i]? = some c:=⟨_,aR (by omega)⟩
   have Gc:atI t.cps.toList (0+(i:Int))=some c:=by rw[Int.zero_add];exact rO hc
   have Cw:(aF t).drop i=c::(aF t).drop (i+1):=by
    have h1:=eY (l:=aF t) (i:=i) (by omega)
    rw[aR (by omega)]at hc
    rw[h1,ozI hc]
   rw[Cw]at h3
   have Mq:∀(fd':Int),fd'=(if lv+lvl c=0/\c=42 then(i:Int)else fd)->Kn [vT (.str t),vT (.int fd'),vT (.int (lv+lvl c)),vT (.int (0+(i:Int)))]:=λfd' e=>hk _ ⟨i+1,lv+lvl c,fd',_,Da,h2',by rw[h3,e];rfl,rfl⟩
   refine dp_ (M:=λρ=>ρ=[vT (.str t),vT (.int fd),vT (.int (lv+lvl c)),vT (.int (0+(i:Int)))]) ?_ (λD2 Lx=>?_)
   ·rintro ρ rfl
    refine aFr (decide (lv+lvl c=0/\c=42)) (ρ':=[vT (.str t),vT (.int fd),vT (.int (lv+lvl c)),vT (.int (0+(i:Int)))]) (λQ q=>?_) (λhb=>?_) (λhb=>?_)
    ·show if decide (lv + lvl c=0)=true then _ else _
     by_cases h0:lv+lvl c=0
     ·rw [if_pos (dzT h0)]
      refine⟨by show t.length<=1000000;omega,?_⟩
      show match atI t.cps.toList (0+(i:Int))with | some c=>_ | none=>False
      rw[Gc]
      show Q (decide ((⟨#[c]⟩:Str) = "*")) _
      have e:decide ((⟨#[c]⟩:Str) = "*")=decide (lv+lvl c=0/\c=42):=by
       rw[decide_eq_decide]
       constructor
       ·intro z
        have:=congrArg aF z
        exact⟨h0,(List.cons.inj (show [c]=[42]from this)).1⟩
       ·rintro ⟨_,rfl⟩
        rfl
      rw[e]
      exact q
     ·rw [if_neg (by rw [decide_eq_true_eq]; exact h0)]
      rw[dzF (λz=>h0 z.1)]at q
      exact q
    ·exact Mq (0+(i:Int)) (by rw[if_pos (of_decide_eq_true hb),Int.zero_add])
    ·exact Mq fd (by rw[if_neg (of_decide_eq_false hb)])
   ·refine ⟨by show t.length≤1000000; omega,?_⟩
    show match atI t.cps.toList (0+(i:Int))with | some c=>_ | none=>False
    rw[Gc]
    refine⟨by show t.length<=1000000;omega,?_⟩
    show match atI t.cps.toList (0+(i:Int))with | some c=>_ | none=>False
    rw[Gc]
    refine Lx _ ?_
    have G1:lv+(if inT "{<[" c=true then 1 else 0)-(if inT "}>]" c=true then 1 else 0)=lv+lvl c:=by unfold lvl;omega
    rw[<-G1]
    rfl
theorem aKr(F:Fun K "_law_is_name" "_law_is_name" eg_ f fd)(Ad:mg "len" = none):FnOk P w K mg base CX0 1 f fd BB (spX aTw):=by
 refine lF F oM (λds Q h=>by obtain⟨_,rfl,_⟩:=h;rfl) (by decide) λAi A outer s H E hr=>?_
 have Am:=iT hr
 have Aj:=aM Am
 refine⟨_,(cP (cZ (vB (nP lU lT lU lT cC (jV (mF K) nJ (by rfl) Ad PySem.boot_len (bF (bE (pv 0)) bV)) cC) (xN (xM (iJ K Aj) iP (dl_ (dsc:=aL eg_) (N:=BB) (tgs:=["sign"]) (outs:=[]) (N':=["sign"]) (by refine⟨rfl,?_,?_,?_,rfl,?_,?_,?_⟩<;>decide +kernel) (sF (bE (pv 0))) (λ_ _ _ _ _=>(jP (i:=0) (show(["sign"]:List Str).Nodup by decide +kernel) rfl (Or.inl rfl) (.inr rfl))) (rP (n:=1) (i:=0) (by decide)) (cz_ (by decide)) (λ_ _ _ _ _=>(zX (dW ik_ aDw (bE (pv 0)) dL (by with_unfolding_all rfl)))) (λ_ _ _ _ _=>(bE (pv 0)))) (mI bV) (bD _)))))),λds Q h=>?_⟩
 clear Aj Am
 obtain⟨x,rfl,Jw,qy,qn⟩:=h
 refine⟨by show x.length<=1000000;omega,?_⟩
 show if decide ((1:Int)<=(x.length:Int))=true then _ else _
 by_cases h1:1<=x.length
 ·rw [if_pos (dzT (by omega))]
  show if decide ((x.length:Int)<=8)=true then _ else _
  by_cases h2:x.length<=8
  ·rw [if_pos (dzT (by omega))]
   refine⟨show(sgX x).length<=1000000 by unfold sgX;rw[aD];show(aF x).length<=_;rw[<-fL];omega,show eB _ _ _ _ _ (sgX x) _ _ from ?_⟩
   unfold sgX
   refine hq_ (λc:Nat=>Dx.str ⟨#[c]⟩) (λc:Nat=>Dx.str ⟨#[c]⟩) (λc=>!inT fU c) (λc hc Ah P p=>?_) ?_
   ·show if (!(inT fU c))=true then _ else _
    cases e:inT fU c with
    |true =>
     rw[e]at p
     have p':P (Ah++[]) _:=p
     rw[aS]at p'
     exact p'
    |false =>
     rw[e]at p
     exact p
   ·refine ⟨bP _,?_⟩
    show Q (.tr (.bl (((x.cps.toList.filter λc=>!inT fU c).map λc:Nat=>Dx.str ⟨#[c]⟩)).isEmpty))
    by_cases h3:Nm x
    ·have:(x.cps.toList.filter fun c => !inT fU c)=[]:=List.filter_eq_nil_iff.mpr fun c hc=>by rw [(tU.mp h3).2 c hc]; simp
     rw[this]
     exact qy h3
    ·have:(((x.cps.toList.filter fun c => !inT fU c).map fun c:Nat=>Dx.str ⟨#[c]⟩)).isEmpty=false:=by
      rw[List.isEmpty_eq_false_iff]
      intro z
      refine h3 (tU.mpr ⟨⟨h1,h2⟩,λc hc=>?_⟩)
      have:=List.filter_eq_nil_iff.mp (gQ.mp z) c hc
      simpa using this
     rw[this]
     exact qn h3
  ·rw [if_neg (by rw [decide_eq_true_eq]; omega)]
   exact qn λz=>h2 (tU.mp z).1.2
 ·rw [if_neg (by rw [decide_eq_true_eq]; omega)]
  exact qn λz=>h1 (tU.mp z).1.1
end
def aMd:GC:=λds Q=>∃t:Str,ds=[.str t]/\t.length<=100000/\(∃l,aF t=110::l)/\(∀w m,(Kd.num w m).Fit->aF t=(Kd.num w m).w->Q (.tr (Kd.num w m).x))/\((∀w m,(Kd.num w m).Fit->aF t≠(Kd.num w m).w)->Q (.tr .non))
theorem tO(a:Str)(h:a.length<=100000):∃v:Int,(∀Q:Sv->Prop,Q (.tr (.int v))->pP [.str a] Q)/\((0<=v/\a=cF v)\/(v = -1/\∀n,0<=n->n<100->a≠cF n)):=by
 by_cases hf:uZ (aF a)/\a.length<=20
 ·obtain ⟨n,h0,e⟩:=pR hf.1
  have e':a=cF n:=qQ e
  refine⟨n,λQ q=>⟨a,rfl,h,λn' h' e2 _=>?_,λz=>absurd hf z⟩,.inl ⟨h0,e'⟩⟩
  have:n'=n:=jq_ h' h0 (by rw[<-e2,<-e'])
  rw[this]
  exact q
 ·refine ⟨-1,fun Q q=>⟨a,rfl,h,fun n' h' e2 h20=>absurd ⟨by rw [e2]; exact pQ h',h20⟩ hf,fun _=>q⟩,.inr ⟨rfl,fun n h0 h1 e=>hf ⟨by rw [e]; exact pQ h0,?_⟩⟩⟩
  have:=qM (n:=n) h0 h1
  rw[e]
  omega
theorem aSu{n:Int}(h:0<=n):47∉aF (cF n):=λz=>by
 have:=lW ((fx_ h).1 47 z)
 omega
theorem bCj:("/" : Str)=⟨#[47]⟩:=by decide
theorem aIt(z:Str):(∃a b:Str,Txt.split z "/" = [a,b]/\aF z=aF a++47::aF b/\47∉aF a/\47∉aF b)\/((Txt.split z "/").length≠2/\∀A B:List Nat,aF z=A++47::B->47∉A->47∉B->False):=by
 rw[bCj]
 have hf:=PySem.StrLaws.split_free z 47
 have hj:=PySem.StrLaws.join_split z ⟨#[47]⟩
 have hn:=PyProof.Rows.split_len z 47
 by_cases h2:(Txt.split z ⟨#[47]⟩).length=2
 ·match e:Txt.split z ⟨#[47]⟩,h2 with
  | [a,b],_ =>
   rw[e]at hf hj
   refine .inl ⟨a,b,rfl,?_,hf a aA,hf b (aB _ aA)⟩
   have e2:=congrArg aF hj
   rw[show Str.join ⟨#[47]⟩ [a,b]=a++⟨#[47]⟩++b from rfl,lP,lP,aK]at e2
   exact e2.symm
 ·refine .inr ⟨h2,fun A B hz hA hB=>h2 ?_⟩
  have hc:PyProof.Rows.cnt 47 z.cps.toList=1:=by
   rw[show z.cps.toList=A++47::B from hz,PyProof.Rows.cnt_append,PyProof.Rows.cnt_cons,PyProof.Rows.cnt_none 47 A hA,PyProof.Rows.cnt_none 47 B hB]
   rfl
  rw[hc]at hn
  omega
theorem uC{l:List Dx}{i j:Nat}{d:Dx}{ρ:En}{Q:Sv->En->Prop}(hi:ρ[i]? = some (vT (.lst l)))(h:l[j]? = some d)(q:Q (.tr d) ρ):xOp ixX (bW i) (xC (.int (j:Int))) ρ Q:=by
 have e:ρ.set i (vT (.lst l))=ρ:=by
  obtain⟨h1,h2⟩:=bG.mp hi
  rw[<-h2,iX]
 unfold xOp bW xC
 rw[hi]
 show ixX (.lst l) (.int (j:Int)) λs=>Q s (ρ.set i (vT (.lst l)))
 rw[e]
 show(match atI l (j:Int)with | some d=>Q (.tr d) ρ | none=>False)
 rw[rO h]
 exact q
theorem aLu{a b t:Dx}{Q:Bool->En->Prop}(q:Q false [vT t,vT (.lst [a,b])]):xB (xOp neX (dU aLb (bA (bW 1) cV)) (xC (.int 2))) [vT t,.v (.ol [a,b])] Q:=q
section
variable{f:Addr}{n j:Nat}
theorem aKk(F:Fun K "_law_number_kind" "_law_number_kind" dn_ f fd)(Eb:Cal P w K mg base 1 "_law_number" BB (spX pP))(Ad:mg "len" = none)(Af:mg "range" = none):FnOk P w K mg base CX0 2 f fd AE (spX aMd):=by
 refine lF F hY (λds Q h=>by obtain⟨_,rfl,_⟩:=h;rfl) (by decide) λAi A outer s H E hr=>?_
 have Am:=iT hr
 have Aj:=aM Am
 refine⟨_,(cO (gA (i:=1) hY.nd rfl (Or.inl rfl) (aBi (kX K (bE (pv 0)) (jQ cC) mK) (by rfl)))
  (cO (eC (XW.pt (qI (dW (hh_ K Aj) lC (jV (mF K) nJ (by rfl) Ad PySem.boot_len (bF (bE (pv 1)) bV)) cC (bD _)) (qI (sD (fH Eb (hr.mono (by omega)) (bF (gJ K (pv 1)) bV)) Af) (uM (dW (jo_ K) (aDx true) (fH Eb (hr.mono (by omega)) (bF (gJ K (pv 1)) bV)) (mI (bF cC (bF cC (bF cC (bF cC bV))))) (by with_unfolding_all rfl)))))) (cP (cZ mJ)) eJ)
  (cP (cZ (lO (bF dL (bF (fH Eb (hr.mono (by omega)) (bF (gJ K (pv 1)) bV)) (bF (fH Eb (hr.mono (by omega)) (bF (gJ K (pv 1)) bV)) bV)))))))),λds Q h=>?_⟩
 clear Aj Am
 obtain⟨t,rfl,A4,⟨l,hl⟩,qy,qn⟩:=h
 have Ak:1<=t.length:=by rw[fL,hl,aE];omega
 have hz:aF (Txt.slice t (some 1) none)=l:=by
  have:=c7 (x:=t) (i:=1) Ak
  rw[hl]at this
  exact this
 have hzl:(Txt.slice t (some 1) none).length<=100000:=by
  rw[fL,hz]
  have:=fL t
  rw[hl,aE]at this
  omega
 refine⟨by show t.length<=1000000;omega,Txt.slice t (some 1) none,rfl,by have:(1000000:Nat)<sizeLine:=fW;omega,?_⟩
 generalize Txt.slice t (some 1) none=z at hz hzl
 dsimp only
 change cL (xIf _ _ _) _ [vT (.str t),.v (.ol ((Txt.split z "/").map Dx.str))] _
 rcases aIt z with⟨a,b,e,hc,ha,hb⟩ | ⟨h2,Ba⟩
 ·rw [e]
  have G7:a.length<=100000:=by
   have:=congrArg List.length hc
   rw[aC,<-fL,<-fL]at this
   omega
  have Lp:b.length<=100000:=by
   have:=congrArg List.length hc
   rw[aC,aE,<-fL,<-fL,<-fL]at this
   omega
  obtain⟨v1,g1,c1⟩:=tO a G7
  obtain⟨v2,g2,c2⟩:=tO b Lp
  have ht:aF t=110::(aF a++47::aF b):=by rw[hl,<-hz,hc]
  have Ig:∀w m,(Kd.num w m).Fit->aF t=(Kd.num w m).w->v1=w/\v2=m:=λw m hF he=>by
   simp only[Kd.Fit]at hF
   simp only[Kd.w]at he
   rw[ht]at he
   obtain⟨e1,e2⟩:=sQ ha (aSu (by omega)) (List.cons.inj he).2
   have e1':a=cF w:=qQ e1
   have e2':b=cF m:=qQ e2
   refine⟨?_,?_⟩
   ·rcases c1 with ⟨h0,ea⟩ | ⟨_,hn⟩
    ·exact jq_ h0 (by omega) (by rw[<-ea,e1'])
    ·exact absurd e1' (hn w (by omega) (by omega))
   ·rcases c2 with ⟨h0,ea⟩ | ⟨_,hn⟩
    ·exact jq_ h0 (by omega) (by rw[<-ea,e2'])
    ·exact absurd e2' (hn m (by omega) (by omega))
  have Ff:∀v:Int,inV (.int v) [.int 1,.int 2,.int 4,.int 8]=decide (v=1\/v=2\/v=4\/v=8):=λv=>by
   rw[cX,decide_eq_true_eq]
   unfold inV
   simp only[dE,List.any_nil,Bool.or_false,Bool.or_eq_true]
   show((1:Int) == v)=true\/((2:Int) == v)=true\/((4:Int) == v)=true\/((8:Int) == v)=true↔_
   simp only[beq_iff_eq]
   omega
  refine iY (!decide ((1<=v1/\v1<9)/\(v2=1\/v2=2\/v2=4\/v2=8))) (ρ':=[vT (.str t),vT (.lst [.str a,.str b])]) (λQ q=>?_) (λhb=>?_) (λhb=>?_)
  ·refine kG (aLu ?_)
   rw[if_neg (by decide)]
   refine kG ?_
   refine(show dU pP _ _ _ from et_ (wY (uC (j:=0) rfl rfl (il_ (g1 _ ?_)))))
   refine⟨v1,rfl,?_⟩
   dsimp only
   by_cases h1:1<=v1/\v1<9
   ·rw [dzT h1.1,dzT h1.2]
    rw[if_neg (by decide)]
    refine jM (rK (et_ (wY (uC (j:=1) rfl rfl (il_ (g2 _ ?_))))))
    refine⟨by show 4<=1000000;decide,rfl,?_⟩
    show Q (!inV (.int v2) [.int 1,.int 2,.int 4,.int 8]) _
    rw[Ff]
    rw[show decide ((1<=v1/\v1<9)/\(v2=1\/v2=2\/v2=4\/v2=8))=decide (v2=1\/v2=2\/v2=4\/v2=8) by rw[decide_eq_decide];exact⟨λz=>z.2,λz=>⟨h1,z⟩⟩]at q
    exact q
   ·have:(!(decide (1≤v1) && decide (v1 < 9)))=true:=by
     rw[Bool.not_eq_true',Bool.and_eq_false_iff]
     by_cases h0:1<=v1
     ·exact .inr (dzF λz=>h1 ⟨h0,z⟩)
     ·exact .inl (dzF h0)
    rw[if_pos this]
    rw[dzF (λz=>h1 z.1)]at q
    exact q
  ·refine qn fun w m hF he => ?_
   obtain⟨rfl,rfl⟩:=Ig w m hF he
   simp only[Kd.Fit]at hF
   rw[Bool.not_eq_true',decide_eq_false_iff_not]at hb
   exact hb ⟨⟨hF.1,by omega⟩,hF.2.2⟩
  ·rw [Bool.not_eq_false',decide_eq_true_eq] at hb
   refine gr_ ?_
   unfold sH
   refine wY (ir_ ?_)
   refine wY (et_ (wY (uC (j:=0) rfl rfl (il_ (g1 _ ?_)))))
   refine wY (et_ (wY (uC (j:=1) rfl rfl (il_ (g2 _ ?_)))))
   refine il_ ?_
   refine⟨by show 3<=1000000;decide,?_⟩
   refine qy v1 v2 ⟨hb.1.1,by omega,hb.2⟩ ?_
   rcases c1 with⟨h0,ea⟩ | ⟨hn,_⟩
   ·rcases c2 with ⟨h0',eb⟩ | ⟨hn,_⟩
    ·simp only [Kd.w]
     rw[ht,ea,eb]
    ·omega
   ·omega
 ·refine iY true (ρ':=[vT (.str t),vT (.lst ((Txt.split z "/").map Dx.str))]) (fun Q q => ?_) (fun _ => ?_) (fun hb=>by cases hb)
  ·show if (!decide ((((Txt.split z "/").map Dx.str).length:Int)=2))=true then _ else _
   rw[aD,dzF (by omega)]
   exact q
  ·refine qn fun w m hF he => ?_
   simp only[Kd.Fit]at hF
   simp only[Kd.w]at he
   rw[hl]at he
   exact Ba _ _ (hz.trans (List.cons.inj he).2) (aSu (by omega)) (aSu (by omega))
end
open Classical in
noncomputable def rdK (n:Nat) (l:List Nat):Option Kd:=if h:∃k,Wr n l k then some h.choose else none
theorem fE{n:Nat}{l:List Nat}{k:Kd}:rdK n l=some k↔Wr n l k:=by
 unfold rdK
 constructor
 ·intro h
  split at h
  ·rename_i hx
   cases h
   exact hx.choose_spec
  ·cases h
 ·intro h
  rw[dif_pos ⟨k,h⟩]
  exact congrArg some (aIh (Exists.choose_spec (⟨k,h⟩:∃k,Wr n l k)) h)
theorem eT{n:Nat}{l:List Nat}:rdK n l=none↔∀k,¬Wr n l k:=by
 cases e:rdK n l with
 |none =>
  refine⟨λ_ k hk=>?_,λ_=>rfl⟩
  rw[fE.mpr hk]at e
  cases e
 |some k=>exact⟨λz=>(nomatch z),λz=>absurd (fE.mp e) (z k)⟩
def oxK:Option Kd->Dx
 |some k=>k.x
 |none=>.non
theorem aBo(k:Kd):∃l,k.x=.tup l:=by cases k<;>simp only[Kd.x]<;>exact⟨_,rfl⟩
theorem vU{k:Kd}{j:Int}{x:Nat}{l:List Nat}(h:0<=j)(e:l++[x]=(Kd.row k j).w):inT eU x=true:=by
 rcases List.eq_nil_or_concat (aF (cF j))with h0 | ⟨pre,d,hd⟩
 ·have:=a8 h
  rw[fL,h0]at this
  cases this
 ·rw [List.concat_eq_append] at hd
  have e1:(Kd.row k j).w=(k.w++42::pre)++[d]:=by simp only[Kd.w,hd,aK,aU]
  rw[e1]at e
  have e2:=congrArg List.getLast? e
  rw[List.getLast?_concat,List.getLast?_concat]at e2
  cases e2
  exact(fx_ h).1 x (by rw[hd];exact aJ _ (List.mem_singleton_self _))
theorem uQ{n:Nat}{m:List Nat}{k:Kd}(h:Wr n (60::(m++[62])) k):∃ks,k=.cho ks/\m=(wK ks).drop 2:=by
 obtain⟨hF,_,e⟩:=h
 cases k with
 |num w v=>simp only[Kd.w]at e;cases(List.cons.inj e).1
 |row k j =>
  simp only[Kd.Fit]at hF
  have:=lW (vU (l:=60::m) (by omega) e)
  omega
 |rcd fs=>simp only[Kd.w]at e;cases(List.cons.inj e).1
 |cho ks=>simp only[Kd.w]at e;exact⟨ks,rfl,(List.append_inj' (List.cons.inj e).2 rfl).1⟩
theorem mX{n:Nat}{m:List Nat}{k:Kd}(h:Wr n (123::(m++[125])) k):∃fs,k=.rcd fs/\m=(wF fs).drop 2:=by
 obtain⟨hF,_,e⟩:=h
 cases k with
 |num w v=>simp only[Kd.w]at e;cases(List.cons.inj e).1
 |row k j =>
  simp only[Kd.Fit]at hF
  have:=lW (vU (l:=123::m) (by omega) e)
  omega
 |rcd fs=>simp only[Kd.w]at e;exact⟨fs,rfl,(List.append_inj' (List.cons.inj e).2 rfl).1⟩
 |cho ks=>simp only[Kd.w]at e;cases(List.cons.inj e).1
theorem aBu(ks:List Kd):wK ks=gX (ks.map Kd.w):=by rw[nT,hv_]
theorem aBx(fs:List (Str×Kd)):wF fs=gX (fs.map iN):=by rw[nU,hv_]
theorem uP{n:Nat}{m:List Nat}{ks:List Kd}:Wr (n+1) (60::(m++[62])) (.cho ks)↔∃ps,gE m false 0 [] []=some ps/\ps.length<=6/\ps.map (rdK n)=ks.map some:=by
 constructor
 ·rintro ⟨hF,hd,e⟩
  have Db:=hF
  simp only[Kd.Fit]at Db
  simp only[Kd.deep]at hd
  simp only[Kd.w]at e
  have em:m=(wK ks).drop 2:=(List.append_inj' (List.cons.inj e).2 rfl).1
  refine⟨ks.map Kd.w,?_,by rw[aD];exact Db.2.2,?_⟩
  ·rw [em,aBu]
   exact aDh (λz=>by have:=gQ.mp z;rw[this]at Db;exact absurd Db.2.1 (by decide)) (yR Db.1)
  ·rw [cK]
   refine List.map_congr_left λk hk=>?_
   obtain⟨b,c⟩:=ho_ Db.1 hk
   exact fE.mpr ⟨b,by omega,rfl⟩
 ·rintro ⟨ps,hp,h6,hk⟩
  obtain⟨hs,Cg⟩:=tE hp
  have hl:ps.length=ks.length:=by have:=congrArg List.length hk;rwa [aD,aD]at this
  have hw:∀(ps:List (List Nat)) (ks:List Kd),ps.map (rdK n)=ks.map some->ps=ks.map Kd.w/\∀k∈ks,k.Fit/\k.deep<=n:=by
   intro ps
   induction ps with
   |nil =>
    intro ks h
    cases ks with
    |nil=>exact⟨rfl,λk hk=>(nomatch hk)⟩
    |cons k r=>cases h
   |cons p r ih =>
    intro ks h
    cases ks with
    |nil=>cases h
    |cons k kr =>
     rw[aO,aO]at h
     obtain⟨h1,h2⟩:=List.cons.inj h
     obtain⟨i1,i2⟩:=ih kr h2
     have Gv:=fE.mp h1
     refine⟨by rw[aO,<-i1,<-Gv.2.2],λk' G4=>?_⟩
     rcases aI.mp G4 with rfl | G4
     ·exact⟨Gv.1,Gv.2.1⟩
     ·exact i2 k' G4
  obtain⟨w1,w2⟩:=hw ps ks hk
  have Kv:1<=ps.length:=List.length_pos_iff.mpr Cg
  refine⟨⟨uE λk hk=>(w2 k hk).1,by omega,by omega⟩,?_,?_⟩
  ·show eK ks + 1≤n + 1
   have:=pW (m:=n) λk hk=>(w2 k hk).2
   omega
  ·simp only [Kd.w]
   rw[aBu,<-w1,<-hs]
def fdL(f:Str×List Nat):List Nat:=aF f.1++32::f.2
theorem yQ{x:Str}(h:Nm x):32∉aF x:=λz=>by have:=h.2.2 32 z;omega
theorem oR{n:Nat}{m:List Nat}{fs:List (Str×Kd)}:Wr (n+1) (123::(m++[125])) (.rcd fs)↔∃fl:List (Str×List Nat),gE m false 0 [] []=some (fl.map fdL)/\fl.length<=8/\(∀f∈fl,Nm f.1)/\(fl.map (·.1)).Nodup/\fl.map (λf=>(f.1,rdK n f.2))=fs.map (λf=>(f.1,some f.2)):=by
 constructor
 ·rintro ⟨hF,hd,e⟩
  have Db:=hF
  simp only[Kd.Fit]at Db
  simp only[Kd.deep]at hd
  simp only[Kd.w]at e
  have em:m=(wF fs).drop 2:=(List.append_inj' (List.cons.inj e).2 rfl).1
  have efl:(fs.map λf=>(f.1,f.2.w)).map fdL=fs.map iN:=by rw[cK];rfl
  refine⟨fs.map λf=>(f.1,f.2.w),?_,by rw[aD];exact Db.2.2.1,λf hf=>?_,?_,?_⟩
  ·rw [em,aBx,efl]
   exact aDh (λz=>by have:=gQ.mp z;rw[this]at Db;exact absurd Db.2.1 (by decide)) (yS Db.1)
  ·obtain ⟨g,hg,rfl⟩:=cJ.mp hf
   exact(gj_ Db.1 hg).1
  ·rw [cK]
   exact Db.2.2.2
  ·rw [cK]
   refine List.map_congr_left λf hf=>?_
   obtain⟨a,b,c⟩:=gj_ Db.1 hf
   show(f.1,rdK n f.2.w)=(f.1,some f.2)
   rw[fE.mpr ⟨b,by omega,rfl⟩]
 ·rintro ⟨fl,hp,h8,hn,hd,hk⟩
  obtain⟨hs,Cg⟩:=tE hp
  have hl:fl.length=fs.length:=by have:=congrArg List.length hk;rwa [aD,aD]at this
  have hw:∀(fl:List (Str×List Nat)) (fs:List (Str×Kd)),fl.map (λf=>(f.1,rdK n f.2))=fs.map (λf=>(f.1,some f.2))->fl.map fdL=fs.map iN/\fl.map (·.1)=fs.map (·.1)/\∀f∈fs,f.2.Fit/\f.2.deep<=n:=by
   intro fl
   induction fl with
   |nil =>
    intro fs h
    cases fs with
    |nil=>exact⟨rfl,rfl,λk hk=>(nomatch hk)⟩
    |cons k r=>cases h
   |cons p r ih =>
    intro fs h
    cases fs with
    |nil=>cases h
    |cons f fr =>
     rw[aO,aO]at h
     obtain⟨h1,h2⟩:=List.cons.inj h
     obtain⟨i1,i2,i3⟩:=ih fr h2
     have h3:p.1=f.1/\rdK n p.2=some f.2:=by cases f;cases p;simpa using h1
     have Gv:=fE.mp h3.2
     refine⟨?_,by rw[aO,aO,i2,h3.1],λf' Ld=>?_⟩
     ·rw [aO,aO,i1]
      unfold fdL iN
      rw[h3.1,Gv.2.2]
     ·rcases aI.mp Ld with rfl | Ld
      ·exact⟨Gv.1,Gv.2.1⟩
      ·exact i3 f' Ld
  obtain⟨w1,w2,w3⟩:=hw fl fs hk
  have Kv:1<=fl.length:=List.length_pos_iff.mpr λz=>Cg (by rw[z];rfl)
  have D5:∀f∈fs,Nm f.1:=λf hf=>by
   have:f.1∈fl.map (·.1):=by rw[w2];exact cJ.mpr ⟨f,hf,rfl⟩
   obtain⟨g,hg,e⟩:=cJ.mp this
   rw[<-e]
   exact hn g hg
  refine⟨⟨uF λf hf=>⟨D5 f hf,(w3 f hf).1⟩,by omega,by omega,by rw[<-w2];exact hd⟩,?_,?_⟩
  ·show eV fs + 1≤n + 1
   have:=pY (m:=n) λf hf=>(w3 f hf).2
   omega
  ·simp only [Kd.w]
   rw[aBx,<-w1,<-hs]
theorem aUd{f g:Str×List Nat}(hf:Nm f.1)(hg:Nm g.1)(h:fdL f=fdL g):f=g:=by
 obtain⟨e1,e2⟩:=sQ (yQ hf) (yQ hg) h
 obtain⟨a,b⟩:=f
 obtain⟨c,d⟩:=g
 cases(qQ e1:a=c)
 cases(e2:b=d)
 rfl
theorem uG:∀{l l':List (Str×List Nat)},(∀f∈l,Nm f.1)->(∀f∈l',Nm f.1)->l.map fdL=l'.map fdL->l=l'
 | [],[],_,_,_=>rfl
 | [],_::_,_,_,h=>by cases h
 |_::_,[],_,_,h=>by cases h
 |f::l,g::l',h1,h2,h=>by
  rw[aO,aO]at h
  obtain⟨a,b⟩:=List.cons.inj h
  rw[aUd (h1 f aA) (h2 g aA) a,uG (λx hx=>h1 x (aB _ hx)) (λx hx=>h2 x (aB _ hx)) b]
theorem d6{n:Nat}{m p:List Nat}{rest:List (List Nat)}{fl:List (Str×List Nat)}(hp:gE m false 0 [] []=some (fl.map fdL++p::rest))(hn:∀f∈fl,Nm f.1)(Er:32∉p\/∃(a:Str) (b:List Nat),p=aF a++32::b/\32∉aF a/\(¬Nm a\/a∈fl.map (·.1))):rdK (n+1) (123::(m++[125]))=none:=by
 refine eT.mpr λk hk=>?_
 obtain⟨fs,rfl,_⟩:=mX hk
 obtain⟨fl',Fq,_,C5,Hr,_⟩:=oR.mp hk
 rw[hp]at Fq
 have e:=(ozI Fq).symm
 obtain⟨l1,l2,rfl,e1,e2⟩:=List.map_eq_append_iff.mp e
 obtain⟨g,l3,rfl,e3,_⟩:=List.map_eq_cons_iff.mp e2
 have h1:l1=fl:=uG (λf hf=>C5 f (aX _ hf)) hn e1
 subst h1
 have hg:Nm g.1:=C5 g (aJ _ aA)
 rcases Er with hb | ⟨a,b,G8,ha,hb⟩
 ·rw [← e3] at hb
  exact hb (aJ _ aA)
 ·rw [← e3] at G8
  obtain⟨c1,_⟩:=sQ (yQ hg) ha G8
  have J1:g.1=a:=qQ c1
  rcases hb with hb | hb
  ·exact hb (J1 ▸ hg)
  ·rw [bM,aO,cN] at Hr
   exact Hr.2.2 a hb g.1 aA J1.symm
theorem qF:∀{l:List (Option Kd)},l.any (·.isNone)=false->∃ks:List Kd,l=ks.map some
 | [],_=>⟨[],rfl⟩
 |none::r,h=>by cases h
 |some k::r,h=>by
  obtain⟨ks,e⟩:=qF (l:=r) h
  exact⟨k::ks,by rw[e];rfl⟩
theorem aXe(o:Option Kd):(shN (oxK o)).isSome=true/\(shN (oxK o) == some true)=o.isNone:=by
 cases o with
 |none=>exact⟨rfl,rfl⟩
 |some k =>
  obtain⟨l,e⟩:=aBo k
  rw[show oxK (some k)=k.x from rfl,e]
  exact⟨rfl,rfl⟩
theorem aFj{l:List (Option Kd)}{Q:Sv->Prop}(q:Q (.tr (.bl (l.any (·.isNone))))):aTm .non (.lst (l.map oxK)) Q:=by
 refine⟨?_,?_⟩
 ·rw [gN,cG]
  exact λo _=>(aXe o).1
 ·rw [List.any_map]
  rw[show((λd=>shN d == some true) ∘ oxK)=(λo:Option Kd=>o.isNone)from funext λo=>(aXe o).2]
  exact q
theorem wL{x:Str}:∀{xs:List Str},inV (.str x) (xs.map V.str)=true↔x∈xs:=by
 intro xs
 unfold inV
 rw[List.any_map,List.any_eq_true]
 constructor
 ·rintro ⟨y,hy,e⟩
  have e':(y == x)=true:=e
  rw[<-eq_of_beq e']
  exact hy
 ·intro h
  exact⟨x,h,(beq_self_eq_true x:(x == x)=true)⟩
theorem vS:∀{xs:List Str},(xs.map Dx.str).filterMap scV=xs.map V.str
 | []=>rfl
 |x::xs=>by rw[aO,gT,vS];rfl
theorem c9:∀{xs:List Str},((xs.map Dx.str).all λd=>(scV d).isSome)=true
 | []=>rfl
 |x::xs=>by rw[aO,gC,c9];rfl
theorem aLj{x:Str}{xs:List Str}{Q:Dx->Prop}(q:Q (.bl (decide (x∈xs)))):inP false (xs.map Dx.str) (.str x) Q:=by
 refine⟨c9,?_⟩
 show Q (.bl (inV (.str x) ((xs.map Dx.str).filterMap scV)))
 rw[vS,show inV (.str x) (xs.map V.str)=decide (x∈xs) by rw[cX,decide_eq_true_eq];exact wL]
 exact q
def wO(n:Nat):GC:=λds Q=>∃t:Str,ds=[.str t,.int (6-(n:Int))]/\t.length<=100000/\Q (.tr (oxK (rdK n (aF t))))
def aZi(n:Nat):GC:=λds Q=>∃(t:Str) (m:List Nat),ds=[.str t,.int (5-(n:Int))]/\t.length<=100000/\(aF t=123::(m++[125])\/aF t=60::(m++[62]))/\Q (.tr (oxK (rdK (n+1) (aF t))))
theorem rE{t y:Str}{c:Nat}{l:List Nat}{r:En}{Q:Sv->En->Prop}(hl:t.length<=100000)(hc:aF t=c::l)(q:Q (.tr (.bl (decide ((⟨#[c]⟩:Str)=y)))) (vT (.str t)::r)):xOp eqX (xOp ixX (bW 0) (xC (.int 0))) (xC (.str y)) (vT (.str t)::r) Q:=by
 refine⟨by show t.length<=1000000;omega,?_⟩
 show(match atI t.cps.toList 0 with | some c=>_ | none=>False)
 rw[show atI t.cps.toList 0=some c from rO (j:=0) (by show(aF t)[0]? = _;rw[hc];rfl)]
 exact q
theorem aFq{t0 t1:Sl}{l:List Dx}{r:En}{Q:Bool->En->Prop}(q:Q false (t0::t1::vT (.lst l)::r)):xB (xOp (mH false) (bW 2) (xC .non)) (t0::t1 :: .v (.ol l)::r) Q:=q
theorem aZy:decide ((⟨#[123]⟩:Str) = "{")=true:=by decide +kernel
theorem d60:decide ((⟨#[60]⟩:Str) = "{")=false:=by decide +kernel
theorem aZx:decide ((⟨#[123]⟩:Str) = "<")=false:=by decide +kernel
theorem bDv:decide ((⟨#[60]⟩:Str) = "<")=true:=by decide +kernel
abbrev llE(t:Str)(n:Nat)(ps:List (List Nat))(nm kn:List Dx)(r:List Sl):En:=.v (.tr (.str t))::vT (.int (5-(n:Int)))::vT (.lst (ps.map txS)) :: .v (.ol nm) :: .v (.ol kn)::r
theorem j7{t:Str}{n:Nat}{ps:List (List Nat)}{nm kn:List Dx}{y5 y6 y7:Sl}{a b c:Dx}{R:En->Prop}(h:R (llE t n ps nm kn [vT c,vT a,vT b])):gxT [6,7,5] (.tup [a,b,c]) (llE t n ps nm kn [y5,y6,y7]) R:=h
theorem j6{t x:Str}{n:Nat}{ps:List (List Nat)}{xs:List Str}{kn:List Dx}{y5 y7:Sl}{Q:Bool->En->Prop}(q:Q (decide (x∈xs)) (llE t n ps (xs.map Dx.str) kn [y5,vT (.str x),y7])):xB (aPw (inP false) (bW 6) 3) (llE t n ps (xs.map Dx.str) kn [y5,vT (.str x),y7]) Q:=by
 refine jM ?_
 exact aLj (Q:=λd=>match Sv.tr d with | .tr (.bl b)=>Q b (llE t n ps (xs.map Dx.str) kn [y5,.v (.tr (.str x)),y7]) | _=>False) q
theorem pN{c u:XC}{ρ ρ':En}{Q:Bool->En->Prop}(hc:∀Q':Bool->En->Prop,Q' false ρ'->c ρ Q')(h:u ρ' Q):xOr c u ρ Q:=kG (hc _ (by rw[if_neg (by decide)];exact h))
theorem aBe{n:Nat}:∀{fl:List (Str×List Nat)} {ks:List Kd},(fl.map λf=>rdK n f.2)=ks.map some->∃fs:List (Str×Kd),fl.map (λf=>(f.1,rdK n f.2))=fs.map (λf=>(f.1,some f.2))/\fl.map (·.1)=fs.map (·.1)/\ks=fs.map (·.2)
 | [],[],_=>⟨[],rfl,rfl,rfl⟩
 | [],_::_,h=>by cases h
 |_::_,[],h=>by cases h
 |f::fl,k::ks,h=>by
  rw[aO,aO]at h
  obtain⟨h1,h2⟩:=List.cons.inj h
  obtain⟨fs,e1,e2,e3⟩:=aBe h2
  exact⟨(f.1,k)::fs,by rw[aO,aO,e1,h1],by rw[aO,aO,e2],by rw[aO,e3]⟩
def atF(fs:List (Str×Kd))(i:Nat):Dx:=match fs[i]? with
 |some f=>.tup [.str f.1,f.2.x]
 |none=>.non
theorem aWe(fs:List (Str×Kd)):(List.range fs.length).map (atF fs)=xF fs:=by
 rw[ii_]
 refine List.ext_getElem? λi=>?_
 rw[cA,cA]
 by_cases h:i<fs.length
 ·rw [List.getElem?_range h]
  show some (atF fs i)=_
  unfold atF
  rw[aR h]
  rfl
 ·rw [gD (by rw [cB]; omega),gD (by omega)]
  rfl
section
variable{f:Addr}{n j:Nat}
theorem aKm(F:Fun K "_law_list_kind" "_law_list_kind" cp_ f fd)(J9:Cal P w K mg base 1 "_law_parts" AE (spX aTu))(Kb:Cal P w K mg base 1 "_law_is_name" BB (spX aTw))(Gg:Cal P w K mg base j "_law_read_kind" AC (spX (wO n)))(Ad:mg "len" = none)(m_int:mg "int" = none)(Af:mg "range" = none)(hj:1<=j):FnOk P w K mg base CX0 (j+1) f fd AC (spX (aZi n)):=by
 refine lF F cT (λds Q h=>by obtain⟨_,_,rfl,_⟩:=h;rfl) (by decide) λAi A outer s H E hr=>?_
 have Am:=iT hr
 have Aj:=aM Am
 refine⟨_,(cO (gA (i:=2) cT.nd rfl (Or.inl rfl) (fH J9 (hr.mono (by omega)) (bF (kX K (bE (pv 0)) (jQ cC) (jQ (ih_ cC))) bV)))
  (cO (gA (i:=3) cT.nd rfl (Or.inr rfl) (mI bV))
  (cO (gA (i:=4) cT.nd rfl (Or.inr rfl) (mI bV))
  (cO (eC (XW.pt (qI (dW pB pA (bE (pv 2)) mJ (bD _)) (uM (dW ip_ io_ (jV (mF K) nJ (by rfl) Ad PySem.boot_len (bF (bE (pv 2)) bV)) (kW K (mI (bF cC (bF cC bV))) (zK dv_ im_ (by rfl) m_int fs_ (bF (xM (iJ K Aj) iP (gJ K (pv 0)) dL (bD _)) bV)) (λ_ _=>rfl)) (bD _))))) (cP (cZ mJ)) eJ)
  (cO (hc_ PassesOwn.never rfl (ey_ (bE (pv 2))) (jP (i:=5) cT.nd rfl (Or.inl rfl)) (rP (n:=99) (i:=5) (by decide)) (cO (eC (dW (iJ K Aj) iP (gJ K (pv 0)) dL (bD _)) (cO (mQ (jx_ (n:=99) (is:=[6,7,5]) rfl (by decide)) λF=>oV (XE.at (Ex:=fZ) F (aHx (bE (pv 5)) (by rfl))) (lM rfl (zI (jP (i:=6) cT.nd rfl (Or.inl rfl)) (zI (jP (i:=7) cT.nd rfl (Or.inl rfl)) (zI (jP (i:=5) cT.nd rfl (Or.inl rfl)) hb_)))))
  (cO (eC (XW.pt (qI (dW (iJ K Aj) iP (bE (pv 7)) dL (bD _)) (qI (zB (jZ (fH Kb (hr.mono (by omega)) (bF (bE (pv 6)) bV)))) (uM (aHs K (bE (pv 6)) (pv 3) (by with_unfolding_all rfl)))))) (cP (cZ mJ)) eJ)
  (cP (kD λF=>PS.weak (fz_ (jm_ PySem.F.plainAttrs_list PySem.F.slot_list_append PySem.F.type_list_append er_ (pv 3) (kS (XE.at (Ex:=fZ) F (bE (pv 6))) uL))) je_)))) eJ)
  (cP (kD λF=>PS.weak (fz_ (jm_ PySem.F.plainAttrs_list PySem.F.slot_list_append PySem.F.type_list_append er_ (pv 4) (kS (XE.at (Ex:=fZ) F (fH Gg (hr.mono (by omega)) (bF (bE (pv 5)) (bF (eZ (bE (pv 1)) cC) bV)))) uL))) je_))))
  (cO (eC (dW (aRu Am) aRp mJ (bE (pv 4)) (by with_unfolding_all rfl)) (cP (cZ mJ)) eJ)
  (cO (eC (dW (iJ K Aj) iP (gJ K (pv 0)) dL (bD _)) (cP (cZ (lO (bF dL (bF (bE (pv 4)) bV))))) eJ)
  (cP (cZ (lO (bF dL (bF (dl_ (dsc:=aL cp_) (N:=AW) (tgs:=["k"]) (outs:=[3,4]) (N':=["k","names","kinds"]) (by refine⟨rfl,?_,?_,?_,rfl,?_,?_,?_⟩<;>decide +kernel) (df_ Af (bF (jV (mF K) nJ (by rfl) Ad PySem.boot_len (bF (bE (pv 4)) bV)) bV)) (λ_ _ _ _ _=>(jP (i:=0) (show(["k","names","kinds"]:List Str).Nodup by decide +kernel) rfl (Or.inl rfl) (.inr rfl))) (rP (n:=1) (i:=0) (by decide)) (cz_ (by decide)) (λ_ _ _ _ _=>dw_) (λ_ _ _ _ _=>(lO (bF (zU K (pv 1) (bE (pv 0)) (λ_ _=>rfl)) (bF (kW K (bE (pv 2)) (bE (pv 0)) (λ_ _=>rfl)) bV))))) bV)))))))))))),λds Q h=>?_⟩
 clear Aj Am hj
 obtain⟨t,m,rfl,A4,D7,q⟩:=h
 have Ak:t.length=m.length+2:=by
  rw[fL]
  rcases D7 with e | e<;>rw[e,aE,aC,bT]
 have hz:aF (Txt.slice t (some 1) (some (-1)))=m:=by
  rw[aXc (by omega)]
  rcases D7 with e | e<;>rw[e]<;>show((m++[_]).take _)=m<;>rw[List.take_append_of_le_length (by omega),dF (by omega)]
 refine⟨by show t.length<=1000000;omega,Txt.slice t (some 1) (some (-1)),rfl,by rw[fL,hz];omega,λps Dt=>?_,λDt=>?_⟩
 ·rw [hz] at Dt
  obtain⟨Ij,Cg⟩:=tE Dt
  have A9:∀p∈ps,p.length<=100000:=λp hp=>by
   have h1:=j_ hp
   have h2:=congrArg List.length Ij
   rw[aY]at h2
   omega
  have Jc:ps.length<=100000:=by
   have h1:=k7 (ps:=ps)
   have h2:=congrArg List.length Ij
   rw[aY]at h2
   omega
  refine⟨bP _,bP _,?_⟩
  dsimp only
  change cL (xIf _ _ _) _ [vT (.str t),vT (.int (5-(n:Int))),.v (.ol (ps.map txS)),.v (.ol []),.v (.ol []),.un,.un,.un] _
  rcases D7 with e | e
  ·refine iY (decide (8 < ps.length)) (ρ':=llE t n ps [] [] [.un,.un,.un]) (fun Q q => ?_) (fun hb => ?_) (fun hb => ?_)
   ·refine kG (aFq ?_)
    rw[if_neg (by decide)]
    refine jM (rK ?_)
    refine⟨by show 2<=1000000;decide,?_⟩
    refine et_ (wY (rE A4 e ?_))
    rw[aZy]
    show Q (decide ((8:Int)<((ps.map txS).length:Int))) _
    rw[aD,show decide ((8:Int)<(ps.length:Int))=decide (8<ps.length) by rw[decide_eq_decide];omega]
    exact q
   ·have h8:=of_decide_eq_true hb
    have Ba:rdK (n+1) (aF t)=none:=by
     rw[e]
     refine eT.mpr λk hk=>?_
     obtain⟨fs,rfl,_⟩:=mX hk
     obtain⟨fl,hp,hl8,_⟩:=oR.mp hk
     rw[Dt]at hp
     have:=congrArg List.length (ozI hp)
     rw[aD]at this
     omega
    rw[Ba]at q
    exact q
   ·have h8:=of_decide_eq_false hb
    refine zC (λρ=>∃(fl:List (Str×List Nat)) (y5 y6 y7:Sl),ps=fl.map fdL/\(∀f∈fl,Nm f.1)/\(fl.map (·.1)).Nodup/\ρ=llE t n ps ((fl.map (·.1)).map Dx.str) ((fl.map λf=>rdK n f.2).map oxK) [y5,y6,y7]) ?_ (λnx Cb=>?_)
    ·rintro ρ ⟨fl,y5,y6,y7,e1,D5,El,rfl⟩
     refine iY ((fl.map λf=>rdK n f.2).any (·.isNone)) (ρ':=.v (.tr (.str t))::vT (.int (5-(n:Int)))::vT (.lst (ps.map txS)) :: .v (.ol ((fl.map (·.1)).map Dx.str))::vT (.lst ((fl.map λf=>rdK n f.2).map oxK))::[y5,y6,y7]) (λQ q=>jM (rK (ir_ (z6 rfl (aFj q))))) (λhb=>?_) (λhb=>?_)
     ·have Ba:rdK (n + 1) (aF t)=none:=by
       rw[e]
       refine eT.mpr λk hk=>?_
       obtain⟨fs,rfl,_⟩:=mX hk
       obtain⟨fl',hp,_,C5,_,F3⟩:=oR.mp hk
       rw[Dt,e1]at hp
       have e2:=uG D5 C5 (ozI hp)
       subst e2
       have e3:=congrArg (List.map Prod.snd) F3
       rw[cK,cK]at e3
       have e4:(fl.map λf=>rdK n f.2)=fs.map λf=>some f.2:=e3
       rw[e4,List.any_map]at hb
       simp at hb
      rw[Ba]at q
      exact q
     ·obtain ⟨ks,F3⟩:=qF hb
      obtain⟨fs,e2,e3,e4⟩:=aBe F3
      have Mu:fl.length=fs.length:=by have:=congrArg List.length e3;rwa [aD,aD]at this
      have hpl8:ps.length=fl.length:=by rw[e1,aD]
      have Fa:rdK (n+1) (aF t)=some (.rcd fs):=by
       rw[e]
       exact fE.mpr (oR.mpr ⟨fl,by rw[Dt,e1],by omega,D5,El,e2⟩)
      rw[Fa]at q
      refine mD (λQ q=>jM (rE A4 e (by rw[aZx];exact q))) ?_
      refine gr_ ?_
      have K3:(((fl.map λf=>rdK n f.2).map oxK).length:Int).toNat=fs.length:=by rw[aD,aD];omega
      refine⟨⟨by omega,by rw[aD,aD];omega⟩,?_⟩
      rw[K3]
      refine⟨by unfold lK;rw[aD,cB];omega,?_⟩
      show eB _ _ _ _ _ ((List.range fs.length).map λt:Nat=>Dx.int (0+(t:Int))) _ _
      refine hq_ (λt:Nat=>Dx.int (0+(t:Int))) (atF fs) (λ_=>true) (λi hi Ah P p=>?_) ?_
      ·have Di:=eM.mp hi
       have hf:fs[i]? = some fs[i]:=aR Di
       have h1:atI ((fl.map (·.1)).map Dx.str) (0+(i:Int))=some (.str fs[i].1):=by
        rw[Int.zero_add,e3]
        exact rO (by rw[cA,cA,hf];rfl)
       have h2:atI ((fl.map λf=>rdK n f.2).map oxK) (0+(i:Int))=some fs[i].2.x:=by
        rw[Int.zero_add,F3,e4]
        exact rO (by rw[cA,cA,cA,hf];rfl)
       rw[if_pos rfl,show atF fs i=.tup [.str fs[i].1,fs[i].2.x] by unfold atF;rw[hf]]at p
       refine⟨rfl,?_⟩
       show match atI ((fl.map (·.1)).map Dx.str) (0+(i:Int))with | some d=>_ | none=>False
       rw[h1]
       show match atI ((fl.map λf=>rdK n f.2).map oxK) (0+(i:Int))with | some d=>_ | none=>False
       rw[h2]
       exact⟨by show 2<=1000000;decide,p⟩
      ·refine ⟨by show 2≤1000000; decide,?_⟩
       have ex:(Kd.rcd fs).x=.tup [.str "record",.lst (((List.range fs.length).filter λ_=>true).map (atF fs))]:=by rw[List.filter_eq_self.mpr λ_ _=>rfl,aWe];simp only[Kd.x]
       show Q (.tr (.tup [.str "record",.lst (((List.range fs.length).filter λ_=>true).map (atF fs))]))
       rw[<-ex]
       exact q
    ·show iR _ _ _ (ps.map txS) _
     refine dj_ txS (λrest ρ=>∃(fl:List (Str×List Nat)) (y5 y6 y7:Sl),ps=fl.map fdL++rest/\(∀f∈fl,Nm f.1)/\(fl.map (·.1)).Nodup/\ρ=llE t n ps ((fl.map (·.1)).map Dx.str) ((fl.map λf=>rdK n f.2).map oxK) [y5,y6,y7]) (λρ h=>?_) (λp rest ρ Kn h hk=>?_) ⟨[],.un,.un,.un,rfl,λf hf=>absurd hf bS,fP,rfl⟩
     ·obtain ⟨fl,y5,y6,y7,e1,D5,El,rfl⟩:=h
      rw[aS]at e1
      exact Cb _ ⟨fl,y5,y6,y7,e1,D5,El,rfl⟩
     ·obtain ⟨fl,y5,y6,y7,e1,D5,El,rfl⟩:=h
      have Kw:p∈ps:=by rw[e1];exact aJ _ aA
      have Mu:fl.length<=100000:=by rw[e1,aC,aD]at Jc;omega
      have Ku:=Dt
      rw[e1]at Ku
      have Fc:=A9 p Kw
      refine iY true (ρ':=llE t n ps ((fl.map (·.1)).map Dx.str) ((fl.map λf=>rdK n f.2).map oxK) [vT (txS p),y6,y7]) (λQ q=>jM (rE A4 e (by rw[aZy];exact q))) (λ_=>?_) (λhb=>by cases hb)
      refine⟨⟨p.toArray⟩,rfl,by have:=fW;show p.length<=sizeLine;omega,?_⟩
      rcases yH ⟨p.toArray⟩with⟨h32,Ks⟩ | ⟨a,b,G8,ha,Ks⟩
      ·rw [Ks]
       have Ba:rdK (n+1) (aF t)=none:=by rw[e];exact d6 Ku D5 (.inl h32)
       rw[Ba]at q
       refine j7 ?_
       dsimp only
       refine iY true (ρ':=llE t n ps ((fl.map (·.1)).map Dx.str) ((fl.map λf=>rdK n f.2).map oxK) [vT (.str ""),vT (.str ⟨p.toArray⟩),vT (.str "")]) (λQ q=>kG ?_) (λ_=>q) (λhb=>by cases hb)
       exact q
      ·rw [Ks]
       have G7:a.length+b.length+1=p.length:=by have:=congrArg List.length G8;rw[aC,aE]at this;have h2:(aF ⟨p.toArray⟩).length=p.length:=rfl;omega
       have Jg:p=aF ⟨a.toArray⟩++32::b:=G8
       refine j7 ?_
       dsimp only
       by_cases Er:¬Nm ⟨a.toArray⟩\/(⟨a.toArray⟩:Str)∈fl.map (·.1)
       ·have Ba:rdK (n + 1) (aF t)=none:=by rw [e]; exact d6 Ku D5 (.inr ⟨⟨a.toArray⟩,b,Jg,ha,Er⟩)
        rw[Ba]at q
        refine iY true (ρ':=llE t n ps ((fl.map (·.1)).map Dx.str) ((fl.map λf=>rdK n f.2).map oxK) [vT (.str ⟨b.toArray⟩),vT (.str ⟨a.toArray⟩),vT (.str " ")]) (λQ q=>pN (λQ' q'=>q') ?_) (λ_=>q) (λhb=>by cases hb)
        by_cases hn:Nm ⟨a.toArray⟩
        ·refine pN (fun Q' q'=>⟨⟨a.toArray⟩,rfl,by show a.length≤100000; omega,fun _=>q',fun z=>absurd hn z⟩) ?_
         refine j6 ?_
         rw[dzT (Er.resolve_left (λz=>z hn))]
         exact q
        ·exact kG ⟨⟨a.toArray⟩,rfl,by show a.length<=100000;omega,λz=>absurd z hn,λ_=>q⟩
       ·have hn:Nm ⟨a.toArray⟩:=Classical.not_not.mp fun z=>Er (.inl z)
        have Hm:¬(⟨a.toArray⟩:Str)∈fl.map (·.1):=λz=>Er (.inr z)
        refine mD (ρ':=llE t n ps ((fl.map (·.1)).map Dx.str) ((fl.map λf=>rdK n f.2).map oxK) [vT (.str ⟨b.toArray⟩),vT (.str ⟨a.toArray⟩),vT (.str " ")]) (λQ q=>pN (λQ' q'=>q') ?_) ?_
        ·refine pN (fun Q' q'=>⟨⟨a.toArray⟩,rfl,by show a.length≤100000; omega,fun _=>q',fun z=>absurd hn z⟩) ?_
         refine j6 ?_
         rw[dzF Hm]
         exact q
        ·refine ⟨rfl,by show ((fl.map (·.1)).map Dx.str).length < 1000000; rw [aD,aD]; omega,?_⟩
         refine⟨rfl,⟨b.toArray⟩,by show [Dx.str ⟨b.toArray⟩,.int (5-(n:Int)+1)]=[.str ⟨b.toArray⟩,.int (6-(n:Int))];congr 3;omega,by show b.length<=100000;omega,by show((fl.map λf=>rdK n f.2).map oxK).length<1000000;rw[aD,aD];omega,hk _ ⟨fl++[(⟨a.toArray⟩,b)],vT (.str ⟨b.toArray⟩),vT (.str ⟨a.toArray⟩),vT (.str " "),?_,?_,?_,?_⟩⟩
         ·rw[e1,bM,aK,Jg];rfl
         ·intro f hf
          rcases bL.mp hf with hf | hf
          ·exact D5 f hf
          ·rw[aG.mp hf];exact hn
         ·rw [bM]
          exact cN.mpr ⟨El,(cE.mpr ⟨bS,fP⟩),λx hx y hy=>λz=>Hm (by rw[aG.mp hy]at z;have z':x=⟨a.toArray⟩:=z;rw[<-z'];exact hx)⟩
         ·rw [bM,bM,bM,bM]
          rfl
  ·refine iY (decide (6 < ps.length)) (ρ':=llE t n ps [] [] [.un,.un,.un]) (fun Q q => ?_) (fun hb => ?_) (fun hb => ?_)
   ·refine kG (aFq ?_)
    rw[if_neg (by decide)]
    refine jM (rK ?_)
    refine⟨by show 2<=1000000;decide,?_⟩
    refine et_ (wY (rE A4 e ?_))
    rw[d60]
    show Q (decide ((6:Int)<((ps.map txS).length:Int))) _
    rw[aD,show decide ((6:Int)<(ps.length:Int))=decide (6<ps.length) by rw[decide_eq_decide];omega]
    exact q
   ·have h6:=of_decide_eq_true hb
    have Ba:rdK (n+1) (aF t)=none:=by
     rw[e]
     refine eT.mpr λk hk=>?_
     obtain⟨ks,rfl,_⟩:=uQ hk
     obtain⟨ps',hp,Mp,_⟩:=uP.mp hk
     rw[Dt]at hp
     have:=congrArg List.length (ozI hp)
     omega
    rw[Ba]at q
    exact q
   ·have h6:=of_decide_eq_false hb
    refine zC (λρ=>∃y5 y6 y7:Sl,ρ=llE t n ps [] (((ps.map (rdK n)).map oxK)) [y5,y6,y7]) ?_ (λnx Cb=>?_)
    ·rintro ρ ⟨y5,y6,y7,rfl⟩
     have ef:Wr (n+1) (aF t)=Wr (n+1) (60::(m++[62])):=by rw[e]
     refine iY ((ps.map (rdK n)).any (·.isNone)) (ρ':=.v (.tr (.str t))::vT (.int (5-(n:Int)))::vT (.lst (ps.map txS)) :: .v (.ol [])::vT (.lst ((ps.map (rdK n)).map oxK))::[y5,y6,y7]) (λQ q=>jM (rK (ir_ (z6 rfl (aFj q))))) (λhb=>?_) (λhb=>?_)
     ·have Ba:rdK (n + 1) (aF t)=none:=by
       rw[e]
       refine eT.mpr λk hk=>?_
       obtain⟨ks,rfl,_⟩:=uQ hk
       obtain⟨ps',hp,_,F3⟩:=uP.mp hk
       rw[Dt]at hp
       cases hp
       rw[F3,List.any_map]at hb
       simp at hb
      rw[Ba]at q
      exact q
     ·obtain ⟨ks,F3⟩:=qF hb
      have Fa:rdK (n+1) (aF t)=some (.cho ks):=by
       rw[e]
       exact fE.mpr (uP.mpr ⟨ps,Dt,by omega,F3⟩)
      rw[Fa]at q
      refine iY true (λQ q=>jM (rE A4 e (by rw[bDv];exact q))) (λ_=>?_) (λhb=>by cases hb)
      refine gr_ ?_
      refine⟨by show 2<=1000000;decide,?_⟩
      rw[F3,cK]
      have ex:(Kd.cho ks).x=.tup [.str "choice",.lst (ks.map (oxK ∘ some))]:=by simp only[Kd.x,go_];rfl
      show Q (.tr (.tup [.str "choice",.lst (ks.map (oxK ∘ some))]))
      rw[<-ex]
      exact q
    ·show iR _ _ _ (ps.map txS) _
     refine dj_ txS (λrest ρ=>∃(done:List (List Nat)) (y5 y6 y7:Sl),ps=done++rest/\ρ=llE t n ps [] ((done.map (rdK n)).map oxK) [y5,y6,y7]) (λρ h=>?_) (λp rest ρ Kn h hk=>?_) ⟨[],.un,.un,.un,rfl,rfl⟩
     ·obtain ⟨done,y5,y6,y7,e1,rfl⟩:=h
      rw[aS]at e1
      exact Cb _ ⟨y5,y6,y7,by rw[e1]⟩
     ·obtain ⟨done,y5,y6,y7,e1,rfl⟩:=h
      have Kw:p∈ps:=by rw[e1];exact aJ _ aA
      have Mv:done.length<=100000:=by rw[e1,aC]at Jc;omega
      refine mD (ρ':=llE t n ps [] ((done.map (rdK n)).map oxK) [vT (txS p),y6,y7]) (λQ q=>jM (rE A4 e (by rw[d60];exact q))) ?_
      refine⟨rfl,⟨p.toArray⟩,by show [Dx.str ⟨p.toArray⟩,.int (5-(n:Int)+1)]=[.str ⟨p.toArray⟩,.int (6-(n:Int))];congr 3;omega,A9 p Kw,by show((done.map (rdK n)).map oxK).length<1000000;rw[aD,aD];omega,hk _ ⟨done++[p],vT (txS p),y6,y7,by rw[e1,aK];rfl,?_⟩⟩
      rw[bM,bM]
      rfl
 ·have Ba:rdK (n + 1) (aF t)=none:=by
   rw[hz]at Dt
   refine eT.mpr λk hk=>?_
   rcases D7 with e | e
   ·rw [e] at hk
    obtain⟨fs,rfl,_⟩:=mX hk
    obtain⟨fl,hp,_⟩:=oR.mp hk
    rw[Dt]at hp
    cases hp
   ·rw [e] at hk
    obtain⟨ks,rfl,_⟩:=uQ hk
    obtain⟨ps',hp,_⟩:=uP.mp hk
    rw[Dt]at hp
    cases hp
  rw[Ba]at q
  exact⟨bP _,bP _,q⟩
end
theorem deep_pos(k:Kd):1<=k.deep:=by cases k<;>simp only[Kd.deep]<;>omega
theorem yE{n i:Nat}{l:List Nat}{k:Kd}(Cf:stG l 0 0 (-1)=(i:Int))(hi:l[i]? = some 42):Wr (n+1) l k↔∃k' m,k=.row k' m/\rdK n (l.take i)=some k'/\l.drop (i+1)=aF (cF m)/\1<=m/\m<=20:=by
 constructor
 ·rintro ⟨hF,hd,e⟩
  have hst':=Cf
  rw[e]at Cf
  cases k with
  |num w m=>rw[sP hF rfl]at Cf;omega
  |rcd fs=>rw[sP hF rfl]at Cf;omega
  |cho ks=>rw[sP hF rfl]at Cf;omega
  |row k' m =>
   rw[aCi hF]at Cf
   have Di:k'.w.length=i:=by omega
   have Db:=hF
   simp only[Kd.Fit]at Db
   simp only[Kd.deep]at hd
   simp only[Kd.w]at e
   refine⟨k',m,rfl,fE.mpr ⟨Db.1,by omega,?_⟩,?_,by omega,by omega⟩
   ·rw[e,<-Di,List.take_left]
   ·rw [e,← Di,← List.drop_drop,fQ]
    rfl
 ·rintro ⟨k',m,rfl,h1,h2,h3,h4⟩
  obtain⟨a,b,c⟩:=fE.mp h1
  refine⟨?_,?_,?_⟩
  ·simp only [Kd.Fit]
   exact⟨a,h3,h4⟩
  ·simp only [Kd.deep]
   omega
  ·simp only [Kd.w]
   rw[<-c,<-h2]
   obtain⟨Da,e42⟩:=bG.mp hi
   rw[<-e42,<-eY Da,List.take_append_drop]
theorem aYb{n:Nat}{l:List Nat}{k:Kd}(Cf:stG l 0 0 (-1) = -1)(h:Wr n l k):(∃w m r,k=.num w m/\l=110::r)\/(∃m,l=123::(m++[125]))\/∃m,l=60::(m++[62]):=by
 obtain⟨hF,_,e⟩:=h
 cases k with
 |num w m=>simp only[Kd.w]at e;exact .inl ⟨w,m,_,rfl,e⟩
 |row k' m =>
  rw[e,aCi hF]at Cf
  omega
 |rcd fs=>simp only[Kd.w]at e;exact .inr (.inl ⟨_,e⟩)
 |cho ks=>simp only[Kd.w]at e;exact .inr (.inr ⟨_,e⟩)
theorem aNf{α:Type}(l:List α)(d:α):atI (l++[d]) (-1)=some d:=by
 have hl:(l++[d]).length=l.length+1:=by rw[aC];rfl
 have e:ixN (l++[d]).length (-1)=some l.length:=by
  unfold ixN
  rw[if_neg (by decide),hl,if_pos (by omega)]
  congr 1
  omega
 unfold atI
 rw[e]
 show(l++[d])[l.length]? = some d
 rw[dH (aV _),Nat.sub_self]
 rfl
theorem aMl{l:List Nat}(h:2<=l.length):∃c m d,l=c::(m++[d]):=by
 cases l with
 |nil=>cases h
 |cons c r =>
  rcases List.eq_nil_or_concat r with rfl | ⟨m,d,e⟩
  ·simp at h
  ·exact⟨c,m,d,by rw[e,List.concat_eq_append]⟩
theorem aMm{c d:Nat}{m:List Nat}:¬((⟨#[c]⟩:Str)++(⟨#[d]⟩:Str))∈(["{}","<>"]:List Str)↔¬((∃m',c::(m++[d])=123::(m'++[125]))\/∃m',c::(m++[d])=60::(m'++[62])):=by
 have e1:∀x y:Nat,((⟨#[c]⟩:Str)++(⟨#[d]⟩:Str))=⟨#[x,y]⟩↔c=x/\d=y:=λx y=>by
  constructor
  ·intro z
   have:=congrArg aF z
   rw[lP]at this
   have h2:[c,d]=[x,y]:=this
   simpa using h2
  ·rintro ⟨rfl,rfl⟩
   exact qQ (by rw[lP];rfl)
 have e2:∀x y:Nat,(∃m',c::(m++[d])=x::(m'++[y]))↔c=x/\d=y:=λx y=>by
  constructor
  ·rintro ⟨m',z⟩
   obtain⟨h1,h2⟩:=List.cons.inj z
   exact⟨h1,by have:=(List.append_inj' h2 rfl).2;simpa using this⟩
  ·rintro ⟨rfl,rfl⟩
   exact⟨m,rfl⟩
 rw[e2,e2,show("{}" : Str)=⟨#[123,125]⟩ by decide,show("<>" : Str)=⟨#[60,62]⟩ by decide,aI,aG,e1,e1]
theorem aFs{t:Str}{i:Nat}{v:Int}{y1 y3:Sl}{Q:Sv->En->Prop}(hl:t.length<=100000)(g:∀R:Sv->Prop,R (.tr (.int v))->pP [.str (Txt.slice t (some ((i:Int)+1)) none)] R)(q:Q (.tr (.int v)) [vT (.str t),y1,vT (.int (i:Int)),y3]):dU pP (bA (xSl (bW 0) (xoS (xOp fA (bW 2) (xC (Dx.int 1)))) xoN) cV) [vT (.str t),y1,vT (.int (i:Int)),y3] Q:=⟨by show t.length<=1000000;omega,g (λs=>Q s [vT (.str t),y1,vT (.int (i:Int)),y3]) q⟩
section
variable{f:Addr}{n j:Nat}
theorem aKo(F:Fun K "_law_read_kind" "_law_read_kind" co_ f fd)(Hd:Cal P w K mg base 1 "_law_star" AE (spX aMb))(Eb:Cal P w K mg base 1 "_law_number" BB (spX pP))(He:Cal P w K mg base 2 "_law_number_kind" AE (spX aMd))(L9:Cal P w K mg base 0 "_law_list_kind" AC (spX λ_ _=>False))(Gg:Cal P w K mg base 0 "_law_read_kind" AC (spX λ_ _=>False))(Ad:mg "len" = none)(Af:mg "range" = none):FnOk P w K mg base CX0 3 f fd AC (spX (wO 0)):=by
 refine lF F dM (λds Q h=>by obtain⟨_,rfl,_⟩:=h;rfl) (by decide) λAi A outer s H E hr=>?_
 have Am:=iT hr
 have Aj:=aM Am
 refine⟨_,(cO (eC (dW ip_ io_ (bE (pv 1)) cC (bD _)) (cP (cZ mJ)) eJ)
  (cO (gA (i:=2) dM.nd rfl (Or.inl rfl) (fH Hd (hr.mono (by omega)) (bF (bE (pv 0)) bV)))
  (cO (eC (dW aEd aDy (bE (pv 2)) cC (bD _)) (cO (gA (i:=3) dM.nd rfl (Or.inl rfl) (fH Gg (hr.mono (by omega)) (bF (kX K (bE (pv 0)) mK (jQ (bE (pv 2)))) (bF (eZ (bE (pv 1)) cC) bV))))
  (cO (eC (XW.pt (qI (dW pB pA (bE (pv 3)) mJ (bD _)) (uM (sD (fH Eb (hr.mono (by omega)) (bF (kX K (bE (pv 0)) (jQ (eZ (bE (pv 2)) cC)) mK) bV)) Af)))) (cP (cZ mJ)) eJ)
  (cP (cZ (lO (bF dL (bF (bE (pv 3)) (bF (fH Eb (hr.mono (by omega)) (bF (kX K (bE (pv 0)) (jQ (eZ (bE (pv 2)) cC)) mK) bV)) bV)))))))) eJ)
  (cO (eC (dW (iJ K Aj) iP (kX K (bE (pv 0)) mK (jQ cC)) dL (bD _)) (cP (cZ (fH He (hr.mono (by omega)) (bF (bE (pv 0)) bV)))) eJ)
  (cO (eC (XW.pt (qI (dW xJ xL (jV (mF K) nJ (by rfl) Ad PySem.boot_len (bF (bE (pv 0)) bV)) cC (bD _)) (uM (dW (jo_ K) (aDx true) (eZ (gJ K (pv 0)) (kW K (bE (pv 0)) (ih_ cC) (λ_ _=>rfl))) (mI (bF dL (bF dL bV))) (by with_unfolding_all rfl))))) (cP (cZ mJ)) eJ)
  (cP (cZ (fH L9 (hr.mono (by omega)) (bF (bE (pv 0)) (bF (bE (pv 1)) bV)))))))))),λds Q h=>?_⟩
 clear Aj Am
 obtain⟨t,rfl,A4,q⟩:=h
 rw[eT.mpr λk hk=>by have:=deep_pos k;have:=hk.2.1;omega]at q
 refine iY true (ρ':=[vT (.str t),vT (.int 6),.un,.un]) (λQ q=>q) (λ_=>q) (λhb=>by cases hb)
theorem aKn(F:Fun K "_law_read_kind" "_law_read_kind" co_ f fd)(Hd:Cal P w K mg base 1 "_law_star" AE (spX aMb))(Eb:Cal P w K mg base 1 "_law_number" BB (spX pP))(He:Cal P w K mg base 2 "_law_number_kind" AE (spX aMd))(L9:Cal P w K mg base (j+1) "_law_list_kind" AC (spX (aZi n)))(Gg:Cal P w K mg base j "_law_read_kind" AC (spX (wO n)))(Ad:mg "len" = none)(Af:mg "range" = none)(hj:3<=j):FnOk P w K mg base CX0 (j+2) f fd AC (spX (wO (n+1))):=by
 refine lF F dM (λds Q h=>by obtain⟨_,rfl,_⟩:=h;rfl) (by decide) λAi A outer s H E hr=>?_
 have Am:=iT hr
 have Aj:=aM Am
 refine⟨_,(cO (eC (dW ip_ io_ (bE (pv 1)) cC (bD _)) (cP (cZ mJ)) eJ)
  (cO (gA (i:=2) dM.nd rfl (Or.inl rfl) (fH Hd (hr.mono (by omega)) (bF (bE (pv 0)) bV)))
  (cO (eC (dW aEd aDy (bE (pv 2)) cC (bD _)) (cO (gA (i:=3) dM.nd rfl (Or.inl rfl) (fH Gg (hr.mono (by omega)) (bF (kX K (bE (pv 0)) mK (jQ (bE (pv 2)))) (bF (eZ (bE (pv 1)) cC) bV))))
  (cO (eC (XW.pt (qI (dW pB pA (bE (pv 3)) mJ (bD _)) (uM (sD (fH Eb (hr.mono (by omega)) (bF (kX K (bE (pv 0)) (jQ (eZ (bE (pv 2)) cC)) mK) bV)) Af)))) (cP (cZ mJ)) eJ)
  (cP (cZ (lO (bF dL (bF (bE (pv 3)) (bF (fH Eb (hr.mono (by omega)) (bF (kX K (bE (pv 0)) (jQ (eZ (bE (pv 2)) cC)) mK) bV)) bV)))))))) eJ)
  (cO (eC (dW (iJ K Aj) iP (kX K (bE (pv 0)) mK (jQ cC)) dL (bD _)) (cP (cZ (fH He (hr.mono (by omega)) (bF (bE (pv 0)) bV)))) eJ)
  (cO (eC (XW.pt (qI (dW xJ xL (jV (mF K) nJ (by rfl) Ad PySem.boot_len (bF (bE (pv 0)) bV)) cC (bD _)) (uM (dW (jo_ K) (aDx true) (eZ (gJ K (pv 0)) (kW K (bE (pv 0)) (ih_ cC) (λ_ _=>rfl))) (mI (bF dL (bF dL bV))) (by with_unfolding_all rfl))))) (cP (cZ mJ)) eJ)
  (cP (cZ (fH L9 (hr.mono (by omega)) (bF (bE (pv 0)) (bF (bE (pv 1)) bV)))))))))),λds Q h=>?_⟩
 clear Aj Am hj
 obtain⟨t,rfl,A4,q⟩:=h
 have G6:(6:Int)-((n+1:Nat):Int)=5-(n:Int):=by omega
 rw[G6]
 refine mD (ρ':=[vT (.str t),vT (.int (5-(n:Int))),.un,.un]) (λQ q=>?_) ?_
 ·show Q (decide (5 < 5 - (n:Int))) _
  rw[dzF (by omega)]
  exact q
 refine⟨t,rfl,A4,?_⟩
 dsimp only
 have hc:=aNw (aF t) [] 0 (-1) (.inl rfl)
 rw[aZ,bJ]at hc
 rcases hc with Em | ⟨i,Cf,hi⟩
 ·rw [Em]
  refine mD (ρ':=[vT (.str t),vT (.int (5-(n:Int))),vT (.int (-1)),.un]) (λQ q=>q) ?_
  have Eg:aF (Txt.slice t none (some 1))=(aF t).take 1:=aCk (x:=t) (j:=1)
  by_cases hn:∃l,aF t=110::l
  ·obtain ⟨l,hl⟩:=hn
   refine iY true (ρ':=[vT (.str t),vT (.int (5-(n:Int))),vT (.int (-1)),.un]) (λQ q=>?_) (λ_=>?_) (λhb=>by cases hb)
   ·refine ⟨by show t.length≤1000000; omega,?_⟩
    show Q (decide (Txt.slice t none (some 1) = "n")) _
    rw[dzT (qQ (by rw[Eg,hl];show [110]=_;decide +kernel))]
    exact q
   ·refine gr_ ⟨t,rfl,A4,⟨l,hl⟩,fun w m hF he => ?_,fun Ba => ?_⟩
    ·rw [fE.mpr (⟨hF,by simp only [Kd.deep]; omega,he⟩ : Wr (n + 1) (aF t) (.num w m))] at q
     exact q
    ·rw [eT.mpr fun k hk=>by
      rcases aYb Em hk with⟨w,m,r,rfl,_⟩ | ⟨m,e⟩ | ⟨m,e⟩
      ·exact Ba w m hk.1 hk.2.2
      ·rw[hl]at e;cases(List.cons.inj e).1
      ·rw[hl]at e;cases(List.cons.inj e).1]at q
     exact q
  ·refine mD (ρ':=[vT (.str t),vT (.int (5 - (n:Int))),vT (.int (-1)),.un]) (fun Q q => ?_) ?_
   ·refine ⟨by show t.length≤1000000; omega,?_⟩
    show Q (decide (Txt.slice t none (some 1) = "n")) _
    rw[dzF (λz=>hn (by
     have z2:=congrArg aF z
     rw[Eg,show aF ("n" : Str)=[110] by decide +kernel]at z2
     cases e:aF t with
     |nil=>rw[e]at z2;cases z2
     |cons c r=>rw[e]at z2;cases z2;exact⟨r,rfl⟩))]
    exact q
   obtain⟨b,hb⟩:∃b:Bool,b=true↔¬((∃m,aF t=123::(m++[125]))\/∃m,aF t=60::(m++[62])):=⟨!(@decide _ (Classical.propDecidable ((∃m,aF t=123::(m++[125]))\/∃m,aF t=60::(m++[62])))),by simp⟩
   refine iY b (ρ':=[vT (.str t),vT (.int (5-(n:Int))),vT (.int (-1)),.un]) (λQ q=>kG ?_) (λh=>?_) (λh=>?_)
   ·by_cases h2:t.length < 2
    ·have h3:b=true:=hb.mpr (by
      rintro(⟨m,e⟩ | ⟨m,e⟩)<;>
      ·have:=congrArg List.length e
       rw[<-fL,aE,aC,bT]at this
       omega)
     rw[h3]at q
     refine⟨by show t.length<=1000000;omega,?_⟩
     show(if decide ((t.length:Int)<2)=true then _ else _)
     rw[if_pos (dzT (by omega))]
     exact q
    ·refine ⟨by show t.length≤1000000; omega,?_⟩
     show(if decide ((t.length:Int)<2)=true then _ else _)
     rw[if_neg (by rw[dzF (by omega)];decide)]
     obtain⟨c,m,d,C7⟩:=aMl (l:=aF t) (by rw[<-fL];omega)
     refine⟨by show t.length<=1000000;omega,?_⟩
     show(match atI (aF t) 0 with | some c=>_ | none=>False)
     rw[show atI (aF t) 0=some c from rO (j:=0) (by rw[C7];rfl)]
     refine⟨by show t.length<=1000000;omega,?_⟩
     show(match atI (aF t) (-1)with | some c=>_ | none=>False)
     rw[show atI (aF t) (-1)=some d by rw[C7];exact aNf (c::m) d]
     refine⟨by show 2<=1000000;decide,by show 2<=1000000;decide,rfl,?_⟩
     show Q (!inV (.str ((⟨#[c]⟩:Str)++(⟨#[d]⟩:Str))) ((["{}","<>"]:List Str).map V.str)) _
     rw[show(!inV (.str ((⟨#[c]⟩:Str)++(⟨#[d]⟩:Str))) ((["{}","<>"]:List Str).map V.str))=b from ?_]
     ·exact q
     ·rw[cX,hb,Bool.not_eq_true',<-Bool.not_eq_true,wL,C7,aMm]
   ·rw [eT.mpr fun k hk=>by
     rcases aYb Em hk with⟨w,m,r,rfl,e⟩ | e | e
     ·exact hn ⟨r,e⟩
     ·exact hb.mp h (.inl e)
     ·exact hb.mp h (.inr e)]at q
    exact q
   ·have hf:(∃ m,aF t=123 :: (m ++ [125]))∨∃ m,aF t=60 :: (m ++ [62]):=Classical.not_not.mp fun z=>by rw [hb.mpr z] at h; cases h
    rcases hf with⟨m,e⟩ | ⟨m,e⟩
    ·exact gr_ ⟨t,m,rfl,A4,.inl e,q⟩
    ·exact gr_ ⟨t,m,rfl,A4,.inr e,q⟩
 ·rw [Cf]
  have hil:i<t.length:=by rw[fL];exact(bG.mp hi).1
  have Mi:aF (Txt.slice t none (some (i:Int)))=(aF t).take i:=aCk
  have Co:aF (Txt.slice t (some ((i:Int)+1)) none)=(aF t).drop (i+1):=c7 (x:=t) (i:=i+1) (by omega)
  obtain⟨v,g1,c1⟩:=tO (Txt.slice t (some ((i:Int)+1)) none) (by rw[fL,Co,aY,<-fL];omega)
  refine iY true (ρ':=[vT (.str t),vT (.int (5-(n:Int))),vT (.int (i:Int)),.un]) (λQ q=>?_) (λ_=>?_) (λhb=>by cases hb)
  ·show Q (decide ((0:Int)≤(i:Int))) _
   rw[dzT (by omega)]
   exact q
  refine⟨by show t.length<=1000000;omega,Txt.slice t none (some (i:Int)),by show [Dx.str _,.int (5-(n:Int)+1)]=[.str _,.int (6-(n:Int))];congr 3;omega,by rw[fL,Mi,eG];rw[fL]at A4;omega,?_⟩
  dsimp only
  rw[Mi]
  cases hk:rdK n ((aF t).take i)with
  |none =>
   rw[eT.mpr λk hw=>by
    obtain⟨k',m,_,h1,_⟩:=(yE Cf hi).mp hw
    rw[hk]at h1
    cases h1]at q
   exact iY true (λQ q=>q) (λ_=>q) (λhb=>by cases hb)
  |some k =>
   obtain⟨l,hx⟩:=aBo k
   have Df:oxK (some k)=.tup l:=hx
   refine iY (!(decide (1<=v)&&decide (v<21))) (ρ':=[vT (.str t),vT (.int (5-(n:Int))),vT (.int (i:Int)),vT (oxK (some k))]) (λQ q=>?_) (λhb=>?_) (λhb=>?_)
   ·rw [Df] at q ⊢
    refine pN (λQ' q'=>q') ?_
    exact(show dU pP _ _ _ from aFs A4 g1 ⟨v,rfl,q⟩)
   ·have Ba:rdK (n + 1) (aF t)=none:=by
     refine eT.mpr λk2 hw=>?_
     obtain⟨k',m,rfl,_,h2,h3,h4⟩:=(yE Cf hi).mp hw
     rw[<-Co]at h2
     have h5:=qQ h2
     rcases c1 with⟨h0,ea⟩ | ⟨_,hn⟩
     ·have h6:v=m:=jq_ h0 (by omega) (by rw [← ea,h5])
      rw[h6,dzT h3,dzT (by omega:m<21)]at hb
      cases hb
     ·exact hn m (by omega) (by omega) h5
    rw[Ba]at q
    exact q
   ·rw [Bool.not_eq_false',bY,decide_eq_true_eq,decide_eq_true_eq] at hb
    have ea:Txt.slice t (some ((i:Int)+1)) none=cF v:=by
     rcases c1 with⟨h0,ea⟩ | ⟨h0,_⟩
     ·exact ea
     ·omega
    have Fa:rdK (n+1) (aF t)=some (.row k v):=fE.mpr ((yE Cf hi).mpr ⟨k,v,rfl,hk,by rw[<-Co,ea],hb.1,by omega⟩)
    rw[Fa]at q
    refine gr_ ?_
    refine(show dU pP (bA (xSl (bW 0) (xoS (xOp fA (bW 2) (xC (Dx.int 1)))) xoN) cV) [vT (.str t),vT (.int (5-(n:Int))),vT (.int (i:Int)),vT (oxK (some k))] _ from aFs A4 g1 ?_)
    refine⟨by show 3<=1000000;decide,?_⟩
    have ex:(Kd.row k v).x=.tup [.str "row",k.x,.int v]:=by simp only[Kd.x]
    show Q (.tr (.tup [.str "row",k.x,.int v]))
    rw[<-ex]
    exact q
end
def gCH:GB:=λl ds Q=>∃x:Str,ds=[.str x]/\fI l/\x.length<=170000/\∀(x':Str) (l':List Dx),x'.length<=900000->fI l'->Q (.str x') l'
def aOe (K : dA) : XS := (cL (gK 2 (xOp aKz (xOp fA (dY gTK 1 (bA (xC (.int 64)) cV)) (xOp tW (xC (.int 64)) (dY gTK 1 (bA (xC (.int 64)) cV)))) (xOp fA (dU aLb (bA (bW 0) cV)) (xC (.int 1)))))
    (cL (gK 3 (xOp ixX (xC (.str "0123456789abnz{}<>[]*/:, -+_.\n\t")) (dY gTK 1 (bA (xC (.int 31)) cV))))
    (cL (gK 4 (dY gTK 1 (bA (xC (.int 9)) cV)))
    (cL (xIf (xB (xOp eqX (bW 4) (xC (.int 0)))) (hX (xOp fA (xSl (bW 0) xoN (xoS (bW 2))) (xSl (bW 0) (xoS (xOp fA (bW 2) (xC (.int 1)))) xoN))) eR)
    (cL (xIf (xB (xOp ltX (bW 4) (xC (.int 3)))) (hX (xOp fA (xOp fA (xSl (bW 0) xoN (xoS (bW 2))) (bW 3)) (xSl (bW 0) (xoS (xOp aWy (xOp fA (bW 2) (bW 4)) (xC (.int 1)))) xoN))) eR)
    (cL (xIf (xB (xOp eqX (bW 4) (xC (.int 3)))) (hX (xOp fA (xOp fA (xSl (bW 0) xoN (xoS (bW 2))) (aNn (xSl (bW 0) (xoS (bW 2)) (xoS (xOp fA (bW 2) (xC (.int 2))))))) (xSl (bW 0) (xoS (xOp fA (bW 2) (xC (.int 2)))) xoN))) eR)
    (cL (xIf (xB (xOp eqX (bW 4) (xC (.int 4)))) (cL (gK 5 (xOp ixX (kY (bA (xC (.str ", ")) (bA (xC (.str "0")) (bA (xC (.str "00")) (bA (xC (.str " ")) (bA (xC (.str "*2")) (bA (xC (.str "1:")) (bA (xC (.str "{}")) (bA (xC (.str "<>")) (bA (xC (.str "[]")) (bA (xC (.str "\n")) cV))))))))))) (dY gTK 1 (bA (xC (.int 10)) cV))))
    (hX (xOp fA (xOp fA (xSl (bW 0) xoN (xoS (bW 2))) (bW 5)) (xSl (bW 0) (xoS (bW 2)) xoN)))) eR)
    (cL (xIf (xB (xOp eqX (bW 4) (xC (.int 5)))) (hX (xOp fA (xOp ixX (kY (bA (xC (.str " ")) (bA (xC (.str "\n")) (bA (xC (.str "{")) (bA (xC (.str "<")) (bA (xC (.str "[")) (bA (xC (.str "0")) cV))))))) (dY gTK 1 (bA (xC (.int 6)) cV))) (bW 0))) eR)
    (cL (xIf (xB (xOp eqX (bW 4) (xC (.int 6)))) (hX (xOp fA (bW 0) (xOp ixX (kY (bA (xC (.str " ")) (bA (xC (.str "\n")) (bA (xC (.str "}")) (bA (xC (.str ">")) (bA (xC (.str "]")) (bA (xC (.str "0")) (bA (xC (.str ", ")) (bA (xC (.str "*0")) (bA (xC (.str "*21")) (bA (xC (.str "*1")) cV))))))))))) (dY gTK 1 (bA (xC (.int 10)) cV))))) eR)
    (cL (xIf (xB (xOp eqX (bW 4) (xC (.int 7)))) (hX (aNp ", " (bW 0) (aWb [","," ,",",  ","; "] (dY gTK 1 (bA (xC (.int 4)) cV))))) eR)
    (hX (xOp fA (xOp fA (xSl (bW 0) xoN (xoS (bW 2))) (xSl (bW 0) (xoS (bW 2)) (xoS (xOp fA (bW 2) (xC (.int 6)))))) (xSl (bW 0) (xoS (bW 2)) xoN)))))))))))))
section
variable{f:Addr}
theorem aUo(Bd:Cal P w K mg base 1 "_law_take" AH (spB gTK))(Ad:mg "len" = none)
  {Ai:Value} {A:Around} {outer:List Env} {s:Shared} {H:Hp} {E:XK} (hr:Room 1 (A.deeper (PyProof.Rows.envOfC "_law_changed" (aL ct_) s.heap.objs.size f Ai))) :
  XSs (iS CX0 P w K mg base (["text","deck","at","sign","way","more"]:List Str) "_law_changed" (aL ct_) f Ai A outer s H E).nox fZ (dX ct_) (aOe K):=by
 have Am:=iT hr
 have Aj:=aM Am
 exact(iU (gZ (Bx.mk (gA (i:=2) fM.nd rfl (Or.inl rfl) (gn_ (eZ (kU (i:=1) Bd (hr.mono (by omega)) (pv 1) (bF cC bV)) (z8 cC (kU (i:=1) Bd (hr.mono (by omega)) (pv 1) (bF cC bV)))) (eZ (jV (mF K) nJ (by rfl) Ad PySem.boot_len (bF (bE (pv 0)) bV)) cC))))
  (gZ (Bx.mk (gA (i:=3) fM.nd rfl (Or.inl rfl) (kW K dL (kU (i:=1) Bd (hr.mono (by omega)) (pv 1) (bF cC bV)) (λ_ _=>rfl))))
  (gZ (Bx.mk (gA (i:=4) fM.nd rfl (Or.inl rfl) (kU (i:=1) Bd (hr.mono (by omega)) (pv 1) (bF cC bV))))
  (gZ (Bx.mk (eC (dW (iJ K Aj) iP (bE (pv 4)) cC (bD _)) (iU (lY (Bx.mk (cZ (eZ (kX K (bE (pv 0)) mK (jQ (bE (pv 2)))) (kX K (bE (pv 0)) (jQ (eZ (bE (pv 2)) cC)) mK)))))) eJ))
  (gZ (Bx.mk (eC (dW xJ xL (bE (pv 4)) cC (bD _)) (iU (lY (Bx.mk (cZ (eZ (eZ (kX K (bE (pv 0)) mK (jQ (bE (pv 2)))) (bE (pv 3))) (kX K (bE (pv 0)) (jQ (zA (eZ (bE (pv 2)) (bE (pv 4))) cC)) mK)))))) eJ))
  (gZ (Bx.mk (eC (dW (iJ K Aj) iP (bE (pv 4)) cC (bD _)) (iU (lY (Bx.mk (cZ (eZ (eZ (kX K (bE (pv 0)) mK (jQ (bE (pv 2)))) (aHw (kX K (bE (pv 0)) (jQ (bE (pv 2))) (jQ (eZ (bE (pv 2)) cC))))) (kX K (bE (pv 0)) (jQ (eZ (bE (pv 2)) cC)) mK)))))) eJ))
  (gZ (xE (Bx.mk (dW (iJ K Aj) iP (bE (pv 4)) cC (bD _))) (gZ (hs_ (i:=5) fM.nd rfl (Or.inl rfl) (mE K (gu_ (eW iI (eW iI (eW iI (eW iI (eW iI (eW iI (eW iI (eW iI (eW iI (eW iI qO))))))))))) (fq_ (i:=1) Bd (hr.mono (by omega)) (pv 1) (eW pZ qO)) (λ_ _=>rfl)))
  (lY (Bx.mk (cZ (eZ (eZ (kX K (bE (pv 0)) mK (jQ (bE (pv 2)))) (bE (pv 5))) (kX K (bE (pv 0)) (jQ (bE (pv 2))) mK)))))) kd_)
  (gZ (xE (Bx.mk (dW (iJ K Aj) iP (bE (pv 4)) cC (bD _))) (lY (uV (kf_ (mE K (gu_ (eW iI (eW iI (eW iI (eW iI (eW iI (eW iI qO))))))) (fq_ (i:=1) Bd (hr.mono (by omega)) (pv 1) (eW pZ qO)) (λ_ _=>rfl)) (gt_ (pv 0))))) kd_)
  (gZ (xE (Bx.mk (dW (iJ K Aj) iP (bE (pv 4)) cC (bD _))) (lY (uV (kf_ (gt_ (pv 0)) (mE K (gu_ (eW iI (eW iI (eW iI (eW iI (eW iI (eW iI (eW iI (eW iI (eW iI (eW iI qO))))))))))) (fq_ (i:=1) Bd (hr.mono (by omega)) (pv 1) (eW pZ qO)) (λ_ _=>rfl))))) kd_)
  (gZ (Bx.mk (aPo (iJ K Aj) iP (bE (pv 4)) (bD _) (aBh (aHu (aBm (bE (pv 0)) (aHz (is_ (is_ (is_ (is_ aIa)))) (by decide) (kU (i:=1) Bd (hr.mono (by omega)) (pv 1) (bF cC bV)) (λ_ _=>rfl))))) eJ))
  (lY (Bx.mk (cZ (eZ (eZ (kX K (bE (pv 0)) mK (jQ (bE (pv 2)))) (kX K (bE (pv 0)) (jQ (bE (pv 2))) (jQ (eZ (bE (pv 2)) cC)))) (kX K (bE (pv 0)) (jQ (bE (pv 2))) mK))))))))))))))))
end
theorem x6{x:Str}{a b:Option Int}{n:Nat}(h:x.length<=n):(Txt.slice x a b).length<=n:=nzL (Txt.slice_le x a b) h
theorem gb_{x y:Str}{n m:Nat}(h:x.length<=n)(h':y.length<=m):(x++y).length<=n+m:=by rw[kI];omega
theorem aQs{x:Str}{n:Nat}(h:x.length<=n):(s9 x).length<=n:=by rw[oQ];exact h
theorem aLf{z:Str}{r:Int}{Q:Sv->Prop}(h0:0<=r)(h1:r<z.length)(h2:z.length<=1000000)(q:∀c,Q (.tr (.str ⟨#[c]⟩))):ixX (.str z) (.int r) Q:=by
 refine⟨h2,?_⟩
 obtain⟨c,hc,_⟩:=qE (l:=z.cps.toList) h0 (by rw[Array.length_toList];exact h1)
 rw[hc]
 exact q c
theorem six{l:List Str}{n:Nat}(h:∀z∈l,z.length<=n){r:Int}{Q:Sv->Prop}(h0:0<=r)(h1:r<l.length)(q:∀z:Str,z.length<=n->Q (.tr (.str z))):ixX (.lst (l.map Dx.str)) (.int r) Q:=hl_ h0 (by rw[aD];exact h1) λd hd=>by
 obtain⟨z,hz,rfl⟩:=cJ.mp hd
 exact q z (h z hz)
section
variable{f:Addr}
theorem aSm(F:Fun K "_law_changed" "_law_changed" ct_ f fd)(Bd:Cal P w K mg base 1 "_law_take" AH (spB gTK))(Ad:mg "len" = none):FnOk P w K mg base CX0 2 f fd AQ (vM gCH):=by
 refine aPb F fM (λl ds Q h=>by obtain⟨_,rfl,_⟩:=h;rfl) rfl (by decide) λAi A outer s H E hr=>?_
 refine⟨_,aUo Bd Ad hr,λl d Q h=>?_⟩
 clear hr
 obtain⟨x,e,hN,hx,q⟩:=h
 cases e
 unfold aOe
 have Dm:x.length<=1000000:=by omega
 refine⟨rfl,64,rfl,hN,by decide,λr1 l1 a0 a1 Ji=>?_⟩
 refine⟨rfl,64,rfl,Ji,by decide,λr2 l2 b0 b1 J5=>?_⟩
 refine⟨⟨by decide,by omega⟩,Dm,?_⟩
 refine⟨by show(0:Int)<(x.length:Int)+1;omega,?_⟩
 dsimp only
 generalize (r1+64*r2)%((x.length:Int)+1)=at_
 change cL _ _ [vT (.str x),.bw l2,vT (.int at_),.un,.un,.un] _
 refine nK (rK (ir_ ?_))
 refine⟨rfl,31,rfl,J5,by decide,λr3 l3 c0 c1 Ha=>?_⟩
 refine aLf c0 c1 (by decide) λc=>?_
 refine⟨rfl,9,rfl,Ha,by decide,λway l4 w0 w1 Ft=>?_⟩
 dsimp only
 have Ip:(⟨#[c]⟩:Str).length=1:=rfl
 generalize (⟨#[c]⟩:Str)=sign at Ip ⊢
 change cL _ _ [vT (.str x),.bw l4,vT (.int at_),vT (.str sign),vT (.int way),.un] _
 have fin:∀(z:Str) (n:Nat) (l':List Dx),z.length<=n->n<=900000->fI l'->Q (.str z) l':=λz n l' h h' hn=>q z l' (nzL h h') hn
 refine iY (decide (way=0)) (ρ':=[vT (.str x),.bw l4,vT (.int at_),vT (.str sign),vT (.int way),.un]) (λQ q=>q) (λ_=>?_) (λ_=>?_)
 ·have h1:=x6 (a:=none) (b:=some at_) hx
  have h2:=x6 (a:=some (at_+1)) (b:=none) hx
  exact⟨Dm,Dm,⟨by omega,fin _ _ _ (gb_ h1 h2) (by decide) Ft⟩⟩
 refine iY (decide (way<3)) (ρ':=[vT (.str x),.bw l4,vT (.int at_),vT (.str sign),vT (.int way),.un]) (λQ q=>q) (λ_=>?_) (λ_=>?_)
 ·have h1:=x6 (a:=none) (b:=some at_) hx
  have h2:=x6 (a:=some (at_+way-1)) (b:=none) hx
  have h3:=gb_ h1 (Nat.le_of_eq Ip)
  exact⟨Dm,⟨by omega,Dm,⟨by omega,fin _ _ _ (gb_ h3 h2) (by decide) Ft⟩⟩⟩
 refine iY (decide (way=3)) (ρ':=[vT (.str x),.bw l4,vT (.int at_),vT (.str sign),vT (.int way),.un]) (λQ q=>q) (λ_=>?_) (λ_=>?_)
 ·have h1:=x6 (a:=none) (b:=some at_) hx
  have h2:=aQs (x6 (a:=some at_) (b:=some (at_+2)) hx)
  have h3:=x6 (a:=some (at_+2)) (b:=none) hx
  have h4:=gb_ h1 h2
  refine⟨Dm,Dm,?_⟩
  refine⟨by have:=x6 (a:=some at_) (b:=some (at_+2)) hx;omega,?_⟩
  exact⟨by omega,Dm,⟨by omega,fin _ _ _ (gb_ h4 h3) (by decide) Ft⟩⟩
 refine iY (decide (way=4)) (ρ':=[vT (.str x),.bw l4,vT (.int at_),vT (.str sign),vT (.int way),.un]) (λQ q=>q) (λ_=>?_) (λ_=>?_)
 ·refine ⟨mG (by show 10≤1000000; decide),rfl,10,rfl,Ft,by decide,fun r5 l5 d0 d1 G9 => ?_⟩
  refine six (l:=[", ","0","00"," ","*2","1:","{}","<>","[]","\n"]) (n:=2) (by decide) d0 d1 λz hz=>?_
  have h1:=x6 (a:=none) (b:=some at_) hx
  have h2:=x6 (a:=some at_) (b:=none) hx
  have h3:=gb_ h1 hz
  exact⟨Dm,⟨by omega,Dm,⟨by omega,fin _ _ _ (gb_ h3 h2) (by decide) G9⟩⟩⟩
 refine iY (decide (way=5)) (ρ':=[vT (.str x),.bw l4,vT (.int at_),vT (.str sign),vT (.int way),.un]) (λQ q=>q) (λ_=>?_) (λ_=>?_)
 ·refine ⟨mG (by show 6≤1000000; decide),rfl,6,rfl,Ft,by decide,fun r5 l5 d0 d1 G9 => ?_⟩
  refine six (l:=[" ","\n","{","<","[","0"]) (n:=2) (by decide) d0 d1 λz hz=>?_
  exact⟨by omega,fin _ _ _ (gb_ hz hx) (by decide) G9⟩
 refine iY (decide (way=6)) (ρ':=[vT (.str x),.bw l4,vT (.int at_),vT (.str sign),vT (.int way),.un]) (λQ q=>q) (λ_=>?_) (λ_=>?_)
 ·refine ⟨mG (by show 10≤1000000; decide),rfl,10,rfl,Ft,by decide,fun r5 l5 d0 d1 G9 => ?_⟩
  refine six (l:=[" ","\n","}",">","]","0",", ","*0","*21","*1"]) (n:=3) (by decide) d0 d1 λz hz=>?_
  exact⟨by omega,fin _ _ _ (gb_ hx hz) (by decide) G9⟩
 refine iY (decide (way=7)) (ρ':=[vT (.str x),.bw l4,vT (.int at_),vT (.str sign),vT (.int way),.un]) (λQ q=>q) (λ_=>?_) (λ_=>?_)
 ·refine ⟨⟨x,rfl⟩,rfl,4,rfl,Ft,by decide,fun r5 l5 d0 d1 G9 => ?_⟩
  have hz:∃z:Str,([Str.ofString ",",Str.ofString " ,",Str.ofString ",  ",Str.ofString "; "]:List Str)[r5.toNat]? = some z/\z.length<=3/\((Str.ofString ", ") == z)=false:=by
   have:r5=0\/r5=1\/r5=2\/r5=3:=by omega
   rcases this with rfl | rfl | rfl | rfl
   ·exact⟨_,rfl,by decide,by decide⟩
   ·exact⟨_,rfl,by decide,by decide⟩
   ·exact⟨_,rfl,by decide,by decide⟩
   ·exact⟨_,rfl,by decide,by decide⟩
  obtain⟨z,z1,z2,z3⟩:=hz
  refine⟨r5.toNat,z,by rw[show((r5.toNat:Nat):Int)=r5 from by omega];rfl,z1,x,z,rfl,rfl,z3,by omega,λx' h'=>fin x' 170003 _ (by omega) (by decide) G9⟩
 ·have h1:=x6 (a:=none) (b:=some at_) hx
  have h2:=x6 (a:=some at_) (b:=some (at_+6)) hx
  have h3:=x6 (a:=some at_) (b:=none) hx
  have h4:=gb_ h1 h2
  exact⟨Dm,Dm,⟨by omega,Dm,⟨by omega,fin _ _ _ (gb_ h4 h3) (by decide) Ft⟩⟩⟩
end
def gWP:GB:=λl ds Q=>∃x:Str,ds=[.str x]/\fI l/\x.length<=80000/\∀(x':Str) (l':List Dx),x'.length<=900000->fI l'->Q (.str x') l'
def aOc (K : dA) : XS := (cL (gK 2 (xOp fA (xC (.int 1)) (dY gTK 1 (bA (xC (.int 9)) cV))))
    (cL (gK 3 (dY gTK 1 (bA (xC (.int 6)) cV)))
    (cL (gK 4 (xOp ixX (kY (bA (bW 2) (bA (bW 2) (bA (bW 2) (bA (xOp fA (xC (.int 300)) (xOp tW (xC (.int 11)) (bW 2))) cV))))) (dY gTK 1 (bA (xC (.int 4)) cV))))
    (cL (xIf (xB (xOp eqX (bW 3) (xC (.int 0)))) (hX (xOp fA (bW 0) (xOp tW (xOp ixX (kY (bA (xC (.str "*2")) (bA (xC (.str "*1")) cV))) (xOp aKz (bW 4) (xC (.int 2)))) (bW 4)))) eR)
    (cL (xIf (xB (xOp eqX (bW 3) (xC (.int 1)))) (hX (xOp fA (xOp fA (xOp tW (xC (.str "{a ")) (bW 4)) (bW 0)) (xOp tW (xC (.str "}")) (bW 4)))) eR)
    (cL (xIf (xB (xOp eqX (bW 3) (xC (.int 2)))) (hX (xOp fA (xOp fA (xOp tW (xC (.str "<")) (bW 4)) (bW 0)) (xOp tW (xC (.str ">")) (bW 4)))) eR)
    (cL (xIf (xB (xOp eqX (bW 3) (xC (.int 3)))) (hX (xOp fA (xOp fA (xC (.str "<")) (aBq ", " (vD 1 [0] (aPq (bA (bW 2) cV)) (gxN 0) aPt (bW 1)))) (xC (.str ">")))) eR)
    (cL (gK 5 (kY (bA (xC (.str "a")) (bA (xC (.str "b")) (bA (xC (.str "cc")) (bA (xC (.str "d")) (bA (xC (.str "e")) (bA (xC (.str "abcdefgh")) (bA (xOp ixX (kY (bA (xC (.str "g")) (bA (xC (.str "abcdefghi")) (bA (xC (.str "a")) (bA (xC (.str "G")) cV))))) (dY gTK 1 (bA (xC (.int 4)) cV))) (bA (xC (.str "h")) (bA (xC (.str "i")) cV)))))))))))
    (cL (xIf (xB (xOp eqX (bW 3) (xC (.int 4)))) (gK 5 (aNo (bW 5))) eR)
    (hX (xOp fA (xOp fA (xC (.str "{")) (aBq ", " (vD 1 [0] (xiL (xSl (bW 5) xoN (xoS (bW 2)))) (gxN 0) aPt (xOp fA (xOp fA (bW 0) (xC (.str " "))) (bW 1))))) (xC (.str "}")))))))))))))
section
variable{f:Addr}
theorem aUn(Bd:Cal P w K mg base 1 "_law_take" AH (spB gTK))(Af:mg "range" = none)
  {Ai:Value} {A:Around} {outer:List Env} {s:Shared} {H:Hp} {E:XK} (hr:Room 1 (A.deeper (PyProof.Rows.envOfC "_law_wrapped" (aL bx_) s.heap.objs.size f Ai))) :
  XSs (iS CX0 P w K mg base (["text","deck","few","way","many","names"]:List Str) "_law_wrapped" (aL bx_) f Ai A outer s H E).nox fZ (dX bx_) (aOc K):=by
 have Am:=iT hr
 have Aj:=aM Am
 exact(iU (gZ (Bx.mk (gA (i:=2) dZ.nd rfl (Or.inl rfl) (eZ cC (kU (i:=1) Bd (hr.mono (by omega)) (pv 1) (bF cC bV)))))
  (gZ (Bx.mk (gA (i:=3) dZ.nd rfl (Or.inl rfl) (kU (i:=1) Bd (hr.mono (by omega)) (pv 1) (bF cC bV))))
  (gZ (Bx.mk (gA (i:=4) dZ.nd rfl (Or.inl rfl) (kW K (mI (bF (bE (pv 2)) (bF (bE (pv 2)) (bF (bE (pv 2)) (bF (eZ cC (z8 cC (bE (pv 2)))) bV))))) (kU (i:=1) Bd (hr.mono (by omega)) (pv 1) (bF cC bV)) (λ_ _=>rfl))))
  (gZ (Bx.mk (eC (dW (iJ K Aj) iP (bE (pv 3)) cC (bD _)) (iU (lY (Bx.mk (cZ (eZ (bE (pv 0)) (z8 (kW K (mI (bF dL (bF dL bV))) (gn_ (bE (pv 4)) cC) (λ_ _=>rfl)) (bE (pv 4)))))))) eJ))
  (gZ (Bx.mk (eC (dW (iJ K Aj) iP (bE (pv 3)) cC (bD _)) (iU (lY (Bx.mk (cZ (eZ (eZ (z8 dL (bE (pv 4))) (bE (pv 0))) (z8 dL (bE (pv 4)))))))) eJ))
  (gZ (Bx.mk (eC (dW (iJ K Aj) iP (bE (pv 3)) cC (bD _)) (iU (lY (Bx.mk (cZ (eZ (eZ (z8 dL (bE (pv 4))) (bE (pv 0))) (z8 dL (bE (pv 4)))))))) eJ))
  (gZ (Bx.mk (eC (dW (iJ K Aj) iP (bE (pv 3)) cC (bD _)) (iU (lY (Bx.mk (cZ (eZ (eZ dL (zV (dl_ (dsc:=aL bx_) (N:=AV) (tgs:=["k"]) (outs:=[0]) (N':=["k","text"]) (by refine⟨rfl,?_,?_,?_,rfl,?_,?_,?_⟩<;>decide +kernel) (df_ Af (bF (bE (pv 2)) bV)) (λ_ _ _ _ _=>(jP (i:=0) (show(["k","text"]:List Str).Nodup by decide +kernel) rfl (Or.inl rfl) (.inr rfl))) (rP (n:=1) (i:=0) (by decide)) (cz_ (by decide)) (λ_ _ _ _ _=>dw_) (λ_ _ _ _ _=>(bE (pv 1)))))) dL))))) eJ))
  (gZ (hs_ (i:=5) dZ.nd rfl (Or.inl rfl) (gu_ (eW iI (eW iI (eW iI (eW iI (eW iI (eW iI (eW (mE K (gu_ (eW iI (eW iI (eW iI (eW iI qO))))) (fq_ (i:=1) Bd (hr.mono (by omega)) (pv 1) (eW pZ qO)) (λ_ _=>rfl)) (eW iI (eW iI qO)))))))))))
  (gZ (Bx.mk (eC (dW (iJ K Aj) iP (bE (pv 3)) cC (bD _)) (iU (lY (Bx.mk (gA (i:=5) dZ.nd rfl (Or.inl rfl) (zT (bE (pv 5))))))) eJ))
  (lY (Bx.mk (cZ (eZ (eZ dL (zV (dl_ (dsc:=aL bx_) (N:=AV) (tgs:=["name"]) (outs:=[0]) (N':=["name","text"]) (by refine⟨rfl,?_,?_,?_,rfl,?_,?_,?_⟩<;>decide +kernel) (ey_ (kX K (bE (pv 5)) mK (jQ (bE (pv 2))))) (λ_ _ _ _ _=>(jP (i:=0) (show(["name","text"]:List Str).Nodup by decide +kernel) rfl (Or.inl rfl) (.inr rfl))) (rP (n:=1) (i:=0) (by decide)) (cz_ (by decide)) (λ_ _ _ _ _=>dw_) (λ_ _ _ _ _=>(eZ (eZ (bE (pv 0)) dL) (bE (pv 1))))))) dL))))))))))))))
end
theorem b8{B:Nat}:∀{ys:List Str},(∀y∈ys,y.length<=B)->(ys.map (·.length)).sum<=ys.length*B
 | [],_=>bP _
 |y::r,h=>by
  have h1:=h y aA
  have h2:=b8 (ys:=r) λz hz=>h z (aB _ hz)
  rw[aO,List.sum_cons,aE,Nat.add_mul]
  omega
theorem aNz(z:Str):∀ys:List Str,(Str.join z ys).length<=(ys.map (·.length)).sum+ys.length*z.length
 | []=>bP _
 | [y]=>by show y.length<=_;simp
 |y::y2::r=>by
  have ih:=aNz z (y2::r)
  show(y++z++Str.join z (y2::r)).length<=_
  rw[kI,kI,aO,List.sum_cons,aE,Nat.add_mul]
  omega
theorem aOo{B n:Nat}{ys:List Str}(h:∀y∈ys,y.length<=B)(hl:ys.length<=n):(ys.map (·.length)).sum+ys.length*(Str.ofString ", ").length<=n*(B+2)/\(Txt.join (Str.ofString ", ") ys).length<=n*(B+2):=by
 have h1:=b8 h
 have h2:=aNz (Str.ofString ", ") ys
 have e:(Str.ofString ", ").length=2:=by decide
 rw[e]at h2 ⊢
 have h3:ys.length*B+ys.length*2<=n*(B+2):=by rw[<-Nat.mul_add];exact gG _ hl
 refine⟨by omega,?_⟩
 rw[show Txt.join (Str.ofString ", ") ys=Str.join (Str.ofString ", ") ys from PySem.StrLaws.glued_eq_join _ _]
 omega
theorem pG{z:Str}{j:Int}(h:z.length<=3)(h0:0<=j)(h1:j<=399):(Txt.mul z j).length<=1200:=by
 have e:=PyProof.Rows.len_mul z j
 rw[if_neg (by rw[decide_eq_true_eq];omega)]at e
 have:(z.length:Int)*j<=3*j:=fR (by omega) h0
 omega
section
variable{f:Addr}
theorem aRz(F:Fun K "_law_wrapped" "_law_wrapped" bx_ f fd)(Bd:Cal P w K mg base 1 "_law_take" AH (spB gTK))(Af:mg "range" = none):FnOk P w K mg base CX0 2 f fd AQ (vM gWP):=by
 refine aPb F dZ (λl ds Q h=>by obtain⟨_,rfl,_⟩:=h;rfl) rfl (by decide) λAi A outer s H E hr=>?_
 refine⟨_,aUn Bd Af hr,λl d Q h=>?_⟩
 clear hr
 obtain⟨x,e,hN,hx,q⟩:=h
 cases e
 unfold aOc
 refine⟨rfl,9,rfl,hN,by decide,λr1 l1 a0 a1 Ji=>?_⟩
 refine⟨rfl,6,rfl,Ji,by decide,λway l2 w0 w1 J5=>?_⟩
 try dsimp only
 obtain⟨few,hfw⟩:∃few:Int,few=1+r1:=⟨_,rfl⟩
 change cL _ _ [vT (.str x),.bw l2,vT (.int (1+r1)),vT (.int way),.un,.un] _
 rw[<-hfw]
 refine nK ?_
 refine⟨⟨by decide,by omega⟩,mG (by show 4<=1000000;decide),rfl,4,rfl,J5,by decide,λr3 l3 c0 c1 Ha=>?_⟩
 refine hl_ c0 c1 λd hd=>?_
 obtain⟨many,rfl,hm0,Em⟩:∃many:Int,d=.int many/\1<=many/\many<=399:=by
  simp only[aO,dG,aI,bS,or_false]at hd
  rcases hd with rfl | rfl | rfl | rfl
  ·exact⟨few,rfl,by omega,by omega⟩
  ·exact⟨few,rfl,by omega,by omega⟩
  ·exact⟨few,rfl,by omega,by omega⟩
  ·exact⟨300+11*few,rfl,by omega,by omega⟩
 clear hd
 try dsimp only
 change cL _ _ [vT (.str x),.bw l3,vT (.int few),vT (.int way),vT (.int many),.un] _
 have fin:∀(z:Str) (l':List Dx),z.length<=900000->fI l'->Q (.str z) l':=q
 have Ii:∀{z:Str},z.length<=3->z.length<=1000/\0<=many/\many<=1000:=λh=>⟨by omega,by omega,by omega⟩
 refine iY (decide (way=0)) (ρ':=[vT (.str x),.bw l3,vT (.int few),vT (.int way),vT (.int many),.un]) (λQ q=>q) (λ_=>?_) (λ_=>?_)
 ·refine gr_ (rK (z6 rfl (rK (rK (yV ⟨mG (by show 2≤1000000; decide),?_⟩)))))
  refine⟨by show(0:Int)<2;decide,?_⟩
  refine six (l:=["*2","*1"]) (n:=3) (by decide) (dS _ (by decide)) (cY _ (by decide)) λz hz=>?_
  have h1:=pG hz (by omega:0<=many) Em
  exact⟨Ii hz,by omega,fin _ _ (by rw[kI];omega) Ha⟩
 refine iY (decide (way=1)) (ρ':=[vT (.str x),.bw l3,vT (.int few),vT (.int way),vT (.int many),.un]) (λQ q=>q) (λ_=>?_) (λ_=>?_)
 ·have h1:=pG (z := "{a ") (by decide) (by omega:0≤many) Em
  have h2:=pG (z:= "}") (by decide) (by omega:0<=many) Em
  exact⟨Ii (by decide),by omega,Ii (by decide),by rw[kI];omega,fin _ _ (by rw[kI,kI];omega) Ha⟩
 refine iY (decide (way=2)) (ρ':=[vT (.str x),.bw l3,vT (.int few),vT (.int way),vT (.int many),.un]) (λQ q=>q) (λ_=>?_) (λ_=>?_)
 ·have h1:=pG (z := "<") (by decide) (by omega:0≤many) Em
  have h2:=pG (z:= ">") (by decide) (by omega:0<=many) Em
  exact⟨Ii (by decide),by omega,Ii (by decide),by rw[kI];omega,fin _ _ (by rw[kI,kI];omega) Ha⟩
 refine iY (decide (way=3)) (ρ':=[vT (.str x),.bw l3,vT (.int few),vT (.int way),vT (.int many),.un]) (λQ q=>q) (λ_=>?_) (λ_=>?_)
 ·refine ⟨⟨by omega,by omega⟩,by unfold lK; rw [aD,cB]; omega,?_⟩
  refine hq_ (λt:Nat=>Dx.int (0+(t:Int))) (λ_=>.str x) (λ_=>true) (λi hi Ah P p=>p) ?_
  have hj:=aOo (B:=80000) (n:=9) (ys:=((List.range few.toNat).filter λ_=>true).map λ_=>x) (λy hy=>by obtain⟨_,_,rfl⟩:=cJ.mp hy;exact hx) (by rw[aD,List.filter_eq_self.mpr λ_ _=>rfl,cB];omega)
  exact⟨_,by show Dx.lst _=.lst _;rw[cK];rfl,by omega,by show 1+_<=1000000;omega,by rw[kI];show 1+_+1<=1000000;omega,fin _ _ (by rw[kI,kI];show 1+_+1<=900000;omega) Ha⟩
 refine nK ?_
 refine⟨mG (by show 4<=1000000;decide),rfl,4,rfl,Ha,by decide,λr4 l4 d0 d1 Ft=>?_⟩
 refine six (l:=["g","abcdefghi","a","G"]) (n:=9) (by decide) d0 d1 λz hz=>?_
 refine⟨mG (by show 9<=1000000;decide),?_⟩
 try dsimp only
 change cL _ _ [vT (.str x),.bw l4,vT (.int few),vT (.int way),vT (.int many),.v (.ol ((["a","b","cc","d","e","abcdefgh",z, "h","i"]:List Str).map Dx.str))] _
 have D4:∀y∈(["a","b","cc","d","e","abcdefgh",z, "h","i"]:List Str),y.length<=9:=by
  simp only[aI,bS,or_false]
  rintro y (rfl | rfl | rfl | rfl | rfl | rfl | rfl | rfl | rfl)<;>first | exact hz | decide
 have Ir:(["a","b","cc","d","e","abcdefgh",z, "h","i"]:List Str).length<=9:=aV 9
 generalize (["a","b","cc","d","e","abcdefgh",z, "h","i"]:List Str)=ns at D4 Ir
 refine dp_ (M:=λρ=>∃ns:List Str,(∀y∈ns,y.length<=9)/\ns.length<=9/\ρ=[vT (.str x),.bw l4,vT (.int few),vT (.int way),vT (.int many),.v (.ol (ns.map Dx.str))]) ?_ (λD1 C8=>?_)
 ·rintro ρ ⟨ns,D4,Ir,rfl⟩
  have F9:(jO ns none (some few)).length<=9:=nzL ((List.take_sublist _ _).trans (List.drop_sublist _ _)).length_le Ir
  have Ll:∀y∈jO ns none (some few),y.length<=9:=λy hy=>D4 y (List.mem_of_mem_drop (List.mem_of_mem_take hy))
  refine gr_ (rK (rK (ir_ ?_)))
  show(jO (ns.map Dx.str) none (some few)).length<=1000000/\eB _ _ _ _ _ (jO (ns.map Dx.str) none (some few)) _ _
  rw[n_]
  refine⟨by rw[aD];omega,?_⟩
  generalize jO ns none (some few)=ms at F9 Ll
  refine hq_ Dx.str (λy:Str=>.str (y ++ " " ++ x)) (λ_=>true) (λy hy Ah P p=>?_) ?_
  ·have h1:=Ll y hy
   exact⟨by show y.length+1<=1000000;omega,by rw[kI];show y.length+1+x.length<=1000000;omega,p⟩
  ·have hj:=aOo (B:=80010) (n:=9) (ys:=(ms.filter fun _=>true).map fun y:Str=>(y ++ " " ++ x:Str)) (fun y hy=>by
    obtain⟨u,hu,rfl⟩:=cJ.mp hy
    have:=Ll u (List.mem_filter.mp hu).1
    rw[kI,kI]
    show u.length+1+x.length<=80010
    omega) (by rw[aD,List.filter_eq_self.mpr λ_ _=>rfl];exact F9)
   exact⟨_,by show Dx.lst _=.lst _;rw[cK];rfl,by omega,by show 1+_<=1000000;omega,by rw[kI];show 1+_+1<=1000000;omega,fin _ _ (by rw[kI,kI];show 1+_+1<=900000;omega) Ft⟩
 ·by_cases hw:way=4
  ·refine jy_ (ρ':=[vT (.str x),.bw l4,vT (.int few),vT (.int way),vT (.int many),.v (.ol (ns.map Dx.str))]) (fun Q q => ?_) ?_
   ·show Q (decide (way=4)) _
    rw[dzT hw]
    exact q
   ·exact C8 _ ⟨ns.reverse,λy hy=>D4 y (List.mem_reverse.mp hy),by rw[List.length_reverse];exact Ir,by rw[List.map_reverse];rfl⟩
  ·refine ie_ (ρ':=[vT (.str x),.bw l4,vT (.int few),vT (.int way),vT (.int many),.v (.ol (ns.map Dx.str))]) (fun Q q => ?_) (C8 _ ⟨ns,D4,Ir,rfl⟩)
   show Q (decide (way=4)) _
   rw[dzF hw]
   exact q
end
def gOD:GC:=λds Q=>∃n:Int,ds=[.int n]/\0<=n/\∀x:Str,x.length<=100->Q (.tr (.str x))
section
variable{f:Addr}
theorem aSd(F:Fun K "_law_odd" "_law_odd" jj_ f fd)(Ad:mg "len" = none):FnOk P w K mg base CX0 1 f fd ["number"] (spX gOD):=by
 refine aZl F fX (λds Q h=>by obtain⟨_,rfl,_⟩:=h;rfl) (by decide) λAi A outer s H E hr=>?_
 have Am:=iT hr
 have Aj:=aM Am
 refine⟨_,(gZ (hs_ (i:=1) fX.nd rfl (Or.inl rfl) (ke_ (zs:=[""," ","n","n1","n1/","n/1","/","n0/1","n9/1","n1/0","n1/3","n8/8","n1/16","N1/1"]) (by rfl)))
  (gZ (hs_ (i:=1) fX.nd rfl (Or.inl rfl) (kf_ (gt_ (pv 1)) (ke_ (zs:=["n01/1","1/1","n1/1 "," n1/1","n1/1*","*2","n1/1*0","n1/1*20","n1/1*21"]) (by rfl))))
  (gZ (hs_ (i:=1) fX.nd rfl (Or.inl rfl) (kf_ (gt_ (pv 1)) (ke_ (zs:=["n1/1*02","n1/1**2","n1/1*2*3"]) (by rfl))))
  (gZ (hs_ (i:=1) fX.nd rfl (Or.inl rfl) (kf_ (gt_ (pv 1)) (ke_ (zs:=["{}","<>","[]","{a}","{a }","{ n1/1}","{n1/1}","{a n1/1,b n1/1}"]) (by rfl))))
  (gZ (hs_ (i:=1) fX.nd rfl (Or.inl rfl) (kf_ (gt_ (pv 1)) (gu_ (eW iI (eW iI qO)))))
  (gZ (hs_ (i:=1) fX.nd rfl (Or.inl rfl) (kf_ (gt_ (pv 1)) (ke_ (zs:=["<n1/1","<n1/1>>","<n1/1}","{a <n1/1, n2/2}>","<n1/1,n1/1>","<n1/1, >","(n1/1)","n1/1\n"]) (by rfl))))
  (lY (uV (mE K (gt_ (pv 1)) (aUt (gt_ (pv 0)) (aGy (mF K) nJ (by rfl) Ad PySem.boot_len (eW (gt_ (pv 1)) qO))) (λ_ _=>rfl)))))))))),λds Q h=>?_⟩
 clear hr Aj Am
 obtain⟨n,rfl,h0,q⟩:=h
 refine nK ⟨by decide,?_⟩
 refine nK ?_
 refine⟨by decide,by show 14+9<=1000000;decide,?_⟩
 refine nK ?_
 refine⟨by decide,by show 23+3<=1000000;decide,?_⟩
 refine nK ?_
 refine⟨by decide,by show 26+8<=1000000;decide,?_⟩
 refine nK ?_
 refine⟨by decide,by show 34+2<=1000000;decide,?_⟩
 refine nK ?_
 refine⟨by decide,by show 36+8<=1000000;decide,?_⟩
 refine⟨by show(0:Int)<44;decide,?_⟩
 have m0:0<=n%44:=dS _ (by decide)
 have m1:n%44<44:=cY _ (by decide)
 refine six (n:=100) (l:=([Str.ofString "",Str.ofString " ",Str.ofString "n",Str.ofString "n1",Str.ofString "n1/",Str.ofString "n/1",Str.ofString "/",Str.ofString "n0/1",Str.ofString "n9/1",Str.ofString "n1/0",Str.ofString "n1/3",Str.ofString "n8/8",Str.ofString "n1/16",Str.ofString "N1/1",Str.ofString "n01/1",Str.ofString "1/1",Str.ofString "n1/1 ",Str.ofString " n1/1",Str.ofString "n1/1*",Str.ofString "*2",Str.ofString "n1/1*0",Str.ofString "n1/1*20",Str.ofString "n1/1*21",Str.ofString "n1/1*02",Str.ofString "n1/1**2",Str.ofString "n1/1*2*3",Str.ofString "{}",Str.ofString "<>",Str.ofString "[]",Str.ofString "{a}",Str.ofString "{a }",Str.ofString "{ n1/1}",Str.ofString "{n1/1}",Str.ofString "{a n1/1,b n1/1}",Str.ofString "{a n1/1, a n2/2}",Str.ofString "{a n1/1",Str.ofString "<n1/1",Str.ofString "<n1/1>>",Str.ofString "<n1/1}",Str.ofString "{a <n1/1, n2/2}>",Str.ofString "<n1/1,n1/1>",Str.ofString "<n1/1, >",Str.ofString "(n1/1)",Str.ofString "n1/1\n"]:List Str)) (by decide) m0 m1 λz hz=>?_
 exact q z hz
end
theorem qP:bootBuiltins "ValueError" = some (.type "ValueError"):=by decide +kernel
structure Kit48(K:dA)(mg:kC)(Ao Ap At Ac As Ax:Addr):Prop where
 mV:mg "NoValue" = some (.ref Ao)
 mB:mg "NoBytes" = some (.ref Ap)
 mM:mg "NoMake" = some (.ref At)
 mT:mg "NoText" = some (.ref Ac)
 mN:mg "NoName" = some (.ref As)
 mR:mg "NoRow" = some (.ref Ax)
 kit:PySem.W.excKit K Ac=true
 kT:PySem.W.kitOne K (.ref Ac) (.ref Ac)=some true
 kE:PySem.W.kitOne K (.ref Ac) (.type "ValueError")=some true
 kA:PySem.W.kitAny K (.ref Ac) [.ref Ap,.ref At,.ref As,.ref Ax,.ref Ao]=some false
def aCa:Dx:=.tup [.str "NoText",.non]
def aUu:Option Kd->Dx
 |some k=>.tup [.str "told",k.x]
 |none=>aCa
def aMf:GC:=λds Q=>∃d:Dx,ds=[d]/\((∃t,d=.str t/\t.length<=100000/\Q (.tr (aUu (rdK 5 (aF t)))))\/noT d/\Q (.tr aCa))
theorem aLs{u:XA}{ρ:En}{Q:Sv->En->Prop}(h:u ρ λss ρ'=>ss.length<=1000000/\Q (.tr (.tup (ss.map Sv.d))) ρ'):sH u ρ Q:=h
section
variable{f:Addr}{j:Nat}{Ao Ap At Ac As Ax Bo:Addr}
theorem aSo(F:Fun K "_law_asked" "_law_asked" ha_ f fd)(CRK:CalE P w K mg base j "read_kind" AE (spE (aZf Ac)))(Kt:Kit48 K mg Ao Ap At Ac As Ax)(C9:PyProof.Rows.OwnCls "FieldError" Bo veM "ValueError.__new__" mg base)(Mh:xH base Ac Bo)(Ab:mg "isinstance" = none)(m_int:mg "int" = none)(Bn:mg "ValueError" = none):FnOk P w K mg base CX0 (j+1) f fd AE (spX aMf):=by
 have Eu:=Kt.mV
 have Ev:=Kt.mB
 have Fo:=Kt.mM
 have Fk:=Kt.mT
 have Fl:=Kt.mN
 have Gd:=Kt.mR
 refine lF F fN (λds Q h=>by obtain⟨_,rfl,_⟩:=h;rfl) (by decide) λAi A outer s H E hr=>?_
 have Am:=iT hr
 have Aj:=aM Am
 refine⟨_,(cO (gA (i:=1) fN.nd rfl (Or.inl rfl) mJ)
  (cO (gA (i:=2) fN.nd rfl (Or.inl rfl) mJ)
  (cO (aPn (jn:=3) (aPp (i:=1) λ_ _ _ _=>o4 (i:=1) fN.nd rfl (Or.inl rfl) (aDu CRK (hr.mono (by omega)) (bF (bE (pv 0)) bV))) C9 rfl rfl (by rfl) fN.nd rfl (by rfl) (λ_=>(cP (gA (i:=2) fN.nd rfl (Or.inl rfl) (bE (pv 3))))))
  (cO (eC (dW pB pA (bE (pv 2)) mJ (bD _)) (cP (cZ (lO (bF dL (bF (bE (pv 1)) bV))))) eJ)
  (cO (eC (XW.pt (qI (jZ (aHy (cs:=[.ref Ap,.ref At,.ref As,.ref Ax,.ref Ao]) (vcs:=[.ref Ap,.ref At,.ref As,.ref Ax,.ref Ao]) K Ab (bE (pv 2)) (kS (fl_ (v:=.ref Ap) (by rfl) Ev rfl) (kS (fl_ (v:=.ref At) (by rfl) Fo rfl) (kS (fl_ (v:=.ref As) (by rfl) Fl rfl) (kS (fl_ (v:=.ref Ax) (by rfl) Gd rfl) (kS (fl_ (v:=.ref Ao) (by rfl) Eu rfl) uL))))) (λ_ _ _ q=>q) (λ_ h=>nV (as:=[Ap,At,As,Ax,Ao]) h) (by simp only[aE,bJ];decide))) (uM (zB (jZ (aBk (c:=.type "ValueError") K Ab (bE (pv 2)) (rV (v:=.ty "ValueError") rfl Bn qP rfl) (λ_ h=>h))))))) (cP (cZ (lO (bF dL (bF mJ bV))))) eJ)
  (cP (cZ (lO (bF (kW K (mI (bF dL (bF dL bV))) (zK dv_ im_ (by rfl) m_int fs_ (bF (aBk (c:=.ref Ac) K Ab (bE (pv 2)) (fl_ (v:=.ref Ac) (by rfl) Fk rfl) (λ_ h=>h)) bV)) (λ_ _=>rfl)) (bF mJ bV)))))))))),λds Q h=>?_⟩
 clear Aj Am
 have e2:isC K (.ref Ac) (.exc (.ref Ac))=some true:=by simp only[isC];rw[if_pos Kt.kit];exact Kt.kT
 have e3:isC K (.type "ValueError") (.exc (.ref Ac))=some true:=by simp only[isC];rw[if_pos Kt.kit];exact Kt.kE
 have e4:w_ K [.ref Ap,.ref At,.ref As,.ref Ax,.ref Ao] (.exc (.ref Ac))=some false:=by simp only[w_];rw[if_pos Kt.kit];exact Kt.kA
 have refused:∀(d:Dx),Q (.tr aCa)->cL (xIf (xB (xOp (mH false) (bW 2) (xC .non))) (hX (sH (bA (xC (.str "told")) (bA (bW 1) cV)))) eR)
   (cL (xIf (xOr (xB (xP (w_ K [.ref Ap,.ref At,.ref As,.ref Ax,.ref Ao]) (bW 2))) (aIc (xB (xP (isC K (.type "ValueError")) (bW 2))))) (hX (sH (bA (xC (.str "odd")) (bA (xC .non) cV)))) eR)
    (hX (sH (bA (xOp ixX (kY (bA (xC (.str "odd")) (bA (xC (.str "NoText")) cV))) (dU aLi (bA (xP (isC K (.ref Ac)) (bW 2)) cV))) (bA (xC .non) cV))))) [vT d,vT .non,vT (.exc (.ref Ac)),.un] (s_ Q):=λd q=>by
  refine mD (ρ':=[vT d,vT .non,vT (.exc (.ref Ac)),.un]) (λQ q=>q) ?_
  refine mD (ρ':=[vT d,vT .non,vT (.exc (.ref Ac)),.un]) (λQ q=>?_) ?_
  ·exact kG (jM (yW rfl e4 (aFo (jM (yW rfl e3 q)))))
  ·refine gr_ ?_
   refine aLs ?_
   refine wY (rK (yV ⟨(by show 2<=1000000;decide),?_⟩))
   refine et_ (wY (yW rfl e2 ?_))
   exact⟨(by show 2<=1000000;decide),q⟩
 obtain⟨d,rfl,h⟩:=h
 rcases h with⟨t,rfl,A4,q⟩ | ⟨hn,q⟩
 ·refine ⟨.str t,rfl,.inl ⟨t,rfl,A4,fun k hk => ?_,fun Ba => ?_⟩⟩
  ·rw [fE.mpr hk] at q
   exact⟨(by show 2<=1000000;decide),q⟩
  ·rw [eT.mpr Ba] at q
   exact⟨⟨Ac,rfl,Mh⟩,refused (.str t) q⟩
 ·exact⟨d,rfl,.inr ⟨hn,⟨Ac,rfl,Mh⟩,refused d q⟩⟩
end
mutual
def Dx.Pl:Dx->Prop
 | .int _=>True
 | .str _=>True
 | .tup l=>l.length<=100000/\plX l
 | .lst l=>l.length<=100000/\plX l
 |_=>False
def plX:List Dx->Prop
 | []=>True
 |d::r=>d.Pl/\plX r
end
theorem tG:∀{l:List Dx} {d:Dx},plX l->d∈l->d.Pl
 |e::r,d,hs,h=>by
  rcases aI.mp h with rfl | h
  ·exact hs.1
  ·exact tG hs.2 h
def z4(n:Nat):GC:=λds Q=>∃d:Dx,ds=[d,d]/\d.Pl/\d.deep<=n/\Q (.tr (.bl true))
section
variable{f:Addr}{n j:Nat}
theorem aKs(F:Fun K "_law_alike" "_law_alike" en_ f fd)(Jp:Cal P w K mg base j "_law_alike" AO (spX (z4 n)))(Ab:mg "isinstance" = none)(m_dict:mg "dict" = none)(m_tuple:mg "tuple" = none)(m_list:mg "list" = none)(Ad:mg "len" = none)(Af:mg "range" = none)(m_str:mg "str" = none)(m_int:mg "int" = none)(Bm:mg "bool" = none):FnOk P w K mg base CX0 (j+1) f fd AO (spX (z4 (n+1))):=by
 refine lF F sT (λds Q h=>by obtain⟨_,rfl,_⟩:=h;rfl) (by decide) λAi A outer s H E hr=>?_
 have Am:=iT hr
 have Aj:=aM Am
 refine⟨_,(cO (eC (jZ (uW .dict Ab (bE (pv 1)) (rV (v:=.ty "dict") rfl m_dict aNb rfl))) aPm eJ)
  (cO (eC (XW.pt (qI (jZ (uW .tuple Ab (bE (pv 1)) (rV (v:=.ty "tuple") rfl m_tuple hr_ rfl))) (uM (jZ (uW .list Ab (bE (pv 1)) (rV (v:=.ty "list") rfl m_list nN rfl)))))) (cO (eC (XW.pt (qI (dW (hh_ K Aj) lC (uW .tuple Ab (bE (pv 0)) (rV (v:=.ty "tuple") rfl m_tuple hr_ rfl)) (uW .tuple Ab (bE (pv 1)) (rV (v:=.ty "tuple") rfl m_tuple hr_ rfl)) (bD _)) (uM (dW (hh_ K Aj) lC (uW .list Ab (bE (pv 0)) (rV (v:=.ty "list") rfl m_list nN rfl)) (uW .list Ab (bE (pv 1)) (rV (v:=.ty "list") rfl m_list nN rfl)) (bD _))))) (cP (cZ vA)) eJ)
  (cO (eC (dW (hh_ K Aj) lC (jV (mF K) nJ (by rfl) Ad PySem.boot_len (bF (bE (pv 0)) bV)) (jV (mF K) nJ (by rfl) Ad PySem.boot_len (bF (bE (pv 1)) bV)) (bD _)) (cP (cZ vA)) eJ)
  (cP (cZ (xM (iJ K Aj) iP (dl_ (dsc:=aL en_) (N:=AO) (tgs:=["k"]) (outs:=[0,1]) (N':=["k","found","due"]) (by refine⟨rfl,?_,?_,?_,rfl,?_,?_,?_⟩<;>decide +kernel) (df_ Af (bF (jV (mF K) nJ (by rfl) Ad PySem.boot_len (bF (bE (pv 1)) bV)) bV)) (λ_ _ _ _ _=>(jP (i:=0) (show(["k","found","due"]:List Str).Nodup by decide +kernel) rfl (Or.inl rfl) (.inr rfl))) (rP (n:=1) (i:=0) (by decide)) (cz_ (by decide)) (λ_ _ _ _ _=>(zX (zB (jZ (fH Jp (hr.mono (by omega)) (bF (kW K (bE (pv 1)) (bE (pv 0)) (λ_ _=>rfl)) (bF (kW K (bE (pv 2)) (bE (pv 0)) (λ_ _=>rfl)) bV))))))) (λ_ _ _ _ _=>(bE (pv 0)))) (mI bV) (bD _)))))) eJ)
  (cO (eC (jZ (uW .str Ab (bE (pv 1)) (rV (v:=.ty "str") rfl m_str gs_ rfl))) (cP (cZ (vB (uW .str Ab (bE (pv 0)) (rV (v:=.ty "str") rfl m_str gs_ rfl)) (xN (xM (iJ K Aj) iP (bE (pv 0)) (bE (pv 1)) (bD _)))))) eJ)
  (cP (cZ (vB (uW .int Ab (bE (pv 0)) (rV (v:=.ty "int") rfl m_int fs_ rfl)) (vB (aBj (uW .bool Ab (bE (pv 0)) (rV (v:=.ty "bool") rfl Bm o0 rfl))) (xN (xM (iJ K Aj) iP (bE (pv 0)) (bE (pv 1)) (bD _)))))))))),λds Q h=>?_⟩
 clear Aj Am
 obtain⟨d,rfl,hp,hd,q⟩:=h
 cases d with
 |int i =>
  show Q (.tr (.bl (decide (i=i))))
  rw[dzT rfl]
  exact q
 |str x =>
  show Q (.tr (.bl (decide (x=x))))
  rw[dzT rfl]
  exact q
 |tup xs =>
  simp only[Dx.Pl]at hp
  simp only[Dx.deep]at hd
  show if(!decide ((xs.length:Int)=(xs.length:Int)))=true then _ else _
  rw[dzT rfl]
  refine⟨⟨by omega,by omega⟩,?_⟩
  rw[show((xs.length:Nat):Int).toNat=xs.length from by omega]
  have Ak:(lK 0 xs.length).length<=1000000:=by unfold lK;rw[aD,cB];omega
  refine⟨Ak,?_⟩
  show eB _ _ _ _ _ ((List.range xs.length).map λt:Nat=>Dx.int (0+(t:Int))) _ _
  refine eu_ (λt:Nat=>Dx.int (0+(t:Int))) (λrest Ah cs=>(∀t∈rest,t<xs.length)/\Ah=[]/\cs=[vT (.tup xs),vT (.tup xs)]) (λAh cs h=>?_) (λt rest Ah cs Pn h hk=>?_) ⟨λt ht=>eM.mp ht,rfl,rfl⟩
  ·obtain ⟨_,rfl,rfl⟩:=h
   exact⟨bP _,q⟩
  ·obtain ⟨ht,rfl,rfl⟩:=h
   have htx:=ht t aA
   obtain⟨d,Gq,Fi⟩:=qE (l:=xs) (i:=0+(t:Int)) (by omega) (by omega)
   have hm:d∈xs:=fJ Fi
   have hdm:=ka_ hm
   show match atI xs (0+(t:Int))with | some d=>_ | none=>False
   rw[Gq]
   show match atI xs (0+(t:Int))with | some d=>_ | none=>False
   rw[Gq]
   exact⟨d,rfl,tG hp.2 hm,by omega,hk _ _ ⟨λt' h'=>ht t' (aB _ h'),rfl,rfl⟩⟩
 |lst xs =>
  simp only[Dx.Pl]at hp
  simp only[Dx.deep]at hd
  show if(!decide ((xs.length:Int)=(xs.length:Int)))=true then _ else _
  rw[dzT rfl]
  refine⟨⟨by omega,by omega⟩,?_⟩
  rw[show((xs.length:Nat):Int).toNat=xs.length from by omega]
  have Ak:(lK 0 xs.length).length<=1000000:=by unfold lK;rw[aD,cB];omega
  refine⟨Ak,?_⟩
  show eB _ _ _ _ _ ((List.range xs.length).map λt:Nat=>Dx.int (0+(t:Int))) _ _
  refine eu_ (λt:Nat=>Dx.int (0+(t:Int))) (λrest Ah cs=>(∀t∈rest,t<xs.length)/\Ah=[]/\cs=[vT (.lst xs),vT (.lst xs)]) (λAh cs h=>?_) (λt rest Ah cs Pn h hk=>?_) ⟨λt ht=>eM.mp ht,rfl,rfl⟩
  ·obtain ⟨_,rfl,rfl⟩:=h
   exact⟨bP _,q⟩
  ·obtain ⟨ht,rfl,rfl⟩:=h
   have htx:=ht t aA
   obtain⟨d,Gq,Fi⟩:=qE (l:=xs) (i:=0+(t:Int)) (by omega) (by omega)
   have hm:d∈xs:=fJ Fi
   have hdm:=ka_ hm
   show match atI xs (0+(t:Int))with | some d=>_ | none=>False
   rw[Gq]
   show match atI xs (0+(t:Int))with | some d=>_ | none=>False
   rw[Gq]
   exact⟨d,rfl,tG hp.2 hm,by omega,hk _ _ ⟨λt' h'=>ht t' (aB _ h'),rfl,rfl⟩⟩
 |non=>simp only[Dx.Pl]at hp
 |bl b=>simp only[Dx.Pl]at hp
 |dic l=>simp only[Dx.Pl]at hp
 |scr _ _=>simp only[Dx.Pl]at hp
 |ins _ _=>simp only[Dx.Pl]at hp
 |exc _=>simp only[Dx.Pl]at hp
end
mutual
theorem Kd.pl:∀k:Kd,k.Fit->k.x.Pl/\k.x.deep<=3*k.deep
 | .num w m,h=>by
  simp only[Kd.x,Dx.Pl,plX,Dx.deep,iH,Kd.deep,aE,bJ]
  exact⟨⟨by decide,trivial,trivial,trivial,trivial⟩,by decide⟩
 | .row k n,h=>by
  simp only[Kd.Fit]at h
  obtain⟨a,b⟩:=Kd.pl k h.1
  simp only[Kd.x,Dx.Pl,plX,Dx.deep,iH,Kd.deep,aE,bJ]
  refine⟨⟨by decide,trivial,a,trivial,trivial⟩,?_⟩
  omega
 | .rcd fs,h=>by
  simp only[Kd.Fit]at h
  obtain⟨a,b⟩:=plF fs h.1
  have hl:(xF fs).length<=100000:=by rw[sL];omega
  simp only[Kd.x,Dx.Pl,plX,Dx.deep,iH,Kd.deep,aE,bJ]
  refine⟨⟨by decide,trivial,⟨hl,a⟩,trivial⟩,?_⟩
  omega
 | .cho ks,h=>by
  simp only[Kd.Fit]at h
  obtain⟨a,b⟩:=plK ks h.1
  have hl:(xK ks).length<=100000:=by rw[sJ];omega
  simp only[Kd.x,Dx.Pl,plX,Dx.deep,iH,Kd.deep,aE,bJ]
  refine⟨⟨by decide,trivial,⟨hl,a⟩,trivial⟩,?_⟩
  omega
theorem plF:∀fs:List (Str×Kd),kQ fs->plX (xF fs)/\iH (xF fs)<=3*eV fs+1
 | [],h=>⟨by simp only[xF,plX],by simp only[xF,iH];omega⟩
 |f::r,h=>by
  simp only[kQ]at h
  obtain⟨a,b⟩:=Kd.pl f.2 h.1.2
  obtain⟨c,d⟩:=plF r h.2
  have e:=jd_ f.2
  simp only[xF,plX,Dx.Pl,iH,Dx.deep,eV,aE,bJ]
  refine⟨⟨⟨by decide,trivial,a,trivial⟩,c⟩,?_⟩
  omega
theorem plK:∀ks:List Kd,kO ks->plX (xK ks)/\iH (xK ks)<=3*eK ks+1
 | [],h=>⟨by simp only[xK,plX],by simp only[xK,iH];omega⟩
 |k::r,h=>by
  simp only[kO]at h
  obtain⟨a,b⟩:=Kd.pl k h.1
  obtain⟨c,d⟩:=plK r h.2
  simp only[xK,plX,iH,eK]
  refine⟨⟨a,c⟩,?_⟩
  omega
end
def aCt (K : dA) : XS := (cL (aIe (aPq (bA (dU aEq (bA (xC (.int 1)) (bA (dU aEp (bA (dU (aSy K) (bA (bW 0) cV)) (bA (xC (.int 12)) cV))) cV))) cV)) (gxN 1) (cL (gK 2 (dU gNU (bA (dU (gCA K) (bA (bW 0) (bA (bW 1) cV))) (bA (xC (.int 160)) cV))))
    (cL (gK 3 (dU (gSW 5) (bA (dY aMe 2 (bA (xOp fA (xC (.int 1)) (dY gTK 2 (bA (xC (.int 5)) cV))) (bA (xC (.int 400)) cV))) cV)))
    (cL (gK 4 (xSl (dU gNU (bA (dU (gCA K) (bA (bW 0) (bA (bW 1) cV))) (bA (xC (.int 172)) cV))) (xoS (xC (.int 160))) xoN))
    (cL (gK 5 (dY gTK 4 (bA (xC (.int 8)) cV)))
    (cL (xIf (xB (xOp ltX (bW 5) (xC (.int 4)))) (gK 3 (sM gCH 4 (bW 3))) eR)
    (cL (xIf (xB (xOp eqX (bW 5) (xC (.int 4)))) (gK 3 (sM gWP 4 (bW 3))) eR)
    (cL (xIf (xB (xOp eqX (bW 5) (xC (.int 5)))) (gK 3 (dU gOD (bA (dY gTK 4 (bA (xC (.int 64)) cV)) cV))) eR)
    (cL (gK 3 (xSl (bW 3) xoN (xoS (xC (.int 3000)))))
    (cL (gK 6 (dU (wO 5) (bA (bW 3) (bA (xC (.int 1)) cV))))
    (cL (xIf (aIg (xB (xOp eqX (bW 5) (xC (.int 6)))) (xB (xOp eqX (dY gTK 4 (bA (xC (.int 2)) cV)) (xC (.int 0))))) (cL (gK 3 (xOp ixX (kY (bA (xC .non) (bA (xC (.int 7)) (bA (sH (bA (xC (.str "number")) (bA (xC (.int 1)) (bA (xC (.int 1)) cV)))) (bA (kY (bA (xC (.str "n1/1")) cV)) (bA (xC (.bl true)) (bA aBr (bA (sH (bA (xC (.str "n1/1")) cV)) (bA (xC (.int 0)) cV))))))))) (dY gTK 4 (bA (xC (.int 8)) cV))))
    (gK 6 (xC .non))) eR)
    (cL (gK 7 (dU b_ (bA (bW 3) cV)))
    (cL (aWg (dU aMf (bA (bW 3) cV)) (gxT [8,9]))
    (cL (xIf (xOr (xB (xOp neX (dU b_ (bA (bW 3) cV)) (bW 7))) (xB (xOp neX (bW 8) (xOp ixX (kY (bA (xC (.str "told")) (bA (xC (.str "NoText")) cV))) (dU aLi (bA (xOp (mH false) (bW 6) (xC .non)) cV)))))) (hX (xC (.bl false))) eR)
    (xIf (aIg (xB (xOp (mH true) (bW 6) (xC .non))) (aIc (xB (dU (z4 15) (bA (bW 9) (bA (bW 6) cV)))))) (hX (xC (.bl false))) eR)))))))))))))))
    (hX (xC (.bl true))))
section
variable{f:Addr}{L:Nat}
theorem aMt(Kc:Cal P w K mg base 1 "_law_cell_at" BE (spX (gCA K)))(Ma:Cal P w K mg base 2 "_law_deck" AM (spX gNU))(Jo:Cal P w K mg base 1 "_law_numbers" AM (spX gNU))(Bd:Cal P w K mg base 1 "_law_take" AH (spB gTK))(Fp:Cal P w K mg base L "_law_kind_within" AY (spB aMe))(Hc:Cal P w K mg base L "_law_kind_written" AX (spX (gSW 5)))(Mb:Cal P w K mg base 2 "_law_changed" AQ (vM gCH))(L6:Cal P w K mg base 2 "_law_wrapped" AQ (vM gWP))(L8:Cal P w K mg base 1 "_law_odd" ["number"] (spX gOD))(Gg:Cal P w K mg base L "_law_read_kind" AC (spX (wO 5)))(Mc:Cal P w K mg base L "_law_asked" AE (spX aMf))(Jp:Cal P w K mg base L "_law_alike" AO (spX (z4 15)))
  (Bj:mg "max" = none) (De:mg "min" = none) (Af:mg "range" = none) (Ad:mg "len" = none) (m_int:mg "int" = none) (m_str:mg "str" = none) (hL:2<=L)
  {Ai:Value} {A:Around} {outer:List Env} {s:Shared} {H:Hp} {E:XK} (hr:Room L (A.deeper (PyProof.Rows.envOfC "law" (aL lB) s.heap.objs.size f Ai))) :
  XSs (iS CX0 P w K mg base (["script","k","deck","text","ways","way","due","kept","word","found"]:List Str) "law" (aL lB) f Ai A outer s H E).nox fZ (dX lB) (aCt K):=by
 have Am:=iT hr
 have Aj:=aM Am
 exact(iU (gZ (Bx.mk (hc_ PassesOwn.never rfl (df_ Af (bF (jV (rS (by rfl)) m9 (by rfl) Bj uU (bF cC (bF (jV (aAl (by rfl)) aMv (by rfl) De aUp (bF (jV (mF K) m_ (by rfl) Ad PySem.boot_len (bF (bE (pv 0)) bV)) (bF cC bV))) bV))) bV)) (jP (i:=1) fT.nd rfl (Or.inl rfl)) (rP (n:=99) (i:=1) (by decide)) (iU (gZ (Bx.mk (gA (i:=2) fT.nd rfl (Or.inl rfl) (fH Ma (hr.mono (by omega)) (bF (fH Kc (hr.mono (by omega)) (bF (bE (pv 0)) (bF (bE (pv 1)) bV))) (bF cC bV)))))
  (gZ (Bx.mk (gA (i:=3) fT.nd rfl (Or.inl rfl) (fH Hc (hr.mono (by omega)) (bF (kU (i:=2) Fp (hr.mono (by omega)) (pv 2) (bF (eZ cC (kU (i:=2) Bd (hr.mono (by omega)) (pv 2) (bF cC bV))) (bF cC bV))) bV))))
  (gZ (Bx.mk (gA (i:=4) fT.nd rfl (Or.inl rfl) (kX K (fH Jo (hr.mono (by omega)) (bF (fH Kc (hr.mono (by omega)) (bF (bE (pv 0)) (bF (bE (pv 1)) bV))) (bF cC bV))) (jQ cC) mK)))
  (gZ (Bx.mk (gA (i:=5) fT.nd rfl (Or.inl rfl) (kU (i:=4) Bd (hr.mono (by omega)) (pv 4) (bF cC bV))))
  (gZ (Bx.mk (eC (dW xJ xL (bE (pv 5)) cC (bD _)) (iU (lY (Bx.mk (gA (i:=3) fT.nd rfl (Or.inl rfl) (qS (i:=4) Mb (hr.mono (by omega)) (bE (pv 3)) (pv 4)))))) eJ))
  (gZ (Bx.mk (eC (dW (iJ K Aj) iP (bE (pv 5)) cC (bD _)) (iU (lY (Bx.mk (gA (i:=3) fT.nd rfl (Or.inl rfl) (qS (i:=4) L6 (hr.mono (by omega)) (bE (pv 3)) (pv 4)))))) eJ))
  (gZ (Bx.mk (eC (dW (iJ K Aj) iP (bE (pv 5)) cC (bD _)) (iU (lY (Bx.mk (gA (i:=3) fT.nd rfl (Or.inl rfl) (fH L8 (hr.mono (by omega)) (bF (kU (i:=4) Bd (hr.mono (by omega)) (pv 4) (bF cC bV)) bV)))))) eJ))
  (gZ (Bx.mk (gA (i:=3) fT.nd rfl (Or.inl rfl) (kX K (bE (pv 3)) mK (jQ cC))))
  (gZ (Bx.mk (gA (i:=6) fT.nd rfl (Or.inl rfl) (fH Gg (hr.mono (by omega)) (bF (bE (pv 3)) (bF cC bV)))))
  (gZ (xE (Bx.mk (XW.pt (ig_ (dW (iJ K Aj) iP (bE (pv 5)) cC (bD _)) (fv_ (dW (iJ K Aj) iP (kU (i:=4) Bd (hr.mono (by omega)) (pv 4) (bF cC bV)) cC (bD _)))))) (gZ (hs_ (i:=3) fT.nd rfl (Or.inl rfl) (mE K (gu_ (eW aUs (eW pZ (eW (zQ (eW iI (eW pZ (eW pZ qO)))) (eW (gu_ (eW iI qO)) (eW bAd (eW aNc (eW (zQ (eW iI qO)) (eW pZ qO))))))))) (fq_ (i:=4) Bd (hr.mono (by omega)) (pv 4) (eW pZ qO)) (λ_ _=>rfl)))
  (lY (Bx.mk (gA (i:=6) fT.nd rfl (Or.inl rfl) mJ)))) kd_)
  (gZ (Bx.mk (gA (i:=7) fT.nd rfl (Or.inl rfl) (zK (rQ hr.gd hr.units) m7 (by rfl) m_str gs_ (bF (bE (pv 3)) bV))))
  (gZ (Bx.mk (mQ (jx_ (n:=99) (is:=[8,9]) rfl (by decide)) λF=>oV (XE.at (Ex:=fZ) F (fH Mc (hr.mono (by omega)) (bF (bE (pv 3)) bV))) (lM rfl (zI (jP (i:=8) fT.nd rfl (Or.inl rfl)) (zI (jP (i:=9) fT.nd rfl (Or.inl rfl)) hb_)))))
  (gZ (Bx.mk (eC (XW.pt (qI (dW (hh_ K Aj) lC (zK (rQ hr.gd hr.units) m7 (by rfl) m_str gs_ (bF (bE (pv 3)) bV)) (bE (pv 7)) (bD _)) (uM (dW (hh_ K Aj) lC (bE (pv 8)) (kW K (mI (bF dL (bF dL bV))) (zK dv_ im_ (by rfl) m_int fs_ (bF (xM pB pA (bE (pv 6)) mJ (bD _)) bV)) (λ_ _=>rfl)) (bD _))))) (iU (lY (Bx.mk (cZ vA)))) eJ))
  (lY (Bx.mk (eC (XW.pt (ig_ (dW aJx aJw (bE (pv 6)) mJ (bD _)) (fv_ (zB (jZ (fH Jp (hr.mono (by omega)) (bF (bE (pv 9)) (bF (bE (pv 6)) bV)))))))) (iU (lY (Bx.mk (cZ vA)))) eJ)))))))))))))))))))
  (lY (Bx.mk (cZ vA)))))
end
theorem aMw{α:Type}{l:List α}{a b:Option Int}{x:α}(h:x∈jO l a b):x∈l:=List.mem_of_mem_drop (List.mem_of_mem_take h)
theorem aEk{xs:List Int}{a b:Option Int}(h:∀x∈xs,0<=x/\x<720720):fI (jO (xs.map Dx.int) a b):=⟨jO xs a b,n_ _ _ _,λx hx=>(h x (aMw hx)).1⟩
theorem aIx{l:List Dx}{a b:Option Int}{Q:Sv->Prop}(h:Q (.ol (jO l a b))):slX (.lst l) a b Q:=h
theorem aLw{t:XT}{c:Int}{ρ:En}{Q:Sv->En->Prop}(h:t ρ λa ρ1=>slX a.d (some c) none λs=>Q s ρ1):xSl t (xoS (xC (.int c))) xoN ρ Q:=h
def aUx(d:Dx):Prop:=∃z:Str,∀Q:Sv->Prop,Q (.tr (.str z))->b_ [d] Q
theorem aZr{v:Dx}(h:v∈[Dx.non,.int 7,.tup [.str "number",.int 1,.int 1],.lst [.str "n1/1"],.bl true,.dic [],.tup [.str "n1/1"],.int 0]):noT v/\aUx v:=by
 simp only[aI,bS,or_false]at h
 rcases h with rfl | rfl | rfl | rfl | rfl | rfl | rfl | rfl
 ·exact⟨trivial,_,λQ q=>.inl (.inr (.inr (.inl ⟨rfl,q⟩)))⟩
 ·exact⟨trivial,_,λQ q=>.inl (.inr (.inl ⟨7,rfl,by decide,by decide,q⟩))⟩
 ·exact⟨trivial,_,λQ q=>.inr ⟨_,_,_,rfl,by decide +kernel,by decide +kernel,by decide +kernel,q⟩⟩
 ·exact⟨trivial,_,λQ q=>.inl (.inr (.inr (.inr (.inr ⟨_,_,rfl,rfl,by decide +kernel,by decide +kernel,by decide +kernel,q⟩))))⟩
 ·exact⟨trivial,_,λQ q=>.inl (.inr (.inr (.inr (.inl ⟨true,rfl,q⟩))))⟩
 ·exact⟨trivial,_,λQ q=>.inl (.inr (.inr (.inr (.inr ⟨_,_,rfl,rfl,by decide +kernel,by decide +kernel,by decide +kernel,q⟩))))⟩
 ·exact⟨trivial,_,λQ q=>.inl (.inr (.inr (.inr (.inr ⟨_,_,rfl,rfl,by decide +kernel,by decide +kernel,by decide +kernel,q⟩))))⟩
 ·exact⟨trivial,_,λQ q=>.inl (.inr (.inl ⟨0,rfl,by decide,by decide,q⟩))⟩
theorem aLh{d:Dx}{Q:Sv->Prop}(h:d ≠ .non)(q:Q (.tr (.bl true))):mH true d .non Q:=by cases d<;>first | exact absurd rfl h | exact q
theorem aTl{d:Dx}{Q:Sv->Prop}(h:d ≠ .non)(q:Q (.tr (.bl false))):mH false d .non Q:=by cases d<;>first | exact absurd rfl h | exact q
abbrev LB(K:dA)(ns:List Int)(k:Nat)(W:List Dx)(d:Dx)(V:List Dx)(way:Int)(y6 y7 y8 y9:Sl):En:=[vT (.scr K ns),vT (.int (0+(k:Int))),.v (.ol W),vT d,.v (.ol V),vT (.int way),y6,y7,y8,y9]
section
variable{f:Addr}{L:Nat}
theorem aKp(F:Fun K "law" "law" lB f fd)(Kc:Cal P w K mg base 1 "_law_cell_at" BE (spX (gCA K)))(Ma:Cal P w K mg base 2 "_law_deck" AM (spX gNU))(Jo:Cal P w K mg base 1 "_law_numbers" AM (spX gNU))(Bd:Cal P w K mg base 1 "_law_take" AH (spB gTK))(Fp:Cal P w K mg base L "_law_kind_within" AY (spB aMe))(Hc:Cal P w K mg base L "_law_kind_written" AX (spX (gSW 5)))(Mb:Cal P w K mg base 2 "_law_changed" AQ (vM gCH))(L6:Cal P w K mg base 2 "_law_wrapped" AQ (vM gWP))(L8:Cal P w K mg base 1 "_law_odd" ["number"] (spX gOD))(Gg:Cal P w K mg base L "_law_read_kind" AC (spX (wO 5)))(Mc:Cal P w K mg base L "_law_asked" AE (spX aMf))(Jp:Cal P w K mg base L "_law_alike" AO (spX (z4 15)))
  (Bj:mg "max" = none) (De:mg "min" = none) (Af:mg "range" = none) (Ad:mg "len" = none) (m_int:mg "int" = none) (m_str:mg "str" = none) (hL:2<=L) :
  FnOk P w K mg base CX0 (L+1) f fd ["script"] (spX (aZh K)):=by
 refine lF F fT (λds Q h=>by obtain⟨ns,rfl,_⟩:=h;rfl) (by decide) λAi A outer s H E hr=>?_
 refine⟨_,aMt Kc Ma Jo Bd Fp Hc Mb L6 L8 Gg Mc Jp Bj De Af Ad m_int m_str hL hr,λds Q h=>?_⟩
 clear hr
 obtain⟨ns,rfl,h63,q⟩:=h
 unfold aCt
 refine zC (λρ=>True) (λρ _=>q) (λnx Cb=>?_)
 refine⟨rfl,?_⟩
 refine⟨⟨by split<;>(try split)<;>omega,by split<;>(try split)<;>omega⟩,?_⟩
 refine dj_ (λk:Nat=>Dx.int (0+(k:Int))) (λrest ρ=>∃y1 y2 y3 y4 y5 y6 y7 y8 y9,ρ=[vT (.scr K ns),y1,y2,y3,y4,y5,y6,y7,y8,y9]) (λρ h=>Cb ρ trivial) (λk rest ρ Kn h hk=>?_) ⟨.un,.un,.un,.un,.un,.un,.un,.un,.un,rfl⟩
 obtain⟨y1,y2,y3,y4,y5,y6,y7,y8,y9,rfl⟩:=h
 refine⟨ns,0+(k:Int),rfl,by omega,λc=>?_⟩
 refine⟨c,160,rfl,by decide,by decide,λxs hl hx=>?_⟩
 have hN:fI (xs.map Dx.int):=⟨xs,rfl,λx hm=>(hx x hm).1⟩
 try dsimp only
 change cL _ _ [vT (.scr K ns),vT (.int (0+(k:Int))),.v (.ol (xs.map Dx.int)),y3,y4,y5,y6,y7,y8,y9] _
 generalize xs.map Dx.int=W at hN
 refine⟨rfl,rfl,5,rfl,hN,by decide,λr l1 r0 r1 Ji=>?_⟩
 refine⟨1+r,400,rfl,Ji,by omega,by omega,by decide,by decide,λkd l2 hF hd G3 J5=>?_⟩
 refine⟨kd,rfl,hF,hd,by decide,?_⟩
 have Ak:kd.ws.length<=80000:=by rw[nR];exact vE hF hd
 try dsimp only
 change cL _ _ [vT (.scr K ns),vT (.int (0+(k:Int))),.v (.ol l2),vT (.str kd.ws),y4,y5,y6,y7,y8,y9] _
 generalize kd.ws=x0 at Ak
 refine nK (aLw ?_)
 refine⟨ns,0+(k:Int),rfl,by omega,λc2=>?_⟩
 refine⟨c2,172,rfl,by decide,by decide,λKe Ch Do=>aIx ?_⟩
 have M0:fI (jO (Ke.map Dx.int) (some 160) none):=aEk Do
 try dsimp only
 change cL _ _ [vT (.scr K ns),vT (.int (0+(k:Int))),.v (.ol l2),vT (.str x0),.v (.ol (jO (Ke.map Dx.int) (some 160) none)),y5,y6,y7,y8,y9] _
 generalize jO (Ke.map Dx.int) (some 160) none=V at M0
 refine nK ?_
 refine⟨rfl,8,rfl,M0,by decide,λway V3 b0 b1 Mz=>?_⟩
 try dsimp only
 change cL _ _ (LB K ns k l2 (.str x0) V3 way y6 y7 y8 y9) _
 refine dp_ (M:=λρ=>∃(x:Str) (V':List Dx),fI V'/\x.length<=900000/\(4<=way->x.length<=80000)/\ρ=(LB K ns k l2 (.str x) V' way y6 y7 y8 y9)) ?_ (λD1 C8=>?_)
 case refine_2 =>
  by_cases hw:way<4
  ·refine jy_ (ρ':=(LB K ns k l2 (.str x0) V3 way y6 y7 y8 y9)) (fun Q q => ?_) ?_
   ·show Q (decide (way < 4)) _
    rw[dzT hw]
    exact q
   ·refine ⟨x0,rfl,Mz,by omega,fun x' l' h' C5 => ?_⟩
    exact C8 _ ⟨x',l',C5,h',λz=>absurd hw (by omega),rfl⟩
  ·refine ie_ (ρ':=(LB K ns k l2 (.str x0) V3 way y6 y7 y8 y9)) (fun Q q => ?_) ?_
   ·show Q (decide (way < 4)) _
    rw[dzF hw]
    exact q
   ·exact C8 _ ⟨_,V3,Mz,by omega,λ_=>Ak,rfl⟩
 rintro ρ ⟨x1,V4,My,Ey,Kj,rfl⟩
 refine dp_ (M:=λρ=>∃(x:Str) (V':List Dx),fI V'/\x.length<=900000/\ρ=(LB K ns k l2 (.str x) V' way y6 y7 y8 y9)) ?_ (λD1 C8=>?_)
 case refine_2 =>
  by_cases hw:way=4
  ·refine jy_ (ρ':=(LB K ns k l2 (.str x1) V4 way y6 y7 y8 y9)) (fun Q q => ?_) ?_
   ·show Q (decide (way=4)) _
    rw[dzT hw]
    exact q
   ·refine ⟨x1,rfl,My,Kj (by omega),fun x' l' h' C5 => ?_⟩
    exact C8 _ ⟨x',l',C5,h',rfl⟩
  ·refine ie_ (ρ':=(LB K ns k l2 (.str x1) V4 way y6 y7 y8 y9)) (fun Q q => ?_) ?_
   ·show Q (decide (way=4)) _
    rw[dzF hw]
    exact q
   ·exact C8 _ ⟨_,V4,My,Ey,rfl⟩
 rintro ρ ⟨x2,V5,Mw,Do,rfl⟩
 refine dp_ (M:=λρ=>∃(x:Str) (V':List Dx),fI V'/\x.length<=900000/\ρ=(LB K ns k l2 (.str x) V' way y6 y7 y8 y9)) ?_ (λD1 C8=>?_)
 case refine_2 =>
  by_cases hw:way=5
  ·refine jy_ (ρ':=(LB K ns k l2 (.str x2) V5 way y6 y7 y8 y9)) (fun Q q => ?_) ?_
   ·show Q (decide (way=5)) _
    rw[dzT hw]
    exact q
   ·refine ⟨rfl,64,rfl,Mw,by decide,fun r5 V' d0 d1 hV' => ?_⟩
    refine⟨r5,rfl,d0,λx' h'=>?_⟩
    exact C8 _ ⟨x',V',hV',by omega,rfl⟩
  ·refine ie_ (ρ':=(LB K ns k l2 (.str x2) V5 way y6 y7 y8 y9)) (fun Q q => ?_) ?_
   ·show Q (decide (way=5)) _
    rw[dzF hw]
    exact q
   ·exact C8 _ ⟨_,V5,Mw,Do,rfl⟩
 rintro ρ ⟨x3,V6,hV6,Ki,rfl⟩
 refine nK ⟨by show x3.length<=1000000;omega,?_⟩
 have ht:(Txt.slice x3 none (some 3000)).length<=3000:=by
  have e:=aCk (x:=x3) (j:=3000)
  rw[fL]
  show(aF (Txt.slice x3 none (some ((3000:Nat):Int)))).length<=3000
  rw[e,eG]
  exact Nat.min_le_left _ _
 try dsimp only
 change cL _ _ (LB K ns k l2 (.str (Txt.slice x3 none (some 3000))) V6 way y6 y7 y8 y9) _
 generalize Txt.slice x3 none (some 3000)=t at ht
 refine nK ?_
 refine⟨t,rfl,by omega,?_⟩
 try dsimp only
 change cL _ _ (LB K ns k l2 (.str t) V6 way (vT (oxK (rdK 5 (aF t)))) y7 y8 y9) _
 refine dp_ (M:=λρ=>∃(d du:Dx) (V':List Dx),aUx d/\((d=.str t/\du=oxK (rdK 5 (aF t)))\/noT d/\du=.non)/\ρ=(LB K ns k l2 d V' way (vT du) y7 y8 y9)) ?_ (λD1 C8=>?_)
 case refine_2 =>
  have Ik:aUx (.str t):=⟨t,λQ q=>.inl (.inl ⟨t,rfl,q⟩)⟩
  by_cases hw:way=6
  ·show if decide (way=6)=true then _ else _
   rw[if_pos (dzT hw)]
   refine⟨rfl,2,rfl,hV6,by decide,λr6 V7 d0 d1 hV7=>?_⟩
   show if decide (r6=0)=true then _ else _
   by_cases h6:r6=0
   ·rw [if_pos (dzT h6)]
    refine nK ?_
    refine⟨mG (by show 3<=1000000;decide),mG (by show 1<=1000000;decide),mG (by show 1<=1000000;decide),mG (by show 8<=1000000;decide),rfl,8,rfl,hV7,by decide,λr8 V8 f0 f1 hV8=>?_⟩
    refine hl_ f0 f1 λv hv=>?_
    obtain⟨hn,hs⟩:=aZr hv
    exact C8 _ ⟨v,.non,V8,hs,.inr ⟨hn,rfl⟩,rfl⟩
   ·rw [if_neg (by rw [decide_eq_true_eq]; exact h6)]
    exact C8 _ ⟨.str t,_,V7,Ik,.inl ⟨rfl,rfl⟩,rfl⟩
  ·show if decide (way=6)=true then _ else _
   rw[if_neg (by rw[decide_eq_true_eq];exact hw)]
   exact C8 _ ⟨.str t,_,V6,Ik,.inl ⟨rfl,rfl⟩,rfl⟩
 rintro ρ ⟨d,du,V7,⟨z,Mf⟩,hc,rfl⟩
 refine nK (et_ (wY (z6 rfl (il_ ?_))))
 refine Mf _ ?_
 try dsimp only
 change cL _ _ (LB K ns k l2 d V7 way (vT du) (vT (.str z)) y8 y9) _
 have Gm:∀(wd:Str) (fo:Dx),Kn (LB K ns k l2 d V7 way (vT du) (vT (.str z)) (vT (.str wd)) (vT fo)):=λwd fo=>hk _ ⟨_,_,_,_,_,_,_,_,_,rfl⟩
 refine dp_ (M:=λρ=>∃(wd:Str) (fo:Dx),(du=.non/\wd = "NoText" \/ (du ≠ .non/\wd = "told" /\ fo=du/\du.Pl/\du.deep<=15))/\ρ=(LB K ns k l2 d V7 way (vT du) (vT (.str z)) (vT (.str wd)) (vT fo))) ?_ (λD1 C8=>?_)
 ·rintro ρ ⟨wd,fo,hw,rfl⟩
  refine mD (ρ':=(LB K ns k l2 d V7 way (vT du) (vT (.str z)) (vT (.str wd)) (vT fo))) (λQ q=>?_) ?_
  ·refine kG (jM (rK (et_ (wY (z6 rfl (il_ ?_))))))
   refine Mf _ ?_
   refine z6 rfl ?_
   show if(!decide (z=z))=true then _ else _
   rw[dzT rfl]
   refine jM (rK (z6 rfl ?_))
   refine rK (yV ⟨mG (by show 2<=1000000;decide),?_⟩)
   refine et_ (wY (rK (z6 rfl ?_)))
   rcases hw with⟨h1,h2⟩ | ⟨h1,h2,_⟩
   ·rw [h1,h2] at q ⊢
    exact q
   ·rw [h2] at q ⊢
    exact aTl h1 q
  ·rcases hw with ⟨h1,h2⟩ | ⟨h1,h2,h3,h4,h5⟩
   ·refine ie_ (ρ':=(LB K ns k l2 d V7 way (vT du) (vT (.str z)) (vT (.str wd)) (vT fo))) (fun Q q => ?_) (Gm wd fo)
    refine aFt (jM (rK (z6 rfl ?_)))
    show mH true du .non _
    rw[h1]
    rw[h1]at q
    exact q
   ·refine ie_ (ρ':=(LB K ns k l2 d V7 way (vT du) (vT (.str z)) (vT (.str wd)) (vT fo))) (fun Q q => ?_) (Gm wd fo)
    refine aFt (jM (rK (z6 rfl ?_)))
    show mH true du .non _
    refine aLh h1 ?_
    refine aFo (jM (et_ (wY (z6 rfl (wY (z6 rfl (il_ ?_)))))))
    refine⟨du,by rw[h3];rfl,h4,h5,?_⟩
    rw[h3]at q ⊢
    exact q
 ·rcases hc with ⟨rfl,Hq⟩ | ⟨hn,Hq⟩
  ·refine ⟨.str t,rfl,.inl ⟨t,rfl,by omega,?_⟩⟩
   cases e:rdK 5 (aF t)with
   |none =>
    rw[e]at Hq
    exact C8 _ ⟨"NoText",.non,.inl ⟨Hq,rfl⟩,rfl⟩
   |some k2 =>
    rw[e]at Hq
    obtain⟨Jk,Fi,_⟩:=fE.mp e
    obtain⟨hP,G6⟩:=k2.pl Jk
    obtain⟨l,hx⟩:=aBo k2
    have F5:du=k2.x:=Hq
    exact C8 _ ⟨"told",k2.x,.inr ⟨by rw[F5,hx];exact(λz=>by cases z),rfl,F5.symm,by rw[F5];exact hP,by rw[F5];omega⟩,rfl⟩
  ·exact⟨d,rfl,.inr ⟨hn,C8 _ ⟨"NoText",.non,.inl ⟨Hq,rfl⟩,rfl⟩⟩⟩
end
structure Fx(K:dA)(mg:kC)(nm:Str)(st:Stmt)(ps:List Str)(f:Addr)(fd:FuncData):Prop where
 F:Fun K nm nm st f fd
 b:Binds K fd ps []
 k:PySem.W.keepIn K (.ref f)=true
 m:mg nm=some (.ref f)
theorem Fx.cal{nm:Str}{st:Stmt}{ps:List Str}{f:Addr}{fd:FuncData}{j:Nat}{sp:Sp}(x:Fx K mg nm st ps f fd)(h:FnOk P w K mg base CX0 j f fd ps sp):Cal P w K mg base j nm ps sp:=⟨f,fd,h,x.b,x.k,x.m⟩
theorem aTz{j:Nat}{f:Addr}{fd:FuncData}{ps:List Str}{g:GB}(no:∀l ds Q,¬g l ds Q):FnOk P w K mg base CX0 j f fd ps (spB g):=
 ⟨λvs H Q E h=>by obtain⟨_,_,_,_,_,_,_,_,_,_,_,_,_,h3,_⟩:=h;exact(no _ _ _ h3).elim,λA outer s H args us vs Q E hr he hb hv h=>by obtain⟨_,_,_,_,_,_,_,_,_,_,_,_,_,h3,_⟩:=h;exact(no _ _ _ h3).elim⟩
theorem lV{j:Nat}{f:Addr}{fd:FuncData}{ps:List Str}{g:GC}(no:∀ds Q,¬g ds Q):FnOk P w K mg base CX0 j f fd ps (spX g):=
 ⟨λvs H Q E h=>by obtain⟨_,ds,Qx,_,_,h,_⟩:=h;exact absurd h (no _ _),λA outer s H args us vs Q E _ _ _ _ h=>by obtain⟨_,ds,Qx,_,_,h,_⟩:=h;exact absurd h (no _ _)⟩
structure Mx(K:dA)(C:Addr)(m qual:Str)(st:Stmt)(ps:List Str)(f:Addr)(fd:FuncData):Prop where
 F:Fun K m qual st f fd
 b:Binds K fd ps []
 h:Meth K C m f
 c:Cls K C
theorem Mx.cal{C:Addr}{m qual:Str}{st:Stmt}{ps:List Str}{f:Addr}{fd:FuncData}{j:Nat}{sp:Sp}(M:Mx K C m qual st ps f fd)(h:FnOk P w K mg base CX0 j f fd ps sp):mO P w K mg base j C m ps sp:=⟨M.c,f,fd,M.h,h,M.b⟩
theorem Fx.calE{nm:Str}{st:Stmt}{ps:List Str}{f:Addr}{fd:FuncData}{j:Nat}{sp:Sp}(x:Fx K mg nm st ps f fd)(h:FnOk P w K mg base (CXe P w) j f fd ps sp):CalE P w K mg base j nm ps sp:=⟨f,fd,h,x.b,x.k,x.m⟩
theorem Mx.calE{C:Addr}{m qual:Str}{st:Stmt}{ps:List Str}{f:Addr}{fd:FuncData}{j:Nat}{sp:Sp}(M:Mx K C m qual st ps f fd)(h:FnOk P w K mg base (CXe P w) j f fd ps sp):iV P w K mg base j C m ps sp:=⟨M.c,f,fd,M.h,h,M.b⟩
theorem aMg{j:Nat}{f:Addr}{fd:FuncData}{ps:List Str}{g:GOE}(no:∀C l ds Q Ex,¬g C l ds Q Ex):FnOk P w K mg base (CXe P w) j f fd ps (eI g):=
 ⟨λvs H Q E h=>by obtain⟨_,C,_,_,l,_,ds,Qx,Ex,_,_,_,_,_,h,_⟩:=h;exact absurd h (no _ _ _ _ _),λA outer s H args us vs Q E _ _ _ _ h=>by obtain⟨_,C,_,_,l,_,ds,Qx,Ex,_,_,_,_,_,h,_⟩:=h;exact absurd h (no _ _ _ _ _)⟩
section
variable{C_Reader Ac:Addr}
theorem i7{fKN fNM fTK:Addr}{dKN dNM dTK:FuncData}(KN:Fx K mg "_law_kind" ej_ AZ fKN dKN)(NM:Fx K mg "_law_name" gh_ BC fNM dNM)(TK:Fx K mg "_law_take" gg_ AH fTK dTK)(Af:mg "range" = none)(m_int:mg "int" = none):∀n,FnOk P w K mg base CX0 (n+2) fKN dKN AZ (spB (gKN n))
  | 0 => aTz fun l ds Q h => by
      obtain⟨d,_,_,h1,h2,_⟩:=h
      omega
  |n+1=>aSi (j:=n) KN.F (TK.cal (yL TK.F)) (NM.cal (aKj NM.F (TK.cal (yL TK.F)) Af)) (KN.cal (i7 KN NM TK Af m_int n)) Af m_int
theorem d4{fRM fUP:Addr}{dRM dUP:FuncData}(RM:Fx K mg "_law_room" dm_ AX fRM dRM)(UP:Fx K mg "_law_up" ix_ BF fUP dUP)(Bj:mg "max" = none):∀n,FnOk P w K mg base CX0 (n+1) fRM dRM AX (spX (gRM n))
  | 0 => lV fun ds Q h => by
      obtain⟨k,_,_,h1,_⟩:=h
      have:=deep_pos k
      omega
  |n+1=>aSc (j:=n) RM.F (RM.cal (d4 RM UP Bj n)) (UP.cal (aSb UP.F)) Bj
theorem aUk(d:Dx):1<=d.deep:=by cases d<;>simp only[Dx.deep]<;>omega
theorem o5{fAK:Addr}{dAK:FuncData}(AK:Fx K mg "_law_alike" en_ AO fAK dAK)(Ab:mg "isinstance" = none)(m_dict:mg "dict" = none)(m_tuple:mg "tuple" = none)(m_list:mg "list" = none)(Ad:mg "len" = none)(Af:mg "range" = none)(m_str:mg "str" = none)(m_int:mg "int" = none)(Bm:mg "bool" = none):∀n,FnOk P w K mg base CX0 (n+1) fAK dAK AO (spX (z4 n))
  | 0 => lV fun ds Q h => by
      obtain⟨d,_,_,h1,_⟩:=h
      have:=aUk d
      omega
  |n+1=>aKs (j:=n+1) AK.F (AK.cal (o5 AK Ab m_dict m_tuple m_list Ad Af m_str m_int Bm n)) Ab m_dict m_tuple m_list Ad Af m_str m_int Bm
theorem a5{fWR:Addr}{dWR:FuncData}(WR:Fx K mg "_law_kind_written" cl_ AX fWR dWR)(m_str:mg "str" = none):∀n,FnOk P w K mg base CX0 (n+1) fWR dWR AX (spX (gSW n))
  | 0 => lV fun ds Q h => by
      obtain⟨k,_,_,h1,_⟩:=h
      have:=deep_pos k
      omega
  |n+1=>aRy (j:=n+1) WR.F (WR.cal (a5 WR m_str n)) m_str
structure Consts(K:dA)(mg:kC):Prop where
 letters:∃t,mg "SMALL_LETTERS" = some (.str fU t)
 name:∃t,mg "LONGEST_NAME" = some (.int 8 t)
 wide:∃t,mg "WIDEST_NUMBER" = some (.int 8 t)
 mul:∃a,mg "MULTIPLES" = some (.ref a)/\∀H,SqT K H a [.int 1,.int 2,.int 4,.int 8]
 row:∃t,mg "LONGEST_ROW" = some (.int 20 t)
 fields:∃t,mg "MOST_FIELDS" = some (.int 8 t)
 choices:∃t,mg "MOST_CHOICES" = some (.int 6 t)
 deep:∃t,mg "DEEPEST" = some (.int 5 t)
theorem i6{fKW fAF fAK:Addr}{dKW dAF dAK:FuncData}(KW:Fx K mg "is_kind_within" cj_ AJ fKW dKW)(AF:Fx K mg "are_fields" dt_ AD fAF dAF)(AK:Fx K mg "are_kinds" ep_ AD fAK dAK)(Ew:Cal P w K mg base 1 "has_form" AN (spX gHF))(Ge:Cal P w K mg base 2 "is_whole_up_to" AR (spX gWU))(Gf:Cal P w K mg base 1 "is_list_up_to" AU (spX gLU))(Gh:Cal P w K mg base 1 "is_whole" AI (spX gWB))(Hw:Cal P w K mg base 1 "is_name" AI (spX gNM))(C:Consts K mg)(Ab:mg "isinstance" = none)(m_tuple:mg "tuple" = none)(Ad:mg "len" = none)(Br:mg "all" = none):∀n,FnOk P w K mg base CX0 (3+3*n) fKW dKW AJ (spX (gKW n))
 | 0=>(aFa (j:=2) KW.F Ew Ge Gf Gh (KW.cal (lV λds Q h=>h)) (AF.cal (lV λds Q h=>h)) (AK.cal (lV λds Q h=>h)) C.wide C.row C.fields C.choices C.mul (by decide))
 |n+1=>by
  have ih:=KW.cal (i6 KW AF AK Ew Ge Gf Gh Hw C Ab m_tuple Ad Br n)
  have Nf:=AK.cal (aSp AK.F ih Br)
  have L5:=AF.cal (aSq AF.F Hw Nf Ab m_tuple Ad (by omega))
  exact(aSh (j:=3+3*n+2) KW.F Ew Ge Gf Gh (ih.mono (by omega)) L5 (Nf.mono (by omega)) C.wide C.row C.fields C.choices C.mul (by omega)).mono (by omega)
theorem a_{fTK fTI fTF fTG fTS:Addr}{dTK dTI dTF dTG dTS:FuncData}(TK:Fx K mg "taken_kind" ds_ AA fTK dTK)(TI:Fx K mg "taken_inner_kind" ck_ AA fTI dTI)(TF:Fx K mg "taken_fields" dq_ AA fTF dTF)(TG:Fx K mg "taken_field" ee_ AA fTG dTG)(TS:Fx K mg "taken_kinds" ed_ AA fTS dTS)
  (CM_passes:mO P w K mg base 1 C_Reader "passes" AB (spO (gPA C_Reader))) (CM_take:iV P w K mg base 2 C_Reader "take" AB (eI (y_ C_Reader Ac))) (CM_take_run:mO P w K mg base 1 C_Reader "take_run" AB (spO (gTR C_Reader))) (CM_take_number:iV P w K mg base 2 C_Reader "take_number" AL (eI (aFw C_Reader Ac))) (An:PyProof.Rows.OwnCls "NoText" Ac veM "ValueError.__new__" mg base)
  (Al:∃t,mg "SMALL_LETTERS" = some (.str fU t)) (A3:∃t,mg "COMMA" = some (.str zH t)) (Ag:∃t,mg "FIGURES_OF_A_KIND" = some (.int 2 t)):∀n,FnOk P w K mg base (CXe P w) (3+4*n) fTK dTK AA (eI (y0 C_Reader Ac n))
 | 0=>aKc TK.F (TI.calE (aMg λC l ds Q Ex h=>h)) CM_passes CM_take_number Ag An
 |n+1=>by
  have ih:=TK.calE (a_ TK TI TF TG TS CM_passes CM_take CM_take_run CM_take_number An Al A3 Ag n)
  have GTG:=TG.calE (aKe TG.F ih CM_take_run CM_take Al (by omega))
  have GTF:=TF.calE (aKf TF.F GTG CM_passes CM_take A3 (by omega))
  have GTS:=TS.calE (aKa TS.F ih CM_passes CM_take A3 (by omega))
  have GTI:=TI.calE (aKd TI.F GTF (GTS.mono (by omega)) CM_passes CM_take CM_take_number Ag (by omega))
  exact(aKb TK.F GTI CM_passes CM_take_number Ag An (by omega)).mono (by omega)
theorem h_{fLK fLL:Addr}{dLK dLL:FuncData}(LK:Fx K mg "_law_read_kind" co_ AC fLK dLK)(LL:Fx K mg "_law_list_kind" cp_ AC fLL dLL)(Hd:Cal P w K mg base 1 "_law_star" AE (spX aMb))(Eb:Cal P w K mg base 1 "_law_number" BB (spX pP))(He:Cal P w K mg base 2 "_law_number_kind" AE (spX aMd))(J9:Cal P w K mg base 1 "_law_parts" AE (spX aTu))(Kb:Cal P w K mg base 1 "_law_is_name" BB (spX aTw))(Ad:mg "len" = none)(m_int:mg "int" = none)(Af:mg "range" = none):∀n,FnOk P w K mg base CX0 (3+2*n) fLK dLK AC (spX (wO n))
 | 0=>aKo LK.F Hd Eb He (LL.cal (lV λds Q h=>h)) (LK.cal (lV λds Q h=>h)) Ad Af
 |n+1=>by
  have ih:=LK.cal (h_ LK LL Hd Eb He J9 Kb Ad m_int Af n)
  have GLL:=LL.cal (aKm LL.F J9 Kb ih Ad m_int Af (by omega))
  exact(aKn (j:=3+2*n) LK.F Hd Eb He GLL ih Ad Af (by omega)).mono (by omega)
end
theorem qZ{K:dA}{t:Value}:∀{cs:List Value},(∀c∈cs,PySem.W.kitOne K t c=some false)->PySem.W.kitAny K t cs=some false
 | [],_=>by simp only[PySem.W.kitAny]
 |c::r,h=>by
  have h1:=h c aA
  have h2:=qZ (cs:=r) λc' h'=>h c' (aB _ h')
  simp only[PySem.W.kitAny,h1,h2]
theorem aYh{K:dA}{mg:kC}{base:Heap}{CF CV CB CM CT CN CR:Addr}(hF:ClsX K mg "FieldError" CF)(hV:ClsX K mg "NoValue" CV)(hB:ClsX K mg "NoBytes" CB)(hM:ClsX K mg "NoMake" CM)(hT:ClsX K mg "NoText" CT)(hN:ClsX K mg "NoName" CN)(hR:ClsX K mg "NoRow" CR)
  (l:[(some true,true),(some false,false),(some false,false),(some false,false),(some true,true),(some false,false),(some false,false)]=(["FieldError","NoValue","NoBytes","NoMake","NoText","NoName","NoRow"]:List Str).map (λm=>match lH K m with | some D=>(PySem.W.kitOne K (.ref CT) (.ref D),p7 K CT D) | none=>(none,false))) (v:PySem.W.kitOne K (.ref CT) (.type "ValueError")=some true) (hb:K.In base):Kit48 K mg CV CB CM CT CN CR/\xH base CT CF:=by
 simp only[aO,dG,hF.at',hV.at',hB.at',hM.at',hT.at',hN.at',hR.at',List.cons.injEq,Prod.mk.injEq,and_true]at l
 obtain⟨⟨_,f2⟩,⟨kV,_⟩,⟨kB,_⟩,⟨kM,_⟩,⟨kT,_⟩,⟨kN,_⟩,⟨kR,_⟩⟩:=l
 refine⟨⟨hV.m,hB.m,hM.m,hT.m,hN.m,hR.m,aAe hT.ok,kT.symm,v,qZ λc hc=>?_⟩,wZ hT.ok f2.symm hb⟩
 simp only[aI,bS,or_false]at hc
 rcases hc with rfl | rfl | rfl | rfl | rfl
 ·exact kB.symm
 ·exact kM.symm
 ·exact kN.symm
 ·exact kR.symm
 ·exact kV.symm
theorem left_top:PySem.W.LeftO PySem.Challenge.pw_laidfields_k45_texts_of_no_kind (PySem.W.view PySem.Challenge.pw_laidfields_k45_texts_of_no_kind [1,2,3,4,5,6,7,9,10,11,12,13,14,15,16,17,18,19,20,21,22,23,24,25,27,28,29,30,31,32,33,34,35,36,37,39,40,41,42,43,44,45,46,47,48,49,50,51,52,53,54,55,56,57,58,59,60,61]) [] (λs=>PySem.W.xlAt (PySem.W.view PySem.Challenge.pw_laidfields_k45_texts_of_no_kind [1,2,3,4,5,6,7,9,10,11,12,13,14,15,16,17,18,19,20,21,22,23,24,25,27,28,29,30,31,32,33,34,35,36,37,39,40,41,42,43,44,45,46,47,48,49,50,51,52,53,54,55,56,57,58,59,60,61]) [] s&&PySem.W.recOk [] s) (exHook (seenF PySem.Challenge.pw_laidfields_k45_texts_of_no_kind) (seenV PySem.Challenge.pw_laidfields_k45_texts_of_no_kind)).obs (exHook (seenF PySem.Challenge.pw_laidfields_k45_texts_of_no_kind) (seenV PySem.Challenge.pw_laidfields_k45_texts_of_no_kind)).val 3300 true:=v7 (by decide) (by kernel_rfl) (λs=>by kernel_rfl) aEg
theorem ib_{α:Type}{f g:Nat->α}:∀{l:List Nat},l.map f=l.map g->∀i,i∈l->f i=g i:=λh i hi=>List.map_inj_left.mp h i hi
theorem aAr{K:dA}{f:Addr}{fd:FuncData}(F:Fun K "law" "law" lB f fd)(s:Shared)(v:Value):BindsTo s fd ⟨[v],[]⟩ [("script",v)]:=by
 obtain⟨oc,od,kV,doc,pm,an,Ai,ct,osl,rfl,_⟩:=F.ex
 exact .of_eq rfl
theorem all_mk{l:PySem.W.OpenLaw}{w:World}{K:dA}{mg:kC}{fa:Addr}{h:Heap}(hK:seenF PySem.Challenge.pw_laidfields_k45_texts_of_no_kind K=seenV PySem.Challenge.pw_laidfields_k45_texts_of_no_kind)(X:K.In h)(G:h.Ns mainGlobals mg)(Lc:mg "law" = some (.ref fa)) :
  ∃fd:FuncData,(∀(s:Shared) (v:Value),BindsTo s fd ⟨[v],[]⟩ [("script",v)])/\∀base:Heap,K.In base->base.Ns mainGlobals mg->FnOk l.prog w K mg base CX0 30 fa fd ["script"] (spLaw K):=by
 have hd:=ib_ (f:=λi=>tN K (fO (fD PySem.Challenge.pw_laidfields_k45_texts_of_no_kind i))) (g:=λi=>uI (fD PySem.Challenge.pw_laidfields_k45_texts_of_no_kind i)) (l:=[17,18,19,20,21,22,23,24,25,30,31,33,34,35,36,37,39,40,41,42,43,44,45,46,47,48,49,50,51,52,53,54,55,56,57,58,59,60,61]) (congrArg (λx=>x.1) hK)
 have Iv:(bltNs++[(⟨#[86,97,108,117,101,69,114,114,111,114]⟩:Str)]).map (pC K)=List.replicate 18 true:=congrArg (λx=>x.2.1) hK
 rw[bM]at Iv
 have K0:bltNs.map (pC K)++[pC K (⟨#[86,97,108,117,101,69,114,114,111,114]⟩:Str)]=List.replicate 17 true++[true]:=Iv
 obtain⟨hn,hv⟩:=List.append_inj K0 (by rw[aD];rfl)
 have e_VE:(⟨#[86,97,108,117,101,69,114,114,111,114]⟩:Str) = "ValueError":=by rfl
 have Bn:mg "ValueError" = none:=PySem.W.mg_none_of X G (e_VE ▸ vY (List.cons.inj hv).1)
 have hc:=ib_ (f:=λi=>tL K (fO (fD PySem.Challenge.pw_laidfields_k45_texts_of_no_kind i))) (g:=λi=>bAe (fD PySem.Challenge.pw_laidfields_k45_texts_of_no_kind i)) (l:=[9,10,11,13,14,15,16,28,27,29]) (congrArg (λx=>x.2.2.1) hK)
 have ht:=ib_ (f:=λi=>tM K (fO (fD PySem.Challenge.pw_laidfields_k45_texts_of_no_kind i))) (g:=λi=>bAf (fD PySem.Challenge.pw_laidfields_k45_texts_of_no_kind i)) (l:=[12]) (congrArg (λx=>x.2.2.2.1) hK)
 obtain⟨f17,d17,a17,F17⟩:=jB (hd 17 (by decide))
 have Cq:Fx K mg "is_whole" hz_ AI f17 d17:=⟨F17,fV F17 (λ_ _ _ _ _ _ _=>rfl),F17.kp,PySem.W.mg_of X G a17⟩
 obtain⟨f18,d18,a18,F18⟩:=jB (hd 18 (by decide))
 have Bf:Fx K mg "is_whole_up_to" dx_ AR f18 d18:=⟨F18,dD F18 (λ_ _ _ _ _ _ _ _=>rfl),F18.kp,PySem.W.mg_of X G a18⟩
 obtain⟨f19,d19,a19,F19⟩:=jB (hd 19 (by decide))
 have Bp:Fx K mg "is_list_up_to" eo_ AU f19 d19:=⟨F19,dD F19 (λ_ _ _ _ _ _ _ _=>rfl),F19.kp,PySem.W.mg_of X G a19⟩
 obtain⟨f20,d20,a20,F20⟩:=jB (hd 20 (by decide))
 have C3:Fx K mg "is_name" hf_ AI f20 d20:=⟨F20,fV F20 (λ_ _ _ _ _ _ _=>rfl),F20.kp,PySem.W.mg_of X G a20⟩
 obtain⟨f21,d21,a21,F21⟩:=jB (hd 21 (by decide))
 have Cr:Fx K mg "has_form" ia_ AN f21 d21:=⟨F21,zP F21 (λ_ _ _ _ _ _ _ _ _=>rfl),F21.kp,PySem.W.mg_of X G a21⟩
 obtain⟨f22,d22,a22,F22⟩:=jB (hd 22 (by decide))
 have C4:Fx K mg "is_kind" jk_ AI f22 d22:=⟨F22,fV F22 (λ_ _ _ _ _ _ _=>rfl),F22.kp,PySem.W.mg_of X G a22⟩
 obtain⟨f23,d23,a23,F23⟩:=jB (hd 23 (by decide))
 have Bg:Fx K mg "is_kind_within" cj_ AJ f23 d23:=⟨F23,dD F23 (λ_ _ _ _ _ _ _ _=>rfl),F23.kp,PySem.W.mg_of X G a23⟩
 obtain⟨f24,d24,a24,F24⟩:=jB (hd 24 (by decide))
 have Dc:Fx K mg "are_kinds" ep_ AD f24 d24:=⟨F24,dD F24 (λ_ _ _ _ _ _ _ _=>rfl),F24.kp,PySem.W.mg_of X G a24⟩
 obtain⟨f25,d25,a25,F25⟩:=jB (hd 25 (by decide))
 have C6:Fx K mg "are_fields" dt_ AD f25 d25:=⟨F25,dD F25 (λ_ _ _ _ _ _ _ _=>rfl),F25.kp,PySem.W.mg_of X G a25⟩
 obtain⟨f30,d30,a30,F30⟩:=jB (hd 30 (by decide))
 have Cj:Fx K mg "read_kind" gy_ AE f30 d30:=⟨F30,fV F30 (λ_ _ _ _ _ _ _=>rfl),F30.kp,PySem.W.mg_of X G a30⟩
 obtain⟨f31,d31,a31,F31⟩:=jB (hd 31 (by decide))
 have B3:Fx K mg "are_figures" eh_ AE f31 d31:=⟨F31,fV F31 (λ_ _ _ _ _ _ _=>rfl),F31.kp,PySem.W.mg_of X G a31⟩
 obtain⟨f33,d33,a33,F33⟩:=jB (hd 33 (by decide))
 have B7:Fx K mg "taken_kind" ds_ AA f33 d33:=⟨F33,dD F33 (λ_ _ _ _ _ _ _ _=>rfl),F33.kp,PySem.W.mg_of X G a33⟩
 obtain⟨f34,d34,a34,F34⟩:=jB (hd 34 (by decide))
 have B6:Fx K mg "taken_inner_kind" ck_ AA f34 d34:=⟨F34,dD F34 (λ_ _ _ _ _ _ _ _=>rfl),F34.kp,PySem.W.mg_of X G a34⟩
 obtain⟨f35,d35,a35,F35⟩:=jB (hd 35 (by decide))
 have Cp:Fx K mg "taken_fields" dq_ AA f35 d35:=⟨F35,dD F35 (λ_ _ _ _ _ _ _ _=>rfl),F35.kp,PySem.W.mg_of X G a35⟩
 obtain⟨f36,d36,a36,F36⟩:=jB (hd 36 (by decide))
 have Cz:Fx K mg "taken_field" ee_ AA f36 d36:=⟨F36,dD F36 (λ_ _ _ _ _ _ _ _=>rfl),F36.kp,PySem.W.mg_of X G a36⟩
 obtain⟨f37,d37,a37,F37⟩:=jB (hd 37 (by decide))
 have Cy:Fx K mg "taken_kinds" ed_ AA f37 d37:=⟨F37,dD F37 (λ_ _ _ _ _ _ _ _=>rfl),F37.kp,PySem.W.mg_of X G a37⟩
 obtain⟨f39,d39,a39,F39⟩:=jB (hd 39 (by decide))
 have Bz:Fx K mg "_law_cell_at" fk_ BE f39 d39:=⟨F39,dD F39 (λ_ _ _ _ _ _ _ _=>rfl),F39.kp,PySem.W.mg_of X G a39⟩
 obtain⟨f40,d40,a40,F40⟩:=jB (hd 40 (by decide))
 have Bv:Fx K mg "_law_numbers" fj_ AM f40 d40:=⟨F40,dD F40 (λ_ _ _ _ _ _ _ _=>rfl),F40.kp,PySem.W.mg_of X G a40⟩
 obtain⟨f41,d41,a41,F41⟩:=jB (hd 41 (by decide))
 have Cn:Fx K mg "_law_deck" hy_ AM f41 d41:=⟨F41,dD F41 (λ_ _ _ _ _ _ _ _=>rfl),F41.kp,PySem.W.mg_of X G a41⟩
 obtain⟨f42,d42,a42,F42⟩:=jB (hd 42 (by decide))
 have Bu:Fx K mg "_law_take" gg_ AH f42 d42:=⟨F42,dD F42 (λ_ _ _ _ _ _ _ _=>rfl),F42.kp,PySem.W.mg_of X G a42⟩
 obtain⟨f43,d43,a43,F43⟩:=jB (hd 43 (by decide))
 have Cm:Fx K mg "_law_kind" ej_ AZ f43 d43:=⟨F43,dD F43 (λ_ _ _ _ _ _ _ _=>rfl),F43.kp,PySem.W.mg_of X G a43⟩
 obtain⟨f44,d44,a44,F44⟩:=jB (hd 44 (by decide))
 have Dd:Fx K mg "_law_name" gh_ BC f44 d44:=⟨F44,zP F44 (λ_ _ _ _ _ _ _ _ _=>rfl),F44.kp,PySem.W.mg_of X G a44⟩
 obtain⟨f45,d45,a45,F45⟩:=jB (hd 45 (by decide))
 have Ec:Fx K mg "_law_up" ix_ BF f45 d45:=⟨F45,dD F45 (λ_ _ _ _ _ _ _ _=>rfl),F45.kp,PySem.W.mg_of X G a45⟩
 obtain⟨f46,d46,a46,F46⟩:=jB (hd 46 (by decide))
 have Cl:Fx K mg "_law_room" dm_ AX f46 d46:=⟨F46,fV F46 (λ_ _ _ _ _ _ _=>rfl),F46.kp,PySem.W.mg_of X G a46⟩
 obtain⟨f47,d47,a47,F47⟩:=jB (hd 47 (by decide))
 have A6:Fx K mg "_law_kind_within" do_ AY f47 d47:=⟨F47,zP F47 (λ_ _ _ _ _ _ _ _ _=>rfl),F47.kp,PySem.W.mg_of X G a47⟩
 obtain⟨f48,d48,a48,F48⟩:=jB (hd 48 (by decide))
 have A2:Fx K mg "_law_kind_written" cl_ AX f48 d48:=⟨F48,fV F48 (λ_ _ _ _ _ _ _=>rfl),F48.kp,PySem.W.mg_of X G a48⟩
 obtain⟨f49,d49,a49,F49⟩:=jB (hd 49 (by decide))
 have Ca:Fx K mg "_law_alike" en_ AO f49 d49:=⟨F49,dD F49 (λ_ _ _ _ _ _ _ _=>rfl),F49.kp,PySem.W.mg_of X G a49⟩
 obtain⟨f50,d50,a50,F50⟩:=jB (hd 50 (by decide))
 have B4:Fx K mg "_law_number" fy_ BB f50 d50:=⟨F50,fV F50 (λ_ _ _ _ _ _ _=>rfl),F50.kp,PySem.W.mg_of X G a50⟩
 obtain⟨f51,d51,a51,F51⟩:=jB (hd 51 (by decide))
 have B8:Fx K mg "_law_parts" gz_ AE f51 d51:=⟨F51,fV F51 (λ_ _ _ _ _ _ _=>rfl),F51.kp,PySem.W.mg_of X G a51⟩
 obtain⟨f52,d52,a52,F52⟩:=jB (hd 52 (by decide))
 have Ck:Fx K mg "_law_star" hx_ AE f52 d52:=⟨F52,fV F52 (λ_ _ _ _ _ _ _=>rfl),F52.kp,PySem.W.mg_of X G a52⟩
 obtain⟨f53,d53,a53,F53⟩:=jB (hd 53 (by decide))
 have A5:Fx K mg "_law_number_kind" dn_ AE f53 d53:=⟨F53,fV F53 (λ_ _ _ _ _ _ _=>rfl),F53.kp,PySem.W.mg_of X G a53⟩
 obtain⟨f54,d54,a54,F54⟩:=jB (hd 54 (by decide))
 have Bw:Fx K mg "_law_is_name" eg_ BB f54 d54:=⟨F54,fV F54 (λ_ _ _ _ _ _ _=>rfl),F54.kp,PySem.W.mg_of X G a54⟩
 obtain⟨f55,d55,a55,F55⟩:=jB (hd 55 (by decide))
 have Ce:Fx K mg "_law_list_kind" cp_ AC f55 d55:=⟨F55,dD F55 (λ_ _ _ _ _ _ _ _=>rfl),F55.kp,PySem.W.mg_of X G a55⟩
 obtain⟨f56,d56,a56,F56⟩:=jB (hd 56 (by decide))
 have Bi:Fx K mg "_law_read_kind" co_ AC f56 d56:=⟨F56,dD F56 (λ_ _ _ _ _ _ _ _=>rfl),F56.kp,PySem.W.mg_of X G a56⟩
 obtain⟨f57,d57,a57,F57⟩:=jB (hd 57 (by decide))
 have By:Fx K mg "_law_changed" ct_ AQ f57 d57:=⟨F57,dD F57 (λ_ _ _ _ _ _ _ _=>rfl),F57.kp,PySem.W.mg_of X G a57⟩
 obtain⟨f58,d58,a58,F58⟩:=jB (hd 58 (by decide))
 have B9:Fx K mg "_law_asked" ha_ AE f58 d58:=⟨F58,fV F58 (λ_ _ _ _ _ _ _=>rfl),F58.kp,PySem.W.mg_of X G a58⟩
 obtain⟨f59,d59,a59,F59⟩:=jB (hd 59 (by decide))
 have Bt:Fx K mg "_law_wrapped" bx_ AQ f59 d59:=⟨F59,dD F59 (λ_ _ _ _ _ _ _ _=>rfl),F59.kp,PySem.W.mg_of X G a59⟩
 obtain⟨f60,d60,a60,F60⟩:=jB (hd 60 (by decide))
 have Cs:Fx K mg "_law_odd" jj_ ["number"] f60 d60:=⟨F60,fV F60 (λ_ _ _ _ _ _ _=>rfl),F60.kp,PySem.W.mg_of X G a60⟩
 obtain⟨f61,M8,a61,F61⟩:=jB (hd 61 (by decide))
 have E7:Fx K mg "law" lB ["script"] f61 M8:=⟨F61,fV F61 (λ_ _ _ _ _ _ _=>rfl),F61.kp,PySem.W.mg_of X G a61⟩
 have Ab:mg "isinstance" = none:=PySem.W.mg_none_of X G (iq_ hn 0 (by decide) (by rfl))
 have m_int:mg "int" = none:=PySem.W.mg_none_of X G (iq_ hn 1 (by decide) (by rfl))
 have Bm:mg "bool" = none:=PySem.W.mg_none_of X G (iq_ hn 2 (by decide) (by rfl))
 have m_list:mg "list" = none:=PySem.W.mg_none_of X G (iq_ hn 3 (by decide) (by rfl))
 have Ad:mg "len" = none:=PySem.W.mg_none_of X G (iq_ hn 4 (by decide) (by rfl))
 have m_str:mg "str" = none:=PySem.W.mg_none_of X G (iq_ hn 5 (by decide) (by rfl))
 have m_tuple:mg "tuple" = none:=PySem.W.mg_none_of X G (iq_ hn 6 (by decide) (by rfl))
 have Br:mg "all" = none:=PySem.W.mg_none_of X G (iq_ hn 7 (by decide) (by rfl))
 have m_dict:mg "dict" = none:=PySem.W.mg_none_of X G (iq_ hn 8 (by decide) (by rfl))
 have Bj:mg "max" = none:=PySem.W.mg_none_of X G (iq_ hn 9 (by decide) (by rfl))
 have De:mg "min" = none:=PySem.W.mg_none_of X G (iq_ hn 10 (by decide) (by rfl))
 have Af:mg "range" = none:=PySem.W.mg_none_of X G (iq_ hn 11 (by decide) (by rfl))
 obtain⟨_,Al,r_SMALL_LETTERS⟩:=cw_ (x:=.str fU) (hc 9 (by decide))
 obtain⟨_,rfl⟩:=r_SMALL_LETTERS
 obtain⟨_,A8,r_LONGEST_NAME⟩:=cw_ (x:=.int 8) (hc 10 (by decide))
 obtain⟨_,rfl⟩:=r_LONGEST_NAME
 obtain⟨_,Aq,r_WIDEST_NUMBER⟩:=cw_ (x:=.int 8) (hc 11 (by decide))
 obtain⟨_,rfl⟩:=r_WIDEST_NUMBER
 obtain⟨_,Aw,r_LONGEST_ROW⟩:=cw_ (x:=.int 20) (hc 13 (by decide))
 obtain⟨_,rfl⟩:=r_LONGEST_ROW
 obtain⟨_,Av,r_MOST_FIELDS⟩:=cw_ (x:=.int 8) (hc 14 (by decide))
 obtain⟨_,rfl⟩:=r_MOST_FIELDS
 obtain⟨_,Ar,r_MOST_CHOICES⟩:=cw_ (x:=.int 6) (hc 15 (by decide))
 obtain⟨_,rfl⟩:=r_MOST_CHOICES
 obtain⟨_,Bl,r_DEEPEST⟩:=cw_ (x:=.int 5) (hc 16 (by decide))
 obtain⟨_,rfl⟩:=r_DEEPEST
 obtain⟨_,A3,r_COMMA⟩:=cw_ (x:=.str zH) (hc 28 (by decide))
 obtain⟨_,rfl⟩:=r_COMMA
 obtain⟨_,Bk,r_FIGURES⟩:=cw_ (x:=.str eU) (hc 27 (by decide))
 obtain⟨_,rfl⟩:=r_FIGURES
 obtain⟨_,Ag,r_FIGURES_OF_A_KIND⟩:=cw_ (x:=.int 2) (hc 29 (by decide))
 obtain⟨_,rfl⟩:=r_FIGURES_OF_A_KIND
 obtain⟨_,_,_,_,_,c_M,c_T,r_M⟩:=u9 (vs:=[.int 1,.int 2,.int 4,.int 8]) (ht 12 (by decide))
 have Bh:Consts K mg:=⟨⟨_,PySem.W.mg_of X G Al⟩,⟨_,PySem.W.mg_of X G A8⟩,⟨_,PySem.W.mg_of X G Aq⟩,⟨_,PySem.W.mg_of X G c_M,λH=>.inr ⟨_,_,_,c_T,rfl,rfl,(by have:=r_M.length;simp only[aE,bJ,Array.length_toList]at this;rw[<-this];decide),r_M⟩⟩,⟨_,PySem.W.mg_of X G Aw⟩,⟨_,PySem.W.mg_of X G Av⟩,⟨_,PySem.W.mg_of X G Ar⟩,⟨_,PySem.W.mg_of X G Bl⟩⟩
 have hx:aSr K AS=[(true,[(some true,true),zF,zF,zF,zF,zF,zF],some true,some false),(true,[(some true,true),(some true,true),zF,zF,zF,zF,zF],some true,some false),(true,[(some true,true),zF,(some true,true),zF,zF,zF,zF],some true,some false),(true,[(some true,true),zF,zF,(some true,true),zF,zF,zF],some true,some false),(true,[(some true,true),zF,zF,zF,(some true,true),zF,zF],some true,some false),(true,[(some true,true),zF,zF,zF,zF,(some true,true),zF],some true,some false),(true,[(some true,true),zF,zF,zF,zF,zF,(some true,true)],some true,some false)]:=congrArg (λx=>x.2.2.2.2.1) hK
 rw[aKv]at hx
 simp only[aO,dG,List.cons.injEq,and_true]at hx
 obtain⟨C1,Dq,Dr,Ef,Ed,Ee,Fb⟩:=hx
 obtain⟨Bo,B0,l_FieldError,v_FieldError,n_FieldError⟩:=kb_ C1 X G
 obtain⟨Ao,Dk,Hk,Hf,Hi⟩:=kb_ Dq X G
 obtain⟨Ap,Dl,Hl,Hg,Hj⟩:=kb_ Dr X G
 obtain⟨At,D0,Ic,Hy,Ia⟩:=kb_ Ef X G
 obtain⟨Ac,Cu,E9,E8,Hz⟩:=kb_ Ed X G
 obtain⟨As,Dz,Ib,Hx,H9⟩:=kb_ Ee X G
 obtain⟨Ax,Et,Jv,Js,Ju⟩:=kb_ Fb X G
 have k_COMMA:∃t,mg "COMMA" = some (.str zH t):=⟨_,PySem.W.mg_of X G A3⟩
 have k_FIGURES:∃t,mg "FIGURES" = some (.str eU t):=⟨_,PySem.W.mg_of X G Bk⟩
 have k_FIGURES_OF_A_KIND:∃t,mg "FIGURES_OF_A_KIND" = some (.int 2 t):=⟨_,PySem.W.mg_of X G Ag⟩
 have hO:[f9 K "Reader" [("__init__","Reader.__init__"),("passes","Reader.passes"),("take","Reader.take"),("take_end","Reader.take_end"),("take_run","Reader.take_run"),("take_number","Reader.take_number")] ["place","text"]]=[l9 [fG "__init__" "Reader.__init__" (dO (fD PySem.Challenge.pw_laidfields_k45_texts_of_no_kind 32) 0),fG "passes" "Reader.passes" (dO (fD PySem.Challenge.pw_laidfields_k45_texts_of_no_kind 32) 1),fG "take" "Reader.take" (dO (fD PySem.Challenge.pw_laidfields_k45_texts_of_no_kind 32) 2),fG "take_end" "Reader.take_end" (dO (fD PySem.Challenge.pw_laidfields_k45_texts_of_no_kind 32) 3),fG "take_run" "Reader.take_run" (dO (fD PySem.Challenge.pw_laidfields_k45_texts_of_no_kind 32) 4),fG "take_number" "Reader.take_number" (dO (fD PySem.Challenge.pw_laidfields_k45_texts_of_no_kind 32) 5)] [("__init__","Reader.__init__"),("passes","Reader.passes"),("take","Reader.take"),("take_end","Reader.take_end"),("take_run","Reader.take_run"),("take_number","Reader.take_number")] ["place","text"]]:=congrArg (λx=>x.2.2.2.2.2) hK
 simp only[List.cons.injEq,and_true]at hO
 have Es:=hO
 obtain⟨C_Reader,at_Reader,Ae,mk_Reader,kp_Reader,ms_Reader,mf_Reader,na_Reader⟩:=aEj Es
 have Cv:mg "Reader" = some (.ref C_Reader):=PySem.W.mg_of X G at_Reader
 have na_Reader_place:NoAttr K C_Reader "place":=na_Reader "place" (by simp only[aI,true_or,or_true])
 have na_Reader_text:NoAttr K C_Reader "text":=na_Reader "text" (by simp only[aI,true_or,or_true])
 simp only[aO,dG,List.cons.injEq,and_true]at ms_Reader
 obtain⟨ms_Reader___init__,ms_Reader_passes,ms_Reader_take,ms_Reader_take_end,ms_Reader_take_run,ms_Reader_take_number⟩:=ms_Reader
 obtain⟨f_Reader___init__,d_Reader___init__,fa_Reader___init__,fn_Reader___init__,F_Reader___init__⟩:=ek_ ms_Reader___init__ (mf_Reader ("__init__","Reader.__init__") (by simp only[aI,true_or,or_true]))
 have b_Reader___init__:Binds K d_Reader___init__ BD []:=dD (st:=yC) F_Reader___init__ (λ_ _ _ _ _ _ _ _=>rfl)
 have mk_Reader_i:Mk K C_Reader f_Reader___init__:=⟨mk_Reader,fa_Reader___init__,fn_Reader___init__,kp_Reader⟩
 obtain⟨f_Reader_passes,d_Reader_passes,fa_Reader_passes,fn_Reader_passes,F_Reader_passes⟩:=ek_ ms_Reader_passes (mf_Reader ("passes","Reader.passes") (by simp only[aI,true_or,or_true]))
 have b_Reader_passes:Binds K d_Reader_passes AB []:=dD (st:=iw_) F_Reader_passes (λ_ _ _ _ _ _ _ _=>rfl)
 have Bq:Mx K C_Reader "passes" "Reader.passes" iw_ AB f_Reader_passes d_Reader_passes:=⟨F_Reader_passes,b_Reader_passes,⟨fa_Reader_passes,fn_Reader_passes,F_Reader_passes.kp⟩,Ae⟩
 obtain⟨f_Reader_take,d_Reader_take,fa_Reader_take,fn_Reader_take,F_Reader_take⟩:=ek_ ms_Reader_take (mf_Reader ("take","Reader.take") (by simp only[aI,true_or,or_true]))
 have b_Reader_take:Binds K d_Reader_take AB []:=dD (st:=sW) F_Reader_take (λ_ _ _ _ _ _ _ _=>rfl)
 have B5:Mx K C_Reader "take" "Reader.take" sW AB f_Reader_take d_Reader_take:=⟨F_Reader_take,b_Reader_take,⟨fa_Reader_take,fn_Reader_take,F_Reader_take.kp⟩,Ae⟩
 obtain⟨f_Reader_take_end,d_Reader_take_end,fa_Reader_take_end,fn_Reader_take_end,F_Reader_take_end⟩:=ek_ ms_Reader_take_end (mf_Reader ("take_end","Reader.take_end") (by simp only[aI,true_or,or_true]))
 have b_Reader_take_end:Binds K d_Reader_take_end ["self"] []:=fV (st:=gf_) F_Reader_take_end (λ_ _ _ _ _ _ _=>rfl)
 have Bc:Mx K C_Reader "take_end" "Reader.take_end" gf_ ["self"] f_Reader_take_end d_Reader_take_end:=⟨F_Reader_take_end,b_Reader_take_end,⟨fa_Reader_take_end,fn_Reader_take_end,F_Reader_take_end.kp⟩,Ae⟩
 obtain⟨f_Reader_take_run,d_Reader_take_run,fa_Reader_take_run,fn_Reader_take_run,F_Reader_take_run⟩:=ek_ ms_Reader_take_run (mf_Reader ("take_run","Reader.take_run") (by simp only[aI,true_or,or_true]))
 have b_Reader_take_run:Binds K d_Reader_take_run AB []:=dD (st:=ge_) F_Reader_take_run (λ_ _ _ _ _ _ _ _=>rfl)
 have Bb:Mx K C_Reader "take_run" "Reader.take_run" ge_ AB f_Reader_take_run d_Reader_take_run:=⟨F_Reader_take_run,b_Reader_take_run,⟨fa_Reader_take_run,fn_Reader_take_run,F_Reader_take_run.kp⟩,Ae⟩
 obtain⟨f_Reader_take_number,d_Reader_take_number,fa_Reader_take_number,fn_Reader_take_number,F_Reader_take_number⟩:=ek_ ms_Reader_take_number (mf_Reader ("take_number","Reader.take_number") (by simp only[aI,true_or,or_true]))
 have b_Reader_take_number:Binds K d_Reader_take_number AL []:=dD (st:=ef_) F_Reader_take_number (λ_ _ _ _ _ _ _ _=>rfl)
 have Az:Mx K C_Reader "take_number" "Reader.take_number" ef_ AL f_Reader_take_number d_Reader_take_number:=⟨F_Reader_take_number,b_Reader_take_number,⟨fa_Reader_take_number,fn_Reader_take_number,F_Reader_take_number.kp⟩,Ae⟩
 have e:=Lc.symm.trans E7.m
 cases e
 refine⟨M8,λs v=>aAr E7.F s v,λbase Lr _=>?_⟩
 exact have KT:=aYh B0 Dk Dl D0 Cu Dz Et E9 E8 Lr
  have ON:=Cu.own Lr
  have Na:=Bq.cal (P:=l.prog) (w:=w) (mg:=mg) (base:=base) (yM (C_Reader:=C_Reader) Bq.F Ae na_Reader_text na_Reader_place Ad)
  have GTA:=B5.calE (aEh B5.F Na ON)
  have GTE:=Bc.calE (P:=l.prog) (w:=w) (mg:=mg) (base:=base) (tK (C_Reader:=C_Reader) Bc.F Ae na_Reader_text na_Reader_place Ad ON)
  have M9:=Bb.cal (P:=l.prog) (w:=w) (mg:=mg) (base:=base) (tJ (C_Reader:=C_Reader) Bb.F Ae na_Reader_text na_Reader_place Ad)
  have L5:=B3.cal (P:=l.prog) (w:=w) (base:=base) (aKt B3.F Ad Br k_FIGURES)
  have GTN:=Az.calE (jp_ Az.F M9 L5 Ad m_int k_FIGURES ON)
  have CK:aHb l.prog w K mg base 1 C_Reader BD (eI (aTv C_Reader _)):=⟨_,_,mk_Reader_i,aEi F_Reader___init__ Ae na_Reader_text na_Reader_place Ab m_str ON,b_Reader___init__⟩
  have GTD:=B7.calE (a_ B7 B6 Cp Cz Cy Na GTA M9 GTN ON Bh.letters k_COMMA k_FIGURES_OF_A_KIND 5)
  have Nd:=Cq.cal (P:=l.prog) (w:=w) (base:=base) (aSa Cq.F Ab m_int Bm)
  have GWU:=Bf.cal (aRx Bf.F Nd)
  have GLU:=Bp.cal (P:=l.prog) (w:=w) (base:=base) (aSg Bp.F Ab m_list Ad)
  have GNM:=C3.cal (P:=l.prog) (w:=w) (base:=base) (aSf C3.F Ab m_str Ad Br Bh.name Bh.letters)
  have GHF:=Cr.cal (P:=l.prog) (w:=w) (base:=base) (aSk Cr.F Ab m_tuple m_str Ad)
  have GIK:=C4.cal (aSj C4.F (Bg.cal (i6 Bg C6 Dc GHF GWU GLU Nd GNM Bh Ab m_tuple Ad Br 5)) Bh.deep)
  have GRK:=Cj.calE (aKh (j:=23) Cj.F CK Cv GTD GTE (GIK.mono (by decide)) Bh.deep ON (by decide))
  have GAS:=B9.cal (aSo B9.F GRK KT.1 (B0.own Lr) KT.2 Ab m_int Bn)
  have J8:=Bu.cal (P:=l.prog) (w:=w) (base:=base) (yL Bu.F)
  have Nb:=Bv.cal (P:=l.prog) (w:=w) (base:=base) (aSe Bv.F Af)
  have GKW:=A6.cal (aKq (j:=6) A6.F J8 (Cm.cal (i7 Cm Dd Bu Af m_int 5)) ((Cl.cal (d4 Cl Ec Bj 5)).mono (by decide)))
  have GPT:=B8.cal (P:=l.prog) (w:=w) (base:=base) (aKi B8.F Ad m_int)
  have Nc:=B4.cal (P:=l.prog) (w:=w) (base:=base) (aKl B4.F Ad m_int)
  have GLK:=Bi.cal (h_ Bi Ce (Ck.cal (aKg Ck.F Ad m_int Af)) Nc (A5.cal (aKk A5.F Nc Ad Af)) GPT (Bw.cal (aKr Bw.F Ad)) Ad m_int Af 5)
  (aEy (aKp (L:=25) E7.F (Bz.cal (aSn Bz.F Ad)) (Cn.cal (aSl Cn.F Nb)) Nb J8 (GKW.mono (by decide)) ((A2.cal (a5 A2 m_str 5)).mono (by decide)) (By.cal (aSm By.F J8 Ad)) (Bt.cal (aRz Bt.F J8 Af)) (Cs.cal (aSd Cs.F Ad)) (GLK.mono (by decide)) (GAS.mono (by decide)) ((Ca.cal (o5 Ca Ab m_dict m_tuple m_list Ad Af m_str m_int Bm 15)).mono (by decide)) Bj De Af Ad m_int m_str (by decide))).mono (by decide)
def lawRec:DefRec:=match lB with
 | .FunctionDef n a b _ _ _ sc _ _ pos=>⟨n,a,b,sc,pos⟩
 |_=>⟨⟨#[]⟩,⟨[],[],none,[],[],none,[]⟩,[],aL lB,⟨0,0,0,0⟩⟩
end Lf
open PySem PySem.W PyProof.Rows
set_option maxHeartbeats 0 in
theorem PySem.Challenge.cw_laidfields_k45_texts_of_no_kind_holds : PySem.Challenge.rw_laidfields_k45_texts_of_no_kind.Holds := by
 w_on;o_law
 refine holds_open (d := Lf.lawRec) (kwd := []) (XP := XL (PySem.W.view PySem.Challenge.pw_laidfields_k45_texts_of_no_kind [1, 2, 3, 4, 5, 6, 7, 9, 10, 11, 12, 13, 14, 15, 16, 17, 18, 19, 20, 21, 22, 23, 24, 25, 27, 28, 29, 30, 31, 32, 33, 34, 35, 36, 37, 39, 40, 41, 42, 43, 44, 45, 46, 47, 48, 49, 50, 51, 52, 53, 54, 55, 56, 57, 58, 59, 60, 61]) []) Lf.left_top (Hook.of (L2.exHook (Lf.seenF PySem.Challenge.pw_laidfields_k45_texts_of_no_kind) (Lf.seenV PySem.Challenge.pw_laidfields_k45_texts_of_no_kind))) (Hook.keeps (L2.exHook (Lf.seenF PySem.Challenge.pw_laidfields_k45_texts_of_no_kind) (Lf.seenV PySem.Challenge.pw_laidfields_k45_texts_of_no_kind))) (fun s e => xl_of s (fK.mp e).1) XL.keeps (by kernel_rfl) (by kernel_rfl) (by kernel_rfl) (fun s e => recFacts_of (fK.mp e).2) (by rfl) (by assumption) (by decide +kernel) ⟨rfl, rfl, rfl, rfl, rfl, by decide +kernel⟩ ?hw ?hc
 case hw=>w_witness2
 case hc=>exact L2.walk_ex (l:=PySem.Challenge.rw_laidfields_k45_texts_of_no_kind) (n:=63) (k:=30) (x:= "script") (CX:=L2.CX0) (sp:=Lf.spLaw) rfl (by decide) (by rfl) (by first | exact⟨rfl,by decide,by decide⟩ | exact⟨rfl,by decide,by decide,rfl⟩) (λw K mg fa h hK X G Lc=>Lf.all_mk hK X G Lc) (λK H a ns hl _ hS=>⟨a,ns,rfl,hS,hl,λ_=>rfl⟩) (λ_ _ _ _ z=>z)
#print axioms PySem.Challenge.cw_laidfields_k45_texts_of_no_kind_holds

import PyProof.Rows.All
import PyProof.ReprRoads
import PyProof.Rows.CatFin
import PyProof.Rows.StrClip
import PyProof.Rows.StrPartPair
import PyProof.StrLawsTight
import Wide.All
import OpenK.AllK
import Wide.FinOn
import PyProof.EqAt
import PyProof.EqKinds
import PyProof.NeKinds
import PyProof.TupleCall
import PyProof.StrWalks
import PyProof.ConsumeWalk
import PyProof.EnumMake
import PyProof.EnumFor
import PyProof.ListNew
import PyProof.ListRange
import PyProof.Rows.SortWalk
import PyProof.Rows.Range3
import PyProof.Rows.ChunkEnd
import PyProof.Rows.ChunkLeaf
import PyProof.Rows.StrInSeq
import Wide.Txt
import PyProof.DictIter
import PyProof.DictWalks
import PyProof.AttrMissHeap
import KE.KDictOf
import KE.KSortTup
import KE.KDictList
import KE.KRevIter
import PyProof.Rows.Own
import PyProof.ExcBaseAll.ValueError
import PyProof.RulesAs
import PyProof.NsDelKeeps
import PyProof.ExcClass3
import PyProof.ExcArgsOwn
import KE.KIsAll
import KE.IntBitsLaws
import PyProof.Rows.StrRev
import PyProof.PureStr
import PyProof.ToksMono
import PyProof.MeetsStr3
import PyProof.StrCalls6
import KE.KDictSum
import KE.KIntText
import KE.KEqDict
import PyProof.Rows.SortStr
import PyProof.Rows.SortShellK
import PyProof.Rows.StrKeys3
import Lean
import PySem.Challenge.RW_laidfields_k47_texts_of_no_value
abbrev AA:List PySem.Str:=["self","signs"]
abbrev AB:List PySem.Str:=["kind","text"]
abbrev AC:List PySem.Str:=["reader","kind"]
abbrev AD:List PySem.Str:=["deck","many"]
abbrev AE:List PySem.Str:=["kind","room","m","end","most","name","part","rooms"]
abbrev AF:List PySem.Str:=["reader","fields"]
abbrev AG:List PySem.Str:=["cell","many"]
abbrev AH:List PySem.Str:=["kind","value"]
abbrev AI:List PySem.Str:=["found","due"]
abbrev AJ:List PySem.Str:=["self","most_figures"]
abbrev AL:List PySem.Str:=["text","deck"]
abbrev AM:List PySem.Str:=["kind","text","number","word","mark","rest","k","value","parts","found"]
abbrev AN:List PySem.Str:=["FieldError","NoValue","NoBytes","NoMake","NoText","NoName","NoRow"]
abbrev AO:List PySem.Str:=["deck","depth","way","many","alike","parts"]
abbrev AQ:List PySem.Str:=["fields","parts","some"]
abbrev AR:List PySem.Str:=["kind","deck"]
abbrev AS:List PySem.Str:=["thing"]
abbrev AT:List PySem.Str:=["deck","depth","most"]
abbrev AU:List PySem.Str:=["deck","depth"]
abbrev AV:List PySem.Str:=["reader","kind","n"]
abbrev AW:List PySem.Str:=["text"]
abbrev AX:List PySem.Str:=["deck","k","alike"]
abbrev AY:List PySem.Str:=["kind","thing"]
abbrev AZ:List PySem.Str:=["reader","kinds"]
abbrev BB:List PySem.Str:=["self","text"]
abbrev BC:List PySem.Str:=["script","k"]
abbrev BD:List PySem.Str:=["number","m"]
set_option Elab.async false
set_option linter.all false
set_option maxRecDepth 100000
set_option maxHeartbeats 16000000
abbrev cZ:=PySem.W.Frag
abbrev kP:=PySem.Str->Option PySem.Value
variable{P:PySem.Program}{w:PySem.World}{K:cZ}{mg:kP}{base:PySem.Heap}{fd:PySem.FuncData}
abbrev dzT:=@decide_eq_true
abbrev dzF:=@decide_eq_false
abbrev ozI:=@Option.some.inj
abbrev nzL:=@Nat.le_trans
abbrev eF:=List (PySem.Addr×PySem.Obj)
abbrev gG:=PySem.Value->PySem.Shared->Prop
section
open PySem PySem.Spec PyProof.Rows
abbrev aA:=@List.mem_cons_self
abbrev aB:=@List.length_append
abbrev aC:=@List.mem_cons_of_mem
abbrev aD:=@List.length_cons
abbrev aE:=@List.mem_append_right
abbrev aF:=@List.mem_cons
abbrev aG:=@List.length_map
abbrev aI:=@List.mem_singleton
abbrev aK:=@List.mem_append_left
abbrev aL:=@List.append_assoc
abbrev aO:=@List.getElem?_eq_getElem
abbrev aP:=@List.cons_append
abbrev aQ:=@Heap.get?_push_of_some
abbrev aR:=@Nat.lt_of_succ_lt
abbrev aS:=@List.nil_append
abbrev aV:=@List.append_nil
abbrev aX:=@Option.bind_eq_some_iff
abbrev aY:=@List.getElem?_eq_some_iff
abbrev aZ:=@Option.bind_some
abbrev bA:=@Nat.le_refl
abbrev bB:=@List.map_cons
abbrev bC:=@List.length_nil
abbrev bE:=@List.size_toArray
abbrev bF:=@List.mem_append
abbrev bG:=@List.length_set
abbrev bH:=@List.length_singleton
abbrev bI:=@List.length_replicate
abbrev bK:=@Heap.lt_size
abbrev bN:=@List.mem_of_getElem?
abbrev bO:=@Bool.false_ne_true
abbrev bP:=@Heap.get?_push_size
abbrev bQ:=@Nat.lt_of_lt_of_le
abbrev bS:=@List.length_drop
abbrev bT:=@List.map_append
abbrev bV:=@List.getElem?_map
abbrev bW:=@List.lookup_cons
abbrev bX:=@List.mem_map
abbrev bY:=@List.not_mem_nil
abbrev cA:=@List.nodup_append
abbrev cC:=@List.zipWith_cons_cons
abbrev cD:=@List.length_range
abbrev cE:=@List.nodup_cons
abbrev cF:=@Nat.zero_le
abbrev cG:=@Heap.get?_update_other
abbrev cH:=@Nat.ne_of_lt
abbrev cM:=@List.map_map
abbrev cN:=@Option.isSome_iff_exists
abbrev cO:=@List.set_eq_of_length_le
abbrev cP:=@List.mem_map_of_mem
abbrev cQ:=@List.flatten_cons
abbrev cT:=@Int.emod_lt_of_pos
abbrev cW:=@Int.toNat_of_nonneg
abbrev cY:=@List.perm_append_comm
abbrev dA:=@List.map_nil
abbrev dD:=@List.getElem?_set_ne
abbrev dE:=@Bool.and_eq_true
abbrev dJ:=@Option.map_eq_some_iff
abbrev dM:=@List.replicate_succ
abbrev dN:=@Int.emod_nonneg
abbrev eC:=@List.find?_cons
abbrev eK:=@Nat.lt_irrefl
abbrev eL:=@Nat.le_max_right
abbrev eO:=@List.perm_middle
abbrev eP:=@List.zip_cons_cons
abbrev eQ:=@List.isPrefixOf_iff_prefix
abbrev eR:=@List.getElem?_append_right
abbrev eT:=@List.drop_zero
abbrev eU:=@Bool.false_eq_true
abbrev fA:=@Nat.le_max_left
abbrev fB:=@List.of_mem_zip
abbrev fC:=@Bool.eq_iff_iff
abbrev fG:=@Bool.and_eq_true_iff
abbrev fH:=@List.any_cons
abbrev fQ:=@List.mem_flatMap
abbrev fR:=@List.length_take
abbrev fZ:=@List.take_of_length_le
abbrev gF:=@Int.toNat_natCast
abbrev gH:=@Nat.mul_le_mul_right
abbrev gJ:=@Option.bind_none
abbrev gK:=@List.all_eq_true
abbrev gO:=@List.map_eq_nil_iff
abbrev gP:=@List.length_zipWith
abbrev gQ:=@List.flatMap_append
abbrev gS:=@List.append_cancel_right
abbrev hZ:=@Nat.add_mul
abbrev iA:=@List.getElem?_replicate
abbrev iH:=@List.mem_range
abbrev iI:=@List.getElem?_set_self
abbrev iJ:=@List.drop_left
end
namespace L2
open PySem PySem.Spec PyProof.Rows
inductive V where
 |non | bl (b:Bool) | int (i:Int) | str (x:Str) | byt (b:Array UInt8) | flt (b:UInt64) | ref (a:Addr) | ty (n:String)
 deriving DecidableEq
def aMw:Value->Option V
 | .none=>some .non
 | .bool b=>some (.bl b)
 | .int i _=>some (.int i)
 | .str x _=>some (.str x)
 | .bytes b _=>some (.byt b)
 | .float b _=>some (.flt b)
 | .ref a=>some (.ref a)
 | .type n=>some (.ty n)
 |_=>none
def dU(s:Stmt)(j:Nat):Stmt:=match s with
 | .ClassDef _ _ _ body _ _ _ _ _ _ _=>body.getD j (.Pass ⟨0,0,0,0⟩)
 |_=>.Pass ⟨0,0,0,0⟩
def lG(s:Stmt):Arguments:=match s with
 | .FunctionDef _ a _ _ _ _ _ _ _ _=>a
 |_=>{ posonlyargs:=[],args:=[],vararg:=none,kwonlyargs:=[],kw_defaults:=[],kwarg:=none,defaults:=[] }
def eG(s:Stmt):List Stmt:=match s with
 | .FunctionDef _ _ b _ _ _ _ _ _ _=>b
 |_=>[]
def aM(s:Stmt):Scope:=match s with
 | .FunctionDef _ _ _ _ _ _ sc _ _ _=>sc
 |_=>{ kind:=.function,names:=[],isGenerator:=false,isCoroutine:=false }
end L2
namespace L2
open PySem PySem.W PySem.Spec PyProof.Rows PySem.Calls
def aMu(h:Heap):Frag:=(List.range h.objs.size).filterMap λa=>(h.get? a).map λo=>(a,o)
noncomputable def onceSeen (tr:(String->Option Builtin)->Program->World->Nat->Option Value->Nat->Shared->Thread->Option Shared) (tb:String->Option Builtin) (im:List Stmt->List Str) {β:Type} (os:List Str->Shared->β) (p:Program) (N:Nat) {α:Type} (Yf:Frag->α) (w:World) (o:OsState):Option (Bool×β×α):=
 (tr tb p w 11 (some (.ref 6)) N ⟨boot_heap w.params,Array.mk [],boot_drawn,boot_toks,o⟩ (topStub p)).map fun s₁ =>
  (staticsOk (im p.main.body) (boot_heap w.params) s₁.heap&&namesBound p s₁.heap&&gensDone s₁&&laidKept (boot_heap w.params) s₁.heap,os (im p.main.body) s₁,Yf (aMu s₁.heap))
def fP(p:Program)(i:Nat):Stmt:=p.main.body.getD i (.Pass ⟨0,0,0,0⟩)
def fY(s:Stmt):Str:=match s with
 | .FunctionDef n ..=>n
 | .Assign [.Name n _] _ _=>n
 |_=>⟨#[]⟩
abbrev FO:=Option ((Str×Str×Arguments×FuncBody×Scope)×(Addr×List (Str×Addr)×Value×Addr)×Bool)
def uI(K:Frag)(n:Str):FO:=match nsIn K mainGlobals n with
 |some (some (.ref f))=>(match K.lookup f with
  |some ⟨_,_,.func fd,_⟩=>some ((fd.name,fd.qualname,fd.params,fd.body,fd.scope),(fd.globals,fd.closure,fd.defaults,fd.builtins),codeIn K fd.code n)
  |_=>none)
 |_=>none
def uX(s:Stmt):FO:=some ((fY s,fY s,lG s,.stmts (eG s),aM s),(mainGlobals,[],.none,builtinsNs),true)
def oZ(K:Frag)(n:Str):Bool:=match nsIn K mainGlobals n with
 |some none=>true
 |_=>false
def uH(K:Frag)(n:Str):Option V:=match nsIn K mainGlobals n with
 |some (some v)=>aMw v
 |_=>none
def aSe(K:Frag)(n:Str):Option (List (Option V)):=match nsIn K mainGlobals n with
 |some (some (.ref a))=>(match K.lookup a with
  |some ⟨.type "tuple",_,.seq xs _,_⟩=>some (xs.toList.map aMw)
  |_=>none)
 |_=>none
def bltNs:List Str:=[⟨#[105,115,105,110,115,116,97,110,99,101]⟩,⟨#[105,110,116]⟩,⟨#[98,111,111,108]⟩,⟨#[108,105,115,116]⟩,⟨#[108,101,110]⟩,⟨#[115,116,114]⟩,⟨#[116,117,112,108,101]⟩,⟨#[97,108,108]⟩,⟨#[100,105,99,116]⟩,⟨#[109,97,120]⟩,⟨#[109,105,110]⟩,⟨#[114,97,110,103,101]⟩,⟨#[122,105,112]⟩,⟨#[101,110,117,109,101,114,97,116,101]⟩,⟨#[115,111,114,116,101,100]⟩,⟨#[115,117,109]⟩,⟨#[114,101,118,101,114,115,101,100]⟩]
end L2
namespace Lf
open PySem L2
abbrev veM:List Value:=[.type "ValueError",.type "Exception",.type "BaseException",.type "object"]
end Lf
namespace PySem.W
open PySem PySem.Spec PySem.Calls PyProof.Rows
def excKit(K:Frag)(D:Addr):Bool:=(findIn K (.ref D) "__getattribute__" == some (some (.builtin "BaseException.__getattribute__")))&&(findIn K (.ref D) "__getattr__" == some none)&&(mroIn K D (.type "BaseException") == some true)&&(mroIn K D (.type "object") == some true) &&
 (findIn K (.ref D) "__class__" == some (some (.builtin "object.__class__")))&&(specialIn K (.builtin "object.__class__") "__get__" == some (some (.builtin "getset_descriptor.__get__")))&&(takesIn K (.builtin "object.__class__") == some true)
end PySem.W
namespace Lf
open PySem L2
open PySem.W (Frag nsIn)
def uK(K:Frag)(N:Addr)(n:Str):Bool:=match K.lookup N with
 |some ⟨_,_,.dict es _,_⟩=>es.toList.all (λe=>match e.key with | .str _ _=>true | _=>false)&&(es.toList.find? (·.key.isStr n)).isNone
 |_=>false
def fS(K:Frag):Nat->List Value->Bool
 |n+1,.ref A::r=>(match K.lookup A with
  |some ⟨_,_,.cls cd,_⟩=>uK K cd.ns "__init__" && fS K n r
  |_=>false)
 |_,l=>l == veM
def lY(K:Frag)(C:Addr):Bool:=match K.lookup C with
 |some ⟨.type "type",_,.cls cd,sl⟩=>(match cd.mro with
  | .ref C'::tl=>C' == C&&cd.hasDel == false&&sl.size == 6&&sl[4]? == some (some (.builtin "ValueError.__new__"))&&uK K cd.ns "__init__" && fS K 4 tl
  |_=>false)&&PySem.W.excKit K C
 |_=>false
def lH(K:Frag)(n:Str):Option Addr:=match nsIn K mainGlobals n with
 |some (some (.ref C))=>some C
 |_=>none
def t3(K:Frag)(C D:Addr):Bool:=match K.lookup C with
 |some ⟨_,_,.cls cd,_⟩=>cd.mro.contains (.ref D)
 |_=>false
def aSd(K:Frag)(ns:List Str):List (Bool×List (Option Bool×Bool)×Option Bool×Option Bool):=ns.map λn=>match lH K n with
 |some C=>(lY K C,ns.map (λm=>match lH K m with | some D=>(PySem.W.kitOne K (.ref C) (.ref D),t3 K C D) | none=>(none,false)),PySem.W.kitOne K (.ref C) (.type "ValueError"),PySem.W.kitOne K (.type "NoneType") (.ref C))
 |none=>(false,[],none,none)
abbrev OX:=Bool×List (Option Bool×Bool)×Option Bool×Option Bool
end Lf
namespace L2
open PySem PySem.Spec PySem.SeqAt PySem.AutoSeq1 PySem.MeetsSeq PyProof.Rows
def isNone:Value->Bool
 | .none=>true
 |_=>false
end L2
namespace L2
open PySem PySem.W PySem.Spec PyProof.Rows PySem.Calls
def mO(K:Frag)(C:Addr)(m q:Str):FO:=match findIn K (.ref C) m with
 |some (some (.ref f))=>(match K.lookup f with
  |some ⟨_,_,.func fd,_⟩=>some ((fd.name,fd.qualname,fd.params,fd.body,fd.scope),(fd.globals,fd.closure,fd.defaults,fd.builtins),codeIn K fd.code q)
  |_=>none)
 |_=>none
def i4(K:Frag)(C:Addr)(m:Str):Bool:=match findIn K (.ref C) m with
 |some (some v)=>isFn K v
 |_=>false
def fE(m q:Str)(s:Stmt):FO:=some ((m,q,lG s,.stmts (eG s),aM s),(mainGlobals,[],.none,builtinsNs),true)
abbrev OCl:=Option ((Bool×Bool×Bool×Option (Option Value)×Bool×Bool)×List FO×List Bool×List (Option (Option Value)))
def i5(K:Frag)(n:Str)(ms:List (Str×Str))(fs:List Str):OCl:=match nsIn K mainGlobals n with
 |some (some (.ref C))=>some ((plainGet K C Str.empty,hasDictIn K C,plainOver K C,findIn K (.ref C) "__setattr__",makesIn K C,keepIn K (.ref C)),ms.map (λp=>mO K C p.1 p.2),ms.map (λp=>i4 K C p.1),fs.map λf=>findIn K (.ref C) f)
 |_=>none
def m5(es:List FO)(ms:List (Str×Str))(fs:List Str):OCl:=some ((true,true,true,some (some (.builtin "object.__setattr__")),true,true),es,List.replicate ms.length true,List.replicate fs.length (some none))
end L2
namespace Lf
open PySem L2
theorem bCg:Nat.ble 1 PySem.Challenge.pw_laidfields_k47_texts_of_no_value.main.body.length=true:=by k_qdec
def aZs(s:Stmt):Option V:=match s with
 | .Assign _ (.Constant (.int i) _ _) _=>some (.int i)
 | .Assign _ (.Constant (.str x) _ _) _=>some (.str x)
 |_=>none
def bCh(e:Expr):Option V:=match e with
 | .Constant (.int i) _ _=>some (.int i)
 |_=>none
def bDg(s:Stmt):Option (List (Option V)):=match s with
 | .Assign _ (.Tuple es _ _) _=>some (es.map bCh)
 |_=>none
abbrev zF:Option Bool×Bool:=(some false,false)
def seenF(p:Program)(K:cZ):List FO×List Bool×List (Option V)×List (Option (List (Option V)))×List OX×List OCl:=([9,12,13,14,15,20,21,23,24,25,26,27,28,30,31,32,33,34,35,36,37,38,39,40,41,42,43,44,45,46,47,48,49,50,51,52].map λi=>uI K (fY (fP p i)),(bltNs++[(⟨#[86,97,108,117,101,69,114,114,111,114]⟩:Str)]).map (oZ K),[11,18,17,19].map λi=>uH K (fY (fP p i)),[].map λi=>aSe K (fY (fP p i)),aSd K AN,[i5 K "Reader" [("__init__","Reader.__init__"),("passes","Reader.passes"),("take","Reader.take"),("take_end","Reader.take_end"),("take_run","Reader.take_run"),("take_number","Reader.take_number")] ["place","text"]])
def seenV(p:Program):List FO×List Bool×List (Option V)×List (Option (List (Option V)))×List OX×List OCl:=([9,12,13,14,15,20,21,23,24,25,26,27,28,30,31,32,33,34,35,36,37,38,39,40,41,42,43,44,45,46,47,48,49,50,51,52].map λi=>uX (fP p i),List.replicate 18 true,[11,18,17,19].map λi=>aZs (fP p i),[].map λi=>bDg (fP p i),[(true,[(some true,true),zF,zF,zF,zF,zF,zF],some true,some false),(true,[(some true,true),(some true,true),zF,zF,zF,zF,zF],some true,some false),(true,[(some true,true),zF,(some true,true),zF,zF,zF,zF],some true,some false),(true,[(some true,true),zF,zF,(some true,true),zF,zF,zF],some true,some false),(true,[(some true,true),zF,zF,zF,(some true,true),zF,zF],some true,some false),(true,[(some true,true),zF,zF,zF,zF,(some true,true),zF],some true,some false),(true,[(some true,true),zF,zF,zF,zF,zF,(some true,true)],some true,some false)],[m5 [fE "__init__" "Reader.__init__" (dU (fP p 22) 0),fE "passes" "Reader.passes" (dU (fP p 22) 1),fE "take" "Reader.take" (dU (fP p 22) 2),fE "take_end" "Reader.take_end" (dU (fP p 22) 3),fE "take_run" "Reader.take_run" (dU (fP p 22) 4),fE "take_number" "Reader.take_number" (dU (fP p 22) 5)] [("__init__","Reader.__init__"),("passes","Reader.passes"),("take","Reader.take"),("take_end","Reader.take_end"),("take_run","Reader.take_run"),("take_number","Reader.take_number")] ["place","text"]])
theorem aEs:∀w:World,onceSeen PySem.W.topRun treeTable importedModules (λm s=>PySem.W.openSeen (PySem.W.view PySem.Challenge.pw_laidfields_k47_texts_of_no_value [1,2,3,4,5,6,7,9,11,12,13,14,15,17,18,19,20,21,22,23,24,25,26,27,28,30,31,32,33,34,35,36,37,38,39,40,41,42,43,44,45,46,47,48,49,50,51,52]) [] m (λs=>PySem.W.xlAt (PySem.W.view PySem.Challenge.pw_laidfields_k47_texts_of_no_value [1,2,3,4,5,6,7,9,11,12,13,14,15,17,18,19,20,21,22,23,24,25,26,27,28,30,31,32,33,34,35,36,37,38,39,40,41,42,43,44,45,46,47,48,49,50,51,52]) [] s&&PySem.W.recOk [] s) true s) PySem.Challenge.pw_laidfields_k47_texts_of_no_value 6152 (seenF PySem.Challenge.pw_laidfields_k47_texts_of_no_value) w=λ_=>some (true,PySem.W.openGood (PySem.W.view PySem.Challenge.pw_laidfields_k47_texts_of_no_value [1,2,3,4,5,6,7,9,11,12,13,14,15,17,18,19,20,21,22,23,24,25,26,27,28,30,31,32,33,34,35,36,37,38,39,40,41,42,43,44,45,46,47,48,49,50,51,52]) [],seenV PySem.Challenge.pw_laidfields_k47_texts_of_no_value):=by
 have _:=bCg
 rw[PySem.W.Fast.te7994494700734310081,PySem.W.Fast.te14082659384304107361,PySem.W.Fast.te14364793385576792824,PySem.W.Fast.te5923862056798008813,PySem.W.Fast.te4187177175401517315]
 exact λw=>by kernel_rfl
end Lf
namespace L2
open PySem PySem.Spec PyProof.Rows
abbrev Key:=Sum Int Str
def rM:Key->Value->Bool
 | .inl k,v=>Value.isInt k v
 | .inr x,v=>Value.isStrOf x v
def bCi(w:World):Key->Int
 | .inl k=>hashInt k
 | .inr x=>hashStr w x
theorem cg_:∀{k:Key} {v:Value},rM k v=true->(∃i t,k=Sum.inl i/\v=Value.int i t)\/(∃x t,k=Sum.inr x/\v=Value.str x t)
 | .inl i,v,h=>by
  obtain⟨t,e⟩:=Value.isInt_shape (k:=i) (v:=v) h
  exact .inl ⟨i,t,rfl,e⟩
 | .inr x,v,h=>by
  obtain⟨t,e⟩:=Value.isStrOf_shape (x:=x) (v:=v) h
  exact .inr ⟨x,t,rfl,e⟩
theorem x6(i:Int)(t:Tok):rM (.inl i) (.int i t)=true:=by simp[rM,Value.isInt]
theorem x5(x:Str)(t:Tok):rM (.inr x) (.str x t)=true:=by simp[rM,Value.isStrOf]
theorem aSs(a b:Int):decide ((Sum.inl a:Key)=Sum.inl b)=(a == b):=by
 by_cases e:a=b
 ·subst e;simp
 ·have h:¬ (Sum.inl a:Key)=Sum.inl b:=fun q=>e (Sum.inl.inj q)
  rw[dzF h]
  exact(beq_eq_false_iff_ne.mpr e).symm
theorem aSp(a b:Str):decide ((Sum.inr a:Key)=Sum.inr b)=decide (a=b):=by
 by_cases e:a=b
 ·subst e;simp
 ·have h:¬ (Sum.inr a:Key)=Sum.inr b:=fun q=>e (Sum.inr.inj q)
  rw[dzF h,dzF e]
theorem aSr(a:Int)(b:Str):decide ((Sum.inl a:Key)=Sum.inr b)=false:=dzF (λq=>nomatch q)
theorem aSq(a:Str)(b:Int):decide ((Sum.inr a:Key)=Sum.inl b)=false:=dzF (λq=>nomatch q)
def dZ(prog:Program)(w:World):PySem.KeyKind prog w Key where
 is:=rM
 hash:=bCi w
 inj:=λv a b ha hb=>by
  rcases cg_ ha with⟨i,t,rfl,rfl⟩ | ⟨x,t,rfl,rfl⟩
  ·rcases cg_ hb with ⟨j,u,rfl,e⟩ | ⟨y,u,rfl,e⟩
   ·injection e with e1 _;rw[e1]
   ·exact nomatch e
  ·rcases cg_ hb with ⟨j,u,rfl,e⟩ | ⟨y,u,rfl,e⟩
   ·exact nomatch e
   ·injection e with e1 _;rw[e1]
 byValue:=λk v h=>by
  rcases cg_ h with⟨i,t,rfl,rfl⟩ | ⟨x,t,rfl,rfl⟩<;>rfl
 pyHash:=λhv h=>by
  rcases cg_ hv with⟨i,t,rfl,rfl⟩ | ⟨x,t,rfl,rfl⟩
  ·exact wpAny_pyHash_int h
  ·exact wpAny_pyHash_str h
 eqBool:=λhu hv h=>by
  rcases cg_ hu with⟨i,t,rfl,rfl⟩ | ⟨x,t,rfl,rfl⟩
  ·rcases cg_ hv with ⟨j,u,rfl,rfl⟩ | ⟨y,u,rfl,rfl⟩
   ·rw[aSs]at h;exact wpAny_eqBool_int h
   ·rw[aSr]at h;exact SeqAt.EqAt.int_str i t y u _ _ _ _ h
  ·rcases cg_ hv with ⟨j,u,rfl,rfl⟩ | ⟨y,u,rfl,rfl⟩
   ·rw[aSq]at h;exact SeqAt.EqAt.str_int x t j u _ _ _ _ h
   ·rw[aSp]at h;exact wpAny_eqBool_str h
 «strs»:=λk x t v h=>by
  rcases cg_ h with⟨i,u,rfl,e⟩ | ⟨y,u,rfl,e⟩
  ·exact nomatch e
  ·injection e with e1 _
   subst e1
   cases v<;>rfl
theorem wO(prog:Program)(w:World)(i:Int)(t:Tok):(dZ prog w).is (.inl i) (.int i t)=true:=x6 i t
theorem wN(prog:Program)(w:World)(x:Str)(t:Tok):(dZ prog w).is (.inr x) (.str x t)=true:=x5 x t
def RelV:V->Value->Prop
 | .non,u=>u=Value.none
 | .bl b,u=>u=Value.bool b
 | .int i,u=>∃t,u=Value.int i t
 | .str x,u=>∃t,u=Value.str x t
 | .byt b,u=>∃t,u=Value.bytes b t
 | .flt b,u=>∃t,u=Value.float b t
 | .ref a,u=>u=Value.ref a
 | .ty n,u=>u=Value.type n
abbrev Vals:List V->List Value->Prop:=Paired RelV
theorem Vals.length{xs:List V}{us:List Value}(r:Vals xs us):xs.length=us.length:=Paired.length r
theorem Vals.get:∀{xs:List V} {us:List Value} {i:Nat} {x:V},Vals xs us->xs[i]? = some x->∃u,us[i]? = some u/\RelV x u
 |_,_,_,_,.nil,e=>by simp at e
 |_,_,0,_,.cons r _,e=>by simp at e;subst e;exact⟨_,rfl,r⟩
 |_,_,i+1,x,.cons _ t,e=>by
  obtain⟨u,h1,h2⟩:=Vals.get (i:=i) (x:=x) t (by simpa using e)
  exact⟨u,by simpa using h1,h2⟩
theorem Vals.set{x:V}{u:Value}(r:RelV x u):∀{xs:List V} {us:List Value} (i:Nat),Vals xs us->Vals (xs.set i x) (us.set i u)
 |_,_,_,.nil=>.nil
 |_,_,0,.cons _ t=>.cons r t
 |_,_,i+1,.cons q t=>.cons q (Vals.set r i t)
theorem Vals.append:∀{xs ys:List V} {us ws:List Value},Vals xs us->Vals ys ws->Vals (xs++ys) (us++ws)
 |_,_,_,_,.nil,s=>s
 |_,_,_,_,.cons r t,s=>.cons r (Vals.append t s)
theorem Vals.take:∀{xs:List V} {us:List Value} (n:Nat),Vals xs us->Vals (xs.take n) (us.take n)
 |_,_,0,_=>.nil
 |_,_,_+1,.nil=>.nil
 |_,_,n+1,.cons r t=>.cons r (Vals.take n t)
theorem Vals.drop:∀{xs:List V} {us:List Value} (n:Nat),Vals xs us->Vals (xs.drop n) (us.drop n)
 |_,_,0,r=>r
 |_,_,_+1,.nil=>.nil
 |_,_,n+1,.cons _ t=>Vals.drop n t
def RelO:Option V->Option Value->Prop
 |some v,some u=>RelV v u
 |none,none=>True
 |_,_=>False
def KV{κ:Type}:List (κ×V)->List (κ×Value)->Prop:=Paired λ(p:κ×V) (q:κ×Value)=>p.1=q.1/\RelV p.2 q.2
def kV:Key->V
 | .inl i=>.int i
 | .inr x=>.str x
inductive HO where
 /-- a list -/
 |lst (xs:List V)
 /-- a tuple (never changes) -/
 |tup (xs:List V)
 /-- a dict whose keys are ints and texts;one whose keys are tuples of ints and texts (the empty one is both) -/
 |dK (kvs:List (Key×V)) | dT (kvs:List (List Key×V))
 /-- a set of ints: its members,its size -/
 |set (S:Int->Bool) (n:Nat)
 /-- an instance of the class at C,its dict at dx,its attributes -/
 |ins (C dx:Addr) (fs:List (Str×V))
 /-- the dict of the instance at x -/
 |own (x:Addr)
 /-- the dict of an exception -/
 |xd (fs:List (Str×V))
 /-- a bound method,f of x -/
 |met (f x:Addr)
 /-- a range object lo,lo+1,.. below hi -/
 |rng (lo hi:Int)
 /-- a thing that is known to the object (the script;a dict while a loop walks it): read,never written while it is so -/
 |frz (o:Obj) (u:HO)
 /-- a code object's table -/
 |tbl (ps:Array Value)
 /-- any other thing,by what is true of its one object (a def of one's own: SetO a S n:=HO.ext λh=>..) -/
 |ext (φ:Heap->Prop)
abbrev Hp:=Addr->Option HO
def upd(H:Hp)(a:Addr)(o:HO):Hp:=λb=>if b=a then some o else H b
theorem bU{H:Hp}{a:Addr}{o:HO}:upd H a o a=some o:=by unfold upd;rw[if_pos rfl]
theorem dW{H:Hp}{a b:Addr}{o:HO}(h:b≠a):upd H a o b=H b:=by unfold upd;rw[if_neg h]
theorem aXw{H:Hp}{a b:Addr}{o u:HO}(h:H a=some o)(h':H b=some u)(d:o≠u):a≠b:=by
 intro e;subst e;rw[h]at h';exact d (ozI h')
theorem ca_{H:Hp}{a b:Addr}{o:HO}(h:H a=some o)(h':H b=none):a≠b:=by
 intro e;subst e;rw[h]at h';cases h'
section
variable(P:Program)(w:World)
def ObjOk(H:Hp)(h:Heap)(a:Addr):HO->Prop
 | .lst xs=>xs.length<=sizeLine/\∃(its:List Value) (n:Nat),Vals xs its/\h.get? a=some { cls:=.type "list",data:=.seq its.toArray n }
 | .tup xs=>xs.length<=sizeLine/\∃its:List Value,Vals xs its/\IsTup h a its.toArray
 | .dK kvs=>kvs.length<=sizeLine/\(a == sysModules)=false/\∃vs,KV kvs vs/\h.DictOf (dZ P w) a vs
 | .dT kvs => kvs.length ≤ sizeLine ∧ (a == sysModules) = false ∧ ∃ xs : List (List Key × Addr × Value),
   Paired (λ(p:List Key×V) (q:List Key×Addr×Value)=>p.1=q.1/\H q.2.1=some (.tup (p.1.map kV))/\RelV p.2 q.2.2) kvs xs /\
   ∃o es ep,h.get? a=some o/\o.ExactDict/\o.data=.dict es ep/\es.toList=xs.map (entryOfKey (tupleKind (dZ P w)))/\(xs.map (·.1)).Nodup
 | .set S n=>h.SetOf (intKind P w) a S n
 | .ins C dx fs => H dx = some (.own a) ∧ fs.length ≤ 1000 ∧ dx ≠ a ∧ h.get? a = some (PySem.W.instObj C dx) ∧
   ∃mA,h.Ns1 dx mA/\(∀f,RelO (fs.lookup f) (mA f))/\PySem.Within mA (fs.map (·.1))
 | .own _=>∃o,h.get? a=some o
 | .xd fs=>∃mA,h.Ns1 a mA/\∀f,RelO (fs.lookup f) (mA f)
 | .rng lo hi=>∃t u v,h.get? a=some { cls:=.type "range",data:=.fields #[.int lo t,.int hi u,.int 1 v] }
 | .frz o u=>h.get? a=some o/\ObjOk H h a u
 | .tbl ps=>h.get? a=some { cls:=.none,data:=.fields ps }
 | .met f x=>h.get? a=some (PySem.W.methodObj (.ref f) (.ref x))
 | .ext φ=>φ h/\(∃o,h.get? a=some o)/\∀h1 h2:Heap,φ h1->(∀o,h1.get? a=some o->h2.get? a=some o)->φ h2
def HOk(H:Hp)(h:Heap):Prop:=∀a o,H a=some o->ObjOk P w H h a o
end
section
variable{P:Program}{w:World}{H H':Hp}{h h':Heap}{a:Addr}{o:HO}
theorem ObjOk.lt(x:ObjOk P w H h a o):a<h.objs.size:=by
 cases o with
 |lst xs=>obtain⟨_,_,_,_,e⟩:=x;exact bK e
 |tup xs=>obtain⟨_,_,_,p⟩:=x;exact p.lt
 |dK kvs=>obtain⟨_,_,_,_,o,_,_,e,_⟩:=x;exact bK e
 |dT kvs=>obtain⟨_,_,_,_,o,_,_,e,_⟩:=x;exact bK e
 |set S n=>obtain⟨o,_,_,_,e,_⟩:=x;exact bK e
 |ins C dx fs=>obtain⟨_,_,_,e,_⟩:=x;exact bK e
 |own y=>obtain⟨_,e⟩:=x;exact bK e
 |xd fs=>obtain⟨_,⟨_,_,_,e,_⟩,_⟩:=x;exact bK e
 |rng lo hi=>obtain⟨_,_,_,e⟩:=x;exact bK e
 |frz ob u=>obtain⟨e,_⟩:=x;exact bK e
 |tbl ps=>exact bK (show h.get? a=some _ from x)
 |met f y=>exact bK (show h.get? a=some _ from x)
 |ext φ=>obtain⟨_,⟨_,e⟩,_⟩:=x;exact bK e
theorem Paired.mapP{α β:Type}{F G:α->β->Prop}:∀{l₁:List α} {l₂:List β},Paired F l₁ l₂->(∀a b,F a b->G a b)->Paired G l₁ l₂
 |_,_,.nil,_=>.nil
 |_,_,.cons r t,f=>.cons (f _ _ r) (Paired.mapP t f)
theorem ObjOk.stay(x:ObjOk P w H h a o)(k:∀b u,(b=a\/H b=some (.own a))->h.get? b=some u->h'.get? b=some u)
  (ho:∀b,H b=some (.own a)->H' b=some (.own a)) (ht:∀b xs,H b=some (.tup xs)->H' b=some (.tup xs)):ObjOk P w H' h' a o:=by
 induction o with
 |lst xs=>obtain⟨z,its,n,r,e⟩:=x;exact⟨z,its,n,r,k _ _ (.inl rfl) e⟩
 |tup xs=>obtain⟨z,its,r,ob,e,c⟩:=x;exact⟨z,its,r,ob,k _ _ (.inl rfl) e,c⟩
 |dK kvs=>obtain⟨z,y,vs,r,ob,es,ep,e,c⟩:=x;exact⟨z,y,vs,r,ob,es,ep,k _ _ (.inl rfl) e,c⟩
 |dT kvs =>
  obtain⟨z,y,xs,r,ob,es,ep,e,c⟩:=x
  exact⟨z,y,xs,Paired.mapP r λp q z=>⟨z.1,ht _ _ z.2.1,z.2.2⟩,ob,es,ep,k _ _ (.inl rfl) e,c⟩
 |set S n=>obtain⟨ob,es,ep,t,e,c⟩:=x;exact⟨ob,es,ep,t,k _ _ (.inl rfl) e,c⟩
 |ins C dx fs =>
  obtain⟨d,z,ne,e,mA,⟨od,es,ep,e2,c⟩,r⟩:=x
  exact⟨ho _ d,z,ne,k _ _ (.inl rfl) e,mA,⟨od,es,ep,k _ _ (.inr d) e2,c⟩,r⟩
 |own y=>obtain⟨ob,e⟩:=x;exact⟨ob,k _ _ (.inl rfl) e⟩
 |xd fs=>obtain⟨mA,⟨od,es,ep,e,c⟩,r⟩:=x;exact⟨mA,⟨od,es,ep,k _ _ (.inl rfl) e,c⟩,r⟩
 |rng lo hi=>obtain⟨t,u,v,e⟩:=x;exact⟨t,u,v,k _ _ (.inl rfl) e⟩
 |frz ob u ih=>obtain⟨e,q⟩:=x;exact⟨k _ _ (.inl rfl) e,ih q⟩
 |tbl ps =>
  have e:h.get? a=some { cls:=.none,data:=.fields ps }:=x
  show h'.get? a=some { cls:=.none,data:=.fields ps }
  exact k a _ (.inl rfl) e
 |met f y =>
  have e:h.get? a=some (PySem.W.methodObj (.ref f) (.ref y)):=x
  show h'.get? a=some (PySem.W.methodObj (.ref f) (.ref y))
  exact k a _ (.inl rfl) e
 |ext φ=>obtain⟨p,⟨o,e⟩,st⟩:=x;exact⟨st _ _ p λo q=>k _ _ (.inl rfl) q,⟨o,k _ _ (.inl rfl) e⟩,st⟩
theorem HOk.lt(x:HOk P w H h)(e:H a=some o):a<h.objs.size:=(x a o e).lt
theorem HOk.fresh(x:HOk P w H h)(e:h.objs.size<=a):H a=none:=by
 cases q:H a with
 |none=>rfl
 |some u=>exact absurd (bQ (x.lt q) e) (eK _)
theorem HOk.kept(x:HOk P w H h)(k:∀b u,h.get? b=some u->h'.get? b=some u):HOk P w H h':=λa o e =>
 (x a o e).stay (λb u _ q=>k b u q) (λ_ q=>q) λ_ _ q=>q
theorem HOk.laid(x:HOk P w H h)(k:∀b u,h.get? b=some u->h'.get? b=some u)(hp:h.objs.size<=a)(new:ObjOk P w (upd H a o) h' a o):HOk P w (upd H a o) h':=λb u e=>by
 have hn:=x.fresh hp
 by_cases hb:b=a
 ·subst hb;rw[bU]at e;cases e;exact new
 ·rw [dW hb] at e
  exact(x b u e).stay (λc v _ q=>k c v q) (λc q=>by rw[dW (ca_ q hn)];exact q) λc xs q=>by rw[dW (ca_ q hn)];exact q
end
def Rd(H:Hp)(a:Addr)(u:HO):Prop:=H a=some u\/∃o,H a=some (.frz o u)
theorem Rd.of{H:Hp}{a:Addr}{u:HO}(h:H a=some u):Rd H a u:=.inl h
theorem Rd.ok{P:Program}{w:World}{H:Hp}{h:Heap}{a:Addr}{u:HO}(r:Rd H a u)(x:HOk P w H h):ObjOk P w H h a u:=by
 rcases r with r | ⟨o,r⟩
 ·exact x a u r
 ·obtain ⟨_,q⟩:=x a _ r
  exact q
def Mut:Option HO->Prop
 |some (.lst _)=>True
 |some (.dK _)=>True
 |some (.dT _)=>True
 |some (.set _ _)=>True
 |some (.ins _ _ _)=>True
 |some (.ext _)=>True
 |_=>False
section
variable{P:Program}{w:World}{H:Hp}{h h':Heap}{x e:Addr}{o':HO}
theorem HOk.write(ok:HOk P w H h)(mu:Mut (H x))(he:e=x\/H e=some (.own x))(k:∀b u,b≠e->h.get? b=some u->h'.get? b=some u)(Ib:∃u,h'.get? e=some u)
  (new:ObjOk P w (upd H x o') h' x o'):HOk P w (upd H x o') h':=λb u q=>by
 have nown:∀c y,H c=some (.own y)->c≠x:=λc y r z=>by subst z;rw[r]at mu;exact mu
 have ntup:∀c xs,H c=some (.tup xs)->c≠x:=λc xs r z=>by subst z;rw[r]at mu;exact mu
 by_cases hb:b=x
 ·subst hb;rw[bU]at q;cases q;exact new
 ·rw [dW hb] at q
  by_cases Fi:b=e
  ·have q':H b=some (.own x):=by
    rcases he with z | z
    ·exact absurd (Fi.trans z) hb
    ·rw[Fi];exact z
   rw[q]at q';cases q'
   obtain⟨v,hv⟩:=Ib
   exact⟨v,by rw[Fi];exact hv⟩
  ·refine (ok b u q).stay (fun c v hc r=>k c v ?_ r) (fun c r=>by rw [dW (nown c b r)]; exact r) fun c xs r=>by rw [dW (ntup c xs r)]; exact r
   rcases hc with rfl | hc
   ·exact Fi
   ·rintro rfl
    rcases he with z | z
    ·exact nown c b hc z
    ·rw[hc]at z;cases z;exact hb rfl
end
structure Un(fs ex:List Addr)(H H':Hp)(h h':Heap):Prop where
 keep:∀b o,h.get? b=some o->H b=none->b∉fs->b∉ex->h'.get? b=some o
 slot:∀b o,h.get? b=some o->H b=none->b∈fs->b∉ex->∃sl,h'.get? b=some { o with slots:=sl }
 free:∀b o,h.get? b=some o->H b=none->b∉ex->H' b=none
 there:∀b o,h.get? b=some o->b∉ex->∃o',h'.get? b=some o'
 tups:∀b xs,H b=some (.tup xs)->H' b=some (.tup xs)
 frzs:∀b o u,H b=some (.frz o u)->H' b=some (.frz o u)
 tbls:∀b ps,H b=some (.tbl ps)->∃more,H' b=some (.tbl (ps++more))
section
variable{fs fs' ex ex':List Addr}{H H1 H2:Hp}{h h1 h2 h':Heap}{a x e:Addr}{o:HO}
theorem Un.any(u:Un fs ex H H1 h h1){b:Addr}{ob:Obj}(q:h.get? b=some ob)(n:H b=none)(hx:b∉ex):∃sl,h1.get? b=some { ob with slots:=sl }:=by
 by_cases hb:b∈fs
 ·exact u.slot b ob q n hb hx
 ·exact⟨ob.slots,u.keep b ob q n hb hx⟩
theorem Un.kept(k:∀b u,h.get? b=some u->h'.get? b=some u):Un fs ex H H h h':=
 ⟨λb ob q _ _ _=>k b ob q,λb ob q _ _ _=>⟨ob.slots,k b ob q⟩,λ_ _ _ n _=>n,λb ob q _=>⟨ob,k b ob q⟩,λ_ _ q=>q,λ_ _ _ q=>q,λ_ ps q=>⟨#[],by rw[q];simp⟩⟩
theorem Un.refl:Un fs ex H H h h:=Un.kept λ_ _ q=>q
theorem Un.laid(k:∀b u,h.get? b=some u->h'.get? b=some u)(hp:h.objs.size<=a)(hn:H a=none):Un fs ex H (upd H a o) h h' where
 keep:=λb u q _ _ _=>k b u q
 slot:=λb u q _ _ _=>⟨u.slots,k b u q⟩
 free:=λb u q n _=>by rw[dW (cH (bQ (bK q) hp))];exact n
 there:=λb u q _=>⟨u,k b u q⟩
 tups:=λb xs q=>by rw[dW (ca_ q hn)];exact q
 frzs:=λb u xs q=>by rw[dW (ca_ q hn)];exact q
 tbls:=λb ps q=>⟨#[],by rw[dW (ca_ q hn),q];simp⟩
theorem Un.write(mu:Mut (H x))(he:e=x\/H e=some (.own x))(k:∀b u,b≠e->h.get? b=some u->h'.get? b=some u)(Ib:∃u,h'.get? e=some u):Un fs ex H (upd H x o) h h':=by
 have hx:∀b,H b=none->b≠x:=λb n z=>by subst z;rw[n]at mu;exact mu
 have hb:∀b,H b=none->b≠e:=λb n z=>by
  subst z
  rcases he with r | r
  ·exact hx b n r
  ·rw[n]at r;cases r
 have hm:∀b u,H b=some u->¬Mut (some u)->b≠x:=λb u q nm z=>by subst z;rw[q]at mu;exact nm mu
 refine⟨λb u q n _ _=>k b u (hb b n) q,λb u q n _ _=>⟨u.slots,k b u (hb b n) q⟩,λb u q n _=>by rw[dW (hx b n)];exact n,λb u q _=>?_,
  λb xs q=>by rw[dW (hm b _ q λz=>z)];exact q,λb u xs q=>by rw[dW (hm b _ q λz=>z)];exact q,λb ps q=>⟨#[],by rw[dW (hm b _ q λz=>z),q];simp⟩⟩
 by_cases Fi:b=e
 ·subst Fi;exact Ib
 ·exact⟨u,k b u Fi q⟩
end
def trk(h:Heap)(H:Hp):List Addr:=(List.range h.objs.size).filter λa=>(H a).isSome
def uS(h:Heap)(H:Hp):Heap:=PySem.W.hideAll h (trk h H)
theorem z5(h:Heap)(H:Hp):(uS h H).objs.size=h.objs.size:=PySem.W.hideAll_size _ _
theorem aFv{h:Heap}{H:Hp}{b:Addr}{o:Obj}(e:h.get? b=some o)(n:H b=none):(uS h H).get? b=some o:=
 PySem.W.hideAll_get _ e λhm=>by
  have q:(H b).isSome=true:=(List.mem_filter.mp hm).2
  rw[n]at q;simp at q
theorem aKu{h:Heap}{H:Hp}{b:Addr}{o:Obj}(e:(uS h H).get? b=some o):h.get? b=some o/\H b=none:=by
 have e':h.get? b=some o:=PySem.W.of_hideAll (trk h H) e
 refine⟨e',?_⟩
 cases q:H b with
 |none=>rfl
 |some x =>
  have hm:b∈trk h H:=List.mem_filter.mpr ⟨iH.mpr (bK e'),by simp[q]⟩
  have z:(uS h H).get? b=none:=PySem.W.hideAll_none (trk h H) hm
  rw[z]at e;cases e
def aMs(g h:Heap)(L:Addr):List (Addr×Obj):=(List.range h.objs.size).filterMap λa=>if a=L\/(g.get? a).isSome=true then none else(h.get? a).map λo=>(a,o)
def rest(g h:Heap)(L d:Addr):List (Addr×Obj):=(aMs g h L).filter λp=>decide (p.1≠d)
structure Mod(K:cZ)(mg:kP)(base:Heap):Prop where
 kin:K.In base
 glob:base.Ns mainGlobals mg
 blt:∃mb,base.Ns builtinsNs mb/\∀x:Str,x ≠ "__name__" -> mb x=bootBuiltins x
 nolimit:base.NoLimit
structure Cx where
 prog:Program
 w:World
 K:PySem.W.Frag
 mg:Str->Option Value
 base:Heap
 A:Around
 N:List Str
 s₀:Shared
 H₀:Hp
 env:Env
 outer:List Env
 stack:List Env
 ex:List Addr
 fn:Str->Bool
 calm:Bool
 pn:List (Addr×Obj)
 xe:Value->Shared->Prop
def frs(l:List Env):List Addr:=l.filterMap (·.frame)
abbrev Cx.fs(X:Cx):List Addr:=frs X.outer
def Vis(sc:Scope)(x:Str):Prop:=sc.names.lookup x=some .local\/sc.names.lookup x=some .cell\/sc.names.lookup x=some .free
def Loc(sc:Scope)(x:Str):Prop:=sc.names.lookup x=some .local\/sc.names.lookup x=some .cell
def bDh(env:Env)(h:Heap)(m:kP)(x:Str)(u:Value):Prop:=
 (env.kindOf x=some .local/\m x=some u)\/((env.kindOf x=some .cell\/env.kindOf x=some .free)/\∃c,env.cells.lookup x=some c/\h.IsCell c (some u))
structure Cx.Ok(X:Cx):Prop where
 mod:Mod X.K X.mg X.base
 kind:X.env.scope.kind=.function
 glob:X.env.globals=mainGlobals
 blt:X.env.builtins=builtinsNs
 above:X.s₀.heap.objs.size<=X.env.locals
 inj:∀x y c,X.env.cells.lookup x=some c->X.env.cells.lookup y=some c->x=y
 has:∀x,(X.env.kindOf x=some .cell\/X.env.kindOf x=some .free)->∃c,X.env.cells.lookup x=some c
 cab:∀x c,X.fn x=true->X.env.cells.lookup x=some c->X.s₀.heap.objs.size<=c
 hd:X.calm=true->X.A.handled=none
 frames:X.A.frames=some X.stack
 stk:X.stack=X.outer\/(X.stack=X.env::X.outer/\X.env.frame=some X.env.locals)
 exf:∀b∈X.ex,b≠X.env.locals/\∀x c,X.env.cells.lookup x=some c->c≠b
 bs:∀b o,X.base.get? b=some o->X.s₀.heap.get? b=some o/\X.H₀ b=none
 bsz:X.base.objs.size<=X.s₀.heap.objs.size
 noex:∀b o,X.base.get? b=some o->b∉X.ex
 exfs:∀b∈X.ex,b∉X.fs
 funs:X.s₀.heap.FunFrames X.base X.outer
 frf:∀b∈X.fs,X.H₀ b=none
structure Inv(X:Cx)(Aa:eF)(σ:List (Option V))(H:Hp)(s:Shared):Prop where
 ok:X.Ok
 os:s.os=X.s₀.os
 bare:AllBare s.gens
 base:Un X.fs X.ex X.H₀ H X.s₀.heap s.heap
 loc:∃m,s.heap.Ns X.env.locals m/\∀(i:Nat) (x:Str) (v:V),X.N[i]? = some x->σ[i]? = some (some v)->Vis X.env.scope x->∃u,RelV v u/\bDh X.env s.heap m x u
 cell:∀x c,X.env.cells.lookup x=some c->∃v,s.heap.IsCell c v
 free:H X.env.locals=none
 freeC:∀x c,X.env.cells.lookup x=some c->H c=none
 pin:∀p∈X.pn++Aa,s.heap.get? p.1=some p.2/\H p.1=none/\p.1≠X.env.locals/\p.1∉X.fs/\∀v,p.2.data ≠ .cell v
 hok:HOk X.prog X.w H s.heap
 len:σ.length=X.N.length
section
variable{X:Cx}{Aa:eF}{σ:List (Option V)}{H H':Hp}{s:Shared}{h':Heap}
theorem Cx.Ok.nofr(ok:X.Ok){b:Addr}{o:Obj}(e:X.base.get? b=some o):b∉X.fs:=λhb=>by
 have:=(ok.funs.mem hb).1
 rw[e]at this;cases this
theorem Inv.bs(I:Inv X Aa σ H s):∀b o,X.base.get? b=some o->s.heap.get? b=some o/\H b=none:=λb o e =>
 ⟨I.base.keep b o (I.ok.bs b o e).1 (I.ok.bs b o e).2 (I.ok.nofr e) (I.ok.noex b o e),I.base.free b o (I.ok.bs b o e).1 (I.ok.bs b o e).2 (I.ok.noex b o e)⟩
theorem Inv.bk(I:Inv X Aa σ H s):∀b o,X.base.get? b=some o->s.heap.get? b=some o:=λb o e=>(I.bs b o e).1
theorem Inv.mod(I:Inv X Aa σ H s):Mod X.K X.mg X.base:=I.ok.mod
theorem Inv.kIn(I:Inv X Aa σ H s):X.K.In s.heap:=I.ok.mod.kin.keeps I.bk
theorem Inv.fr(I:Inv X Aa σ H s):∃m,Fr X.base X.env.locals s.heap m:=
 let ⟨m,hn,_⟩:=I.loc
 ⟨m,hn,I.bk,nzL I.ok.bsz I.ok.above⟩
theorem Inv.lt(I:Inv X Aa σ H s):X.env.locals<s.heap.objs.size:=let ⟨_,hn,_⟩:=I.loc;hn.lt
theorem Inv.sz(I:Inv X Aa σ H s):X.s₀.heap.objs.size<=s.heap.objs.size:=nzL I.ok.above (Nat.le_of_lt I.lt)
theorem Inv.nofs(I:Inv X Aa σ H s){a:Addr}(h:s.heap.objs.size<=a):a∉X.fs:=λhb=>by
 obtain⟨_,o,ho,_⟩:=I.ok.funs.mem hb
 exact absurd (bQ (bK ho) (nzL I.sz h)) (eK _)
theorem Inv.cne(I:Inv X Aa σ H s):∀x c,X.env.cells.lookup x=some c->c≠X.env.locals:=λx c e z=>by
 obtain⟨v,o,ho,hd⟩:=I.cell x c e
 obtain⟨m,⟨o',es,ep,Ff,Ju,_⟩,_⟩:=I.loc
 rw[z,Ff]at ho;cases ho;rw[Ju]at hd;cases hd
theorem Inv.funs(I:Inv X Aa σ H s):s.heap.FunFrames X.base X.outer:=by
 have all:∀(l:List Env),(∀b∈frs l,b∈X.fs)->X.s₀.heap.FunFrames X.base l->s.heap.FunFrames X.base l:=by
  intro l
  induction l with
  |nil=>intro _ _;trivial
  |cons env r ih =>
   intro hs hl
   obtain⟨hk,⟨L,o,hf,hn,ho,hd⟩,hr⟩:=hl
   have hL:L∈X.fs:=hs L (by unfold frs;rw[List.filterMap_cons,hf];exact aA)
   obtain⟨sl,e⟩:=I.base.slot L o ho (I.ok.frf L hL) hL λz=>I.ok.exfs L z hL
   exact⟨hk,⟨L,_,hf,hn,e,hd⟩,ih (λb hb=>hs b (by unfold frs;rw[List.filterMap_cons,hf];exact aC _ hb)) hr⟩
 exact all X.outer (λ_ hb=>hb) I.ok.funs
theorem Inv.stack(I:Inv X Aa σ H s):s.heap.FunFrames X.base X.stack:=by
 rcases I.ok.stk with e | ⟨e,hf⟩
 ·rw[e];exact I.funs
 ·rw [e]
  obtain⟨m,hn,_⟩:=I.loc
  refine .cons (by rw[I.ok.kind];decide) hf hn ?_ I.funs
  exact Heap.get?_none_of_le (nzL I.ok.bsz I.ok.above)
theorem Inv.stkSub(I:Inv X Aa σ H s):∀b∈frs X.stack,b∈X.env.locals::X.fs:=λb hb=>by
 rcases I.ok.stk with e | ⟨e,hf⟩
 ·rw[e]at hb;exact aC _ hb
 ·rw [e] at hb
  unfold frs at hb
  rw[List.filterMap_cons,hf]at hb
  exact hb
theorem Inv.stkFree(I:Inv X Aa σ H s):∀b∈frs X.stack,H b=none:=λb hb=>by
 rcases aF.mp (I.stkSub b hb)with e | hb
 ·rw[e];exact I.free
 ·obtain ⟨_,o,ho,_⟩:=I.ok.funs.mem hb
  exact I.base.free b o ho (I.ok.frf b hb) λz=>I.ok.exfs b z hb
theorem Inv.step{g':Array GenState}{t':Nat}{d':Drawn}{ch:List Addr}(I:Inv X Aa σ H s)
  (Ed:∀b∈ch,(b∈X.ex\/X.s₀.heap.objs.size<=b)/\b≠X.env.locals/\(∀x c,X.env.cells.lookup x=some c->c≠b)/\∀p∈X.pn++Aa,p.1≠b)
  (keep:∀b o,b≠X.env.locals->b∉X.fs->b∉ch->s.heap.get? b=some o->H b=none->h'.get? b=some o)
  (slot:∀b o,b≠X.env.locals->b∈X.fs->b∉ch->s.heap.get? b=some o->H b=none->∃sl,h'.get? b=some { o with slots:=sl }) (free:∀b o,b∉ch->s.heap.get? b=some o->H b=none->H' b=none)
  (there:∀b o,b∉ch->s.heap.get? b=some o->∃o',h'.get? b=some o')
  (tups:∀b xs,H b=some (.tup xs)->H' b=some (.tup xs)) (frzs:∀b o u,H b=some (.frz o u)->H' b=some (.frz o u)) (tbls:∀b ps,H b=some (.tbl ps)->∃more,H' b=some (.tbl (ps++more)))
  (ns:∀m,s.heap.Ns X.env.locals m->h'.Ns X.env.locals m) (hok:HOk X.prog X.w H' h') (hg:AllBare g') :
  Inv X Aa σ H' { s with heap:=h',gens:=g',drawn:=d',toks:=t' }:=by
 have neL:∀b o,X.s₀.heap.get? b=some o->b≠X.env.locals:=λb o e=>cH (bQ (bK e) I.ok.above)
 have neC:∀b o,X.s₀.heap.get? b=some o->b∉X.ex->b∉ch:=λb o e hx hb=>by
  rcases(Ed b hb).1 with z | z
  ·exact hx z
  ·exact absurd (bQ (bK e) z) (eK _)
 have cellK:∀x c,X.env.cells.lookup x=some c->∀v,s.heap.IsCell c v->h'.IsCell c v:=λx c e v ⟨o,ho,hd⟩=>by
  have nch:c∉ch:=λz=>(Ed c z).2.2.1 x c e rfl
  by_cases hc:c∈X.fs
  ·obtain ⟨sl,q⟩:=slot c o (I.cne x c e) hc nch ho (I.freeC x c e)
   exact⟨_,q,hd⟩
  ·exact⟨o,keep c o (I.cne x c e) hc nch ho (I.freeC x c e),hd⟩
 refine⟨I.ok,I.os,hg,⟨λb o e n hb hx=>?_,λb o e n hb hx=>?_,λb o e n hx=>?_,λb o e hx=>?_,λb xs e=>tups b xs (I.base.tups b xs e),λb o xs e=>frzs b o xs (I.base.frzs b o xs e),λb ps e=>?_⟩,?_,λx c e=>?_,?_,λx c e=>?_,λp hp=>?_,hok,I.len⟩
 ·exact keep b o (neL b o e) hb (neC b o e hx) (I.base.keep b o e n hb hx) (I.base.free b o e n hx)
 ·obtain ⟨sl,e1⟩:=I.base.slot b o e n hb hx
  obtain⟨sl',e2⟩:=slot b _ (neL b o e) hb (neC b o e hx) e1 (I.base.free b o e n hx)
  exact⟨sl',e2⟩
 ·obtain ⟨o',e1⟩:=I.base.there b o e hx
  exact free b o' (neC b o e hx) e1 (I.base.free b o e n hx)
 ·obtain ⟨o',e1⟩:=I.base.there b o e hx
  exact there b o' (neC b o e hx) e1
 ·obtain ⟨m1,e1⟩:=I.base.tbls b ps e
  obtain⟨m2,e2⟩:=tbls b _ e1
  exact⟨m1++m2,by rw[e2,Array.append_assoc]⟩
 ·obtain ⟨m,hn,hl⟩:=I.loc
  refine⟨m,ns m hn,λi x v e1 e2 e3=>?_⟩
  obtain⟨u,r,l⟩:=hl i x v e1 e2 e3
  refine⟨u,r,?_⟩
  rcases l with l | ⟨k,c,e,z⟩
  ·exact .inl l
  ·exact .inr ⟨k,c,e,cellK x c e _ z⟩
 ·obtain ⟨v,z⟩:=I.cell x c e
  exact⟨v,cellK x c e v z⟩
 ·obtain ⟨m,⟨o,_,_,ho,_⟩,_⟩:=I.loc
  exact free _ o (λz=>(Ed _ z).2.1 rfl) ho I.free
 ·obtain ⟨v,o,ho,hd⟩:=I.cell x c e
  exact free c o (λz=>(Ed c z).2.2.1 x c e rfl) ho (I.freeC x c e)
 ·obtain ⟨e,n,ne,nf,d⟩:=I.pin p hp
  have nch:p.1∉ch:=λz=>(Ed p.1 z).2.2.2 p hp rfl
  exact⟨keep p.1 p.2 ne nf nch e n,free p.1 p.2 nch e n,ne,nf,d⟩
theorem Inv.un{t':Nat}(I:Inv X Aa σ H s)(u:Un X.fs [] H H' s.heap h')(hok:HOk X.prog X.w H' h'):Inv X Aa σ H' { s with heap:=h',toks:=t' }:=by
 obtain⟨m,⟨o,es,ep,ho,r⟩,_⟩:=id I.loc
 obtain⟨sl,hL⟩:=u.any ho I.free (by simp)
 exact I.step (g':=s.gens) (d':=s.drawn) (ch:=[]) (λ_ z=>nomatch z) (λb o _ hb _ e n=>u.keep b o e n hb (by simp)) (λb o _ hb _ e n=>u.slot b o e n hb (by simp)) (λb o _ e n=>u.free b o e n (by simp)) (λb o _ e=>u.there b o e (by simp)) u.tups u.frzs u.tbls (λm' hm=>by
  obtain⟨o',es',ep',Ff,r'⟩:=hm
  rw[ho]at Ff;cases Ff
  exact⟨_,es',ep',hL,r'⟩) hok I.bare
theorem Inv.call{g':Array GenState}{t':Nat}{d':Drawn}{ch:List Addr}(I:Inv X Aa σ H s)(u:Un (frs X.stack) ch H H' s.heap h')(hok:HOk X.prog X.w H' h')(hg:AllBare g')
  (Ed:∀b∈ch,(b∈X.ex\/X.s₀.heap.objs.size<=b)/\b≠X.env.locals/\(∀x c,X.env.cells.lookup x=some c->c≠b)/\∀p∈X.pn++Aa,p.1≠b) :
  Inv X Aa σ H' { s with heap:=h',gens:=g',drawn:=d',toks:=t' }:=by
 obtain⟨m,⟨o,es,ep,ho,r⟩,_⟩:=id I.loc
 obtain⟨sl,hL⟩:=u.any ho I.free λz=>(Ed _ z).2.1 rfl
 exact I.step (ch:=ch) Ed (λb o hL hb hc e n=>u.keep b o e n (λz=>(aF.mp (I.stkSub b z)).elim hL hb) hc) (λb o _ _ hc e n=>u.any e n hc) (λb o hc e n=>u.free b o e n hc) (λb o hc e=>u.there b o e hc) u.tups u.frzs u.tbls (λm' hm=>by
  obtain⟨o',es',ep',Ff,r'⟩:=hm
  rw[ho]at Ff;cases Ff
  exact⟨_,es',ep',hL,r'⟩) hok hg
theorem Inv.turned{t':Nat}{it:Addr}(I:Inv X Aa σ H s)(k:∀b o,b≠it->s.heap.get? b=some o->h'.get? b=some o)(hn:H it=none)(hL:it≠X.env.locals)
  (h1:it∈X.ex\/X.s₀.heap.objs.size<=it) (h2:∀x c,X.env.cells.lookup x=some c->c≠it) (h3:∀p∈X.pn++Aa,p.1≠it):Inv X Aa σ H { s with heap:=h',toks:=t' }:=by
 have nit:∀b u,H b=some u->b≠it:=λb u e z=>by rw[z,hn]at e;cases e
 refine I.step (g':=s.gens) (d':=s.drawn) (ch:=[it]) (λb hb=>?_) (λb o _ _ hc e _=>k b o (λz=>hc (by simp[z])) e) (λb o _ _ hc e _=>⟨o.slots,k b o (λz=>hc (by simp[z])) e⟩) (λ_ _ _ _ n=>n)
  (λb o hc e=>⟨o,k b o (λz=>hc (by simp[z])) e⟩) (λ_ _ e=>e) (λ_ _ _ e=>e) (λb ps e=>⟨#[],by rw[e];simp⟩) (λm hm=>?_) (λb u e=>?_) I.bare
 ·have e:b=it:=by simpa using hb
  subst e
  exact⟨h1,hL,h2,h3⟩
 ·obtain ⟨o,es,ep,ho,r⟩:=hm
  exact⟨o,es,ep,k _ o (Ne.symm hL) ho,r⟩
 ·refine (I.hok b u e).stay (fun c v hc q=>k c v ?_ q) (fun _ q=>q) fun _ _ q=>q
  rcases hc with z | z
  ·rw[z];exact nit b u e
  ·exact nit c _ z
theorem Inv.tok(I:Inv X Aa σ H s)(t:Nat):Inv X Aa σ H { s with toks:=t }:=I.un (h':=s.heap) (t':=t) Un.refl I.hok
theorem Inv.kept{t':Nat}(I:Inv X Aa σ H s)(k:∀b u,s.heap.get? b=some u->h'.get? b=some u):Inv X Aa σ H { s with heap:=h',toks:=t' }:=I.un (Un.kept k) (I.hok.kept k)
theorem Inv.laid{a:Addr}{o:HO}{t':Nat}(I:Inv X Aa σ H s)(k:∀b u,s.heap.get? b=some u->h'.get? b=some u)(hp:s.heap.objs.size<=a)(new:ObjOk X.prog X.w (upd H a o) h' a o) :
  Inv X Aa σ (upd H a o) { s with heap:=h',toks:=t' }:=I.un (Un.laid k hp (I.hok.fresh hp)) (I.hok.laid k hp new)
theorem Inv.write{x e:Addr}{o:HO}{t':Nat}(I:Inv X Aa σ H s)(mu:Mut (H x))(he:e=x\/H e=some (.own x))(k:∀b u,b≠e->s.heap.get? b=some u->h'.get? b=some u)(Ib:∃u,h'.get? e=some u)
  (new:ObjOk X.prog X.w (upd H x o) h' x o):Inv X Aa σ (upd H x o) { s with heap:=h',toks:=t' }:=I.un (Un.write mu he k Ib) (I.hok.write mu he k Ib new)
theorem Inv.weak{σ':List (Option V)}(I:Inv X Aa σ H s)(hl:σ'.length=σ.length)(w:∀(i:Nat) v,σ'[i]? = some (some v)->σ[i]? = some (some v)):Inv X Aa σ' H s:=
 ⟨I.ok,I.os,I.bare,I.base,let ⟨m,hn,Fg⟩:=I.loc;⟨m,hn,λi x v e1 e2 e3=>Fg i x v e1 (w i v e2) e3⟩,I.cell,I.free,I.freeC,I.pin,I.hok,hl.trans I.len⟩
theorem Inv.pins_of{pins':eF}(I:Inv X Aa σ H s)(h:∀p∈pins',s.heap.get? p.1=some p.2/\H p.1=none/\p.1≠X.env.locals/\p.1∉X.fs/\∀v,p.2.data ≠ .cell v):Inv X pins' σ H s:=
 ⟨I.ok,I.os,I.bare,I.base,I.loc,I.cell,I.free,I.freeC,λp hp=>(bF.mp hp).elim (λz=>I.pin p (aK _ z)) (h p),I.hok,I.len⟩
theorem pA{N:List Str}(hN:N.Nodup){i j:Nat}{x:Str}(a:N[i]? = some x)(b:N[j]? = some x):i=j:=by
 obtain⟨h1,e1⟩:=aY.mp a
 obtain⟨h2,e2⟩:=aY.mp b
 exact(List.getElem_inj hN).mp (e1.trans e2.symm)
theorem it_{M:Model}{A:Around}{E:gG}{i:Nat}{x:Str}{v:V}{u:Value}{Q:Unit->Shared->Prop}(I:Inv X Aa σ H s)(hN:X.N.Nodup)(hi:X.N[i]? = some x)(hx:Loc X.env.scope x)(r:RelV v u)
  (h:∀s',Inv X Aa (σ.set i (some v)) H s'->(∃a,Heap.SameBut a s.heap s'.heap/\(a=X.env.locals\/X.env.cells.lookup x=some a))->Q () s') (hf:X.fn x=true\/X.env.scope.names.lookup x=some .local:=by first | exact .inl rfl | exact .inr rfl | assumption):wpAny M A (storeName X.env x u) Q E s:=by
 obtain⟨m,hn,hl⟩:=id I.loc
 have D6:(X.env.scope.kind == .class||(X.env.scope.kind == .module&&X.env.locals != X.env.globals))=false:=by rw[I.ok.kind];rfl
 have hiσ:i<σ.length:=by rw[I.len];exact(aY.mp hi).1
 have cne:=I.cne
 have tracked:∀{a:Addr} {h':Heap},(∃o,s.heap.get? a=some o/\H a=none)->Heap.SameBut a s.heap h'->HOk X.prog X.w H h':=λ{a h'} ha hs b ob e=>by
  obtain⟨_,_,Gy⟩:=ha
  refine(I.hok b ob e).stay (λc w' hc q=>(hs.2 c ?_).trans q) (λ_ q=>q) λ_ _ q=>q
  rintro rfl
  rcases hc with rfl | hc
  ·rw[Gy]at e;cases e
  ·rw[Gy]at hc;cases hc
 rcases hx with hk | hk
 ·refine wpAny_storeName_local hk hn (fun h' Dc hs => ?_) D6
  obtain⟨oL,_,_,Nj,_⟩:=id hn
  refine h _ ⟨I.ok,I.os,I.bare,⟨λb o e n hb hx=>?_,λb o e n hb hx=>?_,I.base.free,λb o e hx=>?_,I.base.tups,I.base.frzs,I.base.tbls⟩,⟨_,Dc,λj y v' e1 e2 e3=>?_⟩,λy c e=>?_,I.free,I.freeC,λp hp=>?_,tracked ⟨oL,Nj,I.free⟩ hs,by simpa using I.len⟩ ⟨_,hs,.inl rfl⟩
  ·exact(hs.2 b (cH (bQ (bK e) I.ok.above))).trans (I.base.keep b o e n hb hx)
  ·obtain ⟨sl,e1⟩:=I.base.slot b o e n hb hx
   exact⟨sl,(hs.2 b (cH (bQ (bK e) I.ok.above))).trans e1⟩
  ·obtain ⟨o',e1⟩:=I.base.there b o e hx
   exact⟨o',(hs.2 b (cH (bQ (bK e) I.ok.above))).trans e1⟩
  ·by_cases hj:j=i
   ·subst hj
    rw[hi]at e1;cases e1
    rw[iI hiσ]at e2
    cases e2
    exact⟨u,r,.inl ⟨hk,by simp⟩⟩
   ·rw [dD (Ne.symm hj)] at e2
    obtain⟨u',r',q⟩:=hl j y v' e1 e2 e3
    refine⟨u',r',?_⟩
    rcases q with⟨k,e⟩ | ⟨k,c,e,z⟩
    ·refine .inl ⟨k,?_⟩
     have:y≠x:=λe=>hj (pA hN e1 (e ▸ hi))
     simp[this,e]
    ·exact .inr ⟨k,c,e,z.sameBut hs (cne y c e)⟩
  ·obtain ⟨w',z⟩:=I.cell y c e
   exact⟨w',z.sameBut hs (cne y c e)⟩
  ·obtain ⟨e,n,ne,nf,d⟩:=I.pin p hp
   exact⟨(hs.2 p.1 ne).trans e,n,ne,nf,d⟩
 ·have Ly:X.fn x=true:=by
   rcases hf with z | z
   ·exact z
   ·rw[z]at hk;cases hk
  obtain⟨c,hc⟩:=I.ok.has x (.inl hk)
  obtain⟨w',z⟩:=I.cell x c hc
  refine wpAny_storeName_cell I.ok.kind hk hc z (λh' Jw hs=>?_)
  obtain⟨oc,F8,Ld⟩:=id z
  refine h { s with heap:=h' } ⟨I.ok,I.os,I.bare,⟨λb o e n hb hx=>?_,λb o e n hb hx=>?_,I.base.free,λb o e hx=>?_,I.base.tups,I.base.frzs,I.base.tbls⟩,⟨m,hn.sameBut hs (Ne.symm (cne x c hc)),λj y v' e1 e2 e3=>?_⟩,λy c' e=>?_,I.free,I.freeC,λp hp=>?_,tracked ⟨oc,F8,I.freeC x c hc⟩ hs,by simpa using I.len⟩ ⟨c,hs,.inr hc⟩
  ·exact(hs.2 b (cH (bQ (bK e) (I.ok.cab x c Ly hc)))).trans (I.base.keep b o e n hb hx)
  ·obtain ⟨sl,e1⟩:=I.base.slot b o e n hb hx
   exact⟨sl,(hs.2 b (cH (bQ (bK e) (I.ok.cab x c Ly hc)))).trans e1⟩
  ·obtain ⟨o',e1⟩:=I.base.there b o e hx
   exact⟨o',(hs.2 b (cH (bQ (bK e) (I.ok.cab x c Ly hc)))).trans e1⟩
  ·by_cases hj:j=i
   ·subst hj
    rw[hi]at e1;cases e1
    rw[iI hiσ]at e2
    cases e2
    exact⟨u,r,.inr ⟨.inl hk,c,hc,Jw⟩⟩
   ·rw [dD (Ne.symm hj)] at e2
    obtain⟨u',r',q⟩:=hl j y v' e1 e2 e3
    refine⟨u',r',?_⟩
    rcases q with q | ⟨k,c',e,z'⟩
    ·exact .inl q
    ·refine .inr ⟨k,c',e,z'.sameBut hs ?_⟩
     rintro rfl
     exact hj (pA hN e1 (I.ok.inj _ _ _ e hc ▸ hi))
  ·by_cases Jv:c'=c
   ·subst Jv;exact⟨_,Jw⟩
   ·obtain ⟨w2,z2⟩:=I.cell y c' e
    exact⟨w2,z2.sameBut hs Jv⟩
  ·obtain ⟨e,n,ne,nf,d⟩:=I.pin p hp
   refine⟨(hs.2 p.1 ?_).trans e,n,ne,nf,d⟩
   intro q
   rw[q,F8]at e
   have q':oc=p.2:=ozI e
   exact d w' (by rw[<-q'];exact Ld)
theorem wA{M:Model}{A:Around}{E:gG}{i:Nat}{x:Str}{v:V}{u:Value}{Q:Unit->Shared->Prop}(I:Inv X Aa σ H s)(hN:X.N.Nodup)(hi:X.N[i]? = some x)(hx:Loc X.env.scope x)(r:RelV v u)
  (h:∀s',Inv X Aa (σ.set i (some v)) H s'->Q () s') (hf:X.fn x=true\/X.env.scope.names.lookup x=some .local:=by first | exact .inl rfl | exact .inr rfl | assumption):wpAny M A (storeName X.env x u) Q E s:=
 it_ I hN hi hx r (λs' I' _=>h s' I') hf
theorem Inv.call'{s':Shared}{ch:List Addr}(I:Inv X Aa σ H s)(ho:s'.os=s.os)(u:Un (frs X.stack) ch H H' s.heap s'.heap)(hok:HOk X.prog X.w H' s'.heap)(hg:AllBare s'.gens)
  (Ed:∀b∈ch,(b∈X.ex\/X.s₀.heap.objs.size<=b)/\b≠X.env.locals/\(∀x c,X.env.cells.lookup x=some c->c≠b)/\∀p∈X.pn++Aa,p.1≠b):Inv X Aa σ H' s':=by
 obtain⟨h',g',d',t',o'⟩:=s'
 have e:o'=s.os:=ho
 subst e
 exact I.call (g':=g') (t':=t') (d':=d') u hok hg Ed
end
abbrev XK:=Value->Option Addr->Hp->Prop
abbrev St:=List (Option V)
abbrev VK:=V->Hp->Prop
abbrev TE:=St->Hp->VK->Prop
abbrev TT:=St->Hp->(Bool->Hp->Prop)->Prop
abbrev TA:=St->Hp->(List V->Hp->Prop)->Prop
structure Ends where
 nx:St->Hp->Prop
 rt:VK
 bk:St->Hp->Prop:=λ_ _=>False
 ct:St->Hp->Prop:=λ_ _=>False
abbrev TS:=Ends->St->Hp->Prop
def EP(X:Cx)(Aa:eF)(σ:St)(Q:VK)(u:Value)(s':Shared):Prop:=∃v H',Inv X Aa σ H' s'/\RelV v u/\Q v H'
def TP(X:Cx)(Aa:eF)(σ:St)(Q:Bool->Hp->Prop)(b:Bool)(s':Shared):Prop:=∃H',Inv X Aa σ H' s'/\Q b H'
def AP(X:Cx)(Aa:eF)(σ:St)(Q:List V->Hp->Prop)(us:List Value)(s':Shared):Prop:=∃vs H',Inv X Aa σ H' s'/\Vals vs us/\Q vs H'
def SP(X:Cx)(Aa:eF)(D:Ends)(f:Flow)(s':Shared):Prop:=
 match f with
 | .next=>∃σ' H',Inv X Aa σ' H' s'/\D.nx σ' H'
 | .brk=>∃σ' H',Inv X Aa σ' H' s'/\D.bk σ' H'
 | .cont=>∃σ' H',Inv X Aa σ' H' s'/\D.ct σ' H'
 | .ret u=>∃v σ' H',Inv X Aa σ' H' s'/\RelV v u/\D.rt v H'
def PE(X:Cx)(e:Expr)(t:TE):Prop:=
 ∀(Aa:eF) (s:Shared) (σ:St) (H:Hp) (Q:VK),Inv X Aa σ H s->t σ H Q->wpAny (model X.prog X.w) X.A (eval e X.env) (EP X Aa σ Q) X.xe s
def PT(X:Cx)(e:Expr)(t:TT):Prop:=
 ∀(Aa:eF) (s:Shared) (σ:St) (H:Hp) (Q:Bool->Hp->Prop),Inv X Aa σ H s->t σ H Q->wpAny (model X.prog X.w) X.A (isTrue e X.env (eval e X.env)) (TP X Aa σ Q) X.xe s
def PW(X:Cx)(e:Expr)(t:TT):Prop:=
 ∀(whole:Sem Value) (Aa:eF) (s:Shared) (σ:St) (H:Hp) (Q:Bool->Hp->Prop),Inv X Aa σ H s->t σ H Q->wpAny (model X.prog X.w) X.A (isTrue e X.env whole) (TP X Aa σ Q) X.xe s
theorem PW.pt{X:Cx}{e:Expr}{t:TT}(h:PW X e t):PT X e t:=h _
def PA(X:Cx)(es:List Expr)(t:TA):Prop:=
 ∀(pos:Pos) (Aa:eF) (s:Shared) (σ:St) (H:Hp) (Q:List V->Hp->Prop),Inv X Aa σ H s->t σ H Q->wpAny (model X.prog X.w) X.A (spliced (backTo pos (starEach es X.env))) (AP X Aa σ Q) X.xe s
def PS(X:Cx)(st:Stmt)(t:TS):Prop:=
 ∀(Aa:eF) (s:Shared) (σ:St) (H:Hp) (D:Ends),Inv X Aa σ H s->t D σ H->wpAny (model X.prog X.w) X.A (exec st X.env) (SP X Aa D) X.xe s
def PSs(X:Cx)(st:List Stmt)(t:TS):Prop:=
 ∀(Aa:eF) (s:Shared) (σ:St) (H:Hp) (D:Ends),Inv X Aa σ H s->t D σ H->wpAny (model X.prog X.w) X.A (execs st X.env) (SP X Aa D) X.xe s
theorem dQ{α:Type}{t:Sem α}{Q Q':α->Shared->Prop}{M:Model}{A:Around}{E:gG}{s:Shared}(h:wpAny M A t Q E s)(hQ:∀a s,Q a s->Q' a s):wpAny M A t Q' E s:=wpAny_mono h hQ λ_ _ x=>x
section
variable{X:Cx}
def fN(i:Nat):TE:=λσ H Q=>∃v,σ[i]? = some (some v)/\Q v H
def tC(v:V):TE:=λ_ H Q=>Q v H
theorem aQy{i:Nat}{x:Str}{pos:Pos}(hN:X.N[i]? = some x)(hv:Vis X.env.scope x)(hd:(x == ("__debug__" : Str))=false:=by decide)(D7:(x == ("__classdict__" : Str))=false:=by decide):PE X (.Name x pos) (fN i):=by
 intro Aa s σ H Q I h
 obtain⟨v,e,h⟩:=h
 obtain⟨m,hn,hl⟩:=I.loc
 obtain⟨u,r,l⟩:=hl i x v hN e hv
 have At:EP X Aa σ Q u s:=⟨v,H,I,r,h⟩
 rcases l with⟨hk,hm⟩ | ⟨hk,c,hc,G0⟩
 ·exact wpAny_Name (wpAny_loadName_local I.ok.kind hk hn hm At) hd
 ·rcases hk with hk | hk
  ·exact wpAny_Name (wpAny_loadName_cell I.ok.kind hk hc G0 At) hd
  ·exact wpAny_Name (wpAny_loadName_free I.ok.kind hk hc G0 At D7) hd
theorem yY{i j pos}:PE X (.Constant (.int i) j pos) (tC (.int i)):=λ_ _ _ H _ I h=>wpAny_Constant_int ⟨.int i,H,I.tok _,⟨_,rfl⟩,h⟩
theorem aXn{b j pos}:PE X (.Constant (.bool b) j pos) (tC (.bl b)):=λ_ _ _ H _ I h=>Constant_bool ⟨.bl b,H,I,rfl,h⟩
theorem aEb{j pos}:PE X (.Constant .none j pos) (tC .non):=λ_ _ _ H _ I h=>Constant_none ⟨.non,H,I,rfl,h⟩
theorem tY{x j pos}:PE X (.Constant (.str x) j pos) (tC (.str x)):=λ_ _ _ H _ I h=>Calls.Constant_str ⟨.str x,H,I.tok _,⟨_,rfl⟩,h⟩
def Gl(X:Cx)(x:Str):Prop:=X.env.kindOf x=some .globalImplicit
theorem hm_{E:gG}{Aa:eF}{s:Shared}{σ:St}{H:Hp}{x:Str}{u:Value}{pos:Pos}{Q:gG}(I:Inv X Aa σ H s)(hg:Gl X x)(hm:X.mg x=some u)(h:Q u s)
  (hd:(x == ("__debug__" : Str))=false:=by decide):wpAny (model X.prog X.w) X.A (eval (.Name x pos) X.env) Q E s:=
 Calls.Name_function_global I.ok.kind hg (Calls.loadGlobal_global (by rw[I.ok.glob];exact I.mod.glob.keeps I.bk) hm h) hd
theorem uN{E:gG}{Aa:eF}{s:Shared}{σ:St}{H:Hp}{x:Str}{u:Value}{pos:Pos}{Q:gG}(I:Inv X Aa σ H s)(hg:Gl X x)(hm:X.mg x=none)(hv:bootBuiltins x=some u)(h:Q u s)
  (hn:x ≠ "__name__":=by decide) (hd:(x == ("__debug__" : Str))=false:=by decide):wpAny (model X.prog X.w) X.A (eval (.Name x pos) X.env) Q E s:=by
 obtain⟨mb,h1,h2⟩:=I.mod.blt
 exact Calls.Name_function_global I.ok.kind hg (Calls.loadGlobal_builtin (by rw[I.ok.glob];exact I.mod.glob.keeps I.bk) hm (by rw[I.ok.blt];exact h1.keeps I.bk) ((h2 x hn).trans hv) h) hd
theorem fu_{x:Str}{v:V}{u:Value}{pos:Pos}(hg:Gl X x)(hm:X.mg x=some u)(r:RelV v u)(hd:(x == ("__debug__" : Str))=false:=by decide):PE X (.Name x pos) (tC v):=
 λ_ _ _ H _ I h=>hm_ I hg hm ⟨v,H,I,r,h⟩ hd
theorem vB{x:Str}{v:V}{u:Value}{pos:Pos}(hg:Gl X x)(hm:X.mg x=none)(hv:bootBuiltins x=some u)(r:RelV v u)(hn:x ≠ "__name__":=by decide)(hd:(x == ("__debug__" : Str))=false:=by decide):PE X (.Name x pos) (tC v):=
 λ_ _ _ H _ I h=>uN I hg hm hv ⟨v,H,I,r,h⟩ hn hd
variable{a b:Expr}{ta tb:TE}{pos:Pos}
def PC(X:Cx)(op:CmpOp)(a b:Expr)(t:TE):Prop:=
 ∀(Aa:eF) (s:Shared) (σ:St) (H:Hp) (Q:VK),Inv X Aa σ H s->t σ H Q ->
  wpAny (model X.prog X.w) X.A (eval a X.env) (λv s₁=>wpAny (model X.prog X.w) X.A (eval b X.env) (λu s₂=>wpAny (model X.prog X.w) X.A (compareOp op v u) (EP X Aa σ Q) X.xe s₂) X.xe s₁) X.xe s
theorem aFa(b:Expr){op:CmpOp}(h:op ≠ .In)(h2:op ≠ .NotIn):behindInMarks op b=false:=by
 have e1:(op == CmpOp.In)=false:=by cases op<;>first | rfl | exact absurd rfl h
 have e2:(op == CmpOp.NotIn)=false:=by cases op<;>first | rfl | exact absurd rfl h2
 cases b<;>simp[behindInMarks,e1,e2]
def tB(t:TE):TT:=λσ H Q=>t σ H λx H1=>∃c,x=.bl c/\Q c H1
theorem aQr{op:CmpOp}{t:TE}(h:PC X op a b t)(h1:behindInMarks op b=false:=by first | exact aFa _ (by decide) (by decide) | rfl):PT X (.Compare a [op] [b] pos) (tB t):=by
 intro Aa s σ H Q I hw
 refine wpAny_isTrue_Compare1 (dQ (h Aa s σ H _ I hw) λv s1 h1=>dQ h1 λu s2 h2=>dQ h2 λc s3 ⟨x,H1,I1,r1,q1⟩=>?_) h1
 obtain⟨d,rfl,q⟩:=q1
 cases r1
 exact wpAny_truthy_bool ⟨H1,I1,q⟩
theorem aQp{e:Expr}{t:TE}(h:PE X e t)(he:∀whole,isTrue e X.env whole=(do let v <-whole;standAt e.pos;holding [v] (truthy v)):=by intro _;rfl):PT X e (tB t):=by
 intro Aa s σ H Q I hw
 refine isTrue_plain (dQ (h Aa s σ H _ I hw) λv s1 ⟨x,H1,I1,r1,q1⟩=>?_) (he _)
 obtain⟨d,rfl,q⟩:=q1
 cases r1
 exact wpAny_truthy_bool ⟨H1,I1,q⟩
variable{tA tB':TT}{rest:List Expr}
def bBy(t u:TT):TT:=λσ H Q=>t σ H λc H1=>if c=true then u σ H1 Q else Q false H1
def tOr(t u:TT):TT:=λσ H Q=>t σ H λc H1=>if c=true then Q true H1 else u σ H1 Q
def bBt(t:TT):TT:=λσ H Q=>t σ H λc H1=>Q (!c) H1
theorem aJe(ha:PT X a tA):PW X (.BoolOp .And [a] pos) tA:=by
 intro wh Aa s σ H Q I h
 refine isTrue_and (dQ (ha Aa s σ H Q I h) λc s1 e=>?_)
 cases c with
 |true=>exact isTrue_and_nil e
 |false=>exact e
theorem aQn(ha:PT X a tA):PW X (.BoolOp .Or [a] pos) tA:=by
 intro wh Aa s σ H Q I h
 refine isTrue_or (dQ (ha Aa s σ H Q I h) λc s1 e=>?_)
 cases c with
 |false=>exact isTrue_or_nil e
 |true=>exact e
theorem aQo(ha:PT X a tA)(hb:PW X (.BoolOp .And (b::rest) pos) tB'):PW X (.BoolOp .And (a::b::rest) pos) (bBy tA tB'):=by
 intro wh Aa s σ H Q I h
 refine isTrue_and (dQ (ha Aa s σ H _ I h) λc s1 ⟨H1,I1,q1⟩=>?_)
 cases c with
 |true=>exact hb wh Aa s1 σ H1 Q I1 q1
 |false=>exact⟨H1,I1,q1⟩
theorem aXh(ha:PT X a tA)(hb:PW X (.BoolOp .Or (b::rest) pos) tB'):PW X (.BoolOp .Or (a::b::rest) pos) (tOr tA tB'):=by
 intro wh Aa s σ H Q I h
 refine isTrue_or (dQ (ha Aa s σ H _ I h) λc s1 ⟨H1,I1,q1⟩=>?_)
 cases c with
 |true=>exact⟨H1,I1,q1⟩
 |false=>exact hb wh Aa s1 σ H1 Q I1 q1
theorem aQq(ha:PT X a tA):PT X (.UnaryOp .Not a pos) (bBt tA):=by
 intro Aa s σ H Q I h
 exact isTrue_not (ha Aa s σ H (λc H1=>Q (!c) H1) I h)
def aWv(ta tb:TE):TE:=λσ H Q=>ta σ H λx H1=>∃c,x=.bl c/\if c=true then tb σ H1 Q else Q (.bl false) H1
def bBs(ta tb:TE):TE:=λσ H Q=>ta σ H λx H1=>∃c,x=.bl c/\if c=true then Q (.bl true) H1 else tb σ H1 Q
def aWq(ta:TE):TE:=λσ H Q=>ta σ H λx H1=>∃c,x=.bl c/\Q (.bl (!c)) H1
theorem aQz{op}{t:TE}(h:PE X a t):PE X (.BoolOp op [a] pos) t:=λAa s σ H Q I hw=>BoolOp_one (h Aa s σ H Q I hw)
theorem aRd(ha:PE X a ta)(hb:PE X (.BoolOp .And (b::rest) pos) tb):PE X (.BoolOp .And (a::b::rest) pos) (aWv ta tb):=by
 intro Aa s σ H Q I h
 refine BoolOp_and (dQ (ha Aa s σ H _ I h) λv s1 ⟨x,H1,I1,r1,q1⟩=>?_)
 obtain⟨c,rfl,q1⟩:=q1
 cases r1
 refine wpAny_truthy_bool ?_
 cases c with
 |true=>exact hb Aa s1 σ H1 Q I1 q1
 |false=>exact⟨.bl false,H1,I1,rfl,q1⟩
theorem aXl(ha:PE X a ta)(hb:PE X (.BoolOp .Or (b::rest) pos) tb):PE X (.BoolOp .Or (a::b::rest) pos) (bBs ta tb):=by
 intro Aa s σ H Q I h
 refine BoolOp_or (dQ (ha Aa s σ H _ I h) λv s1 ⟨x,H1,I1,r1,q1⟩=>?_)
 obtain⟨c,rfl,q1⟩:=q1
 cases r1
 refine wpAny_truthy_bool ?_
 cases c with
 |false=>exact hb Aa s1 σ H1 Q I1 q1
 |true=>exact⟨.bl true,H1,I1,rfl,q1⟩
theorem aRa(ha:PE X a ta):PE X (.UnaryOp .Not a pos) (aWq ta):=by
 intro Aa s σ H Q I h
 refine UnaryOp_ (dQ (ha Aa s σ H _ I h) λv s1 ⟨x,H1,I1,r1,q1⟩=>?_)
 obtain⟨c,rfl,q1⟩:=q1
 cases r1
 exact not_of (wpAny_truthy_bool ⟨.bl (!c),H1,I1,rfl,q1⟩)
def tIf(t:TT)(ta tb:TE):TE:=λσ H Q=>t σ H λc H1=>if c=true then ta σ H1 Q else tb σ H1 Q
theorem aEf{c:Expr}(hc:PT X c tA)(ha:PE X a ta)(hb:PE X b tb):PE X (.IfExp c a b pos) (tIf tA ta tb):=by
 intro Aa s σ H Q I h
 refine wpAny_IfExp (dQ (hc Aa s σ H _ I h) λd s1 ⟨H1,I1,q1⟩=>?_)
 cases d with
 |true=>exact ha Aa s1 σ H1 Q I1 q1
 |false=>exact hb Aa s1 σ H1 Q I1 q1
end
def SqL(K:cZ)(H:Hp)(a:Addr)(xs:List V):Prop:=
 Rd H a (.lst xs) \/
  ∃(o:Obj) (its:Array Value) (n:Nat),K.lookup a=some o/\o.cls=.type "list" /\ o.dict=none/\o.data=.seq its n/\its.size<=sizeLine/\Vals xs its.toList
def SqT(K:cZ)(H:Hp)(a:Addr)(xs:List V):Prop:=
 Rd H a (.tup xs) \/
  ∃(o:Obj) (its:Array Value) (n:Nat),K.lookup a=some o/\o.cls=.type "tuple" /\ o.data=.seq its n/\its.size<=sizeLine/\Vals xs its.toList
theorem RelV.abs{x:V}{u:Value}(r:RelV x u):aMw u=some x:=by
 cases x with
 |non=>cases r;rfl
 |bl _=>cases r;rfl
 |int _=>obtain⟨t,rfl⟩:=r;rfl
 |str _=>obtain⟨t,rfl⟩:=r;rfl
 |byt _=>obtain⟨t,rfl⟩:=r;rfl
 |flt _=>obtain⟨t,rfl⟩:=r;rfl
 |ref _=>cases r;rfl
 |ty _=>cases r;rfl
theorem RelV.inj{x y:V}{u:Value}(r:RelV x u)(q:RelV y u):x=y:=ozI (r.abs.symm.trans q.abs)
theorem Vals.inj:∀{xs ys:List V} {us:List Value},Vals xs us->Vals ys us->xs=ys
 |_,_,_,.nil,.nil=>rfl
 |_,_,_,.cons r t,.cons r' t'=>by rw[r.inj r',Vals.inj t t']
section
variable{X:Cx}{Aa:eF}{σ:St}{H:Hp}{s:Shared}{a:Addr}{xs ys:List V}
theorem SqL.of{K:cZ}(h:H a=some (.lst xs)):SqL K H a xs:=.inl (.inl h)
theorem SqT.of{K:cZ}(h:H a=some (.tup xs)):SqT K H a xs:=.inl (.inl h)
theorem Inv.list(I:Inv X Aa σ H s)(h:SqL X.K H a xs):∃its:List Value,Vals xs its/\PlainL s.heap a its.toArray/\xs.length<=sizeLine:=by
 rcases h with h | ⟨o,its,n,hk,hc,hd,hs,hz,r⟩
 ·obtain ⟨z,its,n,r,e⟩:=h.ok I.hok
  exact⟨its,r,⟨_,n,e,rfl,rfl,rfl⟩,z⟩
 ·refine ⟨its.toList,r,⟨o,n,I.kIn a o hk,hc,hd,by simpa using hs⟩,?_⟩
  have e:=r.length
  simp only[Array.length_toList]at e
  omega
theorem Inv.tuple(I:Inv X Aa σ H s)(h:SqT X.K H a xs):∃its:List Value,Vals xs its/\IsTup s.heap a its.toArray/\xs.length<=sizeLine:=by
 rcases h with h | ⟨o,its,n,hk,hc,hs,hz,r⟩
 ·obtain ⟨z,its,r,p⟩:=h.ok I.hok
  exact⟨its,r,p,z⟩
 ·refine ⟨its.toList,r,⟨o,I.kIn a o hk,hc,n,by simpa using hs⟩,?_⟩
  have e:=r.length
  simp only[Array.length_toList]at e
  omega
theorem Inv.list_inj(I:Inv X Aa σ H s)(h:SqL X.K H a xs)(h':SqL X.K H a ys):xs=ys:=by
 obtain⟨its,r,⟨o,n,e,_,_,d⟩,_⟩:=I.list h
 obtain⟨its',r',⟨o',n',e',_,_,d'⟩,_⟩:=I.list h'
 rw[e]at e';cases e'
 rw[d]at d'
 injection d' with d1 _
 have:its=its':=by simpa using congrArg Array.toList d1
 subst this
 exact r.inj r'
theorem Inv.tuple_inj(I:Inv X Aa σ H s)(h:SqT X.K H a xs)(h':SqT X.K H a ys):xs=ys:=by
 obtain⟨its,r,⟨o,e,_,n,d⟩,_⟩:=I.tuple h
 obtain⟨its',r',⟨o',e',_,n',d'⟩,_⟩:=I.tuple h'
 rw[e]at e';cases e'
 rw[d]at d'
 injection d' with d1 _
 have:its=its':=by simpa using congrArg Array.toList d1
 subst this
 exact r.inj r'
end
abbrev Cx.wish(X:Cx)(E:gG):Cx:={ X with xe:=E }
abbrev Cx.nox(X:Cx):Cx:=X.wish λ_ _=>False
theorem Cx.Ok.wish{X:Cx}(ok:X.Ok)(E:gG):(X.wish E).Ok:=
 ⟨ok.mod,ok.kind,ok.glob,ok.blt,ok.above,ok.inj,ok.has,ok.cab,ok.hd,ok.frames,ok.stk,ok.exf,ok.bs,ok.bsz,ok.noex,ok.exfs,ok.funs,ok.frf⟩
theorem Cx.Ok.unwish{X:Cx}{E:gG}(ok:(X.wish E).Ok):X.Ok:=
 ⟨ok.mod,ok.kind,ok.glob,ok.blt,ok.above,ok.inj,ok.has,ok.cab,ok.hd,ok.frames,ok.stk,ok.exf,ok.bs,ok.bsz,ok.noex,ok.exfs,ok.funs,ok.frf⟩
section
variable{X:Cx}{Aa:eF}{σ:St}{H:Hp}{s:Shared}{E:gG}
theorem Inv.wish(I:Inv X Aa σ H s)(E:gG):Inv (X.wish E) Aa σ H s:=⟨I.ok.wish E,I.os,I.bare,I.base,I.loc,I.cell,I.free,I.freeC,I.pin,I.hok,I.len⟩
theorem Inv.unwish(I:Inv (X.wish E) Aa σ H s):Inv X Aa σ H s:=⟨I.ok.unwish,I.os,I.bare,I.base,I.loc,I.cell,I.free,I.freeC,I.pin,I.hok,I.len⟩
theorem SP.unwish{D:Ends}{f:Flow}{s':Shared}(h:SP (X.wish E) Aa D f s'):SP X Aa D f s':=by
 cases f with
 |next=>obtain⟨σ',H',I,q⟩:=h;exact⟨σ',H',I.unwish,q⟩
 |brk=>obtain⟨σ',H',I,q⟩:=h;exact⟨σ',H',I.unwish,q⟩
 |cont=>obtain⟨σ',H',I,q⟩:=h;exact⟨σ',H',I.unwish,q⟩
 |ret u=>obtain⟨v,σ',H',I,r,q⟩:=h;exact⟨v,σ',H',I.unwish,r,q⟩
theorem PSs.nox{st:List Stmt}{t:TS}(h:PSs X.nox st t):PSs X st t:=λAa s σ H D I hw =>
 wpAny_mono (h Aa s σ H D (I.wish _) hw) (λ_ _ q=>q.unwish) λ_ _ z=>False.elim z
end
section
variable{X:Cx}{st:Stmt}{rest:List Stmt}{t u:TS}{e:Expr}{te:TE}{pos:Pos}
def aWr:TS:=λD σ H=>D.nx σ H
def bBr(t u:TS):TS:=λD σ H=>t { D with nx:=u D } σ H
theorem aJf:PSs X [] aWr:=λ_ _ σ H _ I h=>wpAny_execs_nil ⟨σ,H,I,h⟩
theorem aDx(h1:PS X st t)(h2:PSs X rest u):PSs X (st::rest) (bBr t u):=by
 intro Aa s σ H D I h
 refine wpAny_execs_cons (dQ (h1 Aa s σ H { D with nx:=u D } I h) λf s1 q=>?_)
 cases f with
 |next =>
  obtain⟨σ',H',I',q⟩:=q
  exact h2 Aa s1 σ' H' D I' q
 |ret v=>exact q
 |brk=>exact q
 |cont=>exact q
theorem e_(h1:PS X st t):PSs X [st] t:=by
 intro Aa s σ H D I h
 refine wpAny_execs_cons (dQ (h1 Aa s σ H D I h) λf s1 q=>?_)
 cases f with
 |next=>exact wpAny_execs_nil q
 |ret v=>exact q
 |brk=>exact q
 |cont=>exact q
theorem Inv.quiet{Aa:eF}{σ:St}{H:Hp}{s:Shared}(I:Inv X Aa σ H s):interactive X.env=false:=by simp[interactive,I.ok.kind]
def aCp(te:TE):TS:=λD σ H=>te σ H λ_ H1=>D.nx σ H1
theorem ix_(he:PE X e te)(hs:swapsWith e none pos.line X.env=pure false:=by rfl):PS X (.Expr e pos) (aCp te):=by
 intro Aa s σ H D I h
 exact wpAny_Expr_any (dQ (he Aa s σ H _ I h) λv s1 ⟨x,H1,I1,r1,q1⟩=>⟨σ,H1,I1,q1⟩) I.quiet hs
def aWn(te:TE):TS:=λD σ H=>te σ H D.rt
theorem aQs(he:PE X e te):PS X (.Return (some e) pos) (aWn te):=by
 intro Aa s σ H D I h
 exact wpAny_Return_some (dQ (he Aa s σ H _ I h) λv s1 ⟨x,H1,I1,r1,q1⟩=>⟨x,σ,H1,I1,r1,q1⟩)
def aWt(c:TT)(t u:TS):TS:=λD σ H=>c σ H λb H1=>if b=true then t D σ H1 else u D σ H1
theorem aXi{c:Expr}{a b:List Stmt}{tc:TT}(hc:PT X c tc)(ha:PSs X a t)(hb:PSs X b u):PS X (.If c a b pos) (aWt tc t u):=by
 intro Aa s σ H D I h
 refine wpAny_If (dQ (hc Aa s σ H _ I h) λd s1 ⟨H1,I1,q1⟩=>?_)
 cases d with
 |true=>exact ha Aa s1 σ H1 D I1 q1
 |false=>exact hb Aa s1 σ H1 D I1 q1
end
abbrev TG:=V->St->Hp->(St->Hp->Prop)->Prop
abbrev TGs:=List V->St->Hp->(St->Hp->Prop)->Prop
def PG(X:Cx)(target:Expr)(t:TG):Prop:=
 ∀(Aa:eF) (s:Shared) (σ:St) (H:Hp) (v:V) (u:Value) (Q:St->Hp->Prop),Inv X Aa σ H s->RelV v u->t v σ H Q ->
  wpAny (model X.prog X.w) X.A (assign target X.env u) (λ_ s'=>∃σ' H',Inv X Aa σ' H' s'/\Q σ' H') X.xe s
def PGs(X:Cx)(ts:List Expr)(t:TGs):Prop:=
 ∀(Aa:eF) (s:Shared) (σ:St) (H:Hp) (vs:List V) (us:List Value) (Q:St->Hp->Prop),Inv X Aa σ H s->Vals vs us->t vs σ H Q ->
  wpAny (model X.prog X.w) X.A (assignInOrder ((assignEach ts X.env).map (·.2)) us) (λ_ s'=>∃σ' H',Inv X Aa σ' H' s'/\Q σ' H') X.xe s
abbrev aUm:=V->V->V->Hp->(Hp->Prop)->Prop
def aZw(X:Cx)(t:aUm):Prop:=
 ∀(Aa:eF) (s:Shared) (σ:St) (H:Hp) (o i v:V) (ov iv u:Value) (Q:Hp->Prop),Inv X Aa σ H s->RelV o ov->RelV i iv->RelV v u->t o i v H Q ->
  wpAny (model X.prog X.w) X.A (setItem ov iv u) (λ_ s'=>∃H',Inv X Aa σ H' s'/\Q H') X.xe s
section
variable{X:Cx}{pos:Pos}
def jU(i:Nat):TG:=λv σ H Q=>Q (σ.set i (some v)) H
theorem iU{i:Nat}{x:Str}(hN:X.N.Nodup)(hi:X.N[i]? = some x)(hx:Loc X.env.scope x)(hf:X.fn x=true\/X.env.scope.names.lookup x=some .local:=by first | exact .inl rfl | exact .inr rfl | assumption):PG X (.Name x pos) (jU i):=by
 intro Aa s σ H v u Q I r h
 exact wpAny_assign_Name (wA I hN hi hx r (λs' I'=>⟨_,H,I',h⟩) hf)
def aLx:TGs:=λvs σ H Q=>vs=[]/\Q σ H
def k7(t:TG)(u:TGs):TGs:=λvs σ H Q=>∃v r,vs=v::r/\t v σ H λσ' H'=>u r σ' H' Q
theorem em_:PGs X [] aLx:=by
 intro Aa s σ H vs us Q I r h
 obtain⟨e,h⟩:=h
 subst e
 cases r
 exact assignInOrder_nil ⟨σ,H,I,h⟩
theorem qN{e:Expr}{es:List Expr}{t:TG}{u:TGs}(h1:PG X e t)(h2:PGs X es u)
  (hs:(assignEach (e::es) X.env).map (·.2)=assign e X.env::(assignEach es X.env).map (·.2):=by rfl):PGs X (e::es) (k7 t u):=by
 intro Aa s σ H vs us Q I r h
 obtain⟨v,vr,e1,h⟩:=h
 subst e1
 cases r with
 |cons r rr =>
  rw[hs]
  refine assignInOrder_cons (dQ (h1 Aa s σ H _ _ _ I r h) λ_ s1 ⟨σ1,H1,I1,q1⟩=>?_)
  exact h2 Aa s1 σ1 H1 _ _ Q I1 rr q1
def aLv(K:cZ)(n:Nat)(t:TGs):TG:=λv σ H Q=>∃a xs,v=.ref a/\SqT K H a xs/\xs.length=n/\t xs σ H Q
theorem hu_{es:List Expr}{k:Nat}{t:TGs}{n:Nat}(hc:X.calm=true)(h:PGs X es t)
  (hn:(assignEach es X.env).length=n:=by rfl) (Em:(assignEach es X.env).findIdx? (·.1)=none:=by rfl):PG X (.Tuple es k pos) (aLv X.K n t):=by
 intro Aa s σ H v u Q I r hw
 obtain⟨a,xs,e1,hq,hl,hw⟩:=hw
 subst e1
 cases r
 obtain⟨its,rv,ht,hz⟩:=I.tuple hq
 refine assign_Tuple_tuple (I.ok.hd hc) ht (by simp[hn,<-hl,rv.length]) Em λh' hx=>?_
 have I1:Inv X Aa σ H { s with heap:=h' }:=I.kept (t':=s.toks) λb o e=>hx b o (cH (bK e)) e
 exact h Aa _ σ H xs _ Q I1 (by simpa using rv) hw
def aYr(to ti:TE)(t:aUm):TG:=λv σ H Q=>to σ H λo H1=>ti σ H1 λi H2=>t o i v H2 λH3=>Q σ H3
theorem yW{o i:Expr}{to ti:TE}{t:aUm}(ho:PE X o to)(hi:PE X i ti)(hs:aZw X t)
  (ha:∀ v,assign (.Subscript o i pos) X.env v=(do
   let ov <-holding [v] (eval o X.env)
   let iv <-holding [v,ov] (eval i X.env)
   standAt pos
   holding [v,ov,iv] (setItem ov iv v)
   release [v,ov,iv] []):=by intro _;rfl):PG X (.Subscript o i pos) (aYr to ti t):=by
 intro Aa s σ H v u Q I r h
 rw[ha]
 refine wpAny_bind (wpAny_holding (dQ (ho Aa s σ H _ I h) λov s1 ⟨x,H1,I1,r1,q1⟩=>?_))
 refine wpAny_bind (wpAny_holding (dQ (hi Aa s1 σ H1 _ I1 q1) λiv s2 ⟨y,H2,I2,r2,q2⟩=>?_))
 refine wpAny_bind (wpAny_standAt (wpAny_bind (wpAny_holding (dQ (hs Aa s2 σ H2 x y v ov iv u _ I2 r1 r2 r q2) λ_ s3 ⟨H3,I3,q3⟩=>?_))))
 exact wpAny_release ⟨σ,H3,I3,q3⟩
def vX(te:TE)(g:TG):TS:=λD σ H=>te σ H λx H1=>g x σ H1 D.nx
theorem iy_{tg e:Expr}{te:TE}{g:TG}(he:PE X e te)(hg:PG X tg g)(hs:swapsWithSole [tg] e pos.line X.env=pure false:=by rfl)(hw:swappedStores [tg] e X.env=pure none:=by rfl)
  (h1:(assignEach [tg] X.env).map (·.2)=[assign tg X.env]:=by rfl):PS X (.Assign [tg] e pos) (vX te g):=by
 intro Aa s σ H D I h
 refine wpAny_Assign_stores (dQ (he Aa s σ H _ I h) λv s1 ⟨x,H1,I1,r1,q1⟩=>?_) hs hw
 rw[h1]
 exact dQ (hg Aa s1 σ H1 x v _ I1 r1 q1) λ_ s2 q=>q
theorem ap_{i:Nat}{x:Str}{e:Expr}{te:TE}{pos':Pos}(hN:X.N.Nodup)(hi:X.N[i]? = some x)(hx:Loc X.env.scope x)(he:PE X e te)(hs:swapsWith e (some (.Name x pos')) pos.line X.env=pure false:=by rfl)(hf:X.fn x=true\/X.env.scope.names.lookup x=some .local:=by first | exact .inl rfl | exact .inr rfl | assumption) :
  PS X (.Assign [.Name x pos'] e pos) (vX te (jU i)):=by
 intro Aa s σ H D I h
 refine wpAny_Assign_Name (dQ (he Aa s σ H _ I h) λv s1 ⟨y,H1,I1,r1,q1⟩=>?_) hs
 exact wA I1 hN hi hx r1 (λs2 I2=>⟨_,H1,I2,q1⟩) hf
end
section
variable{X:Cx}{pos:Pos}
def aPt(c:TT)(tb:TS):TS:=λD σ H=>∃W:Nat->St->Hp->Prop,(∃m,W m σ H)/\∀m σ H,W m σ H ->
 c σ H λb H1=>if b=true then ∃N:St->Hp->Prop,(∀σ' H',N σ' H'->∃m',m'<m/\W m' σ' H')/\tb { D with nx:=N,ct:=N,bk:=D.nx } σ H1 else D.nx σ H1
theorem aDy{c:Expr}{body:List Stmt}{tc:TT}{tb:TS}(hp:PassesOwn (model X.prog X.w) X.A X.env X.xe)(hc:PT X c tc)(hb:PSs X body tb):PS X (.While c body [] pos) (aPt tc tb):=by
 intro Aa s σ H D I h
 obtain⟨W,⟨m0,w0⟩,turn⟩:=h
 refine wpAny_While (codeAny_whileLoop (λn s'=>∃σ' H',Inv X Aa σ' H' s'/\W n σ' H') ?_ m0 ⟨σ,H,I,w0⟩)
 rintro n s1 ⟨σ1,H1,I1,w1⟩
 refine wpAny_passesOwn hp (dQ (hc Aa s1 σ1 H1 _ I1 (turn n σ1 H1 w1)) λb s2 ⟨H2,I2,q2⟩=>?_)
 cases b with
 |true =>
  obtain⟨N,hN,q2⟩:=q2
  rw[if_pos rfl]
  refine wpAny_passesOwn hp (dQ (hb Aa s2 σ1 H2 _ I2 q2) λf s3 q3=>?_)
  cases f with
  |next =>
   obtain⟨σ3,H3,I3,n3⟩:=q3
   obtain⟨m',hm,w3⟩:=hN σ3 H3 n3
   exact⟨m',hm,σ3,H3,I3,w3⟩
  |cont =>
   obtain⟨σ3,H3,I3,n3⟩:=q3
   obtain⟨m',hm,w3⟩:=hN σ3 H3 n3
   exact⟨m',hm,σ3,H3,I3,w3⟩
  |brk=>exact q3
  |ret v=>exact q3
 |false =>
  rw[if_neg bO]
  exact wpAny_execs_nil ⟨σ1,H2,I2,q2⟩
end
structure It where
 go:Nat->Hp->Prop
 yld:Nat->Hp->V->Hp->Prop
 stop:Nat->Hp->Prop
def qB(X:Cx)(Aa:eF)(H:Hp)(b:Addr):Prop:=
 H b=none/\b≠X.env.locals/\b∉X.fs/\(b∈X.ex\/X.s₀.heap.objs.size<=b)/\(∀x c,X.env.cells.lookup x=some c->c≠b)/\∀p∈X.pn++Aa,p.1≠b
theorem Inv.fpOk{X:Cx}{Aa:eF}{σ:St}{H H':Hp}{s:Shared}{b:Addr}(I:Inv X Aa σ H s)(hb:s.heap.objs.size<=b)(hn:H' b=none):qB X Aa H' b:=by
 refine⟨hn,Nat.ne_of_gt (bQ I.lt hb),I.nofs hb,.inr (nzL I.sz hb),λx c e z=>?_,λp hp z=>?_⟩
 ·obtain ⟨v,q⟩:=I.cell x c e
  exact absurd (bQ q.lt (by rw[z];exact hb)) (eK _)
 ·exact absurd (bQ (bK (I.pin p hp).1) (by rw[z];exact hb)) (eK _)
structure Turn(P:Program)(w:World)(K:cZ)(tg:Expr)(J:It)(fp:List Addr)(it:Addr)(tn:Nat->Heap->Prop):Prop where
 mem:it∈fp
 obj:∀i h,tn i h->∀b∈fp,∃o,h.get? b=some o/\∀v,o.data ≠ .cell v
 keep:∀i h h',tn i h->(∀b∈fp,∀o,h.get? b=some o->h'.get? b=some o)->tn i h'
 item:∀(X:Cx),X.prog=P->X.w=w->X.K=K->X.calm=true->∀(i:Nat) (Aa:eF) (s:Shared) (σ:St) (H:Hp) (E:gG),Inv X Aa σ H s->(∀b∈fp,qB X Aa H b)->tn i s.heap->J.go i H ->
  wpAny (model P w) X.A (pyNext (.ref it)) (λr s1=>∃u,r=some u /\
   wpAny (model P w) X.A (letOwnedTupleGo tg (.ref it) u) (λ_ s2=>∃x H',Inv X Aa σ H' s2/\RelV x u/\J.yld i H x H'/\tn (i+1) s2.heap/\∀b∈fp,H' b=none) E s1) E s
 done:∀(X:Cx),X.prog=P->X.w=w->X.K=K->X.calm=true->∀(i:Nat) (Aa:eF) (s:Shared) (σ:St) (H:Hp) (E:gG),Inv X Aa σ H s->(∀b∈fp,qB X Aa H b)->tn i s.heap->J.stop i H ->
  wpAny (model P w) X.A (pyNext (.ref it)) (λr s1=>r=none/\Inv X Aa σ H s1) E s
 self:∀(A:Around) (i:Nat) (s:Shared) (Q:gG) (E:gG),tn i s.heap->Q (.ref it) s->wpAny (model P w) A (pyIter (.ref it)) Q E s
abbrev TI:=St->Hp->(It->Hp->Prop)->Prop
def PIE(X:Cx)(Aa:eF)(σ:St)(tg:Expr)(R:It->Hp->Prop)(itv:Value)(s2:Shared):Prop:=
 ∃(it:Addr) (fp:List Addr) (tn:Nat->Heap->Prop) (J:It) (H':Hp),itv=.ref it/\Inv X Aa σ H' s2/\Turn X.prog X.w X.K tg J fp it tn/\tn 0 s2.heap/\(∀b∈fp,qB X Aa H' b)/\R J H'
def PI(X:Cx)(tg iter:Expr)(wi:TI):Prop:=
 ∀(Aa:eF) (s:Shared) (σ:St) (H:Hp) (R:It->Hp->Prop),Inv X Aa σ H s->wi σ H R ->
  wpAny (model X.prog X.w) X.A (eval iter X.env) (λv s1=>wpAny (model X.prog X.w) X.A (pyIter v) (PIE X Aa σ tg R) X.xe s1) X.xe s
theorem rQ{M:Model}{A:Around}{E:gG}{s:Shared}{tg:Expr}{it:Addr}{u:Value}{o:Obj}{n:String}{vs:Array Value}{Q:Unit->Shared->Prop}(ho:s.heap.get? it=some o)(hc:o.cls=.type n)(hd:o.data=.fields vs)
    (hn:["enumerate","zip","dict_itemiterator","dict_reverseitemiterator","odict_iterator","itertools.zip_longest","itertools.pairwise"].contains n=false) (hQ:Q () s):wpAny M A (letOwnedTupleGo tg (.ref it) u) Q E s:=by
  unfold letOwnedTupleGo
  cases tg<;>first
    |exact wpAny_pure hQ
    |(cases u<;>first
        |exact wpAny_pure hQ
        | (refine wpAny_bind (wpAny_load ho ?_)
           rw[hc,hd]
           show wpAny M A (if(["enumerate","zip","dict_itemiterator","dict_reverseitemiterator","odict_iterator","itertools.zip_longest","itertools.pairwise"].contains n&&vs[0]? == some (rawInt _))=true then _ else _) Q E s
           rw[if_neg (by intro h;rw[hn,Bool.false_and]at h;cases h)]
           exact wpAny_pure hQ))
def Itl(K:cZ)(a:Addr):It:=
 ⟨λi H=>∃xs x,SqL K H a xs/\xs[i]? = some x,λi H x H'=>H'=H/\∀xs,SqL K H a xs->xs[i]? = some x,λi H=>∃xs,SqL K H a xs/\xs.length<=i⟩
def Itt(K:cZ)(a:Addr):It:=
 ⟨λi H=>∃xs x,SqT K H a xs/\xs[i]? = some x,λi H x H'=>H'=H/\∀xs,SqT K H a xs->xs[i]? = some x,λi H=>∃xs,SqT K H a xs/\xs.length<=i⟩
def Itr(lo:Int)(n:Nat):It:=⟨λi _=>i<n,λi H x H'=>H'=H/\x=.int (lo+i),λi _=>n<=i⟩
theorem t7{P:Program}{w:World}{K:cZ}{tg:Expr}(a it:Addr):Turn P w K tg (Itl K a) [it] it (λi h=>h.IsListIter it a i)where
 mem:=by simp
 obj:=λi h st b hb=>by
  have e:b=it:=by simpa using hb
  subst e
  obtain⟨o,e,c,d⟩:=st
  exact⟨o,e,λv z=>by rw[d]at z;cases z⟩
 keep:=λi h h' st k=>st.at λo e=>k it (by simp) o e
 item:=by
  intro X hP hw hK hc i Aa s σ H E I hf st hg
  subst hP hw hK
  obtain⟨xs,x,hq,hx⟩:=hg
  obtain⟨its,rv,p,hz⟩:=I.list hq
  obtain⟨u,hu,ru⟩:=rv.get hx
  obtain⟨f0,f1,f2,f3,f4,f5⟩:=hf it (by simp)
  refine wpAny_pyNext_list_item st p.isList (x:=u) (by simpa using hu) λh' st' sb=>?_
  have I1:Inv X Aa σ H { s with heap:=h' }:=I.turned (t':=s.toks) (λb o hb e=>(sb.2 b hb).trans e) f0 f1 f3 f4 f5
  obtain⟨o,e,c,d⟩:=id st'
  exact⟨u,rfl,rQ (s:={ s with heap:=h' }) e c d (by decide) ⟨x,H,I1,ru,⟨rfl,λys hy=>by rw[I.list_inj hy hq];exact hx⟩,st',λb hb=>(hf b hb).1⟩⟩
 done:=by
  intro X hP hw hK hc i Aa s σ H E I hf st hg
  subst hP hw hK
  obtain⟨xs,hq,hx⟩:=hg
  obtain⟨its,rv,p,hz⟩:=I.list hq
  obtain⟨f0,f1,f2,f3,f4,f5⟩:=hf it (by simp)
  have hl:=rv.length
  exact wpAny_pyNext_list_end (I.ok.hd hc) st p.isList (by simp;omega) λh' eb=>⟨rfl,I.turned (t':=s.toks) (λb o hb e=>eb b o hb e) f0 f1 f3 f4 f5⟩
 self:=λ_ _ _ _ _ st h=>wpAny_pyIter_listiter st h
theorem yJ{P:Program}{w:World}{K:cZ}{tg:Expr}(a it:Addr):Turn P w K tg (Itt K a) [it] it (λi h=>h.IsTupleIter it a i)where
 mem:=by simp
 obj:=λi h st b hb=>by
  have e:b=it:=by simpa using hb
  subst e
  obtain⟨o,e,c,d⟩:=st
  exact⟨o,e,λv z=>by rw[d]at z;cases z⟩
 keep:=λi h h' st k=>st.at λo e=>k it (by simp) o e
 item:=by
  intro X hP hw hK hc i Aa s σ H E I hf st hg
  subst hP hw hK
  obtain⟨xs,x,hq,hx⟩:=hg
  obtain⟨its,rv,p,hz⟩:=I.tuple hq
  obtain⟨u,hu,ru⟩:=rv.get hx
  obtain⟨f0,f1,f2,f3,f4,f5⟩:=hf it (by simp)
  refine wpAny_pyNext_tuple_item st (show s.heap.IsTuple a its.toArray from p) (x:=u) (by simpa using hu) λh' st' sb=>?_
  have I1:Inv X Aa σ H { s with heap:=h' }:=I.turned (t':=s.toks) (λb o hb e=>(sb.2 b hb).trans e) f0 f1 f3 f4 f5
  obtain⟨o,e,c,d⟩:=id st'
  exact⟨u,rfl,rQ (s:={ s with heap:=h' }) e c d (by decide) ⟨x,H,I1,ru,⟨rfl,λys hy=>by rw[I.tuple_inj hy hq];exact hx⟩,st',λb hb=>(hf b hb).1⟩⟩
 done:=by
  intro X hP hw hK hc i Aa s σ H E I hf st hg
  subst hP hw hK
  obtain⟨xs,hq,hx⟩:=hg
  obtain⟨its,rv,p,hz⟩:=I.tuple hq
  obtain⟨f0,f1,f2,f3,f4,f5⟩:=hf it (by simp)
  have hl:=rv.length
  exact wpAny_pyNext_tuple_end (I.ok.hd hc) st (show s.heap.IsTuple a its.toArray from p) (by simp;omega) λh' eb=>⟨rfl,I.turned (t':=s.toks) (λb o hb e=>eb b o hb e) f0 f1 f3 f4 f5⟩
 self:=λ_ _ _ _ _ st h=>wpAny_pyIter_tupleiter st h
theorem yK{P:Program}{w:World}{K:cZ}{tg:Expr}(it:Addr)(lo:Int)(n:Nat):Turn P w K tg (Itr lo n) [it] it (λi h=>IsRangeIter h it (lo+(i:Nat)*1) ((n:Int)-(i:Nat)) 1)where
 mem:=by simp
 obj:=λi h st b hb=>by
  have e:b=it:=by simpa using hb
  subst e
  exact⟨_,st,λv z=>by
   have z':Data.fields _=Data.cell v:=z
   cases z'⟩
 keep:=λi h h' st k=>k it (by simp) _ st
 item:=by
  intro X hP hw hK hc i Aa s σ H E I hf st hg
  subst hP hw hK
  obtain⟨f0,f1,f2,f3,f4,f5⟩:=hf it (by simp)
  have W:=Walks.range (prog:=X.prog) (w:=X.w) (I.ok.hd hc) it lo 1 n
  refine W.item i s _ _ hg st λv h' tk hv st' kk=>?_
  obtain⟨t,rfl⟩:=hv
  have I1:Inv X Aa σ H { s with heap:=h',toks:=tk }:=I.turned (λb o hb e=>kk b o (by simpa using hb) e) f0 f1 f3 f4 f5
  refine⟨_,rfl,rQ (s:={ s with heap:=h',toks:=tk }) (n:= "range_iterator") st' rfl rfl (by decide) ⟨.int (lo+i),H,I1,⟨t,?_⟩,⟨rfl,rfl⟩,st',λb hb=>(hf b hb).1⟩⟩
  rw[Int.mul_one]
 done:=by
  intro X hP hw hK hc i Aa s σ H E I hf st hg
  subst hP hw hK
  obtain⟨f0,f1,f2,f3,f4,f5⟩:=hf it (by simp)
  exact wpAny_pyNext_range_end (I.ok.hd hc) st (by have:n<=i:=hg;omega) λh' eb=>⟨rfl,I.turned (t':=s.toks) (λb o hb e=>eb b o hb e) f0 f1 f3 f4 f5⟩
 self:=λ_ _ _ _ _ st h=>wpAny_pyIter_rangeiter st h
section
variable{X:Cx}{tg:Expr}
def aYm(K:cZ)(tl:TE):TI:=λσ H R=>tl σ H λx H1=>∃a,x=.ref a/\(∃xs,SqL K H1 a xs)/\R (Itl K a) H1
def bCq(K:cZ)(tl:TE):TI:=λσ H R=>tl σ H λx H1=>∃a,x=.ref a/\(∃xs,SqT K H1 a xs)/\R (Itt K a) H1
theorem aJo{l:Expr}{tl:TE}(hl:PE X l tl):PI X tg l (aYm X.K tl):=by
 intro Aa s σ H R I h
 refine dQ (hl Aa s σ H _ I h) λv s1 ⟨x,H1,I1,r1,q1⟩=>?_
 obtain⟨a,e,⟨xs,hq⟩,q⟩:=q1
 subst e
 cases r1
 obtain⟨its,rv,p,hz⟩:=I1.list hq
 refine wpAny_pyIter_list p.isList ?_
 refine⟨s1.heap.objs.size,[s1.heap.objs.size],_,_,H1,rfl,I1.kept (t':=s1.toks) λb o e=>aQ _ e,t7 a _,⟨_,bP _ rfl,rfl,rfl⟩,λb hb=>?_,q⟩
 have e:b=s1.heap.objs.size:=by simpa using hb
 subst e
 exact I1.fpOk (bA _) (I1.hok.fresh (bA _))
theorem aQw{l:Expr}{tl:TE}(hl:PE X l tl):PI X tg l (bCq X.K tl):=by
 intro Aa s σ H R I h
 refine dQ (hl Aa s σ H _ I h) λv s1 ⟨x,H1,I1,r1,q1⟩=>?_
 obtain⟨a,e,⟨xs,hq⟩,q⟩:=q1
 subst e
 cases r1
 obtain⟨its,rv,p,hz⟩:=I1.tuple hq
 refine wpAny_pyIter_tuple (show s1.heap.IsTuple a its.toArray from p) ?_
 refine⟨s1.heap.objs.size,[s1.heap.objs.size],_,_,H1,rfl,I1.kept (t':=s1.toks) λb o e=>aQ _ e,yJ a _,⟨_,bP _ rfl,rfl,rfl⟩,λb hb=>?_,q⟩
 have e:b=s1.heap.objs.size:=by simpa using hb
 subst e
 exact I1.fpOk (bA _) (I1.hok.fresh (bA _))
theorem aDm{Aa:eF}{σ:St}{H:Hp}{s:Shared}{R:It->Hp->Prop}{E:gG}{lo hi:Int}{t u v:Tok}{tk:Nat}(I:Inv X Aa σ H s)(h1 : -(2^62)<=lo)(h2:lo<2^62)(h3 : -(2^62)<=hi)(h4:hi<2^62)
  (q:R (Itr lo (hi-lo).toNat) H):wpAny (model X.prog X.w) X.A (pyIter (.ref s.heap.objs.size)) (PIE X Aa σ tg R) E { s with heap:=s.heap.push { cls:=.type "range",data:=.fields #[.int lo t,.int hi u,.int 1 v] },toks:=tk }:=by
 refine wpAny_pyIter_range (IsRange.new ..) (small_one h1 h2 h3 h4) ?_
 have I1:Inv X Aa σ H { s with heap:=s.heap.push { cls:=.type "range",data:=.fields #[.int lo t,.int hi u,.int 1 v] },toks:=tk }:=I.kept λb o e=>aQ _ e
 refine⟨(s.heap.push { cls:=.type "range",data:=.fields #[.int lo t,.int hi u,.int 1 v] }).objs.size,[(s.heap.push { cls:=.type "range",data:=.fields #[.int lo t,.int hi u,.int 1 v] }).objs.size],_,_,H,rfl,
  I1.kept (t':=tk) λb o e=>aQ _ e,yK _ lo (hi-lo).toNat,?_,λb hb=>?_,q⟩
 ·have e1:lo + ((0:Nat):Int) * 1=lo:=by simp
  have e2:(((hi-lo).toNat:Nat):Int)-((0:Nat):Int)=Builtin.Range.rangeSize lo hi 1:=by rw[rangeSize_one];split<;>omega
  show IsRangeIter _ _ (lo+((0:Nat):Int)*1) ((((hi-lo).toNat:Nat):Int)-((0:Nat):Int)) 1
  rw[e1,e2]
  exact bP _ rfl
 ·have e:b=(s.heap.push { cls:=.type "range",data:=.fields #[.int lo t,.int hi u,.int 1 v] }).objs.size:=by simpa using hb
  subst e
  exact I1.fpOk (bA _) (I1.hok.fresh (bA _))
def aYl(ta:TA):TI:=λσ H R=>ta σ H λvs H1=>∃j:Int,vs=[.int j] /\ -(2^62)<=j/\j<2^62/\R (Itr 0 j.toNat) H1
theorem u_{a:Expr}{ta:TA}{p pos:Pos}(hg:Gl X "range")(hm:X.mg "range" = none)(ha:PA X [a] ta)(hs:starEach [a] X.env=[(false,eval a X.env)]:=by rfl):PI X tg (.Call (.Name "range" p) [a] [] pos) (aYl ta):=by
 intro Aa s σ H R I h
 refine Call_ (uN I hg hm boot_range (PyProof.Rows.callWith_type1 (dQ (ha pos Aa s σ H _ I h) λus s1 ⟨vs,H1,I1,r1,q1⟩=>?_) hs rfl))
 obtain⟨j,e,q1,q2,q⟩:=q1
 subst e
 cases r1 with
 |cons r rr =>
  cases rr
  obtain⟨t,rfl⟩:=r
  exact call_range_1 (aDm I1 (by omega) (by omega) q1 q2 (by simpa using q))
def aIt(wi:TI)(g:TG)(tb:TS):TS:=λD σ H=>wi σ H λJ H1=>∃W:Nat->Nat->St->Hp->Prop,(∃m,W 0 m σ H1)/\∀i m σ H,W i m σ H ->
 (J.stop i H/\D.nx σ H)\/(J.go i H/\∃N:St->Hp->Prop,(∀σ' H',N σ' H'->∃m',m'<m/\W (i+1) m' σ' H')/\∀x H',J.yld i H x H'->g x σ H' λσ2 H2=>tb { D with nx:=N,ct:=N,bk:=D.nx } σ2 H2)
def oU(fp:List Addr)(h:Heap):List (Addr×Obj):=fp.filterMap λb=>(h.get? b).map λo=>(b,o)
theorem gc_{fp:List Addr}{h:Heap}{b:Addr}{o:Obj}(hb:b∈fp)(e:h.get? b=some o):(b,o)∈oU fp h:=List.mem_filterMap.mpr ⟨b,hb,by rw[e];rfl⟩
theorem v7{fp:List Addr}{h:Heap}{p:Addr×Obj}(hp:p∈oU fp h):p.1∈fp/\h.get? p.1=some p.2:=by
 obtain⟨b,hb,e⟩:=List.mem_filterMap.mp hp
 cases q:h.get? b with
 |none=>rw[q]at e;cases e
 |some o =>
  rw[q]at e
  have e':(b,o)=p:=ozI e
  subst e'
  exact⟨hb,q⟩
theorem Inv.pinned{Aa:eF}{σ:St}{H:Hp}{s:Shared}{fp:List Addr}(I:Inv X Aa σ H s)(hf:∀b∈fp,qB X Aa H b)(ho:∀b∈fp,∃o,s.heap.get? b=some o/\∀v,o.data ≠ .cell v):Inv X (Aa++oU fp s.heap) σ H s:=
 I.pins_of λp hp=>(bF.mp hp).elim (λz=>I.pin p (aE _ z)) λz=>by
  obtain⟨hb,e⟩:=v7 z
  obtain⟨f0,f1,f2,_⟩:=hf p.1 hb
  obtain⟨o,e',d⟩:=ho p.1 hb
  rw[e]at e';cases e'
  exact⟨e,f0,f1,f2,d⟩
theorem Inv.unpinned{Aa pl:eF}{σ:St}{H:Hp}{s:Shared}(I:Inv X (Aa++pl) σ H s):Inv X Aa σ H s:=I.pins_of λp hp=>I.pin p (aE _ (aK _ hp))
theorem yU{iter:Expr}{body:List Stmt}{wi:TI}{g:TG}{tb:TS}{pos:Pos}(hp:PassesOwn (model X.prog X.w) X.A X.env X.xe)(hc:X.calm=true)(hi:PI X tg iter wi)(hg:PG X tg g)(hb:PSs X body tb)
  (hs:∀x,foldedSetIterable iter X.env x=pure x:=by intro _;rfl):PS X (.For tg iter body [] pos) (aIt wi g tb):=by
 intro Aa s σ H D I h
 refine wpAny_For (dQ (hi Aa s σ H _ I h) λv s1 h1=>dQ h1 λitv s2 h2=>?_) hs
 obtain⟨it,fp,tn,J,H2,e,I2,T,Gn,f2,W,⟨m0,w0⟩,turn⟩:=h2
 subst e
 have stat:∀{H':Hp},(∀b∈fp,H' b=none)->∀b∈fp,qB X Aa H' b:=λhn b hb=>⟨hn b hb,(f2 b hb).2⟩
 refine codeAny_forLoop_any (λn s'=>∃i σ' H',Inv X Aa σ' H' s'/\tn i s'.heap/\(∀b∈fp,H' b=none)/\W i n σ' H') ?_ m0 ⟨0,σ,H2,I2,Gn,λb hb=>(f2 b hb).1,w0⟩
 rintro n s3 ⟨i,σ3,H3,I3,st3,N6,w3⟩
 rcases turn i n σ3 H3 w3 with⟨stop,qn⟩ | ⟨go,N,hN,step⟩
 ·refine wpAny_passesOwn hp (dQ (T.done X rfl rfl rfl hc i Aa s3 σ3 H3 X.xe I3 (stat N6) st3 stop) fun r s4 ⟨hr,I4⟩ => ?_)
  subst hr
  exact wpAny_execs_nil ⟨σ3,H3,I4,qn⟩
 ·refine wpAny_passesOwn hp (dQ (T.item X rfl rfl rfl hc i Aa s3 σ3 H3 X.xe I3 (stat N6) st3 go) fun r s4 ⟨u,hr,h4⟩ => ?_)
  subst hr
  refine wpAny_passesOwn hp (dQ h4 λ_ s5 ⟨x,H5,I5,r5,y5,Gm,Mp⟩=>?_)
  have I5':=I5.pinned (stat Mp) (T.obj _ _ Gm)
  refine wpAny_passesOwn hp (dQ (hg _ s5 σ3 H5 x u _ I5' r5 (step x H5 y5)) λ_ s6 ⟨σ6,H6,I6,q6⟩=>?_)
  refine wpAny_passesOwn hp (dQ (hb _ s6 σ6 H6 _ I6 q6) λf s7 q7=>?_)
  have again:∀{σ7:St} {H7:Hp},Inv X (Aa++oU fp s5.heap) σ7 H7 s7->N σ7 H7->∃m,m<n/\∃i σ' H',Inv X Aa σ' H' s7/\tn i s7.heap/\(∀b∈fp,H' b=none)/\W i m σ' H':=λ{σ7 H7} I7 n7=>by
   obtain⟨m',hm,w7⟩:=hN σ7 H7 n7
   refine⟨m',hm,i+1,σ7,H7,I7.unpinned,T.keep _ _ _ Gm λb hb o e=>(I7.pin (b,o) (aE _ (aE _ (gc_ hb e)))).1,λb hb=>?_,w7⟩
   obtain⟨o,e,d⟩:=T.obj _ _ Gm b hb
   exact(I7.pin (b,o) (aE _ (aE _ (gc_ hb e)))).2.1
  cases f with
  |next=>obtain⟨σ7,H7,I7,n7⟩:=q7;exact again I7 n7
  |cont=>obtain⟨σ7,H7,I7,n7⟩:=q7;exact again I7 n7
  |brk=>obtain⟨σ7,H7,I7,q7⟩:=q7;exact⟨σ7,H7,I7.unpinned,q7⟩
  |ret v=>obtain⟨x7,σ7,H7,I7,r7,q7⟩:=q7;exact⟨x7,σ7,H7,I7.unpinned,r7,q7⟩
end
abbrev R2:=V->V->Hp->VK->Prop
def OpR(X:Cx)(f:Value->Value->Sem Value)(r:R2):Prop:=
 ∀(Aa:eF) (s:Shared) (σ:St) (H:Hp) (x y:V) (v u:Value) (Q:VK),Inv X Aa σ H s->RelV x v->RelV y u->r x y H Q ->
  wpAny (model X.prog X.w) X.A (f v u) (EP X Aa σ Q) X.xe s
def UnR(X:Cx)(f:Value->Sem Value)(r:V->Hp->VK->Prop):Prop:=
 ∀(Aa:eF) (s:Shared) (σ:St) (H:Hp) (x:V) (v:Value) (Q:VK),Inv X Aa σ H s->RelV x v->r x H Q ->
  wpAny (model X.prog X.w) X.A (f v) (EP X Aa σ Q) X.xe s
def CallR(X:Cx)(f:Value)(r:List V->Hp->VK->Prop):Prop:=
 ∀(Aa:eF) (s:Shared) (σ:St) (H:Hp) (xs:List V) (us:List Value) (Q:VK),Inv X Aa σ H s->Vals xs us->r xs H Q ->
  wpAny (model X.prog X.w) X.A (call f us) (EP X Aa σ Q) X.xe s
def tOp(r:R2)(ta tb:TE):TE:=λσ H Q=>ta σ H λx H1=>tb σ H1 λy H2=>r x y H2 Q
def tUn(r:V->Hp->VK->Prop)(ta:TE):TE:=λσ H Q=>ta σ H λx H1=>r x H1 Q
def rI(C:Int->Int->Prop)(g:Int->Int->V):R2:=λx y H Q=>∃i j,x=.int i/\y=.int j/\C i j/\Q (g i j) H
def rI0(g:Int->Int->V):R2:=λx y H Q=>∃i j,x=.int i/\y=.int j/\Q (g i j) H
def rU(g:Int->V):V->Hp->VK->Prop:=λx H Q=>∃i,x=.int i/\Q (g i) H
section
variable{X:Cx}{a b c:Expr}{ta tb tc:TE}{pos:Pos}
theorem aUh(ha:PE X a ta)(hb:PE X b tb){Aa:eF}{s:Shared}{σ:St}{H:Hp}{R:V->V->Hp->Prop}(I:Inv X Aa σ H s)
  (h:ta σ H λx H1=>tb σ H1 λy H2=>R x y H2) {Q:gG} {f:Value->Value->Sem Value}
  (hf:∀v u s2 x y H2,Inv X Aa σ H2 s2->RelV x v->RelV y u->R x y H2->wpAny (model X.prog X.w) X.A (f v u) Q X.xe s2) :
  wpAny (model X.prog X.w) X.A (eval a X.env) (λv s₁=>wpAny (model X.prog X.w) X.A (eval b X.env) (λu s₂=>wpAny (model X.prog X.w) X.A (f v u) Q X.xe s₂) X.xe s₁) X.xe s:=by
 refine dQ (ha Aa s σ H _ I h) λv s1 ⟨x,H1,I1,r1,q1⟩=>?_
 refine dQ (hb Aa s1 σ H1 _ I1 q1) λu s2 ⟨y,H2,I2,r2,q2⟩=>?_
 exact hf v u s2 x y H2 I2 r1 r2 q2
theorem aXm{op:Operator}{r:R2}(ho:OpR X (binaryOp op) r)(ha:PE X a ta)(hb:PE X b tb):PE X (.BinOp a op b pos) (tOp r ta tb):=by
 intro Aa s σ H Q I h
 exact wpAny_BinOp (aUh ha hb I h λv u s2 x y H2 I2 rx ry q=>ho Aa s2 σ H2 x y v u Q I2 rx ry q)
theorem aDz{op:UnaryOp}{r:V->Hp->VK->Prop}(ho:UnR X (unaryOp op) r)(ha:PE X a ta):PE X (.UnaryOp op a pos) (tUn r ta):=by
 intro Aa s σ H Q I h
 exact UnaryOp_ (dQ (ha Aa s σ H _ I h) λv s1 ⟨x,H1,I1,r1,q1⟩=>ho Aa s1 σ H1 x v Q I1 r1 q1)
theorem opI{f:Value->Value->Sem Value}{C:Int->Int->Prop}{g:Int->Int->Int}
  (rule:∀(i j:Int) (t u:Tok) (s:Shared) (Q:gG) (E:gG),C i j->Q (.int (g i j) s.toks) { s with toks:=s.toks+1 }->wpAny (model X.prog X.w) X.A (f (.int i t) (.int j u)) Q E s) :
  OpR X f (rI C λi j=>.int (g i j)):=by
 intro Aa s σ H x y v u Q I rx ry h
 obtain⟨i,j,rfl,rfl,hc,q⟩:=h
 obtain⟨t,rfl⟩:=rx
 obtain⟨t',rfl⟩:=ry
 exact rule i j t t' s _ _ hc ⟨.int (g i j),H,I.tok _,⟨_,rfl⟩,q⟩
theorem aXr{f:Value->Value->Sem Value}{g:Int->Int->Int}
  (rule:∀(i j:Int) (t u:Tok) (s:Shared) (Q:gG) (E:gG),Q (.int (g i j) s.toks) { s with toks:=s.toks+1 }->wpAny (model X.prog X.w) X.A (f (.int i t) (.int j u)) Q E s) :
  OpR X f (rI0 λi j=>.int (g i j)):=by
 intro Aa s σ H x y v u Q I rx ry h
 obtain⟨i,j,rfl,rfl,q⟩:=h
 obtain⟨t,rfl⟩:=rx
 obtain⟨t',rfl⟩:=ry
 exact rule i j t t' s _ _ ⟨.int (g i j),H,I.tok _,⟨_,rfl⟩,q⟩
theorem aKe{f:Value->Value->Sem Value}{g:Int->Int->Bool}
  (rule:∀(i j:Int) (t u:Tok) (s:Shared) (Q:gG) (E:gG),Q (.bool (g i j)) s->wpAny (model X.prog X.w) X.A (f (.int i t) (.int j u)) Q E s) :
  OpR X f (rI0 λi j=>.bl (g i j)):=by
 intro Aa s σ H x y v u Q I rx ry h
 obtain⟨i,j,rfl,rfl,q⟩:=h
 obtain⟨t,rfl⟩:=rx
 obtain⟨t',rfl⟩:=ry
 exact rule i j t t' s _ _ ⟨.bl (g i j),H,I,rfl,q⟩
def aUr(i j:Int):Prop:=0<=j/\j<=1000000/\i.natAbs<2^64
theorem aRo:OpR X (binaryOp .Add) (rI0 λi j=>.int (i+j)):=aXr λ_ _ _ _ _ _ _ q=>add_int q
theorem aRi:OpR X (binaryOp .Sub) (rI0 λi j=>.int (i-j)):=aXr λ_ _ _ _ _ _ _ q=>sub_int q
theorem aRl:OpR X (binaryOp .Mod) (rI (λ_ j=>0<j) λi j=>.int (i%j)):=opI λi j _ _ _ _ _ hc q=>by
 have h1:(0:Int)<j:=hc
 exact mod_int' (by omega) (by rw[Int.fmod_eq_emod_of_nonneg i (by omega)];exact q)
theorem aRk:OpR X (binaryOp .Pow) (rI aUr λi j=>.int (i^j.toNat)):=opI λ_ _ _ _ _ _ _ hc q=>pow_int_small hc.1 hc.2.1 hc.2.2 q
theorem unI{f:Value->Sem Value}{g:Int->Int}
  (rule:∀(i:Int) (t:Tok) (s:Shared) (Q:gG) (E:gG),Q (.int (g i) s.toks) { s with toks:=s.toks+1 }->wpAny (model X.prog X.w) X.A (f (.int i t)) Q E s) :
  UnR X f (rU λi=>.int (g i)):=by
 intro Aa s σ H x v Q I rx h
 obtain⟨i,rfl,q⟩:=h
 obtain⟨t,rfl⟩:=rx
 exact rule i t s _ _ ⟨.int (g i),H,I.tok _,⟨_,rfl⟩,q⟩
theorem yH:UnR X (unaryOp .USub) (rU λi=>.int (-i)):=unI λ_ _ _ _ _ q=>neg_int q
end
def aQd:V->V->Bool
 | .non,.non=>true | .non,.int _=>true | .int _,.non=>true | .non,.bl _=>true | .bl _,.non=>true | .non,.str _=>true | .str _,.non=>true
 | .int _,.int _=>true | .bl _,.bl _=>true | .str _,.str _=>true | .byt _,.byt _=>true
 | .int _,.str _=>true | .str _,.int _=>true | .bl _,.str _=>true | .str _,.bl _=>true
 |_,_=>false
def rEq:R2:=λx y H Q=>aQd x y=true/\Q (.bl (decide (x=y))) H
def rNe:R2:=λx y H Q=>aQd x y=true/\Q (.bl (!decide (x=y))) H
theorem m_{i j:Int}:decide (V.int i=V.int j)=(i == j):=by
 rw[fC]
 simp
theorem aGt{i j:Bool}:decide (V.bl i=V.bl j)=(i == j):=by
 rw[fC]
 simp
theorem m9{i j:Str}:decide (V.str i=V.str j)=(i == j):=by
 rw[fC]
 simp
theorem n6{i j:Array UInt8}:decide (V.byt i=V.byt j)=(i.toList == j.toList):=by
 rw[fC]
 cases i
 cases j
 simp
section
variable{X:Cx}{a b c:Expr}{ta tb tc:TE}{pos:Pos}
theorem jY{Aa:eF}{σ:St}{H:Hp}{s:Shared}{Q:VK}{k k':Bool}(I:Inv X Aa σ H s)(q:Q (.bl k) H)(e:k=k'):EP X Aa σ Q (.bool k') s:=by
 subst e
 exact⟨.bl k,H,I,rfl,q⟩
theorem aXq:OpR X (compareOp .Eq) rEq:=by
 intro Aa s σ H x y v u Q I rx ry h
 obtain⟨hs,q⟩:=h
 cases x with
 |non =>
  cases rx
  cases y with
  |non=>cases ry;exact PySem.EqNone.eq_none_none (jY I q (by simp))
  |bl j=>cases ry;exact PySem.EqNone.eq_none_bool (jY I q (by simp))
  |int j=>obtain⟨t',rfl⟩:=ry;exact PySem.EqNone.eq_none_int (jY I q (by simp))
  |str j=>obtain⟨t',rfl⟩:=ry;exact PySem.EqNone.eq_none_str (jY I q (by simp))
  |_=>exact absurd (show false=true from hs) bO
 |bl i =>
  cases rx
  cases y with
  |non=>cases ry;exact PySem.EqNone.eq_bool_none (jY I q (by simp))
  |bl j=>cases ry;exact eq_bool (jY I q aGt)
  |str j=>obtain⟨t',rfl⟩:=ry;exact PySem.EqMixed.eq_bool_str (jY I q (by simp))
  |_=>exact absurd (show false=true from hs) bO
 |int i =>
  obtain⟨t,rfl⟩:=rx
  cases y with
  |non=>cases ry;exact PySem.EqNone.eq_int_none (jY I q (by simp))
  |int j=>obtain⟨t',rfl⟩:=ry;exact eq_int (jY I q m_)
  |str j=>obtain⟨t',rfl⟩:=ry;exact PySem.EqMixed.eq_int_str (jY I q (by simp))
  |_=>exact absurd (show false=true from hs) bO
 |str i =>
  obtain⟨t,rfl⟩:=rx
  cases y with
  |non=>cases ry;exact PySem.EqNone.eq_str_none (jY I q (by simp))
  |bl j=>cases ry;exact PySem.EqMixed.eq_str_bool (jY I q (by simp))
  |int j=>obtain⟨t',rfl⟩:=ry;exact PySem.EqMixed.eq_str_int (jY I q (by simp))
  |str j=>obtain⟨t',rfl⟩:=ry;exact eq_str (jY I q m9)
  |_=>exact absurd (show false=true from hs) bO
 |byt i =>
  obtain⟨t,rfl⟩:=rx
  cases y with
  |byt j=>obtain⟨t',rfl⟩:=ry;exact PySem.W.eq_bytes (jY I q n6)
  |_=>exact absurd (show false=true from hs) bO
 |_=>cases y<;>exact absurd (show false=true from hs) bO
theorem aXp:OpR X (compareOp .NotEq) rNe:=by
 intro Aa s σ H x y v u Q I rx ry h
 obtain⟨hs,q⟩:=h
 cases x with
 |non =>
  cases rx
  cases y with
  |non=>cases ry;exact PySem.EqNone.ne_none_none (jY I q (by simp))
  |bl j=>cases ry;exact PySem.EqNone.ne_none_bool (jY I q (by simp))
  |int j=>obtain⟨t',rfl⟩:=ry;exact PySem.EqNone.ne_none_int (jY I q (by simp))
  |str j=>obtain⟨t',rfl⟩:=ry;exact PySem.EqNone.ne_none_str (jY I q (by simp))
  |_=>exact absurd (show false=true from hs) bO
 |bl i =>
  cases rx
  cases y with
  |non=>cases ry;exact PySem.EqNone.ne_bool_none (jY I q (by simp))
  |bl j=>cases ry;exact ne_bool (jY I q (congrArg not aGt))
  |str j=>obtain⟨t',rfl⟩:=ry;exact PySem.EqMixed.ne_bool_str (jY I q (by simp))
  |_=>exact absurd (show false=true from hs) bO
 |int i =>
  obtain⟨t,rfl⟩:=rx
  cases y with
  |non=>cases ry;exact PySem.EqNone.ne_int_none (jY I q (by simp))
  |int j=>obtain⟨t',rfl⟩:=ry;exact ne_int (jY I q (congrArg not m_))
  |str j=>obtain⟨t',rfl⟩:=ry;exact PySem.EqMixed.ne_int_str (jY I q (by simp))
  |_=>exact absurd (show false=true from hs) bO
 |str i =>
  obtain⟨t,rfl⟩:=rx
  cases y with
  |non=>cases ry;exact PySem.EqNone.ne_str_none (jY I q (by simp))
  |bl j=>cases ry;exact PySem.EqMixed.ne_str_bool (jY I q (by simp))
  |int j=>obtain⟨t',rfl⟩:=ry;exact PySem.EqMixed.ne_str_int (jY I q (by simp))
  |str j=>obtain⟨t',rfl⟩:=ry;exact ne_str (jY I q (congrArg not m9))
  |_=>exact absurd (show false=true from hs) bO
 |byt i =>
  obtain⟨t,rfl⟩:=rx
  cases y with
  |byt j=>obtain⟨t',rfl⟩:=ry;exact PySem.W.ne_bytes (jY I q (congrArg not n6))
  |_=>exact absurd (show false=true from hs) bO
 |_=>cases y<;>exact absurd (show false=true from hs) bO
theorem vI:OpR X (compareOp .Lt) (rI0 λi j=>.bl (decide (i<j))):=aKe λ_ _ _ _ _ _ _ q=>lt_int q
theorem aOh:OpR X (compareOp .LtE) (rI0 λi j=>.bl (decide (i<=j))):=aKe λ_ _ _ _ _ _ _ q=>le_int q
theorem hy_:OpR X (compareOp .Gt) (rI0 λi j=>.bl (decide (j<i))):=aKe λ_ _ _ _ _ _ _ q=>gt_int q
theorem h_:OpR X (compareOp .GtE) (rI0 λi j=>.bl (decide (j<=i))):=aKe λ_ _ _ _ _ _ _ q=>ge_int q
theorem gu_:OpR X (compareOp .In) (λx y H Q=>∃i j,x=.str i/\y=.str j/\Q (.bl (!(Builtin.Str.occurrences j i 0 j.length 1).isEmpty)) H):=by
 intro Aa s σ H x y v u Q I rx ry h
 obtain⟨i,j,rfl,rfl,q⟩:=h
 obtain⟨t,rfl⟩:=rx
 obtain⟨t',rfl⟩:=ry
 exact in_str (jY I q rfl)
theorem lO:OpR X (compareOp .Is) (λx y H Q=>y=.non/\Q (.bl (decide (x=.non))) H):=by
 intro Aa s σ H x y v u Q I rx ry h
 obtain⟨rfl,q⟩:=h
 cases ry
 refine is_none_gen (jY I q ?_)
 cases x<;>first
  |(cases rx;rfl)
  |(obtain⟨t,rfl⟩:=rx;rfl)
theorem aKc:OpR X (compareOp .IsNot) (λx y H Q=>y=.non/\Q (.bl (!decide (x=.non))) H):=by
 intro Aa s σ H x y v u Q I rx ry h
 obtain⟨rfl,q⟩:=h
 cases ry
 refine isnot_none_gen (jY I q ?_)
 cases x<;>first
  |(cases rx;rfl)
  |(obtain⟨t,rfl⟩:=rx;rfl)
theorem hv_:OpR X (compareOp .NotIn) (λx y H Q=>∃i j,x=.str i/\y=.str j/\Q (.bl (!(!(Builtin.Str.occurrences j i 0 j.length 1).isEmpty))) H):=by
 intro Aa s σ H x y v u Q I rx ry h
 obtain⟨i,j,rfl,rfl,q⟩:=h
 obtain⟨t,rfl⟩:=rx
 obtain⟨t',rfl⟩:=ry
 exact notIn_str (jY I q rfl)
theorem OpR.or{f:Value->Value->Sem Value}{r r':R2}(h:OpR X f r)(h':OpR X f r'):OpR X f (λx y H Q=>r x y H Q\/r' x y H Q):=by
 intro Aa s σ H x y v u Q I rx ry q
 rcases q with q | q
 ·exact h Aa s σ H x y v u Q I rx ry q
 ·exact h' Aa s σ H x y v u Q I rx ry q
theorem bD(b:Expr){op:CmpOp}(h:op ≠ .In:=by decide)(h2:op ≠ .NotIn:=by decide):behindInMarks op b=false:=by
 have e1:(op == CmpOp.In)=false:=by cases op<;>first | rfl | exact absurd rfl h
 have e2:(op == CmpOp.NotIn)=false:=by cases op<;>first | rfl | exact absurd rfl h2
 cases b<;>simp[behindInMarks,e1,e2]
theorem aJu{op:CmpOp}{r:R2}(ho:OpR X (compareOp op) r)(ha:PE X a ta)(hb:PE X b tb)(hm:behindInMarks op b=false):PE X (.Compare a [op] [b] pos) (tOp r ta tb):=by
 intro Aa s σ H Q I h
 exact wpAny_Compare1 (aUh ha hb I h λv u s2 x y H2 I2 rx ry q=>ho Aa s2 σ H2 x y v u Q I2 rx ry q) hm
def aCo(t:TE):TT:=λσ H Q=>t σ H λx H'=>∃k,x=.bl k/\Q k H'
theorem tV{op:CmpOp}{r:R2}(ho:OpR X (compareOp op) r)(ha:PE X a ta)(hb:PE X b tb)(hm:behindInMarks op b=false):PT X (.Compare a [op] [b] pos) (aCo (tOp r ta tb)):=by
 intro Aa s σ H Q I h
 refine wpAny_isTrue_Compare1 (dQ (ha Aa s σ H _ I h) λv s1 ⟨x,H1,I1,r1,q1⟩=>dQ (hb Aa s1 σ H1 _ I1 q1) λu s2 ⟨y,H2,I2,r2,q2⟩ =>
  dQ (ho Aa s2 σ H2 x y v u _ I2 r1 r2 q2) λc s3 ⟨z,H3,I3,r3,k,e,q3⟩=>?_) hm
 subst e
 cases r3
 exact wpAny_truthy_bool ⟨H3,I3,q3⟩
def aCs(r r':R2)(ta tb tc:TE):TE:=λσ H Q=>ta σ H λx H1=>tb σ H1 λy H2=>r x y H2 λz H3=>∃k,z=.bl k /\
 (if k=true then tc σ H3 λw' H4=>r' y w' H4 Q else Q (.bl false) H3)
theorem aEg{op op':CmpOp}{r r':R2}(ho:OpR X (compareOp op) r)(Ff:OpR X (compareOp op') r')(ha:PE X a ta)(hb:PE X b tb)(hc:PE X c tc)
  (hm:lastMarks [op,op'] [b,c]=false:=by with_unfolding_all rfl):PE X (.Compare a [op,op'] [b,c] pos) (aCs r r' ta tb tc):=by
 intro Aa s σ H Q I h
 refine Compare_chain (dQ (ha Aa s σ H _ I h) λv s1 ⟨x,H1,I1,r1,q1⟩=>chain_link (dQ (hb Aa s1 σ H1 _ I1 q1) λu s2 ⟨y,H2,I2,r2,q2⟩ =>
  dQ (ho Aa s2 σ H2 x y v u _ I2 r1 r2 q2) λd s3 ⟨z,H3,I3,r3,k,e,q3⟩=>?_)) hm
 subst e
 cases r3
 refine wpAny_truthy_bool ?_
 cases k with
 |false=>exact ite_ff ⟨.bl false,H3,I3,rfl,q3⟩
 |true=>exact ite_tt (chain_last (dQ (hc Aa s3 σ H3 _ I3 q3) λw' s4 ⟨z',H4,I4,r4,q4⟩=>Ff Aa s4 σ H4 y z' u w' Q I4 r2 r4 q4))
theorem kU:(sizeLine:Nat)<2^63:=by rw[sizeLine_eq];decide
theorem zC:OpR X (binaryOp .Add) (λx y H Q=>∃i j,x=.str i/\y=.str j/\i.length+j.length<=sizeLine/\Q (.str (i++j)) H):=by
 intro Aa s σ H x y v u Q I rx ry h
 obtain⟨i,j,rfl,rfl,hz,q⟩:=h
 obtain⟨t,rfl⟩:=rx
 obtain⟨t',rfl⟩:=ry
 exact add_str (λt' tk=>⟨.str (i++j),H,I.tok _,⟨_,rfl⟩,q⟩) hz
theorem gL{x:V}{us:List Value}(r:Vals [x] us):∃u,us=[u]/\RelV x u:=by
 cases r with
 |cons r1 r2=>cases r2;exact⟨_,rfl,r1⟩
theorem vR{x y:V}{us:List Value}(r:Vals [x,y] us):∃u w',us=[u,w']/\RelV x u/\RelV y w':=by
 cases r with
 |cons r1 r2 =>
  cases r2 with
  |cons r3 r4=>cases r4;exact⟨_,_,rfl,r1,r3⟩
theorem sD(hc:X.calm=true):CallR X (.builtin "max") (λxs H Q=>∃i j,xs=[.int i,.int j]/\Q (.int (if j>i then j else i)) H):=by
 intro Aa s σ H xs us Q I r h
 obtain⟨i,j,rfl,q⟩:=h
 obtain⟨u,w',rfl,⟨t,rfl⟩,⟨t',rfl⟩⟩:=vR r
 refine max_two_ints (I.ok.hd hc) λh' tk k=>⟨_,H,I.kept k,?_,q⟩
 by_cases hj:j>i
 ·rw[if_pos hj,if_pos hj];exact⟨_,rfl⟩
 ·rw[if_neg hj,if_neg hj];exact⟨_,rfl⟩
theorem aAq(hc:X.calm=true):CallR X (.builtin "min") (λxs H Q=>∃i j,xs=[.int i,.int j]/\Q (.int (if j<i then j else i)) H):=by
 intro Aa s σ H xs us Q I r h
 obtain⟨i,j,rfl,q⟩:=h
 obtain⟨u,w',rfl,⟨t,rfl⟩,⟨t',rfl⟩⟩:=vR r
 refine min_two_ints (I.ok.hd hc) λh' tk k=>⟨_,H,I.kept k,?_,q⟩
 by_cases hj:j<i
 ·rw[if_pos hj,if_pos hj];exact⟨_,rfl⟩
 ·rw[if_neg hj,if_neg hj];exact⟨_,rfl⟩
theorem dc_:CallR X (.type "int") (λxs H Q=>(∃i,xs=[.int i]/\Q (.int i) H)\/∃k,xs=[.bl k]/\Q (.int (if k then 1 else 0)) H):=by
 intro Aa s σ H xs us Q I r h
 rcases h with⟨i,rfl,q⟩ | ⟨k,rfl,q⟩
 ·obtain ⟨u,rfl,t,rfl⟩:=gL r
  exact call_int_int ⟨.int i,H,I,⟨_,rfl⟩,q⟩
 ·obtain ⟨u,rfl,r1⟩:=gL r
  cases r1
  exact call_int_bool ⟨.int (if k then 1 else 0),H,I.tok _,⟨_,rfl⟩,q⟩
end
structure ObjM(h:Heap)(x dx C:Addr)(mA:kP):Prop where
 obj:h.get? x=some (PySem.W.instObj C dx)
 ns:h.Ns1 dx mA
 ne:dx≠x
theorem w6{h:Heap}{dx:Addr}{mA:kP}(n:h.Ns1 dx mA):∃od,h.get? dx=some od/\∀name,PySem.W.lookIn name od=some (mA name):=by
 obtain⟨o,es,ep,ho,hd,hk,_,hm⟩:=n
 refine⟨o,ho,λname=>?_⟩
 have e:=hm name
 unfold nsFind findBy at e
 rw[<-Array.find?_toList]at e
 unfold PySem.W.lookIn
 rw[hd]
 dsimp only
 split
 ·rename_i y q
  rw[q]at e
  exact congrArg some e
 ·rename_i q
  rw[q]at e
  have a:es.toList.any (·.refKey)=false:=by
   rw[List.any_eq_false]
   intro y hy
   obtain⟨z,t,Gb⟩:=hk y (Array.mem_toList_iff.mp hy)
   simp[DictEntry.refKey,Gb]
  have a':¬es.toList.any (·.refKey)=true:=by rw[a];exact bO
  rw[if_neg a']
  exact congrArg some e
theorem ObjM.look{h:Heap}{x dx C:Addr}{mA:kP}(I:ObjM h x dx C mA):∃od,PySem.W.InstAt h x (PySem.W.instObj C dx) C (some od)/\∀name,PySem.W.lookIn name od=some (mA name):=
 let ⟨od,ho,hl⟩:=w6 I.ns
 ⟨od,⟨I.obj,rfl,rfl,ho⟩,hl⟩
section
variable{prog:Program}{w:World}{A:Around}{E:gG}{s:Shared}{K:cZ}{x dx C f:Addr}{mA:kP}{name:Str}{v:Value}
theorem aLt{expr:Bool}{Q:gG}(X:K.In s.heap)(I:ObjM s.heap x dx C mA)(hg:PySem.W.plainGet K C name=true)(hh:PySem.W.hasDictIn K C=true)
  (ha:PySem.W.findIn K (.ref C) name=some none) (hv:mA name=some v) (A2:PySem.W.handedIn v=true) (h:Q v { s with toks:=s.toks+1 }) :
  wpAny (model prog w) A (getAttr (.ref x) name expr) Q E s:=by
 obtain⟨od,J,hl⟩:=I.look
 exact PySem.W.get_value X J (PySem.W.plainGet_of hg).1 (PySem.W.findObj_own hh ha rfl (by rw[hl,hv])) A2 h
theorem aGb{pl:Sem Bool}{Q:Value×List Value->Shared->Prop}(X:K.In s.heap)(I:ObjM s.heap x dx C mA)(hg:PySem.W.plainGet K C name=true)
  (hf:PySem.W.findIn K (.ref C) name=some (some (.ref f))) (ht:PySem.W.isFn K (.ref f)=true) (hv:mA name=none) (h:Q (.ref f,[.ref x]) s) :
  wpAny (model prog w) A (getMethod (.ref x) name pl) Q E s:=by
 obtain⟨od,J,hl⟩:=I.look
 exact PySem.W.method_fn X J (PySem.W.plainGet_of hg).1 (PySem.W.plainGet_of hg).2 hf (beq_iff_eq.mp ht) (by show(PySem.W.lookIn name od).map (·.isSome)=some false;rw[hl,hv];rfl) h
theorem aJa{ns:List Str}{Q:Unit->Shared->Prop}(X:K.In s.heap)(I:ObjM s.heap x dx C mA)
  (hs:PySem.W.findIn K (.ref C) "__setattr__" = some (some (.builtin "object.__setattr__"))) (hp:PySem.W.plainOver K C=true) (ht:PySem.W.takerIn K C name=some none) (hh:PySem.W.hasDictIn K C=true)
  (hw:PySem.Within mA ns) (hsz:ns.length<=sizeLine)
  (h:∀h',ObjM h' x dx C (λy=>if y=name then some v else mA y)->Heap.SameBut dx s.heap h'->Q () { s with heap:=h',toks:=s.toks+2 }) :
  wpAny (model prog w) A (setAttr (.ref x) name v) Q E s:=by
 obtain⟨od,J,hl⟩:=I.look
 refine PySem.W.set_plain X J hs (PySem.W.osa_open (s:={ s with toks:=s.toks+1 }) (r:=none) X J hp ht λb=>?_)
 obtain⟨cd,hc,Ju⟩:=PySem.W.any_some hh
 have hx:s.heap.get? x=some ⟨.ref C,some dx,.plain,#[]⟩:=I.obj
 refine wpAny_bind (wpAny_pure (wpAny_bind (wpAny_bind (wpAny_loadPart hx (wpAny_bind (PySem.W.Looks.here (s:={ s with toks:=s.toks+1 }) (PySem.W.looks_clsIn X hc) ?_))))))
 rw[Ju]
 refine wpAny_pure (a:=some dx) (wpAny_bind (wpAny_pure (wpAny_bind ?_)))
 refine wpAny_nsSet1 (s:={ s with toks:=s.toks+1 }) I.ns λh' Gu Eb=>?_
 obtain⟨oD,esD,epD,hoD,hdD,Gg⟩:=Gu.count (PySem.Within.cons name v hw)
 refine wpAny_bind (wpAny_lookBehind hoD (by rw[hdD];exact pastItsLine_dict (nzL Gg (by rw[aD];omega))) ?_)
 exact wpAny_pure (h _ ⟨(Eb.2 _ (Ne.symm I.ne)).trans I.obj,Gu,I.ne⟩ Eb)
theorem aFe{R:Result->Shared->Prop}{vs:List Value}{kw:List (Str×Value)}(X:K.In s.heap)(hm:PySem.W.makesIn K C=true)
  (hi:PySem.W.findIn K (.ref C) "__init__" = some (some (.ref f))) (hf:PySem.W.typeIn K (.ref f)=some (.type "function"))
  (h:codeAny (model prog w) (A.under (.builtin "type.__call__" ⟨.ref C :: vs,kw⟩)) (.call (.ref f) ⟨.ref (s.heap.objs.size + 1) :: vs,kw⟩) (PySem.W.InitBack (s.heap.objs.size + 1) R)
   { s with heap:=(s.heap.push PySem.W.emptyDict).push (PySem.W.instObj C s.heap.objs.size) }) :
  codeAny (model prog w) A (.call (.ref C) ⟨vs,kw⟩) R s:=by
 obtain⟨hh,g,d,t,os⟩:=s
 exact PySem.W.make_core (PySem.W.makes_of X hm) (PySem.W.looks_findIn X hi) (λself=>PySem.W.bind_fn X self hf) (.inl rfl) h
end
def iC(f:Str)(v:V):List (Str×V)->List (Str×V)
 | []=>[(f,v)]
 |(g,x)::r=>if g=f then(g,v)::r else(g,x)::iC f v r
theorem jb_(f g:Str)(v:V):∀fs:List (Str×V),(iC f v fs).lookup g=if g=f then some v else fs.lookup g
 | []=>by
  show List.lookup g [(f,v)]=_
  by_cases h:g=f
  ·have hb:(g == f)=true:=beq_iff_eq.mpr h
   simp only[List.lookup,hb,if_pos h]
  ·have hb:(g == f)=false:=beq_eq_false_iff_ne.mpr h
   simp only[List.lookup,hb,if_neg h]
 |(k,x)::r=>by
  have ih:=jb_ f g v r
  rw[show iC f v ((k,x)::r)=(if k=f then(k,v)::r else(k,x)::iC f v r)from rfl]
  by_cases hk:k=f
  ·rw [if_pos hk]
   by_cases h:g=k
   ·have hb:(g == k)=true:=beq_iff_eq.mpr h
    simp only[List.lookup,hb,if_pos (h.trans hk)]
   ·have hb:(g == k)=false:=beq_eq_false_iff_ne.mpr h
    simp only[List.lookup,hb,if_neg (λe:g=f=>h (e.trans hk.symm))]
  ·rw [if_neg hk]
   by_cases h:g=k
   ·have hb:(g == k)=true:=beq_iff_eq.mpr h
    simp only[List.lookup,hb,if_neg (λe:g=f=>hk (h.symm.trans e))]
   ·have hb:(g == k)=false:=beq_eq_false_iff_ne.mpr h
    simp only[List.lookup,hb]
    exact ih
theorem je_(f:Str)(v:V):∀fs:List (Str×V),f∈(iC f v fs).map (·.1)/\∀g,g∈fs.map (·.1)->g∈(iC f v fs).map (·.1)
 | []=>⟨by simp[iC],λg h=>by simp at h⟩
 |(k,x)::r=>by
  obtain⟨i1,i2⟩:=je_ f v r
  rw[show iC f v ((k,x)::r)=(if k=f then(k,v)::r else(k,x)::iC f v r)from rfl]
  by_cases hk:k=f
  ·rw [if_pos hk]
   subst hk
   exact⟨by simp,λg h=>by simpa using h⟩
  ·rw [if_neg hk]
   refine⟨?_,λg h=>?_⟩
   ·rw [bB]
    exact aC _ i1
   ·rw [bB] at h ⊢
    rcases aF.mp h with e | e
    ·exact aF.mpr (.inl e)
    ·exact aC _ (i2 g e)
theorem jd_(f:Str)(v:V):∀fs:List (Str×V),(iC f v fs).length<=fs.length+1
 | []=>by simp[iC]
 |(k,x)::r=>by
  have ih:=jd_ f v r
  rw[show iC f v ((k,x)::r)=(if k=f then(k,v)::r else(k,x)::iC f v r)from rfl]
  by_cases hk:k=f
  ·rw[if_pos hk,aD,aD];omega
  ·rw[if_neg hk,aD,aD];omega
theorem RelO.some_of{v:V}{o:Option Value}(r:RelO (some v) o):∃u,o=some u/\RelV v u:=by
 cases o with
 |none=>exact(show False from r).elim
 |some u=>exact⟨u,rfl,r⟩
theorem RelO.none_of{o:Option Value}(r:RelO none o):o=none:=by
 cases o with
 |none=>rfl
 |some u=>exact(show False from r).elim
theorem z7{v:V}{u:Value}(r:RelV v u):PySem.W.handedIn u=true:=by
 cases v with
 |non=>cases(show u=Value.none from r);rfl
 |bl b=>cases(show u=Value.bool b from r);rfl
 |int i=>obtain⟨t,e⟩:=(show ∃t,u=Value.int i t from r);cases e;rfl
 |str x=>obtain⟨t,e⟩:=(show ∃t,u=Value.str x t from r);cases e;rfl
 |byt b=>obtain⟨t,e⟩:=(show ∃t,u=Value.bytes b t from r);cases e;rfl
 |flt b=>obtain⟨t,e⟩:=(show ∃t,u=Value.float b t from r);cases e;rfl
 |ref a=>cases(show u=Value.ref a from r);rfl
 |ty n=>cases(show u=Value.type n from r);rfl
section
variable{P:Program}{w:World}{H H':Hp}{h h':Heap}{a C dx:Addr}{fs fs':List (Str×V)}
theorem mX(hok:HOk P w H h)(e:H a=some (.ins C dx fs)):∃mA,ObjM h a dx C mA/\(∀f,RelO (fs.lookup f) (mA f))/\PySem.Within mA (fs.map (·.1))/\fs.length<=1000/\H dx=some (.own a):=by
 obtain⟨d,z,ne,ob,mA,n,r,q⟩:=(show ObjOk P w H h a (.ins C dx fs)from hok a _ e)
 exact⟨mA,⟨ob,n,ne⟩,r,q,z,d⟩
end
structure Cls(K:cZ)(C:Addr):Prop where
 pg:PySem.W.plainGet K C Str.empty=true
 hd:PySem.W.hasDictIn K C=true
 po:PySem.W.plainOver K C=true
 sa:PySem.W.findIn K (.ref C) "__setattr__" = some (some (.builtin "object.__setattr__"))
theorem Cls.get{K:cZ}{C:Addr}(c:Cls K C)(f:Str):PySem.W.plainGet K C f=true:=c.pg
def NoAttr(K:cZ)(C:Addr)(f:Str):Prop:=PySem.W.findIn K (.ref C) f=some none
theorem NoAttr.taker{K:cZ}{C:Addr}{f:Str}(n:NoAttr K C f):PySem.W.takerIn K C f=some none:=by
 unfold PySem.W.takerIn
 rw[show PySem.W.findIn K (.ref C) f=some none from n]
 rfl
structure Meth(K:cZ)(C:Addr)(m:Str)(f:Addr):Prop where
 at_:PySem.W.findIn K (.ref C) m=some (some (.ref f))
 fn:PySem.W.isFn K (.ref f)=true
 kp:PySem.W.keepIn K (.ref f)=true
section
variable{X:Cx}{Aa:eF}{σ:St}{H:Hp}{s:Shared}{a C dx:Addr}{fs:List (Str×V)}{f:Str}{v:V}{A:Around}{E:gG}
theorem zR{b:Bool}{Q:gG}(I:Inv X Aa σ H s)(e:H a=some (.ins C dx fs))(c:Cls X.K C)(n:NoAttr X.K C f)(l:fs.lookup f=some v)
  (h:∀u s',Inv X Aa σ H s'->RelV v u->Q u s'):wpAny (model X.prog X.w) A (getAttr (.ref a) f b) Q E s:=by
 obtain⟨mA,O,r,_,_,_⟩:=mX I.hok e
 obtain⟨u,hu,ru⟩:=RelO.some_of (v:=v) (o:=mA f) (by rw[<-l];exact r f)
 exact aLt I.kIn O (c.get f) c.hd n hu (z7 ru) (h u _ (I.tok _) ru)
theorem pG{m:Str}{g:Addr}{pl:Sem Bool}{Q:Value×List Value->Shared->Prop}(I:Inv X Aa σ H s)(e:H a=some (.ins C dx fs))(c:Cls X.K C)(k:Meth X.K C m g)(l:fs.lookup m=none)
  (h:Q (.ref g,[.ref a]) s):wpAny (model X.prog X.w) A (getMethod (.ref a) m pl) Q E s:=by
 obtain⟨mA,O,r,_,_,_⟩:=mX I.hok e
 have hn:mA m=none:=RelO.none_of (by rw[<-l];exact r m)
 exact aGb I.kIn O (c.get m) k.at_ k.fn hn h
theorem yR{y:V}{u:Value}{Q:Unit->Shared->Prop}(I:Inv X Aa σ H s)(e:H a=some (.ins C dx fs))(c:Cls X.K C)(n:NoAttr X.K C f)(hl:fs.length<1000)(ry:RelV y u)
  (h:∀s',Inv X Aa σ (upd H a (.ins C dx (iC f y fs))) s'->Q () s'):wpAny (model X.prog X.w) A (setAttr (.ref a) f u) Q E s:=by
 obtain⟨mA,O,r,wi,_,ho⟩:=mX I.hok e
 have hz:(fs.map (·.1)).length<=sizeLine:=by rw[aG,sizeLine_eq];omega
 refine aJa I.kIn O c.sa c.po n.taker c.hd wi hz λh' O' sb=>h _ ?_
 have hd:∃o,h'.get? dx=some o:=let ⟨o,_,_,e',_⟩:=O'.ns;⟨o,e'⟩
 refine I.write (x:=a) (e:=dx) (by rw[e];exact True.intro) (.inr ho) (λb q hb z=>(sb.2 b hb).trans z) hd ?_
 refine⟨by rw[dW O.ne];exact ho,?_,O.ne,O'.obj,_,O'.ns,λg=>?_,λg hg=>?_⟩
 ·have:=jd_ f y fs;omega
 ·show RelO ((iC f y fs).lookup g) (if g=f then some u else mA g)
  rw[jb_]
  by_cases q:g=f
  ·rw[if_pos q,if_pos q];exact ry
  ·rw[if_neg q,if_neg q];exact r g
 ·by_cases q:g=f
  ·rw[q];exact(je_ f y fs).1
  ·refine (je_ f y fs).2 g (wi g fun z=>hg ?_)
   show(if g=f then some u else mA g)=none
   rw[if_neg q];exact z
theorem Inv.made(I:Inv X Aa σ H s):Inv X Aa σ (upd (upd H s.heap.objs.size (.own (s.heap.objs.size+1))) (s.heap.objs.size+1) (.ins C s.heap.objs.size []))
  { s with heap:=(s.heap.push PySem.W.emptyDict).push (PySem.W.instObj C s.heap.objs.size) }:=by
 have e1:(s.heap.push PySem.W.emptyDict).get? s.heap.objs.size=some PySem.W.emptyDict:=bP s.heap rfl
 have e2:((s.heap.push PySem.W.emptyDict).push (PySem.W.instObj C s.heap.objs.size)).get? (s.heap.objs.size+1)=some (PySem.W.instObj C s.heap.objs.size):=by
  have:=bP (s.heap.push PySem.W.emptyDict) (o:=PySem.W.instObj C s.heap.objs.size) rfl
  rwa [Heap.size_push]at this
 have e3:(s.heap.push PySem.W.emptyDict).Ns s.heap.objs.size (λ_=>none):=⟨PySem.W.emptyDict,#[],_,e1,rfl,(λe he=>absurd he (by simp)),λ_=>rfl⟩
 have I1:=I.laid (a:=s.heap.objs.size) (o:=.own (s.heap.objs.size+1)) (h':=s.heap.push PySem.W.emptyDict) (t':=s.toks) (λb u q=>aQ _ q) (bA _) ⟨_,e1⟩
 refine I1.laid (a:=s.heap.objs.size+1) (o:=.ins C s.heap.objs.size []) (t':=s.toks) (λb u q=>aQ _ q) (Nat.le_of_eq (Heap.size_push _ _)) ?_
 have ne:s.heap.objs.size≠s.heap.objs.size+1:=cH (Nat.lt_succ_self _)
 refine⟨by rw[dW ne,bU],cF _,ne,e2,λ_=>none,(Heap.Ns1.of_empty e3).at λo q=>aQ _ q,λ_=>True.intro,λy hy=>absurd rfl hy⟩
theorem aMq{prog:Program}{w:World}{env:Env}{e:Expr}{f:Str}{pos:Pos}{s:Shared}{Q:gG}(hb:attributeBase e f env (eval e env)=eval e env)
  (h:wpAny (model prog w) A (eval e env) (λo s₁=>wpAny (model prog w) A (getAttr o f true) Q E s₁) E s):wpAny (model prog w) A (eval (.Attribute e f pos) env) Q E s:=
 Attribute_any_ h (by rw[arm_eval_Attribute,hb])
end
def bBx(K:cZ)(ta:TE)(f:Str):TE:=λσ H Q=>ta σ H λx H1=>∃a C dx fs v,x=.ref a/\H1 a=some (.ins C dx fs)/\Cls K C/\NoAttr K C f/\fs.lookup f=some v/\Q v H1
def bCa(K:cZ)(ta tv:TE)(f:Str):TS:=λD σ H=>tv σ H λy H1=>ta σ H1 λx H2=>∃a C dx fs,x=.ref a/\H2 a=some (.ins C dx fs)/\Cls K C/\NoAttr K C f/\fs.length<1000 /\
 D.nx σ (upd H2 a (.ins C dx (iC f y fs)))
section
variable{X:Cx}{o e value:Expr}{f:Str}{pos pos' tpos:Pos}{ta tv:TE}
theorem aRc(he:PE X e ta)(hb:attributeBase e f X.env (eval e X.env)=eval e X.env):PE X (.Attribute e f pos) (bBx X.K ta f):=by
 intro Aa s σ H Q I h
 refine aMq hb (dQ (he Aa s σ H _ I h) λu s1 ⟨x,H1,I1,rx,a,C,dx,fs,v,ex,ea,c,n,l,q⟩=>?_)
 subst ex
 obtain rfl:u=Value.ref a:=rx
 exact zR I1 ea c n l λu' s2 I2 ru=>⟨v,H1,I2,ru,q⟩
theorem aQv(ha:PE X o ta)(hv:PE X value tv)(hs:swapsWith value (some (.Attribute o f pos')) pos.line X.env=pure false):PS X (.Assign [.Attribute o f pos'] value pos) (bCa X.K ta tv f):=by
 intro Aa s σ H D I h
 refine plainObj_wpAny_Assign_Attribute (dQ (hv Aa s σ H _ I h) λu s1 ⟨y,H1,I1,ry,q⟩=>dQ (ha Aa s1 σ H1 _ I1 q) λov s2 ⟨x,H2,I2,rx,a,C,dx,fs,ex,ea,c,n,l,q2⟩=>?_) hs
 subst ex
 obtain rfl:ov=Value.ref a:=rx
 exact yR I2 ea c n l ry λs3 I3=>⟨σ,_,I3,q2⟩
end
section
variable{X:Cx}{Aa:eF}{σ:St}{H:Hp}{s:Shared}{A:Around}{E:gG}{Q:gG}{c:Value}{b:Bool}
inductive TyOf(K:cZ)(H:Hp):V->Value->Prop where
 |non:TyOf K H .non (.type "NoneType")
 |bl (x:Bool):TyOf K H (.bl x) (.type "bool")
 |int (i:Int):TyOf K H (.int i) (.type "int")
 |str (x:Str):TyOf K H (.str x) (.type "str")
 |flt (x:UInt64):TyOf K H (.flt x) (.type "float")
 |lst {a:Addr} {xs:List V} (e:H a=some (.lst xs)):TyOf K H (.ref a) (.type "list")
 |frz {a:Addr} {o:Obj} {xs:List V} (e:H a=some (.frz o (.lst xs))):TyOf K H (.ref a) (.type "list")
 |tup {a:Addr} {xs:List V} (e:H a=some (.tup xs)):TyOf K H (.ref a) (.type "tuple")
 |dK {a:Addr} {kvs:List (Key×V)} (e:H a=some (.dK kvs)):TyOf K H (.ref a) (.type "dict")
 |dT {a:Addr} {kvs:List (List Key×V)} (e:H a=some (.dT kvs)):TyOf K H (.ref a) (.type "dict")
 | ins {a C dx : Addr} {fs : List (Str × V)} (e : H a = some (.ins C dx fs)) (cl : Cls K C) (ha : PySem.W.findIn K (.ref C) "__class__" = some (some (.builtin "object.__class__")))
   (hn:PySem.W.specialIn K (.builtin "object.__class__") "__get__" = some (some (.builtin "getset_descriptor.__get__"))) (Nf:PySem.W.takesIn K (.builtin "object.__class__")=some true)
   (hm:PySem.W.mroIn K C (.type "object")=some true):TyOf K H (.ref a) (.ref C)
theorem ef_{x:V}{u t:Value}(I:Inv X Aa σ H s)(rx:RelV x u)(ty:TyOf X.K H x t)(e:PySem.W.kitOne X.K t c=some b)(h:∀tk,Q (.bool b) { s with toks:=tk }) :
  wpAny (model X.prog X.w) A (call (.builtin "isinstance") [u,c]) Q E s:=by
 cases ty with
 |non=>cases(show u=Value.none from rx);exact PySem.W.kia_one PySem.W.kitx_none I.kIn True.intro e (λz=>nomatch z) h
 |bl y=>cases(show u=Value.bool y from rx);exact PySem.W.kia_one PySem.W.kitx_bool I.kIn True.intro e (λz=>nomatch z) h
 |int i=>obtain⟨t,q⟩:=(show ∃t,u=Value.int i t from rx);cases q;exact PySem.W.kia_one PySem.W.kitx_int I.kIn True.intro e (λz=>nomatch z) h
 |str y=>obtain⟨t,q⟩:=(show ∃t,u=Value.str y t from rx);cases q;exact PySem.W.kia_one PySem.W.kitx_str I.kIn True.intro e (λz=>nomatch z) h
 |flt y=>obtain⟨t,q⟩:=(show ∃t,u=Value.float y t from rx);cases q;exact PySem.W.kia_one PySem.W.kitx_float I.kIn True.intro e (λz=>nomatch z) h
 | @lst a xs ea =>
  cases(show u=Value.ref a from rx)
  obtain⟨_,_,n,_,h1⟩:=(show ObjOk X.prog X.w H s.heap a (.lst xs)from I.hok a _ ea)
  exact PySem.W.kia_one PySem.W.kitx_list I.kIn ⟨_,h1,rfl⟩ e (λz=>nomatch z) h
 | @frz a ob xs ea =>
  cases(show u=Value.ref a from rx)
  obtain⟨_,_,_,n,_,h1⟩:=(show ObjOk X.prog X.w H s.heap a (.frz ob (.lst xs))from I.hok a _ ea)
  exact PySem.W.kia_one PySem.W.kitx_list I.kIn ⟨_,h1,rfl⟩ e (λz=>nomatch z) h
 | @tup a xs ea =>
  cases(show u=Value.ref a from rx)
  obtain⟨_,_,_,p⟩:=(show ObjOk X.prog X.w H s.heap a (.tup xs)from I.hok a _ ea)
  obtain⟨o,h1,h2,_⟩:=p
  exact PySem.W.kia_one PySem.W.kitx_tuple I.kIn ⟨o,h1,h2⟩ e (λz=>nomatch z) h
 | @dK a kvs ea =>
  cases(show u=Value.ref a from rx)
  obtain⟨_,_,vs,_,p⟩:=(show ObjOk X.prog X.w H s.heap a (.dK kvs)from I.hok a _ ea)
  obtain⟨o,es,ep,h1,h2,_⟩:=p
  exact PySem.W.kia_one PySem.W.kitx_dict I.kIn ⟨o,h1,h2.1⟩ e (λz=>nomatch z) h
 | @dT a kvs ea =>
  cases(show u=Value.ref a from rx)
  obtain⟨_,_,xs,_,o,es,ep,h1,h2,_⟩:=(show ObjOk X.prog X.w H s.heap a (.dT kvs)from I.hok a _ ea)
  exact PySem.W.kia_one PySem.W.kitx_dict I.kIn ⟨o,h1,h2.1⟩ e (λz=>nomatch z) h
 | @ins a C dx fs ea cl ha hn Nf hm =>
  cases(show u=Value.ref a from rx)
  obtain⟨mA,O,_⟩:=mX I.hok ea
  obtain⟨od,J,_⟩:=O.look
  exact PySem.W.kia_one (PySem.W.kitx_own (cl.get _) cl.hd ha hn Nf hm) I.kIn J e (λz=>nomatch z) h
end
structure Room(k:Nat)(A:Around):Prop where
 hd:A.handled=none
 dp:A.depth+3*k+5<recursionLimit
 un:A.units+16*k+200<cLine
 gd:A.guards=some []
theorem Room.mono{j k:Nat}{A:Around}(r:Room k A)(h:j<=k):Room j A:=⟨r.hd,by have:=r.dp;omega,by have:=r.un;omega,r.gd⟩
theorem Room.deeper{k:Nat}{A:Around}(r:Room (k+1) A)(env:Env):Room k (A.deeper env):=
 ⟨r.hd,by have:=r.dp;show A.depth+1+3*k+5<_;omega,by have:=r.un;show A.units+3+16*k+200<_;omega,r.gd⟩
theorem zI{A:Around}{C:Addr}{us:List Value}{kw:List (Str×Value)}:(A.under (.builtin "type.__call__" ⟨.ref C::us,kw⟩)).depth=A.depth+1:=by
 first | rfl | simp[Around.under,Code.weight,Code.isCreation,Code.isGuard,Code.isCaller,Code.frames,Code.isFrame,guardIds]
theorem zH{A:Around}{C:Addr}{us:List Value}{kw:List (Str×Value)}:(A.under (.builtin "type.__call__" ⟨.ref C::us,kw⟩)).units=A.units+1:=by
 first | rfl | simp[Around.under,Code.cUnits,Code.frames,Code.isFrame]
theorem wP{A:Around}{C:Addr}{us:List Value}{kw:List (Str×Value)}:(A.under (.builtin "type.__call__" ⟨.ref C::us,kw⟩)).guards=A.guards:=rfl
theorem Room.make{k:Nat}{A:Around}(r:Room (k+1) A)(C:Addr)(us:List Value)(kw:List (Str×Value)):Room k (A.under (.builtin "type.__call__" ⟨.ref C::us,kw⟩)):=
 ⟨r.hd,by have:=r.dp;rw[zI];omega,by have:=r.un;rw[zH];omega,by rw[wP];exact r.gd⟩
theorem Room.depth{k:Nat}{A:Around}(r:Room k A):A.depth<recursionLimit:=by have:=r.dp;omega
theorem Room.units{k:Nat}{A:Around}(r:Room k A):A.units+64<cLine:=by have:=r.un;omega
def t_:TA:=λ_ H Q=>Q [] H
def vW(ta:TE)(tr:TA):TA:=λσ H Q=>ta σ H λx H1=>tr σ H1 λxs H2=>Q (x::xs) H2
section
variable{X:Cx}{e:Expr}{es:List Expr}{te:TE}{t:TA}{pos:Pos}
theorem xJ:PA X [] t_:=λ_ _ _ _ H Q I h=>Calls.spliced_nil ⟨[],H,I,.nil,h⟩
theorem lK(ha:PE X e te)(hr:PA X es t)(hs:starEach (e::es) X.env=(false,eval e X.env)::starEach es X.env:=by rfl):PA X (e::es) (vW te t):=by
 intro pos Aa s σ H Q I h
 rw[hs]
 show wpAny _ _ (spliced ((false,eval e X.env)::backTo pos (starEach es X.env))) _ _ s
 refine Calls.spliced_cons (dQ (ha Aa s σ H _ I h) λu s1 ⟨x,H1,I1,r1,q1⟩=>?_)
 exact dQ (hr pos Aa s1 σ H1 _ I1 q1) λus s2 ⟨xs,H2,I2,r2,q2⟩=>⟨x::xs,H2,I2,.cons r1 r2,q2⟩
def bBq(t:TA):TE:=λσ H Q=>t σ H λxs H1=>xs.length<=sizeLine/\∀p,H1 p=none->Q (.ref p) (upd H1 p (.tup xs))
def bBu(t:TA):TE:=λσ H Q=>t σ H λxs H1=>xs.length<=sizeLine/\∀p,H1 p=none->Q (.ref p) (upd H1 p (.lst xs))
theorem yX{x1}(h:PA X es t):PE X (.Tuple es x1 pos) (bBq t):=by
 intro Aa s σ H Q I hq
 refine wpAny_Tuple_spliced (dQ (h pos Aa s σ H _ I hq) λus s1 ⟨xs,H1,I1,r,z,q⟩=>⟨by rw[<-r.length];exact z,?_⟩)
 have hf:H1 s1.heap.objs.size=none:=I1.hok.fresh (bA _)
 refine⟨.ref s1.heap.objs.size,upd H1 s1.heap.objs.size (.tup xs),I1.laid (t':=s1.toks) (λb u e=>aQ _ e) (bA _) ?_,rfl,q _ hf⟩
 exact⟨z,us,r,⟨_,bP _ rfl,rfl,_,rfl⟩⟩
theorem aEd(h:PA X es t):PE X (.List es pos) (bBu t):=by
 intro Aa s σ H Q I hq
 refine wpAny_List_spliced (dQ (h pos Aa s σ H _ I hq) λus s1 ⟨xs,H1,I1,r,z,q⟩=>⟨by rw[<-r.length];exact z,?_⟩)
 have hf:H1 s1.heap.objs.size=none:=I1.hok.fresh (bA _)
 refine⟨.ref s1.heap.objs.size,upd H1 s1.heap.objs.size (.lst xs),I1.laid (t':=s1.toks) (λb u e=>aQ _ e) (bA _) ?_,rfl,q _ hf⟩
 exact⟨z,us,0,r,bP _ rfl⟩
end
abbrev Sp:=List V->Hp->VK->XK->Prop
abbrev CXT:=List Env->Hp->Shared->XK->Value->Shared->Prop
structure Env0(P:Program)(w:World)(K:cZ)(mg:kP)(base:Heap)(A:Around)(outer:List Env)(s:Shared)(H:Hp):Prop where
 frames:A.frames=some outer
 mod:Mod K mg base
 bs:∀b o,base.get? b=some o->s.heap.get? b=some o/\H b=none
 bsz:base.objs.size<=s.heap.objs.size
 funs:s.heap.FunFrames base outer
 frf:∀b∈frs outer,H b=none
 hok:HOk P w H s.heap
 bare:AllBare s.gens
def CE(outer:List Env)(P:Program)(w:World)(H:Hp)(s:Shared)(Q:VK)(u:Value)(s':Shared):Prop:=
 ∃v H',s'.os=s.os/\AllBare s'.gens/\Un (frs outer) [] H H' s.heap s'.heap/\HOk P w H' s'.heap/\RelV v u/\Q v H'
def CR(CX:CXT)(outer:List Env)(P:Program)(w:World)(H:Hp)(s:Shared)(Q:VK)(E:XK)(r:Result)(s':Shared):Prop:=
 match r with
 | .ok (.ret u)=>CE outer P w H s Q u s'
 | .ok _=>False
 | .error e=>CX outer H s E e s'
structure FnOk(P:Program)(w:World)(K:cZ)(mg:kP)(base:Heap)(CX:CXT)(k:Nat)(f:Addr)(fd:FuncData)(ps:List Str)(sp:Sp):Prop where
 len:∀vs H Q E,sp vs H Q E->vs.length=ps.length
 run:∀(A:Around) (outer:List Env) (s:Shared) (H:Hp) (args:Args) (us:List Value) (vs:List V) (Q:VK) (E:XK),Room k A->Env0 P w K mg base A outer s H->BindsTo s fd args (ps.zip us)->Vals vs us->sp vs H Q E ->
  codeAny (model P w) A (.call (.ref f) args) (CR CX outer P w H s Q E) s
theorem FnOk.mono{CX:CXT}{j k:Nat}{f:Addr}{fd:FuncData}{ps:List Str}{sp:Sp}(F:FnOk P w K mg base CX j f fd ps sp)(h:j<=k) :
  FnOk P w K mg base CX k f fd ps sp:=⟨F.len,λA outer s H args us vs Q E hr=>F.run A outer s H args us vs Q E (hr.mono h)⟩
theorem FnOk.imp{CX:CXT}{k:Nat}{f:Addr}{fd:FuncData}{ps:List Str}{sp sp':Sp}(F:FnOk P w K mg base CX k f fd ps sp)
  (h:∀vs H Q E,sp' vs H Q E->sp vs H Q E):FnOk P w K mg base CX k f fd ps sp':=
 ⟨λvs H Q E q=>F.len vs H Q E (h _ _ _ _ q),λA outer s H args us vs Q E hr he hb hv hs=>F.run A outer s H args us vs Q E hr he hb hv (h _ _ _ _ hs)⟩
theorem Env0.make{A:Around}{outer:List Env}{s:Shared}{H:Hp}(e:Env0 P w K mg base A outer s H)(C:Addr)(us:List Value)(kw:List (Str×Value)) :
  Env0 P w K mg base (A.under (.builtin "type.__call__" ⟨.ref C::us,kw⟩)) outer s H:=⟨by first | exact e.frames | (simpa [Around.under,Code.envs,Code.isFrame,pushEnvs]using e.frames),e.mod,e.bs,e.bsz,e.funs,e.frf,e.hok,e.bare⟩
section
variable{X:Cx}{Aa:eF}{σ:St}{H:Hp}{s s':Shared}
theorem Inv.env0(I:Inv X Aa σ H s):Env0 X.prog X.w X.K X.mg X.base X.A X.stack s H:=
 ⟨I.ok.frames,I.ok.mod,I.bs,nzL I.ok.bsz I.sz,I.stack,I.stkFree,I.hok,I.bare⟩
theorem Inv.after{Q:VK}{u:Value}(I:Inv X Aa σ H s)(h:CE X.stack X.prog X.w H s Q u s'):EP X Aa σ Q u s':=by
 obtain⟨v,H',os,bare,un,hok,r,q⟩:=h
 obtain⟨hh,g,d,t,os'⟩:=s'
 obtain rfl:os'=s.os:=os
 exact⟨v,H',I.call (h':=hh) (g':=g) (d':=d) (t':=t) (ch:=[]) un hok bare (λb z=>absurd z (by simp)),r,q⟩
end
def aCu(sp:Sp)(dvs:List V)(E:XK)(t:TA):TE:=λσ H Q=>t σ H λvs H1=>sp (vs++dvs) H1 Q E
def aNk(C:Addr)(m:Str)(sp:Sp)(dvs:List V)(E:XK)(ta:TE)(t:TA):TE:=λσ H Q=>ta σ H λx H1=>∃a dx fs,x=.ref a/\H1 a=some (.ins C dx fs)/\fs.lookup m=none /\
 t σ H1 λvs H2=>sp (x::(vs++dvs)) H2 Q E
def aWs(C:Addr)(sp:Sp)(dvs:List V)(E:XK)(t:TA):TE:=λσ H Q=>t σ H λvs H1=>∀x dx,H1 x=none->H1 dx=none->dx≠x ->
 sp (.ref x::(vs++dvs)) (upd (upd H1 dx (.own x)) x (.ins C dx [])) (λv H2=>v=.non/\Q (.ref x) H2) E
def Binds(K:cZ)(fd:FuncData)(ps:List Str)(ds:List Value):Prop:=
 ∀(s:Shared) (us:List Value),K.In s.heap->(us++ds).length=ps.length->BindsTo s fd ⟨us,[]⟩ (ps.zip (us++ds))
theorem Binds.all{K:cZ}{fd:FuncData}{ps:List Str}(h:∀us:List Value,us.length=ps.length->bindArgs fd ⟨us,[]⟩=pure (ps.zip us)):Binds K fd ps []:=λs us _ hl=>by
 rw[aV]at hl ⊢
 exact .of_eq (h us hl)
def jW(CX:CXT)(X:Cx)(E:XK):Prop:=∀(Aa:eF) (σ:St) (H:Hp) (s:Shared) (e:Value) (s':Shared),Inv X Aa σ H s->CX X.stack H s E e s'->X.xe e s'
section
variable{X:Cx}{CX:CXT}{k:Nat}{f C:Addr}{ps:List Str}{sp:Sp}{dvs:List V}{ds:List Value}{E:XK}{x m:Str}{p pos apos:Pos}{e o:Expr}{es:List Expr}{ta:TE}{t:TA}
theorem yT{Aa:eF}{σ:St}{H:Hp}{s:Shared}{Q:VK}{us:List Value}{vs:List V}(F:FnOk X.prog X.w X.K X.mg X.base CX k f fd ps sp)(hr:Room k X.A)(hb:Binds X.K fd ps ds)(hd:Vals dvs ds)(hx:jW CX X E)
  (I:Inv X Aa σ H s) (r:Vals vs us) (h:sp (vs++dvs) H Q E):wpAny (model X.prog X.w) X.A (call (.ref f) us) (EP X Aa σ Q) X.xe s:=by
 have r2:Vals (vs++dvs) (us++ds):=r.append hd
 have hl:(us++ds).length=ps.length:=by rw[<-r2.length];exact F.len _ _ _ _ h
 refine wpAny_call (codeAny_mono (F.run X.A X.stack s H ⟨us,[]⟩ (us++ds) (vs++dvs) Q E hr I.env0 (hb s us I.kIn hl) r2 h) λr s' hq=>?_)
 cases r with
 |error e=>exact hx Aa σ H s e s' I hq
 |ok fl =>
  cases fl with
  |ret u=>exact I.after hq
  |next=>exact False.elim hq
  |brk=>exact False.elim hq
  |cont=>exact False.elim hq
theorem f_(F:FnOk X.prog X.w X.K X.mg X.base CX k f fd ps sp)(hr:Room k X.A)(hg:Gl X x)(hm:X.mg x=some (.ref f))(hk:PySem.W.keepIn X.K (.ref f)=true)(hb:Binds X.K fd ps ds)(hd:Vals dvs ds)(hx:jW CX X E)
  (ha:PA X (e::es) t) (Bk:(x == ("__debug__" : Str))=false:=by decide) (he:starEach (e::es) X.env=(false,eval e X.env)::starEach es X.env:=by rfl) (A0:(backTo pos (starEach es X.env)).any (·.1)=false:=by rfl) :
  PE X (.Call (.Name x p) (e::es) [] pos) (aCu sp dvs E t):=by
 intro Aa s σ H Q I h
 refine wpAny_Call_Name_kw (hm_ I hg hm ?_ Bk)
 refine PySem.W.callWith_K (h₀:=X.base) I.ok.mod.kin hk (dQ (ha pos Aa s σ H _ I h) λus s1 ⟨vs,H1,I1,r,q⟩=>⟨I1.kIn,?_⟩) he A0
 exact yT F hr hb hd hx I1 r q
theorem f8{pl:Sem Bool}(he:PE X o ta)(c:Cls X.K C)(hm:Meth X.K C m f)(F:FnOk X.prog X.w X.K X.mg X.base CX k f fd ps sp)(hr:Room k X.A)(hb:Binds X.K fd ps ds)(hd:Vals dvs ds)(hx:jW CX X E)(ha:PA X (e::es) t)
  (Em:starEach (e::es) X.env=(false,eval e X.env)::starEach es X.env:=by rfl) (A0:(backTo pos (starEach es X.env)).any (·.1)=false:=by rfl)
  (ht:eval (.Call (.Attribute o m apos) (e :: es) [] pos) X.env=(do
   let ov <-eval o X.env
   standAt apos.atName
   let (f,first) <-holding [ov] (getMethod ov m pl)
   callWith pos f first (backTo pos (starEach (e::es) X.env)) (backToKw pos (keywordEach [] X.env))):=by rfl) :
  PE X (.Call (.Attribute o m apos) (e::es) [] pos) (aNk C m sp dvs E ta t):=by
 intro Aa s σ H Q I h
 refine PySem.W.methodCall_KW (pl:=pl) (dQ (he Aa s σ H _ I h) λu s1 ⟨x,H1,I1,rx,a,dx,fs,ex,ea,l,q⟩=>?_) ht
 subst ex
 obtain rfl:u=Value.ref a:=rx
 refine pG I1 ea c hm l ?_
 refine PySem.W.callWith_K (first:=[.ref a]) (h₀:=X.base) I.ok.mod.kin hm.kp (dQ (ha pos Aa s1 σ H1 _ I1 q) λus s2 ⟨vs,H2,I2,r,q2⟩=>⟨I2.kIn,?_⟩) Em A0
 exact yT (us:=.ref a::us) (vs:=.ref a::vs) F hr hb hd hx I2 (.cons rfl r) q2
theorem aEc{pl:Sem Bool}(he:PE X o ta)(c:Cls X.K C)(hm:Meth X.K C m f)(F:FnOk X.prog X.w X.K X.mg X.base CX k f fd ps sp)(hr:Room k X.A)(hb:Binds X.K fd ps ds)(hd:Vals dvs ds)(hx:jW CX X E)
  (ht:eval (.Call (.Attribute o m apos) [] [] pos) X.env=(do
   let ov <-eval o X.env
   standAt apos.atName
   let (f,first) <-holding [ov] (getMethod ov m pl)
   callWith pos f first (backTo pos (starEach [] X.env)) (backToKw pos (keywordEach [] X.env))):=by rfl) :
  PE X (.Call (.Attribute o m apos) [] [] pos) (aNk C m sp dvs E ta t_):=by
 intro Aa s σ H Q I h
 refine PySem.W.methodCall_KW (pl:=pl) (dQ (he Aa s σ H _ I h) λu s1 ⟨x,H1,I1,rx,a,dx,fs,ex,ea,l,q⟩=>?_) ht
 subst ex
 obtain rfl:u=Value.ref a:=rx
 refine pG I1 ea c hm l ?_
 exact PySem.W.callWith_K0 (first:=[.ref a]) I1.kIn hm.kp (yT (us:=[.ref a]) (vs:=[.ref a]) F hr hb hd hx I1 (.cons rfl .nil) q)
structure Mk(K:cZ)(C f:Addr):Prop where
 makes:PySem.W.makesIn K C=true
 init:PySem.W.findIn K (.ref C) "__init__" = some (some (.ref f))
 fn:PySem.W.isFn K (.ref f)=true
 kp:PySem.W.keepIn K (.ref C)=true
theorem aDg{Aa:eF}{σ:St}{H:Hp}{s:Shared}{Q:VK}{us:List Value}{vs:List V}(M:Mk X.K C f)(F:FnOk X.prog X.w X.K X.mg X.base CX k f fd ps sp)(hr:Room (k+1) X.A)(hb:Binds X.K fd ps ds)(hd:Vals dvs ds)
  (hx:jW CX X E) (I:Inv X Aa σ H s) (r:Vals vs us)
  (h:∀x dx,H x=none->H dx=none->dx≠x->sp (.ref x::(vs++dvs)) (upd (upd H dx (.own x)) x (.ins C dx [])) (λv H2=>v=.non/\Q (.ref x) H2) E) :
  wpAny (model X.prog X.w) X.A (call (.ref C) us) (EP X Aa σ Q) X.xe s:=by
 have hq:=h (s.heap.objs.size+1) s.heap.objs.size (I.hok.fresh (Nat.le_succ _)) (I.hok.fresh (bA _)) (cH (Nat.lt_succ_self _))
 have I2:=Inv.made (C:=C) I
 have r2:Vals (V.ref (s.heap.objs.size+1)::(vs++dvs)) (Value.ref (s.heap.objs.size+1)::(us++ds)):=.cons rfl (r.append hd)
 have hl:(Value.ref (s.heap.objs.size+1)::us++ds).length=ps.length:=by
  have e:=r2.length
  rw[F.len _ _ _ _ hq]at e
  exact e.symm
 refine wpAny_call (aFe (f:=f) I.kIn M.makes M.init (beq_iff_eq.mp M.fn) (codeAny_mono (F.run _ X.stack _ _ ⟨Value.ref (s.heap.objs.size+1)::us,[]⟩ (Value.ref (s.heap.objs.size+1)::(us++ds)) _ _ E (hr.make C us [])
  (I2.env0.make C us []) (hb _ (Value.ref (s.heap.objs.size+1)::us) I2.kIn hl) r2 hq) λr s' Ja=>?_))
 cases r with
 |error e=>exact hx Aa σ _ _ e s' I2 Ja
 |ok fl =>
  cases fl with
  |ret u =>
   obtain⟨v,H',I3,rv,ev,q3⟩:=I2.after Ja
   subst ev
   exact⟨rv,⟨V.ref (s.heap.objs.size+1),H',I3,rfl,q3⟩⟩
  |next=>exact False.elim Ja
  |brk=>exact False.elim Ja
  |cont=>exact False.elim Ja
theorem aJr(M:Mk X.K C f)(F:FnOk X.prog X.w X.K X.mg X.base CX k f fd ps sp)(hr:Room (k+1) X.A)(hg:Gl X x)(hm:X.mg x=some (.ref C))(hb:Binds X.K fd ps ds)(hd:Vals dvs ds)(hx:jW CX X E)
  (ha:PA X (e::es) t) (Bk:(x == ("__debug__" : Str))=false:=by decide) (he:starEach (e::es) X.env=(false,eval e X.env)::starEach es X.env:=by rfl) (A0:(backTo pos (starEach es X.env)).any (·.1)=false:=by rfl) :
  PE X (.Call (.Name x p) (e::es) [] pos) (aWs C sp dvs E t):=by
 intro Aa s σ H Q I h
 refine wpAny_Call_Name_kw (hm_ I hg hm ?_ Bk)
 refine PySem.W.callWith_K (h₀:=X.base) I.ok.mod.kin M.kp (dQ (ha pos Aa s σ H _ I h) λus s1 ⟨vs,H1,I1,r,q⟩=>⟨I1.kIn,?_⟩) he A0
 exact aDg M F hr hb hd hx I1 r q
end
structure FnScope(N P:List Str)(sc:Scope):Prop where
 kind:sc.kind=.function
 co:sc.isCoroutine=false
 gen:sc.isGenerator=false
 nd:N.Nodup
 pre:N.take P.length=P
 par:∀x∈P,sc.names.lookup x=some .local\/sc.names.lookup x=some .cell
 nofree:∀y∈sc.names,y.2 ≠ .free
theorem iY{N P:List Str}{sc:Scope}(h:(sc.kind=.function/\sc.isCoroutine=false/\sc.isGenerator=false)/\N.Nodup/\N.take P.length=P/\(∀x∈P,sc.names.lookup x=some .local\/sc.names.lookup x=some .cell)/\∀y∈sc.names,y.2 ≠ .free):FnScope N P sc:=⟨h.1.1,h.1.2.1,h.1.2.2,h.2.1,h.2.2.1,h.2.2.2.1,h.2.2.2.2⟩
theorem sH{kindOf:Str->Option NameKind}{x:Str}:∀{binds:List (Str×Value)} {m:kP},(∀v,(x,v)∉binds)->bindL kindOf binds m x=m x
 | [],_,_=>rfl
 |(n,v)::r,m,h=>by
  unfold bindL
  rw[sH λw hw=>h w (aC _ hw)]
  split
  ·have:x≠n:=by rintro rfl; exact h v aA
   simp[this]
  ·rfl
theorem sJ{kindOf:Str->Option NameKind}{x:Str}:∀{binds:List (Str×Value)} {m:kP},(∀v,(x,v)∉binds)->bindC kindOf binds m x=m x
 | [],_,_=>rfl
 |(n,v)::r,m,h=>by
  unfold bindC
  rw[sJ λw hw=>h w (aC _ hw)]
  split
  ·rfl
  ·have:x≠n:=by rintro rfl; exact h v aA
   simp[this]
theorem sI{kindOf:Str->Option NameKind}{x:Str}{v:Value}:∀{P:List Str} {vs:List Value} {i:Nat} {m:kP},P.Nodup->P[i]? = some x->vs[i]? = some v->kindOf x=some .local ->
  bindL kindOf (P.zip vs) m x=some v
 | [],_,_,_,_,h,_,_=>by simp at h
 |_::_,[],_,_,_,_,h,_=>by simp at h
 |p::P,w::vs,0,m,nd,h1,h2,hk=>by
  simp at h1 h2;subst h1;subst h2
  show bindL kindOf ((p,w)::P.zip vs) m p=_
  unfold bindL
  rw[sH λv hv=>(cE.mp nd).1 (fB hv).1,if_pos hk]
  simp
 |p::P,w::vs,i+1,m,nd,h1,h2,hk=>by
  show bindL kindOf ((p,w)::P.zip vs) m x=_
  unfold bindL
  exact sI (i:=i) (cE.mp nd).2 (by simpa using h1) (by simpa using h2) hk
theorem sK{kindOf:Str->Option NameKind}{x:Str}{v:Value}:∀{P:List Str} {vs:List Value} {i:Nat} {m:kP},P.Nodup->P[i]? = some x->vs[i]? = some v->kindOf x≠some .local ->
  bindC kindOf (P.zip vs) m x=some v
 | [],_,_,_,_,h,_,_=>by simp at h
 |_::_,[],_,_,_,_,h,_=>by simp at h
 |p::P,w::vs,0,m,nd,h1,h2,hk=>by
  simp at h1 h2;subst h1;subst h2
  show bindC kindOf ((p,w)::P.zip vs) m p=_
  unfold bindC
  rw[sJ λv hv=>(cE.mp nd).1 (fB hv).1,if_neg hk]
  simp
 |p::P,w::vs,i+1,m,nd,h1,h2,hk=>by
  show bindC kindOf ((p,w)::P.zip vs) m x=_
  unfold bindC
  exact sK (i:=i) (cE.mp nd).2 (by simpa using h1) (by simpa using h2) hk
def start(N:List Str)(vs:List V):St:=vs.map some++List.replicate (N.length-vs.length) none
def iS(CX:CXT)(P:Program)(w:World)(K:cZ)(mg:kP)(base:Heap)(N:List Str)(qual:Str)(scope:Scope)(f:Addr)(cd:Value)(A:Around)(outer:List Env)(s:Shared)(H:Hp)(E:XK):Cx where
 prog:=P
 w:=w
 K:=K
 mg:=mg
 base:=base
 A:=A.deeper (envOfC qual scope s.heap.objs.size f cd)
 N:=N
 s₀:=s
 H₀:=H
 env:=envOfC qual scope s.heap.objs.size f cd
 outer:=outer
 stack:=envOfC qual scope s.heap.objs.size f cd::outer
 ex:=[]
 calm:=true
 fn:=λ_=>true
 pn:=[]
 xe:=λe s'=>wpAny (model P w) (A.deeper (envOfC qual scope s.heap.objs.size f cd)) (leaving (envOfC qual scope s.heap.objs.size f cd) e) (λ_ s''=>CX outer H s E e s'') (λe' s''=>CX outer H s E e' s'') s'
theorem xV{sc:Scope}{n:Nat}{x:Str}(h:sc.names.lookup x=some .cell):∃c,(cellsFrom n sc.names []).lookup x=some c:=by
 have q:=PySem.W.cellsFrom_some sc.names n [] (.inl h)
 exact cN.mp q
theorem y_{CX:CXT}{N ps:List Str}{qual:Str}{scope:Scope}{f:Addr}{cd:Value}{A:Around}{outer:List Env}{s s1:Shared}{H:Hp}{E:XK}{us:List Value}{vs:List V}
  (S:FnScope N ps scope) (hd:A.handled=none) (e0:Env0 P w K mg base A outer s H) (hl:vs.length=ps.length) (r:Vals vs us)
  (x:InCallC s s.heap.objs.size (bindL (envOfC qual scope s.heap.objs.size f cd).kindOf (ps.zip us) λ_=>none) (cellsFrom (s.heap.objs.size+1) scope.names []) (bindC (envOfC qual scope s.heap.objs.size f cd).kindOf (ps.zip us) λ_=>none) s1) :
  Inv (iS CX P w K mg base N qual scope f cd A outer s H E) [] (start N vs) H s1:=by
 have A0:ps.length<=N.length:=by have:=congrArg List.length S.pre;rw[fR]at this;omega
 obtain⟨h1,tk,rfl,hk⟩:=x.done
 have noA:∀b:Addr,b∉(iS CX P w K mg base N qual scope f cd A outer s H E).ex:=λb z=>absurd (show b∈([]:List Addr)from z) (by simp)
 refine⟨⟨e0.mod,S.kind,rfl,rfl,bA _,λy z c h1 h2=>?_,λy hy=>?_,λy c _ h=>?_,λ_=>hd,Around.frames_deeper e0.frames,.inr ⟨rfl,rfl⟩,λb z=>absurd z (noA b),e0.bs,e0.bsz,λb _ _=>noA b,λb z=>absurd z (noA b),e0.funs,e0.frf⟩,
  rfl,e0.bare,Un.kept hk,⟨_,x.toInCall.ns,λi y v h1 h2 h3=>?_⟩,λy c h=>⟨_,x.cell y c h⟩,e0.hok.fresh (bA _),λy c h=>?_,λp hp=>absurd (show p∈([]:eF)from hp) (by simp),e0.hok.kept hk,?_⟩
 ·exact name_of_addr x.apart (PySem.mem_of_lookup h1) (PySem.mem_of_lookup h2)
 ·have hy:scope.names.lookup y=some .cell∨scope.names.lookup y=some .free:=hy
  rcases hy with hy | hy
  ·exact xV hy
  ·exact absurd rfl (S.nofree _ (PySem.mem_of_lookup hy))
 ·exact Nat.le_of_lt (x.above y c (PySem.mem_of_lookup h))
 ·have hi:i < vs.length:=by
   unfold start at h2
   by_cases hi:i<vs.length
   ·exact hi
   ·rw [eR (by simpa using hi)] at h2
    rw[iA]at h2
    split at h2<;>cases h2
  have ha:vs[i]? = some v:=by
   unfold start at h2
   rw[List.getElem?_append_left (by simpa using hi),bV]at h2
   cases e:vs[i]? with
   |none=>rw[e]at h2;cases h2
   |some a=>rw[e]at h2;cases h2;rfl
  obtain⟨u,hu,rv⟩:=r.get ha
  have hp:ps[i]? = some y:=by
   rw[<-S.pre,List.getElem?_take_of_lt (by omega)];exact h1
  have ndP:ps.Nodup:=by rw[<-S.pre];exact S.nd.sublist (List.take_sublist _ _)
  refine⟨u,rv,?_⟩
  rcases S.par y (bN hp)with k | k
  ·exact .inl ⟨k,sI ndP hp hu k⟩
  ·obtain ⟨c,e⟩:=xV (n:=s.heap.objs.size + 1) k
   refine .inr ⟨.inl k,c,e,?_⟩
   have q:=x.cell y c e
   rw[sK ndP hp hu (by show scope.names.lookup y≠_;rw[k];decide)]at q
   exact q
 ·exact e0.hok.fresh (Nat.le_of_lt (x.above y c (PySem.mem_of_lookup h)))
 ·unfold start
  show _=N.length
  rw[aB,aG,bI]
  omega
theorem aGg{CX:CXT}{k:Nat}{f:Addr}{name qual:Str}{params:Arguments}{body:List Stmt}{scope:Scope}{dV kV doc pm Ak ct oc:Value}{an od:Option Addr}
  {osl:Array (Option Value)} {N ps:List Str} {sp:Sp} (lk:K.lookup f=some ⟨oc,od,.func (PySem.W.fnOf name qual params body scope dV kV doc pm an Ak ct),osl⟩) (D7:PySem.W.codeIn K Ak qual=true) (S:FnScope N ps scope)
  (len:∀vs H Q E,sp vs H Q E->vs.length=ps.length)
  (Az:∀ (A:Around) (outer:List Env) (s:Shared) (H:Hp) (vs:List V) (Q:VK) (E:XK),Room k (A.deeper (envOfC qual scope s.heap.objs.size f Ak))→sp vs H Q E →
   ∃t,PSs (iS CX P w K mg base N qual scope f Ak A outer s H E) body t/\t { nx:=λ_ H'=>Q .non H',rt:=Q } (start N vs) H) :
  FnOk P w K mg base CX (k+1) f (PySem.W.fnOf name qual params body scope dV kV doc pm an Ak ct) ps sp:=by
 refine⟨len,λA outer s H args us vs Q E hr e0 hb r Ch=>?_⟩
 have hl:=len _ _ _ _ Ch
 have KX:K.In s.heap:=e0.mod.kin.keeps λb o e=>(e0.bs b o e).1
 have lim:s.heap.NoLimit:=e0.mod.nolimit.keeps λb o e=>(e0.bs b o e).1
 have Jm:∀y∈ps.zip us,scope.names.lookup y.1=some .local\/(scope.names.lookup y.1=some .cell/\((cellsFrom (s.heap.objs.size+1) scope.names []).lookup y.1).isSome=true):=λ⟨n,v⟩ hy=>by
  rcases S.par n (fB hy).1 with q | q
  ·exact .inl q
  ·exact .inr ⟨q,PySem.W.cellsFrom_some _ _ _ (.inl q)⟩
 refine codeAny_call_function hr.depth (KX _ _ lk) rfl S.co S.gen rfl (PySem.W.codeRec_of KX D7) (hb _ _ _ _ ?_)
 refine wpAny_newFunctionEnv_cells S.kind Jm λenv he s1 x=>?_
 subst he
 refine⟨lim.keeps x.toInCall.keep,codeAny_func ?_⟩
 obtain⟨t,ht,hq⟩:=Az A outer s H vs Q E (hr.deeper _) Ch
 have I:Inv (iS CX P w K mg base N qual scope f Ak A outer s H E) [] (start N vs) H s1:=y_ S hr.hd e0 hl r x
 refine wpAny_mono (ht [] s1 (start N vs) H _ I hq) (λfl s' hs=>?_) λe s' hs=>hs
 have At:∀{σ':St} {H':Hp} {v:V} {u:Value},Inv (iS CX P w K mg base N qual scope f Ak A outer s H E) [] σ' H' s'->RelV v u->Q v H'->CE outer P w H s Q u s':=
  λ{σ' H' v u} J rv q=>⟨v,H',J.os,J.bare,J.base,J.hok,rv,q⟩
 cases fl with
 |ret u =>
  obtain⟨v,σ',H',J,rv,q⟩:=hs
  exact At J rv q
 |next =>
  obtain⟨σ',H',J,q⟩:=hs
  exact At (v:=V.non) (u:=Value.none) J rfl q
 |brk =>
  obtain⟨_,_,_,q⟩:=hs
  exact False.elim q
 |cont =>
  obtain⟨_,_,_,q⟩:=hs
  exact False.elim q
section
variable{X:Cx}{x:Str}{p pos:Pos}{e:Expr}{es:List Expr}{t:TA}{id T:String}{r:List V->Hp->VK->Prop}
def tCB(r:List V->Hp->VK->Prop)(t:TA):TE:=λσ H Q=>t σ H λvs H1=>r vs H1 Q
theorem gb_(hc:CallR X (.builtin id) r)(hg:Gl X x)(hm:X.mg x=none)(hv:bootBuiltins x=some (.builtin id))(ha:PA X (e::es) t)(hn:x ≠ "__name__":=by decide)(Bk:(x == ("__debug__" : Str))=false:=by decide)
  (he:starEach (e::es) X.env=(false,eval e X.env)::starEach es X.env:=by rfl) (A0:(backTo pos (starEach es X.env)).any (·.1)=false:=by rfl):PE X (.Call (.Name x p) (e::es) [] pos) (tCB r t):=by
 intro Aa s σ H Q I h
 refine wpAny_Call_Name_kw (uN I hg hm hv ?_ hn Bk)
 exact PyProof.Rows.callWith_builtin1 (dQ (ha pos Aa s σ H _ I h) λus s1 ⟨vs,H1,I1,r1,q1⟩=>hc Aa s1 σ H1 vs us Q I1 r1 q1) he A0
theorem v3(hc:CallR X (.type T) r)(hg:Gl X x)(hm:X.mg x=none)(hv:bootBuiltins x=some (.type T))(ha:PA X (e::es) t)(hn:x ≠ "__name__":=by decide)(Bk:(x == ("__debug__" : Str))=false:=by decide)
  (he:starEach (e::es) X.env=(false,eval e X.env)::starEach es X.env:=by rfl) (A0:(backTo pos (starEach es X.env)).any (·.1)=false:=by rfl):PE X (.Call (.Name x p) (e::es) [] pos) (tCB r t):=by
 intro Aa s σ H Q I h
 refine wpAny_Call_Name_kw (uN I hg hm hv ?_ hn Bk)
 exact PyProof.Rows.callWith_type1 (dQ (ha pos Aa s σ H _ I h) λus s1 ⟨vs,H1,I1,r1,q1⟩=>hc Aa s1 σ H1 vs us Q I1 r1 q1) he A0
end
end L2
namespace HT
open PySem PyProof.Rows
section
open PySem.SeqAt
open PySem.AutoSeq1 (wpAny_loadPart')
open PySem.MeetsSeq PySem.MeetsSeq2 PySem.MeetsSeq3
end
section
variable{prog:Program}{w:World}{A:Around}{E:gG}{s:Shared}
def sIx(n d:Nat):Option Int->Nat
 |none=>d
 |some v=>if v<0 then(v+(n:Int)).toNat else min v.toNat n
end
end HT
namespace L2
open PySem PySem.Spec PyProof.Rows
abbrev TO:=St->Hp->(Option Int->Hp->Prop)->Prop
def PO(X:Cx)(e:Option Expr)(t:TO):Prop:=
 ∀(Aa:eF) (s:Shared) (σ:St) (H:Hp) (Q:Option Int->Hp->Prop),Inv X Aa σ H s->t σ H Q ->
  wpAny (model X.prog X.w) X.A (evalPart e X.env) (λu s'=>∃o H',Inv X Aa σ H' s'/\IsPart u o/\Q o H') X.xe s
def aIs:TO:=λ_ H Q=>Q none H
def aWp(t:TE):TO:=λσ H Q=>t σ H λx H1=>∃i,x=.int i/\Q (some i) H1
theorem zM{ns:List Int}:∀{us:List Value},Vals (ns.map V.int) us->IntsAre us ns:=by
 induction ns with
 |nil=>intro us r;rw[dA]at r;cases r;exact .nil
 |cons n ns ih =>
  intro us r
  rw[bB]at r
  cases r with
  |cons r1 r2 =>
   obtain⟨t,e⟩:=r1
   subst e
   exact .cons n t (ih r2)
section
variable{X:Cx}{e:Expr}{te:TE}{lo hi:Option Expr}{tl th:TO}{pos p2:Pos}
theorem aJn:PO X none aIs:=by
 intro Aa s σ H Q I h
 rw[evalPart_none]
 exact wpAny_pure ⟨none,H,I,.none,h⟩
theorem aJm(h:PE X e te):PO X (some e) (aWp te):=by
 intro Aa s σ H Q I hw
 rw[evalPart_some]
 refine dQ (h Aa s σ H _ I hw) λu s1 ⟨x,H1,I1,r1,q1⟩=>?_
 obtain⟨i,rfl,q⟩:=q1
 obtain⟨t,rfl⟩:=r1
 exact⟨some i,H1,I1,.int i t,q⟩
def SlR(X:Cx)(r:V->Option Int->Option Int->Hp->VK->Prop):Prop:=
 ∀(Aa:eF) (s:Shared) (σ:St) (H:Hp) (x:V) (v vl vu:Value) (lo hi:Option Int) (sl:Addr) (Q:VK),Inv X Aa σ H s->RelV x v->s.heap.IsSliceOf sl vl vu .none->IsPart vl lo->IsPart vu hi->r x lo hi H Q ->
  ∃T id,typeLookup (.type T) "__getitem__" = pure (some (.builtin id))/\s.TypeIs v T/\wpAny (model X.prog X.w) X.A (getItem v (.ref sl)) (EP X Aa σ Q) X.xe s
theorem SlR.or{r r':V->Option Int->Option Int->Hp->VK->Prop}(h:SlR X r)(h':SlR X r'):SlR X (λx lo hi H Q=>r x lo hi H Q\/r' x lo hi H Q):=by
 intro Aa s σ H x v vl vu lo hi sl Q I rx hs pl pu q
 rcases q with q | q
 ·exact h Aa s σ H x v vl vu lo hi sl Q I rx hs pl pu q
 ·exact h' Aa s σ H x v vl vu lo hi sl Q I rx hs pl pu q
def tSl(r:V->Option Int->Option Int->Hp->VK->Prop)(te:TE)(tl th:TO):TE:=λσ H Q=>te σ H λx H1=>tl σ H1 λl H2=>th σ H2 λu H3=>r x l u H3 Q
theorem aEa{r:V->Option Int->Option Int->Hp->VK->Prop}(hr:SlR X r)(he:PE X e te)(hl:PO X lo tl)(hu:PO X hi th):PE X (.Subscript e (.Slice lo hi none p2) pos) (tSl r te tl th):=by
 intro Aa s σ H Q I h
 refine Subscript_ (dQ (he Aa s σ H _ I h) λv s1 ⟨x,H1,I1,r1,q1⟩=>?_)
 refine wpAny_Slice (dQ (hl Aa s1 σ H1 _ I1 q1) λvl s2 ⟨l,H2,I2,pl,q2⟩=>dQ (hu Aa s2 σ H2 _ I2 q2) λvu s3 ⟨u,H3,I3,pu,q3⟩=>?_)
 rw[evalPart_none]
 refine wpAny_pure ?_
 have I4:Inv X Aa σ H3 { s3 with heap:=s3.heap.push { cls:=.type "slice",data:=.fields #[vl,vu,.none] } }:=I3.kept (t':=s3.toks) λb ob q=>aQ _ q
 obtain⟨T,id,hT,ht,hg⟩:=hr Aa { s3 with heap:=s3.heap.push { cls:=.type "slice",data:=.fields #[vl,vu,.none] } } σ H3 x v vl vu l u s3.heap.objs.size Q I4 r1 (Heap.IsSliceOf.new ..) pl pu q3
 show wpAny (model X.prog X.w) X.A (subscriptTail e (.Slice lo hi none p2) v (.ref s3.heap.objs.size)) (EP X Aa σ Q) X.xe { s3 with heap:=s3.heap.push { cls:=.type "slice",data:=.fields #[vl,vu,.none] } }
 exact tail_any (ops:=[.ref s3.heap.objs.size,v]) ht hT hg (by with_unfolding_all rfl)
def aGw(xs:List V)(lo hi:Option Int):List V:=(xs.drop (HT.sIx xs.length 0 lo)).take (HT.sIx xs.length xs.length hi-HT.sIx xs.length 0 lo)
theorem xT(xs:List V)(lo hi:Option Int):(aGw xs lo hi).length<=xs.length:=by
 unfold aGw
 rw[fR,bS]
 omega
end
def ixN(n:Nat)(i:Int):Option Nat:=if 0<=i then(if i<n then some i.toNat else none)else if -(n:Int)<=i then some (i+n).toNat else none
def atI{α:Type}(xs:List α)(i:Int):Option α:=(ixN xs.length i).bind λj=>xs[j]?
theorem j8{n:Nat}{i:Int}{j:Nat}(h:ixN n i=some j):seqIndex? i n=some j/\j<n /\ -(n:Int)<=i/\i<n:=by
 unfold ixN at h
 by_cases h0:0<=i
 ·rw [if_pos h0] at h
  by_cases h1:i<n
  ·rw [if_pos h1] at h
   have e:i.toNat=j:=ozI h
   exact⟨by rw[seqIndex_of h0 h1,e],by omega,by omega,h1⟩
  ·rw[if_neg h1]at h;cases h
 ·rw [if_neg h0] at h
  by_cases h1 : -(n:Int)<=i
  ·rw [if_pos h1] at h
   have e:(i+n).toNat=j:=ozI h
   exact⟨by rw[seqIndex_neg (by omega) h1,e],by omega,h1,by omega⟩
  ·rw[if_neg h1]at h;cases h
theorem vG{α:Type}{xs:List α}{i:Int}{v:α}(h:atI xs i=some v):∃j,seqIndex? i xs.length=some j/\xs[j]? = some v/\j<xs.length /\ -(xs.length:Int)<=i/\i<xs.length:=by
 unfold atI at h
 cases e:ixN xs.length i with
 |none=>rw[e]at h;cases h
 |some j =>
  rw[e]at h
  obtain⟨h1,h2,h3,h4⟩:=j8 e
  exact⟨j,h1,h,h2,h3,h4⟩
theorem pU{α:Type}{xs:List α}{j:Nat}{v:α}(h:xs[j]? = some v):atI xs (j:Int)=some v:=by
 have hj:j<xs.length:=(aY.mp h).1
 have e:ixN xs.length (j:Int)=some j:=by
  unfold ixN
  rw[if_pos (by omega),if_pos (by omega)];simp
 unfold atI;rw[e];exact h
def jC(b:Expr):Prop:=∀o i,subscripted b false o i=operate [o,i] (getItem o i)
def IxR(X:Cx)(r:R2):Prop:=
 ∀(value slice:Expr) (Aa:eF) (s:Shared) (σ:St) (H:Hp) (x y:V) (v u:Value) (Q:VK),Inv X Aa σ H s->RelV x v->RelV y u->r x y H Q ->
  subscripted slice false v u=operate [v,u] (getItem v u)->wpAny (model X.prog X.w) X.A (subscriptTail value slice v u) (EP X Aa σ Q) X.xe s
def MtR(X:Cx)(id:String)(r:V->List V->Hp->VK->Prop):Prop:=
 ∀(Aa:eF) (s:Shared) (σ:St) (H:Hp) (x:V) (xs:List V) (v:Value) (us:List Value) (Q:VK),Inv X Aa σ H s->RelV x v->Vals xs us->r x xs H Q ->
  wpAny (model X.prog X.w) X.A (call (.builtin id) (v::us)) (EP X Aa σ Q) X.xe s
section
variable{X:Cx}{a b:Expr}{ta tb:TE}{pos:Pos}
theorem IxR.or{r r':R2}(h:IxR X r)(h':IxR X r'):IxR X (λx y H Q=>r x y H Q\/r' x y H Q):=by
 intro value slice Aa s σ H x y v u Q I rx ry q hs
 rcases q with q | q
 ·exact h value slice Aa s σ H x y v u Q I rx ry q hs
 ·exact h' value slice Aa s σ H x y v u Q I rx ry q hs
theorem aEe{r:R2}(hr:IxR X r)(ha:PE X a ta)(hb:PE X b tb)(hs:jC b):PE X (.Subscript a b pos) (tOp r ta tb):=by
 intro Aa s σ H Q I h
 exact Subscript_ (aUh ha hb I h λv u s2 x y H2 I2 rx ry q=>hr a b Aa s2 σ H2 x y v u Q I2 rx ry q (hs _ _))
def aDo(K:cZ):R2:=λx y H Q=>∃p xs i v,x=.ref p/\y=.int i/\SqL K H p xs/\atI xs i=some v/\Q v H
def aQm(K:cZ):R2:=λx y H Q=>∃p xs i v,x=.ref p/\y=.int i/\SqT K H p xs/\atI xs i=some v/\Q v H
def aXf:R2:=λx y H Q=>∃z i c,x=.str z/\y=.int i/\z.length<=sizeLine/\atI z.cps.toList i=some c/\Q (.str ⟨#[c]⟩) H
theorem j7:IxR X (aDo X.K):=by
 intro value slice Aa s σ H x y v u Q I rx ry h hs
 obtain⟨p,xs,i,z,rfl,rfl,hq,he,q⟩:=h
 cases rx
 obtain⟨t,rfl⟩:=ry
 obtain⟨its,r,pl,hz⟩:=I.list hq
 obtain⟨j,h1,h2,h3,h4,h5⟩:=vG he
 obtain⟨w,ew,rw'⟩:=r.get h2
 have hl:=r.length
 have hn:=kU
 have At:EP X Aa σ Q w s:=⟨z,H,I,rw',q⟩
 by_cases h0:0<=i
 ·have hj:i.toNat=j:=by
   rw[seqIndex_of h0 h5]at h1
   exact ozI h1
  exact item_listR pl.isList h0 (by omega) (by rw[hj];simpa using ew) At hs
 ·have hj:(i + (its.toArray.size:Int)).toNat=j:=by
   rw[seqIndex_neg (by omega) h4]at h1
   rw[bE,<-hl]
   exact ozI h1
  exact subscriptTail_builtinR (x:=w) pl.isList.typeIs slot_list_getitem.lookup
   (wpAny_getItem_list_neg (Q:=λr s'=>r=w/\EP X Aa σ Q r s') pl.isList (by omega) (by rw[bE]<;>omega) (by omega) (by rw[hj];simpa using ew) ⟨rfl,At⟩) hs
theorem aSy:IxR X (aQm X.K):=by
 intro value slice Aa s σ H x y v u Q I rx ry h hs
 obtain⟨p,xs,i,z,rfl,rfl,hq,he,q⟩:=h
 cases rx
 obtain⟨t,rfl⟩:=ry
 obtain⟨its,r,pl,hz⟩:=I.tuple hq
 obtain⟨j,h1,h2,h3,h4,h5⟩:=vG he
 obtain⟨w,ew,rw'⟩:=r.get h2
 have hl:=r.length
 have hn:=kU
 have At:EP X Aa σ Q w s:=⟨z,H,I,rw',q⟩
 exact subscriptTail_builtinR (x:=w) pl.typeIs slot_tuple_getitem.lookup
  (getItem_tuple (j:=j) (Q:=λr s'=>r=w/\EP X Aa σ Q r s') pl (by omega) (by omega) (by rw[bE,<-hl];exact h1) (by simpa using ew) ⟨rfl,At⟩) hs
theorem aSz:IxR X aXf:=by
 intro value slice Aa s σ H x y v u Q I rx ry h hs
 obtain⟨z,i,c,rfl,rfl,hz,he,q⟩:=h
 obtain⟨t,rfl⟩:=rx
 obtain⟨t',rfl⟩:=ry
 obtain⟨j,h1,h2,h3,h4,h5⟩:=vG he
 have hl:z.cps.toList.length=z.length:=by simp[Str.length]
 rw[hl]at h1 h4 h5
 have hn:=kU
 exact tail_any (typeIs_str s z t) slot_str_getitem.lookup (getItem_str (c:=c) (by
  have e1:decide (i < -(2^63:Int))=false:=dzF (by omega)
  have e2:decide (i>=2^63)=false:=dzF (by omega)
  rw[e1,e2,Bool.or_false]) (by rw[h1];simpa using h2) ⟨.str ⟨#[c]⟩,H,I.tok _,⟨_,rfl⟩,q⟩) hs
theorem zG(its:List Value)(n j:Nat)(u:Value):Obj.mapSeq (·.setIfInBounds j u) { cls:=.type "list",data:=.seq its.toArray n }={ cls:=.type "list",data:=.seq (its.set j u).toArray n }:=by
 simp[Obj.mapSeq]
theorem Inv.lst{Aa:eF}{σ:St}{H:Hp}{s:Shared}{p:Addr}{xs:List V}(I:Inv X Aa σ H s)(h:H p=some (.lst xs)) :
  ∃(its:List Value) (n:Nat),Vals xs its/\s.heap.get? p=some { cls:=.type "list",data:=.seq its.toArray n }/\xs.length<=sizeLine:=by
 obtain⟨z,its,n,r,e⟩:=I.hok p _ h
 exact⟨its,n,r,e,z⟩
theorem Inv.lstUpd{Aa:eF}{σ:St}{H:Hp}{s:Shared}{p:Addr}{xs ys:List V}{its its':List Value}{n n':Nat}{f:Obj->Obj}(I:Inv X Aa σ H s)(h:H p=some (.lst xs))
  (ho:s.heap.get? p=some { cls:=.type "list",data:=.seq its.toArray n }) (hf:f { cls:=.type "list",data:=.seq its.toArray n }={ cls:=.type "list",data:=.seq its'.toArray n' }) (r:Vals ys its') (hz:ys.length<=sizeLine) (t:Nat) :
  Inv X Aa σ (upd H p (.lst ys)) { s with heap:=s.heap.update p f,toks:=t }:=by
 have e:(s.heap.update p f).get? p=some { cls:=.type "list",data:=.seq its'.toArray n' }:=by
  rw[Heap.get?_update_self f ho (by rw[hf]<;>rfl),hf]
 refine I.write (x:=p) (e:=p) (by rw[h];trivial) (.inl rfl) (λb u hb q=>(cG _ _ (Ne.symm hb)).trans q) ⟨_,e⟩ ?_
 exact⟨hz,its',n',r,e⟩
def aNz:V->V->V->Hp->(Hp->Prop)->Prop:=λo i v H Q=>∃p xs k j,o=.ref p/\i=.int k/\H p=some (.lst xs)/\ixN xs.length k=some j/\Q (upd H p (.lst (xs.set j v)))
theorem oC:aZw X aNz:=by
 intro Aa s σ H o i v ov iv u Q I ro ri rv h
 obtain⟨p,xs,k,j,rfl,rfl,hp,hj,q⟩:=h
 cases ro
 obtain⟨t,rfl⟩:=ri
 obtain⟨its,n,r,ho,hz⟩:=I.lst hp
 obtain⟨h1,h2,h3,h4⟩:=j8 hj
 have hl:=r.length
 have hn:=kU
 have I':Inv X Aa σ (upd H p (.lst (xs.set j v))) { s with heap:=s.heap.update p (Obj.mapSeq (·.setIfInBounds j u)) }:=
  I.lstUpd hp ho (zG its n j u) (r.set rv j) (by rw[bG];exact hz) s.toks
 by_cases h0:0<=k
 ·have hk:k.toNat=j:=by
   rw[seqIndex_of h0 h4]at h1
   exact ozI h1
  exact PySem.W.ki_setAt ho h0 (by omega) (by rw[bE,<-hl];exact h4) (by rw[hk];exact⟨_,I',q⟩)
 ·have hk:(k + (its.toArray.size:Int)).toNat=j:=by
   rw[seqIndex_neg (by omega) h3]at h1
   rw[bE,<-hl]
   exact ozI h1
  exact PySem.W.ki_setBack ho (by omega) (by rw[bE,<-hl];exact h3) (by omega) (by rw[hk];exact⟨_,I',q⟩)
theorem tH(lo hi:Option Int)(n:Nat):(sliceBounds lo hi none n).1=((HT.sIx n 0 lo:Nat):Int)/\(sliceBounds lo hi none n).2.1=((HT.sIx n n hi:Nat):Int)/\(sliceBounds lo hi none n).2.2=1:=by
 refine⟨?_,?_,rfl⟩
 ·cases lo with
  |none=>simp[sliceBounds,HT.sIx]
  |some i =>
   simp only[sliceBounds,HT.sIx,Option.getD_none,show(1:Int)>0 by decide,if_true]
   by_cases h:i<0
   ·simp only[h,if_true]<;>omega
   ·simp only[h,if_false]<;>omega
 ·cases hi with
  |none=>simp[sliceBounds,HT.sIx]
  |some i =>
   simp only[sliceBounds,HT.sIx,Option.getD_none,show(1:Int)>0 by decide,if_true]
   by_cases h:i<0
   ·simp only[h,if_true]<;>omega
   ·simp only[h,if_false]<;>omega
theorem qE(its:List Value)(lo hi:Option Int):slicePick its.toArray lo hi none=((its.drop (HT.sIx its.length 0 lo)).take (HT.sIx its.length its.length hi-HT.sIx its.length 0 lo)).toArray:=by
 obtain⟨h1,h2,h3⟩:=tH lo hi its.toArray.size
 unfold slicePick
 rw[h1,h2,h3]
 simp only[sliceRange_one,pick_run,bE]<;>rfl
def aXc(K:cZ):V->Option Int->Option Int->Hp->VK->Prop:=λx lo hi H Q=>∃a xs,x=.ref a/\SqL K H a xs/\∀p,H p=none->Q (.ref p) (upd H p (.lst (aGw xs lo hi)))
theorem aIy:SlR X (aXc X.K):=by
 intro Aa s σ H x v vl vu lo hi sl Q I rx hs pl pu h
 obtain⟨a,xs,rfl,hx,q⟩:=h
 cases rx
 obtain⟨its,r,ht,hz⟩:=I.list hx
 have Al:=r.length
 refine⟨"list",_,slot_list_getitem.lookup,ht.isList.typeIs,?_⟩
 refine wpAny_getItem_list_slice ht.isList hs pl pu .none (by simp) ?_ (by rw[bE]<;>omega)
 rw[qE,<-Al]
 refine⟨.ref s.heap.objs.size,_,I.laid (t':=s.toks) (o:=.lst (aGw xs lo hi)) (λb ob q=>aQ _ q) (bA _) ?_,rfl,q _ (I.hok.fresh (bA _))⟩
 exact⟨nzL (xT xs lo hi) hz,_,0,(r.drop (HT.sIx xs.length 0 lo)).take (HT.sIx xs.length xs.length hi-HT.sIx xs.length 0 lo),bP _ rfl⟩
theorem lI:CallR X (.builtin "len") (λxs H Q=>∃p ys,xs=[.ref p]/\(SqL X.K H p ys\/SqT X.K H p ys)/\Q (.int ys.length) H):=by
 intro Aa s σ H xs us Q I r h
 obtain⟨p,ys,rfl,hq,q⟩:=h
 obtain⟨u,rfl,rx⟩:=gL r
 cases rx
 have hn:=kU
 rcases hq with hq | hq
 ·obtain ⟨its,r',pl,hz⟩:=I.list hq
  have Al:=r'.length
  exact Calls.call_len_list pl.isList (by simp only[bE]<;>omega) ⟨.int ys.length,H,I.tok _,⟨s.toks+1,by rw[bE,Al]⟩,q⟩
 ·obtain ⟨its,r',pl,hz⟩:=I.tuple hq
  have Al:=r'.length
  exact len_tuple pl (by simp only[bE]<;>omega) ⟨.int ys.length,H,I.tok _,⟨s.toks+1,by rw[bE,Al]⟩,q⟩
theorem vC:CallR X (.builtin "len") (λxs H Q=>∃z,xs=[.str z]/\z.length<=sizeLine/\Q (.int z.length) H):=by
 intro Aa s σ H xs us Q I r h
 obtain⟨z,rfl,hz,q⟩:=h
 obtain⟨u,rfl,t,rfl⟩:=gL r
 have hn:=kU
 exact len_str (by omega) ⟨.int z.length,H,I.tok _,⟨_,rfl⟩,q⟩
theorem CallR.or{f:Value}{r r':List V->Hp->VK->Prop}(h:CallR X f r)(h':CallR X f r'):CallR X f (λxs H Q=>r xs H Q\/r' xs H Q):=by
 intro Aa s σ H xs us Q I rs q
 rcases q with q | q
 ·exact h Aa s σ H xs us Q I rs q
 ·exact h' Aa s σ H xs us Q I rs q
theorem qL:CallR X (.type "tuple") (λxs H Q=>∃p ys,xs=[.ref p]/\((SqL X.K H p ys/\∀l,H l=none->Q (.ref l) (upd H l (.tup ys)))\/(SqT X.K H p ys/\Q (.ref p) H))):=by
 intro Aa s σ H xs us Q I r h
 obtain⟨p,ys,rfl,h⟩:=h
 obtain⟨u,rfl,rx⟩:=gL r
 cases rx
 rcases h with⟨hq,q⟩ | ⟨hq,q⟩
 ·obtain ⟨its,r',pl,hz⟩:=I.list hq
  have Al:=r'.length
  refine call_tuple_list pl.isList (λh' kp=>?_) (by simp only[bE]<;>omega)
  have I1:Inv X Aa σ H { s with heap:=h' }:=I.kept (t':=s.toks) kp
  have I2:Inv X Aa σ (upd H h'.objs.size (.tup ys)) { s with heap:=h'.push { cls:=.type "tuple",data:=.seq its.toArray } }:=
   I1.laid (t':=s.toks) (λb o e=>aQ _ e) (bA _) (show ObjOk X.prog X.w _ _ _ (.tup ys)from⟨hz,its,r',IsTup.new _ _⟩)
  exact⟨.ref h'.objs.size,_,I2,rfl,q _ (I1.hok.fresh (bA _))⟩
 ·obtain ⟨its,r',pl,hz⟩:=I.tuple hq
  exact call_tuple_same pl ⟨.ref p,H,I,rfl,q⟩
def tyV(K:cZ)(T:String)(x:V)(H:Hp):Prop:=match x with
 | .str _=>T = "str"
 | .int _=>T = "int"
 | .ref p => (T = "list" ∧ ∃ xs, SqL K H p xs) ∨ (T = "tuple" ∧ ∃ o, K.lookup p = some o ∧ o.cls = .type "tuple" ∧ o.dict = none) ∨
   (T = "dict" /\ ((∃kvs,H p=some (.dK kvs))\/∃kvs,H p=some (.dT kvs)))\/(T = "set" /\ ∃S n,H p=some (.set S n))
 |_=>False
theorem yI{Aa:eF}{σ:St}{H:Hp}{s:Shared}{T:String}{x:V}{v:Value}(I:Inv X Aa σ H s)(r:RelV x v)(ty:tyV X.K T x H) :
  s.TypeIs v T/\∀a,v=.ref a->∃ob,s.heap.get? a=some ob/\ob.dict=none:=by
 cases x with
 |str z =>
  obtain⟨t,rfl⟩:=r
  cases(show T = "str" from ty)
  exact⟨typeIs_str s z t,λ_ e=>nomatch e⟩
 |int i =>
  obtain⟨t,rfl⟩:=r
  cases(show T = "int" from ty)
  exact⟨typeIs_int s i t,λ_ e=>nomatch e⟩
 |ref p =>
  cases r
  rcases ty with⟨rfl,xs,hq⟩ | ⟨rfl,o,hk,hc,hd⟩ | ⟨rfl,hk⟩ | ⟨rfl,S,n,hk⟩
  ·obtain ⟨its,_,pl,_⟩:=I.list hq
   refine⟨pl.isList.typeIs,λa e=>?_⟩
   cases e
   obtain⟨o,n,e,c,hd,_⟩:=pl
   exact⟨o,e,hd⟩
  ·refine ⟨⟨o,I.kIn p o hk,hc⟩,fun a e => ?_⟩
   cases e
   exact⟨o,I.kIn _ o hk,hd⟩
  ·have z:∃ o,s.heap.get? p=some o∧o.ExactDict:=by
    rcases hk with⟨kvs,hk⟩ | ⟨kvs,hk⟩
    ·obtain ⟨_,_,_,_,o,_,_,e,ex,_⟩:=I.hok p _ hk
     exact⟨o,e,ex⟩
    ·obtain ⟨_,_,_,_,o,_,_,e,ex,_⟩:=I.hok p _ hk
     exact⟨o,e,ex⟩
   obtain⟨o,e,ex⟩:=z
   refine⟨⟨o,e,ex.1⟩,λa e2=>?_⟩
   cases e2
   exact⟨o,e,ex.2.1⟩
  ·obtain ⟨o,_,_,_,e,ex,_⟩:=I.hok p _ hk
   refine⟨⟨o,e,ex.1⟩,λa e2=>?_⟩
   cases e2
   exact⟨o,e,ex.2.1⟩
 |_=>exact False.elim ty
def aPx(K:cZ)(T:String)(r:V->List V->Hp->VK->Prop)(to:TE):TE:=λσ H Q=>to σ H λx H1=>tyV K T x H1/\r x [] H1 Q
def tBM(K:cZ)(T:String)(r:V->List V->Hp->VK->Prop)(to:TE)(t:TA):TE:=λσ H Q=>to σ H λx H1=>tyV K T x H1/\t σ H1 λxs H2=>r x xs H2 Q
variable{o e:Expr}{es:List Expr}{to:TE}{t:TA}{name:Str}{apos cpos:Pos}{T id:String}{r:V->List V->Hp->VK->Prop}
theorem aEi(pa:PlainAttrs T)(slot:Slot T name id)(K5:typeOf (.builtin id)=pure (.type "method_descriptor"))(hm:MtR X id r)(ho:PE X o to)
  (A6:attributeBase o name X.env (eval o X.env)=eval o X.env:=by rfl) (Bc:(apos.endLine == cpos.line)=true:=by rfl):PE X (.Call (.Attribute o name apos) [] [] cpos) (aPx X.K T r to):=by
 intro Aa s σ H Q I h
 refine wpAny_Call_method0_late A6 Bc (dQ (ho Aa s σ H _ I h) λv s1 ⟨x,H1,I1,r1,ty,q1⟩=>?_)
 obtain⟨h1,h2⟩:=yI I1 r1 ty
 exact⟨T,id,pa,slot,K5,h1,h2,Calls.callWith_builtin rfl (PySem.evalArgs_none (hm Aa s1 σ H1 x [] v [] Q I1 r1 .nil q1))⟩
theorem oW(pa:PlainAttrs T)(slot:Slot T name id)(K5:typeOf (.builtin id)=pure (.type "method_descriptor"))(hm:MtR X id r)(ho:PE X o to)(ha:PA X (e::es) t)
  (A6:attributeBase o name X.env (eval o X.env)=eval o X.env:=by rfl)
  (Cw:((backTo cpos (starEach (e :: es) X.env)).all (fun x => !x.1) && (backToKw cpos (keywordEach [] X.env)).all (fun x=>x.1.isSome)
   && decide ((e::es).length+([]:List Keyword).length+(if([]:List Keyword).isEmpty then 0 else 1)<30))=true:=by rfl)
  (Bc:(apos.endLine == cpos.line)=true:=by rfl) (hs:starEach (e::es) X.env=(false,eval e X.env)::starEach es X.env:=by rfl) (A5:(backTo cpos (starEach es X.env)).any (·.1)=false:=by rfl) :
  PE X (.Call (.Attribute o name apos) (e::es) [] cpos) (tBM X.K T r to t):=by
 intro Aa s σ H Q I h
 refine wpAny_Call_method_late A6 Cw Bc rfl (dQ (ho Aa s σ H _ I h) λv s1 ⟨x,H1,I1,r1,ty,q1⟩=>?_)
 obtain⟨h1,h2⟩:=yI I1 r1 ty
 refine⟨T,id,pa,slot,K5,h1,h2,?_⟩
 have hA:=ha cpos Aa s1 σ H1 _ I1 q1
 rw[hs]at hA ⊢
 refine Calls.callWith_builtin (by show(false||(backTo cpos (starEach es X.env)).any (·.1))=false;rw[A5]<;>rfl) (Calls.evalArgs_plain ?_)
 exact dQ hA λus s2 ⟨vs,H2,I2,r2,q2⟩=>hm Aa s2 σ H2 x vs v us Q I2 r1 r2 q2
end
def MtM(X:Cx)(id:String)(r:V->List V->Hp->VK->Prop):Prop:=
 ∀(Aa:eF) (s:Shared) (σ:St) (H:Hp) (x:V) (xs:List V) (v:Value) (us:List Value) (Q:VK),Inv X Aa σ H s->RelV x v->Vals xs us->r x xs H Q ->
  wpAny (model X.prog X.w) X.A (call (.builtin id) (v::us)) (EP X Aa σ Q) X.xe s
theorem Vals.one:∀{x:V} {us:List Value},Vals [x] us->∃u,us=[u]/\RelV x u
 |_,_,.cons r .nil=>⟨_,rfl,r⟩
theorem Vals.zero:∀{us:List Value},Vals [] us->us=[]
 |_,.nil=>rfl
theorem Vals.dropLast{xs:List V}{us:List Value}(h:Vals xs us):Vals xs.dropLast us.dropLast:=by
 induction h with
 |nil=>exact .nil
 |cons r t ih =>
  cases t with
  |nil=>exact .nil
  |cons q t'=>exact .cons r ih
theorem Vals.reverse{xs:List V}{us:List Value}(h:Vals xs us):Vals xs.reverse us.reverse:=by
 induction h with
 |nil=>exact .nil
 |cons r t ih=>rw[List.reverse_cons,List.reverse_cons];exact Vals.append ih (.cons r .nil)
theorem Vals.rep{xs:List V}{us:List Value}(h:Vals xs us):∀k:Nat,Vals (List.replicate k xs).flatten (List.replicate k us).flatten
 | 0=>.nil
 |k+1=>by
  rw[dM,dM,cQ,cQ]
  exact Vals.append h (Vals.rep h k)
theorem zV{α:Type}(l:List α):l.eraseIdx (l.length-1)=l.dropLast:=by
 induction l with
 |nil=>rfl
 |cons a r ih =>
  cases r with
  |nil=>rfl
  |cons b r =>
   have e:(a::b::r).length-1=((b::r).length-1)+1:=by
    have h1:(a::b::r).length=r.length+2:=rfl
    have h2:(b::r).length=r.length+1:=rfl
    omega
   rw[e,List.eraseIdx_cons_succ,ih]
   all_goals rfl
theorem rT(its:List Value):∀(k:Nat) (Ag:List Value),
  List.foldl (λx1 x2=>x1++x2) Ag.toArray (List.replicate k its.toArray)=(Ag++(List.replicate k its).flatten).toArray
 | 0,Ag=>by simp
 |k+1,Ag=>by
  have e:Ag.toArray++its.toArray=(Ag++its).toArray:=by simp
  have e2:(Ag++its)++(List.replicate k its).flatten=Ag++(List.replicate (k+1) its).flatten:=by
   rw[dM,cQ,aL]
  rw[<-e2,<-rT its k (Ag++its),<-e,dM,List.foldl_cons]
section
variable{X:Cx}{Aa:eF}{σ:St}{H:Hp}{s:Shared}{l b:Addr}{xs ys zs:List V}
theorem Inv.lset{its its':List Value}{n:Nat}{f:Array Value->Array Value}{t':Nat}(I:Inv X Aa σ H s)(hH:H l=some (.lst xs))
  (e:s.heap.get? l=some { cls:=.type "list",data:=.seq its.toArray n }) (hf:f its.toArray=its'.toArray) (hv:Vals ys its') (hz:ys.length<=sizeLine) :
  Inv X Aa σ (upd H l (.lst ys)) { s with heap:=s.heap.update l (Obj.mapSeq f),toks:=t' }:=by
 have q:=PySem.IsL.update e f
 rw[hf]at q
 refine I.write (x:=l) (e:=l) (by rw[hH];exact trivial) (.inl rfl) (λb' u hb hu=>(cG s.heap (Obj.mapSeq f) (Ne.symm hb)).trans hu) ⟨_,q⟩ ?_
 exact⟨hz,its',_,hv,q⟩
theorem Inv.lnew{its:List Value}{t':Nat}(I:Inv X Aa σ H s)(hv:Vals ys its)(hz:ys.length<=sizeLine) :
  Inv X Aa σ (upd H s.heap.objs.size (.lst ys)) { s with heap:=s.heap.push { cls:=.type "list",data:=.seq its.toArray },toks:=t' }:=
 I.laid (λ_ _ q=>aQ _ q) (bA _) ⟨hz,its,0,hv,bP _ rfl⟩
theorem Inv.fresh(I:Inv X Aa σ H s):H s.heap.objs.size=none:=I.hok.fresh (bA _)
theorem Inv.lstM(I:Inv X Aa σ H s)(hH:H l=some (.lst xs)):xs.length<=sizeLine/\∃(its:List Value) (n:Nat),Vals xs its/\xs.length=its.length/\s.heap.get? l=some { cls:=.type "list",data:=.seq its.toArray n }:=by
 obtain⟨z,its,n,r,e⟩:=I.hok l _ hH
 exact⟨z,its,n,r,r.length,e⟩
theorem aEz{n:Nat}(h:n<=sizeLine):Builtin.List.listTooLong n=false:=by
 unfold Builtin.List.listTooLong
 exact dzF (by omega)
end
section
variable{X:Cx}
def tU:V->List V->Hp->VK->Prop:=λx vs H Q=>∃l xs y,x=.ref l/\vs=[y]/\H l=some (.lst xs)/\xs.length<sizeLine/\Q .non (upd H l (.lst (xs++[y])))
theorem gx_:MtM X "list.append" tU:=by
 intro Aa s σ H x vs v us Q I rx rv h
 obtain⟨l,xs,y,rfl,rfl,hH,hz,q⟩:=h
 cases rx
 obtain⟨u,rfl,ru⟩:=rv.one
 obtain⟨z,its,n,r,hl,e⟩:=I.lstM hH
 refine call_meets F.slot_list_append ⟨_,e,rfl⟩ F.entry_list_append (F.args_list_append_2 _ _) (PySem.list_append l its.toArray n u (by rw[bE];omega)) ⟨e,?_⟩
 refine⟨.non,_,I.lset (its':=its++[u]) hH e (by simp) (r.append (.cons ru .nil)) ?_,rfl,q⟩
 rw[aB,bH]
 omega
def aXe:V->List V->Hp->VK->Prop:=λx vs H Q=>∃l xs y,x=.ref l/\vs=[]/\H l=some (.lst xs)/\xs[xs.length-1]? = some y/\Q y (upd H l (.lst xs.dropLast))
theorem aSh:MtM X "list.pop" aXe:=by
 intro Aa s σ H x vs v us Q I rx rv h
 obtain⟨l,xs,y,rfl,rfl,hH,hy,q⟩:=h
 cases rx
 have hus:=rv.zero
 subst hus
 obtain⟨z,its,n,r,hl,e⟩:=I.lstM hH
 obtain⟨u,hu,ru⟩:=r.get hy
 have hy':its.toArray[its.toArray.size-1]? = some u:=by
  show its.toArray[its.length-1]? = some u
  rw[<-Array.getElem?_toList,<-hl]
  exact hu
 refine call_meets F.slot_list_pop ⟨_,e,rfl⟩ F.entry_list_pop (F.args_list_pop_1 _) (MeetsSeq.list_pop_last l its.toArray n u hy' (by rw[bE];omega)) ⟨e,?_⟩
 refine⟨y,_,I.lset (its':=its.dropLast) hH e ?_ r.dropLast ?_,ru,q⟩
 ·show its.toArray.eraseIdxIfInBounds (its.toArray.size - 1)=its.dropLast.toArray
  rw[bE,List.eraseIdxIfInBounds_toArray,zV]
 ·rw [List.length_dropLast]
  omega
def bCd:R2:=λx y H Q=>∃l b xs zs,x=.ref l/\y=.ref b/\H l=some (.lst xs)/\H b=some (.lst zs)/\xs.length+zs.length<=sizeLine/\∀p,H p=none->Q (.ref p) (upd H p (.lst (xs++zs)))
theorem aRn:OpR X (binaryOp .Add) bCd:=by
 intro Aa s σ H x y v u Q I rx ry h
 obtain⟨l,b,xs,zs,rfl,rfl,hH,hB,hz,q⟩:=h
 cases rx
 cases ry
 obtain⟨z,its,n,r,hl,e⟩:=I.lstM hH
 obtain⟨z2,its2,n2,r2,B8,e2⟩:=I.lstM hB
 refine PySem.P.add_list e e2 ?_ (by rw[bE,bE];omega)
 have ea:its.toArray++its2.toArray=(its++its2).toArray:=by simp
 rw[ea]
 exact⟨.ref _,_,I.lnew (t':=s.toks) (r.append r2) (by rw[aB];omega),rfl,q _ I.fresh⟩
def bCc:R2:=λx y H Q=>∃l k xs,x=.ref l/\y=.int k/\H l=some (.lst xs) /\ -(2^63)<=k/\k<2^63/\xs.length*k.toNat<=sizeLine /\
 ∀p,H p=none->Q (.ref p) (upd H p (.lst (List.replicate k.toNat xs).flatten))
theorem aLb{α:Type}(xs:List α)(k:Nat):(List.replicate k xs).flatten.length=k*xs.length:=by
 induction k with
 |zero=>simp
 |succ k ih=>rw[dM,cQ,aB,ih,Nat.succ_mul,Nat.add_comm]
theorem aRj:OpR X (binaryOp .Mult) bCc:=by
 intro Aa s σ H x y v u Q I rx ry h
 obtain⟨l,k,xs,rfl,rfl,hH,h1,h2,hz,q⟩:=h
 cases rx
 obtain⟨t,rfl⟩:=ry
 obtain⟨z,its,n,r,hl,e⟩:=I.lstM hH
 have Al:its.toArray.size*k.toNat<=sizeLine:=by rw[bE,<-hl];exact hz
 have Md:¬its.toArray.size*k.toNat>(2^63-1)/8:=by
  have:(sizeLine:Nat)<=(2^63-1)/8:=by decide
  omega
 have Ep:¬(!Builtin.List.listFitsIndex k)=true:=by
  rw[fitsIndex_both h1 h2]
  exact bO
 have Jk:¬Builtin.List.listTooLong (its.toArray.size*k.toNat)=true:=by
  rw[aEz Al]
  exact bO
 have B6:List.foldl (λx1 x2=>x1++x2) #[] (List.replicate (if its.toArray.isEmpty=true then 0 else k.toNat) its.toArray)=(List.replicate k.toNat its).flatten.toArray:=by
  have f0:∀m:Nat,List.foldl (λx1 x2=>x1++x2) #[] (List.replicate m its.toArray)=(List.replicate m its).flatten.toArray:=λm=>by
   have:=rT its m []
   rw[aS]at this
   exact this
  rw[f0]
  cases its with
  |nil=>simp
  |cons a r'=>rw[if_neg (by simp)]
 refine wpAny_binaryOp_repeat_ref (T:= "list") (U:= "int") (by decide) ⟨_,e,rfl⟩ (λs'=>typeIs_int s' k t) noFill_list_mul F.fills_int_mul F.slot_int_rmul repeat_list F.slot_int_index.lookup
  (call_meets F.slot_int_rmul (typeIs_int s k t) F.entry_int_rmul (F.args_int_rmul_2 _ _) (int___rmul___int_list k t l its.toArray n)
   ⟨e,rfl,⟨_,e,rfl⟩,call_meets F.slot_list_mul ⟨_,e,rfl⟩ F.entry_list_mul (F.args_list_mul_2 _ _) (AutoListH.list___mul___list_int_3 l its.toArray n k t Ep Md Jk) ⟨e,?_⟩⟩)
 rw[B6]
 exact⟨.ref _,_,I.lnew (t':=s.toks) (r.rep k.toNat) (by rw[aLb,Nat.mul_comm];exact hz),rfl,q _ I.fresh⟩
end
end L2
namespace Att
open PySem PySem.W PySem.Calls PyProof.Rows
theorem jh_{P:Params}{h:Heap}:∀(ns:List Int) (vs:List Value),WellAll P h vs (ns.map WData.int)->IntsAre vs ns:=by
 intro ns
 induction ns with
 |nil =>
  intro vs w
  rw[dA]at w
  cases w
  exact .nil
 |cons n ns ih =>
  intro vs w
  rw[bB]at w
  cases w with
  |cons a b =>
   cases a
   exact .cons _ _ (ih _ b)
theorem u0{l:OpenLaw}{n:Nat}(hn:l.most=some n){P:Params}{h:Heap}{args:List WData}{jZ:List Value}
  (F6:l.row.toRowW.claim.pre args=true) (K2:WellAll P h jZ args) :
  ∃a vs ns,jZ=[Value.ref a]/\args=[WData.list (ns.map WData.int)]/\h.get? a=some { cls:=.type "list",data:=.seq vs.toArray }/\IntsAre vs ns/\ns.length<=n:=by
 have hsh:WShape.hasAll [] args [.list .int]=true:=(pre_splitW F6).1
 have hc:l.pre.holds [] { args:=args }=true:=(pre_splitW F6).2
 obtain⟨d,r,rfl,h1,h2⟩:=hasAllW_cons hsh
 obtain rfl:=hasAllW_nil h2
 obtain⟨xs,rfl,h3⟩:=hasW_list h1
 obtain⟨ns,rfl⟩:=items_int h3
 have Al:ns.length<=n:=by
  unfold OpenLaw.pre at hc
  have h4:(WTm.not (.lt (.lit (.int (n:Int))) (.len (.arg 0)))).holds [] { args:=[.list (ns.map .int)] }=true:=by
   have h4:=(holds_andW hc).1
   rw[hn]at h4
   exact h4
  have h5:=condW_of h4 (w_not (w_lt w_lit (w_len_list (w_arg rfl))))
  rw[aG]at h5
  refine Nat.le_of_not_lt λq=>?_
  have q':(n:Int)<((ns.length:Nat):Int):=by omega
  first
   |(rw[dzT q']at h5;exact absurd h5 (by decide))
   |(simp at h5;omega)
 cases K2 with
 |cons w1 w2 =>
  cases w2
  cases w1 with
  |list ho Cy=>exact⟨_,_,ns,rfl,rfl,ho,jh_ ns _ Cy,Al⟩
theorem u9(l:OpenLaw)(args:List WData):l.row.toRowW.claim.post args (.bool true) args=true:=
 postW_of (r:=l.row.toRowW) (X:=(true == true))
  (show WShape.has [] (.bool true) .bool=true by first | rfl | decide | simp[WShape.has,WShape.arms,WShape.armsAll])
  (show(WTm.eq .res (.lit (.bool true))).value [] { args:=args,res:=some (.bool true),after:=args }=some (.bool (true == true))from w_eq_bool (w_res rfl) w_lit) rfl
theorem attach_call{l:OpenLaw}{n:Nat}{q:Program}{loose:List Str}{XP:(Str->Option Value)->Heap->Prop}{YP:World->Heap->Prop}{d:DefRec}
  (hn:l.most=some n) (Mc:d.params.defaults=[])
  (call:∀ (w:World) (s₀ s₁:Shared) (mg mb:kP) (fa:Addr) (o:Obj) (pm cd doc:Value) (a:Addr) (vs:List Value) (ns:List Int),
   Ground q loose [] XP w s₀ mg mb s₁.heap->YP w s₁.heap ->
   s₁.heap.get? fa=some o->o.data=.func (docDef d.name d.params d.body d.scope pm cd doc)->s₁.heap.CodeRec cd d.name->mg d.name=some (.ref fa) ->
   s₁.heap.get? a=some { cls:=.type "list",data:=.seq vs.toArray }->IntsAre vs ns->ns.length<=n->s₁.gens = #[] ->
   codeAny (model l.prog w) callerA (.call (.ref fa) ⟨[.ref a],[]⟩) (λr s'=>r=.ok (.ret (.bool true))/\OldK s₁.heap s'.heap/\s'.os=s₁.os/\AllBare s'.gens) s₁) :
  WalkO q loose XP YP l.row.toRowW d [] (λf vs=>PySem.call f vs):=by
 intro w s₀ s₁ mg mb G Y fa o pm cd doc dV kV ho hd D7 hD Li hg args jZ as F6 hlay hrd K2 Do
 obtain rfl:dV=.none:=Dflts.none hD Mc
 obtain rfl:kV=.none:=Dflts.noKw hD
 obtain⟨a,vs,ns,rfl,rfl,Hc,Fh,Al⟩:=u0 hn F6 K2
 refine enter_call (codeAny_mono (call w s₀ s₁ mg mb fa o pm cd doc a vs ns G Y ho (fd_plain hd) D7 Li Hc Fh Al hg) λr s' hq=>?_)
 obtain⟨rfl,h2,h3,h4⟩:=hq
 exact⟨.inl ⟨.bool true,.bool true,[],rfl,λ_=>rfl,.bool true,u9 l _,λ_=>⟨List.Pairwise.nil,λ_ hm=>(nomatch hm)⟩⟩,h2,h3,h4⟩
end Att
namespace L2
open PySem PySem.Spec PyProof.Rows
theorem qR:∀{vs:List Value} {ns:List Int},IntsAre vs ns->Vals (ns.map V.int) vs
 |_,_,.nil=>.nil
 |_,_,.cons n t h=>.cons ⟨t,rfl⟩ (qR h)
def aUp(H:Hp):Prop:=∀b,H b=none\/∃o xs,H b=some (.frz o (.lst xs))
theorem aFl{P:Program}{w:World}{K:cZ}{mg mb:kP}{CX:CXT}{k:Nat}{fa a:Addr}{fd:FuncData}{x:Str}{sp:Sp}{s₁:Shared}{vs:List Value}{ns:List Int}
  (KX:K.In s₁.heap) (Gq:s₁.heap.Ns mainGlobals mg) (hb:s₁.heap.Ns builtinsNs mb) (hbb:∀x:Str,x ≠ "__name__" -> mb x=bootBuiltins x) (Ll:s₁.heap.NoLimit) (hg:s₁.gens = #[])
  (ha:s₁.heap.get? a=some { cls:=.type "list",data:=.seq vs.toArray }) (hi:IntsAre vs ns) (hl:ns.length<=sizeLine) (hr:Room k callerA)
  (F:∀base:Heap,K.In base->base.Ns mainGlobals mg->FnOk P w K mg base CX k fa fd [x] sp) (Jx:∀(s:Shared) (u:Value),BindsTo s fd ⟨[u],[]⟩ [(x,u)])
  (Ch:∀H:Hp,aUp H->SqL K H a (ns.map V.int)->sp [.ref a] H (λv _=>v=.bl true) λ_ _ _=>False)
  (Mo:∀H e s',CX [] H s₁ (λ_ _ _=>False) e s'->False) :
  codeAny (model P w) callerA (.call (.ref fa) ⟨[.ref a],[]⟩) (λr s'=>r=.ok (.ret (.bool true))/\OldK s₁.heap s'.heap/\s'.os=s₁.os/\AllBare s'.gens) s₁:=by
 have rv:=qR hi
 have lenV:=hi.length
 have core:∀H:Hp,aUp H->SqL K H a (ns.map V.int)->HOk P w H s₁.heap->(∀b,H b≠none->b=a)->(H a≠none->K.lookup a=none) ->
   codeAny (model P w) callerA (.call (.ref fa) ⟨[.ref a],[]⟩) (λr s'=>r=.ok (.ret (.bool true))/\OldK s₁.heap s'.heap/\s'.os=s₁.os/\AllBare s'.gens) s₁:=by
  intro H hO hS hok hA hK
  have base_of:∀{b:Addr} {o:Obj},s₁.heap.get? b=some o->H b=none->(uS s₁.heap H).get? b=some o:=λe n=>aFv e n
  have noA:∀{b:Addr} {o:Obj} {es:Array DictEntry} {ep:Nat},s₁.heap.get? b=some o->o.data=.dict es ep->H b=none:=λ{b o es ep} e d=>by
   cases q:H b with
   |none=>rfl
   |some u =>
    have e':b=a:=hA b (by rw[q];simp)
    subst e'
    rw[ha]at e;cases e
    have d':Data.seq vs.toArray _=Data.dict es ep:=d
    cases d'
  have nsK:∀{b:Addr} {m:kP},s₁.heap.Ns b m->(uS s₁.heap H).Ns b m:=λ{b m} ⟨o,es,ep,e,d,r⟩=>⟨o,es,ep,base_of e (noA e d),d,r⟩
  have N5:K.In (uS s₁.heap H):=λb o e=>base_of (KX b o e) (by
   cases q:H b with
   |none=>rfl
   |some u =>
    have e':b=a:=hA b (by rw[q];simp)
    subst e'
    rw[hK (by rw[q];simp)]at e;cases e)
  have hM:Mod K mg (uS s₁.heap H):=⟨N5,nsK Gq,⟨mb,nsK hb,hbb⟩,let ⟨mc,h1,h2⟩:=Ll;⟨mc,nsK h1,h2⟩⟩
  have e0:Env0 P w K mg (uS s₁.heap H) callerA [] s₁ H:=⟨rfl,hM,λb o e=>aKu e,Nat.le_of_eq (z5 _ _),trivial,λb hb=>absurd (show b∈([]:List Addr)from hb) (by simp),hok,.of_eq hg⟩
  refine codeAny_mono ((F _ N5 (nsK Gq)).run callerA [] s₁ H ⟨[.ref a],[]⟩ [.ref a] [.ref a] _ _ hr e0 (Jx s₁ (.ref a)) (.cons rfl .nil) (Ch H hO hS)) λr s' h=>?_
  cases r with
  |error e=>exact(Mo H e s' h).elim
  |ok fl =>
   cases fl with
   |next=>exact False.elim h
   |brk=>exact False.elim h
   |cont=>exact False.elim h
   |ret u =>
    obtain⟨v,H',os,bare,un,Lc,r',q⟩:=h
    have q':v=.bl true:=q
    subst q'
    obtain rfl:u=Value.bool true:=r'
    refine⟨rfl,OldK.of_keep λb o e=>?_,os,bare⟩
    cases q:H b with
    |none=>exact un.keep b o e q (by intro z;exact absurd (show b∈([]:List Addr)from z) (by simp)) (by simp)
    |some u =>
     rcases hO b with z | ⟨ob,xs,z⟩
     ·rw[q]at z;cases z
     ·have z2:=un.frzs b ob _ z
      obtain⟨e1,_⟩:=hok b _ z
      obtain⟨e2,_⟩:=Lc b _ z2
      rw[e]at e1;cases e1
      exact e2
 cases hk:K.lookup a with
 |some o =>
  have e:=KX a o hk
  rw[ha]at e
  cases e
  refine core (λ_=>none) (λ_=>.inl rfl) (.inr ⟨_,vs.toArray,_,hk,rfl,rfl,rfl,by rw[bE,lenV];exact hl,by simpa using rv⟩) (λb u z=>by have z':(none:Option HO)=some u:=z;cases z') (λb z=>absurd rfl z) λz=>absurd rfl z
 |none =>
  refine core (λb=>if b=a then some (.frz { cls:=.type "list",data:=.seq vs.toArray } (.lst (ns.map V.int)))else none) (λb=>?_) (.inl (.inr ⟨{ cls:=.type "list",data:=.seq vs.toArray },if_pos rfl⟩)) (λb u z=>?_) (λb z=>?_) λ_=>hk
  ·by_cases hb:b=a
   ·exact .inr ⟨_,_,if_pos hb⟩
   ·exact .inl (if_neg hb)
  ·by_cases hb:b=a
   ·have z':=(if_pos hb).symm.trans z
    cases z'
    subst hb
    exact⟨ha,by rw[aG];exact hl,vs,_,rv,ha⟩
   ·have z':=(if_neg hb).symm.trans z
    cases z'
  ·by_cases hb:b=a
   ·exact hb
   ·exact absurd (if_neg hb) z
abbrev CX0:CXT:=λ_ _ _ _ _ _=>False
abbrev E0:XK:=λ_ _ _=>False
theorem aOe{X:Cx}:jW CX0 X E0:=λ_ _ _ _ _ _ _ h=>h.elim
structure Fun(K:cZ)(x qual:Str)(st:Stmt)(f:Addr)(fd:FuncData):Prop where
 ex:∃(oc:Value) (od:Option Addr) (kV doc pm:Value) (an:Option Addr) (Ak ct:Value) (osl:Array (Option Value)),
  fd=PySem.W.fnOf x qual (lG st) (eG st) (aM st) .none kV doc pm an Ak ct/\K.lookup f=some ⟨oc,od,.func fd,osl⟩/\PySem.W.codeIn K Ak qual=true
 kp:PySem.W.keepIn K (.ref f)=true
section
theorem Fun.ok{x qual:Str}{st:Stmt}{f:Addr}{fd:FuncData}{N ps:List Str}{k:Nat}{sp:Sp}(F:Fun K x qual st f fd)(S:FnScope N ps (aM st))(len:∀vs H Q E,sp vs H Q E->vs.length=ps.length)
  (Az:∀ (Ak:Value) (A:Around) (outer:List Env) (s:Shared) (H:Hp) (vs:List V) (Q:VK) (E:XK),Room k (A.deeper (envOfC qual (aM st) s.heap.objs.size f Ak))→sp vs H Q E →
   ∃t,PSs (iS CX0 P w K mg base N qual (aM st) f Ak A outer s H E).nox (eG st) t/\t { nx:=λ_ H'=>Q .non H',rt:=Q } (start N vs) H):FnOk P w K mg base CX0 (k+1) f fd ps sp:=by
 obtain⟨oc,od,kV,doc,pm,an,Ak,ct,osl,rfl,lk,D7⟩:=F.ex
 refine aGg lk D7 S len λA outer s H vs Q E hr Ch=>?_
 obtain⟨t,h,q⟩:=Az Ak A outer s H vs Q E hr Ch
 exact⟨t,h.nox,q⟩
theorem Fun.binds{x qual:Str}{st:Stmt}{f:Addr}{fd:FuncData}{ps:List Str}(F:Fun K x qual st f fd)
  (h:∀(kV doc pm:Value) (an:Option Addr) (Ak ct:Value) (us:List Value),us.length=ps.length->bindArgs (PySem.W.fnOf x qual (lG st) (eG st) (aM st) .none kV doc pm an Ak ct) ⟨us,[]⟩=pure (ps.zip us)):Binds K fd ps []:=by
 obtain⟨oc,od,kV,doc,pm,an,Ak,ct,osl,rfl,lk,D7⟩:=F.ex
 exact .all (h kV doc pm an Ak ct)
end
theorem jM{A:Around}{k:Nat}(hr:Room k A):A.units+1<cLine:=Nat.lt_of_le_of_lt (Nat.add_le_add_left (by decide:1<=64) _) hr.units
section
variable{X:Cx}
theorem pv(i:Nat){x:Str}{pos:Pos}(hN:X.N[i]? = some x:=by rfl)(hv:Vis X.env.scope x:=by first | exact Or.inl rfl | exact Or.inr (Or.inl rfl) | exact Or.inr (Or.inr rfl))(hd:(x == ("__debug__" : Str))=false:=by decide)
  (D7:(x == ("__classdict__" : Str))=false:=by decide):PE X (.Name x pos) (fN i):=aQy hN hv hd D7
end
theorem wR{c A B:Prop}[Decidable c](h1:c->A)(h2:¬c->B):if c then A else B:=by
 by_cases h:c
 ·rw [if_pos h]
  exact h1 h
 ·rw [if_neg h]
  exact h2 h
def Same(H H':Hp):Prop:=∀b o,H b=some o->H' b=some o
theorem Same.refl(H:Hp):Same H H:=λ_ _ h=>h
section
variable{X:Cx}
def aHm(_ j:Int):Prop:=0<j/\j<2^250
theorem aFf{j:Int}(h1:0<j)(h2:j<2^250):j.natAbs.log2<9000:=by
 have h0:j.natAbs≠0:=by omega
 have h3:j.natAbs<2^250:=by omega
 exact Nat.lt_trans ((Nat.log2_lt h0).mpr h3) (by decide)
theorem aEq:OpR X (binaryOp .FloorDiv) (rI aHm λi j=>.int (i/j)):=opI λi j _ _ _ _ _ hc q=>by
 have h1:(0:Int)<j:=hc.1
 exact floordiv_int (by omega) (by rw[Int.fdiv_eq_ediv_of_nonneg i (by omega)];exact q) (.inl (PyProof.noPylong_of_log2 (aFf hc.1 hc.2)))
def CMulB(i j:Int):Prop:=i.natAbs<2^250/\j.natAbs<2^250
theorem CMulB.ok{i j:Int}(h:CMulB i j):IntMulOk i j:=by
 have a:Builtin.Int.intBits i<=250:=intBits_le h.1
 have b:Builtin.Int.intBits j<=250:=intBits_le h.2
 unfold IntMulOk Builtin.Int.intTooBig
 intro z
 rw[dE]at z
 have c:=of_decide_eq_true z.2
 rw[bitsLine_eq]at c
 omega
theorem aKd:OpR X (binaryOp .Mult) (rI CMulB λi j=>.int (i*j)):=opI λ_ _ _ _ _ _ _ hc q=>mul_int q hc.ok
end
section
variable{K:cZ}
theorem aFm(T:String):PySem.W.kitOne K (.type T) (.type T)=some true:=by
 unfold PySem.W.kitOne
 rw[if_pos (beq_self_eq_true _)]
theorem aSo{T S:String}{b:Bool}(h1:(Value.type T == Value.type S)=false)(h2:PySem.W.kitMeta S=true)(h3:(fastBuiltinMro T).map (·.contains (Value.type S))=some b):PySem.W.kitOne K (.type T) (.type S)=some b:=by
 unfold PySem.W.kitOne
 rw[if_neg (by rw[h1];exact bO)]
 show(if PySem.W.kitMeta S=true then PySem.W.subIn K (.type T) (.type S)else none)=some b
 rw[if_pos h2]
 exact h3
theorem fl_:bootBuiltins "isinstance" = some (.builtin "isinstance"):=by decide +kernel
theorem vD:bootBuiltins "max" = some (.builtin "max"):=by decide +kernel
theorem aUe:bootBuiltins "min" = some (.builtin "min"):=by decide +kernel
theorem ez_:bootBuiltins "int" = some (.type "int"):=by decide +kernel
theorem p8:bootBuiltins "bool" = some (.type "bool"):=by decide +kernel
theorem jp_:bootBuiltins "str" = some (.type "str"):=by decide +kernel
theorem nI:bootBuiltins "list" = some (.type "list"):=by decide +kernel
theorem hb_:bootBuiltins "tuple" = some (.type "tuple"):=by decide +kernel
theorem vE:bootBuiltins "dict" = some (.type "dict"):=by decide +kernel
end
theorem pS{scope:Scope}{env:Env}(h:∀y∈scope.names,y.2=.free->∃c,env.cells.lookup y.1=some c) :
  ∃cl,closureFor scope env=pure cl/\(∀x c,cl.lookup x=some c->env.cells.lookup x=some c)/\(∀y∈scope.names,y.2=.free->∃c,cl.lookup y.1=some c):=by
 have key:∀(ns:List (Str×NameKind)) (cs:List (Str×Addr)),(∀y∈ns,y.2=.free->∃c,env.cells.lookup y.1=some c)->(∀x c,cs.lookup x=some c->env.cells.lookup x=some c) ->
   ∃cl,(forIn ns cs λ(x:Str×NameKind) (cs:List (Str×Addr))=>(if x.2 == .free then do let c <-cellOf env x.1;pure (ForInStep.yield ((x.1,c)::cs))else pure (ForInStep.yield cs):Sem _))=pure cl /\
    (∀x c,cl.lookup x=some c->env.cells.lookup x=some c)/\(∀x c,cs.lookup x=some c->∃c,cl.lookup x=some c)/\(∀y∈ns,y.2=.free->∃c,cl.lookup y.1=some c):=by
  intro ns
  induction ns with
  |nil=>intro cs _ hc;exact⟨cs,rfl,hc,λx c e=>⟨c,e⟩,λy hy=>nomatch hy⟩
  |cons y r ih =>
   intro cs hn hc
   obtain⟨n,k⟩:=y
   by_cases hk:k=.free
   ·subst hk
    obtain⟨c,e⟩:=hn (n,.free) aA rfl
    obtain⟨cl,e1,e2,e3,e4⟩:=ih ((n,c)::cs) (λy hy=>hn y (aC _ hy)) (λx c' q=>by
     rw[bW]at q
     cases hx:x == n with
     |true =>
      rw[hx]at q
      cases q
      have:x=n:=by simpa using hx
      rw[this]
      exact e
     |false =>
      rw[hx]at q
      exact hc x c' q)
    refine⟨cl,?_,e2,λx c' q=>?_,λy hy F2=>?_⟩
    ·rw [List.forIn_cons]
     have e':env.cells.lookup n=some c:=e
     simp only[beq_self_eq_true,if_true,cellOf,e']
     exact e1
    ·cases hx:x == n with
     |true=>exact e3 x c (by rw[bW,hx])
     |false=>exact e3 x c' (by rw[bW,hx];exact q)
    ·rcases aF.mp hy with rfl | hy
     ·exact e3 n c (by rw[bW];simp)
     ·exact e4 y hy F2
   ·obtain ⟨cl,e1,e2,e3,e4⟩:=ih cs (fun y hy=>hn y (aC _ hy)) hc
    refine⟨cl,?_,e2,e3,λy hy F2=>?_⟩
    ·rw [List.forIn_cons]
     have hb:(k == NameKind.free)=false:=by simpa using hk
     simp only[hb,eU,if_false]
     exact e1
    ·rcases aF.mp hy with rfl | hy
     ·exact absurd F2 hk
     ·exact e4 y hy F2
 obtain⟨cl,e1,e2,_,e4⟩:=key scope.names [] h (λx c e=>by simp at e)
 refine⟨cl,?_,e2,e4⟩
 simp only[closureFor]
 rw[show(forIn scope.names ([]:List (Str×Addr)) λ(x:Str×NameKind) (cs:List (Str×Addr))=>(if x.2 == .free then do let c <-cellOf env x.1;pure (ForInStep.yield ((x.1,c)::cs))else pure (ForInStep.yield cs):Sem _))=pure cl from e1]
 rfl
theorem iv_{scope:Scope}{env:Env}{x:Str}{k:NameKind}(h:(relabel scope env).names.lookup x=some k):∃k0,scope.names.lookup x=some k0/\(k0=k\/(k0=.free/\k=.cell)):=by
 unfold relabel at h
 dsimp only at h
 revert h
 generalize scope.names=ns
 induction ns with
 |nil=>intro h;simp at h
 |cons y r ih =>
  obtain⟨n,k'⟩:=y
  intro h
  rw[bB]at h
  cases hx:x == n with
  |true =>
   rw[bW,hx]
   refine⟨k',rfl,?_⟩
   dsimp only at h
   split at h
   ·rename_i hc
    rw[bW,hx]at h
    cases h
    rw[dE,dE]at hc
    exact .inr ⟨by simpa using hc.1.1,rfl⟩
   ·rw [bW,hx] at h
    cases h
    exact .inl rfl
  |false =>
   rw[bW,hx]
   dsimp only at h
   apply ih
   split at h
   ·rw[bW,hx]at h;exact h
   ·rw[bW,hx]at h;exact h
theorem tQ{scope:Scope}{env:Env}{x:Str}(h:scope.names.lookup x=some .free)(hk:env.scope.kind=.function)(hc:env.kindOf x=some .cell):(relabel scope env).names.lookup x=some .cell:=by
 unfold relabel
 dsimp only
 revert h
 generalize scope.names=ns
 induction ns with
 |nil=>intro h;simp at h
 |cons y r ih =>
  obtain⟨n,k'⟩:=y
  intro h
  rw[bB]
  cases hx:x == n with
  |true =>
   rw[bW,hx]at h
   cases h
   have:x=n:=by simpa using hx
   subst this
   dsimp only
   rw[if_pos (by rw[hk,hc];rfl),bW,hx]
  |false =>
   rw[bW,hx]at h
   dsimp only
   split
   ·rw[bW,hx];exact ih h
   ·rw[bW,hx];exact ih h
section
variable{prog:Program}{w:World}{A:Around}{R:Result->Shared->Prop}{s:Shared}
theorem vA{elt target iter:Expr}{ifs:List Expr}{scope:Scope}{pos:Pos}{it Ag:Value}{env:Env}(I:Nat->Shared->Prop)
  (turn:∀ n s,I n s→wpAny (model prog w) A (pyNext it) (fun r s₁=>match r with
   |none=>R (.ok .next) s₁
   | some v => wpAny (model prog w) A (letOwnedTupleGo target it v) (fun _ s₀ => wpAny (model prog w) A (assign target env v) (fun _ s₂ =>
     wpAny (model prog w) A (forIn ifs true λc r=>if r=true then do let ok <-isTrue c env (eval c env);pure (ForInStep.yield ok)else pure (ForInStep.yield r)) (λok s₃ =>
      if ok=true then wpAny (model prog w) A (eval elt env) (λx s₄ =>
       wpAny (model prog w) A (call (.builtin "list.append") [Ag,x]) (λ_ s₅=>∃m,m<n/\I m s₅) (λ_ _=>False) s₄) (λ_ _=>False) s₃
      else ∃m,m<n/\I m s₃) (λ_ _=>False) s₂) (λ_ _=>False) s₀) (λ_ _=>False) s₁) (λ_ _=>False) s)
  (n:Nat) (h:I n s) :
  codeAny (model prog w) A (.compLoop (.ListComp elt [⟨target,iter,ifs,0⟩] scope pos) 0 it Ag env) R s:=by
 refine codeAny_loop rfl I (λn s hI=>?_) n h
 show wpAny _ A ((compTurn (.ListComp elt [⟨target,iter,ifs,0⟩] scope pos) 0 it Ag env).onRaise (λx=>do noteFrame x env;theTreesLotGoes x)) _ _ s
 refine wpAny_noted ?_
 rw[compTurn_list]
 refine wpAny_bind (wpAny_standAt (wpAny_bind (wpAny_mono (turn n s hI) (λr s₁ h₁=>?_) λ_ _ h'=>h'.elim)))
 cases r with
 |none=>exact wpAny_pure h₁
 |some v =>
  refine wpAny_bind (wpAny_mono h₁ (λ_ s₀ h₀=>?_) λ_ _ h'=>h'.elim)
  refine wpAny_bind (wpAny_mono h₀ (λ_ s₂ h₂=>wpAny_bind (wpAny_mono h₂ (λok s₃ h₃=>?_) λ_ _ h'=>h'.elim)) λ_ _ h'=>h'.elim)
  cases ok with
  |false=>exact wpAny_pure ⟨rfl,h₃⟩
  |true =>
   exact wpAny_bind (wpAny_bind (wpAny_mono h₃ (λx s₄ h₄=>wpAny_bind (wpAny_mono h₄ (λ_ s₅ h₅=>wpAny_pure (wpAny_pure ⟨rfl,h₅⟩)) λ_ _ h'=>h'.elim)) λ_ _ h'=>h'.elim))
end
section
variable{X:Cx}{Aa:eF}{σ:St}{H:Hp}{s:Shared}
def PCs(X:Cx)(ifs:List Expr)(t:TT):Prop:=
 ∀(Aa:eF) (s:Shared) (σ:St) (H:Hp) (Q:Bool->Hp->Prop),Inv X Aa σ H s->t σ H Q ->
  wpAny (model X.prog X.w) X.A (forIn ifs true λc r=>if r=true then do let ok <-isTrue c X.env (eval c X.env);pure (ForInStep.yield ok)else pure (ForInStep.yield r)) (TP X Aa σ Q) X.xe s
def bBp:TT:=λ_ H Q=>Q true H
theorem aJz:PCs X [] bBp:=λAa s σ H Q I h=>wpAny_tests_nil ⟨H,I,h⟩
theorem aJy{c:Expr}{t:TT}(h:PT X c t):PCs X [c] t:=λAa s σ H Q I q=>wpAny_tests_one (h Aa s σ H Q I q)
end
def jT(n:Nat)(outs:List Nat)(σ:St):St:=List.replicate n none++outs.map λj=>(σ[j]?).join
theorem oV(n:Nat)(outs:List Nat)(σ:St):(jT n outs σ).length=n+outs.length:=by
 unfold jT
 rw[aB,bI,aG]
def dL(X:Cx)(N':List Str)(scope:Scope)(cl:List (Str×Addr))(C:Addr)(s:Shared)(H:Hp)(ex:List Addr):Cx where
 prog:=X.prog
 w:=X.w
 K:=X.K
 mg:=X.mg
 base:=X.base
 A:=X.A
 N:=N'
 s₀:=s
 H₀:=H
 env:=compEnvC scope cl C X.env
 outer:=X.stack
 stack:=X.stack
 ex:=ex
 fn:=λ_=>false
 calm:=X.calm
 pn:=[]
 xe:=λ_ _=>False
structure CompScope(dsc scope:Scope)(N tgs:List Str)(outs:List Nat)(N':List Str):Prop where
 kind:scope.kind=.function
 names:∀x∈scope.names,x.2=.local->scope.names.lookup x.1=some .local
 nocell:∀y∈scope.names,y.2 ≠ .cell
 free:∀y∈scope.names,y.2=.free->dsc.names.lookup y.1=some .cell
 isN:N'=tgs++outs.map (λj=>N.getD j "")
 lts:∀j∈outs,j<N.length
 outF:∀j∈outs,scope.names.lookup (N.getD j "")=some .free
 nd:N'.Nodup
def Tgt(n:Nat)(g:TG):Prop:=∀x σ H Q,g x σ H Q->g x σ H (λσ2 H2=>Q σ2 H2/\σ2.length=σ.length/\∀i,n<=i->σ2[i]? = σ[i]?)
theorem cv_{n i:Nat}(h:i<n):Tgt n (jU i):=λx σ H Q q=>⟨q,by rw[bG],λj hj=>dD (by omega)⟩
def aMx(n:Nat)(g:TGs):Prop:=∀xs σ H Q,g xs σ H Q->g xs σ H (λσ2 H2=>Q σ2 H2/\σ2.length=σ.length/\∀i,n<=i->σ2[i]? = σ[i]?)
theorem nW{n:Nat}:aMx n aLx:=λxs σ H Q ⟨e,q⟩=>⟨e,q,rfl,λ_ _=>rfl⟩
def q9(g:TGs):Prop:=∀xs σ H Q Q',(∀σ2 H2,Q σ2 H2->Q' σ2 H2)->g xs σ H Q->g xs σ H Q'
theorem es_{n i:Nat}{u:TGs}(h:i<n)(hu:aMx n u)(mu:q9 u):aMx n (k7 (jU i) u):=λxs σ H Q ⟨v,r,e,q⟩=>by
 refine⟨v,r,e,?_⟩
 have z:=hu r (σ.set i (some v)) H Q q
 refine mu r _ H _ _ (λσ2 H2 ⟨a,b,c⟩=>⟨a,?_,λj hj=>?_⟩) z
 ·rw[b,bG]
 ·rw[c j hj,dD (by omega)]
theorem er_:q9 aLx:=λxs σ H Q Q' h ⟨e,q⟩=>⟨e,h _ _ q⟩
theorem hf_{i:Nat}{u:TGs}(mu:q9 u):q9 (k7 (jU i) u):=λxs σ H Q Q' h ⟨v,r,e,q⟩=>⟨v,r,e,mu r _ H _ _ h q⟩
theorem tD{K:cZ}{n k:Nat}{t:TGs}(h:aMx n t):Tgt n (aLv K k t):=λx σ H Q ⟨a,xs,e,hq,hl,q⟩=>⟨a,xs,e,hq,hl,h xs σ H Q q⟩
def qU(n:Nat)(outs:List Nat)(wi:TI)(g:TG)(tc:TT)(te:TE):TE:=λσ H Q=>wi σ H λJ H1 =>
 ∃W:Nat->Nat->List V->Hp->Prop,(∃m,W 0 m [] H1)/\∀i m Ag H,W i m Ag H ->
  (J.stop i H/\Ag.length<=sizeLine/\∀l,H l=none->Q (.ref l) (upd H l (.lst Ag))) \/
  (J.go i H∧Ag.length < sizeLine∧∃ N:List V→Hp→Prop,(∀ acc' H',N acc' H'→∃ m',m' < m∧W (i + 1) m' acc' H')∧∀ x H',J.yld i H x H'→g x (jT n outs σ) H' fun σ2 H2=>tc σ2 H2 fun b H3 =>
   if b=true then te σ2 H3 λy H4=>N (Ag++[y]) H4 else N Ag H3)
section
variable{X:Cx}{Aa:eF}{σ:St}{H2:Hp}{s2:Shared}{dsc scope:Scope}{tgs N':List Str}{outs:List Nat}{cl:List (Str×Addr)}{fp:List Addr}{C D:Addr}{h1:Heap}{tk:Nat}{mC:kP}
theorem zX(S:CompScope dsc scope X.N tgs outs N')(D3:X.env.scope=dsc)(I2:Inv X Aa σ H2 s2)(f2:∀b∈fp,qB X Aa H2 b)(E6:∀b∈fp,b<s2.heap.objs.size)
  (Dp:∀x c,cl.lookup x=some c->X.env.cells.lookup x=some c) (Gf:∀y∈scope.names,y.2=.free->∃c,cl.lookup y.1=some c)
  (hC:s2.heap.objs.size<=C) (kp:∀b o,s2.heap.get? b=some o->h1.get? b=some o) (nC:h1.Ns C mC) :
  Inv (dL X N' scope cl C s2 H2 fp) [] (jT tgs.length outs σ) H2 { s2 with heap:=h1,toks:=tk }:=by
 have freeAt:∀x,scope.names.lookup x=some .free->(relabel scope X.env).names.lookup x=some .cell:=λx e =>
  tQ e I2.ok.kind (by show X.env.scope.names.lookup x=some .cell;rw[D3];exact S.free (x,.free) (PySem.mem_of_lookup e) rfl)
 refine⟨⟨I2.ok.mod,?_,I2.ok.glob,I2.ok.blt,hC,λx y c e1 e2=>I2.ok.inj x y c (Dp x c e1) (Dp y c e2),λx hx=>?_,(λx c h=>nomatch h),I2.ok.hd,I2.ok.frames,.inl rfl,λb hb=>?_,I2.bs,nzL I2.ok.bsz I2.sz,λb o e hb=>?_,λb hb=>?_,I2.stack,I2.stkFree⟩,
  rfl,I2.bare,Un.kept kp,⟨mC,nC,λi x v e1 e2 e3=>?_⟩,λx c e=>?_,I2.hok.fresh hC,λx c e=>I2.freeC x c (Dp x c e),λp hp=>absurd (show p∈([]:eF)from hp) (by simp),I2.hok.kept kp,?_⟩
 ·exact S.kind
 ·have Di:(relabel scope X.env).names.lookup x=some .cell∨(relabel scope X.env).names.lookup x=some .free:=hx
  have z:scope.names.lookup x=some .free:=by
   rcases Di with Di | Di
   ·obtain ⟨k0,e,h | ⟨h,_⟩⟩:=iv_ Di
    ·rw [h] at e
     exact absurd rfl (S.nocell _ (PySem.mem_of_lookup e))
    ·rw[h]at e;exact e
   ·obtain ⟨k0,e,h | ⟨h,_⟩⟩:=iv_ Di
    ·rw[h]at e;exact e
    ·rw[h]at e;exact e
  exact Gf (x,.free) (PySem.mem_of_lookup z) rfl
 ·refine ⟨fun z => ?_,fun x c e=>(f2 b hb).2.2.2.2.1 x c (Dp x c e)⟩
  have z':b=C:=z
  exact absurd (bQ (E6 b hb) hC) (by rw[z'];exact eK _)
 ·rcases (f2 b hb).2.2.2.1 with z | z
  ·exact I2.ok.noex b o e z
  ·exact absurd (bQ (bK e) (nzL I2.ok.bsz z)) (eK _)
 ·intro z
  rcases aF.mp (I2.stkSub b z)with z | z
  ·exact(f2 b hb).2.1 z
  ·exact(f2 b hb).2.2.1 z
 ·have e2':(List.replicate tgs.length (none:Option V) ++ outs.map fun j=>(σ[j]?).join)[i]? = some (some v):=e2
  have e1':N'[i]? = some x:=e1
  by_cases hi:i<tgs.length
  ·rw [List.getElem?_append_left (by rw [bI]; exact hi),iA,if_pos hi] at e2'
   cases e2'
  ·rw [eR (by rw [bI]; omega),bI,bV] at e2'
   rw[S.isN,eR (by omega),bV]at e1'
   cases ej:outs[i-tgs.length]? with
   |none=>rw[ej]at e2';cases e2'
   |some j =>
    rw[ej]at e1' e2'
    have hj:j∈outs:=bN ej
    have ex:X.N.getD j "" = x:=ozI e1'
    have ev:(σ[j]?).join=some v:=ozI e2'
    have ev':σ[j]? = some (some v):=by
     cases q:σ[j]? with
     |none=>rw[q]at ev;cases ev
     |some o=>rw[q]at ev;exact congrArg some ev
    have eN:X.N[j]? = some x:=by
     have hl:=S.lts j hj
     rw[<-ex,List.getD_eq_getElem?_getD,aO hl]
     rfl
    have fx:scope.names.lookup x=some .free:=by rw[<-ex];exact S.outF j hj
    have cx:X.env.scope.names.lookup x=some .cell:=by rw[D3];exact S.free (x,.free) (PySem.mem_of_lookup fx) rfl
    obtain⟨m,hn,hl⟩:=I2.loc
    obtain⟨u,ru,lk⟩:=hl j x v eN ev' (.inr (.inl cx))
    refine⟨u,ru,?_⟩
    rcases lk with⟨k,_⟩ | ⟨k,c,ec,⟨oc,F8,Js⟩⟩
    ·have k':X.env.scope.names.lookup x=some .local:=k
     rw[cx]at k';cases k'
    ·obtain ⟨c',ec'⟩:=Gf (x,.free) (PySem.mem_of_lookup fx) rfl
     have ecc:=Dp x c' ec'
     rw[ec]at ecc
     cases ecc
     exact .inr ⟨.inl (freeAt x fx),c,ec',oc,kp _ _ F8,Js⟩
 ·obtain ⟨v,oc,F8,Js⟩:=I2.cell x c (Dp x c e)
  exact⟨v,oc,kp _ _ F8,Js⟩
 ·show (jT tgs.length outs σ).length=N'.length
  rw[oV,S.isN,aB,aG]
theorem aGx{σ5:St}{H5:Hp}{s5:Shared}{Ag:List V}{its:List Value}{n:Nat}(I2:Inv X Aa σ H2 s2)(I5:Inv (dL X N' scope cl C s2 H2 fp) [] σ5 H5 s5)(f2:∀b∈fp,qB X Aa H2 b)
  (hD:s2.heap.objs.size<=D) (eD:s5.heap.get? D=some { cls:=.type "list",data:=.seq its.toArray n }) (r:Vals Ag its) (hz:Ag.length<=sizeLine) (hn:H5 D=none):Inv X Aa σ (upd H5 D (.lst Ag)) s5:=by
 have ne:∀b o,s2.heap.get? b=some o->b≠D:=λb o e z=>absurd (bQ (bK e) (by rw[z];exact hD)) (eK _)
 refine I2.call' (ch:=fp) I5.os ⟨λb o e nn hb hx=>?_,λb o e nn hb hx=>?_,λb o e nn hx=>?_,λb o e hx=>?_,λb xs e=>?_,λb o u e=>?_,λb ps e=>?_⟩ (λb u e=>?_) I5.bare λb hb=>⟨(f2 b hb).2.2.2.1,(f2 b hb).2.1,(f2 b hb).2.2.2.2.1,(f2 b hb).2.2.2.2.2⟩
 ·exact I5.base.keep b o e nn hb hx
 ·exact I5.base.slot b o e nn hb hx
 ·rw [dW (ne b o e)]
  exact I5.base.free b o e nn hx
 ·exact I5.base.there b o e hx
 ·have q:=I5.base.tups b xs e
  rw[dW (ca_ q hn)]
  exact q
 ·have q:=I5.base.frzs b o u e
  rw[dW (ca_ q hn)]
  exact q
 ·obtain ⟨more,q⟩:=I5.base.tbls b ps e
  refine⟨more,?_⟩
  rw[dW (ca_ q hn)]
  exact q
 ·by_cases hb:b=D
  ·subst hb
   rw[bU]at e
   cases e
   exact⟨hz,its,n,r,eD⟩
  ·rw [dW hb] at e
   exact(I5.hok b u e).stay (λc v _ q=>q) (λc q=>by rw[dW (ca_ q hn)];exact q) λc xs q=>by rw[dW (ca_ q hn)];exact q
end
theorem rC{n:Nat}{outs:List Nat}{σ σ6:St}(k6:∀i,n<=i->σ6[i]? = (jT n outs σ)[i]?):∀(i:Nat) v,(jT n outs σ)[i]? = some (some v)->σ6[i]? = some (some v):=λi v e=>by
 by_cases hi:n<=i
 ·rw[k6 i hi];exact e
 ·unfold jT at e
  rw[List.getElem?_append_left (by rw[bI];omega),iA,if_pos (by omega)]at e
  cases e
section
variable{X:Cx}{tg elt iter:Expr}{ifs:List Expr}{dsc scope:Scope}{tgs N':List Str}{outs:List Nat}{wi:TI}{g:TG}{tc:TT}{te:TE}{pos:Pos}
theorem pP{Aa:eF}{σ:St}{H2:Hp}{s2:Shared}{cl:List (Str×Addr)}{it:Addr}{fp:List Addr}{tn:Nat->Heap->Prop}{J:It}(S:CompScope dsc scope X.N tgs outs N')(D3:X.env.scope=dsc)(hc:X.calm=true)
  (hg:∀cl C s H ex,PG (dL X N' scope cl C s H ex) tg g) (Fy:Tgt tgs.length g) (E7:∀cl C s H ex,PCs (dL X N' scope cl C s H ex) ifs tc) (he:∀cl C s H ex,PE (dL X N' scope cl C s H ex) elt te)
  (Dp:∀x c,cl.lookup x=some c->X.env.cells.lookup x=some c) (Gf:∀y∈scope.names,y.2=.free->∃c,cl.lookup y.1=some c)
  (I2:Inv X Aa σ H2 s2) (T:Turn X.prog X.w X.K tg J fp it tn) (Gn:tn 0 s2.heap) (f2:∀b∈fp,qB X Aa H2 b)
  {W:Nat->Nat->List V->Hp->Prop} {m0:Nat} (w0:W 0 m0 [] H2) {Qf:List V->Hp->Prop}
  (turn:∀ i m Ag H,W i m Ag H→(J.stop i H∧Ag.length≤sizeLine∧Qf Ag H)∨(J.go i H∧Ag.length < sizeLine∧∃ N:List V→Hp→Prop,(∀ acc' H',N acc' H'→∃ m',m' < m∧W (i + 1) m' acc' H')∧∀ x H',J.yld i H x H'→g x (jT tgs.length outs σ) H' fun σ2 H2=>tc σ2 H2 fun b H3 =>
   if b=true then te σ2 H3 λy H4=>N (Ag++[y]) H4 else N Ag H3))
  {E:gG} {RR:Value->Addr->Result->Shared->Prop}
  (At:∀D C s5 mC Ag H5,Inv X Aa σ (upd H5 D (.lst Ag)) s5->H5 D=none->Qf Ag H5->s5.heap.Ns C mC->qB X Aa (upd H5 D (.lst Ag)) C->RR (.ref D) C (.ok .next) s5) :
  wpAny (model X.prog X.w) X.A (newList []) (λAg s₃=>wpAny (model X.prog X.w) X.A (newFunctionEnv scope X.env.globals cl [] X.env.qual none .none (some X.env)) (λcenv s₄ =>
   codeAny (model X.prog X.w) X.A (.compStart (.ListComp elt [⟨tg,iter,ifs,0⟩] scope pos) 0 (.ref it) Ag { cenv with scope:=relabel scope X.env }) (RR Ag cenv.locals) s₄) E s₃) E s2:=by
 have E6:∀b∈fp,b<s2.heap.objs.size:=λb hb=>let ⟨o,e,_⟩:=T.obj 0 _ Gn b hb;bK e
 refine wpAny_newObj_type (wpAny_newFunctionEnv S.nocell (by intro y hy;simp at hy) (λh₁ hns₁ hsb₁=>?_) S.kind)
 dsimp only at hns₁ hsb₁ ⊢
 generalize Ml:s2.heap.push { cls:=.type "list",dict:=none,data:=.seq ([]:List Value).toArray }=HH at hns₁ hsb₁ ⊢
 have hC:HH.objs.size=s2.heap.objs.size+1:=by rw[<-Ml,Heap.size_push]
 have Km:s2.heap.objs.size≠HH.objs.size:=by rw[hC];exact cH (Nat.lt_succ_self _)
 have J1:s2.heap.objs.size<=HH.objs.size:=by rw[hC];exact Nat.le_succ _
 have old:∀b o,s2.heap.get? b=some o->h₁.get? b=some o:=λb o e=>hsb₁.extBut b o (by rw[hC];exact cH (Nat.lt_succ_of_lt (bK e))) (aQ _ (Ml ▸ aQ _ e))
 have Fl:h₁.get? s2.heap.objs.size=some { cls:=.type "list",data:=.seq ([]:List Value).toArray 0 }:=hsb₁.extBut _ _ Km (aQ _ (Ml ▸ bP _ rfl))
 have J0:∀b∈fp,s2.heap.objs.size≠b:=λb hb=>Nat.ne_of_gt (E6 b hb)
 have fresh2:H2 s2.heap.objs.size=none:=I2.hok.fresh (bA _)
 have I4:=zX (tk:=s2.toks+([]:List (Str×Value)).length) S D3 I2 f2 E6 Dp Gf J1 old hns₁
 have M7:tn 0 h₁:=T.keep 0 _ _ Gn λb hb o e=>old b o e
 generalize hCC:HH.objs.size=C at *
 generalize Kl:s2.heap.objs.size=D at *
 have nofs:D∉(dL X N' scope cl C s2 H2 fp).fs:=λz=>by
  obtain⟨_,o,ho,_⟩:=I2.stack.mem (show D∈frs X.stack from z)
  have:=bK ho
  rw[Kl]at this
  exact eK _ this
 have pinD:∀{σ':St} {H':Hp} {s':Shared} {its:List Value} {n:Nat},Inv (dL X N' scope cl C s2 H2 fp) [] σ' H' s'->s'.heap.get? D=some { cls:=.type "list",data:=.seq its.toArray n }->H' D=none ->
   Inv (dL X N' scope cl C s2 H2 fp) [(D,{ cls:=.type "list",data:=.seq its.toArray n })] σ' H' s':=λ{σ' H' s' its n} J e hn=>J.pins_of λp hp=>by
  have ep:p=(D,{ cls:=.type "list",data:=.seq its.toArray n }):=by simpa using hp
  subst ep
  exact⟨e,hn,Km,nofs,λv z=>by cases z⟩
 have stat:∀{H':Hp} {o:Obj},(∀b∈fp,H' b=none)->∀b∈fp,qB (dL X N' scope cl C s2 H2 fp) [(D,o)] H' b:=λ{H' o} hn b hb=>by
  refine⟨hn b hb,(I4.ok.exf b hb).1,I4.ok.exfs b hb,.inl hb,(I4.ok.exf b hb).2,λp hp=>?_⟩
  have F7:p∈([]:eF)++[(D,o)]:=hp
  have ep:p=(D,o):=by simpa using F7
  subst ep
  exact J0 b hb
 have loop:∀s₃:Shared,s₃={ s2 with heap:=h₁,toks:=s2.toks+([]:List (Str×Value)).length } ->
   codeAny (model X.prog X.w) X.A (.compLoop (.ListComp elt [⟨tg,iter,ifs,0⟩] scope pos) 0 (.ref it) (.ref D) (compEnvC scope cl C X.env)) (RR (.ref D) C) s₃:=by
  rintro s₃ rfl
  refine vA (λm s'=>∃i Ag H its n,Inv (dL X N' scope cl C s2 H2 fp) [(D,{ cls:=.type "list",data:=.seq its.toArray n })] (jT tgs.length outs σ) H s'/\tn i s'.heap/\(∀b∈fp,H b=none)/\Vals Ag its/\W i m Ag H) ?_ m0
   ⟨0,[],H2,[],0,pinD I4 Fl fresh2,M7,λb hb=>(f2 b hb).1,.nil,w0⟩
  rintro m s' ⟨i,Ag,H,its,n,I',st',fr',rD,w'⟩
  rcases turn i m Ag H w' with⟨stop,hz,q⟩ | ⟨go,hz,N,hN,step⟩
  ·refine dQ (T.done (dL X N' scope cl C s2 H2 fp) rfl rfl rfl hc i _ s' _ H _ I' (stat fr') st' stop) fun r s4 ⟨hr,J4⟩ => ?_
   subst hr
   obtain⟨eD,nD,_⟩:=J4.pin (D,{ cls:=.type "list",data:=.seq its.toArray n }) (aE _ aA)
   obtain⟨mC,nsC,_⟩:=J4.loc
   have I5:Inv X Aa σ (upd H D (.lst Ag)) s4:=aGx (D:=D) I2 (J4.pins_of (pins':=[]) (λp hp=>nomatch hp)) f2 (by rw[Kl];exact bA _) eD rD hz nD
   refine At D C s4 mC Ag H I5 nD q nsC (I2.fpOk (by rw[Kl];exact J1) ?_)
   rw[dW (Ne.symm Km)]
   exact J4.free
  ·refine dQ (T.item (dL X N' scope cl C s2 H2 fp) rfl rfl rfl hc i _ s' _ H _ I' (stat fr') st' go) fun r s4 ⟨u,hr,h4⟩ => ?_
   subst hr
   dsimp only
   refine dQ h4 λ_ s5 ⟨x,H5,I5,r5,y5,Gm,Mp⟩=>?_
   have I5':=I5.pinned (stat Mp) (T.obj _ _ Gm)
   refine dQ (hg cl C s2 H2 fp _ s5 _ H5 x u _ I5' r5 (Fy x _ H5 _ (step x H5 y5))) λ_ s6 ⟨σ6,H6,I6,q6,l6,k6⟩=>?_
   refine dQ (E7 cl C s2 H2 fp _ s6 σ6 H6 _ I6 q6) λb s7 ⟨H7,I7,q7⟩=>?_
   have tail:∀{H':Hp} {s':Shared},Inv (dL X N' scope cl C s2 H2 fp) ([(D,{ cls:=.type "list",data:=.seq its.toArray n })]++oU fp s5.heap) σ6 H' s'->(∀b∈fp,∀o,s5.heap.get? b=some o->s'.heap.get? b=some o)/\∀b∈fp,H' b=none:=λ{H' s'} J =>
    ⟨fun b hb o e=>(J.pin (b,o) (aE _ (aE _ (gc_ hb e)))).1,fun b hb=>by
     obtain⟨o,e,d⟩:=T.obj _ _ Gm b hb
     exact(J.pin (b,o) (aE _ (aE _ (gc_ hb e)))).2.1⟩
   cases b with
   |false =>
    rw[if_neg bO]at q7 ⊢
    obtain⟨m',hm,w7⟩:=hN _ _ q7
    obtain⟨t1,t2⟩:=tail I7
    exact⟨m',hm,i+1,Ag,H7,its,n,I7.unpinned.weak l6.symm (rC k6),T.keep _ _ _ Gm t1,t2,rD,w7⟩
   |true =>
    rw[if_pos rfl]at q7 ⊢
    refine dQ (he cl C s2 H2 fp _ s7 σ6 H7 _ I7 q7) λv s8 ⟨y,H8,I8,r8,q8⟩=>?_
    obtain⟨m',hm,w8⟩:=hN _ _ q8
    obtain⟨t1,t2⟩:=tail I8
    obtain⟨eD,nD,_⟩:=I8.pin (D,{ cls:=.type "list",data:=.seq its.toArray n }) (aE _ (aK _ aA))
    have hl:=rD.length
    refine call_meets F.slot_list_append ⟨_,eD,rfl⟩ F.entry_list_append (F.args_list_append_2 _ _) (PySem.list_append D its.toArray n v (by rw[bE];omega)) ⟨eD,?_⟩
    have q:=PySem.IsL.update eD (·.push v)
    have eA:its.toArray.push v=(its++[v]).toArray:=by simp
    rw[eA]at q
    refine⟨m',hm,i+1,Ag++[y],H8,its++[v],_,pinD (Inv.weak (Inv.turned (it:=D) (I8.pins_of (pins':=[]) (λp hp=>nomatch hp)) (λb o hb e=>(cG _ _ (Ne.symm hb)).trans e) nD Km (.inr (by show s2.heap.objs.size<=D;rw[Kl];exact bA _)) (λx c e z=>?_) (λp hp=>nomatch hp)) l6.symm (rC k6)) q nD,
     T.keep _ _ _ Gm (λb hb o e=>(cG _ _ (J0 b hb)).trans (t1 b hb o e)),t2,rD.append (.cons r8 .nil),w8⟩
    obtain⟨v',oc,F8,Js⟩:=I8.cell x c e
    rw[z,eD]at F8
    cases F8
    cases Js
 exact codeAny_compStart_list (loop _ rfl) (T.self X.A 0 _ _ _ M7 (loop _ rfl))
theorem tZ{N:List Str}(S:CompScope dsc scope N tgs outs N')(hi:PI X tg iter wi)(hg:∀cl C s H ex,PG (dL X N' scope cl C s H ex) tg g)(Fy:Tgt tgs.length g)(E7:∀cl C s H ex,PCs (dL X N' scope cl C s H ex) ifs tc)
  (he:∀cl C s H ex,PE (dL X N' scope cl C s H ex) elt te) (G3:X.N=N:=by rfl) (D3:X.env.scope=dsc:=by rfl) (hc:X.calm=true:=by rfl) (hs:∀x,foldedSetIterable iter X.env x=pure x:=by intro _;rfl) :
  PE X (.ListComp elt [⟨tg,iter,ifs,0⟩] scope pos) (qU tgs.length outs wi g tc te):=by
 subst G3
 intro Aa s σ H Q I h
 obtain⟨cl,e1,e2,e3⟩:=pS (scope:=scope) (env:=X.env) (λy hy hk=>I.ok.has y.1 (.inl (by show X.env.scope.names.lookup y.1=_;rw[D3];exact S.free y hy hk)))
 rw[eval_ListComp]
 refine wpAny_comprehension_free (use:=none) rfl hs e1 S.kind S.names (wpAny_mono (hi Aa s σ H _ I h) (λxv s1 h1=>wpAny_mono h1 (λitv s2 h2=>?_) λ_ _ e=>e) λ_ _ e=>e)
 obtain⟨it,fp,tn,J,H2,rfl,I2,T,Gn,f2,W,⟨m0,w0⟩,turn⟩:=h2
 refine pP (RR:=λAg C=>compPost (model X.prog X.w) X.A X.xe none (EP X Aa σ Q) Ag C) S D3 hc hg Fy E7 he e2 e3 I2 T Gn f2 w0 (Qf:=λAg H=>∀l,H l=none->Q (.ref l) (upd H l (.lst Ag))) turn ?_
 intro D C s5 mC Ag H5 I5 nD q nsC hf
 refine⟨mC,nsC,λh' F5=>⟨.ref D,_,?_,rfl,q D nD⟩⟩
 exact I5.turned (it:=C) (t':=s5.toks) (λb o hb e=>(F5.2 b hb).trans e) hf.1 hf.2.1 hf.2.2.2.1 hf.2.2.2.2.1 hf.2.2.2.2.2
theorem f6{N:List Str}{i:Nat}{x:Str}{px spos:Pos}(hN:X.N.Nodup)(hx:X.N[i]? = some x)(hl:X.env.scope.names.lookup x=some .local)(S:CompScope dsc scope N tgs outs N')(hi:PI X tg iter wi)(hg:∀cl C s H ex,PG (dL X N' scope cl C s H ex) tg g)(Fy:Tgt tgs.length g)
  (E7:∀cl C s H ex,PCs (dL X N' scope cl C s H ex) ifs tc) (he:∀cl C s H ex,PE (dL X N' scope cl C s H ex) elt te)
  (hsw:swapsWith (.ListComp elt [⟨tg,iter,ifs,0⟩] scope pos) (some (.Name x px)) spos.line X.env=pure true:=by rfl)
  (G3:X.N=N:=by rfl) (D3:X.env.scope=dsc:=by rfl) (hc:X.calm=true:=by rfl) (hs:∀x,foldedSetIterable iter X.env x=pure x:=by intro _;rfl) :
  PS X (.Assign [.Name x px] (.ListComp elt [⟨tg,iter,ifs,0⟩] scope pos) spos) (vX (qU tgs.length outs wi g tc te) (jU i)):=by
 subst G3
 intro Aa s σ H Dn I h
 obtain⟨cl,e1,e2,e3⟩:=pS (scope:=scope) (env:=X.env) (λy hy hk=>I.ok.has y.1 (.inl (by show X.env.scope.names.lookup y.1=_;rw[D3];exact S.free y hy hk)))
 rw[exec_Assign_Name_used _ _ _ _ hsw]
 refine wpAny_bind (wpAny_standAt (wpAny_bind ?_))
 show wpAny _ X.A (do let _ <-comprehension (.ListComp elt [⟨tg,iter,ifs,0⟩] scope pos) scope X.env _ (newList []) false (eval iter X.env) (some (assign (.Name x px) X.env))) _ _ s
 refine wpAny_bind (wpAny_mono (wpAny_comprehension_free (use:=some (assign (.Name x px) X.env)) (Q:=λ_ s'=>SP X Aa Dn .next s') rfl hs e1 S.kind S.names
  (wpAny_mono (hi Aa s σ H _ I h) (λxv s1 h1=>wpAny_mono h1 (λitv s2 h2=>?_) λ_ _ e=>e) λ_ _ e=>e)) (λ_ s' hq=>wpAny_pure (wpAny_pure hq)) λ_ _ e=>e)
 obtain⟨it,fp,tn,J,H2,rfl,I2,T,Gn,f2,W,⟨m0,w0⟩,turn⟩:=h2
 refine pP (RR:=λAg C=>compPost (model X.prog X.w) X.A X.xe (some (assign (.Name x px) X.env)) (λ_ s'=>SP X Aa Dn .next s') Ag C) S D3 hc hg Fy E7 he e2 e3 I2 T Gn f2 w0
  (Qf:=λAg H=>∀l,H l=none->Dn.nx (σ.set i (some (.ref l))) (upd H l (.lst Ag))) turn ?_
 intro D C s5 mC Ag H5 I5 nD q nsC hf
 show wpAny _ X.A (assign (.Name x px) X.env (.ref D)) _ _ _
 refine wpAny_assign_Name (it_ I5 hN hx (.inl hl) (show RelV (.ref D) (.ref D)from rfl) (λs' I' ⟨a,sb,ha⟩=>?_) (.inr hl))
 have hCa:C≠a:=by
  rcases ha with ha | ha
  ·rw[ha];exact hf.2.1
  ·exact Ne.symm (hf.2.2.2.2.1 x a ha)
 refine⟨mC,nsC.sameBut sb hCa,λh' F5=>⟨_,_,I'.turned (it:=C) (t':=s'.toks) (λb o hb e=>(F5.2 b hb).trans e) hf.1 hf.2.1 hf.2.2.2.1 hf.2.2.2.2.1 hf.2.2.2.2.2,q D nD⟩⟩
end
section
variable{X:Cx}
theorem aAs(hc:X.calm=true):CallR X (.builtin "max") (λxs H Q=>∃p ns,xs=[.ref p]/\SqL X.K H p (ns.map V.int)/\ns≠[]/\∀M,M∈ns->(∀a∈ns,a<=M)->Q (.int M) H):=by
 intro Aa s σ H xs us Q I r h
 obtain⟨p,ns,rfl,hq,Bv,q⟩:=h
 obtain⟨u,rfl,rx⟩:=gL r
 cases rx
 obtain⟨its,r',pl,hz⟩:=I.list hq
 have hi:=zM r'
 obtain⟨zs,e⟩:=hi.allInts.items
 have Gq:ns=zs.toList.map (·.1):=by rw[<-hi.numsOf,<-nums_intItems,<-e]
 have hsz:0<zs.size:=by
  have h3:=List.length_pos_iff.mpr Bv
  rw[Gq,aG,Array.length_toList]at h3
  exact h3
 have pl':=pl.isList
 rw[e]at pl'
 refine max_intList (I.ok.hd hc) pl' hsz λv h' tk hv hk=>?_
 obtain⟨t,rfl⟩:=intItems_at hv
 obtain⟨h1,h2⟩:=argBest_gt (numAt zs) (zs.size-1)
 refine⟨.int _,H,I.kept hk,⟨t,rfl⟩,q _ ?_ λa ha=>?_⟩
 ·rw [Gq,numAt_eq]
  exact getD_mem (by rw[aG,Array.length_toList];omega)
 ·rw [Gq] at ha
  obtain⟨j,hj,rfl⟩:=mem_getD ha
  rw[aG,Array.length_toList]at hj
  rw[<-numAt_eq]
  exact h2 j (by omega)
theorem aEr(hu:X.A.units<cLine):OpR X (compareOp .Eq) (λx y H Q=>∃p b xs,x=.ref p/\y=.ref b/\SqL X.K H p xs/\SqL X.K H b []/\Q (.bl xs.isEmpty) H):=by
 intro Aa s σ H x y v u Q I rx ry h
 obtain⟨p,b,xs,rfl,rfl,h1,h2,q⟩:=h
 cases rx
 cases ry
 obtain⟨its,r1,p1,_⟩:=I.list h1
 obtain⟨its2,r2,p2,_⟩:=I.list h2
 cases r2
 cases r1 with
 |nil=>exact PySem.SeqAt.eq_listAt (e:=λ_=>true) p1.isList p2.isList rfl hu (λj a1=>absurd a1 (by simp)) ⟨.bl true,H,I,rfl,q⟩
 |cons ra rb=>exact PySem.SeqAt.eq_list_lengthsAt p1.isList p2.isList (by simp) hu ⟨.bl false,H,I,rfl,q⟩
theorem aEp(hu:X.A.units<cLine):OpR X (compareOp .NotEq) (λx y H Q=>∃p b xs,x=.ref p/\y=.ref b/\SqL X.K H p xs/\SqL X.K H b []/\Q (.bl (!xs.isEmpty)) H):=by
 intro Aa s σ H x y v u Q I rx ry h
 obtain⟨p,b,xs,rfl,rfl,h1,h2,q⟩:=h
 cases rx
 cases ry
 obtain⟨its,r1,p1,_⟩:=I.list h1
 obtain⟨its2,r2,p2,_⟩:=I.list h2
 cases r2
 cases r1 with
 |nil=>exact PySem.SeqAt.RcNeAt.lists (e:=λ_=>true) p1.isList p2.isList rfl hu (λj a1=>absurd a1 (by simp)) _ _ _ _ ⟨.bl false,H,I,rfl,q⟩
 |cons ra rb=>exact PySem.SeqAt.RcNeAt.lists_lengths p1.isList p2.isList (by simp) hu _ _ _ _ ⟨.bl true,H,I,rfl,q⟩
theorem aPz:SlR X (λx lo hi H Q=>∃z,x=.str z/\z.length<=sizeLine/\Q (.str (Txt.slice z lo hi)) H):=by
 intro Aa s σ H x v vl vu lo hi sl Q I rx hs pl pu h
 obtain⟨z,rfl,hz,q⟩:=h
 obtain⟨t,rfl⟩:=rx
 refine⟨"str",_,PySem.F.slot_str_getitem.lookup,typeIs_str _ _ _,?_⟩
 obtain⟨o,h1,h2,h3⟩:=hs
 cases pl with
 |none =>
  cases pu with
  |none=>exact wpAny_getItem_str_slice (l:=none) (u:=none) (st:=none) ⟨o,h1,h2,h3⟩ rfl (post_val_or_str ⟨nzL (Txt.slice_le z _ _) hz,λt' k=>⟨.str _,H,I.tok _,⟨_,rfl⟩,q⟩⟩)
  |int j uj=>exact wpAny_getItem_str_slice (l:=none) (u:=some (j,uj)) (st:=none) ⟨o,h1,h2,h3⟩ rfl (post_val_or_str ⟨nzL (Txt.slice_le z _ _) hz,λt' k=>⟨.str _,H,I.tok _,⟨_,rfl⟩,q⟩⟩)
 |int i ui =>
  cases pu with
  |none=>exact wpAny_getItem_str_slice (l:=some (i,ui)) (u:=none) (st:=none) ⟨o,h1,h2,h3⟩ rfl (post_val_or_str ⟨nzL (Txt.slice_le z _ _) hz,λt' k=>⟨.str _,H,I.tok _,⟨_,rfl⟩,q⟩⟩)
  |int j uj=>exact wpAny_getItem_str_slice (l:=some (i,ui)) (u:=some (j,uj)) (st:=none) ⟨o,h1,h2,h3⟩ rfl (post_val_or_str ⟨nzL (Txt.slice_le z _ _) hz,λt' k=>⟨.str _,H,I.tok _,⟨_,rfl⟩,q⟩⟩)
theorem zB:OpR X (binaryOp .Mult) (λx y H Q=>∃z n,x=.str z/\y=.int n/\z.length<=1000/\0<=n/\n<=1000/\Q (.str (Txt.mul z n)) H):=by
 intro Aa s σ H x y v u Q I rx ry h
 obtain⟨z,n,rfl,rfl,hz,h0,h1,q⟩:=h
 obtain⟨t,rfl⟩:=rx
 obtain⟨t',rfl⟩:=ry
 exact SB.mul (mulOk_of 1000 1000 hz (by omega) (by omega) (by decide) (by decide)) λt' k=>⟨.str _,H,I.tok _,⟨_,rfl⟩,q⟩
theorem strsAre_of{ys:List Str}:∀{us:List Value},Vals (ys.map V.str) us->StrsAre us ys:=by
 induction ys with
 |nil=>intro us r;rw[dA]at r;cases r;exact .nil
 |cons n ns ih =>
  intro us r
  rw[bB]at r
  cases r with
  |cons r1 r2 =>
   obtain⟨t,e⟩:=r1
   subst e
   exact .cons n t (ih r2)
theorem aKy:MtR X "str.join" (λx vs H Q=>∃z p ys,x=.str z/\vs=[.ref p]/\SqL X.K H p (ys.map V.str)/\(ys.map (·.length)).sum+ys.length*z.length<=16777216/\Q (.str (Txt.join z ys)) H):=by
 intro Aa s σ H x vs v us Q I rx rv h
 obtain⟨z,p,ys,rfl,rfl,hq,hok,q⟩:=h
 obtain⟨t,rfl⟩:=rx
 obtain⟨u,rfl,ru⟩:=rv.one
 cases ru
 obtain⟨its,r',pl,hz⟩:=I.list hq
 exact join_list pl.isList (by rw[List.toList_toArray];exact strsAre_of r') hok λt' k=>⟨.str _,H,I.tok _,⟨_,rfl⟩,q⟩
end
section
variable{X:Cx}(K:cZ)(h:X.K=K:=by rfl)
include h
theorem aLf:IxR X (aQm K):=h ▸ aSy
theorem wQ:IxR X (aDo K):=h ▸ j7
theorem aDa:SlR X (aXc K):=h ▸ aIy
theorem tW{pos:Pos}{es:List Expr}{k:Nat}{t:TGs}{n:Nat}(hc:X.calm=true)(hh:PGs X es t)(hn:(assignEach es X.env).length=n:=by rfl)(Em:(assignEach es X.env).findIdx? (·.1)=none:=by rfl):PG X (.Tuple es k pos) (aLv K n t):=h ▸ hu_ hc hh hn Em
end
def aDn(K:cZ):List V->Hp->VK->Prop:=λxs H Q=>∃p ns,xs=[.ref p]/\SqL K H p (ns.map V.int)/\ns≠[]/\∀M,M∈ns->(∀a∈ns,a<=M)->Q (.int M) H
theorem aAr{X:Cx}(hc:X.calm=true):CallR X (.builtin "max") (aDn X.K):=aAs hc
end L2
namespace Lf
open PySem
inductive Kd where
 |num (w m:Int)
 |row (k:Kd) (n:Int)
 |rcd (fs:List (Str×Kd))
 |cho (ks:List Kd)
def up(n m:Int):Int:=(n+m-1)/m*m
theorem aWj{n m:Int}(hm:0<m):up n m=n+m-1-(n+m-1)%m:=by
 have:=Int.mul_ediv_add_emod (n+m-1) m
 rw[Int.mul_comm]at this
 unfold up
 omega
theorem fr_{n m:Int}(hm:0<m):n<=up n m/\up n m<n+m:=by
 have a:=dN (n+m-1) (Int.ne_of_gt hm)
 have b:=cT (n+m-1) hm
 rw[aWj hm]
 omega
def maxL(d:Int)(l:List Int):Int:=l.foldr max d
def aAe(e:Int):List (Int×Int)->List Int
 | []=>[]
 |r::rs=>(up e r.2+r.1)::aAe (up e r.2+r.1) rs
def j3(e:Int):List (Int×Int)->Int
 | []=>e
 |r::rs=>j3 (up e r.2+r.1) rs
def aXj(e:Int):List (Int×Int)->List Int
 | []=>[]
 |r::rs=>up e r.2::aXj (up e r.2+r.1) rs
def aNw(rs:List (Int×Int)):Int×Int:=(up (j3 0 rs) (maxL 1 (rs.map (·.2))),maxL 1 (rs.map (·.2)))
def aGz(rs:List (Int×Int)):Int×Int:=(up (up 1 (maxL 1 (rs.map (·.2)))+maxL 0 (rs.map (·.1))) (maxL 1 (rs.map (·.2))),maxL 1 (rs.map (·.2)))
mutual
def Kd.rm:Kd->Int×Int
 | .num w m=>(w,m)
 | .row k n=>(n*up k.rm.1 k.rm.2,k.rm.2)
 | .rcd fs=>aNw (rmF fs)
 | .cho ks=>aGz (rmK ks)
def rmF:List (Str×Kd)->List (Int×Int)
 | []=>[]
 |f::r=>f.2.rm::rmF r
def rmK:List Kd->List (Int×Int)
 | []=>[]
 |k::r=>k.rm::rmK r
end
mutual
def Kd.deep:Kd->Nat
 | .num _ _=>1
 | .row k _=>k.deep+1
 | .rcd fs=>eB fs+1
 | .cho ks=>fF ks+1
def eB:List (Str×Kd)->Nat
 | []=>0
 |f::r=>max f.2.deep (eB r)
def fF:List Kd->Nat
 | []=>0
 |k::r=>max k.deep (fF r)
end
mutual
def Kd.Ok:Kd->Prop
 | .num w m=>1<=w/\w<=8/\1<=m/\m<=8
 | .row k n=>k.Ok/\0<=n/\n<=100
 | .rcd fs=>okF fs/\fs.length<=10
 | .cho ks=>okK ks/\ks.length<=10
def okF:List (Str×Kd)->Prop
 | []=>True
 |f::r=>f.2.Ok/\okF r
def okK:List Kd->Prop
 | []=>True
 |k::r=>k.Ok/\okK r
end
inductive Dt where
 |int (i:Int)
 |str (x:Str)
 |bl (b:Bool)
 |tup (ds:List Dt)
 |lst (ds:List Dt)
mutual
def Dt.deep:Dt->Nat
 | .int _=>1
 | .str _=>1
 | .bl _=>1
 | .tup ds=>gR ds+1
 | .lst ds=>gR ds+1
def gR:List Dt->Nat
 | []=>0
 |d::r=>max d.deep (gR r)
end
theorem Kd.deep_pos:∀k:Kd,1<=k.deep
 | .num _ _=>bA _
 | .row k _=>Nat.le_add_left 1 k.deep
 | .rcd fs=>Nat.le_add_left 1 (eB fs)
 | .cho ks=>Nat.le_add_left 1 (fF ks)
end Lf
namespace Lf
open PySem L2
mutual
def IsD(H:Hp):Dt->V->Prop
 | .int i,v=>v=.int i
 | .str x,v=>v=.str x
 | .bl b,v=>v=.bl b
 | .tup ds,v=>∃a vs,v=.ref a/\H a=some (.tup vs)/\IsDs H ds vs
 | .lst ds,v=>∃a vs,v=.ref a/\H a=some (.lst vs)/\IsDs H ds vs
def IsDs(H:Hp):List Dt->List V->Prop
 | [],vs=>vs=[]
 |d::r,vs=>∃v vr,vs=v::vr/\IsD H d v/\IsDs H r vr
end
mutual
theorem IsD.same{H H':Hp}(e:Same H H'):∀{d:Dt} {v:V},IsD H d v->IsD H' d v
 | .int _,_,h=>h
 | .str _,_,h=>h
 | .bl _,_,h=>h
 | .tup ds,_,⟨a,vs,h1,h2,h3⟩=>⟨a,vs,h1,e _ _ h2,IsDs.same e h3⟩
 | .lst ds,_,⟨a,vs,h1,h2,h3⟩=>⟨a,vs,h1,e _ _ h2,IsDs.same e h3⟩
theorem IsDs.same{H H':Hp}(e:Same H H'):∀{ds:List Dt} {vs:List V},IsDs H ds vs->IsDs H' ds vs
 | [],_,h=>h
 |d::r,_,⟨v,vr,h1,h2,h3⟩=>⟨v,vr,h1,IsD.same e h2,IsDs.same e h3⟩
end
theorem IsDs.len{H:Hp}:∀{ds:List Dt} {vs:List V},IsDs H ds vs->vs.length=ds.length
 | [],_,h=>by cases(show _=[]from h);rfl
 |d::r,_,⟨v,vr,h1,_,h3⟩=>by subst h1;show vr.length+1=r.length+1;rw[IsDs.len h3]
theorem ie_{H:Hp}{p:Addr}(h:H p=none)(o:HO):Same H (upd H p o):=λb u q=>by rw[dW (ca_ q h)];exact q
def aFu(p:Addr)(H:Hp):Hp:=λb=>if b=p then none else H b
theorem mY{p b:Addr}{H:Hp}(h:b≠p):aFu p H b=H b:=if_neg h
abbrev SameX(p:Addr)(H H':Hp):Prop:=Same (aFu p H) (aFu p H')
theorem SameX.get{p b:Addr}{H H':Hp}{o:HO}(e:SameX p H H')(n:b≠p)(h:H b=some o):H' b=some o:=by
 have:=e b o (by rw[mY n];exact h)
 rw[mY n]at this
 exact this
end Lf
namespace L2
open PySem PySem.Spec PyProof.Rows
section
variable{κ:Type}[DecidableEq κ]
def lA(kvs:List (κ×V))(k:κ):Option V:=(kvs.find? λkv=>decide (kv.1=k)).map (·.2)
def kC(kvs:List (κ×V))(k:κ)(v:V):List (κ×V):=
 if(kvs.any λkv=>decide (kv.1=k))=true then kvs.map (λkv=>if kv.1=k then(kv.1,v)else kv)else kvs++[(k,v)]
theorem ic_{p:κ×V}{r:List (κ×V)}{k:κ}(e:p.1=k):lA (p::r) k=some p.2:=by simp[lA,eC,e]
theorem id_{p:κ×V}{r:List (κ×V)}{k:κ}(e:¬p.1=k):lA (p::r) k=lA r k:=by simp[lA,eC,e]
theorem vS(k:κ):∀kvs:List (κ×V),(kvs.any λkv=>decide (kv.1=k))=(lA kvs k).isSome
 | []=>rfl
 |p::r=>by
  rw[fH]
  by_cases e:p.1=k
  ·simp only[ic_ e,dzT e,Bool.true_or,Option.isSome_some]
  ·rw[id_ e,dzF e,Bool.false_or];exact vS k r
theorem jc_(kvs:List (κ×V))(k:κ)(v:V):(kC kvs k v).length<=kvs.length+1:=by
 unfold kC
 split
 ·rw[aG];omega
 ·rw[aB,aD,bC];omega
theorem RelO.isSome_eq{o:Option V}{u:Option Value}(r:RelO o u):o.isSome=u.isSome:=by
 cases o with
 |none=>cases u with
  |none=>rfl
  |some _=>exact(show False from r).elim
 |some _=>cases u with
  |none=>exact(show False from r).elim
  |some _=>rfl
theorem RelO.getD{o:Option V}{u:Option Value}{d:V}{d':Value}(r:RelO o u)(rd:RelV d d'):RelV (o.getD d) (u.getD d'):=by
 cases o with
 |none=>cases u with
  |none=>exact rd
  |some _=>exact(show False from r).elim
 |some _=>cases u with
  |none=>exact(show False from r).elim
  |some _=>exact r
theorem KV.val{kvs:List (κ×V)}{vs:List (κ×Value)}(r:KV kvs vs)(k:κ):RelO (lA kvs k) (valueAt vs k):=by
 unfold KV at r
 induction r with
 |nil=>exact True.intro
 | @cons p q ps qs h t ih =>
  obtain⟨h1,h2⟩:=h
  by_cases e:p.1=k
  ·have e':q.1=k:=h1.symm.trans e
   have b:valueAt (q::qs) k=some q.2:=by simp[valueAt,eC,e']
   rw[ic_ e,b];exact h2
  ·have e':¬ q.1=k:=fun z=>e (h1.trans z)
   have b:valueAt (q::qs) k=valueAt qs k:=by simp[valueAt,eC,e']
   rw[id_ e,b];exact ih
theorem KV.any{kvs:List (κ×V)}{vs:List (κ×Value)}(r:KV kvs vs)(k:κ):(kvs.any λkv=>decide (kv.1=k))=vs.any λkv=>decide (kv.1=k):=by
 unfold KV at r
 induction r with
 |nil=>rfl
 |cons h t ih=>rw[fH,fH,ih,h.1]
theorem KV.repl{kvs:List (κ×V)}{vs:List (κ×Value)}(r:KV kvs vs)(k:κ){y:V}{u:Value}(ry:RelV y u) :
  KV (kvs.map λkv=>if kv.1=k then(kv.1,y)else kv) (vs.map λkv=>if kv.1=k then(kv.1,u)else kv):=by
 unfold KV at r ⊢
 induction r with
 |nil=>exact .nil
 | @cons p q ps qs h t ih =>
  rw[bB,bB]
  refine .cons ?_ ih
  obtain⟨h1,h2⟩:=h
  by_cases e:p.1=k
  ·rw[if_pos e,if_pos (h1.symm.trans e)];exact⟨h1,ry⟩
  ·rw[if_neg e,if_neg (λz=>e (h1.trans z))];exact⟨h1,h2⟩
theorem KV.put{kvs:List (κ×V)}{vs:List (κ×Value)}(r:KV kvs vs)(k:κ){y:V}{u:Value}(ry:RelV y u):KV (kC kvs k y) (stored vs k u):=by
 unfold kC stored
 rw[r.any k]
 by_cases e:(vs.any λkv=>decide (kv.1=k))=true
 ·rw[if_pos e,if_pos e];exact r.repl k ry
 ·rw[if_neg e,if_neg e];exact Paired.snoc r ⟨rfl,ry⟩
theorem KV.length{kvs:List (κ×V)}{vs:List (κ×Value)}(r:KV kvs vs):kvs.length=vs.length:=Paired.length r
end
theorem j6{P:Program}{w:World}{k:Key}{u:Value}(r:RelV (kV k) u):(dZ P w).is k u=true:=by
 cases k with
 |inl i=>obtain⟨t,e⟩:=(show ∃t,u=Value.int i t from r);subst e;exact wO P w i t
 |inr x=>obtain⟨t,e⟩:=(show ∃t,u=Value.str x t from r);subst e;exact wN P w x t
theorem rO{P:Program}{w:World}:∀{ks:List Key} {us:List Value},Vals (ks.map kV) us->ItemsAre (dZ P w) ks us
 | [],_,r=>by rw[dA]at r;cases r;exact .nil
 |k::ks,_,r=>by
  rw[bB]at r
  cases r with
  |cons h t=>exact .cons (j6 h) (rO t)
abbrev KT(H:Hp):List (List Key×V)->List (List Key×Addr×Value)->Prop:=Paired λp q=>p.1=q.1/\H q.2.1=some (.tup (p.1.map kV))/\RelV p.2 q.2.2
theorem KT.val{H:Hp}{kvs:List (List Key×V)}{xs:List (List Key×Addr×Value)}(r:KT H kvs xs)(k:List Key):RelO (lA kvs k) ((atKey xs k).map (·.2)):=by
 induction r with
 |nil=>exact True.intro
 | @cons p q ps qs h t ih =>
  obtain⟨h1,_,h2⟩:=h
  by_cases e:p.1=k
  ·have e':q.1=k:=h1.symm.trans e
   have b:atKey (q::qs) k=some q.2:=by simp[atKey,eC,e']
   rw[ic_ e,b];exact h2
  ·have e':¬ q.1=k:=fun z=>e (h1.trans z)
   have b:atKey (q::qs) k=atKey qs k:=by simp[atKey,eC,e']
   rw[id_ e,b];exact ih
theorem KT.repl{H:Hp}{kvs:List (List Key×V)}{xs:List (List Key×Addr×Value)}(r:KT H kvs xs)(k:List Key){y:V}{u:Value}(ry:RelV y u) :
  KT H (kvs.map λkv=>if kv.1=k then(kv.1,y)else kv) (xs.map (putAt k u)):=by
 induction r with
 |nil=>exact .nil
 | @cons p q ps qs h t ih =>
  rw[bB,bB]
  refine .cons ?_ ih
  obtain⟨h1,h2,h3⟩:=h
  unfold putAt
  by_cases e:p.1=k
  ·rw[if_pos e,if_pos (h1.symm.trans e)];exact⟨h1,h2,ry⟩
  ·rw[if_neg e,if_neg (λz=>e (h1.trans z))];exact⟨h1,h2,h3⟩
theorem KT.put{H:Hp}{kvs:List (List Key×V)}{xs:List (List Key×Addr×Value)}(r:KT H kvs xs)(k:List Key){b:Addr}{y:V}{u:Value}(hb:H b=some (.tup (k.map kV)))(ry:RelV y u) :
  KT H (kC kvs k y) (storedH xs k b u):=by
 have e:(kvs.any λkv=>decide (kv.1=k))=(atKey xs k).isSome:=by
  rw[vS,(r.val k).isSome_eq,Option.isSome_map]
 unfold kC storedH
 rw[e]
 by_cases q:(atKey xs k).isSome=true
 ·rw[if_pos q,if_pos q];exact r.repl k ry
 ·rw[if_neg q,if_neg q];exact Paired.snoc r ⟨rfl,hb,ry⟩
theorem KT.keeps{H H':Hp}{kvs:List (List Key×V)}{xs:List (List Key×Addr×Value)}(r:KT H kvs xs)(ht:∀b ys,H b=some (.tup ys)->H' b=some (.tup ys)):KT H' kvs xs:=
 Paired.mapP r λ_ _ z=>⟨z.1,ht _ _ z.2.1,z.2.2⟩
section
variable{P:Program}{w:World}{H:Hp}{h:Heap}{a:Addr}
theorem aNu{u:HO}(ok:HOk P w H h)(e:Rd H a u):ObjOk P w H h a u:=e.ok ok
theorem xM{kvs:List (Key×V)}(ok:HOk P w H h)(e:Rd H a (.dK kvs)):kvs.length<=sizeLine/\(a == sysModules)=false/\∃vs,KV kvs vs/\h.DictOf (dZ P w) a vs:=
 show ObjOk P w H h a (.dK kvs)from aNu ok e
theorem aZl{kvs:List (Key×V)}(ok:HOk P w H h)(e:H a=some (.dK kvs)):kvs.length<=sizeLine/\(a == sysModules)=false/\∃vs,KV kvs vs/\h.DictOf (dZ P w) a vs:=xM ok (.inl e)
theorem uO{ks:List Key}(ok:HOk P w H h)(e:H a=some (.tup (ks.map kV))):(tupleKind (dZ P w)).is h ks a:=by
 obtain⟨_,its,r,o,h1,h2,n,h3⟩:=(show ObjOk P w H h a (.tup (ks.map kV))from ok a _ e)
 exact⟨o,its.toArray,n,h1,h2,h3,by simpa using rO r⟩
theorem m7{kvs:List (List Key×V)}(ok:HOk P w H h)(e:Rd H a (.dT kvs)):kvs.length<=sizeLine/\(a == sysModules)=false /\
  ∃xs,KT H kvs xs/\h.DictOfH (tupleKind (dZ P w)) a xs:=by
 obtain⟨z,y,xs,r,o,es,ep,h1,h2,h3,h4,h5⟩:=(show ObjOk P w H h a (.dT kvs)from aNu ok e)
 refine⟨z,y,xs,r,o,es,ep,h1,h2,h3,h4,λx hx=>?_,h5⟩
 have all:∀{l:List (List Key×V)} {m:List (List Key×Addr×Value)},KT H l m->∀x∈m,(tupleKind (dZ P w)).is h x.1 x.2.1:=by
  intro l m q
  induction q with
  |nil=>intro x hx;exact nomatch hx
  | @cons p q ps qs hq t ih =>
   intro x hx
   rcases aF.mp hx with e | hx
   ·subst e
    exact uO ok (by rw[<-hq.1];exact hq.2.1)
   ·exact ih x hx
 exact all r x hx
theorem aZk{kvs:List (List Key×V)}(ok:HOk P w H h)(e:H a=some (.dT kvs)):kvs.length<=sizeLine/\(a == sysModules)=false /\
  ∃xs,KT H kvs xs/\h.DictOfH (tupleKind (dZ P w)) a xs:=m7 ok (.inl e)
end
def DGet(H:Hp)(a:Addr)(y:V)(r:Option V):Prop:=
 (∃kvs k,Rd H a (.dK kvs)/\y=kV k/\r=lA kvs k)\/∃kvs k b,Rd H a (.dT kvs)/\y=.ref b/\H b=some (.tup (k.map kV))/\r=lA kvs k
def DPut(H:Hp)(a:Addr)(y v:V)(H':Hp):Prop:=
 (∃kvs k,H a=some (.dK kvs)/\y=kV k/\kvs.length<sizeLine/\H'=upd H a (.dK (kC kvs k v))) \/
 ∃kvs k b,H a=some (.dT kvs)/\y=.ref b/\H b=some (.tup (k.map kV))/\kvs.length<sizeLine/\H'=upd H a (.dT (kC kvs k v))
theorem DGet.k{H:Hp}{a:Addr}{kvs:List (Key×V)}{k:Key}(e:H a=some (.dK kvs)):DGet H a (kV k) (lA kvs k):=.inl ⟨kvs,k,.inl e,rfl,rfl⟩
theorem DPut.k{H:Hp}{a:Addr}{kvs:List (Key×V)}{k:Key}{v:V}(e:H a=some (.dK kvs))(hl:kvs.length<sizeLine):DPut H a (kV k) v (upd H a (.dK (kC kvs k v))):=.inl ⟨kvs,k,e,rfl,hl,rfl⟩
section
variable{X:Cx}{Aa:eF}{σ:St}{H:Hp}{s:Shared}{a:Addr}{y v:V}{u r:Value}{o:Option V}{A:Around}{E:gG}
theorem Inv.big(I:Inv X Aa σ H s):sysModules<s.heap.objs.size:=by
 have h:mainGlobals<s.heap.objs.size:=(I.mod.glob.keeps I.bk).lt
 exact Nat.lt_trans (by decide) h
theorem aAh{Q:gG}(hu:A.units+1<cLine)(I:Inv X Aa σ H s)(g:DGet H a y (some v))(ry:RelV y u)(h:∀w' s',Inv X Aa σ H s'->RelV v w'->Q w' s') :
  wpAny (model X.prog X.w) A (getItem (.ref a) u) Q E s:=by
 rcases g with⟨kvs,k,e,ey,l⟩ | ⟨kvs,k,b,e,ey,eb,l⟩
 ·subst ey
  obtain⟨z,hd,vs,rel,dd⟩:=xM I.hok e
  obtain⟨w',hw,rw'⟩:=RelO.some_of (v:=v) (o:=valueAt vs k) (by rw[l];exact rel.val k)
  exact wpAny_getItem_of (j6 ry) dd.mapOf hw (h w' _ (I.tok _) rw')
 ·subst ey
  cases(show u=Value.ref b from ry)
  obtain⟨z,hd,xs,rel,dd⟩:=m7 I.hok e
  obtain⟨w',hw,rw'⟩:=RelO.some_of (v:=v) (o:=(atKey xs k).map (·.2)) (by rw[l];exact rel.val k)
  obtain⟨p,hp,Ez⟩:=dJ.mp hw
  refine wpAny_getItem_heap (tupleKind_room_in1 hu) (uO I.hok eb) dd hp ?_
  rw[Ez]
  exact h w' _ (I.tok _) rw'
theorem aMh{Q:gG}(hu:A.units+1<cLine)(I:Inv X Aa σ H s)(g:DGet H a y o)(ry:RelV y u)(h:∀s',Inv X Aa σ H s'->Q (.bool (!o.isSome)) s') :
  wpAny (model X.prog X.w) A (compareOp .NotIn u (.ref a)) Q E s:=by
 rcases g with⟨kvs,k,e,ey,l⟩ | ⟨kvs,k,b,e,ey,eb,l⟩
 ·subst ey
  obtain⟨z,hd,vs,rel,dd⟩:=xM I.hok e
  refine wpAny_notIn_of (j6 ry) hd dd.mapOf ?_
  rw[<-(rel.val k).isSome_eq,<-l]
  exact h _ (I.tok _)
 ·subst ey
  cases(show u=Value.ref b from ry)
  obtain⟨z,hd,xs,rel,dd⟩:=m7 I.hok e
  refine wpAny_notIn_heap (tupleKind_room_in1 hu) (uO I.hok eb) hd dd ?_
  have q:=(rel.val k).isSome_eq
  rw[Option.isSome_map]at q
  rw[<-q,<-l]
  exact h _ (I.tok _)
theorem n8{h':Heap}{t':Nat}{ob:HO}(I:Inv X Aa σ H s)(mu:Mut (H a))(hs:Heap.SameBut a s.heap h')(he:∃q,h'.get? a=some q)(new:ObjOk X.prog X.w (upd H a ob) h' a ob) :
  Inv X Aa σ (upd H a ob) { s with heap:=h',toks:=t' }:=
 I.write (x:=a) (e:=a) mu (.inl rfl) (λb q hb z=>(hs.2 b hb).trans z) he new
theorem aTx{P:Program}{w:World}{H':Hp}{h':Heap}{kvs:List (Key×V)}{vs:List (Key×Value)}(z:kvs.length<=sizeLine)(hd:(a == sysModules)=false)(rel:KV kvs vs)(dd:h'.DictOf (dZ P w) a vs) :
  ObjOk P w H' h' a (.dK kvs):=⟨z,hd,vs,rel,dd⟩
theorem aAg{H':Hp}{Q:Unit->Shared->Prop}(hu:A.units+1<cLine)(I:Inv X Aa σ H s)(g:DPut H a y v H')(ry:RelV y u)(rv:RelV v r)(h:∀s',Inv X Aa σ H' s'->Q () s') :
  wpAny (model X.prog X.w) A (setItem (.ref a) u r) Q E s:=by
 rcases g with⟨kvs,k,e,ey,l,eH⟩ | ⟨kvs,k,b,e,ey,eb,l,eH⟩
 ·subst ey eH
  obtain⟨z,hd,vs,rel,dd⟩:=aZl I.hok e
  have hz:vs.length<=sizeLine:=by rw[<-rel.length];exact z
  have hl:(kC kvs k v).length<=sizeLine:=by have:=jc_ kvs k v;omega
  refine wpAny_setItem_pairs (hsz:=hz) (j6 ry) dd λh' dd' hs=>h _ ?_
  have he:∃q,h'.get? a=some q:=let ⟨q,_,_,hq,_⟩:=dd';⟨q,hq⟩
  exact n8 I (by rw[e];exact True.intro) hs he (aTx hl hd (rel.put k rv) dd')
 ·subst ey eH
  cases(show u=Value.ref b from ry)
  obtain⟨z,hd,xs,rel,dd⟩:=aZk I.hok e
  have hz:xs.length<=sizeLine:=by rw[<-Paired.length rel];exact z
  have hl:(kC kvs k v).length<=sizeLine:=by have:=jc_ kvs k v;omega
  refine wpAny_setItem_heap (hsz:=hz) (tupleKind_room_in1 hu) (uO I.hok eb) dd λh' dd' hs=>h _ ?_
  obtain⟨q,es,ep,hq,h2,h3,h4,_,h5⟩:=dd'
  refine n8 I (by rw[e];exact True.intro) hs ⟨q,hq⟩ ⟨hl,hd,_,(rel.put k eb rv).keeps λc ys ec=>?_,q,es,ep,hq,h2,h3,h4,h5⟩
  rw[dW (aXw ec e (λz=>nomatch z))]
  exact ec
end
section
variable{X:Cx}{Aa:eF}{σ:St}{H:Hp}{s:Shared}{a:Addr}{kvs:List (Key×V)}{k:Key}{u:Value}{A:Around}{E:gG}
theorem aZm{Q:gG}(I:Inv X Aa σ H s)(e:Rd H a (.dK kvs))(h:∀t s',Inv X Aa σ H s'->Q (.int kvs.length t) s'):wpAny (model X.prog X.w) A (call (.builtin "len") [.ref a]) Q E s:=by
 obtain⟨z,hd,vs,rel,dd⟩:=xM I.hok e
 refine call_len_dict hd dd (by rw[<-rel.length];rw[sizeLine_eq]at z;omega) ?_
 rw[<-rel.length]
 exact h _ _ (I.tok _)
end
def aUq(i:Expr):Prop:=∀ov iv,subscripted i false ov iv=operate [ov,iv] (getItem ov iv)
theorem aIw{prog:Program}{w:World}{A:Around}{E:gG}{s:Shared}{env:Env}{value slice:Expr}{pos:Pos}{T id:String}{Q:gG}
  (hl:typeLookup (.type T) "__getitem__" = pure (some (.builtin id))) (hs:aUq slice)
  (h:wpAny (model prog w) A (eval value env) (λo s₁=>wpAny (model prog w) A (eval slice env) (λi s₂=>s₂.TypeIs o T/\wpAny (model prog w) A (getItem o i) Q E s₂) E s₁) E s) :
  wpAny (model prog w) A (eval (.Subscript value slice pos) env) Q E s:=by
 refine Subscript_ (wpAny_mono h (λo s₁ h₁=>wpAny_mono h₁ (λi s₂ h₂=>?_) λ_ _ x=>x) λ_ _ x=>x)
 obtain⟨hT,h₂⟩:=h₂
 unfold subscriptTail
 refine wpAny_bind ?_
 rw[getitemInPython_of_ne hT.not_modules]
 refine wpAny_bind (wpAny_specialOf hT hl ?_)
 have At:wpAny (model prog w) A (subscripted slice false o i) (λr s₃=>wpAny (model prog w) A (letTemporaryGo value o r >>= λ_=>pure r) Q E s₃) E s₂:=by
  rw[hs o i]
  exact wpAny_operating (wpAny_mono h₂ (λr s₃ h₃=>wpAny_bind (wpAny_letTemporaryGo (wpAny_pure h₃))) λ_ _ x=>x)
 first
  |exact wpAny_pure (wpAny_bind At)
  |exact wpAny_bind (wpAny_pure (wpAny_bind At))
  |exact wpAny_bind At
theorem xQ{X:Cx}{Aa:eF}{σ:St}{H:Hp}{s:Shared}{a:Addr}{y:V}{o:Option V}(I:Inv X Aa σ H s)(g:DGet H a y o):s.TypeIs (.ref a) "dict":=by
 rcases g with⟨kvs,k,e,_,_⟩ | ⟨kvs,k,b,e,_,_,_⟩
 ·obtain ⟨_,_,vs,_,dd⟩:=xM I.hok e
  exact dd.typeIs
 ·obtain ⟨_,_,xs,_,dd⟩:=m7 I.hok e
  exact dd.typeIs
def aWu(td ty:TE):TE:=λσ H Q=>td σ H λx H1=>ty σ H1 λy H2=>∃a v,x=.ref a/\DGet H2 a y (some v)/\Q v H2
def c8(ty td:TE):TE:=λσ H Q=>ty σ H λy H1=>td σ H1 λx H2=>∃a o,x=.ref a/\DGet H2 a y o/\Q (.bl (!o.isSome)) H2
def aDf(td ty tv:TE):TS:=λD σ H=>tv σ H λv H1=>td σ H1 λx H2=>ty σ H2 λy H3=>∃a H4,x=.ref a/\DPut H3 a y v H4/\D.nx σ H4
section
variable{X:Cx}{o i e value:Expr}{pos pos' tpos:Pos}{td ty tv:TE}
theorem aJt(hu:X.A.units+1<cLine)(ho:PE X o td)(hi:PE X i ty)(hs:aUq i):PE X (.Subscript o i pos) (aWu td ty):=by
 intro Aa s σ H Q I h
 refine aIw PySem.F.slot_dict_getitem.lookup hs (dQ (ho Aa s σ H _ I h) λu s1 ⟨x,H1,I1,rx,q1⟩=>dQ (hi Aa s1 σ H1 _ I1 q1) λiv s2 ⟨y,H2,I2,ry,a,v,ex,g,q2⟩=>?_)
 subst ex
 obtain rfl:u=Value.ref a:=rx
 exact⟨xQ I2 g,aAh hu I2 g ry λw' s3 I3 rw'=>⟨v,H2,I3,rw',q2⟩⟩
theorem v4(hu:X.A.units+1<cLine)(hi:PE X i ty)(ho:PE X o td):PC X .NotIn i o (c8 ty td):=by
 intro Aa s σ H Q I h
 refine dQ (hi Aa s σ H _ I h) λiv s1 ⟨y,H1,I1,ry,q1⟩=>dQ (ho Aa s1 σ H1 _ I1 q1) λu s2 ⟨x,H2,I2,rx,a,ov,ex,g,q2⟩=>?_
 subst ex
 obtain rfl:u=Value.ref a:=rx
 exact aMh hu I2 g ry λs3 I3=>⟨.bl (!ov.isSome),H2,I3,rfl,q2⟩
theorem mK(hu:X.A.units+1<cLine)(ho:PE X o td)(hi:PE X i ty)(hv:PE X value tv)(hs:swapsWith value (some (.Subscript o i pos')) pos.line X.env=pure false) :
  PS X (.Assign [.Subscript o i pos'] value pos) (aDf td ty tv):=by
 intro Aa s σ H D I h
 refine wpAny_Assign_Subscript (dQ (hv Aa s σ H _ I h) λr s1 ⟨v,H1,I1,rv,q1⟩=>dQ (ho Aa s1 σ H1 _ I1 q1) λu s2 ⟨x,H2,I2,rx,q2⟩=>dQ (hi Aa s2 σ H2 _ I2 q2) λiv s3 ⟨y,H3,I3,ry,a,H4,ex,g,q3⟩=>?_) hs
 subst ex
 obtain rfl:u=Value.ref a:=rx
 exact aAg hu I3 g ry rv λs4 I4=>⟨σ,H4,I4,q3⟩
end
theorem aGs{P:Program}{w:World}{H:Hp}(h:Heap)(hb:sysModules<h.objs.size):ObjOk P w H (h.push { cls:=.type "dict",data:=.dict #[] }) h.objs.size (.dK []):=
 ⟨cF _,beq_eq_false_iff_ne.mpr (Ne.symm (cH hb)),[],.nil,Heap.DictOf.new h⟩
def aPw:TE:=λ_ H Q=>∀p,H p=none->Q (.ref p) (upd H p (.dK []))
section
variable{X:Cx}{pos:Pos}
theorem wH:PE X (.Dict [] [] pos) aPw:=λAa s σ H Q I h =>
 wpAny_Dict_empty ⟨.ref s.heap.objs.size,_,I.laid (a:=s.heap.objs.size) (o:=.dK []) (t':=s.toks) (λ_ _ q=>aQ _ q) (bA _) (aGs s.heap I.big),rfl,h _ (I.hok.fresh (bA _))⟩
end
def IsD(H:Hp)(a:Addr):Prop:=(∃kvs,Rd H a (.dK kvs))\/∃kvs,Rd H a (.dT kvs)
theorem aUf:bootBuiltins "all" = some (.builtin "all"):=by decide +kernel
theorem c4:∀{bs:List Bool} {us:List Value},Vals (bs.map V.bl) us->us=bs.map Value.bool
 | [],_,h=>by cases h;rfl
 |b::bs,_,h=>by
  cases h with
  |cons ra rb =>
   cases ra
   rw[c4 rb]
   rfl
theorem u8:∀(bs:List Bool),(List.range bs.length).all (λi=>bs[i]?.getD false)=bs.all id:=by
 intro bs
 rw[fC,gK,gK]
 constructor
 ·intro h b hb
  obtain⟨i,hi,rfl⟩:=List.getElem_of_mem hb
  have:=h i (iH.mpr hi)
  rw[aO hi]at this
  exact this
 ·intro h i hi
  have Fw:=iH.mp hi
  rw[aO Fw]
  exact h _ (List.getElem_mem Fw)
section
variable{X:Cx}
def aDq(K:cZ):List V->Hp->VK->Prop:=λxs H Q=>∃(p:Addr) (bs:List Bool),xs=[.ref p]/\SqL K H p (bs.map V.bl)/\Q (.bl (bs.all id)) H
theorem aAu(hc:X.calm=true):CallR X (.builtin "all") (aDq X.K):=by
 intro Aa s σ H xs us Q I r h
 obtain⟨p,bs,rfl,hq,q⟩:=h
 obtain⟨u,rfl,rx⟩:=gL r
 cases rx
 obtain⟨its,r',pl,hz⟩:=I.list hq
 have hi:=c4 r'
 subst hi
 have hh:X.A.in1.handled=none:=I.ok.hd hc
 have lt:p<s.heap.objs.size:=by obtain⟨_,e,_⟩:=pl.isList;exact bK e
 refine call_all_walk (wpAny_pyIter_list pl.isList ⟨_,_,_,_,_,_,λi=>bs[i]?.getD false,rfl,Walks.list hh s.heap.objs.size p (cH lt) (bs.map Value.bool).toArray,⟨⟨_,bP _ rfl,rfl,rfl⟩,?_⟩,?_,λh' tk hk=>?_⟩)
 ·obtain ⟨o,e,r⟩:=pl.isList
  exact⟨o,aQ _ e,r⟩
 ·intro i v s' Q' E' hv hQ
  have A2:(bs.map Value.bool)[i]? = some v:=by simpa using hv
  rw[bV]at A2
  cases hb:bs[i]? with
  |none=>rw[hb]at A2;cases A2
  |some b =>
   rw[hb]at A2
   cases A2
   have N1:Q' (bs[i]?.getD false) s':=hQ
   rw[hb]at N1
   exact wpAny_truthy_bool N1
 ·have Dd:∀ b o,s.heap.get? b=some o→h'.get? b=some o:=fun b o e=>hk b o (by simp; exact cH (bK e)) (aQ _ e)
  refine⟨.bl _,H,I.kept Dd,?_,q⟩
  show Value.bool _=Value.bool _
  rw[bE,aG,u8]
end
def Its(x:Str):It:=⟨λi H=>i<x.cps.size,λi H v H'=>H'=H/\∃c,x.cps[i]? = some c/\v=.str ⟨#[c]⟩,λi H=>x.cps.size<=i⟩
theorem t6{P:Program}{w:World}{K:cZ}{tg:Expr}(x:Str)(t:Tok)(it:Addr):Turn P w K tg (Its x) [it] it (λi h=>h.IsStrIter it "str_ascii_iterator" x t i)where
 mem:=by simp
 obj:=λi h st b hb=>by
  have e:b=it:=by simpa using hb
  subst e
  obtain⟨o,e,c,d⟩:=st
  exact⟨o,e,λv z=>by rw[d]at z;cases z⟩
 keep:=λi h h' st k=>let ⟨o,ho,r⟩:=st;⟨o,k it (by simp) o ho,r⟩
 item:=by
  intro X hP hw hK hc i Aa s σ H E I hf st hg
  subst hP hw hK
  obtain⟨f0,f1,f2,f3,f4,f5⟩:=hf it (by simp)
  have Cv:i<x.cps.size:=hg
  refine wpAny_pyNext_ascii_item st (c:=x.cps[i]) (by simp[Cv]) λh' st' sb=>?_
  have I1:Inv X Aa σ H { s with heap:=h',toks:=s.toks+1 }:=I.turned (t':=s.toks+1) (λb o hb e=>(sb.2 b hb).trans e) f0 f1 f3 f4 f5
  obtain⟨o,e,c,d⟩:=id st'
  exact⟨_,rfl,rQ (s:={ s with heap:=h',toks:=s.toks+1 }) e c d (by decide) ⟨.str ⟨#[x.cps[i]]⟩,H,I1,⟨_,rfl⟩,⟨rfl,_,by simp[Cv],rfl⟩,st',λb hb=>(hf b hb).1⟩⟩
 done:=by
  intro X hP hw hK hc i Aa s σ H E I hf st hg
  subst hP hw hK
  obtain⟨f0,f1,f2,f3,f4,f5⟩:=hf it (by simp)
  have Cv:x.cps.size<=i:=hg
  exact wpAny_pyNext_ascii_end (I.ok.hd hc) st (by simp[Cv]) λh' eb=>⟨rfl,I.turned (t':=s.toks) (λb o hb e=>eb b o hb e) f0 f1 f3 f4 f5⟩
 self:=λ_ _ _ _ _ st h=>wpAny_pyIter_striter_ascii st h
theorem t5{P:Program}{w:World}{K:cZ}{tg:Expr}(x:Str)(t:Tok)(it:Addr):Turn P w K tg (Its x) [it] it (λi h=>h.IsStrIter it "str_iterator" x t i)where
 mem:=by simp
 obj:=λi h st b hb=>by
  have e:b=it:=by simpa using hb
  subst e
  obtain⟨o,e,c,d⟩:=st
  exact⟨o,e,λv z=>by rw[d]at z;cases z⟩
 keep:=λi h h' st k=>let ⟨o,ho,r⟩:=st;⟨o,k it (by simp) o ho,r⟩
 item:=by
  intro X hP hw hK hc i Aa s σ H E I hf st hg
  subst hP hw hK
  obtain⟨f0,f1,f2,f3,f4,f5⟩:=hf it (by simp)
  have Cv:i<x.cps.size:=hg
  refine wpAny_pyNext_wide_item st (c:=x.cps[i]) (by simp[Cv]) λh' st' sb=>?_
  have I1:Inv X Aa σ H { s with heap:=h',toks:=s.toks+1 }:=I.turned (t':=s.toks+1) (λb o hb e=>(sb.2 b hb).trans e) f0 f1 f3 f4 f5
  obtain⟨o,e,c,d⟩:=id st'
  exact⟨_,rfl,rQ (s:={ s with heap:=h',toks:=s.toks+1 }) e c d (by decide) ⟨.str ⟨#[x.cps[i]]⟩,H,I1,⟨_,rfl⟩,⟨rfl,_,by simp[Cv],rfl⟩,st',λb hb=>(hf b hb).1⟩⟩
 done:=by
  intro X hP hw hK hc i Aa s σ H E I hf st hg
  subst hP hw hK
  obtain⟨f0,f1,f2,f3,f4,f5⟩:=hf it (by simp)
  have Cv:x.cps.size<=i:=hg
  exact wpAny_pyNext_wide_end (I.ok.hd hc) st (by simp[Cv]) λh' eb=>⟨rfl,I.turned (t':=s.toks) (λb o hb e=>eb b o hb e) f0 f1 f3 f4 f5⟩
 self:=λ_ _ _ _ _ st h=>wpAny_pyIter_striter_wide st h
def bCr(tl:TE):TI:=λσ H R=>tl σ H λv H1=>∃x,v=.str x/\R (Its x) H1
theorem aQx{X:Cx}{tg l:Expr}{tl:TE}(hl:PE X l tl):PI X tg l (bCr tl):=by
 intro Aa s σ H R I h
 refine dQ (hl Aa s σ H _ I h) λv s1 ⟨y,H1,I1,r1,q1⟩=>?_
 obtain⟨x,e,q⟩:=q1
 subst e
 obtain⟨t,rfl⟩:=r1
 have At:∀(o:Obj) (tn:Nat->Heap->Prop),Turn X.prog X.w X.K tg (Its x) [s1.heap.objs.size] s1.heap.objs.size tn->tn 0 (s1.heap.push o)->PIE X Aa σ tg R (.ref s1.heap.objs.size) { s1 with heap:=s1.heap.push o }:=λo tn T st=>by
  refine⟨s1.heap.objs.size,[s1.heap.objs.size],tn,_,H1,rfl,I1.kept (t':=s1.toks) λb o e=>aQ _ e,T,st,λb hb=>?_,q⟩
  have e:b=s1.heap.objs.size:=by simpa using hb
  subst e
  exact I1.fpOk (bA _) (I1.hok.fresh (bA _))
 cases ha:x.cps.all (· < 128)
 ·exact wpAny_pyIter_wide ha (At _ _ (t5 x t _) ⟨_,bP _ rfl,rfl,rfl⟩)
 ·exact wpAny_pyIter_ascii ha (At _ _ (t6 x t _) ⟨_,bP _ rfl,rfl,rfl⟩)
section
variable{X:Cx}
def aXd(K:cZ):V->Hp->VK->Prop:=λx H Q=>∃a xs,x=.ref a/\SqL K H a xs/\∀p,H p=none->Q (.ref p) (upd H p (.lst xs.reverse))
def aWm(K:cZ)(te:TE):TE:=λσ H Q=>te σ H λx H1=>aXd K x H1 Q
theorem aJq{e:Expr}{te:TE}{k:Nat}{p1 p2 p3 pos:Pos}(he:PE X e te):PE X (.Subscript e (.Slice none none (some (.UnaryOp .USub (.Constant (.int 1) k p1) p2)) p3) pos) (aWm X.K te):=by
 intro Aa s σ H Q I h
 refine Subscript_ (dQ (he Aa s σ H _ I h) λv s1 ⟨x,H1,I1,r1,q1⟩=>?_)
 obtain⟨a,xs,rfl,hx,q⟩:=q1
 cases r1
 refine wpAny_Slice ?_
 rw[evalPart_none]
 refine wpAny_pure (wpAny_pure ?_)
 rw[evalPart_some]
 refine dQ ((aDz yH yY:PE X (.UnaryOp .USub (.Constant (.int 1) k p1) p2) _) Aa s1 σ H1 (λx H'=>x=.int (-1)/\H'=H1) I1 ⟨_,rfl,rfl,rfl⟩) λvs s2 ⟨y,H2,I2,r2,e2,e3⟩=>?_
 subst e2 e3
 obtain⟨t,rfl⟩:=r2
 have I3:Inv X Aa σ H2 { s2 with heap:=s2.heap.push { cls:=.type "slice",data:=.fields #[.none,.none,.int (-1) t] } }:=I2.kept (t':=s2.toks) λb ob q=>aQ _ q
 obtain⟨its,r,ht,hz⟩:=I3.list hx
 have Al:=r.length
 refine tail_any (ops:=[.ref a,.ref s2.heap.objs.size]) ht.isList.typeIs slot_list_getitem.lookup ?_ (by with_unfolding_all rfl)
 refine wpAny_getItem_list_slice ht.isList (Heap.IsSliceOf.new ..) .none .none (.int _ _) (by simp) ?_ (by rw[bE]<;>omega)
 rw[PySem.W.krv_pick]
 refine⟨.ref _,_,I3.laid (t':=s2.toks) (o:=.lst xs.reverse) (λb ob q=>aQ _ q) (bA _) ?_,rfl,q _ (I3.hok.fresh (bA _))⟩
 exact⟨by rw[List.length_reverse];exact hz,its.reverse,0,r.reverse,bP _ rfl⟩
end
end L2
namespace Lf
open PySem L2
mutual
theorem aAb{X:Cx}{Aa:eF}{σ:St}{H:Hp}{s:Shared}(I:Inv X Aa σ H s):∀(d:Dt) {v v':V} {u u':Value} {A:Around},A.units+d.deep<cLine->IsD H d v->IsD H d v'->RelV v u->RelV v' u'->SeqAt.EqAt A s u u' true
 | .int i,v,v',u,u',A,_,h,h',r,r'=>by
  cases(show v=.int i from h)
  cases(show v'=.int i from h')
  obtain⟨t,rfl⟩:=r
  obtain⟨t',rfl⟩:=r'
  have:=SeqAt.EqAt.int_int (A:=A) (s:=s) i t i t'
  rw[beq_self_eq_true]at this
  exact this
 | .str x,v,v',u,u',A,_,h,h',r,r'=>by
  cases(show v=.str x from h)
  cases(show v'=.str x from h')
  obtain⟨t,rfl⟩:=r
  obtain⟨t',rfl⟩:=r'
  have:=SeqAt.EqAt.str_str (A:=A) (s:=s) x t x t'
  rw[beq_self_eq_true]at this
  exact this
 | .bl b,v,v',u,u',A,_,h,h',r,r'=>by
  cases(show v=.bl b from h)
  cases(show v'=.bl b from h')
  cases r
  cases r'
  exact SeqAt.EqAt.same _
 | .tup ds,v,v',u,u',A,hA,h,h',r,r'=>by
  obtain⟨a,vs,rfl,ha,hv⟩:=h
  obtain⟨b,ws,rfl,hb,hw⟩:=h'
  cases r
  cases r'
  by_cases Gi:a=b
  ·subst Gi;exact SeqAt.EqAt.same _
  ·obtain ⟨i1,r1,p1,z1⟩:=I.tuple (SqT.of (K:=X.K) ha)
   obtain⟨i2,r2,p2,z2⟩:=I.tuple (SqT.of (K:=X.K) hb)
   have hd:A.units+(gR ds+1)<cLine:=hA
   refine SeqAt.EqAt.of_refs Gi ?_
   have q:=SeqAt.RcAt.tuples (e:=λ_=>true) p1 p2 (by omega) (ey_ I ds (A:=A.in1) (by show A.units+1+gR ds<cLine;omega) hv hw r1 r2)
   have n1:=r1.length
   have n2:=r2.length
   have l1:=hv.len
   have l2:=hw.len
   have e:((List.range (min i1.toArray.size i2.toArray.size)).all (λ_=>true)&&i1.toArray.size == i2.toArray.size)=true:=by
    rw[dE]
    exact⟨by simp,beq_iff_eq.mpr (by simp only[bE];omega)⟩
   rw[e]at q
   exact q
 | .lst ds,v,v',u,u',A,hA,h,h',r,r'=>by
  obtain⟨a,vs,rfl,ha,hv⟩:=h
  obtain⟨b,ws,rfl,hb,hw⟩:=h'
  cases r
  cases r'
  by_cases Gi:a=b
  ·subst Gi;exact SeqAt.EqAt.same _
  ·obtain ⟨i1,r1,p1,z1⟩:=I.list (SqL.of (K:=X.K) ha)
   obtain⟨i2,r2,p2,z2⟩:=I.list (SqL.of (K:=X.K) hb)
   have hd:A.units+(gR ds+1)<cLine:=hA
   refine SeqAt.EqAt.of_refs Gi ?_
   have n1:=r1.length
   have n2:=r2.length
   have l1:=hv.len
   have l2:=hw.len
   have q:=SeqAt.RcAt.lists (e:=λ_=>true) p1.isList p2.isList (by simp only[bE];omega) (by omega) (ey_ I ds (A:=A.in1) (by show A.units+1+gR ds<cLine;omega) hv hw r1 r2)
   have e:((List.range i1.toArray.size).all (λ_=>true))=true:=by simp
   rw[e]at q
   exact q
theorem ey_{X:Cx}{Aa:eF}{σ:St}{H:Hp}{s:Shared}(I:Inv X Aa σ H s):∀(ds:List Dt) {vs ws:List V} {us us':List Value} {A:Around},A.units+gR ds<cLine->IsDs H ds vs->IsDs H ds ws->Vals vs us->Vals ws us' ->
  ∀(j:Nat) (h1:j<us.toArray.size) (h2:j<us'.toArray.size),SeqAt.EqAt A s us.toArray[j] us'.toArray[j] true
 | [],_,_,us,_,_,_,h,h',r,r',j,h1,_=>by
  cases(show _=[]from h)
  cases r
  simp at h1
 |d::ds,_,_,us,us',A,hA,⟨v,vr,e1,hv,K3⟩,⟨v',vr',e2,hw,hws⟩,r,r',j,h1,h2=>by
  subst e1
  subst e2
  cases r with
  |cons r1 r2 =>
  cases r' with
  |cons r1' r2' =>
  have hm:A.units+max d.deep (gR ds)<cLine:=hA
  cases j with
  |zero=>exact aAb I d (by omega) hv hw r1 r1'
  |succ j =>
   have:=ey_ I ds (A:=A) (by omega) K3 hws r2 r2' j (by simpa using h1) (by simpa using h2)
   simpa using this
end
def aOa(neg:Bool):R2:=λx y H Q=>∃(d:Dt),d.deep<=60/\((∃ds,d=.lst ds)\/∃ds,d=.tup ds)/\IsD H d x/\IsD H d y/\Q (.bl neg) H
theorem v6{X:Cx}(hu:X.A.units+64<cLine):OpR X (compareOp .NotEq) (aOa false):=by
 intro Aa s σ H x y v u Q I rx ry h
 obtain⟨d,hd,hk,h1,h2,q⟩:=h
 cases d with
 |lst ds =>
  obtain⟨a,vs,rfl,ha,hv⟩:=h1
  obtain⟨b,ws,rfl,hb,hw⟩:=h2
  cases rx
  cases ry
  obtain⟨i1,r1,p1,z1⟩:=I.list (SqL.of (K:=X.K) ha)
  obtain⟨i2,r2,p2,z2⟩:=I.list (SqL.of (K:=X.K) hb)
  have n1:=r1.length
  have n2:=r2.length
  have l1:=hv.len
  have l2:=hw.len
  have Ju:gR ds+1<=60:=hd
  refine PySem.SeqAt.RcNeAt.lists (e:=λ_=>true) p1.isList p2.isList (by simp only[bE];omega) (by omega) (ey_ I ds (A:=X.A.in1) (by show X.A.units+1+gR ds<cLine;omega) hv hw r1 r2) _ _ _ _ ?_
  refine⟨.bl false,H,I,?_,q⟩
  show Value.bool _=Value.bool _
  have e:((List.range i1.toArray.size).all (λ_=>true))=true:=by simp
  rw[e]
  rfl
 |tup ds =>
  obtain⟨a,vs,rfl,ha,hv⟩:=h1
  obtain⟨b,ws,rfl,hb,hw⟩:=h2
  cases rx
  cases ry
  obtain⟨i1,r1,p1,z1⟩:=I.tuple (SqT.of (K:=X.K) ha)
  obtain⟨i2,r2,p2,z2⟩:=I.tuple (SqT.of (K:=X.K) hb)
  have n1:=r1.length
  have n2:=r2.length
  have l1:=hv.len
  have l2:=hw.len
  have Ju:gR ds+1<=60:=hd
  refine PySem.SeqAt.RcNeAt.tuples (e:=λ_=>true) p1 p2 (by omega) (ey_ I ds (A:=X.A.in1) (by show X.A.units+1+gR ds<cLine;omega) hv hw r1 r2) _ _ _ _ ?_
  refine⟨.bl false,H,I,?_,q⟩
  show Value.bool _=Value.bool _
  have e:((List.range (min i1.toArray.size i2.toArray.size)).all (λ_=>true)&&i1.toArray.size == i2.toArray.size)=true:=by
   rw[dE]
   exact⟨by simp,beq_iff_eq.mpr (by simp only[bE];omega)⟩
  rw[e]
  rfl
 |int i=>rcases hk with⟨_,hk⟩ | ⟨_,hk⟩<;>cases hk
 |str i=>rcases hk with⟨_,hk⟩ | ⟨_,hk⟩<;>cases hk
 |bl i=>rcases hk with⟨_,hk⟩ | ⟨_,hk⟩<;>cases hk
end Lf
namespace L2
open PySem PySem.Spec PyProof.Rows
end L2
namespace Lf
open PySem PySem.W PyProof.Rows
section
variable{lt:Nat->Nat->Bool}
structure Ord(lt:Nat->Nat->Bool):Prop where
 tr:∀i j k,lt j i=false->lt k j=false->lt k i=false
 asy:∀i j,lt i j=true->lt j i=false
theorem Ord.rf(o:Ord lt)(i:Nat):lt i i=false:=by
 cases h:lt i i with
 |false=>rfl
 |true=>have:=o.asy i i h;rw[h]at this;exact this
abbrev gk(p:Array Nat)(k:Nat):Nat:=p.getD k 0
def Srt(lt:Nat->Nat->Bool)(p:Array Nat)(n:Nat):Prop:=∀i j,i<=j->j<n->lt (gk p j) (gk p i)=false
def Dec(lt:Nat->Nat->Bool)(p:Array Nat)(n:Nat):Prop:=∀i j,i<=j->j<n->lt (gk p i) (gk p j)=false
theorem Srt.step(o:Ord lt){p:Array Nat}{n:Nat}(h1:1<=n)(h:Srt lt p n)(hn:lt (gk p n) (gk p (n-1))=false):Srt lt p (n+1):=by
 intro i j Ls hj
 by_cases c:j=n
 ·subst c
  by_cases d:i=j
  ·subst d;exact o.rf _
  ·exact o.tr _ _ _ (h i (j-1) (by omega) (by omega)) hn
 ·exact h i j Ls (by omega)
theorem Dec.step(o:Ord lt){p:Array Nat}{n:Nat}(h1:1<=n)(h:Dec lt p n)(hn:lt (gk p (n-1)) (gk p n)=false):Dec lt p (n+1):=by
 intro i j Ls hj
 by_cases c:j=n
 ·subst c
  by_cases d:i=j
  ·subst d;exact o.rf _
  ·exact o.tr _ _ _ hn (h i (j-1) (by omega) (by omega))
 ·exact h i j Ls (by omega)
def Blw(n:Nat)(p:Array Nat):Prop:=0<n/\∀x∈p.toList,x<n
theorem Blw.at{n:Nat}{p:Array Nat}(h:Blw n p)(k:Nat):p.getD k 0<n:=by
 rw[Array.getD_eq_getD_getElem?]
 cases e:p[k]? with
 |none=>exact h.1
 |some x =>
  refine h.2 x ?_
  rw[<-Array.getElem?_toList]at e
  exact bN e
end
end Lf
namespace L2
open PySem PySem.Spec PyProof.Rows PySem.W
section
variable{prog:Program}{w:World}{A:Around}{E:gG}{s:Shared}
abbrev TI2:=Addr×List Int
def t0:TI2:=(0,[])
end
end L2
namespace Lf
open PySem
def Pw(m:Int):Prop:=m=1\/m=2\/m=4\/m=8
theorem Pw.max{a b:Int}(ha:Pw a)(hb:Pw b):Pw (max a b):=by
 by_cases h:a<=b
 ·rw[Int.max_eq_right h];exact hb
 ·rw[Int.max_eq_left (by omega)];exact ha
theorem Pw.maxL{l:List Int}(h:∀a∈l,Pw a):Pw (maxL 1 l):=by
 induction l with
 |nil=>exact .inl rfl
 |cons b r ih=>exact Pw.max (h b aA) (ih λa ha=>h a (aC _ ha))
end Lf
namespace Lf
end Lf
namespace Lf
open PySem
end Lf
namespace Lf
inductive Vd where
 |num (n:Int)
 |row (vs:List Vd)
 |rcd (vs:List Vd)
 |cho (k:Nat) (v:Vd)
def aXv:Nat->Int->List Int
 | 0,_=>[]
 |w+1,n=>n%256::aXv w (n/256)
def lay(l:List Int)(p:Nat)(some:List Int):List Int:=l.mapIdx λi b=>if p<=i/\i<p+some.length then some.getD (i-p) 0 else b
def aFj(f:Vd->List Int)(step:Nat):Nat->List Vd->List Int->List Int
 |_,[],l=>l
 |j,v::r,l=>aFj f step (j+1) r (lay l (j*step) (f v))
mutual
def Kd.byt:Kd->Vd->List Int
 | .num w _,.num n=>aXv w.toNat n
 | .row k n,.row vs=>aFj k.byt (up k.rm.1 k.rm.2).toNat 0 vs (List.replicate (n*up k.rm.1 k.rm.2).toNat 0)
 | .rcd fs,.rcd vs=>aZq (aXj 0 (rmF fs)) fs vs (List.replicate (aNw (rmF fs)).1.toNat 0)
 | .cho ks,.cho k v=>lay ((List.replicate (aGz (rmK ks)).1.toNat (0:Int)).set 0 (k:Int)) (up 1 (aGz (rmK ks)).2).toNat (aZp ks k v)
 |_,_=>[]
def aZq:List Int->List (PySem.Str×Kd)->List Vd->List Int->List Int
 |p::ps,f::r,v::vs,l=>aZq ps r vs (lay l p.toNat (f.2.byt v))
 |_,_,_,l=>l
def aZp:List Kd->Nat->Vd->List Int
 | [],_,_=>[]
 |k::_,0,v=>k.byt v
 |_::r,j+1,v=>aZp r j v
end
mutual
def Kd.Val:Kd->Vd->Prop
 | .num w _,.num n=>0<=n/\n<256^w.toNat
 | .row k n,.row vs=>(vs.length:Int)=n/\∀v∈vs,k.Val v
 | .rcd fs,.rcd vs=>dF fs vs
 | .cho ks,.cho k v=>gT ks k v
 |_,_=>False
def dF:List (PySem.Str×Kd)->List Vd->Prop
 | [],[]=>True
 |f::r,v::vs=>f.2.Val v/\dF r vs
 |_,_=>False
def gT:List Kd->Nat->Vd->Prop
 | [],_,_=>False
 |k::_,0,v=>k.Val v
 |_::r,j+1,v=>gT r j v
end
end Lf
namespace Lf
end Lf
namespace Lf
end Lf
namespace Lf
end Lf
namespace L2
open PySem PySem.Spec PyProof.Rows
section
variable{X:Cx}{Aa:eF}{σ:St}{H:Hp}{s:Shared}{a:Addr}
theorem Inv.other{u u':HO}(I:Inv X Aa σ H s)(e:H a=some u)(n1:∀y,u ≠ .own y)(n2:∀xs,u ≠ .tup xs)(n3:∀ps,u ≠ .tbl ps)(n4:∀o v,X.H₀ a≠some (.frz o v))(hok:ObjOk X.prog X.w (upd H a u') s.heap a u'):Inv X Aa σ (upd H a u') s:=by
 have ne:∀{b:Addr},H b=none->b≠a:=λh z=>by rw[z,e]at h;cases h
 refine⟨I.ok,I.os,I.bare,⟨I.base.keep,I.base.slot,λb o h1 h2 h3=>?_,I.base.there,λb xs h=>?_,λb o v h=>?_,λb ps h=>?_⟩,I.loc,I.cell,?_,λx c h=>?_,λp hp=>?_,λb v h=>?_,I.len⟩
 ·have:=I.base.free b o h1 h2 h3
  rw[dW (ne this)];exact this
 ·have:=I.base.tups b xs h
  rw[dW (λz=>by rw[z,e]at this;exact n2 _ (ozI this))];exact this
 ·have:=I.base.frzs b o v h
  rw[dW (λz=>n4 o v (by rw[<-z];exact h))];exact this
 ·obtain ⟨m,q⟩:=I.base.tbls b ps h
  exact⟨m,by rw[dW (λz=>by rw[z,e]at q;exact n3 _ (ozI q))];exact q⟩
 ·rw[dW (ne I.free)];exact I.free
 ·rw[dW (ne (I.freeC x c h))];exact I.freeC x c h
 ·obtain ⟨p1,p2,p3⟩:=I.pin p hp
  exact⟨p1,by rw[dW (ne p2)];exact p2,p3⟩
 ·by_cases hb:b=a
  ·subst hb
   rw[bU]at h
   cases h
   exact hok
  ·rw [dW hb] at h
   refine(I.hok b v h).stay (λ_ _ _ q=>q) (λc q=>?_) λc xs q=>?_
   ·rw[dW (λz=>by rw[z,e]at q;exact n1 _ (ozI q))];exact q
   ·rw[dW (λz=>by rw[z,e]at q;exact n2 _ (ozI q))];exact q
theorem aGr{P:Program}{w:World}{H H':Hp}{h:Heap}{a:Addr}{kvs:List (Key×V)}(x:ObjOk P w H h a (.dK kvs)):ObjOk P w H' h a (.dK kvs):=x
theorem Inv.freeze{kvs:List (Key×V)}(I:Inv X Aa σ H s)(e:H a=some (.dK kvs)):∃o,Inv X Aa σ (upd H a (.frz o (.dK kvs))) s:=by
 have x:=I.hok a _ e
 obtain⟨_,_,vs,r,o,es,ep,h1,h2⟩:=id x
 refine⟨o,I.other e (λ_ z=>by cases z) (λ_ z=>by cases z) (λ_ z=>by cases z) (λo v z=>?_) ⟨h1,aGr x⟩⟩
 have:=I.base.frzs a o v z
 rw[e]at this;cases this
theorem Inv.thaw{o:Obj}{kvs:List (Key×V)}(I:Inv X Aa σ H s)(e:H a=some (.frz o (.dK kvs)))(n:∀o v,X.H₀ a≠some (.frz o v)):Inv X Aa σ (upd H a (.dK kvs)) s:=
 I.other e (λ_ z=>by cases z) (λ_ z=>by cases z) (λ_ z=>by cases z) n (aGr (I.hok a _ e).2)
end
def bBw(H0:Hp)(t:TE):TE:=λσ H Q=>∃a kvs,H a=some (.dK kvs)/\(∀o v,H0 a≠some (.frz o v))/\∀o,t σ (upd H a (.frz o (.dK kvs))) λv H'=>H' a=some (.frz o (.dK kvs))/\Q v (upd H' a (.dK kvs))
theorem aRb{X:Cx}{e:Expr}{t:TE}(h:PE X e t):PE X e (bBw X.H₀ t):=by
 intro Aa s σ H Q I ⟨a,kvs,ha,hn,q⟩
 obtain⟨o,I1⟩:=I.freeze ha
 refine dQ (h Aa s σ _ _ I1 (q o)) λu s1 ⟨v,H1,I2,r,e1,q1⟩=>⟨v,_,I2.thaw e1 hn,r,q1⟩
def bBz(H0:Hp)(t:TS):TS:=λD σ H=>∃a kvs,H a=some (.dK kvs)/\(∀o v,H0 a≠some (.frz o v))/\∀o,
 t ⟨λσ' H'=>H' a=some (.frz o (.dK kvs))/\D.nx σ' (upd H' a (.dK kvs)),λv H'=>H' a=some (.frz o (.dK kvs))/\D.rt v (upd H' a (.dK kvs)),λσ' H'=>H' a=some (.frz o (.dK kvs))/\D.bk σ' (upd H' a (.dK kvs)),λσ' H'=>H' a=some (.frz o (.dK kvs))/\D.ct σ' (upd H' a (.dK kvs))⟩ σ (upd H a (.frz o (.dK kvs)))
theorem aQu{X:Cx}{st:Stmt}{t:TS}(h:PS X st t):PS X st (bBz X.H₀ t):=by
 intro Aa s σ H D I ⟨a,kvs,ha,hn,q⟩
 obtain⟨o,I1⟩:=I.freeze ha
 refine dQ (h Aa s σ _ _ I1 (q o)) λf s1 h1=>?_
 cases f with
 |next=>obtain⟨σ',H',I2,e1,q1⟩:=h1;exact⟨σ',_,I2.thaw e1 hn,q1⟩
 |brk=>obtain⟨σ',H',I2,e1,q1⟩:=h1;exact⟨σ',_,I2.thaw e1 hn,q1⟩
 |cont=>obtain⟨σ',H',I2,e1,q1⟩:=h1;exact⟨σ',_,I2.thaw e1 hn,q1⟩
 |ret u=>obtain⟨v,σ',H',I2,r,e1,q1⟩:=h1;exact⟨v,σ',_,I2.thaw e1 hn,r,q1⟩
def Itd(a:Addr)(o:Obj)(kvs:List (Key×V)):It:=
 ⟨λi H=>H a=some (.frz o (.dK kvs))/\i<kvs.length,λi H x H'=>H'=H/\∃kv,kvs[i]? = some kv/\x=kV kv.1,λi H=>H a=some (.frz o (.dK kvs))/\kvs.length<=i⟩
theorem aYh{P:Program}{w:World}{k:Key}{u:Value}(h:(dZ P w).is k u=true):RelV (kV k) u:=by
 cases k with
 |inl i=>exact Value.isInt_shape (k:=i) h
 |inr x=>exact Value.isStrOf_shape (x:=x) h
theorem KV.at'{kvs:List (Key×V)}{vs:List (Key×Value)}(r:KV kvs vs):∀{i:Nat} {kv:Key×V},kvs[i]? = some kv->∃u,vs[i]? = some (kv.1,u):=by
 induction r with
 |nil=>intro i kv h;simp at h
 | @cons p q ps qs hq t ih =>
  intro i kv h
  cases i with
  |zero=>simp at h;subst h;exact⟨q.2,by simp[hq.1]⟩
  |succ i=>obtain⟨u,e⟩:=ih (i:=i) (by simpa using h);exact⟨u,by simpa using e⟩
theorem wY{X:Cx}{Aa:eF}{σ:St}{H:Hp}{s:Shared}{a:Addr}{o:Obj}{kvs:List (Key×V)}{es:Array DictEntry}{ep:Nat}(I:Inv X Aa σ H s)(e:H a=some (.frz o (.dK kvs)))(hd:o.data=.dict es ep) :
  (a == sysModules)=false/\∃vs,KV kvs vs/\s.heap.DictAt (dZ X.prog X.w) a vs ep:=by
 obtain⟨h0,_,y,vs,r,o',es',ep',h1,h2,h3,h4⟩:=(show ObjOk X.prog X.w H s.heap a (.frz o (.dK kvs))from I.hok a _ e)
 rw[h0]at h1
 cases h1
 rw[hd]at h3
 cases h3
 exact⟨y,vs,r,o,es,h0,h2,hd,h4⟩
theorem t8{P:Program}{w:World}{K:cZ}{tg:Expr}(a it:Addr)(Bv:a≠it)(o:Obj)(kvs:List (Key×V))(es:Array DictEntry)(ep:Nat)(hd:o.data=.dict es ep):Turn P w K tg (Itd a o kvs) [it] it (λi h=>h.IsKeyIter it a i kvs.length ep)where
 mem:=by simp
 obj:=λi h st b hb=>by
  have e:b=it:=by simpa using hb
  subst e
  obtain⟨o,e,c,d⟩:=st
  exact⟨o,e,λv z=>by rw[d]at z;cases z⟩
 keep:=λi h h' st k=>st.at λo e=>k it (by simp) o e
 item:=by
  intro X hP hw hK hc i Aa s σ H E I hf st hg
  subst hP hw hK
  obtain⟨ha,hi⟩:=hg
  obtain⟨y,vs,r,dd⟩:=wY I ha hd
  obtain⟨f0,f1,f2,f3,f4,f5⟩:=hf it (by simp)
  have hl:kvs.length=vs.length:=r.length
  obtain⟨u,hu⟩:=r.at' (aO hi)
  rw[hl]at st
  refine wpAny_pyNext_dict_item st dd hu λkey h' hk st' sb=>?_
  have I1:Inv X Aa σ H { s with heap:=h' }:=I.turned (t':=s.toks) (λb o hb e=>(sb.2 b hb).trans e) f0 f1 f3 f4 f5
  rw[<-hl]at st'
  obtain⟨o',e,c,d⟩:=id st'
  exact⟨key,rfl,rQ (s:={ s with heap:=h' }) e c d (by decide) ⟨kV kvs[i].1,H,I1,aYh hk,⟨rfl,_,aO hi,rfl⟩,st',λb hb=>(hf b hb).1⟩⟩
 done:=by
  intro X hP hw hK hc i Aa s σ H E I hf st hg
  subst hP hw hK
  obtain⟨ha,hi⟩:=hg
  obtain⟨y,vs,r,dd⟩:=wY I ha hd
  obtain⟨f0,f1,f2,f3,f4,f5⟩:=hf it (by simp)
  have hl:kvs.length=vs.length:=r.length
  rw[hl]at st
  exact wpAny_pyNext_dict_end (I.ok.hd hc) st dd (by simp;omega) λh' eb=>⟨rfl,I.turned (t':=s.toks) (λb o hb e=>eb b o hb e) f0 f1 f3 f4 f5⟩
 self:=λ_ _ _ _ _ st h=>wpAny_pyIter_keyiter st h
def wT(tl:TE):TI:=λσ H R=>tl σ H λx H1=>∃a o kvs,x=.ref a/\H1 a=some (.frz o (.dK kvs))/\R (Itd a o kvs) H1
theorem mL{X:Cx}{tg l:Expr}{tl:TE}(hl:PE X l tl):PI X tg l (wT tl):=by
 intro Aa s σ H R I h
 refine dQ (hl Aa s σ H _ I h) λv s1 ⟨x,H1,I1,r1,q1⟩=>?_
 obtain⟨a,o,kvs,e,ha,q⟩:=q1
 subst e
 cases r1
 obtain⟨h0,_,y,vs,r,o',es,ep,h1,h2,h3,h4⟩:=(show ObjOk X.prog X.w H1 s1.heap a (.frz o (.dK kvs))from I1.hok a _ ha)
 rw[h0]at h1
 cases h1
 have hl:kvs.length=vs.length:=r.length
 refine wpAny_pyIter_dict y (⟨o,es,h0,h2,h3,h4⟩:s1.heap.DictAt (dZ X.prog X.w) a vs ep) ?_
 refine⟨s1.heap.objs.size,[s1.heap.objs.size],_,_,H1,rfl,I1.kept (t':=s1.toks) λb o e=>aQ _ e,t8 a _ (cH (bK h0)) o kvs es ep h3,⟨_,bP _ rfl,rfl,by rw[hl];rfl⟩,λb hb=>?_,q⟩
 have e:b=s1.heap.objs.size:=by simpa using hb
 subst e
 exact I1.fpOk (bA _) (I1.hok.fresh (bA _))
section
variable{X:Cx}
theorem gy_(a:Int)(t:Tok){prog:Program}{w:World}{A:Around}{E:gG}{s:Shared}{Q:gG}(h:∀t',Q (.int (Builtin.Int.intBits a) t') { s with toks:=s.toks+1 }) :
  wpAny (model prog w) A (call (.builtin "int.bit_length") [.int a t]) Q E s:=by
 refine wpAny_call_entry F.slot_int_bit_length (typeIs_int s a t) F.entry_int_bit_length ?_ (F.args_int_bit_length_1 _)
 unfold Builtin.«int.bit_length»
 obtain⟨hp,g,d,tk,os⟩:=s
 wp_walk
 exact⟨_,rfl,h _⟩
def aOb:V->List V->Hp->VK->Prop:=λx vs H Q=>∃i:Int,x=.int i/\vs=[]/\Q (.int (Builtin.Int.intBits i)) H
theorem qG:MtR X "int.bit_length" aOb:=by
 intro Aa s σ H x vs v us Q I rx rv h
 obtain⟨i,rfl,rfl,q⟩:=h
 obtain⟨t,rfl⟩:=rx
 cases rv
 exact gy_ i t λt'=>⟨.int _,H,I.tok _,⟨_,rfl⟩,q⟩
end
end L2
namespace L2
open PySem PySem.W PySem.Spec PyProof.Rows PySem.Calls
theorem pC{α β:Type}[BEq α][LawfulBEq α]{a:α}{b:β}:∀{l:List (α×β)},l.lookup a=some b->(a,b)∈l
 | [],h=>by simp at h
 |(c,d)::r,h=>by
  by_cases e:a=c
  ·subst e;simp at h;subst h;exact aA
  ·rw [bW,beq_eq_false_iff_ne.mpr e] at h
   exact aC _ (pC h)
theorem aMt(h:Heap):(aMu h).In h:=λa o e=>by
 obtain⟨b,_,hb⟩:=List.mem_filterMap.mp (pC e)
 obtain⟨o',h1,h2⟩:=dJ.mp hb
 cases h2
 exact h1
def exHook{α:Type}(f:Frag->α)(v:α):Hook where
 α:=α
 obs:=λs=>f (aMu s.heap)
 val:=λ_=>v
 says:=λ_ h=>∃K:Frag,K.In h/\f K=v
 of:=λ_ s e=>⟨aMu s.heap,aMt _,e⟩
 keeps:=λ_ _ _ e g=>by
  obtain⟨K,k,e⟩:=e
  exact⟨K,λa o q=>g _ _ (k a o q),e⟩
theorem aAw:∀w:World,((boot_heap w.params).isNs mainGlobals&&(Array.mk []:Array GenState).size == 0,(boot_heap w.params).objs.size,(boot_heap w.params).nsMap mainGlobals "__annotations__")=(true,11,some (.ref 6)):=λw=>by kernel_rfl
theorem w9{p q:Program}{loose:List Str}{Xt:Shared->Bool}{α:Type}{Yf:Frag->α}{v:α}{N:Nat}{g0:Bool}(hN:Nat.ble 600 N=true)(e:opening p=plainProg p.main.scope.names)(f:∀s,fenceModules? p s=some s)
  (all:∀w:World,onceSeen topRun treeTable importedModules (λm s=>openSeen q loose m Xt g0 s) p N Yf w=λ_=>some (true,openGood q loose,v)) :
  LeftO p q loose Xt (exHook Yf v).obs (exHook Yf v).val N g0:=λw=>by
 obtain⟨⟨h,gs,d,k,os⟩,e1,e'⟩:=dJ.mp (boot_open e hN f w)
 obtain⟨rfl,rfl,rfl,rfl⟩:h=boot_heap w.params/\gs=Array.mk []/\d=boot_drawn/\k=boot_toks:=by simpa using e'
 obtain⟨z1,z2,z3⟩:_/\_/\_:=by simpa only[Prod.mk.injEq]using aAw w
 obtain⟨s₁,r,r2⟩:=dJ.mp (congrFun (all w) os)
 obtain⟨l1,l2,l3⟩:_/\_/\_:=by simpa only[Prod.mk.injEq]using r2
 have t:topFrom treeTable p w N ⟨boot_heap w.params,Array.mk [],boot_drawn,boot_toks,os⟩=some s₁:=by
  unfold topFrom
  dsimp only
  rw[z1,z2,z3]
  show(topRun treeTable p w 11 (some (.ref 6)) N _ (topStub p)).bind _=_
  rw[r]
  show(match staticsOk (importedModules p.main.body) (boot_heap w.params) s₁.heap&&namesBound p s₁.heap&&gensDone s₁&&laidKept (boot_heap w.params) s₁.heap with | true=>_ | false=>_)=_
  rw[l1]
 unfold openEnds
 rw[e1]
 show(topFrom treeTable p w N _).map _=_
 rw[t]
 exact congrArg some (Prod.ext l2 l3)
theorem walk_ex{l:PySem.W.OpenLaw}{n k:Nat}{q:Program}{loose:List Str}{XP:(Str->Option Value)->Heap->Prop}{α:Type}{f:Frag->α}{v:α}{d:DefRec}{CX:CXT}{sp:PySem.W.Frag->Sp}{x:Str}
  (hn:l.most=some n) (Gu:n<=sizeLine) (Mc:d.params.defaults=[]) (hr:Room k callerA)
  (F:∀ (w:World) (K:Frag) (mg:kP) (fa:Addr) (h:Heap),f K=v→K.In h→h.Ns mainGlobals mg→mg d.name=some (.ref fa) →
   ∃fd:FuncData,(∀(s:Shared) (u:Value),BindsTo s fd ⟨[u],[]⟩ [(x,u)]) /\
    ∀base:Heap,K.In base->base.Ns mainGlobals mg->FnOk l.prog w K mg base CX k fa fd [x] (sp K))
  (Ch:∀(K:cZ) (H:Hp) (a:Addr) (ns:List Int),ns.length<=n->aUp H->SqL K H a (ns.map V.int)->sp K [.ref a] H (λv _=>v=.bl true) λ_ _ _=>False)
  (Mo:∀(H:Hp) (s:Shared) (e:Value) (s':Shared),CX [] H s (λ_ _ _=>False) e s'->False) :
  PySem.W.WalkO q loose XP (exHook f v).says l.row.toRowW d [] (λf vs=>PySem.call f vs):=by
 refine Att.attach_call hn Mc λw s₀ s₁ mg mb fa o pm cd doc a vs ns G Y ho hd D7 Li Hc Fh Al hg=>?_
 obtain⟨K,KX,hK⟩:=Y
 obtain⟨fd,hb,hF⟩:=F w K mg fa _ hK KX G.T.g Li
 exact aFl KX G.T.g G.T.b G.T.builtins G.T.nolimit hg Hc Fh (nzL Al Gu) hr hF hb (λH hO hS=>Ch K H a ns Al hO hS) λH e s'=>Mo H s₁ e s'
theorem jP{K:Frag}{s:Stmt}(h:uI K (fY s)=uX s):∃f fd,nsIn K mainGlobals (fY s)=some (some (.ref f))/\Fun K (fY s) (fY s) s f fd:=by
 unfold uI at h
 cases e:nsIn K mainGlobals (fY s)with
 |none=>rw[e]at h;cases h
 |some o =>
  cases o with
  |none=>rw[e]at h;cases h
  |some v =>
   cases v with
   |ref f =>
    rw[e]at h
    dsimp only at h
    cases e2:K.lookup f with
    |none=>rw[e2]at h;cases h
    |some ob =>
     obtain⟨oc,od,da,sl⟩:=ob
     rw[e2]at h
     cases da with
     |func fd =>
      obtain⟨nm,qn,pa,bo,sc,gl,cl,df,kw,dc,pm,an,cd,ct,bl⟩:=fd
      simp only[uX,Option.some.injEq,Prod.mk.injEq]at h
      obtain⟨⟨rfl,rfl,rfl,rfl,rfl⟩,⟨rfl,rfl,rfl,rfl⟩,h3⟩:=h
      refine⟨f,_,rfl,⟨oc,od,kw,dc,pm,an,cd,ct,sl,rfl,e2,h3⟩,?_⟩
      unfold keepIn
      dsimp only
      rw[e2]
     |_=>cases h
   |_=>rw[e]at h;cases h
theorem wK{K:Frag}{n:Str}(h:oZ K n=true):nsIn K mainGlobals n=some none:=by
 unfold oZ at h
 split at h
 ·assumption
 ·cases h
theorem aHj:∀{v:Value} {x:V},aMw v=some x->RelV x v
 | .none,x,h=>by cases h;rfl
 | .bool b,x,h=>by cases h;rfl
 | .int i t,x,h=>by cases h;exact⟨t,rfl⟩
 | .str i t,x,h=>by cases h;exact⟨t,rfl⟩
 | .bytes i t,x,h=>by cases h;exact⟨t,rfl⟩
 | .float i t,x,h=>by cases h;exact⟨t,rfl⟩
 | .ref a,x,h=>by cases h;rfl
 | .type n,x,h=>by cases h;rfl
 | .builtin _,x,h=>by cases h
theorem gv_{K:Frag}{n:Str}{x:V}(h:uH K n=some x):∃v,nsIn K mainGlobals n=some (some v)/\RelV x v:=by
 unfold uH at h
 split at h
 ·exact⟨_,by assumption,aHj h⟩
 ·cases h
section
variable{K:Frag}{x qual:Str}{st:Stmt}{f:Addr}{p1 p2 p3 p4 p5 p6:Str}
abbrev BA(x qual:Str)(st:Stmt)(us:List Value)(r:List (Str×Value)):Prop:=∀(kV doc pm:Value) (an:Option Addr) (Ak ct:Value),bindArgs (PySem.W.fnOf x qual (lG st) (eG st) (aM st) .none kV doc pm an Ak ct) ⟨us,[]⟩=pure r
theorem iN(F:Fun K x qual st f fd)(h:∀a,BA x qual st [a] [(p1,a)]):Binds K fd [p1] []:=F.binds λ_ _ _ _ _ _ us hl=>by
 match us,hl with
 | [a],_=>exact h a _ _ _ _ _ _
theorem dC(F:Fun K x qual st f fd)(h:∀a b,BA x qual st [a,b] [(p1,a),(p2,b)]):Binds K fd [p1,p2] []:=F.binds λ_ _ _ _ _ _ us hl=>by
 match us,hl with
 | [a,b],_=>exact h a b _ _ _ _ _ _
theorem pV(F:Fun K x qual st f fd)(h:∀a b c,BA x qual st [a,b,c] [(p1,a),(p2,b),(p3,c)]):Binds K fd [p1,p2,p3] []:=F.binds λ_ _ _ _ _ _ us hl=>by
 match us,hl with
 | [a,b,c],_=>exact h a b c _ _ _ _ _ _
end
theorem hz_{K:Frag}(h:bltNs.map (oZ K)=List.replicate 17 true){n:Str}(i:Nat)(hi:i<17)(e:bltNs[i]? = some n):nsIn K mainGlobals n=some none:=by
 refine wK ?_
 have:=congrArg (λl=>l[i]?) h
 simp only[bV,e,Option.map_some,iA,hi,if_true,Option.some.injEq]at this
 exact this
end L2
namespace Lf
open PySem L2
def All2{α β:Type}(g:α->β->Prop):List α->List β->Prop
 | [],ys=>ys=[]
 |x::xs,ys=>∃y yr,ys=y::yr/\g x y/\All2 g xs yr
section
variable{α β:Type}{g h:α->β->Prop}
theorem All2.nil:All2 g [] []:=rfl
theorem All2.imp(i:∀v x,g v x->h v x):∀{vs:List α} {xs:List β},All2 g vs xs->All2 h vs xs
 | [],_,e=>e
 |_::_,_,⟨x,xr,e,a,b⟩=>⟨x,xr,e,i _ _ a,All2.imp i b⟩
theorem All2.len:∀{vs:List α} {xs:List β},All2 g vs xs->xs.length=vs.length
 | [],_,e=>by rw[show _=[]from e];rfl
 |_::_,_,⟨x,xr,e,a,b⟩=>by rw[e,aD,aD,All2.len b]
theorem All2.get:∀{vs:List α} {xs:List β} {i:Nat} {x:β},All2 g vs xs->xs[i]? = some x->∃v,vs[i]? = some v/\g v x
 | [],_,_,_,e,h=>by rw[show _=[]from e]at h;simp at h
 |v::vs,_,0,x,⟨y,yr,e,a,b⟩,h=>by rw[e]at h;cases(ozI h);exact⟨v,rfl,a⟩
 |v::vs,_,i+1,x,⟨y,yr,e,a,b⟩,h=>by
  rw[e]at h
  obtain⟨u,hu,hg⟩:=All2.get (i:=i) b (by simpa using h)
  exact⟨u,by simpa using hu,hg⟩
theorem All2.at:∀{vs:List α} {xs:List β} {i:Nat} {v:α},All2 g vs xs->vs[i]? = some v->∃x,xs[i]? = some x/\g v x
 | [],_,_,_,e,h=>by simp at h
 |v::vs,_,0,w,⟨y,yr,e,a,b⟩,h=>by rw[e];cases(ozI h);exact⟨y,rfl,a⟩
 |v::vs,_,i+1,w,⟨y,yr,e,a,b⟩,h=>by
  rw[e]
  obtain⟨u,hu,hg⟩:=All2.at (i:=i) b (by simpa using h)
  exact⟨u,by simpa using hu,hg⟩
theorem All2.app{us:List α}{ys:List β}(hu:All2 g us ys):∀{vs:List α} {xs:List β},All2 g vs xs->All2 g (vs++us) (xs++ys)
 | [],_,e=>by rw[show _=[]from e];exact hu
 |_::_,_,⟨y,yr,e,a,b⟩=>by rw[e];exact⟨y,yr++ys,rfl,a,All2.app hu b⟩
theorem All2.one{v:α}{x:β}(hg:g v x):All2 g [v] [x]:=⟨x,[],rfl,hg,rfl⟩
theorem All2.snoc{v:α}{x:β}(hg:g v x){vs:List α}{xs:List β}(h:All2 g vs xs):All2 g (vs++[v]) (xs++[x]):=All2.app (All2.one hg) h
theorem All2.take:∀(n:Nat) {vs:List α} {xs:List β},All2 g vs xs->All2 g (vs.take n) (xs.take n)
 | 0,_,_,_=>by simp only[List.take_zero];rfl
 |n+1,[],_,e=>by rw[show _=[]from e];rfl
 |n+1,_::_,_,⟨y,yr,e,a,b⟩=>by rw[e];exact⟨y,yr.take n,rfl,a,All2.take n b⟩
theorem All2.drop:∀(n:Nat) {vs:List α} {xs:List β},All2 g vs xs->All2 g (vs.drop n) (xs.drop n)
 | 0,_,_,h=>h
 |n+1,[],_,e=>by rw[show _=[]from e];rfl
 |n+1,_::_,_,⟨y,yr,e,a,b⟩=>by rw[e];exact All2.drop n b
theorem All2.rev:∀{vs:List α} {xs:List β},All2 g vs xs->All2 g vs.reverse xs.reverse
 | [],_,e=>by rw[show _=[]from e];rfl
 |_::_,_,⟨y,yr,e,a,b⟩=>by rw[e,List.reverse_cons,List.reverse_cons];exact All2.snoc a (All2.rev b)
theorem All2.set{v:α}{x:β}(hg:g v x):∀(i:Nat) {vs:List α} {xs:List β},All2 g vs xs->All2 g (vs.set i v) (xs.set i x)
 |_,[],_,e=>by rw[show _=[]from e];rfl
 | 0,_::_,_,⟨y,yr,e,a,b⟩=>by rw[e];exact⟨x,yr,rfl,hg,b⟩
 |i+1,_::_,_,⟨y,yr,e,a,b⟩=>by rw[e];exact⟨y,yr.set i x,rfl,a,All2.set hg i b⟩
end
inductive Dx where
 |non | bl (b:Bool) | int (i:Int) | str (x:Str) | tup (l:List Dx) | lst (l:List Dx) | dic (l:List (Key×Dx)) | scr (K:cZ) (ns:List Int)
 |ins (C:Addr) (fs:List (Str×Dx)) | exc (c:Value)
def xH(a:Addr)(c:Value):Heap->Prop:=λh=>∃o vs,h.get? a=some o/\o.cls=c/\o.data=.fields vs/\o.dict=none
mutual
def IsX(H:Hp):Dx->V->Prop
 | .non,v=>v=.non
 | .bl b,v=>v=.bl b
 | .int i,v=>v=.int i
 | .str x,v=>v=.str x
 | .tup ds,v=>∃a vs,v=.ref a/\H a=some (.tup vs)/\IsXs H ds vs
 | .lst ds,v=>∃a vs,v=.ref a/\H a=some (.lst vs)/\IsXs H ds vs
 | .dic ks,v=>∃a ws,v=.ref a/\Rd H a (.dK ws)/\IsXk H ks ws
 | .scr K ns,v=>∃a,v=.ref a/\SqL K H a (ns.map V.int)
 | .ins C fs,v=>∃a dx ws,v=.ref a/\H a=some (.ins C dx ws)/\IsXf H fs ws
 | .exc c,v=>∃a,v=.ref a/\H a=some (.ext (xH a c))
def IsXs(H:Hp):List Dx->List V->Prop
 | [],vs=>vs=[]
 |d::r,vs=>∃v vr,vs=v::vr/\IsX H d v/\IsXs H r vr
def IsXk(H:Hp):List (Key×Dx)->List (Key×V)->Prop
 | [],ws=>ws=[]
 |k::r,ws=>∃w wr,ws=w::wr/\(k.1=w.1/\IsX H k.2 w.2)/\IsXk H r wr
def IsXf(H:Hp):List (Str×Dx)->List (Str×V)->Prop
 | [],ws=>ws=[]
 |k::r,ws=>∃w wr,ws=w::wr/\(k.1=w.1/\IsX H k.2 w.2)/\IsXf H r wr
end
theorem IsXs.all{H:Hp}:∀{ds:List Dx} {vs:List V},IsXs H ds vs↔All2 (IsX H) ds vs
 | [],vs=>by simp only[IsXs,All2]
 |d::r,vs=>by
  simp only[IsXs,All2]
  constructor
  ·rintro⟨v,vr,e,a,b⟩;exact⟨v,vr,e,a,IsXs.all.mp b⟩
  ·rintro⟨v,vr,e,a,b⟩;exact⟨v,vr,e,a,IsXs.all.mpr b⟩
abbrev KvX(H:Hp)(k:Key×Dx)(w:Key×V):Prop:=k.1=w.1/\IsX H k.2 w.2
theorem IsXk.all{H:Hp}:∀{ds:List (Key×Dx)} {vs:List (Key×V)},IsXk H ds vs↔All2 (KvX H) ds vs
 | [],vs=>by simp only[IsXk,All2]
 |d::r,vs=>by
  simp only[IsXk,All2]
  constructor
  ·rintro⟨v,vr,e,a,b⟩;exact⟨v,vr,e,a,IsXk.all.mp b⟩
  ·rintro⟨v,vr,e,a,b⟩;exact⟨v,vr,e,a,IsXk.all.mpr b⟩
abbrev FvX(H:Hp)(k:Str×Dx)(w:Str×V):Prop:=k.1=w.1/\IsX H k.2 w.2
theorem IsXf.all{H:Hp}:∀{ds:List (Str×Dx)} {vs:List (Str×V)},IsXf H ds vs↔All2 (FvX H) ds vs
 | [],vs=>by simp only[IsXf,All2]
 |d::r,vs=>by
  simp only[IsXf,All2]
  constructor
  ·rintro⟨v,vr,e,a,b⟩;exact⟨v,vr,e,a,IsXf.all.mp b⟩
  ·rintro⟨v,vr,e,a,b⟩;exact⟨v,vr,e,a,IsXf.all.mpr b⟩
def SameF(H H':Hp):Prop:=∀b o,H b=some o->H' b=some o\/∃ob ws,(o=.dK ws/\H' b=some (.frz ob (.dK ws)))\/(o=.frz ob (.dK ws)/\H' b=some (.dK ws))
theorem SameF.of{H H':Hp}(e:Same H H'):SameF H H':=λb o h=>.inl (e _ _ h)
theorem SameF.tup{H H':Hp}(e:SameF H H'){a:Addr}{vs:List V}(h:H a=some (.tup vs)):H' a=some (.tup vs):=by
 rcases e _ _ h with q | ⟨ob,ws,q | q⟩
 ·exact q
 ·cases q.1
 ·cases q.1
theorem SameF.lst{H H':Hp}(e:SameF H H'){a:Addr}{vs:List V}(h:H a=some (.lst vs)):H' a=some (.lst vs):=by
 rcases e _ _ h with q | ⟨ob,ws,q | q⟩
 ·exact q
 ·cases q.1
 ·cases q.1
theorem SameF.dic{H H':Hp}(e:SameF H H'){a:Addr}{ws:List (Key×V)}(h:Rd H a (.dK ws)):Rd H' a (.dK ws):=by
 rcases h with h | ⟨o,h⟩
 ·rcases e _ _ h with q | ⟨ob,ws,q | q⟩
  ·exact .inl q
  ·obtain⟨q1,q2⟩:=q;cases q1;exact .inr ⟨_,q2⟩
  ·cases q.1
 ·rcases e _ _ h with q | ⟨ob,ws,q | q⟩
  ·exact .inr ⟨_,q⟩
  ·cases q.1
  ·obtain⟨q1,q2⟩:=q;cases q1;exact .inl q2
theorem SameF.ins{H H':Hp}(e:SameF H H'){a C dx:Addr}{ws:List (Str×V)}(h:H a=some (.ins C dx ws)):H' a=some (.ins C dx ws):=by
 rcases e _ _ h with q | ⟨ob,ws,q | q⟩
 ·exact q
 ·cases q.1
 ·cases q.1
theorem SameF.ext{H H':Hp}(e:SameF H H'){a:Addr}{φ:Heap->Prop}(h:H a=some (.ext φ)):H' a=some (.ext φ):=by
 rcases e _ _ h with q | ⟨ob,ws,q | q⟩
 ·exact q
 ·cases q.1
 ·cases q.1
theorem SameF.sq{H H':Hp}(e:SameF H H'){K:cZ}{a:Addr}{xs:List V}(h:SqL K H a xs):SqL K H' a xs:=by
 rcases h with(h | ⟨o,h⟩) | h
 ·exact .inl (.inl (e.lst h))
 ·rcases e _ _ h with q | ⟨ob,ws,q | q⟩
  ·exact .inl (.inr ⟨o,q⟩)
  ·cases q.1
  ·cases q.1
 ·exact .inr h
mutual
theorem IsX.sameF{H H':Hp}(e:SameF H H'):∀(d:Dx) (v:V),IsX H d v->IsX H' d v
 | .non,v,h=>by simpa only[IsX]using h
 | .bl _,v,h=>by simpa only[IsX]using h
 | .int _,v,h=>by simpa only[IsX]using h
 | .str _,v,h=>by simpa only[IsX]using h
 | .tup ds,v,h=>by
  simp only[IsX]at h ⊢
  obtain⟨a,vs,h1,h2,h3⟩:=h
  exact⟨a,vs,h1,e.tup h2,IsXs.sameF e ds vs h3⟩
 | .lst ds,v,h=>by
  simp only[IsX]at h ⊢
  obtain⟨a,vs,h1,h2,h3⟩:=h
  exact⟨a,vs,h1,e.lst h2,IsXs.sameF e ds vs h3⟩
 | .dic ks,v,h=>by
  simp only[IsX]at h ⊢
  obtain⟨a,ws,h1,h2,h3⟩:=h
  exact⟨a,ws,h1,e.dic h2,IsXk.sameF e ks ws h3⟩
 | .scr K ns,v,h=>by
  simp only[IsX]at h ⊢
  obtain⟨a,h1,h2⟩:=h
  exact⟨a,h1,e.sq h2⟩
 | .ins C fs,v,h=>by
  simp only[IsX]at h ⊢
  obtain⟨a,dx,ws,h1,h2,h3⟩:=h
  exact⟨a,dx,ws,h1,e.ins h2,IsXf.sameF e fs ws h3⟩
 | .exc c,v,h=>by
  simp only[IsX]at h ⊢
  obtain⟨a,h1,h2⟩:=h
  exact⟨a,h1,e.ext h2⟩
theorem IsXs.sameF{H H':Hp}(e:SameF H H'):∀(ds:List Dx) (vs:List V),IsXs H ds vs->IsXs H' ds vs
 | [],vs,h=>by simpa only[IsXs]using h
 |d::r,vs,h=>by
  simp only[IsXs]at h ⊢
  obtain⟨v,vr,h1,h2,h3⟩:=h
  exact⟨v,vr,h1,IsX.sameF e d v h2,IsXs.sameF e r vr h3⟩
theorem IsXk.sameF{H H':Hp}(e:SameF H H'):∀(ds:List (Key×Dx)) (ws:List (Key×V)),IsXk H ds ws->IsXk H' ds ws
 | [],vs,h=>by simpa only[IsXk]using h
 |d::r,vs,h=>by
  simp only[IsXk]at h ⊢
  obtain⟨v,vr,h1,h2,h3⟩:=h
  exact⟨v,vr,h1,⟨h2.1,IsX.sameF e d.2 v.2 h2.2⟩,IsXk.sameF e r vr h3⟩
theorem IsXf.sameF{H H':Hp}(e:SameF H H'):∀(ds:List (Str×Dx)) (ws:List (Str×V)),IsXf H ds ws->IsXf H' ds ws
 | [],vs,h=>by simpa only[IsXf]using h
 |d::r,vs,h=>by
  simp only[IsXf]at h ⊢
  obtain⟨v,vr,h1,h2,h3⟩:=h
  exact⟨v,vr,h1,⟨h2.1,IsX.sameF e d.2 v.2 h2.2⟩,IsXf.sameF e r vr h3⟩
end
theorem IsX.toF{H H':Hp}{d:Dx}{v:V}(h:IsX H d v)(e:SameF H H'):IsX H' d v:=IsX.sameF e d v h
theorem IsX.to{H H':Hp}{d:Dx}{v:V}(h:IsX H d v)(e:Same H H'):IsX H' d v:=IsX.sameF (.of e) d v h
theorem IsX.int_eq{H:Hp}{i:Int}{v:V}(h:IsX H (.int i) v):v=.int i:=by simpa only[IsX]using h
theorem IsX.bl_eq{H:Hp}{i:Bool}{v:V}(h:IsX H (.bl i) v):v=.bl i:=by simpa only[IsX]using h
theorem IsX.str_eq{H:Hp}{i:Str}{v:V}(h:IsX H (.str i) v):v=.str i:=by simpa only[IsX]using h
theorem IsX.non_eq{H:Hp}{v:V}(h:IsX H .non v):v=.non:=by simpa only[IsX]using h
theorem IsX.tup_eq{H:Hp}{l:List Dx}{v:V}(h:IsX H (.tup l) v):∃a vs,v=.ref a/\H a=some (.tup vs)/\All2 (IsX H) l vs:=by
 simp only[IsX]at h
 obtain⟨a,vs,h1,h2,h3⟩:=h
 exact⟨a,vs,h1,h2,IsXs.all.mp h3⟩
theorem IsX.lst_eq{H:Hp}{l:List Dx}{v:V}(h:IsX H (.lst l) v):∃a vs,v=.ref a/\H a=some (.lst vs)/\All2 (IsX H) l vs:=by
 simp only[IsX]at h
 obtain⟨a,vs,h1,h2,h3⟩:=h
 exact⟨a,vs,h1,h2,IsXs.all.mp h3⟩
theorem IsX.dic_eq{H:Hp}{l:List (Key×Dx)}{v:V}(h:IsX H (.dic l) v):∃a ws,v=.ref a/\Rd H a (.dK ws)/\All2 (KvX H) l ws:=by
 simp only[IsX]at h
 obtain⟨a,vs,h1,h2,h3⟩:=h
 exact⟨a,vs,h1,h2,IsXk.all.mp h3⟩
theorem IsX.scr_eq{H:Hp}{K:cZ}{ns:List Int}{v:V}(h:IsX H (.scr K ns) v):∃a,v=.ref a/\SqL K H a (ns.map V.int):=by simpa only[IsX]using h
theorem IsX.of_scr{H:Hp}{K:cZ}{ns:List Int}{a:Addr}(h:SqL K H a (ns.map V.int)):IsX H (.scr K ns) (.ref a):=by simp only[IsX];exact⟨a,rfl,h⟩
theorem IsX.ins_eq{H:Hp}{C:Addr}{fs:List (Str×Dx)}{v:V}(h:IsX H (.ins C fs) v):∃a dx ws,v=.ref a/\H a=some (.ins C dx ws)/\All2 (FvX H) fs ws:=by
 simp only[IsX]at h
 obtain⟨a,dx,ws,h1,h2,h3⟩:=h
 exact⟨a,dx,ws,h1,h2,IsXf.all.mp h3⟩
theorem IsX.exc_eq{H:Hp}{c:Value}{v:V}(h:IsX H (.exc c) v):∃a,v=.ref a/\H a=some (.ext (xH a c)):=by simpa only[IsX]using h
theorem IsX.of_ins{H:Hp}{C a dx:Addr}{fs:List (Str×Dx)}{ws:List (Str×V)}(h:H a=some (.ins C dx ws))(h':All2 (FvX H) fs ws):IsX H (.ins C fs) (.ref a):=by simp only[IsX];exact⟨a,dx,ws,rfl,h,IsXf.all.mpr h'⟩
theorem IsX.of_exc{H:Hp}{c:Value}{a:Addr}(h:H a=some (.ext (xH a c))):IsX H (.exc c) (.ref a):=by simp only[IsX];exact⟨a,rfl,h⟩
theorem IsX.of_int{H:Hp}(i:Int):IsX H (.int i) (.int i):=by simp only[IsX]
theorem IsX.of_bl{H:Hp}(i:Bool):IsX H (.bl i) (.bl i):=by simp only[IsX]
theorem IsX.of_str{H:Hp}(i:Str):IsX H (.str i) (.str i):=by simp only[IsX]
theorem IsX.of_non{H:Hp}:IsX H .non .non:=by simp only[IsX]
theorem IsX.of_tup{H:Hp}{l:List Dx}{a:Addr}{vs:List V}(h:H a=some (.tup vs))(h':All2 (IsX H) l vs):IsX H (.tup l) (.ref a):=by simp only[IsX];exact⟨a,vs,rfl,h,IsXs.all.mpr h'⟩
theorem IsX.of_lst{H:Hp}{l:List Dx}{a:Addr}{vs:List V}(h:H a=some (.lst vs))(h':All2 (IsX H) l vs):IsX H (.lst l) (.ref a):=by simp only[IsX];exact⟨a,vs,rfl,h,IsXs.all.mpr h'⟩
theorem IsX.of_dic{H:Hp}{l:List (Key×Dx)}{a:Addr}{vs:List (Key×V)}(h:Rd H a (.dK vs))(h':All2 (KvX H) l vs):IsX H (.dic l) (.ref a):=by simp only[IsX];exact⟨a,vs,rfl,h,IsXk.all.mpr h'⟩
inductive Ow where
 |tr (d:Dx) | ol (a:Addr) (l:List Ow) | od (a:Addr) (l:List (Key×Ow)) | oi (C a dx:Addr) (l:List (Str×Ow)) | ot (l:List Ow)
mutual
def Ow.d:Ow->Dx
 | .tr d=>d
 | .ol _ l=>.lst (kF l)
 | .od _ l=>.dic (iZ l)
 | .oi C _ _ l=>.ins C (aEo l)
 | .ot l=>.tup (kF l)
def kF:List Ow->List Dx
 | []=>[]
 |o::r=>o.d::kF r
def iZ:List (Key×Ow)->List (Key×Dx)
 | []=>[]
 |o::r=>(o.1,o.2.d)::iZ r
def aEo:List (Str×Ow)->List (Str×Dx)
 | []=>[]
 |o::r=>(o.1,o.2.d)::aEo r
end
mutual
def Ow.fp:Ow->List Addr
 | .tr _=>[]
 | .ol a l=>a::gZ l
 | .od a l=>a::iP l
 | .oi _ a dx l=>a::dx::kD l
 | .ot l=>gZ l
def gZ:List Ow->List Addr
 | []=>[]
 |o::r=>o.fp++gZ r
def iP:List (Key×Ow)->List Addr
 | []=>[]
 |o::r=>o.2.fp++iP r
def kD:List (Str×Ow)->List Addr
 | []=>[]
 |o::r=>o.2.fp++kD r
end
mutual
def OwOk(G H:Hp):Ow->V->Prop
 | .tr d,v=>IsX G d v
 | .ol a l,v=>v=.ref a/\∃vs,H a=some (.lst vs)/\OwOks G H l vs
 | .od a l,v=>v=.ref a/\∃ws,H a=some (.dK ws)/\OwOkk G H l ws
 | .oi C a dx l,v=>v=.ref a/\∃ws,H a=some (.ins C dx ws)/\H dx=some (.own a)/\OwOkf G H l ws
 | .ot l,v=>∃a vs,v=.ref a/\G a=some (.tup vs)/\OwOks G H l vs
def OwOks(G H:Hp):List Ow->List V->Prop
 | [],vs=>vs=[]
 |o::r,vs=>∃v vr,vs=v::vr/\OwOk G H o v/\OwOks G H r vr
def OwOkk(G H:Hp):List (Key×Ow)->List (Key×V)->Prop
 | [],vs=>vs=[]
 |o::r,vs=>∃v vr,vs=v::vr/\(o.1=v.1/\OwOk G H o.2 v.2)/\OwOkk G H r vr
def OwOkf(G H:Hp):List (Str×Ow)->List (Str×V)->Prop
 | [],vs=>vs=[]
 |o::r,vs=>∃v vr,vs=v::vr/\(o.1=v.1/\OwOk G H o.2 v.2)/\OwOkf G H r vr
end
section
variable{G G' H H':Hp}
mutual
theorem OwOk.mono(e:SameF G G'):∀(o:Ow) (v:V),(∀b∈o.fp,H' b=H b)->OwOk G H o v->OwOk G' H' o v
 | .tr d,v,_,h=>by simp only[OwOk]at h ⊢;exact h.toF e
 | .ol a l,v,k,h=>by
  simp only[OwOk,Ow.fp]at h k ⊢
  obtain⟨h1,vs,h2,h3⟩:=h
  exact⟨h1,vs,by rw[k a aA];exact h2,OwOks.mono e l vs (λb hb=>k b (aC _ hb)) h3⟩
 | .od a l,v,k,h=>by
  simp only[OwOk,Ow.fp]at h k ⊢
  obtain⟨h1,vs,h2,h3⟩:=h
  exact⟨h1,vs,by rw[k a aA];exact h2,OwOkk.mono e l vs (λb hb=>k b (aC _ hb)) h3⟩
 | .oi C a dx l,v,k,h=>by
  simp only[OwOk,Ow.fp]at h k ⊢
  obtain⟨h1,vs,h2,h4,h3⟩:=h
  exact⟨h1,vs,by rw[k a aA];exact h2,by rw[k dx (aC _ aA)];exact h4,OwOkf.mono e l vs (λb hb=>k b (aC _ (aC _ hb))) h3⟩
 | .ot l,v,k,h=>by
  simp only[OwOk,Ow.fp]at h k ⊢
  obtain⟨a,vs,h1,h2,h3⟩:=h
  exact⟨a,vs,h1,e.tup h2,OwOks.mono e l vs k h3⟩
theorem OwOks.mono(e:SameF G G'):∀(l:List Ow) (vs:List V),(∀b∈gZ l,H' b=H b)->OwOks G H l vs->OwOks G' H' l vs
 | [],vs,_,h=>by simpa only[OwOks]using h
 |o::r,vs,k,h=>by
  simp only[OwOks,gZ]at h k ⊢
  obtain⟨v,vr,h1,h2,h3⟩:=h
  exact⟨v,vr,h1,OwOk.mono e o v (λb hb=>k b (aK _ hb)) h2,OwOks.mono e r vr (λb hb=>k b (aE _ hb)) h3⟩
theorem OwOkk.mono(e:SameF G G'):∀(l:List (Key×Ow)) (vs:List (Key×V)),(∀b∈iP l,H' b=H b)->OwOkk G H l vs->OwOkk G' H' l vs
 | [],vs,_,h=>by simpa only[OwOkk]using h
 |o::r,vs,k,h=>by
  simp only[OwOkk,iP]at h k ⊢
  obtain⟨v,vr,h1,h2,h3⟩:=h
  exact⟨v,vr,h1,⟨h2.1,OwOk.mono e o.2 v.2 (λb hb=>k b (aK _ hb)) h2.2⟩,OwOkk.mono e r vr (λb hb=>k b (aE _ hb)) h3⟩
theorem OwOkf.mono(e:SameF G G'):∀(l:List (Str×Ow)) (vs:List (Str×V)),(∀b∈kD l,H' b=H b)->OwOkf G H l vs->OwOkf G' H' l vs
 | [],vs,_,h=>by simpa only[OwOkf]using h
 |o::r,vs,k,h=>by
  simp only[OwOkf,kD]at h k ⊢
  obtain⟨v,vr,h1,h2,h3⟩:=h
  exact⟨v,vr,h1,⟨h2.1,OwOk.mono e o.2 v.2 (λb hb=>k b (aK _ hb)) h2.2⟩,OwOkf.mono e r vr (λb hb=>k b (aE _ hb)) h3⟩
end
def aMy(H:Hp)(b:Addr):Prop:=∃o,H b=some o/\∀ob u,o ≠ .frz ob u
mutual
theorem OwOk.there:∀(o:Ow) (v:V),OwOk G H o v->∀b∈o.fp,aMy H b
 | .tr d,v,_,b,hb=>by simp only[Ow.fp]at hb;cases hb
 | .ol a l,v,h,b,hb=>by
  simp only[OwOk,Ow.fp]at h hb
  obtain⟨h1,vs,h2,h3⟩:=h
  rcases aF.mp hb with rfl | hb
  ·exact⟨_,h2,λ_ _ z=>nomatch z⟩
  ·exact OwOks.there l vs h3 b hb
 | .od a l,v,h,b,hb=>by
  simp only[OwOk,Ow.fp]at h hb
  obtain⟨h1,vs,h2,h3⟩:=h
  rcases aF.mp hb with rfl | hb
  ·exact⟨_,h2,λ_ _ z=>nomatch z⟩
  ·exact OwOkk.there l vs h3 b hb
 | .oi C a dx l,v,h,b,hb=>by
  simp only[OwOk,Ow.fp]at h hb
  obtain⟨h1,vs,h2,h4,h3⟩:=h
  rcases aF.mp hb with rfl | hb
  ·exact⟨_,h2,λ_ _ z=>nomatch z⟩
  ·rcases aF.mp hb with rfl | hb
   ·exact⟨_,h4,λ_ _ z=>nomatch z⟩
   ·exact OwOkf.there l vs h3 b hb
 | .ot l,v,h,b,hb=>by
  simp only[OwOk,Ow.fp]at h hb
  obtain⟨a,vs,h1,h2,h3⟩:=h
  exact OwOks.there l vs h3 b hb
theorem OwOks.there:∀(l:List Ow) (vs:List V),OwOks G H l vs->∀b∈gZ l,aMy H b
 | [],vs,_,b,hb=>by simp only[gZ]at hb;cases hb
 |o::r,vs,h,b,hb=>by
  simp only[OwOks,gZ]at h hb
  obtain⟨v,vr,h1,h2,h3⟩:=h
  rcases bF.mp hb with hb | hb
  ·exact OwOk.there o v h2 b hb
  ·exact OwOks.there r vr h3 b hb
theorem OwOkk.there:∀(l:List (Key×Ow)) (vs:List (Key×V)),OwOkk G H l vs->∀b∈iP l,aMy H b
 | [],vs,_,b,hb=>by simp only[iP]at hb;cases hb
 |o::r,vs,h,b,hb=>by
  simp only[OwOkk,iP]at h hb
  obtain⟨v,vr,h1,h2,h3⟩:=h
  rcases bF.mp hb with hb | hb
  ·exact OwOk.there o.2 v.2 h2.2 b hb
  ·exact OwOkk.there r vr h3 b hb
theorem OwOkf.there:∀(l:List (Str×Ow)) (vs:List (Str×V)),OwOkf G H l vs->∀b∈kD l,aMy H b
 | [],vs,_,b,hb=>by simp only[kD]at hb;cases hb
 |o::r,vs,h,b,hb=>by
  simp only[OwOkf,kD]at h hb
  obtain⟨v,vr,h1,h2,h3⟩:=h
  rcases bF.mp hb with hb | hb
  ·exact OwOk.there o.2 v.2 h2.2 b hb
  ·exact OwOkf.there r vr h3 b hb
end
mutual
theorem OwOk.tree(e:SameF G G'):∀(o:Ow) (v:V),(∀b∈o.fp,G' b=H b)->OwOk G H o v->IsX G' o.d v
 | .tr d,v,_,h=>by simp only[OwOk,Ow.d]at h ⊢;exact h.toF e
 | .ol a l,v,k,h=>by
  simp only[OwOk,Ow.fp,Ow.d]at h k ⊢
  obtain⟨h1,vs,h2,h3⟩:=h
  subst h1
  exact IsX.of_lst (by rw[k a aA];exact h2) (OwOks.tree e l vs (λb hb=>k b (aC _ hb)) h3)
 | .od a l,v,k,h=>by
  simp only[OwOk,Ow.fp,Ow.d]at h k ⊢
  obtain⟨h1,vs,h2,h3⟩:=h
  subst h1
  exact IsX.of_dic (.inl (by rw[k a aA];exact h2)) (OwOkk.tree e l vs (λb hb=>k b (aC _ hb)) h3)
 | .oi C a dx l,v,k,h=>by
  simp only[OwOk,Ow.fp,Ow.d]at h k ⊢
  obtain⟨h1,vs,h2,h4,h3⟩:=h
  subst h1
  exact IsX.of_ins (by rw[k a aA];exact h2) (OwOkf.tree e l vs (λb hb=>k b (aC _ (aC _ hb))) h3)
 | .ot l,v,k,h=>by
  simp only[OwOk,Ow.fp,Ow.d]at h k ⊢
  obtain⟨a,vs,h1,h2,h3⟩:=h
  subst h1
  exact IsX.of_tup (e.tup h2) (OwOks.tree e l vs k h3)
theorem OwOks.tree(e:SameF G G'):∀(l:List Ow) (vs:List V),(∀b∈gZ l,G' b=H b)->OwOks G H l vs->All2 (IsX G') (kF l) vs
 | [],vs,_,h=>by simpa only[OwOks,kF,All2]using h
 |o::r,vs,k,h=>by
  simp only[OwOks,gZ,kF]at h k ⊢
  obtain⟨v,vr,h1,h2,h3⟩:=h
  exact⟨v,vr,h1,OwOk.tree e o v (λb hb=>k b (aK _ hb)) h2,OwOks.tree e r vr (λb hb=>k b (aE _ hb)) h3⟩
theorem OwOkk.tree(e:SameF G G'):∀(l:List (Key×Ow)) (vs:List (Key×V)),(∀b∈iP l,G' b=H b)->OwOkk G H l vs->All2 (KvX G') (iZ l) vs
 | [],vs,_,h=>by simpa only[OwOkk,iZ,All2]using h
 |o::r,vs,k,h=>by
  simp only[OwOkk,iP,iZ]at h k ⊢
  obtain⟨v,vr,h1,h2,h3⟩:=h
  exact⟨v,vr,h1,⟨h2.1,OwOk.tree e o.2 v.2 (λb hb=>k b (aK _ hb)) h2.2⟩,OwOkk.tree e r vr (λb hb=>k b (aE _ hb)) h3⟩
theorem OwOkf.tree(e:SameF G G'):∀(l:List (Str×Ow)) (vs:List (Str×V)),(∀b∈kD l,G' b=H b)->OwOkf G H l vs->All2 (FvX G') (aEo l) vs
 | [],vs,_,h=>by simpa only[OwOkf,aEo,All2]using h
 |o::r,vs,k,h=>by
  simp only[OwOkf,kD,aEo]at h k ⊢
  obtain⟨v,vr,h1,h2,h3⟩:=h
  exact⟨v,vr,h1,⟨h2.1,OwOk.tree e o.2 v.2 (λb hb=>k b (aK _ hb)) h2.2⟩,OwOkf.tree e r vr (λb hb=>k b (aE _ hb)) h3⟩
end
end
inductive Sv where
 |tr (d:Dx) | ol (l:List Dx) | od (l:List (Key×Dx)) | ow (o:Ow)
def Sv.d:Sv->Dx
 | .tr d=>d
 | .ol l=>.lst l
 | .od l=>.dic l
 | .ow o=>o.d
inductive Sl where
 |un | v (s:Sv) | bw (l:List Dx) | bo (o:Ow) | pn (v:V)
abbrev vT(d:Dx):Sl:=.v (.tr d)
abbrev Rw:=Sl×Option V
def dI:Rw->List Addr
 |(.v (.ol _),some (.ref a))=>[a]
 |(.v (.od _),some (.ref a))=>[a]
 |(.bw _,some (.ref a))=>[a]
 |(.v (.ow o),_)=>o.fp
 |(.bo o,_)=>o.fp
 |_=>[]
def bJ(P:List Rw):List Addr:=P.flatMap dI
def hid(O:List Addr)(H:Hp):Hp:=λb=>if b∈O then none else H b
theorem aU{O:List Addr}{H:Hp}{b:Addr}{o:HO}:hid O H b=some o↔b∉O/\H b=some o:=by
 unfold hid
 by_cases h:b∈O
 ·rw[if_pos h];simp[h]
 ·rw[if_neg h];simp[h]
theorem pF{O:List Addr}{H H':Hp}(e:Same H H'):Same (hid O H) (hid O H'):=λb o h=>aU.mpr ⟨(aU.mp h).1,e _ _ (aU.mp h).2⟩
theorem kW{O O':List Addr}{H:Hp}(e:∀a∈O',a∈O):Same (hid O H) (hid O' H):=λb o h=>aU.mpr ⟨λz=>(aU.mp h).1 (e _ z),(aU.mp h).2⟩
theorem uR{O:List Addr}{H:Hp}:Same (hid O H) H:=λb o h=>(aU.mp h).2
def nf:Option HO->Option HO
 |some (.frz _ _)=>none
 |o=>o
theorem mQ{x:Option HO}{o:HO}(h:nf x=some o):x=some o:=by
 unfold nf at h
 split at h
 ·cases h
 ·exact h
theorem mS{x y:Option HO}{o:HO}(h:nf x=some o)(e:∀o,x=some o->y=some o):nf y=some o:=by
 have hx:=mQ h
 rw[hx]at h
 rw[e o hx]
 exact h
def ext(Hs H0 H:Hp):Hp:=λb=>match H0 b with | none=>nf (H b) | some _=>Hs b
theorem kH{Hs H0 H:Hp}{b:Addr}(h:H0 b=none):ext Hs H0 H b=nf (H b):=by unfold ext;rw[h]
theorem jH{Hs H0 H:Hp}{b:Addr}{o:HO}(h:H0 b=some o):ext Hs H0 H b=Hs b:=by unfold ext;rw[h]
theorem ge_{Hs H0 H H':Hp}(e:Same H H'):Same (ext Hs H0 H) (ext Hs H0 H'):=λb o h=>by
 cases q:H0 b with
 |none=>rw[kH q]at h ⊢;exact mS h (e b)
 |some u=>rw[jH q]at h ⊢;exact h
def RowOk(O:List Addr)(G H:Hp):Rw->Prop
 |(.un,_)=>True
 |(.pn w,v)=>v=some w
 |(.v (.tr d),v)=>∃x,v=some x/\IsX (hid O G) d x
 |(.v (.ol l),v)=>∃a vs,v=some (.ref a)/\H a=some (.lst vs)/\All2 (IsX (hid O G)) l vs
 |(.v (.od l),v)=>∃a ws,v=some (.ref a)/\H a=some (.dK ws)/\All2 (KvX (hid O G)) l ws
 |(.bw l,v)=>∃a vs,v=some (.ref a)/\H a=some (.lst vs)/\All2 (IsX (hid O G)) l vs
 |(.v (.ow o),v)=>∃x,v=some x/\OwOk (hid O G) H o x
 |(.bo o,v)=>∃x,v=some x/\OwOk (hid O G) H o x
theorem KvX.toF{H H':Hp}{k:Key×Dx}{w:Key×V}(h:KvX H k w)(e:SameF H H'):KvX H' k w:=⟨h.1,h.2.toF e⟩
theorem KvX.to{H H':Hp}{k:Key×Dx}{w:Key×V}(h:KvX H k w)(e:Same H H'):KvX H' k w:=⟨h.1,h.2.to e⟩
theorem RowOk.mono{O O':List Addr}{G G' H H':Hp}{r:Rw}(h:RowOk O G H r)(e:SameF (hid O G) (hid O' G'))(ho:∀a∈dI r,H' a=H a):RowOk O' G' H' r:=by
 match r,h,ho with
 |(.un,_),_,_=>trivial
 |(.pn w,v),h,_=>exact h
 |(.v (.tr d),v),⟨x,h1,h2⟩,_=>exact⟨x,h1,h2.toF e⟩
 |(.v (.ol l),v),⟨a,vs,h1,h2,h3⟩,ho =>
  subst h1
  exact⟨a,vs,rfl,by rw[ho a (aI.mpr rfl)];exact h2,h3.imp λ_ _ z=>z.toF e⟩
 |(.v (.od l),v),⟨a,vs,h1,h2,h3⟩,ho =>
  subst h1
  exact⟨a,vs,rfl,by rw[ho a (aI.mpr rfl)];exact h2,h3.imp λ_ _ z=>z.toF e⟩
 |(.bw l,v),⟨a,vs,h1,h2,h3⟩,ho =>
  subst h1
  exact⟨a,vs,rfl,by rw[ho a (aI.mpr rfl)];exact h2,h3.imp λ_ _ z=>z.toF e⟩
 |(.v (.ow o),v),⟨x,h1,h2⟩,ho=>exact⟨x,h1,OwOk.mono e o x ho h2⟩
 |(.bo o,v),⟨x,h1,h2⟩,ho=>exact⟨x,h1,OwOk.mono e o x ho h2⟩
structure Fm where
 H0:Hp
 Hs:Hp
 B:List Addr
 sub:Same Hs H0
 nb:∀b∈B,Hs b=none
 ib:∀b∈B,∃o,H0 b=some o
abbrev Fm.vis(F:Fm)(H:Hp):Hp:=ext F.Hs F.H0 H
def FrOk(F:Fm)(r:Rw)(a:Addr):Prop:=match r.1 with
 | .bw _=>a∈F.B
 | .bo _=>a∈F.B\/F.H0 a=none
 |_=>F.H0 a=none
theorem FrOk.or{F:Fm}{r:Rw}{a:Addr}(h:FrOk F r a):a∈F.B\/F.H0 a=none:=by
 unfold FrOk at h
 split at h
 ·exact .inl h
 ·exact h
 ·exact .inr h
structure Rep(F:Fm)(P:List Rw)(H:Hp):Prop where
 nd:(bJ P).Nodup
 ok:∀r∈P,RowOk (bJ P) (F.vis H) H r
 fr:∀r∈P,∀a∈dI r,FrOk F r a
 kp:∀b o,F.H0 b=some o->b∉F.B->H b=some o
 lv:∀b∈F.B,∃o,H b=some o
section
variable{F:Fm}{P P':List Rw}{H H':Hp}{r r':Rw}{d:Dx}{v:V}{a p:Addr}{l l':List Dx}{vs vs':List V}{k k':List (Key×Dx)}{ws ws':List (Key×V)}{s:Sv}{x:Option V}
theorem jK:bJ (r::P)=dI r++bJ P:=by
 unfold bJ
 rw[List.flatMap_cons]
theorem xX:bJ (P++P')=bJ P++bJ P':=by
 unfold bJ
 rw[gQ]
theorem iO(h:dI r=[a]):bJ (r::P)=a::bJ P:=by rw[jK,h];rfl
theorem ev_(h:dI r=[]):bJ (r::P)=bJ P:=by rw[jK,h];rfl
theorem v5(h:P.Perm P'):(bJ P).Perm (bJ P'):=h.flatMap_right _
theorem Rep.vis(R:Rep F P H):Same (F.vis H) H:=λb o h=>by
 cases q:F.H0 b with
 |none=>exact mQ ((kH q).symm.trans h)
 |some u =>
  have h:=(jH q).symm.trans h
  have:=F.sub _ _ h
  exact R.kp b o this λz=>by rw[F.nb b z]at h;cases h
theorem Rep.hv(R:Rep F P H){O:List Addr}:Same (hid O (F.vis H)) H:=λb o h=>R.vis b o (aU.mp h).2
theorem Rep.fresh(R:Rep F P H)(hp:H p=none):F.H0 p=none:=by
 cases q:F.H0 p with
 |none=>rfl
 |some o =>
  by_cases hB:p∈F.B
  ·obtain⟨u,hu⟩:=R.lv p hB;rw[hp]at hu;cases hu
  ·rw[R.kp p o q hB]at hp;cases hp
theorem Rep.perm(R:Rep F P H)(h:P.Perm P'):Rep F P' H:=by
 have hp:(bJ P).Perm (bJ P'):=v5 h
 exact⟨hp.nodup_iff.mp R.nd,λr hr=>(R.ok r (h.mem_iff.mpr hr)).mono (.of (kW λa ha=>hp.mem_iff.mpr ha)) λ_ _=>rfl,λr hr=>R.fr r (h.mem_iff.mpr hr),R.kp,R.lv⟩
theorem Rep.tail(R:Rep F (r::P) H):Rep F P H:=by
 have hs:∀a∈bJ P,a∈bJ (r::P):=λa ha=>by rw[jK];exact aE _ ha
 refine⟨?_,λx hx=>(R.ok x (aC _ hx)).mono (.of (kW hs)) λ_ _=>rfl,λx hx=>R.fr x (aC _ hx),R.kp,R.lv⟩
 have:=R.nd
 rw[jK]at this
 exact(cA.mp this).2.1
theorem cw_(h:r∈P)(e:a∈dI r):a∈bJ P:=fQ.mpr ⟨r,h,e⟩
theorem aXy{α:Type}{x:α}{l:List α}(h:l=[x]):x∈l:=by rw[h];exact aI.mpr rfl
theorem eq1{α:Type}{x y:α}{l:List α}(h:l=[x])(hy:y∈l):y=x:=by rw[h]at hy;exact aI.mp hy
theorem Rep.own_in(R:Rep F P H)(h:a∈bJ P):∃o,H a=some o:=by
 obtain⟨⟨sl,v⟩,hr,e⟩:=fQ.mp h
 have t:=R.ok (sl,v) hr
 cases sl with
 |v s =>
  cases s with
  |tr d=>exact absurd (show a∈([]:List Addr)from e) bY
  |ol l =>
   obtain⟨c,vs,h1,h2,_⟩:=t
   cases h1
   rw[aI.mp (show a∈[c]from e)]
   exact⟨_,h2⟩
  |od l =>
   obtain⟨c,vs,h1,h2,_⟩:=t
   cases h1
   rw[aI.mp (show a∈[c]from e)]
   exact⟨_,h2⟩
  |ow o =>
   obtain⟨x,h1,h2⟩:=t
   obtain⟨u,hu,_⟩:=OwOk.there o x h2 a e
   exact⟨u,hu⟩
 |bw l =>
  obtain⟨c,vs,h1,h2,_⟩:=t
  cases h1
  rw[aI.mp (show a∈[c]from e)]
  exact⟨_,h2⟩
 |bo o =>
  obtain⟨x,h1,h2⟩:=t
  obtain⟨u,hu,_⟩:=OwOk.there o x h2 a e
  exact⟨u,hu⟩
 |un=>exact absurd (show a∈([]:List Addr)from e) bY
 |pn _=>exact absurd (show a∈([]:List Addr)from e) bY
theorem Rep.not_own(R:Rep F P H)(hp:H p=none):p∉bJ P:=λz=>by
 obtain⟨o,ho⟩:=R.own_in z
 rw[hp]at ho
 cases ho
theorem Rep.grow(R:Rep F P H)(e:Same H H'):Rep F P H':=by
 refine⟨R.nd,λr hr=>(R.ok r hr).mono (.of (pF (ge_ e))) λa ha=>?_,R.fr,λb o h1 h2=>e _ _ (R.kp b o h1 h2),λb hb=>?_⟩
 ·obtain ⟨o,ho⟩:=R.own_in (cw_ hr ha)
  rw[ho,e _ _ ho]
 ·obtain ⟨o,ho⟩:=R.lv b hb
  exact⟨o,e _ _ ho⟩
theorem Rep.cons0(R:Rep F P H)(ho:dI r=[])(h:RowOk (bJ P) (F.vis H) H r):Rep F (r::P) H:=by
 refine⟨by rw[ev_ ho];exact R.nd,λx hx=>?_,λx hx a ha=>?_,R.kp,R.lv⟩
 ·rw [ev_ ho]
  rcases aF.mp hx with rfl | hx
  ·exact h
  ·exact R.ok x hx
 ·rcases aF.mp hx with rfl | hx
  ·rw[ho]at ha;cases ha
  ·exact R.fr x hx a ha
theorem Rep.add(R:Rep F P H)(h:IsX (hid (bJ P) (F.vis H)) d v):Rep F ((vT d,some v)::P) H:=R.cons0 rfl ⟨v,rfl,h⟩
theorem Rep.addU(R:Rep F P H):Rep F ((.un,x)::P) H:=R.cons0 rfl trivial
theorem Rep.head(R:Rep F ((.v s,x)::P) H):∃v,x=some v/\IsX (hid (bJ P) (F.vis H)) s.d v:=by
 have h:=R.ok _ aA
 have hs:∀a∈bJ P,a∈bJ ((.v s,x)::P):=λa ha=>by rw[jK];exact aE _ ha
 have hn:=R.nd
 have hf:=R.fr _ aA
 match s,h with
 | .tr d,⟨v,h1,h2⟩=>exact⟨v,h1,h2.to (kW hs)⟩
 | .ol l,⟨a,vs,h1,h2,h3⟩ =>
  subst h1
  have q:F.H0 a=none:=hf a (aI.mpr rfl)
  rw[iO (a:=a) rfl]at hn
  exact⟨.ref a,rfl,IsX.of_lst (vs:=vs) (aU.mpr ⟨(cE.mp hn).1,(kH q).trans (by rw[h2];rfl)⟩) (h3.imp λ_ _ z=>z.to (kW hs))⟩
 | .od l,⟨a,vs,h1,h2,h3⟩ =>
  subst h1
  have q:F.H0 a=none:=hf a (aI.mpr rfl)
  rw[iO (a:=a) rfl]at hn
  exact⟨.ref a,rfl,IsX.of_dic (vs:=vs) (.inl (aU.mpr ⟨(cE.mp hn).1,(kH q).trans (by rw[h2];rfl)⟩)) (h3.imp λ_ _ z=>z.to (kW hs))⟩
 | .ow o,⟨v,h1,h2⟩ =>
  refine⟨v,h1,OwOk.tree (.of (kW hs)) o v (λb hb=>?_) h2⟩
  have q:F.H0 b=none:=hf b hb
  obtain⟨u,hu,Dc⟩:=OwOk.there o v h2 b hb
  rw[jK]at hn
  have Fk:b∉bJ P:=λz=>(cA.mp hn).2.2 b hb b z rfl
  rw[hu]
  refine aU.mpr ⟨Fk,(kH q).trans ?_⟩
  rw[hu]
  unfold nf
  split
  ·rename_i e;cases e;exact absurd rfl (Dc _ _)
  ·rfl
theorem Rep.frz(R:Rep F ((.v s,x)::P) H):Rep F ((vT s.d,x)::P) H:=by
 obtain⟨v,rfl,h⟩:=R.head
 exact R.tail.add h
theorem ji_{O:List Addr}{Hs H0:Hp}(hp:H p=none){o:HO}(hq:H0 p=none):Same (hid O (ext Hs H0 H)) (hid (p::O) (ext Hs H0 (upd H p o))):=λb u hb=>by
 have An:=aU.mp hb
 have G1:b≠p:=λz=>by have:=mQ ((kH hq).symm.trans (z ▸ An.2));rw[hp]at this;cases this
 refine aU.mpr ⟨λz=>(aF.mp z).elim G1 An.1,?_⟩
 cases q:H0 b with
 |none=>exact(kH q).trans ((congrArg nf (dW G1)).trans ((kH q).symm.trans An.2))
 |some w=>exact(jH q).trans ((jH q).symm.trans An.2)
theorem Rep.new_own(R:Rep F P H)(hp:H p=none){o:HO}(hA:dI (.v s,some (.ref p))=[p])(h:RowOk (p::bJ P) (F.vis (upd H p o)) (upd H p o) (.v s,some (.ref p))):Rep F ((.v s,some (.ref p))::P) (upd H p o):=by
 have Aw:=R.not_own hp
 have hq:=R.fresh hp
 refine⟨by rw[iO hA];exact cE.mpr ⟨Aw,R.nd⟩,λr hr=>?_,λr hr a ha=>?_,λb o h1 h2=>?_,λb hb=>?_⟩
 ·rw [iO hA]
  rcases aF.mp hr with rfl | hr
  ·exact h
  ·exact(R.ok r hr).mono (.of (ji_ hp hq)) λa ha=>dW λz=>Aw (z ▸ cw_ hr ha)
 ·rcases aF.mp hr with rfl | hr
  ·cases eq1 hA ha;exact hq
  ·exact R.fr r hr a ha
 ·have:=R.kp b o h1 h2
  rw[dW λz=>by rw[z,hp]at this;cases this]
  exact this
 ·obtain ⟨u,hu⟩:=R.lv b hb
  exact⟨u,by rw[dW λz=>by rw[z,hp]at hu;cases hu];exact hu⟩
theorem Rep.newL(R:Rep F P H)(hp:H p=none)(h:All2 (IsX (hid (bJ P) (F.vis H))) l vs):Rep F ((.v (.ol l),some (.ref p))::P) (upd H p (.lst vs)):=
 R.new_own hp rfl ⟨p,vs,rfl,bU,h.imp λ_ _ z=>z.to (ji_ hp (R.fresh hp))⟩
theorem Rep.newD(R:Rep F P H)(hp:H p=none)(h:All2 (KvX (hid (bJ P) (F.vis H))) k ws):Rep F ((.v (.od k),some (.ref p))::P) (upd H p (.dK ws)):=
 R.new_own hp rfl ⟨p,ws,rfl,bU,h.imp λ_ _ z=>z.to (ji_ hp (R.fresh hp))⟩
theorem Rep.newT(R:Rep F P H)(hp:H p=none)(h:All2 (IsX (hid (bJ P) (F.vis H))) l vs):Rep F ((vT (.tup l),some (.ref p))::P) (upd H p (.tup vs)):=by
 have e:Same H (upd H p (.tup vs)):=ie_ hp _
 exact(R.grow e).add (IsX.of_tup (vs:=vs) (aU.mpr ⟨R.not_own hp,(kH (R.fresh hp)).trans (by rw[bU];rfl)⟩) (h.imp λ_ _ z=>z.to (pF (ge_ e))))
theorem mZ{O:List Addr}{o:HO}{Hs H0:Hp}:Same (hid (a::O) (ext Hs H0 H)) (hid (a::O) (ext Hs H0 (upd H a o))):=λb u hb=>by
 have An:=aU.mp hb
 have Fj:b≠a:=λz=>An.1 (by rw[z];exact aA)
 refine aU.mpr ⟨An.1,?_⟩
 cases q:H0 b with
 |none=>exact(kH q).trans ((congrArg nf (dW Fj)).trans ((kH q).symm.trans An.2))
 |some w=>exact(jH q).trans ((jH q).symm.trans An.2)
theorem Rep.put{o:HO}(R:Rep F (r::P) H)(hA:dI r=[a])(Hh:dI r'=[a])(hF:FrOk F r a->FrOk F r' a)(h:RowOk (a::bJ P) (F.vis (upd H a o)) (upd H a o) r'):Rep F (r'::P) (upd H a o):=by
 have hn:=R.nd
 rw[iO hA]at hn
 have Fu:=(cE.mp hn).1
 have R1:=R.ok
 rw[iO hA]at R1
 have C7:=R.fr r aA a (aXy hA)
 refine⟨by rw[iO Hh];exact hn,λx hx=>?_,λx hx b hb=>?_,λb u h1 h2=>?_,λb hb=>?_⟩
 ·rw [iO Hh]
  rcases aF.mp hx with rfl | hx
  ·exact h
  ·exact(R1 x (aC _ hx)).mono (.of mZ) λb hb=>dW λz=>Fu (z ▸ cw_ hx hb)
 ·rcases aF.mp hx with rfl | hx
  ·cases eq1 Hh hb;exact hF C7
  ·exact R.fr x (aC _ hx) b hb
 ·have hb:=R.kp b u h1 h2
  by_cases z:b=a
  ·subst z
   rcases C7.or with C7 | C7
   ·exact absurd C7 h2
   ·rw[C7]at h1;cases h1
  ·rw[dW z];exact hb
 ·by_cases z:b=a
  ·subst z;exact⟨o,bU⟩
  ·rw[dW z];exact R.lv b hb
theorem Rep.putD(R:Rep F ((.v (.od k),some (.ref a))::P) H)(h:All2 (KvX (hid (a::bJ P) (F.vis H))) k' ws'):Rep F ((.v (.od k'),some (.ref a))::P) (upd H a (.dK ws')):=
 R.put (a:=a) rfl rfl id ⟨a,ws',rfl,bU,h.imp λ_ _ z=>z.to mZ⟩
theorem Rep.atL(R:Rep F ((.v (.ol l),x)::P) H):∃a vs,x=some (.ref a)/\H a=some (.lst vs)/\All2 (IsX (hid (a::bJ P) (F.vis H))) l vs:=by
 obtain⟨a,vs,h1,h2,h3⟩:=R.ok _ aA
 subst h1
 exact⟨a,vs,rfl,h2,by rw[<-iO (a:=a) (r:=(.v (.ol l),some (.ref a))) rfl];exact h3⟩
theorem Rep.atB(R:Rep F ((.bw l,x)::P) H):∃a vs,x=some (.ref a)/\H a=some (.lst vs)/\All2 (IsX (hid (a::bJ P) (F.vis H))) l vs:=by
 obtain⟨a,vs,h1,h2,h3⟩:=R.ok _ aA
 subst h1
 exact⟨a,vs,rfl,h2,by rw[<-iO (a:=a) (r:=(.bw l,some (.ref a))) rfl];exact h3⟩
theorem Rep.atD(R:Rep F ((.v (.od k),x)::P) H):∃a ws,x=some (.ref a)/\H a=some (.dK ws)/\All2 (KvX (hid (a::bJ P) (F.vis H))) k ws:=by
 obtain⟨a,vs,h1,h2,h3⟩:=R.ok _ aA
 subst h1
 exact⟨a,vs,rfl,h2,by rw[<-iO (a:=a) (r:=(.v (.od k),some (.ref a))) rfl];exact h3⟩
theorem Rep.atT(R:Rep F ((vT d,x)::P) H):∃v,x=some v/\IsX (hid (bJ P) (F.vis H)) d v:=R.head
end
section
variable{ρ:List Sl}{σ:St}{i:Nat}{s s':Sl}{v v':Option V}
theorem aPc(h1:ρ[i]? = some s)(h2:σ[i]? = some v):(ρ.zip σ)[i]? = some (s,v):=(List.getElem?_zip_eq_some (z:=(s,v))).mpr ⟨h1,h2⟩
theorem aOc{α:Type}:∀(l:List α) (i:Nat) (h:i<l.length),l.Perm (l[i]::l.eraseIdx i)
 |x::l,0,_=>.refl _
 |x::l,i+1,h=>((aOc l i (by simpa using h)).cons x).trans (.swap _ _ _)
theorem aDu{α:Type}{l:List α}{x:α}{i:Nat}(h:l[i]? = some x):l.Perm (x::l.eraseIdx i):=by
 obtain⟨hi,e⟩:=aY.mp h
 subst e
 exact aOc l i hi
theorem co_(h1:ρ[i]? = some s)(h2:σ[i]? = some v):(ρ.zip σ).Perm ((s,v)::(ρ.zip σ).eraseIdx i):=aDu (aPc h1 h2)
theorem a7:∀{ρ:List Sl} {σ:St} (i:Nat),(ρ.set i s).zip (σ.set i v)=(ρ.zip σ).set i (s,v)
 | [],_,_=>by simp
 |_::_,[],_=>by simp
 |a::ρ,b::σ,0=>rfl
 |a::ρ,b::σ,i+1=>by simp only[List.set_cons_succ,eP];rw[a7 i]
theorem mF(hl:ρ.length=σ.length)(h:i<ρ.length):((ρ.set i s).zip (σ.set i v)).Perm ((s,v)::(ρ.zip σ).eraseIdx i):=by
 rw[a7]
 have hi:i<(ρ.zip σ).length:=by rw[List.length_zip];omega
 have:=aDu (l:=(ρ.zip σ).set i (s,v)) (x:=(s,v)) (i:=i) (by rw[iI hi])
 rwa [List.eraseIdx_set_eq]at this
theorem aDd(h:σ[i]? = some v):σ.set i v=σ:=by
 obtain⟨hi,e⟩:=aY.mp h
 subst e
 exact List.set_getElem_self hi
theorem p7(hl:ρ.length=σ.length)(h:i<ρ.length)(h2:σ[i]? = some v):((ρ.set i s).zip σ).Perm ((s,v)::(ρ.zip σ).eraseIdx i):=by
 have:=mF (s:=s) (v:=v) hl h
 rwa [aDd h2]at this
end
end Lf
namespace L2
open PySem
theorem PE.weak{X:Cx}{e:Expr}{t u:TE}(h:PE X e t)(w:∀σ H Q,u σ H Q->t σ H Q):PE X e u:=λAa s σ H Q I q=>h Aa s σ H Q I (w σ H Q q)
theorem PT.weak{X:Cx}{e:Expr}{t u:TT}(h:PT X e t)(w:∀σ H Q,u σ H Q->t σ H Q):PT X e u:=λAa s σ H Q I q=>h Aa s σ H Q I (w σ H Q q)
theorem PW.weak{X:Cx}{e:Expr}{t u:TT}(h:PW X e t)(w:∀σ H Q,u σ H Q->t σ H Q):PW X e u:=λwh Aa s σ H Q I q=>h wh Aa s σ H Q I (w σ H Q q)
theorem PA.weak{X:Cx}{e:List Expr}{t u:TA}(h:PA X e t)(w:∀σ H Q,u σ H Q->t σ H Q):PA X e u:=λpos Aa s σ H Q I q=>h pos Aa s σ H Q I (w σ H Q q)
theorem PE.or{X:Cx}{e:Expr}{t u:TE}(h:PE X e t)(h':PE X e u):PE X e (λσ H Q=>t σ H Q\/u σ H Q):=λAa s σ H Q I q=>q.elim (h Aa s σ H Q I) (h' Aa s σ H Q I)
end L2
namespace Lf
open PySem L2
abbrev En:=List Sl
abbrev XT:=En->(Sv->En->Prop)->Prop
abbrev XC:=En->(Bool->En->Prop)->Prop
abbrev XA:=En->(List Sv->En->Prop)->Prop
structure EOk(F:Fm)(ρ:En)(σ:St)(fr:List Rw)(H:Hp):Prop where
 len:ρ.length=σ.length
 rep:Rep F (ρ.zip σ++fr) H
def tX(F:Fm)(t:XT):TE:=λσ H Q=>∃ρ fr Qx,EOk F ρ σ fr H/\t ρ Qx/\∀v s H' ρ',EOk F ρ' σ ((.v s,some v)::fr) H'->Qx s ρ'->Q v H'
def tXc(F:Fm)(t:XC):TT:=λσ H Q=>∃ρ fr Qx,EOk F ρ σ fr H/\t ρ Qx/\∀b H' ρ',EOk F ρ' σ fr H'->Qx b ρ'->Q b H'
def iB(ss:List Sv)(vs:List V):List Rw:=(ss.zip vs).map λp=>(.v p.1,some p.2)
def tXa(F:Fm)(t:XA):TA:=λσ H Q=>∃ρ fr Qx,EOk F ρ σ fr H/\t ρ Qx/\∀vs ss H' ρ',ss.length=vs.length->EOk F ρ' σ (iB ss vs++fr) H'->Qx ss ρ'->Q vs H'
abbrev ExT:=Value->Prop
abbrev dR:ExT:=λ_=>False
def lU(F:Fm)(H:Hp):Prop:=∀b o,F.H0 b=some o->b∉F.B->H b=some o
def Air(nw:Addr->Prop)(h':Heap)(H:Hp)(ea:Addr)(cls:Value):Prop:=nw ea/\H ea=none/\∃oe vs,h'.get? ea=some oe/\oe.cls=cls/\oe.data=.fields vs/\oe.dict=none/\1<vs.size /\
 (vs[1]? = some .none\/∃T oT ts,vs[1]? = some (.ref T)/\T≠ea/\nw T/\H T=none/\h'.get? T=some oT/\oT.data=.fields ts/\3<ts.size)
def CXe(P:Program)(w:World):CXT:=λouter H s E e s'=>∃(ea:Addr) (cls:Value) (H':Hp),e=.ref ea/\s'.os=s.os/\PyProof.Rows.AllBare s'.gens/\Un (frs outer) [] H H' s.heap s'.heap/\HOk P w H' s'.heap/\Air (λb=>s.heap.get? b=none) s'.heap H' ea cls/\E cls none H'
abbrev NwX(X:Cx)(Aa:eF):Addr->Prop:=λb=>(X.s₀.heap.get? b=none\/b∈X.ex)/\∀p∈X.pn++Aa,p.1≠b
class OkF(X:Cx)(Ex:ExT)(F:Fm):Prop where
 pass1:∀(Aa:eF) (σ:St) (H:Hp) (s':Shared) (ea:Addr) (cls:Value),Inv X Aa σ H s'->Air (NwX X Aa) s'.heap H ea cls->Ex cls->lU F H->X.xe (.ref ea) s'
instance{X:Cx}{F:Fm}:OkF X dR F:=⟨λ_ _ _ _ _ _ _ _ h _=>h.elim⟩
def XE(X:Cx)(Ex:ExT)(e:Expr)(t:XT):Prop:=∀F,[OkF X Ex F]->PE X e (tX F t)
def XTe(X:Cx)(Ex:ExT)(e:Expr)(t:XC):Prop:=∀F,[OkF X Ex F]->PT X e (tXc F t)
def XW(X:Cx)(Ex:ExT)(e:Expr)(t:XC):Prop:=∀F,[OkF X Ex F]->PW X e (tXc F t)
def XAs(X:Cx)(Ex:ExT)(es:List Expr)(t:XA):Prop:=∀F,[OkF X Ex F]->PA X es (tXa F t)
section
variable{F:Fm}{ρ ρ':En}{σ:St}{fr P:List Rw}{H H':Hp}{s:Sv}{v x y:V}{a b:Dx}
theorem EOk.grow(E:EOk F ρ σ fr H)(e:Same H H'):EOk F ρ σ fr H':=⟨E.len,E.rep.grow e⟩
theorem qC{α:Type}{x:α}{A B:List α}:(A++x::B).Perm (x::(A++B)):=eO
theorem EOk.front{r:Rw}(E:EOk F ρ σ (r::fr) H):Rep F (r::(ρ.zip σ++fr)) H:=E.rep.perm qC
theorem EOk.back{r:Rw}(hl:ρ.length=σ.length)(R:Rep F (r::(ρ.zip σ++fr)) H):EOk F ρ σ (r::fr) H:=⟨hl,R.perm qC.symm⟩
theorem EOk.drop{r:Rw}(E:EOk F ρ σ (r::fr) H):EOk F ρ σ fr H:=⟨E.len,E.front.tail⟩
theorem EOk.one(E:EOk F ρ σ ((.v s,some v)::fr) H):Rep F (ρ.zip σ++fr) H/\IsX (hid (bJ (ρ.zip σ++fr)) (F.vis H)) s.d v:=by
 obtain⟨v',e,h⟩:=E.front.head
 cases e
 exact⟨E.front.tail,h⟩
theorem EOk.two{s1 s2:Sv}{v1 v2:V}(E:EOk F ρ σ ((.v s2,some v2)::(.v s1,some v1)::fr) H) :
  Rep F (ρ.zip σ++fr) H/\IsX (hid (bJ (ρ.zip σ++fr)) (F.vis H)) s1.d v1/\IsX (hid (bJ (ρ.zip σ++fr)) (F.vis H)) s2.d v2:=by
 obtain⟨R1,h1⟩:=E.drop.one
 obtain⟨R2,h2⟩:=E.one
 refine⟨R1,h1,h2.to (kW λc hc=>?_)⟩
 have:(bJ ((.v s1,some v1)::(ρ.zip σ++fr))).Perm (bJ (ρ.zip σ++(.v s1,some v1)::fr)):=qC.symm.flatMap_right _
 refine this.mem_iff.mp ?_
 rw[jK]
 exact aE _ hc
end
def bM(i:Nat):XT:=λρ Q=>match ρ[i]? with
 |some (.v s)=>Q (.tr s.d) (ρ.set i (.v (.tr s.d)))
 |_=>False
def aNd(i:Nat):XT:=λρ Q=>match ρ[i]? with
 |some (.v s)=>Q s (ρ.set i .un)
 |_=>False
theorem uU{ρ:En}{σ:St}{i:Nat}{s:Sl}(hl:ρ.length=σ.length)(h:ρ[i]? = some s):∃v,σ[i]? = some v:=by
 have:=(aY.mp h).1
 exact⟨_,aO (by omega)⟩
section
variable{X:Cx}{Ex:ExT}{i:Nat}{x:Str}{pos:Pos}
theorem mD{F:Fm}{ρ:En}{σ:St}{fr:List Rw}{H:Hp}{s:Sl}(E:EOk F ρ σ fr H)(h:ρ[i]? = some s):∃v,σ[i]? = some v/\i<ρ.length/\Rep F ((s,v)::((ρ.zip σ).eraseIdx i++fr)) H:=by
 obtain⟨v,hv⟩:=uU E.len h
 exact⟨v,hv,(aY.mp h).1,E.rep.perm ((co_ h hv).append_right fr)⟩
theorem nG{F:Fm}{ρ:En}{σ:St}{fr:List Rw}{H:Hp}{s:Sl}{v:Option V}(hl:ρ.length=σ.length)(hi:i<ρ.length)(hv:σ[i]? = some v)(R:Rep F ((s,v)::((ρ.zip σ).eraseIdx i++fr)) H):EOk F (ρ.set i s) σ fr H:=
 ⟨by rw[bG];exact hl,R.perm ((p7 hl hi hv).append_right fr).symm⟩
theorem bL(h:PE X (.Name x pos) (fN i)):XE X Ex (.Name x pos) (bM i):=λF=>h.weak λσ H Q=>by
 rintro⟨ρ,fr,Qx,E,t,k⟩
 unfold bM at t
 split at t
 ·rename_i s hs
  obtain⟨v,hv,hi,R⟩:=mD E hs
  obtain⟨w,rfl,hx⟩:=R.head
  refine⟨w,hv,k w _ H _ ?_ t⟩
  have R2:=R.frz
  have R3:Rep F ((vT s.d,some w)::(vT s.d,some w)::((ρ.zip σ).eraseIdx i++fr)) H:=R2.add hx
  exact EOk.back (by rw[bG];exact E.len) (R3.perm (((p7 E.len hi hv).append_right fr).symm.cons _))
 ·exact t.elim
theorem n9(h:PE X (.Name x pos) (fN i)):XE X Ex (.Name x pos) (aNd i):=λF=>h.weak λσ H Q=>by
 rintro⟨ρ,fr,Qx,E,t,k⟩
 unfold aNd at t
 split at t
 ·rename_i s hs
  obtain⟨v,hv,hi,R⟩:=mD E hs
  obtain⟨w,rfl,hx⟩:=R.head
  refine⟨w,hv,k w _ H _ ?_ t⟩
  have R3:Rep F ((.v s,some w)::(.un,some w)::((ρ.zip σ).eraseIdx i++fr)) H:=(R.addU (x:=some w)).perm (.swap _ _ _)
  exact EOk.back (by rw[bG];exact E.len) (R3.perm (((p7 E.len hi hv).append_right fr).symm.cons _))
 ·exact t.elim
end
def xC(d:Dx):XT:=λρ Q=>Q (.tr d) ρ
theorem s_{X:Cx}{Ex:ExT}{e:Expr}{v:V}(h:PE X e (tC v))(d:Dx)(hd:∀H,IsX H d v):XE X Ex e (xC d):=λF=>h.weak λσ H Q=>by
 rintro⟨ρ,fr,Qx,E,t,k⟩
 exact k v _ H ρ (EOk.back E.len (E.rep.add (hd _))) t
section
variable{X:Cx}{Ex:ExT}
theorem cK{i j pos}:XE X Ex (.Constant (.int i) j pos) (xC (.int i)):=s_ yY _ λ_=>IsX.of_int _
theorem iq_{b j pos}:XE X Ex (.Constant (.bool b) j pos) (xC (.bl b)):=s_ aXn _ λ_=>IsX.of_bl _
theorem pT{j pos}:XE X Ex (.Constant .none j pos) (xC .non):=s_ aEb _ λ_=>IsX.of_non
theorem fU{x j pos}:XE X Ex (.Constant (.str x) j pos) (xC (.str x)):=s_ tY _ λ_=>IsX.of_str _
end
abbrev G2:=Dx->Dx->(Sv->Prop)->Prop
def OpX(r:R2)(g:G2):Prop:=∀(F:Fm) (P:List Rw) (H:Hp) (a b:Dx) (x y:V) (Q:VK) (Qx:Sv->Prop),Rep F P H->IsX (hid (bJ P) (F.vis H)) a x->IsX (hid (bJ P) (F.vis H)) b y->g a b Qx ->
 (∀v s H',Rep F ((.v s,some v)::P) H'->Qx s->Q v H')->r x y H Q
def xOp(g:G2)(ta tb:XT):XT:=λρ Q=>ta ρ λa ρ1=>tb ρ1 λb ρ2=>g a.d b.d λs=>Q s ρ2
theorem lV{F:Fm}{r:R2}{g:G2}{ta tb:XT}(hx:OpX r g):∀σ H Q,tX F (xOp g ta tb) σ H Q->tOp r (tX F ta) (tX F tb) σ H Q:=by
 rintro σ H Q ⟨ρ,fr,Qx,E,t,k⟩
 refine⟨ρ,fr,_,E,t,λv s H' ρ' E' t'=>?_⟩
 refine⟨ρ',_,_,E',t',λw s2 H2 ρ2 E2 t2=>?_⟩
 obtain⟨R,h1,h2⟩:=E2.two
 exact hx F _ H2 s.d s2.d v w Q (λz=>Qx z ρ2) R h1 h2 t2 λv' s' H' R' q=>k v' s' H' ρ2 (EOk.back E2.len R') q
def xB(t:XT):XC:=λρ Q=>t ρ λs ρ'=>match s with
 | .tr (.bl b)=>Q b ρ'
 |_=>False
theorem hg_{F:Fm}{t:TE}{u:XT}(h:∀σ H Q,tX F u σ H Q->t σ H Q):∀σ H Q,tXc F (xB u) σ H Q->aCo t σ H Q:=by
 rintro σ H Q ⟨ρ,fr,Qx,E,t,k⟩
 refine h _ _ _ ⟨ρ,fr,_,E,t,λv s H' ρ' E' q=>?_⟩
 split at q
 ·rename_i b
  obtain⟨_,hx⟩:=E'.one
  cases hx.bl_eq
  exact⟨b,rfl,k b H' ρ' E'.drop q⟩
 ·exact q.elim
section
variable{X:Cx}{Ex:ExT}{a b c e:Expr}{pos:Pos}{r r':R2}{g g':G2}{ta tb tc:XT}
theorem qQ{op:Operator}(ho:OpR X (binaryOp op) r)(hx:OpX r g)(ha:XE X Ex a ta)(hb:XE X Ex b tb):XE X Ex (.BinOp a op b pos) (xOp g ta tb):=λF=>(aXm ho (ha F) (hb F)).weak (lV hx)
theorem xL{op:CmpOp}(ho:OpR X (compareOp op) r)(hx:OpX r g)(ha:XE X Ex a ta)(hb:XE X Ex b tb)(hm:behindInMarks op b=false):XE X Ex (.Compare a [op] [b] pos) (xOp g ta tb):=λF=>(aJu ho (ha F) (hb F) hm).weak (lV hx)
theorem eE{op:CmpOp}(ho:OpR X (compareOp op) r)(hx:OpX r g)(ha:XE X Ex a ta)(hb:XE X Ex b tb)(hm:behindInMarks op b=false):XTe X Ex (.Compare a [op] [b] pos) (xB (xOp g ta tb)):=λF=>(tV ho (ha F) (hb F) hm).weak (hg_ (lV hx))
theorem qI{t:XT}(h:XE X Ex e t)(he:∀whole,isTrue e X.env whole=(do let v <-whole;standAt e.pos;holding [v] (truthy v)):=by intro _;rfl):XTe X Ex e (xB t):=λF=>(aQp (h F) he).weak (hg_ λ_ _ _ z=>z)
def yF(t u:XC):XC:=λρ Q=>t ρ λc ρ1=>if c=true then u ρ1 Q else Q false ρ1
def xOr(t u:XC):XC:=λρ Q=>t ρ λc ρ1=>if c=true then Q true ρ1 else u ρ1 Q
def aBw(t:XC):XC:=λρ Q=>t ρ λc ρ1=>Q (!c) ρ1
theorem el_{t:XC}(h:XTe X Ex a t):XW X Ex (.BoolOp .And [a] pos) t:=λF=>aJe (h F)
theorem xZ{t:XC}(h:XTe X Ex a t):XW X Ex (.BoolOp .Or [a] pos) t:=λF=>aQn (h F)
theorem gh_{t u:XC}{rest:List Expr}(h:XTe X Ex a t)(h':XW X Ex (.BoolOp .And (b::rest) pos) u):XW X Ex (.BoolOp .And (a::b::rest) pos) (yF t u):=λF=>(aQo (h F) (h' F)).weak λσ H Q=>by
 rintro⟨ρ,fr,Qx,E,t,k⟩
 refine⟨ρ,fr,_,E,t,λc H' ρ' E' q=>?_⟩
 cases c with
 |true=>exact⟨ρ',fr,Qx,E',q,k⟩
 |false=>exact k false H' ρ' E' q
theorem uV{t u:XC}{rest:List Expr}(h:XTe X Ex a t)(h':XW X Ex (.BoolOp .Or (b::rest) pos) u):XW X Ex (.BoolOp .Or (a::b::rest) pos) (xOr t u):=λF=>(aXh (h F) (h' F)).weak λσ H Q=>by
 rintro⟨ρ,fr,Qx,E,t,k⟩
 refine⟨ρ,fr,_,E,t,λc H' ρ' E' q=>?_⟩
 cases c with
 |true=>exact k true H' ρ' E' q
 |false=>exact⟨ρ',fr,Qx,E',q,k⟩
theorem fm_{t:XC}(h:XTe X Ex a t):XTe X Ex (.UnaryOp .Not a pos) (aBw t):=λF=>(aQq (h F)).weak λσ H Q=>by
 rintro⟨ρ,fr,Qx,E,t,k⟩
 exact⟨ρ,fr,_,E,t,λc H' ρ' E' q=>k (!c) H' ρ' E' q⟩
theorem XW.pt{t:XC}(h:XW X Ex e t):XTe X Ex e t:=λF=>(h F).pt
def aWi(t u:XT):XT:=λρ Q=>xB t ρ λc ρ1=>if c=true then u ρ1 Q else Q (.tr (.bl false)) ρ1
def bBk(t u:XT):XT:=λρ Q=>xB t ρ λc ρ1=>if c=true then Q (.tr (.bl true)) ρ1 else u ρ1 Q
def aWb(t:XT):XT:=λρ Q=>xB t ρ λc ρ1=>Q (.tr (.bl (!c))) ρ1
theorem lL{op}{t:XT}(h:XE X Ex a t):XE X Ex (.BoolOp op [a] pos) t:=λF=>aQz (h F)
theorem lM{t u:XT}{rest:List Expr}(h:XE X Ex a t)(h':XE X Ex (.BoolOp .And (b::rest) pos) u):XE X Ex (.BoolOp .And (a::b::rest) pos) (aWi t u):=λF=>(aRd (h F) (h' F)).weak λσ H Q=>by
 rintro⟨ρ,fr,Qx,E,t,k⟩
 refine⟨ρ,fr,_,E,t,λv s H' ρ' E' q=>?_⟩
 split at q
 ·rename_i c
  obtain⟨_,hx⟩:=E'.one
  cases hx.bl_eq
  refine⟨c,rfl,?_⟩
  cases c with
  |true=>exact⟨ρ',fr,Qx,E'.drop,q,k⟩
  |false=>exact k _ _ H' ρ' (EOk.back E'.len (E'.drop.rep.add (IsX.of_bl _))) q
 ·exact q.elim
theorem aMz{t u:XT}{rest:List Expr}(h:XE X Ex a t)(h':XE X Ex (.BoolOp .Or (b::rest) pos) u):XE X Ex (.BoolOp .Or (a::b::rest) pos) (bBk t u):=λF=>(aXl (h F) (h' F)).weak λσ H Q=>by
 rintro⟨ρ,fr,Qx,E,t,k⟩
 refine⟨ρ,fr,_,E,t,λv s H' ρ' E' q=>?_⟩
 split at q
 ·rename_i c
  obtain⟨_,hx⟩:=E'.one
  cases hx.bl_eq
  refine⟨c,rfl,?_⟩
  cases c with
  |false=>exact⟨ρ',fr,Qx,E'.drop,q,k⟩
  |true=>exact k _ _ H' ρ' (EOk.back E'.len (E'.drop.rep.add (IsX.of_bl _))) q
 ·exact q.elim
theorem aBl{t:XT}(h:XE X Ex a t):XE X Ex (.UnaryOp .Not a pos) (aWb t):=λF=>(aRa (h F)).weak λσ H Q=>by
 rintro⟨ρ,fr,Qx,E,t,k⟩
 refine⟨ρ,fr,_,E,t,λv s H' ρ' E' q=>?_⟩
 split at q
 ·rename_i c
  obtain⟨_,hx⟩:=E'.one
  cases hx.bl_eq
  exact⟨c,rfl,k _ _ H' ρ' (EOk.back E'.len (E'.drop.rep.add (IsX.of_bl _))) q⟩
 ·exact q.elim
def bBl(c:XC)(t u:XT):XT:=λρ Q=>c ρ λb ρ1=>if b=true then t ρ1 Q else u ρ1 Q
theorem aBn{tc:XC}{t u:XT}(hc:XTe X Ex c tc)(ha:XE X Ex a t)(hb:XE X Ex b u):XE X Ex (.IfExp c a b pos) (bBl tc t u):=λF=>(aEf (hc F) (ha F) (hb F)).weak λσ H Q=>by
 rintro⟨ρ,fr,Qx,E,t,k⟩
 refine⟨ρ,fr,_,E,t,λd H' ρ' E' q=>?_⟩
 cases d with
 |true=>exact⟨ρ',fr,Qx,E',q,k⟩
 |false=>exact⟨ρ',fr,Qx,E',q,k⟩
end
def cJ:XA:=λρ Q=>Q [] ρ
def aW(t:XT)(u:XA):XA:=λρ Q=>t ρ λs ρ1=>u ρ1 λss ρ2=>Q (s::ss) ρ2
section
variable{X:Cx}{Ex:ExT}{e:Expr}{es:List Expr}{t:XT}{u:XA}{pos:Pos}
theorem cB:XAs X Ex [] cJ:=λF=>(xJ (X:=X)).weak λσ H Q=>by
 rintro⟨ρ,fr,Qx,E,t,k⟩
 exact k [] [] H ρ rfl E t
theorem bR(h:XE X Ex e t)(h':XAs X Ex es u)(he:starEach (e::es) X.env=(false,eval e X.env)::starEach es X.env:=by rfl):XAs X Ex (e::es) (aW t u):=λF=>(lK (h F) (h' F) he).weak λσ H Q=>by
 rintro⟨ρ,fr,Qx,E,t,k⟩
 refine⟨ρ,fr,_,E,t,λv s H' ρ' E' q=>⟨ρ',_,_,E',q,λvs ss H2 ρ2 hl E2 q2=>?_⟩⟩
 refine k (v::vs) (s::ss) H2 ρ2 (by rw[aD,aD,hl]) ⟨E2.len,E2.rep.perm ?_⟩ q2
 exact List.Perm.append_left _ eO
theorem EOk.many{F:Fm}{ρ:En}{σ:St}{fr:List Rw}{H:Hp}:∀{ss:List Sv} {vs:List V},ss.length=vs.length->EOk F ρ σ (iB ss vs++fr) H->Rep F (ρ.zip σ++fr) H/\All2 (IsX (hid (bJ (ρ.zip σ++fr)) (F.vis H))) (ss.map Sv.d) vs
 | [],[],_,E=>⟨E.rep,rfl⟩
 | [],_::_,h,_=>by simp at h
 |_::_,[],h,_=>by simp at h
 |s::ss,v::vs,h,E=>by
  have E':EOk F ρ σ ((.v s,some v)::(iB ss vs++fr)) H:=E
  obtain⟨R,hs⟩:=EOk.many (ss:=ss) (vs:=vs) (by simpa using h) E'.drop
  obtain⟨_,hx⟩:=E'.one
  refine⟨R,v,vs,rfl,hx.to (kW λc hc=>?_),hs⟩
  have:bJ (ρ.zip σ++(iB ss vs++fr))=bJ (ρ.zip σ)++(bJ (iB ss vs)++bJ fr):=by unfold bJ;rw[gQ,gQ]
  rw[this]
  have h2:bJ (ρ.zip σ++fr)=bJ (ρ.zip σ)++bJ fr:=by unfold bJ;rw[gQ]
  rw[h2]at hc
  rcases bF.mp hc with hc | hc
  ·exact aK _ hc
  ·exact aE _ (aE _ hc)
def yD(u:XA):XT:=λρ Q=>u ρ λss ρ'=>ss.length<=1000000/\Q (.tr (.tup (ss.map Sv.d))) ρ'
def iV(u:XA):XT:=λρ Q=>u ρ λss ρ'=>ss.length<=1000000/\Q (.ol (ss.map Sv.d)) ρ'
theorem fJ:(1000000:Nat)<sizeLine:=by rw[sizeLine_eq];decide
theorem xN{j:Nat}(h:XAs X Ex es u):XE X Ex (.Tuple es j pos) (yD u):=λF=>(yX (h F)).weak λσ H Q=>by
 rintro⟨ρ,fr,Qx,E,t,k⟩
 refine⟨ρ,fr,_,E,t,λvs ss H2 ρ2 hl E2 q2=>⟨by have:=fJ;omega,λp hp=>?_⟩⟩
 obtain⟨R,hs⟩:=E2.many hl
 exact k _ _ _ ρ2 (EOk.back E2.len (R.newT hp hs)) q2.2
theorem pR(h:XAs X Ex es u):XE X Ex (.List es pos) (iV u):=λF=>(aEd (h F)).weak λσ H Q=>by
 rintro⟨ρ,fr,Qx,E,t,k⟩
 refine⟨ρ,fr,_,E,t,λvs ss H2 ρ2 hl E2 q2=>⟨by have:=fJ;omega,λp hp=>?_⟩⟩
 obtain⟨R,hs⟩:=E2.many hl
 exact k _ _ _ ρ2 (EOk.back E2.len (R.newL hp hs)) q2.2
end
def gI(f:Int->Int->Dx):G2
 | .int i,.int j,Q=>Q (.tr (f i j))
 |_,_,_=>False
def gIC(C:Int->Int->Prop)(f:Int->Int->Dx):G2
 | .int i,.int j,Q=>C i j/\Q (.tr (f i j))
 |_,_,_=>False
theorem wJ{f:Int->Int->V}{fd:Int->Int->Dx}(h:∀H i j,IsX H (fd i j) (f i j)):OpX (rI0 f) (gI fd):=by
 intro F P H a b x y Q Qx R ha hb g k
 unfold gI at g
 split at g
 ·cases ha.int_eq; cases hb.int_eq
  exact⟨_,_,rfl,rfl,k _ _ H (R.add (h _ _ _)) g⟩
 ·exact g.elim
theorem zA{C:Int->Int->Prop}{f:Int->Int->V}{fd:Int->Int->Dx}(h:∀H i j,IsX H (fd i j) (f i j)):OpX (rI C f) (gIC C fd):=by
 intro F P H a b x y Q Qx R ha hb g k
 unfold gIC at g
 split at g
 ·cases ha.int_eq; cases hb.int_eq
  exact⟨_,_,rfl,rfl,g.1,k _ _ H (R.add (h _ _ _)) g.2⟩
 ·exact g.elim
abbrev aWw:G2:=gI λi j=>.int (i-j)
abbrev aZe:G2:=gIC aHm λi j=>.int (i/j)
abbrev aSi:G2:=gIC (λ_ j=>0<j) λi j=>.int (i%j)
abbrev bCe:G2:=gIC aUr λi j=>.int (i^j.toNat)
abbrev ltX:G2:=gI λi j=>.bl (decide (i<j))
abbrev leX:G2:=gI λi j=>.bl (decide (i<=j))
abbrev gtX:G2:=gI λi j=>.bl (decide (j<i))
abbrev geX:G2:=gI λi j=>.bl (decide (j<=i))
theorem oi{f:Int->Int->Int}:∀H i j,IsX H (.int (f i j)) (.int (f i j)):=λ_ _ _=>IsX.of_int _
theorem ob{f:Int->Int->Bool}:∀H i j,IsX H (.bl (f i j)) (.bl (f i j)):=λ_ _ _=>IsX.of_bl _
def eY:G2
 | .int i,.int j,Q=>Q (.tr (.int (i+j)))
 | .str i,.str j,Q=>i.length+j.length<=1000000/\Q (.tr (.str (i++j)))
 | .lst l,.lst m,Q=>l.length+m.length<=1000000/\Q (.ol (l++m))
 |_,_,_=>False
def w4:G2
 | .int i,.int j,Q=>CMulB i j/\Q (.tr (.int (i*j)))
 | .lst l,.int j,Q=>(j<=1000000 /\ -1000000<=j/\l.length*j.toNat<=1000000)/\Q (.ol (List.replicate j.toNat l).flatten)
 | .str z,.int j,Q=>(z.length<=1000/\0<=j/\j<=1000)/\Q (.tr (.str (Txt.mul z j)))
 |_,_,_=>False
section
variable{X:Cx}{Ex:ExT}{a b e:Expr}{pos:Pos}{ta tb:XT}
theorem gA(ha:XE X Ex a ta)(hb:XE X Ex b tb):XE X Ex (.BinOp a .Add b pos) (xOp eY ta tb):=qQ (aRo.or (zC.or aRn)) (by
 intro F P H a b x y Q Qx R ha hb g k
 unfold eY at g
 split at g
 ·cases ha.int_eq; cases hb.int_eq
  exact .inl ⟨_,_,rfl,rfl,k _ _ H (R.add (IsX.of_int _)) g⟩
 ·cases ha.str_eq; cases hb.str_eq
  exact .inr (.inl ⟨_,_,rfl,rfl,by have:=fJ;omega,k _ _ H (R.add (IsX.of_str _)) g.2⟩)
 ·obtain ⟨p,vs,rfl,h1,h2⟩:=ha.lst_eq
  obtain⟨q,ws,rfl,h3,h4⟩:=hb.lst_eq
  refine .inr (.inr ⟨p,q,vs,ws,rfl,rfl,R.hv _ _ h1,R.hv _ _ h3,by rw[h2.len,h4.len];have:=fJ;omega,λl hl=>k _ _ _ (R.newL hl (All2.app h4 h2)) g.2⟩)
 ·exact g.elim) ha hb
theorem sL{α β:Type}{g:α->β->Prop}{l:List α}{m:List β}(h:All2 g l m):∀n,All2 g (List.replicate n l).flatten (List.replicate n m).flatten
 | 0=>rfl
 |n+1=>by rw[dM,dM,cQ,cQ];exact All2.app (sL h n) h
theorem eo_(ha:XE X Ex a ta)(hb:XE X Ex b tb):XE X Ex (.BinOp a .Mult b pos) (xOp w4 ta tb):=qQ (aKd.or (aRj.or zB)) (by
 intro F P H a b x y Q Qx R ha hb g k
 unfold w4 at g
 split at g
 ·cases ha.int_eq; cases hb.int_eq
  exact .inl ⟨_,_,rfl,rfl,g.1,k _ _ H (R.add (IsX.of_int _)) g.2⟩
 ·obtain ⟨p,vs,rfl,h1,h2⟩:=ha.lst_eq
  cases hb.int_eq
  obtain⟨⟨g1,g2,g3⟩,g4⟩:=g
  refine .inr (.inl ⟨p,_,vs,rfl,rfl,R.hv _ _ h1,by omega,by omega,by rw[h2.len];have:=fJ;omega,λl hl=>k _ _ _ (R.newL hl (sL h2 _)) g4⟩)
 ·cases ha.str_eq; cases hb.int_eq
  exact .inr (.inr ⟨_,_,rfl,rfl,g.1.1,g.1.2.1,g.1.2.2,k _ _ H (R.add (IsX.of_str _)) g.2⟩)
 ·exact g.elim) ha hb
theorem io_(ha:XE X Ex a ta)(hb:XE X Ex b tb):XE X Ex (.BinOp a .Sub b pos) (xOp aWw ta tb):=qQ aRi (wJ oi) ha hb
theorem sR(ha:XE X Ex a ta)(hb:XE X Ex b tb):XE X Ex (.BinOp a .FloorDiv b pos) (xOp aZe ta tb):=qQ aEq (zA oi) ha hb
theorem fp_(ha:XE X Ex a ta)(hb:XE X Ex b tb):XE X Ex (.BinOp a .Mod b pos) (xOp aSi ta tb):=qQ aRl (zA oi) ha hb
theorem aPh(ha:XE X Ex a ta)(hb:XE X Ex b tb):XE X Ex (.BinOp a .Pow b pos) (xOp bCe ta tb):=qQ aRk (zA oi) ha hb
end
theorem vJ:OpX (rI0 λi j=>.bl (decide (i<j))) ltX:=wJ ob
theorem aOf:OpX (rI0 λi j=>.bl (decide (i<=j))) leX:=wJ ob
theorem hx_:OpX (rI0 λi j=>.bl (decide (j<i))) gtX:=wJ ob
theorem g_:OpX (rI0 λi j=>.bl (decide (j<=i))) geX:=wJ ob
def eqS:Dx->Dx->Option Bool
 | .int i,.int j=>some (decide (i=j))
 | .str i,.str j=>some (decide (i=j))
 | .bl i,.bl j=>some (decide (i=j))
 | .non,.non=>some true
 | .non,.int _=>some false | .int _,.non=>some false | .non,.bl _=>some false | .bl _,.non=>some false | .non,.str _=>some false | .str _,.non=>some false
 | .int _,.str _=>some false | .str _,.int _=>some false | .bl _,.str _=>some false | .str _,.bl _=>some false
 | .lst l,.lst []=>some l.isEmpty
 |_,_=>none
def eqX:G2:=λa b Q=>match eqS a b with
 |some c=>Q (.tr (.bl c))
 |none=>False
def neX:G2:=λa b Q=>match eqS a b with
 |some c=>Q (.tr (.bl (!c)))
 |none=>False
def scV:Dx->Option V
 | .int i=>some (.int i)
 | .str i=>some (.str i)
 | .bl i=>some (.bl i)
 | .non=>some .non
 |_=>none
theorem tK{H:Hp}{d:Dx}{x v:V}(h:IsX H d x)(e:scV d=some v):x=v:=by
 cases d<;>simp only[scV,Option.some.injEq]at e<;>first | (subst e;first | exact h.int_eq | exact h.str_eq | exact h.bl_eq | exact h.non_eq) | cases e
theorem xI{a b:Dx}{c:Bool}(h:eqS a b=some c):(∃l,a=.lst l/\b=.lst []/\c=l.isEmpty)\/∃x y,scV a=some x/\scV b=some y/\aQd x y=true/\decide (x=y)=c:=by
 unfold eqS at h
 split at h<;>(try simp only[Option.some.injEq]at h)<;>first
  |(subst h;exact .inr ⟨_,_,rfl,rfl,rfl,by simp⟩)
  |(subst h;exact .inl ⟨_,rfl,rfl,rfl⟩)
  |cases h
section
variable{K:cZ}
def aDp(K:cZ)(n:Bool):R2:=λx y H Q=>∃p b xs,x=.ref p/\y=.ref b/\SqL K H p xs/\SqL K H b []/\Q (.bl (if n then !xs.isEmpty else xs.isEmpty)) H
theorem hX:OpX (λx y H Q=>rEq x y H Q\/aDp K false x y H Q) eqX:=by
 intro F P H a b x y Q Qx R ha hb g k
 unfold eqX at g
 split at g
 ·rename_i c hc
  rcases xI hc with⟨l,rfl,rfl,rfl⟩ | ⟨u,w,h1,h2,h3,h4⟩
  ·obtain ⟨p,vs,rfl,q1,q2⟩:=ha.lst_eq
   obtain⟨p',vs',rfl,q3,q4⟩:=hb.lst_eq
   cases(show vs'=[]from q4)
   refine .inr ⟨p,p',vs,rfl,rfl,SqL.of (R.hv _ _ q1),SqL.of (R.hv _ _ q3),k _ (.tr (.bl l.isEmpty)) H (R.add ?_) g⟩
   have:vs.isEmpty=l.isEmpty:=by
    have:=q2.len
    cases vs<;>cases l<;>simp at this ⊢
   simp only[IsX,this];rfl
  ·cases tK ha h1; cases tK hb h2
   exact .inl ⟨h3,k _ _ H (R.add (by rw[h4];exact IsX.of_bl _)) g⟩
 ·exact g.elim
theorem kK:OpX (λx y H Q=>rNe x y H Q\/aDp K true x y H Q) neX:=by
 intro F P H a b x y Q Qx R ha hb g k
 unfold neX at g
 split at g
 ·rename_i c hc
  rcases xI hc with⟨l,rfl,rfl,rfl⟩ | ⟨u,w,h1,h2,h3,h4⟩
  ·obtain ⟨p,vs,rfl,q1,q2⟩:=ha.lst_eq
   obtain⟨p',vs',rfl,q3,q4⟩:=hb.lst_eq
   cases(show vs'=[]from q4)
   refine .inr ⟨p,p',vs,rfl,rfl,SqL.of (R.hv _ _ q1),SqL.of (R.hv _ _ q3),k _ (.tr (.bl (!l.isEmpty))) H (R.add ?_) g⟩
   have:vs.isEmpty=l.isEmpty:=by
    have:=q2.len
    cases vs<;>cases l<;>simp at this ⊢
   simp only[IsX,this];rfl
  ·cases tK ha h1; cases tK hb h2
   exact .inl ⟨h3,k _ _ H (R.add (by rw[h4];exact IsX.of_bl _)) g⟩
 ·exact g.elim
end
section
variable{X:Cx}{Ex:ExT}(K:cZ)(h:X.K=K)
theorem gV(hu:X.A.units<cLine)(h:X.K=K:=by rfl):OpR X (compareOp .Eq) (λx y H Q=>rEq x y H Q\/aDp K false x y H Q):=by subst h;exact aXq.or (aEr hu)
theorem gk_(hu:X.A.units<cLine)(h:X.K=K:=by rfl):OpR X (compareOp .NotEq) (λx y H Q=>rNe x y H Q\/aDp K true x y H Q):=by subst h;exact aXp.or (aEp hu)
end
def lF(neg:Bool):G2
 | .non,.non,Q=>Q (.tr (.bl !neg))
 |_,.non,Q=>Q (.tr (.bl neg))
 |_,_,_=>False
theorem zL{H:Hp}{a:Dx}{x:V}(h:IsX H a x)(ha:a ≠ .non):¬x=.non:=by
 intro z
 subst z
 cases a with
 |non=>exact ha rfl
 |bl _=>cases h.bl_eq
 |int _=>cases h.int_eq
 |str _=>cases h.str_eq
 |tup _=>obtain⟨_,_,e,_⟩:=h.tup_eq;cases e
 |lst _=>obtain⟨_,_,e,_⟩:=h.lst_eq;cases e
 |dic _=>obtain⟨_,_,e,_⟩:=h.dic_eq;cases e
 |scr _ _=>obtain⟨_,e,_⟩:=h.scr_eq;cases e
 |ins _ _=>obtain⟨_,_,_,e,_⟩:=h.ins_eq;cases e
 |exc _=>obtain⟨_,e,_⟩:=h.exc_eq;cases e
theorem oX:OpX (λx y H Q=>y=.non/\Q (.bl (decide (x=.non))) H) (lF false):=by
 intro F P H a b x y Q Qx R ha hb g k
 unfold lF at g
 split at g
 ·cases ha.non_eq; cases hb.non_eq
  exact⟨rfl,k _ _ H (R.add (IsX.of_bl _)) g⟩
 ·rename_i Fu
  cases hb.non_eq
  exact⟨rfl,k _ _ H (R.add (by rw[dzF (zL ha λz=>Fu z)];exact IsX.of_bl _)) g⟩
 ·exact g.elim
theorem aKa:OpX (λx y H Q=>y=.non/\Q (.bl (!decide (x=.non))) H) (lF true):=by
 intro F P H a b x y Q Qx R ha hb g k
 unfold lF at g
 split at g
 ·cases ha.non_eq; cases hb.non_eq
  exact⟨rfl,k _ _ H (R.add (IsX.of_bl _)) g⟩
 ·rename_i Fu
  cases hb.non_eq
  exact⟨rfl,k _ _ H (R.add (by rw[dzF (zL ha λz=>Fu z)];exact IsX.of_bl _)) g⟩
 ·exact g.elim
def ixX:G2
 | .lst l,.int i,Q=>(match atI l i with | some d=>Q (.tr d) | none=>False)
 | .tup l,.int i,Q=>(match atI l i with | some d=>Q (.tr d) | none=>False)
 | .str z,.int i,Q=>z.length<=1000000/\(match atI z.cps.toList i with | some c=>Q (.tr (.str ⟨#[c]⟩)) | none=>False)
 |_,_,_=>False
theorem pZ{α β:Type}{g:α->β->Prop}{l:List α}{m:List β}{i:Int}{d:α}(h:All2 g l m)(e:atI l i=some d):∃v,atI m i=some v/\g d v:=by
 unfold atI at e ⊢
 rw[h.len]
 obtain⟨j,h1,h2⟩:=aX.mp e
 obtain⟨v,h3,h4⟩:=h.at h2
 exact⟨v,aX.mpr ⟨j,h1,h3⟩,h4⟩
theorem aXo{K:cZ}:OpX (λx y H Q=>aDo K x y H Q\/aQm K x y H Q\/aXf x y H Q) ixX:=by
 intro F P H a b x y Q Qx R ha hb g k
 unfold ixX at g
 split at g
 ·obtain ⟨p,vs,rfl,h1,h2⟩:=ha.lst_eq
  cases hb.int_eq
  split at g
  ·rename_i d hd
   obtain⟨v,h3,h4⟩:=pZ h2 hd
   exact .inl ⟨p,vs,_,v,rfl,rfl,SqL.of (R.hv _ _ h1),h3,k _ _ H (R.add h4) g⟩
  ·exact g.elim
 ·obtain ⟨p,vs,rfl,h1,h2⟩:=ha.tup_eq
  cases hb.int_eq
  split at g
  ·rename_i d hd
   obtain⟨v,h3,h4⟩:=pZ h2 hd
   exact .inr (.inl ⟨p,vs,_,v,rfl,rfl,SqT.of (R.hv _ _ h1),h3,k _ _ H (R.add h4) g⟩)
  ·exact g.elim
 ·cases ha.str_eq; cases hb.int_eq
  obtain⟨g0,g⟩:=g
  split at g
  ·rename_i c hc
   exact .inr (.inr ⟨_,_,c,rfl,rfl,by have:=fJ;omega,hc,k _ _ H (R.add (IsX.of_str _)) g⟩)
  ·exact g.elim
 ·exact g.elim
theorem IxR.or{X:Cx}{r r':R2}(h:IxR X r)(h':IxR X r'):IxR X (λx y H Q=>r x y H Q\/r' x y H Q):=λa b Aa s σ H x y v u Q I rx ry q hs=>q.elim (λq=>h a b Aa s σ H x y v u Q I rx ry q hs) λq=>h' a b Aa s σ H x y v u Q I rx ry q hs
theorem jI{X:Cx}{Ex:ExT}{a b:Expr}{pos:Pos}{ta tb:XT}(K:cZ)(ha:XE X Ex a ta)(hb:XE X Ex b tb)(hs:jC b)(h:X.K=K:=by rfl):XE X Ex (.Subscript a b pos) (xOp ixX ta tb):=λF =>
 (aEe (IxR.or (wQ K h) (IxR.or (aLf K h) aSz)) (ha F) (hb F) hs).weak (lV aXo)
def jL(l:List (Key×Dx))(k:Key):Option Dx:=(l.find? λp=>decide (p.1=k)).map (·.2)
theorem pH{G:Hp}{k:Key}:∀{l:List (Key×Dx)} {ws:List (Key×V)},All2 (KvX G) l ws->(jL l k=none/\lA ws k=none)\/∃d v,jL l k=some d/\lA ws k=some v/\IsX G d v
 | [],_,h=>by rw[show _=[]from h];exact .inl ⟨rfl,rfl⟩
 |p::l,_,⟨w,wr,e,⟨h1,h2⟩,h3⟩=>by
  rw[e]
  by_cases hk:p.1=k
  ·refine .inr ⟨p.2,w.2,?_,ic_ (h1 ▸ hk),h2⟩
   unfold jL
   rw[eC,dzT hk]
   rfl
  ·rw [id_ (h1 ▸ hk)]
   have:jL (p::l) k=jL l k:=by unfold jL;rw[eC,dzF hk]
   rw[this]
   exact pH h3
def zJ:Dx->Option Key
 | .int i=>some (.inl i)
 | .str x=>some (.inr x)
 |_=>none
theorem mW{H:Hp}{d:Dx}{x:V}{k:Key}(h:IsX H d x)(e:zJ d=some k):x=kV k:=by
 cases d<;>simp only[zJ,Option.some.injEq]at e<;>first | (subst e;first | exact h.int_eq | exact h.str_eq) | cases e
def dgX:G2:=λa b Q=>match a,zJ b with
 | .dic l,some k=>(match jL l k with | some d=>Q (.tr d) | none=>False)
 |_,_=>False
def aTy(neg:Bool):G2:=λa b Q=>match zJ a,b with
 |some k,.dic l=>Q (.tr (.bl (if neg then !(jL l k).isSome else(jL l k).isSome)))
 |_,_=>False
theorem DGet.rd{H:Hp}{a:Addr}{kvs:List (Key×V)}{k:Key}(e:Rd H a (.dK kvs)):DGet H a (kV k) (lA kvs k):=.inl ⟨kvs,k,e,rfl,rfl⟩
theorem qX{F:Fm}{P:List Rw}{H:Hp}(R:Rep F P H){O:List Addr}{a:Addr}{u:HO}(h:Rd (hid O (F.vis H)) a u):Rd H a u:=by
 rcases h with h | ⟨o,h⟩
 ·exact .inl (R.hv _ _ h)
 ·exact .inr ⟨o,R.hv _ _ h⟩
theorem aKb:OpX (λx y H Q=>∃a v,x=.ref a/\DGet H a y (some v)/\Q v H) dgX:=by
 intro F P H a b x y Q Qx R ha hb g k
 unfold dgX at g
 split at g
 ·rename_i l kk hk
  obtain⟨p,ws,rfl,h1,h2⟩:=ha.dic_eq
  cases mW hb hk
  split at g
  ·rename_i d hd
   rcases pH (k:=kk) h2 with⟨z,_⟩ | ⟨d',v,z1,z2,z3⟩
   ·rw[z]at hd;cases hd
   ·rw [z1] at hd; cases hd
    exact⟨p,v,rfl,by rw[<-z2];exact DGet.rd (qX R h1),k _ _ H (R.add z3) g⟩
  ·exact g.elim
 ·exact g.elim
theorem aRh(neg:Bool):OpX (λy x H Q=>∃a o,x=.ref a/\DGet H a y o/\Q (.bl (if neg then !o.isSome else o.isSome)) H) (aTy neg):=by
 intro F P H a b x y Q Qx R ha hb g k
 unfold aTy at g
 split at g
 ·rename_i kk l hk
  obtain⟨p,ws,rfl,h1,h2⟩:=hb.dic_eq
  cases mW ha hk
  refine⟨p,_,rfl,DGet.rd (k:=kk) (qX R h1),k _ _ H (R.add ?_) g⟩
  rcases pH (k:=kk) h2 with⟨z1,z2⟩ | ⟨d',v,z1,z2,z3⟩
  ·rw[z1,z2];simp only[IsX];rfl
  ·rw[z1,z2];simp only[IsX];rfl
 ·exact g.elim
section
variable{X:Cx}{Ex:ExT}{a b o i:Expr}{pos:Pos}{ta tb:XT}
theorem ip_(hu:X.A.units+1<cLine)(ha:XE X Ex o ta)(hb:XE X Ex i tb)(hs:aUq i):XE X Ex (.Subscript o i pos) (xOp dgX ta tb):=λF=>(aJt hu (ha F) (hb F) hs).weak λσ H Q h=>lV aKb σ H Q h
theorem r9(hu:X.A.units+1<cLine)(ha:XE X Ex i ta)(hb:XE X Ex o tb)(hm:behindInMarks .NotIn o=false):XTe X Ex (.Compare i [.NotIn] [o] pos) (xB (xOp (aTy true) ta tb)):=λF=>(aQr (v4 hu (ha F) (hb F)) hm).weak (hg_ (t:=c8 (tX F ta) (tX F tb)) λσ H Q h=>lV (aRh true) σ H Q h)
def aCa:XT:=λρ Q=>Q (.od []) ρ
theorem mH:XE X Ex (.Dict [] [] pos) aCa:=λF=>(wH (X:=X)).weak λσ H Q=>by
 rintro⟨ρ,fr,Qx,E,t,k⟩
 exact λp hp=>k _ _ _ ρ (EOk.back E.len (E.rep.newD hp All2.nil)) t
end
abbrev GC:=List Dx->(Sv->Prop)->Prop
def hY(r:List V->Hp->VK->Prop)(g:GC):Prop:=∀(F:Fm) (P:List Rw) (H:Hp) (ds:List Dx) (xs:List V) (Q:VK) (Qx:Sv->Prop),Rep F P H->All2 (IsX (hid (bJ P) (F.vis H))) ds xs->g ds Qx ->
 (∀v s H',Rep F ((.v s,some v)::P) H'->Qx s->Q v H')->r xs H Q
def cX(g:GC)(u:XA):XT:=λρ Q=>u ρ λss ρ'=>g (ss.map Sv.d) λs=>Q s ρ'
theorem aNm{F:Fm}{r:List V->Hp->VK->Prop}{g:GC}{u:XA}(hx:hY r g):∀σ H Q,tX F (cX g u) σ H Q->tCB r (tXa F u) σ H Q:=by
 rintro σ H Q ⟨ρ,fr,Qx,E,t,k⟩
 refine⟨ρ,fr,_,E,t,λvs ss H2 ρ2 hl E2 q2=>?_⟩
 obtain⟨R,hs⟩:=E2.many hl
 exact hx F _ H2 _ vs Q (λs=>Qx s ρ2) R hs q2 λv s H' R' q=>k v s H' ρ2 (EOk.back E2.len R') q
section
variable{X:Cx}{Ex:ExT}{e:Expr}{es:List Expr}{x:Str}{p pos:Pos}{r:List V->Hp->VK->Prop}{g:GC}{u:XA}{id T:String}
theorem jJ(hc:CallR X (.builtin id) r)(hx:hY r g)(hg:Gl X x)(hm:X.mg x=none)(hv:bootBuiltins x=some (.builtin id))(ha:XAs X Ex (e::es) u)(hn:x ≠ "__name__":=by decide)(Bk:(x == ("__debug__" : Str))=false:=by decide)
  (he:starEach (e::es) X.env=(false,eval e X.env)::starEach es X.env:=by rfl) (A0:(backTo pos (starEach es X.env)).any (·.1)=false:=by rfl):XE X Ex (.Call (.Name x p) (e::es) [] pos) (cX g u):=λF=>(gb_ hc hg hm hv (ha F) hn Bk he A0).weak (aNm hx)
theorem yB(hc:CallR X (.type T) r)(hx:hY r g)(hg:Gl X x)(hm:X.mg x=none)(hv:bootBuiltins x=some (.type T))(ha:XAs X Ex (e::es) u)(hn:x ≠ "__name__":=by decide)(Bk:(x == ("__debug__" : Str))=false:=by decide)
  (he:starEach (e::es) X.env=(false,eval e X.env)::starEach es X.env:=by rfl) (A0:(backTo pos (starEach es X.env)).any (·.1)=false:=by rfl):XE X Ex (.Call (.Name x p) (e::es) [] pos) (cX g u):=λF=>(v3 hc hg hm hv (ha F) hn Bk he A0).weak (aNm hx)
end
theorem pQ{α β:Type}{g:α->β->Prop}{a:α}{xs:List β}(h:All2 g [a] xs):∃x,xs=[x]/\g a x:=by
 obtain⟨x,xr,rfl,h1,h2⟩:=h
 cases(show xr=[]from h2)
 exact⟨x,rfl,h1⟩
theorem aHh{α β:Type}{g:α->β->Prop}{a b:α}{xs:List β}(h:All2 g [a,b] xs):∃x y,xs=[x,y]/\g a x/\g b y:=by
 obtain⟨x,xr,rfl,h1,h2⟩:=h
 obtain⟨y,rfl,h3⟩:=pQ h2
 exact⟨x,y,rfl,h1,h3⟩
def uL:GC
 | [.lst l],Q=>Q (.tr (.int l.length))
 | [.tup l],Q=>Q (.tr (.int l.length))
 | [.str z],Q=>z.length<=1000000/\Q (.tr (.int z.length))
 | [.dic l],Q=>Q (.tr (.int l.length))
 |_,_=>False
abbrev aQl(K:cZ):List V->Hp->VK->Prop:=λxs H Q=>(∃p ys,xs=[.ref p]/\(SqL K H p ys\/SqT K H p ys)/\Q (.int ys.length) H)\/(∃z,xs=[.str z]/\z.length<=sizeLine/\Q (.int z.length) H)\/(∃a kvs,xs=[V.ref a]/\Rd H a (.dK kvs)/\Q (.int kvs.length) H)
theorem kI{X:Cx}(K:cZ)(h:X.K=K:=by rfl):CallR X (.builtin "len") (aQl K):=by
 subst h
 refine lI.or (vC.or ?_)
 intro Aa s σ H xs us Q I r h
 obtain⟨a,kvs,rfl,ha,q⟩:=h
 obtain⟨u,rfl,ru⟩:=gL r
 cases ru
 exact aZm I ha λt s' I'=>⟨.int kvs.length,H,I',⟨t,rfl⟩,q⟩
theorem kY{K:cZ}:hY (aQl K) uL:=by
 intro F P H ds xs Q Qx R hs g k
 unfold uL at g
 split at g
 ·obtain ⟨x,rfl,hx⟩:=pQ hs
  obtain⟨a,vs,rfl,h1,h2⟩:=hx.lst_eq
  exact .inl ⟨a,vs,rfl,.inl (SqL.of (R.hv _ _ h1)),k _ _ H (R.add (by rw[h2.len];exact IsX.of_int _)) g⟩
 ·obtain ⟨x,rfl,hx⟩:=pQ hs
  obtain⟨a,vs,rfl,h1,h2⟩:=hx.tup_eq
  exact .inl ⟨a,vs,rfl,.inr (SqT.of (R.hv _ _ h1)),k _ _ H (R.add (by rw[h2.len];exact IsX.of_int _)) g⟩
 ·obtain ⟨x,rfl,hx⟩:=pQ hs
  cases hx.str_eq
  exact .inr (.inl ⟨_,rfl,by have:=fJ;omega,k _ _ H (R.add (IsX.of_int _)) g.2⟩)
 ·obtain ⟨x,rfl,hx⟩:=pQ hs
  obtain⟨a,vs,rfl,h1,h2⟩:=hx.dic_eq
  exact .inr (.inr ⟨a,vs,rfl,qX R h1,k _ _ H (R.add (by rw[h2.len];exact IsX.of_int _)) g⟩)
 ·exact g.elim
def zN:GC
 | [.int i],Q=>Q (.tr (.int i))
 | [.bl b],Q=>Q (.tr (.int (if b then 1 else 0)))
 |_,_=>False
theorem ha_:hY (λxs H Q=>(∃i,xs=[.int i]/\Q (.int i) H)\/∃k,xs=[.bl k]/\Q (.int (if k then 1 else 0)) H) zN:=by
 intro F P H ds xs Q Qx R hs g k
 unfold zN at g
 split at g
 ·obtain ⟨x,rfl,hx⟩:=pQ hs
  cases hx.int_eq
  exact .inl ⟨_,rfl,k _ _ H (R.add (IsX.of_int _)) g⟩
 ·obtain ⟨x,rfl,hx⟩:=pQ hs
  cases hx.bl_eq
  exact .inr ⟨_,rfl,k _ _ H (R.add (IsX.of_int _)) g⟩
 ·exact g.elim
def bDm:GC
 | [.lst l],Q=>Q (.ol l)
 | [.tup l],Q=>Q (.ol l)
 |_,_=>False
def aCk:GC
 | [.lst l],Q=>Q (.tr (.tup l))
 | [.tup l],Q=>Q (.tr (.tup l))
 |_,_=>False
theorem xW{X:Cx}(K:cZ)(h:X.K=K:=by rfl):CallR X (.type "tuple") (λxs H Q=>∃p ys,xs=[.ref p]/\((SqL K H p ys/\∀l,H l=none->Q (.ref l) (upd H l (.tup ys)))\/(SqT K H p ys/\Q (.ref p) H))):=by subst h;exact qL
theorem aGv{K:cZ}:hY (λxs H Q=>∃p ys,xs=[.ref p]/\((SqL K H p ys/\∀l,H l=none->Q (.ref l) (upd H l (.tup ys)))\/(SqT K H p ys/\Q (.ref p) H))) aCk:=by
 intro F P H ds xs Q Qx R hs g k
 unfold aCk at g
 split at g
 ·obtain ⟨x,rfl,hx⟩:=pQ hs
  obtain⟨a,vs,rfl,h1,h2⟩:=hx.lst_eq
  exact⟨a,vs,rfl,.inl ⟨SqL.of (R.hv _ _ h1),λl hl=>k _ _ _ (R.newT hl h2) g⟩⟩
 ·obtain ⟨x,rfl,hx⟩:=pQ hs
  obtain⟨a,vs,rfl,h1,h2⟩:=hx.tup_eq
  exact⟨a,vs,rfl,.inr ⟨SqT.of (R.hv _ _ h1),k _ _ H (R.add (IsX.of_tup h1 h2)) g⟩⟩
 ·exact g.elim
inductive Ty where
 |bool | int | str | tuple | list | dict
def Ty.nm:Ty->String
 | .bool => "bool" | .int => "int" | .str => "str" | .tuple => "tuple" | .list => "list" | .dict => "dict"
def tyN:Dx->String
 | .non => "NoneType" | .bl _ => "bool" | .int _ => "int" | .str _ => "str" | .tup _ => "tuple" | .lst _ => "list" | .dic _ => "dict" | .scr _ _ => "list" | .ins _ _ => "object" | .exc _ => "object"
def isT:Ty->Dx->Bool
 | .bool,.bl _=>true
 | .int,.int _=>true
 | .int,.bl _=>true
 | .str,.str _=>true
 | .tuple,.tup _=>true
 | .list,.lst _=>true
 | .dict,.dic _=>true
 | .list,.scr _ _=>true
 |_,_=>false
def aFb:Dx->Prop
 | .scr _ _=>False
 | .ins _ _=>False
 | .exc _=>False
 |_=>True
theorem aLc{K:cZ}{d:Dx}{n:Ty}(hd:aFb d):PySem.W.kitOne K (.type (tyN d)) (.type n.nm)=some (isT n d):=by
 have h:∀T∈["NoneType","bool","int","str","tuple","list","dict"],∀n:Ty,PySem.W.kitOne K (.type T) (.type n.nm)=some (T == n.nm||(n.nm == "int" && T == "bool")):=by
  intro T hT n
  simp only[aF,bY,or_false]at hT
  rcases hT with rfl | rfl | rfl | rfl | rfl | rfl | rfl<;>cases n<;>first
   |exact aFm _
   |exact aSo (by decide +kernel) (by decide +kernel) (by decide +kernel)
 rw[h _ (by cases d<;>first | exact hd.elim | simp[tyN]) n]
 cases d<;>cases n<;>first | rfl | exact hd.elim
theorem x9{X:Cx}{Aa:eF}{σ:St}{H:Hp}{s:Shared}{A:Around}{E:gG}{Q:gG}{b:Bool}{c:Value}{d:Dx}{x:V}{u:Value}(I:Inv X Aa σ H s)(rx:RelV x u)(hx:IsX H d x)(hd:aFb d)(e:PySem.W.kitOne X.K (.type (tyN d)) c=some b)(h:∀tk,Q (.bool b) { s with toks:=tk }) :
  wpAny (model X.prog X.w) A (call (.builtin "isinstance") [u,c]) Q E s:=by
 cases d with
 |non=>cases hx.non_eq;exact ef_ I rx .non e h
 |bl _=>cases hx.bl_eq;exact ef_ I rx (.bl _) e h
 |int _=>cases hx.int_eq;exact ef_ I rx (.int _) e h
 |str _=>cases hx.str_eq;exact ef_ I rx (.str _) e h
 |tup _=>obtain⟨a,vs,rfl,h1,_⟩:=hx.tup_eq;exact ef_ I rx (.tup h1) e h
 |lst _=>obtain⟨a,vs,rfl,h1,_⟩:=hx.lst_eq;exact ef_ I rx (.lst h1) e h
 |dic _ =>
  obtain⟨a,vs,rfl,h1,_⟩:=hx.dic_eq
  rcases h1 with h1 | ⟨ob,h1⟩
  ·exact ef_ I rx (.dK h1) e h
  ·cases (show u=Value.ref a from rx)
   obtain⟨_,_,_,_,_,p⟩:=(show ObjOk X.prog X.w H s.heap a (.frz ob (.dK vs))from I.hok a _ h1)
   obtain⟨o,es,ep,h1,h2,_⟩:=p
   exact PySem.W.kia_one PySem.W.kitx_dict I.kIn ⟨o,h1,h2.1⟩ e (λz=>nomatch z) h
 |scr _ _=>exact hd.elim
 |ins _ _=>exact hd.elim
 |exc _=>exact hd.elim
theorem aHb{X:Cx}(n:Ty):CallR X (.builtin "isinstance") (λxs H Q=>∃x d,xs=[x,.ty n.nm]/\IsX H d x/\aFb d/\Q (.bl (isT n d)) H):=by
 intro Aa s σ H xs us Q I r h
 obtain⟨x,d,rfl,hx,hd,q⟩:=h
 obtain⟨u,w',rfl,r1,r2⟩:=vR r
 cases(show w'=Value.type n.nm from r2)
 exact x9 I r1 hx hd (aLc hd) (λtk=>⟨.bl _,H,I.tok _,rfl,q⟩)
def xIs(n:Ty)(t:XT):XT:=λρ Q=>t ρ λs ρ'=>match s.d with
 | .scr _ _=>False
 | .ins _ _=>False
 | .exc _=>False
 |d=>Q (.tr (.bl (isT n d))) ρ'
theorem vL{X:Cx}{Ex:ExT}{e:Expr}{t:XT}{nm:Str}{p q pos:Pos}(n:Ty)(hm:X.mg "isinstance" = none)(h:XE X Ex e t)(hT:PE X (.Name nm q) (tC (.ty n.nm)))(hg:Gl X "isinstance":=by rfl)
  (he:starEach [e,.Name nm q] X.env=(false,eval e X.env)::starEach [.Name nm q] X.env:=by rfl) (Gc:starEach [.Name nm q] X.env=(false,eval (.Name nm q) X.env)::starEach [] X.env:=by rfl) (A0:(backTo pos (starEach [.Name nm q] X.env)).any (·.1)=false:=by rfl):XE X Ex (.Call (.Name "isinstance" p) [e,.Name nm q] [] pos) (xIs n t):=λF =>
 (gb_ (aHb n) hg hm fl_ (lK (h F) (lK hT xJ Gc) he) (by decide) (by decide) he A0).weak fun σ H Q=>by
  rintro⟨ρ,fr,Qx,E,t,k⟩
  refine⟨ρ,fr,_,E,t,λv s H' ρ' E' q=>?_⟩
  obtain⟨R,hx⟩:=E'.one
  generalize hd:s.d=d at q hx
  cases d with
  |scr _ _=>exact q.elim
  |ins _ _=>exact q.elim
  |exc _=>exact q.elim
  |_=>exact⟨v,_,rfl,hx.to R.hv,trivial,k _ _ H' ρ' (EOk.back E'.len (R.add (IsX.of_bl _))) q⟩
def Cal(P:Program)(w:World)(K:cZ)(mg:kP)(base:Heap)(j:Nat)(x:Str)(ps:List Str)(sp:Sp):Prop:=∃f fd,FnOk P w K mg base CX0 j f fd ps sp/\Binds K fd ps []/\PySem.W.keepIn K (.ref f)=true/\mg x=some (.ref f)
theorem uA{X:Cx}{j:Nat}{x:Str}{ps:List Str}{sp:Sp}{e:Expr}{es:List Expr}{t:TA}{p pos:Pos}(C:Cal X.prog X.w X.K X.mg X.base j x ps sp)(hr:Room j X.A)(ha:PA X (e::es) t)(hg:Gl X x:=by rfl)(Bk:(x == ("__debug__" : Str))=false:=by decide)
  (he:starEach (e::es) X.env=(false,eval e X.env)::starEach es X.env:=by rfl) (A0:(backTo pos (starEach es X.env)).any (·.1)=false:=by rfl):PE X (.Call (.Name x p) (e::es) [] pos) (aCu sp [] E0 t):=by
 obtain⟨f,fd,G,b,k,m⟩:=C
 exact f_ G hr hg m k b .nil aOe ha Bk he A0
def q_(Hs H H':Hp):Sv->V->Prop
 | .tr d,v=>IsX (ext Hs H H') d v
 | .ol l,v=>∃a vs,v=.ref a/\H a=none/\H' a=some (.lst vs)/\All2 (IsX (hid [a] (ext Hs H H'))) l vs
 | .od l,v=>∃a ws,v=.ref a/\H a=none/\H' a=some (.dK ws)/\All2 (KvX (hid [a] (ext Hs H H'))) l ws
 | .ow o,v=>o.fp.Nodup/\(∀a∈o.fp,H a=none)/\OwOk (hid o.fp (ext Hs H H')) H' o v
def spX(g:GC):Sp:=λvs H Q _=>∃Hs ds Qx,Same Hs H/\All2 (IsX Hs) ds vs/\g ds Qx/\∀s v H',Same H H'->q_ Hs H H' s v->Qx s->Q v H'
section
variable{F:Fm}{P:List Rw}{H H':Hp}{a:Addr}{s:Sv}{v:V}
theorem uW(R:Rep F P H)(e:Same H H'):Same (ext (hid (bJ P) (F.vis H)) H H') (hid (bJ P) (F.vis H')):=λb o hb=>by
 cases q:H b with
 |none =>
  rw[kH q]at hb
  exact aU.mpr ⟨R.not_own q,(kH (R.fresh q)).trans hb⟩
 |some u =>
  rw[jH q]at hb
  exact pF (ge_ e) _ _ hb
theorem Rep.adopt(R:Rep F P H)(e:Same H H')(ha:H a=none)(hA:dI (.v s,some (.ref a))=[a])(h:RowOk (a::bJ P) (F.vis H') H' (.v s,some (.ref a))):Rep F ((.v s,some (.ref a))::P) H':=by
 have Aw:=R.not_own ha
 have hq:=R.fresh ha
 have R':=R.grow e
 refine⟨by rw[iO hA];exact cE.mpr ⟨Aw,R.nd⟩,λr hr=>?_,λr hr b hb=>?_,R'.kp,R'.lv⟩
 ·rw [iO hA]
  rcases aF.mp hr with rfl | hr
  ·exact h
  ·refine (R.ok r hr).mono (.of fun b o hb => ?_) fun b hb => ?_
   ·have An:=aU.mp hb
    have Fj:b≠a:=λz=>by have:=R.vis _ _ An.2;rw[z,ha]at this;cases this
    exact aU.mpr ⟨λz=>(aF.mp z).elim Fj An.1,ge_ e _ _ An.2⟩
   ·obtain ⟨o,ho⟩:=R.own_in (cw_ hr hb)
    rw[ho,e _ _ ho]
 ·rcases aF.mp hr with rfl | hr
  ·cases eq1 hA hb;exact hq
  ·exact R.fr r hr b hb
theorem Rep.adoptW{o:Ow}(R:Rep F P H)(e:Same H H')(hn:o.fp.Nodup)(ha:∀a∈o.fp,H a=none)(h:OwOk (hid (o.fp++bJ P) (F.vis H')) H' o v):Rep F ((.v (.ow o),some v)::P) H':=by
 have R':=R.grow e
 have hO:bJ ((.v (.ow o),some v)::P)=o.fp++bJ P:=jK
 have Ge:∀a∈o.fp,a∉bJ P:=λa h1=>R.not_own (ha a h1)
 refine⟨?_,λr hr=>?_,λr hr b hb=>?_,R'.kp,R'.lv⟩
 ·rw [hO]
  exact cA.mpr ⟨hn,R.nd,λa h1 b h2 z=>Ge a h1 (z ▸ h2)⟩
 ·rw [hO]
  rcases aF.mp hr with rfl | hr
  ·exact⟨v,rfl,h⟩
  ·refine (R.ok r hr).mono (.of fun b u hb => ?_) fun b hb => ?_
   ·have An:=aU.mp hb
    refine aU.mpr ⟨λz=>(bF.mp z).elim (λz=>?_) An.1,ge_ e _ _ An.2⟩
    have:=R.vis _ _ An.2;rw[ha b z]at this;cases this
   ·obtain ⟨u,hu⟩:=R.own_in (cw_ hr hb)
    rw[hu,e _ _ hu]
 ·rcases aF.mp hr with rfl | hr
  ·exact R.fresh (ha b hb)
  ·exact R.fr r hr b hb
theorem xE(R:Rep F P H)(e:Same H H')(ha:H a=none):Same (hid [a] (ext (hid (bJ P) (F.vis H)) H H')) (hid (a::bJ P) (F.vis H')):=λb o hb=>by
 have An:=aU.mp hb
 have:=aU.mp (uW R e _ _ An.2)
 exact aU.mpr ⟨λz=>(aF.mp z).elim (λz=>An.1 (by rw[z];exact aA)) this.1,this.2⟩
theorem Rep.res(R:Rep F P H)(e:Same H H')(h:q_ (hid (bJ P) (F.vis H)) H H' s v):Rep F ((.v s,some v)::P) H':=by
 match s,h with
 | .tr d,h=>exact(R.grow e).add (IsX.to h (uW R e))
 | .ol l,⟨a,vs,h1,h2,h3,h4⟩ =>
  subst h1
  exact R.adopt e h2 rfl ⟨a,vs,rfl,h3,h4.imp λ_ _ z=>z.to (xE R e h2)⟩
 | .od l,⟨a,vs,h1,h2,h3,h4⟩ =>
  subst h1
  exact R.adopt e h2 rfl ⟨a,vs,rfl,h3,h4.imp λ_ _ z=>z.to (xE R e h2)⟩
 | .ow o,⟨h1,h2,h3⟩ =>
  refine R.adoptW e h1 h2 (OwOk.mono (.of λb u hb=>?_) o v (λ_ _=>rfl) h3)
  have An:=aU.mp hb
  have:=aU.mp (uW R e _ _ An.2)
  exact aU.mpr ⟨λz=>(bF.mp z).elim An.1 this.1,this.2⟩
end
theorem iE{X:Cx}{Ex:ExT}{j:Nat}{x:Str}{ps:List Str}{g:GC}{e:Expr}{es:List Expr}{u:XA}{p pos:Pos}(C:Cal X.prog X.w X.K X.mg X.base j x ps (spX g))(hr:Room j X.A)(ha:XAs X Ex (e::es) u)(hg:Gl X x:=by rfl)(Bk:(x == ("__debug__" : Str))=false:=by decide)
  (he:starEach (e::es) X.env=(false,eval e X.env)::starEach es X.env:=by rfl) (A0:(backTo pos (starEach es X.env)).any (·.1)=false:=by rfl):XE X Ex (.Call (.Name x p) (e::es) [] pos) (cX g u):=λF=>(uA C hr (ha F) hg Bk he A0).weak λσ H Q=>by
 rintro⟨ρ,fr,Qx,E,t,k⟩
 refine⟨ρ,fr,_,E,t,λvs ss H2 ρ2 hl E2 q2=>?_⟩
 obtain⟨R,hs⟩:=E2.many hl
 rw[aV]
 exact⟨_,_,_,R.hv,hs,q2,λs v H' e hr q=>k v s H' ρ2 (EOk.back E2.len (R.res e hr)) q⟩
abbrev GB:=List Dx->List Dx->(Dx->List Dx->Prop)->Prop
def spB(g:GB):Sp:=λvs H Q _=>∃p ws l vr Hs ds Qx,vs=.ref p::vr/\H p=some (.lst ws)/\Same Hs H/\Hs p=none/\All2 (IsX Hs) l ws/\All2 (IsX Hs) ds vr/\g l ds Qx /\
 ∀d v l' ws' H',SameX p H H'->H' p=some (.lst ws')->All2 (IsX (hid [p] (ext Hs H H'))) l' ws'->IsX (ext Hs H H') d v->Qx d l'->Q v H'
def kG:Sl->Option (List Dx×(List Dx->Sl))
 | .bw l=>some (l,.bw)
 | .v (.ol l)=>some (l,λl'=>.v (.ol l'))
 |_=>none
def dO(g:GB)(i:Nat)(u:XA):XT:=λρ Q=>((ρ[i]?).bind kG).isSome=true/\u ρ λss ρ'=>match (ρ'[i]?).bind kG with
 |some (l,f)=>g l (ss.map Sv.d) λd l'=>Q (.tr d) (ρ'.set i (f l'))
 |none=>False
section
variable{F:Fm}{P:List Rw}{H H':Hp}{a p:Addr}{s:Sv}{v:V}{r r':Rw}
theorem Rep.called(R:Rep F (r::P) H)(hA:dI r=[p])(Hh:dI r'=[p])(hF:FrOk F r p->FrOk F r' p)(e:SameX p H H')(hp:∃o,H' p=some o)(h:RowOk (p::bJ P) (F.vis H') H' r'):Rep F (r'::P) H':=by
 have hn:=R.nd
 rw[iO hA]at hn
 have Fu:=(cE.mp hn).1
 have R1:=R.ok
 rw[iO hA]at R1
 have C7:=R.fr r aA p (aXy hA)
 have ev:Same (hid (p::bJ P) (F.vis H)) (hid (p::bJ P) (F.vis H')):=λb o hb=>by
  have An:=aU.mp hb
  have G1:b≠p:=λz=>An.1 (by rw[z];exact aA)
  refine aU.mpr ⟨An.1,?_⟩
  cases q:F.H0 b with
  |none=>exact(kH q).trans (mS ((kH q).symm.trans An.2) λo h=>e.get G1 h)
  |some u=>exact(jH q).trans ((jH q).symm.trans An.2)
 refine⟨by rw[iO Hh];exact hn,λx hx=>?_,λx hx b hb=>?_,λb u h1 h2=>?_,λb hb=>?_⟩
 ·rw [iO Hh]
  rcases aF.mp hx with rfl | hx
  ·exact h
  ·refine (R1 x (aC _ hx)).mono (.of ev) fun b hb => ?_
   have G1:b≠p:=λz=>Fu (z ▸ cw_ hx hb)
   obtain⟨o,ho⟩:=R.own_in (cw_ (aC _ hx) hb)
   rw[ho,e.get G1 ho]
 ·rcases aF.mp hx with rfl | hx
  ·cases eq1 Hh hb;exact hF C7
  ·exact R.fr x (aC _ hx) b hb
 ·have hb:=R.kp b u h1 h2
  by_cases z:b=p
  ·subst z
   rcases C7.or with C7 | C7
   ·exact absurd C7 h2
   ·rw[C7]at h1;cases h1
  ·exact e.get z hb
 ·by_cases z:b=p
  ·subst z;exact hp
  ·obtain ⟨o,ho⟩:=R.lv b hb
   exact⟨o,e.get z ho⟩
theorem hp_(R:Rep F (r::P) H)(hA:dI r=[p])(e:SameX p H H'):Same (ext (hid (bJ (r::P)) (F.vis H)) H H') (hid (bJ (r::P)) (F.vis H')):=λb o hb=>by
 have hpo:p∈bJ (r::P):=by rw[iO hA];exact aA
 cases q:H b with
 |none =>
  rw[kH q]at hb
  exact aU.mpr ⟨R.not_own q,(kH (R.fresh q)).trans hb⟩
 |some u =>
  rw[jH q]at hb
  have An:=aU.mp hb
  have G1:b≠p:=λz=>An.1 (by rw[z];exact hpo)
  refine aU.mpr ⟨An.1,?_⟩
  cases q:F.H0 b with
  |none=>exact(kH q).trans (mS ((kH q).symm.trans An.2) λo h=>e.get G1 h)
  |some u=>exact(jH q).trans ((jH q).symm.trans An.2)
end
theorem gd_{sl:Sl}{x:Option V}{l:List Dx}{f:List Dx->Sl}{F:Fm}{P:List Rw}{H:Hp}(h:kG sl=some (l,f))(R:Rep F ((sl,x)::P) H):∃p ws,x=some (.ref p)/\H p=some (.lst ws)/\dI (sl,some (.ref p))=[p]/\All2 (IsX (hid (p::bJ P) (F.vis H))) l ws /\
  ∀l',dI (f l',some (.ref p))=[p]/\(FrOk F (sl,some (.ref p)) p->FrOk F (f l',some (.ref p)) p)/\∀{O:List Addr} {G H':Hp} {ws':List V},H' p=some (.lst ws')->All2 (IsX (hid O G)) l' ws'->RowOk O G H' (f l',some (.ref p)):=by
 match sl,h with
 | .bw l,h =>
  cases h
  obtain⟨p,ws,h1,h2,h3⟩:=R.atB
  exact⟨p,ws,h1,h2,rfl,h3,λl'=>⟨rfl,id,λa b=>⟨p,_,rfl,a,b⟩⟩⟩
 | .v (.ol l),h =>
  cases h
  obtain⟨p,ws,h1,h2,h3⟩:=R.atL
  exact⟨p,ws,h1,h2,rfl,h3,λl'=>⟨rfl,id,λa b=>⟨p,_,rfl,a,b⟩⟩⟩
theorem jB{X:Cx}{Ex:ExT}{j i:Nat}{x:Str}{ps:List Str}{g:GB}{e:Expr}{es:List Expr}{u:XA}{p pos:Pos}(C:Cal X.prog X.w X.K X.mg X.base j x ps (spB g))(hr:Room j X.A)(hv:PE X e (fN i))(ha:XAs X Ex es u)(hg:Gl X x:=by rfl)(Bk:(x == ("__debug__" : Str))=false:=by decide)
  (he:starEach (e::es) X.env=(false,eval e X.env)::starEach es X.env:=by rfl) (A0:(backTo pos (starEach es X.env)).any (·.1)=false:=by rfl):XE X Ex (.Call (.Name x p) (e::es) [] pos) (dO g i u):=λF=>(uA C hr (lK hv (ha F) he) hg Bk he A0).weak λσ H Q=>by
 rintro⟨ρ,fr,Qx,E,⟨t0,t⟩,k⟩
 obtain⟨⟨l0,f0⟩,h0⟩:=cN.mp t0
 obtain⟨Ho,h1,h2⟩:=aX.mp h0
 obtain⟨v,hv,hi,R0⟩:=mD E h1
 obtain⟨p,_,rfl,_⟩:=gd_ h2 R0
 refine⟨.ref p,hv,ρ,fr,_,E,t,λvs ss H2 ρ2 hl E2 q2=>?_⟩
 obtain⟨R,hs⟩:=E2.many hl
 split at q2
 ·rename_i l f hb
  obtain⟨sl,h3,h4⟩:=aX.mp hb
  have E3:EOk F ρ2 σ fr H2:=⟨E2.len,R⟩
  obtain⟨v',A2,Fw,R2⟩:=mD E3 h3
  rw[hv]at A2
  cases A2
  obtain⟨p',ws,ep,h5,h6,h7,h8⟩:=gd_ h4 R2
  cases ep
  rw[aV]
  have hO:(bJ (ρ2.zip σ++fr)).Perm (bJ ((sl,some (V.ref p))::((ρ2.zip σ).eraseIdx i++fr))):=((co_ h3 hv).append_right fr).flatMap_right _
  have Mj:∀a∈bJ ((sl,some (V.ref p))::((ρ2.zip σ).eraseIdx i++fr)),a∈bJ (ρ2.zip σ++fr):=λa ha=>hO.mem_iff.mpr ha
  refine⟨p,ws,l,vs,hid (bJ ((sl,some (V.ref p))::((ρ2.zip σ).eraseIdx i++fr))) (F.vis H2),_,_,rfl,h5,R2.hv,?_,?_,hs.imp λ_ _ z=>z.to (kW Mj),q2,λd w l' ws' H' e hp Fg hd q=>?_⟩
  ·unfold hid
   rw[if_pos (by rw[iO h6];exact aA)]
  ·rw [iO h6]
   exact h7
  ·obtain ⟨k1,k2,k3⟩:=h8 l'
   have ev:=hp_ R2 h6 e
   have R3:=R2.called h6 k1 k2 e ⟨_,hp⟩ (k3 hp (Fg.imp λ_ _ z=>z.to λb o hb=>by
    have An:=aU.mp hb
    have:=ev _ _ An.2
    rw[iO h6]at this
    exact this))
   refine k w (.tr d) H' _ (EOk.back (by rw[bG];exact E2.len) ?_) q
   have R4:=R3.add (d:=d) (v:=w) (hd.to λb o hb=>by
    have:=ev _ _ hb
    rw[iO h6]at this
    rw[iO k1]
    exact this)
   exact R4.perm (((p7 E2.len Fw hv).append_right fr).symm.cons _)
 ·exact q2.elim
end Lf
variable{X:L2.Cx}{Ex:Lf.ExT}
namespace L2
open PySem
theorem PI.weak{X:Cx}{tg e:Expr}{t u:TI}(h:PI X tg e t)(w:∀σ H Q,u σ H Q->t σ H Q):PI X tg e u:=λAa s σ H Q I q=>h Aa s σ H Q I (w σ H Q q)
theorem PCs.weak{X:Cx}{e:List Expr}{t u:TT}(h:PCs X e t)(w:∀σ H Q,u σ H Q->t σ H Q):PCs X e u:=λAa s σ H Q I q=>h Aa s σ H Q I (w σ H Q q)
end L2
namespace Lf
open PySem L2
abbrev XI:=En->(List Dx->En->Prop)->Prop
structure ItX(F:Fm)(J:It)(row:List Rw)(ds:List Dx):Prop where
 go:∀P H i d,Rep F (row++P) H->ds[i]? = some d->J.go i H
 stop:∀P H i,Rep F (row++P) H->ds.length<=i->J.stop i H
 yld:∀P H i d x H',Rep F (row++P) H->ds[i]? = some d->J.yld i H x H'->Rep F ((vT d,some x)::(row++P)) H'
def tXi(F:Fm)(t:XI):TI:=λσ H R=>∃ρ fr Qx,EOk F ρ σ fr H/\t ρ Qx/\∀J H' ρ' row ds,EOk F ρ' σ (row++fr) H'->ItX F J row ds->Qx ds ρ'->R J H'
def XIt(X:Cx)(Ex:ExT)(tg iter:Expr)(t:XI):Prop:=∀F,[OkF X Ex F]->PI X tg iter (tXi F t)
def xiL(t:XT):XI:=λρ Q=>t ρ λs ρ'=>match s.d with
 | .lst l=>Q l ρ'
 |_=>False
def xiT(t:XT):XI:=λρ Q=>t ρ λs ρ'=>match s.d with
 | .tup l=>Q l ρ'
 |_=>False
theorem aFp{F:Fm}{K:cZ}{a:Addr}{l:List Dx}:ItX F (Itl K a) [(vT (.lst l),some (.ref a))] l where
 go:=λP H i d R hd=>by
  obtain⟨v,e,h⟩:=R.atT;cases e
  obtain⟨_,vs,e,h1,h2⟩:=h.lst_eq;cases e
  obtain⟨x,h3,_⟩:=h2.at hd
  exact⟨vs,x,SqL.of (R.hv _ _ h1),h3⟩
 stop:=λP H i R hi=>by
  obtain⟨v,e,h⟩:=R.atT;cases e
  obtain⟨_,vs,e,h1,h2⟩:=h.lst_eq;cases e
  exact⟨vs,SqL.of (R.hv _ _ h1),by rw[h2.len];exact hi⟩
 yld:=λP H i d x H' R hd q=>by
  obtain⟨rfl,q⟩:=q
  obtain⟨v,e,h⟩:=R.atT;cases e
  obtain⟨_,vs,e,h1,h2⟩:=h.lst_eq;cases e
  obtain⟨y,h3,h4⟩:=h2.at hd
  rw[q vs (SqL.of (R.hv _ _ h1))]at h3
  cases h3
  exact R.add h4
theorem aLh{F:Fm}{K:cZ}{a:Addr}{l:List Dx}:ItX F (Itt K a) [(vT (.tup l),some (.ref a))] l where
 go:=λP H i d R hd=>by
  obtain⟨v,e,h⟩:=R.atT;cases e
  obtain⟨_,vs,e,h1,h2⟩:=h.tup_eq;cases e
  obtain⟨x,h3,_⟩:=h2.at hd
  exact⟨vs,x,SqT.of (R.hv _ _ h1),h3⟩
 stop:=λP H i R hi=>by
  obtain⟨v,e,h⟩:=R.atT;cases e
  obtain⟨_,vs,e,h1,h2⟩:=h.tup_eq;cases e
  exact⟨vs,SqT.of (R.hv _ _ h1),by rw[h2.len];exact hi⟩
 yld:=λP H i d x H' R hd q=>by
  obtain⟨rfl,q⟩:=q
  obtain⟨v,e,h⟩:=R.atT;cases e
  obtain⟨_,vs,e,h1,h2⟩:=h.tup_eq;cases e
  obtain⟨y,h3,h4⟩:=h2.at hd
  rw[q vs (SqT.of (R.hv _ _ h1))]at h3
  cases h3
  exact R.add h4
section
variable{tg l a b:Expr}{t:XT}{u:XA}{p pos:Pos}
theorem dz_(h:XE X Ex l t):XIt X Ex tg l (xiL t):=λF=>(aJo (h F)).weak λσ H R=>by
 rintro⟨ρ,fr,Qx,E,t,k⟩
 refine⟨ρ,fr,_,E,t,λv s H' ρ' E' q=>?_⟩
 split at q
 ·rename_i m hm
  have R1:=E'.front.frz
  rw[hm]at R1
  obtain⟨v',e,h⟩:=R1.atT;cases e
  obtain⟨c,vs,rfl,h1,h2⟩:=h.lst_eq
  exact⟨c,rfl,⟨vs,SqL.of (R1.hv _ _ h1)⟩,k _ H' ρ' [(vT (.lst m),some (.ref c))] m (EOk.back E'.len R1) aFp q⟩
 ·exact q.elim
theorem aPg(h:XE X Ex l t):XIt X Ex tg l (xiT t):=λF=>(aQw (h F)).weak λσ H R=>by
 rintro⟨ρ,fr,Qx,E,t,k⟩
 refine⟨ρ,fr,_,E,t,λv s H' ρ' E' q=>?_⟩
 split at q
 ·rename_i m hm
  have R1:=E'.front.frz
  rw[hm]at R1
  obtain⟨v',e,h⟩:=R1.atT;cases e
  obtain⟨c,vs,rfl,h1,h2⟩:=h.tup_eq
  exact⟨c,rfl,⟨vs,SqT.of (R1.hv _ _ h1)⟩,k _ H' ρ' [(vT (.tup m),some (.ref c))] m (EOk.back E'.len R1) aLh q⟩
 ·exact q.elim
def tN(lo:Int)(n:Nat):List Dx:=(List.range n).map λk:Nat=>.int (lo+(k:Int))
theorem e6{lo:Int}{n i:Nat}{d:Dx}(h:(tN lo n)[i]? = some d):i<n/\d=.int (lo+i):=by
 unfold tN at h
 rw[bV]at h
 obtain⟨k,h1,h2⟩:=dJ.mp h
 obtain⟨h3,h4⟩:=aY.mp h1
 rw[List.getElem_range]at h4
 rw[cD]at h3
 subst h4
 exact⟨h3,h2.symm⟩
theorem x8{F:Fm}{lo:Int}{n:Nat}:ItX F (Itr lo n) [] (tN lo n)where
 go:=λP H i d R hd=>(e6 hd).1
 stop:=λP H i R hi=>by unfold tN at hi;rw[aG,cD]at hi;exact hi
 yld:=λP H i d x H' R hd q=>by
  obtain⟨rfl,rfl⟩:=q
  rw[(e6 hd).2]
  exact R.add (IsX.of_int _)
def aVu(u:XA):XI:=λρ Q=>u ρ λss ρ'=>match ss.map Sv.d with
 | [.int j]=>(-(2^62)<=j/\j<2^62)/\Q (tN 0 j.toNat) ρ'
 |_=>False
theorem cx_(hm:X.mg "range" = none)(ha:XAs X Ex [a] u)(hg:Gl X "range":=by rfl)(hs:starEach [a] X.env=[(false,eval a X.env)]:=by rfl):XIt X Ex tg (.Call (.Name "range" p) [a] [] pos) (aVu u):=λF=>(u_ hg hm (ha F) hs).weak λσ H R=>by
 rintro⟨ρ,fr,Qx,E,t,k⟩
 refine⟨ρ,fr,_,E,t,λvs ss H2 ρ2 hl E2 q=>?_⟩
 obtain⟨R,hs⟩:=E2.many hl
 split at q
 ·rename_i j hj
  rw[hj]at hs
  obtain⟨x,rfl,hx⟩:=pQ hs
  cases hx.int_eq
  exact⟨j,rfl,q.1.1,q.1.2,k _ H2 ρ2 [] _ ⟨E2.len,R⟩ x8 q.2⟩
 ·exact q.elim
end
abbrev XG:=Dx->En->(En->Prop)->Prop
def GX(n:Nat)(g:TG)(gx:XG):Prop:=∀(F:Fm) (ρ:En) (σ:St) (fr:List Rw) (H:Hp) (d:Dx) (x:V) (Q:St->Hp->Prop) (Qx:En->Prop),EOk F ρ σ ((vT d,some x)::fr) H->gx d ρ Qx ->
 (∀σ' H' ρ',EOk F ρ' σ' fr H'->σ'.length=σ.length->(∀i,n<=i->σ'[i]? = σ[i]?)->Qx ρ'->Q σ' H')->g x σ H Q
def gxN(i:Nat):XG:=λd ρ Q=>Q (ρ.set i (vT d))
theorem hq_{F:Fm}{ρ:En}{σ:St}{fr:List Rw}{H:Hp}{s:Sv}{x:V}{i:Nat}(E:EOk F ρ σ ((.v s,some x)::fr) H):EOk F (ρ.set i (.v s)) (σ.set i (some x)) fr H:=by
 by_cases hi:i<ρ.length
 ·refine ⟨by rw [bG,bG]; exact E.len,?_⟩
  have hz:=aDu (l:=ρ.zip σ) (i:=i) (aO (by rw[List.length_zip];have:=E.len;omega))
  have R:=E.front.perm ((hz.append_right fr).cons _)
  exact(R.perm (.swap _ _ _)).tail.perm ((mF E.len hi).append_right fr).symm
 ·rw [cO (by omega),cO (by have:=E.len; omega)]
  exact E.drop
theorem sA{n i:Nat}(h:i<n):GX n (jU i) (gxN i):=λF ρ σ fr H d x Q Qx E g k=>k _ H _ (hq_ E) (bG) (λj hj=>dD (by omega)) g
@[reducible] def aTe:List Nat->TGs
 | []=>aLx
 |i::is=>k7 (jU i) (aTe is)
def gxs:List Nat->List Dx->En->(En->Prop)->Prop
 | [],[],ρ,Q=>Q ρ
 |i::is,d::ds,ρ,Q=>gxs is ds (ρ.set i (.v (.tr d))) Q
 |_,_,_,_=>False
def gxT(is:List Nat):XG:=λd ρ Q=>match d with
 | .tup ds=>gxs is ds ρ Q
 |_=>False
theorem aFx{n:Nat}{F:Fm}{fr:List Rw}{H:Hp}{Q:St->Hp->Prop}{Qx:En->Prop}:∀{is:List Nat} {ds:List Dx} {xs:List V} {ρ:En} {σ:St},(∀i∈is,i<n)->EOk F ρ σ fr H->All2 (IsX (hid (bJ (ρ.zip σ++fr)) (F.vis H))) ds xs->gxs is ds ρ Qx ->
  (∀σ' ρ',EOk F ρ' σ' fr H->σ'.length=σ.length->(∀i,n<=i->σ'[i]? = σ[i]?)->Qx ρ'->Q σ' H)->aTe is xs σ H Q
 | [],[],xs,ρ,σ,_,E,ha,g,k=>⟨ha,k σ ρ E rfl (λ_ _=>rfl) g⟩
 |i::is,d::ds,xs,ρ,σ,hi,E,⟨x,xr,e,h1,h2⟩,g,k=>by
  have E1:EOk F (ρ.set i (vT d)) (σ.set i (some x)) fr H:=hq_ (EOk.back E.len (E.rep.add h1))
  refine⟨x,xr,e,aFx (λj hj=>hi j (aC _ hj)) E1 (h2.imp λa b z=>z.to (kW λc hc=>?_)) g λσ' ρ' E' hl hs q=>k σ' ρ' E' (hl.trans bG) (λj hj=>(hs j hj).trans (dD (by have:=hi i aA;omega))) q⟩
  by_cases C6:i<ρ.length
  ·have hp:=((mF (s:=.v (.tr d)) (v:=some x) E.len C6).append_right fr).flatMap_right dI
   have hz:=((aDu (l:=ρ.zip σ) (i:=i) (aO (by rw[List.length_zip];have:=E.len;omega))).append_right fr).flatMap_right dI
   refine hz.mem_iff.mpr ?_
   have:=hp.mem_iff.mp hc
   rw[aP,List.flatMap_cons]at this
   rw[aP,List.flatMap_cons]
   rcases bF.mp this with z | z
   ·cases z
   ·exact aE _ z
  ·rw [cO (by omega),cO (by have:=E.len; omega)] at hc
   exact hc
 | [],_::_,_,_,_,_,_,_,g,_=>g.elim
 |_::_,[],_,_,_,_,_,_,g,_=>g.elim
theorem j9{Q:En->Prop}:∀{is:List Nat} {ds:List Dx} {ρ:En},gxs is ds ρ Q->ds.length=is.length
 | [],[],_,_=>rfl
 |i::is,d::ds,ρ,g=>congrArg (· + 1) (j9 (is:=is) (ds:=ds) (ρ:=ρ.set i (.v (.tr d))) g)
 | [],_::_,_,g=>g.elim
 |_::_,[],_,g=>g.elim
theorem gm_{K:cZ}{n m:Nat}{is:List Nat}(hm:is.length=m)(h:∀i∈is,i<n):GX n (aLv K m (aTe is)) (gxT is):=λF ρ σ fr H d x Q Qx E g k=>by
 unfold gxT at g
 split at g
 ·obtain ⟨R,hx⟩:=E.one
  obtain⟨a,vs,rfl,h1,h2⟩:=hx.tup_eq
  exact⟨a,vs,rfl,SqT.of (R.hv _ _ h1),by rw[h2.len,j9 g,hm],aFx h E.drop h2 g λσ' ρ' E' hl hs q=>k σ' H ρ' E' hl hs q⟩
 ·exact g.elim
def aPj:XC:=λρ Q=>Q true ρ
def XCs(X:Cx)(Ex:ExT)(ifs:List Expr)(t:XC):Prop:=∀F,[OkF X Ex F]->PCs X ifs (tXc F t)
theorem dp_{X:Cx}{Ex:ExT}:XCs X Ex [] aPj:=λF=>(aJz (X:=X)).weak λσ H Q=>by
 rintro⟨ρ,fr,Qx,E,t,k⟩
 exact k true H ρ E t
theorem sS{c:Expr}{t:XC}(h:XTe X Ex c t):XCs X Ex [c] t:=λF=>aJy (h F)
def dP(n:Nat)(gx:XG)(tc:XC)(te:XT)(Q:List Dx->List Sl->Prop):List Dx->List Sl->List Dx->Prop
 | [],cs,Ag=>Q Ag cs
 |d::ds,cs,Ag=>gx d (List.replicate n .un++cs) λρ1=>tc ρ1 λb ρ2=>if b=true then te ρ2 λs ρ3=>dP n gx tc te Q ds (ρ3.drop n) (Ag++[s.d])else dP n gx tc te Q ds (ρ2.drop n) Ag
def cut:List Nat->En->En
 | [],ρ=>ρ
 |j::js,ρ=>cut js (ρ.set j .un)
def qK(outs:List Nat)(ρ:En):List Sl:=outs.map λj=>(ρ[j]?).getD .un
def back:List Nat->List Sl->En->En
 |j::js,c::cs,ρ=>back js cs (ρ.set j c)
 |_,_,ρ=>ρ
def aCb(n:Nat)(outs:List Nat)(ti:XI)(gx:XG)(tc:XC)(te:XT):XT:=λρ Q=>ti ρ λds ρ1=>ds.length<=1000000/\dP n gx tc te (λAg cs=>Q (.ol Ag) (back outs cs ρ1)) ds (qK outs ρ1) []
theorem sw{α:Type}{A B C:List α}:(A++(B++C)).Perm (B++(A++C)):=by
 rw[<-aL,<-aL]
 exact cY.append_right C
section
variable{F:Fm}{H:Hp}{σ:St}
abbrev jZ(σ:St)(outs:List Nat):St:=outs.map λj=>(σ[j]?).join
theorem aHa{js:List Nat}{j:Nat}{s:Sl}{ρ:En}(h:j∉js):qK js (ρ.set j s)=qK js ρ:=by
 unfold qK
 refine List.map_congr_left λk hk=>?_
 rw[dD (λz=>h (by rw[z];exact hk))]
theorem nH:∀{js:List Nat} {ρ:En},(cut js ρ).length=ρ.length
 | [],_=>rfl
 |j::js,ρ=>(nH (js:=js)).trans bG
theorem o8:∀{js:List Nat} {j:Nat} {s:Sl} {ρ:En},j∉js->cut js (ρ.set j s)=(cut js ρ).set j s
 | [],_,_,_,_=>rfl
 |k::js,j,s,ρ,h=>by
  show cut js ((ρ.set j s).set k .un)=(cut js (ρ.set k .un)).set j s
  rw[List.set_comm _ _ (λz=>h (by rw[z];exact aA)),o8 λz=>h (aC _ z)]
theorem e8:∀{outs:List Nat} {ρ:En} {T:List Rw},outs.Nodup->ρ.length=σ.length->Rep F (ρ.zip σ++T) H->Rep F ((qK outs ρ).zip (jZ σ outs)++((cut outs ρ).zip σ++T)) H
 | [],_,_,_,_,R=>R
 |j::js,ρ,T,hn,hl,R=>by
  have Dc:=cE.mp hn
  have step:Rep F ((ρ.set j .un).zip σ++(((ρ[j]?).getD .un,(σ[j]?).join)::T)) H:=by
   by_cases hj:j<ρ.length
   ·have h1:ρ[j]? = some ρ[j]:=aO hj
    have h2:σ[j]? = some (σ[j]'(by omega)):=aO (by omega)
    have R1:=R.perm ((co_ h1 h2).append_right T)
    have R2:=R1.addU (x:=σ[j]'(by omega))
    rw[h1,h2]
    refine R2.perm ?_
    refine(List.Perm.swap _ _ _).trans ?_
    exact(((p7 hl hj h2).append_right T).symm.cons _).trans qC.symm
   ·rw [cO (by omega),List.getElem?_eq_none (by omega),List.getElem?_eq_none (by omega)]
    exact(R.addU (x:=none)).perm qC.symm
  have:=e8 (outs:=js) Dc.2 (by rw[bG];exact hl) step
  rw[aHa Dc.1]at this
  show Rep F ((((ρ[j]?).getD .un,(σ[j]?).join)::(qK js ρ).zip (jZ σ js))++((cut js (ρ.set j .un)).zip σ++T)) H
  refine this.perm ?_
  refine List.Perm.trans ?_ (List.Perm.refl _)
  rw[<-aL]
  exact qC.trans (by rw[aL];exact .refl _)
theorem aDt:∀{outs:List Nat} {cs:List Sl} {ρ:En} {T:List Rw},outs.Nodup->ρ.length=σ.length->cs.length=outs.length->Rep F (cs.zip (jZ σ outs)++((cut outs ρ).zip σ++T)) H->Rep F ((back outs cs ρ).zip σ++T) H
 | [],[],_,_,_,_,_,R=>R
 | [],_::_,_,_,_,_,h,_=>by simp at h
 |_::_,[],_,_,_,_,h,_=>by simp at h
 |j::js,c::cs,ρ,T,hn,hl,hc,R=>by
  have Dc:=cE.mp hn
  refine aDt (outs:=js) (cs:=cs) (ρ:=ρ.set j c) Dc.2 (by rw[bG];exact hl) (by simpa using hc) ?_
  have R1:Rep F ((c,(σ[j]?).join)::(cs.zip (jZ σ js)++((cut js (ρ.set j .un)).zip σ++T))) H:=R
  rw[o8 Dc.1]at R1 ⊢
  have Ic:(cut js ρ).length=σ.length:=nH.trans hl
  by_cases hj:j<ρ.length
  ·have Np:j < (cut js ρ).length:=by rw [nH]; exact hj
   have h2:σ[j]? = some (σ[j]'(by omega)):=aO (by omega)
   rw[h2]at R1
   have p1:=((p7 (s:=.un) Ic Np h2).append_right T)
   have p2:=((p7 (s:=c) Ic Np h2).append_right T)
   have R2:=R1.perm ((List.Perm.append_left _ p1).cons _)
   have R3:=R2.perm ((qC.cons _).trans (.swap _ _ _))
   exact R3.tail.perm (qC.symm.trans (List.Perm.append_left _ p2.symm))
  ·have hz:(cut js ρ).length≤j:=by rw [nH]; omega
   rw[cO hz]at R1 ⊢
   exact R1.tail
theorem Rep.drops:∀{A P:List Rw},Rep F (A++P) H->Rep F P H
 | [],_,R=>R
 |_::_,_,R=>Rep.drops R.tail
theorem Rep.addUs{P:List Rw}(R:Rep F P H):∀n,Rep F (List.replicate n (.un,none)++P) H
 | 0=>R
 |n+1=>(Rep.addUs R n).addU
def mE(ds:List Dx)(xs:List V):List Rw:=(ds.zip xs).map λp=>(vT p.1,some p.2)
theorem Rep.accs:∀{ds:List Dx} {xs:List V} {P:List Rw},ds.length=xs.length->Rep F (mE ds xs++P) H->Rep F P H/\All2 (IsX (hid (bJ P) (F.vis H))) ds xs
 | [],[],P,_,R=>⟨R,rfl⟩
 | [],_::_,_,h,_=>by simp at h
 |_::_,[],_,h,_=>by simp at h
 |d::ds,x::xs,P,h,R=>by
  obtain⟨v,e,hx⟩:=Rep.atT (show Rep F ((vT d,some x)::(mE ds xs++P)) H from R)
  cases e
  obtain⟨R1,h1⟩:=Rep.accs (ds:=ds) (xs:=xs) (by simpa using h) (Rep.tail (show Rep F ((vT d,some x)::(mE ds xs++P)) H from R))
  refine⟨R1,x,xs,rfl,hx.to (kW λc hc=>?_),h1⟩
  unfold bJ
  rw[gQ]
  exact aE _ hc
end
section
variable{dsc scope:Scope}{tgs N':List Str}{outs:List Nat}{tg iter elt:Expr}{ifs:List Expr}{pos:Pos}{ti:XI}{g:TG}{gx:XG}{tc:XC}{te:XT}
theorem jm_{F:Fm}{n:Nat}(Cj:GX n g gx)(Aw:outs.Nodup){tcT:TT}{teT:TE}(htc:∀σ H Q,tXc F tc σ H Q->tcT σ H Q)(hte:∀σ H Q,tX F te σ H Q->teT σ H Q){σ:St}{H':Hp}{Q:VK}{Qx:Sv->En->Prop}{ρ':En}{fr row:List Rw}{ds:List Dx}{J:It}
  (k:∀v s H' ρ',EOk F ρ' σ ((.v s,some v)::fr) H'->Qx s ρ'->Q v H') (E':EOk F ρ' σ (row++fr) H') (hJ:ItX F J row ds) (q:ds.length<=1000000/\dP n gx tc te (λAg cs=>Qx (.ol Ag) (back outs cs ρ')) ds (qK outs ρ') []) :
  ∃W:Nat->Nat->List V->Hp->Prop,(∃m,W 0 m [] H')/\∀i m Ag H,W i m Ag H ->
  (J.stop i H/\Ag.length<=sizeLine/\∀l,H l=none->Q (.ref l) (upd H l (.lst Ag))) \/
  (J.go i H∧Ag.length < sizeLine∧∃ N:List V→Hp→Prop,(∀ acc' H',N acc' H'→∃ m',m' < m∧W (i + 1) m' acc' H')∧∀ x H',J.yld i H x H'→g x (jT n outs σ) H' fun σ2 H2=>tcT σ2 H2 fun b H3 =>
   if b=true then teT σ2 H3 λy H4=>N (Ag++[y]) H4 else N Ag H3):=by
 obtain⟨hd,q⟩:=q
 have zl:=fJ
 refine⟨λi m Ag H=>m=ds.length-i/\i<=ds.length/\∃cs accD,cs.length=outs.length/\accD.length=Ag.length/\Ag.length<=i/\Rep F (cs.zip (jZ σ outs)++(mE accD Ag++(row++((cut outs ρ').zip σ++fr)))) H /\
  dP n gx tc te (λAg cs=>Qx (.ol Ag) (back outs cs ρ')) (ds.drop i) cs accD,⟨ds.length,by simp,cF _,qK outs ρ',[],by simp[qK],rfl,bA _,?_,by simpa using q⟩,?_⟩
 ·have R:=e8 (outs:=outs) Aw E'.len E'.rep
  refine R.perm (List.Perm.append_left _ ?_)
  exact sw
 rintro i m Ag H3 ⟨rfl,hi,cs,accD,Ic,Hf,Mi,R,hq⟩
 have Dk:Rep F (row++(cs.zip (jZ σ outs)++(mE accD Ag++((cut outs ρ').zip σ++fr)))) H3:=by
  exact R.perm ((List.Perm.append_left _ sw).trans sw)
 by_cases C6:i<ds.length
 ·right
  have Jr:ds[i]? = some ds[i]:=aO C6
  rw[List.drop_eq_getElem_cons C6]at hq
  refine⟨hJ.go _ _ i _ Dk Jr,by omega,λacc' H4=>∃m',m'<ds.length-i/\(m'=ds.length-(i+1)/\i+1<=ds.length/\∃cs accD,cs.length=outs.length/\accD.length=acc'.length/\acc'.length<=i+1/\Rep F (cs.zip (jZ σ outs)++(mE accD acc'++(row++((cut outs ρ').zip σ++fr)))) H4 /\
   dP n gx tc te (λAg cs=>Qx (.ol Ag) (back outs cs ρ')) (ds.drop (i+1)) cs accD),λacc' H4 h=>h,λx H4 hy=>?_⟩
  have R4:=hJ.yld _ _ i _ x H4 Dk Jr hy
  have Kx:∀(cs:List Sl),cs.length=outs.length->(List.replicate n Sl.un++cs).zip (jT n outs σ)=List.replicate n (Sl.un,none)++cs.zip (jZ σ outs):=λcs E7=>by
   unfold jT
   rw[List.zip_append (by rw[bI,bI]),List.zip_replicate]
   simp
  have Ei:EOk F (List.replicate n .un++cs) (jT n outs σ) ((vT ds[i],some x)::(mE accD Ag++(row++((cut outs ρ').zip σ++fr)))) H4:=by
   refine⟨by rw[oV,aB,bI,Ic],?_⟩
   rw[Kx cs Ic,aL]
   refine Rep.addUs (R4.perm ?_) n
   exact((sw.trans (List.Perm.append_left _ sw)).cons _).trans qC.symm
  have At:∀{ρ3:En} {σ2:St} {H5:Hp} {accD':List Dx} {acc':List V},σ2.length=(jT n outs σ).length->(∀j,n<=j->σ2[j]? = (jT n outs σ)[j]?)->EOk F ρ3 σ2 (mE accD' acc'++(row++((cut outs ρ').zip σ++fr))) H5->accD'.length=acc'.length->acc'.length<=i+1 ->
    dP n gx tc te (λAg cs=>Qx (.ol Ag) (back outs cs ρ')) (ds.drop (i+1)) (ρ3.drop n) accD' ->
    ∃m',m'<ds.length-i/\(m'=ds.length-(i+1)/\i+1<=ds.length/\∃cs accD,cs.length=outs.length/\accD.length=acc'.length/\acc'.length<=i+1/\Rep F (cs.zip (jZ σ outs)++(mE accD acc'++(row++((cut outs ρ').zip σ++fr)))) H5 /\
     dP n gx tc te (λAg cs=>Qx (.ol Ag) (back outs cs ρ')) (ds.drop (i+1)) cs accD):=λ{ρ3 σ2 H5 accD' acc'} B8 Eb E3 h1 h2 h3=>by
   have D5:ρ3.length=n+outs.length:=by rw[E3.len,B8,oV]
   refine⟨ds.length-(i+1),by omega,rfl,C6,ρ3.drop n,accD',by rw[bS,D5];omega,h1,h2,?_,h3⟩
   have hv:σ2.drop n=jZ σ outs:=by
    apply List.ext_getElem?
    intro j
    rw[List.getElem?_drop,Eb _ (Nat.le_add_right n j)]
    unfold jT
    rw[eR (by rw[bI];omega),bI,Nat.add_sub_cancel_left]
   have hz:ρ3.zip σ2=(ρ3.take n).zip (σ2.take n)++(ρ3.drop n).zip (σ2.drop n):=by
    rw[<-List.zip_append (by rw[fR,fR,E3.len]),List.take_append_drop,List.take_append_drop]
   have R5:=E3.rep
   rw[hz,hv,aL]at R5
   exact Rep.drops R5
  refine Cj F _ _ _ H4 _ x _ _ Ei hq λσ2 H5 ρ1 E1 B8 Eb q1=>htc _ _ _ ⟨ρ1,_,_,E1,q1,λb H6 ρ2 E2 q2=>?_⟩
  cases b with
  |false=>exact At B8 Eb E2 Hf (by omega) q2
  |true =>
   refine hte _ _ _ ⟨ρ2,_,_,E2,q2,λy s H7 ρ3 E3 q3=>?_⟩
   refine At (accD':=accD++[s.d]) (acc':=Ag++[y]) B8 Eb ⟨E3.len,?_⟩ (by rw[aB,aB,Hf];rfl) (by rw[aB];show Ag.length+1<=_;omega) q3
   have R7:=(EOk.front E3).frz
   have he:mE (accD++[s.d]) (Ag++[y])=mE accD Ag++[(vT s.d,some y)]:=by
    unfold mE
    rw[List.zip_append Hf,bT]
    rfl
   rw[he,aL]
   exact R7.perm (qC.symm.trans (List.Perm.append_left _ qC.symm))
 ·left
  have Lu:i=ds.length:=by omega
  subst Lu
  rw[List.drop_length]at hq
  refine⟨hJ.stop _ _ _ Dk (bA _),by omega,λl hl=>?_⟩
  have R1:=R.perm (sw.trans (List.Perm.append_left _ sw))
  obtain⟨R2,ha⟩:=R1.accs Hf
  have R3:Rep F (row++((.v (.ol accD),some (.ref l))::(cs.zip (jZ σ outs)++((cut outs ρ').zip σ++fr)))) (upd H3 l (.lst Ag)):=(R2.newL hl ha).perm qC.symm
  have R4:Rep F (cs.zip (jZ σ outs)++((cut outs ρ').zip σ++((.v (.ol accD),some (.ref l))::fr))) (upd H3 l (.lst Ag)):=R3.drops.perm (qC.symm.trans (List.Perm.append_left _ qC.symm))
  have Me:∀{js:List Nat} {cs:List Sl} {ρ:En},(back js cs ρ).length=ρ.length:=by
   intro js
   induction js with
   |nil=>intro cs ρ;cases cs<;>rfl
   |cons j js ih=>intro cs ρ;cases cs with
    |nil=>rfl
    |cons c cs=>exact(ih (cs:=cs) (ρ:=ρ.set j c)).trans bG
  exact k _ (.ol accD) _ (back outs cs ρ') ⟨Me.trans E'.len,aDt Aw E'.len Ic R4⟩ hq
theorem c9{F:Fm}{n:Nat}(Cj:GX n g gx)(Aw:outs.Nodup):∀σ H Q,tX F (aCb n outs ti gx tc te) σ H Q->qU n outs (tXi F ti) g (tXc F tc) (tX F te) σ H Q:=by
 rintro σ H Q ⟨ρ,fr,Qx,E,t,k⟩
 exact⟨ρ,fr,_,E,t,λJ H' ρ' row ds E' hJ q=>jm_ Cj Aw (λ_ _ _ z=>z) (λ_ _ _ z=>z) k E' hJ q⟩
end
end Lf
namespace L2
open PySem
theorem PS.weak{X:Cx}{e:Stmt}{t u:TS}(h:PS X e t)(w:∀D σ H,u D σ H->t D σ H):PS X e u:=λAa s σ H D I q=>h Aa s σ H D I (w D σ H q)
theorem PSs.weak{X:Cx}{e:List Stmt}{t u:TS}(h:PSs X e t)(w:∀D σ H,u D σ H->t D σ H):PSs X e u:=λAa s σ H D I q=>h Aa s σ H D I (w D σ H q)
end L2
namespace Lf
open PySem L2
theorem ea_{dsc scope:Scope}{tgs N' N:List Str}{outs:List Nat}{tg iter elt:Expr}{ifs:List Expr}{pos:Pos}{ti:XI}{g:TG}{gx:XG}{tc:XC}{te:XT}(S:CompScope dsc scope N tgs outs N')(hi:XIt X Ex tg iter ti)(hg:∀cl C s H ex,PG (dL X N' scope cl C s H ex) tg g)(Cj:GX tgs.length g gx)(Fy:Tgt tgs.length g)
  (E7:∀cl C s H ex,XCs (dL X N' scope cl C s H ex) dR ifs tc) (he:∀cl C s H ex,XE (dL X N' scope cl C s H ex) dR elt te) (Aw:outs.Nodup:=by decide) (G3:X.N=N:=by rfl) (D3:X.env.scope=dsc:=by rfl) (hc:X.calm=true:=by rfl) (hs:∀x,foldedSetIterable iter X.env x=pure x:=by intro _;rfl) :
  XE X Ex (.ListComp elt [⟨tg,iter,ifs,0⟩] scope pos) (aCb tgs.length outs ti gx tc te):=λF =>
 (tZ S (hi F) hg Fy (λa b c d e=>E7 a b c d e F) (λa b c d e=>he a b c d e F) G3 D3 hc hs).weak (c9 Cj Aw)
structure XD where
 nx:En->Prop
 rt:Sv->En->Prop
 bk:En->Prop
 ct:En->Prop
abbrev XS:=En->XD->Prop
structure DOk(F:Fm)(n:Nat)(fr:List Rw)(D:Ends)(d:XD):Prop where
 nx:∀σ' H' ρ',σ'.length=n->EOk F ρ' σ' fr H'->d.nx ρ'->D.nx σ' H'
 rt:∀v s σ' H' ρ',σ'.length=n->EOk F ρ' σ' ((.v s,some v)::fr) H'->d.rt s ρ'->D.rt v H'
 bk:∀σ' H' ρ',σ'.length=n->EOk F ρ' σ' fr H'->d.bk ρ'->D.bk σ' H'
 ct:∀σ' H' ρ',σ'.length=n->EOk F ρ' σ' fr H'->d.ct ρ'->D.ct σ' H'
def tXS(F:Fm)(G:XS):TS:=λD σ H=>∃ρ fr d,EOk F ρ σ fr H/\G ρ d/\DOk F σ.length fr D d
def XSt(X:Cx)(Ex:ExT)(st:Stmt)(G:XS):Prop:=∀F,[OkF X Ex F]->PS X st (tXS F G)
def XSs(X:Cx)(Ex:ExT)(st:List Stmt)(G:XS):Prop:=∀F,[OkF X Ex F]->PSs X st (tXS F G)
def fD:XS:=λρ D=>D.nx ρ
def cI(G K:XS):XS:=λρ D=>G ρ { D with nx:=λρ'=>K ρ' D }
def eZ(i:Nat)(t:XT):XS:=λρ D=>t ρ λs ρ'=>D.nx (ρ'.set i (.v s))
def aWg(t:XT)(gx:XG):XS:=λρ D=>t ρ λs ρ'=>gx s.d ρ' D.nx
def bBm(t:XT):XS:=λρ D=>t ρ λ_ ρ'=>D.nx ρ'
def gW(t:XT):XS:=λρ D=>t ρ λs ρ'=>D.rt s ρ'
def xIf(c:XC)(G K:XS):XS:=λρ D=>c ρ λb ρ'=>if b=true then G ρ' D else K ρ' D
def iR(gx:XG)(G:XS)(D:XD):List Dx->En->Prop
 | [],ρ=>D.nx ρ
 |d::ds,ρ=>gx d ρ λρ1=>G ρ1 { D with nx:=iR gx G D ds,ct:=iR gx G D ds,bk:=D.nx }
def aIk(ti:XI)(gx:XG)(G:XS):XS:=λρ D=>ti ρ λds ρ'=>iR gx G D ds ρ'
section
variable{st:Stmt}{rest:List Stmt}{G K:XS}{e c tg iter:Expr}{t:XT}{tc:XC}{pos:Pos}{i:Nat}
theorem fW:XSs X Ex [] fD:=λF=>(aJf (X:=X)).weak λD σ H=>by
 rintro⟨ρ,fr,d,E,q,k⟩
 exact k.nx σ H ρ rfl E q
theorem cV(h:XSt X Ex st G)(h':XSs X Ex rest K):XSs X Ex (st::rest) (cI G K):=λF=>(aDx (h F) (h' F)).weak λD σ H=>by
 rintro⟨ρ,fr,d,E,q,k⟩
 exact⟨ρ,fr,_,E,q,⟨λσ' H' ρ' hl E' q'=>⟨ρ',fr,d,E',q',by rw[hl];exact k⟩,k.rt,k.bk,k.ct⟩⟩
theorem dH(h:XSt X Ex st G):XSs X Ex [st] G:=λF=>e_ (h F)
theorem ah_(h:∀F,[OkF X Ex F]->PS X st (vX (tX F t) (jU i))):XSt X Ex st (eZ i t):=λF=>(h F).weak λD σ H=>by
 rintro⟨ρ,fr,d,E,q,k⟩
 exact⟨ρ,fr,_,E,q,λv s H' ρ' E' q'=>k.nx _ H' _ bG (hq_ E') q'⟩
theorem mG{n:Nat}{g:TG}{gx:XG}(Cj:GX n g gx)(h:∀F,[OkF X Ex F]->PS X st (vX (tX F t) g)):XSt X Ex st (aWg t gx):=λF=>(h F).weak λD σ H=>by
 rintro⟨ρ,fr,d,E,q,k⟩
 exact⟨ρ,fr,_,E,q,λv s H' ρ' E' q'=>Cj F ρ' σ fr H' s.d v _ _ (EOk.back E'.len E'.front.frz) q' λσ' H2 ρ2 E2 hl _ q2=>k.nx σ' H2 ρ2 hl E2 q2⟩
theorem gn_(he:XE X Ex e t)(hs:swapsWith e none pos.line X.env=pure false:=by rfl):XSt X Ex (.Expr e pos) (bBm t):=λF=>(ix_ (he F) hs).weak λD σ H=>by
 rintro⟨ρ,fr,d,E,q,k⟩
 exact⟨ρ,fr,_,E,q,λv s H' ρ' E' q'=>k.nx σ H' ρ' rfl E'.drop q'⟩
theorem dX(he:XE X Ex e t):XSt X Ex (.Return (some e) pos) (gW t):=λF=>(aQs (he F)).weak λD σ H=>by
 rintro⟨ρ,fr,d,E,q,k⟩
 exact⟨ρ,fr,_,E,q,λv s H' ρ' E' q'=>k.rt v s σ H' ρ' rfl E' q'⟩
theorem fL{a b:List Stmt}(hc:XTe X Ex c tc)(ha:XSs X Ex a G)(hb:XSs X Ex b K):XSt X Ex (.If c a b pos) (xIf tc G K):=λF=>(aXi (hc F) (ha F) (hb F)).weak λD σ H=>by
 rintro⟨ρ,fr,d,E,q,k⟩
 refine⟨ρ,fr,_,E,q,λb H' ρ' E' q'=>?_⟩
 cases b with
 |true=>exact⟨ρ',fr,d,E',q',k⟩
 |false=>exact⟨ρ',fr,d,E',q',k⟩
theorem pI{F:Fm}{n:Nat}{g:TG}{gx:XG}(Cj:GX n g gx){tb:TS}(htb:∀D σ H,tXS F G D σ H->tb D σ H){D:Ends}{d:XD}{σ:St}{H':Hp}{ρ':En}{fr row:List Rw}{ds:List Dx}{J:It}(k:DOk F σ.length fr D d)(E':EOk F ρ' σ (row++fr) H')(hJ:ItX F J row ds)(q':iR gx G d ds ρ') :
  ∃W:Nat->Nat->St->Hp->Prop,(∃m,W 0 m σ H')/\∀i m σ H,W i m σ H ->
  (J.stop i H/\D.nx σ H)\/(J.go i H/\∃N:St->Hp->Prop,(∀σ' H',N σ' H'->∃m',m'<m/\W (i+1) m' σ' H')/\∀x H',J.yld i H x H'->g x σ H' λσ2 H2=>tb { D with nx:=N,ct:=N,bk:=D.nx } σ2 H2):=by
 refine⟨λi m σ1 H1=>m=ds.length-i/\i<=ds.length/\σ1.length=σ.length/\∃ρ1,EOk F ρ1 σ1 (row++fr) H1/\iR gx G d (ds.drop i) ρ1,⟨ds.length,by simp,cF _,rfl,ρ',E',by simpa using q'⟩,?_⟩
 rintro i m σ1 H1 ⟨rfl,hi,hl,ρ1,E1,q1⟩
 have Dk:Rep F (row++(ρ1.zip σ1++fr)) H1:=E1.rep.perm sw
 by_cases C6:i<ds.length
 ·right
  have Jr:ds[i]? = some ds[i]:=aO C6
  rw[List.drop_eq_getElem_cons C6]at q1
  refine⟨hJ.go _ _ i _ Dk Jr,λσ2 H2=>∃m',m'<ds.length-i/\(m'=ds.length-(i+1)/\i+1<=ds.length/\σ2.length=σ.length/\∃ρ1,EOk F ρ1 σ2 (row++fr) H2/\iR gx G d (ds.drop (i+1)) ρ1),λ_ _ h=>h,λx H2 hy=>?_⟩
  have R2:=hJ.yld _ _ i _ x H2 Dk Jr hy
  have E2:EOk F ρ1 σ1 ((vT ds[i],some x)::(row++fr)) H2:=⟨E1.len,R2.perm ((sw.cons _).trans qC.symm)⟩
  refine Cj F ρ1 σ1 _ H2 _ x _ _ E2 q1 λσ2 H3 ρ2 E3 B8 _ q2=>?_
  have nxt:∀σ' H' ρ',σ'.length=σ2.length->EOk F ρ' σ' (row++fr) H'->iR gx G d (ds.drop (i+1)) ρ'->∃m',m'<ds.length-i/\(m'=ds.length-(i+1)/\i+1<=ds.length/\σ'.length=σ.length/\∃ρ1,EOk F ρ1 σ' (row++fr) H'/\iR gx G d (ds.drop (i+1)) ρ1):=λσ' H' ρ' h1 h2 h3 =>
   ⟨ds.length-(i+1),by omega,rfl,C6,by rw[h1,B8,hl],ρ',h2,h3⟩
  have aAe:∀{σ':St} {H':Hp} {ρ':En} {N7:List Rw},EOk F ρ' σ' (row++N7) H'->EOk F ρ' σ' N7 H':=λh=>⟨h.len,Rep.drops (A:=row) (h.rep.perm sw)⟩
  refine htb _ _ _ ⟨ρ2,row++fr,_,E3,q2,⟨nxt,λv s σ' H' ρ' h1 h2 h3=>k.rt v s σ' H' ρ' (by rw[h1,B8,hl]) ?_ h3,λσ' H' ρ' h1 h2 h3=>k.nx σ' H' ρ' (by rw[h1,B8,hl]) (aAe h2) h3,nxt⟩⟩
  exact aAe ⟨h2.len,h2.rep.perm (List.Perm.append_left _ qC.symm)⟩
 ·left
  have Lu:i=ds.length:=by omega
  subst Lu
  rw[List.drop_length]at q1
  exact⟨hJ.stop _ _ _ Dk (bA _),k.nx σ1 H1 ρ1 hl ⟨E1.len,Rep.drops (A:=row) Dk⟩ q1⟩
theorem aPv{F:Fm}{ti:XI}{n:Nat}{g:TG}{gx:XG}(Cj:GX n g gx):∀D σ H,tXS F (aIk ti gx G) D σ H->aIt (tXi F ti) g (tXS F G) D σ H:=by
 rintro D σ H ⟨ρ,fr,d,E,q,k⟩
 exact⟨ρ,fr,_,E,q,λJ H' ρ' row ds E' hJ q'=>pI Cj (λ_ _ _ z=>z) k E' hJ q'⟩
theorem gi_{body:List Stmt}{ti:XI}{n:Nat}{g:TG}{gx:XG}(hp:PassesOwn (model X.prog X.w) X.A X.env X.xe)(hc:X.calm=true)(hi:XIt X Ex tg iter ti)(hg:PG X tg g)(Cj:GX n g gx)(hb:XSs X Ex body G)(hs:∀x,foldedSetIterable iter X.env x=pure x:=by intro _;rfl):XSt X Ex (.For tg iter body [] pos) (aIk ti gx G):=λF =>
 (yU hp hc (hi F) hg (hb F) hs).weak (aPv Cj)
theorem z6(h:∀F,[OkF X Ex F]->PS X st (tXS F G)):XSt X Ex st G:=h
end
section
variable{F:Fm}{ρ:En}{σ:St}{fr:List Rw}{H:Hp}{i:Nat}
theorem fi_{l:List Dx}{f:List Dx->Sl}(E:EOk F ρ σ fr H)(h:(ρ[i]?).bind kG=some (l,f)):∃p ws,σ[i]? = some (some (.ref p))/\H p=some (.lst ws)/\All2 (IsX (hid (bJ (ρ.zip σ++fr)) (F.vis H))) l ws /\
  ∀l' ws',All2 (IsX (hid (bJ (ρ.zip σ++fr)) (F.vis H))) l' ws'->EOk F (ρ.set i (f l')) σ fr (upd H p (.lst ws')):=by
 obtain⟨sl,h3,h4⟩:=aX.mp h
 obtain⟨v,hv,hi,R⟩:=mD E h3
 obtain⟨p,ws,rfl,h5,h6,h7,h8⟩:=gd_ h4 R
 have hO:(bJ (ρ.zip σ++fr)).Perm (bJ ((sl,some (V.ref p))::((ρ.zip σ).eraseIdx i++fr))):=((co_ h3 hv).append_right fr).flatMap_right _
 rw[iO h6]at hO
 refine⟨p,ws,hv,h5,h7.imp λ_ _ z=>z.to (kW λa ha=>hO.mem_iff.mp ha),λl' ws' Fg=>?_⟩
 obtain⟨k1,k2,k3⟩:=h8 l'
 exact nG E.len hi hv (R.put h6 k1 k2 (k3 bU (Fg.imp λ_ _ z=>(z.to (kW λa ha=>hO.mem_iff.mpr ha)).to mZ)))
theorem xR{l:List (Key×Dx)}(E:EOk F ρ σ fr H)(h:ρ[i]? = some (.v (.od l))):∃p ws,σ[i]? = some (some (.ref p))/\H p=some (.dK ws)/\All2 (KvX (hid (bJ (ρ.zip σ++fr)) (F.vis H))) l ws /\
  ∀l' ws',All2 (KvX (hid (bJ (ρ.zip σ++fr)) (F.vis H))) l' ws'->EOk F (ρ.set i (.v (.od l'))) σ fr (upd H p (.dK ws')):=by
 obtain⟨v,hv,hi,R⟩:=mD E h
 obtain⟨p,ws,rfl,h5,h7⟩:=R.atD
 have hO:(bJ (ρ.zip σ++fr)).Perm (bJ ((.v (.od l),some (V.ref p))::((ρ.zip σ).eraseIdx i++fr))):=((co_ h hv).append_right fr).flatMap_right _
 rw[iO (a:=p) rfl]at hO
 refine⟨p,ws,hv,h5,h7.imp λ_ _ z=>z.to (kW λa ha=>hO.mem_iff.mp ha),λl' ws' Fg=>?_⟩
 exact nG E.len hi hv (R.putD (Fg.imp λ_ _ z=>z.to (kW λa ha=>hO.mem_iff.mpr ha)))
theorem j1{l:List Dx}{f:List Dx->Sl}(E:EOk F ρ σ fr H)(h:(ρ[i]?).bind kG=some (l,f)):∃p ws,σ[i]? = some (some (.ref p))/\H p=some (.lst ws):=by
 obtain⟨p,ws,h1,h2,_⟩:=fi_ E h
 exact⟨p,ws,h1,h2⟩
end
def bBo(i:Nat)(t:XT):XS:=λρ D=>((ρ[i]?).bind kG).isSome=true/\t ρ λs ρ'=>match (ρ'[i]?).bind kG with
 |some (l,f)=>l.length<1000000/\D.nx (ρ'.set i (f (l++[s.d])))
 |none=>False
def bDs(i:Nat)(t:XT):XS:=λρ D=>((ρ[i]?).bind kG).isSome=true/\t ρ λs ρ'=>match (ρ'[i]?).bind kG,s.d with
 |some (l,f),.lst m=>l.length+m.length<=1000000/\D.nx (ρ'.set i (f (l++m)))
 |_,_=>False
def aVz(i:Nat):XT:=λρ Q=>match (ρ[i]?).bind kG with
 |some (l,f)=>(match l.getLast? with | some d=>Q (.tr d) (ρ.set i (f l.dropLast)) | none=>False)
 |none=>False
def aBt(i:Nat)(ti te:XT):XS:=λρ D=>te ρ λs ρ1=>((ρ1[i]?).bind kG).isSome=true/\ti ρ1 λk ρ2=>match (ρ2[i]?).bind kG,k.d with
 |some (l,f),.int j=>(match ixN l.length j with | some n=>D.nx (ρ2.set i (f (l.set n s.d))) | none=>False)
 |_,_=>False
def qF(l:List (Key×Dx))(k:Key)(d:Dx):List (Key×Dx):=if(l.any λkv=>decide (kv.1=k))=true then l.map (λkv=>if kv.1=k then(kv.1,d)else kv)else l++[(k,d)]
def aNf(i:Nat)(tk tv:XT):XS:=λρ D=>tv ρ λs ρ1=>(∃l,ρ1[i]? = some (.v (.od l)))/\tk ρ1 λk ρ2=>match ρ2[i]?,zJ k.d with
 |some (.v (.od l)),some key=>l.length<1000000/\D.nx (ρ2.set i (.v (.od (qF l key s.d))))
 |_,_=>False
theorem aDr{G:Hp}{l:List (Key×Dx)}{ws:List (Key×V)}{k:Key}{d:Dx}{v:V}(h:All2 (KvX G) l ws)(hd:IsX G d v):All2 (KvX G) (qF l k d) (kC ws k v):=by
 have any:∀{l:List (Key×Dx)} {ws:List (Key×V)},All2 (KvX G) l ws->(l.any λkv=>decide (kv.1=k))=(ws.any λkv=>decide (kv.1=k)):=by
  intro l
  induction l with
  |nil=>intro ws h;rw[show ws=[]from h];rfl
  |cons p l ih =>
   intro ws h
   obtain⟨w,wr,rfl,⟨h1,_⟩,h3⟩:=h
   rw[fH,fH,ih h3,h1]
 have mp:∀{l:List (Key×Dx)} {ws:List (Key×V)},All2 (KvX G) l ws->All2 (KvX G) (l.map λkv=>if kv.1=k then(kv.1,d)else kv) (ws.map λkv=>if kv.1=k then(kv.1,v)else kv):=by
  intro l
  induction l with
  |nil=>intro ws h;rw[show ws=[]from h];rfl
  |cons p l ih =>
   intro ws h
   obtain⟨w,wr,rfl,⟨h1,h2⟩,h3⟩:=h
   refine⟨_,_,rfl,?_,ih h3⟩
   by_cases e:p.1=k
   ·show KvX G (if p.1=k then (p.1,d) else p) (if w.1=k then (w.1,v) else w)
    rw[if_pos e,if_pos (h1 ▸ e)];exact⟨h1,hd⟩
   ·show KvX G (if p.1=k then (p.1,d) else p) (if w.1=k then (w.1,v) else w)
    rw[if_neg e,if_neg (h1 ▸ e)];exact⟨h1,h2⟩
 unfold qF kC
 rw[any h]
 split
 ·exact mp h
 ·exact h.snoc ⟨rfl,hd⟩
section
variable{st:Stmt}{i:Nat}{t ti te tk tv:XT}{F:Fm}{K:cZ}
theorem yM:∀D σ H,tXS F (bBo i t) D σ H->aCp (tBM K "list" tU (fN i) (vW (tX F t) t_)) D σ H:=by
 rintro D σ H ⟨ρ,fr,d,E,⟨q0,q⟩,k⟩
 obtain⟨⟨l0,f0⟩,h0⟩:=cN.mp q0
 obtain⟨p,ws,hv,hp⟩:=j1 E h0
 refine⟨.ref p,hv,.inl ⟨rfl,ws,SqL.of hp⟩,ρ,fr,_,E,q,λy s H' ρ' E' q'=>?_⟩
 split at q'
 ·rename_i l f hb
  obtain⟨R,hx⟩:=E'.one
  obtain⟨p',ws',A2,F7,hl,Ct⟩:=fi_ E'.drop hb
  rw[hv]at A2
  cases A2
  exact⟨p,ws',y,rfl,rfl,F7,by rw[hl.len];have:=fJ;omega,k.nx σ _ _ rfl (Ct _ _ (hl.snoc hx)) q'.2⟩
 ·exact q'.elim
theorem aAy{α β:Type}{g:α->β->Prop}{l:List α}{m:List β}{d:α}(h:All2 g l m)(e:l.getLast? = some d):∃v,m[m.length-1]? = some v/\g d v:=by
 rw[List.getLast?_eq_getElem?]at e
 obtain⟨v,h1,h2⟩:=h.at e
 exact⟨v,by rw[h.len];exact h1,h2⟩
theorem aMv{α β:Type}{g:α->β->Prop}{l:List α}{m:List β}(h:All2 g l m):All2 g l.dropLast m.dropLast:=by
 rw[List.dropLast_eq_take,List.dropLast_eq_take,h.len]
 exact h.take _
theorem aPu:∀σ H Q,tX F (aVz i) σ H Q->aPx K "list" aXe (fN i) σ H Q:=by
 rintro σ H Q ⟨ρ,fr,Qx,E,q,k⟩
 unfold aVz at q
 split at q
 ·rename_i l f hb
  obtain⟨p,ws,hv,hp,hl,Ct⟩:=fi_ E hb
  split at q
  ·rename_i d hd
   obtain⟨v,h1,h2⟩:=aAy hl hd
   refine⟨.ref p,hv,.inl ⟨rfl,ws,SqL.of hp⟩,p,ws,v,rfl,rfl,hp,h1,k v (.tr d) _ _ ?_ q⟩
   have E2:=Ct _ _ (aMv hl)
   refine EOk.back E2.len (E2.rep.add (h2.to ?_))
   obtain⟨sl,h3,h4⟩:=aX.mp hb
   obtain⟨v',A2,hi,R⟩:=mD E h3
   rw[hv]at A2;cases A2
   obtain⟨_,_,e',_,h6,_,h8⟩:=gd_ h4 R
   cases e'
   have hO:(bJ (ρ.zip σ++fr)).Perm (bJ ((sl,some (V.ref p))::((ρ.zip σ).eraseIdx i++fr))):=((co_ h3 hv).append_right fr).flatMap_right _
   have N2:(bJ ((ρ.set i (f l.dropLast)).zip σ++fr)).Perm (bJ ((f l.dropLast,some (V.ref p))::((ρ.zip σ).eraseIdx i++fr))):=((p7 E.len hi hv).append_right fr).flatMap_right _
   rw[iO h6]at hO
   rw[iO (h8 _).1]at N2
   intro b o hb
   have h9:=kW (O':=p::bJ ((ρ.zip σ).eraseIdx i++fr)) (λa ha=>hO.mem_iff.mpr ha) _ _ hb
   exact kW (λa ha=>N2.mem_iff.mp ha) _ _ (mZ (o:=.lst ws.dropLast) _ _ h9)
  ·exact q.elim
 ·exact q.elim
theorem tE:∀D σ H,tXS F (aBt i ti te) D σ H->vX (tX F te) (aYr (fN i) (tX F ti) aNz) D σ H:=by
 rintro D σ H ⟨ρ,fr,d,E,q,k⟩
 refine⟨ρ,fr,_,E,q,λy s H' ρ' E' q'=>?_⟩
 obtain⟨q0,q'⟩:=q'
 obtain⟨⟨l0,f0⟩,h0⟩:=cN.mp q0
 obtain⟨p,ws,hv,hp⟩:=j1 E' h0
 refine⟨.ref p,hv,ρ',_,_,E',q',λz s2 H2 ρ2 E2 q2=>?_⟩
 split at q2
 ·rename_i l f j hb hj
  obtain⟨R,Go,C2⟩:=E2.two
  rw[hj]at C2
  cases C2.int_eq
  obtain⟨p',ws',A2,F7,hl,Ct⟩:=fi_ (E2.drop.drop) hb
  rw[hv]at A2
  cases A2
  split at q2
  ·rename_i n hn
   exact⟨p,ws',j,n,rfl,rfl,F7,by rw[hl.len];exact hn,k.nx σ _ _ rfl (Ct _ _ (hl.set Go n)) q2⟩
  ·exact q2.elim
 ·exact q2.elim
theorem tF:∀D σ H,tXS F (aNf i tk tv) D σ H->aDf (fN i) (tX F tk) (tX F tv) D σ H:=by
 rintro D σ H ⟨ρ,fr,d,E,q,k⟩
 refine⟨ρ,fr,_,E,q,λy s H' ρ' E' q'=>?_⟩
 obtain⟨⟨l0,h0⟩,q'⟩:=q'
 obtain⟨p,ws,hv,hp,_⟩:=xR E' h0
 refine⟨.ref p,hv,ρ',_,_,E',q',λz s2 H2 ρ2 E2 q2=>?_⟩
 split at q2
 ·rename_i l key hb hk
  obtain⟨R,Go,C2⟩:=E2.two
  obtain⟨p',ws',A2,F7,hl,Ct⟩:=xR (E2.drop.drop) hb
  rw[hv]at A2
  cases A2
  cases mW C2 hk
  exact⟨p,_,rfl,DPut.k F7 (by rw[hl.len];have:=fJ;omega),k.nx σ _ _ rfl (Ct _ _ (aDr hl Go)) q2.2⟩
 ·exact q2.elim
end
def sT(c:XC)(G:XS):XS:=λρ D=>∃W:Nat->En->Prop,(∃m,W m ρ)/\∀m ρ,W m ρ->c ρ λb ρ1=>if b=true then ∃N:En->Prop,(∀ρ',N ρ'->∃m',m'<m/\W m' ρ')/\G ρ1 { D with nx:=N,ct:=N,bk:=D.nx }else D.nx ρ1
theorem nN{c:Expr}{body:List Stmt}{pos:Pos}{tc:XC}{G:XS}(hp:PassesOwn (model X.prog X.w) X.A X.env X.xe)(hc:XTe X Ex c tc)(hb:XSs X Ex body G):XSt X Ex (.While c body [] pos) (sT tc G):=λF=>(aDy hp (hc F) (hb F)).weak λD σ H=>by
 rintro⟨ρ,fr,d,E,⟨W,⟨m0,w0⟩,turn⟩,k⟩
 refine⟨λm σ1 H1=>σ1.length=σ.length/\∃ρ1,EOk F ρ1 σ1 fr H1/\W m ρ1,⟨m0,rfl,ρ,E,w0⟩,?_⟩
 rintro m σ1 H1 ⟨hl,ρ1,E1,w1⟩
 refine⟨ρ1,fr,_,E1,turn m ρ1 w1,λb H2 ρ2 E2 q2=>?_⟩
 cases b with
 |false=>exact k.nx σ1 H2 ρ2 hl E2 q2
 |true =>
  obtain⟨N,hN,q2⟩:=q2
  have nxt:∀σ' H' ρ',σ'.length=σ1.length->EOk F ρ' σ' fr H'->N ρ'->∃m',m'<m/\σ'.length=σ.length/\∃ρ1,EOk F ρ1 σ' fr H'/\W m' ρ1:=λσ' H' ρ' h1 h2 h3=>by
   obtain⟨m',h4,h5⟩:=hN ρ' h3
   exact⟨m',h4,by rw[h1,hl],ρ',h2,h5⟩
  exact⟨λσ' H'=>∃m',m'<m/\σ'.length=σ.length/\∃ρ1,EOk F ρ1 σ' fr H'/\W m' ρ1,λσ' H' h=>h,ρ2,fr,_,E2,q2,⟨nxt,λv s σ' H' ρ' h1 h2 h3=>k.rt v s σ' H' ρ' (by rw[h1,hl]) h2 h3,λσ' H' ρ' h1 h2 h3=>k.nx σ' H' ρ' (by rw[h1,hl]) h2 h3,nxt⟩⟩
def iW(N:List Str)(ds:List Dx):En:=ds.map (λd=>.v (.tr d))++List.replicate (N.length-ds.length) .un
abbrev u7(Q:Sv->Prop):XD:=⟨λ_=>Q (.tr .non),λs _=>Q s,λ_=>False,λ_=>False⟩
theorem gt_{F:Fm}{H:Hp}(R0:Rep F [] H){m:Nat}:∀{ds:List Dx} {vs:List V},All2 (IsX (F.vis H)) ds vs->Rep F ((ds.map (λd=>Sl.v (.tr d))++List.replicate m Sl.un).zip (vs.map some++List.replicate m none)) H
 | [],_,h=>by
  rw[show _=[]from h]
  simp only[dA,aS]
  rw[List.zip_replicate,Nat.min_self]
  have:=R0.addUs m
  simpa using this
 |d::ds,_,⟨v,vr,e,h1,h2⟩=>by
  subst e
  have R:=gt_ (m:=m) R0 h2
  simp only[bB,aP,eP]
  refine R.add (h1.to λb o hb=>aU.mpr ⟨λz=>?_,hb⟩)
  obtain⟨r,hr,hb⟩:=fQ.mp z
  have:∀{ds:List Dx} {vs:List (Option V)} {r:Rw},r∈((ds.map (λd=>Sl.v (.tr d))++List.replicate m Sl.un).zip vs)->dI r=[]:=by
   intro ds vs r hr
   obtain⟨a,b⟩:=r
   have:=(fB hr).1
   rcases bF.mp this with h | h
   ·obtain⟨d,_,rfl⟩:=bX.mp h;rfl
   ·rw[(List.mem_replicate.mp h).2];rfl
  rw[this hr]at hb
  cases hb
theorem tO{H Hs:Hp}{sub:Same Hs H}{nb:∀b∈([]:List Addr),Hs b=none}{ib:∀b∈([]:List Addr),∃o,H b=some o}{P:List Rw}{H':Hp}{s:Sv}{v:V}(R:Rep ⟨H,Hs,[],sub,nb,ib⟩ ((.v s,some v)::P) H'):Same H H'/\q_ Hs H H' s v:=by
 refine⟨λb o h=>R.kp b o h (by simp),?_⟩
 match s with
 | .tr d =>
  obtain⟨v',e,h⟩:=R.atT
  cases e
  exact h.to uR
 | .ol l =>
  obtain⟨a,vs,e,h1,h2⟩:=R.atL
  cases e
  exact⟨a,vs,rfl,R.fr _ aA a (aI.mpr rfl),h1,h2.imp λ_ _ z=>z.to (kW λc hc=>by rw[aI.mp hc];exact aA)⟩
 | .od l =>
  obtain⟨a,vs,e,h1,h2⟩:=R.atD
  cases e
  exact⟨a,vs,rfl,R.fr _ aA a (aI.mpr rfl),h1,h2.imp λ_ _ z=>z.to (kW λc hc=>by rw[aI.mp hc];exact aA)⟩
 | .ow o =>
  have hn:=R.nd
  rw[jK]at hn
  obtain⟨x,e,h⟩:=R.ok _ aA
  cases e
  refine⟨(cA.mp hn).1,λa ha=>R.fr _ aA a ha,OwOk.mono (.of (kW λc hc=>?_)) o v (λ_ _=>rfl) h⟩
  rw[jK]
  exact aK _ hc
theorem jA{x:Str}{st:Stmt}{f:Addr}{fd:FuncData}{N ps:List Str}{k:Nat}{g:GC}(Fn:Fun K x x st f fd)(S:FnScope N ps (aM st))(Al:∀ds Q,g ds Q->ds.length=ps.length)(hN:ps.length<=N.length)
  (Az:∀ (Ak:Value) (A:Around) (outer:List Env) (s:Shared) (H:Hp) (E:XK),Room k (A.deeper (PyProof.Rows.envOfC x (aM st) s.heap.objs.size f Ak)) →
   ∃G,XSs (iS CX0 P w K mg base N x (aM st) f Ak A outer s H E).nox dR (eG st) G/\∀ds Q,g ds Q->G (iW N ds) (u7 Q)):FnOk P w K mg base CX0 (k+1) f fd ps (spX g):=by
 refine Fn.ok S (λvs H Q E h=>?_) (λAk A outer s H vs Q E hr h=>?_)
 ·obtain ⟨Hs,ds,Qx,h1,h2,h3,_⟩:=h
  rw[h2.len]
  exact Al ds Qx h3
 obtain⟨Hs,ds,Qx,h1,h2,h3,h4⟩:=h
 obtain⟨G,hG,hq⟩:=Az Ak A outer s H E hr
 have hl:=Al ds Qx h3
 refine⟨_,hG ⟨H,Hs,[],h1,by simp,by simp⟩,iW N ds,[],u7 Qx,⟨?_,?_⟩,hq ds Qx h3,⟨λσ' H' ρ' _ E' q=>?_,λv s σ' H' ρ' _ E' q=>?_,λ_ _ _ _ _ q=>q.elim,λ_ _ _ _ _ q=>q.elim⟩⟩
 ·unfold iW L2.start
  simp only[aB,aG,bI]
  rw[h2.len]
 ·rw [aV]
  have hv:(Fm.vis ⟨H,Hs,[],h1,by simp,by simp⟩ H)=ext Hs H H:=rfl
  have R0:Rep ⟨H,Hs,[],h1,by simp,by simp⟩ [] H:=⟨List.nodup_nil,λr hr=>by simp at hr,λr hr=>by simp at hr,λb o h _=>h,λb hb=>by simp at hb⟩
  unfold iW L2.start
  rw[h2.len]
  refine gt_ R0 (h2.imp λ_ _ z=>z.to λb o hb=>?_)
  cases q:H b with
  |none=>rw[h1 _ _ hb]at q;cases q
  |some u=>exact(jH q).trans hb
 ·have R:=E'.rep.add (d:=.non) (v:=.non) IsX.of_non
  obtain⟨e1,e2⟩:=tO R
  exact h4 _ _ _ e1 e2 q
 ·obtain ⟨e1,e2⟩:=tO E'.front
  exact h4 _ _ _ e1 e2 q
end Lf
namespace L2
open PySem
def aNl(t:TE):TE:=λσ H Q=>∃a kvs,H a=some (.dK kvs)/\∀o,t σ (upd H a (.frz o (.dK kvs))) λv H'=>H' a=some (.frz o (.dK kvs))/\Q v (upd H' a (.dK kvs))
theorem aJs{X:Cx}{e:Expr}{t:TE}(h:PE X e t):PE X e (aNl t):=by
 intro Aa s σ H Q I ⟨a,kvs,ha,q⟩
 exact aRb h Aa s σ H Q I ⟨a,kvs,ha,λo v z=>(by have:=I.base.frzs a o v z;rw[ha]at this;cases this),q⟩
def aNs(t:TS):TS:=λD σ H=>∃a kvs,H a=some (.dK kvs)/\∀o,
 t ⟨λσ' H'=>H' a=some (.frz o (.dK kvs))/\D.nx σ' (upd H' a (.dK kvs)),λv H'=>H' a=some (.frz o (.dK kvs))/\D.rt v (upd H' a (.dK kvs)),λσ' H'=>H' a=some (.frz o (.dK kvs))/\D.bk σ' (upd H' a (.dK kvs)),λσ' H'=>H' a=some (.frz o (.dK kvs))/\D.ct σ' (upd H' a (.dK kvs))⟩ σ (upd H a (.frz o (.dK kvs)))
theorem aJh{X:Cx}{st:Stmt}{t:TS}(h:PS X st t):PS X st (aNs t):=by
 intro Aa s σ H D I ⟨a,kvs,ha,q⟩
 exact aQu h Aa s σ H D I ⟨a,kvs,ha,λo v z=>(by have:=I.base.frzs a o v z;rw[ha]at this;cases this),q⟩
theorem PS.or{X:Cx}{st:Stmt}{t u:TS}(h:PS X st t)(h':PS X st u):PS X st (λD σ H=>t D σ H\/u D σ H):=λAa s σ H D I q=>q.elim (h Aa s σ H D I) (h' Aa s σ H D I)
end L2
namespace Lf
open PySem L2
section
variable{F:Fm}{P:List Rw}{H H':Hp}{a:Addr}{kvs:List (Key×V)}{o:Obj}
theorem nem{b a:Addr}{B:List Addr}(h:b∈B)(h':a∉B):b≠a:=λz=>h' (by rw[<-z];exact h)
def Fm.fz(F:Fm)(a:Addr)(o:Obj)(kvs:List (Key×V))(ha:a∉F.B):Fm where
 H0:=upd F.H0 a (.frz o (.dK kvs))
 Hs:=upd F.Hs a (.frz o (.dK kvs))
 B:=F.B
 sub:=λb u h=>by
  by_cases e:b=a
  ·subst e;rw[bU]at h ⊢;exact h
  ·rw[dW e]at h ⊢;exact F.sub _ _ h
 nb:=λb hb=>by rw[dW (nem hb ha)];exact F.nb b hb
 ib:=λb hb=>by rw[dW (nem hb ha)];exact F.ib b hb
theorem aNi(h:F.vis H a=some (.dK kvs)):a∉F.B:=λhB=>by
 obtain⟨u,hu⟩:=F.ib a hB
 have:=(jH hu).symm.trans h
 rw[F.nb a hB]at this
 cases this
theorem aCi{F:Fm}{ha:a∉F.B}{b:Addr}{H H':Hp}(hb:b≠a)(e:H' b=H b):(F.fz a o kvs ha).vis H' b=F.vis H b:=by
 have e1:(F.fz a o kvs ha).H0 b=F.H0 b:=dW hb
 have e2:(F.fz a o kvs ha).Hs b=F.Hs b:=dW hb
 show ext _ _ _ b=ext _ _ _ b
 unfold ext
 rw[e1,e2,e]
theorem Rep.fzD(R:Rep F P H)(hv:F.vis H a=some (.dK kvs))(Aw:a∉bJ P)(ha:a∉F.B):Rep (F.fz a o kvs ha) P (upd H a (.frz o (.dK kvs))):=by
 refine⟨R.nd,λr hr=>(R.ok r hr).mono (λb u hb=>?_) λb hb=>dW λz=>Aw (z ▸ cw_ hr hb),λr hr b hb=>?_,λb u h1 h2=>?_,λb hb=>?_⟩
 ·have An:=aU.mp hb
  by_cases e:b=a
  ·subst e
   rw[hv]at An
   cases An.2
   refine .inr ⟨o,kvs,.inl ⟨rfl,aU.mpr ⟨An.1,?_⟩⟩⟩
   exact(jH (show(F.fz b o kvs ha).H0 b=some (.frz o (.dK kvs))from bU)).trans bU
  ·exact .inl (aU.mpr ⟨An.1,by rw[aCi e (dW e)];exact An.2⟩)
 ·have Fj:b≠a:=fun z=>Aw (z ▸ cw_ hr hb)
  have:=R.fr r hr b hb
  unfold FrOk at this ⊢
  split at this<;>simp_all [Fm.fz,dW]
 ·by_cases e:b=a
  ·subst e
   have:some (HO.frz o (.dK kvs))=some u:=bU.symm.trans h1
   rw[bU];exact this
  ·rw [dW e]
   exact R.kp b u ((dW e).symm.trans h1) h2
 ·obtain ⟨u,hu⟩:=R.lv b hb
  exact⟨u,by rw[dW (nem hb ha)];exact hu⟩
theorem Rep.thD{ha:a∉F.B}(R:Rep (F.fz a o kvs ha) P H)(hv:F.H0 a=none\/(F.H0 a=some (.dK kvs)/\F.Hs a=some (.dK kvs))):H a=some (.frz o (.dK kvs))/\Rep F P (upd H a (.dK kvs)):=by
 have hk:H a=some (.frz o (.dK kvs)):=R.kp a _ bU ha
 have Aw:a∉bJ P:=λz=>by
  obtain⟨r,hr,e⟩:=fQ.mp z
  have:=R.fr r hr a e
  rcases this.or with this | this
  ·exact ha this
  ·have h2:some (HO.frz o (.dK kvs))=none:=bU.symm.trans this
   cases h2
 refine⟨hk,R.nd,λr hr=>(R.ok r hr).mono (λb u hb=>?_) λb hb=>dW λz=>Aw (z ▸ cw_ hr hb),λr hr b hb=>?_,λb u h1 h2=>?_,λb hb=>?_⟩
 ·have An:=aU.mp hb
  by_cases e:b=a
  ·subst e
   have hu:(F.fz b o kvs ha).vis H b=some (.frz o (.dK kvs)):=(jH (show(F.fz b o kvs ha).H0 b=some (.frz o (.dK kvs))from bU)).trans bU
   rw[hu]at An
   cases An.2
   refine .inr ⟨o,kvs,.inr ⟨rfl,aU.mpr ⟨An.1,?_⟩⟩⟩
   rcases hv with q | ⟨q1,q2⟩
   ·exact(kH q).trans (by rw[bU];rfl)
   ·exact(jH q1).trans q2
  ·exact .inl (aU.mpr ⟨An.1,by rw[<-aCi (F:=F) (o:=o) (kvs:=kvs) (ha:=ha) e (dW (o:=.dK kvs) e).symm];exact An.2⟩)
 ·have Fj:b≠a:=fun z=>Aw (z ▸ cw_ hr hb)
  have:=R.fr r hr b hb
  unfold FrOk at this ⊢
  split at this<;>simp_all [Fm.fz,dW]
 ·by_cases e:b=a
  ·subst e
   rcases hv with q | ⟨q1,q2⟩
   ·rw[q]at h1;cases h1
   ·rw[q1]at h1;rw[bU];exact h1
  ·rw [dW e]
   exact R.kp b u ((dW e).trans h1) h2
 ·obtain ⟨u,hu⟩:=R.lv b hb
  exact⟨u,by rw[dW (nem hb ha)];exact hu⟩
end
def pE:Key->Dx
 | .inl i=>.int i
 | .inr x=>.str x
theorem aLe{H:Hp}(k:Key):IsX H (pE k) (kV k):=by cases k<;>simp only[pE,kV,IsX]
def iQ(l:List (Key×Dx)):List Dx:=l.map λp=>pE p.1
theorem jf_{l:List (Key×Dx)}:(iQ l).length=l.length:=aG _
theorem il_{F:Fm}{a:Addr}{o:Obj}{kvs:List (Key×V)}{l:List (Key×Dx)}{G:Hp}(h:∀P H,Rep F P H->H a=some (.frz o (.dK kvs)))(hl:All2 (KvX G) l kvs):ItX F (Itd a o kvs) [] (iQ l)where
 go:=λP H i d R hd=>⟨h _ _ R,by have:=(aY.mp hd).1;rw[jf_]at this;rw[hl.len];exact this⟩
 stop:=λP H i R hi=>⟨h _ _ R,by rw[jf_]at hi;rw[hl.len];exact hi⟩
 yld:=λP H i d x H' R hd q=>by
  obtain⟨rfl,kv,q1,rfl⟩:=q
  obtain⟨p,h1,h2⟩:=hl.get q1
  unfold iQ at hd
  rw[bV,h1]at hd
  cases hd
  show Rep F ((Sl.v (Sv.tr (pE p.1)),some (kV kv.1))::([]++P)) H'
  rw[h2.1]
  exact R.add (aLe _)
def aCn(G:XS):TS:=λD σ H=>∃F,tXS F G D σ H
def tXe(t:XT):TE:=λσ H Q=>∃F,tX F t σ H Q
def aCm(t:XC):TT:=λσ H Q=>∃F,tXc F t σ H Q
theorem XSs.ex{X:Cx}{st:List Stmt}{G:XS}(h:XSs X dR st G):PSs X st (aCn G):=λAa s σ H D I ⟨F,q⟩=>h F Aa s σ H D I q
theorem XE.ex{X:Cx}{e:Expr}{t:XT}(h:XE X dR e t):PE X e (tXe t):=λAa s σ H D I ⟨F,q⟩=>h F Aa s σ H D I q
theorem XCs.ex{X:Cx}{e:List Expr}{t:XC}(h:XCs X dR e t):PCs X e (aCm t):=λAa s σ H D I ⟨F,q⟩=>h F Aa s σ H D I q
def aBz(i:Nat)(gx:XG)(G:XS):XS:=λρ D=>match ρ[i]? with
 |some (.v s)=>(match s.d with | .dic l=>iR gx G D (iQ l) (ρ.set i (.v (.tr s.d))) | _=>False)
 |_=>False
def sV(i n:Nat)(outs:List Nat)(gx:XG)(tc:XC)(te:XT):XT:=λρ Q=>match ρ[i]? with
 |some (.v s)=>(match s.d with | .dic l=>l.length<=1000000/\dP n gx tc te (λAg cs=>Q (.ol Ag) (back outs cs (ρ.set i (.v (.tr s.d))))) (iQ l) (qK outs (ρ.set i (.v (.tr s.d)))) [] | _=>False)
 |_=>False
theorem qV{F:Fm}{ρ:En}{σ:St}{fr:List Rw}{H:Hp}{i:Nat}{s:Sv}{l:List (Key×Dx)}(E:EOk F ρ σ fr H)(h:ρ[i]? = some (.v s))(hs:s.d=.dic l) :
  ∃a ws,σ[i]? = some (some (.ref a))/\EOk F (ρ.set i (vT s.d)) σ fr H/\Rd (hid (bJ ((ρ.set i (vT s.d)).zip σ++fr)) (F.vis H)) a (.dK ws)/\All2 (KvX (hid (bJ ((ρ.set i (vT s.d)).zip σ++fr)) (F.vis H))) l ws:=by
 obtain⟨v,hv,hi,R⟩:=mD E h
 have R2:=R.frz
 have E2:=nG E.len hi hv R2
 obtain⟨w,e,hx⟩:=R2.atT
 subst e
 rw[hs]at hx
 have hO:(bJ ((ρ.set i (vT s.d)).zip σ++fr)).Perm (bJ ((vT s.d,some w)::((ρ.zip σ).eraseIdx i++fr))):=((p7 E.len hi hv).append_right fr).flatMap_right _
 rw[ev_ rfl]at hO
 have C2:=hx.to (kW λa ha=>hO.mem_iff.mp ha)
 obtain⟨a,ws,rfl,h1,h2⟩:=C2.dic_eq
 exact⟨a,ws,hv,E2,h1,h2⟩
theorem aCh{F:Fm}{P:List Rw}{H:Hp}{a:Addr}{kvs:List (Key×V)}(R:Rep F P H)(h:F.vis H a=some (.dK kvs)):F.H0 a=none\/(F.H0 a=some (.dK kvs)/\F.Hs a=some (.dK kvs)):=by
 cases q:F.H0 a with
 |none=>exact .inl rfl
 |some u =>
  have h1:F.Hs a=some (.dK kvs):=(jH q).symm.trans h
  have h2:=F.sub _ _ h1
  rw[q]at h2
  exact .inr ⟨h2,h1⟩
theorem k9{F:Fm}{H:Hp}{a:Addr}{o:Obj}{kvs:List (Key×V)}(h:F.vis H a=some (.frz o (.dK kvs))):∀P H,Rep F P H->H a=some (.frz o (.dK kvs)):=λP H2 R=>by
 cases q:F.H0 a with
 |none =>
  have h1:=(kH q).symm.trans h
  rw[mQ h1]at h1
  cases h1
 |some u =>
  have h1:F.Hs a=some (.frz o (.dK kvs)):=(jH q).symm.trans h
  exact R.kp a _ (F.sub _ _ h1) λhB=>by rw[F.nb a hB]at h1;cases h1
section
variable{st:Stmt}{i n:Nat}{g:TG}{gx:XG}{G:XS}{outs:List Nat}{tc:XC}{te:XT}
theorem aTl(Cj:GX n g gx){F:Fm}:∀D σ H,tXS F (aBz i gx G) D σ H->aIt (wT (fN i)) g (aCn G) D σ H\/aNs (aIt (wT (fN i)) g (aCn G)) D σ H:=by
 rintro D σ H ⟨ρ,fr,d,E,q,k⟩
 unfold aBz at q
 split at q
 ·rename_i s hs
  split at q
  ·rename_i l hl
   obtain⟨a,ws,hv,E2,hr,hk⟩:=qV E hs hl
   rw[hl]at E2 hr hk
   rw[<-hl]at E2
   rcases hr with hr | ⟨o,hr⟩
   ·have B7:=aU.mp hr
    have hB:=aNi B7.2
    have Hx:=aCh E2.rep B7.2
    refine .inr ⟨a,ws,E2.rep.vis _ _ B7.2,λo=>⟨.ref a,hv,a,o,ws,rfl,bU,?_⟩⟩
    have E3:EOk (F.fz a o ws hB) (ρ.set i (vT s.d)) σ ([]++fr) (upd H a (.frz o (.dK ws))):=⟨E2.len,E2.rep.fzD B7.2 (by rw[hl];exact B7.1) hB⟩
    refine pI (F:=F.fz a o ws hB) Cj (tb:=aCn G) (λ_ _ _ z=>⟨_,z⟩) (d:=d) ⟨λσ' H' ρ' h1 h2 h3=>?_,λv s σ' H' ρ' h1 h2 h3=>?_,λσ' H' ρ' h1 h2 h3=>?_,λσ' H' ρ' h1 h2 h3=>?_⟩ E3 (il_ (λP H R=>R.kp a _ bU hB) hk) q
    ·obtain⟨e1,e2⟩:=h2.rep.thD Hx;exact⟨e1,k.nx σ' _ ρ' h1 ⟨h2.len,e2⟩ h3⟩
    ·obtain⟨e1,e2⟩:=h2.rep.thD Hx;exact⟨e1,k.rt v s σ' _ ρ' h1 ⟨h2.len,e2⟩ h3⟩
    ·obtain⟨e1,e2⟩:=h2.rep.thD Hx;exact⟨e1,k.bk σ' _ ρ' h1 ⟨h2.len,e2⟩ h3⟩
    ·obtain⟨e1,e2⟩:=h2.rep.thD Hx;exact⟨e1,k.ct σ' _ ρ' h1 ⟨h2.len,e2⟩ h3⟩
   ·have B7:=aU.mp hr
    refine .inl ⟨.ref a,hv,a,o,ws,rfl,E2.rep.vis _ _ B7.2,?_⟩
    exact pI (F:=F) Cj (tb:=aCn G) (λ_ _ _ z=>⟨_,z⟩) k (row:=[]) E2 (il_ (k9 B7.2) hk) q
  ·exact q.elim
 ·exact q.elim
theorem aMl(Cj:GX n g gx)(Aw:outs.Nodup){F:Fm}:∀σ H Q,tX F (sV i n outs gx tc te) σ H Q->qU n outs (wT (fN i)) g (aCm tc) (tXe te) σ H Q\/aNl (qU n outs (wT (fN i)) g (aCm tc) (tXe te)) σ H Q:=by
 rintro σ H Q ⟨ρ,fr,Qx,E,q,k⟩
 unfold sV at q
 split at q
 ·rename_i s hs
  split at q
  ·rename_i l hl
   obtain⟨a,ws,hv,E2,hr,hk⟩:=qV E hs hl
   rw[hl]at E2 hr hk
   rw[<-hl]at E2
   have q':(iQ l).length<=1000000/\_:=⟨by rw[jf_];exact q.1,q.2⟩
   rcases hr with hr | ⟨o,hr⟩
   ·have B7:=aU.mp hr
    have hB:=aNi B7.2
    have Hx:=aCh E2.rep B7.2
    refine .inr ⟨a,ws,E2.rep.vis _ _ B7.2,λo=>⟨.ref a,hv,a,o,ws,rfl,bU,?_⟩⟩
    have E3:EOk (F.fz a o ws hB) (ρ.set i (vT s.d)) σ ([]++fr) (upd H a (.frz o (.dK ws))):=⟨E2.len,E2.rep.fzD B7.2 (by rw[hl];exact B7.1) hB⟩
    refine jm_ (F:=F.fz a o ws hB) (Q:=λv H'=>H' a=some (.frz o (.dK ws))/\Q v (upd H' a (.dK ws))) (tcT:=aCm tc) (teT:=tXe te) Cj Aw (λ_ _ _ z=>⟨_,z⟩) (λ_ _ _ z=>⟨_,z⟩) (λv s H' ρ' h2 h3=>?_) E3 (il_ (λP H R=>R.kp a _ bU hB) hk) q'
    obtain⟨e1,e2⟩:=h2.rep.thD Hx
    exact⟨e1,k v s _ ρ' ⟨h2.len,e2⟩ h3⟩
   ·have B7:=aU.mp hr
    refine .inl ⟨.ref a,hv,a,o,ws,rfl,E2.rep.vis _ _ B7.2,?_⟩
    exact jm_ (F:=F) (Q:=Q) (tcT:=aCm tc) (teT:=tXe te) Cj Aw (λ_ _ _ z=>⟨_,z⟩) (λ_ _ _ z=>⟨_,z⟩) k (row:=[]) E2 (il_ (k9 B7.2) hk) q'
  ·exact q.elim
 ·exact q.elim
theorem aHy{x:Str}{px pos:Pos}{tg:Expr}{body:List Stmt}(hp:PassesOwn (model X.prog X.w) X.A X.env X.xe)(hc:X.calm=true)(hv:PE X (.Name x px) (fN i))(hg:PG X tg g)(Cj:GX n g gx)(hb:XSs X dR body G)(hs:∀y,foldedSetIterable (.Name x px) X.env y=pure y:=by intro _;rfl):XSt X Ex (.For tg (.Name x px) body [] pos) (aBz i gx G):=λF =>
 (PS.or (yU hp hc (mL hv) hg hb.ex hs) (aJh (yU hp hc (mL hv) hg hb.ex hs))).weak (aTl Cj)
theorem vO{dsc scope:Scope}{tgs N' N:List Str}{x:Str}{px pos:Pos}{tg elt:Expr}{ifs:List Expr}(S:CompScope dsc scope N tgs outs N')(hv:PE X (.Name x px) (fN i))(hg:∀cl C s H ex,PG (dL X N' scope cl C s H ex) tg g)(Cj:GX tgs.length g gx)(Fy:Tgt tgs.length g)
  (E7:∀cl C s H ex,XCs (dL X N' scope cl C s H ex) dR ifs tc) (he:∀cl C s H ex,XE (dL X N' scope cl C s H ex) dR elt te) (Aw:outs.Nodup:=by decide) (G3:X.N=N:=by rfl) (D3:X.env.scope=dsc:=by rfl) (hc:X.calm=true:=by rfl) (hs:∀y,foldedSetIterable (.Name x px) X.env y=pure y:=by intro _;rfl) :
  XE X Ex (.ListComp elt [⟨tg,.Name x px,ifs,0⟩] scope pos) (sV i tgs.length outs gx tc te):=λF =>
 (PE.or (tZ S (mL hv) hg Fy (λa b c d e=>(E7 a b c d e).ex) (λa b c d e=>(he a b c d e).ex) G3 D3 hc hs) (aJs (tZ S (mL hv) hg Fy (λa b c d e=>(E7 a b c d e).ex) (λa b c d e=>(he a b c d e).ex) G3 D3 hc hs))).weak (aMl Cj Aw)
end
def aCc(g g':G2)(ta tb tc:XT):XT:=λρ Q=>ta ρ λa ρ1=>tb ρ1 λb ρ2=>g a.d b.d λs=>match s with
 | .tr (.bl k)=>if k=true then tc ρ2 λc ρ3=>g' b.d c.d λs'=>Q s' ρ3 else Q (.tr (.bl false)) ρ2
 |_=>False
theorem aCr{F:Fm}{r r':R2}{g g':G2}{ta tb tc:XT}(hx:OpX r g)(Di:OpX r' g'):∀σ H Q,tX F (aCc g g' ta tb tc) σ H Q->aCs r r' (tX F ta) (tX F tb) (tX F tc) σ H Q:=by
 rintro σ H Q ⟨ρ,fr,Qx,E,t,k⟩
 refine⟨ρ,fr,_,E,t,λv s H' ρ' E' t'=>⟨ρ',_,_,E',t',λw s2 H2 ρ2 E2 t2=>?_⟩⟩
 obtain⟨R,h1,h2⟩:=E2.two
 have E2b:EOk F ρ2 σ ((.v s2,some w)::fr) H2:=⟨E2.len,((E2.rep.perm (List.Perm.append_left _ (.swap _ _ _))).perm qC).tail.perm (.refl _)⟩
 have E2c:EOk F ρ2 σ ((vT s2.d,some w)::fr) H2:=EOk.back E2.len (E2b.front.frz)
 obtain⟨Rb,hb⟩:=E2c.one
 have h1b:IsX (hid (bJ (ρ2.zip σ++(vT s2.d,some w)::fr)) (F.vis H2)) s.d v:=h1.to (kW λc hc=>by
  have:(bJ ((vT s2.d,some w)::(ρ2.zip σ++fr))).Perm (bJ (ρ2.zip σ++(vT s2.d,some w)::fr)):=qC.symm.flatMap_right _
  have:=this.mem_iff.mpr hc
  rw[ev_ rfl]at this
  exact this)
 have h2b:IsX (hid (bJ (ρ2.zip σ++(vT s2.d,some w)::fr)) (F.vis H2)) s2.d w:=hb.to (kW λc hc=>by
  have:(bJ ((vT s2.d,some w)::(ρ2.zip σ++fr))).Perm (bJ (ρ2.zip σ++(vT s2.d,some w)::fr)):=qC.symm.flatMap_right _
  have:=this.mem_iff.mpr hc
  rw[ev_ rfl]at this
  exact this)
 refine hx F (ρ2.zip σ++(vT s2.d,some w)::fr) H2 s.d s2.d v w _ _ E2c.rep h1b h2b t2 λz s3 H3 R3 q=>?_
 split at q
 ·rename_i kb
  obtain⟨z',e,hz⟩:=R3.atT
  cases e
  cases hz.bl_eq
  refine⟨kb,rfl,?_⟩
  have E3:EOk F ρ2 σ ((vT s2.d,some w)::fr) H3:=⟨E2.len,R3.tail⟩
  cases kb with
  |true =>
   refine⟨ρ2,_,_,E3,q,λu s4 H4 ρ4 E4 q4=>?_⟩
   obtain⟨R5,h5,h6⟩:=E4.two
   exact Di F _ H4 s2.d s4.d w u Q (λz=>Qx z ρ4) R5 h5 h6 q4 λv' s' H' R' q=>k v' s' H' ρ4 (EOk.back E4.len R') q
  |false=>exact k _ _ H3 ρ2 (EOk.back E2.len (E3.drop.rep.add (IsX.of_bl _))) q
 ·exact q.elim
section
variable{a b c e:Expr}{pos:Pos}{r r':R2}{g g':G2}{ta tb tc te:XT}{op op':CmpOp}
theorem aBp(ho:OpR X (compareOp op) r)(hx:OpX r g)(Ff:OpR X (compareOp op') r')(Di:OpX r' g')(ha:XE X Ex a ta)(hb:XE X Ex b tb)(hc:XE X Ex c tc)(hm:lastMarks [op,op'] [b,c]=false:=by with_unfolding_all rfl):XE X Ex (.Compare a [op,op'] [b,c] pos) (aCc g g' ta tb tc):=λF=>(aEg ho Ff (ha F) (hb F) (hc F) hm).weak (aCr hx Di)
end
abbrev XO:=En->(Option Int->En->Prop)->Prop
def tXo(F:Fm)(t:XO):TO:=λσ H Q=>∃ρ fr Qx,EOk F ρ σ fr H/\t ρ Qx/\∀b H' ρ',EOk F ρ' σ fr H'->Qx b ρ'->Q b H'
def XOp(X:Cx)(Ex:ExT)(e:Option Expr)(t:XO):Prop:=∀F,[OkF X Ex F]->PO X e (tXo F t)
def xoN:XO:=λρ Q=>Q none ρ
def xoS(t:XT):XO:=λρ Q=>t ρ λs ρ'=>match s.d with
 | .int i=>Q (some i) ρ'
 |_=>False
theorem lZ{X:Cx}{Ex:ExT}:XOp X Ex none xoN:=λF _ Aa s σ H Q I h=>by
 obtain⟨ρ,fr,Qx,E,t,k⟩:=h
 exact aJn Aa s σ H Q I (k none H ρ E t)
theorem jO{e:Expr}{t:XT}(h:XE X Ex e t):XOp X Ex (some e) (xoS t):=λF _ Aa s σ H Q I hq=>by
 refine aJm (h F) Aa s σ H Q I ?_
 obtain⟨ρ,fr,Qx,E,t,k⟩:=hq
 refine⟨ρ,fr,_,E,t,λv s H' ρ' E' q=>?_⟩
 split at q
 ·rename_i i hi
  obtain⟨R,hx⟩:=E'.one
  rw[hi]at hx
  cases hx.int_eq
  exact⟨i,rfl,k (some i) H' ρ' E'.drop q⟩
 ·exact q.elim
def fK{α:Type}(xs:List α)(lo hi:Option Int):List α:=(xs.drop (HT.sIx xs.length 0 lo)).take (HT.sIx xs.length xs.length hi-HT.sIx xs.length 0 lo)
def slX(a:Dx)(lo hi:Option Int)(Q:Sv->Prop):Prop:=match a with
 | .lst l=>Q (.ol (fK l lo hi))
 | .str z=>z.length<=1000000/\Q (.tr (.str (Txt.slice z lo hi)))
 |_=>False
def xSl(t:XT)(lo hi:XO):XT:=λρ Q=>t ρ λa ρ1=>lo ρ1 λl ρ2=>hi ρ2 λh ρ3=>slX a.d l h λs=>Q s ρ3
theorem kX{e:Expr}{lo hi:Option Expr}{p2 pos:Pos}{t:XT}{tl th:XO}(K:cZ)(he:XE X Ex e t)(hl:XOp X Ex lo tl)(hh:XOp X Ex hi th)(h:X.K=K:=by rfl):XE X Ex (.Subscript e (.Slice lo hi none p2) pos) (xSl t tl th):=λF =>
 (aEa (SlR.or (aDa K h) aPz) (he F) (hl F) (hh F)).weak fun σ H Q=>by
  rintro⟨ρ,fr,Qx,E,t,k⟩
  refine⟨ρ,fr,_,E,t,λv s H' ρ' E' q=>⟨ρ',_,_,E',q,λl H2 ρ2 E2 q2=>⟨ρ2,_,_,E2,q2,λu H3 ρ3 E3 q3=>?_⟩⟩⟩
  obtain⟨R,hx⟩:=E3.one
  unfold slX at q3
  split at q3
  ·rename_i m hm
   rw[hm]at hx
   obtain⟨a,vs,rfl,h1,h2⟩:=hx.lst_eq
   refine .inl ⟨a,vs,rfl,SqL.of (R.hv _ _ h1),λp hp=>k _ _ _ ρ3 (EOk.back E3.len (R.newL hp ?_)) q3⟩
   unfold aGw fK
   rw[h2.len]
   exact(h2.drop _).take _
  ·rename_i z hz
   rw[hz]at hx
   cases hx.str_eq
   exact .inr ⟨z,rfl,by have:=fJ;omega,k _ _ H3 ρ3 (EOk.back E3.len (R.add (IsX.of_str _))) q3.2⟩
  ·exact q3.elim
def aVy(t:XT):XT:=λρ Q=>t ρ λs ρ'=>match s.d with
 | .lst l=>Q (.ol l.reverse) ρ'
 |_=>False
theorem aIc{e:Expr}{t:XT}{k:Nat}{p1 p2 p3 pos:Pos}(he:XE X Ex e t):XE X Ex (.Subscript e (.Slice none none (some (.UnaryOp .USub (.Constant (.int 1) k p1) p2)) p3) pos) (aVy t):=λF=>(aJq (he F)).weak λσ H Q=>by
 rintro⟨ρ,fr,Qx,E,t,k⟩
 refine⟨ρ,fr,_,E,t,λv s H' ρ' E' q=>?_⟩
 split at q
 ·rename_i m hm
  obtain⟨R,hx⟩:=E'.one
  rw[hm]at hx
  obtain⟨a,vs,rfl,h1,h2⟩:=hx.lst_eq
  exact⟨a,vs,rfl,SqL.of (R.hv _ _ h1),λp hp=>k _ _ _ ρ' (EOk.back E'.len (R.newL hp h2.rev)) q⟩
 ·exact q.elim
def aZt:GC
 | [.lst l],Q=>(∃bs:List Bool,l=bs.map Dx.bl/\Q (.tr (.bl (bs.all id))))
 |_,_=>False
theorem p9{G:Hp}:∀{bs:List Bool} {vs:List V},All2 (IsX G) (bs.map Dx.bl) vs->vs=bs.map V.bl
 | [],_,h=>h
 |b::bs,_,⟨v,vr,e,h1,h2⟩=>by rw[e,h1.bl_eq,p9 h2];rfl
theorem wS{G:Hp}:∀{bs:List Int} {vs:List V},All2 (IsX G) (bs.map Dx.int) vs->vs=bs.map V.int
 | [],_,h=>h
 |b::bs,_,⟨v,vr,e,h1,h2⟩=>by rw[e,h1.int_eq,wS h2];rfl
theorem aUc{K:cZ}:hY (aDq K) aZt:=by
 intro F P H ds xs Q Qx R hs g k
 unfold aZt at g
 split at g
 ·obtain ⟨bs,rfl,g⟩:=g
  obtain⟨x,rfl,hx⟩:=pQ hs
  obtain⟨a,vs,rfl,h1,h2⟩:=hx.lst_eq
  have:=p9 h2
  subst this
  exact⟨a,bs,rfl,SqL.of (R.hv _ _ h1),k _ _ H (R.add (IsX.of_bl _)) g⟩
 ·exact g.elim
theorem aAv{X:Cx}(K:cZ)(hc:X.calm=true)(h:X.K=K:=by rfl):CallR X (.builtin "all") (aDq K):=by subst h;exact aAu hc
def aFd:GC
 | [.int i,.int j],Q=>Q (.tr (.int (if j>i then j else i)))
 |_,_=>False
def aFc:GC
 | [.int i,.int j],Q=>Q (.tr (.int (if j<i then j else i)))
 |_,_=>False
theorem o5:hY (λxs H Q=>∃i j,xs=[.int i,.int j]/\Q (.int (if j>i then j else i)) H) aFd:=by
 intro F P H ds xs Q Qx R hs g k
 unfold aFd at g
 split at g
 ·obtain ⟨x,y,rfl,hx,hy⟩:=aHh hs
  cases hx.int_eq;cases hy.int_eq
  exact⟨_,_,rfl,k _ _ H (R.add (IsX.of_int _)) g⟩
 ·exact g.elim
theorem aMj:hY (λxs H Q=>∃i j,xs=[.int i,.int j]/\Q (.int (if j<i then j else i)) H) aFc:=by
 intro F P H ds xs Q Qx R hs g k
 unfold aFc at g
 split at g
 ·obtain ⟨x,y,rfl,hx,hy⟩:=aHh hs
  cases hx.int_eq;cases hy.int_eq
  exact⟨_,_,rfl,k _ _ H (R.add (IsX.of_int _)) g⟩
 ·exact g.elim
def aOi:GC
 | [.lst l],Q=>(∃ns:List Int,l=ns.map Dx.int/\ns≠[]/\∀M,M∈ns->(∀a∈ns,a<=M)->Q (.tr (.int M)))
 |_,_=>False
theorem o4{K:cZ}:hY (aDn K) aOi:=by
 intro F P H ds xs Q Qx R hs g k
 unfold aOi at g
 split at g
 ·obtain ⟨bs,rfl,g1,g⟩:=g
  obtain⟨x,rfl,hx⟩:=pQ hs
  obtain⟨a,vs,rfl,h1,h2⟩:=hx.lst_eq
  have:=wS h2
  subst this
  exact⟨a,bs,rfl,SqL.of (R.hv _ _ h1),g1,λM h3 h4=>k _ _ H (R.add (IsX.of_int _)) (g M h3 h4)⟩
 ·exact g.elim
theorem sC{X:Cx}(K:cZ)(hc:X.calm=true)(h:X.K=K:=by rfl):CallR X (.builtin "max") (aDn K):=by subst h;exact aAr hc
theorem aDe{F:Fm}{ti:XI}{n i:Nat}{g:TG}{gx:XG}{outs:List Nat}{tc:XC}{te:XT}(Cj:GX n g gx)(Aw:outs.Nodup):∀D σ H,tXS F (eZ i (aCb n outs ti gx tc te)) D σ H->vX (qU n outs (tXi F ti) g (tXc F tc) (tX F te)) (jU i) D σ H:=by
 rintro D σ H ⟨ρ,fr,d,E,q,k⟩
 exact c9 Cj Aw σ H _ ⟨ρ,fr,_,E,q,λv s H' ρ' E' q'=>k.nx _ H' _ bG (hq_ E') q'⟩
def nZ(N:List Str)(l:List Dx)(ds:List Dx):En:=.bw l::(ds.map (λd=>.v (.tr d))++List.replicate (N.length-(ds.length+1)) .un)
def mU(Q:Dx->List Dx->Prop)(d:Dx)(ρ:En):Prop:=match (ρ[0]? : Option Sl)with
 |some (Sl.bw l)=>Q d l
 |_=>False
abbrev aXa(Q:Dx->List Dx->Prop):XD:=⟨λρ=>mU Q .non ρ,λs ρ=>mU Q s.d ρ,λ_=>False,λ_=>False⟩
theorem aMb{x:Str}{st:Stmt}{f:Addr}{fd:FuncData}{N ps:List Str}{k:Nat}{g:GB}(Fn:Fun K x x st f fd)(S:FnScope N ps (aM st))(Al:∀l ds Q,g l ds Q->ds.length+1=ps.length)(hN:ps.length<=N.length)
  (Az:∀ (Ak:Value) (A:Around) (outer:List Env) (s:Shared) (H:Hp) (E:XK),Room k (A.deeper (PyProof.Rows.envOfC x (aM st) s.heap.objs.size f Ak)) →
   ∃G,XSs (iS CX0 P w K mg base N x (aM st) f Ak A outer s H E).nox dR (eG st) G/\∀l ds Q,g l ds Q->G (nZ N l ds) (aXa Q)):FnOk P w K mg base CX0 (k+1) f fd ps (spB g):=by
 refine Fn.ok S (λvs H Q E h=>?_) (λAk A outer s H vs Q E hr h=>?_)
 ·obtain ⟨p,ws,l,vr,Hs,ds,Qx,rfl,_,_,_,_,h2,h3,_⟩:=h
  rw[aD,h2.len]
  exact Al l ds Qx h3
 obtain⟨p,ws,l,vr,Hs,ds,Qx,rfl,hp,h1,Ch,hl,h2,h3,h4⟩:=h
 obtain⟨G,hG,hq⟩:=Az Ak A outer s H E hr
 have Gv:=Al l ds Qx h3
 have nb:∀b∈[p],Hs b=none:=λb hb=>by rw[aI.mp hb];exact Ch
 have ib:∀b∈[p],∃o,H b=some o:=λb hb=>by rw[aI.mp hb];exact⟨_,hp⟩
 have At:∀{d:Dx} {v:V} {σ':St} {H':Hp} {ρ':En},EOk ⟨H,Hs,[p],h1,nb,ib⟩ ρ' σ' ((vT d,some v)::[]) H'->mU Qx d ρ'->Q v H':=λ{d v σ' H' ρ'} E' q=>by
  unfold mU at q
  split at q
  ·rename_i l' h0
   obtain⟨R,hx⟩:=E'.one
   obtain⟨y,hy,hi,R2⟩:=mD ⟨E'.len,R⟩ h0
   obtain⟨a,ws',rfl,h5,h6⟩:=R2.atB
   have ha:a=p:=aI.mp (R2.fr _ aA a (aI.mpr rfl))
   subst ha
   refine h4 d v l' ws' H' (λb o hb=>?_) h5 (h6.imp λ_ _ z=>z.to (kW λc hc=>by rw[aI.mp hc];exact aA)) (hx.to uR) q
   have An:b≠a:=λz=>by rw[z]at hb;unfold aFu at hb;rw[if_pos rfl]at hb;cases hb
   rw[mY An]at hb ⊢
   exact R.kp b o hb λz=>An (aI.mp z)
  ·exact q.elim
 refine⟨_,hG ⟨H,Hs,[p],h1,nb,ib⟩,nZ N l ds,[],aXa Qx,⟨?_,?_⟩,hq l ds Qx h3,⟨λσ' H' ρ' _ E' q=>At (EOk.back E'.len (E'.rep.add (d:=.non) (v:=.non) IsX.of_non)) q,λv s σ' H' ρ' _ E' q=>At (EOk.back E'.len E'.front.frz) q,λ_ _ _ _ _ q=>q.elim,λ_ _ _ _ _ q=>q.elim⟩⟩
 ·unfold nZ L2.start
  simp only[aB,aG,bI,aD]
  rw[h2.len]
  omega
 ·have R0:Rep ⟨H,Hs,[p],h1,nb,ib⟩ [] H:=⟨List.nodup_nil,fun r hr=>by simp at hr,fun r hr=>by simp at hr,fun b o h _=>h,ib⟩
  have Dj:Same Hs (Fm.vis ⟨H,Hs,[p],h1,nb,ib⟩ H):=λb o hb=>(jH (h1 _ _ hb)).trans hb
  have R1:=gt_ (m:=N.length-(ds.length+1)) R0 (h2.imp λ_ _ z=>z.to Dj)
  have Eo:bJ ((ds.map (λd=>Sl.v (.tr d))++List.replicate (N.length-(ds.length+1)) Sl.un).zip (vr.map some++List.replicate (N.length-(ds.length+1)) none))=[]:=by
   unfold bJ
   refine List.flatMap_eq_nil_iff.mpr λr hr=>?_
   obtain⟨a,b⟩:=r
   rcases bF.mp (fB hr).1 with h | h
   ·obtain⟨d,_,rfl⟩:=bX.mp h;rfl
   ·rw[(List.mem_replicate.mp h).2];rfl
  rw[aV]
  have e:(nZ N l ds).zip (L2.start N (.ref p::vr))=(.bw l,some (.ref p))::(ds.map (λd=>Sl.v (.tr d))++List.replicate (N.length-(ds.length+1)) Sl.un).zip (vr.map some++List.replicate (N.length-(ds.length+1)) none):=by
   unfold nZ L2.start
   rw[bB,aP,eP,aD,h2.len]
  rw[e]
  refine⟨by rw[iO (a:=p) rfl,Eo];simp,λr hr=>?_,λr hr a ha=>?_,R1.kp,R1.lv⟩
  ·rw [iO (a:=p) rfl,Eo]
   rcases aF.mp hr with rfl | hr
   ·refine ⟨p,ws,rfl,hp,hl.imp fun _ _ z=>z.to fun b o hb=>aU.mpr ⟨fun z => ?_,Dj _ _ hb⟩⟩
    rw[aI.mp z,Ch]at hb;cases hb
   ·refine (R1.ok r hr).mono (.of fun b o hb => ?_) fun _ _=>rfl
    have An:=aU.mp hb
    refine aU.mpr ⟨λz=>?_,An.2⟩
    have h9:Hs p=some o:=(jH hp).symm.trans (aI.mp z ▸ An.2)
    rw[Ch]at h9;cases h9
  ·rcases aF.mp hr with rfl | hr
   ·exact ha
   ·exact R1.fr r hr a ha
theorem Cal.mono{i j:Nat}{x:Str}{ps:List Str}{sp:Sp}(C:Cal P w K mg base i x ps sp)(h:i<=j):Cal P w K mg base j x ps sp:=by
 obtain⟨f,fd,G,b,k,m⟩:=C
 exact⟨f,fd,G.mono h,b,k,m⟩
theorem jn_{n:Nat}{gx:XG}{tc:XC}{te:XT}{Q:List Dx->List Sl->Prop}{cs:List Sl}(f:Dx->List Dx):∀{ds:List Dx} {Ag:List Dx},
  (∀d∈ds,∀(Ag:List Dx) (P:List Dx->List Sl->Prop),P (Ag++f d) cs->gx d (List.replicate n .un++cs) λρ1=>tc ρ1 λb ρ2=>if b=true then te ρ2 λs ρ3=>P (Ag++[s.d]) (ρ3.drop n)else P Ag (ρ2.drop n)) ->
  Q (Ag++(ds.map f).flatten) cs->dP n gx tc te Q ds cs Ag
 | [],Ag,_,q=>by simpa [dP]using q
 |d::ds,Ag,h,q=>by
  show gx d _ _
  exact h d aA Ag (λAg cs=>dP n gx tc te Q ds cs Ag) (jn_ f (λd' hd=>h d' (aC _ hd)) (by simpa [aL]using q))
theorem wZ{gx:XG}{G:XS}{D:XD}(Pv:List Dx->En->Prop)(hd:∀ρ,Pv [] ρ->D.nx ρ)(hs:∀d ds ρ (K:En->Prop),Pv (d::ds) ρ->(∀ρ',Pv ds ρ'->K ρ')->gx d ρ λρ1=>G ρ1 { D with nx:=K,ct:=K,bk:=D.nx }) :
  ∀{ds:List Dx} {ρ:En},Pv ds ρ->iR gx G D ds ρ
 | [],ρ,h=>hd ρ h
 |d::ds,ρ,h=>hs d ds ρ (iR gx G D ds) h λρ' h'=>wZ Pv hd hs h'
theorem pY{α:Type}{l:List α}{i:Int}(h0:0<=i)(h1:i<l.length):∃x,atI l i=some x/\l[i.toNat]? = some x:=by
 have hk:i.toNat<l.length:=by omega
 refine⟨l[i.toNat],?_,aO hk⟩
 unfold atI
 have:ixN l.length i=some i.toNat:=by
  unfold ixN
  simp only[h0]
  split<;>simp_all<;>omega
 rw[this]
 exact aO hk
abbrev GP:=List Dx->Dx->(Dx->Prop)->Prop
def OpL(r:R2)(g:GP):Prop:=∀(G:Hp) (H:Hp) (p:Addr) (ws:List V) (l:List Dx) (b:Dx) (y:V) (Q:VK) (Qx:Dx->Prop),Same G H->H p=some (.lst ws)->All2 (IsX G) l ws->IsX G b y->g l b Qx->(∀v d,IsX G d v->Qx d->Q v H)->r (.ref p) y H Q
def aBv(g:GP)(i:Nat)(t:XT):XT:=λρ Q=>((ρ[i]?).bind kG).isSome=true/\t ρ λk ρ'=>match (ρ'[i]?).bind kG with
 |some (l,_)=>g l k.d λd=>Q (.tr d) ρ'
 |none=>False
def aBu(i:Nat):XT:=λρ Q=>match (ρ[i]?).bind kG with
 |some (l,_)=>Q (.tr (.int l.length)) ρ
 |none=>False
section
variable{F:Fm}{i:Nat}{t:XT}{r:R2}{g:GP}{x:Str}{a b e:Expr}{p pos:Pos}
theorem aOd(hx:OpL r g):∀σ H Q,tX F (aBv g i t) σ H Q->tOp r (fN i) (tX F t) σ H Q:=by
 rintro σ H Q ⟨ρ,fr,Qx,E,⟨h0,q⟩,k⟩
 obtain⟨⟨l,f⟩,h1⟩:=cN.mp h0
 obtain⟨p,ws,hv,_⟩:=fi_ E h1
 refine⟨.ref p,hv,ρ,fr,_,E,q,λw s H' ρ' E' q'=>?_⟩
 split at q'
 ·rename_i l' f' hb
  obtain⟨R,hs⟩:=E'.one
  obtain⟨p',ws',A2,hp,hl,_⟩:=fi_ E'.drop hb
  rw[hv]at A2;cases A2
  exact hx _ H' p ws' l' s.d w Q _ R.hv hp hl hs q' λv d hd qd=>k v (.tr d) H' ρ' (EOk.back E'.len (R.add hd)) qd
 ·exact q'.elim
theorem aXk{K:cZ}:∀σ H Q,tX F (aBu i) σ H Q->(∃p ws,σ[i]? = some (some (.ref p))/\SqL K H p ws/\Q (.int ws.length) H):=by
 rintro σ H Q ⟨ρ,fr,Qx,E,q,k⟩
 unfold aBu at q
 split at q
 ·rename_i l f hb
  obtain⟨p,ws,hv,hp,hl,_⟩:=fi_ E hb
  exact⟨p,ws,hv,SqL.of hp,k _ _ H ρ (EOk.back E.len (E.rep.add (by rw[hl.len];exact IsX.of_int _))) q⟩
 ·exact q.elim
def ixP:GP:=λl k Q=>match k with
 | .int j=>(match atI l j with | some d=>Q d | none=>False)
 |_=>False
theorem aXt{K:cZ}:OpL (aDo K) ixP:=by
 intro G H p ws l b y Q Qx hs hp hl hb g k
 unfold ixP at g
 split at g
 ·cases hb.int_eq
  split at g
  ·rename_i d hd
   obtain⟨v,h1,h2⟩:=pZ hl hd
   exact⟨_,_,_,_,rfl,rfl,SqL.of hp,h1,k v d h2 g⟩
  ·exact g.elim
 ·exact g.elim
theorem sO(K:cZ)(hv:PE X (.Name x p) (fN i))(hb:XE X Ex b t)(hs:jC b)(h:X.K=K:=by rfl):XE X Ex (.Subscript (.Name x p) b pos) (aBv ixP i t):=λF=>by
 subst h
 exact(aEe j7 hv (hb F) hs).weak (aOd aXt)
def neP(n:Bool):GP:=λl k Q=>match k with
 | .lst []=>Q (.bl (if n then !l.isEmpty else l.isEmpty))
 |_=>False
theorem aXs{K:cZ}{r:R2}(n:Bool):OpL (λx y H Q=>r x y H Q\/aDp K n x y H Q) (neP n):=by
 intro G H p ws l b y Q Qx hs hp hl hb g k
 unfold neP at g
 split at g
 ·obtain ⟨p',vs',rfl,q3,q4⟩:=hb.lst_eq
  cases(show vs'=[]from q4)
  refine .inr ⟨p,p',ws,rfl,rfl,SqL.of hp,SqL.of (hs _ _ q3),k _ _ ?_ g⟩
  have:ws.isEmpty=l.isEmpty:=by
   have:=hl.len
   cases ws<;>cases l<;>simp at this ⊢
  rw[this]
  exact IsX.of_bl _
 ·exact g.elim
theorem aHw(K:cZ)(hu:X.A.units<cLine)(hv:PE X (.Name x p) (fN i))(hb:XE X Ex b t)(hm:behindInMarks .Eq b=false)(h:X.K=K:=by rfl):XTe X Ex (.Compare (.Name x p) [.Eq] [b] pos) (xB (aBv (neP false) i t)):=λF=>(tV (gV K hu h) hv (hb F) hm).weak (hg_ (aOd (aXs false)))
theorem vM{y:Str}{py:Pos}(K:cZ)(hg:Gl X y)(hm:X.mg y=none)(hv:bootBuiltins y=some (.builtin "len"))(hx:PE X (.Name x p) (fN i))(h:X.K=K:=by rfl)(hn:y ≠ "__name__":=by decide)(Bk:(y == ("__debug__" : Str))=false:=by decide):XE X Ex (.Call (.Name y py) [.Name x p] [] pos) (aBu i):=λF=>by
 subst h
 refine(gb_ lI hg hm hv (lK hx xJ) hn Bk).weak λσ H Q q=>?_
 obtain⟨p,ws,h1,h2,h3⟩:=aXk (K:=X.K) σ H Q q
 exact⟨.ref p,h1,p,ws,rfl,.inl h2,h3⟩
end
theorem XE.at{e:Expr}{t:XT}(F:Fm)[OkF X Ex F](h:XE X Ex e t):PE X e (tX F t):=h F
theorem fM{e:Expr}{t:XT}{x:Str}{i:Nat}{pos pos':Pos}(hN:X.N.Nodup)(hi:X.N[i]? = some x)(hx:Loc X.env.scope x)(he:XE X dR e t)(hs:swapsWith e (some (.Name x pos')) pos.line X.env=pure false:=by rfl)(hf:X.fn x=true\/X.env.scope.names.lookup x=some .local:=by first | exact .inl rfl | exact .inr rfl | assumption):XSt X Ex (.Assign [.Name x pos'] e pos) (eZ i t):=ah_ λF=>ap_ hN hi hx (XE.at (Ex:=dR) F he) hs hf
theorem gC{x:Str}{p q pos:Pos}{i j:Nat}{n:Int}(K:cZ)(h0:PE X (.Name x p) (fN i))(h:X.K=K:=by rfl):XE X Ex (.Subscript (.Name x p) (.Constant (.int n) j q) pos) (xOp ixX (bM i) (xC (.int n))):=jI K (bL h0) cK (λ_ _=>rfl) h
theorem XIt.at{tg e:Expr}{t:XI}(F:Fm)[OkF X Ex F](h:XIt X Ex tg e t):PI X tg e (tXi F t):=h F
theorem XCs.at{e:List Expr}{t:XC}(F:Fm)[OkF X Ex F](h:XCs X Ex e t):PCs X e (tXc F t):=h F
section
variable{α:Type}{n:Nat}{gx:XG}{tc:XC}{te:XT}{Q:List Dx->List Sl->Prop}
abbrev aNn(n:Nat)(gx:XG)(tc:XC)(te:XT)(P:List Dx->List Sl->Prop)(d:Dx)(cs:List Sl)(Ag:List Dx):Prop:=gx d (List.replicate n .un++cs) λρ1=>tc ρ1 λb ρ2=>if b=true then te ρ2 λs ρ3=>P (Ag++[s.d]) (ρ3.drop n)else P Ag (ρ2.drop n)
theorem do_{cs:List Sl}(φ ψ:α->Dx):∀{as:List α} {Ag:List Dx},(∀a∈as,∀(Ag:List Dx) (P:List Dx->List Sl->Prop),P (Ag++[ψ a]) cs->aNn n gx tc te P (φ a) cs Ag) ->
  Q (Ag++as.map ψ) cs->dP n gx tc te Q (as.map φ) cs Ag
 | [],Ag,_,q=>by simpa [dP]using q
 |a::as,Ag,h,q=>by
  show gx (φ a) _ _
  exact h a aA Ag (λAg cs=>dP n gx tc te Q (as.map φ) cs Ag) (do_ φ ψ (λa' ha=>h a' (aC _ ha)) (by simpa [aL]using q))
theorem db_(φ:α->Dx)(I:List α->List Dx->List Sl->Prop)(hd:∀Ag cs,I [] Ag cs->Q Ag cs)(hs:∀a as Ag cs (P:List Dx->List Sl->Prop),I (a::as) Ag cs->(∀acc' cs',I as acc' cs'->P acc' cs')->aNn n gx tc te P (φ a) cs Ag) :
  ∀{as:List α} {Ag:List Dx} {cs:List Sl},I as Ag cs->dP n gx tc te Q (as.map φ) cs Ag
 | [],Ag,cs,h=>hd Ag cs h
 |a::as,Ag,cs,h=>by
  show gx (φ a) _ _
  exact hs a as Ag cs (λAg cs=>dP n gx tc te Q (as.map φ) cs Ag) h λacc' cs' h'=>db_ φ I hd hs h'
theorem da_{gx:XG}{G:XS}{D:XD}(φ:α->Dx)(Pv:List α->En->Prop)(hd:∀ρ,Pv [] ρ->D.nx ρ)(hs:∀d ds ρ (K:En->Prop),Pv (d::ds) ρ->(∀ρ',Pv ds ρ'->K ρ')->gx (φ d) ρ λρ1=>G ρ1 { D with nx:=K,ct:=K,bk:=D.nx }) :
  ∀{ds:List α} {ρ:En},Pv ds ρ->iR gx G D (ds.map φ) ρ
 | [],ρ,h=>hd ρ h
 |d::ds,ρ,h=>hs d ds ρ (iR gx G D (ds.map φ)) h λρ' h'=>da_ φ Pv hd hs h'
end
section
variable{F:Fm}{e:Expr}{kws:List Keyword}{x:Str}{p pos:Pos}{u:XA}{t:XT}
theorem sQ{i:Int}(hg:Gl X x)(hm:∃t,X.mg x=some (.int i t))(hd:(x == ("__debug__" : Str))=false:=by decide):XE X Ex (.Name x pos) (xC (.int i)):=by
 obtain⟨t,hm⟩:=hm
 exact s_ (fu_ (v:=.int i) hg hm ⟨t,rfl⟩ hd) _ λ_=>IsX.of_int _
def aWf(t:XT):XT:=λρ Q=>t ρ λs ρ'=>match s.d with
 | .int i=>Q (.tr (.int (Builtin.Int.intBits i))) ρ'
 |_=>False
theorem aUg{K:cZ}:∀σ H Q,tX F (aWf t) σ H Q->aPx K "int" aOb (tX F t) σ H Q:=by
 rintro σ H Q ⟨ρ,fr,Qx,E,q,k⟩
 refine⟨ρ,fr,_,E,q,λv s H' ρ' E' q'=>?_⟩
 obtain⟨R,hs⟩:=E'.one
 split at q'
 ·rename_i i hi
  rw[hi]at hs
  cases hs.int_eq
  exact⟨rfl,i,rfl,rfl,k _ _ H' ρ' (EOk.back E'.len (R.add (IsX.of_int _))) q'⟩
 ·exact q'.elim
end
def neL:G2:=λa b Q=>match a,b with
 | .lst l,.lst m=>∃ns:List Int,l=ns.map Dx.int/\m=ns.map Dx.int/\Q (.tr (.bl false))
 |_,_=>False
theorem OkF.up{X:Cx}{Ex Ex':ExT}{F F':Fm}(h:OkF X Ex F)(hx:∀c,Ex' c->Ex c)(hk:∀H,lU F' H->lU F H):OkF X Ex' F':=
 ⟨λAa σ H s' ea cls I a e k=>h.pass1 Aa σ H s' ea cls I a (hx _ e) (hk _ k)⟩
section
variable{F:Fm}{a b e:Expr}{x:Str}{p pos:Pos}{ta tb t:XT}{tl th:XO}{u:XA}{K:cZ}
theorem aMr{α β:Type}{f:α->β}{l:List α}{i:Int}:atI (l.map f) i=(atI l i).map f:=by
 unfold atI
 rw[aG]
 cases ixN l.length i with
 |none=>rfl
 |some n=>exact bV
def ixZ(K:cZ):G2
 | .scr K' ns,.int i,Q=>K'=K/\(match atI ns i with | some n=>Q (.tr (.int n)) | none=>False)
 |_,_,_=>False
theorem aRf:OpX (aDo K) (ixZ K):=by
 intro F P H a b x y Q Qx R ha hb g k
 unfold ixZ at g
 split at g
 ·obtain ⟨rfl,g⟩:=g
  obtain⟨p,rfl,h1⟩:=ha.scr_eq
  cases hb.int_eq
  split at g
  ·rename_i n hn
   refine⟨p,_,_,V.int n,rfl,rfl,SameF.sq (.of R.hv) h1,?_,k _ _ H (R.add (IsX.of_int _)) g⟩
   rw[aMr,hn];rfl
  ·exact g.elim
 ·exact g.elim
theorem aPi(K:cZ)(ha:XE X Ex a ta)(hb:XE X Ex b tb)(hs:jC b)(h:X.K=K:=by rfl):XE X Ex (.Subscript a b pos) (xOp (ixZ K) ta tb):=λF=>(aEe (wQ K h) (ha F) (hb F) hs).weak (lV aRf)
def aSn(K:cZ):GC
 | [.scr K' ns],Q=>K'=K/\Q (.tr (.int ns.length))
 |_,_=>False
theorem o6:hY (aQl K) (aSn K):=by
 intro F P H ds xs Q Qx R hs g k
 unfold aSn at g
 split at g
 ·obtain ⟨rfl,g⟩:=g
  obtain⟨x,rfl,hx⟩:=pQ hs
  obtain⟨a,rfl,h1⟩:=hx.scr_eq
  exact .inl ⟨a,_,rfl,.inl (SameF.sq (.of R.hv) h1),k _ _ H (R.add (by rw[aG];exact IsX.of_int _)) g⟩
 ·exact g.elim
theorem o_{α β:Type}{f:α->β}(l:List α)(lo hi:Option Int):fK (l.map f) lo hi=(fK l lo hi).map f:=by
 unfold fK
 rw[aG,List.map_take,List.map_drop]
end
def spLaw(K:cZ):Sp:=λvs H Q _=>∃(a:Addr) (ns:List Int),vs=[.ref a]/\SqL K H a (ns.map V.int)/\ns.length<=63/\∀H',Q (.bl true) H'
def aYu(K:cZ):GC:=λds Q=>∃ns:List Int,ds=[.scr K ns]/\ns.length<=63/\Q (.tr (.bl true))
theorem aFk{f:Addr}{fd:FuncData}{j:Nat}(h:FnOk P w K mg base CX0 j f fd ["script"] (spX (aYu K))):FnOk P w K mg base CX0 j f fd ["script"] (spLaw K):=h.imp λvs H Q E=>by
 rintro⟨a,ns,rfl,hS,hl,q⟩
 refine⟨H,[.scr K ns],λs=>s=.tr (.bl true),Same.refl _,⟨_,_,rfl,IsX.of_scr hS,rfl⟩,⟨ns,rfl,hl,rfl⟩,λs v H' _ hr e=>?_⟩
 subst e
 have B7:IsX (ext H H H') (.bl true) v:=hr
 cases B7.bl_eq
 exact q H'
end Lf
namespace L2
open PySem
section
variable{M:Model}{A:Around}{E:gG}{s:Shared}
def sM(fs S:List Addr)(h h':Heap):Prop:=∀b o,h.get? b=some o->b∉S->(b∉fs->h'.get? b=some o)/\∃sl,h'.get? b=some { o with slots:=sl }
end
end L2
namespace Lf
open PySem L2
section
variable{M:Model}{A:Around}{E:gG}{s:Shared}
theorem zU{nw:Addr->Prop}{H:Hp}{ea:Addr}{cls:Value}{fl:Option Addr}{Q:Unit->Shared->Prop}(a:Air nw s.heap H ea cls)
  (h:∀h' S,(∀b∈S,nw b/\H b=none/\∃o vs,s.heap.get? b=some o/\o.data=.fields vs)->sM [] S s.heap h'->Air nw h' H ea cls->Q () { s with heap:=h' }):wpAny M A (setFlight (.ref ea) fl) Q E s:=by
 obtain⟨a1,a2,oe,vs,he,hc,hd,Ca,hsz,a3⟩:=a
 unfold setFlight
 rcases a3 with a3 | ⟨T,oT,ts,a3,aT,aN,aH,hT,Es,h3⟩
 ·refine wpAny_bind (wpAny_field he hd a3 ?_)
  rw[if_neg (by decide)]
  exact wpAny_pure (h s.heap [] (λb hb=>nomatch hb) (λb o hb _=>⟨λ_=>hb,o.slots,hb⟩) ⟨a1,a2,oe,vs,he,hc,hd,Ca,hsz,.inl a3⟩)
 ·refine wpAny_bind (wpAny_field he hd a3 ?_)
  rw[if_pos (show(Value.ref T != Value.none)=true from by simp)]
  refine wpAny_setField hT Es h3 (h _ [T] (λb hb=>?_) (λb o hb Id=>?_) ⟨a1,a2,oe,vs,(cG _ _ aT).trans he,hc,hd,Ca,hsz,.inr ⟨T,_,_,a3,aT,aN,aH,Heap.get?_update_self _ hT (Obj.isFreed_of_fields (Obj.data_mapFields Es _)),Obj.data_mapFields Es _,by simpa using h3⟩⟩)
  ·rw[aI.mp hb];exact⟨aN,aH,oT,ts,hT,Es⟩
  ·have n2:b≠T:=fun z=>Id (aI.mpr z)
   have e2:=(cG s.heap (Obj.mapFields (·.setIfInBounds 3 (fl.elim Value.none λf=>rawInt f))) (Ne.symm n2)).trans hb
   exact⟨λ_=>e2,o.slots,e2⟩
def Tb(h':Heap)(ea:Addr):Prop:=∃oe vs T,h'.get? ea=some oe/\oe.data=.fields vs/\vs[1]? = some (.ref T)
theorem v_{base:Heap}{nw:Addr->Prop}{H:Hp}{env:Env}{outer:List Env}{L ea:Addr}{cls:Value}{Q:Unit->Shared->Prop}
  (C7:A.frames=some (env::outer)) (hl:s.heap.FunFrames base (env::outer)) (hf:env.frame=some L) (hz:∀T,s.heap.objs.size<=T->nw T) (hH:∀a,s.heap.objs.size<=a->H a=none) (a:Air nw s.heap H ea cls)
  (h:∀h' S,(∀b∈S,nw b/\H b=none/\∃o vs,s.heap.get? b=some o/\o.data=.fields vs)->sM (frs (env::outer)) S s.heap h'->Air nw h' H ea cls->Tb h' ea->Q () { s with heap:=h' }):wpAny M A (noteFrame (.ref ea) env) Q E s:=by
 have entry:∀{s:Shared} {oe:Obj} {vs:Array Value} {head:Value} {Ee:Bool} {Q:Unit->Shared->Prop},s.heap.FunFrames base (env::outer)->s.heap.get? ea=some oe->oe.data=.fields vs->1<vs.size ->
   (∀h' T oT ts,sM (frs (env::outer)) [ea] s.heap h'->s.heap.objs.size<=T->T≠ea->h'.get? ea=some (oe.mapFields (·.setIfInBounds 1 (.ref T)))->h'.get? T=some oT->oT.data=.fields ts->3<ts.size->Q () { s with heap:=h' }) ->
   wpAny M A (do let a <-frameOf env;let pl <-entryPlaceOf L Ee;let b <-EntryCells.newEntry head a .none (rawInt L) .none pl;setField (.ref ea) 1 b) Q E s:=by
  intro s oe vs head Ee Q hl he hd hsz h
  have L6:ea∉(env::outer).filterMap (·.frame):=λhm=>by
   obtain⟨_,o,ho,Jf⟩:=hl.mem hm
   rw[he]at ho;injection ho with ho;subst ho;exact Jf vs hd
  refine wpAny_bind (wpAny_frameOf_fun C7 hl hf λh₁ hs₁=>?_)
  refine wpAny_bind (wpAny_entryPlaceOf λpl A0=>?_)
  unfold EntryCells.newEntry newFields
  refine wpAny_bind (wpAny_newObj_type ?_ (A0.sizeOk5 _ _ _ _ _))
  have he₁:h₁.get? ea=some oe:=(hs₁.2.1 ea L6).trans he
  have he₂:=aQ (h:=h₁) { cls:=.type "traceback",dict:=none,data:=.fields ([head,.ref L,.none,rawInt L,.none]++(if pl.isEmpty then List.replicate 6 Value.none else pl)).toArray } he₁
  have N0:h₁.objs.size≠ea:=Nat.ne_of_gt (bK he₁)
  have hd₃:=Obj.data_mapFields hd (·.setIfInBounds 1 (Value.ref h₁.objs.size))
  have he₃:=Heap.get?_update_self (Obj.mapFields (·.setIfInBounds 1 (Value.ref h₁.objs.size))) he₂ (Obj.isFreed_of_fields hd₃)
  have hT₃:=(cG (h₁.push { cls:=.type "traceback",dict:=none,data:=.fields ([head,.ref L,.none,rawInt L,.none]++(if pl.isEmpty then List.replicate 6 Value.none else pl)).toArray })
   (Obj.mapFields (·.setIfInBounds 1 (Value.ref h₁.objs.size))) (Ne.symm N0)).trans (bP h₁ rfl)
  refine wpAny_setField he₂ hd hsz (h _ h₁.objs.size _ _ ?_ (Nat.le_of_eq hs₁.1.symm) N0 he₃ hT₃ rfl (by simp only[bE,aB,aD,bC]<;>omega))
  intro b o hb Fi
  have Mf:b≠ea:=λz=>Fi (aI.mpr z)
  have keep:∀o,h₁.get? b=some o->((h₁.push { cls:=.type "traceback",dict:=none,data:=.fields ([head,.ref L,.none,rawInt L,.none]++(if pl.isEmpty then List.replicate 6 Value.none else pl)).toArray }).update ea (Obj.mapFields (·.setIfInBounds 1 (Value.ref h₁.objs.size)))).get? b=some o:=λo hb=>by
   rw[cG _ _ (Ne.symm Mf)]
   exact aQ _ hb
  refine⟨λhbf=>keep o ((hs₁.2.1 b hbf).trans hb),?_⟩
  obtain⟨sl,hs⟩:=hs₁.2.2 b o hb
  exact⟨sl,keep _ hs⟩
 obtain⟨a1,a2,oe,vs,he,hc,hd,Ca,hsz,a3⟩:=a
 have At:∀(h':Heap) (T:Addr) (oT:Obj) (ts:Array Value),s.heap.objs.size<=T->T≠ea->h'.get? ea=some (oe.mapFields (·.setIfInBounds 1 (.ref T)))->h'.get? T=some oT->oT.data=.fields ts->3<ts.size->Air nw h' H ea cls/\Tb h' ea:=λh' T oT ts g1 g2 g3 g4 g5 g6=>by
  refine⟨⟨a1,a2,_,_,g3,(Obj.cls_mapFields _ _).trans hc,Obj.data_mapFields hd _,by obtain⟨c,dct,dt,sl⟩:=oe;cases dt<;>exact Ca,by simpa using hsz,.inr ⟨T,oT,ts,by simp[hsz],g2,hz T g1,hH T g1,g4,g5,g6⟩⟩,⟨_,_,T,g3,Obj.data_mapFields hd _,by simp[hsz]⟩⟩
 unfold noteFrame
 simp only[hf]
 rcases a3 with a3 | ⟨T,oT,ts,a3,aT,aN,aH,hT,Es,h3⟩
 ·refine wpAny_bind (wpAny_field he hd a3 ?_)
  rw[if_neg (by decide)]
  exact entry hl he hd hsz λh' T oT ts g0 g1 g2 g3 g4 g5 g6=>h h' [ea] (λb hb=>by rw[aI.mp hb];exact⟨a1,a2,_,_,he,hd⟩) g0 (At h' T oT ts g1 g2 g3 g4 g5 g6).1 (At h' T oT ts g1 g2 g3 g4 g5 g6).2
 ·refine wpAny_bind (wpAny_field he hd a3 ?_)
  rw[if_pos (show(Value.ref T != Value.none)=true from by simp)]
  obtain⟨x3,e3⟩:∃x,ts[3]? = some x:=⟨_,Array.getElem?_eq_getElem h3⟩
  refine wpAny_bind (wpAny_field hT Es e3 ?_)
  by_cases hx:(x3 == rawInt L)=true
  ·rw [if_pos hx]
   exact wpAny_pure (h s.heap [] (λb hb=>nomatch hb) (λb o hb _=>⟨λ_=>hb,o.slots,hb⟩) ⟨a1,a2,oe,vs,he,hc,hd,Ca,hsz,.inr ⟨T,oT,ts,a3,aT,aN,aH,hT,Es,h3⟩⟩ ⟨oe,vs,T,he,hd,a3⟩)
  rw[if_neg hx]
  refine wpAny_bind (wpAny_setField hT Es h3 ?_)
  have other:∀b,b≠T->(s.heap.update T (Obj.mapFields (·.setIfInBounds 3 Value.none))).get? b=s.heap.get? b:=λb hb=>cG _ _ (Ne.symm hb)
  have noRecord:∀b o,s.heap.get? b=some o->(∀vs,o.data ≠ .fields vs)->b≠T:=λb o hb Jf q=>by
   rw[q,hT]at hb;injection hb with hb;subst hb;exact Jf ts Es
  have Ix:(s.heap.update T (Obj.mapFields (·.setIfInBounds 3 Value.none))).objs.size=s.heap.objs.size:=Heap.size_after_update ..
  refine entry (s:={ s with heap:=_ }) (hl.of_keeps λb o hb Jf=>⟨o,(other b (noRecord b o hb Jf)).trans hb,rfl⟩) ((other ea (Ne.symm aT)).trans he) hd hsz
   λh' T' oT' ts' g0 g1 g2 g3 g4 g5 g6=>h h' [ea,T] (λb hb=>?_) (λb o hb Id=>?_) (At h' T' oT' ts' (by rw[<-Ix];exact g1) g2 g3 g4 g5 g6).1 (At h' T' oT' ts' (by rw[<-Ix];exact g1) g2 g3 g4 g5 g6).2
  ·rcases aF.mp hb with rfl | hb
   ·exact⟨a1,a2,_,_,he,hd⟩
   ·rw[aI.mp hb];exact⟨aN,aH,_,_,hT,Es⟩
  ·have n1:b≠ea:=fun z=>Id (by rw [z]; exact aA)
   have n2:b≠T:=λz=>Id (by rw[z];exact aC _ aA)
   exact g0 b o ((other b n2).trans hb) λz=>n1 (aI.mp z)
theorem wM{base:Heap}{nw:Addr->Prop}{H:Hp}{env:Env}{outer:List Env}{L ea:Addr}{cls:Value}{Q:Unit->Shared->Prop}
  (C7:A.frames=some (env::outer)) (hl:s.heap.FunFrames base (env::outer)) (hf:env.frame=some L) (hz:∀T,s.heap.objs.size<=T->nw T) (hH:∀a,s.heap.objs.size<=a->H a=none) (a:Air nw s.heap H ea cls)
  (h:∀h' S,(∀b∈S,nw b/\H b=none/\∃o vs,s.heap.get? b=some o/\o.data=.fields vs)->sM (frs (env::outer)) S s.heap h'->Air nw h' H ea cls->Q () { s with heap:=h' }):wpAny M A (noteFrame (.ref ea) env) (λ_ s₂=>wpAny M A (setFlight (.ref ea) none) Q E s₂) E s:=
 v_ C7 hl hf hz hH a λh' S hS kx air' _=>zU (s:={ s with heap:=h' }) air' λh2 S2 hS2 M8 air2=>h h2 (S++S2.filter λb=>(s.heap.get? b).isSome) (λb hb=>by
  rcases bF.mp hb with z | z
  ·exact hS b z
  ·by_cases An:b∈S
   ·exact hS b An
   obtain⟨z1,z2⟩:=List.mem_filter.mp z
   obtain⟨o,e⟩:=cN.mp z2
   obtain⟨g1,g2,o2,vs2,e2,d2⟩:=hS2 b z1
   obtain⟨sl,e3⟩:=(kx b o e An).2
   have e4:some o2=some { o with slots:=sl }:=e2.symm.trans e3
   cases e4
   exact⟨g1,g2,o,vs2,e,d2⟩) (λb o e n=>by
  have n1:b∉S:=λz=>n (aK _ z)
  have n2:b∉S2:=λz=>n (aE _ (List.mem_filter.mpr ⟨z,by rw[e];rfl⟩))
  obtain⟨p,sl,q⟩:=kx b o e n1
  refine⟨λhf=>(M8 b o (p hf) n2).1 (by simp),?_⟩
  obtain⟨sl',q'⟩:=(M8 b _ q n2).2
  exact⟨sl',q'⟩) air2
end
theorem rP{P:Program}{w:World}{H:Hp}{h h':Heap}{fs S:List Addr}(x:HOk P w H h)(k:sM fs S h h')(hf:∀b∈fs,H b=none)(hS:∀b∈S,H b=none):HOk P w H h':=λa o e =>
 ObjOk.stay (x a o e) (λb u hb hu=>by
  have An:∃o,H b=some o:=by
   rcases hb with rfl | hb
   ·exact⟨_,e⟩
   ·exact⟨_,hb⟩
  obtain⟨ob,Kg⟩:=An
  exact(k b u hu λz=>by rw[hS b z]at Kg;cases Kg).1 λz=>by rw[hf b z]at Kg;cases Kg) (λ_ z=>z) (λ_ _ z=>z)
section
variable{X:Cx}{Aa:eF}{σ:St}{H H':Hp}{s s':Shared}
theorem Inv.thrown(I:Inv X Aa σ H s)(os:s'.os=s.os)(bare:PyProof.Rows.AllBare s'.gens)(un:Un (frs X.stack) [] H H' s.heap s'.heap)(hok:HOk X.prog X.w H' s'.heap):Inv X Aa σ H' s':=by
 obtain⟨hh,g,d,t,os'⟩:=s'
 obtain rfl:os'=s.os:=os
 exact I.call (h':=hh) (g':=g) (d':=d) (t':=t) (ch:=[]) un hok bare (λb z=>absurd z (by simp))
end
theorem Air.older{n0 n:Addr->Prop}{h':Heap}{H:Hp}{ea:Addr}{cls:Value}(a:Air n h' H ea cls)(k:∀b,n b->n0 b):Air n0 h' H ea cls:=by
 obtain⟨a1,a2,oe,vs,he,hc,hd,Ca,hsz,a3⟩:=a
 refine⟨k _ a1,a2,oe,vs,he,hc,hd,Ca,hsz,?_⟩
 rcases a3 with a3 | ⟨T,oT,ts,a3,aT,aN,r⟩
 ·exact .inl a3
 ·exact .inr ⟨T,oT,ts,a3,aT,k _ aN,r⟩
theorem OkF.pass{F:Fm}[OkF X Ex F](Aa:eF)(σ:St)(H:Hp)(s:Shared)(e:Value)(s':Shared)(I:Inv X Aa σ H s)(h:CXe X.prog X.w X.stack H s (λc _ H'=>Ex c/\lU F H') e s'):X.xe e s':=by
 obtain⟨ea,cls,H',rfl,os,bare,un,hok,air,hx,hk⟩:=h
 refine OkF.pass1 (Ex:=Ex) (F:=F) Aa σ H' s' ea cls (Inv.thrown I os bare un hok) (air.older λb hb=>⟨?_,λp hp z=>?_⟩) hx hk
 ·by_cases Kk:b∈X.ex
  ·exact .inr Kk
  ·left
   cases q:X.s₀.heap.get? b with
   |none=>rfl
   |some o =>
    obtain⟨o',e'⟩:=I.base.there b o q Kk
    rw[hb]at e';cases e'
 ·have:=(I.pin p hp).1
  rw[z,hb]at this;cases this
section
variable{N:List Str}{x:Str}{scope:Scope}{f:Addr}{Ak:Value}{A:Around}{outer:List Env}{s:Shared}{H:Hp}{E:XK}{Ex:ExT}{F:Fm}
theorem i3(hE:∀c H',Ex c->lU F H'->E c none H'):OkF (iS (CXe P w) P w K mg base N x scope f Ak A outer s H E) Ex F:=⟨λAa σ H' s' ea cls I' air hx hk=>by
 have older:∀b,NwX (iS (CXe P w) P w K mg base N x scope f Ak A outer s H E) Aa b->s.heap.get? b=none:=λb hb=>hb.1.elim (λz=>z) λz=>nomatch z
 refine wpAny_bind (wM (base:=base) (nw:=λb=>s.heap.get? b=none) (H:=H') (L:=s.heap.objs.size) I'.ok.frames I'.stack rfl (λT hT=>Heap.get?_none_of_le (nzL I'.sz hT)) (λa ha=>I'.hok.fresh ha) (air.older older) λh' S hS kx air'=>?_)
 have nS:∀b o,s.heap.get? b=some o->b∉S:=λb o hb z=>by rw[(hS b z).1]at hb;cases hb
 have nL:∀b o,s.heap.get? b=some o->b∈frs (PyProof.Rows.envOfC x scope s.heap.objs.size f Ak::outer)->b∈frs outer:=λb o hb z=>by
  rcases aF.mp (show b∈s.heap.objs.size::frs outer from z)with z | z
  ·exact absurd (bK hb) (by rw[z];exact eK _)
  ·exact z
 have B:=I'.base
 refine⟨ea,cls,H',rfl,I'.os,I'.bare,⟨λb o hb n hf he=>?_,λb o hb n hf he=>?_,λb o hb n he=>B.free b o hb n he,λb o hb he=>?_,B.tups,B.frzs,B.tbls⟩,rP I'.hok kx I'.stkFree (λb hb=>(hS b hb).2.1),air',hE cls H' hx hk⟩
 ·exact(kx b o (B.keep b o hb n hf he) (nS b o hb)).1 λz=>hf (nL b o hb z)
 ·obtain ⟨sl,e1⟩:=B.slot b o hb n hf he
  obtain⟨sl',e2⟩:=(kx b _ e1 (nS b o hb)).2
  exact⟨sl',e2⟩
 ·obtain ⟨o',e1⟩:=B.there b o hb he
  obtain⟨sl',e2⟩:=(kx b _ e1 (nS b o hb)).2
  exact⟨_,e2⟩⟩
end
abbrev aPr{H Hs:Hp}(h:Same Hs H):Fm:=⟨H,Hs,[],h,λb hb=>by simp at hb,λb hb=>by simp at hb⟩
abbrev GE:=List Dx->(Sv->Prop)->ExT->Prop
def spE(g:GE):Sp:=λvs H Q E=>∃Hs ds Qx Ex,Same Hs H/\All2 (IsX Hs) ds vs/\g ds Qx Ex/\(∀s v H',Same H H'->q_ Hs H H' s v->Qx s->Q v H')/\∀c H',Same H H'->Ex c->E c none H'
theorem bDb{x:Str}{st:Stmt}{f:Addr}{fd:FuncData}{N ps:List Str}{k:Nat}{g:GE}(Fn:Fun K x x st f fd)(S:FnScope N ps (aM st))(Al:∀ds Q Ex,g ds Q Ex->ds.length=ps.length)(hN:ps.length<=N.length)
  (Az:∀ (Ak:Value) (A:Around) (outer:List Env) (s:Shared) (H:Hp) (E:XK) (Ex:ExT),Room k (A.deeper (PyProof.Rows.envOfC x (aM st) s.heap.objs.size f Ak)) →
   ∃G,XSs (iS (CXe P w) P w K mg base N x (aM st) f Ak A outer s H E) Ex (eG st) G/\∀ds Q,g ds Q Ex->G (iW N ds) (u7 Q)):FnOk P w K mg base (CXe P w) (k+1) f fd ps (spE g):=by
 obtain⟨oc,od,kV,doc,pm,an,Ak,ct,osl,rfl,lk,D7⟩:=Fn.ex
 refine aGg lk D7 S (λvs H Q E h=>?_) λA outer s H vs Q E hr h=>?_
 ·obtain ⟨Hs,ds,Qx,Ex,h1,h2,h3,_⟩:=h
  rw[h2.len]
  exact Al ds Qx Ex h3
 obtain⟨Hs,ds,Qx,Ex,h1,h2,h3,h4,h5⟩:=h
 obtain⟨G,hG,hq⟩:=Az Ak A outer s H E Ex hr
 have hl:=Al ds Qx Ex h3
 haveI:OkF (iS (CXe P w) P w K mg base N x (aM st) f Ak A outer s H E) Ex (aPr h1):=i3 λc H' e k=>h5 c H' (λb o hb=>k b o hb (by simp)) e
 refine⟨_,hG (aPr h1),iW N ds,[],u7 Qx,⟨?_,?_⟩,hq ds Qx h3,⟨λσ' H' ρ' _ E' q=>?_,λv s σ' H' ρ' _ E' q=>?_,λ_ _ _ _ _ q=>q.elim,λ_ _ _ _ _ q=>q.elim⟩⟩
 ·unfold iW L2.start
  simp only[aB,aG,bI]
  rw[h2.len]
 ·rw [aV]
  have R0:Rep (aPr h1) [] H:=⟨List.nodup_nil,λr hr=>by simp at hr,λr hr=>by simp at hr,λb o h _=>h,λb hb=>by simp at hb⟩
  unfold iW L2.start
  rw[h2.len]
  refine gt_ R0 (h2.imp λ_ _ z=>z.to λb o hb=>?_)
  cases q:H b with
  |none=>rw[h1 _ _ hb]at q;cases q
  |some u=>exact(jH q).trans hb
 ·have R:=E'.rep.add (d:=.non) (v:=.non) IsX.of_non
  obtain⟨e1,e2⟩:=tO R
  exact h4 _ _ _ e1 e2 q
 ·obtain ⟨e1,e2⟩:=tO E'.front
  exact h4 _ _ _ e1 e2 q
def CalE(P:Program)(w:World)(K:cZ)(mg:kP)(base:Heap)(j:Nat)(x:Str)(ps:List Str)(sp:Sp):Prop:=∃f fd,FnOk P w K mg base (CXe P w) j f fd ps sp/\Binds K fd ps []/\PySem.W.keepIn K (.ref f)=true/\mg x=some (.ref f)
theorem CalE.mono{i j:Nat}{x:Str}{ps:List Str}{sp:Sp}(C:CalE P w K mg base i x ps sp)(h:i<=j):CalE P w K mg base j x ps sp:=by
 obtain⟨f,fd,G,b,k,m⟩:=C
 exact⟨f,fd,G.mono h,b,k,m⟩
theorem aJv{X:Cx}{j:Nat}{x:Str}{ps:List Str}{sp:Sp}{E:XK}{e:Expr}{es:List Expr}{t:TA}{p pos:Pos}(C:CalE X.prog X.w X.K X.mg X.base j x ps sp)(hr:Room j X.A)(hx:jW (CXe X.prog X.w) X E)(ha:PA X (e::es) t)(hg:Gl X x:=by rfl)(Bk:(x == ("__debug__" : Str))=false:=by decide)
  (he:starEach (e::es) X.env=(false,eval e X.env)::starEach es X.env:=by rfl) (A0:(backTo pos (starEach es X.env)).any (·.1)=false:=by rfl):PE X (.Call (.Name x p) (e::es) [] pos) (aCu sp [] E t):=by
 obtain⟨f,fd,G,b,k,m⟩:=C
 exact f_ G hr hg m k b .nil hx ha Bk he A0
theorem v8{P:Program}{w:World}{H:Hp}{h:Heap}{a:Addr}{o:HO}(x:ObjOk P w H h a o):∃ob,h.get? a=some ob:=by
 cases o with
 |lst xs=>obtain⟨z,its,n,r,e⟩:=x;exact⟨_,e⟩
 |tup xs=>obtain⟨z,its,r,ob,e,c⟩:=x;exact⟨_,e⟩
 |dK kvs=>obtain⟨z,y,vs,r,ob,es,ep,e,c⟩:=x;exact⟨_,e⟩
 |dT kvs=>obtain⟨z,y,xs,r,ob,es,ep,e,c⟩:=x;exact⟨_,e⟩
 |set S n=>obtain⟨ob,es,ep,t,e,c⟩:=x;exact⟨_,e⟩
 |ins C dx fs=>obtain⟨d,z,ne,e,_⟩:=x;exact⟨_,e⟩
 |own y=>exact x
 |xd fs=>obtain⟨mA,⟨od,es,ep,e,c⟩,r⟩:=x;exact⟨_,e⟩
 |rng lo hi=>obtain⟨t,u,v,e⟩:=x;exact⟨_,e⟩
 |frz ob u=>exact⟨_,x.1⟩
 |tbl ps=>exact⟨_,x⟩
 |met f y=>exact⟨_,x⟩
 |ext φ=>exact x.2.1
theorem HOk.none{P:Program}{w:World}{H:Hp}{h:Heap}(x:HOk P w H h){a:Addr}(n:h.get? a=.none):H a=.none:=by
 cases q:H a with
 |none=>rfl
 |some o =>
  obtain⟨ob,e⟩:=v8 (x a o q)
  rw[n]at e;cases e
abbrev aZx(X:Cx)(x:Str)(C:Addr):Prop:=PyProof.Rows.OwnCls x C veM "ValueError.__new__" X.mg X.base
def aPk(Ex:ExT)(c:Value):XS:=λ_ _=>Ex c
theorem fb_{x z:Str}{C:Addr}{np cpos pos p:Pos}{j:Nat}(O:aZx X x C)(hc:X.calm=true)(hg:Gl X x)(hd:(x == ("__debug__" : Str))=false:=by decide)
  (he:starEach [.Constant (.str z) j p] X.env=[(false,eval (.Constant (.str z) j p) X.env)]:=by rfl):XSt X Ex (.Raise (some (.Call (.Name x np) [.Constant (.str z) j p] [] cpos)) none pos) (aPk Ex (.ref C)):=λF _ Aa s σ H D I h=>by
 obtain⟨ρ,fr,d,E,q,k⟩:=h
 have pa:PA X [.Constant (.str z) j p] (vW (tC (.str z)) t_):=lK tY xJ he
 obtain⟨tl,N,nm,qn,bs,hdct,sn,sub,ab,col,dd,k0,k1,k2,k3,k5,mN,hC,hN,Lg,T⟩:=O.obj
 refine wpAny_Raise_call_subT (C:=C) (nm:=nm) (q:=qn) (N:=N) (bs:=bs) (bm:=tl) (hdct:=hdct) (sn:=sn) (sub:=sub) (ab:=ab) (col:=col) (dd:=dd) (k0:=k0) (k1:=k1) (k2:=k2) (k3:=k3) (k5:=k5)
  PySem.F.excBase_ValueError (mN:=mN) (T.hasType PySem.F.excBase_ValueError.hasBase) (I.ok.hd hc) (by rw[he];rfl) Lg (hm_ I hg O.bound ⟨rfl,?_⟩ hd)
 refine Calls.evalArgs_plain ?_
 refine wpAny_mono (pa cpos Aa s σ H (λvs H1=>vs=[.str z]/\H1=H) I ⟨rfl,rfl⟩) (λus s₂ h₂=>?_) λ_ _ y=>y
 obtain⟨vs,H1,I2,rv,rfl,rfl⟩:=h₂
 refine⟨rfl,by rw[<-rv.length];show 1<=sizeLine;exact nzL (by decide) (Nat.le_of_lt fJ),I2.bk _ _ hC,hN.keeps I2.bk,T.keeps I2.bk,λh' e hm=>?_⟩
 obtain⟨t,ht,tn,_⟩:=hm.there
 refine OkF.pass (Ex:=Ex) (F:=F) Aa σ H1 s₂ _ _ I2 ⟨e,.ref C,H1,rfl,rfl,I2.bare,Un.kept hm.keeps,I2.hok.kept hm.keeps,⟨hm.new,HOk.none I2.hok hm.new,_,_,ht,rfl,rfl,rfl,by show 1<6;decide,.inl rfl⟩,q,λb o h1 h2=>E.rep.kp b o h1 h2⟩
section
variable{X:Cx}{Aa:eF}{σ:St}{H H':Hp}{s s':Shared}{h':Heap}{S:List Addr}
theorem Inv.noLoc(I:Inv X Aa σ H s){b:Addr}{o:Obj}{vs:Array Value}(h:s.heap.get? b=some o)(hd:o.data=.fields vs):b≠X.env.locals/\∀x c,X.env.cells.lookup x=some c->c≠b:=by
 refine⟨λz=>?_,λx c e z=>?_⟩
 ·obtain ⟨m,⟨oL,es,ep,hL,hLd,_⟩,_⟩:=I.loc
  rw[z,hL]at h;cases h;rw[hLd]at hd;cases hd
 ·obtain ⟨v,o',ho,hv⟩:=I.cell x c e
  rw[z,h]at ho;cases ho;rw[hv]at hd;cases hd
theorem Inv.noted{t':Nat}(I:Inv X Aa σ H s)(kx:sM (frs X.stack) S s.heap h')(hS:∀b∈S,(X.s₀.heap.get? b=none/\∀p∈X.pn++Aa,p.1≠b)/\H b=none/\∃o vs,s.heap.get? b=some o/\o.data=.fields vs):Inv X Aa σ H { s with heap:=h',toks:=t' }:=by
 have neL:∀b o,X.s₀.heap.get? b=some o->b≠X.env.locals:=λb o e=>cH (bQ (bK e) I.ok.above)
 have nS:∀b o,X.s₀.heap.get? b=some o->b∉S:=λb o e z=>by rw[(hS b z).1.1]at e;cases e
 have nst:∀b,b≠X.env.locals->b∉X.fs->b∉frs X.stack:=λb h1 h2 z=>(aF.mp (I.stkSub b z)).elim h1 h2
 have lS:X.env.locals∉S:=λz=>by obtain⟨_,_,o,vs,h1,h2⟩:=hS _ z;exact(Inv.noLoc I h1 h2).1 rfl
 have cS:∀x c,X.env.cells.lookup x=some c->c∉S:=λx c e z=>by obtain⟨_,_,o,vs,h1,h2⟩:=hS _ z;exact(Inv.noLoc I h1 h2).2 x c e rfl
 have cell:∀x c,X.env.cells.lookup x=some c->∀v,s.heap.IsCell c v->h'.IsCell c v:=λx c e v ⟨o,ho,hd⟩=>by
  obtain⟨sl,e2⟩:=(kx c o ho (cS x c e)).2
  exact⟨_,e2,hd⟩
 have B:=I.base
 refine⟨I.ok,I.os,I.bare,⟨λb o e n hb hx=>?_,λb o e n hb hx=>?_,B.free,λb o e hx=>?_,B.tups,B.frzs,B.tbls⟩,?_,λx c e=>?_,I.free,I.freeC,λp hp=>?_,rP I.hok kx I.stkFree (λb hb=>(hS b hb).2.1),I.len⟩
 ·exact(kx b o (B.keep b o e n hb hx) (nS b o e)).1 (nst b (neL b o e) hb)
 ·obtain ⟨sl,e1⟩:=B.slot b o e n hb hx
  obtain⟨sl',e2⟩:=(kx b _ e1 (nS b o e)).2
  exact⟨sl',e2⟩
 ·obtain ⟨o',e1⟩:=B.there b o e hx
  obtain⟨sl',e2⟩:=(kx b _ e1 (nS b o e)).2
  exact⟨_,e2⟩
 ·obtain ⟨m,⟨oL,es,ep,hL,r⟩,hl⟩:=I.loc
  obtain⟨sl,e2⟩:=(kx _ oL hL lS).2
  refine⟨m,⟨_,es,ep,e2,r⟩,λi x v e1 e2 e3=>?_⟩
  obtain⟨u,ru,lk⟩:=hl i x v e1 e2 e3
  refine⟨u,ru,?_⟩
  rcases lk with lk | ⟨k,c,e,z⟩
  ·exact .inl lk
  ·exact .inr ⟨k,c,e,cell x c e _ z⟩
 ·obtain ⟨v,z⟩:=I.cell x c e
  exact⟨v,cell x c e v z⟩
 ·obtain ⟨e,n,ne,nf,d⟩:=I.pin p hp
  exact⟨(kx p.1 p.2 e λz=>(hS p.1 z).1.2 p hp rfl).1 (nst p.1 ne nf),n,ne,nf,d⟩
theorem Inv.caught{ea:Addr}{cls:Value}{o:Obj}{vs:Array Value}(I:Inv X Aa σ H s)(nw:X.s₀.heap.get? ea=none/\∀p∈X.pn++Aa,p.1≠ea)(hn:H ea=none)(he:s.heap.get? ea=some o)(hc:o.cls=cls)(hd:o.data=.fields vs)(Ca:o.dict=none) :
  Inv X Aa σ (upd H ea (.ext (xH ea cls))) s:=by
 obtain⟨nl,nc⟩:=Inv.noLoc I he hd
 have B:=I.base
 have ne:∀b u,H b=some u->b≠ea:=λb u e z=>by rw[z,hn]at e;cases e
 refine⟨I.ok,I.os,I.bare,⟨B.keep,B.slot,λb o e n hx=>?_,B.there,λb xs e=>?_,λb o xs e=>?_,λb ps e=>?_⟩,I.loc,I.cell,?_,λx c e=>?_,λp hp=>?_,λa u e=>?_,I.len⟩
 ·rw[dW λz=>by rw[z,nw.1]at e;cases e];exact B.free b o e n hx
 ·have:=B.tups b xs e;rw[dW (ne b _ this)];exact this
 ·have:=B.frzs b o xs e;rw[dW (ne b _ this)];exact this
 ·obtain⟨more,h1⟩:=B.tbls b ps e;exact⟨more,by rw[dW (ne b _ h1)];exact h1⟩
 ·rw[dW (Ne.symm nl)];exact I.free
 ·rw[dW (nc x c e)];exact I.freeC x c e
 ·obtain ⟨e1,e2,e3⟩:=I.pin p hp
  exact⟨e1,by rw[dW (nw.2 p hp)];exact e2,e3⟩
 ·by_cases z:a=ea
  ·subst z
   rw[bU]at e
   cases e
   exact⟨⟨o,vs,he,hc,hd,Ca⟩,⟨o,he⟩,λh1 h2 ⟨o',vs',a1,a2⟩ k=>⟨o',vs',k o' a1,a2⟩⟩
  ·rw [dW z] at e
   exact ObjOk.stay (I.hok a u e) (λb v _ hv=>hv) (λb hb=>by rw[dW (ne b _ hb)];exact hb) (λb xs hb=>by rw[dW (ne b _ hb)];exact hb)
theorem gw_{M:Model}{A:Around}{E:gG}{i:Nat}{n:Str}{pos:Pos}{Q:Unit->Shared->Prop}(I:Inv X Aa σ H s)(hN:X.N.Nodup)(hi:X.N[i]? = some n)(hk:X.env.kindOf n=some .local)
  (h:∀s',Inv X Aa (σ.set i none) H s'->Q () s'):wpAny M A (do bindName X.env n .none;unbindBehindTheSuite X.env n pos) Q E s:=by
 obtain⟨m,hn,hl⟩:=id I.loc
 obtain⟨oL,_,_,Nj,_⟩:=id hn
 have D6:(X.env.scope.kind == .class||(X.env.scope.kind == .module&&X.env.locals != X.env.globals))=false:=by rw[I.ok.kind];rfl
 have hiσ:i<σ.length:=by rw[I.len];exact(aY.mp hi).1
 refine wpAny_nameGoes_keeps hk hn D6 λh' v Dc hs=>h _ ?_
 have nl:∀b o,X.s₀.heap.get? b=some o->b≠X.env.locals:=λb o e=>cH (bQ (bK e) I.ok.above)
 refine⟨I.ok,I.os,I.bare,⟨λb o e n hb hx=>?_,λb o e n hb hx=>?_,I.base.free,λb o e hx=>?_,I.base.tups,I.base.frzs,I.base.tbls⟩,⟨_,Dc,λj y v' e1 e2 e3=>?_⟩,λy c e=>?_,I.free,I.freeC,λp hp=>?_,λb ob e=>?_,by simpa using I.len⟩
 ·exact(hs.2 b (nl b o e)).trans (I.base.keep b o e n hb hx)
 ·obtain ⟨sl,e1⟩:=I.base.slot b o e n hb hx
  exact⟨sl,(hs.2 b (nl b o e)).trans e1⟩
 ·obtain ⟨o',e1⟩:=I.base.there b o e hx
  exact⟨o',(hs.2 b (nl b o e)).trans e1⟩
 ·by_cases hj:j=i
  ·subst hj
   rw[iI hiσ]at e2
   cases e2
  ·rw [dD (Ne.symm hj)] at e2
   obtain⟨u',r',q⟩:=hl j y v' e1 e2 e3
   refine⟨u',r',?_⟩
   rcases q with⟨k,e⟩ | ⟨k,c,e,z⟩
   ·refine .inl ⟨k,?_⟩
    have:y≠n:=λe=>hj (pA hN e1 (e ▸ hi))
    simp[this,e]
   ·exact .inr ⟨k,c,e,z.sameBut hs (I.cne y c e)⟩
 ·obtain ⟨v',z⟩:=I.cell y c e
  exact⟨v',z.sameBut hs (I.cne y c e)⟩
 ·obtain ⟨e,n,ne,nf,d⟩:=I.pin p hp
  exact⟨(hs.2 p.1 ne).trans e,n,ne,nf,d⟩
 ·refine (I.hok b ob e).stay (fun c w' hc q=>(hs.2 c ?_).trans q) (fun _ q=>q) fun _ _ q=>q
  rintro rfl
  rcases hc with rfl | hc
  ·rw[I.free]at e;cases e
  ·rw[I.free]at hc;cases hc
end
abbrev NwT(X:Cx)(Aa:eF):Addr->Prop:=λb=>X.s₀.heap.get? b=none/\∀p∈X.pn++Aa,p.1≠b
abbrev t9(X:Cx)(Aa:eF)(σ:St)(Qe:Value->Hp->Prop):Cx:={ X with pn:=X.pn++Aa,xe:=λe s'=>∃ea cls H',e=.ref ea/\Inv X Aa σ H' s'/\Air (NwT X Aa) s'.heap H' ea cls/\Qe cls H' }
section
variable{X:Cx}{Aa:eF}{σ:St}{H:Hp}{s:Shared}{Qe:Value->Hp->Prop}
theorem Inv.inTry{σ0:St}(I:Inv X Aa σ H s):Inv (t9 X Aa σ0 Qe) [] σ H s:=
 ⟨⟨I.ok.mod,I.ok.kind,I.ok.glob,I.ok.blt,I.ok.above,I.ok.inj,I.ok.has,I.ok.cab,I.ok.hd,I.ok.frames,I.ok.stk,I.ok.exf,I.ok.bs,I.ok.bsz,I.ok.noex,I.ok.exfs,I.ok.funs,I.ok.frf⟩,I.os,I.bare,I.base,I.loc,I.cell,I.free,I.freeC,λp hp=>I.pin p (by simpa using hp),I.hok,I.len⟩
theorem Inv.outTry{σ0:St}{pins':eF}(I:Inv (t9 X Aa σ0 Qe) pins' σ H s):Inv X Aa σ H s:=
 ⟨⟨I.ok.mod,I.ok.kind,I.ok.glob,I.ok.blt,I.ok.above,I.ok.inj,I.ok.has,I.ok.cab,I.ok.hd,I.ok.frames,I.ok.stk,I.ok.exf,I.ok.bs,I.ok.bsz,I.ok.noex,I.ok.exfs,I.ok.funs,I.ok.frf⟩,I.os,I.bare,I.base,I.loc,I.cell,I.free,I.freeC,λp hp=>I.pin p (aK _ hp),I.hok,I.len⟩
end
abbrev XQ:=En->(En->Prop)->(Value->En->Prop)->Prop
def tXQ(F:Fm)(σ0:St)(Qe:Value->Hp->Prop)(q:XQ):TS:=λD σ H=>σ=σ0/\∃ρ fr Qx Qe',EOk F ρ σ fr H/\q ρ Qx Qe'/\(∀σ' H' ρ',σ'.length=σ.length->EOk F ρ' σ' fr H'->Qx ρ'->D.nx σ' H')/\∀c H' ρ',EOk F ρ' σ fr H'->Qe' c ρ'->Qe c H'
def XQs(X:Cx)(sts:List Stmt)(q:XQ):Prop:=∀Aa σ0 Qe F,PSs (t9 X Aa σ0 Qe) sts (tXQ F σ0 Qe q)
section
variable{X:Cx}{Aa:eF}{σ0:St}{Qe:Value->Hp->Prop}{F:Fm}{g:GE}{u:XA}
def aCt(F:Fm)(σ0:St)(Qe:Value->Hp->Prop)(g:GE)(u:XA):TE:=λσ H Q=>σ=σ0/\∃(ρ:En) (fr:List Rw) (Qx:Sv->En->Prop) (Qe':Value->En->Prop),EOk F ρ σ fr H/\(u ρ λss ρ'=>g (ss.map Sv.d) (λs=>Qx s ρ') (λc=>Qe' c ρ'))/\(∀v s H' ρ',EOk F ρ' σ ((.v s,some v)::fr) H'->Qx s ρ'->Q v H')/\∀c H' ρ',EOk F ρ' σ fr H'->Qe' c ρ'->Qe c H'
theorem aEh{j:Nat}{x:Str}{ps:List Str}{e:Expr}{es:List Expr}{p pos:Pos}(C:CalE X.prog X.w X.K X.mg X.base j x ps (spE g))(hr:Room j X.A)(ha:XAs (t9 X Aa σ0 Qe) dR (e::es) u)(H9:X.ex=[]:=by rfl)(hg:Gl X x:=by rfl)(Bk:(x == ("__debug__" : Str))=false:=by decide)
  (he:starEach (e::es) X.env=(false,eval e X.env)::starEach es X.env:=by rfl) (A0:(backTo pos (starEach es X.env)).any (·.1)=false:=by rfl):PE (t9 X Aa σ0 Qe) (.Call (.Name x p) (e::es) [] pos) (aCt F σ0 Qe g u):=by
 obtain⟨f,fd,G,hb,hk,hm⟩:=C
 intro pins' s σ H Q I h
 obtain⟨rfl,ρ,fr,Qx,Qe',E,q,k1,k2⟩:=h
 refine wpAny_Call_Name_kw (hm_ I hg hm ?_ Bk)
 refine PySem.W.callWith_K (h₀:=X.base) I.ok.mod.kin hk (dQ (ha F pos pins' s σ H (λvs H1=>spE g vs H1 Q (λc _ H'=>Qe c H')) I ⟨ρ,fr,_,E,q,λvs ss H2 ρ2 hl E2 q2=>?_⟩) λus s1 ⟨vs,H1,I1,r,q⟩=>⟨I1.kIn,?_⟩) he A0
 ·obtain ⟨R,hs⟩:=E2.many hl
  exact⟨_,_,_,λc=>Qe' c ρ2,R.hv,hs,q2,λs v H' e hr q=>k1 v s H' ρ2 (EOk.back E2.len (R.res e hr)) q,λc H' e q=>k2 c H' ρ2 ⟨E2.len,R.grow e⟩ q⟩
 ·have hl:=G.len _ _ _ _ q
  have B8:us.length=ps.length:=by rw[<-r.length];exact hl
  refine wpAny_call (codeAny_mono (G.run X.A X.stack s1 H1 ⟨us,[]⟩ us vs Q _ hr I1.env0 (by have:=hb s1 us I1.kIn (by rw[aV];exact B8);rwa [aV]at this) r q) λr s' hq=>?_)
  cases r with
  |error e =>
   obtain⟨ea,cls,H',rfl,os,bare,un,hok,air,hx⟩:=hq
   refine⟨ea,cls,H',rfl,Inv.outTry (Inv.thrown I1 os bare un hok),air.older λb hb=>⟨?_,λp hp z=>?_⟩,hx⟩
   ·cases qq:X.s₀.heap.get? b with
    |none=>rfl
    |some o =>
     obtain⟨o',e'⟩:=I1.base.there b o qq (by show b∉X.ex;rw[H9];simp)
     rw[hb]at e';cases e'
   ·obtain ⟨e1,_⟩:=I1.pin p (aK _ hp)
    rw[z,hb]at e1;cases e1
  |ok fl =>
   cases fl with
   |ret v=>exact I1.after hq
   |next=>exact False.elim hq
   |brk=>exact False.elim hq
   |cont=>exact False.elim hq
end
def aVt(i:Nat)(g:GE)(u:XA):XQ:=λρ N Qe=>u ρ λss ρ'=>g (ss.map Sv.d) (λs=>N (ρ'.set i (.v s))) (λc=>Qe c ρ')
section
variable{X:Cx}{st:Stmt}{i:Nat}{g:GE}{u:XA}{q r:XQ}{e c:Expr}{tc:XC}{pos:Pos}
theorem aPf(h:∀Aa σ0 Qe F,PS (t9 X Aa σ0 Qe) st (vX (aCt F σ0 Qe g u) (jU i))):XQs X [st] (aVt i g u):=λAa σ0 Qe F=>(e_ (h Aa σ0 Qe F)).weak λD σ H=>by
 rintro⟨rfl,ρ,fr,Qx,Qe',E,q,k1,k2⟩
 exact⟨rfl,ρ,fr,λs ρ'=>Qx (ρ'.set i (.v s)),Qe',E,q,λv s H' ρ' E' q'=>k1 _ H' _ bG (hq_ E') q',k2⟩
end
def xY(base:Heap)(C D:Addr):Prop:=∃nm q N bs bm hdct sn sub ab col dd k0 k1 k2 k3 k5 newId,base.get? C=some (excClassObj nm q C N bs bm hdct sn sub ab col dd k0 k1 k2 k3 k5 newId)/\(Value.ref C::bm).contains (.ref D)=true
section
variable{M:Model}{A:Around}{E:gG}{h:Heap}{g:Array GenState}{d:Drawn}{t:Nat}{os:OsState}
theorem pK{C D e:Addr}{oe:Obj}{Q:Bool->Shared->Prop}{nm q:Str}{N:Addr}{bs bm:List Value}{hdct:Bool}{sn:List Str}{sub:List Value}{ab:Bool}{col:Option Bool}{dd:Option Addr}{k0 k1 k2 k3 k5:Option Value}{newId:String}
  {nm' q':Str} {N':Addr} {bs' bm':List Value} {Gz:Bool} {sn':List Str} {sub':List Value} {ab':Bool} {col':Option Bool} {dd':Option Addr} {k0' k1' k2' k3' k5':Option Value} {newId':String}
  (hC:h.get? C=some (excClassObj nm q C N bs bm hdct sn sub ab col dd k0 k1 k2 k3 k5 newId)) (hD:h.get? D=some (excClassObj nm' q' D N' bs' bm' Gz sn' sub' ab' col' dd' k0' k1' k2' k3' k5' newId')) (he:h.get? e=some oe) (D6:oe.cls=.ref C)
  (A6:bm'.contains (.type "BaseException")=true) (B9:(Value.ref C::bm).contains (.ref D)=true) (hq:Q true ⟨h,g,d,t,os⟩):wpAny M A (excMatches (.ref e) (.ref D)) Q E ⟨h,g,d,t,os⟩:=by
 have hcB:(Value.ref D::bm').contains (.type "BaseException")=true:=by rw[List.contains_cons,A6,Bool.or_true]
 have f:=tc_notTuple
 unfold excMatches
 repeat (first | (with_reducible refine wpAny_loadPart_at he ?_;rw[D6]) | with_reducible refine wpAny_loadPart_at hD ?_ | (with_reducible refine wpAny_isSubtype_exc hD ?_;rw[hcB]) | (with_reducible refine wpAny_isSubtype_exc hC ?_;rw[B9]) | wp_step)
 exact hq
end
abbrev aGm(X:Cx)(ea:Addr):Cx:={ X with A:=X.A.mark (some (.ref ea)),calm:=false,xe:=λ_ _=>False }
section
variable{X:Cx}{Aa:eF}{σ:St}{H:Hp}{s:Shared}{ea:Addr}
theorem Inv.inExc(I:Inv X Aa σ H s):Inv (aGm X ea) Aa σ H s:=
 ⟨⟨I.ok.mod,I.ok.kind,I.ok.glob,I.ok.blt,I.ok.above,I.ok.inj,I.ok.has,I.ok.cab,(λz=>nomatch z),I.ok.frames,I.ok.stk,I.ok.exf,I.ok.bs,I.ok.bsz,I.ok.noex,I.ok.exfs,I.ok.funs,I.ok.frf⟩,I.os,I.bare,I.base,I.loc,I.cell,I.free,I.freeC,I.pin,I.hok,I.len⟩
theorem Inv.outExc(ok:X.Ok)(I:Inv (aGm X ea) Aa σ H s):Inv X Aa σ H s:=⟨ok,I.os,I.bare,I.base,I.loc,I.cell,I.free,I.freeC,I.pin,I.hok,I.len⟩
end
def bBj(M:Value->Prop)(jn:Nat)(q:XQ)(K:XS):XS:=λρ D=>q ρ D.nx λc ρ'=>M c/\K (ρ'.set jn (vT (.exc c))) ⟨λρ2=>D.nx (ρ2.set jn .un),λs ρ2=>D.rt s (ρ2.set jn .un),λρ2=>D.bk (ρ2.set jn .un),λρ2=>D.ct (ρ2.set jn .un)⟩
theorem im_{F:Fm}{ρ:En}{σ:St}{fr:List Rw}{H:Hp}{i:Nat}(E:EOk F ρ σ fr H):EOk F (ρ.set i .un) (σ.set i none) fr H:=by
 by_cases hi:i<ρ.length
 ·refine ⟨by rw [bG,bG]; exact E.len,?_⟩
  have hz:=aDu (l:=ρ.zip σ) (i:=i) (aO (by rw[List.length_zip];have:=E.len;omega))
  have R:=E.rep.perm (hz.append_right fr)
  exact(R.tail.addU (x:=none)).perm ((mF E.len hi).append_right fr).symm
 ·rw [cO (by omega),cO (by have:=E.len; omega)]
  exact E
theorem aPd{body suite:List Stmt}{b₀:Stmt}{cn n:Str}{jn:Nat}{Cc:Addr}{q:XQ}{K:XS}{cp hp pos:Pos}(hq:XQs X body q)(O:aZx X cn Cc)(Em:X.stack=X.env::X.outer)(C7:X.env.frame=some X.env.locals)(hgc:Gl X cn)(hN:X.N.Nodup)(hi:X.N[jn]? = some n)(hk:X.env.kindOf n=some .local)
  (hh:∀ea,XSs (aGm X ea) dR (b₀::suite) K) (Bk:(cn == ("__debug__" : Str))=false:=by decide) (hf:X.fn n=true\/X.env.scope.names.lookup n=some .local:=by first | exact .inl rfl | exact .inr rfl) :
  XSt X Ex (.Try body [.ExceptHandler (some (.Name cn cp)) (some n) (b₀::suite) hp] [] [] pos) (bBj (λc=>∃C,c=.ref C/\xY X.base C Cc) jn q K):=λF _ Aa s σ H D I h=>by
 obtain⟨ρ,fr,d,E,t,k⟩:=h
 let Qe:Value->Hp->Prop:=λc H'=>∃ρ',EOk F ρ' σ fr H'/\(∃C,c=.ref C/\xY X.base C Cc)/\K (ρ'.set jn (vT (.exc c))) ⟨λρ2=>d.nx (ρ2.set jn .un),λs ρ2=>d.rt s (ρ2.set jn .un),λρ2=>d.bk (ρ2.set jn .un),λρ2=>d.ct (ρ2.set jn .un)⟩
 refine wpAny_Try_except (wpAny_mono (hq Aa σ Qe F [] s σ H ⟨D.nx,λ_ _=>False,λ_ _=>False,λ_ _=>False⟩ (Inv.inTry I) ⟨rfl,ρ,fr,d.nx,_,E,t,λσ' H' ρ' hl E' q'=>k.nx σ' H' ρ' hl E' q',λc H' ρ' E' q'=>⟨ρ',E',q'⟩⟩) (λf s₁ h₁=>?_) λe s₁ h₁=>?_)
 ·cases f with
  |next =>
   obtain⟨σ',H',I',q'⟩:=h₁
   exact wpAny_execs_nil ⟨σ',H',Inv.outTry I',q'⟩
  |brk=>obtain⟨_,_,_,q'⟩:=h₁;exact q'.elim
  |cont=>obtain⟨_,_,_,q'⟩:=h₁;exact q'.elim
  |ret u=>obtain⟨_,_,_,_,_,q'⟩:=h₁;exact q'.elim
 ·obtain ⟨ea,cls,H',rfl,I1,air,ρ',E1,⟨C,rfl,hUn⟩,hK⟩:=h₁
  have fr1:X.A.frames=some (X.env::X.outer):=by rw[<-Em];exact I1.ok.frames
  refine wM (base:=X.base) (nw:=NwT X Aa) (H:=H') (L:=X.env.locals) fr1 (by rw[<-Em];exact I1.stack) C7 (λT hT=>⟨Heap.get?_none_of_le (nzL I1.sz hT),λp hp z=>?_⟩) (λa ha=>I1.hok.fresh ha) air λh2 S hS kx air2=>?_
  ·obtain ⟨e1,_⟩:=I1.pin p hp
   exact absurd (bK e1) (by rw[z];exact Nat.not_lt.mpr hT)
  have I2:Inv X Aa σ H' { s₁ with heap:=h2 }:=Inv.noted (t':=s₁.toks) I1 (by rw[Em];exact kx) hS
  generalize Eb:({ s₁ with heap:=h2 }:Shared)=s₂ at I2 ⊢
  have air3:Air (NwT X Aa) s₂.heap H' ea (.ref C):=by rw[<-Eb];exact air2
  clear air2 Eb kx hS I1
  obtain⟨nm,qn,N,bs,bm,hdct,sn,sub,ab,col,dd,k0,k1,k2,k3,k5,newId,hC,B9⟩:=hUn
  obtain⟨tl,N',nm',qn',bs',Gz,sn',sub',ab',col',dd',k0',k1',k2',k3',k5',mN',hD,N4,hni',T'⟩:=O.obj
  obtain⟨nw,Kh,oe,vs,he,hc,hd,Ca,hsz,a3⟩:=air3
  refine wpAny_handleBy_cons (codeAny_handlers_test (hm_ (X:=aGm X ea) (Inv.inExc I2) hgc O.bound ?_ Bk)) (by intro z;cases z)
  obtain⟨Ez,g2,d2,t2,J7⟩:=s₂
  refine pK (I2.bk _ _ hC) (I2.bk _ _ hD) he hc (T'.hasType PySem.F.excBase_ValueError.hasBase) B9 ?_
  rw[if_pos rfl]
  refine codeAny_handlers_suite_as ?_
  have fl:∀{Q:Unit->Shared->Prop} {E':gG},(∀h3,Inv X Aa σ H' ⟨h3,g2,d2,t2,J7⟩->(∃o vs,h3.get? ea=some o/\o.cls=.ref C/\o.data=.fields vs/\o.dict=none)->Q () ⟨h3,g2,d2,t2,J7⟩)->wpAny (model X.prog X.w) (X.A.mark (some (.ref ea))) (setFlight (.ref ea) none) Q E' ⟨Ez,g2,d2,t2,J7⟩:=λ{Q E'} hQ=>by
   rcases a3 with a3 | ⟨T,oT,ts,a3,aT,aN,aH,hT,Es,h3⟩
   ·unfold setFlight
    refine wpAny_bind (wpAny_field he hd a3 ?_)
    rw[if_neg (by decide)]
    exact wpAny_pure (hQ Ez I2 ⟨oe,vs,he,hc,hd,Ca⟩)
   ·refine wpAny_setFlight_none he hd a3 hT Es h3 (hQ _ ?_ ⟨oe,vs,?_,hc,hd,Ca⟩)
    ·refine Inv.noted (s:=⟨Ez,g2,d2,t2,J7⟩) (S:=[T]) (t':=t2) I2 (fun b o hb Id => ?_) (fun b hb=>by rw [aI.mp hb]; exact ⟨aN,aH,oT,ts,hT,Es⟩)
     have n2:b≠T:=λz=>Id (aI.mpr z)
     have e2:=(cG Ez (Obj.mapFields (·.setIfInBounds 3 Value.none)) (Ne.symm n2)).trans hb
     exact⟨λ_=>e2,o.slots,e2⟩
    ·exact(cG _ _ aT).trans he
  refine fl λh3 I3 ⟨o3,vs3,he3,hc3,hd3,Ma⟩=>?_
  have I4:=Inv.caught I3 nw Kh he3 hc3 hd3 Ma
  refine it_ (X:=aGm X ea) (v:=.ref ea) (Inv.inExc I4) hN hi (.inl hk) rfl (λs5 I5 _=>?_) hf
  have e4:Same H' (upd H' ea (.ext (xH ea (.ref C)))):=ie_ Kh _
  have E4:=E1.grow e4
  have E5:EOk F (ρ'.set jn (vT (.exc (.ref C)))) (σ.set jn (some (.ref ea))) fr (upd H' ea (.ext (xH ea (.ref C)))):=by
   refine hq_ (EOk.back E4.len (E4.rep.add (IsX.of_exc (aU.mpr ⟨E1.rep.not_own Kh,(kH (E1.rep.fresh Kh)).trans ?_⟩))))
   rw[bU];rfl
  have aAe:DOk F (σ.set jn (some (.ref ea))).length fr ⟨λσ' H2=>D.nx (σ'.set jn none) H2,λv H2=>D.rt v H2,λσ' H2=>D.bk (σ'.set jn none) H2,λσ' H2=>D.ct (σ'.set jn none) H2⟩ ⟨λρ2=>d.nx (ρ2.set jn .un),λs ρ2=>d.rt s (ρ2.set jn .un),λρ2=>d.bk (ρ2.set jn .un),λρ2=>d.ct (ρ2.set jn .un)⟩:=by
   have hl:(σ.set jn (some (.ref ea))).length=σ.length:=bG
   refine⟨λσ' H2 ρ2 h1 h2 h3=>k.nx _ H2 _ (by rw[bG,h1,hl]) (im_ h2) h3,λv s σ' H2 ρ2 h1 h2 h3=>k.rt v s (σ'.set jn none) H2 _ (by rw[bG,h1,hl]) (im_ h2) h3,λσ' H2 ρ2 h1 h2 h3=>k.bk _ H2 _ (by rw[bG,h1,hl]) (im_ h2) h3,λσ' H2 ρ2 h1 h2 h3=>k.ct _ H2 _ (by rw[bG,h1,hl]) (im_ h2) h3⟩
  refine wpAny_mono (hh ea F Aa s5 _ _ _ I5 ⟨_,fr,_,E5,hK,aAe⟩) (λf s6 h6=>?_) λ_ _ z=>False.elim z
  cases f with
  |next =>
   obtain⟨σ',H2,I6,q6⟩:=h6
   exact gw_ (Inv.outExc I4.ok I6) hN hi hk λs7 I7=>⟨_,H2,I7,q6⟩
  |brk =>
   obtain⟨σ',H2,I6,q6⟩:=h6
   exact gw_ (Inv.outExc I4.ok I6) hN hi hk λs7 I7=>⟨_,H2,I7,q6⟩
  |cont =>
   obtain⟨σ',H2,I6,q6⟩:=h6
   exact gw_ (Inv.outExc I4.ok I6) hN hi hk λs7 I7=>⟨_,H2,I7,q6⟩
  |ret u =>
   obtain⟨v,σ',H2,I6,rv,q6⟩:=h6
   exact gw_ (Inv.outExc I4.ok I6) hN hi hk λs7 I7=>⟨v,_,H2,I7,rv,q6⟩
end Lf
namespace PySem.W
open PySem PySem.Spec PySem.Calls PyProof.Rows
section
variable{prog:Program}{w:World}{A:Around}{E:gG}{s:Shared}{K:Frag}{x C D:Addr}{ox:Obj}{od:Obj}{odo:Option Obj}{name:Str}
theorem x4{M:Model}{nameV:Value}{Q:Unit->Shared->Prop}(X:K.In s.heap)(I:InstAt s.heap x ox D odo)(hm:mroIn K D (.type "BaseException")=some true)(hq:Q () s):wpAny M A (checkBuiltinCall "BaseException.__getattribute__" ⟨[.ref x,nameV],[]⟩) Q E s:=by
 have hk:builtinKind "BaseException.__getattribute__" = some .slot:=by decide +kernel
 have G9:splitId "BaseException.__getattribute__" = some ("BaseException","__getattribute__"):=by decide +kernel
 have ha:=F.args_bexc_ga (.ref x) nameV
 have L0:=I.type (M:=M)
 have L1:=looks_mroIn (M:=M) X hm
 obtain⟨hh,g,d,t,os⟩:=s
 simp only[checkBuiltinCall,hk,G9]
 refine wpAny_bind ?_
 unfold isInstance
 refine wpAny_bind (L0.at (L1.at ?_))
 repeat (first | assumption | wp_step)
theorem w_{Q:Option Value->Shared->Prop}(X:K.In s.heap)(I:InstAt s.heap x ox D odo)(hga:findIn K (.ref D) "__getattribute__" = some (some (.builtin "BaseException.__getattribute__")))(hk:findIn K (.ref D) "__getattr__" = some none)
  (hm:mroIn K D (.type "BaseException")=some true) (hmo:mroIn K D (.type "object")=some true) (hf:findObj K D odo "__class__" = some (.bind (.builtin "getset_descriptor.__get__") (.builtin "object.__class__")))
  (h:Q (some (.ref D)) { s with toks:=s.toks+1 }):wpAny (model prog w) A (getAttr? (.ref x) "__class__") Q E s:=by
 have GA:=(F.excAttr_ValueError).ga
 obtain⟨hh,g,d,t,os⟩:=s
 have L0:=I.type (M:=model prog w)
 have L1:=looks_findIn (M:=model prog w) X hga
 have L2:=looks_findIn (M:=model prog w) X hk
 have L3:=looks_find (M:=model prog w) X I hf
 have f3:=GA.bind (.ref x)
 unfold getAttr? getAttrBy? getAttrBy
 refine wpAny_bind (wpAny_mkText (wpAny_bind (wpAny_attempt (wpAny_holding (wpAny_bind (L0.at (wpAny_bind (L1.at ?_))))))))
 dsimp only
 rw[if_neg (show ¬(onTheHeap (Value.ref D)&&(Value.builtin "BaseException.__getattribute__" == Value.builtin "object.__getattribute__"))=true from by rw[show(Value.builtin "BaseException.__getattribute__" == Value.builtin "object.__getattribute__")=false from by decide +kernel,Bool.and_false];exact bO)]
 unfold getAttrByItsOwn hookBefore
 rw[if_pos (show onTheHeap (Value.ref D)=true from rfl)]
 refine wpAny_bind (L2.at (wpAny_bind (wpAny_attempt (wpAny_holding ?_))))
 unfold callGetattribute
 rw[if_neg (by decide)]
 unfold boundAndCalled
 repeat (any_goals (first | assumption | wp_step))
 refine codeAny_call_builtin GA.plain F.entry_bexc_ga (x4 (s:=⟨hh,g,d,t+1,os⟩) X I hm ?_)
 unfold Builtin.«object.__getattribute__»
 repeat (any_goals (first | assumption | with_reducible refine wpAny_bind (L0.at ?_) | with_reducible refine wpAny_bind (L3.at ?_) | wp_step))
 refine class_get (s:=⟨hh,g,d,t+1,os⟩) X I hmo ?_
 repeat (any_goals (first | assumption | wp_step))
theorem kitx_exc{x D:Addr}(hk:excKit K D=true):KitX K (.ref x) (.ref D) (λh=>∃ox,InstAt h x ox D none):=by
 simp only[excKit,dE,beq_iff_eq]at hk
 obtain⟨⟨⟨⟨⟨⟨h1,h2⟩,h3⟩,h4⟩,h5⟩,h6⟩,h7⟩:=hk
 have D6:∃cd,clsIn K D=some cd:=by
  obtain⟨cd,a,_⟩:=aX.mp h3
  exact⟨cd,a⟩
 obtain⟨cdD,Gg⟩:=D6
 have hf:findObj K D none "__class__" = some (.bind (.builtin "getset_descriptor.__get__") (.builtin "object.__class__")):=by
  unfold findObj
  rw[Gg,aZ,h5,aZ]
  simp[h6,h7]
 refine⟨λ_ _ _ ⟨ox,I⟩=>I.type,λ_ _ X _=>?_,λh tp dd its n sl X htp=>?_,λ{_ _ _ _ _ _} X ⟨ox,I⟩ k=>w_ X I h1 h2 h3 h4 hf k⟩
 ·unfold clsIn at Gg
  split at Gg
  ·rename_i c' d' cd' sl' ho
   intro A' Q' E' s' k q
   unfold isType loadHead
   exact wpAny_bind (wpAny_loadPart (k _ _ (X _ _ ho)) (wpAny_pure q))
  ·cases Gg
 ·refine Bool.eq_false_iff.mpr fun q => ?_
  have e:D=tp:=Value.ref.inj (beq_iff_eq.mp q)
  subst e
  unfold clsIn at Gg
  split at Gg
  ·rename_i c' d' cd' sl' ho
   have z:=(X _ _ ho).symm.trans htp
   cases z
  ·cases Gg
end
end PySem.W
namespace Lf
open PySem L2
open PySem.W (Frag nsIn)
section
variable{K:Frag}{h:Heap}
theorem rK{N:Addr}{n:Str}(e:uK K N n=true)(X:K.In h):∃m,h.Ns N m/\m n=none:=by
 unfold uK at e
 split at e
 ·rename_i c d es ep sl q
  obtain⟨e1,e2⟩:=fG.mp e
  refine⟨nsFind es,⟨_,es,ep,X _ _ q,rfl,λen hen=>?_,λ_=>rfl⟩,?_⟩
  ·have:=gK.mp e1 en (by simpa using hen)
   split at this
   ·rename_i x t hk;exact⟨x,t,hk⟩
   ·cases this
  ·unfold nsFind findBy
   rw[<-Array.find?_toList]
   rw[Option.isNone_iff_eq_none]at e2
   rw[e2]
   rfl
 ·cases e
theorem nX:∀(k:Nat) (l:List Value),fS K k l=true->K.In h->OwnTail h veM l
  | 0, l, e, X => by
    have:l=veM:=by simpa [fS]using e
    rw[this];exact .base
  | k + 1, [], e, X => by
    have:([]:List Value)=veM:=by simpa [fS]using e
    rw[this];exact .base
  | k + 1, v :: r, e, X => by
    cases v with
    | ref A =>
      unfold fS at e
      split at e
      . rename_i c d cd sl q
        obtain⟨e1,e2⟩:=fG.mp e
        obtain⟨m,hm,hn⟩:=rK e1 X
        exact .own (X _ _ q) hm hn (nX k r e2 X)
      . cases e
    | none => have : Value.none :: r = veM := by simpa [fS] using e
              cases this
    | bool b => have : Value.bool b :: r = veM := by simpa [fS] using e
                cases this
    | int i t => have : Value.int i t :: r = veM := by simpa [fS] using e
                 cases this
    | str x t => have : Value.str x t :: r = veM := by simpa [fS] using e
                 cases this
    | bytes x t => have : Value.bytes x t :: r = veM := by simpa [fS] using e
                   cases this
    | float x t => have : Value.float x t :: r = veM := by simpa [fS] using e
                   cases this
    | builtin x => have : Value.builtin x :: r = veM := by simpa [fS] using e
                   cases this
    | type T => have : Value.type T :: r = veM := by simpa [fS] using e
                rw[this];exact .base
    |_=>first | (simp[fS]at e;done) | (exfalso;revert e;simp[fS])
theorem rZ{C:Addr}{x:Str}{mg:kP}(e:lY K C=true)(hm:mg x=some (.ref C))(X:K.In h):PyProof.Rows.OwnCls x C veM "ValueError.__new__" mg h:=by
 unfold lY at e
 split at e
 ·rename_i dd cd sl q
  obtain⟨e1,_⟩:=fG.mp e
  split at e1
  ·rename_i C' tl Jh
   simp only[dE,beq_iff_eq]at e1
   obtain⟨⟨⟨⟨⟨rfl,h2⟩,h3⟩,h4⟩,h5⟩,h6⟩:=e1
   obtain⟨m,Gq,Lg⟩:=rK h5 X
   have Ea:sl = #[sl.getD 0 none,sl.getD 1 none,sl.getD 2 none,sl.getD 3 none,some (.builtin "ValueError.__new__"),sl.getD 5 none]:=by
    apply Array.ext_getElem?
    intro i
    match i with
    | 0=>simp[h3]
    | 1=>simp[h3]
    | 2=>simp[h3]
    | 3=>simp[h3]
    | 4=>simp[h4]
    | 5=>simp[h3]
    |i+6=>rw[Array.getElem?_eq_none (by rw[h3];omega),Array.getElem?_eq_none (by simp)]
   refine⟨hm,tl,cd.ns,cd.name,cd.qualname,cd.bases,cd.hasDict,cd.slotNames,cd.subclasses,cd.abstract,cd.collection,dd,sl.getD 0 none,sl.getD 1 none,sl.getD 2 none,sl.getD 3 none,sl.getD 5 none,m,?_,Gq,Lg,nX 4 tl h6 X⟩
   have:=X _ _ q
   rw[this]
   obtain⟨nm,bs,mro,ns,qn,hd,sn,sub,ab,col,hdel⟩:=cd
   dsimp only at Jh h2 ⊢
   subst Jh h2
   unfold excClassObj
   rw[<-Ea]
  ·cases e1
 ·cases e
theorem aAk{C:Addr}(e:lY K C=true):PySem.W.excKit K C=true:=by
 unfold lY at e
 split at e
 ·exact(fG.mp e).2
 ·cases e
theorem xU{C D:Addr}(e:lY K C=true)(hu:t3 K C D=true)(X:K.In h):xY h C D:=by
 obtain⟨_,tl,N,nm,q,bs,hdct,sn,sub,ab,col,dd,k0,k1,k2,k3,k5,mN,hC,_⟩:=rZ (x:= "x") (mg:=λ_=>some (.ref C)) e rfl X
 refine⟨nm,q,N,bs,tl,hdct,sn,sub,ab,col,dd,k0,k1,k2,k3,k5,_,hC,?_⟩
 unfold t3 at hu
 split at hu
 ·rename_i c d cd sl ql
  have:=X _ _ ql
  rw[hC]at this
  cases this
  exact hu
 ·cases hu
end
def isC(K:Frag)(c:Value):Dx->Option Bool
 | .non=>PySem.W.kitOne K (.type "NoneType") c
 | .exc (.ref C)=>if PySem.W.excKit K C=true then PySem.W.kitOne K (.ref C) c else none
 |_=>none
def x_(K:Frag)(cs:List Value):Dx->Option Bool
 | .non=>PySem.W.kitAny K (.type "NoneType") cs
 | .exc (.ref C)=>if PySem.W.excKit K C=true then PySem.W.kitAny K (.ref C) cs else none
 |_=>none
def yE(f:Dx->Option Bool)(t:XT):XT:=λρ Q=>t ρ λs ρ'=>match f s.d with
 |some b=>Q (.tr (.bl b)) ρ'
 |none=>False
theorem xG{X:Cx}{Aa:eF}{σ:St}{H:Hp}{s:Shared}{a C:Addr}(I:Inv X Aa σ H s)(h:H a=some (.ext (xH a (.ref C)))):∃ox,PySem.W.InstAt s.heap a ox C none:=by
 obtain⟨⟨o,vs,h1,h2,h3,h4⟩,_⟩:=(show ObjOk X.prog X.w H s.heap a (.ext (xH a (.ref C)))from I.hok a _ h)
 refine⟨o,h1,h2,?_,?_⟩
 ·unfold PySem.W.notCls;rw[h3]
 ·rw[h4];trivial
theorem aHc{X:Cx}{c:Value}{vc:V}(hv:∀u,RelV vc u->u=c):CallR X (.builtin "isinstance") (λxs H Q=>∃x d b,xs=[x,vc]/\IsX H d x/\isC X.K c d=some b/\Q (.bl b) H):=by
 intro Aa s σ H xs us Q I r h
 obtain⟨x,d,b,rfl,hx,hb,q⟩:=h
 obtain⟨u,w',rfl,r1,r2⟩:=vR r
 cases hv _ r2
 cases d with
 |non=>cases hx.non_eq;cases(show u=Value.none from r1);exact PySem.W.kia_one PySem.W.kitx_none I.kIn True.intro hb (λz=>nomatch z) (λtk=>⟨.bl _,H,I.tok _,rfl,q⟩)
 |exc e =>
  cases e with
  |ref C =>
   simp only[isC]at hb
   split at hb
   ·rename_i hk
    obtain⟨a,rfl,h1⟩:=hx.exc_eq
    cases(show u=Value.ref a from r1)
    exact PySem.W.kia_one (PySem.W.kitx_exc hk) I.kIn (xG I h1) hb (λz=>nomatch z) (λtk=>⟨.bl _,H,I.tok _,rfl,q⟩)
   ·cases hb
  |_=>cases hb
 |_=>cases hb
theorem aAt{X:Cx}{cs:List Value}{vcs:List V}(hv:∀us,Vals vcs us->us=cs):CallR X (.builtin "isinstance") (λxs H Q=>∃x d b p,xs=[x,.ref p]/\IsX H d x/\H p=some (.tup vcs)/\x_ X.K cs d=some b/\Q (.bl b) H):=by
 intro Aa s σ H xs us Q I r h
 obtain⟨x,d,b,p,rfl,hx,hp,hb,q⟩:=h
 obtain⟨u,w',rfl,r1,r2⟩:=vR r
 cases r2
 obtain⟨_,its,rv,o,h2,h3,n',h4⟩:=(show ObjOk X.prog X.w H s.heap p (.tup vcs)from I.hok p _ hp)
 have ei:=hv its rv
 subst ei
 obtain⟨cls,dd,data,sl⟩:=o
 dsimp only at h3 h4
 subst h3 h4
 cases d with
 |non=>cases hx.non_eq;cases(show u=Value.none from r1);exact PySem.W.kia_tup PySem.W.kitx_none I.kIn True.intro h2 hb (λz=>nomatch z) (λtk=>⟨.bl _,H,I.tok _,rfl,q⟩)
 |exc e =>
  cases e with
  |ref C =>
   simp only[x_]at hb
   split at hb
   ·rename_i hk
    obtain⟨a,rfl,h1⟩:=hx.exc_eq
    cases(show u=Value.ref a from r1)
    exact PySem.W.kia_tup (PySem.W.kitx_exc hk) I.kIn (xG I h1) h2 hb (λz=>nomatch z) (λtk=>⟨.bl _,H,I.tok _,rfl,q⟩)
   ·cases hb
  |_=>cases hb
 |_=>cases hb
theorem aBm{e:Expr}{t:XT}{nm:Str}{p q pos:Pos}{c:Value}{vc:V}(K:Frag)(hm:X.mg "isinstance" = none)(h:XE X Ex e t)(hT:PE X (.Name nm q) (tC vc))(hv:∀u,RelV vc u->u=c)(hK:X.K=K:=by rfl)(hg:Gl X "isinstance":=by rfl)
  (he:starEach [e,.Name nm q] X.env=(false,eval e X.env)::starEach [.Name nm q] X.env:=by rfl) (Gc:starEach [.Name nm q] X.env=(false,eval (.Name nm q) X.env)::starEach [] X.env:=by rfl) (A0:(backTo pos (starEach [.Name nm q] X.env)).any (·.1)=false:=by rfl):XE X Ex (.Call (.Name "isinstance" p) [e,.Name nm q] [] pos) (yE (isC K c) t):=λF=>by
 subst hK
 exact(gb_ (aHc hv) hg hm fl_ (lK (h F) (lK hT xJ Gc) he) (by decide) (by decide) he A0).weak λσ H Q=>by
  rintro⟨ρ,fr,Qx,E,t,k⟩
  refine⟨ρ,fr,_,E,t,λv s H' ρ' E' q=>?_⟩
  obtain⟨R,hx⟩:=E'.one
  split at q
  ·rename_i b hb
   exact⟨v,s.d,b,rfl,hx.to R.hv,hb,k _ _ H' ρ' (EOk.back E'.len (R.add (IsX.of_bl _))) q⟩
  ·exact q.elim
theorem aIf{e:Expr}{es:List Expr}{t:XT}{p q3 pos:Pos}{j:Nat}{cs:List Value}{vcs:List V}{ta:TA}(K:Frag)(hm:X.mg "isinstance" = none)(h:XE X Ex e t)(hT:PA X es ta)(ht:∀σ H Q,Q vcs H->ta σ H Q)(hv:∀us,Vals vcs us->us=cs)(hl:vcs.length<=1000)(hK:X.K=K:=by rfl)(hg:Gl X "isinstance":=by rfl)
  (he:starEach [e,.Tuple es j q3] X.env=(false,eval e X.env)::starEach [.Tuple es j q3] X.env:=by rfl) (Gc:starEach [.Tuple es j q3] X.env=(false,eval (.Tuple es j q3) X.env)::starEach [] X.env:=by rfl)
  (A0:(backTo pos (starEach [.Tuple es j q3] X.env)).any (·.1)=false:=by rfl):XE X Ex (.Call (.Name "isinstance" p) [e,.Tuple es j q3] [] pos) (yE (x_ K cs) t):=λF=>by
 subst hK
 exact(gb_ (aAt hv) hg hm fl_ (lK (h F) (lK (yX hT) xJ Gc) he) (by decide) (by decide) he A0).weak λσ H Q=>by
  rintro⟨ρ,fr,Qx,E,t,k⟩
  refine⟨ρ,fr,_,E,t,λv s H' ρ' E' q=>ht _ _ _ ⟨by have:=fJ;omega,λp hp=>?_⟩⟩
  obtain⟨R,hx⟩:=E'.one
  have e:Same H' (upd H' p (.tup vcs)):=ie_ hp _
  have R2:=R.grow e
  split at q
  ·rename_i b hb
   exact⟨v,s.d,b,p,rfl,(hx.to R.hv).to e,bU,hb,k _ _ _ ρ' (EOk.back E'.len (R2.add (IsX.of_bl _))) q⟩
  ·exact q.elim
end Lf
namespace L2
open PySem PySem.Spec PySem.SeqAt PySem.AutoSeq1 PySem.MeetsSeq PyProof.Rows
section
variable{A:Around}{s:Shared}
def DictH(h:Heap)(l:Addr):Prop:=∃es n dd sl,h.get? l=some { cls:=.type "dict",dict:=dd,data:=.dict es n,slots:=sl }
theorem DictH.of{P:Program}{w:World}{h:Heap}{a:Addr}{vs}(d:h.DictOf (dZ P w) a vs):DictH h a:=by
 obtain⟨⟨cls,dd,data,sl⟩,es,ep,ho,⟨e1,_,_⟩,e2,_⟩:=d
 simp only at e1 e2
 subst e1 e2
 exact⟨_,_,_,_,ho⟩
end
end L2
namespace L2
open PySem PySem.Spec PySem.SeqAt PyProof.Rows
section
variable{X:Cx}
theorem Inv.dictH{Aa:eF}{σ:St}{H:Hp}{s:Shared}{a:Addr}{ws:List (Key×V)}(I:Inv X Aa σ H s)(h:H a=some (.dK ws)\/∃o,H a=some (.frz o (.dK ws))):DictH s.heap a:=by
 rcases h with h | ⟨o,h⟩
 ·obtain ⟨_,_,vs,_,d⟩:=(show ObjOk X.prog X.w H s.heap a (.dK ws) from I.hok a _ h)
  exact DictH.of d
 ·obtain ⟨_,_,_,vs,_,d⟩:=(show ObjOk X.prog X.w H s.heap a (.frz o (.dK ws)) from I.hok a _ h)
  exact DictH.of d
end
end L2
namespace Lf
open PySem L2
open PySem.W (Frag nsIn)
def aSf(K:Frag)(ns:List Str)(n:Str):OX:=match lH K n with
 |some C=>(lY K C,ns.map (λm=>match lH K m with | some D=>(PySem.W.kitOne K (.ref C) (.ref D),t3 K C D) | none=>(none,false)),PySem.W.kitOne K (.ref C) (.type "ValueError"),PySem.W.kitOne K (.type "NoneType") (.ref C))
 |none=>(false,[],none,none)
theorem aKv(K:Frag)(ns:List Str):aSd K ns=ns.map (aSf K ns):=rfl
structure ClsX(K:Frag)(mg:kP)(n:Str)(C:Addr):Prop where
 at':lH K n=some C
 m:mg n=some (.ref C)
 ok:lY K C=true
theorem jo_{K:Frag}{ns:List Str}{n:Str}{l:List (Option Bool×Bool)}{a b:Option Bool}{h:Heap}{mg:kP}(e:aSf K ns n=(true,l,a,b))(X:K.In h)(G:h.Ns mainGlobals mg):∃C,ClsX K mg n C/\l=ns.map (λm=>match lH K m with | some D=>(PySem.W.kitOne K (.ref C) (.ref D),t3 K C D) | none=>(none,false))/\PySem.W.kitOne K (.ref C) (.type "ValueError")=a/\PySem.W.kitOne K (.type "NoneType") (.ref C)=b:=by
 unfold aSf at e
 cases hc:lH K n with
 |none=>rw[hc]at e;simp at e
 |some C =>
  rw[hc]at e
  simp only[Prod.mk.injEq]at e
  obtain⟨e1,e2,e3,e4⟩:=e
  refine⟨C,⟨hc,?_,e1⟩,e2.symm,e3,e4⟩
  unfold lH at hc
  split at hc
  ·rename_i C' hn
   cases hc
   exact PySem.W.mg_of X G hn
  ·cases hc
theorem ClsX.own{K:Frag}{mg:kP}{n:Str}{C:Addr}{base:Heap}(x:ClsX K mg n C)(X:K.In base):PyProof.Rows.OwnCls n C veM "ValueError.__new__" mg base:=rZ x.ok x.m X
def aBx(t:XT):XT:=λρ Q=>t ρ λs ρ'=>match s.d with
 | .int i=>Q (.tr (.int (-i))) ρ'
 |_=>False
theorem ht_{e:Expr}{t:XT}{pos:Pos}(h:XE X Ex e t):XE X Ex (.UnaryOp .USub e pos) (aBx t):=λF=>(aDz yH (h F)).weak λσ H Q=>by
 rintro⟨ρ,fr,Qx,E,t,k⟩
 refine⟨ρ,fr,_,E,t,λv s H' ρ' E' q=>?_⟩
 split at q
 ·rename_i i hi
  obtain⟨R,hx⟩:=E'.one
  rw[hi]at hx
  cases hx.int_eq
  exact⟨i,rfl,k _ _ H' ρ' (EOk.back E'.len (R.add (IsX.of_int _))) q⟩
 ·exact q.elim
def bCb:List Dx->List V->List Rw
 |d::ds,v::vs=>(.v (.tr d),some v)::bCb ds vs
 |_,_=>[]
end Lf
namespace L2
open PySem PySem.Spec PyProof.Rows
end L2
namespace Lf
open PySem L2
def sgX(x:Str):List Dx:=x.cps.toList.map λc=>.str ⟨#[c]⟩
theorem aDc{x:Str}{i:Nat}{d:Dx}(h:(sgX x)[i]? = some d):∃c,x.cps[i]? = some c/\d=.str ⟨#[c]⟩:=by
 unfold sgX at h
 rw[bV]at h
 obtain⟨c,h1,h2⟩:=dJ.mp h
 exact⟨c,by simpa using h1,h2.symm⟩
theorem aLi{F:Fm}{x:Str}:ItX F (Its x) [] (sgX x)where
 go:=λP H i d R hd=>by
  obtain⟨c,h1,_⟩:=aDc hd
  exact(Array.getElem?_eq_some_iff.mp h1).1
 stop:=λP H i R hi=>by
  unfold sgX at hi
  rw[aG,Array.length_toList]at hi
  exact hi
 yld:=λP H i d y H' R hd q=>by
  obtain⟨rfl,c,h1,rfl⟩:=q
  obtain⟨c',h2,rfl⟩:=aDc hd
  rw[h1]at h2
  cases h2
  exact R.add (IsX.of_str _)
def xiS(t:XT):XI:=λρ Q=>t ρ λs ρ'=>match s.d with
 | .str z=>Q (sgX z) ρ'
 |_=>False
section
variable{tg l a b:Expr}{t ta tb:XT}{x:Str}{p pos:Pos}
theorem aBk(h:XE X Ex l t):XIt X Ex tg l (xiS t):=λF=>(aQx (h F)).weak λσ H R=>by
 rintro⟨ρ,fr,Qx,E,t,k⟩
 refine⟨ρ,fr,_,E,t,λv s H' ρ' E' q=>?_⟩
 split at q
 ·rename_i z hz
  obtain⟨R1,hs⟩:=E'.one
  rw[hz]at hs
  cases hs.str_eq
  exact⟨z,rfl,k _ H' ρ' [] _ ⟨E'.len,R1⟩ aLi q⟩
 ·exact q.elim
def aFs(neg:Bool):G2
 | .str i,.str j,Q=>Q (.tr (.bl (if neg then !(!(Builtin.Str.occurrences j i 0 j.length 1).isEmpty)else !(Builtin.Str.occurrences j i 0 j.length 1).isEmpty)))
 |_,_,_=>False
theorem uC:OpX (λx y H Q=>∃i j,x=.str i/\y=.str j/\Q (.bl (!(Builtin.Str.occurrences j i 0 j.length 1).isEmpty)) H) (aFs false):=by
 intro F P H a b x y Q Qx R ha hb g k
 unfold aFs at g
 split at g
 ·cases ha.str_eq
  cases hb.str_eq
  exact⟨_,_,rfl,rfl,k _ _ H (R.add (IsX.of_bl _)) g⟩
 ·exact g.elim
theorem aEm:OpX (λx y H Q=>∃i j,x=.str i/\y=.str j/\Q (.bl (!(!(Builtin.Str.occurrences j i 0 j.length 1).isEmpty))) H) (aFs true):=by
 intro F P H a b x y Q Qx R ha hb g k
 unfold aFs at g
 split at g
 ·cases ha.str_eq
  cases hb.str_eq
  exact⟨_,_,rfl,rfl,k _ _ H (R.add (IsX.of_bl _)) g⟩
 ·exact g.elim
theorem ia_{i:Str}(hg:Gl X x)(hm:∃t,X.mg x=some (.str i t))(hd:(x == ("__debug__" : Str))=false:=by decide):XE X Ex (.Name x pos) (xC (.str i)):=by
 obtain⟨t,hm⟩:=hm
 exact s_ (fu_ (v:=.str i) hg hm ⟨t,rfl⟩ hd) _ λ_=>IsX.of_str _
end
theorem eb_{G K:XS}{ρ:En}{D:XD}(M:En->Prop)(h1:∀ρ',M ρ'->K ρ' D)(h2:∀nx:En->Prop,(∀ρ',M ρ'->nx ρ')->G ρ { D with nx:=nx }):cI G K ρ D:=h2 _ h1
end Lf
namespace L2
open PySem PySem.Spec PyProof.Rows
section
variable{X:Cx}
def u6(z:Str):Str:=Txt.sliceBy z none none (-1,0)
theorem oM(z:Str):(u6 z).length=z.length:=PyProof.Rows.step_rev_len z 0
theorem wG(z:Str)(u:Tok):Txt.sliceBy z none none (-1,u)=u6 z:=PyProof.Rows.str_ext_getD (by rw[oM,PyProof.Rows.step_rev_len]) λi hi=>by
 rw[PyProof.Rows.step_rev_len]at hi
 unfold u6
 rw[PyProof.Rows.step_rev_getD z u i hi,PyProof.Rows.step_rev_getD z 0 i hi]
def aWl(te:TE):TE:=λσ H Q=>te σ H λx H1=>∃z,x=.str z/\z.length<=sizeLine/\Q (.str (u6 z)) H1
theorem aJp{e:Expr}{te:TE}{k:Nat}{p1 p2 p3 pos:Pos}(he:PE X e te):PE X (.Subscript e (.Slice none none (some (.UnaryOp .USub (.Constant (.int 1) k p1) p2)) p3) pos) (aWl te):=by
 intro Aa s σ H Q I h
 refine Subscript_ (dQ (he Aa s σ H _ I h) λv s1 ⟨x,H1,I1,r1,q1⟩=>?_)
 obtain⟨z,rfl,hz,q⟩:=q1
 obtain⟨t1,rfl⟩:=r1
 refine wpAny_Slice ?_
 rw[evalPart_none]
 refine wpAny_pure (wpAny_pure ?_)
 rw[evalPart_some]
 refine dQ ((aDz yH yY:PE X (.UnaryOp .USub (.Constant (.int 1) k p1) p2) _) Aa s1 σ H1 (λx H'=>x=.int (-1)/\H'=H1) I1 ⟨_,rfl,rfl,rfl⟩) λvs s2 ⟨y,H2,I2,r2,e2,e3⟩=>?_
 subst e2 e3
 obtain⟨t,rfl⟩:=r2
 have I3:Inv X Aa σ H2 { s2 with heap:=s2.heap.push { cls:=.type "slice",data:=.fields #[.none,.none,.int (-1) t] } }:=I2.kept (t':=s2.toks) λb ob q=>aQ _ q
 refine tail_any (ops:=[.str z t1,.ref s2.heap.objs.size]) (typeIs_str _ _ _) PySem.F.slot_str_getitem.lookup ?_ (by with_unfolding_all rfl)
 refine wpAny_getItem_str_slice (l:=none) (u:=none) (st:=some (-1,t)) ⟨_,bP _ rfl,rfl,rfl⟩ rfl ?_
 refine post_val_or_str ⟨?_,λt' k=>⟨.str _,H2,I3.tok _,⟨_,rfl⟩,?_⟩⟩
 ·show (Txt.sliceBy z none none (-1,t)).length≤_
  rw[wG,oM]
  exact hz
 ·show Q (.str (Txt.sliceBy z none none (-1,t))) H2
  rw[wG]
  exact q
end
end L2
namespace Lf
open PySem L2
section
variable{a b e:Expr}{ta tb t:XT}{lo hi:Option Expr}{tl th:XO}{p2 pos:Pos}
def aNb(t:XT):XT:=λρ Q=>t ρ λs ρ'=>match s.d with
 | .str z=>z.length<=1000000/\Q (.tr (.str (u6 z))) ρ'
 |_=>False
theorem aIb{k:Nat}{p1 p3:Pos}(he:XE X Ex e t):XE X Ex (.Subscript e (.Slice none none (some (.UnaryOp .USub (.Constant (.int 1) k p1) p2)) p3) pos) (aNb t):=λF=>(aJp (he F)).weak λσ H Q=>by
 rintro⟨ρ,fr,Qx,E,t,k⟩
 refine⟨ρ,fr,_,E,t,λv s H' ρ' E' q=>?_⟩
 split at q
 ·rename_i z hz
  obtain⟨R,hx⟩:=E'.one
  rw[hz]at hx
  cases hx.str_eq
  exact⟨z,rfl,by have:=fJ;omega,k _ _ H' ρ' (EOk.back E'.len (R.add (IsX.of_str _))) q.2⟩
 ·exact q.elim
end
def nst:Expr->Bool
 | .Starred _ _=>false
 |_=>true
theorem d6{e:Expr}{es:List Expr}{env:Env}(h:nst e=true):starEach (e::es) env=(false,eval e env)::starEach es env:=by
 cases e<;>first | rfl | cases h
theorem aBr{e:Expr}{es:List Expr}{t:XT}{u:XA}(h:XE X Ex e t)(h':XAs X Ex es u)(hn:nst e=true:=by rfl):XAs X Ex (e::es) (aW t u):=bR h h' (d6 hn)
structure Bx(p:Prop):Prop where
 out:p
section
variable{a b c e o k v l:Expr}{es:List Expr}{t ta tb te tk tv:XT}{u:XA}{pos p p2:Pos}{x:Str}{i j:Nat}
theorem qD{i:Int}{j:Nat}:Bx (XE X Ex (.Constant (.int i) j pos) (xC (.int i))):=⟨cK⟩
theorem aZr{b:Bool}{j:Nat}:Bx (XE X Ex (.Constant (.bool b) j pos) (xC (.bl b))):=⟨iq_⟩
theorem aUi{j:Nat}:Bx (XE X Ex (.Constant .none j pos) (xC .non)):=⟨pT⟩
theorem jN{x:Str}{j:Nat}:Bx (XE X Ex (.Constant (.str x) j pos) (xC (.str x))):=⟨fU⟩
theorem hw_(h:PE X (.Name x pos) (fN i)):Bx (XE X Ex (.Name x pos) (bM i)):=⟨bL h⟩
theorem aHf{j:Nat}(h:Bx (XAs X Ex es u)):Bx (XE X Ex (.Tuple es j pos) (yD u)):=⟨xN h.out⟩
theorem hc_(h:Bx (XAs X Ex es u)):Bx (XE X Ex (.List es pos) (iV u)):=⟨pR h.out⟩
theorem aMp:Bx (XE X Ex (.Dict [] [] pos) aCa):=⟨mH⟩
theorem pX(ha:Bx (XE X Ex a ta))(hb:Bx (XE X Ex b tb)):Bx (XE X Ex (.BinOp a .Add b pos) (xOp eY ta tb)):=⟨gA ha.out hb.out⟩
theorem aUj(ha:Bx (XE X Ex a ta))(hb:Bx (XE X Ex b tb)):Bx (XE X Ex (.BinOp a .Mult b pos) (xOp w4 ta tb)):=⟨eo_ ha.out hb.out⟩
theorem pW(K:cZ)(ha:Bx (XE X Ex a ta))(hb:Bx (XE X Ex b tb))(hs:jC b)(h:X.K=K:=by rfl):Bx (XE X Ex (.Subscript a b pos) (xOp ixX ta tb)):=⟨jI K ha.out hb.out hs h⟩
variable{lo hi:Option Expr}{tl th:XO}
theorem vK:Bx (XAs X Ex [] cJ):=⟨cB⟩
theorem fV(h:Bx (XE X Ex e t))(h':Bx (XAs X Ex es u))(hn:nst e=true:=by rfl):Bx (XAs X Ex (e::es) (aW t u)):=⟨aBr h.out h'.out hn⟩
def aEy:List Expr->Bool
 | []=>true
 |e::es=>nst e&&aEy es
theorem aCx{env:Env}:∀{es:List Expr},aEy es=true->(backTo pos (starEach es env)).any (·.1)=false
 | [],_=>rfl
 |e::es,h=>by
  simp only[aEy,dE]at h
  rw[d6 h.1]
  exact aCx h.2
theorem gg_{ps:List Str}{g:GB}(C:Cal X.prog X.w X.K X.mg X.base j x ps (spB g))(hr:Room j X.A)(hv:PE X e (fN i))(ha:Bx (XAs X Ex es u))(hg:Gl X x:=by rfl)(Bk:(x == ("__debug__" : Str))=false:=by decide)(he:nst e=true:=by rfl)(Ia:aEy es=true:=by rfl):Bx (XE X Ex (.Call (.Name x p) (e::es) [] pos) (dO g i u)):=⟨jB C hr hv ha.out hg Bk (d6 he) (aCx Ia)⟩
theorem aHg{id:String}{r:List V->Hp->VK->Prop}{g:GC}(hc:CallR X (.builtin id) r)(hx:hY r g)(hg:Gl X x)(hm:X.mg x=none)(hv:bootBuiltins x=some (.builtin id))(ha:Bx (XAs X Ex (e::es) u))(hn:x ≠ "__name__":=by decide)(Bk:(x == ("__debug__" : Str))=false:=by decide)(he:nst e=true:=by rfl)(Ia:aEy es=true:=by rfl):Bx (XE X Ex (.Call (.Name x p) (e::es) [] pos) (cX g u)):=⟨jJ hc hx hg hm hv ha.out hn Bk (d6 he) (aCx Ia)⟩
variable{r:R2}{g:G2}{op:CmpOp}{tc uc:XC}{rest:List Expr}
variable{st:Stmt}{sts as bs:List Stmt}{G K:XS}
theorem jq_{pos':Pos}(hN:X.N.Nodup)(hi:X.N[i]? = some x)(hx:Loc X.env.scope x)(he:Bx (XE X Ex e t))(hs:swapsWith e (some (.Name x pos')) pos.line X.env=pure false:=by rfl)(hf:X.fn x=true\/X.env.scope.names.lookup x=some .local:=by first | exact .inl rfl | exact .inr rfl | assumption):Bx (XSt X Ex (.Assign [.Name x pos'] e pos) (eZ i t)):=⟨ah_ λF=>ap_ hN hi hx (XE.at (Ex:=Ex) F he.out) hs hf⟩
theorem sF(hc:Bx (XTe X Ex c tc))(ha:Bx (XSs X Ex as G))(hb:Bx (XSs X Ex bs K)):Bx (XSt X Ex (.If c as bs pos) (xIf tc G K)):=⟨fL hc.out ha.out hb.out⟩
theorem vF(he:Bx (XE X Ex e t)):Bx (XSt X Ex (.Return (some e) pos) (gW t)):=⟨dX he.out⟩
theorem hs_:Bx (XSs X Ex [] fD):=⟨fW⟩
theorem lR(h:Bx (XSt X Ex st G)):Bx (XSs X Ex [st] G):=⟨dH h.out⟩
theorem gN(h:Bx (XSt X Ex st G))(h':Bx (XSs X Ex sts K)):Bx (XSs X Ex (st::sts) (cI G K)):=⟨cV h.out h'.out⟩
end
end Lf
namespace L2
open PySem PySem.Spec PySem.SeqAt PySem.AutoSeq1 PySem.MeetsSeq PyProof.Rows
theorem qH(l:Addr)(es:Array DictEntry)(n:Nat)(dd:Option Addr)(sl:Array (Option Value)) :
  Meets (Builtin.«dict.__eq__» ⟨[.ref l,.none],[]⟩) (λ_ R s=>s.heap.get? l=some { cls:=.type "dict",dict:=dd,data:=.dict es n,slots:=sl }/\R (.ok (.ret .notImplemented)) s):=
 .of_wp λprog w A R s h=>by obtain⟨hp,g,d,tk,os⟩:=s;obtain⟨hl,h⟩:=h;have f1:=F.sub_NoneType_dict;wp_walk using wpAny_loadPart' hl;exact⟨_,rfl,h⟩
section
variable{A:Around}{s:Shared}
theorem tT{l:Addr}(hl:DictH s.heap l)(hu:A.units<cLine):RcAt A s (.ref l) .none false:=λprog w E Q h=>by
 obtain⟨es,n,dd,sl,ho⟩:=hl
 exact rc_eq_decline_or (k:=false) ⟨_,ho,rfl⟩ rfl (by decide) F.sub_NoneType_dict F.slot_dict_eq F.slot_NoneType_eq_refl
  (λ_ hq=>call_meets F.slot_dict_eq ⟨_,ho,rfl⟩ F.entry_dict_eq (F.args_dict_eq_2 _ _) (qH l es n dd sl) ⟨ho,hq⟩)
  (λ_ hq=>call_gives F.slot_NoneType_eq_refl rfl F.entry_NoneType_eq (F.args_NoneType_eq_2 _ _) (NoneType___eq___none_ref_0 l) hq)
  (λ_ hq=>wpAny_of_eq (rfl:isSame (.ref l) .none=pure false) hq) (.inr hu) h
theorem uY{l:Addr}(hl:DictH s.heap l)(hu:A.units<cLine):EqAt A s (.ref l) .none false:=λprog w E Q h=>by
 unfold eqBool
 refine wpAny_holding ?_
 refine wpAny_ite_split (λGi=>absurd (eq_of_beq Gi) nofun) (λ_=>?_)
 exact wpAny_bind (tT hl hu prog w E _ (wpAny_truthy_bool h))
end
inductive ShN(K:cZ)(H:Hp):V->Bool->Prop
 |non:ShN K H .non true
 |int (i:Int):ShN K H (.int i) false
 |lst {a:Addr} {xs:List V} (h:SqL K H a xs):ShN K H (.ref a) false
 |tup {a:Addr} {xs:List V} (h:SqT K H a xs):ShN K H (.ref a) false
 |dic {a:Addr} {ws:List (Key×V)} (h:H a=some (.dK ws)\/∃o,H a=some (.frz o (.dK ws))):ShN K H (.ref a) false
def aXg(K:cZ):R2:=λx y H Q=>∃p ws,x=.non/\y=.ref p/\SqL K H p ws/\∃bs:List Bool,Lf.All2 (λv b=>ShN K H v b) ws bs/\Q (.bl (bs.any id)) H
section
variable{X:Cx}
theorem aFt{Aa:eF}{σ:St}{H:Hp}{s:Shared}(I:Inv X Aa σ H s){A:Around}(hu:A.units<cLine):∀{ws:List V} {its:List Value} {bs:List Bool},Vals ws its->Lf.All2 (λv b=>ShN X.K H v b) ws bs->(∀y∈its,EqAt A s y .none (isNone y))/\its.any isNone=bs.any id
 |_,_,_,.nil,h=>by cases(show _=[]from h);exact⟨λy hy=>absurd hy (by simp),rfl⟩
 |v::ws,u::its,bs,.cons r t,h=>by
  obtain⟨b,br,rfl,h1,h2⟩:=h
  obtain⟨g1,g2⟩:=aFt I hu t h2
  have key:EqAt A s u .none (isNone u)/\isNone u=b:=by
   cases h1 with
   |non=>cases r;exact⟨EqAt.same .none,rfl⟩
   |int i=>obtain⟨t,rfl⟩:=r;exact⟨EqAt.int_none i t,rfl⟩
   |lst h=>cases r;obtain⟨_,_,p,_⟩:=I.list h;exact⟨EqAt.list_none p.isList hu,rfl⟩
   |tup h=>cases r;obtain⟨_,_,p,_⟩:=I.tuple h;exact⟨EqAt.tuple_none p hu,rfl⟩
   |dic h=>cases r;exact⟨uY (I.dictH h) hu,rfl⟩
  refine⟨λy hy=>?_,?_⟩
  ·rcases aF.mp hy with rfl | hy
   ·exact key.1
   ·exact g1 y hy
  ·rw[fH,fH,key.2,g2];rfl
theorem aRm(hu:X.A.units+1<cLine):OpR X (compareOp .In) (aXg X.K):=by
 intro Aa s σ H x y v u Q I rx ry h
 obtain⟨p,ws,rfl,rfl,hq,bs,hb,q⟩:=h
 cases ry
 cases rx
 obtain⟨its,r,pl,hz⟩:=I.list hq
 obtain⟨g1,g2⟩:=aFt (A:=X.A.in1) I hu r hb
 refine SeqAt.in_listAt isNone pl.isList (λw hw=>g1 w (by simpa using hw)) ⟨.bl _,H,I,rfl,?_⟩
 rw[show its.toArray.any isNone=its.any isNone by simp,g2]
 exact q
end
end L2
namespace Lf
open PySem L2
def shN:Dx->Option Bool
 | .non=>some true
 | .int _=>some false
 | .lst _=>some false
 | .tup _=>some false
 | .dic _=>some false
 |_=>none
theorem aQc{K:cZ}{F:Fm}{P:List Rw}{H:Hp}{d:Dx}{v:V}{b:Bool}(R:Rep F P H)(h:IsX (hid (bJ P) (F.vis H)) d v)(e:shN d=some b):ShN K H v b:=by
 unfold shN at e
 split at e
 ·cases e;rw[h.non_eq];exact .non
 ·cases e;rw[h.int_eq];exact .int _
 ·cases e;obtain⟨a,vs,rfl,q,_⟩:=h.lst_eq;exact .lst (SqL.of (R.hv _ _ q))
 ·cases e;obtain⟨a,vs,rfl,q,_⟩:=h.tup_eq;exact .tup (SqT.of (R.hv _ _ q))
 ·cases e;obtain⟨a,ws,rfl,q,_⟩:=h.dic_eq;exact .dic (qX R q)
 ·cases e
def aYk:G2:=λa b Q=>match a,b with
 | .non,.lst l=>(l.all λd=>(shN d).isSome)=true/\Q (.tr (.bl (l.any λd=>shN d == some true)))
 |_,_=>False
theorem d_{K:cZ}{F:Fm}{P:List Rw}{H:Hp}(R:Rep F P H):∀{l:List Dx} {vs:List V},All2 (IsX (hid (bJ P) (F.vis H))) l vs->(l.all λd=>(shN d).isSome)=true->∃bs:List Bool,All2 (λv b=>ShN K H v b) vs bs/\bs.any id=l.any λd=>shN d == some true
 | [],_,h,_=>⟨[],by rw[show _=[]from h];exact rfl,rfl⟩
 |d::l,_,⟨v,vr,e,h1,h2⟩,h=>by
  rw[List.all_cons,dE]at h
  obtain⟨x,hx⟩:=cN.mp h.1
  obtain⟨bs,e1,e2⟩:=d_ (K:=K) R h2 h.2
  subst e
  refine⟨x::bs,⟨x,bs,rfl,aQc R h1 hx,e1⟩,?_⟩
  rw[fH,fH,e2,hx]
  cases x<;>rfl
theorem aRg{K:cZ}:OpX (aXg K) aYk:=by
 intro F P H a b x y Q Qx R ha hb g k
 unfold aYk at g
 split at g
 ·cases ha.non_eq
  obtain⟨p,vs,rfl,q3,q4⟩:=hb.lst_eq
  obtain⟨bs,e1,e2⟩:=d_ (K:=K) R q4 g.1
  exact⟨p,vs,rfl,rfl,SqL.of (R.hv _ _ q3),bs,e1,k _ _ H (R.add (IsX.of_bl _)) (by rw[e2];exact g.2)⟩
 ·exact g.elim
end Lf
namespace L2
open PySem PySem.Spec PySem.SeqAt PyProof.Rows
theorem nT:∀{as:List Addr} {us:List Value},Vals (as.map V.ref) us->us=as.map Value.ref
 | [],_,h=>by cases h;rfl
 |x::xs,_,h=>by
  cases h with
  |cons ra rb=>rw[nT rb];cases ra;rfl
end L2
namespace Lf
open PySem L2
def aNe(z:Str)(t:XT):XT:=λρ Q=>t ρ λs ρ'=>∃ys:List Str,s.d=.lst (ys.map Dx.str)/\(ys.map (·.length)).sum+ys.length*z.length<=16777216/\Q (.tr (.str (Txt.join z ys))) ρ'
theorem d4{G:Hp}:∀{ys:List Str} {vs:List V},All2 (IsX G) (ys.map Dx.str) vs->vs=ys.map V.str
 | [],_,h=>h
 |x::xs,_,⟨v,vr,e,h1,h2⟩=>by rw[e,d4 h2,h1.str_eq];rfl
theorem sP{e:Expr}{t:XT}{z:Str}{j:Nat}{sp apos cpos:Pos}(h:XE X Ex e t)
  (A6:attributeBase (.Constant (.str z) j sp) "join" X.env (eval (.Constant (.str z) j sp) X.env)=eval (.Constant (.str z) j sp) X.env:=by rfl)
  (Cw:((backTo cpos (starEach [e] X.env)).all (fun x => !x.1) && (backToKw cpos (keywordEach [] X.env)).all (fun x=>x.1.isSome)
   && decide ([e].length+([]:List Keyword).length+(if([]:List Keyword).isEmpty then 0 else 1)<30))=true:=by rfl)
  (Bc:(apos.endLine == cpos.line)=true:=by rfl) (hs:starEach [e] X.env=(false,eval e X.env)::starEach [] X.env:=by rfl) (A5:(backTo cpos (starEach [] X.env)).any (·.1)=false:=by rfl) :
  XE X Ex (.Call (.Attribute (.Constant (.str z) j sp) "join" apos) [e] [] cpos) (aNe z t):=λF =>
 (oW PySem.F.plainAttrs_str PySem.F.slot_str_join PySem.F.type_str_join aKy (tY (x:=z)) (lK (h F) xJ hs) A6 Cw Bc hs A5).weak fun σ H Q=>by
  rintro⟨ρ,fr,Qx,E,t,k⟩
  refine⟨rfl,ρ,fr,_,E,t,λv s H' ρ' E' q=>?_⟩
  obtain⟨ys,hd,hz,q⟩:=q
  obtain⟨R,hx⟩:=E'.one
  rw[hd]at hx
  obtain⟨p,vs,rfl,q1,q2⟩:=hx.lst_eq
  cases d4 q2
  exact⟨z,p,ys,rfl,rfl,SqL.of (R.hv _ _ q1),hz,k _ _ H' ρ' (EOk.back E'.len (R.add (IsX.of_str _))) q⟩
end Lf
namespace L2
open PySem PySem.Spec PyProof.Rows
end L2
namespace Lf
open PySem L2
end Lf
namespace L2
open PySem PySem.Spec PyProof.Rows Builtin Builtin.Str
end L2
namespace Lf
open PySem L2
def aZy(g:GC)(i:Nat)(u:XA):XT:=λρ Q=>(∃s,ρ[i]? = some (.v s))/\u ρ λss ρ'=>match ρ'[i]? with
 |some (.v s)=>g (s.d::ss.map Sv.d) λr=>∃b,r=.tr (.bl b)/\Q (.tr (.bl b)) ρ'
 |_=>False
theorem vZ{G:Hp}:∀(ys:List Str),All2 (IsX G) (ys.map Dx.str) (ys.map V.str)
 | []=>rfl
 |x::xs=>⟨_,_,rfl,IsX.of_str _,vZ xs⟩
def kS(g:GB):Sp:=λvs H Q E=>∃a p,vs=[a,p]/\spB g [p,a] H Q E
def lB(N:List Str)(l:List Dx)(d:Dx):En:=.v (.tr d) :: .bw l::List.replicate (N.length-2) .un
def lE(Q:Dx->List Dx->Prop)(d:Dx)(ρ:En):Prop:=match (ρ[1]? : Option Sl)with
 |some (.bw l)=>Q d l
 |_=>False
abbrev aDh(Q:Dx->List Dx->Prop):XD:=⟨λρ=>lE Q .non ρ,λs ρ=>lE Q s.d ρ,λ_=>False,λ_=>False⟩
theorem aGh{x:Str}{st:Stmt}{f:Addr}{fd:FuncData}{N ps:List Str}{k:Nat}{g:GB}(Fn:Fun K x x st f fd)(S:FnScope N ps (aM st))(Al:∀l ds Q,g l ds Q->ds.length=1)(Cg:ps.length=2)(hN:2<=N.length)
  (Az:∀ (Ak:Value) (A:Around) (outer:List Env) (s:Shared) (H:Hp) (E:XK),Room k (A.deeper (PyProof.Rows.envOfC x (aM st) s.heap.objs.size f Ak)) →
   ∃G,XSs (iS CX0 P w K mg base N x (aM st) f Ak A outer s H E).nox dR (eG st) G/\∀l d Q,g l [d] Q->G (lB N l d) (aDh Q)):FnOk P w K mg base CX0 (k+1) f fd ps (kS g):=by
 refine Fn.ok S (λvs H Q E h=>?_) (λAk A outer s H vs Q E hr h=>?_)
 ·obtain ⟨a,p,rfl,_⟩:=h
  rw[Cg];rfl
 obtain⟨va,vp,rfl,p,ws,l,vr,Hs,ds,Qx,e0,hp,h1,Ch,hl,h2,h3,h4⟩:=h
 cases e0
 obtain⟨G,hG,hq⟩:=Az Ak A outer s H E hr
 obtain⟨d,rfl⟩:=List.length_eq_one_iff.mp (Al l ds Qx h3)
 obtain⟨_,_,e1,hd,_⟩:=h2
 cases e1
 have nb:∀b∈[p],Hs b=none:=λb hb=>by rw[aI.mp hb];exact Ch
 have ib:∀b∈[p],∃o,H b=some o:=λb hb=>by rw[aI.mp hb];exact⟨_,hp⟩
 have At:∀{d:Dx} {v:V} {σ':St} {H':Hp} {ρ':En},EOk ⟨H,Hs,[p],h1,nb,ib⟩ ρ' σ' ((vT d,some v)::[]) H'->lE Qx d ρ'->Q v H':=λ{d v σ' H' ρ'} E' q=>by
  unfold lE at q
  split at q
  ·rename_i l' h0
   obtain⟨R,hx⟩:=E'.one
   obtain⟨y,hy,hi,R2⟩:=mD ⟨E'.len,R⟩ h0
   obtain⟨a,ws',rfl,h5,h6⟩:=R2.atB
   have ha:a=p:=aI.mp (R2.fr _ aA a (aI.mpr rfl))
   subst ha
   refine h4 d v l' ws' H' (λb o hb=>?_) h5 (h6.imp λ_ _ z=>z.to (kW λc hc=>by rw[aI.mp hc];exact aA)) (hx.to uR) q
   have An:b≠a:=λz=>by rw[z]at hb;unfold aFu at hb;rw[if_pos rfl]at hb;cases hb
   rw[mY An]at hb ⊢
   exact R.kp b o hb λz=>An (aI.mp z)
  ·exact q.elim
 refine⟨_,hG ⟨H,Hs,[p],h1,nb,ib⟩,lB N l d,[],aDh Qx,⟨?_,?_⟩,hq l d Qx h3,⟨λσ' H' ρ' _ E' q=>At (EOk.back E'.len (E'.rep.add (d:=.non) (v:=.non) IsX.of_non)) q,λv s σ' H' ρ' _ E' q=>At (EOk.back E'.len E'.front.frz) q,λ_ _ _ _ _ q=>q.elim,λ_ _ _ _ _ q=>q.elim⟩⟩
 ·unfold lB L2.start
  simp only[aB,aG,bI,aD,bC]
  omega
 ·have R0:Rep ⟨H,Hs,[p],h1,nb,ib⟩ [] H:=⟨List.nodup_nil,fun r hr=>by simp at hr,fun r hr=>by simp at hr,fun b o h _=>h,ib⟩
  have Dj:Same Hs (Fm.vis ⟨H,Hs,[p],h1,nb,ib⟩ H):=λb o hb=>(jH (h1 _ _ hb)).trans hb
  have R1:=gt_ (m:=N.length-2) R0 (ds:=[]) (vs:=[]) rfl
  rw[dA,dA,aS,aS]at R1
  have Eo:bJ ((List.replicate (N.length-2) Sl.un).zip (List.replicate (N.length-2) (none:Option V)))=[]:=by
   unfold bJ
   refine List.flatMap_eq_nil_iff.mpr λr hr=>?_
   obtain⟨a,b⟩:=r
   rw[(List.mem_replicate.mp (fB hr).1).2];rfl
  rw[aV]
  have e:(lB N l d).zip (L2.start N [va,.ref p])=(vT d,some va)::(.bw l,some (.ref p))::(List.replicate (N.length-2) Sl.un).zip (List.replicate (N.length-2) none):=by
   unfold lB L2.start
   rfl
  rw[e]
  have N3:∀b o,Hs b=some o->b≠p:=λb o hb z=>by rw[z,Ch]at hb;cases hb
  have R2:Rep ⟨H,Hs,[p],h1,nb,ib⟩ ((.bw l,some (.ref p))::(List.replicate (N.length-2) Sl.un).zip (List.replicate (N.length-2) none)) H:=by
   refine⟨by rw[iO (a:=p) rfl,Eo];simp,λr hr=>?_,λr hr a ha=>?_,R1.kp,R1.lv⟩
   ·rw [iO (a:=p) rfl,Eo]
    rcases aF.mp hr with rfl | hr
    ·exact⟨p,ws,rfl,hp,hl.imp λ_ _ z=>z.to λb o hb=>aU.mpr ⟨λz=>N3 b o hb (aI.mp z),Dj _ _ hb⟩⟩
    ·refine (R1.ok r hr).mono (.of fun b o hb => ?_) fun _ _=>rfl
     have An:=aU.mp hb
     refine aU.mpr ⟨λz=>?_,An.2⟩
     have h9:Hs p=some o:=(jH hp).symm.trans (aI.mp z ▸ An.2)
     rw[Ch]at h9;cases h9
   ·rcases aF.mp hr with rfl | hr
    ·exact ha
    ·exact R1.fr r hr a ha
  exact R2.add (hd.to λb o hb=>aU.mpr ⟨λz=>by rw[iO (a:=p) rfl,Eo]at z;exact N3 b o hb (aI.mp z),Dj _ _ hb⟩)
def sW(g:GB)(i:Nat)(t:XT):XT:=λρ Q=>t ρ λs ρ'=>match (ρ'[i]?).bind kG with
 |some (l,f)=>g l [s.d] λd l'=>Q (.tr d) (ρ'.set i (f l'))
 |none=>False
theorem fq_{j i:Nat}{x:Str}{ps:List Str}{g:GB}{e e2:Expr}{t:XT}{p pos:Pos}(C:Cal X.prog X.w X.K X.mg X.base j x ps (kS g))(hr:Room j X.A)(ht:XE X Ex e t)(hv:PE X e2 (fN i))(hg:Gl X x:=by rfl)(Bk:(x == ("__debug__" : Str))=false:=by decide)
  (he:starEach [e,e2] X.env=(false,eval e X.env)::starEach [e2] X.env:=by rfl) (Gc:starEach [e2] X.env=(false,eval e2 X.env)::starEach [] X.env:=by rfl) (A0:(backTo pos (starEach [e2] X.env)).any (·.1)=false:=by rfl):XE X Ex (.Call (.Name x p) [e,e2] [] pos) (sW g i t):=λF=>(uA C hr (lK (ht F) (lK hv xJ Gc) he) hg Bk he A0).weak λσ H Q=>by
 rintro⟨ρ,fr,Qx,E,t,k⟩
 refine⟨ρ,fr,_,E,t,λva s2 H2 ρ2 E2 q2=>?_⟩
 obtain⟨R,hs⟩:=E2.one
 split at q2
 ·rename_i l f hb
  obtain⟨sl,h3,h4⟩:=aX.mp hb
  have E3:EOk F ρ2 σ fr H2:=⟨E2.len,R⟩
  obtain⟨v',A2,Fw,R2⟩:=mD E3 h3
  obtain⟨p,ws,rfl,h5,h6,h7,h8⟩:=gd_ h4 R2
  refine⟨.ref p,A2,va,.ref p,rfl,?_⟩
  have hO:(bJ (ρ2.zip σ++fr)).Perm (bJ ((sl,some (V.ref p))::((ρ2.zip σ).eraseIdx i++fr))):=((co_ h3 A2).append_right fr).flatMap_right _
  have Mj:∀a∈bJ ((sl,some (V.ref p))::((ρ2.zip σ).eraseIdx i++fr)),a∈bJ (ρ2.zip σ++fr):=λa ha=>hO.mem_iff.mpr ha
  refine⟨p,ws,l,[va],hid (bJ ((sl,some (V.ref p))::((ρ2.zip σ).eraseIdx i++fr))) (F.vis H2),[s2.d],_,rfl,h5,R2.hv,?_,?_,All2.one (hs.to (kW Mj)),q2,λd w l' ws' H' e hp Fg hd q=>?_⟩
  ·unfold hid
   rw[if_pos (by rw[iO h6];exact aA)]
  ·rw [iO h6]
   exact h7
  ·obtain ⟨k1,k2,k3⟩:=h8 l'
   have ev:=hp_ R2 h6 e
   have R3:=R2.called h6 k1 k2 e ⟨_,hp⟩ (k3 hp (Fg.imp λ_ _ z=>z.to λb o hb=>by
    have An:=aU.mp hb
    have:=ev _ _ An.2
    rw[iO h6]at this
    exact this))
   refine k w (.tr d) H' _ (EOk.back (by rw[bG];exact E2.len) ?_) q
   have R4:=R3.add (d:=d) (v:=w) (hd.to λb o hb=>by
    have:=ev _ _ hb
    rw[iO h6]at this
    rw[iO k1]
    exact this)
   exact R4.perm (((p7 E2.len Fw A2).append_right fr).symm.cons _)
 ·exact q2.elim
end Lf
namespace L2
open PySem PySem.Spec PyProof.Rows Builtin Builtin.Str
theorem jg_(y z:Str)(u v:Tok)(h0:(u == 0||v == 0)=false)(Iv:(u == v)=true):isSame (.str y u) (.str z v)=pure true:=by
 show(if(u == 0||v == 0)=true then _ else if(u == v)=true then pure true else _:Sem Bool)=_
 rw[h0,Iv]
 rfl
theorem wW(x y z:Str)(t u v k:Tok)(h0:(u == 0||v == 0)=false)(G5:(y == z)=false)(hl:tooLong (x.length+(occurrences x y 0 x.length 1).length*z.length)=false) :
    Gives («str.replace» ⟨[.str x t,.str y u,.str z v,.int 1 k],[]⟩) (if((occurrences x y 0 x.length 1).isEmpty||(y.length == 0&&z.length == 0))=true then .val (.str x t)else if(u == v)=true then .val (.str x t)else .str (glued z (partsBetween x (occurrences x y 0 x.length 1) y.length))):=by
  show Gives (do
      let limit <-countLimit "str.replace" (some (.int 1 k)) (x.length+1)
      if ((occurrences x y 0 x.length limit).isEmpty || (y.length == 0 && z.length == 0))=true then (do rule "str.replace.nothing"; ret (.str x t)) else
          (do let same ← isSame (.str y u) (.str z v)
              if same=true then(do rule "str.replace.old-is-new";ret (.str x t))else
              if tooLong (x.length+(occurrences x y 0 x.length limit).length*z.length)=true then unsupported "str.replace:memory" else
              retStr (glued z (partsBetween x (occurrences x y 0 x.length limit) y.length)))) _
  rw[countLimit_int "str.replace" 1 k (x.length+1) (by decide)]
  show Gives (if((occurrences x y 0 x.length 1).isEmpty||(y.length == 0&&z.length == 0))=true then(do rule "str.replace.nothing";ret (.str x t))else
          (do let same ← isSame (.str y u) (.str z v)
              if same=true then(do rule "str.replace.old-is-new";ret (.str x t))else
              if tooLong (x.length+(occurrences x y 0 x.length 1).length*z.length)=true then unsupported "str.replace:memory" else
              retStr (glued z (partsBetween x (occurrences x y 0 x.length 1) y.length)))) _
  cases hc:((occurrences x y 0 x.length 1).isEmpty||(y.length == 0&&z.length == 0))
  . cases Iv : (u == v)
    . rw [isSame_str_other y z u v h0 Iv G5, hl]
      exact .of_eq rfl
    . rw [jg_ y z u v h0 Iv]
      exact .rule (.of_eq rfl)
  . exact .rule (.of_eq rfl)
theorem rR(x y z:Str):(glued z (partsBetween x (occurrences x y 0 x.length 1) y.length)).length<=x.length+z.length:=by
 have h1:=StrLaws.occ_length_le x y 0 x.length 1
 have hy:(glued y (partsBetween x (occurrences x y 0 x.length 1) y.length)).length=x.length:=by rw[StrLaws.glued_between_self]
 rw[size_glued,length_partsBetween,Nat.add_sub_cancel]at hy
 rw[size_glued,length_partsBetween,Nat.add_sub_cancel]
 have h2:(occurrences x y 0 x.length 1).length*z.length<=1*z.length:=gH _ h1
 omega
theorem a6{prog:Program}{w:World}{A:Around}{E:gG}{s:Shared}{x y z:Str}{t u v k:Tok}{Q:gG}(hu:u≠0)(hv:v≠0)(G5:(y == z)=false)(hb:x.length+z.length<=16777216)
  (hq:∀x' t' k',x'.length<=x.length+z.length->Q (.str x' t') { s with toks:=k' }):wpAny (model prog w) A (call (.builtin "str.replace") [.str x t,.str y u,.str z v,.int 1 k]) Q E s:=by
 have e:(2:Nat)^24=16777216:=by decide
 have hl:tooLong (x.length+(occurrences x y 0 x.length 1).length*z.length)=false:=by
  have h1:=StrLaws.occ_length_le x y 0 x.length 1
  have h2:(occurrences x y 0 x.length 1).length*z.length<=1*z.length:=gH _ h1
  unfold tooLong sizeLine
  exact dzF (by omega)
 refine call_gives F.slot_str_replace (typeIs_str _ _ _) F.entry_str_replace (F.args_str_replace_4 _ _ _ _)
  (wW x y z t u v k (by simp[hu,hv]) G5 hl) ?_
 cases hc:((occurrences x y 0 x.length 1).isEmpty||(y.length == 0&&z.length == 0))
 ·cases Iv:(u == v)
  ·simp only [eU,if_false]
   exact⟨by rw[sizeLine_eq];exact nzL (rR x y z) hb,hq _ _ _ (rR x y z)⟩
  ·simp only [eU,if_false,if_true]
   exact hq x t s.toks (Nat.le_add_right _ _)
 ·simp only [if_true]
  exact hq x t s.toks (Nat.le_add_right _ _)
def PS1(X:Cx)(st:Stmt)(t:TS):Prop:=
 ∀(Aa:eF) (s:Shared) (σ:St) (H:Hp) (D:Ends),Inv X Aa σ H s->0<s.toks->t D σ H->wpAny (model X.prog X.w) X.A (exec st X.env) (SP X Aa D) X.xe s
def aUo(X:Cx)(st:List Stmt)(t:TS):Prop:=
 ∀(Aa:eF) (s:Shared) (σ:St) (H:Hp) (D:Ends),Inv X Aa σ H s->0<s.toks->t D σ H->wpAny (model X.prog X.w) X.A (execs st X.env) (SP X Aa D) X.xe s
def PE1(X:Cx)(e:Expr)(t:TE):Prop:=
 ∀(Aa:eF) (s:Shared) (σ:St) (H:Hp) (Q:VK),Inv X Aa σ H s->0<s.toks->t σ H Q->wpAny (model X.prog X.w) X.A (eval e X.env) (EP X Aa σ Q) X.xe s
def aPb(u:Value):Prop:=∀x t,u=.str x t->t≠0
def PE2(X:Cx)(e:Expr)(t:TE):Prop:=
 ∀(Aa:eF) (s:Shared) (σ:St) (H:Hp) (Q:VK),Inv X Aa σ H s->0<s.toks->t σ H Q->wpAny (model X.prog X.w) X.A (eval e X.env) (λu s'=>EP X Aa σ Q u s'/\aPb u/\0<s'.toks) X.xe s
def PA2(X:Cx)(es:List Expr)(t:TA):Prop:=
 ∀(pos:Pos) (Aa:eF) (s:Shared) (σ:St) (H:Hp) (Q:List V->Hp->Prop),Inv X Aa σ H s->0<s.toks->t σ H Q->wpAny (model X.prog X.w) X.A (spliced (backTo pos (starEach es X.env))) (λus s'=>AP X Aa σ Q us s'/\(∀u∈us,aPb u)/\0<s'.toks) X.xe s
section
variable{X:Cx}{e o:Expr}{es:List Expr}{te to:TE}{t:TA}{ts us:TS}{pos apos cpos:Pos}
theorem g7{x j pos}:PE2 X (.Constant (.str x) j pos) (tC (.str x)):=λ_ s _ H _ I hp h=>Calls.Constant_str ⟨⟨.str x,H,I.tok _,⟨_,rfl⟩,h⟩,λy t e=>by cases e;exact Nat.pos_iff_ne_zero.mp hp,Nat.succ_pos _⟩
theorem aJx{i j pos}:PE2 X (.Constant (.int i) j pos) (tC (.int i)):=λ_ s _ H _ I hp h=>wpAny_Constant_int ⟨⟨.int i,H,I.tok _,⟨_,rfl⟩,h⟩,λy t e=>(nomatch e),Nat.succ_pos _⟩
theorem g9:PA2 X [] t_:=λ_ _ _ _ H Q I hp h=>Calls.spliced_nil ⟨⟨[],H,I,.nil,h⟩,λu hu=>absurd hu bY,hp⟩
theorem ij_(ha:PE2 X e te)(hr:PA2 X es t)(hs:starEach (e::es) X.env=(false,eval e X.env)::starEach es X.env:=by rfl):PA2 X (e::es) (vW te t):=by
 intro pos Aa s σ H Q I hp h
 rw[hs]
 show wpAny _ _ (spliced ((false,eval e X.env)::backTo pos (starEach es X.env))) _ _ s
 refine Calls.spliced_cons (dQ (ha Aa s σ H _ I hp h) λu s1 ⟨⟨x,H1,I1,r1,q1⟩,k1,p1⟩=>?_)
 exact dQ (hr pos Aa s1 σ H1 _ I1 p1 q1) λus s2 ⟨⟨xs,H2,I2,r2,q2⟩,k2,p2⟩=>⟨⟨x::xs,H2,I2,.cons r1 r2,q2⟩,λu hu=>by
  rcases aF.mp hu with rfl | hu
  ·exact k1
  ·exact k2 u hu,p2⟩
theorem aDw{st:Stmt}(h1:PS1 X st ts):aUo X [st] ts:=by
 intro Aa s σ H D I hp h
 refine wpAny_execs_cons (dQ (h1 Aa s σ H D I hp h) λf s1 q=>?_)
 cases f with
 |next=>exact wpAny_execs_nil q
 |brk=>exact q
 |cont=>exact q
 |ret u=>exact q
theorem aJg(he:PE1 X e te):PS1 X (.Return (some e) pos) (aWn te):=by
 intro Aa s σ H D I hp h
 exact wpAny_Return_some (dQ (he Aa s σ H _ I hp h) λv s1 ⟨x,H1,I1,r1,q1⟩=>⟨x,σ,H1,I1,r1,q1⟩)
theorem aQt{a:Expr}{ta tb:TE}{op:CmpOp}{r:R2}{c:Int}{j:Nat}{p1 p2:Pos}{sa sb:List Stmt}(ho:OpR X (compareOp op) r)(ha:PE X a ta)(hC:∀σ H Q,tb σ H Q->Q (.int c) H)(hm:behindInMarks op (.Constant (.int c) j p1)=false)(hA:aUo X sa ts)(hB:PSs X sb us) :
  PS X (.If (.Compare a [op] [.Constant (.int c) j p1] p2) sa sb pos) (aWt (aCo (tOp r ta tb)) ts us):=by
 intro Aa s σ H D I h
 refine wpAny_If (wpAny_isTrue_Compare1 (dQ (ha Aa s σ H _ I h) λv s1 ⟨x,H1,I1,r1,q1⟩=>wpAny_Constant_int (wpAny_with_toks (n:=1) (Nat.succ_le_succ (cF _)) (wpAny_mono (ho Aa _ σ H1 x (.int c) v _ _ (I1.tok _) r1 ⟨_,rfl⟩ (hC _ _ _ q1)) (λb s3 ⟨z,H3,I3,r3,k,e,q3⟩ hp=>?_) λ_ _ h _=>h))) hm)
 subst e
 cases r3
 refine wpAny_truthy_bool ?_
 cases k with
 |true=>exact hA Aa s3 σ H3 D I3 hp q3
 |false=>exact hB Aa s3 σ H3 D I3 q3
def bBv(t:TA)(tb:TE):TE:=λσ H Q=>t σ H λxs H1=>xs.length<=sizeLine/\tb σ H1 λy H2=>∃(i:Nat) (v:V),y=.int (i:Int)/\xs[i]? = some v/\Q v H2
theorem aJw{b:Expr}{tb:TE}{p1:Pos}(ha:PA2 X es t)(hb:PE X b tb)(hs:jC b):PE2 X (.Subscript (.List es p1) b pos) (bBv t tb):=by
 intro Aa s σ H Q I hp h
 refine PyProof.Rows.Subscript_ (wpAny_List_spliced (dQ (ha p1 Aa s σ H _ I hp h) λus s1 ⟨⟨xs,H1,I1,r1,z1,q1⟩,k1,p1'⟩=>⟨by rw[<-r1.length];exact z1,?_⟩))
 have hf:H1 s1.heap.objs.size=none:=I1.hok.fresh (bA _)
 have I2:Inv X Aa σ H1 { s1 with heap:=s1.heap.push { cls:=.type "list",data:=.seq us.toArray } }:=I1.kept (t':=s1.toks) λb u e=>aQ _ e
 have I3:Inv X (Aa++[(s1.heap.objs.size,{ cls:=.type "list",data:=.seq us.toArray })]) σ H1 { s1 with heap:=s1.heap.push { cls:=.type "list",data:=.seq us.toArray } }:=I2.pins_of λp hp=>by
  rcases bF.mp hp with hp | hp
  ·exact I2.pin p (aE _ hp)
  ·rw [aI.mp hp]
   exact⟨bP _ rfl,hf,(cH I1.lt).symm,I1.nofs (bA _),λv e=>(nomatch e)⟩
 refine wpAny_with_toks (n:=1) p1' (wpAny_mono (hb _ _ σ H1 _ I3 q1) (λw s4 ⟨y,H4,I4,r4,i,v,e,hv,q4⟩ hp4=>?_) λ_ _ h _=>h)
 subst e
 obtain⟨t4,rfl⟩:=r4
 obtain⟨g1,_⟩:=I4.pin (s1.heap.objs.size,{ cls:=.type "list",data:=.seq us.toArray }) (aE _ (aE _ aA))
 obtain⟨u,hu,ru⟩:=r1.get hv
 have hi:i<xs.length:=by
  rcases Nat.lt_or_ge i xs.length with h | h
  ·exact h
  ·rw[List.getElem?_eq_none h]at hv;cases hv
 have hn:=kU
 exact PyProof.Rows.item_listR (show s4.heap.IsList s1.heap.objs.size us.toArray from⟨_,g1,rfl,_,rfl⟩) (Int.natCast_nonneg i) (by omega) (by rw[gF];simpa using hu) ⟨⟨v,H4,I4.unpinned,ru,q4⟩,k1 u (bN hu),hp4⟩ (hs _ _)
def aWo(K:cZ)(to:TE)(t:TA):TE:=λσ H Q=>to σ H λx H1=>tyV K "str" x H1/\t σ H1 λvs H2=>∃x0 y z,x=.str x0/\vs=[.str y,.str z,.int 1]/\(y == z)=false/\x0.length+z.length<=16777216/\∀x',x'.length<=x0.length+z.length->Q (.str x') H2
theorem aEj(ho:PE X o to)(ha:PA2 X (e::es) t)
  (A6:attributeBase o "replace" X.env (eval o X.env)=eval o X.env:=by rfl)
  (Cw:((backTo cpos (starEach (e :: es) X.env)).all (fun x => !x.1) && (backToKw cpos (keywordEach [] X.env)).all (fun x=>x.1.isSome)
   && decide ((e::es).length+([]:List Keyword).length+(if([]:List Keyword).isEmpty then 0 else 1)<30))=true:=by rfl)
  (Bc:(apos.endLine == cpos.line)=true:=by rfl) (hs:starEach (e::es) X.env=(false,eval e X.env)::starEach es X.env:=by rfl) (A5:(backTo cpos (starEach es X.env)).any (·.1)=false:=by rfl) :
  PE1 X (.Call (.Attribute o "replace" apos) (e::es) [] cpos) (aWo X.K to t):=by
 intro Aa s σ H Q I hp h
 refine wpAny_Call_method_late A6 Cw Bc rfl (wpAny_with_toks (n:=1) hp (wpAny_mono (ho Aa s σ H _ I h) (λv s1 ⟨x,H1,I1,r1,ty,q1⟩ Fe=>?_) λ_ _ h _=>h))
 obtain⟨h1,h2⟩:=yI I1 r1 ty
 refine⟨"str","str.replace",PySem.F.plainAttrs_str,PySem.F.slot_str_replace,PySem.F.type_str_replace,h1,h2,?_⟩
 have hA:=ha cpos Aa s1 σ H1 _ I1 Fe q1
 rw[hs]at hA ⊢
 refine Calls.callWith_builtin (by show(false||(backTo cpos (starEach es X.env)).any (·.1))=false;rw[A5]<;>rfl) (Calls.evalArgs_plain ?_)
 refine dQ hA λus s2 ⟨⟨vs,H2,I2,r2,x0,y,z,ex,ev,G5,hl,q2⟩,k2,p2⟩=>?_
 subst ex
 subst ev
 obtain⟨t0,rfl⟩:=r1
 cases r2 with
 |cons ra r2=>cases r2 with
  |cons rb r2=>cases r2 with
   |cons rc r2 =>
    cases r2
    obtain⟨ta,rfl⟩:=ra
    obtain⟨tb,rfl⟩:=rb
    obtain⟨tc,rfl⟩:=rc
    exact a6 (k2 _ aA y ta rfl) (k2 _ (aC _ aA) z tb rfl) G5 hl λx' t' k' Di=>⟨.str x',H2,I2.tok _,⟨_,rfl⟩,q2 x' Di⟩
end
end L2
namespace L2
open PySem PySem.Spec PyProof.Rows
theorem PE2.weak{X:Cx}{e:Expr}{t t':TE}(h:PE2 X e t)(w:∀σ H Q,t' σ H Q->t σ H Q):PE2 X e t':=λAa s σ H Q I hp q=>h Aa s σ H Q I hp (w σ H Q q)
theorem PE1.weak{X:Cx}{e:Expr}{t t':TE}(h:PE1 X e t)(w:∀σ H Q,t' σ H Q->t σ H Q):PE1 X e t':=λAa s σ H Q I hp q=>h Aa s σ H Q I hp (w σ H Q q)
theorem PS1.weak{X:Cx}{st:Stmt}{t t':TS}(h:PS1 X st t)(w:∀D σ H,t' D σ H->t D σ H):PS1 X st t':=λAa s σ H D I hp q=>h Aa s σ H D I hp (w D σ H q)
end L2
namespace Lf
open PySem L2
def c7(zs:List Str):TA:=λ_ H Q=>Q (zs.map V.str) H
def XE2(X:Cx)(Ex:ExT)(e:Expr)(t:XT):Prop:=∀F,[OkF X Ex F]->PE2 X e (tX F t)
def XE1(X:Cx)(Ex:ExT)(e:Expr)(t:XT):Prop:=∀F,[OkF X Ex F]->PE1 X e (tX F t)
def aZu(X:Cx)(Ex:ExT)(st:Stmt)(G:XS):Prop:=∀F,[OkF X Ex F]->PS1 X st (tXS F G)
def aZv(X:Cx)(Ex:ExT)(st:List Stmt)(G:XS):Prop:=∀F,[OkF X Ex F]->aUo X st (tXS F G)
section
variable{e o b:Expr}{es:List Expr}{to t tb:XT}{apos cpos pos p1 p2:Pos}{z y:Str}{zs:List Str}{j:Nat}{G K:XS}
theorem aIh:PA2 X [] (c7 []):=g9
theorem ib_(h:PA2 X es (c7 zs))(hs:starEach (.Constant (.str z) j pos::es) X.env=(false,eval (.Constant (.str z) j pos) X.env)::starEach es X.env:=by rfl):PA2 X (.Constant (.str z) j pos::es) (c7 (z::zs)):=ij_ g7 h hs
def aWd(zs:List Str)(tb:XT):XT:=λρ Q=>tb ρ λs ρ'=>∃(i:Nat) (z:Str),s.d=.int (i:Int)/\zs[i]? = some z/\Q (.tr (.str z)) ρ'
theorem aIg(ha:PA2 X es (c7 zs))(hl:zs.length<=1000000)(hb:XE X Ex b tb)(hs:jC b):XE2 X Ex (.Subscript (.List es p1) b pos) (aWd zs tb):=λF=>(aJw ha (hb F) hs).weak λσ H Q=>by
 rintro⟨ρ,fr,Qx,E,q,k⟩
 refine⟨by rw[aG];exact nzL hl (by rw[sizeLine_eq];decide),ρ,fr,_,E,q,λv s H' ρ' E' q'=>?_⟩
 obtain⟨i,z,hi,hz,q'⟩:=q'
 obtain⟨R,hx⟩:=E'.one
 rw[hi]at hx
 cases hx.int_eq
 exact⟨i,.str z,rfl,by rw[bV,hz];rfl,k _ _ H' ρ' (EOk.back E'.len (R.add (IsX.of_str z))) q'⟩
def aNc(y:Str)(to t:XT):XT:=λρ Q=>to ρ λo ρ1=>(∃x,o.d=.str x)/\t ρ1 λz ρ2=>∃x z',o.d=.str x/\z.d=.str z'/\(y == z')=false/\x.length+z'.length<=16777216/\∀x':Str,x'.length<=x.length+z'.length->Q (.tr (.str x')) ρ2
theorem aBq{j2:Nat}{p3:Pos}(ho:XE X Ex o to)(h:XE2 X Ex e t)
  (A6:attributeBase o "replace" X.env (eval o X.env)=eval o X.env:=by rfl)
  (Cw:((backTo cpos (starEach [.Constant (.str y) j pos,e,.Constant (.int 1) j2 p3] X.env)).all (fun x => !x.1) && (backToKw cpos (keywordEach [] X.env)).all (fun x=>x.1.isSome)
   && decide ([Expr.Constant (.str y) j pos,e,.Constant (.int 1) j2 p3].length+([]:List Keyword).length+(if([]:List Keyword).isEmpty then 0 else 1)<30))=true:=by rfl)
  (Bc:(apos.endLine == cpos.line)=true:=by rfl) (hs:starEach [.Constant (.str y) j pos,e,.Constant (.int 1) j2 p3] X.env=(false,eval (.Constant (.str y) j pos) X.env)::starEach [e,.Constant (.int 1) j2 p3] X.env:=by rfl) (Eb:starEach [e,.Constant (.int 1) j2 p3] X.env=(false,eval e X.env)::starEach [.Constant (.int 1) j2 p3] X.env:=by rfl) (hs3:starEach [.Constant (.int 1) j2 p3] X.env=(false,eval (.Constant (.int 1) j2 p3) X.env)::starEach [] X.env:=by rfl) (A5:(backTo cpos (starEach [e,.Constant (.int 1) j2 p3] X.env)).any (·.1)=false:=by rfl) :
  XE1 X Ex (.Call (.Attribute o "replace" apos) [.Constant (.str y) j pos,e,.Constant (.int 1) j2 p3] [] cpos) (aNc y to t):=λF =>
 (aEj (ho F) (ij_ g7 (ij_ (h F) (ij_ aJx g9 hs3) Eb) hs) A6 Cw Bc hs A5).weak fun σ H Q=>by
  rintro⟨ρ,fr,Qx,E,q,k⟩
  refine⟨ρ,fr,_,E,q,λv s H' ρ' E' q'=>?_⟩
  obtain⟨⟨x,hx⟩,q'⟩:=q'
  obtain⟨R,hd⟩:=E'.one
  rw[hx]at hd
  cases hd.str_eq
  refine⟨rfl,ρ',_,_,E'.drop,q',λu s2 H2 ρ2 E2 q2=>?_⟩
  obtain⟨x2,z',e1,e2,G5,hl,q2⟩:=q2
  rw[hx]at e1
  cases e1
  obtain⟨R2,C2⟩:=E2.one
  rw[e2]at C2
  cases C2.str_eq
  exact⟨x,y,z',rfl,rfl,G5,hl,λx' Di=>k _ _ H2 ρ2 (EOk.back E2.len (R2.add (IsX.of_str x'))) (q2 x' Di)⟩
theorem aHx(he:XE1 X Ex e t):aZu X Ex (.Return (some e) pos) (gW t):=λF=>(aJg (he F)).weak λD σ H=>by
 rintro⟨ρ,fr,d,E,q,k⟩
 exact⟨ρ,fr,_,E,q,λv s H' ρ' E' q'=>k.rt v s σ H' ρ' rfl E' q'⟩
theorem aBj{st:Stmt}(h:aZu X Ex st G):aZv X Ex [st] G:=λF=>aDw (h F)
theorem aPe{a:Expr}{ta:XT}{op:CmpOp}{r:R2}{g:G2}{c:Int}{sa sb:List Stmt}(ho:OpR X (compareOp op) r)(hx:OpX r g)(ha:XE X Ex a ta)(hm:behindInMarks op (.Constant (.int c) j p1)=false)(hA:aZv X Ex sa G)(hB:XSs X Ex sb K) :
  XSt X Ex (.If (.Compare a [op] [.Constant (.int c) j p1] p2) sa sb pos) (xIf (xB (xOp g ta (xC (.int c)))) G K):=λF=>(aQt (tb:=tX F (xC (.int c))) ho (ha F) (λσ H Q=>by
   rintro⟨ρ,fr,Qx,E,q,k⟩
   exact k _ _ H ρ (EOk.back E.len (E.rep.add (IsX.of_int c))) q) hm (hA F) (hB F)).weak λD σ H=>by
 rintro⟨ρ,fr,d,E,q,k⟩
 refine hg_ (lV hx) _ _ _ ⟨ρ,fr,_,E,q,λb H' ρ' E' q'=>?_⟩
 cases b with
 |true=>exact⟨ρ',fr,d,E',q',k⟩
 |false=>exact⟨ρ',fr,d,E',q',k⟩
end
def Sv.o? : Sv->Option Ow
 | .tr d=>some (.tr d)
 | .ow o=>some o
 |_=>none
def owR(os:List Ow)(xs:List V):List Rw:=(os.zip xs).map λp=>(.v (.ow p.1),some p.2)
section
variable{F:Fm}{P:List Rw}{H:Hp}{s:Sv}{x:Option V}{o:Ow}{p:Addr}{os:List Ow}{xs:List V}
theorem Rep.toOw(R:Rep F ((.v s,x)::P) H)(h:s.o? = some o):Rep F ((.v (.ow o),x)::P) H:=by
 cases s with
 |tr d =>
  cases h
  have e:dI (.v (.ow (.tr d)),x)=[]:=by simp only[dI,Ow.fp]
  obtain⟨v,rfl,hx⟩:=R.head
  exact R.tail.cons0 e ⟨v,rfl,by simp only[OwOk];exact hx⟩
 |ol l=>cases h
 |od l=>cases h
 |ow o'=>cases h;exact R
theorem ik_:∀{os:List Ow} {xs:List V},os.length=xs.length->bJ (owR os xs)=gZ os
 | [],[],_=>by simp only[owR,List.zip_nil_left,dA,bJ,List.flatMap_nil,gZ]
 | [],_::_,h=>by simp at h
 |_::_,[],h=>by simp at h
 |o::os,x::xs,h=>by
  show bJ ((.v (.ow o),some x)::owR os xs)=_
  rw[jK,ik_ (by simpa using h)]
  simp only[dI,gZ]
theorem uD{O:List Addr}{G H:Hp}:∀{os:List Ow} {xs:List V},os.length=xs.length->(∀r∈owR os xs,RowOk O G H r)->OwOks (hid O G) H os xs
 | [],[],_,_=>by simp only[OwOks]
 | [],_::_,h,_=>by simp at h
 |_::_,[],h,_=>by simp at h
 |o::os,x::xs,h,k=>by
  obtain⟨y,e,h1⟩:=k (.v (.ow o),some x) aA
  cases e
  simp only[OwOks]
  exact⟨x,xs,rfl,h1,uD (by simpa using h) λr hr=>k r (aC _ hr)⟩
theorem aOg{r:Rw}(h:r∈owR os xs):∃s,r.1=.v s:=by
 obtain⟨q,_,rfl⟩:=bX.mp h
 exact⟨_,rfl⟩
theorem Rep.join{A:List Rw}{s:Sv}{x:Option V}{ob:HO}(R:Rep F (A++P) H)(hp:H p=none)(hA:(dI (.v s,x)).Perm (p::bJ A))(hv:∀r∈A,∃s,r.1=.v s)(h:RowOk (dI (.v s,x)++bJ P) (F.vis (upd H p ob)) (upd H p ob) (.v s,x)):Rep F ((.v s,x)::P) (upd H p ob):=by
 have Aw:=R.not_own hp
 have hq:=R.fresh hp
 have Dm:(dI (.v s,x)++bJ P).Perm (p::bJ (A++P)):=by
  rw[xX]
  exact hA.append_right _
 refine⟨by rw[jK];exact Dm.nodup_iff.mpr (cE.mpr ⟨Aw,R.nd⟩),λr hr=>?_,λr hr a ha=>?_,λb o h1 h2=>?_,λb hb=>?_⟩
 ·rw [jK]
  rcases aF.mp hr with rfl | hr
  ·exact h
  ·have B7:r∈A ++ P:=aE _ hr
   exact(R.ok r B7).mono (.of λb u hb=>kW (λa ha=>Dm.mem_iff.mp ha) b u (ji_ hp hq b u hb)) λa ha=>dW λz=>Aw (z ▸ cw_ B7 ha)
 ·rcases aF.mp hr with rfl | hr
  ·rcases aF.mp (hA.mem_iff.mp ha) with rfl | ha
   ·exact hq
   ·obtain ⟨r,hr,e⟩:=fQ.mp ha
    have hf:=R.fr r (aK _ hr) a e
    obtain⟨s',es⟩:=hv r hr
    unfold FrOk at hf
    rw[es]at hf
    exact hf
  ·exact R.fr r (aE _ hr) a ha
 ·have:=R.kp b o h1 h2
  rw[dW λz=>by rw[z,hp]at this;cases this]
  exact this
 ·obtain ⟨u,hu⟩:=R.lv b hb
  exact⟨u,by rw[dW λz=>by rw[z,hp]at hu;cases hu];exact hu⟩
theorem Rep.bundleL(R:Rep F (owR os xs++P) H)(hl:os.length=xs.length)(hp:H p=none):Rep F ((.v (.ow (.ol p os)),some (.ref p))::P) (upd H p (.lst xs)):=by
 have e:dI (.v (.ow (.ol p os)),some (.ref p))=p::bJ (owR os xs):=by rw[ik_ hl];simp only[dI,Ow.fp]
 refine R.join hp (by rw[e]) (λr hr=>aOg hr) ?_
 rw[e]
 have Aw:=R.not_own hp
 have hq:=R.fresh hp
 refine⟨.ref p,rfl,?_⟩
 simp only[OwOk]
 refine⟨trivial,xs,bU,?_⟩
 have h1:=uD hl λr hr=>R.ok r (aK _ hr)
 refine OwOks.mono (.of λb u hb=>?_) os xs (λb hb=>dW λz=>?_) h1
 ·have:=ji_ hp hq (o:=.lst xs) b u hb
  rw[xX]at this
  exact this
 ·rw [ik_ hl |>.symm] at hb
  exact Aw (z ▸ (by rw[xX];exact aK _ hb))
end
section
variable{F:Fm}{P A:List Rw}{H H':Hp}{s:Sv}{x:Option V}{o:Ow}{p:Addr}{os:List Ow}{xs:List V}
theorem Rep.shift(R:Rep F (A++P) H)(hA:(dI (.v s,x)).Perm (bJ A))(hv:∀r∈A,∃s,r.1=.v s)(e:∀b,b∉bJ A->H' b=H b)(e2:∀b∈bJ A,∃o,H' b=some o)(h:RowOk (dI (.v s,x)++bJ P) (F.vis H') H' (.v s,x)):Rep F ((.v s,x)::P) H':=by
 have Dm:(dI (.v s,x)++bJ P).Perm (bJ (A++P)):=by
  rw[xX]
  exact hA.append_right _
 have hn:∀a∈bJ A,F.H0 a=none:=λa ha=>by
  obtain⟨r,hr,e⟩:=fQ.mp ha
  have hf:=R.fr r (aK _ hr) a e
  obtain⟨s',es⟩:=hv r hr
  unfold FrOk at hf
  rw[es]at hf
  exact hf
 have Bw:=R.nd
 rw[xX]at Bw
 refine⟨by rw[jK];exact Dm.nodup_iff.mpr R.nd,λr hr=>?_,λr hr a ha=>?_,λb o h1 h2=>?_,λb hb=>?_⟩
 ·rw [jK]
  rcases aF.mp hr with rfl | hr
  ·exact h
  ·have B7:r∈A ++ P:=aE _ hr
   refine(R.ok r B7).mono (.of λb u hb=>?_) λa ha=>e a λz=>(cA.mp Bw).2.2 a z a (cw_ hr ha) rfl
   have An:=aU.mp hb
   have hbA:b∉bJ A:=λz=>An.1 (by rw[xX];exact aK _ z)
   refine aU.mpr ⟨λz=>An.1 (Dm.mem_iff.mp z),?_⟩
   cases q:F.H0 b with
   |none=>exact(kH q).trans ((congrArg nf (e b hbA)).trans ((kH q).symm.trans An.2))
   |some w=>exact(jH q).trans ((jH q).symm.trans An.2)
 ·rcases aF.mp hr with rfl | hr
  ·exact hn a (hA.mem_iff.mp ha)
  ·exact R.fr r (aE _ hr) a ha
 ·rw [e b fun z=>by rw [hn b z] at h1; cases h1]
  exact R.kp b o h1 h2
 ·by_cases z:b∈bJ A
  ·exact e2 b z
  ·obtain ⟨u,hu⟩:=R.lv b hb
   exact⟨u,by rw[e b z];exact hu⟩
theorem Rep.bundleT(R:Rep F (owR os xs++P) H)(hl:os.length=xs.length)(hp:H p=none):Rep F ((.v (.ow (.ot os)),some (.ref p))::P) (upd H p (.tup xs)):=by
 have e:Same H (upd H p (.tup xs)):=ie_ hp _
 have Aw:=R.not_own hp
 have hq:=R.fresh hp
 have R1:=R.grow e
 have eA:dI (.v (.ow (.ot os)),some (.ref p))=bJ (owR os xs):=by rw[ik_ hl];simp only[dI,Ow.fp]
 refine R1.shift (by rw[eA]) (λr hr=>aOg hr) (λ_ _=>rfl) (λb hb=>R1.own_in (by rw[xX];exact aK _ hb)) ?_
 rw[eA]
 refine⟨.ref p,rfl,?_⟩
 simp only[OwOk]
 have h1:=uD hl λr hr=>R1.ok r (aK _ hr)
 rw[xX]at h1
 refine⟨p,xs,rfl,aU.mpr ⟨λz=>Aw (by rw[xX];exact z),(kH hq).trans (by rw[bU];rfl)⟩,h1⟩
theorem OwOkk.keys{G H:Hp}:∀{l:List (Key×Ow)} {ws:List (Key×V)},OwOkk G H l ws->l.map (·.1)=ws.map (·.1)
 | [],_,h=>by simp only[OwOkk]at h;rw[h];rfl
 |k::r,_,h=>by
  simp only[OwOkk]at h
  obtain⟨w,wr,rfl,h1,h2⟩:=h
  rw[bB,bB,OwOkk.keys h2,h1.1]
theorem OwOkk.snoc{G H:Hp}{k:Key}{v:V}(ho:OwOk G H o v):∀{l:List (Key×Ow)} {ws:List (Key×V)},OwOkk G H l ws->OwOkk G H (l++[(k,o)]) (ws++[(k,v)])
 | [],_,h=>by simp only[OwOkk]at h;rw[h];simp only[aS,OwOkk];exact⟨_,_,rfl,⟨rfl,ho⟩,rfl⟩
 |p::r,_,h=>by
  simp only[OwOkk]at h
  obtain⟨w,wr,rfl,h1,h2⟩:=h
  simp only[aP,OwOkk]
  exact⟨w,_,rfl,h1,OwOkk.snoc ho h2⟩
theorem rF{k:Key}:∀{l:List (Key×Ow)},iP (l++[(k,o)])=iP l++o.fp
 | []=>by simp only[aS,iP,aV]
 |p::r=>by simp only[aP,iP,rF,aL]
theorem Rep.putO{a:Addr}{l:List (Key×Ow)}{k:Key}{v:V}(R:Rep F ((.v (.ow o),some v)::(.v (.ow (.od a l)),x)::P) H)(hk:k∉l.map (·.1)):x=some (.ref a)/\∃ws,H a=some (.dK ws)/\ws.length=l.length/\Rep F ((.v (.ow (.od a (l++[(k,o)]))),x)::P) (upd H a (.dK (kC ws k v))):=by
 obtain⟨y,rfl,h1⟩:=R.ok _ (aC _ aA)
 obtain⟨y2,e2,h2⟩:=R.ok _ aA
 cases e2
 simp only[OwOk]at h1
 obtain⟨rfl,ws,h3,h4⟩:=h1
 have Gx:=h4.keys
 have Ct:kC ws k v=ws++[(k,v)]:=by
  unfold kC
  rw[if_neg]
  intro z
  obtain⟨q,hq,e⟩:=List.any_eq_true.mp z
  exact hk (by rw[Gx];exact bX.mpr ⟨q,hq,of_decide_eq_true e⟩)
 refine⟨rfl,ws,h3,by have:=congrArg List.length Gx;rw[aG,aG]at this;exact this.symm,?_⟩
 rw[Ct]
 have eo:bJ [((.v (.ow o),some v):Rw),(.v (.ow (.od a l)),some (.ref a))]=o.fp++(a::iP l):=by
  rw[jK,jK]
  simp only[dI,Ow.fp,bJ,List.flatMap_nil,aV]
 have en:dI (.v (.ow (.od a (l++[(k,o)]))),some (.ref a))=a::(iP l++o.fp):=by simp only[dI,Ow.fp,rF]
 have Bw:=R.nd
 have R':Rep F ([((.v (.ow o),some v):Rw),(.v (.ow (.od a l)),some (.ref a))]++P) H:=R
 have Jy:a∉o.fp++iP l:=by
  have hn:=R'.nd
  rw[xX,eo]at hn
  have Gu:=(cA.mp hn).1
  have:=(eO (a:=a) (l₁:=o.fp) (l₂:=iP l)).nodup_iff.mp Gu
  exact(cE.mp this).1
 refine R'.shift (A:=[(.v (.ow o),some v),(.v (.ow (.od a l)),some (.ref a))]) ?_ ?_ (λb hb=>?_) (λb hb=>?_) ?_
 ·rw [en,eo]
  exact(cY.cons a).trans eO.symm
 ·intro r hr
  rcases aF.mp hr with rfl | hr
  ·exact⟨_,rfl⟩
  ·rw[aI.mp hr];exact⟨_,rfl⟩
 ·refine dW fun z=>hb ?_
  rw[eo,z]
  exact aE _ aA
 ·by_cases z:b=a
  ·rw[z];exact⟨_,bU⟩
  ·obtain ⟨u,hu⟩:=R'.own_in (by rw [xX]; exact aK _ hb)
   exact⟨u,by rw[dW z];exact hu⟩
 ·rw [en]
  refine⟨.ref a,rfl,?_⟩
  simp only[OwOk]
  refine⟨trivial,_,bU,?_⟩
  have hs:∀b u,hid (bJ ([((.v (.ow o),some v):Rw),(.v (.ow (.od a l)),some (.ref a))]++P)) (F.vis H) b=some u->hid (a::(iP l++o.fp)++bJ P) (F.vis (upd H a (.dK (ws++[(k,v)])))) b=some u:=λb u hb=>by
   have An:=aU.mp hb
   rw[xX,eo]at An
   have Fj:b≠a:=λz=>An.1 (by rw[z];exact aK _ (aE _ aA))
   refine aU.mpr ⟨λz=>An.1 ?_,?_⟩
   ·rcases bF.mp z with z | z
    ·refine aK _ ?_
     rcases aF.mp z with z | z
     ·rw[z];exact aE _ aA
     ·rcases bF.mp z with z | z
      ·exact aE _ (aC _ z)
      ·exact aK _ z
    ·exact aE _ z
   ·cases q:F.H0 b with
    |none=>exact(kH q).trans ((congrArg nf (dW Fj)).trans ((kH q).symm.trans An.2))
    |some w=>exact(jH q).trans ((jH q).symm.trans An.2)
  have k1:∀b∈o.fp,upd H a (.dK (ws++[(k,v)])) b=H b:=λb hb=>dW λz=>Jy (by rw[<-z];exact aK _ hb)
  have k2:∀b∈iP l,upd H a (.dK (ws++[(k,v)])) b=H b:=λb hb=>dW λz=>Jy (by rw[<-z];exact aE _ hb)
  exact OwOkk.snoc (OwOk.mono (.of hs) o v k1 h2) (OwOkk.mono (.of hs) l ws k2 h4)
end
def aPo:XT:=λρ Q=>∀a,Q (.ow (.od a [])) ρ
def aPn(i:Nat)(tk tv:XT):XS:=λρ D=>tv ρ λs ρ1=>(∃a l,ρ1[i]? = some (.v (.ow (.od a l))))/\tk ρ1 λk ρ2=>∃a l key o,ρ2[i]? = some (.v (.ow (.od a l)))/\zJ k.d=some key/\s.o? = some o/\key∉l.map (·.1)/\l.length<1000000/\D.nx (ρ2.set i (.v (.ow (.od a (l++[(key,o)])))))
section
variable{F:Fm}{i:Nat}{tk tv:XT}{es:List Expr}{u:XA}{pos:Pos}
theorem aBo:XE X Ex (.Dict [] [] pos) aPo:=λF=>(wH (X:=X)).weak λσ H Q=>by
 rintro⟨ρ,fr,Qx,E,t,k⟩
 refine λp hp=>k _ (.ow (.od p [])) _ ρ (EOk.back E.len ?_) (t p)
 have R:=E.rep.newD hp All2.nil
 have R':Rep F ([((.v (.od []),some (V.ref p)):Rw)]++(ρ.zip σ++fr)) (upd H p (.dK [])):=R
 have e1:dI (.v (.ow (.od p [])),some (V.ref p))=[p]:=by simp only[dI,Ow.fp,iP]
 have e2:bJ [((.v (.od []),some (V.ref p)):Rw)]=[p]:=by rw[iO (a:=p) rfl];rfl
 refine R'.shift (A:=[(.v (.od []),some (V.ref p))]) (by rw[e1,e2]) (λr hr=>by rw[aI.mp hr];exact⟨_,rfl⟩) (λ_ _=>rfl) (λb hb=>⟨.dK [],by rw[e2]at hb;rw[aI.mp hb,bU]⟩) ⟨.ref p,rfl,?_⟩
 simp only[OwOk,OwOkk]
 exact⟨trivial,[],bU,rfl⟩
theorem aCq:∀D σ H,tXS F (aPn i tk tv) D σ H->aDf (fN i) (tX F tk) (tX F tv) D σ H:=by
 rintro D σ H ⟨ρ,fr,d,E,q,k⟩
 refine⟨ρ,fr,_,E,q,λy s H' ρ' E' q'=>?_⟩
 obtain⟨⟨a0,l0,h0⟩,q'⟩:=q'
 obtain⟨v0,G8,Hz,R0⟩:=mD E' h0
 obtain⟨y0,rfl,Jd⟩:=R0.ok _ aA
 simp only[OwOk]at Jd
 obtain⟨rfl,_⟩:=Jd
 refine⟨.ref a0,G8,ρ',_,_,E',q',λz s2 H2 ρ2 E2 q2=>?_⟩
 obtain⟨a,l,key,o,hb,hk,C8,hnk,Fv,q2⟩:=q2
 obtain⟨R,Go,C2⟩:=E2.two
 cases mW C2 hk
 have E3:=E2.drop
 have R3:=E3.front.toOw C8
 obtain⟨v1,G7⟩:=uU E3.len hb
 have Lv:i<ρ2.length:=(aY.mp hb).1
 have R4:Rep F ((.v (.ow o),some y)::(.v (.ow (.od a l)),v1)::((ρ2.zip σ).eraseIdx i++fr)) H2:=R3.perm (((co_ hb G7).append_right fr).cons _)
 obtain⟨rfl,ws,h3,h4,R5⟩:=R4.putO hnk
 rw[G8]at G7
 cases G7
 refine⟨a0,_,rfl,DPut.k h3 (by rw[h4];have:=fJ;omega),k.nx σ _ _ rfl ⟨by rw[bG];exact E3.len,?_⟩ q2⟩
 exact R5.perm (((p7 E3.len Lv G8).append_right fr).symm)
def aVw(u:XA):XT:=λρ Q=>u ρ λss ρ'=>∃os,ss.map Sv.o? = os.map some/\ss.length<=1000000/\Q (.ow (.ot os)) ρ'
theorem Rep.tmpsO{P:List Rw}{H:Hp}:∀{ss:List Sv} {os:List Ow} {vs:List V},ss.length=vs.length->ss.map Sv.o? = os.map some->Rep F (iB ss vs++P) H->Rep F (owR os vs++P) H
 | [],[],[],_,_,R=>R
 | [],[],_::_,h,_,_=>by simp at h
 | [],_::_,_,_,h,_=>by simp at h
 |_::_,[],_,_,h,_=>by simp at h
 |_::_,_::_,[],h,_,_=>by simp at h
 |s::ss,o::os,v::vs,h,e,R=>by
  have e':=List.cons.inj e
  have R1:Rep F ((.v s,some v)::(iB ss vs++P)) H:=R
  have R2:=R1.toOw e'.1
  have R3:Rep F (iB ss vs++((.v (.ow o),some v)::P)) H:=R2.perm qC.symm
  have R4:=Rep.tmpsO (by simpa using h) e'.2 R3
  exact R4.perm qC
theorem aHz{j:Nat}(h:XAs X Ex es u):XE X Ex (.Tuple es j pos) (aVw u):=λF=>(yX (h F)).weak λσ H Q=>by
 rintro⟨ρ,fr,Qx,E,t,k⟩
 refine⟨ρ,fr,_,E,t,λvs ss H2 ρ2 hl E2 q2=>?_⟩
 obtain⟨os,ho,hz,q2⟩:=q2
 refine⟨by have:=fJ;omega,λp hp=>?_⟩
 have R1:Rep F (iB ss vs++(ρ2.zip σ++fr)) H2:=E2.rep.perm (List.perm_append_comm_assoc _ _ _)
 have Do:os.length=vs.length:=by have:=congrArg List.length ho;rw[aG,aG]at this;omega
 exact k _ _ _ ρ2 (EOk.back E2.len ((Rep.tmpsO hl ho R1).bundleT Do hp)) q2
end
theorem strsAre_of:∀{ks:List Str} {us:List Value},Vals (ks.map V.str) us->PyProof.Rows.StrsAre us ks
 | [],us,h=>by cases h;exact .nil
 |k::ks,us,h=>by
  cases h with
  |cons r t =>
   obtain⟨tk,rfl⟩:=r
   exact .cons k tk (strsAre_of t)
section
variable{X:Cx}{Ex:ExT}
def cR(n:Int):Str:=Str.ofString (toString n)
theorem lQ:CallR X (.type "str") (λxs H Q=>∃n:Int,xs=[.int n]/\0<=n/\n<18446744073709551616/\Q (.str (cR n)) H):=by
 intro Aa s σ H xs us Q I r h
 obtain⟨n,rfl,h0,h1,q⟩:=h
 obtain⟨u,rfl,rx⟩:=gL r
 obtain⟨t,rfl⟩:=rx
 exact P.str_of_int (PyProof.Rows.shown_abs (N:=18446744073709551616) (by rw[if_neg (by omega)];exact h1) (by decide +kernel)) ⟨.str (cR n),H,I.tok _,⟨_,rfl⟩,q⟩
end
abbrev FsO:=List (Str×Ow)
abbrev GO:=Addr->FsO->List Dx->(Sv->FsO->Prop)->Prop
def spO(g:GO):Sp:=λvs H Q _=>∃(F:Fm) (C a dx:Addr) (l:FsO) (vr:List V) (ds:List Dx) (Qx:Sv->FsO->Prop),vs=.ref a::vr/\F.H0=H/\F.B=(Ow.oi C a dx l).fp/\ds.length=vr.length/\Rep F ((.bo (.oi C a dx l),some (.ref a))::iB (ds.map .tr) vr) H/\g C l ds Qx /\
 ∀s v l' H',Rep F [(.bo (.oi C a dx l'),some (.ref a)),(.v s,some v)] H'->Qx s l'->Q v H'
def i6:Sl->Option (Addr×Addr×Addr×FsO×(Ow->Sl))
 | .bo (.oi C a dx l)=>some (C,a,dx,l,.bo)
 | .v (.ow (.oi C a dx l))=>some (C,a,dx,l,λo=>.v (.ow o))
 |_=>none
abbrev jG(ρ:En)(i:Nat):Option (Addr×Addr×Addr×FsO×(Ow->Sl)):=(ρ[i]?).bind i6
def bBn(g:GO)(i:Nat)(u:XA):XT:=λρ Q=>(jG ρ i).isSome=true/\u ρ λss ρ'=>match jG ρ' i with
 |some (C,a,dx,l,f)=>g C l (ss.map Sv.d) λs l'=>Q s (ρ'.set i (f (.oi C a dx l')))
 |none=>False
def aPl(C0:Addr)(m:Str)(g:GO)(i:Nat)(u:XA):XT:=λρ Q=>(match jG ρ i with
 |some (C,_,_,l,_)=>C=C0/\l.lookup m=none
 |none=>False)/\u ρ λss ρ'=>match jG ρ' i with
 |some (C,a,dx,l,f)=>g C l (ss.map Sv.d) λs l'=>Q s (ρ'.set i (f (.oi C a dx l')))
 |none=>False
def aWe(C0:Addr)(f:Str)(i:Nat):XT:=λρ Q=>match jG ρ i with
 |some (C,_,_,l,_)=>C=C0/\(match l.lookup f with
  |some (.tr d)=>Q (.tr d) ρ
  |_=>False)
 |none=>False
def iG(f:Str)(o:Ow):FsO->FsO
 | []=>[(f,o)]
 |(g,x)::r=>if g=f then(g,o)::r else(g,x)::iG f o r
def aVx(C0:Addr)(f:Str)(i:Nat)(t:XT):XS:=λρ D=>t ρ λs ρ'=>match jG ρ' i with
 |some (C,a,dx,l,g)=>C=C0/\l.length<1000/\(∀o,l.lookup f=some o->∃d,o=.tr d)/\D.nx (ρ'.set i (g (.oi C a dx (iG f (.tr s.d) l))))
 |none=>False
section
variable{F F':Fm}{P A':List Rw}{H H':Hp}{r:Rw}{sl:Sl}{x:Option V}{C a dx:Addr}{l l':FsO}{f:Ow->Sl}
theorem Rep.back(R:Rep F (r::P) H)(h0:F'.H0=H)(hB:F'.B=dI r)(hS:F'.Hs=hid (bJ (r::P)) (F.vis H))(R':Rep F' A' H')(hv:∀q∈A',(∃o,q.1=.bo o)\/∃s,q.1=.v s):Rep F (A'++P) H':=by
 have hr:∀b∈dI r,b∈F.B\/F.H0 b=none:=λb hb=>(R.fr r aA b hb).or
 have nd:=R.nd
 rw[jK]at nd
 have Ge:∀b∈dI r,b∉bJ P:=λb h1 h2=>(cA.mp nd).2.2 b h1 b h2 rfl
 have B6:∀b∈bJ A',b∈dI r\/H b=none:=λb hb=>by
  obtain⟨q,hq,e⟩:=fQ.mp hb
  have:=(R'.fr q hq b e).or
  rw[hB,h0]at this
  exact this
 have Ec:∀b u,b∉dI r->H b=some u->H' b=some u:=λb u h1 h2=>R'.kp b u (by rw[h0];exact h2) (by rw[hB];exact h1)
 have Dj:∀b u,b∉dI r->F.vis H b=some u->F.vis H' b=some u:=λb u h1 h2=>by
  cases q:F.H0 b with
  |none=>exact(kH q).trans (mS ((kH q).symm.trans h2) λo h=>Ec b o h1 h)
  |some w=>exact(jH q).trans ((jH q).symm.trans h2)
 have hPP:∀b∈bJ P,b∉bJ A':=λb h1 h2=>by
  rcases B6 b h2 with h | h
  ·exact Ge b h h1
  ·exact R.not_own h (by rw[jK];exact aE _ h1)
 refine⟨?_,λq hq=>?_,λq hq b hb=>?_,λb u h1 h2=>?_,λb hb=>?_⟩
 ·rw [xX]
  exact cA.mpr ⟨R'.nd,(cA.mp nd).2.1,λa h1 b h2 z=>hPP b h2 (z ▸ h1)⟩
 ·rw [xX]
  rcases bF.mp hq with hq | hq
  ·refine (R'.ok q hq).mono (.of fun b u hb => ?_) fun _ _=>rfl
   obtain⟨k1,k2⟩:=aU.mp hb
   cases z:H b with
   |none =>
    have k2:=(kH (by rw[h0];exact z)).symm.trans k2
    refine aU.mpr ⟨λw=>(bF.mp w).elim k1 λw=>R.not_own z (by rw[jK];exact aE _ w),(kH (R.fresh z)).trans k2⟩
   |some w =>
    have k2:=(jH (by rw[h0];exact z)).symm.trans k2
    rw[hS]at k2
    obtain⟨k3,k4⟩:=aU.mp k2
    rw[jK]at k3
    exact aU.mpr ⟨λw=>(bF.mp w).elim k1 λw=>k3 (aE _ w),Dj b u (λw=>k3 (aK _ w)) k4⟩
  ·refine (R.ok q (aC _ hq)).mono (.of fun b u hb => ?_) fun b hb => ?_
   ·obtain ⟨k3,k4⟩:=aU.mp hb
    rw[jK]at k3
    have k5:b∉dI r:=λw=>k3 (aK _ w)
    refine aU.mpr ⟨λw=>(bF.mp w).elim (λw=>?_) λw=>k3 (aE _ w),Dj b u k5 k4⟩
    rcases B6 b w with h | h
    ·exact k5 h
    ·have:=R.vis _ _ k4;rw[h]at this;cases this
   ·have hbP:=cw_ hq hb
    obtain⟨u,hu⟩:=R.own_in (cw_ (aC _ hq) hb)
    rw[hu,Ec b u (λw=>Ge b w hbP) hu]
 ·rcases bF.mp hq with hq | hq
  ·have hf:=R'.fr q hq b hb
   obtain⟨q1,q2⟩:=q
   rcases hv _ hq with⟨o,e⟩ | ⟨s,e⟩
   ·cases (show q1=Sl.bo o from e)
    have hf:b∈F'.B\/F'.H0 b=none:=hf
    rw[hB,h0]at hf
    rcases hf with h | h
    ·exact hr b h
    ·exact .inr (R.fresh h)
   ·cases (show q1=Sl.v s from e)
    have hf:F'.H0 b=none:=hf
    rw[h0]at hf
    exact R.fresh hf
  ·exact R.fr q (aC _ hq) b hb
 ·by_cases z:b∈dI r
  ·rcases hr b z with h | h
   ·exact absurd h h2
   ·rw[h]at h1;cases h1
  ·exact Ec b u z (R.kp b u h1 h2)
 ·by_cases z:b∈dI r
  ·exact R'.lv b (by rw[hB];exact z)
  ·obtain ⟨u,hu⟩:=R.lv b hb
   exact⟨u,Ec b u z hu⟩
theorem Rep.boOw{o:Ow}(R:Rep F ((.bo o,x)::P) H)(h:∀b∈o.fp,F.H0 b=none):Rep F ((.v (.ow o),x)::P) H:=by
 have e:bJ ((.v (.ow o),x)::P)=bJ ((.bo o,x)::P):=by rw[jK,jK];rfl
 refine⟨by rw[e];exact R.nd,λr hr=>?_,λr hr b hb=>?_,R.kp,R.lv⟩
 ·rw [e]
  rcases aF.mp hr with rfl | hr
  ·exact R.ok (.bo o,x) aA
  ·exact R.ok r (aC _ hr)
 ·rcases aF.mp hr with rfl | hr
  ·exact h b hb
  ·exact R.fr r (aC _ hr) b hb
theorem dq_(h:i6 sl=some (C,a,dx,l,f))(R:Rep F ((sl,x)::P) H):x=some (.ref a)/\dI (sl,x)=(Ow.oi C a dx l).fp/\OwOk (hid (bJ ((sl,x)::P)) (F.vis H)) H (.oi C a dx l) (.ref a) /\
  ((sl=.bo (.oi C a dx l)/\f=.bo)\/(sl=.v (.ow (.oi C a dx l))/\f=λo=>.v (.ow o))):=by
 match sl,h with
 | .bo (.oi C a dx l),h =>
  cases h
  obtain⟨v,e,h2⟩:=R.ok _ aA
  have e2:=h2
  simp only[OwOk]at e2
  obtain⟨rfl,_⟩:=e2
  subst e
  exact⟨rfl,rfl,h2,.inl ⟨rfl,rfl⟩⟩
 | .v (.ow (.oi C a dx l)),h =>
  cases h
  obtain⟨v,e,h2⟩:=R.ok _ aA
  have e2:=h2
  simp only[OwOk]at e2
  obtain⟨rfl,_⟩:=e2
  subst e
  exact⟨rfl,rfl,h2,.inr ⟨rfl,rfl⟩⟩
theorem OwOk.ins(h:OwOk (hid (bJ P) (F.vis H)) H' (.oi C a dx l) (.ref a)):∃ws,H' a=some (.ins C dx ws)/\H' dx=some (.own a)/\OwOkf (hid (bJ P) (F.vis H)) H' l ws:=by
 simp only[OwOk]at h
 obtain⟨_,ws,h1,h2,h3⟩:=h
 exact⟨ws,h1,h2,h3⟩
theorem Rep.lend(h:i6 sl=some (C,a,dx,l,f))(R:Rep F ((sl,x)::P) H):∃F':Fm,F'.H0=H/\F'.B=(Ow.oi C a dx l).fp/\F'.Hs=hid (bJ ((sl,x)::P)) (F.vis H)/\Rep F' [(.bo (.oi C a dx l),some (.ref a))] H /\
  ∀{s:Sv} {v:V} {l':FsO} {H':Hp},Rep F' [(.bo (.oi C a dx l'),some (.ref a)),(.v s,some v)] H'->Rep F ((.v s,some v)::(f (.oi C a dx l'),x)::P) H':=by
 obtain⟨rfl,hA,hO,hf⟩:=dq_ h R
 have Ci:∀b∈(Ow.oi C a dx l).fp,b∈bJ ((sl,some (.ref a))::P):=λb hb=>by rw[jK,hA];exact aK _ hb
 have nb:∀b∈(Ow.oi C a dx l).fp,hid (bJ ((sl,some (.ref a))::P)) (F.vis H) b=none:=λb hb=>by unfold hid;rw[if_pos (Ci b hb)]
 have ib:∀b∈(Ow.oi C a dx l).fp,∃o,H b=some o:=λb hb=>R.own_in (Ci b hb)
 refine⟨⟨H,hid (bJ ((sl,some (.ref a))::P)) (F.vis H),(Ow.oi C a dx l).fp,R.hv,nb,ib⟩,rfl,rfl,rfl,?_,λ{s v l' H'} R'=>?_⟩
 ·have e:bJ [((Sl.bo (.oi C a dx l),some (V.ref a)):Rw)]=(Ow.oi C a dx l).fp:=by rw [jK]; exact aV _
  refine⟨?_,λr hr=>?_,λr hr b hb=>?_,λb o hb _=>hb,ib⟩
  ·rw [e,← hA]
   have:=R.nd
   rw[jK]at this
   exact(cA.mp this).1
  ·rw [aI.mp hr,e]
   refine⟨_,rfl,OwOk.mono (.of λb u hb=>?_) _ _ (λ_ _=>rfl) hO⟩
   have An:=aU.mp hb
   exact aU.mpr ⟨λz=>An.1 (Ci b z),(jH (R.hv _ _ hb)).trans hb⟩
  ·rw [aI.mp hr] at hb ⊢
   exact .inl hb
 ·have R2:=R.back (F':=⟨H,hid (bJ ((sl,some (.ref a)) :: P)) (F.vis H),(Ow.oi C a dx l).fp,R.hv,nb,ib⟩) rfl hA.symm rfl R' fun q hq=>by
   rcases aF.mp hq with rfl | hq
   ·exact .inl ⟨_,rfl⟩
   ·rw[aI.mp hq];exact .inr ⟨_,rfl⟩
  rcases hf with⟨e1,rfl⟩ | ⟨e1,rfl⟩
  ·exact R2.perm (.swap _ _ _)
  ·refine Rep.perm (R2.boOw fun b hb => ?_) (.swap _ _ _)
   have C7:b∈(Ow.oi C a dx l).fp\/H b=none:=R'.fr _ aA b hb
   rcases C7 with hb | hb
   ·have:=R.fr _ aA b (by rw [hA]; exact hb)
    rw[e1]at this
    exact this
   ·exact R.fresh hb
theorem OwOkf.look{G:Hp}{f:Str}{o:Ow}:∀{l:FsO} {ws:List (Str×V)},OwOkf G H l ws->l.lookup f=some o->∃v,ws.lookup f=some v/\OwOk G H o v
 | [],_,_,e=>by simp at e
 |(g,y)::r,ws,h,e=>by
  simp only[OwOkf]at h
  obtain⟨w,wr,rfl,⟨h1,h2⟩,h3⟩:=h
  obtain⟨w1,w2⟩:=w
  cases(show g=w1 from h1)
  by_cases z:f=g
  ·subst z
   rw[List.lookup_cons_self]at e ⊢
   cases e
   exact⟨w2,rfl,h2⟩
  ·have hz:(f == g)=false:=by simpa using z
   rw[bW,hz]at e ⊢
   exact OwOkf.look h3 e
theorem OwOkf.miss{G:Hp}{f:Str}:∀{l:FsO} {ws:List (Str×V)},OwOkf G H l ws->l.lookup f=none->ws.lookup f=none
 | [],_,h,_=>by simp only[OwOkf]at h;rw[h];rfl
 |(g,y)::r,ws,h,e=>by
  simp only[OwOkf]at h
  obtain⟨w,wr,rfl,⟨h1,h2⟩,h3⟩:=h
  obtain⟨w1,w2⟩:=w
  cases(show g=w1 from h1)
  by_cases z:f=g
  ·subst z
   rw[List.lookup_cons_self]at e
   cases e
  ·have hz:(f == g)=false:=by simpa using z
   rw[bW,hz]at e ⊢
   exact OwOkf.miss h3 e
theorem OwOkf.len{G:Hp}:∀{l:FsO} {ws:List (Str×V)},OwOkf G H l ws->ws.length=l.length
 | [],_,h=>by simp only[OwOkf]at h;rw[h];rfl
 |(g,y)::r,ws,h=>by
  simp only[OwOkf]at h
  obtain⟨w,wr,rfl,_,h3⟩:=h
  rw[aD,aD,OwOkf.len h3]
theorem OwOkf.put{G:Hp}{f:Str}{d:Dx}{v:V}(hd:IsX G d v):∀{l:FsO} {ws:List (Str×V)},OwOkf G H l ws->OwOkf G H (iG f (.tr d) l) (iC f v ws)
 | [],_,h=>by
  simp only[OwOkf]at h
  subst h
  simp only[iG,iC,OwOkf,OwOk]
  exact⟨_,_,rfl,⟨rfl,hd⟩,rfl⟩
 |(g,y)::r,ws,h=>by
  simp only[OwOkf]at h
  obtain⟨w,wr,rfl,⟨h1,h2⟩,h3⟩:=h
  obtain⟨w1,w2⟩:=w
  cases(show g=w1 from h1)
  by_cases z:g=f
  ·simp only [iG,iC,if_pos z,OwOkf,OwOk]
   exact⟨_,_,rfl,⟨rfl,hd⟩,h3⟩
  ·simp only [iG,iC,if_neg z,OwOkf]
   exact⟨_,_,rfl,⟨rfl,h2⟩,OwOkf.put hd h3⟩
theorem oP{f:Str}{d:Dx}:∀{l:FsO},(∀o,l.lookup f=some o->∃d,o=.tr d)->kD (iG f (.tr d) l)=kD l
 | [],_=>by simp only[iG,kD,Ow.fp,aV]
 |(g,y)::r,h=>by
  by_cases z:g=f
  ·subst z
   obtain⟨d',rfl⟩:=h y List.lookup_cons_self
   simp only[iG,if_pos,kD,Ow.fp]
  ·have hz:(f == g)=false:=by simpa using fun e=>z e.symm
   simp only[iG,if_neg z,kD]
   rw[oP λo ho=>h o (by rw[bW,hz];exact ho)]
theorem Rep.setF{fl:Str}{d:Dx}{v:V}{ws:List (Str×V)}(h:i6 sl=some (C,a,dx,l,f))(R:Rep F ((sl,x)::P) H)(hn:∀o,l.lookup fl=some o->∃d,o=.tr d)(hd:IsX (hid (bJ ((sl,x)::P)) (F.vis H)) d v)(hw:H a=some (.ins C dx ws)) :
  Rep F ((f (.oi C a dx (iG fl (.tr d) l)),x)::P) (upd H a (.ins C dx (iC fl v ws))):=by
 obtain⟨F',h0,hB,hS,R1,bk⟩:=R.lend h
 obtain⟨rfl,hA,hO,hf⟩:=dq_ h R
 obtain⟨ws',h1,h2,h3⟩:=OwOk.ins hO
 rw[hw]at h1
 cases h1
 have E6:(Ow.oi C a dx (iG fl (.tr d) l)).fp=(Ow.oi C a dx l).fp:=by simp only[Ow.fp,oP hn]
 have Bw:=R1.nd
 have e1:bJ [((Sl.bo (.oi C a dx l),some (V.ref a)):Rw)]=(Ow.oi C a dx l).fp:=by rw[jK];exact aV _
 have e2:bJ [((Sl.bo (.oi C a dx (iG fl (.tr d) l)),some (V.ref a)):Rw)]=(Ow.oi C a dx l).fp:=by rw[jK,<-E6];exact aV _
 rw[e1]at Bw
 simp only[Ow.fp]at Bw
 have Fu:=(cE.mp Bw).1
 have Jo:dx≠a:=λz=>Fu (by rw[z];exact aA)
 have hff:∀b∈kD l,b≠a:=λb hb z=>Fu (aC _ (z ▸ hb))
 have haB:a∈F'.B:=by rw[hB];simp only[Ow.fp];exact aA
 have Ci:∀b∈(Ow.oi C a dx l).fp,b∈bJ ((sl,some (.ref a))::P):=λb hb=>by rw[jK,hA];exact aK _ hb
 have R2:Rep F' [(.bo (.oi C a dx (iG fl (.tr d) l)),some (.ref a))] (upd H a (.ins C dx (iC fl v ws))):=by
  refine⟨by rw[e2,<-e1];exact R1.nd,λr hr=>?_,λr hr b hb=>?_,λb o hb Fk=>?_,λb hb=>?_⟩
  ·rw [aI.mp hr,e2]
   refine⟨_,rfl,?_⟩
   simp only[OwOk]
   refine⟨trivial,_,bU,by rw[dW Jo];exact h2,?_⟩
   refine OwOkf.mono (.of λb u hb=>?_) _ _ (λb hb=>dW (hff b (by rw[oP hn]at hb;exact hb))) (OwOkf.put hd h3)
   have An:=aU.mp hb
   exact aU.mpr ⟨λz=>An.1 (Ci b z),(jH (by rw[h0];exact R.hv _ _ hb)).trans (by rw[hS];exact hb)⟩
  ·rw [aI.mp hr] at hb ⊢
   refine .inl ?_
   rw[hB,<-E6]
   exact hb
  ·have Fj:b≠a:=fun z=>Fk (by rw [z]; exact haB)
   rw[dW Fj]
   rw[h0]at hb
   exact hb
  ·by_cases z:b=a
   ·exact⟨_,by rw[z];exact bU⟩
   ·rw [dW z]
    obtain⟨o,ho⟩:=F'.ib b hb
    rw[h0]at ho
    exact⟨o,ho⟩
 have R3:=bk (s:=.tr .non) (v:=.non) (Rep.perm (R2.add (d:=.non) (v:=.non) IsX.of_non) (.swap _ _ _))
 exact R3.tail
end
theorem ih_{F:Fm}{H:Hp}:∀{ds:List Dx} {vs:List V} {P:List Rw},Rep F P H->All2 (IsX (hid (bJ P) (F.vis H))) ds vs->Rep F (iB (ds.map .tr) vs++P) H/\bJ (iB (ds.map .tr) vs++P)=bJ P
 | [],_,P,R,e=>by rw[show _=[]from e];exact⟨R,rfl⟩
 |d::ds,_,P,R,⟨y,yr,e,h1,h2⟩=>by
  subst e
  obtain⟨R2,e2⟩:=ih_ R h2
  refine⟨Rep.add (P:=iB (ds.map .tr) yr++P) (d:=d) (v:=y) R2 (by rw[e2];exact h1),?_⟩
  show bJ ((vT d,some y)::(iB (ds.map .tr) yr++P))=_
  rw[ev_ rfl,e2]
theorem aIx{F:Fm}{ρ2:En}{σ:St}{fr:List Rw}{H2:Hp}{ss:List Sv}{vs:List V}{g:GO}{i:Nat}{Q:VK}{Qx:Sv->En->Prop}{a0:Addr}{Ek:XK}(G6:σ[i]? = some (some (.ref a0)))(hl:ss.length=vs.length)(E2:EOk F ρ2 σ (iB ss vs++fr) H2)
  (q2:match jG ρ2 i with
   |some (C,a,dx,l,f)=>g C l (ss.map Sv.d) λs l'=>Qx s (ρ2.set i (f (.oi C a dx l')))
   |none=>False)
  (k:∀v s H' ρ',EOk F ρ' σ ((.v s,some v)::fr) H'->Qx s ρ'->Q v H'):spO g (.ref a0::vs) H2 Q Ek:=by
 obtain⟨R,hs⟩:=E2.many hl
 split at q2
 ·rename_i C a dx l f hb
  obtain⟨sl,h3,h4⟩:=aX.mp hb
  have E3:EOk F ρ2 σ fr H2:=⟨E2.len,R⟩
  obtain⟨v',A2,Fw,R2⟩:=mD E3 h3
  rw[G6]at A2
  cases A2
  obtain⟨ex,hA,_⟩:=dq_ h4 R2
  cases ex
  obtain⟨F',h0,hB,hS,R1,bk⟩:=R2.lend h4
  have hO:(bJ (ρ2.zip σ++fr)).Perm (bJ ((sl,some (V.ref a0))::((ρ2.zip σ).eraseIdx i++fr))):=((co_ h3 G6).append_right fr).flatMap_right _
  have e1:bJ [((Sl.bo (.oi C a0 dx l),some (V.ref a0)):Rw)]=(Ow.oi C a0 dx l).fp:=by rw[jK];exact aV _
  have F5:All2 (IsX (hid (bJ [((Sl.bo (.oi C a0 dx l),some (V.ref a0)):Rw)]) (F'.vis H2))) (ss.map Sv.d) vs:=hs.imp λd v z=>z.to λb u hb=>by
   have Fk:=kW (λc hc=>hO.mem_iff.mpr hc) b u hb
   have An:=aU.mp Fk
   refine aU.mpr ⟨λz=>An.1 ?_,(jH (by rw[h0];exact R2.hv _ _ Fk)).trans (by rw[hS];exact Fk)⟩
   rw[jK,hA]
   rw[e1]at z
   exact aK _ z
  refine⟨F',C,a0,dx,l,vs,ss.map Sv.d,_,rfl,h0,hB,by rw[aG];exact hl,(ih_ R1 F5).1.perm ?_,q2,λs v l' H' R' q=>k v s H' _ (EOk.back (by rw[bG];exact E2.len) ((bk R').perm (((p7 E2.len Fw G6).append_right fr).symm.cons _))) q⟩
  exact cY
 ·exact q2.elim
section
variable{j i:Nat}{x m:Str}{ps:List Str}{g:GO}{e o:Expr}{es:List Expr}{u:XA}{p pos apos:Pos}{C:Addr}
def aAz(P:Program)(w:World)(K:cZ)(mg:kP)(base:Heap)(j:Nat)(C:Addr)(m:Str)(ps:List Str)(sp:Sp):Prop:=Cls K C/\∃f fd,Meth K C m f/\FnOk P w K mg base CX0 j f fd ps sp/\Binds K fd ps []
theorem nO{pl:Sem Bool}(M:aAz X.prog X.w X.K X.mg X.base j C m ps (spO g))(hr:Room j X.A)(hv:PE X o (fN i))(ha:XAs X Ex (e::es) u)
  (Em:starEach (e::es) X.env=(false,eval e X.env)::starEach es X.env:=by rfl) (A0:(backTo pos (starEach es X.env)).any (·.1)=false:=by rfl)
  (ht:eval (.Call (.Attribute o m apos) (e :: es) [] pos) X.env=(do
   let ov <-eval o X.env
   standAt apos.atName
   let (f,first) <-holding [ov] (getMethod ov m pl)
   callWith pos f first (backTo pos (starEach (e::es) X.env)) (backToKw pos (keywordEach [] X.env))):=by rfl) :
  XE X Ex (.Call (.Attribute o m apos) (e::es) [] pos) (aPl C m g i u):=λF=>by
 obtain⟨c,f,fd,hm,hf,hb⟩:=M
 refine(f8 hv c hm hf hr hb .nil aOe (ha F) Em A0 ht).weak λσ H Q=>?_
 rintro⟨ρ,fr,Qx,E,⟨t0,t⟩,k⟩
 split at t0
 ·rename_i C0 a0 F1 l0 f0 h0
  obtain⟨rfl,Ji⟩:=t0
  obtain⟨Ho,h1,h2⟩:=aX.mp h0
  obtain⟨v,hv,hi,R0⟩:=mD E h1
  obtain⟨rfl,_,hO,_⟩:=dq_ h2 R0
  obtain⟨ws,h5,_,h6⟩:=OwOk.ins hO
  refine⟨.ref a0,hv,a0,F1,ws,rfl,h5,h6.miss Ji,ρ,fr,_,E,t,λvs ss H2 ρ2 hl E2 q2=>?_⟩
  show spO g (V.ref a0::(vs++[])) H2 Q E0
  rw[aV]
  exact aIx hv hl E2 q2 k
 ·exact t0.elim
theorem ep_{f:Str}(c:Cls X.K C)(hn:NoAttr X.K C f)(hv:PE X o (fN i))(hb:attributeBase o f X.env (eval o X.env)=eval o X.env:=by rfl):XE X Ex (.Attribute o f pos) (aWe C f i):=λF=>(aRc hv hb).weak λσ H Q=>by
 rintro⟨ρ,fr,Qx,E,t,k⟩
 unfold aWe at t
 split at t
 ·rename_i C0 a0 F1 l0 f0 h0
  obtain⟨rfl,t⟩:=t
  split at t
  ·rename_i d hd
   obtain⟨Ho,h1,h2⟩:=aX.mp h0
   obtain⟨v,hv,hi,R0⟩:=mD E h1
   obtain⟨rfl,_,hO,_⟩:=dq_ h2 R0
   obtain⟨ws,h5,_,h6⟩:=OwOk.ins hO
   obtain⟨w,hw,hx⟩:=h6.look hd
   simp only[OwOk]at hx
   refine⟨.ref a0,hv,a0,C0,F1,ws,w,rfl,h5,c,hn,hw,k w _ H ρ (EOk.back E.len (E.rep.add (hx.to (kW λb hb=>?_)))) t⟩
   exact(((co_ h1 hv).append_right fr).flatMap_right _).mem_iff.mp hb
  ·exact t.elim
 ·exact t.elim
theorem sN{f:Str}{value:Expr}{tv:XT}{pos':Pos}(c:Cls X.K C)(hn:NoAttr X.K C f)(hv:PE X o (fN i))(ht:XE X Ex value tv)(hs:swapsWith value (some (.Attribute o f pos')) pos.line X.env=pure false:=by rfl):XSt X Ex (.Assign [.Attribute o f pos'] value pos) (aVx C f i tv):=λF=>(aQv hv (ht F) hs).weak λD σ H=>by
 rintro⟨ρ,fr,d,E,t,DK⟩
 refine⟨ρ,fr,_,E,t,λv s H2 ρ2 E2 t2=>?_⟩
 split at t2
 ·rename_i C0 a0 F1 l0 f0 h0
  obtain⟨rfl,hl,Aw,t2⟩:=t2
  obtain⟨R,hx⟩:=E2.one
  obtain⟨Ho,h1,h2⟩:=aX.mp h0
  obtain⟨v',A2,hi,R0⟩:=mD ⟨E2.len,R⟩ h1
  obtain⟨rfl,_,hO,_⟩:=dq_ h2 R0
  obtain⟨ws,h5,_,h6⟩:=OwOk.ins hO
  refine⟨.ref a0,A2,a0,C0,F1,ws,rfl,h5,c,hn,by rw[h6.len];exact hl,DK.nx _ _ _ rfl (nG E2.len hi A2 (R0.setF h2 Aw (hx.to (kW λb hb=>?_)) h5)) t2⟩
  exact(((co_ h1 A2).append_right fr).flatMap_right _).mem_iff.mpr hb
 ·exact t2.elim
end
def iK(N:List Str)(o:Ow)(ds:List Dx):En:=.bo o::(ds.map (λd=>.v (.tr d))++List.replicate (N.length-(ds.length+1)) .un)
def hU(C a dx:Addr)(Q:Sv->FsO->Prop)(s:Sv)(ρ:En):Prop:=match (ρ[0]? : Option Sl)with
 |some (.bo (.oi C' a' dx' l))=>C'=C/\a'=a/\dx'=dx/\Q s l
 |_=>False
abbrev aJd(C a dx:Addr)(Q:Sv->FsO->Prop):XD:=⟨λρ=>hU C a dx Q (.tr .non) ρ,λs ρ=>hU C a dx Q s ρ,λ_=>False,λ_=>False⟩
theorem nK:∀{ds:List Dx} {vs:List V},ds.length=vs.length->(ds.map (λd=>Sl.v (.tr d))).zip (vs.map some)=iB (ds.map .tr) vs
 | [],[],_=>rfl
 | [],_::_,h=>by simp at h
 |_::_,[],h=>by simp at h
 |d::ds,v::vs,h=>by
  show(Sl.v (.tr d),some v)::(ds.map (λd=>Sl.v (.tr d))).zip (vs.map some)=(Sl.v (.tr d),some v)::iB (ds.map .tr) vs
  rw[nK (by simpa using h)]
theorem aZc{x qual:Str}{st:Stmt}{f:Addr}{fd:FuncData}{N ps:List Str}{k:Nat}{g:GO}(Fn:Fun K x qual st f fd)(S:FnScope N ps (aM st))(Al:∀C l ds Q,g C l ds Q->ds.length+1=ps.length)(hN:ps.length<=N.length)
  (Az:∀ (Ak:Value) (A:Around) (outer:List Env) (s:Shared) (H:Hp) (E:XK),Room k (A.deeper (PyProof.Rows.envOfC qual (aM st) s.heap.objs.size f Ak)) →
   ∃G,XSs (iS CX0 P w K mg base N qual (aM st) f Ak A outer s H E).nox dR (eG st) G/\∀C a dx l ds Q,g C l ds Q->G (iK N (.oi C a dx l) ds) (aJd C a dx Q)):FnOk P w K mg base CX0 (k+1) f fd ps (spO g):=by
 refine Fn.ok S (λvs H Q E h=>?_) (λAk A outer s H vs Q E hr h=>?_)
 ·obtain ⟨F,C,a,dx,l,vr,ds,Qx,rfl,_,_,h2,_,h3,_⟩:=h
  rw[aD,<-h2]
  exact Al C l ds Qx h3
 obtain⟨F,C,a,dx,l,vr,ds,Qx,rfl,h0,hB,h2,R,h3,h4⟩:=h
 obtain⟨G,hG,hq⟩:=Az Ak A outer s H E hr
 have Gv:=Al C l ds Qx h3
 have At:∀{sv:Sv} {v:V} {σ':St} {H':Hp} {ρ':En},EOk F ρ' σ' ((.v sv,some v)::[]) H'->hU C a dx Qx sv ρ'->Q v H':=λ{sv v σ' H' ρ'} E' q=>by
  unfold hU at q
  split at q
  ·rename_i C' a' dx' l' e0
   obtain⟨rfl,rfl,rfl,q⟩:=q
   obtain⟨y,hy,hi,R2⟩:=mD E' e0
   obtain⟨rfl,_⟩:=dq_ rfl R2
   refine h4 sv v l' H' (Rep.drops (A:=(ρ'.zip σ').eraseIdx 0) (R2.perm ?_)) q
   exact eO.symm
  ·exact q.elim
 refine⟨_,hG F,iK N (.oi C a dx l) ds,[],aJd C a dx Qx,⟨?_,?_⟩,hq C a dx l ds Qx h3,⟨λσ' H' ρ' _ E' q=>At (EOk.back E'.len (E'.rep.add (d:=.non) (v:=.non) IsX.of_non)) q,λv s σ' H' ρ' _ E' q=>At E' q,λ_ _ _ _ _ q=>q.elim,λ_ _ _ _ _ q=>q.elim⟩⟩
 ·unfold iK L2.start
  simp only[aB,aG,bI,aD]
  omega
 ·have e:(iK N (.oi C a dx l) ds).zip (L2.start N (.ref a :: vr))=((.bo (.oi C a dx l),some (.ref a)) :: iB (ds.map .tr) vr) ++ List.replicate (N.length - (ds.length + 1)) (.un,none):=by
   unfold iK L2.start
   rw[bB,aP,eP,aD,<-h2,List.zip_append (by rw[aG,aG];exact h2),nK h2,List.zip_replicate',aP]
  rw[e,aV]
  exact(R.addUs _).perm cY
end Lf
namespace L2
open PySem PySem.Spec PyProof.Rows
section
variable{X:Cx}
def st3(x y:Str)(i:Int):Bool:=fromIndex x.length i+y.length<=x.length&&Builtin.Str.subAt x y (fromIndex x.length i)
theorem w5:MtR X "str.startswith" (λx vs H Q=>∃z y i,x=.str z/\vs=[.str y,.int i]/\Q (.bl (st3 z y i)) H):=by
 intro Aa s σ H x vs v us Q I rx rv h
 obtain⟨z,y,i,rfl,rfl,q⟩:=h
 obtain⟨t,rfl⟩:=rx
 cases rv with
 |cons r1 r2 =>
  cases r2 with
  |cons r3 r4 =>
   cases r4
   obtain⟨u,rfl⟩:=r1
   obtain⟨u2,rfl⟩:=r3
   exact call_gives F.slot_str_startswith (typeIs_str s z t) F.entry_str_startswith (F.args_str_startswith_3 _ _ _) (gives_str_startswith_from z y i t u u2) ⟨.bl _,H,I,rfl,q⟩
theorem sE:CallR X (.type "int") (λxs H Q=>∃x n,xs=[.str x]/\x.length<=640/\PySem.intText? x=some n/\Q (.int n) H):=by
 intro Aa s σ H xs us Q I r h
 obtain⟨x,n,rfl,hl,hn,q⟩:=h
 obtain⟨u,rfl,rx⟩:=gL r
 obtain⟨t,rfl⟩:=rx
 exact PySem.W.KIN.call_text hn hl ⟨.int n,H,I.tok _,⟨_,rfl⟩,q⟩
end
end L2
namespace Lf
open PySem L2
def bCp:GC:=λds Q=>∃x n,ds=[.str x]/\x.length<=640/\PySem.intText? x=some n/\Q (.tr (.int n))
theorem o7:hY (λxs H Q=>∃x n,xs=[.str x]/\x.length<=640/\PySem.intText? x=some n/\Q (.int n) H) bCp:=by
 intro F P H ds xs Q Qx R hs g k
 obtain⟨x,n,rfl,hl,hn,q⟩:=g
 obtain⟨y,rfl,hx⟩:=pQ hs
 cases hx.str_eq
 exact⟨x,n,rfl,hl,hn,k _ _ H (R.add (IsX.of_int _)) q⟩
def aIi(to ta tb:XT):XT:=λρ Q=>to ρ λo ρ1=>(∃z,o.d=.str z)/\ta ρ1 λa ρ2=>tb ρ2 λb ρ3=>match o.d,a.d,b.d with
 | .str z,.str y,.int i=>Q (.tr (.bl (st3 z y i))) ρ3
 |_,_,_=>False
section
variable{o e e2:Expr}{to t t2:XT}{apos cpos pos:Pos}{F:Fm}{i:Nat}{K:cZ}{es:List Expr}{u:XA}
theorem r_(ho:XE X Ex o to)(h:XE X Ex e t)(h2:XE X Ex e2 t2)
  (A6:attributeBase o "startswith" X.env (eval o X.env)=eval o X.env:=by rfl)
  (Cw:((backTo cpos (starEach [e,e2] X.env)).all (fun x => !x.1) && (backToKw cpos (keywordEach [] X.env)).all (fun x=>x.1.isSome)
   && decide ([e,e2].length+([]:List Keyword).length+(if([]:List Keyword).isEmpty then 0 else 1)<30))=true:=by rfl)
  (Bc:(apos.endLine == cpos.line)=true:=by rfl) (hs:starEach [e,e2] X.env=(false,eval e X.env)::starEach [e2] X.env:=by rfl) (Eb:starEach [e2] X.env=(false,eval e2 X.env)::starEach [] X.env:=by rfl) (A5:(backTo cpos (starEach [e2] X.env)).any (·.1)=false:=by rfl) :
  XE X Ex (.Call (.Attribute o "startswith" apos) [e,e2] [] cpos) (aIi to t t2):=λF =>
 (oW PySem.F.plainAttrs_str PySem.F.slot_str_startswith PySem.F.type_str_startswith w5 (ho F) (lK (h F) (lK (h2 F) xJ Eb) hs) A6 Cw Bc hs A5).weak fun σ H Q=>by
  rintro⟨ρ,fr,Qx,E,q,k⟩
  refine⟨ρ,fr,_,E,q,λv s H' ρ' E' q'=>?_⟩
  obtain⟨⟨z,hz⟩,q'⟩:=q'
  obtain⟨R,hx⟩:=E'.one
  rw[hz]at hx q'
  cases hx.str_eq
  refine⟨rfl,ρ',_,_,E'.drop,q',λu s2 H2 ρ2 E2 q2=>?_⟩
  refine⟨ρ2,_,_,E2,q2,λu3 s3 H3 ρ3 E3 q3=>?_⟩
  obtain⟨R3,C2,K0⟩:=E3.two
  split at q3
  ·rename_i z' y' i' e1 e2 e3
   cases e1
   rw[e2]at C2
   rw[e3]at K0
   cases C2.str_eq
   cases K0.int_eq
   exact⟨z,y',i',rfl,rfl,k _ _ H3 ρ3 (EOk.back E3.len (R3.add (IsX.of_bl _))) q3⟩
  ·exact q3.elim
def aWc(u:XA):XT:=λρ Q=>u ρ λss ρ'=>∃os,ss.map Sv.o? = os.map some/\ss.length<=1000000/\∀a,Q (.ow (.ol a os)) ρ'
theorem aIe(h:XAs X Ex es u):XE X Ex (.List es pos) (aWc u):=λF=>(aEd (h F)).weak λσ H Q=>by
 rintro⟨ρ,fr,Qx,E,t,k⟩
 refine⟨ρ,fr,_,E,t,λvs ss H2 ρ2 hl E2 q2=>?_⟩
 obtain⟨os,ho,hz,q2⟩:=q2
 refine⟨by have:=fJ;omega,λp hp=>?_⟩
 have R1:Rep F (iB ss vs++(ρ2.zip σ++fr)) H2:=E2.rep.perm (List.perm_append_comm_assoc _ _ _)
 have Do:os.length=vs.length:=by have:=congrArg List.length ho;rw[aG,aG]at this;omega
 exact k _ _ _ ρ2 (EOk.back E2.len ((Rep.tmpsO hl ho R1).bundleL Do hp)) (q2 p)
theorem OwOks.len{G H:Hp}:∀{l:List Ow} {ws:List V},OwOks G H l ws->ws.length=l.length
 | [],_,h=>by simp only[OwOks]at h;rw[h];rfl
 |o::r,ws,h=>by
  simp only[OwOks]at h
  obtain⟨w,wr,rfl,_,h3⟩:=h
  rw[aD,aD,OwOks.len h3]
theorem OwOks.snoc{G H:Hp}{o:Ow}{v:V}(ho:OwOk G H o v):∀{l:List Ow} {ws:List V},OwOks G H l ws->OwOks G H (l++[o]) (ws++[v])
 | [],_,h=>by
  simp only[OwOks]at h
  subst h
  simp only[aS,OwOks]
  exact⟨_,_,rfl,ho,rfl⟩
 |p::r,ws,h=>by
  simp only[OwOks]at h
  obtain⟨w,wr,rfl,h2,h3⟩:=h
  simp only[aP,OwOks]
  exact⟨w,wr++[v],rfl,h2,OwOks.snoc ho h3⟩
theorem rE{o:Ow}:∀l:List Ow,gZ (l++[o])=gZ l++o.fp
 | []=>by simp only[aS,gZ,aV]
 |p::r=>by simp only[aP,gZ,rE,aL]
theorem Rep.appO{P:List Rw}{H:Hp}{o:Ow}{x:Option V}{a:Addr}{l:List Ow}{v:V}(R:Rep F ((.v (.ow o),some v)::(.v (.ow (.ol a l)),x)::P) H):x=some (.ref a)/\∃ws,H a=some (.lst ws)/\ws.length=l.length/\Rep F ((.v (.ow (.ol a (l++[o]))),x)::P) (upd H a (.lst (ws++[v]))):=by
 obtain⟨y,rfl,h1⟩:=R.ok _ (aC _ aA)
 obtain⟨y2,e2,h2⟩:=R.ok _ aA
 cases e2
 simp only[OwOk]at h1
 obtain⟨rfl,ws,h3,h4⟩:=h1
 refine⟨rfl,ws,h3,h4.len,?_⟩
 have eo:bJ [((.v (.ow o),some v):Rw),(.v (.ow (.ol a l)),some (.ref a))]=o.fp++(a::gZ l):=by
  rw[jK,jK]
  simp only[dI,Ow.fp,bJ,List.flatMap_nil,aV]
 have en:dI (.v (.ow (.ol a (l++[o]))),some (.ref a))=a::(gZ l++o.fp):=by simp only[dI,Ow.fp,rE]
 have R':Rep F ([((.v (.ow o),some v):Rw),(.v (.ow (.ol a l)),some (.ref a))]++P) H:=R
 have Jy:a∉o.fp++gZ l:=by
  have hn:=R'.nd
  rw[xX,eo]at hn
  have Gu:=(cA.mp hn).1
  have:=(eO (a:=a) (l₁:=o.fp) (l₂:=gZ l)).nodup_iff.mp Gu
  exact(cE.mp this).1
 refine R'.shift (A:=[(.v (.ow o),some v),(.v (.ow (.ol a l)),some (.ref a))]) ?_ ?_ (λb hb=>?_) (λb hb=>?_) ?_
 ·rw [en,eo]
  exact(cY.cons a).trans eO.symm
 ·intro r hr
  rcases aF.mp hr with rfl | hr
  ·exact⟨_,rfl⟩
  ·rw[aI.mp hr];exact⟨_,rfl⟩
 ·refine dW fun z=>hb ?_
  rw[eo,z]
  exact aE _ aA
 ·by_cases z:b=a
  ·rw[z];exact⟨_,bU⟩
  ·obtain ⟨u,hu⟩:=R'.own_in (by rw [xX]; exact aK _ hb)
   exact⟨u,by rw[dW z];exact hu⟩
 ·rw [en]
  refine⟨.ref a,rfl,?_⟩
  simp only[OwOk]
  refine⟨trivial,_,bU,?_⟩
  have hs:∀b u,hid (bJ ([((.v (.ow o),some v):Rw),(.v (.ow (.ol a l)),some (.ref a))]++P)) (F.vis H) b=some u->hid (a::(gZ l++o.fp)++bJ P) (F.vis (upd H a (.lst (ws++[v])))) b=some u:=λb u hb=>by
   have An:=aU.mp hb
   rw[xX,eo]at An
   have Fj:b≠a:=λz=>An.1 (by rw[z];exact aK _ (aE _ aA))
   refine aU.mpr ⟨λz=>An.1 ?_,?_⟩
   ·rcases bF.mp z with z | z
    ·refine aK _ ?_
     rcases aF.mp z with z | z
     ·rw[z];exact aE _ aA
     ·rcases bF.mp z with z | z
      ·exact aE _ (aC _ z)
      ·exact aK _ z
    ·exact aE _ z
   ·cases q:F.H0 b with
    |none=>exact(kH q).trans ((congrArg nf (dW Fj)).trans ((kH q).symm.trans An.2))
    |some w=>exact(jH q).trans ((jH q).symm.trans An.2)
  have k1:∀b∈o.fp,upd H a (.lst (ws++[v])) b=H b:=λb hb=>dW λz=>Jy (by rw[<-z];exact aK _ hb)
  have k2:∀b∈gZ l,upd H a (.lst (ws++[v])) b=H b:=λb hb=>dW λz=>Jy (by rw[<-z];exact aE _ hb)
  exact OwOks.snoc (OwOk.mono (.of hs) o v k1 h2) (OwOks.mono (.of hs) l ws k2 h4)
def aWh(i:Nat)(t:XT):XS:=λρ D=>(match ρ[i]? with
 |some (.v (.ow (.ol _ _)))=>True
 |_=>False)/\t ρ λs ρ'=>match ρ'[i]? with
 |some (.v (.ow (.ol a l)))=>∃o,s.o? = some o/\l.length<1000000/\D.nx (ρ'.set i (.v (.ow (.ol a (l++[o])))))
 |_=>False
theorem aIu:∀D σ H,tXS F (aWh i t) D σ H->aCp (tBM K "list" tU (fN i) (vW (tX F t) t_)) D σ H:=by
 rintro D σ H ⟨ρ,fr,d,E,⟨q0,q⟩,k⟩
 split at q0
 ·rename_i a0 l0 h0
  obtain⟨v0,G8,Hz,R0⟩:=mD E h0
  obtain⟨y0,rfl,Jd⟩:=R0.ok _ aA
  simp only[OwOk]at Jd
  obtain⟨rfl,ws0,Ni,_⟩:=Jd
  refine⟨.ref a0,G8,.inl ⟨rfl,ws0,SqL.of Ni⟩,ρ,fr,_,E,q,λy s H' ρ' E' q'=>?_⟩
  split at q'
  ·rename_i a l hb
   obtain⟨o,C8,Fv,q'⟩:=q'
   have R3:=E'.front.toOw C8
   obtain⟨v1,G7⟩:=uU E'.len hb
   have Lv:i<ρ'.length:=(aY.mp hb).1
   have R4:Rep F ((.v (.ow o),some y)::(.v (.ow (.ol a l)),v1)::((ρ'.zip σ).eraseIdx i++fr)) H':=R3.perm (((co_ hb G7).append_right fr).cons _)
   obtain⟨rfl,ws,h3,h4,R5⟩:=R4.appO
   rw[G8]at G7
   cases G7
   refine⟨a0,ws,y,rfl,rfl,h3,by rw[h4];have:=fJ;omega,k.nx σ _ _ rfl ⟨by rw[bG];exact E'.len,?_⟩ q'⟩
   exact R5.perm (((p7 E'.len Lv G8).append_right fr).symm)
  ·exact q'.elim
 ·exact q0.elim
end
end Lf
namespace L2
open PySem PySem.W PySem.Spec PyProof.Rows PySem.Calls
theorem dy_{K:Frag}{C:Addr}{m q:Str}{s:Stmt}(h:mO K C m q=fE m q s)(h2:i4 K C m=true):∃f fd,findIn K (.ref C) m=some (some (.ref f))/\isFn K (.ref f)=true/\Fun K m q s f fd:=by
 unfold mO at h
 unfold i4 at h2
 cases e:findIn K (.ref C) m with
 |none=>rw[e]at h;cases h
 |some o =>
  cases o with
  |none=>rw[e]at h;cases h
  |some v =>
   rw[e]at h2
   cases v with
   |ref f =>
    rw[e]at h
    dsimp only at h
    cases e2:K.lookup f with
    |none=>rw[e2]at h;cases h
    |some ob =>
     obtain⟨oc,od,da,sl⟩:=ob
     rw[e2]at h
     cases da with
     |func fd =>
      obtain⟨nm,qn,pa,bo,sc,gl,cl,df,kw,dc,pm,an,cd,ct,bl⟩:=fd
      simp only[fE,Option.some.injEq,Prod.mk.injEq]at h
      obtain⟨⟨rfl,rfl,rfl,rfl,rfl⟩,⟨rfl,rfl,rfl,rfl⟩,h3⟩:=h
      refine⟨f,_,rfl,h2,⟨oc,od,kw,dc,pm,an,cd,ct,sl,rfl,e2,h3⟩,?_⟩
      unfold keepIn
      dsimp only
      rw[e2]
     |_=>cases h
   |_=>rw[e]at h;cases h
theorem tP{α β:Type}{f:α->β}{b:β}:∀{l:List α},l.map f=List.replicate l.length b->∀a∈l,f a=b
 | [],_,a,h=>by simp at h
 |x::r,h,a,ha=>by
  simp only[bB,aD,dM,List.cons.injEq]at h
  rcases aF.mp ha with rfl | ha
  ·exact h.1
  ·exact tP h.2 a ha
theorem aEw{K:Frag}{n:Str}{ms:List (Str×Str)}{fs:List Str}{es:List FO}(h:i5 K n ms fs=m5 es ms fs):∃C,nsIn K mainGlobals n=some (some (.ref C))/\Cls K C/\makesIn K C=true/\keepIn K (.ref C)=true/\ms.map (λp=>mO K C p.1 p.2)=es/\(∀p∈ms,i4 K C p.1=true)/\∀f∈fs,NoAttr K C f:=by
 unfold i5 m5 at h
 split at h
 ·rename_i C hn
  simp only[Option.some.injEq,Prod.mk.injEq]at h
  obtain⟨⟨h1,h2,h3,h4,h5,h6⟩,h7,h8,h9⟩:=h
  exact⟨C,hn,⟨h1,h2,h3,h4⟩,h5,h6,h7,tP h8,tP h9⟩
 ·cases h
end L2
namespace Lf
open PySem L2
mutual
def Dx.Pd:Dx->Prop
 | .int _=>True
 | .str _=>True
 | .tup l=>l.length<=100000/\pdX l
 | .lst l=>l.length<=100000/\pdX l
 | .dic l=>l.length<=100000/\(∃xs:List Str,xs.Nodup/\l.map (·.1)=xs.map Sum.inr)/\pdK l
 |_=>False
def pdX:List Dx->Prop
 | []=>True
 |d::r=>d.Pd/\pdX r
def pdK:List (Key×Dx)->Prop
 | []=>True
 |q::r=>q.2.Pd/\pdK r
end
def aPm(i:Nat):XT:=λρ Q=>∃s,ρ[i]? = some (.v s)/\((∃l,s.d=.dic l/\Q (.tr (.int l.length)) ρ)\/∃l,s.d=.lst l/\Q (.tr (.int l.length)) ρ)
theorem vN(K:cZ){i:Nat}{e:Expr}{p pos:Pos}(hv:PE X e (fN i))(hm:X.mg "len" = none)(hg:Gl X "len":=by rfl)(hK:X.K=K:=by rfl)
  (he:starEach [e] X.env=(false,eval e X.env)::starEach [] X.env:=by rfl) (A0:(backTo pos (starEach [] X.env)).any (·.1)=false:=by rfl):XE X Ex (.Call (.Name "len" p) [e] [] pos) (aPm i):=λF=>(gb_ (kI K hK) hg hm PySem.boot_len (lK hv xJ he) (by decide) (by decide) he A0).weak λσ H Q=>by
 rintro⟨ρ,fr,Qx,E,⟨s,hs,t⟩,k⟩
 obtain⟨v,A2,hi,R⟩:=mD E hs
 obtain⟨w,rfl,hx⟩:=R.head
 refine⟨w,A2,?_⟩
 rcases t with⟨l,hd,q⟩ | ⟨l,hd,q⟩
 ·rw [hd] at hx
  obtain⟨a,vs,rfl,h1,h2⟩:=hx.dic_eq
  exact .inr (.inr ⟨a,vs,rfl,qX R.tail h1,k _ _ H ρ (EOk.back E.len (E.rep.add (by rw[h2.len];exact IsX.of_int _))) q⟩)
 ·rw [hd] at hx
  obtain⟨a,vs,rfl,h1,h2⟩:=hx.lst_eq
  exact .inl ⟨a,vs,rfl,.inl (SqL.of (R.tail.hv _ _ h1)),k _ _ H ρ (EOk.back E.len (E.rep.add (by rw[h2.len];exact IsX.of_int _))) q⟩
def b6(g:GB)(t u:XT):XT:=λρ Q=>t ρ λs1 ρ1=>u ρ1 λs2 ρ2=>∃l,s2=.ol l/\g l [s1.d] λd _=>Q (.tr d) ρ2
theorem s9{j:Nat}{x:Str}{ps:List Str}{g:GB}{e e2:Expr}{t u:XT}{p pos:Pos}(C:Cal X.prog X.w X.K X.mg X.base j x ps (kS g))(hr:Room j X.A)(ht:XE X Ex e t)(hu:XE X Ex e2 u)(hg:Gl X x:=by rfl)(Bk:(x == ("__debug__" : Str))=false:=by decide)
  (he:starEach [e,e2] X.env=(false,eval e X.env)::starEach [e2] X.env:=by rfl) (Gc:starEach [e2] X.env=(false,eval e2 X.env)::starEach [] X.env:=by rfl) (A0:(backTo pos (starEach [e2] X.env)).any (·.1)=false:=by rfl):XE X Ex (.Call (.Name x p) [e,e2] [] pos) (b6 g t u):=λF=>(uA C hr (lK (ht F) (lK (hu F) xJ Gc) he) hg Bk he A0).weak λσ H Q=>by
 rintro⟨ρ,fr,Qx,E,t,k⟩
 refine⟨ρ,fr,_,E,t,λva s1 H1 ρ1 E1 q1=>?_⟩
 refine⟨ρ1,(.v s1,some va)::fr,_,E1,q1,λvb s2 H2 ρ2 E2 q2=>?_⟩
 obtain⟨l,rfl,q2⟩:=q2
 have R:Rep F ((.v (.ol l),some vb)::(.v s1,some va)::(ρ2.zip σ++fr)) H2:=E2.front.perm (qC.cons _)
 have R':Rep F ((.v s1,some va)::(.v (.ol l),some vb)::(ρ2.zip σ++fr)) H2:=R.perm (.swap _ _ _)
 obtain⟨va',ev,hs⟩:=R'.head
 cases ev
 have R2:=R'.tail
 obtain⟨p,ws,hpv,h5,h6,h7,h8⟩:=gd_ (sl:=.v (.ol l)) (f:=λl'=>.v (.ol l')) rfl R2
 cases hpv
 refine⟨va,.ref p,rfl,?_⟩
 refine⟨p,ws,l,[va],hid (bJ ((.v (.ol l),some (V.ref p))::(ρ2.zip σ++fr))) (F.vis H2),[s1.d],_,rfl,h5,R2.hv,?_,?_,All2.one hs,q2,λd w l' ws' H' e hp Fg hd q=>?_⟩
 ·unfold hid
  rw[if_pos (by rw[iO h6];exact aA)]
 ·rw [iO h6]
  exact h7
 ·obtain ⟨k1,k2,k3⟩:=h8 l'
  have ev:=hp_ R2 h6 e
  have R3:=R2.called h6 k1 k2 e ⟨_,hp⟩ (k3 hp (Fg.imp λ_ _ z=>z.to λb o hb=>by
   have An:=aU.mp hb
   have:=ev _ _ An.2
   rw[iO h6]at this
   exact this))
  have R4:=R3.add (d:=d) (v:=w) (hd.to λb o hb=>by
   have:=ev _ _ hb
   rw[iO h6]at this
   rw[iO k1]
   exact this)
  exact k w (.tr d) H' _ (EOk.back E2.len (R4.perm (.swap _ _ _)).tail) q
abbrev GOE:=Addr->FsO->List Dx->(Sv->FsO->Prop)->ExT->Prop
def eV(g:GOE):Sp:=λvs H Q E=>∃(F:Fm) (C a dx:Addr) (l:FsO) (vr:List V) (ds:List Dx) (Qx:Sv->FsO->Prop) (Ex:ExT),vs=.ref a::vr/\F.H0=H/\F.B=(Ow.oi C a dx l).fp/\ds.length=vr.length/\Rep F ((.bo (.oi C a dx l),some (.ref a))::iB (ds.map .tr) vr) H/\g C l ds Qx Ex /\
 (∀s v l' H',Rep F [(.bo (.oi C a dx l'),some (.ref a)),(.v s,some v)] H'->Qx s l'->Q v H')/\∀c H',lU F H'->Ex c->E c none H'
def aIl(Ex:ExT)(g:GOE)(i:Nat)(u:XA):XT:=λρ Q=>(jG ρ i).isSome=true/\u ρ λss ρ'=>match jG ρ' i with
 |some (C,a,dx,l,f)=>g C l (ss.map Sv.d) (λs l'=>Q s (ρ'.set i (f (.oi C a dx l')))) Ex
 |none=>False
def b3(Ex:ExT)(C0:Addr)(m:Str)(g:GOE)(i:Nat)(u:XA):XT:=λρ Q=>(match jG ρ i with
 |some (C,_,_,l,_)=>C=C0/\l.lookup m=none
 |none=>False)/\u ρ λss ρ'=>match jG ρ' i with
 |some (C,a,dx,l,f)=>g C l (ss.map Sv.d) (λs l'=>Q s (ρ'.set i (f (.oi C a dx l')))) Ex
 |none=>False
def aIj(Ex:ExT)(C:Addr)(g:GOE)(u:XA):XT:=λρ Q=>u ρ λss ρ'=>∀a dx,g C [] (ss.map Sv.d) (λs l'=>s.d=.non/\Q (.ow (.oi C a dx l')) ρ') Ex
theorem j5{F F':Fm}{r:Rw}{P:List Rw}{H H':Hp}(R:Rep F (r::P) H)(h0:F'.H0=H)(hB:F'.B=dI r)(k:lU F' H'):lU F H':=λb o h1 h2=>by
 refine k b o (by rw[h0];exact R.kp b o h1 h2) λz=>?_
 rw[hB]at z
 rcases(R.fr r aA b z).or with h | h
 ·exact h2 h
 ·rw[h]at h1;cases h1
theorem oA{F:Fm}{ρ2:En}{σ:St}{fr:List Rw}{H2:Hp}{ss:List Sv}{vs:List V}{g:GOE}{Ex:ExT}{i:Nat}{Q:VK}{Qx:Sv->En->Prop}{a0:Addr}(G6:σ[i]? = some (some (.ref a0)))(hl:ss.length=vs.length)(E2:EOk F ρ2 σ (iB ss vs++fr) H2)
  (q2:match jG ρ2 i with
   |some (C,a,dx,l,f)=>g C l (ss.map Sv.d) (λs l'=>Qx s (ρ2.set i (f (.oi C a dx l')))) Ex
   |none=>False)
  (k:∀v s H' ρ',EOk F ρ' σ ((.v s,some v)::fr) H'->Qx s ρ'->Q v H'):eV g (.ref a0::vs) H2 Q (λc _ H'=>Ex c/\lU F H'):=by
 obtain⟨R,hs⟩:=E2.many hl
 split at q2
 ·rename_i C a dx l f hb
  obtain⟨sl,h3,h4⟩:=aX.mp hb
  have E3:EOk F ρ2 σ fr H2:=⟨E2.len,R⟩
  obtain⟨v',A2,Fw,R2⟩:=mD E3 h3
  rw[G6]at A2
  cases A2
  obtain⟨ex,hA,_⟩:=dq_ h4 R2
  cases ex
  obtain⟨F',h0,hB,hS,R1,bk⟩:=R2.lend h4
  have hO:(bJ (ρ2.zip σ++fr)).Perm (bJ ((sl,some (V.ref a0))::((ρ2.zip σ).eraseIdx i++fr))):=((co_ h3 G6).append_right fr).flatMap_right _
  have e1:bJ [((Sl.bo (.oi C a0 dx l),some (V.ref a0)):Rw)]=(Ow.oi C a0 dx l).fp:=by rw[jK];exact aV _
  have F5:All2 (IsX (hid (bJ [((Sl.bo (.oi C a0 dx l),some (V.ref a0)):Rw)]) (F'.vis H2))) (ss.map Sv.d) vs:=hs.imp λd v z=>z.to λb u hb=>by
   have Fk:=kW (λc hc=>hO.mem_iff.mpr hc) b u hb
   have An:=aU.mp Fk
   refine aU.mpr ⟨λz=>An.1 ?_,(jH (by rw[h0];exact R2.hv _ _ Fk)).trans (by rw[hS];exact Fk)⟩
   rw[jK,hA]
   rw[e1]at z
   exact aK _ z
  refine⟨F',C,a0,dx,l,vs,ss.map Sv.d,_,Ex,rfl,h0,hB,by rw[aG];exact hl,(ih_ R1 F5).1.perm ?_,q2,λs v l' H' R' q=>k v s H' _ (EOk.back (by rw[bG];exact E2.len) ((bk R').perm (((p7 E2.len Fw G6).append_right fr).symm.cons _))) q,λc H' kp hx=>⟨hx,j5 R2 h0 (hB.trans hA.symm) kp⟩⟩
  exact cY
 ·exact q2.elim
def jX(P:Program)(w:World)(K:cZ)(mg:kP)(base:Heap)(j:Nat)(C:Addr)(m:Str)(ps:List Str)(sp:Sp):Prop:=Cls K C/\∃f fd,Meth K C m f/\FnOk P w K mg base (CXe P w) j f fd ps sp/\Binds K fd ps []
def aHl(P:Program)(w:World)(K:cZ)(mg:kP)(base:Heap)(j:Nat)(C:Addr)(ps:List Str)(sp:Sp):Prop:=∃f fd,Mk K C f/\FnOk P w K mg base (CXe P w) j f fd ps sp/\Binds K fd ps []
section
variable{j i:Nat}{x m:Str}{ps:List Str}{g:GOE}{e o:Expr}{es:List Expr}{u:XA}{p pos apos:Pos}{C:Addr}
theorem cz_(C:CalE X.prog X.w X.K X.mg X.base j x ps (eV g))(hr:Room j X.A)(hv:PE X e (fN i))(ha:XAs X Ex es u)(hg:Gl X x:=by rfl)(Bk:(x == ("__debug__" : Str))=false:=by decide)
  (he:starEach (e::es) X.env=(false,eval e X.env)::starEach es X.env:=by rfl) (A0:(backTo pos (starEach es X.env)).any (·.1)=false:=by rfl):XE X Ex (.Call (.Name x p) (e::es) [] pos) (aIl Ex g i u):=λF=>(aJv (E:=λc _ H'=>Ex c/\lU F H') C hr (λAa σ H s e s' I h=>OkF.pass Aa σ H s e s' I h) (lK hv (ha F) he) hg Bk he A0).weak λσ H Q=>by
 rintro⟨ρ,fr,Qx,E,⟨t0,t⟩,k⟩
 obtain⟨⟨C0,a0,F1,l0,f0⟩,h0⟩:=cN.mp t0
 obtain⟨Ho,h1,h2⟩:=aX.mp h0
 obtain⟨v,hv,hi,R0⟩:=mD E h1
 obtain⟨rfl,_⟩:=dq_ h2 R0
 refine⟨.ref a0,hv,ρ,fr,_,E,t,λvs ss H2 ρ2 hl E2 q2=>?_⟩
 show eV g (V.ref a0::(vs++[])) H2 Q _
 rw[aV]
 exact oA hv hl E2 q2 k
theorem dl_{pl:Sem Bool}(M:jX X.prog X.w X.K X.mg X.base j C m ps (eV g))(hr:Room j X.A)(hv:PE X o (fN i))(ha:XAs X Ex (e::es) u)
  (Em:starEach (e::es) X.env=(false,eval e X.env)::starEach es X.env:=by rfl) (A0:(backTo pos (starEach es X.env)).any (·.1)=false:=by rfl)
  (ht:eval (.Call (.Attribute o m apos) (e :: es) [] pos) X.env=(do
   let ov <-eval o X.env
   standAt apos.atName
   let (f,first) <-holding [ov] (getMethod ov m pl)
   callWith pos f first (backTo pos (starEach (e::es) X.env)) (backToKw pos (keywordEach [] X.env))):=by rfl) :
  XE X Ex (.Call (.Attribute o m apos) (e::es) [] pos) (b3 Ex C m g i u):=λF=>by
 obtain⟨c,f,fd,hm,hf,hb⟩:=M
 refine(f8 (E:=λc _ H'=>Ex c/\lU F H') hv c hm hf hr hb .nil (λAa σ H s e s' I h=>OkF.pass Aa σ H s e s' I h) (ha F) Em A0 ht).weak λσ H Q=>?_
 rintro⟨ρ,fr,Qx,E,⟨t0,t⟩,k⟩
 split at t0
 ·rename_i C0 a0 F1 l0 f0 h0
  obtain⟨rfl,Ji⟩:=t0
  obtain⟨Ho,h1,h2⟩:=aX.mp h0
  obtain⟨v,hv,hi,R0⟩:=mD E h1
  obtain⟨rfl,_,hO,_⟩:=dq_ h2 R0
  obtain⟨ws,h5,_,h6⟩:=OwOk.ins hO
  refine⟨.ref a0,hv,a0,F1,ws,rfl,h5,h6.miss Ji,ρ,fr,_,E,t,λvs ss H2 ρ2 hl E2 q2=>?_⟩
  show eV g (V.ref a0::(vs++[])) H2 Q _
  rw[aV]
  exact oA hv hl E2 q2 k
 ·exact t0.elim
theorem yC{pl:Sem Bool}(M:jX X.prog X.w X.K X.mg X.base j C m ps (eV g))(hr:Room j X.A)(hv:PE X o (fN i))
  (ht:eval (.Call (.Attribute o m apos) [] [] pos) X.env=(do
   let ov <-eval o X.env
   standAt apos.atName
   let (f,first) <-holding [ov] (getMethod ov m pl)
   callWith pos f first (backTo pos (starEach [] X.env)) (backToKw pos (keywordEach [] X.env))):=by rfl) :
  XE X Ex (.Call (.Attribute o m apos) [] [] pos) (b3 Ex C m g i cJ):=λF=>by
 obtain⟨c,f,fd,hm,hf,hb⟩:=M
 refine(aEc (E:=λc _ H'=>Ex c/\lU F H') hv c hm hf hr hb .nil (λAa σ H s e s' I h=>OkF.pass Aa σ H s e s' I h) ht).weak λσ H Q=>?_
 rintro⟨ρ,fr,Qx,E,⟨t0,t⟩,k⟩
 split at t0
 ·rename_i C0 a0 F1 l0 f0 h0
  obtain⟨rfl,Ji⟩:=t0
  obtain⟨Ho,h1,h2⟩:=aX.mp h0
  obtain⟨v,hv,hi,R0⟩:=mD E h1
  obtain⟨rfl,_,hO,_⟩:=dq_ h2 R0
  obtain⟨ws,h5,_,h6⟩:=OwOk.ins hO
  refine⟨.ref a0,hv,a0,F1,ws,rfl,h5,h6.miss Ji,?_⟩
  exact oA (ss:=[]) (vs:=[]) hv rfl E t k
 ·exact t0.elim
theorem s0(M:aHl X.prog X.w X.K X.mg X.base j C ps (eV g))(hr:Room (j+1) X.A)(hm:X.mg x=some (.ref C))(ha:XAs X Ex (e::es) u)(hg:Gl X x:=by rfl)(Bk:(x == ("__debug__" : Str))=false:=by decide)
  (he:starEach (e::es) X.env=(false,eval e X.env)::starEach es X.env:=by rfl) (A0:(backTo pos (starEach es X.env)).any (·.1)=false:=by rfl) :
  XE X Ex (.Call (.Name x p) (e::es) [] pos) (aIj Ex C g u):=λF=>by
 obtain⟨f,fd,hk,hf,hb⟩:=M
 refine(aJr (E:=λc _ H'=>Ex c/\lU F H') hk hf hr hg hm hb .nil (λAa σ H s e s' I h=>OkF.pass Aa σ H s e s' I h) (ha F) Bk he A0).weak λσ H Q=>?_
 rintro⟨ρ,fr,Qx,E,t,k⟩
 refine⟨ρ,fr,_,E,t,λvs ss H2 ρ2 hl E2 q2=>?_⟩
 intro a dx ha Jo Bv
 rw[aV]
 obtain⟨R,hs⟩:=E2.many hl
 have eS:Same H2 (upd (upd H2 dx (.own a)) a (.ins C dx [])):=λb o hb=>by
  have n1:b≠a:=λz=>by rw[z,ha]at hb;cases hb
  have n2:b≠dx:=λz=>by rw[z,Jo]at hb;cases hb
  rw[dW n1,dW n2]
  exact hb
 have E6:(Ow.oi C a dx []).fp=[a,dx]:=by simp only[Ow.fp,kD]
 have R1:Rep F ((.v (.ow (.oi C a dx [])),some (.ref a))::(ρ2.zip σ++fr)) (upd (upd H2 dx (.own a)) a (.ins C dx [])):=by
  refine R.adoptW eS (by rw[E6];simp[Ne.symm Bv]) (λb hb=>?_) ?_
  ·rw [E6] at hb
   rcases aF.mp hb with rfl | hb
   ·exact ha
   ·rw[aI.mp hb];exact Jo
  ·simp only [OwOk,OwOkf]
   exact⟨trivial,[],bU,by rw[dW Bv];exact bU,rfl⟩
 obtain⟨F',h0,hB,hS,R2,bk⟩:=R1.lend rfl
 have e1:bJ [((Sl.bo (.oi C a dx []),some (V.ref a)):Rw)]=[a,dx]:=by rw[jK,<-E6];exact aV _
 have e2:bJ ((Sl.v (.ow (.oi C a dx [])),some (V.ref a))::(ρ2.zip σ++fr))=[a,dx]++bJ (ρ2.zip σ++fr):=by rw[jK,<-E6];rfl
 have F5:All2 (IsX (hid (bJ [((Sl.bo (.oi C a dx []),some (V.ref a)):Rw)]) (F'.vis (upd (upd H2 dx (.own a)) a (.ins C dx []))))) (ss.map Sv.d) vs:=hs.imp λd v z=>z.to λb u hb=>by
  have An:=aU.mp hb
  have hH:=R.hv _ _ hb
  have Je:b∉[a,dx]:=λz=>by
   rcases aF.mp z with rfl | z
   ·rw[ha]at hH;cases hH
   ·rw[aI.mp z,Jo]at hH;cases hH
  refine aU.mpr ⟨by rw[e1];exact Je,(jH (by rw[h0];exact eS _ _ hH)).trans ?_⟩
  rw[hS,e2]
  exact aU.mpr ⟨λz=>(bF.mp z).elim Je An.1,ge_ eS _ _ An.2⟩
 refine⟨F',C,a,dx,[],vs,ss.map Sv.d,_,Ex,rfl,h0,hB,by rw[aG];exact hl,(ih_ R2 F5).1.perm cY,q2 a dx,λs v l' H' R' q=>?_,λc H' kp hx=>⟨hx,j5 R1 h0 (by rw[hB];rfl) kp⟩⟩
 have R3:=bk R'
 obtain⟨w,ew,hw⟩:=R3.head
 cases ew
 rw[q.1]at hw
 refine⟨?_,k _ _ H' ρ2 (EOk.back E2.len R3.tail) q.2⟩
 simpa only[IsX]using hw
end
theorem kO{x qual:Str}{st:Stmt}{f:Addr}{fd:FuncData}{N ps:List Str}{k:Nat}{g:GOE}(Fn:Fun K x qual st f fd)(S:FnScope N ps (aM st))(Al:∀C l ds Q Ex,g C l ds Q Ex->ds.length+1=ps.length)(hN:ps.length<=N.length)
  (Az:∀ (Ak:Value) (A:Around) (outer:List Env) (s:Shared) (H:Hp) (E:XK) (Ex:ExT),Room k (A.deeper (PyProof.Rows.envOfC qual (aM st) s.heap.objs.size f Ak)) →
   ∃G,XSs (iS (CXe P w) P w K mg base N qual (aM st) f Ak A outer s H E) Ex (eG st) G/\∀C a dx l ds Q,g C l ds Q Ex->G (iK N (.oi C a dx l) ds) (aJd C a dx Q)):FnOk P w K mg base (CXe P w) (k+1) f fd ps (eV g):=by
 obtain⟨oc,od,kV,doc,pm,an,Ak,ct,osl,rfl,lk,D7⟩:=Fn.ex
 refine aGg lk D7 S (λvs H Q E h=>?_) λA outer s H vs Q E hr h=>?_
 ·obtain ⟨F,C,a,dx,l,vr,ds,Qx,Ex,rfl,_,_,h2,_,h3,_⟩:=h
  rw[aD,<-h2]
  exact Al C l ds Qx Ex h3
 obtain⟨F,C,a,dx,l,vr,ds,Qx,Ex,rfl,h0,hB,h2,R,h3,h4,h5⟩:=h
 obtain⟨G,hG,hq⟩:=Az Ak A outer s H E Ex hr
 have Gv:=Al C l ds Qx Ex h3
 haveI:OkF (iS (CXe P w) P w K mg base N qual (aM st) f Ak A outer s H E) Ex F:=i3 λc H' e k=>h5 c H' k e
 have At:∀{sv:Sv} {v:V} {σ':St} {H':Hp} {ρ':En},EOk F ρ' σ' ((.v sv,some v)::[]) H'->hU C a dx Qx sv ρ'->Q v H':=λ{sv v σ' H' ρ'} E' q=>by
  unfold hU at q
  split at q
  ·rename_i C' a' dx' l' e0
   obtain⟨rfl,rfl,rfl,q⟩:=q
   obtain⟨y,hy,hi,R2⟩:=mD E' e0
   obtain⟨rfl,_⟩:=dq_ rfl R2
   refine h4 sv v l' H' (Rep.drops (A:=(ρ'.zip σ').eraseIdx 0) (R2.perm ?_)) q
   exact eO.symm
  ·exact q.elim
 refine⟨_,hG F,iK N (.oi C a dx l) ds,[],aJd C a dx Qx,⟨?_,?_⟩,hq C a dx l ds Qx h3,⟨λσ' H' ρ' _ E' q=>At (EOk.back E'.len (E'.rep.add (d:=.non) (v:=.non) IsX.of_non)) q,λv s σ' H' ρ' _ E' q=>At E' q,λ_ _ _ _ _ q=>q.elim,λ_ _ _ _ _ q=>q.elim⟩⟩
 ·unfold iK L2.start
  simp only[aB,aG,bI,aD]
  omega
 ·have e:(iK N (.oi C a dx l) ds).zip (L2.start N (.ref a :: vr))=((.bo (.oi C a dx l),some (.ref a)) :: iB (ds.map .tr) vr) ++ List.replicate (N.length - (ds.length + 1)) (.un,none):=by
   unfold iK L2.start
   rw[bB,aP,eP,aD,<-h2,List.zip_append (by rw[aG,aG];exact h2),nK h2,List.zip_replicate',aP]
  rw[e,aV]
  exact(R.addUs _).perm cY
end Lf
namespace L2
open PySem PySem.Spec PyProof.Rows Builtin Builtin.Str
section
variable{X:Cx}
theorem aKx:MtR X "str.partition" (λx vs H Q=>∃z y,x=.str z/\vs=[.str y]/\(y.length == 0)=false/\z.length<=sizeLine/\∀p,H p=none->Q (.ref p) (upd H p (.tup [.str (Txt.partition z y).1,.str (Txt.partition z y).2.1,.str (Txt.partition z y).2.2]))):=by
 intro Aa s σ H x vs v us Q I rx rv h
 obtain⟨z,y,rfl,rfl,hy,hsz,q⟩:=h
 obtain⟨t,rfl⟩:=rx
 cases rv with
 |cons r1 r2 =>
  cases r2
  obtain⟨u,rfl⟩:=r1
  have At:∀(ta tb tc:Tok) (k:Nat),EP X Aa σ Q (.ref s.heap.objs.size) { s with heap:=s.heap.push { cls:=.type "tuple",data:=.seq [.str (Txt.partition z y).1 ta,.str (Txt.partition z y).2.1 tb,.str (Txt.partition z y).2.2 tc].toArray },toks:=k }:=λta tb tc k =>
   ⟨.ref s.heap.objs.size,_,I.laid (λb o e=>aQ _ e) (bA _) (show ObjOk X.prog X.w _ _ _ (.tup [.str (Txt.partition z y).1,.str (Txt.partition z y).2.1,.str (Txt.partition z y).2.2])from⟨by show 3<=sizeLine;decide,_,.cons ⟨ta,rfl⟩ (.cons ⟨tb,rfl⟩ (.cons ⟨tc,rfl⟩ .nil)),⟨_,bP _ rfl,rfl,_,rfl⟩⟩),rfl,q _ (I.hok.fresh (bA _))⟩
  refine call_meets F.slot_str_partition (typeIs_str _ _ _) F.entry_str_partition (F.args_str_partition_2 _ _) (meets_str_partition z y t u hy hsz) ?_
  have f':=At
  unfold Txt.partition at f'
  revert f'
  cases occurrences z y 0 z.length 1 with
  |nil=>intro f';exact f' _ _ _ _
  |cons i r=>intro f';exact f' _ _ _ _
end
end L2
namespace Lf
open PySem L2
def aWa(y:Str)(to:XT):XT:=λρ Q=>to ρ λo ρ'=>∃z,o.d=.str z/\z.length<=sizeLine/\Q (.tr (.tup [.str (Txt.partition z y).1,.str (Txt.partition z y).2.1,.str (Txt.partition z y).2.2])) ρ'
theorem aId{o:Expr}{to:XT}{y:Str}{j:Nat}{sp apos cpos:Pos}(ho:XE X Ex o to)(hy:(y.length == 0)=false)
  (A6:attributeBase o "partition" X.env (eval o X.env)=eval o X.env:=by rfl)
  (Cw:((backTo cpos (starEach [.Constant (.str y) j sp] X.env)).all (fun x => !x.1) && (backToKw cpos (keywordEach [] X.env)).all (fun x=>x.1.isSome)
   && decide ([Expr.Constant (.str y) j sp].length+([]:List Keyword).length+(if([]:List Keyword).isEmpty then 0 else 1)<30))=true:=by rfl)
  (Bc:(apos.endLine == cpos.line)=true:=by rfl) (hs:starEach [.Constant (.str y) j sp] X.env=(false,eval (.Constant (.str y) j sp) X.env)::starEach [] X.env:=by rfl) (A5:(backTo cpos (starEach [] X.env)).any (·.1)=false:=by rfl) :
  XE X Ex (.Call (.Attribute o "partition" apos) [.Constant (.str y) j sp] [] cpos) (aWa y to):=λF =>
 (oW PySem.F.plainAttrs_str PySem.F.slot_str_partition PySem.F.type_str_partition aKx (ho F) (lK (tY (x:=y)) xJ hs) A6 Cw Bc hs A5).weak fun σ H Q=>by
  rintro⟨ρ,fr,Qx,E,t,k⟩
  refine⟨ρ,fr,_,E,t,λv s H' ρ' E' q=>?_⟩
  obtain⟨z,hd,hz,q⟩:=q
  obtain⟨R,hx⟩:=E'.one
  rw[hd]at hx
  cases hx.str_eq
  refine⟨rfl,z,y,rfl,rfl,hy,hz,λp hp=>k _ _ _ ρ' (EOk.back E'.len (R.newT hp (l:=[.str (Txt.partition z y).1,.str (Txt.partition z y).2.1,.str (Txt.partition z y).2.2]) (vZ [(Txt.partition z y).1,(Txt.partition z y).2.1,(Txt.partition z y).2.2]))) q⟩
def aOj:Dx->Bool
 | .non=>true
 |_=>false
def aBy(i:Nat):XT:=λρ Q=>∃s,ρ[i]? = some (.v s)/\Q (.tr (.bl (aOj s.d))) ρ
theorem aBi{i:Nat}{e:Expr}{j:Nat}{p pos:Pos}(hv:PE X e (fN i))(hm:behindInMarks .Is (.Constant .none j p)=false):XTe X Ex (.Compare e [.Is] [.Constant .none j p] pos) (xB (aBy i)):=λF=>(tV lO hv aEb hm).weak (hg_ (t:=tOp _ (fN i) (tC .non)) λσ H Q h=>by
 obtain⟨ρ,fr,Qx,E,⟨s,hs,t⟩,k⟩:=h
 obtain⟨v,A2,hi,R⟩:=mD E hs
 obtain⟨w,rfl,hx⟩:=R.head
 refine⟨w,A2,rfl,?_⟩
 have e:decide (w=.non)=aOj s.d:=by
  by_cases hn:s.d=.non
  ·rw [hn] at hx
   cases hx.non_eq
   rw[hn]
   rfl
  ·rw [dzF (zL hx hn)]
   generalize s.d=d at hn
   cases d<;>first | exact absurd rfl hn | rfl
 rw[e]
 exact k _ _ H ρ (EOk.back E.len (E.rep.add (IsX.of_bl _))) t)
def nY:List Expr->Option (List Str)
 | []=>some []
 | .Constant (.str x) _ _::r=>(nY r).map (x :: ·)
 |_=>none
def aBs:List Str->XA
 | []=>cJ
 |z::r=>aW (xC (.str z)) (aBs r)
theorem a_{X:Cx}{Ex:ExT}:∀{es:List Expr} {zs:List Str},nY es=some zs->XAs X Ex es (aBs zs)
 | [],zs,h=>by cases h;exact cB
 |e::es,zs,h=>by
  unfold nY at h
  split at h
  ·rename_i L5;cases L5
  ·rename_i x j p r L5
   cases L5
   obtain⟨ys,hy,rfl⟩:=dJ.mp h
   exact bR fU (a_ hy) rfl
  ·cases h
theorem vP:∀{zs:List Str} {ρ:En} {Q:List Sv->En->Prop},Q (zs.map λz=>.tr (.str z)) ρ->aBs zs ρ Q
 | [],_,_,q=>q
 |z::r,ρ,Q,q=>vP (zs:=r) q
def aNa(zs:List Str):XT:=λρ Q=>zs.length<=1000000/\Q (.ol (zs.map Dx.str)) ρ
theorem aIa{es:List Expr}{zs:List Str}{pos:Pos}(h:nY es=some zs):XE X Ex (.List es pos) (aNa zs):=λF=>(pR (Ex:=Ex) (a_ h) F).weak λσ H Q=>by
 rintro⟨ρ,fr,Qx,E,⟨t1,t2⟩,k⟩
 refine⟨ρ,fr,Qx,E,vP ⟨by rw[aG];exact t1,?_⟩,k⟩
 rw[cM]
 exact t2
theorem nJ{es:List Expr}{zs:List Str}{pos:Pos}(h:nY es=some zs):Bx (XE X Ex (.List es pos) (aNa zs)):=⟨aIa h⟩
theorem aZb{x:Str}{st:Stmt}{f:Addr}{fd:FuncData}{N ps:List Str}{k:Nat}{g:GC}(Fn:Fun K x x st f fd)(S:FnScope N ps (aM st))(Al:∀ds Q,g ds Q->ds.length=ps.length)(hN:ps.length<=N.length)
  (Az:∀ (Ak:Value) (A:Around) (outer:List Env) (s:Shared) (H:Hp) (E:XK),Room k (A.deeper (PyProof.Rows.envOfC x (aM st) s.heap.objs.size f Ak)) →
   ∃G,Bx (XSs (iS CX0 P w K mg base N x (aM st) f Ak A outer s H E).nox dR (eG st) G)/\∀ds Q,g ds Q->G (iW N ds) (u7 Q)):FnOk P w K mg base CX0 (k+1) f fd ps (spX g):=jA Fn S Al hN λAk A outer s H E hr=>by
 obtain⟨G,h,q⟩:=Az Ak A outer s H E hr
 exact⟨G,h.out,q⟩
theorem aUk{a b:Expr}{ta tb:XT}{pos:Pos}(ha:Bx (XE X Ex a ta))(hb:Bx (XE X Ex b tb)):Bx (XE X Ex (.BinOp a .Mod b pos) (xOp aSi ta tb)):=⟨fp_ ha.out hb.out⟩
end Lf
namespace L2
open PySem PySem.Spec PyProof.Rows
def aNx(H:Hp)(xs:List V)(Q:VK):Prop:=∃(a:Addr) (d:PyData),xs=[.ref a]/\d.showable=true/\d.depth<=8/\d.shown.length<=sizeLine/\Q (.str d.shown) H /\
 ((∃i,d=.list [.int i]/\Rd H a (.lst [.int i]))\/(∃x,d=.list [.str x]/\Rd H a (.lst [.str x]))\/(∃x,d=.tuple [.str x]/\Rd H a (.tup [.str x]))\/d=.dict []/\Rd H a (.dK []))
section
variable{X:Cx}
theorem aAn(hg:X.A.guards=some [])(hu:X.A.units+64<cLine):CallR X (.type "str") (λxs H Q=>aNx H xs Q):=by
 intro Aa s σ H xs us Q I r h
 obtain⟨a,d,rfl,hs,hd,hz,q,hc⟩:=h
 obtain⟨u,rfl,rx⟩:=gL r
 cases rx
 have At:∀as,Reads s.heap (.ref a) d as->(d.hasDict=true->sysModules∉as)->wpAny (model X.prog X.w) X.A (call (.type "str") [.ref a]) (EP X Aa σ Q) X.xe s:=λas hr hsm =>
  str_of_reads hr hs hsm hg (by omega) (λb o e=>e) (λh' u tk hk=>⟨.str d.shown,H,I.kept hk,⟨_,rfl⟩,q⟩) hz
 rcases hc with⟨i,rfl,hR⟩ | ⟨x,rfl,hR⟩ | ⟨x,rfl,hR⟩ | ⟨rfl,hR⟩
 ·obtain ⟨_,its,n,hv,ho⟩:=(show ObjOk X.prog X.w H s.heap a (.lst [.int i]) from hR.ok I.hok)
  obtain⟨w,rfl,t,rfl⟩:=gL hv
  exact At _ (.list ho rfl rfl (.cons (.int _ _) .nil)) (λz=>by cases z)
 ·obtain ⟨_,its,n,hv,ho⟩:=(show ObjOk X.prog X.w H s.heap a (.lst [.str x]) from hR.ok I.hok)
  obtain⟨w,rfl,t,rfl⟩:=gL hv
  exact At _ (.list ho rfl rfl (.cons (.str _ _) .nil)) (λz=>by cases z)
 ·obtain ⟨_,its,hv,o,ho,hc,n,Fz⟩:=(show ObjOk X.prog X.w H s.heap a (.tup [.str x]) from hR.ok I.hok)
  obtain⟨w,rfl,t,rfl⟩:=gL hv
  exact At _ (.tuple ho hc Fz (.cons (.str _ _) .nil)) (λz=>by cases z)
 ·obtain ⟨_,hS,vs,hv,hD⟩:=(show ObjOk X.prog X.w H s.heap a (.dK []) from hR.ok I.hok)
  have K3:vs=[]:=by cases hv;rfl
  subst K3
  obtain⟨o,es,ep,ho,he,Fz,_,hp,_⟩:=hD
  have Ia:es.toList=[]:=by cases h:es.toList with
   |nil=>rfl
   |cons x y=>rw[h]at hp;cases hp
  exact At _ (.dict (kvs:=[]) ho he.1 Fz (by rw[Ia];exact .nil) (by rw[Ia];exact .nil)) (λ_ z=>by
   rcases aF.mp z with z | z
   ·rw [z] at hS
    simp at hS
   ·cases z)
end
end L2
namespace Lf
open PySem L2
def pyD:Dx->Option PyData
 | .lst [.int i]=>some (.list [.int i])
 | .lst [.str x]=>some (.list [.str x])
 | .tup [.str x]=>some (.tuple [.str x])
 | .dic []=>some (.dict [])
 |_=>none
def aCw:GC:=λds Q=>(∃x,ds=[.str x]/\Q (.tr (.str x)))\/(∃n:Int,ds=[.int n]/\0<=n/\n<18446744073709551616/\Q (.tr (.str (cR n))))\/(ds=[.non]/\Q (.tr (.str "None")))\/(∃b:Bool,ds=[.bl b]/\Q (.tr (.str (if b=true then Str.ofString "True" else Str.ofString "False")))) \/
 ∃d p,ds=[d]/\pyD d=some p/\p.showable=true/\p.depth<=8/\p.shown.length<=1000000/\Q (.tr (.str p.shown))
section
variable{X:Cx}
theorem aAm:CallR X (.type "str") (λxs H Q=>∃x,xs=[.str x]/\Q (.str x) H):=by
 intro Aa s σ H xs us Q I r h
 obtain⟨x,rfl,q⟩:=h
 obtain⟨u,rfl,rx⟩:=gL r
 obtain⟨t,rfl⟩:=rx
 exact P.str_of_str ⟨.str x,H,I,⟨_,rfl⟩,q⟩
theorem aAo:CallR X (.type "str") (λxs H Q=>xs=[.non]/\Q (.str "None") H):=by
 intro Aa s σ H xs us Q I r h
 obtain⟨rfl,q⟩:=h
 obtain⟨u,rfl,rx⟩:=gL r
 cases rx
 exact P.str_of_none ⟨.str "None",H,I.tok _,⟨_,rfl⟩,q⟩
theorem aAp:CallR X (.type "str") (λxs H Q=>∃b:Bool,xs=[.bl b]/\Q (.str (if b=true then Str.ofString "True" else Str.ofString "False")) H):=by
 intro Aa s σ H xs us Q I r h
 obtain⟨b,rfl,q⟩:=h
 obtain⟨u,rfl,rx⟩:=gL r
 cases rx
 exact P.str_of_bool ⟨.str _,H,I.tok _,⟨_,rfl⟩,q⟩
abbrev aNy:List V->Hp->VK->Prop:=λxs H Q=>(∃x,xs=[.str x]/\Q (.str x) H)\/((∃n:Int,xs=[.int n]/\0<=n/\n<18446744073709551616/\Q (.str (cR n)) H)\/((xs=[.non]/\Q (.str "None") H)\/((∃b:Bool,xs=[.bl b]/\Q (.str (if b=true then Str.ofString "True" else Str.ofString "False")) H)\/aNx H xs Q)))
theorem sB(hg:X.A.guards=some [])(hu:X.A.units+64<cLine):CallR X (.type "str") aNy:=aAm.or (lQ.or (aAo.or (aAp.or (aAn hg hu))))
end
theorem o0:hY aNy aCw:=by
 intro F P H ds xs Q Qx R hs g k
 rcases g with⟨x,rfl,q⟩ | ⟨n,rfl,h0,h1,q⟩ | ⟨rfl,q⟩ | ⟨b,rfl,q⟩ | ⟨d,p,rfl,hp,h1,h2,h3,q⟩
 ·obtain ⟨y,rfl,hx⟩:=pQ hs
  cases hx.str_eq
  exact .inl ⟨_,rfl,k _ _ H (R.add (IsX.of_str _)) q⟩
 ·obtain ⟨y,rfl,hx⟩:=pQ hs
  cases hx.int_eq
  exact .inr (.inl ⟨_,rfl,h0,h1,k _ _ H (R.add (IsX.of_str _)) q⟩)
 ·obtain ⟨y,rfl,hx⟩:=pQ hs
  cases hx.non_eq
  exact .inr (.inr (.inl ⟨rfl,k _ _ H (R.add (IsX.of_str _)) q⟩))
 ·obtain ⟨y,rfl,hx⟩:=pQ hs
  cases hx.bl_eq
  exact .inr (.inr (.inr (.inl ⟨_,rfl,k _ _ H (R.add (IsX.of_str _)) q⟩)))
 ·obtain ⟨y,rfl,hx⟩:=pQ hs
  refine .inr (.inr (.inr (.inr ?_)))
  have At:=k _ _ H (R.add (IsX.of_str p.shown)) q
  unfold pyD at hp
  split at hp
  ·cases hp
   obtain⟨a,vs,rfl,h4,h5⟩:=hx.lst_eq
   obtain⟨v,rfl,hv⟩:=pQ h5
   cases hv.int_eq
   exact⟨a,_,rfl,h1,h2,by have:=fJ;omega,At,.inl ⟨_,rfl,.of (R.hv _ _ h4)⟩⟩
  ·cases hp
   obtain⟨a,vs,rfl,h4,h5⟩:=hx.lst_eq
   obtain⟨v,rfl,hv⟩:=pQ h5
   cases hv.str_eq
   exact⟨a,_,rfl,h1,h2,by have:=fJ;omega,At,.inr (.inl ⟨_,rfl,.of (R.hv _ _ h4)⟩)⟩
  ·cases hp
   obtain⟨a,vs,rfl,h4,h5⟩:=hx.tup_eq
   obtain⟨v,rfl,hv⟩:=pQ h5
   cases hv.str_eq
   exact⟨a,_,rfl,h1,h2,by have:=fJ;omega,At,.inr (.inr (.inl ⟨_,rfl,.of (R.hv _ _ h4)⟩))⟩
  ·cases hp
   obtain⟨a,vs,rfl,h4,h5⟩:=hx.dic_eq
   cases h5
   exact⟨a,_,rfl,h1,h2,by have:=fJ;omega,At,.inr (.inr (.inr ⟨rfl,qX R h4⟩))⟩
  ·cases hp
def top(i:Nat):Stmt:=PySem.Challenge.pw_laidfields_k47_texts_of_no_value.main.body.getD i (.Pass ⟨0,0,0,0⟩)
abbrev hi_:Stmt:=top 9
abbrev hj_:Stmt:=top 12
abbrev oJ:Stmt:=top 13
abbrev hk_:Stmt:=top 14
abbrev hl_:Stmt:=top 15
abbrev ft_:Stmt:=top 20
abbrev du_:Stmt:=top 21
abbrev ds_:Stmt:=top 23
abbrev di_:Stmt:=top 24
abbrev fe_:Stmt:=top 25
abbrev dh_:Stmt:=top 26
abbrev ce_:Stmt:=top 27
abbrev dj_:Stmt:=top 28
abbrev fh_:Stmt:=top 30
abbrev fg_:Stmt:=top 31
abbrev hh_:Stmt:=top 32
abbrev et_:Stmt:=top 33
abbrev dw_:Stmt:=top 34
abbrev ga_:Stmt:=top 35
abbrev ig_:Stmt:=top 36
abbrev de_:Stmt:=top 37
abbrev df_:Stmt:=top 38
abbrev ee_:Stmt:=top 39
abbrev ed_:Stmt:=top 40
abbrev cq_:Stmt:=top 41
abbrev dg_:Stmt:=top 42
abbrev dx_:Stmt:=top 43
abbrev ei_:Stmt:=top 44
abbrev ff_:Stmt:=top 45
abbrev ci_:Stmt:=top 46
abbrev bz_:Stmt:=top 47
abbrev cr_:Stmt:=top 48
abbrev go_:Stmt:=top 49
abbrev bo_:Stmt:=top 50
abbrev iu_:Stmt:=top 51
abbrev lD:Stmt:=top 52
theorem wE:FnScope AS AS (aM hi_):=iY (by decide +kernel)
theorem wF:FnScope AY AY (aM hj_):=iY (by decide +kernel)
theorem iL:FnScope ["kind","text","reader","value"] AB (aM ft_):=iY (by decide +kernel)
theorem oI:FnScope AW AW (aM du_):=iY (by decide +kernel)
theorem oF:FnScope AC AC (aM ds_):=iY (by decide +kernel)
theorem jE:FnScope ["reader","kind","number"] AC (aM di_):=iY (by decide +kernel)
theorem iX:FnScope ["reader","kind","n","values","k"] AV (aM fe_):=iY (by decide +kernel)
theorem jD:FnScope ["reader","fields","value"] AF (aM dh_):=iY (by decide +kernel)
theorem dY:FnScope ["reader","fields","value","field","ahead"] AF (aM ce_):=iY (by decide +kernel)
theorem jF:FnScope ["reader","kinds","mark"] AZ (aM dj_):=iY (by decide +kernel)
theorem oH:FnScope BC BC (aM fh_):=iY (by decide +kernel)
theorem dG:FnScope ["cell","many","found","rest","stir","k","again"] AG (aM fg_):=iY (by decide +kernel)
theorem wD:FnScope AG AG (aM hh_):=iY (by decide +kernel)
theorem wC:FnScope AD AD (aM et_):=iY (by decide +kernel)
theorem gM:FnScope AO AU (aM dw_):=iY (by decide +kernel)
theorem iF:FnScope ["deck","k","alike","name","j"] AX (aM ga_):=iY (by decide +kernel)
theorem u5:FnScope BD BD (aM ig_):=iY (by decide +kernel)
theorem cU:FnScope AE ["kind"] (aM de_):=iY (by decide +kernel)
theorem gY:FnScope ["deck","depth","most","kind"] AT (aM df_):=iY (by decide +kernel)
theorem gU:FnScope ["width","found","k"] ["width"] (aM ee_):=iY (by decide +kernel)
theorem eW:FnScope ["kind","deck","most","way","found","name","part","k"] AR (aM ed_):=iY (by decide +kernel)
theorem oG:FnScope AH AH (aM cq_):=iY (by decide +kernel)
theorem tJ:FnScope AI AI (aM dg_):=iY (by decide +kernel)
theorem jR:FnScope ["thing","found","name"] AS (aM dx_):=iY (by decide +kernel)
theorem kJ:FnScope ["word","sign"] ["word"] (aM ei_):=iY (by decide +kernel)
theorem eX:FnScope ["text","parts","level","k"] AW (aM ff_):=iY (by decide +kernel)
theorem cL:FnScope AM AB (aM ci_):=iY (by decide +kernel)
theorem dB:FnScope ["fields","parts","some","found","at","name","kind"] AQ (aM bz_):=iY (by decide +kernel)
theorem fI:FnScope ["text","deck","at","sign","way","more"] AL (aM cr_):=iY (by decide +kernel)
theorem fO:FnScope ["kind","text","found","caught","e"] AB (aM go_):=iY (by decide +kernel)
theorem bZ:FnScope ["text","deck","parts","at","some","one","other","way","kept"] AL (aM bo_):=iY (by decide +kernel)
theorem gX:FnScope ["number","some"] ["number"] (aM iu_):=iY (by decide +kernel)
theorem eI:FnScope ["script","k","deck","ways","kind","other","text","way","due","handed","kept","word","found"] ["script"] (aM lD):=iY (by decide +kernel)
abbrev yS:Stmt:=dU (top 22) 0
theorem aJc:FnScope BB BB (aM yS):=iY (by decide +kernel)
abbrev if_:Stmt:=dU (top 22) 1
theorem u4:FnScope AA AA (aM if_):=iY (by decide +kernel)
abbrev tL:Stmt:=dU (top 22) 2
theorem aJb:FnScope AA AA (aM tL):=iY (by decide +kernel)
abbrev fz_:Stmt:=dU (top 22) 3
theorem wB:FnScope ["self"] ["self"] (aM fz_):=iY (by decide +kernel)
abbrev fy_:Stmt:=dU (top 22) 4
theorem lW:FnScope ["self","signs","begin"] AA (aM fy_):=iY (by decide +kernel)
abbrev dt_:Stmt:=dU (top 22) 5
theorem jQ:FnScope ["self","most_figures","figures"] AJ (aM dt_):=iY (by decide +kernel)
theorem cp_{G K:XS}{ρ:En}{D:XD}(M:En->Prop)(h1:∀ρ',M ρ'->K ρ' D)(h2:∀D':XD,(∀ρ',M ρ'->D'.nx ρ')->G ρ D'):cI G K ρ D:=h2 { D with nx:=λρ'=>K ρ' D } h1
theorem lP{i:Nat}{t:XT}{K:XS}{ρ:En}{D:XD}(h:t ρ λs ρ'=>K (ρ'.set i (.v s)) D):cI (eZ i t) K ρ D:=h
theorem aLs{i:Nat}{t:XT}{ρ:En}{D:XD}(h:t ρ λs ρ'=>D.nx (ρ'.set i (.v s))):eZ i t ρ D:=h
theorem m6{i:Nat}{s:Sv}{ρ:En}{Q:Sv->En->Prop}(hi:ρ[i]? = some (.v s))(h:Q (.tr s.d) (ρ.set i (vT s.d))):bM i ρ Q:=by
 unfold bM
 rw[hi]
 exact h
theorem aWk{i:Nat}{s:Sv}{ρ:En}{Q:Sv->En->Prop}{d:Dx}(hi:ρ[i]? = some (.v s))(hs:s.d=d)(h:Q (.tr d) (ρ.set i (vT d))):bM i ρ Q:=by
 subst hs
 exact m6 hi h
theorem wU{d:Dx}{ρ:En}{Q:Sv->En->Prop}(h:Q (.tr d) ρ):xC d ρ Q:=h
theorem jj_{g:GC}{u:XA}{ρ:En}{Q:Sv->En->Prop}(h:u ρ λss ρ'=>g (ss.map Sv.d) λs=>Q s ρ'):cX g u ρ Q:=h
theorem fv_{t:XT}{u:XA}{ρ:En}{Q:List Sv->En->Prop}(h:t ρ λs ρ1=>u ρ1 λss ρ2=>Q (s::ss) ρ2):aW t u ρ Q:=h
theorem zO{ρ:En}{Q:List Sv->En->Prop}(h:Q [] ρ):cJ ρ Q:=h
theorem kL{g:G2}{ta tb:XT}{ρ:En}{Q:Sv->En->Prop}(h:ta ρ λa ρ1=>tb ρ1 λb ρ2=>g a.d b.d λs=>Q s ρ2):xOp g ta tb ρ Q:=h
theorem lJ{c:XC}{G K:XS}{ρ ρ':En}{D:XD}(hc:∀Q:Bool->En->Prop,Q false ρ'->c ρ Q)(h:K ρ' D):cI (xIf c G fD) K ρ D:=hc _ h
theorem hn_{c:XC}{G:XS}{ρ ρ':En}{D:XD}(hc:∀Q:Bool->En->Prop,Q false ρ'->c ρ Q)(h:D.nx ρ'):xIf c G fD ρ D:=hc _ h
theorem kZ{c:XC}{G K:XS}{ρ ρ':En}{D:XD}(b:Bool)(hc:∀Q:Bool->En->Prop,Q b ρ'->c ρ Q)(ht:b=true->G ρ' { D with nx:=λρ=>K ρ D })(hf:b=false->K ρ' D):cI (xIf c G fD) K ρ D:=by
 refine hc _ ?_
 cases b with
 |true=>exact ht rfl
 |false=>exact hf rfl
theorem aFy{c u:XC}{ρ:En}{Q:Bool->En->Prop}(h:c ρ λb ρ1=>if b=true then Q true ρ1 else u ρ1 Q):xOr c u ρ Q:=h
theorem aGa{c u:XC}{ρ:En}{Q:Bool->En->Prop}(h:c ρ λb ρ1=>if b=true then u ρ1 Q else Q false ρ1):yF c u ρ Q:=h
theorem aFz{c:XC}{ρ:En}{Q:Bool->En->Prop}(h:c ρ λb ρ1=>Q (!b) ρ1):aBw c ρ Q:=h
theorem wV{t:XT}{ρ:En}{Q:Bool->En->Prop} (h:t ρ λs ρ'=>match s with
 | .tr (.bl b)=>Q b ρ'
 |_=>False):xB t ρ Q:=h
theorem aTg{t:XT}{ρ:En}{D:XD}(h:t ρ λs ρ'=>D.rt s ρ'):gW t ρ D:=h
theorem zP{u:XA}{ρ:En}{Q:Sv->En->Prop}(h:u ρ λss ρ'=>ss.length<=1000000/\Q (.ol (ss.map Sv.d)) ρ'):iV u ρ Q:=h
theorem zQ{f:Dx->Option Bool}{i:Nat}{d:Dx}{b:Bool}{ρ:En}{Q:Sv->En->Prop}(hi:ρ[i]? = some (vT d))(e:f d=some b)(q:Q (.tr (.bl b)) ρ):yE f (bM i) ρ Q:=by
 unfold yE bM
 rw[hi]
 show match f d with | some b=>Q (.tr (.bl b)) (ρ.set i (.v (.tr d))) | none=>False
 rw[e]
 have e2:ρ.set i (vT d)=ρ:=by
  obtain⟨h1,h2⟩:=aY.mp hi
  rw[<-h2,List.set_getElem_self]
 rw[e2]
 exact q
theorem uM{α:Type}{a b:α}:[a,b].length<=1000000:=by show 2<=1000000;decide
theorem pD{n:Nat}(h:n<=1000000):n<=1000000:=h
theorem gl_{l:List Dx}{r:Int}{Q:Sv->Prop}(h0:0<=r)(h1:r<l.length)(q:∀d∈l,Q (.tr d)):ixX (.lst l) (.int r) Q:=by
 obtain⟨x,hx,hm⟩:=pY h0 h1
 show(match atI l r with | some d=>Q (.tr d) | none=>False)
 rw[hx]
 exact q x (bN hm)
theorem aTh{c:XC}{G K:XS}{ρ ρ':En}{D:XD}(b:Bool)(hc:∀Q:Bool->En->Prop,Q b ρ'->c ρ Q)(ht:b=true->G ρ' D)(hf:b=false->K ρ' D):xIf c G K ρ D:=by
 refine hc _ ?_
 cases b with
 |true=>exact ht rfl
 |false=>exact hf rfl
def aJ(x:Str):List Nat:=x.cps.toList
theorem gE(x:Str):x.length=(aJ x).length:=by simp[aJ,Str.length]
theorem qO(x y:Str):aJ (x++y)=aJ x++aJ y:=by
 show(x.cps++y.cps).toList=_
 rw[Array.toList_append]
 rfl
theorem cd_{x y:Str}(h:aJ x=aJ y):x=y:=by
 obtain⟨a⟩:=x
 obtain⟨b⟩:=y
 have:a=b:=Array.ext' h
 rw[this]
theorem aGy{x:Str}{k:Int}(h0:0<=k)(h1:k<=(aJ x).length):aJ (Txt.slice x none (some k))=(aJ x).take k.toNat:=by
 have e:=beq_iff_eq.mp (PyProof.Rows.slice_closes_toL (x:=x) h0 (by rw[gE];exact h1))
 rw[e]
 show(((x.cps.toList.drop 0).take (k-0).toNat).toArray).toList=_
 simp[aJ]
def Low(l:List Nat):Prop:=∀c∈l,97<=c/\c<=122
def Nm(x:Str):Prop:=1<=(aJ x).length/\(aJ x).length<=8/\Low (aJ x)
theorem en_(x y:Str):(x++y).length=x.length+y.length:=by rw[gE,qO,aB,gE x,gE y]
mutual
def Kd.Full:Kd->Prop
 | .num _ _=>True
 | .row k _=>k.Full
 | .rcd fs=>fs≠[]/\aOu fs
 | .cho ks=>ks≠[]/\aOt ks
def aOu:List (Str×Kd)->Prop
 | []=>True
 |f::r=>f.2.Full/\aOu r
def aOt:List Kd->Prop
 | []=>True
 |k::r=>k.Full/\aOt r
end
mutual
def Kd.Fit:Kd->Prop
 | .num w m=>1<=w/\w<=8/\(m=1\/m=2\/m=4\/m=8)
 | .row k n=>k.Fit/\1<=n/\n<=20
 | .rcd fs=>iM fs/\1<=fs.length/\fs.length<=8/\(fs.map (·.1)).Nodup
 | .cho ks=>iD ks/\1<=ks.length/\ks.length<=6
def iM:List (Str×Kd)->Prop
 | []=>True
 |f::r=>(Nm f.1/\f.2.Fit)/\iM r
def iD:List Kd->Prop
 | []=>True
 |k::r=>k.Fit/\iD r
end
mutual
theorem Kd.Fit.ok:∀(k:Kd),k.Fit->k.Ok
 | .num w m,h=>by
  obtain⟨a,b,c⟩:=h
  exact⟨a,b,by omega,by omega⟩
 | .row k n,h=>⟨Kd.Fit.ok k h.1,by have:=h.2.1;omega,by have:=h.2.2;omega⟩
 | .rcd fs,h=>⟨m3 fs h.1,by have:=h.2.2.1;omega⟩
 | .cho ks,h=>⟨l_ ks h.1,by have:=h.2.2;omega⟩
theorem m3:∀(fs:List (Str×Kd)),iM fs->okF fs
 | [],_=>trivial
 |f::r,h=>⟨Kd.Fit.ok f.2 h.1.2,m3 r h.2⟩
theorem l_:∀(ks:List Kd),iD ks->okK ks
 | [],_=>trivial
 |k::r,h=>⟨Kd.Fit.ok k h.1,l_ r h.2⟩
end
theorem rW:∀{fs:List (Str×Kd)} {f:Str×Kd},iM fs->Nm f.1->f.2.Fit->iM (fs++[f])
 | [],_,_,a,b=>⟨⟨a,b⟩,trivial⟩
 |g::r,f,h,a,b=>⟨h.1,rW h.2 a b⟩
theorem rV:∀{ks:List Kd} {k:Kd},iD ks->k.Fit->iD (ks++[k])
 | [],_,_,b=>⟨b,trivial⟩
 |g::r,f,h,b=>⟨h.1,rV h.2 b⟩
theorem pN:∀{fs:List (Str×Kd)} {f:Str×Kd} {n:Nat},eB fs<=n->f.2.deep<=n->eB (fs++[f])<=n
 | [],f,n,_,b=>by show max f.2.deep 0<=n;omega
 |g::r,f,n,h,b=>by
  have h':max g.2.deep (eB r)<=n:=h
  have:=pN (fs:=r) (f:=f) (n:=n) (by omega) b
  show max g.2.deep (eB (r++[f]))<=n
  omega
theorem pM:∀{ks:List Kd} {k:Kd} {n:Nat},fF ks<=n->k.deep<=n->fF (ks++[k])<=n
 | [],f,n,_,b=>by show max f.deep 0<=n;omega
 |g::r,f,n,h,b=>by
  have h':max g.deep (fF r)<=n:=h
  have:=pM (ks:=r) (k:=f) (n:=n) (by omega) b
  show max g.deep (fF (r++[f]))<=n
  omega
def tk:Nat->Int
 | 0=>0
 |n+1=>3000+12*tk n
mutual
def Kd.x:Kd->Dx
 | .num w m=>.tup [.str "number",.int w,.int m]
 | .row k n=>.tup [.str "row",k.x,.int n]
 | .rcd fs=>.tup [.str "record",.lst (xF fs)]
 | .cho ks=>.tup [.str "choice",.lst (xK ks)]
def xF:List (Str×Kd)->List Dx
 | []=>[]
 |f::r=>.tup [.str f.1,f.2.x]::xF r
def xK:List Kd->List Dx
 | []=>[]
 |k::r=>k.x::xK r
end
theorem gr_:∀fs:List (Str×Kd),xF fs=fs.map λf=>.tup [.str f.1,f.2.x]
 | []=>rfl
 |f::r=>by rw[xF,gr_ r];rfl
theorem gj_:∀ks:List Kd,xK ks=ks.map Kd.x
 | []=>rfl
 |f::r=>by rw[xK,gj_ r];rfl
def rdr(t:Str)(p:Nat):FsO:=[("text",.tr (.str t)),("place",.tr (.int (p:Int)))]
abbrev fT:Str:= "0123456789"
abbrev jV:Str:= ", "
def gPA(C0:Addr):GO:=λC l ds Q=>C=C0/\∃(t y:Str) (p:Nat),l=rdr t p/\ds=[.str y]/\p<=t.length/\t.length<=100000/\(∀b,b=(aJ y).isPrefixOf ((aJ t).drop p)->Q (.tr (.bl b)) (rdr t (if b=true then p+y.length else p)))
theorem sZ{f:Nat->Bool}:∀{l:List Nat} {k:Nat},(∀c∈l.take k,f c=true)->(∀c,l[k]? = some c->f c=false)->l.takeWhile f=l.take k
 | [],_,_,_=>by simp
 |a::l,0,_,h2=>by rw[List.takeWhile_cons,h2 a rfl];simp
 |a::l,k+1,h,h2=>by
  rw[List.takeWhile_cons,h a (by simp),if_pos rfl,List.take_succ_cons,sZ (λc hc=>h c (by rw[List.take_succ_cons];exact aC _ hc)) (λc hc=>h2 c (by simpa using hc))]
theorem aPy{t y:Str}{p:Nat}(hp:p<=t.length):st3 t y (p:Int)=(aJ y).isPrefixOf ((aJ t).drop p):=by
 have hf:PySem.fromIndex t.length (p:Int)=p:=by
  unfold PySem.fromIndex
  rw[if_neg (by omega)]
  omega
 have hx:(t.cps.extract p (p+y.length)).toList=((aJ t).drop p).take y.length:=by
  rw[Array.toList_extract]
  simp only[aJ,List.extract_eq_take_drop,Nat.add_sub_cancel_left]
 unfold st3 Builtin.Str.subAt
 rw[hf,fC,dE,decide_eq_true_eq,beq_iff_eq,eQ,List.prefix_iff_eq_take,<-gE]
 constructor
 ·rintro ⟨_,h⟩
  rw[<-hx,h]
  rfl
 ·intro h
  refine⟨?_,Array.ext' (by rw[hx];exact h.symm)⟩
  have h2:=congrArg List.length h
  rw[fR,bS,<-gE,<-gE]at h2
  omega
theorem aJi{t y:Str}{p:Nat}(h:(aJ y).isPrefixOf ((aJ t).drop p)=true):y.length<=t.length:=by
 have:=(eQ.mp h).length_le
 rw[bS,<-gE,<-gE]at this
 omega
theorem aDi{t:Str}{p:Nat}{o:Ow}(ho:List.lookup (Str.ofString "place") (rdr t p)=some o):∃d,o=.tr d:=by
 cases ho
 exact⟨_,rfl⟩
def inT(z:Str)(c:Nat):Bool:= !(Builtin.Str.occurrences z ⟨#[c]⟩ 0 z.length 1).isEmpty
def oK(z t:Str)(p:Nat):List Nat:=((aJ t).drop p).takeWhile (inT z)
def gTR(C0:Addr):GO:=λC l ds Q=>C=C0/\∃(t z:Str) (p:Nat),l=rdr t p/\ds=[.str z]/\p<=t.length/\t.length<=100000/\Q (.tr (.str ⟨(oK z t p).toArray⟩)) (rdr t (p+(oK z t p).length))
def noT:Dx->Prop
 | .str _=>False | .scr _ _=>False | .ins _ _=>False | .exc _=>False
 |_=>True
def aTk(C0 CN:Addr):GOE:=λC l ds Q Ex=>C=C0/\l=[]/\∃d:Dx,ds=[d]/\((∃t,d=.str t/\Q (.tr .non) (rdr t 0))\/noT d/\Ex (.ref CN))
def aGc(C0 CN:Addr):GOE:=λC l ds Q Ex=>C=C0/\∃(t y:Str) (p:Nat),l=rdr t p/\ds=[.str y]/\p<=t.length/\t.length<=100000/\((aJ y).isPrefixOf ((aJ t).drop p)=true->Q (.tr .non) (rdr t (p+y.length)))/\((aJ y).isPrefixOf ((aJ t).drop p)=false->Ex (.ref CN))
def aYq(C0 CN:Addr):GOE:=λC l ds Q Ex=>C=C0/\∃(t:Str) (p:Nat),l=rdr t p/\ds=[]/\p<=t.length/\t.length<=100000/\(p=t.length->Q (.tr .non) (rdr t p))/\(p<t.length->Ex (.ref CN))
section
variable{f:Addr}{C_Reader Ab:Addr}
theorem aEv(F:Fun K "__init__" "Reader.__init__" yS f fd)(Ae:Cls K C_Reader)(na_Reader_text:NoAttr K C_Reader "text")(na_Reader_place:NoAttr K C_Reader "place")(Ac:mg "isinstance" = none)(m_str:mg "str" = none)(Ai:PyProof.Rows.OwnCls "NoText" Ab veM "ValueError.__new__" mg base):FnOk P w K mg base (CXe P w) 1 f fd BB (eV (aTk C_Reader Ab)):=by
 refine kO F aJc (λC l ds Q Ex h=>by obtain⟨_,_,t,rfl,_⟩:=h;rfl) (by decide) λAk A outer s H E Ex hr=>?_
 have Am:=jM hr
 have Aj:=aR Am
 refine⟨_,(cV (fL (fm_ (qI (vL .str Ac (bL (pv 1)) (vB (v:=.ty "str") rfl m_str jp_ rfl)))) (dH (fb_ Ai rfl (by rfl))) fW)
  (cV (sN (C:=C_Reader) Ae na_Reader_text (pv 0) (bL (pv 1)))
  (dH (sN (C:=C_Reader) Ae na_Reader_place (pv 0) cK)))),λC a dx l ds Q h=>?_⟩
 obtain⟨rfl,rfl,d,rfl,h⟩:=h
 rcases h with⟨t,rfl,q⟩ | ⟨hn,q⟩
 ·refine ⟨rfl,(by decide),(fun o ho=>by cases ho),?_⟩
  refine⟨rfl,(by decide:1<1000),(λo ho=>by cases ho),?_⟩
  exact⟨rfl,rfl,rfl,q⟩
 ·cases d with
  |int i=>exact q
  |bl i=>exact q
  |non=>exact q
  |lst l=>exact q
  |tup l=>exact q
  |dic l=>exact q
  |_=>cases hn
theorem aEt(F:Fun K "take" "Reader.take" tL f fd)(CM_passes:aAz P w K mg base 1 C_Reader "passes" AA (spO (gPA C_Reader)))(Ai:PyProof.Rows.OwnCls "NoText" Ab veM "ValueError.__new__" mg base):FnOk P w K mg base (CXe P w) 2 f fd AA (eV (aGc C_Reader Ab)):=by
 refine kO F aJb (λC l ds Q Ex h=>by obtain⟨_,t,y,p,_,rfl,_⟩:=h;rfl) (by decide) λAk A outer s H E Ex hr=>?_
 have Am:=jM hr
 have Aj:=aR Am
 refine⟨_,(dH (fL (fm_ (qI (nO (C:=C_Reader) (i:=0) CM_passes (hr.mono (by omega)) (pv 0) (bR (bL (pv 1)) cB)))) (dH (fb_ Ai rfl (by rfl))) fW)),λC a dx l ds Q h=>?_⟩
 obtain⟨rfl,t,y,p,rfl,rfl,hp,hl,qy,qn⟩:=h
 refine⟨⟨rfl,rfl⟩,rfl,t,y,p,rfl,rfl,hp,hl,λb hb=>?_⟩
 cases b with
 |true=>exact⟨rfl,rfl,rfl,qy hb.symm⟩
 |false=>exact qn hb.symm
theorem uG(F:Fun K "take_end" "Reader.take_end" fz_ f fd)(Ae:Cls K C_Reader)(na_Reader_text:NoAttr K C_Reader "text")(na_Reader_place:NoAttr K C_Reader "place")(Ad:mg "len" = none)(Ai:PyProof.Rows.OwnCls "NoText" Ab veM "ValueError.__new__" mg base):FnOk P w K mg base (CXe P w) 1 f fd ["self"] (eV (aYq C_Reader Ab)):=by
 refine kO F wB (λC l ds Q Ex h=>by obtain⟨_,t,p,_,rfl,_⟩:=h;rfl) (by decide) λAk A outer s H E Ex hr=>?_
 have Am:=jM hr
 have Aj:=aR Am
 refine⟨_,(dH (fL (eE vI vJ (ep_ (C:=C_Reader) Ae na_Reader_place (pv 0)) (jJ (kI K) kY (by rfl) Ad PySem.boot_len (bR (ep_ (C:=C_Reader) Ae na_Reader_text (pv 0)) cB)) (bD _)) (dH (fb_ Ai rfl (by rfl))) fW)),λC a dx l ds Q h=>?_⟩
 obtain⟨rfl,t,p,rfl,rfl,hp,hl,qy,qn⟩:=h
 refine⟨rfl,rfl,by show t.length<=1000000;omega,?_⟩
 refine wR (λh=>?_) (λh=>?_)
 ·have h':decide ((p:Int) < (t.length:Int))=true:=h
  rw[decide_eq_true_eq]at h'
  exact qn (by omega)
 ·have h':¬ decide ((p:Int) < (t.length:Int))=true:=h
  rw[decide_eq_true_eq]at h'
  exact⟨rfl,rfl,rfl,qy (by omega)⟩
theorem zD(F:Fun K "passes" "Reader.passes" if_ f fd)(Ae:Cls K C_Reader)(na_Reader_text:NoAttr K C_Reader "text")(na_Reader_place:NoAttr K C_Reader "place")(Ad:mg "len" = none):FnOk P w K mg base CX0 1 f fd AA (spO (gPA C_Reader)):=by
 refine aZc F u4 (λC l ds Q h=>by obtain⟨_,t,y,p,_,rfl,_⟩:=h;rfl) (by decide) λAk A outer s H E hr=>?_
 have Am:=jM hr
 have Aj:=aR Am
 refine⟨_,(cV (fL (fm_ (qI (r_ (ep_ (C:=C_Reader) Ae na_Reader_text (pv 0)) (bL (pv 1)) (ep_ (C:=C_Reader) Ae na_Reader_place (pv 0))))) (dH (dX iq_)) fW)
  (cV (sN (C:=C_Reader) Ae na_Reader_place (pv 0) (gA (ep_ (C:=C_Reader) Ae na_Reader_place (pv 0)) (jJ (kI K) kY (by rfl) Ad PySem.boot_len (bR (bL (pv 1)) cB))))
  (dH (dX iq_)))),λC a dx l ds Q h=>?_⟩
 obtain⟨rfl,t,y,p,rfl,rfl,hp,hl,q⟩:=h
 refine⟨rfl,⟨t,rfl⟩,rfl,?_⟩
 have e:=aPy (y:=y) hp
 cases hb:(aJ y).isPrefixOf ((aJ t).drop p)with
 |false =>
  rw[hb]at e
  have e':(!(st3 t y (p:Int)))=true:=by rw[e];rfl
  refine(if_pos e').mpr ?_
  exact⟨rfl,rfl,rfl,q false hb.symm⟩
 |true =>
  rw[hb]at e
  have e':¬((!(st3 t y (p:Int)))=true):=by rw[e];decide
  refine(if_neg e').mpr ?_
  have hy:=aJi hb
  refine⟨rfl,by show y.length<=1000000;omega,rfl,(by show 2<1000;decide),λo ho=>aDi ho,?_⟩
  exact⟨rfl,rfl,rfl,q true hb.symm⟩
theorem uF(F:Fun K "take_run" "Reader.take_run" fy_ f fd)(Ae:Cls K C_Reader)(na_Reader_text:NoAttr K C_Reader "text")(na_Reader_place:NoAttr K C_Reader "place")(Ad:mg "len" = none):FnOk P w K mg base CX0 1 f fd AA (spO (gTR C_Reader)):=by
 refine aZc F lW (λC l ds Q h=>by obtain⟨_,t,z,p,_,rfl,_⟩:=h;rfl) (by decide) λAk A outer s H E hr=>?_
 have Am:=jM hr
 have Aj:=aR Am
 refine⟨_,(cV (fM (i:=2) lW.nd rfl (Or.inl rfl) (ep_ (C:=C_Reader) Ae na_Reader_place (pv 0)))
  (cV (nN PassesOwn.never (XW.pt (gh_ (eE vI vJ (ep_ (C:=C_Reader) Ae na_Reader_place (pv 0)) (jJ (kI K) kY (by rfl) Ad PySem.boot_len (bR (ep_ (C:=C_Reader) Ae na_Reader_text (pv 0)) cB)) (bD _)) (el_ (eE gu_ uC (jI K (ep_ (C:=C_Reader) Ae na_Reader_text (pv 0)) (ep_ (C:=C_Reader) Ae na_Reader_place (pv 0)) (λ_ _=>rfl)) (bL (pv 1)) (by with_unfolding_all rfl))))) (dH (sN (C:=C_Reader) Ae na_Reader_place (pv 0) (gA (ep_ (C:=C_Reader) Ae na_Reader_place (pv 0)) cK))))
  (dH (dX (kX K (ep_ (C:=C_Reader) Ae na_Reader_text (pv 0)) (jO (bL (pv 2))) (jO (ep_ (C:=C_Reader) Ae na_Reader_place (pv 0)))))))),λC a dx l ds Q h=>?_⟩
 obtain⟨rfl,t,z,p,rfl,rfl,hp,hl,q⟩:=h
 refine⟨rfl,?_⟩
 refine⟨λm ρ=>∃k:Nat,p+k+m=t.length/\(∀c∈((aJ t).drop p).take k,inT z c=true)/\ρ=[.bo (.oi C a dx (rdr t (p+k))),vT (.str z),vT (.int (p:Int))],⟨t.length-p,0,by omega,λc hc=>by simp at hc,rfl⟩,?_⟩
 rintro m ρ ⟨k,hk,Ci,rfl⟩
 have Jl:=gE t
 refine⟨rfl,rfl,by show t.length<=1000000;omega,?_⟩
 have stop:∀n,oK z t p=((aJ t).drop p).take n->n<=t.length-p->n=k->hU C a dx Q (.tr (.str (Txt.slice t (some (p:Int)) (some ((p+k:Nat):Int))))) [.bo (.oi C a dx (rdr t (p+k))),vT (.str z),vT (.int (p:Int))]:=λn hn B8 e=>by
  subst e
  have Ea:Txt.slice t (some (p:Int)) (some ((p+n:Nat):Int))=⟨(oK z t p).toArray⟩:=by
   rw[beq_iff_eq.mp (PyProof.Rows.slice_closesL (x:=t) (i:=(p:Int)) (j:=((p+n:Nat):Int)) (by omega) (by omega) (by omega)),hn]
   congr 3
   omega
  have Fv:(oK z t p).length=n:=by rw[hn,fR,bS];omega
  rw[Ea]
  rw[Fv]at q
  exact⟨rfl,rfl,rfl,q⟩
 by_cases C6:p+k<t.length
 ·have hd:decide ((((p + k:Nat):Int)) < ((t.length:Nat):Int))=true:=dzT (by omega)
  refine(if_pos hd).mpr ?_
  obtain⟨c,hc⟩:∃c,(aJ t)[p+k]? = some c:=⟨_,aO (by omega)⟩
  have De:atI t.cps.toList ((p+k:Nat):Int)=some c:=pU hc
  refine⟨rfl,rfl,by show t.length<=1000000;omega,?_⟩
  show match atI t.cps.toList ((p+k:Nat):Int)with | some c=>_ | none=>False
  rw[De]
  show if inT z c=true then _ else _
  have Ds:((aJ t).drop p)[k]? = some c:=by rw[List.getElem?_drop];exact hc
  cases hz:inT z c with
  |true =>
   refine(if_pos rfl).mpr ?_
   refine⟨λρ'=>∃m',m'<m/\∃k:Nat,p+k+m'=t.length/\(∀c∈((aJ t).drop p).take k,inT z c=true)/\ρ'=[.bo (.oi C a dx (rdr t (p+k))),vT (.str z),vT (.int (p:Int))],λρ' h=>h,?_⟩
   refine⟨rfl,rfl,(by show 2<1000;decide),λo ho=>aDi ho,m-1,by omega,k+1,by omega,λc' Jw=>?_,rfl⟩
   rw[List.take_succ,Ds]at Jw
   rcases bF.mp Jw with h | h
   ·exact Ci c' h
   ·rw[aI.mp h];exact hz
  |false =>
   refine(if_neg bO).mpr ?_
   exact⟨rfl,rfl,(by show t.length<=1000000;omega),stop k (sZ Ci λc' h=>by rw[Ds]at h;cases h;exact hz) (by omega) rfl⟩
 ·have hd:¬ (decide ((((p + k:Nat):Int)) < ((t.length:Nat):Int))=true):=by rw [decide_eq_true_eq]; omega
  refine(if_neg hd).mpr ?_
  exact⟨rfl,rfl,(by show t.length<=1000000;omega),stop k (sZ Ci λc' h=>by
   have:=(aY.mp h).1
   rw[bS]at this
   omega) (by omega) rfl⟩
end
theorem eq_{n:Int}(h:0<=n):aJ (cR n)=(Nat.toDigits 10 n.toNat).map Char.toNat:=by
 have e:=PySem.W.KIN.signs_num n.toNat
 rw[cW h]at e
 exact e
theorem z_:∀c:Fin 10,inT fT (48+c.val)=true:=by decide +kernel
theorem aAf{c:Nat}{m:Nat}(h:c∈(Nat.toDigits 10 m).map Char.toNat):inT fT c=true:=by
 obtain⟨ch,Ed,rfl⟩:=bX.mp h
 have r:=PyProof.Rows.digit_range (Nat.isDigit_of_mem_toDigits (by decide) (by decide) Ed)
 have:=z_ ⟨ch.toNat-48,by omega⟩
 rwa [show 48+(ch.toNat-48)=ch.toNat by omega]at this
theorem xP:∀d:Nat,d<10->(Nat.digitChar d).toNat=48+d:=by decide
theorem xO(m:Nat):∃c r,(Nat.toDigits 10 m).map Char.toNat=c::r/\(r=[]\/c≠48)/\(0<m->c≠48):=by
 induction m using Nat.strongRecOn with
 |_ m ih =>
  by_cases h:m<10
  ·rw [Nat.toDigits_of_lt_base h]
   have:=xP m h
   exact⟨_,[],rfl,.inl rfl,λh0=>by omega⟩
  ·have hm:m % 10 < 10:=Nat.mod_lt m (by decide)
   have t:Nat.toDigits 10 (m/10)++Nat.toDigits 10 (m%10)=Nat.toDigits 10 (10*(m/10)+m%10):=Nat.toDigits_append_toDigits (by decide) (by omega) hm
   rw[Nat.div_add_mod]at t
   obtain⟨c,r,e,_,h3⟩:=ih (m/10) (by omega)
   have hc:=h3 (by omega)
   rw[<-t,bT,e]
   exact⟨c,r++(Nat.toDigits 10 (m%10)).map Char.toNat,rfl,.inr hc,λ_=>hc⟩
theorem is_{n:Int}(h:0<=n):(∀c∈aJ (cR n),inT fT c=true)/\∃c r,aJ (cR n)=c::r/\(r=[]\/c≠48):=by
 rw[eq_ h]
 refine⟨λc hc=>aAf hc,?_⟩
 obtain⟨c,r,e,h2,_⟩:=xO n.toNat
 exact⟨c,r,e,h2⟩
theorem he_{n:Int}{k:Nat}(h:0<=n)(h1:n<10^k)(hk:0<k):(cR n).length<=k:=by
 rw[gE,eq_ h,aG]
 refine(Nat.length_toDigits_le_iff (by decide) hk).mpr ?_
 have e:(10:Int)^k=((10^k:Nat):Int):=by push_cast;rfl
 rw[e]at h1
 omega
theorem aNj{n:Int}{w:Nat}(h:0<=n)(hw:1<=w)(h1:n<256^w):(cR n).length<=3*w:=by
 refine he_ h ?_ (by omega)
 have e:(10:Int)^(3*w)=1000^w:=by rw[Int.pow_mul];rfl
 rw[e]
 have a:(256:Nat)^w<=1000^w:=Nat.pow_le_pow_left (by decide) w
 have b:(256:Int)^w<=1000^w:=by exact_mod_cast a
 omega
theorem uQ{z:Str}{c:Nat}:inT z c=true↔c∈aJ z:=by
 unfold inT
 rw[PySem.StrLaws.found_one]
 exact decide_eq_true_iff
theorem aZd:∀c∈aJ fT,48<=c/\c<=57:=by decide +kernel
theorem m4{c:Nat}(h:inT fT c=true):48<=c/\c<=57:=aZd c (uQ.mp h)
def vH(l:List Nat):Prop:=(∀c∈l,inT fT c=true)/\∃c r,l=c::r/\(r=[]\/c≠48)
theorem pJ{n:Int}(h:0<=n):vH (aJ (cR n)):=is_ h
theorem m8{c:Nat}(h:48<=c/\c<=57):(Nat.digitChar (c-48)).toNat=c:=by
 have:=xP (c-48) (by omega)
 omega
theorem xD:∀(m:Nat) (l:List Nat),l.length=m->vH l->∃n:Nat,(Nat.toDigits 10 n).map Char.toNat=l/\(∀c r,l=c::r->c≠48->0<n)
 | 0,l,hm,h=>by
  obtain⟨_,c,r,rfl,_⟩:=h
  simp at hm
 |m+1,l,hm,h=>by
  obtain⟨ha,c,r,rfl,hc⟩:=h
  rcases List.eq_nil_or_concat r with rfl | ⟨r',d,Dl⟩
  ·have hr:=m4 (ha c aA)
   refine⟨c-48,?_,λc' r' e h48=>by cases e;omega⟩
   rw[Nat.toDigits_of_lt_base (by omega)]
   show [(Nat.digitChar (c-48)).toNat]=[c]
   rw[m8 hr]
  ·rw [List.concat_eq_append] at Dl
   subst Dl
   have Et:c≠48:=hc.resolve_left (by simp)
   obtain⟨n,h1,h2⟩:=xD m (c::r') (by simp at hm ⊢;omega) ⟨λx hx=>ha x (by rcases aF.mp hx with rfl | hx;exact aA;exact aC _ (aK _ hx)),c,r',rfl,.inr Et⟩
   have hn:=h2 c r' rfl Et
   have hr:=m4 (ha d (aC _ (aE _ aA)))
   refine⟨10*n+(d-48),?_,λ_ _ _ _=>by omega⟩
   rw[<-Nat.toDigits_append_toDigits (by decide) hn (by omega),bT,h1,Nat.toDigits_of_lt_base (by omega)]
   show c::r'++[(Nat.digitChar (d-48)).toNat]=_
   rw[m8 hr]
   rfl
theorem xA{l:List Nat}(h:vH l):∃n:Int,0<=n/\l=aJ (cR n):=by
 obtain⟨n,h1,_⟩:=xD l.length l rfl h
 exact⟨n,by omega,by rw[eq_ (by omega),gF,h1]⟩
theorem uJ{a b:Int}(ha:0<=a)(hb:0<=b)(h:aJ (cR a)=aJ (cR b)):a=b:=by
 rw[eq_ ha,eq_ hb]at h
 have h2:=congrArg PySem.NumText.digitsVal h
 rw[PySem.W.KIN.val_back,PySem.W.KIN.val_back]at h2
 omega
theorem nU{n:Int}(h:0<=n)(hl:(cR n).length<=600):PySem.intText? (cR n)=some n:=by
 obtain⟨m,rfl⟩:=Int.eq_ofNat_of_zero_le h
 have hd:PySem.NumText.AllDigits (cR (m:Int)).cps.toList:=by
  intro c hc
  have e:=eq_ h
  unfold aJ at e
  rw[e]at hc
  obtain⟨ch,Ed,e2⟩:=bX.mp hc
  have r:=PyProof.Rows.digit_range (Nat.isDigit_of_mem_toDigits (by decide) (by decide) Ed)
  rw[<-e2]
  exact r
 have Bv:(cR (m:Int)).cps.toList≠[]:=by
  obtain⟨c,r,e,_⟩:=(is_ h).2
  unfold aJ at e
  rw[e]
  exact List.cons_ne_nil _ _
 have e:=PySem.intText_digits hd Bv (nzL hl (by decide))
 have e2:=PySem.W.KIN.signs_num m
 have e3:(cR (m:Int)).cps.toList=(Nat.toDigits 10 m).map Char.toNat:=e2
 rw[e3,PySem.W.KIN.val_back]at e
 exact e
def aYx:GC:=λds Q=>∃x:Str,ds=[.str x]/\x.length<=100000/\(vH (aJ x)->Q (.tr (.bl true)))/\(¬vH (aJ x)->Q (.tr (.bl false)))
def aHk(t:Str)(p:Nat)(m n:Int):Prop:=0<=n/\oK fT t p=aJ (cR n)/\((cR n).length:Int)<=m
def aLw(C0 CN:Addr):GOE:=λC l ds Q Ex=>C=C0/\∃(t:Str) (p:Nat) (m:Int),l=rdr t p/\ds=[.int m]/\p<=t.length/\t.length<=100000/\m<=600/\(∀n,aHk t p m n->Q (.tr (.int n)) (rdr t (p+(cR n).length)))/\((∀n,¬aHk t p m n)->Ex (.ref CN))
theorem aQf{z t:Str}{p:Nat}:(oK z t p).length<=t.length:=by
 have h1:=(List.takeWhile_prefix (p:=inT z) (l:=(aJ t).drop p)).length_le
 rw[bS,<-gE]at h1
 unfold oK
 omega
section
variable{f:Addr}{C_Reader Ab:Addr}
theorem aKt(F:Fun K "are_figures" "are_figures" du_ f fd)(Ad:mg "len" = none)(Fb:mg "all" = none)(Bd:∃t,mg "FIGURES" = some (.str fT t)):FnOk P w K mg base CX0 1 f fd AW (spX aYx):=by
 refine jA F oI (λds Q h=>by obtain⟨_,rfl,_⟩:=h;rfl) (by decide) λAk A outer s H E hr=>?_
 have Am:=jM hr
 have Aj:=aR Am
 refine⟨_,(cV (fL (XW.pt (uV (eE (gV K Aj) hX (bL (pv 0)) fU (bD _)) (xZ (fm_ (qI (jJ (aAv K (by rfl)) aUc (by rfl) Fb aUf (bR (ea_ (dsc:=aM du_) (N:=AW) (tgs:=["sign"]) (outs:=[]) (N':=["sign"]) (by refine⟨rfl,?_,?_,?_,rfl,?_,?_,?_⟩<;>decide +kernel) (aBk (bL (pv 0))) (λ_ _ _ _ _=>(iU (i:=0) (show(["sign"]:List Str).Nodup by decide +kernel) rfl (Or.inl rfl) (.inr rfl))) (sA (n:=1) (i:=0) (by decide)) (cv_ (by decide)) (λ_ _ _ _ _=>dp_) (λ_ _ _ _ _=>(xL gu_ uC (bL (pv 0)) (ia_ (by rfl) Bd) (by with_unfolding_all rfl)))) cB))))))) (dH (dX iq_)) fW)
  (dH (dX (aMz (xL (gV K Aj) hX (jJ (kI K) kY (by rfl) Ad PySem.boot_len (bR (bL (pv 0)) cB)) cK (bD _)) (lL (xL (gk_ K Aj) kK (gC K (pv 0)) fU (bD _))))))),λds Q h=>?_⟩
 clear Aj Am
 obtain⟨x,rfl,Hv,qy,qn⟩:=h
 by_cases Cy:x ≠ "" /\ ∀c∈aJ x,inT fT c=true
 ·obtain ⟨Bv,Cy⟩:=Cy
  obtain⟨c,r,hc⟩:∃c r,aJ x=c::r:=by
   cases e:aJ x with
   |nil=>exact absurd (cd_ (y:= "") (by rw[e];rfl)) Bv
   |cons c r=>exact⟨c,r,rfl⟩
  refine kZ false (ρ':=[vT (.str x)]) (λQ q=>?_) (λhb=>by cases hb) (λhb=>?_)
  ·show if decide (x = "")=true then _ else _
   rw[dzF Bv]
   show(sgX x).length<=1000000/\dP _ _ _ _ _ (sgX x) _ _
   have esg:sgX x=(aJ x).map λc=>Dx.str ⟨#[c]⟩:=rfl
   rw[esg]
   refine⟨by rw[aG,<-gE];omega,?_⟩
   refine do_ (λc:Nat=>Dx.str ⟨#[c]⟩) (λc=>.bl (inT fT c)) (λc hm Ag P p=>p) ?_
   refine⟨(aJ x).map (inT fT),by rw[cM];rfl,?_⟩
   have e:((aJ x).map (inT fT)).all id=true:=by
    rw[gK]
    intro b hb
    obtain⟨c',h1,rfl⟩:=bX.mp hb
    exact Cy c' h1
   rw[e]
   exact q
  ·have F4:atI x.cps.toList 0=some c:=pU (xs:=aJ x) (j:=0) (by rw [hc]; rfl)
   have Al:x.length=r.length+1:=by rw[gE,hc];rfl
   refine⟨by show x.length<=1000000;omega,?_⟩
   show if decide ((x.length:Int)=1)=true then _ else _
   by_cases h1:x.length=1
   ·rw [dzT (by omega)]
    exact qy ⟨Cy,c,r,hc,.inl (List.length_eq_zero_iff.mp (by omega))⟩
   ·rw [dzF (by omega)]
    refine⟨by show x.length<=1000000;omega,?_⟩
    show match atI x.cps.toList 0 with | some c=>_ | none=>False
    rw[F4]
    show Q (.tr (.bl (!decide ((⟨#[c]⟩:Str) = "0"))))
    by_cases Et:c=48
    ·subst Et
     rw[dzT (show(⟨#[48]⟩:Str) = "0" from by decide)]
     refine qn λh=>?_
     obtain⟨_,c',r',e,h2⟩:=h
     rw[hc]at e
     cases e
     rcases h2 with h2 | h2
     ·rw[h2]at Al;exact h1 Al
     ·exact h2 rfl
    ·have Hd:(⟨#[c]⟩ : Str) ≠ "0" := fun z=>Et (by
      have:=congrArg aJ z
      exact(List.cons.inj (show [c]=[48]from this)).1)
     rw[dzF Hd]
     exact qy ⟨Cy,c,r,hc,.inr Et⟩
 ·refine kZ true (ρ':=[vT (.str x)]) (fun Q q => ?_) (fun hb => ?_) (fun hb=>by cases hb)
  ·show if decide (x = "")=true then _ else _
   by_cases Bv:x = ""
   ·rw [dzT Bv]
    exact q
   ·rw [dzF Bv]
    show(sgX x).length<=1000000/\dP _ _ _ _ _ (sgX x) _ _
    have esg:sgX x=(aJ x).map λc=>Dx.str ⟨#[c]⟩:=rfl
    rw[esg]
    refine⟨by rw[aG,<-gE];omega,?_⟩
    refine do_ (λc:Nat=>Dx.str ⟨#[c]⟩) (λc=>.bl (inT fT c)) (λc hm Ag P p=>p) ?_
    refine⟨(aJ x).map (inT fT),by rw[cM];rfl,?_⟩
    have e:((aJ x).map (inT fT)).all id=false:=by
     cases e0:((aJ x).map (inT fT)).all id with
     |false=>rfl
     |true =>
      rw[gK]at e0
      exact absurd ⟨Bv,λc hc=>e0 _ (cP hc)⟩ Cy
    rw[e]
    exact q
  ·refine qn fun h=>Cy ⟨fun z => ?_,h.1⟩
   obtain⟨_,c,r,e,_⟩:=h
   rw[z]at e
   cases e
theorem ja_(F:Fun K "take_number" "Reader.take_number" dt_ f fd)(CM_take_run:aAz P w K mg base 1 C_Reader "take_run" AA (spO (gTR C_Reader)))(CAF:Cal P w K mg base 1 "are_figures" AW (spX aYx))(Ad:mg "len" = none)(m_int:mg "int" = none)(Bd:∃t,mg "FIGURES" = some (.str fT t))(Ai:PyProof.Rows.OwnCls "NoText" Ab veM "ValueError.__new__" mg base):FnOk P w K mg base (CXe P w) 2 f fd AJ (eV (aLw C_Reader Ab)):=by
 refine kO F jQ (λC l ds Q Ex h=>by obtain⟨_,t,p,m,_,rfl,_⟩:=h;rfl) (by decide) λAk A outer s H E Ex hr=>?_
 have Am:=jM hr
 have Aj:=aR Am
 refine⟨_,(cV (ah_ λF=>ap_ (i:=2) jQ.nd rfl (Or.inl rfl) (XE.at (Ex:=Ex) F (nO (C:=C_Reader) (i:=0) CM_take_run (hr.mono (by omega)) (pv 0) (bR (ia_ (by rfl) Bd) cB))))
  (cV (fL (XW.pt (uV (fm_ (qI (iE CAF (hr.mono (by omega)) (bR (bL (pv 2)) cB)))) (xZ (eE hy_ hx_ (jJ (kI K) kY (by rfl) Ad PySem.boot_len (bR (bL (pv 2)) cB)) (bL (pv 1)) (bD _))))) (dH (fb_ Ai rfl (by rfl))) fW)
  (dH (dX (yB sE o7 (by rfl) m_int ez_ (bR (bL (pv 2)) cB)))))),λC a dx l ds Q h=>?_⟩
 obtain⟨rfl,t,p,m,rfl,rfl,hp,hl,hm,qy,qn⟩:=h
 have Ke:=aQf (z:=fT) (t:=t) (p:=p)
 refine⟨⟨rfl,rfl⟩,rfl,t,fT,p,rfl,rfl,hp,hl,?_⟩
 obtain⟨x,hx⟩:∃x:Str,x=⟨(oK fT t p).toArray⟩:=⟨_,rfl⟩
 have Kz:aJ x=oK fT t p:=by rw[hx];rfl
 have Hv:x.length=(oK fT t p).length:=by rw[gE,Kz]
 rw[<-hx,<-Hv]
 dsimp only
 change cI _ _ [.bo (.oi C a dx (rdr t (p+x.length))),vT (.int m),vT (.str x)] _
 by_cases hF:vH (aJ x)/\(x.length:Int)<=m
 ·obtain ⟨hF,hxm⟩:=hF
  obtain⟨n,h0,hn⟩:=xA hF
  have ex:x=cR n:=cd_ hn
  refine lJ (ρ':=[.bo (.oi C a dx (rdr t (p+x.length))),vT (.int m),vT (.str x)]) (λQ q=>?_) ?_
  ·refine ⟨x,rfl,by omega,fun _ => ?_,fun h=>absurd hF h⟩
   refine⟨by show x.length<=1000000;omega,?_⟩
   show Q (decide (m<(x.length:Int))) _
   rw[dzF (by omega)]
   exact q
  ·subst ex
   exact⟨cR n,n,rfl,by omega,nU h0 (by omega),rfl,rfl,rfl,qy n ⟨h0,Kz.symm,hxm⟩⟩
 ·have Aw:∀ n,¬ aHk t p m n:=fun n hn=>hF (by
   obtain⟨h0,h1,h2⟩:=hn
   have ex:x=cR n:=cd_ (Kz.trans h1)
   rw[ex]
   exact⟨pJ h0,h2⟩)
  refine kZ true (ρ':=[.bo (.oi C a dx (rdr t (p+x.length))),vT (.int m),vT (.str x)]) (λQ q=>?_) (λ_=>qn Aw) (λhb=>by cases hb)
  refine⟨x,rfl,by omega,λh=>?_,λh=>q⟩
  refine⟨by show x.length<=1000000;omega,?_⟩
  show Q (decide (m<(x.length:Int))) _
  rw[dzT (by
   have:¬(x.length:Int)<=m:=λz=>hF ⟨h,z⟩
   omega)]
  exact q
end
def qA(r:List Nat):Prop:=∀c l,r=c::l->inT fT c=false
theorem aPq{f:Nat->Bool}{l r:List Nat}(h:∀c∈l,f c=true)(h2:∀c r',r=c::r'->f c=false):(l++r).takeWhile f=l:=by
 induction l with
 |nil =>
  cases r with
  |nil=>rfl
  |cons c r=>rw[aS,List.takeWhile_cons,h2 c r rfl];rfl
 |cons a l ih=>rw[aP,List.takeWhile_cons,h a aA,if_pos rfl,ih λc hc=>h c (aC _ hc)]
theorem gf_:∀k:Kd,1<=k.deep
 | .num _ _=>bA _
 | .row k n=>Nat.succ_le_succ (cF _)
 | .rcd fs=>Nat.succ_le_succ (cF _)
 | .cho ks=>Nat.succ_le_succ (cF _)
def aGl(f:Str×Kd):Dx:=.tup [.str f.1,f.2.x]
theorem rX{t:Str}{p:Nat}{a r:List Nat}(h:(aJ t).drop p=a++r):(aJ t).drop (p+a.length)=r/\(p<=t.length->p+a.length<=t.length):=by
 refine⟨by rw[<-List.drop_drop,h,iJ],λhp=>?_⟩
 have:=congrArg List.length h
 rw[bS,aB,<-gE]at this
 omega
theorem aJk{a b:List Nat}:a.isPrefixOf (a++b)=true:=eQ.mpr (List.prefix_append a b)
theorem rG{o:Ow}:∀{l:List Ow},kF (l++[o])=kF l++[o.d]
 | []=>by simp only[aS,kF]
 |p::r=>by simp only[aP,kF,rG]
theorem wI:∀{l:List Ow},(kF l).length=l.length
 | []=>rfl
 |p::r=>by simp only[kF,aD,wI]
theorem b5{f:Str×Kd}:∀{l:List (Str×Kd)},xF (l++[f])=xF l++[aGl f]
 | []=>by simp only[aS,xF,aGl]
 |g::l=>by simp only[aP,xF,b5]
theorem b4{f:Kd}:∀{l:List Kd},xK (l++[f])=xK l++[f.x]
 | []=>by simp only[aS,xK]
 |g::l=>by simp only[aP,xK,b4]
theorem nP:∀{l:List (Str×Kd)},(xF l).length=l.length
 | []=>rfl
 |g::l=>by simp only[xF,aD,nP]
theorem sU:∀{l:List Kd},(xK l).length=l.length
 | []=>rfl
 |g::l=>by simp only[xK,aD,sU]
def aWx:GC:=λds Q=>∃n:Int,ds=[.int n]/\0<=n/\n<18446744073709551616/\Q (.tr (.str (cR n)))
theorem n_:hY (λxs H Q=>∃n:Int,xs=[.int n]/\0<=n/\n<18446744073709551616/\Q (.str (cR n)) H) aWx:=by
 intro F P H ds xs Q Qx R hs g k
 obtain⟨n,rfl,h0,h1,q⟩:=g
 obtain⟨y,rfl,hx⟩:=pQ hs
 cases hx.int_eq
 exact⟨n,rfl,h0,h1,k _ _ H (R.add (IsX.of_str _)) q⟩
theorem rN(g:List Nat):∀(r:List Str) (Ag:Array Nat),(r.foldl (λAg p=>Ag++g.toArray++p.cps) Ag).toList=Ag.toList++(r.map λy=>g++aJ y).flatten
 | [],Ag=>by simp
 |y::r,Ag=>by
  rw[List.foldl_cons,rN g r]
  simp[aJ]
theorem gq_(ys:List Str)(h:ys≠[]):aJ (Txt.join jV ys)=(ys.map λy=>44::32::aJ y).flatten.drop 2:=by
 cases ys with
 |nil=>exact absurd rfl h
 |cons y r =>
  show((r).foldl (λAg p=>Ag++(Str.ofString ", ").cps++p.cps) y.cps).toList=_
  rw[show(Str.ofString ", ").cps=[44,32].toArray from by decide,rN]
  simp only[bB,cQ,aP,List.drop_succ_cons,eT,aS]
  rfl
theorem gz_:∀{fs:List (Str×Kd)} {f:Str×Kd},iM fs->f∈fs->Nm f.1/\f.2.Fit/\f.2.deep<=eB fs
 | [],_,_,h=>absurd h bY
 |g::r,f,h,hf=>by
  rcases aF.mp hf with rfl | hf
  ·exact⟨h.1.1,h.1.2,fA _ _⟩
  ·obtain ⟨a,b,c⟩:=gz_ h.2 hf
   exact⟨a,b,nzL c (eL _ _)⟩
theorem fj_:∀{ks:List Kd} {k:Kd},iD ks->k∈ks->k.Fit/\k.deep<=fF ks
 | [],_,_,h=>absurd h bY
 |g::r,f,h,hf=>by
  rcases aF.mp hf with rfl | hf
  ·exact⟨h.1,fA _ _⟩
  ·obtain ⟨b,c⟩:=fj_ h.2 hf
   exact⟨b,nzL c (eL _ _)⟩
theorem yN{B:Nat}:∀{ys:List Str},(∀y∈ys,y.length<=B)->(ys.map (·.length)).sum<=ys.length*B
 | [],_=>by simp
 |y::r,h=>by
  have h1:=h y aA
  have h2:=yN (ys:=r) λz hz=>h z (aC _ hz)
  rw[bB,List.sum_cons,aD,hZ,Nat.one_mul]
  omega
def dS(l:List Dx):Prop:=∃xs:List Int,l=xs.map Dx.int/\∀x∈xs,0<=x
def gCA(K:cZ):GC:=λds Q=>∃(ns:List Int) (k:Int),ds=[.scr K ns,.int k]/\0<=k/\∀c:Int,Q (.tr (.int c))
def gNU:GC:=λds Q=>∃(c m:Int),ds=[.int c,.int m]/\0<=m/\m<=300/\∀xs:List Int,(xs.length:Int)=m->(∀x∈xs,0<=x/\x<720720)->Q (.ol (xs.map Dx.int))
def gTK:GB:=λl ds Q=>∃many:Int,ds=[.int many]/\dS l/\0<many/\∀(r:Int) (l':List Dx),0<=r->r<many->dS l'->Q (.int r) l'
section
variable{f:Addr}
theorem aSb(F:Fun K "_law_cell_at" "_law_cell_at" fh_ f fd)(Ad:mg "len" = none):FnOk P w K mg base CX0 1 f fd BC (spX (gCA K)):=by
 refine jA F oH (λds Q h=>by obtain⟨ns,k,rfl,_⟩:=h;rfl) (by decide) λAk A outer s H E hr=>?_
 have Am:=jM hr
 have Aj:=aR Am
 refine⟨_,(cV (fL (eE vI vJ (bL (pv 1)) (jJ (kI K) o6 (by rfl) Ad PySem.boot_len (bR (bL (pv 0)) cB)) (bD _)) (dH (dX (aPi K (bL (pv 0)) (bL (pv 1)) (λ_ _=>rfl)))) fW)
  (dH (dX cK))),λds Q h=>?_⟩
 clear Aj Am
 obtain⟨ns,k,rfl,h0,q⟩:=h
 refine⟨rfl,?_⟩
 refine wR (λc=>?_) (λc=>q 0)
 have c':=of_decide_eq_true c
 obtain⟨v,hv,_⟩:=pY (l:=ns) h0 c'
 refine⟨rfl,?_⟩
 rw[hv]
 exact q v
theorem aRv(F:Fun K "_law_numbers" "_law_numbers" fg_ f fd)(Af:mg "range" = none):FnOk P w K mg base CX0 1 f fd AG (spX gNU):=by
 refine jA F dG (λds Q h=>by obtain⟨ns,k,rfl,_⟩:=h;rfl) (by decide) λAk A outer s H E hr=>?_
 have Am:=jM hr
 have Aj:=aR Am
 refine⟨_,(cV (fM (i:=2) dG.nd rfl (Or.inl rfl) (pR cB))
  (cV (fM (i:=3) dG.nd rfl (Or.inl rfl) (bL (pv 0)))
  (cV (fM (i:=4) dG.nd rfl (Or.inl rfl) (fp_ (bL (pv 0)) cK))
  (cV (gi_ PassesOwn.never rfl (cx_ Af (bR (bL (pv 1)) cB)) (iU (i:=5) dG.nd rfl (Or.inl rfl)) (sA (n:=99) (i:=5) (by decide)) (dH (fL (XW.pt (gh_ (eE h_ g_ (bL (pv 0)) (aPh cK cK) (bD _)) (el_ (eE hy_ hx_ (bL (pv 3)) cK (bD _))))) (cV (z6 λF=>PS.weak (ix_ (oW PySem.F.plainAttrs_list PySem.F.slot_list_append PySem.F.type_list_append gx_ (pv 2) (lK (XE.at (Ex:=dR) F (fp_ (bL (pv 3)) cK)) xJ))) yM)
  (dH (fM (i:=3) dG.nd rfl (Or.inl rfl) (sR (bL (pv 3)) cK)))) (cV (fM (i:=4) dG.nd rfl (Or.inl rfl) (fp_ (eo_ (gA (gA (bL (pv 4)) (eo_ cK (bL (pv 5)))) cK) cK) cK))
  (cV (fM (i:=6) dG.nd rfl (Or.inl rfl) (fp_ (eo_ (fp_ (eo_ (bL (pv 4)) (bL (pv 4))) cK) cK) cK))
  (dH (z6 λF=>PS.weak (ix_ (oW PySem.F.plainAttrs_list PySem.F.slot_list_append PySem.F.type_list_append gx_ (pv 2) (lK (XE.at (Ex:=dR) F (fp_ (sR (bL (pv 6)) cK) cK)) xJ))) yM)))))))
  (dH (dX (n9 (pv 2)))))))),λds Q h=>?_⟩
 clear Aj Am
 obtain⟨c,m,rfl,m0,m1,q⟩:=h
 have cp:aUr 10 18:=⟨by decide,by decide,by decide⟩
 refine⟨cF _,?_⟩
 dsimp only
 refine⟨by show(0:Int)<2147483647;decide,?_⟩
 dsimp only
 change cI _ _ [vT (.int c),vT (.int m),.v (.ol []),vT (.int c),vT (.int (c%2147483647)),.un,.un] _
 refine eb_ (λρ=>∃(xs:List Int) (y3 y4 y5 y6:Sl),(xs.length:Int)=m/\(∀x∈xs,0<=x/\x<720720)/\ρ=[vT (.int c),vT (.int m),.v (.ol (xs.map Dx.int)),y3,y4,y5,y6]) ?_ (λnx C3=>?_)
 ·rintro ρ ⟨xs,y3,y4,y5,y6,hl,hx,rfl⟩
  exact q xs hl hx
 refine⟨⟨by omega,by omega⟩,?_⟩
 refine da_ (λk:Nat=>Dx.int (0+(k:Int))) (λrest ρ=>∃(xs:List Int) (re st:Int) (y5 y6:Sl),((xs.length+rest.length:Nat):Int)=m/\(∀x∈xs,0<=x/\x<720720)/\(∀k∈rest,k<300)/\0<=st/\st<2147483647/\ρ=[vT (.int c),vT (.int m),.v (.ol (xs.map Dx.int)),vT (.int re),vT (.int st),y5,y6]) (λρ h=>?_) (λk rest ρ Kn h hk=>?_) ⟨[],c,c%2147483647,.un,.un,by rw[cD,bC];omega,λx hx=>absurd hx bY,λk hk=>by have:=iH.mp hk;omega,dN _ (by decide),cT _ (by decide),rfl⟩
 ·obtain ⟨xs,re,st,y5,y6,hl,hx,_,_,_,rfl⟩:=h
  exact C3 _ ⟨xs,_,_,_,_,hl,hx,rfl⟩
 obtain⟨xs,re,st,y5,y6,hl,hx,Gp,hs0,hs1,rfl⟩:=h
 have No:=Gp k aA
 have Ck:(xs.map Dx.int).length<1000000:=by rw[aG];omega
 have At:∀(x re' st':Int) (y6:Sl),0<=x/\x<720720->0<=st'->st'<2147483647->Kn [vT (.int c),vT (.int m),.v (.ol (xs.map Dx.int++[.int x])),vT (.int re'),vT (.int st'),vT (.int (0+(k:Int))),y6]:=λx re' st' y6 h0 h1 h2=>by
  refine hk _ ⟨xs++[x],re',st',_,_,by rw[aB,bH];rw[aD]at hl;omega,λz hz=>?_,λk' Dd=>Gp k' (aC _ Dd),h1,h2,by rw[bT];rfl⟩
  rcases bF.mp hz with hz | hz
  ·exact hx z hz
  ·rw[aI.mp hz];exact h0
 refine aTh (decide ((10:Int)^18<=c)&&decide (0<re)) (ρ':=[vT (.int c),vT (.int m),.v (.ol (xs.map Dx.int)),vT (.int re),vT (.int st),vT (.int (0+(k:Int))),y6]) (λQ q=>?_) (λ_=>?_) (λ_=>?_)
 ·refine ⟨cp,?_⟩
  refine wR (λh=>?_) (λh=>?_)
  ·have h':decide ((10:Int) ^ 18≤c)=true:=h
   rw[h',Bool.true_and]at q
   exact q
  ·have h':decide ((10:Int) ^ 18≤c)=false:=Bool.not_eq_true _ ▸ h
   rw[h',Bool.false_and]at q
   exact q
 ·refine ⟨rfl,by show (0:Int) < 64; decide,?_⟩
  dsimp only
  refine⟨Ck,?_⟩
  refine aLs ⟨by show aHm re 64;exact⟨by decide,by decide⟩,?_⟩
  exact At (re%64) _ _ _ ⟨dN _ (by decide),by have:=cT re (show(0:Int)<64 by decide);omega⟩ hs0 hs1
 ·refine ⟨⟨by decide,by omega⟩,⟨by omega,by decide⟩,by show (0:Int) < 2147483647; decide,?_⟩
  dsimp only
  have a0:(0:Int)<=(st+7*(0+(k:Int))+3)*48271%2147483647:=dN _ (by decide)
  have a1:(st+7*(0+(k:Int))+3)*48271%2147483647<2147483647:=cT _ (by decide)
  generalize (st+7*(0+(k:Int))+3)*48271%2147483647=S at a0 a1 ⊢
  have b0:(0:Int)<=S*S%2147483629:=dN _ (by decide)
  have b1:S*S%2147483629<2147483629:=cT _ (by decide)
  refine⟨⟨by omega,by omega⟩,by show(0:Int)<2147483629;decide,⟨by show(S*S%2147483629).natAbs<2^250;omega,by decide⟩,by show(0:Int)<2147483587;decide,?_⟩
  refine⟨rfl,⟨by decide,by decide⟩,by show(0:Int)<720720;decide,Ck,?_⟩
  exact At _ _ _ _ ⟨dN _ (by decide),cT _ (by decide)⟩ a0 a1
theorem uE(F:Fun K "_law_take" "_law_take" et_ f fd):FnOk P w K mg base CX0 1 f fd AD (spB gTK):=by
 refine aMb F wC (λl ds Q h=>by obtain⟨m,rfl,_⟩:=h;rfl) (by decide) λAk A outer s H E hr=>?_
 have Aj:=aR (jM hr)
 refine⟨_,(cV (fL (aHw K Aj (pv 0) (pR cB) (bD _)) (dH (dX cK)) fW)
  (dH (dX (fp_ (λF=>PE.weak (aEi PySem.F.plainAttrs_list PySem.F.slot_list_pop PySem.F.type_list_pop aSh (pv 0)) aPu) (bL (pv 1)))))),λl ds Q h=>?_⟩
 obtain⟨many,rfl,⟨xs,rfl,hx⟩,h2,q⟩:=h
 by_cases e:xs=[]
 ·subst e
  exact⟨rfl,cF _,q 0 [] (by decide) h2 ⟨[],rfl,hx⟩⟩
 ·have L8:(xs.map Dx.int).isEmpty=false:=by cases xs <;> first | rfl | exact absurd rfl e
  refine lJ (ρ':=[.bw (xs.map Dx.int),vT (.int many)]) (λQ q=>?_) ?_
  ·refine ⟨rfl,cF _,?_⟩
   show Q (xs.map Dx.int).isEmpty _
   rw[L8]
   exact q
  ·show match (xs.map Dx.int).getLast? with | some d=>_ | none=>False
   rw[List.getLast?_map,List.getLast?_eq_getLast e]
   refine⟨h2,q _ _ (dN _ (by omega)) (cT _ h2) ⟨xs.dropLast,by rw[List.map_dropLast],λx hm=>hx x ((List.dropLast_sublist xs).subset hm)⟩⟩
theorem aRz(F:Fun K "_law_deck" "_law_deck" hh_ f fd)(J5:Cal P w K mg base 1 "_law_numbers" AG (spX gNU)):FnOk P w K mg base CX0 2 f fd AG (spX gNU):=by
 refine jA F wD (λds Q h=>by obtain⟨ns,k,rfl,_⟩:=h;rfl) (by decide) λAk A outer s H E hr=>?_
 have Am:=jM hr
 have Aj:=aR Am
 refine⟨_,(dH (dX (aIc (iE J5 (hr.mono (by omega)) (bR (bL (pv 0)) (bR (bL (pv 1)) cB)))))),λds Q h=>?_⟩
 clear Aj Am
 obtain⟨c,m,rfl,m0,m1,q⟩:=h
 refine⟨c,m,rfl,m0,m1,λxs hl hx=>?_⟩
 show Q (.ol (xs.map Dx.int).reverse)
 rw[<-List.map_reverse]
 exact q xs.reverse (by rw[List.length_reverse];exact hl) (λx hm=>hx x (List.mem_reverse.mp hm))
end
abbrev n1S:Str:= "abcdefgh"
abbrev n2S:Str:= "nmlkjiop"
abbrev n3S:Str:= "qrstuvwx"
def yL(al:Int):Str:=if al=1 then n1S else if al=2 then n2S else n3S
def kQ(al k:Int):Nat:=((aJ (yL al))[k.toNat]?).getD 0
theorem aPs:∀(a:Fin 3) (k:Fin 8),(aJ (yL (a.val+1:Nat)))[k.val]? = some (kQ (a.val+1:Nat) (k.val:Nat))/\97<=kQ (a.val+1:Nat) (k.val:Nat)/\kQ (a.val+1:Nat) (k.val:Nat)<=122:=by decide +kernel
theorem aIp:∀(a:Fin 3) (k l:Fin 8),kQ (a.val+1:Nat) (k.val:Nat)=kQ (a.val+1:Nat) (l.val:Nat)->k=l:=by decide +kernel
def NmK(al k:Int)(x:Str):Prop:=if al=0 then aJ x=List.replicate (k.toNat+1) 97 else(aJ x).head? = some (kQ al k)
theorem aKw{al k l:Int}{x:Str}(ha:0<=al)(ha3:al<4)(hk:0<=k)(hk8:k<8)(hl:0<=l)(hl8:l<8)(h:NmK al k x)(h':NmK al l x):k=l:=by
 unfold NmK at h h'
 by_cases e:al=0
 ·rw [if_pos e] at h h'
  have:=congrArg List.length (h.symm.trans h')
  rw[bI,bI]at this
  omega
 ·rw [if_neg e] at h h'
  have e2:=ozI (h.symm.trans h')
  have:=aIp ⟨(al-1).toNat,by omega⟩ ⟨k.toNat,by omega⟩ ⟨l.toNat,by omega⟩ (by
   show kQ (((al-1).toNat+1:Nat):Int) (k.toNat:Nat)=kQ (((al-1).toNat+1:Nat):Int) (l.toNat:Nat)
   rw[show(((al-1).toNat+1:Nat):Int)=al from by omega,show((k.toNat:Nat):Int)=k from by omega,show((l.toNat:Nat):Int)=l from by omega]
   exact e2)
  have:=congrArg Fin.val this
  dsimp only at this
  omega
theorem aUl{r:Int}(h0:0<=r)(h1:r<7):∃c,atI (Str.ofString "abcxyzn").cps.toList r=some c/\97<=c/\c<=122:=by
 have h:∀i:Fin 7,∃c,((Str.ofString "abcxyzn").cps.toList)[i.val]? = some c/\97<=c/\c<=122:=λi=>by
  have:∀i:Fin 7,(match ((Str.ofString "abcxyzn").cps.toList)[i.val]? with | some c=>decide (97<=c/\c<=122) | none=>false)=true:=by decide +kernel
  have:=this i
  split at this
  ·rename_i c e;exact⟨c,e,of_decide_eq_true this⟩
  ·cases this
 obtain⟨c,h2,h3⟩:=h ⟨r.toNat,by omega⟩
 have q:=pU h2
 have e:((r.toNat:Nat):Int)=r:=by omega
 exact⟨c,by rw[<-e];exact q,h3⟩
theorem qT{v:Dx}{a b c:Int}(h:v∈[Dx.int a,Dx.int b,Dx.int c]):∃z,v=.int z/\(z=a\/z=b\/z=c):=by
 simp only[aF,bY,or_false]at h
 rcases h with rfl | rfl | rfl
 ·exact⟨_,rfl,.inl rfl⟩
 ·exact⟨_,rfl,.inr (.inl rfl)⟩
 ·exact⟨_,rfl,.inr (.inr rfl)⟩
theorem aIq{al:Int}(h0:0<al)(h1:al<4):atI [Dx.str "abcdefgh",Dx.str "nmlkjiop",Dx.str "qrstuvwx"] (al-1)=some (.str (yL al)):=by
 have:al=1\/al=2\/al=3:=by omega
 rcases this with rfl | rfl | rfl
 ·exact pU (j:=0) rfl
 ·exact pU (j:=1) rfl
 ·exact pU (j:=2) rfl
theorem aIr{al k:Int}(h0:0<al)(h1:al<4)(k0:0<=k)(k1:k<8):atI (yL al).cps.toList k=some (kQ al k)/\97<=kQ al k/\kQ al k<=122:=by
 obtain⟨e,h⟩:=aPs ⟨(al-1).toNat,by omega⟩ ⟨k.toNat,by omega⟩
 dsimp only at e h
 rw[show(((al-1).toNat+1:Nat):Int)=al from by omega,show((k.toNat:Nat):Int)=k from by omega]at e h
 refine⟨?_,h⟩
 have q:=pU e
 rw[show((k.toNat:Nat):Int)=k from by omega]at q
 exact q
theorem aCl(al:Int):(yL al).length<=1000000:=by
 unfold yL
 split
 ·decide
 ·split<;>decide
def aYt:GB:=λl ds Q=>∃k al:Int,ds=[.int k,.int al]/\dS l/\0<=k/\k<8/\0<=al/\al<4/\∀(x:Str) (l':List Dx),Nm x->NmK al k x->dS l'->Q (.str x) l'
section
variable{f:Addr}{n j:Nat}
theorem aKl(F:Fun K "_law_name" "_law_name" ga_ f fd)(A1:Cal P w K mg base 1 "_law_take" AD (spB gTK))(Af:mg "range" = none):FnOk P w K mg base CX0 2 f fd AX (spB aYt):=by
 refine aMb F iF (λl ds Q h=>by obtain⟨k,al,rfl,_⟩:=h;rfl) (by decide) λAk A outer s H E hr=>?_
 have Am:=jM hr
 have Aj:=aR Am
 refine⟨_,(cV (fL (eE (gV K Aj) hX (bL (pv 2)) cK (bD _)) (dH (dX (kX K fU lZ (jO (gA (bL (pv 1)) cK))))) fW)
  (cV (fM (i:=3) iF.nd rfl (Or.inl rfl) (jI K (jI K (pR (bR fU (bR fU (bR fU cB)))) (io_ (bL (pv 2)) cK) (λ_ _=>rfl)) (bL (pv 1)) (λ_ _=>rfl)))
  (cV (gi_ PassesOwn.never rfl (cx_ Af (bR (jB (i:=0) A1 (hr.mono (by omega)) (pv 0) (bR (jI K (pR (bR cK (bR cK (bR cK cB)))) (jB (i:=0) A1 (hr.mono (by omega)) (pv 0) (bR cK cB)) (λ_ _=>rfl)) cB)) cB)) (iU (i:=4) iF.nd rfl (Or.inl rfl)) (sA (n:=99) (i:=4) (by decide)) (dH (fM (i:=3) iF.nd rfl (Or.inl rfl) (gA (bL (pv 3)) (jI K fU (jB (i:=0) A1 (hr.mono (by omega)) (pv 0) (bR cK cB)) (λ_ _=>rfl))))))
  (dH (dX (n9 (pv 3))))))),λl ds Q h=>?_⟩
 clear Aj Am
 obtain⟨k,al,rfl,hl,k0,k8,a0,a4,q⟩:=h
 refine kZ (decide (al=0)) (ρ':=[.bw l,vT (.int k),vT (.int al),.un,.un]) (λQ q=>q) (λhb=>?_) (λhb=>?_)
 ·have ha:=of_decide_eq_true hb
  refine⟨(by decide),?_⟩
  have ec:aJ (Txt.slice "aaaaaaaa" none (some (k+1)))=List.replicate (k.toNat+1) 97:=by
   rw[aGy (by omega) (by rw[show(aJ "aaaaaaaa").length=8 from by decide];omega),show aJ "aaaaaaaa" = List.replicate 8 97 from by decide,List.take_replicate]
   congr 1
   omega
  refine q _ l ⟨by rw[ec,bI];omega,by rw[ec,bI];omega,λc hc=>?_⟩ (by unfold NmK;rw[if_pos ha];exact ec) hl
  rw[ec]at hc
  have:=(List.mem_replicate.mp hc).2
  omega
 ·have ha:al≠0:=fun e=>by rw [e] at hb; cases hb
  obtain⟨e2,c0,c1⟩:=aIr (al:=al) (k:=k) (by omega) a4 k0 k8
  refine⟨(by show 3<=1000000;decide),?_⟩
  show match atI [Dx.str "abcdefgh",Dx.str "nmlkjiop",Dx.str "qrstuvwx"] (al-1)with | some d=>_ | none=>False
  rw[aIq (by omega) a4]
  refine⟨aCl al,?_⟩
  show match atI (yL al).cps.toList k with | some c=>_ | none=>False
  rw[e2]
  dsimp only
  change cI _ _ [.bw l,vT (.int k),vT (.int al),vT (.str ⟨#[kQ al k]⟩),.un] _
  refine eb_ (λρ=>∃(x:Str) (l':List Dx) (y:Sl),Nm x/\NmK al k x/\dS l'/\ρ=[.bw l',vT (.int k),vT (.int al),vT (.str x),y]) ?_ (λnx C3=>?_)
  ·rintro ρ ⟨x,l',y,h1,h2,h3,rfl⟩
   exact q x l' h1 h2 h3
  refine⟨rfl,(by show 3<=1000000;decide),rfl,3,rfl,hl,by decide,λr l1 r0 r1 C9=>?_⟩
  refine gl_ r0 r1 λv hv=>?_
  obtain⟨z,rfl,hz⟩:=qT hv
  refine⟨z,rfl,C9,by omega,λm l2 m0 m1 B8=>?_⟩
  refine⟨⟨by omega,by omega⟩,?_⟩
  have Bv:¬al=0:=ha
  refine da_ (λi:Nat=>Dx.int (0+(i:Int))) (λrest ρ=>∃(x:Str) (l':List Dx) (y:Sl),1<=(aJ x).length/\(aJ x).length+rest.length<=8/\Low (aJ x)/\(aJ x).head? = some (kQ al k)/\dS l'/\ρ=[.bw l',vT (.int k),vT (.int al),vT (.str x),y]) (λρ h=>?_) (λi rest ρ Kn h hk=>?_) ⟨⟨#[kQ al k]⟩,l2,.un,(by decide:1<=1),by rw[cD];show 1+_<=8;omega,λc hc=>by rw[aI.mp (show c∈[kQ al k]from hc)];exact⟨c0,c1⟩,rfl,B8,rfl⟩
  ·obtain ⟨x,l',y,h1,h2,h3,h4,h5,rfl⟩:=h
   rw[bC]at h2
   exact C3 _ ⟨x,l',y,⟨h1,by omega,h3⟩,by unfold NmK;rw[if_neg Bv];exact h4,h5,rfl⟩
  ·obtain ⟨x,l',y,h1,h2,h3,h4,h5,rfl⟩:=h
   rw[aD]at h2
   refine⟨rfl,7,rfl,h5,by decide,λr l3 r0 r1 D5=>?_⟩
   obtain⟨c,hc,hc0,hc1⟩:=aUl r0 r1
   refine⟨(by decide),?_⟩
   show match atI (Str.ofString "abcxyzn").cps.toList r with | some c=>_ | none=>False
   rw[hc]
   refine⟨by show x.length+1<=1000000;rw[gE];omega,hk _ ⟨x++⟨#[c]⟩,l3,_,?_,?_,?_,?_,D5,rfl⟩⟩
   ·rw[qO,aB];omega
   ·rw[qO,aB];show _+1+_<=8;omega
   ·intro b hb
    rw[qO]at hb
    rcases bF.mp hb with hb | hb
    ·exact h3 b hb
    ·rw[aI.mp (show b∈[c]from hb)];exact⟨hc0,hc1⟩
   ·rw [qO]
    cases hx:aJ x with
    |nil=>rw[hx]at h1;exact absurd h1 (by decide)
    |cons b r=>rw[hx]at h4;exact h4
end
def gKN(n:Nat):GB:=λl ds Q=>∃d:Int,ds=[.int d]/\dS l/\1<=d/\d<=n/\n<=5/\∀(kd:Kd) (l':List Dx),kd.Fit->(kd.deep:Int)<=d->dS l'->Q kd.x l'
theorem aOw{v:Dx}(h:v∈[Dx.int 1,Dx.int 2,Dx.int 4,Dx.int 8]):∃z,v=.int z/\(z=1\/z=2\/z=4\/z=8):=by
 simp only[aF,bY,or_false]at h
 rcases h with rfl | rfl | rfl | rfl
 ·exact⟨_,rfl,by omega⟩
 ·exact⟨_,rfl,by omega⟩
 ·exact⟨_,rfl,by omega⟩
 ·exact⟨_,rfl,by omega⟩
theorem aTt{v:Dx}(h:v∈[Dx.int 1,Dx.int 2,Dx.int 4,Dx.int 8,Dx.int 3,Dx.int 5,Dx.int 6,Dx.int 7]):∃z,v=.int z/\1<=z/\z<=8:=by
 simp only[aF,bY,or_false]at h
 rcases h with rfl | rfl | rfl | rfl | rfl | rfl | rfl | rfl<;>exact⟨_,rfl,by decide,by decide⟩
def mx(way:Int):Int:=if 5<way then 6 else 8
theorem aXx(way:Int):atI [Dx.int 8,Dx.int 6] (if decide (5<way)=true then 1 else 0)=some (.int (mx way)):=by
 unfold mx
 by_cases h:5<way
 ·rw[if_pos (dzT h),if_pos h];exact pU (j:=1) rfl
 ·rw[if_neg (by rw[decide_eq_true_eq];exact h),if_neg h];exact pU (j:=0) rfl
theorem aGj:∀{ks:List Kd} {i:Nat} {k:Kd},iD ks->ks[i]? = some k->k.Fit/\k.deep<=fF ks
 | [],_,_,_,e=>by simp at e
 |k'::r,0,k,h,e=>by simp at e;subst e;exact⟨h.1,fA _ _⟩
 |k'::r,i+1,k,h,e=>by obtain⟨a,b⟩:=aGj (i:=i) h.2 (by simpa using e);exact⟨a,nzL b (eL _ _)⟩
theorem oN{N i k:Nat}{r:List Nat}(h:k::r=(List.range N).drop i):k=i/\r=(List.range N).drop (i+1)/\i<N:=by
 have e:(k::r)[0]? = ((List.range N).drop i)[0]?:=by rw[h]
 rw[List.getElem?_drop,List.getElem?_cons_zero]at e
 have hi:i<N:=by
  have:=(aY.mp e.symm).1
  rw[cD]at this
  omega
 rw[Nat.add_zero,List.getElem?_range hi]at e
 refine⟨ozI e,?_,hi⟩
 have e2:=congrArg List.tail h
 rw[List.tail_drop]at e2
 exact e2
theorem iT{l:List Stmt}{G:XS}(h:Bx (XSs X Ex l G)):XSs X Ex l G:=h.out
section
variable{f:Addr}{n j:Nat}
theorem aRx(F:Fun K "_law_kind" "_law_kind" dw_ f fd)(A1:Cal P w K mg base 1 "_law_take" AD (spB gTK))(CNM:Cal P w K mg base 2 "_law_name" AX (spB aYt))(Ks:Cal P w K mg base (j+2) "_law_kind" AU (spB (gKN n)))(Af:mg "range" = none)(m_int:mg "int" = none):FnOk P w K mg base CX0 (j+3) f fd AU (spB (gKN (n+1))):=by
 refine aMb F gM (λl ds Q h=>by obtain⟨d,rfl,_⟩:=h;rfl) (by decide) λAk A outer s H E hr=>?_
 have Am:=jM hr
 have Aj:=aR Am
 refine⟨_,(iT (gN (Bx.mk (fM (i:=2) gM.nd rfl (Or.inl rfl) (jB (i:=0) A1 (hr.mono (by omega)) (pv 0) (bR cK cB))))
  (gN (sF (Bx.mk (XW.pt (uV (eE vI vJ (bL (pv 1)) cK (bD _)) (xZ (eE vI vJ (bL (pv 2)) cK (bD _)))))) (lR (vF (aHf (fV jN (fV (pW K (hc_ (fV qD (fV qD (fV qD (fV qD (fV qD (fV qD (fV qD (fV qD vK))))))))) (gg_ (i:=0) A1 (hr.mono (by omega)) (pv 0) (fV qD vK)) (λ_ _=>rfl)) (fV (pW K (hc_ (fV qD (fV qD (fV qD (fV qD vK))))) (gg_ (i:=0) A1 (hr.mono (by omega)) (pv 0) (fV qD vK)) (λ_ _=>rfl)) vK)))))) hs_)
  (gN (Bx.mk (fL (eE (gV K Aj) hX (bL (pv 2)) cK (bD _)) (iT (lR (Bx.mk (dX (xN (bR fU (bR (jB (i:=0) Ks (hr.mono (by omega)) (pv 0) (bR (io_ (bL (pv 1)) cK) cB)) (bR (gA cK (jB (i:=0) A1 (hr.mono (by omega)) (pv 0) (bR (jI K (pR (bR cK (bR cK (bR cK cB)))) (jB (i:=0) A1 (hr.mono (by omega)) (pv 0) (bR cK cB)) (λ_ _=>rfl)) cB))) cB)))))))) fW))
  (gN (Bx.mk (fM (i:=3) gM.nd rfl (Or.inl rfl) (gA cK (jB (i:=0) A1 (hr.mono (by omega)) (pv 0) (bR (jI K (pR (bR cK (bR cK (bR cK (bR (jI K (pR (bR cK (bR cK cB))) (yB dc_ ha_ (by rfl) m_int ez_ (bR (xL hy_ hx_ (bL (pv 2)) cK (bD _)) cB)) (λ_ _=>rfl)) cB))))) (jB (i:=0) A1 (hr.mono (by omega)) (pv 0) (bR cK cB)) (λ_ _=>rfl)) cB)))))
  (gN (Bx.mk (fM (i:=4) gM.nd rfl (Or.inr rfl) (jB (i:=0) A1 (hr.mono (by omega)) (pv 0) (bR cK cB))))
  (gN (Bx.mk (fM (i:=5) gM.nd rfl (Or.inr rfl) (ea_ (dsc:=aM dw_) (N:=AO) (tgs:=["k"]) (outs:=[0,1]) (N':=["k","deck","depth"]) (by refine⟨rfl,?_,?_,?_,rfl,?_,?_,?_⟩<;>decide +kernel) (cx_ Af (bR (bL (pv 3)) cB)) (λ_ _ _ _ _=>(iU (i:=0) (show(["k","deck","depth"]:List Str).Nodup by decide +kernel) rfl (Or.inl rfl) (.inr rfl))) (sA (n:=1) (i:=0) (by decide)) (cv_ (by decide)) (λ_ _ _ _ _=>dp_) (λ_ _ _ _ _=>(jB (i:=1) Ks (hr.mono (by omega)) (pv 1) (bR (io_ (bL (pv 2)) cK) cB))))))
  (gN (Bx.mk (fL (eE hy_ hx_ (bL (pv 2)) cK (bD _)) (iT (lR (Bx.mk (dX (xN (bR fU (bR (bL (pv 5)) cB))))))) fW))
  (lR (Bx.mk (dX (xN (bR fU (bR (ea_ (dsc:=aM dw_) (N:=AO) (tgs:=["k"]) (outs:=[0,4,5]) (N':=["k","deck","alike","parts"]) (by refine⟨rfl,?_,?_,?_,rfl,?_,?_,?_⟩<;>decide +kernel) (cx_ Af (bR (bL (pv 3)) cB)) (λ_ _ _ _ _=>(iU (i:=0) (show(["k","deck","alike","parts"]:List Str).Nodup by decide +kernel) rfl (Or.inl rfl) (.inr rfl))) (sA (n:=1) (i:=0) (by decide)) (cv_ (by decide)) (λ_ _ _ _ _=>dp_) (λ_ _ _ _ _=>(xN (bR (jB (i:=1) CNM (hr.mono (by omega)) (pv 1) (bR (bL (pv 0)) (bR (bL (pv 2)) cB))) (bR (jI K (bL (pv 3)) (bL (pv 0)) (λ_ _=>rfl)) cB))))) cB)))))))))))))),λl ds Q h=>?_⟩
 clear Aj Am
 obtain⟨d,rfl,hl,d1,dn,n5,q⟩:=h
 refine⟨rfl,8,rfl,hl,by decide,λway l1 w0 w1 C9=>?_⟩
 dsimp only
 change cI _ _ [.bw l1,vT (.int d),vT (.int way),.un,.un,.un] _
 refine kZ (decide (d<2)||decide (way<3)) (ρ':=[.bw l1,vT (.int d),vT (.int way),.un,.un,.un]) (λQ q=>?_) (λhb=>?_) (λhb=>?_)
 ·refine wR (fun h => ?_) (fun h => ?_)
  ·have h':decide (d < 2)=true:=h
   rw[h',Bool.true_or]at q
   exact q
  ·have h':decide (d < 2)=false:=Bool.not_eq_true _ ▸ h
   rw[h',Bool.false_or]at q
   exact q
 ·refine ⟨(by show 8≤1000000; decide),rfl,8,rfl,C9,by decide,fun r l2 r0 r1 B8 => ?_⟩
  refine gl_ r0 r1 λv hv=>?_
  obtain⟨x,rfl,x0,x1⟩:=aTt hv
  refine⟨(by show 4<=1000000;decide),rfl,4,rfl,B8,by decide,λr l3 r0 r1 D5=>?_⟩
  refine gl_ r0 r1 λv hv=>?_
  obtain⟨m,rfl,hm⟩:=aOw hv
  exact⟨(by show 3<=1000000;decide),q (.num x m) l3 ⟨x0,x1,hm⟩ (by show((1:Nat):Int)<=d;omega) D5⟩
 have Fz:2<=d:=by
  rw[Bool.or_eq_false_iff]at hb
  have:=of_decide_eq_false hb.1
  omega
 refine kZ (decide (way=3)) (ρ':=[.bw l1,vT (.int d),vT (.int way),.un,.un,.un]) (λQ q=>q) (λhb=>?_) (λhb3=>?_)
 ·refine ⟨rfl,d - 1,rfl,C9,by omega,by omega,by omega,fun kd l2 hF Gd B8 => ?_⟩
  refine⟨rfl,(by show 3<=1000000;decide),rfl,3,rfl,B8,by decide,λr l3 r0 r1 D5=>?_⟩
  refine gl_ r0 r1 λv hv=>?_
  obtain⟨z,rfl,hz⟩:=qT hv
  refine⟨z,rfl,D5,by omega,λm l4 m0 m1 Lm=>?_⟩
  refine⟨(by show 3<=1000000;decide),q (.row kd (1+m)) l4 ⟨hF,by omega,by omega⟩ ?_ Lm⟩
  show((kd.deep+1:Nat):Int)<=d
  omega
 refine⟨rfl,uM,?_⟩
 show match atI [Dx.int 8,Dx.int 6] (if decide (5<way)=true then 1 else 0)with | some d=>_ | none=>False
 rw[aXx]
 refine⟨(by show 4<=1000000;decide),rfl,4,rfl,C9,by decide,λr l2 r0 r1 B8=>?_⟩
 have Nk:mx way=6\/mx way=8:=by unfold mx;split<;>omega
 refine gl_ r0 r1 λv hv=>?_
 have hvz:∃z,v=.int z/\0<z/\z<=mx way:=by
  have A2:v∈[Dx.int 3,Dx.int 3,Dx.int 3,Dx.int (mx way)]:=hv
  simp only[aF,bY,or_false]at A2
  rcases A2 with rfl | rfl | rfl | rfl
  ·exact⟨_,rfl,by decide,by omega⟩
  ·exact⟨_,rfl,by decide,by omega⟩
  ·exact⟨_,rfl,by decide,by omega⟩
  ·exact⟨_,rfl,by omega,by omega⟩
 obtain⟨z,rfl,z0,z1⟩:=hvz
 refine⟨z,rfl,B8,z0,λm l3 m0 m1 D5=>?_⟩
 refine⟨rfl,4,rfl,D5,by decide,λal l4 a0 a1 Lm=>?_⟩
 dsimp only
 change cI _ _ [.bw l4,vT (.int d),vT (.int way),vT (.int (1+m)),vT (.int al),.un] _
 have hdd:d-1=((d-1).toNat:Int):=by omega
 refine⟨⟨by omega,by omega⟩,by show((List.range _).map _).length<=_;rw[aG,cD];omega,?_⟩
 refine db_ (λk:Nat=>Dx.int (0+(k:Int))) (λrest Ag cs=>∃(ks:List Kd) (l':List Dx),ks.length+rest.length=(1+m).toNat/\Ag=xK ks/\cs=[.bw l',vT (.int d)]/\iD ks/\fF ks<=(d-1).toNat/\dS l') (λAg cs h=>?_) (λnm rest Ag cs Pn h hk=>?_) ⟨[],l4,by rw[cD];simp,rfl,rfl,trivial,cF _,Lm⟩
 rotate_left
 ·obtain ⟨ks,l',e1,rfl,rfl,hF,Gd,E8⟩:=h
  rw[aD]at e1
  exact⟨rfl,d-1,rfl,E8,by omega,by omega,by omega,λkd l6 hF6 hdp6 Fo=>hk _ _ ⟨ks++[kd],l6,by rw[aB];show ks.length+1+_=_;omega,by rw[b4];rfl,rfl,rV hF hF6,pM Gd (by omega),Fo⟩⟩
 obtain⟨ks,l',e1,rfl,rfl,hF,Gd,E8⟩:=h
 rw[bC]at e1
 dsimp only
 change cI _ _ [.bw l',vT (.int d),vT (.int way),vT (.int (1+m)),vT (.int al),.v (.ol (xK ks))] _
 refine kZ (decide (5<way)) (ρ':=[.bw l',vT (.int d),vT (.int way),vT (.int (1+m)),vT (.int al),.v (.ol (xK ks))]) (λQ q=>q) (λhb=>?_) (λhb=>?_)
 ·have h5:=of_decide_eq_true hb
  have hm6:mx way=6:=by unfold mx;rw[if_pos h5]
  refine⟨uM,q (.cho ks) l' ⟨hF,by omega,by omega⟩ ?_ E8⟩
  show((fF ks+1:Nat):Int)<=d
  omega
 refine⟨⟨by omega,by omega⟩,by show((List.range _).map _).length<=_;rw[aG,cD];omega,?_⟩
 refine db_ (λk:Nat=>Dx.int (0+(k:Int))) (λrest Ag cs=>∃(fs:List (Str×Kd)) (l':List Dx) (sv:Sv),rest=(List.range (1+m).toNat).drop fs.length/\fs.map (·.2)=ks.take fs.length/\fs.length<=ks.length/\Ag=xF fs/\sv.d=.lst (xK ks)/\cs=[.bw l',vT (.int al),.v sv]/\iM fs/\eB fs<=(d-1).toNat/\(fs.map (·.1)).Nodup/\(∀x∈fs.map (·.1),∃i:Nat,i<fs.length/\NmK al i x)/\dS l') (λAg cs h=>?_) (λk rest Ag cs Pn h hk=>?_) ⟨[],l',.ol (xK ks),rfl,rfl,cF _,rfl,rfl,rfl,trivial,cF _,List.nodup_nil,λx hx=>absurd hx bY,E8⟩
 ·obtain ⟨fs,l',sv,e2,e3,e4,rfl,e5,rfl,Jz,Jp,Bw,Le,Fo⟩:=h
  have Jn:(1+m).toNat<=fs.length:=by
   have:=congrArg List.length e2
   rw[bC,bS,cD]at this
   omega
  refine⟨uM,q (.rcd fs) l' ⟨Jz,by omega,by omega,Bw⟩ ?_ Fo⟩
  show((eB fs+1:Nat):Int)<=d
  omega
 ·obtain ⟨fs,l',sv,e2,e3,e4,rfl,e5,rfl,Jz,Jp,Bw,Le,Fo⟩:=h
  obtain⟨rfl,e2b,C6⟩:=oN e2
  obtain⟨kd,Ln⟩:∃kd,ks[fs.length]? = some kd:=⟨_,aO (by omega)⟩
  obtain⟨hFk,hdk⟩:=aGj hF Ln
  refine⟨rfl,0+(fs.length:Int),al,rfl,Fo,by omega,by omega,a0,a1,λx l6 hx Ir hl6=>?_⟩
  have Lr:atI (xK ks) (0+(fs.length:Int))=some kd.x:=by
   rw[Int.zero_add]
   exact pU (by rw[gj_,bV,Ln];rfl)
  dsimp only
  refine fv_ (kL (aWk (s:=sv) rfl e5 ?_))
  show match atI (xK ks) (0+(fs.length:Int))with | some d=>_ | none=>False
  rw[Lr]
  rw[Int.zero_add]at Ir
  refine⟨uM,hk _ _ ⟨fs++[(x,kd)],l6,.tr (.lst (xK ks)),by rw[aB];exact e2b,?_,by rw[aB];show fs.length+1<=_;omega,by rw[b5];rfl,rfl,rfl,rW Jz hx hFk,pN Jp (by show kd.deep<=_;omega),?_,?_,hl6⟩⟩
  ·rw [bT,e3,aB]
   show ks.take fs.length++[kd]=ks.take (fs.length+1)
   rw[List.take_succ,Ln]
   rfl
  ·rw [bT]
   refine cA.mpr ⟨Bw,by simp,λy hy b hb e=>?_⟩
   have Kk:b=x:=aI.mp hb
   obtain⟨i,hi,F2⟩:=Le y hy
   rw[e,Kk]at F2
   have:=aKw a0 a1 (by omega) (by omega) (by omega) (by omega) F2 Ir
   omega
  ·intro y hy
   rw[bT]at hy
   rw[aB]
   rcases bF.mp hy with hy | hy
   ·obtain ⟨i,hi,F2⟩:=Le y hy
    exact⟨i,bQ hi (Nat.le_add_right _ _),F2⟩
   ·have hyx:y=x:=aI.mp hy
    rw[hyx]
    exact⟨fs.length,Nat.lt_succ_self _,Ir⟩
end
mutual
def Dx.deep:Dx->Nat
 | .tup l=>gD l+1
 | .lst l=>gD l+1
 | .dic l=>pL l+1
 |_=>1
def gD:List Dx->Nat
 | []=>0
 |d::r=>max d.deep (gD r)
def pL:List (Key×Dx)->Nat
 | []=>0
 |k::r=>max k.2.deep (pL r)
end
mutual
def Dx.Sz:Dx->Prop
 | .tup l=>l.length<=100000/\szX l
 | .lst l=>l.length<=100000/\szX l
 | .dic l=>l.length<=100000/\(l.map (·.1)).Nodup/\aIv l
 | .str x=>x.length<=100000
 | .scr _ _=>False
 | .ins _ _=>False
 | .exc _=>False
 |_=>True
def szX:List Dx->Prop
 | []=>True
 |d::r=>d.Sz/\szX r
def aIv:List (Key×Dx)->Prop
 | []=>True
 |k::r=>k.2.Sz/\aIv r
end
theorem fw_:∀{l:List Dx} {d:Dx},d∈l->d.deep<=gD l
 |e::r,d,h=>by
  show _<=max _ _
  rcases aF.mp h with rfl | h
  ·exact fA _ _
  ·exact nzL (fw_ h) (eL _ _)
theorem hr_:∀{l:List (Key×Dx)} {p:Key×Dx},p∈l->p.2.deep<=pL l
 |e::r,d,h=>by
  show _<=max _ _
  rcases aF.mp h with rfl | h
  ·exact fA _ _
  ·exact nzL (hr_ h) (eL _ _)
theorem tG:∀{l:List Dx} {d:Dx},szX l->d∈l->d.Sz
 |e::r,d,hs,h=>by
  rcases aF.mp h with rfl | h
  ·exact hs.1
  ·exact tG hs.2 h
theorem vY:∀{l:List (Key×Dx)} {p:Key×Dx},aIv l->p∈l->p.2.Sz
 |e::r,d,hs,h=>by
  rcases aF.mp h with rfl | h
  ·exact hs.1
  ·exact vY hs.2 h
def Dx.own:Dx->Sv
 | .lst l=>.ol l
 | .dic l=>.od l
 |d=>.tr d
theorem aEn(d:Dx):d.own.d=d:=by cases d<;>rfl
def gCP(n:Nat):GC:=λds Q=>∃d,ds=[d]/\d.Sz/\d.deep<=n/\Q d.own
theorem i7{α β:Type}{f:α->β}:∀(l:List α),(l.map λd=>[f d]).flatten=l.map f
 | []=>rfl
 |d::l=>by simp[i7 l]
theorem l8(l:List Dx):[]++(l.map λd=>[d]).flatten=l:=by simp[i7 (f:=λd:Dx=>d)]
theorem oO{l:List (Key×Dx)}{k:Key}{d:Dx}(h:k∉l.map (·.1)):qF l k d=l++[(k,d)]:=by
 unfold qF
 have:(l.any λkv=>decide (kv.1=k))=false:=by
  rw[List.any_eq_false]
  intro kv hkv z
  exact h (by rw[<-of_decide_eq_true z];exact cP (f:=λx:Key×Dx=>x.1) hkv)
 rw[this,if_neg bO]
theorem jk_:∀{l:List (Key×Dx)} {p:Key×Dx},(l.map (·.1)).Nodup->p∈l->jL l p.1=some p.2
 |q::l,p,hn,h=>by
  unfold jL
  rw[eC]
  have Dc:=cE.mp hn
  rcases aF.mp h with rfl | h
  ·rw[dzT rfl];rfl
  ·have Bv:¬ q.1=p.1:=fun z=>Dc.1 (by show q.1∈_; rw [z]; exact cP (f:=fun x:Key×Dx=>x.1) h)
   rw[dzF Bv]
   exact jk_ Dc.2 h
theorem aFn(k:Key):zJ (pE k)=some k:=by cases k<;>rfl
section
variable{f:Addr}{n j:Nat}
theorem aXu(F:Fun K "_law_copy" "_law_copy" dx_ f fd)(Hl:Cal P w K mg base j "_law_copy" AS (spX (gCP n)))(Ac:mg "isinstance" = none)(m_list:mg "list" = none)(Aq:mg "tuple" = none)(m_dict:mg "dict" = none) :
  FnOk P w K mg base CX0 (j+1) f fd AS (spX (gCP (n+1))):=by
 refine jA F jR (λds Q h=>by obtain⟨d,rfl,_⟩:=h;rfl) (by decide) λAk A outer s H E hr=>?_
 have Am:=jM hr
 refine⟨_,(cV (fL (qI (vL .list Ac (bL (pv 0)) (vB (v:=.ty "list") rfl m_list nI rfl))) (dH (dX (ea_ (dsc:=aM dx_) (N:=["thing","found","name"]) (tgs:=["one"]) (outs:=[]) (N':=["one"]) (by refine⟨rfl,?_,?_,?_,rfl,?_,?_,?_⟩<;>decide +kernel) (dz_ (bL (pv 0))) (λ_ _ _ _ _=>(iU (i:=0) (show(["one"]:List Str).Nodup by decide +kernel) rfl (Or.inl rfl) (.inr rfl))) (sA (n:=1) (i:=0) (by decide)) (cv_ (by decide)) (λ_ _ _ _ _=>dp_) (λ_ _ _ _ _=>(iE Hl (hr.mono (by omega)) (bR (bL (pv 0)) cB)))))) fW)
  (cV (fL (qI (vL .tuple Ac (bL (pv 0)) (vB (v:=.ty "tuple") rfl Aq hb_ rfl))) (dH (dX (yB (xW K) aGv (by rfl) Aq hb_ (bR (ea_ (dsc:=aM dx_) (N:=["thing","found","name"]) (tgs:=["one"]) (outs:=[]) (N':=["one"]) (by refine⟨rfl,?_,?_,?_,rfl,?_,?_,?_⟩<;>decide +kernel) (aPg (bL (pv 0))) (λ_ _ _ _ _=>(iU (i:=0) (show(["one"]:List Str).Nodup by decide +kernel) rfl (Or.inl rfl) (.inr rfl))) (sA (n:=1) (i:=0) (by decide)) (cv_ (by decide)) (λ_ _ _ _ _=>dp_) (λ_ _ _ _ _=>(iE Hl (hr.mono (by omega)) (bR (bL (pv 0)) cB)))) cB)))) fW)
  (cV (fL (qI (vL .dict Ac (bL (pv 0)) (vB (v:=.ty "dict") rfl m_dict vE rfl))) (cV (fM (i:=1) jR.nd rfl (Or.inl rfl) mH)
  (cV (aHy PassesOwn.never rfl (pv 0) (iU (i:=2) jR.nd rfl (Or.inl rfl)) (sA (n:=99) (i:=2) (by decide)) (dH (z6 λF=>PS.weak (mK Am (pv 1) (XE.at (Ex:=dR) F (bL (pv 2))) (XE.at (Ex:=dR) F (iE Hl (hr.mono (by omega)) (bR (ip_ Am (bL (pv 0)) (bL (pv 2)) (λ_ _=>rfl)) cB))) rfl) tF)))
  (dH (dX (n9 (pv 1)))))) fW)
  (dH (dX (n9 (pv 0))))))),λds Q h=>?_⟩
 clear Am
 obtain⟨d,rfl,hs,hd,q⟩:=h
 cases d with
 |scr _ _=>simp only[Dx.Sz]at hs
 |ins _ _=>simp only[Dx.Sz]at hs
 |exc _=>simp only[Dx.Sz]at hs
 |lst l =>
  show l.length<=1000000/\dP 1 (gxN 0) aPj (cX (gCP n) (aW (bM 0) cJ)) _ l [] []
  simp only[Dx.Sz]at hs
  refine⟨by omega,jn_ (λd=>[d]) (λd hm Ag P p=>?_) (by rw[l8];exact q)⟩
  exact⟨d,rfl,tG hs.2 hm,by have:=fw_ hm;simp only[Dx.deep]at hd;omega,by show P (Ag++[d.own.d]) [];rw[aEn];exact p⟩
 |tup l =>
  show l.length<=1000000/\dP 1 (gxN 0) aPj (cX (gCP n) (aW (bM 0) cJ)) _ l [] []
  simp only[Dx.Sz]at hs
  refine⟨by omega,jn_ (λd=>[d]) (λd hm Ag P p=>?_) (by rw[l8];exact q)⟩
  exact⟨d,rfl,tG hs.2 hm,by have:=fw_ hm;simp only[Dx.deep]at hd;omega,by show P (Ag++[d.own.d]) [];rw[aEn];exact p⟩
 |dic l =>
  simp only[Dx.Sz]at hs
  simp only[Dx.deep]at hd
  show iR _ _ _ (iQ l) _
  refine wZ (λks ρ=>∃done rest x,l=done++rest/\ks=iQ rest/\ρ=[vT (.dic l),.v (.od done),x]) (λρ h=>?_) (λk ks ρ K h hk=>?_) ⟨[],l,.un,rfl,rfl,rfl⟩
  ·obtain ⟨done,rest,x,e1,e2,rfl⟩:=h
   have:rest=[]:=by cases rest with | nil=>rfl | cons a b=>simp[iQ]at e2
   subst this
   rw[aV]at e1
   subst e1
   exact q
  ·obtain ⟨done,rest,x,e1,e2,rfl⟩:=h
   cases rest with
   |nil=>simp[iQ]at e2
   |cons p rest =>
    simp only[iQ,bB,List.cons.injEq]at e2
    obtain⟨rfl,rfl⟩:=e2
    have hm:p∈l:=by rw[e1];exact aE _ aA
    have Lx:=jk_ hs.2.1 hm
    have B6:p.1∉done.map (·.1):=by
     have:=hs.2.1
     rw[e1,bT,cA]at this
     exact λz=>this.2.2 _ z _ (cP (f:=λx:Key×Dx=>x.1) aA) rfl
    have Al:done.length<=l.length:=by rw[e1,aB];omega
    have Dd:=hk [vT (.dic l),.v (.od (qF done p.1 p.2)),vT (pE p.1)] ⟨done++[p],rest,vT (pE p.1),by rw[e1,aL];rfl,rfl,by rw[oO B6]⟩
    have Lo:K [vT (.dic l),.v (.od (qF done p.1 p.2.own.d)),vT (pE p.1)]:=by rw[aEn];exact Dd
    simp only[gxN,aNf,cX,aW,cJ,xOp,bM,List.getElem?_cons_zero,List.getElem?_cons_succ,List.set_cons_zero,List.set_cons_succ,Sv.d,bB,dA,dgX,aFn,Lx]
    exact⟨p.2,rfl,vY hs.2.2 hm,by have:=hr_ hm;omega,⟨done,rfl⟩,by omega,Lo⟩
 |non=>exact q
 |bl b=>exact q
 |int i=>exact q
 |str x=>exact q
end
def gUP:GC:=λds Q=>∃n m:Int,ds=[.int n,.int m]/\0<=n/\n<2^60/\0<m/\m<=8/\Q (.tr (.int (up n m)))
def rb:Nat->Int
 | 0=>8
 |n+1=>1000*rb n
theorem aDl:∀n,8<=rb n
 | 0=>by decide
 |n+1=>by have:=aDl n;show 8<=1000*rb n;omega
theorem aXb:∀{n:Nat},n<=4->rb n<2^50:=by
 intro n h
 have:n=0\/n=1\/n=2\/n=3\/n=4:=by omega
 rcases this with rfl | rfl | rfl | rfl | rfl<;>decide
mutual
def Kd.lo:Kd->Nat
 | .num w _=>w.toNat
 | .row k n=>n.toNat*k.lo
 | .rcd fs=>loF fs
 | .cho ks=>loK ks
def loF:List (Str×Kd)->Nat
 | []=>0
 |f::r=>f.2.lo+loF r
def loK:List Kd->Nat
 | []=>0
 |k::r=>max k.lo (loK r)
end
theorem aFi{M:Int}:∀{ks:List Kd},0<=M->(∀g∈ks,(g.lo:Int)<=M)->(loK ks:Int)<=M
 | [],h0,_=>by simp only[loK];exact h0
 |k::r,h0,h=>by
  have h1:=h k aA
  have h2:=aFi h0 λg hg=>h g (aC _ hg)
  simp only[loK]
  omega
def gRM(n:Nat):GC:=λds Q=>∃k:Kd,ds=[k.x]/\k.Fit/\k.deep<=n/\n<=5/\∀a b:Int,(k.lo:Int)<=a->a<=rb n->1<=b->b<=8->Q (.tr (.tup [.int a,.int b]))
section
variable{f:Addr}{n j:Nat}
theorem aRq(F:Fun K "_law_up" "_law_up" ig_ f fd):FnOk P w K mg base CX0 1 f fd BD (spX gUP):=by
 refine jA F u5 (λds Q h=>by obtain⟨_,_,rfl,_⟩:=h;rfl) (by decide) λAk A outer s H E hr=>?_
 have Am:=jM hr
 have Aj:=aR Am
 refine⟨_,(dH (dX (eo_ (sR (io_ (gA (bL (pv 0)) (bL (pv 1))) cK) (bL (pv 1))) (bL (pv 1))))),λds Q h=>?_⟩
 clear Aj Am
 obtain⟨n,m,rfl,h0,h1,h2,h3,q⟩:=h
 have h4:(n+m-1)/m<=n+m-1:=Int.ediv_le_self _ (by omega)
 have h5:0<=(n+m-1)/m:=Int.ediv_nonneg (by omega) (by omega)
 exact⟨⟨h2,by omega⟩,⟨by omega,by omega⟩,q⟩
theorem aRs(F:Fun K "_law_room" "_law_room" de_ f fd)(Ig:Cal P w K mg base (j+1) "_law_room" ["kind"] (spX (gRM n)))(J2:Cal P w K mg base 1 "_law_up" BD (spX gUP))(Bb:mg "max" = none):FnOk P w K mg base CX0 (j+2) f fd ["kind"] (spX (gRM (n+1))):=by
 refine jA F cU (λds Q h=>by obtain⟨_,rfl,_⟩:=h;rfl) (by decide) λAk A outer s H E hr=>?_
 have Am:=jM hr
 have Aj:=aR Am
 refine⟨_,(cV (fL (eE (gV K Aj) hX (gC K (pv 0)) fU (bD _)) (dH (dX (xN (bR (gC K (pv 0)) (bR (gC K (pv 0)) cB))))) fW)
  (cV (fL (eE (gV K Aj) hX (gC K (pv 0)) fU (bD _)) (cV (mG (gm_ (n:=99) (is:=[1,2]) rfl (by decide)) λF=>iy_ (XE.at (Ex:=dR) F (iE Ig (hr.mono (by omega)) (bR (gC K (pv 0)) cB))) (hu_ rfl (qN (iU (i:=1) cU.nd rfl (Or.inl rfl)) (qN (iU (i:=2) cU.nd rfl (Or.inl rfl)) em_))))
  (dH (dX (xN (bR (eo_ (iE J2 (hr.mono (by omega)) (bR (bL (pv 1)) (bR (bL (pv 2)) cB))) (gC K (pv 0))) (bR (bL (pv 2)) cB)))))) fW)
  (cV (fM (i:=3) cU.nd rfl (Or.inl rfl) cK)
  (cV (fM (i:=4) cU.nd rfl (Or.inl rfl) cK)
  (cV (fL (eE (gV K Aj) hX (gC K (pv 0)) fU (bD _)) (cV (gi_ PassesOwn.never rfl (dz_ (gC K (pv 0))) (hu_ rfl (qN (iU (i:=5) cU.nd rfl (Or.inl rfl)) (qN (iU (i:=6) cU.nd rfl (Or.inl rfl)) em_))) (gm_ (n:=99) (is:=[5,6]) rfl (by decide)) (cV (mG (gm_ (n:=99) (is:=[1,2]) rfl (by decide)) λF=>iy_ (XE.at (Ex:=dR) F (iE Ig (hr.mono (by omega)) (bR (bL (pv 6)) cB))) (hu_ rfl (qN (iU (i:=1) cU.nd rfl (Or.inl rfl)) (qN (iU (i:=2) cU.nd rfl (Or.inl rfl)) em_))))
  (cV (fM (i:=3) cU.nd rfl (Or.inl rfl) (gA (iE J2 (hr.mono (by omega)) (bR (bL (pv 3)) (bR (bL (pv 2)) cB))) (bL (pv 1))))
  (dH (fM (i:=4) cU.nd rfl (Or.inl rfl) (jJ (sD (by rfl)) o5 (by rfl) Bb vD (bR (bL (pv 4)) (bR (bL (pv 2)) cB))))))))
  (dH (dX (xN (bR (iE J2 (hr.mono (by omega)) (bR (bL (pv 3)) (bR (bL (pv 4)) cB))) (bR (bL (pv 4)) cB)))))) fW)
  (cV (z6 λF=>PS.weak (f6 (i:=7) cU.nd rfl rfl (dsc:=aM de_) (N:=AE) (tgs:=["part"]) (outs:=[]) (N':=["part"]) (by refine⟨rfl,?_,?_,?_,rfl,?_,?_,?_⟩<;>decide +kernel) (XIt.at (Ex:=dR) F (dz_ (gC K (pv 0)))) (λ_ _ _ _ _=>(iU (i:=0) (show(["part"]:List Str).Nodup by decide +kernel) rfl (Or.inl rfl) (.inr rfl))) (cv_ (by decide)) (λa b c d e=>XCs.at (Ex:=dR) F dp_) (λa b c d e=>XE.at (Ex:=dR) F (iE Ig (hr.mono (by omega)) (bR (bL (pv 0)) cB)))) (aDe (sA (n:=1) (i:=0) (by decide)) (by decide)))
  (cV (fM (i:=4) cU.nd rfl (Or.inl rfl) (jJ (sC K (by rfl)) o4 (by rfl) Bb vD (bR (ea_ (dsc:=aM de_) (N:=AE) (tgs:=["room","m"]) (outs:=[]) (N':=["room","m"]) (by refine⟨rfl,?_,?_,?_,rfl,?_,?_,?_⟩<;>decide +kernel) (dz_ (bL (pv 7))) (λ_ _ _ _ _=>(tW K (n:=2) rfl rfl (qN (iU (i:=0) (show(["room","m"]:List Str).Nodup by decide +kernel) rfl (Or.inl rfl) (.inr rfl)) (qN (iU (i:=1) (show(["room","m"]:List Str).Nodup by decide +kernel) rfl (Or.inl rfl) (.inr rfl)) em_)))) (gm_ (n:=2) (is:=[0,1]) rfl (by decide)) (tD (es_ (by decide) (es_ (by decide) nW er_) (hf_ er_))) (λ_ _ _ _ _=>dp_) (λ_ _ _ _ _=>(bL (pv 1)))) cB)))
  (dH (dX (xN (bR (iE J2 (hr.mono (by omega)) (bR (gA (iE J2 (hr.mono (by omega)) (bR cK (bR (bL (pv 4)) cB))) (jJ (sC K (by rfl)) o4 (by rfl) Bb vD (bR (ea_ (dsc:=aM de_) (N:=AE) (tgs:=["room","m"]) (outs:=[]) (N':=["room","m"]) (by refine⟨rfl,?_,?_,?_,rfl,?_,?_,?_⟩<;>decide +kernel) (dz_ (bL (pv 7))) (λ_ _ _ _ _=>(tW K (n:=2) rfl rfl (qN (iU (i:=0) (show(["room","m"]:List Str).Nodup by decide +kernel) rfl (Or.inl rfl) (.inr rfl)) (qN (iU (i:=1) (show(["room","m"]:List Str).Nodup by decide +kernel) rfl (Or.inl rfl) (.inr rfl)) em_)))) (gm_ (n:=2) (is:=[0,1]) rfl (by decide)) (tD (es_ (by decide) (es_ (by decide) nW er_) (hf_ er_))) (λ_ _ _ _ _=>dp_) (λ_ _ _ _ _=>(bL (pv 0)))) cB))) (bR (bL (pv 4)) cB))) (bR (bL (pv 4)) cB)))))))))))),λds Q h=>?_⟩
 clear Aj Am
 obtain⟨k,rfl,hF,hd,hn5,q⟩:=h
 have hp:=aDl n
 have hl:=aXb (n:=n) (by omega)
 have e1:rb (n+1)=1000*rb n:=rfl
 rw[e1]at q
 cases k with
 |num v m =>
  simp only[Kd.Fit]at hF
  exact⟨uM,q v m (by simp only[Kd.lo];omega) (by omega) (by omega) (by omega)⟩
 |row k m =>
  simp only[Kd.Fit]at hF
  simp only[Kd.deep]at hd
  refine⟨k,rfl,hF.1,by omega,by omega,λa b a0 a1 b0 b1=>?_⟩
  obtain⟨u1,u2⟩:=fr_ (n:=a) (m:=b) (by omega)
  refine⟨a,b,rfl,by omega,by omega,by omega,b1,?_⟩
  have hm:up a b*m<=(rb n+8)*20:=Int.mul_le_mul (by omega) (by omega) (by omega) (by omega)
  have hm0:0<=up a b*m:=Int.mul_nonneg (by omega) (by omega)
  have Do:((Kd.row k m).lo:Int)<=up a b*m:=by
   have e:((Kd.row k m).lo:Int)=(k.lo:Int)*m:=by
    simp only[Kd.lo]
    rw[Int.natCast_mul,cW (by omega),Int.mul_comm]
   rw[e]
   exact Int.mul_le_mul_of_nonneg_right (by omega) (by omega)
  exact⟨⟨by omega,by omega⟩,uM,q _ b Do (by omega) b0 b1⟩
 |rcd fs =>
  simp only[Kd.Fit]at hF
  simp only[Kd.deep]at hd
  refine lJ (ρ':=[vT (Kd.rcd fs).x,.un,.un,.un,.un,.un,.un,.un]) (λQ q=>q) ?_
  refine lJ (ρ':=[vT (Kd.rcd fs).x,.un,.un,.un,.un,.un,.un,.un]) (λQ q=>q) ?_
  refine lP (wU (lP (wU ?_)))
  refine kZ true (ρ':=[vT (Kd.rcd fs).x,.un,.un,vT (.int 0),vT (.int 1),.un,.un,.un]) (λQ q=>q) (λ_=>?_) (λhb=>by cases hb)
  refine eb_ (λρ=>∃(e mo:Int) (y1 y2 y5 y6:Sl),(loF fs:Int)<=e/\e<=8*(rb n+8)/\1<=mo/\mo<=8/\ρ=[vT (Kd.rcd fs).x,y1,y2,vT (.int e),vT (.int mo),y5,y6,.un]) ?_ (λnx C3=>?_)
  ·rintro ρ ⟨e,mo,y1,y2,y5,y6,e0,e1,m0,m1,rfl⟩
   obtain⟨u1,u2⟩:=fr_ (n:=e) (m:=mo) (by omega)
   exact⟨e,mo,rfl,by omega,by omega,by omega,m1,uM,q _ mo (by simp only[Kd.lo];omega) (by omega) m0 m1⟩
  show iR _ _ _ (xF fs) _
  rw[gr_]
  refine da_ (λf=>Dx.tup [.str f.1,f.2.x]) (λrest ρ=>(∀g∈rest,g∈fs)/\∃(c:Nat) (e mo:Int) (y1 y2 y5 y6:Sl),c+rest.length=fs.length/\(0<=e/\(loF fs:Int)<=e+loF rest)/\e<=(c:Int)*(rb n+8)/\1<=mo/\mo<=8/\ρ=[vT (Kd.rcd fs).x,y1,y2,vT (.int e),vT (.int mo),y5,y6,.un]) (λρ h=>?_) (λg rest ρ Kn h hk=>?_) ⟨λg hg=>hg,0,0,1,.un,.un,.un,.un,by simp,⟨by decide,by omega⟩,by simp,by decide,by decide,rfl⟩
  ·obtain ⟨_,c,e,mo,y1,y2,y5,y6,hc,e0,e1,m0,m1,rfl⟩:=h
   rw[bC]at hc
   have:(c:Int)*(rb n+8)<=8*(rb n+8):=Int.mul_le_mul_of_nonneg_right (by omega) (by omega)
   exact C3 _ ⟨e,mo,y1,y2,y5,y6,by have:=e0.2;simp only[loF]at this;omega,by omega,m0,m1,rfl⟩
  ·obtain ⟨B9,c,e,mo,y1,y2,y5,y6,hc,e0,e1,m0,m1,rfl⟩:=h
   rw[aD]at hc
   obtain⟨a1,a2,a3⟩:=gz_ hF.1 (B9 g aA)
   have Jv:(c:Int)*(rb n+8)<=8*(rb n+8):=Int.mul_le_mul_of_nonneg_right (by omega) (by omega)
   have E7:((c+1:Nat):Int)*(rb n+8)=(c:Int)*(rb n+8)+(rb n+8):=by push_cast;rw[Int.add_mul,Int.one_mul]
   refine⟨g.2,rfl,a2,by omega,by omega,λa b a0 a1 b0 b1=>?_⟩
   obtain⟨u1,u2⟩:=fr_ (n:=e) (m:=b) (by omega)
   have e2:=e0.2
   simp only[loF]at e2
   refine⟨e,b,rfl,e0.1,by omega,by omega,b1,?_⟩
   exact hk _ ⟨λx hx=>B9 x (aC _ hx),c+1,up e b+a,if b>mo then b else mo,_,_,_,_,by omega,⟨by omega,by omega⟩,by omega,by split<;>omega,by split<;>omega,rfl⟩
 |cho ks =>
  simp only[Kd.Fit]at hF
  simp only[Kd.deep]at hd
  have Bv:ks≠[]:=λe=>by rw[e]at hF;exact absurd hF.2.1 (by decide)
  refine lJ (ρ':=[vT (Kd.cho ks).x,.un,.un,.un,.un,.un,.un,.un]) (λQ q=>q) ?_
  refine lJ (ρ':=[vT (Kd.cho ks).x,.un,.un,.un,.un,.un,.un,.un]) (λQ q=>q) ?_
  refine lP (wU (lP (wU ?_)))
  refine lJ (ρ':=[vT (Kd.cho ks).x,.un,.un,vT (.int 0),vT (.int 1),.un,.un,.un]) (λQ q=>q) ?_
  refine⟨show(xK ks).length<=1000000 by rw[gj_,aG];omega,show dP _ _ _ _ _ (xK ks) _ _ from ?_⟩
  rw[gj_]
  refine db_ Kd.x (λrest Ag cs=>(∀g∈rest,g∈ks)/\∃rs:List (Int×Int),rs.length+rest.length=ks.length/\(∀g∈ks,g∈rest\/∃r∈rs,(g.lo:Int)<=r.1)/\(∀r∈rs,0<=r.1/\r.1<=rb n/\1<=r.2/\r.2<=8)/\Ag=rs.map (λr=>Dx.tup [.int r.1,.int r.2])/\cs=[]) (λAg cs h=>?_) (λg rest Ag cs Pn h hk=>?_) ⟨λg hg=>hg,[],by simp,λg hg=>.inl hg,λr hr=>absurd hr bY,rfl,rfl⟩
  rotate_left
  ·obtain ⟨B9,rs,C9,Do,Kc,rfl,rfl⟩:=h
   obtain⟨a2,a3⟩:=fj_ hF.1 (B9 g aA)
   refine⟨g,rfl,a2,by omega,by omega,λa b a0 a1 b0 b1=>hk _ _ ⟨λx hx=>B9 x (aC _ hx),rs++[(a,b)],by rw[aB];rw[aD]at C9;show rs.length+1+_=_;omega,λg' Cv=>?_,λr hr=>?_,by rw[bT];rfl,rfl⟩⟩
   ·rcases Do g' Cv with h | ⟨r,h1,h2⟩
    ·rcases aF.mp h with rfl | h
     ·exact .inr ⟨(a,b),aE _ aA,a0⟩
     ·exact .inl h
    ·exact .inr ⟨r,aK _ h1,h2⟩
   rcases bF.mp hr with hr | hr
   ·exact Kc r hr
   ·rw[aI.mp hr];exact⟨by show 0<=a;omega,a1,b0,b1⟩
  obtain⟨B9,rs,C9,Do,Kc,rfl,rfl⟩:=h
  rw[bC]at C9
  have I0:rs≠[]:=λe=>by rw[e,bC]at C9;omega
  dsimp only
  change cI _ _ [vT (Kd.cho ks).x,.un,.un,vT (.int 0),vT (.int 1),.un,.un,.v (.ol (rs.map (λr=>Dx.tup [.int r.1,.int r.2])))] _
  refine⟨by show(rs.map _).length<=1000000;rw[aG];omega,show dP _ _ _ _ _ (rs.map λr=>Dx.tup [.int r.1,.int r.2]) _ _ from ?_⟩
  refine do_ (λr:Int×Int=>Dx.tup [.int r.1,.int r.2]) (λr=>.int r.2) (λr _ Ag P p=>p) ?_
  refine⟨rs.map (·.2),by rw[cM];rfl,λz=>I0 (gO.mp z),λM hM _=>?_⟩
  obtain⟨r,I9,rfl⟩:=bX.mp hM
  obtain⟨c0,c1,c2,c3⟩:=Kc r I9
  obtain⟨u1,u2⟩:=fr_ (n:=1) (m:=r.2) (by omega)
  refine⟨1,r.2,rfl,by decide,by decide,by omega,c3,?_⟩
  refine⟨by show(rs.map _).length<=1000000;rw[aG];omega,show dP _ _ _ _ _ (rs.map λr=>Dx.tup [.int r.1,.int r.2]) _ _ from ?_⟩
  refine do_ (λr:Int×Int=>Dx.tup [.int r.1,.int r.2]) (λr=>.int r.1) (λr _ Ag P p=>p) ?_
  refine⟨rs.map (·.1),by rw[cM];rfl,λz=>I0 (gO.mp z),λM hM Nk=>?_⟩
  obtain⟨r',K9,rfl⟩:=bX.mp hM
  obtain⟨d0,d1,d2,d3⟩:=Kc r' K9
  obtain⟨v1,v2⟩:=fr_ (n:=up 1 r.2+r'.1) (m:=r.2) (by omega)
  have hloK:(loK ks:Int)<=r'.1:=aFi d0 λg hg=>by
   rcases Do g hg with h | ⟨r2,h1,h2⟩
   ·cases h
   ·exact Int.le_trans h2 (Nk _ (cP h1))
  exact⟨up 1 r.2+r'.1,r.2,rfl,by omega,by omega,by omega,c3,uM,q _ r.2 (by simp only[Kd.lo];omega) (by omega) c2 c3⟩
end
def aGe:GB:=λl ds Q=>∃d mo:Int,ds=[.int d,.int mo]/\dS l/\1<=d/\d<=5/\160<=mo/\mo<=2000/\∀(kd:Kd) (l':List Dx),kd.Fit->kd.deep<=5->kd.lo<=2000->dS l'->Q kd.x l'
section
variable{f:Addr}{n j:Nat}
theorem aKq(F:Fun K "_law_kind_within" "_law_kind_within" df_ f fd)(A1:Cal P w K mg base 1 "_law_take" AD (spB gTK))(Ks:Cal P w K mg base (j+1) "_law_kind" AU (spB (gKN 5)))(Ig:Cal P w K mg base (j+1) "_law_room" ["kind"] (spX (gRM 5))):FnOk P w K mg base CX0 (j+2) f fd AT (spB aGe):=by
 refine aMb F gY (λl ds Q h=>by obtain⟨d,mo,rfl,_⟩:=h;rfl) (by decide) λAk A outer s H E hr=>?_
 have Am:=jM hr
 have Aj:=aR Am
 refine⟨_,(cV (fM (i:=3) gY.nd rfl (Or.inl rfl) (jB (i:=0) Ks (hr.mono (by omega)) (pv 0) (bR (bL (pv 1)) cB)))
  (cV (fL (XW.pt (gh_ (eE hy_ hx_ (jI K (iE Ig (hr.mono (by omega)) (bR (bL (pv 3)) cB)) cK (λ_ _=>rfl)) (bL (pv 2)) (bD _)) (el_ (eE vI vJ (bL (pv 2)) cK (bD _))))) (dH (dX (xN (bR fU (bR (gA cK (jB (i:=0) A1 (hr.mono (by omega)) (pv 0) (bR cK cB))) (bR (jI K (pR (bR cK (bR cK (bR cK (bR cK cB))))) (jB (i:=0) A1 (hr.mono (by omega)) (pv 0) (bR cK cB)) (λ_ _=>rfl)) cB)))))) fW)
  (cV (fL (eE hy_ hx_ (jI K (iE Ig (hr.mono (by omega)) (bR (bL (pv 3)) cB)) cK (λ_ _=>rfl)) (bL (pv 2)) (bD _)) (dH (dX (xN (bR fU (bR (xN (bR fU (bR (gA cK (jB (i:=0) A1 (hr.mono (by omega)) (pv 0) (bR cK cB))) (bR cK cB)))) (bR (gA cK (jB (i:=0) A1 (hr.mono (by omega)) (pv 0) (bR cK cB))) cB)))))) fW)
  (dH (dX (n9 (pv 3))))))),λl ds Q h=>?_⟩
 clear Aj Am
 obtain⟨d,mo,rfl,hl,d1,d5,mo1,mo2,q⟩:=h
 refine⟨rfl,d,rfl,hl,d1,by omega,by decide,λkd l1 hF Gd C9=>?_⟩
 dsimp only
 change cI _ _ [.bw l1,vT (.int d),vT (.int mo),vT kd.x] _
 refine⟨kd,rfl,hF,by omega,by decide,λa b _ _ _ _=>wR (λh=>wR (λh2=>?_) (λh2=>?_)) (λh=>?_)⟩
 ·refine ⟨rfl,8,rfl,C9,by decide,fun r l2 r0 r1 B8 => ?_⟩
  refine⟨(by show 4<=1000000;decide),rfl,4,rfl,B8,by decide,λr3 l3 r30 r31 D5=>?_⟩
  refine gl_ r30 r31 λv hv=>?_
  obtain⟨m,rfl,hm⟩:=aOw hv
  exact⟨(by show 3<=1000000;decide),q (.num (1+r) m) l3 ⟨by omega,by omega,hm⟩ (by show 1<=5;decide) (by simp only[Kd.lo];omega) D5⟩
 ·refine ⟨kd,rfl,hF,by omega,by decide,fun a2 b2 a20 _ _ _=>wR (fun h => ?_) (fun h=>q kd l1 hF (by omega) (by have h5:¬ decide (mo < a2)=true:=h; rw [decide_eq_true_eq] at h5; omega) C9)⟩
  refine⟨rfl,8,rfl,C9,by decide,λr l2 r0 r1 B8=>⟨(by show 3<=1000000;decide),rfl,20,rfl,B8,by decide,λr3 l3 r30 r31 D5=>⟨(by show 3<=1000000;decide),?_⟩⟩⟩
  exact q (.row (.num (1+r) 1) (1+r3)) l3 ⟨⟨by omega,by omega,by omega⟩,by omega,by omega⟩ (by show 2<=5;decide) (by
   simp only[Kd.lo]
   have:=Nat.mul_le_mul (show(1+r3).toNat<=20 by omega) (show(1+r).toNat<=8 by omega)
   omega) D5
 ·refine ⟨kd,rfl,hF,by omega,by decide,fun a2 b2 a20 _ _ _=>wR (fun h => ?_) (fun h=>q kd l1 hF (by omega) (by have h5:¬ decide (mo < a2)=true:=h; rw [decide_eq_true_eq] at h5; omega) C9)⟩
  refine⟨rfl,8,rfl,C9,by decide,λr l2 r0 r1 B8=>⟨(by show 3<=1000000;decide),rfl,20,rfl,B8,by decide,λr3 l3 r30 r31 D5=>⟨(by show 3<=1000000;decide),?_⟩⟩⟩
  exact q (.row (.num (1+r) 1) (1+r3)) l3 ⟨⟨by omega,by omega,by omega⟩,by omega,by omega⟩ (by show 2<=5;decide) (by
   simp only[Kd.lo]
   have:=Nat.mul_le_mul (show(1+r3).toNat<=20 by omega) (show(1+r).toNat<=8 by omega)
   omega) D5
end
mutual
def Kd.vx:Kd->Vd->Dx
 | .num _ _,.num n=>.int n
 | .row k _,.row vs=>.lst (vs.map k.vx)
 | .rcd fs,.rcd vs=>.dic (vxF fs vs)
 | .cho ks,.cho j v=>.tup [.int (j:Int),vxK ks j v]
 |_,_=>.non
def vxF:List (Str×Kd)->List Vd->List (Key×Dx)
 |f::r,v::vs=>(Sum.inr f.1,f.2.vx v)::vxF r vs
 |_,_=>[]
def vxK:List Kd->Nat->Vd->Dx
 | [],_,_=>.non
 |k::_,0,v=>k.vx v
 |_::r,j+1,v=>vxK r j v
end
theorem nQ:∀{fs:List (Str×Kd)} {vs:List Vd} {f:Str×Kd} {v:Vd},vs.length=fs.length->vxF (fs++[f]) (vs++[v])=vxF fs vs++[(Sum.inr f.1,f.2.vx v)]
 | [],[],f,v,_=>by simp[vxF]
 | [],_::_,_,_,h=>by simp at h
 |_::_,[],_,_,h=>by simp at h
 |g::r,u::vs,f,v,h=>by simp only[aP,vxF];rw[nQ (by simpa using h)]
theorem fc_:∀{fs:List (Str×Kd)} {vs:List Vd},vs.length=fs.length->(vxF fs vs).map (·.1)=fs.map λf=>(Sum.inr f.1:Key)
 | [],[],_=>by simp[vxF]
 | [],_::_,h=>by simp at h
 |_::_,[],h=>by simp at h
 |g::r,u::vs,h=>by simp only[vxF,bB];rw[fc_ (by simpa using h)]
theorem ir_{v:Vd}:∀{ks:List Kd} {j:Nat} {k:Kd},ks[j]? = some k->vxK ks j v=k.vx v
 | [],_,_,e=>by simp at e
 |k'::r,0,k,e=>by simp at e;subst e;simp only[vxK]
 |k'::r,j+1,k,e=>by simp only[vxK];exact ir_ (j:=j) (by simpa using e)
theorem ec_:∀{fs:List (Str×Kd)} {vs:List Vd},dF fs vs->vs.length=fs.length
 | [],[],_=>rfl
 | [],_::_,h=>by simp[dF]at h
 |_::_,[],h=>by simp[dF]at h
 |f::r,v::vs,h=>by simp only[dF]at h;simp[ec_ h.2]
theorem qS:∀{fs:List (Str×Kd)} {vs:List Vd} {f:Str×Kd} {v:Vd},dF fs vs->f.2.Val v->dF (fs++[f]) (vs++[v])
 | [],[],f,v,_,h=>by simp only[aS,dF];exact⟨h,trivial⟩
 | [],_::_,_,_,h,_=>by simp[dF]at h
 |_::_,[],_,_,h,_=>by simp[dF]at h
 |g::r,u::vs,f,v,h,h'=>by simp only[aP,dF]at h ⊢;exact⟨h.1,qS h.2 h'⟩
theorem sY:∀{ks:List Kd} {j:Nat} {k:Kd} {v:Vd},ks[j]? = some k->k.Val v->gT ks j v
 | [],_,_,_,e,_=>by simp at e
 |k'::r,0,k,v,e,h=>by simp at e;subst e;simp only[gT];exact h
 |k'::r,j+1,k,v,e,h=>by simp only[gT];exact sY (j:=j) (by simpa using e) h
theorem aGk:∀{fs:List (Str×Kd)} {f:Str×Kd},iM fs->f∈fs->f.2.Fit/\f.2.deep<=eB fs
 |g::r,f,h,hm=>by
  rcases aF.mp hm with rfl | hm
  ·exact⟨h.1.2,fA _ _⟩
  ·exact⟨(aGk h.2 hm).1,nzL (aGk h.2 hm).2 (eL _ _)⟩
theorem l9:∀{ks:List Kd} {k:Kd},iD ks->k∈ks->k.Fit/\k.deep<=fF ks
 |g::r,f,h,hm=>by
  rcases aF.mp hm with rfl | hm
  ·exact⟨h.1,fA _ _⟩
  ·exact⟨(l9 h.2 hm).1,nzL (l9 h.2 hm).2 (eL _ _)⟩
theorem yV{i:Nat}(h:i<=8):(256:Int)^i<=256^8:=by
 have:=Nat.pow_le_pow_right (n:=256) (by decide) h
 exact_mod_cast this
theorem aJl{i:Nat}(h:1<=i):(256:Int)<=256^i:=by
 obtain⟨k,rfl⟩:∃k,i=k+1:=⟨i-1,by omega⟩
 rw[Int.pow_succ]
 have:(1:Int)<=256^k:=Int.pow_pos (by decide)
 omega
theorem z9{v:Dx}{t a b:Int}(h:v∈[Dx.int 0,Dx.int t,Dx.int a,Dx.int b])(ht:0<=t)(a0:0<=a)(a1:a<=t)(b0:0<=b)(b1:b<=t):∃z,v=.int z/\0<=z/\z<=t:=by
 simp only[aF,bY,or_false]at h
 rcases h with rfl | rfl | rfl | rfl
 ·exact⟨_,rfl,by omega,ht⟩
 ·exact⟨_,rfl,ht,by omega⟩
 ·exact⟨_,rfl,a0,a1⟩
 ·exact⟨_,rfl,b0,b1⟩
theorem fx_:∀{ks:List Kd} {j:Nat} {v:Vd},gT ks j v->∃k,ks[j]? = some k/\k.Val v
 | [],_,_,h=>by simp[gT]at h
 |k::_,0,v,h=>by simp only[gT]at h;exact⟨k,rfl,h⟩
 |_::r,j+1,v,h=>by simp only[gT]at h;obtain⟨k,e,hk⟩:=fx_ h;exact⟨k,by simpa using e,hk⟩
theorem aLu{fs:List (Str×Kd)}{vs:List Vd}{i:Nat}{f:Str×Kd}{v:Vd}(hn:(fs.map (·.1)).Nodup)(hl:vs.length=fs.length)(h1:fs[i]? = some f)(h2:vs[i]? = some v):jL (vxF fs vs) (Sum.inr f.1)=some (f.2.vx v):=by
 have hk:=fc_ hl
 have Bw:((vxF fs vs).map (·.1)).Nodup:=by
  rw[hk]
  have:(fs.map λf=>(Sum.inr f.1:Key))=(fs.map (·.1)).map (λx:Str=>(Sum.inr x:Key)):=by rw[cM];rfl
  rw[this]
  exact List.Pairwise.map _ (λa b h e=>h (Sum.inr.inj e)) hn
 exact jk_ (p:=(Sum.inr f.1,f.2.vx v)) Bw (mem_vx h1 h2)
where mem_vx:∀{fs:List (Str×Kd)} {vs:List Vd} {i:Nat} {f:Str×Kd} {v:Vd},fs[i]? = some f->vs[i]? = some v->((Sum.inr f.1,f.2.vx v):Key×Dx)∈vxF fs vs
 | [],_,_,_,_,h,_=>by simp at h
 |_::_,[],_,_,_,_,h=>by simp at h
 |g::r,u::vs,0,f,v,h1,h2=>by simp at h1 h2;subst h1 h2;simp only[vxF];exact aA
 |g::r,u::vs,i+1,f,v,h1,h2=>by simp only[vxF];exact aC _ (mem_vx (i:=i) (by simpa using h1) (by simpa using h2))
mutual
def Kd.vw:Kd->Vd->List Nat
 | .num _ _,.num n=>aJ (cR n)
 | .row k _,.row vs=>91::(((vs.map λv=>44::32::k.vw v).flatten.drop 2)++[93])
 | .rcd fs,.rcd vs=>123::((vwF fs vs).drop 2++[125])
 | .cho ks,.cho j v=>aJ (cR (j:Int))++58::vwK ks j v
 |_,_=>[]
def vwF:List (Str×Kd)->List Vd->List Nat
 |f::r,v::vs=>44::32::(aJ f.1++32::(f.2.vw v++vwF r vs))
 |_,_=>[]
def vwK:List Kd->Nat->Vd->List Nat
 | [],_,_=>[]
 |k::_,0,v=>k.vw v
 |_::r,j+1,v=>vwK r j v
end
def Kd.vs(k:Kd)(v:Vd):Str:=⟨(k.vw v).toArray⟩
theorem fd_(k:Kd)(v:Vd):aJ (k.vs v)=k.vw v:=by unfold Kd.vs aJ;rfl
theorem nR(k:Kd)(v:Vd):(k.vs v).length=(k.vw v).length:=by rw[gE,fd_]
theorem sX{v:Vd}:∀{ks:List Kd} {j:Nat} {k:Kd},ks[j]? = some k->vwK ks j v=k.vw v
 | [],_,_,e=>by simp at e
 |k'::r,0,k,e=>by simp at e;subst e;simp only[vwK]
 |k'::r,j+1,k,e=>by simp only[vwK];exact sX (j:=j) (by simpa using e)
theorem vQ:∀{fs:List (Str×Kd)} {vs:List Vd},vwF fs vs=((fs.zip vs).map λp=>44::32::(aJ p.1.1++32::p.1.2.vw p.2)).flatten
 | [],_=>by simp[vwF]
 |_::_,[]=>by simp[vwF]
 |f::r,v::vs=>by simp only[vwF,eP,bB,cQ,vQ (fs:=r) (vs:=vs),aP,aL]
theorem l7{α:Type}{g:α->List Nat}{B:Nat}:∀{l:List α},(∀a∈l,(g a).length<=B)->((l.map g).flatten).length<=l.length*B
 | [],_=>by simp
 |a::l,h=>by
  have h1:=h a aA
  have h2:=l7 λb hb=>h b (aC a hb)
  rw[bB,cQ,aB,aD,hZ,Nat.one_mul]
  omega
def cw(d:Nat):Nat:=3+16*d
mutual
theorem Kd.lo_pos:∀k:Kd,k.Fit->1<=k.lo
 | .num w m,h=>by simp only[Kd.Fit]at h;simp only[Kd.lo];omega
 | .row k n,h=>by
  simp only[Kd.Fit]at h
  have a:=Kd.lo_pos k h.1
  simp only[Kd.lo]
  exact Nat.mul_pos (by omega) a
 | .rcd fs,h=>by
  simp only[Kd.Fit]at h
  simp only[Kd.lo]
  exact j0 fs h.1 h.2.1
 | .cho ks,h=>by
  simp only[Kd.Fit]at h
  simp only[Kd.lo]
  exact i_ ks h.1 h.2.1
theorem j0:∀fs:List (Str×Kd),iM fs->1<=fs.length->1<=loF fs
 | [],_,h=>absurd h (by simp)
 |f::r,h,_=>by simp only[iM]at h;have:=Kd.lo_pos f.2 h.1.2;simp only[loF];omega
theorem i_:∀ks:List Kd,iD ks->1<=ks.length->1<=loK ks
 | [],_,h=>absurd h (by simp)
 |k::r,h,_=>by simp only[iD]at h;have:=Kd.lo_pos k h.1;simp only[loK];omega
end
mutual
theorem Kd.vw_len:∀(k:Kd) (v:Vd),k.Fit->k.Val v->(k.vw v).length<=cw k.deep*k.lo
 | .num w m,v,h,hv=>by
  cases v with
  |num n =>
   simp only[Kd.Fit]at h
   simp only[Kd.Val]at hv
   have:=aNj (n:=n) (w:=w.toNat) hv.1 (by omega) hv.2
   rw[gE]at this
   simp only[Kd.vw,Kd.lo,Kd.deep,cw]
   omega
  |_=>simp only[Kd.Val]at hv
 | .row k m,v,h,hv=>by
  cases v with
  |row vs =>
   simp only[Kd.Fit]at h
   simp only[Kd.Val]at hv
   have hb:∀v∈vs,(44::32::k.vw v).length<=(cw k.deep+2)*k.lo:=λv hm=>by
    have:=Kd.vw_len k v h.1 (hv.2 v hm)
    have hp:=Kd.lo_pos k h.1
    rw[aD,aD,hZ]
    omega
   have hf:=l7 hb
   have e:vs.length=m.toNat:=by omega
   have hp:=Kd.lo_pos k h.1
   have hm1:k.lo<=m.toNat*k.lo:=Nat.le_mul_of_pos_left _ (by omega)
   have e1:cw (k.deep+1)*(m.toNat*k.lo)=m.toNat*((cw k.deep+2)*k.lo)+14*(m.toNat*k.lo):=by
    rw[show cw (k.deep+1)=cw k.deep+2+14 from by unfold cw;omega,hZ,Nat.mul_left_comm (cw k.deep+2)]
   simp only[Kd.vw,Kd.lo,Kd.deep,aD,aB,bS,bC]
   rw[show k.deep+1=k.deep+1 from rfl,e1]
   rw[e]at hf
   omega
  |_=>simp only[Kd.Val]at hv
 | .rcd fs,v,h,hv=>by
  cases v with
  |rcd vs =>
   simp only[Kd.Fit]at h
   simp only[Kd.Val]at hv
   have hp:=j0 fs h.1 h.2.1
   have hf:=b9 fs vs (eB fs) h.1 hv (bA _)
   have e1:cw (eB fs+1)*loF fs=(cw (eB fs)+11)*loF fs+5*loF fs:=by
    rw[show cw (eB fs+1)=cw (eB fs)+11+5 from by unfold cw;omega,hZ]
   simp only[Kd.vw,Kd.lo,Kd.deep,aD,aB,bS,bC]
   rw[e1]
   omega
  |_=>simp only[Kd.Val]at hv
 | .cho ks,v,h,hv=>by
  cases v with
  |cho j v =>
   simp only[Kd.Fit]at h
   simp only[Kd.Val]at hv
   have hp:=i_ ks h.1 h.2.1
   obtain⟨h1,h2⟩:=b8 ks j v (fF ks) h.1 hv (bA _)
   have ht:=he_ (n:=(j:Int)) (k:=1) (by omega) (by omega) (by decide)
   rw[gE]at ht
   have e1:cw (fF ks+1)*loK ks=cw (fF ks)*loK ks+16*loK ks:=by
    rw[show cw (fF ks+1)=cw (fF ks)+16 from by unfold cw;omega,hZ]
   simp only[Kd.vw,Kd.lo,Kd.deep,aD,aB]
   rw[e1]
   omega
  |_=>simp only[Kd.Val]at hv
theorem b9:∀(fs:List (Str×Kd)) (vs:List Vd) (D:Nat),iM fs->dF fs vs->eB fs<=D->(vwF fs vs).length<=(cw D+11)*loF fs
 | [],vs,D,_,_,_=>by simp[vwF]
 |f::r,[],D,_,hv,_=>by simp[dF]at hv
 |f::r,v::vs,D,h,hv,hd=>by
  simp only[iM]at h
  simp only[dF]at hv
  simp only[eB]at hd
  have h1:=Kd.vw_len f.2 v h.1.2 hv.1
  have h2:=b9 r vs D h.2 hv.2 (by omega)
  have hp:=Kd.lo_pos f.2 h.1.2
  have h3:cw f.2.deep*f.2.lo<=cw D*f.2.lo:=gH _ (by unfold cw;omega)
  have h4:=h.1.1.2.1
  simp only[vwF,loF,aD,aB,Nat.mul_add,hZ]
  rw[hZ]at h2
  omega
theorem b8:∀(ks:List Kd) (j:Nat) (v:Vd) (D:Nat),iD ks->gT ks j v->fF ks<=D->(vwK ks j v).length<=cw D*loK ks/\j<ks.length
 | [],j,v,D,_,hv,_=>by simp[gT]at hv
 |k::r,0,v,D,h,hv,hd=>by
  simp only[iD]at h
  simp only[gT]at hv
  simp only[fF]at hd
  have h1:=Kd.vw_len k v h.1 hv
  have h3:cw k.deep*k.lo<=cw D*loK (k::r):=Nat.mul_le_mul (by unfold cw;omega) (by simp only[loK];omega)
  simp only[vwK]
  exact⟨by omega,by simp⟩
 |k::r,j+1,v,D,h,hv,hd=>by
  simp only[iD]at h
  simp only[gT]at hv
  simp only[fF]at hd
  obtain⟨h1,h2⟩:=b8 r j v D h.2 hv (by omega)
  have h3:cw D*loK r<=cw D*loK (k::r):=Nat.mul_le_mul_left _ (by simp only[loK];omega)
  simp only[vwK]
  exact⟨by omega,by simp;omega⟩
end
theorem cw5{d:Nat}(h:d<=5):cw d<=83:=by unfold cw;omega
theorem lN{k:Kd}{v:Vd}(h:k.Fit)(hv:k.Val v)(hd:k.deep<=5)(hl:k.lo<=2000):(k.vw v).length<=166000:=nzL (k.vw_len v h hv) (Nat.mul_le_mul (cw5 hd) hl)
def gPW:GC:=λds Q=>∃w:Int,ds=[.int w]/\0<=w/\w<=8/\Q (.tr (.int (256^w.toNat)))
def gVA(n:Nat):GB:=λl ds Q=>∃kd:Kd,ds=[kd.x]/\dS l/\kd.Fit/\kd.deep<=n/\n<=5/\∀(vd:Vd) (l':List Dx),kd.Val vd->dS l'->Q (kd.vx vd) l'
section
variable{f:Addr}{n j:Nat}
theorem aEu(F:Fun K "_law_power" "_law_power" ee_ f fd)(Af:mg "range" = none):FnOk P w K mg base CX0 1 f fd ["width"] (spX gPW):=by
 refine jA F gU (λds Q h=>by obtain⟨w,rfl,_⟩:=h;rfl) (by decide) λAk A outer s H E hr=>?_
 refine⟨_,(cV (fM (i:=1) gU.nd rfl (Or.inl rfl) cK)
  (cV (gi_ PassesOwn.never rfl (cx_ Af (bR (bL (pv 0)) cB)) (iU (i:=2) gU.nd rfl (Or.inl rfl)) (sA (n:=99) (i:=2) (by decide)) (dH (fM (i:=1) gU.nd rfl (Or.inl rfl) (eo_ (bL (pv 1)) cK))))
  (dH (dX (n9 (pv 1)))))),λds Q h=>?_⟩
 obtain⟨w,rfl,h0,h8,q⟩:=h
 refine⟨⟨by omega,by omega⟩,?_⟩
 refine da_ (λk:Nat=>Dx.int (0+(k:Int))) (λrest ρ=>∃(i:Nat) (y:Sl),i+rest.length=w.toNat/\ρ=[vT (.int w),vT (.int (256^i)),y]) (λρ h=>?_) (λk rest ρ Kn h hk=>?_) ⟨0,.un,by rw[cD];simp,rfl⟩
 ·obtain ⟨i,y,e,rfl⟩:=h
  rw[bC,Nat.add_zero]at e
  subst e
  exact q
 ·obtain ⟨i,y,e,rfl⟩:=h
  rw[aD]at e
  have Ez:(256:Int)^i<=256^7:=by
   have:=Nat.pow_le_pow_right (n:=256) (by decide) (show i<=7 by omega)
   exact_mod_cast this
  have Ni:(0:Int)<=256^i:=Int.pow_nonneg (by decide)
  exact⟨⟨by omega,by omega⟩,hk _ ⟨i+1,vT (.int (0+(k:Int))),by omega,by rw[Int.pow_succ];rfl⟩⟩
theorem aRp(F:Fun K "_law_value" "_law_value" ed_ f fd)(A1:Cal P w K mg base 1 "_law_take" AD (spB gTK))(My:Cal P w K mg base 1 "_law_power" ["width"] (spX gPW))(Hj:Cal P w K mg base j "_law_value" AR (kS (gVA n)))(Af:mg "range" = none)(Ad:mg "len" = none)(h1:1<=j) :
  FnOk P w K mg base CX0 (j+1) f fd AR (kS (gVA (n+1))):=by
 refine aGh F eW (λl ds Q h=>by obtain⟨kd,rfl,_⟩:=h;rfl) (by decide) (by decide) λAk A outer s H E hr=>?_
 have Am:=jM hr
 have Aj:=aR Am
 refine⟨_,(cV (fL (eE (gV K Aj) hX (gC K (pv 0)) fU (bD _)) (cV (fM (i:=2) eW.nd rfl (Or.inl rfl) (iE My (hr.mono (by omega)) (bR (gC K (pv 0)) cB)))
  (cV (fM (i:=3) eW.nd rfl (Or.inl rfl) (jB (i:=1) A1 (hr.mono (by omega)) (pv 1) (bR cK cB)))
  (dH (dX (jI K (pR (bR cK (bR (io_ (bL (pv 2)) cK) (bR (fp_ (jB (i:=1) A1 (hr.mono (by omega)) (pv 1) (bR cK cB)) (bL (pv 2))) (bR (fp_ (eo_ (eo_ (jB (i:=1) A1 (hr.mono (by omega)) (pv 1) (bR cK cB)) cK) cK) (bL (pv 2))) cB))))) (bL (pv 3)) (λ_ _=>rfl)))))) fW)
  (cV (fL (eE (gV K Aj) hX (gC K (pv 0)) fU (bD _)) (dH (dX (ea_ (dsc:=aM ed_) (N:=["kind","deck","most","way","found","name","part","k"]) (tgs:=["k"]) (outs:=[0,1]) (N':=["k","kind","deck"]) (by refine⟨rfl,?_,?_,?_,rfl,?_,?_,?_⟩<;>decide +kernel) (cx_ Af (bR (gC K (pv 0)) cB)) (λ_ _ _ _ _=>(iU (i:=0) (show(["k","kind","deck"]:List Str).Nodup by decide +kernel) rfl (Or.inl rfl) (.inr rfl))) (sA (n:=1) (i:=0) (by decide)) (cv_ (by decide)) (λ_ _ _ _ _=>dp_) (λ_ _ _ _ _=>(fq_ (i:=2) Hj (hr.mono (by omega)) (gC K (pv 1)) (pv 2)))))) fW)
  (cV (fL (eE (gV K Aj) hX (gC K (pv 0)) fU (bD _)) (cV (fM (i:=4) eW.nd rfl (Or.inl rfl) mH)
  (cV (gi_ PassesOwn.never rfl (dz_ (gC K (pv 0))) (hu_ rfl (qN (iU (i:=5) eW.nd rfl (Or.inl rfl)) (qN (iU (i:=6) eW.nd rfl (Or.inl rfl)) em_))) (gm_ (n:=99) (is:=[5,6]) rfl (by decide)) (dH (z6 λF=>PS.weak (mK Am (pv 4) (XE.at (Ex:=dR) F (bL (pv 5))) (XE.at (Ex:=dR) F (fq_ (i:=1) Hj (hr.mono (by omega)) (bL (pv 6)) (pv 1))) rfl) tF)))
  (dH (dX (n9 (pv 4)))))) fW)
  (cV (fM (i:=7) eW.nd rfl (Or.inl rfl) (jB (i:=1) A1 (hr.mono (by omega)) (pv 1) (bR (jJ (kI K) kY (by rfl) Ad PySem.boot_len (bR (gC K (pv 0)) cB)) cB)))
  (dH (dX (xN (bR (bL (pv 7)) (bR (fq_ (i:=1) Hj (hr.mono (by omega)) (jI K (gC K (pv 0)) (bL (pv 7)) (λ_ _=>rfl)) (pv 1)) cB))))))))),λl d Q h=>?_⟩
 obtain⟨kd,e,hN,Ep,Gd,hn,q⟩:=h
 cases e
 cases kd with
 |num wd m =>
  obtain⟨a1,a2,_⟩:=Ep
  have g1:=yV (show wd.toNat<=8 by omega)
  have g2:=aJl (show 1<=wd.toNat by omega)
  refine⟨wd,rfl,by omega,by omega,?_⟩
  refine⟨rfl,4,rfl,hN,by decide,λr l1 r0 r1 F0=>?_⟩
  refine⟨rfl,64,rfl,F0,by decide,λx1 l2 x10 x11 Hg=>?_⟩
  have z1:=dN x1 (show(256:Int)^wd.toNat≠0 by omega)
  have z2:=cT x1 (show(0:Int)<256^wd.toNat by omega)
  refine⟨(by omega:(0:Int)<256^wd.toNat),?_⟩
  refine⟨rfl,720720,rfl,Hg,by decide,λx2 l3 x20 x21 Ie=>?_⟩
  have z3:=dN (x2*48271*69621) (show(256:Int)^wd.toNat≠0 by omega)
  have z4:=cT (x2*48271*69621) (show(0:Int)<256^wd.toNat by omega)
  refine⟨⟨by omega,by omega⟩,⟨by omega,by omega⟩,(by omega:(0:Int)<256^wd.toNat),pD (by show 4<=1000000;decide),?_⟩
  refine m6 (s:=.tr (.int r)) rfl ?_
  show ixX (.lst [.int 0,.int (256^wd.toNat-1),.int (x1%256^wd.toNat),.int (x2*48271*69621%256^wd.toNat)]) (.int r) _
  refine gl_ r0 r1 λv hv=>?_
  obtain⟨z,rfl,z0,z1⟩:=z9 hv (by omega) z1 (by omega) z3 (by omega)
  exact q (.num z) l3 (by simp only[Kd.Val];exact⟨z0,by omega⟩) Ie
 |row k m =>
  obtain⟨f1,m1,m2⟩:=Ep
  have Jq:k.deep+1<=n+1:=Gd
  refine⟨⟨by omega,by omega⟩,by show((List.range _).map _).length<=_;rw[aG,cD];omega,?_⟩
  refine db_ (λk:Nat=>Dx.int (0+(k:Int))) (λrest Ag cs=>∃(vs:List Vd) (l':List Dx),vs.length+rest.length=m.toNat/\Ag=vs.map k.vx/\cs=[.v (.tr (Kd.row k m).x),.bw l']/\(∀v∈vs,k.Val v)/\dS l') (λAg cs h=>?_) (λnm rest Ag cs Pn h hk=>?_) ⟨[],l,by rw[cD];simp,rfl,rfl,(λv hv=>nomatch hv),hN⟩
  ·obtain ⟨vs,l',e1,rfl,rfl,hv,E8⟩:=h
   rw[bC]at e1
   have:=q (.row vs) l' (by simp only[Kd.Val];exact⟨by omega,hv⟩) E8
   simp only[Kd.vx]at this
   exact this
  ·obtain ⟨vs,l',e1,rfl,rfl,hv,E8⟩:=h
   rw[aD]at e1
   refine⟨k,rfl,E8,f1,by omega,by omega,λvd l6 Iu Fo=>hk _ _ ⟨vs++[vd],l6,by rw[aB,bH];omega,by rw[bT];rfl,rfl,λv hm=>?_,Fo⟩⟩
   rcases bF.mp hm with hm | hm
   ·exact hv v hm
   ·rw[aI.mp hm];exact Iu
 |rcd fs =>
  obtain⟨f1,m1,m2,Bw⟩:=Ep
  have Jq:eB fs+1<=n+1:=Gd
  show iR _ _ _ (xF fs) _
  rw[gr_]
  refine da_ _ (λrest ρ=>∃(done:List (Str×Kd)) (vs:List Vd) (l':List Dx) (y4 y5:Sl),fs=done++rest/\ρ=[vT (Kd.rcd fs).x,.bw l',.un,.un,.v (.od (vxF done vs)),y4,y5,.un]/\dF done vs/\dS l') (λρ h=>?_) (λf rest ρ Kn h hk=>?_) ⟨[],[],l,.un,.un,rfl,by simp only[vxF];rfl,by simp only[dF],hN⟩
  ·obtain ⟨done,vs,l',y4,y5,e1,rfl,hv,E8⟩:=h
   rw[aV]at e1
   subst e1
   have:=q (.rcd vs) l' (by simp only[Kd.Val];exact hv) E8
   simp only[Kd.vx]at this
   exact this
  ·obtain ⟨done,vs,l',y4,y5,e1,rfl,hv,E8⟩:=h
   have hm:f∈fs:=by rw[e1];exact aE _ aA
   have Al:done.length+(rest.length+1)=fs.length:=by rw[e1,aB,aD]
   obtain⟨ff,fd'⟩:=aGk f1 hm
   have Dz:=ec_ hv
   have B6:(Sum.inr f.1:Key)∉(vxF done vs).map (·.1):=by
    rw[fc_ Dz]
    intro z
    obtain⟨g,hg,e⟩:=bX.mp z
    rw[e1,bT,cA]at Bw
    exact Bw.2.2 g.1 (cP (f:=λx:Str×Kd=>x.1) hg) f.1 (cP (f:=λx:Str×Kd=>x.1) aA) (Sum.inr.inj e)
   have hvx:(vxF done vs).length=done.length:=by have:=congrArg List.length (fc_ Dz);simpa using this
   refine⟨f.2,rfl,E8,ff,by omega,by omega,λvd l6 Iu Fo=>⟨⟨_,rfl⟩,?_⟩⟩
   refine⟨show(vxF done vs).length<1000000 by omega,hk _ ⟨done++[f],vs++[vd],l6,vT (.str f.1),vT f.2.x,by rw[e1,aL];rfl,?_,qS hv Iu,Fo⟩⟩
   rw[nQ Dz,<-oO B6]
   rfl
 |cho ks =>
  obtain⟨f1,m1,m2⟩:=Ep
  have Jq:fF ks+1<=n+1:=Gd
  have He:(xK ks).length=ks.length:=by rw[gj_,aG]
  refine⟨rfl,((xK ks).length:Int),rfl,hN,by omega,λr l1 r0 r1 hP1=>?_⟩
  have B7:r.toNat<ks.length:=by omega
  have Dd:=aO B7
  generalize ks[r.toNat]=kc at Dd
  obtain⟨kf,kdp⟩:=l9 f1 (bN Dd)
  have Ir:(xK ks)[r.toNat]? = some kc.x:=by rw[gj_,bV,Dd];rfl
  have De:=pU Ir
  rw[cW r0]at De
  show match atI (xK ks) r with | some d=>_ | none=>False
  rw[De]
  refine⟨kc,rfl,hP1,kf,by omega,by omega,λvd l6 Iu Fo=>⟨uM,?_⟩⟩
  have:=q (.cho r.toNat vd) l6 (by simp only[Kd.Val];exact sY Dd Iu) Fo
  simp only[Kd.vx]at this
  rw[ir_ Dd,cW r0]at this
  exact this
end
theorem vU:∀{fs:List (Str×Kd)} {vs:List Vd} {p:(Str×Kd)×Vd},okF fs->dF fs vs->p∈fs.zip vs->p.1.2.Ok/\p.1.2.Val p.2/\p.1.2.deep<=eB fs
 | [],_,_,_,_,h=>by simp at h
 |_::_,[],_,_,h,_=>by simp[dF]at h
 |f::r,v::vs,p,ho,h,hm=>by
  simp only[dF]at h
  rw[eP]at hm
  rcases aF.mp hm with rfl | hm
  ·exact⟨ho.1,h.1,fA _ _⟩
  ·obtain ⟨a,b,c⟩:=vU ho.2 h.2 hm
   exact⟨a,b,nzL c (eL _ _)⟩
theorem aHe{i w:Int}(h0:0<=i)(hw:0<=w)(h:i<256^w.toNat):((Builtin.Int.intBits i:Nat):Int)<=8*w:=by
 have e:(256:Int)^w.toNat=((2^(8*w.toNat):Nat):Int):=by
  rw[Nat.pow_mul]
  simp
 rw[e]at h
 have:Builtin.Int.intBits i<=8*w.toNat:=intBits_le_iff.mpr (by omega)
 omega
theorem sG{i w:Int}(h0:0<=i)(hw:0<=w):((Builtin.Int.intBits i:Nat):Int)<=8*w↔i<256^w.toNat:=by
 refine⟨λh=>?_,aHe h0 hw⟩
 have h1:Builtin.Int.intBits i<=8*w.toNat:=by omega
 have h2:=intBits_le_iff.mp h1
 have e:(256:Int)^w.toNat=((2^(8*w.toNat):Nat):Int):=by
  rw[Nat.pow_mul]
  simp
 rw[e]
 omega
def gIW:GC:=λds Q=>∃i:Int,ds=[.int i]/\Q (.tr (.bl true))
def gNo:GC:=λ_ _=>False
def aTj:GC:=λds Q=>∃(wd m i:Int),ds=[(Kd.num wd m).x,.int i]/\(Kd.num wd m).Fit/\0<=i/\(i<256^wd.toNat->Q (.tr (.bl true)))/\(¬i<256^wd.toNat->Q (.tr (.bl false)))
section
variable{f:Addr}{n j:Nat}
theorem aRy(F:Fun K "is_whole" "is_whole" hi_ f fd)(Ac:mg "isinstance" = none)(m_int:mg "int" = none)(Bf:mg "bool" = none):FnOk P w K mg base CX0 1 f fd AS (spX gIW):=by
 refine jA F wE (λds Q h=>by obtain⟨_,rfl,_⟩:=h;rfl) (by decide) λAk A outer s H E hr=>?_
 refine⟨_,(dH (dX (lM (vL .int Ac (bL (pv 0)) (vB (v:=.ty "int") rfl m_int ez_ rfl)) (lL (aBl (vL .bool Ac (bL (pv 0)) (vB (v:=.ty "bool") rfl Bf p8 rfl))))))),λds Q h=>?_⟩
 obtain⟨i,rfl,q⟩:=h
 exact q
theorem aKr(F:Fun K "is_value" "is_value" hj_ f fd)(CIW:Cal P w K mg base 1 "is_whole" AS (spX gIW))(M1:Cal P w K mg base 1 "is_row_value" ["kind","n","thing"] (spX gNo))(M2:Cal P w K mg base 1 "is_record_value" ["fields","thing"] (spX gNo))(M3:Cal P w K mg base 1 "is_choice_value" ["kinds","thing"] (spX gNo))(Av:∃t,mg "BITS_OF_A_BYTE" = some (.int 8 t)):FnOk P w K mg base CX0 2 f fd AY (spX aTj):=by
 refine jA F wF (λds Q h=>by obtain⟨_,_,_,rfl,_⟩:=h;rfl) (by decide) λAk A outer s H E hr=>?_
 have Am:=jM hr
 have Aj:=aR Am
 refine⟨_,(cV (fL (eE (gV K Aj) hX (gC K (pv 0)) fU (bD _)) (dH (dX (lM (iE CIW (hr.mono (by omega)) (bR (bL (pv 1)) cB)) (lM (xL h_ g_ (bL (pv 1)) cK (bD _)) (lL (xL aOh aOf (λF=>PE.weak (aEi PySem.F.plainAttrs_int PySem.F.slot_int_bit_length PySem.F.type_int_bit_length qG (XE.at (Ex:=dR) F (bL (pv 1)))) aUg) (eo_ (sQ (by rfl) Av) (gC K (pv 0))) (bD _))))))) fW)
  (cV (fL (eE (gV K Aj) hX (gC K (pv 0)) fU (bD _)) (dH (dX (iE M1 (hr.mono (by omega)) (bR (gC K (pv 0)) (bR (gC K (pv 0)) (bR (bL (pv 1)) cB)))))) fW)
  (cV (fL (eE (gV K Aj) hX (gC K (pv 0)) fU (bD _)) (dH (dX (iE M2 (hr.mono (by omega)) (bR (gC K (pv 0)) (bR (bL (pv 1)) cB))))) fW)
  (dH (dX (iE M3 (hr.mono (by omega)) (bR (gC K (pv 0)) (bR (bL (pv 1)) cB)))))))),λds Q h=>?_⟩
 clear Aj Am
 obtain⟨wd,m,i,rfl,hF,h0,qy,qn⟩:=h
 simp only[Kd.Fit]at hF
 refine⟨i,rfl,?_⟩
 show if decide ((0:Int)<=i)=true then _ else _
 rw[if_pos (dzT h0)]
 refine⟨⟨by decide,by omega⟩,?_⟩
 show Q (.tr (.bl (decide (((Builtin.Int.intBits i:Nat):Int)<=8*wd))))
 by_cases hb:i<256^wd.toNat
 ·rw [dzT ((sG h0 (by omega)).mpr hb)]
  exact qy hb
 ·rw [dzF (fun z=>hb ((sG h0 (by omega)).mp z))]
  exact qn hb
end
theorem aCv:∀{l:List Dx},(∀d∈l,d.Sz)->szX l
 | [],_=>trivial
 |d::r,h=>⟨h d aA,aCv λe he=>h e (aC _ he)⟩
theorem c_:∀{l:List (Key×Dx)},(∀p∈l,p.2.Sz)->aIv l
 | [],_=>trivial
 |d::r,h=>⟨h d aA,c_ λe he=>h e (aC _ he)⟩
theorem xS{n:Nat}:∀{l:List Dx},(∀d∈l,d.deep<=n)->gD l<=n
 | [],_=>cF _
 |d::r,h=>Nat.max_le.mpr ⟨h d aA,xS λe he=>h e (aC _ he)⟩
theorem rY{n:Nat}:∀{l:List (Key×Dx)},(∀p∈l,p.2.deep<=n)->pL l<=n
 | [],_=>cF _
 |d::r,h=>Nat.max_le.mpr ⟨h d aA,rY λe he=>h e (aC _ he)⟩
mutual
theorem Kd.vx_sz:∀(kd:Kd) (vd:Vd),kd.Fit->kd.Val vd->(kd.vx vd).Sz/\(kd.vx vd).deep<=kd.deep
 | .num w m,vd,hf,hv=>by
  cases vd with
  |num i=>simp only[Kd.vx,Dx.Sz,Dx.deep,Kd.deep];exact⟨trivial,by omega⟩
  |_=>simp[Kd.Val]at hv
 | .row k m,vd,hf,hv=>by
  cases vd with
  |row vs =>
   simp only[Kd.Val]at hv
   have f3:=hf.2.2
   have z:∀d∈vs.map k.vx,d.Sz/\d.deep<=k.deep:=λd hd=>by
    obtain⟨v,hm,rfl⟩:=bX.mp hd
    exact Kd.vx_sz k v hf.1 (hv.2 v hm)
   simp only[Kd.vx,Dx.Sz,Dx.deep,Kd.deep]
   have:=xS λd hd=>(z d hd).2
   exact⟨⟨by rw[aG];omega,aCv λd hd=>(z d hd).1⟩,by omega⟩
  |_=>simp[Kd.Val]at hv
 | .rcd fs,vd,hf,hv=>by
  cases vd with
  |rcd vs =>
   simp only[Kd.Val]at hv
   obtain⟨f1,f2,f3,Bw⟩:=hf
   have Dz:=ec_ hv
   have z:=aCf fs vs f1 hv
   simp only[Kd.vx,Dx.Sz,Dx.deep,Kd.deep]
   have hk:=fc_ Dz
   have Al:(vxF fs vs).length=fs.length:=by have:=congrArg List.length hk;simpa using this
   have:=rY λd hd=>(z d hd).2
   refine⟨⟨by omega,?_,c_ λd hd=>(z d hd).1⟩,by omega⟩
   rw[hk]
   have e:(fs.map λf=>(Sum.inr f.1:Key))=(fs.map (·.1)).map (λx:Str=>(Sum.inr x:Key)):=by rw[cM];rfl
   rw[e]
   exact List.Pairwise.map _ (λa b h e=>h (Sum.inr.inj e)) Bw
  |_=>simp[Kd.Val]at hv
 | .cho ks,vd,hf,hv=>by
  cases vd with
  |cho jj v =>
   simp only[Kd.Val]at hv
   obtain⟨k,hk,Hw⟩:=fx_ hv
   obtain⟨a,b⟩:=aCe ks hf.1 k (bN hk) v Hw
   simp only[Kd.vx,Dx.Sz,Dx.deep,Kd.deep,szX,gD,aD,bC]
   rw[ir_ hk]
   have:=Kd.deep_pos k
   have hle:=(l9 hf.1 (bN hk)).2
   exact⟨⟨by omega,trivial,a,trivial⟩,by omega⟩
  |_=>simp[Kd.Val]at hv
theorem aCf:∀(fs:List (Str×Kd)) (vs:List Vd),iM fs->dF fs vs->∀p∈vxF fs vs,p.2.Sz/\p.2.deep<=eB fs
 | [],_,_,_,p,h=>by simp[vxF]at h
 |_::_,[],_,h,_,_=>by simp[dF]at h
 |f::r,v::vs,hf,hv,p,h=>by
  simp only[dF]at hv
  simp only[vxF]at h
  have e:eB (f::r)=max f.2.deep (eB r):=rfl
  rcases aF.mp h with rfl | h
  ·obtain ⟨a,b⟩:=Kd.vx_sz f.2 v hf.1.2 hv.1
   exact⟨a,nzL b (by omega)⟩
  ·obtain ⟨a,b⟩:=aCf r vs hf.2 hv.2 p h
   exact⟨a,by omega⟩
theorem aCe:∀(ks:List Kd),iD ks->∀k∈ks,∀v,k.Val v->(k.vx v).Sz/\(k.vx v).deep<=k.deep
 | [],_,k,h,_,_=>by simp at h
 |k'::r,hf,k,h,v,hv=>by
  by_cases e:k=k'
  ·rw[e]at hv ⊢;exact Kd.vx_sz k' v hf.1 hv
  ·exact aCe r hf.2 k ((aF.mp h).resolve_left e) v hv
end
theorem Nm.sz{x:Str}(h:Nm x):x.length<=1000:=by rw[gE];exact nzL h.2.1 (by decide)
mutual
theorem Kd.xz:∀(k:Kd),k.Fit->k.x.Sz
 | .num w m,h=>by simp only[Kd.x,Dx.Sz,szX,aD,bC];exact⟨by decide,by decide +kernel,trivial,trivial,trivial⟩
 | .row k n,h=>by simp only[Kd.x,Dx.Sz,szX,aD,bC];exact⟨by decide,by decide +kernel,Kd.xz k h.1,trivial,trivial⟩
 | .rcd fs,h=>by
  have:=h.2.2.1
  simp only[Kd.x,Dx.Sz,szX,aD,bC]
  exact⟨by decide,by decide +kernel,⟨by rw[gr_,aG];omega,xFz fs h.1⟩,trivial⟩
 | .cho ks,h=>by
  have:=h.2.2
  simp only[Kd.x,Dx.Sz,szX,aD,bC]
  exact⟨by decide,by decide +kernel,⟨by rw[gj_,aG];omega,xKz ks h.1⟩,trivial⟩
theorem xFz:∀(fs:List (Str×Kd)),iM fs->szX (xF fs)
 | [],_=>by simp only[xF,szX]
 |f::r,h=>by
  simp only[xF,szX,Dx.Sz,aD,bC]
  exact⟨⟨by decide,nzL h.1.1.sz (by decide),Kd.xz f.2 h.1.2,trivial⟩,xFz r h.2⟩
theorem xKz:∀(ks:List Kd),iD ks->szX (xK ks)
 | [],_=>by simp only[xK,szX]
 |k::r,h=>by simp only[xK,szX];exact⟨Kd.xz k h.1,xKz r h.2⟩
end
theorem aEk:∀{l:List Dx},(∀d∈l,d.Pd)->pdX l
 | [],_=>trivial
 |d::r,h=>⟨h d aA,aEk λe he=>h e (aC _ he)⟩
theorem aEl:∀{l:List (Key×Dx)},(∀p∈l,p.2.Pd)->pdK l
 | [],_=>trivial
 |d::r,h=>⟨h d aA,aEl λe he=>h e (aC _ he)⟩
mutual
theorem Kd.vxpd:∀(kd:Kd) (vd:Vd),kd.Fit->kd.Val vd->(kd.vx vd).Pd
 | .num w m,vd,hf,hv=>by
  cases vd with
  |num i=>simp only[Kd.vx,Dx.Pd]
  |_=>simp[Kd.Val]at hv
 | .row k m,vd,hf,hv=>by
  cases vd with
  |row vs =>
   simp only[Kd.Val]at hv
   have f3:=hf.2.2
   simp only[Kd.vx,Dx.Pd]
   refine⟨by rw[aG];omega,aEk λd hd=>?_⟩
   obtain⟨v,hm,rfl⟩:=bX.mp hd
   exact Kd.vxpd k v hf.1 (hv.2 v hm)
  |_=>simp[Kd.Val]at hv
 | .rcd fs,vd,hf,hv=>by
  cases vd with
  |rcd vs =>
   simp only[Kd.Val]at hv
   obtain⟨f1,f2,f3,Bw⟩:=hf
   have hk:=fc_ (ec_ hv)
   have Al:(vxF fs vs).length=fs.length:=by have:=congrArg List.length hk;simpa using this
   simp only[Kd.vx,Dx.Pd]
   exact⟨by omega,⟨fs.map (·.1),Bw,by rw[hk,cM];rfl⟩,aEl (aNh fs vs f1 hv)⟩
  |_=>simp[Kd.Val]at hv
 | .cho ks,vd,hf,hv=>by
  cases vd with
  |cho jj v =>
   simp only[Kd.Val]at hv
   obtain⟨k,hk,Hw⟩:=fx_ hv
   have a:=aNg ks hf.1 k (bN hk) v Hw
   simp only[Kd.vx,Dx.Pd,pdX,aD,bC]
   rw[ir_ hk]
   exact⟨by omega,trivial,a,trivial⟩
  |_=>simp[Kd.Val]at hv
theorem aNh:∀(fs:List (Str×Kd)) (vs:List Vd),iM fs->dF fs vs->∀p∈vxF fs vs,p.2.Pd
 | [],_,_,_,p,h=>by simp[vxF]at h
 |_::_,[],_,h,_,_=>by simp[dF]at h
 |f::r,v::vs,hf,hv,p,h=>by
  simp only[dF]at hv
  simp only[vxF]at h
  rcases aF.mp h with rfl | h
  ·exact Kd.vxpd f.2 v hf.1.2 hv.1
  ·exact aNh r vs hf.2 hv.2 p h
theorem aNg:∀(ks:List Kd),iD ks->∀k∈ks,∀v,k.Val v->(k.vx v).Pd
 | [],_,k,h,_,_=>by simp at h
 |k'::r,hf,k,h,v,hv=>by
  by_cases e:k=k'
  ·rw [e] at hv ⊢
   exact Kd.vxpd k' v hf.1 hv
  ·exact aNg r hf.2 k ((aF.mp h).resolve_left e) v hv
end
def lC(k:Kd)(vs:List Vd):List Nat:=(vs.map λv=>44::32::k.vw v).flatten
def fX(a l:List Nat):Option (List Nat):=if a.isPrefixOf l=true then some (l.drop a.length)else none
def qP(l:List Nat)(m n:Int):Prop:=0<=n/\l.takeWhile (inT fT)=aJ (cR n)/\((cR n).length:Int)<=m
open Classical in
noncomputable def numP (m:Int) (l:List Nat):Option (Int×List Nat):=if h:∃n,qP l m n then some (h.choose,l.drop (cR h.choose).length)else none
theorem eg_{a l r:List Nat}(h:fX a l=some r):a.isPrefixOf l=true/\l=a++r:=by
 unfold fX at h
 split at h
 ·rename_i hp
  refine⟨hp,?_⟩
  obtain⟨z,rfl⟩:=eQ.mp hp
  cases h
  rw[iJ]
 ·cases h
theorem ek_{a r:List Nat}:fX a (a++r)=some r:=by
 unfold fX
 rw[if_pos aJk,iJ]
theorem v9{l:List Nat}{m a b:Int}(h:qP l m a)(h':qP l m b):a=b:=uJ h.1 h'.1 (h.2.1.symm.trans h'.2.1)
theorem mP{l:List Nat}{m n:Int}(h:qP l m n):numP m l=some (n,l.drop (cR n).length):=by
 have hx:∃n,qP l m n:=⟨n,h⟩
 unfold numP
 rw[dif_pos hx,v9 hx.choose_spec h]
theorem ew_{l r:List Nat}{m n:Int}(h:numP m l=some (n,r)):qP l m n/\l=aJ (cR n)++r:=by
 by_cases hx:∃n,qP l m n
 ·obtain ⟨n',hn⟩:=hx
  rw[mP hn]at h
  cases h
  refine⟨hn,?_⟩
  have e:=List.takeWhile_prefix (p:=inT fT) (l:=l)
  rw[hn.2.1]at e
  obtain⟨z,hz⟩:=e
  rw[gE,<-hz,iJ]
 ·unfold numP at h
  rw[dif_neg hx]at h
  cases h
theorem wL{r:List Nat}{m n:Int}(h0:0<=n)(hm:((cR n).length:Int)<=m)(hr:qA r):numP m (aJ (cR n)++r)=some (n,r):=by
 have h:qP (aJ (cR n)++r) m n:=⟨h0,aPq (is_ h0).1 hr,hm⟩
 rw[mP h,gE,iJ]
def qJ(fst:Bool):List Nat:=if fst=true then []else [44,32]
def jS(g:List Nat->Option (Vd×List Nat)):Nat->Bool->List Nat->Option (List Vd×List Nat)
 | 0,_,l=>some ([],l)
 |n+1,b,l=>(fX (qJ b) l).bind λl1=>(g l1).bind λx=>(jS g n false x.2).bind λy=>some (x.1::y.1,y.2)
mutual
noncomputable def Kd.prs:Kd->List Nat->Option (Vd×List Nat)
 | .num w _,l=>(numP (3*w) l).bind λx=>if x.1<256^w.toNat then some (.num x.1,x.2)else none
 | .row k m,l=>(fX [91] l).bind λl1=>(jS k.prs m.toNat true l1).bind λx=>(fX [93] x.2).bind λr=>some (.row x.1,r)
 | .rcd fs,l=>(fX [123] l).bind λl1=>(prsF fs true l1).bind λx=>(fX [125] x.2).bind λr=>some (.rcd x.1,r)
 | .cho ks,l=>(numP 3 l).bind λx=>(fX [58] x.2).bind λl1=>(prsK ks x.1.toNat l1).bind λy=>some (.cho x.1.toNat y.1,y.2)
noncomputable def prsF:List (Str×Kd)->Bool->List Nat->Option (List Vd×List Nat)
 | [],_,l=>some ([],l)
 |f::r,b,l=>(fX (qJ b++(aJ f.1++[32])) l).bind λl1=>(f.2.prs l1).bind λx=>(prsF r false x.2).bind λy=>some (x.1::y.1,y.2)
noncomputable def prsK:List Kd->Nat->List Nat->Option (Vd×List Nat)
 | [],_,_=>none
 |k::_,0,l=>k.prs l
 |_::r,j+1,l=>prsK r j l
end
theorem f7{l:List Nat}:∀{ks:List Kd} {j:Nat} {k:Kd},ks[j]? = some k->prsK ks j l=k.prs l
 | [],_,_,e=>by simp at e
 |k'::r,0,k,e=>by simp at e;subst e;simp only[prsK]
 |k'::r,j+1,k,e=>by simp only[prsK];exact f7 (j:=j) (by simpa using e)
theorem qZ{l:List Nat}:∀{ks:List Kd} {j:Nat},ks.length<=j->prsK ks j l=none
 | [],_,_=>by simp only[prsK]
 |k'::r,0,h=>by simp at h
 |k'::r,j+1,h=>by simp only[prsK];exact qZ (j:=j) (by simpa using h)
theorem qW{k:Kd}{v:Vd}{vs:List Vd}:lC k (v::vs)=[44,32]++(k.vw v++lC k vs):=by simp only[lC,bB,cQ,aP,aS]
theorem in_{b:Bool}{l:List Nat}:([44,32]++l).drop (if b=true then 2 else 0)=qJ b++l:=by cases b<;>rfl
theorem oQ{k:Kd}(hg:∀l v r,k.prs l=some (v,r)->k.Val v/\l=k.vw v++r):∀{n:Nat} {b:Bool} {l:List Nat} {vs:List Vd} {r:List Nat},jS k.prs n b l=some (vs,r)->vs.length=n/\(∀v∈vs,k.Val v)/\l=(lC k vs).drop (if b=true then 2 else 0)++r
 | 0,b,l,vs,r,h=>by cases h;exact⟨rfl,(λv hv=>by cases hv),by simp[lC]⟩
 |n+1,b,l,vs,r,h=>by
  simp only[jS,aX]at h
  obtain⟨l1,h1,⟨v,l2⟩,h2,⟨vs',r'⟩,h3,h4⟩:=h
  cases h4
  obtain⟨_,e1⟩:=eg_ h1
  obtain⟨hv,e2⟩:=hg _ _ _ h2
  obtain⟨e3,h5,e4⟩:=oQ hg h3
  refine⟨by rw[aD,e3],λx hx=>?_,?_⟩
  ·rcases aF.mp hx with rfl | hx
   ·exact hv
   ·exact h5 x hx
  ·dsimp only at e4
   rw[qW,in_,e1,e2,e4]
   simp only[eU,if_false,eT,aL]
mutual
theorem eu_:∀{kd:Kd} {l:List Nat} {v:Vd} {r:List Nat},kd.Fit->kd.prs l=some (v,r)->kd.Val v/\l=kd.vw v++r
 | .num w m,l,v,r,hF,h=>by
  simp only[Kd.prs,aX]at h
  obtain⟨⟨n,r'⟩,h1,h2⟩:=h
  obtain⟨hn,e⟩:=ew_ h1
  dsimp only at h2
  split at h2
  ·rename_i C6
   cases h2
   simp only[Kd.Val,Kd.vw]
   exact⟨⟨hn.1,C6⟩,e⟩
  ·cases h2
 | .row k m,l,v,r,hF,h=>by
  simp only[Kd.prs,aX]at h
  obtain⟨l1,h1,⟨vs,l2⟩,h2,r',h3,h4⟩:=h
  cases h4
  simp only[Kd.Fit]at hF
  obtain⟨_,e1⟩:=eg_ h1
  obtain⟨e2,h5,e3⟩:=oQ (λl v r=>eu_ hF.1) h2
  obtain⟨_,e4⟩:=eg_ h3
  dsimp only at e4
  simp only[Kd.Val,Kd.vw]
  refine⟨⟨by omega,h5⟩,?_⟩
  rw[e1,e3,e4]
  simp only[lC,if_true,aP,aS,aL]
 | .rcd fs,l,v,r,hF,h=>by
  simp only[Kd.prs,aX]at h
  obtain⟨l1,h1,⟨vs,l2⟩,h2,r',h3,h4⟩:=h
  cases h4
  simp only[Kd.Fit]at hF
  obtain⟨_,e1⟩:=eg_ h1
  obtain⟨e2,e3⟩:=oS hF.1 h2
  obtain⟨_,e4⟩:=eg_ h3
  dsimp only at e4
  simp only[Kd.Val,Kd.vw]
  refine⟨e2,?_⟩
  rw[e1,e3,e4]
  simp only[if_true,aP,aS,aL]
 | .cho ks,l,v,r,hF,h=>by
  simp only[Kd.prs,aX]at h
  obtain⟨⟨n,r1⟩,h1,l1,h2,⟨u,r2⟩,h3,h4⟩:=h
  cases h4
  simp only[Kd.Fit]at hF
  obtain⟨hn,e1⟩:=ew_ h1
  obtain⟨_,e2⟩:=eg_ h2
  obtain⟨e3,e4⟩:=oR hF.1 h3
  dsimp only at e2
  have hz:((n.toNat:Nat):Int)=n:=cW hn.1
  simp only[Kd.Val,Kd.vw,hz]
  refine⟨e3,?_⟩
  rw[e1,e2,e4]
  simp only[aP,aS,aL]
theorem oS:∀{fs:List (Str×Kd)} {b:Bool} {l:List Nat} {vs:List Vd} {r:List Nat},iM fs->prsF fs b l=some (vs,r)->dF fs vs/\l=(vwF fs vs).drop (if b=true then 2 else 0)++r
 | [],b,l,vs,r,hF,h=>by simp only[prsF]at h;cases h;simp[vwF,dF]
 |f::fr,b,l,vs,r,hF,h=>by
  simp only[prsF,aX]at h
  obtain⟨l1,h1,⟨v,l2⟩,h2,⟨vs',r'⟩,h3,h4⟩:=h
  cases h4
  obtain⟨_,e1⟩:=eg_ h1
  obtain⟨hv,e2⟩:=eu_ hF.1.2 h2
  obtain⟨e3,e4⟩:=oS hF.2 h3
  dsimp only at e4
  have es:vwF (f::fr) (v::vs')=[44,32]++((aJ f.1++[32])++(f.2.vw v++vwF fr vs')):=by simp only[vwF,aP,aS,aL]
  simp only[dF]
  refine⟨⟨hv,e3⟩,?_⟩
  rw[es,in_,e1,e2,e4]
  simp only[eU,if_false,eT,aL]
theorem oR:∀{ks:List Kd} {j:Nat} {l:List Nat} {v:Vd} {r:List Nat},iD ks->prsK ks j l=some (v,r)->gT ks j v/\l=vwK ks j v++r
 | [],_,_,_,_,_,h=>by simp only[prsK]at h;cases h
 |k::_,0,l,v,r,hF,h=>by simp only[prsK]at h;simp only[gT,vwK];exact eu_ hF.1 h
 |_::kr,j+1,l,v,r,hF,h=>by simp only[prsK]at h;simp only[gT,vwK];exact oR hF.2 h
end
theorem aFw(k:Kd)(vs:List Vd)(rest:List Nat):qA (lC k vs++93::rest):=λc l e=>by
 cases vs with
 |nil=>cases e;decide +kernel
 |cons v r=>simp only[lC,bB,cQ,aP]at e;cases e;decide +kernel
theorem aLm(fs:List (Str×Kd))(vs:List Vd)(rest:List Nat):qA (vwF fs vs++125::rest):=λc l e=>by
 cases fs with
 |nil=>simp only[vwF,aS]at e;cases e;decide +kernel
 |cons f r =>
  cases vs with
  |nil=>simp only[vwF,aS]at e;cases e;decide +kernel
  |cons v vr=>simp only[vwF,aP]at e;cases e;decide +kernel
theorem aTd{r:List Nat}:qA (58::r):=λc l e=>by cases e;decide +kernel
theorem qY{k:Kd}(hg:∀v r,k.Val v->qA r->k.prs (k.vw v++r)=some (v,r)){r:List Nat}:∀{vs:List Vd} {b:Bool},(∀v∈vs,k.Val v)->jS k.prs vs.length b ((lC k vs).drop (if b=true then 2 else 0)++93::r)=some (vs,93::r)
 | [],b,_=>by simp[jS,lC]
 |v::vs,b,hv=>by
  have ih:=qY hg (r:=r) (vs:=vs) (b:=false) (λx hx=>hv x (aC _ hx))
  simp only[eU,if_false,eT]at ih
  rw[qW,in_,aD]
  simp only[jS,aL,ek_,aZ,hg v _ (hv v aA) (aFw k vs r),ih]
mutual
theorem ii_:∀{kd:Kd} {v:Vd} {r:List Nat},kd.Fit->kd.Val v->qA r->kd.prs (kd.vw v++r)=some (v,r)
 | .num w m,.num n,r,hF,hV,hr=>by
  simp only[Kd.Val]at hV
  simp only[Kd.Fit]at hF
  have hl:=aNj (n:=n) (w:=w.toNat) hV.1 (by omega) hV.2
  simp only[Kd.prs,Kd.vw,wL hV.1 (show((cR n).length:Int)<=3*w by omega) hr,aZ,if_pos hV.2]
 | .row k m,.row vs,r,hF,hV,hr=>by
  simp only[Kd.Val]at hV
  simp only[Kd.Fit]at hF
  have e:=qY (λv r hv hr=>ii_ hF.1 hv hr) (r:=r) (vs:=vs) (b:=true) hV.2
  have em:m.toNat=vs.length:=by omega
  have el:(Kd.row k m).vw (.row vs)++r=[91]++((lC k vs).drop (if true=true then 2 else 0)++93::r):=by simp only[Kd.vw,lC,if_true,aP,aL,aS]
  rw[el]
  rw[Kd.prs,ek_,aZ,em,e,aZ]
  dsimp only
  rw[show(93::r)=[93]++r from rfl,ek_]
  rfl
 | .rcd fs,.rcd vs,r,hF,hV,hr=>by
  simp only[Kd.Val]at hV
  simp only[Kd.Fit]at hF
  have e:=rB (r:=r) (b:=true) hF.1 hV
  have el:(Kd.rcd fs).vw (.rcd vs)++r=[123]++((vwF fs vs).drop (if true=true then 2 else 0)++125::r):=by simp only[Kd.vw,if_true,aP,aL,aS]
  rw[el]
  rw[Kd.prs,ek_,aZ,e,aZ]
  dsimp only
  rw[show(125::r)=[125]++r from rfl,ek_]
  rfl
 | .cho ks,.cho j v,r,hF,hV,hr=>by
  simp only[Kd.Val]at hV
  simp only[Kd.Fit]at hF
  have e:=rA (r:=r) hF.1 hV hr
  have hj:j<ks.length:=by obtain⟨k,hk,_⟩:=fx_ hV;exact(aY.mp hk).1
  have ht:=he_ (n:=(j:Int)) (k:=1) (by omega) (by omega) (by decide)
  have el:(Kd.cho ks).vw (.cho j v)++r=aJ (cR (j:Int))++([58]++(vwK ks j v++r)):=by simp only[Kd.vw,aP,aL,aS]
  rw[el]
  simp only[Kd.prs,wL (m:=3) (show(0:Int)<=(j:Int) by omega) (by omega) (aTd (r:=vwK ks j v++r)),aP,aS,aZ,gF]
  rw[show(58::(vwK ks j v++r))=[58]++(vwK ks j v++r)from rfl,ek_,aZ,e]
  rfl
 | .num _ _,.row _,_,_,h,_ | .num _ _,.rcd _,_,_,h,_ | .num _ _,.cho _ _,_,_,h,_=>by simp only[Kd.Val]at h
 | .row _ _,.num _,_,_,h,_ | .row _ _,.rcd _,_,_,h,_ | .row _ _,.cho _ _,_,_,h,_=>by simp only[Kd.Val]at h
 | .rcd _,.num _,_,_,h,_ | .rcd _,.row _,_,_,h,_ | .rcd _,.cho _ _,_,_,h,_=>by simp only[Kd.Val]at h
 | .cho _,.num _,_,_,h,_ | .cho _,.row _,_,_,h,_ | .cho _,.rcd _,_,_,h,_=>by simp only[Kd.Val]at h
theorem rB:∀{fs:List (Str×Kd)} {b:Bool} {vs:List Vd} {r:List Nat},iM fs->dF fs vs->prsF fs b ((vwF fs vs).drop (if b=true then 2 else 0)++125::r)=some (vs,125::r)
 | [],b,[],r,_,_=>by simp[prsF,vwF]
 | [],_,_::_,_,_,h=>by simp[dF]at h
 |_::_,_,[],_,_,h=>by simp[dF]at h
 |f::fr,b,v::vs,r,hF,hV=>by
  simp only[dF]at hV
  have ih:=rB (fs:=fr) (b:=false) (vs:=vs) (r:=r) hF.2 hV.2
  simp only[eU,if_false,eT]at ih
  have es:vwF (f::fr) (v::vs)=[44,32]++((aJ f.1++[32])++(f.2.vw v++vwF fr vs)):=by simp only[vwF,aP,aS,aL]
  have ec:(qJ b++((aJ f.1++[32])++(f.2.vw v++vwF fr vs)))++125::r=(qJ b++(aJ f.1++[32]))++(f.2.vw v++(vwF fr vs++125::r)):=by simp only[aL]
  rw[es,in_,ec]
  simp only[prsF,ek_,aZ,ii_ hF.1.2 hV.1 (aLm fr vs r),ih]
theorem rA:∀{ks:List Kd} {j:Nat} {v:Vd} {r:List Nat},iD ks->gT ks j v->qA r->prsK ks j (vwK ks j v++r)=some (v,r)
 | [],_,_,_,_,h,_=>by simp[gT]at h
 |k::_,0,v,r,hF,hV,hr=>by simp only[gT]at hV;simp only[prsK,vwK];exact ii_ hF.1 hV hr
 |_::kr,j+1,v,r,hF,hV,hr=>by simp only[gT]at hV;simp only[prsK,vwK];exact rA hF.2 hV hr
end
def lT(t:Str)(p:Nat)(kd:Kd)(CN:Addr)(Q:Sv->FsO->Prop)(Ex:ExT):Prop:=(∀v r,kd.prs ((aJ t).drop p)=some (v,r)->∀(x:Nat) (s:Sv) (o:Ow),x<=t.length->(aJ t).drop x=r->s.o? = some o->o.d=kd.vx v->Q s (rdr t x))/\(kd.prs ((aJ t).drop p)=none->Ex (.ref CN))
def z8(C0 CN:Addr)(n:Nat):GOE:=λC l ds Q Ex=>C=C0/\∃(t:Str) (p:Nat) (kd:Kd),l=rdr t p/\ds=[kd.x]/\t.length<=100000/\kd.Fit/\kd.deep<=n/\p<=t.length/\lT t p kd CN Q Ex
def aOq(C0 CN:Addr):GOE:=λC l ds Q Ex=>C=C0/\∃(t:Str) (p:Nat) (w m:Int),l=rdr t p/\ds=[(Kd.num w m).x]/\t.length<=100000/\(Kd.num w m).Fit/\p<=t.length/\lT t p (.num w m) CN Q Ex
def aOo(C0 CN:Addr)(n:Nat):GOE:=λC l ds Q Ex=>C=C0/\∃(t:Str) (p:Nat) (k:Kd) (m:Int),l=rdr t p/\ds=[k.x,.int m]/\t.length<=100000/\(Kd.row k m).Fit/\k.deep<=n/\p<=t.length/\lT t p (.row k m) CN Q Ex
def aOp(C0 CN:Addr)(n:Nat):GOE:=λC l ds Q Ex=>C=C0/\∃(t:Str) (p:Nat) (fs:List (Str×Kd)),l=rdr t p/\ds=[.lst (xF fs)]/\t.length<=100000/\(Kd.rcd fs).Fit/\eB fs<=n/\p<=t.length/\lT t p (.rcd fs) CN Q Ex
def aOn(C0 CN:Addr)(n:Nat):GOE:=λC l ds Q Ex=>C=C0/\∃(t:Str) (p:Nat) (fs:List (Str×Kd)),l=rdr t p/\ds=[.lst (xF fs)]/\t.length<=100000/\(Kd.rcd fs).Fit/\eB fs<=n/\p<=t.length/\lT t p (.rcd fs) CN Q Ex/\((Kd.rcd fs).prs ((aJ t).drop p)=none->∀(x:Nat) (s:Sv) (o:Ow) (l:List (Key×Dx)),s.o? = some o->s.d=.dic l->l.length<fs.length->Q s (rdr t x))
def aOr(C0 CN:Addr)(n:Nat):GOE:=λC l ds Q Ex=>C=C0/\∃(t:Str) (p:Nat) (ks:List Kd),l=rdr t p/\ds=[.lst (xK ks)]/\t.length<=100000/\(Kd.cho ks).Fit/\fF ks<=n/\p<=t.length/\lT t p (.cho ks) CN Q Ex
theorem uT{c:XC}{G:XS}{ρ ρ':En}{D:XD}(hc:∀Q:Bool->En->Prop,Q true ρ'->c ρ Q)(h:G ρ' D):xIf c G fD ρ D:=hc _ h
theorem gp_{t:Str}{p:Nat}{a:List Nat}(h:a.isPrefixOf ((aJ t).drop p)=true):fX a ((aJ t).drop p)=some ((aJ t).drop (p+a.length)):=by
 unfold fX
 rw[if_pos h,List.drop_drop]
theorem fk_{t:Str}{p:Nat}{a:List Nat}(h:a.isPrefixOf ((aJ t).drop p)=false):fX a ((aJ t).drop p)=none:=by
 unfold fX
 rw[h]
 rfl
theorem iz_{t:Str}{p:Nat}{a:List Nat}(hp:p<=t.length)(h:a.isPrefixOf ((aJ t).drop p)=true):p+a.length<=t.length:=by
 have:=(eQ.mp h).length_le
 rw[bS,<-gE]at this
 omega
section
variable{f:Addr}{C_Reader Ab:Addr}{n j:Nat}
theorem aKi(F:Fun K "taken_number" "taken_number" di_ f fd)(CM_take_number:jX P w K mg base 2 C_Reader "take_number" AJ (eV (aLw C_Reader Ab)))(Ku:Cal P w K mg base 2 "is_value" AY (spX aTj))(Ah:∃t,mg "FIGURES_OF_A_BYTE" = some (.int 3 t))(Ai:PyProof.Rows.OwnCls "NoText" Ab veM "ValueError.__new__" mg base):FnOk P w K mg base (CXe P w) 3 f fd AC (eV (aOq C_Reader Ab)):=by
 refine kO F jE (λC l ds Q Ex h=>by obtain⟨_,_,_,_,_,_,rfl,_⟩:=h;rfl) (by decide) λAk A outer s H E Ex hr=>?_
 have Am:=jM hr
 have Aj:=aR Am
 refine⟨_,(cV (ah_ λF=>ap_ (i:=2) jE.nd rfl (Or.inl rfl) (XE.at (Ex:=Ex) F (dl_ (C:=C_Reader) (i:=0) CM_take_number (hr.mono (by omega)) (pv 0) (bR (eo_ (sQ (by rfl) Ah) (gC K (pv 1))) cB))))
  (cV (fL (fm_ (qI (iE Ku (hr.mono (by omega)) (bR (bL (pv 1)) (bR (bL (pv 2)) cB))))) (dH (fb_ Ai rfl (by rfl))) fW)
  (dH (dX (n9 (pv 2)))))),λC a dx l ds Q h=>?_⟩
 obtain⟨rfl,t,p,wd,m,rfl,rfl,B5,hF,hp,qy,qn⟩:=h
 have Cl:=hF
 simp only[Kd.Fit]at hF
 refine⟨⟨rfl,rfl⟩,⟨by omega,by omega⟩,rfl,t,p,3*wd,rfl,rfl,hp,B5,by omega,λi hi=>?_,λAw=>?_⟩
 ·have hL:qP ((aJ t).drop p) (3 * wd) i:=hi
  have e:=mP hL
  obtain⟨_,e2⟩:=ew_ e
  obtain⟨e3,e4⟩:=rX e2
  rw[<-gE]at e3 e4
  dsimp only
  change cI _ _ [.bo (.oi C a dx (rdr t (p+(cR i).length))),vT (Kd.num wd m).x,vT (.int i)] _
  by_cases hb:i<256^wd.toNat
  ·refine lJ (ρ':=[.bo (.oi C a dx (rdr t (p + (cR i).length))),vT (Kd.num wd m).x,vT (.int i)]) (fun Q q => ?_) ?_
   ·exact⟨wd,m,i,rfl,Cl,hi.1,λ_=>q,λz=>absurd hb z⟩
   ·exact⟨rfl,rfl,rfl,qy (.num i) _ (by simp only[Kd.prs,e,aZ,if_pos hb]) _ (.tr (.int i)) (.tr (.int i)) (e4 hp) e3 rfl (by simp only[Ow.d,Kd.vx])⟩
  ·refine kZ true (ρ':=[.bo (.oi C a dx (rdr t (p + (cR i).length))),vT (Kd.num wd m).x,vT (.int i)]) (fun Q q => ?_) (fun _ => ?_) (fun hb=>by cases hb)
   ·exact⟨wd,m,i,rfl,Cl,hi.1,λz=>absurd z hb,λ_=>q⟩
   ·exact qn (by simp only[Kd.prs,e,aZ,if_neg hb])
 ·refine qn ?_
  cases e:numP (3*wd) ((aJ t).drop p)with
  |none=>simp only[Kd.prs,e,gJ]
  |some x=>exact absurd (ew_ e).1 (Aw x.1)
theorem aKg(F:Fun K "taken_row" "taken_row" fe_ f fd)(Hk:CalE P w K mg base j "taken_value" AC (eV (z8 C_Reader Ab n)))(CM_take:jX P w K mg base 2 C_Reader "take" AA (eV (aGc C_Reader Ab)))(Af:mg "range" = none)(A3:∃t,mg "COMMA" = some (.str jV t))(hj:2<=j):FnOk P w K mg base (CXe P w) (j+1) f fd AV (eV (aOo C_Reader Ab n)):=by
 refine kO F iX (λC l ds Q Ex h=>by obtain⟨_,_,_,_,_,_,rfl,_⟩:=h;rfl) (by decide) λAk A outer s H E Ex hr=>?_
 have Am:=jM hr
 have Aj:=aR Am
 refine⟨_,(cV (gn_ (dl_ (C:=C_Reader) (i:=0) CM_take (hr.mono (by omega)) (pv 0) (bR fU cB)))
  (cV (ah_ λF=>ap_ (i:=3) iX.nd rfl (Or.inl rfl) (XE.at (Ex:=Ex) F (aIe cB)))
  (cV (gi_ PassesOwn.leaving rfl (cx_ Af (bR (bL (pv 2)) cB)) (iU (i:=4) iX.nd rfl (Or.inl rfl)) (sA (n:=99) (i:=4) (by decide)) (cV (fL (eE hy_ hx_ (bL (pv 4)) cK (bD _)) (dH (gn_ (dl_ (C:=C_Reader) (i:=0) CM_take (hr.mono (by omega)) (pv 0) (bR (ia_ (by rfl) A3) cB)))) fW)
  (dH (z6 λF=>PS.weak (ix_ (oW PySem.F.plainAttrs_list PySem.F.slot_list_append PySem.F.type_list_append gx_ (pv 3) (lK (XE.at (Ex:=Ex) F (cz_ (i:=0) Hk (hr.mono (by omega)) (pv 0) (bR (bL (pv 1)) cB))) xJ))) aIu))))
  (cV (gn_ (dl_ (C:=C_Reader) (i:=0) CM_take (hr.mono (by omega)) (pv 0) (bR fU cB)))
  (dH (dX (n9 (pv 3)))))))),λC a dx l ds Q h=>?_⟩
 obtain⟨rfl,t,p,k,m,rfl,rfl,B5,hF,Ca,hp,qy,qn⟩:=h
 simp only[Kd.Fit]at hF
 refine⟨⟨rfl,rfl⟩,rfl,t, "[",p,rfl,rfl,hp,B5,λhb=>?_,λhb=>?_⟩
 ·have e91:fX [91] ((aJ t).drop p)=some ((aJ t).drop (p + 1)):=gp_ (a:=[91]) hb
  have Fe:p+1<=t.length:=iz_ (a:=[91]) hp hb
  have er:(Kd.row k m).prs ((aJ t).drop p)=(jS k.prs m.toNat true ((aJ t).drop (p+1))).bind λx=>(fX [93] x.2).bind λr=>some (.row x.1,r):=by simp only[Kd.prs,e91,aZ]
  rw[er]at qy qn
  refine⟨[],rfl,(by show 0<=1000000;decide),λa0=>?_⟩
  dsimp only
  change cI _ _ [.bo (.oi C a dx (rdr t (p+1))),vT k.x,vT (.int m),.v (.ow (.ol a0 [])),.un] _
  generalize hNN:m.toNat=N at qy qn
  refine eb_ (λρ=>∃(os:List Ow) (vs:List Vd) (x:Nat) (y:Sl),jS k.prs N true ((aJ t).drop (p+1))=some (vs,(aJ t).drop x)/\kF os=vs.map k.vx/\x<=t.length/\ρ=[.bo (.oi C a dx (rdr t x)),vT k.x,vT (.int m),.v (.ow (.ol a0 os)),y]) ?_ (λnx C3=>?_)
  ·rintro ρ ⟨os,vs,x,y,D4,Cu,hx,rfl⟩
   rw[D4]at qy qn
   refine⟨⟨rfl,rfl⟩,rfl,t, "]",x,rfl,rfl,hx,B5,λhb=>?_,λhb=>?_⟩
   ·have e93:fX [93] ((aJ t).drop x)=some ((aJ t).drop (x + 1)):=gp_ (a:=[93]) hb
    refine⟨rfl,rfl,rfl,?_⟩
    exact qy (.row vs) _ (by simp only[aZ,e93]) (x+1) (.ow (.ol a0 os)) (.ol a0 os) (iz_ (a:=[93]) hx hb) rfl rfl (by simp only[Ow.d,Kd.vx,Cu])
   ·have e93:fX [93] ((aJ t).drop x)=none:=fk_ (a:=[93]) hb
    exact qn (by simp only[aZ,e93,gJ])
  ·refine ⟨⟨by omega,by omega⟩,?_⟩
   show iR _ _ _ ((List.range m.toNat).map λk:Nat=>Dx.int (0+(k:Int))) _
   rw[hNN]
   refine da_ (λk:Nat=>Dx.int (0+(k:Int))) (λrg ρ=>∃(dn:List Vd) (os:List Ow) (x:Nat) (b:Bool) (y:Sl),rg=(List.range N).drop dn.length/\dn.length<=N/\(b=true/\dn=[]\/b=false/\dn≠[])/\kF os=dn.map k.vx/\(jS k.prs N true ((aJ t).drop (p+1))=(jS k.prs (N-dn.length) b ((aJ t).drop x)).bind λy=>some (dn++y.1,y.2))/\x<=t.length/\ρ=[.bo (.oi C a dx (rdr t x)),vT k.x,vT (.int m),.v (.ow (.ol a0 os)),y]) (λρ h=>?_) (λk0 rg ρ Kn h hk=>?_) ⟨[],[],p+1,true,.un,by rw[bC,eT],cF _,.inl ⟨rfl,rfl⟩,by simp only[kF,dA],by simp only[bC,Nat.sub_zero,aS];cases jS k.prs N true ((aJ t).drop (p+1))<;>rfl,Fe,rfl⟩
   ·obtain ⟨dn,os,x,b,y,e2,Nr,hc,Cu,D4,hx,rfl⟩:=h
    have hdl2:N<=dn.length:=by
     have:=congrArg List.length e2
     rw[bS,cD,bC]at this
     omega
    rw[show N-dn.length=0 by omega]at D4
    simp only[jS,aZ,aV]at D4
    exact C3 _ ⟨os,dn,x,y,D4,Cu,hx,rfl⟩
   ·obtain ⟨dn,os,x,b,y,e2,Nr,hc,Cu,D4,hx,rfl⟩:=h
    obtain⟨ek,er2,C6⟩:=oN e2
    have hosl:os.length=dn.length:=by
     have:=congrArg List.length Cu
     rw[wI,aG]at this
     exact this
    have hN:N<=20:=by omega
    obtain⟨M,hM⟩:∃M,N-dn.length=M+1:=⟨N-dn.length-1,by omega⟩
    rw[hM]at D4
    simp only[jS]at D4
    refine cp_ (M:=λρ=>∃x',jS k.prs N true ((aJ t).drop (p+1))=((k.prs ((aJ t).drop x')).bind λx=>(jS k.prs M false x.2).bind λy=>some (x.1::y.1,y.2)).bind (λy=>some (dn++y.1,y.2))/\x'<=t.length/\ρ=[.bo (.oi C a dx (rdr t x')),vT k.x,vT (.int m),.v (.ow (.ol a0 os)),vT (.int (0+(k0:Int)))]) ?_ ?_
    ·rintro ρ ⟨x',Jb,Di,rfl⟩
     refine⟨trivial,rfl,rfl,t,x',k,rfl,rfl,B5,hF.1,Ca,Di,λv r hv x2 s o C2 Ds C8 Hb=>?_,λhv=>?_⟩
     ·refine ⟨o,C8,by omega,hk _ ⟨dn ++ [v],os ++ [o],x2,false,_,by rw [er2,aB]; rfl,by rw [aB,bH]; omega,.inr ⟨rfl,by simp⟩,by rw [rG,Cu,Hb,bT]; rfl,?_,C2,rfl⟩⟩
      have eM:N-(dn++[v]).length=M:=by rw[aB,bH];omega
      rw[Jb,hv,eM,Ds]
      simp only[aZ]
      cases jS k.prs M false r with
      |none=>rfl
      |some z=>simp only[aZ,aL,aP,aS]
     ·exact qn (by rw[Jb,hv];rfl)
    ·intro D' Dv
     rcases hc with⟨rfl,rfl⟩ | ⟨rfl,Da⟩
     ·refine hn_ (ρ':=[.bo (.oi C a dx (rdr t x)),vT k.x,vT (.int m),.v (.ow (.ol a0 os)),vT (.int (0 + (k0:Int)))]) (fun Q q => ?_) ?_
      ·show Q (decide ((0:Int) < 0 + (k0:Int))) _
       rw[dzF (by rw[ek];simp)]
       exact q
      ·have e0:fX (qJ true) ((aJ t).drop x)=some ((aJ t).drop x):=ek_ (a:=[])
       rw[e0]at D4
       exact Dv _ ⟨x,D4,hx,rfl⟩
     ·have hk0:0 < k0:=by rw [ek]; exact List.length_pos_iff.mpr Da
      refine uT (ρ':=[.bo (.oi C a dx (rdr t x)),vT k.x,vT (.int m),.v (.ow (.ol a0 os)),vT (.int (0+(k0:Int)))]) (λQ q=>?_) ?_
      ·show Q (decide ((0:Int) < 0 + (k0:Int))) _
       rw[dzT (by omega)]
       exact q
      ·refine ⟨⟨rfl,rfl⟩,rfl,t,jV,x,rfl,rfl,hx,B5,fun hb => ?_,fun hb => ?_⟩
       ·have e0:fX (qJ false) ((aJ t).drop x)=some ((aJ t).drop (x + 2)):=gp_ (a:=[44,32]) hb
        rw[e0]at D4
        exact Dv _ ⟨x+2,D4,iz_ (a:=[44,32]) hx hb,rfl⟩
       ·have e0:fX (qJ false) ((aJ t).drop x)=none:=fk_ (a:=[44,32]) hb
        exact qn (by rw[D4,e0];rfl)
 ·have e91:fX [91] ((aJ t).drop p)=none:=fk_ (a:=[91]) hb
  exact qn (by simp only[Kd.prs,e91,gJ])
end
theorem o?_d{s:Sv}{o:Ow}(h:s.o? = some o):s.d=o.d:=by
 cases s with
 |tr d=>cases h;rfl
 |ow o'=>cases h;rfl
 |ol l=>cases h
 |od l=>cases h
theorem rH{o:Key×Ow}:∀{l:List (Key×Ow)},iZ (l++[o])=iZ l++[(o.1,o.2.d)]
 | []=>rfl
 |p::l=>by simp only[aP,iZ,rH]
theorem oY:∀{l:List (Key×Ow)},(iZ l).length=l.length
 | []=>rfl
 |p::l=>by simp only[iZ,aD,oY]
theorem aIm{fs:List (Str×Kd)}{vs:List Vd}(h:vs.length=fs.length):(vxF fs vs).length=fs.length:=by have:=congrArg List.length (fc_ h);simpa using this
section
variable{f:Addr}{C_Reader Ab:Addr}{n j:Nat}
theorem aKj(F:Fun K "taken_choice" "taken_choice" dj_ f fd)(Hk:CalE P w K mg base j "taken_value" AC (eV (z8 C_Reader Ab n)))(CM_take:jX P w K mg base 2 C_Reader "take" AA (eV (aGc C_Reader Ab)))(CM_take_number:jX P w K mg base 2 C_Reader "take_number" AJ (eV (aLw C_Reader Ab)))(Ad:mg "len" = none)(Ah:∃t,mg "FIGURES_OF_A_BYTE" = some (.int 3 t))(Ai:PyProof.Rows.OwnCls "NoText" Ab veM "ValueError.__new__" mg base)(hj:2<=j):FnOk P w K mg base (CXe P w) (j+1) f fd AZ (eV (aOr C_Reader Ab n)):=by
 refine kO F jF (λC l ds Q Ex h=>by obtain⟨_,_,_,_,_,rfl,_⟩:=h;rfl) (by decide) λAk A outer s H E Ex hr=>?_
 have Am:=jM hr
 have Aj:=aR Am
 refine⟨_,(cV (ah_ λF=>ap_ (i:=2) jF.nd rfl (Or.inl rfl) (XE.at (Ex:=Ex) F (dl_ (C:=C_Reader) (i:=0) CM_take_number (hr.mono (by omega)) (pv 0) (bR (sQ (by rfl) Ah) cB))))
  (cV (fL (eE h_ g_ (bL (pv 2)) (jJ (kI K) kY (by rfl) Ad PySem.boot_len (bR (bL (pv 1)) cB)) (bD _)) (dH (fb_ Ai rfl (by rfl))) fW)
  (cV (gn_ (dl_ (C:=C_Reader) (i:=0) CM_take (hr.mono (by omega)) (pv 0) (bR fU cB)))
  (dH (dX (aHz (bR (bL (pv 2)) (bR (cz_ (i:=0) Hk (hr.mono (by omega)) (pv 0) (bR (jI K (bL (pv 1)) (bL (pv 2)) (λ_ _=>rfl)) cB)) cB)))))))),λC a dx l ds Q h=>?_⟩
 obtain⟨rfl,t,p,ks,rfl,rfl,B5,hF,Ca,hp,qy,qn⟩:=h
 simp only[Kd.Fit]at hF
 have Hv:(xK ks).length=ks.length:=sU
 refine⟨⟨rfl,rfl⟩,rfl,t,p,3,rfl,rfl,hp,B5,by omega,λi hi=>?_,λAw=>?_⟩
 ·have hL:qP ((aJ t).drop p) 3 i:=hi
  have e:=mP hL
  obtain⟨_,e2⟩:=ew_ e
  obtain⟨e3,e4⟩:=rX e2
  rw[<-gE]at e3 e4
  have Fe:=e4 hp
  rw[<-e3]at e
  have er:(Kd.cho ks).prs ((aJ t).drop p)=(fX [58] ((aJ t).drop (p+(cR i).length))).bind λl1=>(prsK ks i.toNat l1).bind λy=>some (.cho i.toNat y.1,y.2):=by simp only[Kd.prs,e,aZ]
  rw[er]at qy qn
  have Hz:=hi.1
  have hz:((i.toNat:Nat):Int)=i:=cW Hz
  dsimp only
  change cI _ _ [.bo (.oi C a dx (rdr t (p+(cR i).length))),vT (.lst (xK ks)),vT (.int i)] _
  by_cases C6:i.toNat<ks.length
  ·obtain ⟨k,hk⟩ : ∃ k,ks[i.toNat]? = some k:=⟨_,aO C6⟩
   obtain⟨a2,a3⟩:=fj_ hF.1 (bN hk)
   have De:atI (xK ks) i=some k.x:=by rw[<-hz];exact pU (by rw[gj_,bV,hk];rfl)
   refine lJ (ρ':=[.bo (.oi C a dx (rdr t (p+(cR i).length))),vT (.lst (xK ks)),vT (.int i)]) (λQ q=>?_) ?_
   ·show Q (decide (((xK ks).length:Int)≤i)) _
    rw[dzF (by omega)]
    exact q
   refine⟨⟨rfl,rfl⟩,rfl,t, ":",p+(cR i).length,rfl,rfl,Fe,B5,λhb=>?_,λhb=>?_⟩
   ·have e58:fX [58] ((aJ t).drop (p + (cR i).length))=some ((aJ t).drop (p + (cR i).length + 1)):=gp_ (a:=[58]) hb
    have Ez:p+(cR i).length+1<=t.length:=iz_ (a:=[58]) Fe hb
    rw[e58,aZ,f7 hk]at qy qn
    refine⟨rfl,?_⟩
    show match atI (xK ks) i with | some d=>_ | none=>False
    rw[De]
    refine⟨rfl,t,p+(cR i).length+1,k,rfl,rfl,B5,a2,by omega,Ez,λv r hv x s o hx Ds C8 Cu=>?_,λhv=>?_⟩
    ·refine ⟨[.tr (.int i),o],by show [some (Ow.tr (.int i)),s.o?]=_; rw [C8]; rfl,(by show 2≤1000000; decide),rfl,rfl,rfl,?_⟩
     exact qy (.cho i.toNat v) r (by rw[hv];rfl) x (.ow (.ot [.tr (.int i),o])) (.ot [.tr (.int i),o]) hx Ds rfl (by simp only[Ow.d,kF,Cu,Kd.vx,ir_ hk,hz])
    ·exact qn (by rw[hv];rfl)
   ·have e58:fX [58] ((aJ t).drop (p + (cR i).length))=none:=fk_ (a:=[58]) hb
    exact qn (by rw[e58];rfl)
  ·refine kZ true (ρ':=[.bo (.oi C a dx (rdr t (p + (cR i).length))),vT (.lst (xK ks)),vT (.int i)]) (fun Q q => ?_) (fun _ => ?_) (fun hb=>by cases hb)
   ·show Q (decide (((xK ks).length:Int)≤i)) _
    rw[dzT (by omega)]
    exact q
   ·refine qn ?_
    cases fX [58] ((aJ t).drop (p+(cR i).length))with
    |none=>rfl
    |some l1=>rw[aZ,qZ (by omega)];rfl
 ·refine qn ?_
  cases e:numP 3 ((aJ t).drop p)with
  |none=>simp only[Kd.prs,e,gJ]
  |some x=>exact absurd (ew_ e).1 (Aw x.1)
theorem aKh(F:Fun K "taken_record" "taken_record" dh_ f fd)(Ms:CalE P w K mg base j "taken_some_fields" AF (eV (aOn C_Reader Ab n)))(Ad:mg "len" = none)(Ai:PyProof.Rows.OwnCls "NoText" Ab veM "ValueError.__new__" mg base)(hj:2<=j):FnOk P w K mg base (CXe P w) (j+1) f fd AF (eV (aOp C_Reader Ab n)):=by
 refine kO F jD (λC l ds Q Ex h=>by obtain⟨_,_,_,_,_,rfl,_⟩:=h;rfl) (by decide) λAk A outer s H E Ex hr=>?_
 have Am:=jM hr
 have Aj:=aR Am
 refine⟨_,(cV (ah_ λF=>ap_ (i:=2) jD.nd rfl (Or.inl rfl) (XE.at (Ex:=Ex) F (cz_ (i:=0) Ms (hr.mono (by omega)) (pv 0) (bR (bL (pv 1)) cB))))
  (cV (fL (eE vI vJ (vN K (i:=2) (pv 2) Ad) (jJ (kI K) kY (by rfl) Ad PySem.boot_len (bR (bL (pv 1)) cB)) (bD _)) (dH (fb_ Ai rfl (by rfl))) fW)
  (dH (dX (n9 (pv 2)))))),λC a dx l ds Q h=>?_⟩
 obtain⟨rfl,t,p,fs,rfl,rfl,B5,hF,Ca,hp,qy,qn⟩:=h
 have e2:(xF fs).length=fs.length:=nP
 refine⟨rfl,rfl,t,p,fs,rfl,rfl,B5,hF,Ca,hp,⟨λv r hv x s o hx Ds C8 Cu=>?_,qn⟩,λAw x s o l C8 Ha Fv=>?_⟩
 ·cases v with
  |rcd vs =>
   have hVl:vs.length=fs.length:=by
    have:=(eu_ hF hv).1
    simp only[Kd.Val]at this
    exact ec_ this
   have Ha:s.d=.dic (vxF fs vs):=by rw[o?_d C8,Cu];simp only[Kd.vx]
   dsimp only
   change cI _ _ [.bo (.oi C a dx (rdr t x)),vT (.lst (xF fs)),.v s] _
   refine lJ (ρ':=[.bo (.oi C a dx (rdr t x)),vT (.lst (xF fs)),.v s]) (λQ q=>?_) ?_
   ·refine ⟨s,rfl,.inl ⟨vxF fs vs,Ha,?_⟩⟩
    show Q (decide (((vxF fs vs).length:Int)<((xF fs).length:Int))) _
    have e1:=aIm hVl
    rw[dzF (by omega)]
    exact q
   exact⟨rfl,rfl,rfl,qy _ r hv x s o hx Ds C8 Cu⟩
  |_=>exact absurd (eu_ hF hv).1 (by simp only[Kd.Val];exact id)
 ·dsimp only
  change cI _ _ [.bo (.oi C a dx (rdr t x)),vT (.lst (xF fs)),.v s] _
  refine kZ true (ρ':=[.bo (.oi C a dx (rdr t x)),vT (.lst (xF fs)),.v s]) (λQ q=>?_) (λ_=>qn Aw) (λhb=>by cases hb)
  refine⟨s,rfl,.inl ⟨l,Ha,?_⟩⟩
  show Q (decide ((l.length:Int)<((xF fs).length:Int))) _
  rw[dzT (by omega)]
  exact q
theorem aRr(F:Fun K "taken_value" "taken_value" ds_ f fd)(Mv:CalE P w K mg base j "taken_number" AC (eV (aOq C_Reader Ab)))(Mt:CalE P w K mg base j "taken_row" AV (eV (aOo C_Reader Ab n)))(Mu:CalE P w K mg base j "taken_record" AF (eV (aOp C_Reader Ab n)))(Mw:CalE P w K mg base j "taken_choice" AZ (eV (aOr C_Reader Ab n))):FnOk P w K mg base (CXe P w) (j+1) f fd AC (eV (z8 C_Reader Ab (n+1))):=by
 refine kO F oF (λC l ds Q Ex h=>by obtain⟨_,_,_,_,_,rfl,_⟩:=h;rfl) (by decide) λAk A outer s H E Ex hr=>?_
 have Am:=jM hr
 have Aj:=aR Am
 refine⟨_,(cV (fL (eE (gV K Aj) hX (gC K (pv 1)) fU (bD _)) (dH (dX (cz_ (i:=0) Mv (hr.mono (by omega)) (pv 0) (bR (bL (pv 1)) cB)))) fW)
  (cV (fL (eE (gV K Aj) hX (gC K (pv 1)) fU (bD _)) (dH (dX (cz_ (i:=0) Mt (hr.mono (by omega)) (pv 0) (bR (gC K (pv 1)) (bR (gC K (pv 1)) cB))))) fW)
  (cV (fL (eE (gV K Aj) hX (gC K (pv 1)) fU (bD _)) (dH (dX (cz_ (i:=0) Mu (hr.mono (by omega)) (pv 0) (bR (gC K (pv 1)) cB)))) fW)
  (dH (dX (cz_ (i:=0) Mw (hr.mono (by omega)) (pv 0) (bR (gC K (pv 1)) cB))))))),λC a dx l ds Q h=>?_⟩
 obtain⟨rfl,t,p,kd,rfl,rfl,B5,hF,Ca,hp,qy,qn⟩:=h
 cases kd with
 |num wd m=>exact⟨rfl,rfl,t,p,wd,m,rfl,rfl,B5,hF,hp,λv r hv x s o h1 h2 h3 h4=>⟨rfl,rfl,rfl,qy v r hv x s o h1 h2 h3 h4⟩,qn⟩
 |row k m =>
  simp only[Kd.deep]at Ca
  exact⟨rfl,rfl,t,p,k,m,rfl,rfl,B5,hF,by omega,hp,λv r hv x s o h1 h2 h3 h4=>⟨rfl,rfl,rfl,qy v r hv x s o h1 h2 h3 h4⟩,qn⟩
 |rcd fs =>
  simp only[Kd.deep]at Ca
  exact⟨rfl,rfl,t,p,fs,rfl,rfl,B5,hF,by omega,hp,λv r hv x s o h1 h2 h3 h4=>⟨rfl,rfl,rfl,qy v r hv x s o h1 h2 h3 h4⟩,qn⟩
 |cho ks =>
  simp only[Kd.deep]at Ca
  exact⟨rfl,rfl,t,p,ks,rfl,rfl,B5,hF,by omega,hp,λv r hv x s o h1 h2 h3 h4=>⟨rfl,rfl,rfl,qy v r hv x s o h1 h2 h3 h4⟩,qn⟩
end
def aYs(CN:Addr):GE:=λds Q Ex=>∃(kd:Kd) (d:Dx),ds=[kd.x,d]/\kd.Fit/\kd.deep<=5/\((∃t,d=.str t/\t.length<=100000/\(∀v,kd.prs (aJ t)=some (v,[])->∀(s:Sv) (o:Ow),s.o? = some o->o.d=kd.vx v->Q s)/\((∀v,kd.prs (aJ t)≠some (v,[]))->Ex (.ref CN)))\/noT d/\Ex (.ref CN))
section
variable{f:Addr}{C_Reader Ab:Addr}{n j:Nat}
theorem aKf(F:Fun K "taken_some_fields" "taken_some_fields" ce_ f fd)(Hk:CalE P w K mg base j "taken_value" AC (eV (z8 C_Reader Ab n)))(CM_take:jX P w K mg base 2 C_Reader "take" AA (eV (aGc C_Reader Ab)))(CM_passes:aAz P w K mg base 1 C_Reader "passes" AA (spO (gPA C_Reader)))(Ad:mg "len" = none)(A3:∃t,mg "COMMA" = some (.str jV t))(hj:2<=j):FnOk P w K mg base (CXe P w) (j+1) f fd AF (eV (aOn C_Reader Ab n)):=by
 refine kO F dY (λC l ds Q Ex h=>by obtain⟨_,_,_,_,_,rfl,_⟩:=h;rfl) (by decide) λAk A outer s H E Ex hr=>?_
 have Am:=jM hr
 have Aj:=aR Am
 refine⟨_,(cV (gn_ (dl_ (C:=C_Reader) (i:=0) CM_take (hr.mono (by omega)) (pv 0) (bR fU cB)))
  (cV (ah_ λF=>ap_ (i:=2) dY.nd rfl (Or.inl rfl) (XE.at (Ex:=Ex) F aBo))
  (cV (gi_ PassesOwn.leaving rfl (dz_ (bL (pv 1))) (iU (i:=3) dY.nd rfl (Or.inl rfl)) (sA (n:=99) (i:=3) (by decide)) (cV (ah_ λF=>ap_ (i:=4) dY.nd rfl (Or.inl rfl) (XE.at (Ex:=Ex) F (aBn (eE hy_ hx_ (vN K (i:=2) (pv 2) Ad) cK (bD _)) (ia_ (by rfl) A3) fU)))
  (dH (fL (qI (nO (C:=C_Reader) (i:=0) CM_passes (hr.mono (by omega)) (pv 0) (bR (gA (gA (bL (pv 4)) (gC K (pv 3))) fU) cB))) (dH (z6 λF=>PS.weak (mK Am (pv 2) (XE.at (Ex:=Ex) F (gC K (pv 3))) (XE.at (Ex:=Ex) F (cz_ (i:=0) Hk (hr.mono (by omega)) (pv 0) (bR (gC K (pv 3)) cB))) rfl) aCq)) fW))))
  (cV (gn_ (dl_ (C:=C_Reader) (i:=0) CM_take (hr.mono (by omega)) (pv 0) (bR fU cB)))
  (dH (dX (n9 (pv 2)))))))),λC a dx l ds Q h=>?_⟩
 obtain⟨rfl,t,p,fs,rfl,rfl,B5,hF,Ca,hp,⟨qy,qn⟩,qs⟩:=h
 simp only[Kd.Fit]at hF
 refine⟨⟨rfl,rfl⟩,rfl,t, "{",p,rfl,rfl,hp,B5,λhb=>?_,λhb=>?_⟩
 ·have e91:fX [123] ((aJ t).drop p)=some ((aJ t).drop (p + 1)):=gp_ (a:=[123]) hb
  have Fe:p+1<=t.length:=iz_ (a:=[123]) hp hb
  have er:(Kd.rcd fs).prs ((aJ t).drop p)=(prsF fs true ((aJ t).drop (p+1))).bind λx=>(fX [125] x.2).bind λr=>some (.rcd x.1,r):=by simp only[Kd.prs,e91,aZ]
  rw[er]at qy qn qs
  intro a0
  dsimp only
  change cI _ _ [.bo (.oi C a dx (rdr t (p+1))),vT (.lst (xF fs)),.v (.ow (.od a0 [])),.un,.un] _
  generalize hW:prsF fs true ((aJ t).drop (p+1))=W at qy qn qs
  refine eb_ (λρ=>∃(l:List (Key×Ow)) (x:Nat) (y3 y4:Sl),x<=t.length/\((∃vs,W=some (vs,(aJ t).drop x)/\iZ l=vxF fs vs)\/W=none/\l.length<fs.length)/\ρ=[.bo (.oi C a dx (rdr t x)),vT (.lst (xF fs)),.v (.ow (.od a0 l)),y3,y4]) ?_ (λnx C3=>?_)
  ·rintro ρ ⟨l,x,y3,y4,hx,hc,rfl⟩
   rcases hc with⟨vs,rfl,Cu⟩ | ⟨rfl,Fv⟩
   ·refine ⟨⟨rfl,rfl⟩,rfl,t, "}",x,rfl,rfl,hx,B5,fun hb => ?_,fun hb => ?_⟩
    ·have e93:fX [125] ((aJ t).drop x)=some ((aJ t).drop (x + 1)):=gp_ (a:=[125]) hb
     refine⟨rfl,rfl,rfl,?_⟩
     exact qy (.rcd vs) _ (by simp only[aZ,e93]) (x+1) (.ow (.od a0 l)) (.od a0 l) (iz_ (a:=[125]) hx hb) rfl rfl (by simp only[Ow.d,Kd.vx,Cu])
    ·have e93:fX [125] ((aJ t).drop x)=none:=fk_ (a:=[125]) hb
     exact qn (by simp only[aZ,e93,gJ])
   ·refine ⟨⟨rfl,rfl⟩,rfl,t, "}",x,rfl,rfl,hx,B5,fun hb => ?_,fun hb=>qn rfl⟩
    refine⟨rfl,rfl,rfl,?_⟩
    exact qs rfl (x+1) (.ow (.od a0 l)) (.od a0 l) (iZ l) rfl (by simp only[Sv.d,Ow.d]) (by rw[oY];exact Fv)
  ·show iR _ _ _ (xF fs) _
   rw[gr_]
   refine da_ (λf:Str×Kd=>Dx.tup [.str f.1,f.2.x]) (λtd ρ=>∃(dn:List (Str×Kd)) (l:List (Key×Ow)) (x:Nat) (y3 y4:Sl),fs=dn++td/\l.length<=dn.length/\(∀kk∈l.map (·.1),∃g∈dn,kk=Sum.inr g.1)/\x<=t.length/\((∃vd:List Vd,vd.length=dn.length/\l.length=dn.length/\iZ l=vxF dn vd/\W=(prsF td (decide (dn.length=0)) ((aJ t).drop x)).bind λy=>some (vd++y.1,y.2))\/W=none/\l.length<dn.length)/\ρ=[.bo (.oi C a dx (rdr t x)),vT (.lst (fs.map λf:Str×Kd=>Dx.tup [.str f.1,f.2.x])),.v (.ow (.od a0 l)),y3,y4]) (λρ h=>?_) (λg tr ρ Kn h hk=>?_) ⟨[],[],p+1,.un,.un,rfl,bA _,(λkk hk=>by cases hk),Fe,.inl ⟨[],rfl,rfl,by simp only[iZ,vxF],by rw[<-hW];simp only[bC,decide_true,aS];cases prsF fs true ((aJ t).drop (p+1))<;>rfl⟩,rfl⟩
   ·obtain ⟨dn,l,x,y3,y4,e1,Fv,Hy,hx,hc,rfl⟩:=h
    rw[aV]at e1
    subst e1
    refine C3 _ ⟨l,x,y3,y4,hx,?_,by rw[gr_]⟩
    rcases hc with⟨vd,Dz,hl,Cu,hw⟩ | h
    ·simp only [prsF,aZ,aV] at hw
     exact .inl ⟨vd,hw,Cu⟩
    ·exact .inr h
   ·obtain ⟨dn,l,x,y3,y4,e1,Fv,Hy,hx,hc,rfl⟩:=h
    have hg:g∈fs:=by rw[e1];exact aE _ aA
    obtain⟨gn,gf,gd⟩:=gz_ hF.1 hg
    have Jn:dn.length<=8:=by have:=congrArg List.length e1;rw[aB]at this;have:=hF.2.2.1;omega
    have B6:(Sum.inr g.1:Key)∉l.map (·.1):=by
     intro z
     obtain⟨g',Cv,e⟩:=Hy _ z
     have Bw:=hF.2.2.2
     rw[e1,bT,cA]at Bw
     exact Bw.2.2 g'.1 (cP Cv) g.1 (by rw[bB];exact aA) (Sum.inr.inj e).symm
    refine cp_ (M:=λρ=>∃(ah:Str),aJ ah=qJ (decide (l.length=0))/\ρ=[.bo (.oi C a dx (rdr t x)),vT (.lst (fs.map λf:Str×Kd=>Dx.tup [.str f.1,f.2.x])),.v (.ow (.od a0 l)),vT (.tup [.str g.1,g.2.x]),vT (.str ah)]) ?_ ?_
    ·rintro ρ ⟨ah,Nt,rfl⟩
     have hahl:ah.length<=2:=by rw[gE,Nt];cases decide (l.length=0)<;>decide
     have Lw:=gn.2.1
     rw[<-gE]at Lw
     have hy:aJ (ah++g.1 ++ " ")=qJ (decide (l.length=0))++(aJ g.1++[32]):=by rw[qO,qO,show aJ " " = [32]from by decide,aL,Nt]
     have Na:(ah++g.1 ++ " ").length=(aJ (ah++g.1 ++ " ")).length:=gE _
     refine⟨⟨rfl,rfl⟩,(by show ah.length+g.1.length<=1000000;omega),(by show(ah++g.1:Str).length+1<=1000000;rw[en_];omega),rfl,t,ah++g.1 ++ " ",x,rfl,rfl,hx,B5,λb hb=>?_⟩
     cases b with
     |true =>
      have Go:x+(ah++g.1 ++ " ").length<=t.length:=by rw[Na];exact iz_ hx hb.symm
      have e0:=gp_ hb.symm
      rw[<-Na,hy]at e0
      have Ct:∀(x':Nat) (s:Sv) (o:Ow),x'<=t.length->s.o? = some o->((∃vd:List Vd,vd.length=(dn++[g]).length/\(l++[((Sum.inr g.1:Key),o)]).length=(dn++[g]).length/\iZ (l++[((Sum.inr g.1:Key),o)])=vxF (dn++[g]) vd/\W=(prsF tr (decide ((dn++[g]).length=0)) ((aJ t).drop x')).bind λy=>some (vd++y.1,y.2))\/W=none/\(l++[((Sum.inr g.1:Key),o)]).length<(dn++[g]).length)->∃(dn:List (Str×Kd)) (l':List (Key×Ow)) (x:Nat) (y3 y4:Sl),fs=dn++tr/\l'.length<=dn.length/\(∀kk∈l'.map (·.1),∃g∈dn,kk=Sum.inr g.1)/\x<=t.length/\((∃vd:List Vd,vd.length=dn.length/\l'.length=dn.length/\iZ l'=vxF dn vd/\W=(prsF tr (decide (dn.length=0)) ((aJ t).drop x)).bind λy=>some (vd++y.1,y.2))\/W=none/\l'.length<dn.length)/\[.bo (.oi C a dx (rdr t x')),vT (.lst (fs.map λf:Str×Kd=>Dx.tup [.str f.1,f.2.x])),.v (.ow (.od a0 (l++[((Sum.inr g.1:Key),o)]))),vT (.tup [.str g.1,g.2.x]),vT (.str ah)]=[Sl.bo (.oi C a dx (rdr t x)),vT (.lst (fs.map λf:Str×Kd=>Dx.tup [.str f.1,f.2.x])),.v (.ow (.od a0 l')),y3,y4]:=λx' s o Di C8 Jv=>⟨dn++[g],l++[(Sum.inr g.1,o)],x',_,_,by rw[e1,aL];rfl,by simp only[aB,bH];omega,(λkk Gw=>by
        rw[bT]at Gw
        rcases bF.mp Gw with Gw | Gw
        ·obtain ⟨g',Cv,e⟩:=Hy kk Gw
         exact⟨g',aK _ Cv,e⟩
        ·exact⟨g,aE _ aA,aI.mp Gw⟩),Di,Jv,rfl⟩
      refine⟨rfl,rfl,t,x+(ah++g.1 ++ " ").length,g.2,rfl,rfl,B5,gf,by omega,Go,λv r hv x2 s o C2 Ds C8 Hb=>?_,λhv=>qn ?_⟩
      ·refine ⟨⟨a0,l,rfl⟩,a0,l,Sum.inr g.1,o,rfl,rfl,C8,B6,by omega,hk _ (Ct x2 s o C2 C8 ?_)⟩
       rcases hc with⟨vd,Dz,hl,Cu,hw⟩ | ⟨hw,hl⟩
       ·refine .inl ⟨vd ++ [v],by simp only [aB,bH,Dz],by simp only [aB,bH,hl],by rw [rH,Cu,nQ Dz,Hb],?_⟩
        rw[hl]at e0
        simp only[prsF]at hw
        rw[e0,aZ,hv,aZ]at hw
        rw[hw,Ds]
        have ef:decide ((dn++[g]).length=0)=false:=dzF (by simp)
        rw[ef]
        cases prsF tr false r with
        |none=>rfl
        |some z=>simp only[aZ,aL,aP,aS]
       ·exact .inr ⟨hw,by simp only[aB,bH];omega⟩
      ·rcases hc with ⟨vd,Dz,hl,Cu,hw⟩ | ⟨hw,hl⟩
       ·rw [hl] at e0
        simp only[prsF]at hw
        rw[e0,aZ,hv]at hw
        rw[hw]
        rfl
       ·rw [hw]
        rfl
     |false =>
      have e0:=fk_ hb.symm
      rw[hy]at e0
      refine hk _ ⟨dn++[g],l,x,_,_,by rw[e1,aL];rfl,by rw[aB];omega,(λkk Gw=>by obtain⟨g',Cv,e⟩:=Hy kk Gw;exact⟨g',aK _ Cv,e⟩),hx,.inr ⟨?_,by rw[aB,bH];omega⟩,rfl⟩
      rcases hc with⟨vd,Dz,hl,Cu,hw⟩ | ⟨hw,hl⟩
      ·rw [hl] at e0
       simp only[prsF]at hw
       rw[e0]at hw
       exact hw
      ·exact hw
    ·intro D' Dv
     refine⟨_,rfl,.inl ⟨iZ l,by simp only[Sv.d,Ow.d],?_⟩⟩
     have hol2:(iZ l).length=l.length:=oY
     by_cases Ki:l.length=0
     ·have C9:l=[]:=List.length_eq_zero_iff.mp Ki
      subst C9
      exact Dv _ ⟨"",by decide,rfl⟩
     ·show if decide ((0:Int) < ((iZ l).length:Int))=true then _ else _
      rw[if_pos (dzT (by omega))]
      exact Dv _ ⟨jV,by rw[dzF Ki];decide,rfl⟩
 ·have e91:fX [123] ((aJ t).drop p)=none:=fk_ (a:=[123]) hb
  exact qn (by simp only[Kd.prs,e91,gJ])
theorem aKk(F:Fun K "read_value" "read_value" ft_ f fd)(CK_Reader:aHl P w K mg base 1 C_Reader BB (eV (aTk C_Reader Ab)))(C1:mg "Reader" = some (.ref C_Reader))(Hk:CalE P w K mg base (j+3) "taken_value" AC (eV (z8 C_Reader Ab 5)))(CM_take_end:jX P w K mg base 1 C_Reader "take_end" ["self"] (eV (aYq C_Reader Ab))):FnOk P w K mg base (CXe P w) (j+4) f fd AB (spE (aYs Ab)):=by
 refine bDb F iL (λds Q Ex h=>by obtain⟨_,_,rfl,_⟩:=h;rfl) (by decide) λAk A outer s H E Ex hr=>?_
 have Am:=jM hr
 have Aj:=aR Am
 refine⟨_,(cV (ah_ λF=>ap_ (i:=2) iL.nd rfl (Or.inl rfl) (XE.at (Ex:=Ex) F (s0 CK_Reader (hr.mono (by omega)) C1 (bR (bL (pv 1)) cB))))
  (cV (ah_ λF=>ap_ (i:=3) iL.nd rfl (Or.inl rfl) (XE.at (Ex:=Ex) F (cz_ (i:=2) Hk (hr.mono (by omega)) (pv 2) (bR (bL (pv 0)) cB))))
  (cV (gn_ (yC (C:=C_Reader) (i:=2) CM_take_end (hr.mono (by omega)) (pv 2)))
  (dH (dX (n9 (pv 3))))))),λds Q h=>?_⟩
 clear Aj Am
 obtain⟨kd,d,rfl,hF,hd,h⟩:=h
 intro a dx
 rcases h with⟨t,rfl,hl,qy,qn⟩ | ⟨hn,q⟩
 ·refine ⟨rfl,rfl,.str t,rfl,.inl ⟨t,rfl,?_⟩⟩
  refine⟨rfl,rfl,rfl,t,0,kd,rfl,rfl,hl,hF,hd,cF _,λv r hv x s o hx Ds C8 Cu=>?_,λhv=>?_⟩
  ·rw [eT] at hv
   refine⟨⟨rfl,rfl⟩,rfl,t,x,rfl,rfl,hx,hl,λe=>?_,λe=>?_⟩
   ·have Dl:r=[]:=by rw [← Ds,e,gE,List.drop_length]
    subst Dl
    exact qy v hv s o C8 Cu
   ·refine qn fun v' A2 => ?_
    rw[hv]at A2
    cases A2
    have:=congrArg List.length Ds
    rw[bS,<-gE,bC]at this
    omega
  ·rw [eT] at hv
   exact qn λv z=>by rw[hv]at z;cases z
 ·exact⟨rfl,rfl,d,rfl,.inr ⟨hn,q⟩⟩
end
def aYv:GC:=λds Q=>∃x:Str,ds=[.str x]/\x.length<=100000/\(∀n,0<=n->x=cR n->x.length<=20->Q (.tr (.int n)))/\(¬(vH (aJ x)/\x.length<=20)->Q (.tr (.int (-1))))
section
variable{f:Addr}{n j:Nat}
theorem aKn(F:Fun K "_law_number" "_law_number" ei_ f fd)(Ad:mg "len" = none)(m_int:mg "int" = none):FnOk P w K mg base CX0 1 f fd ["word"] (spX aYv):=by
 refine jA F kJ (λds Q h=>by obtain⟨_,rfl,_⟩:=h;rfl) (by decide) λAk A outer s H E hr=>?_
 have Am:=jM hr
 have Aj:=aR Am
 refine⟨_,(cV (fL (XW.pt (uV (eE (gV K Aj) hX (bL (pv 0)) fU (bD _)) (uV (eE hy_ hx_ (jJ (kI K) kY (by rfl) Ad PySem.boot_len (bR (bL (pv 0)) cB)) cK (bD _)) (xZ (XW.pt (gh_ (eE hy_ hx_ (jJ (kI K) kY (by rfl) Ad PySem.boot_len (bR (bL (pv 0)) cB)) cK (bD _)) (el_ (eE (gV K Aj) hX (gC K (pv 0)) fU (bD _))))))))) (dH (dX (ht_ cK))) fW)
  (cV (gi_ PassesOwn.never rfl (aBk (bL (pv 0))) (iU (i:=1) kJ.nd rfl (Or.inl rfl)) (sA (n:=99) (i:=1) (by decide)) (dH (fL (eE hv_ aEm (bL (pv 1)) fU (by with_unfolding_all rfl)) (dH (dX (ht_ cK))) fW)))
  (dH (dX (yB sE o7 (by rfl) m_int ez_ (bR (bL (pv 0)) cB)))))),λds Q h=>?_⟩
 clear Aj Am
 obtain⟨x,rfl,Hv,qy,qn⟩:=h
 by_cases hA:x = "" \/ 20<x.length\/∃r,aJ x=48::r/\r≠[]
 ·refine kZ true (ρ':=[vT (.str x),.un]) (fun Q q => ?_) (fun _ => ?_) (fun hb=>by cases hb)
  ·show if decide (x = "")=true then _ else _
   by_cases h0:x = ""
   ·rw[dzT h0];exact q
   rw[dzF h0]
   refine⟨by show x.length<=1000000;omega,?_⟩
   show if decide ((20:Int)<(x.length:Int))=true then _ else _
   by_cases h1:20<x.length
   ·rw[dzT (by omega)];exact q
   rw[dzF (by omega)]
   obtain⟨r,Dl,hr1⟩:=(hA.resolve_left h0).resolve_left h1
   have F4:atI x.cps.toList 0=some 48:=pU (xs:=aJ x) (j:=0) (by rw[Dl];rfl)
   have Al:x.length=r.length+1:=by rw[gE,Dl];rfl
   have hrp:=List.length_pos_iff.mpr hr1
   refine⟨by show x.length<=1000000;omega,?_⟩
   show if decide ((1:Int)<(x.length:Int))=true then _ else _
   rw[dzT (by omega)]
   refine⟨by show x.length<=1000000;omega,?_⟩
   show match atI x.cps.toList 0 with | some c=>_ | none=>False
   rw[F4]
   show Q (decide ((⟨#[48]⟩:Str) = "0")) _
   rw[dzT (show(⟨#[48]⟩:Str) = "0" from by decide)]
   exact q
  ·refine qn fun h => ?_
   obtain⟨⟨_,c,r,e,hc⟩,hl⟩:=h
   rcases hA with rfl | h | ⟨r',e',B7⟩
   ·cases e
   ·omega
   ·rw [e] at e'
    cases e'
    rcases hc with hc | hc
    ·exact B7 hc
    ·exact hc rfl
 ·have h0:x ≠ "" := fun z=>hA (.inl z)
  have h1:x.length<=20:=Nat.not_lt.mp λz=>hA (.inr (.inl z))
  obtain⟨c,r,hc⟩:∃c r,aJ x=c::r:=by
   cases e:aJ x with
   |nil=>exact absurd (cd_ (y:= "") (by rw[e];rfl)) h0
   |cons c r=>exact⟨c,r,rfl⟩
  have Al:x.length=r.length+1:=by rw[gE,hc];rfl
  refine lJ (ρ':=[vT (.str x),.un]) (λQ q=>?_) ?_
  ·show if decide (x = "")=true then _ else _
   rw[dzF h0]
   refine⟨by show x.length<=1000000;omega,?_⟩
   show if decide ((20:Int)<(x.length:Int))=true then _ else _
   rw[dzF (by omega)]
   refine⟨by show x.length<=1000000;omega,?_⟩
   show if decide ((1:Int)<(x.length:Int))=true then _ else _
   by_cases h2:1<x.length
   ·rw [dzT (by omega)]
    have F4:atI x.cps.toList 0=some c:=pU (xs:=aJ x) (j:=0) (by rw[hc];rfl)
    refine⟨by show x.length<=1000000;omega,?_⟩
    show match atI x.cps.toList 0 with | some c=>_ | none=>False
    rw[F4]
    have Hd:(⟨#[c]⟩:Str) ≠ "0":=λz=>by
     have h3:=congrArg aJ z
     have h4:c=48:=(List.cons.inj (show [c]=[48]from h3)).1
     subst h4
     exact hA (.inr (.inr ⟨r,hc,λz=>by rw[z]at Al;simp at Al;omega⟩))
    show Q (decide ((⟨#[c]⟩:Str) = "0")) _
    rw[dzF Hd]
    exact q
   ·rw [dzF (by omega)]
    exact q
  ·refine eb_ (fun ρ=>(∀ c∈aJ x,inT fT c=true)∧∃ y,ρ=[vT (.str x),y]) ?_ (fun nx C3 => ?_)
   ·rintro ρ ⟨Cy,y,rfl⟩
    have hF:vH (aJ x):=⟨Cy,c,r,hc,by
     by_cases h4:c=48
     ·subst h4
      exact .inl (Classical.byContradiction λz=>hA (.inr (.inr ⟨r,hc,z⟩)))
     ·exact .inr h4⟩
    obtain⟨i,Hz,hi⟩:=xA hF
    have ex:x=cR i:=cd_ hi
    have q':=qy i Hz ex h1
    rw[ex]at h1
    refine⟨x,i,rfl,by omega,by rw[ex];exact nU Hz (by omega),q'⟩
   ·show iR _ _ _ (sgX x) _
    have esg:sgX x=(aJ x).map λc=>Dx.str ⟨#[c]⟩:=rfl
    rw[esg]
    refine da_ (λc:Nat=>Dx.str ⟨#[c]⟩) (λtd ρ=>∃dn y,aJ x=dn++td/\(∀c∈dn,inT fT c=true)/\ρ=[vT (.str x),y]) (λρ h=>?_) (λg tr ρ Kn h hk=>?_) ⟨[],.un,rfl,(λc h=>by cases h),rfl⟩
    ·obtain ⟨dn,y,e,hd,rfl⟩:=h
     rw[aV]at e
     exact C3 _ ⟨by rw[e];exact hd,y,rfl⟩
    ·obtain ⟨dn,y,e,hd,rfl⟩:=h
     show if(!(inT fT g))=true then _ else _
     cases hg:inT fT g with
     | true => exact hk _ ⟨dn ++ [g], _, by rw [e, aL]; rfl, (fun c hc => by
       rcases bF.mp hc with h | h
       ·exact hd c h
       ·rw[aI.mp h];exact hg),rfl⟩
     |false =>
      refine qn λh=>?_
      have:=h.1.1 g (by rw[e];exact aE _ aA)
      rw[hg]at this
      cases this
end
theorem aTc(len:Nat)(i:Option Int){j:Int}(h:(len:Int)<=j):Builtin.Str.strSliceIndices i (some j) 1 len=Builtin.Str.strSliceIndices i (some (len:Int)) 1 len:=by
 have a1:¬j<0:=by omega
 have a2:¬((len:Int)<0):=by omega
 have e1:max (0:Int) (min j (len:Int))=len:=by omega
 have e2:max (0:Int) (min (len:Int) (len:Int))=len:=by omega
 simp[Builtin.Str.strSliceIndices,a1,a2,e1,e2]
theorem aLk(len:Nat)(i:Option Int){j:Int}(h:j<0)(h2:0<=j+len):Builtin.Str.strSliceIndices i (some j) 1 len=Builtin.Str.strSliceIndices i (some (j+len)) 1 len:=by
 have a2:¬(j+(len:Int)<0):=by omega
 simp[Builtin.Str.strSliceIndices,h,a2]
theorem aWy{x:Str}{i:Option Int}{j:Int}(h:(x.length:Int)<=j):Txt.slice x i (some j)=Txt.slice x i (some (x.length:Int)):=by
 show StrLaws.sliceText x i (some j)=StrLaws.sliceText x i (some (x.length:Int))
 unfold StrLaws.sliceText
 rw[aTc x.length i h]
theorem aQa{x:Str}{i:Option Int}{j:Int}(h:j<0)(h2:0<=j+x.length):Txt.slice x i (some j)=Txt.slice x i (some (j+x.length)):=by
 show StrLaws.sliceText x i (some j)=StrLaws.sliceText x i (some (j+x.length))
 unfold StrLaws.sliceText
 rw[aLk x.length i h h2]
theorem aCz{x:Str}{i j:Nat}(h0:i<=x.length)(h1:i<=j):aJ (Txt.slice x (some (i:Int)) (some (j:Int)))=((aJ x).drop i).take (j-i):=by
 by_cases h:j<=x.length
 ·rw [beq_iff_eq.mp (PyProof.Rows.slice_closesL (x:=x) (i:=(i:Int)) (j:=(j:Int)) (by omega) (by omega) (by omega))]
  show((aJ x).drop (i:Int).toNat).take ((j:Int)-(i:Int)).toNat=_
  rw[gF,show((j:Int)-(i:Int)).toNat=j-i by omega]
 ·rw [aWy (by omega),beq_iff_eq.mp (PyProof.Rows.slice_closesL (x:=x) (i:=(i:Int)) (j:=(x.length:Int)) (by omega) (by omega) (by omega))]
  show((aJ x).drop (i:Int).toNat).take ((x.length:Int)-(i:Int)).toNat=_
  rw[gF,fZ (by rw[bS,<-gE];omega),fZ (by rw[bS,<-gE];omega)]
theorem aNq{x:Str}(h:2<=x.length):aJ (Txt.slice x (some 1) (some (-1)))=((aJ x).drop 1).take (x.length-2):=by
 rw[aQa (by decide) (by omega),show(-1+(x.length:Int))=((x.length-1:Nat):Int) by omega,show((1:Int))=((1:Nat):Int)from rfl,aCz (by omega) (by omega)]
 congr 1
theorem aNp{x:Str}{j:Nat}:aJ (Txt.slice x none (some (j:Int)))=(aJ x).take j:=by
 rw[beq_iff_eq.mp (PyProof.Rows.slice_to_min_closes (x:=x) (n:=(j:Int)) (m:=_) (by omega) rfl)]
 show((aJ x).drop (0:Int).toNat).take _=_
 rw[show(0:Int).toNat=0 from rfl,eT]
 split
 ·rw[fZ (by rw[<-gE];omega),fZ (by rw[<-gE];omega)]
 ·congr 1
theorem aIz{x:Str}{i:Nat}(h:i<=x.length):aJ (Txt.slice x (some (i:Int)) none)=(aJ x).drop i:=by
 rw[PyProof.Rows.slice_from_eq (x:=x) (b:=x.length) (by omega) (by omega) rfl]
 show((aJ x).drop (i:Int).toNat).take _=_
 rw[gF,fZ (by rw[bS,<-gE];omega)]
theorem p_{x:Str}{l:List Nat}{c:Nat}(h:aJ x=l++[c]):atI x.cps.toList (-1)=some c:=by
 have hl:x.cps.toList=l++[c]:=h
 unfold atI ixN
 rw[hl,if_neg (by decide),if_pos (by simp;omega)]
 simp only[aZ,aB,bH]
 rw[show(-1+((l.length+1:Nat):Int)).toNat=l.length by omega]
 simp
def lvl(c:Nat):Int:=(if inT "{<[" c=true then 1 else 0)-(if inT "}>]" c=true then 1 else 0)
def gB:List Nat->Bool->Int->List (List Nat)->List Nat->Option (List (List Nat))
 | [],_,lv,dn,cur=>if 0<lv then none else some (dn++[cur])
 |_::r,true,lv,dn,cur=>gB r false lv dn cur
 |c::r,false,lv,dn,cur=>if lv=0/\(c::r).take 2=[44,32]then gB r true lv (dn++[cur]) []else if lv+lvl c<0 then none else gB r false (lv+lvl c) dn (cur++[c])
def txS(l:List Nat):Dx:=.str ⟨l.toArray⟩
def aGd:GC:=λds Q=>∃t:Str,ds=[.str t]/\t.length<=400000/\(∀ps,gB (aJ t) false 0 [] []=some ps->Q (.ol (ps.map txS)))/\(gB (aJ t) false 0 [] []=none->Q (.tr .non))
theorem aIo{cur:List Nat}{c:Nat}:((⟨cur.toArray⟩:Str)++(⟨#[c]⟩:Str))=⟨(cur++[c]).toArray⟩:=cd_ (by rw[qO];rfl)
theorem aXz(c:Nat) : -1<=lvl c/\lvl c<=1:=by unfold lvl;split<;>split<;>omega
theorem nB{c:XC}{G K:XS}{ρ ρ':En}{D:XD}(hc:∀Q:Bool->En->Prop,Q false ρ'->c ρ Q)(h:K ρ' D):xIf c G K ρ D:=hc _ h
theorem nA{c:XC}{G K:XS}{ρ ρ':En}{D:XD}(hc:∀Q:Bool->En->Prop,Q true ρ'->c ρ Q)(h:G ρ' D):xIf c G K ρ D:=hc _ h
section
variable{f:Addr}{n j:Nat}
theorem i0(F:Fun K "_law_parts" "_law_parts" ff_ f fd)(Ad:mg "len" = none)(m_int:mg "int" = none):FnOk P w K mg base CX0 1 f fd AW (spX aGd):=by
 refine jA F eX (λds Q h=>by obtain⟨_,rfl,_⟩:=h;rfl) (by decide) λAk A outer s H E hr=>?_
 have Am:=jM hr
 have Aj:=aR Am
 refine⟨_,(cV (fM (i:=1) eX.nd rfl (Or.inl rfl) (pR (bR fU cB)))
  (cV (fM (i:=2) eX.nd rfl (Or.inl rfl) cK)
  (cV (fM (i:=3) eX.nd rfl (Or.inl rfl) cK)
  (cV (nN PassesOwn.never (eE vI vJ (bL (pv 3)) (jJ (kI K) kY (by rfl) Ad PySem.boot_len (bR (bL (pv 0)) cB)) (bD _)) (cV (fL (XW.pt (gh_ (eE (gV K Aj) hX (bL (pv 2)) cK (bD _)) (el_ (eE (gV K Aj) hX (kX K (bL (pv 0)) (jO (bL (pv 3))) (jO (gA (bL (pv 3)) cK))) fU (bD _))))) (cV (z6 λF=>PS.weak (ix_ (oW PySem.F.plainAttrs_list PySem.F.slot_list_append PySem.F.type_list_append gx_ (pv 1) (lK (XE.at (Ex:=dR) F fU) xJ))) yM)
  (dH (fM (i:=3) eX.nd rfl (Or.inl rfl) (gA (bL (pv 3)) cK)))) (cV (fM (i:=2) eX.nd rfl (Or.inl rfl) (io_ (gA (bL (pv 2)) (yB dc_ ha_ (by rfl) m_int ez_ (bR (xL gu_ uC (jI K (bL (pv 0)) (bL (pv 3)) (λ_ _=>rfl)) fU (by with_unfolding_all rfl)) cB))) (yB dc_ ha_ (by rfl) m_int ez_ (bR (xL gu_ uC (jI K (bL (pv 0)) (bL (pv 3)) (λ_ _=>rfl)) fU (by with_unfolding_all rfl)) cB))))
  (dH (z6 λF=>PS.weak (iy_ (XE.at (Ex:=dR) F (gA (sO K (pv 1) (ht_ cK) (λ_ _=>rfl)) (jI K (bL (pv 0)) (bL (pv 3)) (λ_ _=>rfl)))) (yW (pv 1) (XE.at (Ex:=dR) F (ht_ cK)) oC)) tE))))
  (cV (fL (eE vI vJ (bL (pv 2)) cK (bD _)) (dH (dX pT)) fW)
  (dH (fM (i:=3) eX.nd rfl (Or.inl rfl) (gA (bL (pv 3)) cK))))))
  (cV (fL (eE hy_ hx_ (bL (pv 2)) cK (bD _)) (dH (dX pT)) fW)
  (dH (dX (n9 (pv 1))))))))),λds Q h=>?_⟩
 clear Aj Am
 obtain⟨t,rfl,B5,qy,qn⟩:=h
 have Jl:=gE t
 refine⟨(by show 1<=1000000;decide),?_⟩
 dsimp only
 show cI (sT _ _) _ [vT (.str t),.v (.ol [.str ""]),vT (.int 0),vT (.int 0)] _
 generalize hW:gB (aJ t) false 0 [] []=W at qy qn
 refine eb_ (λρ=>∃(lv:Int) (dn:List (List Nat)) (cur:List Nat) (k:Int),0<=lv/\W=(if 0<lv then none else some (dn++[cur]))/\ρ=[vT (.str t),.v (.ol ((dn++[cur]).map txS)),vT (.int lv),vT (.int k)]) ?_ (λnx C3=>?_)
 ·rintro ρ ⟨lv,dn,cur,k,h0,hw,rfl⟩
  by_cases hl:0<lv
  ·rw [if_pos hl] at hw
   refine kZ true (ρ':=[vT (.str t),.v (.ol ((dn++[cur]).map txS)),vT (.int lv),vT (.int k)]) (λQ q=>?_) (λ_=>qn hw) (λhb=>by cases hb)
   show Q (decide ((0:Int)<lv)) _
   rw[dzT hl]
   exact q
  ·rw [if_neg hl] at hw
   refine lJ (ρ':=[vT (.str t),.v (.ol ((dn++[cur]).map txS)),vT (.int lv),vT (.int k)]) (λQ q=>?_) ?_
   ·show Q (decide ((0:Int) < lv)) _
    rw[dzF hl]
    exact q
   ·exact qy _ hw
 ·refine ⟨fun m ρ => ∃ (lv:Int) (dn:List (List Nat)) (cur:List Nat) (k:Nat),k + m=t.length∧0≤lv∧lv≤k∧dn.length≤k∧cur.length≤k∧W=gB ((aJ t).drop k) false lv dn cur∧ρ=[vT (.str t),.v (.ol ((dn ++ [cur]).map txS)),vT (.int lv),vT (.int (k:Int))],⟨t.length,0,[],[],0,by omega,Int.le_refl _,Int.le_refl _,bA _,bA _,hW.symm,rfl⟩,?_⟩
  rintro m ρ ⟨lv,dn,cur,k,hk,Ki,He,hdk,hck,hw,rfl⟩
  refine⟨by show t.length<=1000000;omega,?_⟩
  by_cases C6:k<t.length
  ·have hd:decide ((k:Int) < ((t.length:Nat):Int))=true:=dzT (by omega)
   refine(if_pos hd).mpr ?_
   obtain⟨c,hc⟩:∃c,(aJ t)[k]? = some c:=⟨_,aO (by omega)⟩
   have De:atI t.cps.toList (k:Int)=some c:=pU hc
   have Ds:(aJ t).drop k=c::(aJ t).drop (k+1):=by
    have h1:=List.drop_eq_getElem_cons (l:=aJ t) (i:=k) (by omega)
    rw[aO (by omega)]at hc
    rw[h1,ozI hc]
   rw[Ds]at hw
   simp only[gB]at hw
   have Ea:decide (Txt.slice t (some (k:Int)) (some ((k:Int)+2)) = ", ")=decide ((c::(aJ t).drop (k+1)).take 2=[44,32]):=by
    have e:=aCz (x:=t) (i:=k) (j:=k+2) (by omega) (by omega)
    rw[show k+2-k=2 by omega,Ds]at e
    have e2:(((k+2:Nat)):Int)=(k:Int)+2:=by omega
    rw[e2]at e
    by_cases h:Txt.slice t (some (k:Int)) (some ((k:Int)+2)) = ", "
    ·rw[dzT h,dzT (by rw[<-e,h];decide)]
    ·rw[dzF h,dzF (λz=>h (cd_ (by rw[e,z];decide)))]
   refine⟨λρ=>∃m',m'<m/\∃(lv:Int) (dn:List (List Nat)) (cur:List Nat) (k:Nat),k+m'=t.length/\0<=lv/\lv<=k/\dn.length<=k/\cur.length<=k/\W=gB ((aJ t).drop k) false lv dn cur/\ρ=[vT (.str t),.v (.ol ((dn++[cur]).map txS)),vT (.int lv),vT (.int (k:Int))],λρ' h=>h,?_⟩
   by_cases Ch:lv=0/\(c::(aJ t).drop (k+1)).take 2=[44,32]
   ·rw [if_pos Ch] at hw
    obtain⟨rfl,h2⟩:=Ch
    obtain⟨r,I9⟩:∃r,(aJ t).drop (k+1)=32::r:=by
     cases e:(aJ t).drop (k+1)with
     |nil=>rw[e]at h2;cases h2
     |cons d r=>rw[e]at h2;simp at h2;rw[h2.2];exact⟨r,rfl⟩
    have K9:(aJ t).drop (k+2)=r:=by rw[show k+2=k+1+1 from rfl,<-List.drop_drop,I9];rfl
    have hk2:k+2<=t.length:=by
     have:=congrArg List.length I9
     rw[bS,aD,<-gE]at this
     omega
    rw[I9]at hw
    simp only[gB]at hw
    refine cp_ (M:=λρ=>ρ=[vT (.str t),.v (.ol (((dn++[cur])++[[]]).map txS)),vT (.int 0),vT (.int ((k:Int)+1))]) ?_ ?_
    ·rintro ρ rfl
     refine lJ (ρ':=[vT (.str t),.v (.ol (((dn++[cur])++[[]]).map txS)),vT (.int 0),vT (.int ((k:Int)+1))]) (λQ q=>(by
      show Q (decide ((0:Int)<0)) _
      exact q)) ?_
     refine⟨m-2,by omega,0,dn++[cur],[],k+2,by omega,Int.le_refl _,by omega,by simp only[aB,bH];omega,cF _,by rw[K9];exact hw,?_⟩
     rw[show(((k+2:Nat)):Int)=(k:Int)+1+1 by omega]
     rfl
    ·intro D' Dv
     refine nA (ρ':=[vT (.str t),.v (.ol ((dn++[cur]).map txS)),vT (.int 0),vT (.int (k:Int))]) (λQ q=>?_) ?_
     ·refine ⟨by show t.length≤1000000; omega,?_⟩
      show Q (decide (Txt.slice t (some (k:Int)) (some ((k:Int)+2)) = ", ")) _
      rw[Ea,dzT h2]
      exact q
     refine⟨rfl,(by show((dn++[cur]).map txS).length<1000000;simp only[aG,aB,bH];omega),Dv _ ?_⟩
     simp only[bT,bB,dA,aL,aP,aS]
     rfl
   ·rw [if_neg Ch] at hw
    have hlv:=aXz c
    refine cp_ (M:=λρ=>ρ=[vT (.str t),.v (.ol ((dn++[cur++[c]]).map txS)),vT (.int (lv+lvl c)),vT (.int (k:Int))]) ?_ ?_
    ·rintro ρ rfl
     by_cases Ga:lv+lvl c<0
     ·rw [if_pos Ga] at hw
      refine kZ true (ρ':=[vT (.str t),.v (.ol ((dn++[cur++[c]]).map txS)),vT (.int (lv+lvl c)),vT (.int (k:Int))]) (λQ q=>?_) (λ_=>qn hw) (λhb=>by cases hb)
      show Q (decide (lv+lvl c<0)) _
      rw[dzT Ga]
      exact q
     ·rw [if_neg Ga] at hw
      refine lJ (ρ':=[vT (.str t),.v (.ol ((dn++[cur++[c]]).map txS)),vT (.int (lv+lvl c)),vT (.int (k:Int))]) (λQ q=>?_) ?_
      ·show Q (decide (lv + lvl c < 0)) _
       rw[dzF Ga]
       exact q
      ·exact⟨m-1,by omega,lv+lvl c,dn,cur++[c],k+1,by omega,by omega,by omega,by omega,by rw[aB,bH];omega,hw,rfl⟩
    ·intro D' Dv
     refine nB (ρ':=[vT (.str t),.v (.ol ((dn++[cur]).map txS)),vT (.int lv),vT (.int (k:Int))]) (λQ q=>?_) ?_
     ·show if decide (lv=0)=true then _ else _
      by_cases h0:lv=0
      ·rw [if_pos (dzT h0)]
       refine⟨by show t.length<=1000000;omega,?_⟩
       show Q (decide (Txt.slice t (some (k:Int)) (some ((k:Int)+2)) = ", ")) _
       rw[Ea,dzF (λz=>Ch ⟨h0,z⟩)]
       exact q
      ·rw [if_neg (by rw [decide_eq_true_eq]; exact h0)]
       exact q
     ·refine cp_ (M:=fun ρ=>ρ=[vT (.str t),.v (.ol ((dn ++ [cur]).map txS)),vT (.int (lv + lvl c)),vT (.int (k:Int))]) ?_ (fun D2 Mn => ?_)
      case refine_2 =>
       refine⟨by show t.length<=1000000;omega,?_⟩
       show match atI t.cps.toList (k:Int)with | some c=>_ | none=>False
       rw[De]
       refine⟨by show t.length<=1000000;omega,?_⟩
       show match atI t.cps.toList (k:Int)with | some c=>_ | none=>False
       rw[De]
       refine Mn _ ?_
       have Lj:lv+(if inT "{<[" c=true then 1 else 0)-(if inT "}>]" c=true then 1 else 0)=lv+lvl c:=by unfold lvl;omega
       rw[<-Lj]
       rfl
      rintro ρ rfl
      have Nl:(dn++[cur]).map txS=dn.map txS++[txS cur]:=by rw[bT];rfl
      have Gh:atI ((dn++[cur]).map txS) (-1)=some (txS cur):=by
       unfold atI ixN
       rw[Nl,if_neg (by decide),if_pos (by simp;omega)]
       simp only[aZ,aB,bH]
       rw[show(-1+(((dn.map txS).length+1:Nat):Int)).toNat=(dn.map txS).length by omega]
       simp
      refine⟨rfl,?_⟩
      show match atI ((dn++[cur]).map txS) (-1)with | some c=>_ | none=>False
      rw[Gh]
      refine⟨by show t.length<=1000000;omega,?_⟩
      show match atI t.cps.toList (k:Int)with | some c=>_ | none=>False
      rw[De]
      refine⟨by show(⟨cur.toArray⟩:Str).length+1<=1000000;rw[gE];show cur.length+1<=1000000;omega,rfl,?_⟩
      have Lr:ixN ((dn++[cur]).map txS).length (-1)=some dn.length:=by
       unfold ixN
       rw[if_neg (by decide),if_pos (by simp;omega)]
       simp only[aG,aB,bH]
       rw[show(-1+((dn.length+1:Nat):Int)).toNat=dn.length by omega]
      show match ixN ((dn++[cur]).map txS).length (-1)with | some n=>_ | none=>False
      rw[Lr]
      refine Dv _ ?_
      show [Sl.v (.tr (.str t)),.v (.ol (((dn++[cur]).map txS).set dn.length (.str ((⟨cur.toArray⟩:Str)++(⟨#[c]⟩:Str))))),vT (.int (lv+lvl c)),vT (.int (k:Int))]=_
      have K7:((dn++[cur]).map txS).set dn.length (.str (⟨(cur++[c]).toArray⟩:Str))=(dn++[cur++[c]]).map txS:=by
       rw[Nl,List.set_append]
       simp[txS]
      rw[aIo,K7]
  ·have hd:¬ (decide ((k:Int) < ((t.length:Nat):Int))=true):=by rw [decide_eq_true_eq]; omega
   refine(if_neg hd).mpr ?_
   rw[List.drop_of_length_le (by omega)]at hw
   exact C3 _ ⟨lv,dn,cur,k,Ki,hw,rfl⟩
end
def eJ(ps:List (List Nat)):List Nat:=(ps.map λp=>44::32::p).flatten
theorem ho_(a b:List (List Nat)):eJ (a++b)=eJ a++eJ b:=by simp only[eJ,bT,List.flatten_append]
theorem jl_(a:List Nat):eJ [a]=44::32::a:=by simp[eJ]
theorem zZ(a:List Nat)(b:List (List Nat)):eJ (a::b)=44::32::(a++eJ b):=by simp[eJ]
theorem mJ:∀{l:List Nat} {b:Bool} {lv:Int} {dn:List (List Nat)} {cur:List Nat} {ps:List (List Nat)},gB l b lv dn cur=some ps->eJ ps=eJ (dn++[cur])++(if b=true then l.tail else l)
 | [],b,lv,dn,cur,ps,h=>by
  have e:gB [] b lv dn cur=if 0<lv then none else some (dn++[cur]):=by cases b<;>rfl
  rw[e]at h
  split at h
  ·cases h
  ·cases h
   cases b<;>simp
 |c::r,true,lv,dn,cur,ps,h=>by
  simp only[gB]at h
  have:=mJ h
  simpa using this
 |c::r,false,lv,dn,cur,ps,h=>by
  simp only[gB]at h
  split at h
  ·rename_i Ch
   have e:=mJ h
   have h2:=Ch.2
   cases r with
   |nil=>cases h2
   |cons d r =>
    simp at h2
    rw[h2.1,h2.2]
    rw[e,ho_ (dn++[cur]) [[]],jl_]
    simp
  ·split at h
   ·cases h
   ·have e:=mJ h
    rw[e,ho_,ho_,jl_,jl_]
    simp
def Sld(n:Int)(l:List Nat):Prop:=∀lv:Int,n<=lv->∀dn cur rest,gB (l++rest) false lv dn cur=gB rest false lv dn (cur++l)
theorem yO{n:Int}:Sld n []:=λlv _ dn cur rest=>by rw[aS,aV]
theorem gs_{n:Int}{a b:List Nat}(ha:Sld n a)(hb:Sld n b):Sld n (a++b):=λlv h dn cur rest=>by
 rw[aL,ha lv h,hb lv h,aL]
theorem oB{n:Int}{c:Nat}(h0:0<=n)(h1:c≠44\/1<=n)(h2:lvl c=0):Sld n [c]:=λlv h dn cur rest=>by
 show gB (c::rest) false lv dn cur=_
 simp only[gB]
 rw[if_neg (λz=>by
  rcases h1 with h1 | h1
  ·have:=z.2
   cases rest with
   |nil=>cases this
   |cons d r=>simp at this;exact h1 this.1
  ·have:=z.1;omega),h2,Int.add_zero,if_neg (by omega)]
theorem aNo{l:List Nat}(h:Sld 0 l):Sld 1 l:=λlv hl=>h lv (by omega)
theorem aNr{m:List Nat}{o c:Nat}(hm:Sld 1 m)(ho:lvl o=1)(hc:lvl c = -1)(ho4:o≠44)(hc4:c≠44):Sld 0 (o::(m++[c])):=λlv h dn cur rest=>by
 show gB (o::((m++[c])++rest)) false lv dn cur=_
 simp only[gB]
 have n1:∀(x:Nat) (r:List Nat),x≠44->¬(x::r).take 2=[44,32]:=λx r hx z=>by
  cases r with
  |nil=>cases z
  |cons d r=>simp at z;exact hx z.1
 rw[if_neg (λz=>n1 _ _ ho4 z.2),ho,if_neg (by omega),aL,hm (lv+1) (by omega)]
 show gB (c::rest) false (lv+1) dn (cur++[o]++m)=_
 simp only[gB]
 rw[if_neg (λz=>n1 _ _ hc4 z.2),hc,show lv+1 + -1=lv by omega,if_neg (by omega)]
 simp
theorem yP{n:Int}(h0:0<=n):∀{l:List Nat},(∀c∈l,c≠44/\lvl c=0)->Sld n l
 | [],_=>yO
 |c::r,h=>gs_ (a:=[c]) (oB h0 (.inl (h c aA).1) (h c aA).2) (yP h0 λx hx=>h x (aC _ hx))
theorem aSj{c:Nat}(h:c∉aJ "{<[" /\ c∉aJ "}>]"):lvl c=0:=by
 unfold lvl
 rw[if_neg (λz=>h.1 (uQ.mp z)),if_neg (λz=>h.2 (uQ.mp z))]
 rfl
theorem aMm:aJ "{<[" = [123,60,91]:=by decide
theorem aMn:aJ "}>]" = [125,62,93]:=by decide
theorem ex_{c:Nat}(h:c<=59\/97<=c/\c<=122):lvl c=0:=aSj (by rw[aMm,aMn];simp;omega)
theorem aCy{n:Int}(h:0<=n):Sld 0 (aJ (cR n)):=yP (Int.le_refl _) λc hc=>by
 have:=m4 ((is_ h).1 c hc)
 exact⟨by omega,ex_ (.inl (by omega))⟩
theorem aQb:Sld 1 [44,32]:=gs_ (a:=[44]) (oB (by decide) (.inr (by decide)) (ex_ (.inl (by decide)))) (oB (by decide) (.inr (by decide)) (ex_ (.inl (by decide))))
theorem aDb{ps:List (List Nat)}(h:∀p∈ps,Sld 0 p):Sld 1 ((eJ ps).drop 2):=by
 cases ps with
 |nil=>exact yO
 |cons p r =>
  rw[zZ]
  show Sld 1 (p++eJ r)
  refine gs_ (aNo (h p aA)) ?_
  have h':∀q∈r,Sld 0 q:=λq hq=>h q (aC _ hq)
  clear h
  induction r with
  |nil=>exact yO
  |cons q r ih =>
   rw[zZ]
   exact gs_ (a:=[44,32]) aQb (gs_ (aNo (h' q aA)) (ih λx hx=>h' x (aC _ hx)))
theorem e9:∀{qs:List (List Nat)} {q:List Nat} {dn:List (List Nat)},Sld 0 q->(∀p∈qs,Sld 0 p)->gB (q++eJ qs) false 0 dn []=some (dn++q::qs)
 | [],q,dn,hq,_=>by
  rw[hq 0 (Int.le_refl _),aS]
  rfl
 |p::qs,q,dn,hq,h=>by
  rw[hq 0 (Int.le_refl _),aS,zZ]
  simp only[gB]
  rw[if_pos ⟨trivial,rfl⟩,e9 (h p aA) (λx hx=>h x (aC _ hx))]
  simp
theorem aDv{ps:List (List Nat)}(Bv:ps≠[])(h:∀p∈ps,Sld 0 p):gB ((eJ ps).drop 2) false 0 [] []=some ps:=by
 cases ps with
 |nil=>exact absurd rfl Bv
 |cons q qs =>
  rw[zZ]
  exact e9 (dn:=[]) (h q aA) (λx hx=>h x (aC _ hx))
theorem iw_{l:List Nat}{ps:List (List Nat)}(h:gB l false 0 [] []=some ps):l=(eJ ps).drop 2/\ps≠[]:=by
 have e:=mJ h
 rw[aS,jl_]at e
 refine⟨by rw[e];rfl,λz=>by rw[z]at e;cases e⟩
theorem oE{k:Kd}{vs:List Vd}:lC k vs=eJ (vs.map k.vw):=by simp only[lC,eJ,cM];rfl
def fld(f:Str×Kd)(v:Vd):List Nat:=aJ f.1++32::f.2.vw v
theorem mI:∀{fs:List (Str×Kd)} {vs:List Vd},vwF fs vs=eJ (List.zipWith fld fs vs)
 | [],_=>by simp[vwF,eJ]
 |_::_,[]=>by simp[vwF,eJ]
 |f::r,v::vs=>by
  rw[cC,zZ,<-mI]
  simp only[vwF,fld,aL,aP]
theorem aSl:lvl 91=1:=by decide +kernel
theorem aSk:lvl 93 = -1:=by decide +kernel
theorem aLa:lvl 123=1:=by decide +kernel
theorem aKz:lvl 125 = -1:=by decide +kernel
mutual
theorem b7:∀{kd:Kd} {v:Vd},kd.Fit->kd.Val v->Sld 0 (kd.vw v)
 | .num w m,.num n,hF,hV=>by simp only[Kd.Val]at hV;simp only[Kd.vw];exact aCy hV.1
 | .row k m,.row vs,hF,hV=>by
  simp only[Kd.Val]at hV
  simp only[Kd.Fit]at hF
  simp only[Kd.vw]
  have e:(vs.map λv=>44::32::k.vw v).flatten=eJ (vs.map k.vw):=oE
  rw[e]
  refine aNr (aDb λp hp=>?_) aSl aSk (by decide) (by decide)
  obtain⟨v,hv,rfl⟩:=bX.mp hp
  exact b7 hF.1 (hV.2 v hv)
 | .rcd fs,.rcd vs,hF,hV=>by
  simp only[Kd.Val]at hV
  simp only[Kd.Fit]at hF
  simp only[Kd.vw]
  rw[mI]
  exact aNr (aDb (yG hF.1 hV)) aLa aKz (by decide) (by decide)
 | .cho ks,.cho j v,hF,hV=>by
  simp only[Kd.Val]at hV
  simp only[Kd.Fit]at hF
  simp only[Kd.vw]
  exact gs_ (aCy (by omega)) (gs_ (a:=[58]) (oB (by decide) (.inl (by decide)) (ex_ (.inl (by decide)))) (aCg hF.1 hV))
 | .num _ _,.row _,_,h | .num _ _,.rcd _,_,h | .num _ _,.cho _ _,_,h=>by simp only[Kd.Val]at h
 | .row _ _,.num _,_,h | .row _ _,.rcd _,_,h | .row _ _,.cho _ _,_,h=>by simp only[Kd.Val]at h
 | .rcd _,.num _,_,h | .rcd _,.row _,_,h | .rcd _,.cho _ _,_,h=>by simp only[Kd.Val]at h
 | .cho _,.num _,_,h | .cho _,.row _,_,h | .cho _,.rcd _,_,h=>by simp only[Kd.Val]at h
theorem yG:∀{fs:List (Str×Kd)} {vs:List Vd},iM fs->dF fs vs->∀p∈List.zipWith fld fs vs,Sld 0 p
 | [],_,_,_,p,hp=>by simp at hp
 |_::_,[],_,h,p,hp=>by simp at hp
 |f::r,v::vs,hF,hV,p,hp=>by
  simp only[dF]at hV
  rw[cC]at hp
  rcases aF.mp hp with rfl | hp
  ·unfold fld
   refine gs_ (yP (Int.le_refl _) λc hc=>?_) (gs_ (a:=[32]) (oB (by decide) (.inl (by decide)) (ex_ (.inl (by decide)))) (b7 hF.1.2 hV.1))
   have:=hF.1.1.2.2 c hc
   exact⟨by omega,ex_ (.inr this)⟩
  ·exact yG hF.2 hV.2 p hp
theorem aCg:∀{ks:List Kd} {j:Nat} {v:Vd},iD ks->gT ks j v->Sld 0 (vwK ks j v)
 | [],_,_,_,h=>by simp[gT]at h
 |k::_,0,v,hF,hV=>by simp only[gT]at hV;simp only[vwK];exact b7 hF.1 hV
 |_::kr,j+1,v,hF,hV=>by simp only[gT]at hV;simp only[vwK];exact aCg hF.2 hV
end
noncomputable def Kd.rdV (kd:Kd) (l:List Nat):Option Vd:=match kd.prs l with
 |some (v,[])=>some v
 |_=>none
theorem tR{kd:Kd}{l:List Nat}{v:Vd}:kd.rdV l=some v↔kd.prs l=some (v,[]):=by
 unfold Kd.rdV
 split
 ·rename_i v' e
  rw[e]
  simp
 ·rename_i h
  constructor
  ·intro z;cases z
  ·intro z;exact absurd z (h v)
theorem yA{kd:Kd}{l:List Nat}{v:Vd}(hF:kd.Fit):kd.rdV l=some v↔kd.Val v/\l=kd.vw v:=by
 rw[tR]
 constructor
 ·intro h
  have:=eu_ hF h
  rw[aV]at this
  exact this
 ·rintro ⟨hv,rfl⟩
  have:=ii_ (r:=[]) hF hv (λc l e=>by cases e)
  rw[aV]at this
  exact this
def Kd.ox(kd:Kd):Option Vd->Dx
 |some v=>kd.vx v
 |none=>.non
theorem aCd{kd:Kd}{v:Vd}(h:kd.Val v):kd.vx v ≠ .non:=by
 cases kd<;>cases v<;>simp only[Kd.Val]at h<;>simp only[Kd.vx]<;>exact λz=>by cases z
def rwF(f:Str×Kd)(r:List Nat):List Nat:=aJ f.1++32::r
noncomputable def dcF (f:Str×Kd) (r:List Nat):Key×Dx:=(Sum.inr f.1,f.2.ox (f.2.rdV r))
theorem aQe{f:Str×Kd}{r r':List Nat}(h:rwF f r=rwF f r'):r=r':=by
 unfold rwF at h
 exact(List.cons.inj (List.append_cancel_left h)).2
theorem aDk:∀{fs:List (Str×Kd)} {rs:List (List Nat)},rs.length=fs.length->iM fs->((∃vs,dF fs vs/\List.zipWith rwF fs rs=List.zipWith fld fs vs/\List.zipWith dcF fs rs=vxF fs vs)/\∀e∈List.zipWith dcF fs rs,e.2 ≠ .non)\/((∀vs,dF fs vs->List.zipWith rwF fs rs≠List.zipWith fld fs vs)/\∃e∈List.zipWith dcF fs rs,e.2=.non)
 | [],[],_,_=>.inl ⟨⟨[],by simp only[dF],rfl,by simp[vxF]⟩,λe he=>by simp at he⟩
 | [],_::_,h,_=>by simp at h
 |_::_,[],h,_=>by simp at h
 |f::fr,r::rr,hl,hF=>by
  cases e:f.2.rdV r with
  |none =>
   refine .inr ⟨λvs hv z=>?_,dcF f r,aA,by unfold dcF;rw[e];rfl⟩
   cases vs with
   |nil=>simp[dF]at hv
   |cons v vs =>
    simp only[dF]at hv
    rw[cC,cC]at z
    have hr:r=f.2.vw v:=aQe (f:=f) (List.cons.inj z).1
    rw[(yA hF.1.2).mpr ⟨hv.1,hr⟩]at e
    cases e
  |some v =>
   obtain⟨hv,hr⟩:=(yA hF.1.2).mp e
   rcases aDk (fs:=fr) (rs:=rr) (by simpa using hl) hF.2 with⟨⟨vs,h1,h2,h3⟩,h4⟩ | ⟨h1,x,hx,hn⟩
   ·refine .inl ⟨⟨v :: vs,by simp only [dF]; exact ⟨hv,h1⟩,?_,?_⟩,fun x hx => ?_⟩
    ·rw[cC,cC,h2,hr];rfl
    ·rw [cC,h3]
     simp only[vxF,dcF,e,Kd.ox]
    ·rw [cC] at hx
     rcases aF.mp hx with rfl | hx
     ·unfold dcF;rw[e];exact aCd hv
     ·exact h4 x hx
   ·refine .inr ⟨fun vs hv z => ?_,x,by rw [cC]; exact aC _ hx,hn⟩
    cases vs with
    |nil=>simp[dF]at hv
    |cons v' vs =>
     simp only[dF]at hv
     rw[cC,cC]at z
     exact h1 vs hv.2 (List.cons.inj z).2
theorem aGi:∀{dn:List (Str×Kd)} {g:Str×Kd} {tr:List (Str×Kd)} {vs:List Vd},dF (dn++g::tr) vs->∃r,(List.zipWith fld (dn++g::tr) vs)[dn.length]? = some (rwF g r)
 | [],g,tr,[],h=>by simp[dF]at h
 | [],g,tr,v::vs,h=>⟨g.2.vw v,rfl⟩
 |f::dn,g,tr,[],h=>by simp[dF]at h
 |f::dn,g,tr,v::vs,h=>by
  simp only[aP,dF]at h
  obtain⟨r,hr⟩:=aGi h.2
  exact⟨r,by simpa using hr⟩
theorem aDs{l:List (Key×Dx)}{k:Key}{d:Dx}:(qF l k d).length<=l.length+1:=by
 unfold qF
 split
 ·rw[aG];omega
 ·rw[aB];exact bA _
theorem nM:∀{fs:List (Str×Kd)} {rs:List (List Nat)},rs.length=fs.length->(List.zipWith dcF fs rs).map (·.1)=fs.map λf=>(Sum.inr f.1:Key)
 | [],[],_=>rfl
 | [],_::_,h=>by simp at h
 |_::_,[],h=>by simp at h
 |f::fr,r::rr,h=>by rw[cC,bB,bB,nM (by simpa using h)];rfl
theorem aJj{g:Str}{p:List Nat}:decide (Txt.slice (⟨p.toArray⟩:Str) none (some ((g.length:Int)+1))=g ++ " ")=true↔∃r,p=aJ g++32::r:=by
 have e:=aNp (x:=(⟨p.toArray⟩:Str)) (j:=g.length+1)
 rw[show(((g.length+1:Nat)):Int)=(g.length:Int)+1 by omega]at e
 have e2:aJ (⟨p.toArray⟩:Str)=p:=rfl
 rw[e2]at e
 have e3:aJ (g ++ " ")=aJ g++[32]:=by rw[qO];rfl
 rw[decide_eq_true_eq]
 constructor
 ·intro h
  rw[h,e3]at e
  refine⟨p.drop (g.length+1),?_⟩
  have:=List.take_append_drop (g.length+1) p
  rw[<-e]at this
  rw[<-this]
  simp[gE]
 ·rintro ⟨r,rfl⟩
  refine cd_ ?_
  rw[e,e3,show g.length+1=(aJ g++[32]).length by rw[aB,<-gE];rfl,show aJ g++32::r=(aJ g++[32])++r by simp,List.take_left]
def zS(n:Nat):GC:=λds Q=>∃(kd:Kd) (t:Str),ds=[kd.x,.str t]/\kd.Fit/\kd.deep<=n/\t.length<=100000/\Q (.tr (kd.ox (kd.rdV (aJ t))))
def aYw(n:Nat):GC:=λds Q=>∃(fs:List (Str×Kd)) (ps:List (List Nat)),ds=[.lst (xF fs),.lst (ps.map txS),.bl false]/\(Kd.rcd fs).Fit/\eB fs<=n/\(∀p∈ps,p.length<=100000)/\(∀vs,dF fs vs->ps=List.zipWith fld fs vs->Q (.tr (.dic (vxF fs vs))))/\((∀vs,dF fs vs->ps≠List.zipWith fld fs vs)->Q (.tr .non))
theorem a8:∀{fs:List (Str×Kd)} {vs:List Vd},dF fs vs->(List.zipWith fld fs vs).length=fs.length:=λh=>by rw[gP,ec_ h,Nat.min_self]
theorem aLr{i j:Nat}{a b:Dx}{ρ:En}{Q:En->Prop}(h:Q ((ρ.set i (vT a)).set j (vT b))):gxT [i,j] (.tup [a,b]) ρ Q:=h
section
variable{f:Addr}{n j:Nat}
theorem aKo(F:Fun K "_law_read_fields" "_law_read_fields" bz_ f fd)(G4:Cal P w K mg base j "_law_read_value" AB (spX (zS n)))(Ad:mg "len" = none):FnOk P w K mg base CX0 (j+1) f fd AQ (spX (aYw n)):=by
 refine jA F dB (λds Q h=>by obtain⟨_,_,rfl,_⟩:=h;rfl) (by decide) λAk A outer s H E hr=>?_
 have Am:=jM hr
 have Aj:=aR Am
 refine⟨_,(cV (fL (XW.pt (uV (eE hy_ hx_ (jJ (kI K) kY (by rfl) Ad PySem.boot_len (bR (bL (pv 1)) cB)) (jJ (kI K) kY (by rfl) Ad PySem.boot_len (bR (bL (pv 0)) cB)) (bD _)) (xZ (XW.pt (gh_ (eE vI vJ (jJ (kI K) kY (by rfl) Ad PySem.boot_len (bR (bL (pv 1)) cB)) (jJ (kI K) kY (by rfl) Ad PySem.boot_len (bR (bL (pv 0)) cB)) (bD _)) (el_ (fm_ (qI (bL (pv 2)))))))))) (dH (dX pT)) fW)
  (cV (fM (i:=3) dB.nd rfl (Or.inr rfl) mH)
  (cV (fM (i:=4) dB.nd rfl (Or.inl rfl) cK)
  (cV (gi_ PassesOwn.never rfl (dz_ (bL (pv 0))) (hu_ rfl (qN (iU (i:=5) dB.nd rfl (Or.inl rfl)) (qN (iU (i:=6) dB.nd rfl (Or.inl rfl)) em_))) (gm_ (n:=99) (is:=[5,6]) rfl (by decide)) (dH (fL (XW.pt (gh_ (eE vI vJ (bL (pv 4)) (jJ (kI K) kY (by rfl) Ad PySem.boot_len (bR (bL (pv 1)) cB)) (bD _)) (el_ (eE (gV K Aj) hX (kX K (jI K (bL (pv 1)) (bL (pv 4)) (λ_ _=>rfl)) lZ (jO (gA (jJ (kI K) kY (by rfl) Ad PySem.boot_len (bR (bL (pv 5)) cB)) cK))) (gA (bL (pv 5)) fU) (bD _))))) (cV (z6 λF=>PS.weak (mK Am (pv 3) (XE.at (Ex:=dR) F (bL (pv 5))) (XE.at (Ex:=dR) F (iE G4 (hr.mono (by omega)) (bR (bL (pv 6)) (bR (kX K (jI K (bL (pv 1)) (bL (pv 4)) (λ_ _=>rfl)) (jO (gA (jJ (kI K) kY (by rfl) Ad PySem.boot_len (bR (bL (pv 5)) cB)) cK)) lZ) cB)))) rfl) tF)
  (dH (fM (i:=4) dB.nd rfl (Or.inl rfl) (gA (bL (pv 4)) cK)))) fW)))
  (cV (fL (XW.pt (uV (eE vI vJ (bL (pv 4)) (jJ (kI K) kY (by rfl) Ad PySem.boot_len (bR (bL (pv 1)) cB)) (bD _)) (xZ (eE (gk_ K Aj) kK (vO (dsc:=aM bz_) (N:=["fields","parts","some","found","at","name","kind"]) (tgs:=["name"]) (outs:=[3]) (N':=["name","found"]) (by refine⟨rfl,?_,?_,?_,rfl,?_,?_,?_⟩<;>decide +kernel) (pv 3) (λ_ _ _ _ _=>(iU (i:=0) (show(["name","found"]:List Str).Nodup by decide +kernel) rfl (Or.inl rfl) (.inr rfl))) (sA (n:=1) (i:=0) (by decide)) (cv_ (by decide)) (λ_ _ _ _ _=>(sS (eE lO oX (ip_ Am (bL (pv 1)) (bL (pv 0)) (λ_ _=>rfl)) pT (bD _)))) (λ_ _ _ _ _=>(bL (pv 0)))) (pR cB) (bD _))))) (dH (dX pT)) fW)
  (dH (dX (n9 (pv 3))))))))),λds Q h=>?_⟩
 clear Aj Am
 obtain⟨fs,ps,rfl,hF,Ca,A0,qy,qn⟩:=h
 simp only[Kd.Fit]at hF
 have e2:(xF fs).length=fs.length:=nP
 have e3:(ps.map txS).length=ps.length:=aG _
 by_cases hl:ps.length=fs.length
 case neg =>
  refine kZ true (ρ':=[vT (.lst (xF fs)),vT (.lst (ps.map txS)),vT (.bl false),.un,.un,.un,.un]) (λQ q=>?_) (λ_=>qn λvs hv z=>hl (by rw[z];exact a8 hv)) (λhb=>by cases hb)
  show if decide (((xF fs).length:Int)<((ps.map txS).length:Int))=true then _ else _
  by_cases h1:fs.length<ps.length
  ·rw[dzT (by omega)];exact q
  ·rw [dzF (by omega)]
   show if decide (((ps.map txS).length:Int)<((xF fs).length:Int))=true then _ else _
   rw[dzT (by omega)]
   exact q
 refine lJ (ρ':=[vT (.lst (xF fs)),vT (.lst (ps.map txS)),vT (.bl false),.un,.un,.un,.un]) (λQ q=>?_) ?_
 ·show if decide (((xF fs).length:Int) < ((ps.map txS).length:Int))=true then _ else _
  rw[dzF (by omega)]
  show if decide (((ps.map txS).length:Int)<((xF fs).length:Int))=true then _ else _
  rw[dzF (by omega)]
  exact q
 refine lP ?_
 refine lP ?_
 show cI (aIk _ _ _) _ [vT (.lst (xF fs)),vT (.lst (ps.map txS)),vT (.bl false),.v (.od []),vT (.int 0),.un,.un] _
 refine eb_ (λρ=>∃(l:List (Key×Dx)) (at':Nat) (y5 y6:Sl),((∃rs:List (List Nat),rs.length=fs.length/\at'=fs.length/\ps=List.zipWith rwF fs rs/\l=List.zipWith dcF fs rs)\/at'<fs.length/\l.length<=8/\∀vs,dF fs vs->ps≠List.zipWith fld fs vs)/\ρ=[vT (.lst (xF fs)),vT (.lst (ps.map txS)),vT (.bl false),.v (.od l),vT (.int (at':Int)),y5,y6]) ?_ (λnx C3=>?_)
 ·rintro ρ ⟨l,at',y5,y6,hc,rfl⟩
  rcases hc with⟨rs,Ke,rfl,Cg,rfl⟩ | ⟨De,Fv,Aw⟩
  ·have Gb:=nM Ke
   have Bw:((List.zipWith dcF fs rs).map (·.1)).Nodup:=by
    rw[Gb]
    have:(fs.map λf=>(Sum.inr f.1:Key))=(fs.map (·.1)).map (λx:Str=>(Sum.inr x:Key)):=by rw[cM];rfl
    rw[this]
    exact List.Pairwise.map _ (λa b h e=>h (Sum.inr.inj e)) hF.2.2.2
   have hlz:(List.zipWith dcF fs rs).length=fs.length:=by rw[gP,Ke,Nat.min_self]
   have Bj:∀(b:Bool),(b=true↔∃e∈List.zipWith dcF fs rs,e.2=.non)->∀Q:Bool->En->Prop,Q b [vT (.lst (xF fs)),vT (.lst (ps.map txS)),vT (.bl false),vT (.dic (List.zipWith dcF fs rs)),vT (.int (fs.length:Int)),y5,y6]->(xOr (xB (xOp ltX (bM 4) (cX uL (aW (bM 1) cJ)))) (xB (xOp neX (sV 3 1 [3] (gxN 0) (xB (xOp (lF false) (xOp dgX (bM 1) (bM 0)) (xC .non))) (bM 0)) (iV cJ)))) [vT (.lst (xF fs)),vT (.lst (ps.map txS)),vT (.bl false),.v (.od (List.zipWith dcF fs rs)),vT (.int (fs.length:Int)),y5,y6] Q:=by
    intro b hb Q q
    show if decide ((fs.length:Int)<((ps.map txS).length:Int))=true then _ else _
    rw[dzF (by omega)]
    refine⟨by show(List.zipWith dcF fs rs).length<=1000000;omega,?_⟩
    show dP _ _ _ _ _ (iQ (List.zipWith dcF fs rs)) _ _
    have Hy:∀e∈List.zipWith dcF fs rs,∃x,e.1=Sum.inr x:=λe he=>by
     have h1:e.1∈(List.zipWith dcF fs rs).map (·.1):=bX.mpr ⟨e,he,rfl⟩
     rw[Gb]at h1
     obtain⟨g,_,e⟩:=bX.mp h1
     exact⟨_,e.symm⟩
    generalize hLL:List.zipWith dcF fs rs=L at *
    show dP _ _ _ _ _ (L.map λp=>pE p.1) _ _
    refine db_ (λp:Key×Dx=>pE p.1) (λrest Ag cs=>∃dn,L=dn++rest/\Ag.length<=dn.length/\(Ag≠[]↔∃e∈dn,e.2=.non)/\cs=[vT (.dic L)]) (λAg cs h=>?_) (λp rest Ag cs Pn h hk=>?_) ⟨[],rfl,bA _,by simp,rfl⟩
    ·obtain ⟨dn,Da,_,Fl,rfl⟩:=h
     rw[aV]at Da
     subst Da
     have Fi:b = !Ag.isEmpty:=by
      rw[fC,hb,<-Fl]
      cases Ag<;>simp
     rw[Fi]at q
     refine⟨cF _,?_⟩
     exact q
    ·obtain ⟨dn,Da,Hf,Fl,rfl⟩:=h
     have hm:p∈L:=by rw[Da];exact aE _ aA
     have hg:=jk_ Bw hm
     have Nr:dn.length<=8:=by have:=congrArg List.length Da;rw[aB]at this;omega
     obtain⟨pk,pd⟩:=p
     obtain⟨x,rfl⟩:∃x,pk=Sum.inr x:=Hy _ hm
     show match jL L (Sum.inr x)with | some d=>_ | none=>False
     rw[hg]
     by_cases Lb:pd=.non
     ·subst Lb
      exact hk _ _ ⟨dn++[(Sum.inr x,.non)],by rw[Da,aL];rfl,by rw[aB,aB];simp;omega,by simp,rfl⟩
     ·have B6:Ag≠[]↔∃ e∈dn ++ [((Sum.inr x:Key),pd)],e.2=.non := ?_
      have K8:=hk Ag [vT (.dic L)] ⟨dn++[(Sum.inr x,pd)],by rw[Da,aL];rfl,by rw[aB];omega,B6,rfl⟩
      cases pd with
      |non=>exact absurd rfl Lb
      |_=>exact K8
      rw[Fl]
      constructor
      ·rintro ⟨e,he,hn⟩
       exact⟨e,aK _ he,hn⟩
      ·rintro ⟨e,he,hn⟩
       rcases bF.mp he with he | he
       ·exact⟨e,he,hn⟩
       ·rw[aI.mp he]at hn;exact absurd hn Lb
   rcases aDk Ke hF.1 with⟨⟨vs,h1,h2,h3⟩,h4⟩ | ⟨h1,e,he,hn⟩
   ·refine lJ (ρ':=[vT (.lst (xF fs)),vT (.lst (ps.map txS)),vT (.bl false),vT (.dic (List.zipWith dcF fs rs)),vT (.int (fs.length:Int)),y5,y6]) (Bj false ⟨fun z=>(by cases z),fun ⟨e,he,hn⟩=>absurd hn (h4 e he)⟩) ?_
    have q':=qy vs h1 (Cg.trans h2)
    rw[<-h3]at q'
    exact q'
   ·exact kZ true (ρ':=[vT (.lst (xF fs)),vT (.lst (ps.map txS)),vT (.bl false),vT (.dic (List.zipWith dcF fs rs)),vT (.int (fs.length:Int)),y5,y6]) (Bj true ⟨λ_=>⟨e,he,hn⟩,λ_=>rfl⟩) (λ_=>qn λvs hv z=>h1 vs hv (Cg.symm.trans z)) (λhb=>by cases hb)
  ·refine kZ true (ρ':=[vT (.lst (xF fs)),vT (.lst (ps.map txS)),vT (.bl false),.v (.od l),vT (.int (at':Int)),y5,y6]) (fun Q q => ?_) (fun _=>qn Aw) (fun hb=>by cases hb)
   show if decide ((at':Int)<((ps.map txS).length:Int))=true then _ else _
   rw[dzT (by omega)]
   exact q
 ·show iR _ _ _ (xF fs) _
  rw[gr_]
  refine da_ (λf:Str×Kd=>Dx.tup [.str f.1,f.2.x]) (λtd ρ=>∃(dn:List (Str×Kd)) (l:List (Key×Dx)) (at':Nat) (y5 y6:Sl),fs=dn++td/\((∃(rs:List (List Nat)) (pr:List (List Nat)),rs.length=dn.length/\at'=dn.length/\ps=List.zipWith rwF dn rs++pr/\l=List.zipWith dcF dn rs)\/at'<dn.length/\l.length<=dn.length/\∀vs,dF fs vs->ps≠List.zipWith fld fs vs)/\ρ=[vT (.lst (fs.map λf:Str×Kd=>Dx.tup [.str f.1,f.2.x])),vT (.lst (ps.map txS)),vT (.bl false),.v (.od l),vT (.int (at':Int)),y5,y6]) (λρ h=>?_) (λg tr ρ Kn h hk=>?_) ⟨[],[],0,.un,.un,rfl,.inl ⟨[],ps,rfl,rfl,rfl,rfl⟩,rfl⟩
  ·obtain ⟨dn,l,at',y5,y6,e1,hc,rfl⟩:=h
   rw[aV]at e1
   subst e1
   refine C3 _ ⟨l,at',y5,y6,?_,by rw[gr_]⟩
   rcases hc with⟨rs,pr,h1,h2,h3,h4⟩ | ⟨h1,h2,h3⟩
   ·have D4:pr=[]:=by
     have:=congrArg List.length h3
     rw[aB,gP,h1,Nat.min_self]at this
     exact List.length_eq_zero_iff.mp (by omega)
    subst D4
    rw[aV]at h3
    exact .inl ⟨rs,h1,h2,h3,h4⟩
   ·exact .inr ⟨h1,by omega,h3⟩
  ·obtain ⟨dn,l,at',y5,y6,e1,hc,rfl⟩:=h
   have hg:g∈fs:=by rw[e1];exact aE _ aA
   obtain⟨gn,gf,gd⟩:=gz_ hF.1 hg
   have Lw:=gn.2.1
   rw[<-gE]at Lw
   have Jn:=congrArg List.length e1
   rw[aB,aD]at Jn
   have De:at'<=dn.length:=by rcases hc with⟨_,_,_,h,_⟩ | ⟨h,_⟩<;>omega
   have Fv:l.length<=dn.length:=by
    rcases hc with⟨rs,_,h1,_,_,h4⟩ | ⟨_,h,_⟩
    ·rw[h4,gP,h1,Nat.min_self];exact bA _
    ·exact h
   obtain⟨p,hp⟩:∃p,ps[at']? = some p:=⟨_,aO (by omega)⟩
   have Kf:=A0 p (bN hp)
   have Ng:atI (ps.map txS) (at':Int)=some (txS p):=pU (by rw[bV,hp];rfl)
   have La:(⟨p.toArray⟩:Str).length=p.length:=by rw[gE];rfl
   have hC:∀b,(b=true↔∃r,p=aJ g.1++32::r)->∀Q:Bool->En->Prop,Q b [vT (.lst (fs.map λf:Str×Kd=>Dx.tup [.str f.1,f.2.x])),vT (.lst (ps.map txS)),vT (.bl false),.v (.od l),vT (.int (at':Int)),vT (.str g.1),vT g.2.x]->(yF (xB (xOp ltX (bM 4) (cX uL (aW (bM 1) cJ)))) (xB (xOp eqX (xSl (xOp ixX (bM 1) (bM 4)) xoN (xoS (xOp eY (cX uL (aW (bM 5) cJ)) (xC (Dx.int 1))))) (xOp eY (bM 5) (xC (Dx.str " ")))))) [vT (.lst (fs.map λf:Str×Kd=>Dx.tup [.str f.1,f.2.x])),vT (.lst (ps.map txS)),vT (.bl false),.v (.od l),vT (.int (at':Int)),vT (.str g.1),vT g.2.x] Q:=by
    intro b hb Q q
    show if decide ((at':Int)<((ps.map txS).length:Int))=true then _ else _
    rw[dzT (by omega)]
    show match atI (ps.map txS) (at':Int)with | some d=>_ | none=>False
    rw[Ng]
    refine⟨by show g.1.length<=1000000;omega,by show(⟨p.toArray⟩:Str).length<=1000000;omega,by show g.1.length+1<=1000000;omega,?_⟩
    show Q (decide (Txt.slice (⟨p.toArray⟩:Str) none (some ((g.1.length:Int)+1))=g.1 ++ " ")) _
    have:decide (Txt.slice (⟨p.toArray⟩:Str) none (some ((g.1.length:Int)+1))=g.1 ++ " ")=b:=by rw[fC,aJj,hb]
    rw[this]
    exact q
   refine aLr ?_
   show xIf _ _ _ [vT (.lst (fs.map λf:Str×Kd=>Dx.tup [.str f.1,f.2.x])),vT (.lst (ps.map txS)),vT (.bl false),.v (.od l),vT (.int (at':Int)),vT (.str g.1),vT g.2.x] _
   by_cases F3:∃r,p=aJ g.1++32::r
   ·refine nA (hC true ⟨fun _=>F3,fun _=>rfl⟩) ?_
    obtain⟨r,Dl⟩:=F3
    have Ea:aJ (Txt.slice (⟨p.toArray⟩:Str) (some ((g.1.length:Int)+1)) none)=r:=by
     have:=aIz (x:=(⟨p.toArray⟩:Str)) (i:=g.1.length+1) (by rw[La,Dl,aB,<-gE,aD];omega)
     rw[show(((g.1.length+1:Nat)):Int)=(g.1.length:Int)+1 by omega]at this
     rw[this]
     show p.drop (g.1.length+1)=r
     rw[Dl,show aJ g.1++32::r=(aJ g.1++[32])++r by simp,show g.1.length+1=(aJ g.1++[32]).length by rw[aB,<-gE];rfl,iJ]
    have hsb:=Txt.slice_le (⟨p.toArray⟩:Str) (some ((g.1.length:Int)+1)) none
    show match atI (ps.map txS) (at':Int)with | some d=>_ | none=>False
    rw[Ng]
    refine⟨by show g.1.length<=1000000;omega,by show(⟨p.toArray⟩:Str).length<=1000000;omega,g.2,Txt.slice (⟨p.toArray⟩:Str) (some ((g.1.length:Int)+1)) none,rfl,gf,by omega,by omega,?_⟩
    rw[Ea]
    refine⟨⟨l,rfl⟩,(by show l.length<1000000;omega),?_⟩
    have hpx:=aDs (l:=l) (k:=Sum.inr g.1) (d:=g.2.ox (g.2.rdV r))
    refine hk _ ⟨dn++[g],qF l (Sum.inr g.1) (g.2.ox (g.2.rdV r)),at'+1,_,_,by rw[e1,aL];rfl,?_,rfl⟩
    rcases hc with⟨rs,pr,h1,h2,h3,h4⟩ | ⟨h1,h2,h3⟩
    ·have hz:(List.zipWith rwF dn rs).length=dn.length:=by rw [gP,h1,Nat.min_self]
     cases pr with
     |nil =>
      have:=congrArg List.length h3
      rw[aB,hz,bC]at this
      omega
     |cons p' pr =>
      have F7:p'=p:=by
       rw[h3,h2,eR (by omega),hz,Nat.sub_self]at hp
       exact ozI hp
      subst F7
      have B6:(Sum.inr g.1:Key)∉l.map (·.1):=by
       rw[h4,nM h1]
       intro z
       obtain⟨g',Cv,e⟩:=bX.mp z
       have Bw:=hF.2.2.2
       rw[e1,bT,cA]at Bw
       exact Bw.2.2 g'.1 (cP Cv) g.1 (by rw[bB];exact aA) (Sum.inr.inj e)
      refine .inl ⟨rs++[r],pr,by rw[aB,aB,h1];rfl,by rw[aB,h2];rfl,?_,?_⟩
      ·rw [h3,List.zipWith_append h1.symm,aL,Dl]
       rfl
      ·rw [oO B6,h4,List.zipWith_append h1.symm]
       rfl
    ·exact .inr ⟨by rw[aB];simp;omega,by rw[aB];simp;omega,h3⟩
   ·refine nB (hC false ⟨fun z=>(by cases z),fun z=>absurd z F3⟩) ?_
    refine hk _ ⟨dn++[g],l,at',_,_,by rw[e1,aL];rfl,.inr ⟨by rw[aB];simp;omega,by rw[aB];omega,?_⟩,rfl⟩
    rcases hc with⟨rs,pr,h1,h2,h3,h4⟩ | ⟨h1,h2,h3⟩
    ·intro vs hv z
     rw[e1]at hv
     obtain⟨r,Dl⟩:=aGi hv
     rw[<-e1,<-z,<-h2,hp]at Dl
     exact F3 ⟨r,ozI Dl⟩
    ·exact h3
end
theorem yZ(t:Str):(58∉aJ t/\Txt.partition t ":" = (t,("" : Str),("" : Str)))\/∃a b,aJ t=a++58::b/\58∉a/\Txt.partition t ":" = ((⟨a.toArray⟩:Str),(":" : Str),(⟨b.toArray⟩:Str)):=by
 have e58:(":" : Str)=⟨#[58]⟩:=by decide
 rw[e58]
 rcases PyProof.Rows.partition_whole t ⟨#[58]⟩with⟨hp,hn⟩ | ⟨i,hp,hi,hk⟩
 ·refine .inl ⟨fun z => ?_,hp⟩
  obtain⟨i,hi⟩:=(PyProof.Rows.mem_iff_at t 58).mp z
  exact hn i hi
 ·refine .inr ⟨aJ (Builtin.Str.strSub t 0 i),aJ (Builtin.Str.strSub t (i + 1) t.length),?_,?_,?_⟩
  ·have e:=PySem.StrLaws.partition_sum t ⟨#[58]⟩
   rw[hp]at e
   have e2:=congrArg aJ e
   rw[qO,qO,aL]at e2
   exact e2.symm
  ·exact PySem.StrLaws.part_free t 58 0 i (by have:=hi.1;omega) (λk _ hki=>hk k hki)
  ·rw [hp]
   rfl
theorem d7:∀{a a' b b':List Nat},58∉a->58∉a'->a++58::b=a'++58::b'->a=a'/\b=b'
 | [],[],b,b',_,_,h=>⟨rfl,(List.cons.inj h).2⟩
 | [],x::a',b,b',_,h2,h=>absurd ((List.cons.inj h).1 ▸ aA) h2
 |x::a,[],b,b',h1,_,h=>absurd ((List.cons.inj h).1 ▸ aA) h1
 |x::a,y::a',b,b',h1,h2,h=>by
  obtain⟨e,h'⟩:=List.cons.inj h
  obtain⟨e1,e2⟩:=d7 (λz=>h1 (aC _ z)) (λz=>h2 (aC _ z)) h'
  exact⟨by rw[e,e1],e2⟩
theorem bCf{n:Int}(h:0<=n):58∉aJ (cR n):=λz=>by
 have:=m4 ((is_ h).1 58 z)
 omega
theorem zY{ks:List Kd}{a b:List Nat}{v:Vd}(hF:(Kd.cho ks).Fit)(h:58∉a):(Kd.cho ks).rdV (a++58::b)=some v↔∃(i:Nat) (k:Kd) (u:Vd),v=.cho i u/\a=aJ (cR (i:Int))/\ks[i]? = some k/\k.rdV b=some u:=by
 have Cl:=hF
 simp only[Kd.Fit]at Cl
 rw[yA hF]
 constructor
 ·rintro ⟨hv,e⟩
  cases v with
  |cho i u =>
   simp only[Kd.Val]at hv
   simp only[Kd.vw]at e
   obtain⟨k,hk,hu⟩:=fx_ hv
   obtain⟨e1,e2⟩:=d7 h (bCf (by omega)) e
   rw[sX hk]at e2
   exact⟨i,k,u,rfl,e1,hk,(yA (fj_ Cl.1 (bN hk)).1).mpr ⟨hu,e2⟩⟩
  |_=>simp only[Kd.Val]at hv
 ·rintro ⟨i,k,u,rfl,e1,hk,hu⟩
  obtain⟨h1,h2⟩:=(yA (fj_ Cl.1 (bN hk)).1).mp hu
  simp only[Kd.Val,Kd.vw]
  exact⟨sY hk h1,by rw[e1,sX hk,h2]⟩
theorem nE:∀{ps:List (List Nat)} {p:List Nat},p∈ps->p.length+2<=(eJ ps).length
 |q::r,p,h=>by
  rw[zZ,aD,aD,aB]
  rcases aF.mp h with rfl | h
  ·omega
  ·have:=nE h;omega
theorem nF:∀{ps:List (List Nat)},ps.length<=(eJ ps).length
 | []=>cF _
 |q::r=>by
  rw[zZ,aD,aD,aD,aB]
  have:=nF (ps:=r)
  omega
theorem tM{k:Kd}{m:Int}{l:List Nat}{v:Vd}(hF:(Kd.row k m).Fit)(h:(Kd.row k m).rdV l=some v):∃vs,v=.row vs/\(vs.length:Int)=m/\l=91::((eJ (vs.map k.vw)).drop 2++[93])/\(∀u∈vs,k.rdV (k.vw u)=some u)/\gB ((eJ (vs.map k.vw)).drop 2) false 0 [] []=some (vs.map k.vw):=by
 obtain⟨hv,e⟩:=(yA hF).mp h
 simp only[Kd.Fit]at hF
 cases v with
 |row vs =>
  simp only[Kd.Val]at hv
  simp only[Kd.vw]at e
  refine⟨vs,rfl,hv.1,?_,λu hu=>(yA hF.1).mpr ⟨hv.2 u hu,rfl⟩,aDv (λz=>?_) λp hp=>?_⟩
  ·rw[e,<-oE];rfl
  ·have:=gO.mp z
   have h1:=hv.1
   rw[this]at h1
   simp at h1
   omega
  ·obtain ⟨u,hu,rfl⟩:=bX.mp hp
   exact b7 hF.1 (hv.2 u hu)
 |_=>simp only[Kd.Val]at hv
theorem aQh{k:Kd}{m:Int}{l:List Nat}{ps:List (List Nat)}(hF:(Kd.row k m).Fit)(hp:gB l false 0 [] []=some ps)(hl:(ps.length:Int)=m)(h:∀p∈ps,k.rdV p≠none):∃vs,(Kd.row k m).rdV (91::(l++[93]))=some (.row vs)/\ps.map (λp=>k.ox (k.rdV p))=vs.map k.vx:=by
 have Cl:=hF
 simp only[Kd.Fit]at Cl
 obtain⟨hs,_⟩:=iw_ hp
 have key:∀(ps:List (List Nat)),(∀p∈ps,k.rdV p≠none)->∃vs:List Vd,(∀v∈vs,k.Val v)/\ps=vs.map k.vw/\ps.map (λp=>k.ox (k.rdV p))=vs.map k.vx:=by
  intro ps
  induction ps with
  |nil=>intro _;exact⟨[],(λv hv=>by cases hv),rfl,rfl⟩
  |cons p r ih =>
   intro h
   obtain⟨vs,h1,h2,h3⟩:=ih λq hq=>h q (aC _ hq)
   cases e:k.rdV p with
   |none=>exact absurd e (h p aA)
   |some v =>
    obtain⟨hv,hw⟩:=(yA Cl.1).mp e
    refine⟨v::vs,λu hu=>?_,by rw[bB,<-h2,hw],by rw[bB,bB,h3,e];rfl⟩
    rcases aF.mp hu with rfl | hu
    ·exact hv
    ·exact h1 u hu
 obtain⟨vs,h1,h2,h3⟩:=key ps h
 refine⟨vs,(yA hF).mpr ?_,h3⟩
 simp only[Kd.Val,Kd.vw]
 refine⟨⟨by rw[<-hl,h2,aG],h1⟩,?_⟩
 rw[hs,h2,<-oE]
 rfl
theorem tS{fs:List (Str×Kd)}{l:List Nat}{v:Vd}(hF:(Kd.rcd fs).Fit)(h:(Kd.rcd fs).rdV l=some v):∃vs,v=.rcd vs/\dF fs vs/\l=123::((eJ (List.zipWith fld fs vs)).drop 2++[125])/\gB ((eJ (List.zipWith fld fs vs)).drop 2) false 0 [] []=some (List.zipWith fld fs vs):=by
 obtain⟨hv,e⟩:=(yA hF).mp h
 simp only[Kd.Fit]at hF
 cases v with
 |rcd vs =>
  simp only[Kd.Val]at hv
  simp only[Kd.vw]at e
  refine⟨vs,rfl,hv,by rw[e,<-mI],aDv (λz=>?_) (yG hF.1 hv)⟩
  have:=congrArg List.length z
  rw[a8 hv,bC]at this
  omega
 |_=>simp only[Kd.Val]at hv
theorem aQk{fs:List (Str×Kd)}{l:List Nat}{vs:List Vd}(hF:(Kd.rcd fs).Fit)(hv:dF fs vs)(hp:gB l false 0 [] []=some (List.zipWith fld fs vs)):(Kd.rcd fs).rdV (123::(l++[125]))=some (.rcd vs):=by
 obtain⟨hs,_⟩:=iw_ hp
 refine(yA hF).mpr ?_
 simp only[Kd.Val,Kd.vw]
 exact⟨hv,by rw[hs,mI]⟩
theorem yQ{k:Kd}{p:List Nat}(hF:k.Fit):(shN (k.ox (k.rdV p))).isSome=true/\((shN (k.ox (k.rdV p)) == some true)=true↔k.rdV p=none):=by
 cases e:k.rdV p with
 |none=>exact⟨rfl,by simp[Kd.ox,shN]⟩
 |some v =>
  have hv:=((yA hF).mp e).1
  cases k<;>cases v<;>simp only[Kd.Val]at hv<;>simp[Kd.ox,Kd.vx,shN]
theorem zE{w m:Int}{l:List Nat}{v:Vd}(hF:(Kd.num w m).Fit):(Kd.num w m).rdV l=some v↔∃n,v=.num n/\0<=n/\n<256^w.toNat/\l=aJ (cR n):=by
 rw[yA hF]
 constructor
 ·rintro ⟨hv,e⟩
  cases v with
  |num n=>simp only[Kd.Val]at hv;simp only[Kd.vw]at e;exact⟨n,rfl,hv.1,hv.2,e⟩
  |_=>simp only[Kd.Val]at hv
 ·rintro ⟨n,rfl,h0,h1,e⟩
  simp only[Kd.Val,Kd.vw]
  exact⟨⟨h0,h1⟩,e⟩
theorem aOx{l:List Nat}(h:2<=l.length):∃x y inner,l=x::(inner++[y]):=by
 cases l with
 |nil=>simp at h
 |cons x r =>
  rcases List.eq_nil_or_concat r with rfl | ⟨r',y,hr⟩
  ·simp at h
  ·exact⟨x,y,r',by rw[hr,List.concat_eq_append]⟩
theorem aCj{a b:Dx}{c:Bool}{Q:Sv->Prop}(q:Q (.tr (if c=true then b else a))):ixX (.lst [a,b]) (.int (if c=true then 1 else 0)) Q:=by cases c<;>exact q
theorem aPp{n:Int}{w:Int}(h0:0<=n)(hw:1<=w/\w<=8)(h:n<256^w.toNat):(cR n).length<=20:=by
 have g1:=yV (show w.toNat<=8 by omega)
 have g2:(256:Int)^8=18446744073709551616:=by decide
 have g3:(10:Int)^20=100000000000000000000:=by decide
 exact he_ (k:=20) h0 (by omega) (by decide)
theorem aFq{d:Dx}{Q:Sv->Prop}(h:d ≠ .non)(q:Q (.tr (.bl false))):lF false d .non Q:=by cases d<;>first | exact absurd rfl h | exact q
section
variable{f:Addr}{n j:Nat}
theorem aKm(F:Fun K "_law_read_value" "_law_read_value" ci_ f fd)(Ob:Cal P w K mg base 1 "_law_number" ["word"] (spX aYv))(My:Cal P w K mg base 1 "_law_power" ["width"] (spX gPW))(J3:Cal P w K mg base 1 "_law_parts" AW (spX aGd))(G4:Cal P w K mg base j "_law_read_value" AB (spX (zS n)))(CLF:Cal P w K mg base j "_law_read_fields" AQ (spX (aYw n)))(Ad:mg "len" = none)(m_int:mg "int" = none)(hj:1<=j):FnOk P w K mg base CX0 (j+1) f fd AB (spX (zS (n+1))):=by
 refine jA F cL (λds Q h=>by obtain⟨_,_,rfl,_⟩:=h;rfl) (by decide) λAk A outer s H E hr=>?_
 have Am:=jM hr
 have Aj:=aR Am
 refine⟨_,(cV (fL (eE (gV K Aj) hX (gC K (pv 0)) fU (bD _)) (cV (fM (i:=2) cL.nd rfl (Or.inl rfl) (iE Ob (hr.mono (by omega)) (bR (bL (pv 1)) cB)))
  (dH (dX (jI K (pR (bR pT (bR (bL (pv 2)) cB))) (yB dc_ ha_ (by rfl) m_int ez_ (bR (aBp aOh aOf vI vJ cK (bL (pv 2)) (iE My (hr.mono (by omega)) (bR (gC K (pv 0)) cB))) cB)) (λ_ _=>rfl))))) fW)
  (cV (fL (eE (gV K Aj) hX (gC K (pv 0)) fU (bD _)) (cV (mG (gm_ (n:=99) (is:=[3,4,5]) rfl (by decide)) λF=>iy_ (XE.at (Ex:=dR) F (aId (bL (pv 1)) (by rfl))) (hu_ rfl (qN (iU (i:=3) cL.nd rfl (Or.inl rfl)) (qN (iU (i:=4) cL.nd rfl (Or.inl rfl)) (qN (iU (i:=5) cL.nd rfl (Or.inl rfl)) em_)))))
  (cV (fM (i:=6) cL.nd rfl (Or.inl rfl) (iE Ob (hr.mono (by omega)) (bR (bL (pv 3)) cB)))
  (cV (fL (XW.pt (uV (eE (gV K Aj) hX (bL (pv 4)) fU (bD _)) (uV (eE vI vJ (bL (pv 6)) cK (bD _)) (xZ (eE h_ g_ (bL (pv 6)) (jJ (kI K) kY (by rfl) Ad PySem.boot_len (bR (gC K (pv 0)) cB)) (bD _)))))) (dH (dX pT)) fW)
  (cV (fM (i:=7) cL.nd rfl (Or.inl rfl) (iE G4 (hr.mono (by omega)) (bR (jI K (gC K (pv 0)) (bL (pv 6)) (λ_ _=>rfl)) (bR (bL (pv 5)) cB))))
  (dH (dX (jI K (pR (bR (xN (bR (bL (pv 6)) (bR (bL (pv 7)) cB))) (bR pT cB))) (yB dc_ ha_ (by rfl) m_int ez_ (bR (xL lO oX (bL (pv 7)) pT (bD _)) cB)) (λ_ _=>rfl)))))))) fW)
  (cV (fL (XW.pt (uV (eE vI vJ (jJ (kI K) kY (by rfl) Ad PySem.boot_len (bR (bL (pv 1)) cB)) cK (bD _)) (xZ (eE (gk_ K Aj) kK (gA (gC K (pv 1)) (jI K (bL (pv 1)) (ht_ cK) (λ_ _=>rfl))) (jI K (pR (bR fU (bR fU cB))) (yB dc_ ha_ (by rfl) m_int ez_ (bR (xL (gV K Aj) hX (gC K (pv 0)) fU (bD _)) cB)) (λ_ _=>rfl)) (bD _))))) (dH (dX pT)) fW)
  (cV (fM (i:=8) cL.nd rfl (Or.inl rfl) (iE J3 (hr.mono (by omega)) (bR (kX K (bL (pv 1)) (jO cK) (jO (ht_ cK))) cB)))
  (cV (fL (eE lO oX (bL (pv 8)) pT (bD _)) (dH (dX pT)) fW)
  (cV (fL (eE (gV K Aj) hX (gC K (pv 0)) fU (bD _)) (cV (z6 λF=>PS.weak (f6 (i:=9) cL.nd rfl rfl (dsc:=aM ci_) (N:=AM) (tgs:=["part"]) (outs:=[0]) (N':=["part","kind"]) (by refine⟨rfl,?_,?_,?_,rfl,?_,?_,?_⟩<;>decide +kernel) (XIt.at (Ex:=dR) F (dz_ (bL (pv 8)))) (λ_ _ _ _ _=>(iU (i:=0) (show(["part","kind"]:List Str).Nodup by decide +kernel) rfl (Or.inl rfl) (.inr rfl))) (cv_ (by decide)) (λa b c d e=>XCs.at (Ex:=dR) F dp_) (λa b c d e=>XE.at (Ex:=dR) F (iE G4 (hr.mono (by omega)) (bR (gC K (pv 1)) (bR (bL (pv 0)) cB))))) (aDe (sA (n:=1) (i:=0) (by decide)) (by decide)))
  (dH (dX (jI K (pR (bR (bL (pv 9)) (bR pT cB))) (yB dc_ ha_ (by rfl) m_int ez_ (bR (aMz (xL (gk_ K Aj) kK (jJ (kI K) kY (by rfl) Ad PySem.boot_len (bR (bL (pv 8)) cB)) (gC K (pv 0)) (bD _)) (lL (xL (aRm Am) aRg pT (bL (pv 9)) (by with_unfolding_all rfl)))) cB)) (λ_ _=>rfl))))) fW)
  (dH (dX (iE CLF (hr.mono (by omega)) (bR (gC K (pv 0)) (bR (bL (pv 8)) (bR iq_ cB)))))))))))),λds Q h=>?_⟩
 clear Aj Am hj
 obtain⟨kd,t,rfl,hF,Ca,B5,q⟩:=h
 have Jl:=gE t
 cases kd with
 |num wd m =>
  have Cl:=hF
  simp only[Kd.Fit]at Cl
  refine⟨t,rfl,B5,λi h0 hx hl=>?_,λAw=>?_⟩
  ·refine ⟨(by show 2≤1000000; decide),?_⟩
   show if decide ((0:Int)<=i)=true then _ else _
   rw[if_pos (dzT h0)]
   refine⟨wd,rfl,by omega,by omega,?_⟩
   show ixX (.lst [.non,.int i]) (.int (if decide (i<256^wd.toNat)=true then 1 else 0)) Q
   refine aCj ?_
   by_cases hb:i<256^wd.toNat
   ·rw [(zE hF).mpr ⟨i,rfl,h0,hb,by rw [hx]⟩] at q
    rw[if_pos (dzT hb)]
    exact q
   ·have e:(Kd.num wd m).rdV (aJ t)=none:=by
     cases e:(Kd.num wd m).rdV (aJ t)with
     |none=>rfl
     |some v =>
      obtain⟨i',_,Kp,Ko,e'⟩:=(zE hF).mp e
      rw[hx]at e'
      rw[<-uJ h0 Kp e']at Ko
      exact absurd Ko hb
    rw[e]at q
    rw[if_neg (by rw[decide_eq_true_eq];exact hb)]
    exact q
  ·have e:(Kd.num wd m).rdV (aJ t)=none:=by
    cases e:(Kd.num wd m).rdV (aJ t)with
    |none=>rfl
    |some v =>
     obtain⟨i',_,Kp,Ko,e'⟩:=(zE hF).mp e
     refine absurd ⟨?_,?_⟩ Aw
     ·rw[e'];exact pJ Kp
     ·rw[cd_ e'];exact aPp Kp ⟨Cl.1,Cl.2.1⟩ Ko
   rw[e]at q
   exact⟨(by show 2<=1000000;decide),q⟩
 |cho ks =>
  have Cl:=hF
  simp only[Kd.Fit]at Cl
  simp only[Kd.deep]at Ca
  have Hv:(xK ks).length=ks.length:=sU
  have Kb:=PyProof.Rows.fact_partition t ":"
  refine⟨t,rfl,by have:=fJ;omega,?_⟩
  rcases yZ t with⟨Aw,hp⟩ | ⟨a,b,Gi,ha,hp⟩
  ·have e:(Kd.cho ks).rdV (aJ t)=none:=by
    cases e:(Kd.cho ks).rdV (aJ t)with
    |none=>rfl
    |some v =>
     obtain⟨hv,e'⟩:=(yA hF).mp e
     cases v with
     |cho i u=>simp only[Kd.vw]at e';exact absurd (by rw[e'];exact aE _ aA) Aw
     |_=>simp only[Kd.Val]at hv
   rw[e]at q
   rw[hp]
   refine⟨t,rfl,B5,λi h0 hx hl=>?_,λAw=>?_⟩
   ·exact q
   ·exact q
  ·rw [hp]
   have Hf:(⟨a.toArray⟩:Str).length<=100000:=by rw[hp]at Kb;have h3:(⟨a.toArray⟩:Str).length<=t.length:=Kb.1;omega
   have Me:(⟨b.toArray⟩:Str).length<=100000:=by rw[hp]at Kb;have h3:(⟨b.toArray⟩:Str).length<=t.length:=Kb.2.2;omega
   rw[Gi]at q
   refine⟨⟨a.toArray⟩,rfl,Hf,λi h0 hx hl=>?_,λAw=>?_⟩
   ·have Mi:a=aJ (cR i):=by rw [← hx]; rfl
    have hz:((i.toNat:Nat):Int)=i:=cW h0
    have Iw:∀v,(Kd.cho ks).rdV (a++58::b)=some v->∃k u,v=.cho i.toNat u/\ks[i.toNat]? = some k/\k.rdV b=some u:=λv hv=>by
     obtain⟨i',k,u,rfl,e1,hk,hu⟩:=(zY hF ha).mp hv
     have:i'=i.toNat:=by have:=uJ h0 (by omega) (Mi.symm.trans e1);omega
     subst this
     exact⟨k,u,rfl,hk,hu⟩
    dsimp only
    show cI _ _ [vT (Kd.cho ks).x,vT (.str t),.un,vT (.str ⟨a.toArray⟩),vT (.str ":"),vT (.str ⟨b.toArray⟩),vT (.int i),.un,.un,.un] _
    by_cases C6:i.toNat<ks.length
    ·obtain ⟨k,hk⟩ : ∃ k,ks[i.toNat]? = some k:=⟨_,aO C6⟩
     obtain⟨a2,a3⟩:=fj_ Cl.1 (bN hk)
     have De:atI (xK ks) i=some k.x:=by rw[<-hz];exact pU (by rw[gj_,bV,hk];rfl)
     refine lJ (ρ':=[vT (Kd.cho ks).x,vT (.str t),.un,vT (.str ⟨a.toArray⟩),vT (.str ":"),vT (.str ⟨b.toArray⟩),vT (.int i),.un,.un,.un]) (λQ q=>?_) ?_
     ·show if decide (i < 0)=true then _ else _
      rw[if_neg (by rw[decide_eq_true_eq];omega)]
      show Q (decide (((xK ks).length:Int)<=i)) _
      rw[dzF (by omega)]
      exact q
     ·show match atI (xK ks) i with | some d=>_ | none=>False
      rw[De]
      refine⟨k,⟨b.toArray⟩,rfl,a2,by omega,Me,?_⟩
      rw[show aJ (⟨b.toArray⟩:Str)=b from rfl]
      refine⟨(by show 2<=1000000;decide),(by show 2<=1000000;decide),?_⟩
      cases hv:k.rdV b with
      |none =>
       have e:(Kd.cho ks).rdV (a++58::b)=none:=by
        cases e:(Kd.cho ks).rdV (a++58::b)with
        |none=>rfl
        |some v =>
         obtain⟨k',u,_,Dd,hu⟩:=Iw v e
         rw[hk]at Dd
         cases Dd
         rw[hv]at hu
         cases hu
       rw[e]at q
       exact q
      |some u =>
       have Bv:=aCd ((yA a2).mp hv).1
       have e:(Kd.cho ks).rdV (a++58::b)=some (.cho i.toNat u):=(zY hF ha).mpr ⟨i.toNat,k,u,rfl,by rw[hz];exact Mi,hk,hv⟩
       have eo:(Kd.cho ks).ox (some (.cho i.toNat u))=.tup [.int i,k.vx u]:=by simp only[Kd.ox,Kd.vx,ir_ hk,hz]
       rw[e,eo]at q
       exact aFq Bv q
    ·have e:(Kd.cho ks).rdV (a ++ 58 :: b)=none:=by
      cases e:(Kd.cho ks).rdV (a++58::b)with
      |none=>rfl
      |some v =>
       obtain⟨k',u,_,Dd,hu⟩:=Iw v e
       exact absurd (aY.mp Dd).1 C6
     rw[e]at q
     refine kZ true (ρ':=[vT (Kd.cho ks).x,vT (.str t),.un,vT (.str ⟨a.toArray⟩),vT (.str ":"),vT (.str ⟨b.toArray⟩),vT (.int i),.un,.un,.un]) (λQ q=>?_) (λ_=>q) (λhb=>by cases hb)
     show if decide (i<0)=true then _ else _
     rw[if_neg (by rw[decide_eq_true_eq];omega)]
     show Q (decide (((xK ks).length:Int)<=i)) _
     rw[dzT (by omega)]
     exact q
   ·have e:(Kd.cho ks).rdV (a ++ 58 :: b)=none:=by
     cases e:(Kd.cho ks).rdV (a++58::b)with
     |none=>rfl
     |some v =>
      obtain⟨i',k',u,_,e1,Dd,hu⟩:=(zY hF ha).mp e
      have hil:=(aY.mp Dd).1
      have ht:=he_ (n:=(i':Int)) (k:=1) (by omega) (by omega) (by decide)
      refine absurd ⟨?_,?_⟩ Aw
      ·show vH a
       rw[e1]
       exact pJ (by omega)
      ·rw [gE]
       show a.length<=20
       rw[e1,<-gE]
       omega
    rw[e]at q
    exact q
 |row k m =>
  have Cl:=hF
  simp only[Kd.Fit]at Cl
  simp only[Kd.deep]at Ca
  refine lJ (ρ':=[vT (Kd.row k m).x,vT (.str t),.un,.un,.un,.un,.un,.un,.un,.un]) (λQ q=>q) ?_
  refine lJ (ρ':=[vT (Kd.row k m).x,vT (.str t),.un,.un,.un,.un,.un,.un,.un,.un]) (λQ q=>q) ?_
  by_cases h2:t.length<2
  ·have e:(Kd.row k m).rdV (aJ t)=none:=by
    cases e:(Kd.row k m).rdV (aJ t)with
    |none=>rfl
    |some v =>
     obtain⟨vs,_,_,e1,_⟩:=tM hF e
     have:=congrArg List.length e1
     rw[aD,aB,bH]at this
     omega
   rw[e]at q
   refine kZ true (ρ':=[vT (Kd.row k m).x,vT (.str t),.un,.un,.un,.un,.un,.un,.un,.un]) (λQ q=>?_) (λ_=>q) (λhb=>by cases hb)
   refine⟨by show t.length<=1000000;omega,?_⟩
   show if decide ((t.length:Int)<2)=true then _ else _
   rw[dzT (by omega)]
   exact q
  obtain⟨x,y,inner,Ci⟩:=aOx (l:=aJ t) (by omega)
  have F4:atI t.cps.toList 0=some x:=pU (xs:=aJ t) (j:=0) (by rw[Ci];rfl)
  have Ky:atI t.cps.toList (-1)=some y:=p_ (l:=x::inner) (by rw[Ci];rfl)
  have Bj:∀Q:Bool->En->Prop,Q (!decide ((⟨#[x]⟩:Str)++(⟨#[y]⟩:Str) = "[]")) [vT (Kd.row k m).x,vT (.str t),.un,.un,.un,.un,.un,.un,.un,.un]->(xOr (xB (xOp ltX (cX uL (aW (bM 1) cJ)) (xC (.int 2)))) (xB (xOp neX (xOp eY (xOp ixX (bM 1) (xC (.int 0))) (xOp ixX (bM 1) (aBx (xC (.int 1))))) (xOp ixX (iV (aW (xC (.str "[]")) (aW (xC (.str "{}")) cJ))) (cX zN (aW (xOp eqX (xOp ixX (bM 0) (xC (.int 0))) (xC (.str "record"))) cJ)))))) [vT (Kd.row k m).x,vT (.str t),.un,.un,.un,.un,.un,.un,.un,.un] Q:=by
   intro Q q
   refine⟨by show t.length<=1000000;omega,?_⟩
   show if decide ((t.length:Int)<2)=true then _ else _
   rw[dzF (by omega)]
   refine⟨by show t.length<=1000000;omega,?_⟩
   show match atI t.cps.toList 0 with | some c=>_ | none=>False
   rw[F4]
   refine⟨by show t.length<=1000000;omega,?_⟩
   show match atI t.cps.toList (-1)with | some c=>_ | none=>False
   rw[Ky]
   exact⟨(by show 2<=1000000;decide),(by show 2<=1000000;decide),q⟩
  have Iq:((⟨#[x]⟩:Str)++(⟨#[y]⟩:Str) = "[]")↔x=91/\y=93:=by
   constructor
   ·intro h
    have h1:=congrArg aJ h
    rw[qO]at h1
    have h3:[x,y]=[91,93]:=h1
    simp at h3
    exact h3
   ·rintro ⟨rfl,rfl⟩
    decide
  by_cases hb:x=91/\y=93
  ·rw [dzT (Iq.mpr hb)] at Bj
   obtain⟨rfl,rfl⟩:=hb
   refine lJ Bj ?_
   have Ea:aJ (Txt.slice t (some 1) (some (-1)))=inner:=by
    rw[aNq (by omega),Jl,Ci]
    simp
   have Iz:=Txt.slice_le t (some 1) (some (-1))
   refine⟨by show t.length<=1000000;omega,Txt.slice t (some 1) (some (-1)),rfl,by omega,λps Cg=>?_,λCg=>?_⟩
   ·rw [Ea] at Cg
    obtain⟨D0,_⟩:=iw_ Cg
    have Jn:(eJ ps).length<=t.length+2:=by
     have h3:=congrArg List.length D0
     rw[bS]at h3
     have h4:=congrArg List.length Ci
     rw[aD,aB,bH]at h4
     omega
    have Kf:∀p∈ps,p.length<=100000:=λp hp=>by have:=nE hp;omega
    have Nh:=nF (ps:=ps)
    rw[Ci]at q
    dsimp only
    show cI _ _ [vT (Kd.row k m).x,vT (.str t),.un,.un,.un,.un,.un,.un,.v (.ol (ps.map txS)),.un] _
    refine lJ (ρ':=[vT (Kd.row k m).x,vT (.str t),.un,.un,.un,.un,.un,.un,vT (.lst (ps.map txS)),.un]) (λQ q=>q) ?_
    have e3:(ps.map txS).length=ps.length:=aG _
    refine⟨by show(ps.map txS).length<=1000000;omega,?_⟩
    show dP _ _ _ _ _ (ps.map txS) _ _
    refine do_ txS (λp=>k.ox (k.rdV p)) (λp hm Ag P p'=>⟨k,⟨p.toArray⟩,rfl,Cl.1,by omega,by rw[gE];exact Kf p hm,p'⟩) ?_
    refine⟨(by show 2<=1000000;decide),?_⟩
    show if(!decide (((ps.map txS).length:Int)=m))=true then _ else _
    have Gr:((ps.length:Int)≠m\/∃p∈ps,k.rdV p=none)->(Kd.row k m).rdV (91::(inner++[93]))=none:=λh=>by
     cases e:(Kd.row k m).rdV (91::(inner++[93]))with
     |none=>rfl
     |some v =>
      obtain⟨vs,_,e0,e1,e5,e2⟩:=tM hF e
      have h3:=gS (List.cons.inj e1).2
      rw[h3,e2]at Cg
      cases Cg
      rcases h with h | ⟨p,hp,hn⟩
      ·rw[aG]at h;exact absurd e0 h
      ·obtain ⟨u,hu,rfl⟩:=bX.mp hp
       rw[e5 u hu]at hn
       cases hn
    by_cases hl:(ps.length:Int)=m
    ·rw [dzT (by rw [e3]; exact hl)]
     refine⟨?_,?_⟩
     ·show ((ps.map fun p=>k.ox (k.rdV p)).all fun d=>(shN d).isSome)=true
      rw[gK]
      intro d hd
      obtain⟨p,_,rfl⟩:=bX.mp hd
      exact(yQ Cl.1).1
     ·show ixX (.lst [.lst (ps.map fun p=>k.ox (k.rdV p)),.non]) (.int (if ((ps.map fun p=>k.ox (k.rdV p)).any fun d=>shN d == some true)=true then 1 else 0)) Q
      refine aCj ?_
      by_cases H9:∃p∈ps,k.rdV p=none
      ·rw [Gr (.inr H9)] at q
       obtain⟨p,hp,hn⟩:=H9
       rw[if_pos (List.any_eq_true.mpr ⟨_,cP hp,(yQ Cl.1).2.mpr hn⟩)]
       exact q
      ·obtain ⟨vs,h1,h2⟩:=aQh hF Cg hl (fun p hp z=>H9 ⟨p,hp,z⟩)
       rw[h1]at q
       rw[if_neg (λz=>by
        obtain⟨d,hd,hs⟩:=List.any_eq_true.mp z
        obtain⟨p,hp,rfl⟩:=bX.mp hd
        exact H9 ⟨p,hp,(yQ Cl.1).2.mp hs⟩),h2]
       simp only[Kd.ox,Kd.vx]at q
       exact q
    ·rw [dzF (by rw [e3]; exact hl)]
     rw[Gr (.inl hl)]at q
     exact q
   ·have e:(Kd.row k m).rdV (aJ t)=none:=by
     cases e:(Kd.row k m).rdV (aJ t)with
     |none=>rfl
     |some v =>
      obtain⟨vs,_,_,e1,_,e2⟩:=tM hF e
      rw[Ci]at e1
      have h3:=gS (List.cons.inj e1).2
      rw[Ea,h3,e2]at Cg
      cases Cg
    rw[e]at q
    exact q
  ·have e:(Kd.row k m).rdV (aJ t)=none:=by
    cases e:(Kd.row k m).rdV (aJ t)with
    |none=>rfl
    |some v =>
     obtain⟨vs,_,_,e1,_⟩:=tM hF e
     rw[Ci]at e1
     obtain⟨h3,h4⟩:=List.cons.inj e1
     have h5:=congrArg List.getLast? h4
     simp at h5
     exact absurd ⟨h3,h5⟩ hb
   rw[e]at q
   rw[dzF (λz=>hb (Iq.mp z))]at Bj
   exact kZ true Bj (λ_=>q) (λhb=>by cases hb)
 |rcd fs =>
  have Cl:=hF
  simp only[Kd.Fit]at Cl
  simp only[Kd.deep]at Ca
  refine lJ (ρ':=[vT (Kd.rcd fs).x,vT (.str t),.un,.un,.un,.un,.un,.un,.un,.un]) (λQ q=>q) ?_
  refine lJ (ρ':=[vT (Kd.rcd fs).x,vT (.str t),.un,.un,.un,.un,.un,.un,.un,.un]) (λQ q=>q) ?_
  by_cases h2:t.length<2
  ·have e:(Kd.rcd fs).rdV (aJ t)=none:=by
    cases e:(Kd.rcd fs).rdV (aJ t)with
    |none=>rfl
    |some v =>
     obtain⟨vs,_,_,e1,_⟩:=tS hF e
     have:=congrArg List.length e1
     rw[aD,aB,bH]at this
     omega
   rw[e]at q
   refine kZ true (ρ':=[vT (Kd.rcd fs).x,vT (.str t),.un,.un,.un,.un,.un,.un,.un,.un]) (λQ q=>?_) (λ_=>q) (λhb=>by cases hb)
   refine⟨by show t.length<=1000000;omega,?_⟩
   show if decide ((t.length:Int)<2)=true then _ else _
   rw[dzT (by omega)]
   exact q
  obtain⟨x,y,inner,Ci⟩:=aOx (l:=aJ t) (by omega)
  have F4:atI t.cps.toList 0=some x:=pU (xs:=aJ t) (j:=0) (by rw[Ci];rfl)
  have Ky:atI t.cps.toList (-1)=some y:=p_ (l:=x::inner) (by rw[Ci];rfl)
  have Bj:∀Q:Bool->En->Prop,Q (!decide ((⟨#[x]⟩:Str)++(⟨#[y]⟩:Str) = "{}")) [vT (Kd.rcd fs).x,vT (.str t),.un,.un,.un,.un,.un,.un,.un,.un]->(xOr (xB (xOp ltX (cX uL (aW (bM 1) cJ)) (xC (.int 2)))) (xB (xOp neX (xOp eY (xOp ixX (bM 1) (xC (.int 0))) (xOp ixX (bM 1) (aBx (xC (.int 1))))) (xOp ixX (iV (aW (xC (.str "[]")) (aW (xC (.str "{}")) cJ))) (cX zN (aW (xOp eqX (xOp ixX (bM 0) (xC (.int 0))) (xC (.str "record"))) cJ)))))) [vT (Kd.rcd fs).x,vT (.str t),.un,.un,.un,.un,.un,.un,.un,.un] Q:=by
   intro Q q
   refine⟨by show t.length<=1000000;omega,?_⟩
   show if decide ((t.length:Int)<2)=true then _ else _
   rw[dzF (by omega)]
   refine⟨by show t.length<=1000000;omega,?_⟩
   show match atI t.cps.toList 0 with | some c=>_ | none=>False
   rw[F4]
   refine⟨by show t.length<=1000000;omega,?_⟩
   show match atI t.cps.toList (-1)with | some c=>_ | none=>False
   rw[Ky]
   exact⟨(by show 2<=1000000;decide),(by show 2<=1000000;decide),q⟩
  have Iq:((⟨#[x]⟩:Str)++(⟨#[y]⟩:Str) = "{}")↔x=123/\y=125:=by
   constructor
   ·intro h
    have h1:=congrArg aJ h
    rw[qO]at h1
    have h3:[x,y]=[123,125]:=h1
    simp at h3
    exact h3
   ·rintro ⟨rfl,rfl⟩
    decide
  by_cases hb:x=123/\y=125
  ·rw [dzT (Iq.mpr hb)] at Bj
   obtain⟨rfl,rfl⟩:=hb
   refine lJ Bj ?_
   have Ea:aJ (Txt.slice t (some 1) (some (-1)))=inner:=by
    rw[aNq (by omega),Jl,Ci]
    simp
   have Iz:=Txt.slice_le t (some 1) (some (-1))
   refine⟨by show t.length<=1000000;omega,Txt.slice t (some 1) (some (-1)),rfl,by omega,λps Cg=>?_,λCg=>?_⟩
   ·rw [Ea] at Cg
    obtain⟨D0,_⟩:=iw_ Cg
    have Jn:(eJ ps).length<=t.length+2:=by
     have h3:=congrArg List.length D0
     rw[bS]at h3
     have h4:=congrArg List.length Ci
     rw[aD,aB,bH]at h4
     omega
    have Kf:∀p∈ps,p.length<=100000:=λp hp=>by have:=nE hp;omega
    have Nh:=nF (ps:=ps)
    rw[Ci]at q
    dsimp only
    show cI _ _ [vT (Kd.rcd fs).x,vT (.str t),.un,.un,.un,.un,.un,.un,.v (.ol (ps.map txS)),.un] _
    refine lJ (ρ':=[vT (Kd.rcd fs).x,vT (.str t),.un,.un,.un,.un,.un,.un,vT (.lst (ps.map txS)),.un]) (λQ q=>q) ?_
    refine lJ (ρ':=[vT (Kd.rcd fs).x,vT (.str t),.un,.un,.un,.un,.un,.un,vT (.lst (ps.map txS)),.un]) (λQ q=>q) ?_
    refine⟨fs,ps,rfl,hF,by omega,Kf,λvs hv hpz=>?_,λAw=>?_⟩
    ·rw [hpz] at Cg
     rw[aQk hF hv Cg]at q
     simp only[Kd.ox,Kd.vx]at q
     exact q
    ·have e:(Kd.rcd fs).rdV (123 :: (inner ++ [125]))=none:=by
      cases e:(Kd.rcd fs).rdV (123::(inner++[125]))with
      |none=>rfl
      |some v =>
       obtain⟨vs,_,hv,e1,e2⟩:=tS hF e
       have h3:=gS (List.cons.inj e1).2
       rw[h3,e2]at Cg
       cases Cg
       exact absurd rfl (Aw vs hv)
     rw[e]at q
     exact q
   ·have e:(Kd.rcd fs).rdV (aJ t)=none:=by
     cases e:(Kd.rcd fs).rdV (aJ t)with
     |none=>rfl
     |some v =>
      obtain⟨vs,_,_,e1,e2⟩:=tS hF e
      rw[Ci]at e1
      have h3:=gS (List.cons.inj e1).2
      rw[Ea,h3,e2]at Cg
      cases Cg
    rw[e]at q
    exact q
  ·have e:(Kd.rcd fs).rdV (aJ t)=none:=by
    cases e:(Kd.rcd fs).rdV (aJ t)with
    |none=>rfl
    |some v =>
     obtain⟨vs,_,_,e1,_⟩:=tS hF e
     rw[Ci]at e1
     obtain⟨h3,h4⟩:=List.cons.inj e1
     have h5:=congrArg List.getLast? h4
     simp at h5
     exact absurd ⟨h3,h5⟩ hb
   rw[e]at q
   rw[dzF (λz=>hb (Iq.mp z))]at Bj
   exact kZ true Bj (λ_=>q) (λhb=>by cases hb)
end
theorem qM:bootBuiltins "ValueError" = some (.type "ValueError"):=by decide +kernel
structure Kit48(K:cZ)(mg:kP)(Ao Ap As Ab Ar Au:Addr):Prop where
 mV:mg "NoValue" = some (.ref Ao)
 mB:mg "NoBytes" = some (.ref Ap)
 mM:mg "NoMake" = some (.ref As)
 mT:mg "NoText" = some (.ref Ab)
 mN:mg "NoName" = some (.ref Ar)
 mR:mg "NoRow" = some (.ref Au)
 kit:PySem.W.excKit K Ab=true
 kT:PySem.W.kitOne K (.ref Ab) (.ref Ab)=some true
 kE:PySem.W.kitOne K (.ref Ab) (.type "ValueError")=some true
 kA:PySem.W.kitAny K (.ref Ab) [.ref Ap,.ref As,.ref Ar,.ref Au,.ref Ao]=some false
def vV:Dx:=.tup [.str "NoText",.non]
noncomputable def asked (kd:Kd) (t:Str):Dx:=match kd.rdV (aJ t)with
 |some v=>.tup [.str "told",kd.vx v]
 |none=>vV
def aLy:GC:=λds Q=>∃(kd:Kd) (d:Dx),ds=[kd.x,d]/\kd.Fit/\kd.deep<=5/\((∃t,d=.str t/\t.length<=100000/\Q (.tr (asked kd t)))\/noT d/\Q (.tr vV))
theorem aLq{u:XA}{ρ:En}{Q:Sv->En->Prop}(h:u ρ λss ρ'=>ss.length<=1000000/\Q (.tr (.tup (ss.map Sv.d))) ρ'):yD u ρ Q:=h
section
variable{f:Addr}{j:Nat}{Ao Ap As Ab Ar Au Bh:Addr}
theorem aSc(F:Fun K "_law_asked" "_law_asked" go_ f fd)(CRV:CalE P w K mg base j "read_value" AB (spE (aYs Ab)))(Kt:Kit48 K mg Ao Ap As Ab Ar Au)(Db:PyProof.Rows.OwnCls "FieldError" Bh veM "ValueError.__new__" mg base)(Nd:xY base Ab Bh)(Ac:mg "isinstance" = none)(m_int:mg "int" = none)(Bg:mg "ValueError" = none):FnOk P w K mg base CX0 (j+1) f fd AB (spX aLy):=by
 have Ew:=Kt.mV
 have Ey:=Kt.mB
 have Ft:=Kt.mM
 have Fq:=Kt.mT
 have Fs:=Kt.mN
 have Gk:=Kt.mR
 refine jA F fO (λds Q h=>by obtain⟨_,_,rfl,_⟩:=h;rfl) (by decide) λAk A outer s H E hr=>?_
 have Am:=jM hr
 have Aj:=aR Am
 refine⟨_,(cV (fM (i:=2) fO.nd rfl (Or.inl rfl) pT)
  (cV (fM (i:=3) fO.nd rfl (Or.inl rfl) pT)
  (cV (aPd (jn:=4) (aPf (i:=2) λ_ _ _ _=>ap_ (i:=2) fO.nd rfl (Or.inl rfl) (aEh CRV (hr.mono (by omega)) (bR (bL (pv 0)) (bR (bL (pv 1)) cB)))) Db rfl rfl (by rfl) fO.nd rfl (by rfl) (λ_=>(dH (fM (i:=3) fO.nd rfl (Or.inl rfl) (bL (pv 4))))))
  (cV (fL (eE lO oX (bL (pv 3)) pT (bD _)) (dH (dX (xN (bR fU (bR (bL (pv 2)) cB))))) fW)
  (cV (fL (XW.pt (uV (qI (aIf (cs:=[.ref Ap,.ref As,.ref Ar,.ref Au,.ref Ao]) (vcs:=[.ref Ap,.ref As,.ref Ar,.ref Au,.ref Ao]) K Ac (bL (pv 3)) (lK (fu_ (v:=.ref Ap) (by rfl) Ey rfl) (lK (fu_ (v:=.ref As) (by rfl) Ft rfl) (lK (fu_ (v:=.ref Ar) (by rfl) Fs rfl) (lK (fu_ (v:=.ref Au) (by rfl) Gk rfl) (lK (fu_ (v:=.ref Ao) (by rfl) Ew rfl) xJ))))) (λ_ _ _ q=>q) (λ_ h=>nT (as:=[Ap,As,Ar,Au,Ao]) h) (by simp only[aD,bC];decide))) (xZ (fm_ (qI (aBm (c:=.type "ValueError") K Ac (bL (pv 3)) (vB (v:=.ty "ValueError") rfl Bg qM rfl) (λ_ h=>h))))))) (dH (dX (xN (bR fU (bR pT cB))))) fW)
  (dH (dX (xN (bR (jI K (pR (bR fU (bR fU cB))) (yB dc_ ha_ (by rfl) m_int ez_ (bR (aBm (c:=.ref Ab) K Ac (bL (pv 3)) (fu_ (v:=.ref Ab) (by rfl) Fq rfl) (λ_ h=>h)) cB)) (λ_ _=>rfl)) (bR pT cB)))))))))),λds Q h=>?_⟩
 clear Aj Am
 have e2:isC K (.ref Ab) (.exc (.ref Ab))=some true:=by simp only[isC];rw[if_pos Kt.kit];exact Kt.kT
 have e3:isC K (.type "ValueError") (.exc (.ref Ab))=some true:=by simp only[isC];rw[if_pos Kt.kit];exact Kt.kE
 have e4:x_ K [.ref Ap,.ref As,.ref Ar,.ref Au,.ref Ao] (.exc (.ref Ab))=some false:=by simp only[x_];rw[if_pos Kt.kit];exact Kt.kA
 have refused:∀(k d:Dx),Q (.tr vV)->cI (xIf (xB (xOp (lF false) (bM 3) (xC .non))) (gW (yD (aW (xC (.str "told")) (aW (bM 2) cJ)))) fD)
   (cI (xIf (xOr (xB (yE (x_ K [.ref Ap,.ref As,.ref Ar,.ref Au,.ref Ao]) (bM 3))) (aBw (xB (yE (isC K (.type "ValueError")) (bM 3))))) (gW (yD (aW (xC (.str "odd")) (aW (xC .non) cJ)))) fD)
    (gW (yD (aW (xOp ixX (iV (aW (xC (.str "odd")) (aW (xC (.str "NoText")) cJ))) (cX zN (aW (yE (isC K (.ref Ab)) (bM 3)) cJ))) (aW (xC .non) cJ))))) [vT k,vT d,vT .non,vT (.exc (.ref Ab)),.un] (u7 Q):=λk d q=>by
  refine lJ (ρ':=[vT k,vT d,vT .non,vT (.exc (.ref Ab)),.un]) (λQ q=>q) ?_
  refine lJ (ρ':=[vT k,vT d,vT .non,vT (.exc (.ref Ab)),.un]) (λQ q=>?_) ?_
  ·exact aFy (wV (zQ rfl e4 (aFz (wV (zQ rfl e3 q)))))
  ·refine aTg ?_
   refine aLq ?_
   refine fv_ (kL (zP ⟨(by show 2<=1000000;decide),?_⟩))
   refine jj_ (fv_ (zQ rfl e2 ?_))
   exact⟨(by show 2<=1000000;decide),q⟩
 obtain⟨kd,d,rfl,hF,hd,h⟩:=h
 rcases h with⟨t,rfl,B5,q⟩ | ⟨hn,q⟩
 ·refine ⟨kd,.str t,rfl,hF,hd,.inl ⟨t,rfl,B5,fun v hv s o C8 Cu => ?_,fun Aw => ?_⟩⟩
  ·have e:asked kd t=.tup [.str "told",kd.vx v]:=by unfold asked; rw [tR.mpr hv]
   rw[e]at q
   have Ha:s.d=kd.vx v:=by rw[o?_d C8,Cu]
   rw[<-Ha]at q
   exact⟨(by show 2<=1000000;decide),q⟩
  ·have e:asked kd t=vV:=by
    unfold asked
    cases e:kd.rdV (aJ t)with
    |none=>rfl
    |some v=>exact absurd (tR.mp e) (Aw v)
   rw[e]at q
   exact⟨⟨Ab,rfl,Nd⟩,refused kd.x (.str t) q⟩
 ·exact⟨kd,d,rfl,hF,hd,.inr ⟨hn,⟨Ab,rfl,Nd⟩,refused kd.x d q⟩⟩
end
theorem aSm{k:Kd}{m:Int}(h:1<=m):k.lo<=(Kd.row k m).lo:=by simp only[Kd.lo];exact Nat.le_mul_of_pos_left _ (by omega)
theorem aFg:∀{fs:List (Str×Kd)} {f:Str×Kd},f∈fs->f.2.lo<=loF fs
 |g::r,f,h=>by
  simp only[loF]
  rcases aF.mp h with rfl | h
  ·omega
  ·have:=aFg h;omega
theorem aFh:∀{ks:List Kd} {k:Kd},k∈ks->k.lo<=loK ks
 |g::r,f,h=>by
  simp only[loK]
  rcases aF.mp h with rfl | h
  ·omega
  ·have:=aFh h;omega
def fvS(p:(Str×Kd)×Vd):Str:=p.1.1 ++ " " ++ p.1.2.vs p.2
theorem rS(p:(Str×Kd)×Vd):aJ (fvS p)=aJ p.1.1++32::p.1.2.vw p.2:=by
 unfold fvS
 rw[qO,qO,fd_,show aJ " " = [32]from by decide,aL]
 rfl
theorem aQg{k:Kd}{m:Int}{vs:List Vd}(h:vs≠[]):("[" ++ Txt.join jV (vs.map k.vs) ++ "]" : Str)=(Kd.row k m).vs (.row vs):=cd_ (by
 rw[fd_,qO,qO,gq_ _ (λz=>h (gO.mp z)),show aJ "[" = [91]from by decide,show aJ "]" = [93]from by decide,cM]
 simp only[Kd.vw,aP,aS,aL]
 congr 5)
theorem aQj{fs:List (Str×Kd)}{vs:List Vd}(h:fs.zip vs≠[]):("{" ++ Txt.join jV ((fs.zip vs).map fvS) ++ "}" : Str)=(Kd.rcd fs).vs (.rcd vs):=cd_ (by
 rw[fd_,qO,qO,gq_ _ (λz=>h (gO.mp z)),show aJ "{" = [123]from by decide,show aJ "}" = [125]from by decide,cM]
 simp only[Kd.vw,vQ,aP,aS,aL]
 congr 5
 funext p
 show 44::32::aJ (fvS p)=_
 rw[rS])
theorem aUd{ks:List Kd}{j:Nat}{k:Kd}{v:Vd}(h:ks[j]? = some k):(cR (j:Int) ++ ":" ++ k.vs v:Str)=(Kd.cho ks).vs (.cho j v):=cd_ (by
 rw[fd_,qO,qO,fd_,show aJ ":" = [58]from by decide]
 simp only[Kd.vw,aL,sX h]
 rfl)
theorem aSg{w m n:Int}:cR n=(Kd.num w m).vs (.num n):=cd_ (by rw[fd_];simp only[Kd.vw])
def gSV(n:Nat):GC:=λds Q=>∃(kd:Kd) (vd:Vd) (d:Dx),ds=[kd.x,d]/\d=kd.vx vd/\kd.Fit/\kd.Val vd/\kd.deep<=n/\n<=5/\kd.lo<=2000/\Q (.tr (.str (kd.vs vd)))
section
variable{f:Addr}{n j:Nat}
theorem aRw(F:Fun K "_law_written" "_law_written" cq_ f fd)(Hi:Cal P w K mg base j "_law_written" AH (spX (gSV n)))(m_str:mg "str" = none):FnOk P w K mg base CX0 (j+1) f fd AH (spX (gSV (n+1))):=by
 refine jA F oG (λds Q h=>by obtain⟨_,_,_,rfl,_⟩:=h;rfl) (by decide) λAk A outer s H E hr=>?_
 have Am:=jM hr
 have Aj:=aR Am
 refine⟨_,(cV (fL (eE (gV K Aj) hX (gC K (pv 0)) fU (bD _)) (dH (dX (yB lQ n_ (by rfl) m_str jp_ (bR (bL (pv 1)) cB)))) fW)
  (cV (fL (eE (gV K Aj) hX (gC K (pv 0)) fU (bD _)) (dH (dX (gA (gA (yB lQ n_ (by rfl) m_str jp_ (bR (gC K (pv 1)) cB)) fU) (iE Hi (hr.mono (by omega)) (bR (jI K (gC K (pv 0)) (gC K (pv 1)) (λ_ _=>rfl)) (bR (gC K (pv 1)) cB)))))) fW)
  (cV (fL (eE (gV K Aj) hX (gC K (pv 0)) fU (bD _)) (dH (dX (gA (gA fU (sP (ea_ (dsc:=aM cq_) (N:=AH) (tgs:=["name","part"]) (outs:=[1]) (N':=["name","part","value"]) (by refine⟨rfl,?_,?_,?_,rfl,?_,?_,?_⟩<;>decide +kernel) (dz_ (gC K (pv 0))) (λ_ _ _ _ _=>(tW K (n:=2) rfl rfl (qN (iU (i:=0) (show(["name","part","value"]:List Str).Nodup by decide +kernel) rfl (Or.inl rfl) (.inr rfl)) (qN (iU (i:=1) (show(["name","part","value"]:List Str).Nodup by decide +kernel) rfl (Or.inl rfl) (.inr rfl)) em_)))) (gm_ (n:=2) (is:=[0,1]) rfl (by decide)) (tD (es_ (by decide) (es_ (by decide) nW er_) (hf_ er_))) (λ_ _ _ _ _=>dp_) (λ_ _ _ _ _=>(gA (gA (bL (pv 0)) fU) (iE Hi (hr.mono (by omega)) (bR (bL (pv 1)) (bR (ip_ Am (bL (pv 2)) (bL (pv 0)) (λ_ _=>rfl)) cB)))))))) fU))) fW)
  (dH (dX (gA (gA fU (sP (ea_ (dsc:=aM cq_) (N:=AH) (tgs:=["one"]) (outs:=[0]) (N':=["one","kind"]) (by refine⟨rfl,?_,?_,?_,rfl,?_,?_,?_⟩<;>decide +kernel) (dz_ (bL (pv 1))) (λ_ _ _ _ _=>(iU (i:=0) (show(["one","kind"]:List Str).Nodup by decide +kernel) rfl (Or.inl rfl) (.inr rfl))) (sA (n:=1) (i:=0) (by decide)) (cv_ (by decide)) (λ_ _ _ _ _=>dp_) (λ_ _ _ _ _=>(iE Hi (hr.mono (by omega)) (bR (gC K (pv 1)) (bR (bL (pv 0)) cB))))))) fU)))))),λds Q h=>?_⟩
 clear Aj Am
 obtain⟨kd,vd,d,rfl,hi,hF,hV,hd,hn5,Do,q⟩:=h
 have Al:=lN hF hV (by omega) Do
 have El:=nR kd vd
 cases kd with
 |num wd m =>
  cases vd with
  |num i =>
   simp only[Kd.vx]at hi
   subst hi
   simp only[Kd.Val]at hV
   simp only[Kd.Fit]at hF
   have g1:=yV (show wd.toNat<=8 by omega)
   have g2:(256:Int)^8=18446744073709551616:=by decide
   rw[<-aSg]at q
   exact⟨i,rfl,hV.1,by omega,q⟩
  |_=>simp only[Kd.Val]at hV
 |row k m =>
  cases vd with
  |row vs =>
   simp only[Kd.vx]at hi
   subst hi
   simp only[Kd.Val]at hV
   simp only[Kd.Fit]at hF
   simp only[Kd.deep]at hd
   have He:=nzL (aSm (k:=k) hF.2.1) Do
   have Bv:vs≠[]:=λz=>by rw[z]at hV;have:=hV.1;simp at this;omega
   rw[<-aQg Bv]at q El
   rw[en_,en_]at El
   have K4:1+(Txt.join jV (vs.map k.vs)).length+1=_:=El
   have Lz:∀y∈vs.map k.vs,y.length<=166000:=λy hy=>by
    obtain⟨v,hm,rfl⟩:=bX.mp hy
    rw[nR]
    exact lN hF.1 (hV.2 v hm) (by omega) He
   have D0:=yN Lz
   rw[aG]at D0
   refine⟨show(vs.map k.vx).length<=1000000 by rw[aG];omega,show dP _ _ _ _ _ (vs.map k.vx) _ _ from ?_⟩
   refine do_ k.vx (λv:Vd=>.str (k.vs v)) (λv hv Ag P pp=>?_) ?_
   ·exact⟨k,v,_,rfl,rfl,hF.1,hV.2 v hv,by omega,by omega,He,pp⟩
   ·refine ⟨vs.map k.vs,by rw [aS,cM]; rfl,?_,(by show 1 + (Txt.join jV (vs.map k.vs)).length≤1000000; omega),(by show ("[" ++ Txt.join jV (vs.map k.vs):Str).length + 1≤1000000; rw [en_]; show 1 + _ + 1≤_; omega),q⟩
    ·rw [aG]
     show _+vs.length*2<=16777216
     have:vs.length*166000<=20*166000:=gH _ (by omega)
     omega
  |_=>simp only[Kd.Val]at hV
 |rcd fs =>
  cases vd with
  |rcd vs =>
   simp only[Kd.vx]at hi
   subst hi
   simp only[Kd.Val]at hV
   have hok:=hF.ok
   simp only[Kd.Fit]at hF
   simp only[Kd.deep]at hd
   have Dz:=ec_ hV
   have Ka:(fs.zip vs).length=fs.length:=by rw[List.length_zip,Dz];omega
   have Bv:fs.zip vs≠[]:=λz=>by rw[z]at Ka;have:=hF.2.1;simp at Ka;omega
   rw[<-aQj Bv]at q El
   rw[en_,en_]at El
   have K4:1+(Txt.join jV ((fs.zip vs).map fvS)).length+1=_:=El
   have Nq:∀p∈fs.zip vs,Nm p.1.1/\p.1.2.Fit/\p.1.2.deep<=eB fs/\p.1.2.Val p.2/\p.1.2.lo<=2000:=λp hp=>by
    obtain⟨a1,a2,a3⟩:=gz_ hF.1 (fB hp).1
    exact⟨a1,a2,a3,(vU hok.1 hV hp).2.1,nzL (aFg (fB hp).1) Do⟩
   have Lz:∀y∈(fs.zip vs).map fvS,y.length<=166020:=λy hy=>by
    obtain⟨p,hm,rfl⟩:=bX.mp hy
    obtain⟨a1,a2,a3,a4,a5⟩:=Nq p hm
    have:=lN a2 a4 (by omega) a5
    have h8:=a1.2.1
    rw[gE,rS,aB,aD]
    omega
   have D0:=yN Lz
   rw[aG,Ka]at D0
   have Hv:(xF fs).length=fs.length:=nP
   refine⟨show(xF fs).length<=1000000 by omega,show dP _ _ _ _ _ (xF fs) _ _ from ?_⟩
   have exf:xF fs=(fs.zip vs).map λp=>.tup [.str p.1.1,p.1.2.x]:=by
    rw[gr_]
    have:fs=(fs.zip vs).map (·.1):=by rw[List.map_fst_zip (by omega)]
    conv=>lhs;rw[this]
    rw[cM]
    rfl
   rw[exf]
   refine do_ _ (λp:(Str×Kd)×Vd=>.str (fvS p)) (λp hp Ag P pp=>?_) ?_
   ·obtain ⟨i,hi⟩:=List.getElem?_of_mem hp
    obtain⟨h1,h2⟩:=List.getElem?_zip_eq_some.mp hi
    have hx:=aLu hF.2.2.2 Dz h1 h2
    obtain⟨a1,a2,a3,a4,a5⟩:=Nq p hp
    have h3:=lN a2 a4 (by omega) a5
    have h4:=nR p.1.2 p.2
    have h8:=a1.2.1
    rw[<-gE]at h8
    refine⟨(by show p.1.1.length+1<=1000000;omega),?_⟩
    show match jL (vxF fs vs) (Sum.inr p.1.1)with | some d=>_ | none=>False
    rw[hx]
    exact⟨p.1.2,p.2,_,rfl,rfl,a2,a4,by omega,by omega,a5,(by show(p.1.1 ++ " " : Str).length+(p.1.2.vs p.2).length<=1000000;rw[en_];show _+1+_<=_;omega),pp⟩
   ·refine ⟨(fs.zip vs).map fvS,by rw [aS,cM]; rfl,?_,(by show 1 + (Txt.join jV ((fs.zip vs).map fvS)).length≤1000000; omega),(by show ("{" ++ Txt.join jV ((fs.zip vs).map fvS):Str).length + 1≤1000000; rw [en_]; show 1 + _ + 1≤_; omega),q⟩
    rw[aG,Ka]
    show _+fs.length*2<=16777216
    have:fs.length*166020<=8*166020:=gH _ hF.2.2.1
    omega
  |_=>simp only[Kd.Val]at hV
 |cho ks =>
  cases vd with
  |cho jj v =>
   simp only[Kd.vx]at hi
   subst hi
   simp only[Kd.Val]at hV
   simp only[Kd.Fit]at hF
   simp only[Kd.deep]at hd
   obtain⟨k,hk,Hw⟩:=fx_ hV
   have hm:=bN hk
   obtain⟨a2,a3⟩:=fj_ hF.1 hm
   have He:=nzL (aFh hm) Do
   have hjl:=(aY.mp hk).1
   have h3:=lN a2 Hw (by omega) He
   have h4:=nR k v
   have ht:=he_ (n:=(jj:Int)) (k:=1) (by omega) (by omega) (by decide)
   have De:atI (xK ks) (jj:Int)=some k.x:=pU (by rw[gj_,bV,hk];rfl)
   rw[<-aUd hk]at q
   refine⟨(jj:Int),rfl,by omega,by omega,(by show(cR (jj:Int)).length+1<=1000000;omega),?_⟩
   show match atI (xK ks) (jj:Int)with | some d=>_ | none=>False
   rw[De]
   exact⟨k,v,_,rfl,ir_ hk,a2,Hw,by omega,by omega,He,(by show(cR (jj:Int) ++ ":" : Str).length+(k.vs v).length<=1000000;rw[en_];show _+1+_<=_;omega),q⟩
  |_=>simp only[Kd.Val]at hV
end
theorem uB:∀{l:List Dx} {d:Dx},pdX l->d∈l->d.Pd
 |e::r,d,hs,h=>by
  rcases aF.mp h with rfl | h
  ·exact hs.1
  ·exact uB hs.2 h
theorem g8:∀{l:List (Key×Dx)} {p:Key×Dx},pdK l->p∈l->p.2.Pd
 |e::r,d,hs,h=>by
  rcases aF.mp h with rfl | h
  ·exact hs.1
  ·exact g8 hs.2 h
def zT(n:Nat):GC:=λds Q=>∃d:Dx,ds=[d,d]/\d.Pd/\d.deep<=n/\Q (.tr (.bl true))
section
variable{f:Addr}{n j:Nat}
theorem aKs(F:Fun K "_law_alike" "_law_alike" dg_ f fd)(Ih:Cal P w K mg base j "_law_alike" AI (spX (zT n)))(Ac:mg "isinstance" = none)(m_dict:mg "dict" = none)(Aq:mg "tuple" = none)(m_list:mg "list" = none)(Ad:mg "len" = none)(Af:mg "range" = none)(m_str:mg "str" = none)(m_int:mg "int" = none)(Bf:mg "bool" = none):FnOk P w K mg base CX0 (j+1) f fd AI (spX (zT (n+1))):=by
 refine jA F tJ (λds Q h=>by obtain⟨_,rfl,_⟩:=h;rfl) (by decide) λAk A outer s H E hr=>?_
 have Am:=jM hr
 have Aj:=aR Am
 refine⟨_,(cV (fL (qI (vL .dict Ac (bL (pv 1)) (vB (v:=.ty "dict") rfl m_dict vE rfl))) (cV (fL (XW.pt (uV (fm_ (qI (vL .dict Ac (bL (pv 0)) (vB (v:=.ty "dict") rfl m_dict vE rfl)))) (xZ (eE (gk_ K Aj) kK (jJ (kI K) kY (by rfl) Ad PySem.boot_len (bR (bL (pv 0)) cB)) (jJ (kI K) kY (by rfl) Ad PySem.boot_len (bR (bL (pv 1)) cB)) (bD _))))) (dH (dX iq_)) fW)
  (dH (dX (xL (gV K Aj) hX (vO (dsc:=aM dg_) (N:=AI) (tgs:=["name"]) (outs:=[0,1]) (N':=["name","found","due"]) (by refine⟨rfl,?_,?_,?_,rfl,?_,?_,?_⟩<;>decide +kernel) (pv 1) (λ_ _ _ _ _=>(iU (i:=0) (show(["name","found","due"]:List Str).Nodup by decide +kernel) rfl (Or.inl rfl) (.inr rfl))) (sA (n:=1) (i:=0) (by decide)) (cv_ (by decide)) (λ_ _ _ _ _=>(sS (XW.pt (uV (r9 Am (bL (pv 0)) (bL (pv 1)) (by with_unfolding_all rfl)) (xZ (fm_ (qI (iE Ih (hr.mono (by omega)) (bR (ip_ Am (bL (pv 1)) (bL (pv 0)) (λ_ _=>rfl)) (bR (ip_ Am (bL (pv 2)) (bL (pv 0)) (λ_ _=>rfl)) cB)))))))))) (λ_ _ _ _ _=>(bL (pv 0)))) (pR cB) (bD _))))) fW)
  (cV (fL (XW.pt (uV (qI (vL .tuple Ac (bL (pv 1)) (vB (v:=.ty "tuple") rfl Aq hb_ rfl))) (xZ (qI (vL .list Ac (bL (pv 1)) (vB (v:=.ty "list") rfl m_list nI rfl)))))) (cV (fL (XW.pt (uV (eE (gk_ K Aj) kK (vL .tuple Ac (bL (pv 0)) (vB (v:=.ty "tuple") rfl Aq hb_ rfl)) (vL .tuple Ac (bL (pv 1)) (vB (v:=.ty "tuple") rfl Aq hb_ rfl)) (bD _)) (xZ (eE (gk_ K Aj) kK (vL .list Ac (bL (pv 0)) (vB (v:=.ty "list") rfl m_list nI rfl)) (vL .list Ac (bL (pv 1)) (vB (v:=.ty "list") rfl m_list nI rfl)) (bD _))))) (dH (dX iq_)) fW)
  (cV (fL (eE (gk_ K Aj) kK (jJ (kI K) kY (by rfl) Ad PySem.boot_len (bR (bL (pv 0)) cB)) (jJ (kI K) kY (by rfl) Ad PySem.boot_len (bR (bL (pv 1)) cB)) (bD _)) (dH (dX iq_)) fW)
  (dH (dX (xL (gV K Aj) hX (ea_ (dsc:=aM dg_) (N:=AI) (tgs:=["k"]) (outs:=[0,1]) (N':=["k","found","due"]) (by refine⟨rfl,?_,?_,?_,rfl,?_,?_,?_⟩<;>decide +kernel) (cx_ Af (bR (jJ (kI K) kY (by rfl) Ad PySem.boot_len (bR (bL (pv 1)) cB)) cB)) (λ_ _ _ _ _=>(iU (i:=0) (show(["k","found","due"]:List Str).Nodup by decide +kernel) rfl (Or.inl rfl) (.inr rfl))) (sA (n:=1) (i:=0) (by decide)) (cv_ (by decide)) (λ_ _ _ _ _=>(sS (fm_ (qI (iE Ih (hr.mono (by omega)) (bR (jI K (bL (pv 1)) (bL (pv 0)) (λ_ _=>rfl)) (bR (jI K (bL (pv 2)) (bL (pv 0)) (λ_ _=>rfl)) cB))))))) (λ_ _ _ _ _=>(bL (pv 0)))) (pR cB) (bD _)))))) fW)
  (cV (fL (qI (vL .str Ac (bL (pv 1)) (vB (v:=.ty "str") rfl m_str jp_ rfl))) (dH (dX (lM (vL .str Ac (bL (pv 0)) (vB (v:=.ty "str") rfl m_str jp_ rfl)) (lL (xL (gV K Aj) hX (bL (pv 0)) (bL (pv 1)) (bD _)))))) fW)
  (dH (dX (lM (vL .int Ac (bL (pv 0)) (vB (v:=.ty "int") rfl m_int ez_ rfl)) (lM (aBl (vL .bool Ac (bL (pv 0)) (vB (v:=.ty "bool") rfl Bf p8 rfl))) (lL (xL (gV K Aj) hX (bL (pv 0)) (bL (pv 1)) (bD _)))))))))),λds Q h=>?_⟩
 clear Aj Am
 obtain⟨d,rfl,hp,hd,q⟩:=h
 cases d with
 |int i =>
  show Q (.tr (.bl (decide (i=i))))
  rw[dzT rfl]
  exact q
 |str x =>
  show Q (.tr (.bl (decide (x=x))))
  rw[dzT rfl]
  exact q
 |tup xs =>
  simp only[Dx.Pd]at hp
  simp only[Dx.deep]at hd
  show if(!decide ((xs.length:Int)=(xs.length:Int)))=true then _ else _
  rw[dzT rfl]
  refine⟨⟨by omega,by omega⟩,?_⟩
  rw[show((xs.length:Nat):Int).toNat=xs.length from by omega]
  have Al:(tN 0 xs.length).length<=1000000:=by unfold tN;rw[aG,cD];omega
  refine⟨Al,?_⟩
  show dP _ _ _ _ _ ((List.range xs.length).map λt:Nat=>Dx.int (0+(t:Int))) _ _
  refine db_ (λt:Nat=>Dx.int (0+(t:Int))) (λrest Ag cs=>(∀t∈rest,t<xs.length)/\Ag=[]/\cs=[vT (.tup xs),vT (.tup xs)]) (λAg cs h=>?_) (λt rest Ag cs Pn h hk=>?_) ⟨λt ht=>iH.mp ht,rfl,rfl⟩
  ·obtain ⟨_,rfl,rfl⟩:=h
   exact⟨cF _,q⟩
  ·obtain ⟨ht,rfl,rfl⟩:=h
   have htx:=ht t aA
   obtain⟨d,Jt,Fz⟩:=pY (l:=xs) (i:=0+(t:Int)) (by omega) (by omega)
   have hm:d∈xs:=bN Fz
   have Mb:=fw_ hm
   show match atI xs (0+(t:Int))with | some d=>_ | none=>False
   rw[Jt]
   show match atI xs (0+(t:Int))with | some d=>_ | none=>False
   rw[Jt]
   exact⟨d,rfl,uB hp.2 hm,by omega,hk _ _ ⟨λt' h'=>ht t' (aC _ h'),rfl,rfl⟩⟩
 |lst xs =>
  simp only[Dx.Pd]at hp
  simp only[Dx.deep]at hd
  show if(!decide ((xs.length:Int)=(xs.length:Int)))=true then _ else _
  rw[dzT rfl]
  refine⟨⟨by omega,by omega⟩,?_⟩
  rw[show((xs.length:Nat):Int).toNat=xs.length from by omega]
  have Al:(tN 0 xs.length).length<=1000000:=by unfold tN;rw[aG,cD];omega
  refine⟨Al,?_⟩
  show dP _ _ _ _ _ ((List.range xs.length).map λt:Nat=>Dx.int (0+(t:Int))) _ _
  refine db_ (λt:Nat=>Dx.int (0+(t:Int))) (λrest Ag cs=>(∀t∈rest,t<xs.length)/\Ag=[]/\cs=[vT (.lst xs),vT (.lst xs)]) (λAg cs h=>?_) (λt rest Ag cs Pn h hk=>?_) ⟨λt ht=>iH.mp ht,rfl,rfl⟩
  ·obtain ⟨_,rfl,rfl⟩:=h
   exact⟨cF _,q⟩
  ·obtain ⟨ht,rfl,rfl⟩:=h
   have htx:=ht t aA
   obtain⟨d,Jt,Fz⟩:=pY (l:=xs) (i:=0+(t:Int)) (by omega) (by omega)
   have hm:d∈xs:=bN Fz
   have Mb:=fw_ hm
   show match atI xs (0+(t:Int))with | some d=>_ | none=>False
   rw[Jt]
   show match atI xs (0+(t:Int))with | some d=>_ | none=>False
   rw[Jt]
   exact⟨d,rfl,uB hp.2 hm,by omega,hk _ _ ⟨λt' h'=>ht t' (aC _ h'),rfl,rfl⟩⟩
 |non=>simp only[Dx.Pd]at hp
 |bl b=>simp only[Dx.Pd]at hp
 |dic l =>
  simp only[Dx.Pd]at hp
  simp only[Dx.deep]at hd
  obtain⟨hl,⟨xs,hxs,Nn⟩,hpk⟩:=hp
  have Bw:(l.map (·.1)).Nodup:=by rw[Nn];exact List.Pairwise.map _ (λa b h e=>h (Sum.inr.inj e)) hxs
  refine(show if(!decide ((l.length:Int)=(l.length:Int)))=true then _ else _ from ?_)
  rw[dzT rfl]
  refine⟨show l.length<=_ by omega,show dP _ _ _ _ _ (iQ l) _ _ from ?_⟩
  refine db_ (λp:Key×Dx=>pE p.1) (λrest Ag cs=>(∀p∈rest,p∈l)/\Ag=[]/\cs=[vT (.dic l),vT (.dic l)]) (λAg cs h=>?_) (λp rest Ag cs Pn h hk=>?_) ⟨λp hp=>hp,rfl,rfl⟩
  ·obtain ⟨_,rfl,rfl⟩:=h
   exact⟨cF _,q⟩
  ·obtain ⟨B9,rfl,rfl⟩:=h
   have hm:=B9 p aA
   have hg:=jk_ Bw hm
   have Mb:=hr_ hm
   obtain⟨pk,pd⟩:=p
   have hx:∃x,pk=Sum.inr x:=by
    have:pk∈l.map (·.1):=bX.mpr ⟨(pk,pd),hm,rfl⟩
    rw[Nn]at this
    obtain⟨x,_,e⟩:=bX.mp this
    exact⟨x,e.symm⟩
   obtain⟨x,rfl⟩:=hx
   have Cv:jL l (Sum.inr x)=some pd:=hg
   show if(!(jL l (Sum.inr x)).isSome)=true then _ else _
   rw[Cv]
   show match jL l (Sum.inr x)with | some d=>_ | none=>False
   rw[Cv]
   show match jL l (Sum.inr x)with | some d=>_ | none=>False
   rw[Cv]
   exact⟨pd,rfl,g8 hpk hm,by have:pd.deep<=pL l:=Mb;omega,hk _ _ ⟨λp' h'=>B9 p' (aC _ h'),rfl,rfl⟩⟩
 |scr _ _=>simp only[Dx.Pd]at hp
 |ins _ _=>simp only[Dx.Pd]at hp
 |exc _=>simp only[Dx.Pd]at hp
end
def gCH:GB:=λl ds Q=>∃x:Str,ds=[.str x]/\dS l/\x.length<=170000/\∀(x':Str) (l':List Dx),x'.length<=900000->dS l'->Q (.str x') l'
def aNv (K : cZ) : XS := (cI (eZ 2 (xOp aSi (xOp eY (dO gTK 1 (aW (xC (.int 64)) cJ)) (xOp w4 (xC (.int 64)) (dO gTK 1 (aW (xC (.int 64)) cJ)))) (xOp eY (cX uL (aW (bM 0) cJ)) (xC (.int 1)))))
    (cI (eZ 3 (xOp ixX (xC (.str "0123456789abnz{}<>[]*/:, -+_.\n\t")) (dO gTK 1 (aW (xC (.int 31)) cJ))))
    (cI (eZ 4 (dO gTK 1 (aW (xC (.int 9)) cJ)))
    (cI (xIf (xB (xOp eqX (bM 4) (xC (.int 0)))) (gW (xOp eY (xSl (bM 0) xoN (xoS (bM 2))) (xSl (bM 0) (xoS (xOp eY (bM 2) (xC (.int 1)))) xoN))) fD)
    (cI (xIf (xB (xOp ltX (bM 4) (xC (.int 3)))) (gW (xOp eY (xOp eY (xSl (bM 0) xoN (xoS (bM 2))) (bM 3)) (xSl (bM 0) (xoS (xOp aWw (xOp eY (bM 2) (bM 4)) (xC (.int 1)))) xoN))) fD)
    (cI (xIf (xB (xOp eqX (bM 4) (xC (.int 3)))) (gW (xOp eY (xOp eY (xSl (bM 0) xoN (xoS (bM 2))) (aNb (xSl (bM 0) (xoS (bM 2)) (xoS (xOp eY (bM 2) (xC (.int 2))))))) (xSl (bM 0) (xoS (xOp eY (bM 2) (xC (.int 2)))) xoN))) fD)
    (cI (xIf (xB (xOp eqX (bM 4) (xC (.int 4)))) (cI (eZ 5 (xOp ixX (iV (aW (xC (.str ", ")) (aW (xC (.str "0")) (aW (xC (.str "00")) (aW (xC (.str " ")) (aW (xC (.str "*2")) (aW (xC (.str "1:")) (aW (xC (.str "{}")) (aW (xC (.str "<>")) (aW (xC (.str "[]")) (aW (xC (.str "\n")) cJ))))))))))) (dO gTK 1 (aW (xC (.int 10)) cJ))))
    (gW (xOp eY (xOp eY (xSl (bM 0) xoN (xoS (bM 2))) (bM 5)) (xSl (bM 0) (xoS (bM 2)) xoN)))) fD)
    (cI (xIf (xB (xOp eqX (bM 4) (xC (.int 5)))) (gW (xOp eY (xOp ixX (iV (aW (xC (.str " ")) (aW (xC (.str "\n")) (aW (xC (.str "{")) (aW (xC (.str "<")) (aW (xC (.str "[")) (aW (xC (.str "0")) cJ))))))) (dO gTK 1 (aW (xC (.int 6)) cJ))) (bM 0))) fD)
    (cI (xIf (xB (xOp eqX (bM 4) (xC (.int 6)))) (gW (xOp eY (bM 0) (xOp ixX (iV (aW (xC (.str " ")) (aW (xC (.str "\n")) (aW (xC (.str "}")) (aW (xC (.str ">")) (aW (xC (.str "]")) (aW (xC (.str "0")) (aW (xC (.str ", ")) (aW (xC (.str "*0")) (aW (xC (.str "*21")) (aW (xC (.str "*1")) cJ))))))))))) (dO gTK 1 (aW (xC (.int 10)) cJ))))) fD)
    (cI (xIf (xB (xOp eqX (bM 4) (xC (.int 7)))) (gW (aNc ", " (bM 0) (aWd [","," ,",",  ","; "] (dO gTK 1 (aW (xC (.int 4)) cJ))))) fD)
    (gW (xOp eY (xOp eY (xSl (bM 0) xoN (xoS (bM 2))) (xSl (bM 0) (xoS (bM 2)) (xoS (xOp eY (bM 2) (xC (.int 6)))))) (xSl (bM 0) (xoS (bM 2)) xoN)))))))))))))
section
variable{f:Addr}
theorem aUa(A1:Cal P w K mg base 1 "_law_take" AD (spB gTK))(Ad:mg "len" = none)
  {Ak:Value} {A:Around} {outer:List Env} {s:Shared} {H:Hp} {E:XK} (hr:Room 1 (A.deeper (PyProof.Rows.envOfC "_law_changed" (aM cr_) s.heap.objs.size f Ak))) :
  XSs (iS CX0 P w K mg base (["text","deck","at","sign","way","more"]:List Str) "_law_changed" (aM cr_) f Ak A outer s H E).nox dR (eG cr_) (aNv K):=by
 have Am:=jM hr
 have Aj:=aR Am
 exact(iT (gN (Bx.mk (fM (i:=2) fI.nd rfl (Or.inl rfl) (fp_ (gA (jB (i:=1) A1 (hr.mono (by omega)) (pv 1) (bR cK cB)) (eo_ cK (jB (i:=1) A1 (hr.mono (by omega)) (pv 1) (bR cK cB)))) (gA (jJ (kI K) kY (by rfl) Ad PySem.boot_len (bR (bL (pv 0)) cB)) cK))))
  (gN (Bx.mk (fM (i:=3) fI.nd rfl (Or.inl rfl) (jI K fU (jB (i:=1) A1 (hr.mono (by omega)) (pv 1) (bR cK cB)) (λ_ _=>rfl))))
  (gN (Bx.mk (fM (i:=4) fI.nd rfl (Or.inl rfl) (jB (i:=1) A1 (hr.mono (by omega)) (pv 1) (bR cK cB))))
  (gN (Bx.mk (fL (eE (gV K Aj) hX (bL (pv 4)) cK (bD _)) (iT (lR (Bx.mk (dX (gA (kX K (bL (pv 0)) lZ (jO (bL (pv 2)))) (kX K (bL (pv 0)) (jO (gA (bL (pv 2)) cK)) lZ)))))) fW))
  (gN (Bx.mk (fL (eE vI vJ (bL (pv 4)) cK (bD _)) (iT (lR (Bx.mk (dX (gA (gA (kX K (bL (pv 0)) lZ (jO (bL (pv 2)))) (bL (pv 3))) (kX K (bL (pv 0)) (jO (io_ (gA (bL (pv 2)) (bL (pv 4))) cK)) lZ)))))) fW))
  (gN (Bx.mk (fL (eE (gV K Aj) hX (bL (pv 4)) cK (bD _)) (iT (lR (Bx.mk (dX (gA (gA (kX K (bL (pv 0)) lZ (jO (bL (pv 2)))) (aIb (kX K (bL (pv 0)) (jO (bL (pv 2))) (jO (gA (bL (pv 2)) cK))))) (kX K (bL (pv 0)) (jO (gA (bL (pv 2)) cK)) lZ)))))) fW))
  (gN (sF (Bx.mk (eE (gV K Aj) hX (bL (pv 4)) cK (bD _))) (gN (jq_ (i:=5) fI.nd rfl (Or.inl rfl) (pW K (hc_ (fV jN (fV jN (fV jN (fV jN (fV jN (fV jN (fV jN (fV jN (fV jN (fV jN vK))))))))))) (gg_ (i:=1) A1 (hr.mono (by omega)) (pv 1) (fV qD vK)) (λ_ _=>rfl)))
  (lR (Bx.mk (dX (gA (gA (kX K (bL (pv 0)) lZ (jO (bL (pv 2)))) (bL (pv 5))) (kX K (bL (pv 0)) (jO (bL (pv 2))) lZ)))))) hs_)
  (gN (sF (Bx.mk (eE (gV K Aj) hX (bL (pv 4)) cK (bD _))) (lR (vF (pX (pW K (hc_ (fV jN (fV jN (fV jN (fV jN (fV jN (fV jN vK))))))) (gg_ (i:=1) A1 (hr.mono (by omega)) (pv 1) (fV qD vK)) (λ_ _=>rfl)) (hw_ (pv 0))))) hs_)
  (gN (sF (Bx.mk (eE (gV K Aj) hX (bL (pv 4)) cK (bD _))) (lR (vF (pX (hw_ (pv 0)) (pW K (hc_ (fV jN (fV jN (fV jN (fV jN (fV jN (fV jN (fV jN (fV jN (fV jN (fV jN vK))))))))))) (gg_ (i:=1) A1 (hr.mono (by omega)) (pv 1) (fV qD vK)) (λ_ _=>rfl))))) hs_)
  (gN (Bx.mk (aPe (gV K Aj) hX (bL (pv 4)) (bD _) (aBj (aHx (aBq (bL (pv 0)) (aIg (ib_ (ib_ (ib_ (ib_ aIh)))) (by decide) (jB (i:=1) A1 (hr.mono (by omega)) (pv 1) (bR cK cB)) (λ_ _=>rfl))))) fW))
  (lR (Bx.mk (dX (gA (gA (kX K (bL (pv 0)) lZ (jO (bL (pv 2)))) (kX K (bL (pv 0)) (jO (bL (pv 2))) (jO (gA (bL (pv 2)) cK)))) (kX K (bL (pv 0)) (jO (bL (pv 2))) lZ))))))))))))))))
end
theorem wX{x:Str}{a b:Option Int}{n:Nat}(h:x.length<=n):(Txt.slice x a b).length<=n:=nzL (Txt.slice_le x a b) h
theorem zW{x y:Str}{n m:Nat}(h:x.length<=n)(h':y.length<=m):(x++y).length<=n+m:=by rw[en_];omega
theorem aQi{x:Str}{n:Nat}(h:x.length<=n):(u6 x).length<=n:=by rw[oM];exact h
theorem aLg{z:Str}{r:Int}{Q:Sv->Prop}(h0:0<=r)(h1:r<z.length)(h2:z.length<=1000000)(q:∀c,Q (.tr (.str ⟨#[c]⟩))):ixX (.str z) (.int r) Q:=by
 refine⟨h2,?_⟩
 obtain⟨c,hc,_⟩:=pY (l:=z.cps.toList) h0 (by rw[Array.length_toList];exact h1)
 rw[hc]
 exact q c
theorem six{l:List Str}{n:Nat}(h:∀z∈l,z.length<=n){r:Int}{Q:Sv->Prop}(h0:0<=r)(h1:r<l.length)(q:∀z:Str,z.length<=n->Q (.tr (.str z))):ixX (.lst (l.map Dx.str)) (.int r) Q:=gl_ h0 (by rw[aG];exact h1) λd hd=>by
 obtain⟨z,hz,rfl⟩:=bX.mp hd
 exact q z (h z hz)
section
variable{f:Addr}
theorem aSa(F:Fun K "_law_changed" "_law_changed" cr_ f fd)(A1:Cal P w K mg base 1 "_law_take" AD (spB gTK))(Ad:mg "len" = none):FnOk P w K mg base CX0 2 f fd AL (kS gCH):=by
 refine aGh F fI (λl ds Q h=>by obtain⟨_,rfl,_⟩:=h;rfl) rfl (by decide) λAk A outer s H E hr=>?_
 refine⟨_,aUa A1 Ad hr,λl d Q h=>?_⟩
 clear hr
 obtain⟨x,e,hN,hx,q⟩:=h
 cases e
 unfold aNv
 have Ck:x.length<=1000000:=by omega
 refine⟨rfl,64,rfl,hN,by decide,λr1 l1 a0 a1 F0=>?_⟩
 refine⟨rfl,64,rfl,F0,by decide,λr2 l2 b0 b1 Hg=>?_⟩
 refine⟨⟨by decide,by omega⟩,Ck,?_⟩
 refine⟨by show(0:Int)<(x.length:Int)+1;omega,?_⟩
 dsimp only
 generalize (r1+64*r2)%((x.length:Int)+1)=at_
 change cI _ _ [vT (.str x),.bw l2,vT (.int at_),.un,.un,.un] _
 refine lP (kL (wU ?_))
 refine⟨rfl,31,rfl,Hg,by decide,λr3 l3 c0 c1 Ie=>?_⟩
 refine aLg c0 c1 (by decide) λc=>?_
 refine⟨rfl,9,rfl,Ie,by decide,λway l4 w0 w1 Fp=>?_⟩
 dsimp only
 have Jc:(⟨#[c]⟩:Str).length=1:=rfl
 generalize (⟨#[c]⟩:Str)=sign at Jc ⊢
 change cI _ _ [vT (.str x),.bw l4,vT (.int at_),vT (.str sign),vT (.int way),.un] _
 have At:∀(z:Str) (n:Nat) (l':List Dx),z.length<=n->n<=900000->dS l'->Q (.str z) l':=λz n l' h h' hn=>q z l' (nzL h h') hn
 refine kZ (decide (way=0)) (ρ':=[vT (.str x),.bw l4,vT (.int at_),vT (.str sign),vT (.int way),.un]) (λQ q=>q) (λ_=>?_) (λ_=>?_)
 ·have h1:=wX (a:=none) (b:=some at_) hx
  have h2:=wX (a:=some (at_+1)) (b:=none) hx
  exact⟨Ck,Ck,⟨by omega,At _ _ _ (zW h1 h2) (by decide) Fp⟩⟩
 refine kZ (decide (way<3)) (ρ':=[vT (.str x),.bw l4,vT (.int at_),vT (.str sign),vT (.int way),.un]) (λQ q=>q) (λ_=>?_) (λ_=>?_)
 ·have h1:=wX (a:=none) (b:=some at_) hx
  have h2:=wX (a:=some (at_+way-1)) (b:=none) hx
  have h3:=zW h1 (Nat.le_of_eq Jc)
  exact⟨Ck,⟨by omega,Ck,⟨by omega,At _ _ _ (zW h3 h2) (by decide) Fp⟩⟩⟩
 refine kZ (decide (way=3)) (ρ':=[vT (.str x),.bw l4,vT (.int at_),vT (.str sign),vT (.int way),.un]) (λQ q=>q) (λ_=>?_) (λ_=>?_)
 ·have h1:=wX (a:=none) (b:=some at_) hx
  have h2:=aQi (wX (a:=some at_) (b:=some (at_+2)) hx)
  have h3:=wX (a:=some (at_+2)) (b:=none) hx
  have h4:=zW h1 h2
  refine⟨Ck,Ck,?_⟩
  refine⟨by have:=wX (a:=some at_) (b:=some (at_+2)) hx;omega,?_⟩
  exact⟨by omega,Ck,⟨by omega,At _ _ _ (zW h4 h3) (by decide) Fp⟩⟩
 refine kZ (decide (way=4)) (ρ':=[vT (.str x),.bw l4,vT (.int at_),vT (.str sign),vT (.int way),.un]) (λQ q=>q) (λ_=>?_) (λ_=>?_)
 ·refine ⟨pD (by show 10≤1000000; decide),rfl,10,rfl,Fp,by decide,fun r5 l5 d0 d1 Gj => ?_⟩
  refine six (l:=[", ","0","00"," ","*2","1:","{}","<>","[]","\n"]) (n:=2) (by decide) d0 d1 λz hz=>?_
  have h1:=wX (a:=none) (b:=some at_) hx
  have h2:=wX (a:=some at_) (b:=none) hx
  have h3:=zW h1 hz
  exact⟨Ck,⟨by omega,Ck,⟨by omega,At _ _ _ (zW h3 h2) (by decide) Gj⟩⟩⟩
 refine kZ (decide (way=5)) (ρ':=[vT (.str x),.bw l4,vT (.int at_),vT (.str sign),vT (.int way),.un]) (λQ q=>q) (λ_=>?_) (λ_=>?_)
 ·refine ⟨pD (by show 6≤1000000; decide),rfl,6,rfl,Fp,by decide,fun r5 l5 d0 d1 Gj => ?_⟩
  refine six (l:=[" ","\n","{","<","[","0"]) (n:=2) (by decide) d0 d1 λz hz=>?_
  exact⟨by omega,At _ _ _ (zW hz hx) (by decide) Gj⟩
 refine kZ (decide (way=6)) (ρ':=[vT (.str x),.bw l4,vT (.int at_),vT (.str sign),vT (.int way),.un]) (λQ q=>q) (λ_=>?_) (λ_=>?_)
 ·refine ⟨pD (by show 10≤1000000; decide),rfl,10,rfl,Fp,by decide,fun r5 l5 d0 d1 Gj => ?_⟩
  refine six (l:=[" ","\n","}",">","]","0",", ","*0","*21","*1"]) (n:=3) (by decide) d0 d1 λz hz=>?_
  exact⟨by omega,At _ _ _ (zW hx hz) (by decide) Gj⟩
 refine kZ (decide (way=7)) (ρ':=[vT (.str x),.bw l4,vT (.int at_),vT (.str sign),vT (.int way),.un]) (λQ q=>q) (λ_=>?_) (λ_=>?_)
 ·refine ⟨⟨x,rfl⟩,rfl,4,rfl,Fp,by decide,fun r5 l5 d0 d1 Gj => ?_⟩
  have hz:∃z:Str,([Str.ofString ",",Str.ofString " ,",Str.ofString ",  ",Str.ofString "; "]:List Str)[r5.toNat]? = some z/\z.length<=3/\((Str.ofString ", ") == z)=false:=by
   have:r5=0\/r5=1\/r5=2\/r5=3:=by omega
   rcases this with rfl | rfl | rfl | rfl
   ·exact⟨_,rfl,by decide,by decide⟩
   ·exact⟨_,rfl,by decide,by decide⟩
   ·exact⟨_,rfl,by decide,by decide⟩
   ·exact⟨_,rfl,by decide,by decide⟩
  obtain⟨z,z1,z2,z3⟩:=hz
  refine⟨r5.toNat,z,by rw[show((r5.toNat:Nat):Int)=r5 from by omega];rfl,z1,x,z,rfl,rfl,z3,by omega,λx' h'=>At x' 170003 _ (by omega) (by decide) Gj⟩
 ·have h1:=wX (a:=none) (b:=some at_) hx
  have h2:=wX (a:=some at_) (b:=some (at_+6)) hx
  have h3:=wX (a:=some at_) (b:=none) hx
  have h4:=zW h1 h2
  exact⟨Ck,Ck,⟨by omega,Ck,⟨by omega,At _ _ _ (zW h4 h3) (by decide) Fp⟩⟩⟩
end
def aNt (K : cZ) : XS := (cI (eZ 2 (cX aGd (aW (xSl (bM 0) (xoS (xC (.int 1))) (xoS (aBx (xC (.int 1))))) cJ)))
    (cI (eZ 3 (xC (.int 0)))
    (cI (sT (yF (xB (xOp ltX (bM 3) (cX uL (aW (bM 0) cJ)))) (xB (xOp (aFs true) (xOp ixX (bM 0) (bM 3)) (xC (.str "0123456789"))))) (eZ 3 (xOp eY (bM 3) (xC (.int 1)))))
    (cI (xIf (xOr (xB (aBy 2)) (xB (xOp eqX (dO gTK 1 (aW (xC (.int 3)) cJ)) (xC (.int 0))))) (cI (eZ 4 (iV (aW (xC (.str "256")) (aW (xC (.str "255")) (aW (xC (.str "65536")) (aW (xC (.str "18446744073709551615")) (aW (xC (.str "18446744073709551616")) (aW (xC (.str "00")) (aW (xOp w4 (xC (.str "1")) (xC (.int 21))) (aW (xC (.str "-1")) cJ))))))))))
    (gW (xOp eY (xOp eY (xSl (bM 0) xoN (xoS (bM 3))) (xOp ixX (bM 4) (dO gTK 1 (aW (xC (.int 8)) cJ)))) (xSl (bM 0) (xoS (xOp eY (bM 3) (xC (.int 1)))) xoN)))) fD)
    (cI (eZ 5 (dO gTK 1 (aW (aBu 2) cJ)))
    (cI (eZ 6 (dO gTK 1 (aW (aBu 2) cJ)))
    (cI (eZ 7 (dO gTK 1 (aW (xC (.int 3)) cJ)))
    (cI (xIf (xB (xOp eqX (bM 7) (xC (.int 0)))) (eZ 2 (xOp eY (xSl (bM 2) xoN (xoS (bM 5))) (xSl (bM 2) (xoS (xOp eY (bM 5) (xC (.int 1)))) xoN))) (xIf (xB (xOp eqX (bM 7) (xC (.int 1)))) (eZ 2 (xOp eY (xOp eY (xSl (bM 2) xoN (xoS (bM 5))) (iV (aW (xOp ixX (bM 2) (bM 6)) cJ))) (xSl (bM 2) (xoS (bM 5)) xoN))) (cI (eZ 8 (aBv ixP 2 (bM 5)))
    (cI (aBt 2 (bM 5) (aBv ixP 2 (bM 6)))
    (aBt 2 (bM 6) (bM 8))))))
    (gW (xOp eY (xOp eY (xSl (bM 0) xoN (xoS (xC (.int 1)))) (aNe ", " (bM 2))) (xSl (bM 0) (xoS (aBx (xC (.int 1)))) xoN)))))))))))
section
variable{f:Addr}
theorem aTz(A1:Cal P w K mg base 1 "_law_take" AD (spB gTK))(J3:Cal P w K mg base 1 "_law_parts" AW (spX aGd))(Ad:mg "len" = none)
  {Ak:Value} {A:Around} {outer:List Env} {s:Shared} {H:Hp} {E:XK} (hr:Room 1 (A.deeper (PyProof.Rows.envOfC "_law_parts_changed" (aM bo_) s.heap.objs.size f Ak))) :
  XSs (iS CX0 P w K mg base (["text","deck","parts","at","some","one","other","way","kept"]:List Str) "_law_parts_changed" (aM bo_) f Ak A outer s H E).nox dR (eG bo_) (aNt K):=by
 have Am:=jM hr
 have Aj:=aR Am
 exact(iT (gN (Bx.mk (fM (i:=2) bZ.nd rfl (Or.inl rfl) (iE J3 (hr.mono (by omega)) (bR (kX K (bL (pv 0)) (jO cK) (jO (ht_ cK))) cB))))
  (gN (Bx.mk (fM (i:=3) bZ.nd rfl (Or.inl rfl) cK))
  (gN (Bx.mk (nN PassesOwn.never (XW.pt (gh_ (eE vI vJ (bL (pv 3)) (jJ (kI K) kY (by rfl) Ad PySem.boot_len (bR (bL (pv 0)) cB)) (bD _)) (el_ (eE hv_ aEm (jI K (bL (pv 0)) (bL (pv 3)) (λ_ _=>rfl)) fU (by with_unfolding_all rfl))))) (iT (lR (Bx.mk (fM (i:=3) bZ.nd rfl (Or.inl rfl) (gA (bL (pv 3)) cK)))))))
  (gN (sF (Bx.mk (XW.pt (uV (aBi (pv 2) (bD _)) (xZ (eE (gV K Aj) hX (jB (i:=1) A1 (hr.mono (by omega)) (pv 1) (bR cK cB)) cK (bD _)))))) (gN (jq_ (i:=4) bZ.nd rfl (Or.inl rfl) (hc_ (fV jN (fV jN (fV jN (fV jN (fV jN (fV jN (fV (aUj jN qD) (fV jN vK))))))))))
  (lR (Bx.mk (dX (gA (gA (kX K (bL (pv 0)) lZ (jO (bL (pv 3)))) (jI K (bL (pv 4)) (jB (i:=1) A1 (hr.mono (by omega)) (pv 1) (bR cK cB)) (λ_ _=>rfl))) (kX K (bL (pv 0)) (jO (gA (bL (pv 3)) cK)) lZ)))))) hs_)
  (gN (Bx.mk (fM (i:=5) bZ.nd rfl (Or.inl rfl) (jB (i:=1) A1 (hr.mono (by omega)) (pv 1) (bR (vM K (by rfl) Ad PySem.boot_len (pv 2)) cB))))
  (gN (Bx.mk (fM (i:=6) bZ.nd rfl (Or.inl rfl) (jB (i:=1) A1 (hr.mono (by omega)) (pv 1) (bR (vM K (by rfl) Ad PySem.boot_len (pv 2)) cB))))
  (gN (Bx.mk (fM (i:=7) bZ.nd rfl (Or.inl rfl) (jB (i:=1) A1 (hr.mono (by omega)) (pv 1) (bR cK cB))))
  (gN (Bx.mk (fL (eE (gV K Aj) hX (bL (pv 7)) cK (bD _)) (iT (lR (Bx.mk (fM (i:=2) bZ.nd rfl (Or.inl rfl) (gA (kX K (bL (pv 2)) lZ (jO (bL (pv 5)))) (kX K (bL (pv 2)) (jO (gA (bL (pv 5)) cK)) lZ)))))) (iT (lR (Bx.mk (fL (eE (gV K Aj) hX (bL (pv 7)) cK (bD _)) (iT (lR (Bx.mk (fM (i:=2) bZ.nd rfl (Or.inl rfl) (gA (gA (kX K (bL (pv 2)) lZ (jO (bL (pv 5)))) (pR (bR (jI K (bL (pv 2)) (bL (pv 6)) (λ_ _=>rfl)) cB))) (kX K (bL (pv 2)) (jO (bL (pv 5))) lZ)))))) (iT (gN (Bx.mk (fM (i:=8) bZ.nd rfl (Or.inl rfl) (sO K (pv 2) (bL (pv 5)) (λ_ _=>rfl))))
  (gN (Bx.mk (z6 λF=>PS.weak (iy_ (XE.at (Ex:=dR) F (sO K (pv 2) (bL (pv 6)) (λ_ _=>rfl))) (yW (pv 2) (XE.at (Ex:=dR) F (bL (pv 5))) oC)) tE))
  (lR (Bx.mk (z6 λF=>PS.weak (iy_ (XE.at (Ex:=dR) F (bL (pv 8))) (yW (pv 2) (XE.at (Ex:=dR) F (bL (pv 6))) oC)) tE))))))))))))
  (lR (Bx.mk (dX (gA (gA (kX K (bL (pv 0)) lZ (jO cK)) (sP (bL (pv 2)))) (kX K (bL (pv 0)) (jO (ht_ cK)) lZ))))))))))))))
end
def gOD:GC:=λds Q=>∃n:Int,ds=[.int n]/\0<=n/\∀x:Str,x.length<=100->Q (.tr (.str x))
section
variable{f:Addr}
theorem aRu(F:Fun K "_law_odd" "_law_odd" iu_ f fd)(Ad:mg "len" = none):FnOk P w K mg base CX0 1 f fd ["number"] (spX gOD):=by
 refine aZb F gX (λds Q h=>by obtain⟨_,rfl,_⟩:=h;rfl) (by decide) λAk A outer s H E hr=>?_
 have Am:=jM hr
 have Aj:=aR Am
 refine⟨_,(gN (jq_ (i:=1) gX.nd rfl (Or.inl rfl) (nJ (zs:=[""," ","0","00","-0","+1","1_0","1.0","x","[]","{}","[0]","[0, 0]","[0,0]","[0, ]"]) (by rfl)))
  (gN (jq_ (i:=1) gX.nd rfl (Or.inl rfl) (pX (hw_ (pv 1)) (nJ (zs:=["[, 0]","0:0","0:",":0","1:0","00:0","0: 0","0:0:0","{a 0}","{a  0}","{ a 0}"]) (by rfl))))
  (gN (jq_ (i:=1) gX.nd rfl (Or.inl rfl) (pX (hw_ (pv 1)) (nJ (zs:=["{a 0, }","{a 0, b 0}","(0)"]) (by rfl))))
  (gN (jq_ (i:=1) gX.nd rfl (Or.inl rfl) (pX (hw_ (pv 1)) (nJ (zs:=["{a:0}","a 0","[[0]]","0\n","0x1","255","256","None","True"]) (by rfl))))
  (lR (vF (pW K (hw_ (pv 1)) (aUk (hw_ (pv 0)) (aHg (kI K) kY (by rfl) Ad PySem.boot_len (fV (hw_ (pv 1)) vK))) (λ_ _=>rfl)))))))),λds Q h=>?_⟩
 clear hr Aj Am
 obtain⟨n,rfl,h0,q⟩:=h
 refine lP ⟨by decide,?_⟩
 refine lP ?_
 refine⟨by decide,by show 15+11<=1000000;decide,?_⟩
 refine lP ?_
 refine⟨by decide,by show 26+3<=1000000;decide,?_⟩
 refine lP ?_
 refine⟨by decide,by show 29+9<=1000000;decide,?_⟩
 refine⟨by show(0:Int)<38;decide,?_⟩
 have m0:0<=n%38:=dN _ (by decide)
 have m1:n%38<38:=cT _ (by decide)
 refine six (n:=100) (l:=([Str.ofString "",Str.ofString " ",Str.ofString "0",Str.ofString "00",Str.ofString "-0",Str.ofString "+1",Str.ofString "1_0",Str.ofString "1.0",Str.ofString "x",Str.ofString "[]",Str.ofString "{}",Str.ofString "[0]",Str.ofString "[0, 0]",Str.ofString "[0,0]",Str.ofString "[0, ]",Str.ofString "[, 0]",Str.ofString "0:0",Str.ofString "0:",Str.ofString ":0",Str.ofString "1:0",Str.ofString "00:0",Str.ofString "0: 0",Str.ofString "0:0:0",Str.ofString "{a 0}",Str.ofString "{a  0}",Str.ofString "{ a 0}",Str.ofString "{a 0, }",Str.ofString "{a 0, b 0}",Str.ofString "(0)",Str.ofString "{a:0}",Str.ofString "a 0",Str.ofString "[[0]]",Str.ofString "0\n",Str.ofString "0x1",Str.ofString "255",Str.ofString "256",Str.ofString "None",Str.ofString "True"]:List Str)) (by decide) m0 m1 λz hz=>?_
 exact q z hz
end
def mkS(p:List Nat):Str:=⟨p.toArray⟩
theorem aIn(ps:List (List Nat)):ps.map txS=(ps.map mkS).map Dx.str:=by rw[cM];rfl
theorem aMc{a b:List (List Nat)}(h:a.Sublist b):(eJ a).length<=(eJ b).length:=by
 induction h with
 |slnil=>exact bA _
 |cons x _ ih=>rw[zZ,aD,aD,aB];omega
 |cons_cons x _ ih=>rw[zZ,zZ];simp only[aD,aB];omega
theorem dv_{ps:List (List Nat)}{lo hi:Option Int}:fK (ps.map txS) lo hi=(fK ps lo hi).map txS:=by
 unfold fK
 rw[aG,List.map_take,List.map_drop]
theorem uZ{ps:List (List Nat)}{lo hi:Option Int}:(eJ (fK ps lo hi)).length<=(eJ ps).length:=aMc ((List.take_sublist _ _).trans (List.drop_sublist _ _))
theorem pO{ps:List (List Nat)}{lo hi:Option Int}:(fK ps lo hi).length<=ps.length:=((List.take_sublist _ _).trans (List.drop_sublist _ _)).length_le
theorem tI:∀{ps:List (List Nat)} {i:Nat} {p:List Nat},(eJ (ps.set i p)).length<=(eJ ps).length+p.length+2
 | [],i,p=>by show(eJ []).length<=_;omega
 |q::r,0,p=>by rw[List.set_cons_zero,zZ,zZ];simp only[aD,aB];omega
 |q::r,i+1,p=>by rw[List.set_cons_succ,zZ,zZ];have:=tI (ps:=r) (i:=i) (p:=p);simp only[aD,aB];omega
theorem k_:∀(ps:List (List Nat)),((ps.map mkS).map (·.length)).sum+(ps.map mkS).length*2=(eJ ps).length
 | []=>rfl
 |q::r=>by
  have:=k_ r
  have hq:(mkS q).length=q.length:=by rw[gE];rfl
  rw[zZ]
  simp only[bB,List.sum_cons,aD,aB,hq]at this ⊢
  omega
theorem aFo{ps:List (List Nat)}:(Txt.join jV (ps.map mkS)).length<=(eJ ps).length:=by
 cases ps with
 |nil=>decide
 |cons q r =>
  rw[gE,gq_ _ (by simp),bS,cM]
  exact Nat.sub_le _ _
def PcS(s:Sv):Prop:=s=.tr .non\/∃ps:List (List Nat),s=.ol (ps.map txS)/\ps≠[]/\(eJ ps).length<=170002
section
variable{f:Addr}
theorem aRt(F:Fun K "_law_parts_changed" "_law_parts_changed" bo_ f fd)(A1:Cal P w K mg base 1 "_law_take" AD (spB gTK))(J3:Cal P w K mg base 1 "_law_parts" AW (spX aGd))(Ad:mg "len" = none):FnOk P w K mg base CX0 2 f fd AL (kS gCH):=by
 refine aGh F bZ (λl ds Q h=>by obtain⟨_,rfl,_⟩:=h;rfl) rfl (by decide) λAk A outer s H E hr=>?_
 refine⟨_,aTz A1 J3 Ad hr,λl d Q h=>?_⟩
 clear hr
 obtain⟨x,e,hN,hx,q⟩:=h
 cases e
 unfold aNt
 have Ck:x.length<=1000000:=by omega
 have Jl:=gE x
 have At:∀(z:Str) (n:Nat) (l':List Dx),z.length<=n->n<=900000->dS l'->Q (.str z) l':=λz n l' h h' hn=>q z l' (nzL h h') hn
 refine cp_ (M:=λρ=>∃s,PcS s/\ρ=[vT (.str x),.bw l,.v s,.un,.un,.un,.un,.un,.un]) ?_ (λD' Dv=>?_)
 case refine_2 =>
  have Iz:=Txt.slice_le x (some 1) (some (-1))
  refine⟨Ck,Txt.slice x (some 1) (some (-1)),rfl,by omega,λps Cg=>?_,λCg=>?_⟩
  ·obtain ⟨hs,Bv⟩:=iw_ Cg
   have h3:=congrArg List.length hs
   rw[bS,<-gE]at h3
   exact Dv _ ⟨_,.inr ⟨ps,rfl,Bv,by omega⟩,rfl⟩
  ·exact Dv _ ⟨_,.inl rfl,rfl⟩
 rintro ρ ⟨sp,Ch,rfl⟩
 refine lP ?_
 show cI (sT _ _) _ [vT (.str x),.bw l,.v sp,vT (.int 0),.un,.un,.un,.un,.un] _
 refine eb_ (λρ=>∃at_:Int,ρ=[vT (.str x),.bw l,.v sp,vT (.int at_),.un,.un,.un,.un,.un]) ?_ (λnx C3=>?_)
 case refine_2 =>
  refine⟨λm ρ=>∃k:Nat,k+m=x.length/\ρ=[vT (.str x),.bw l,.v sp,vT (.int (k:Int)),.un,.un,.un,.un,.un],⟨x.length,0,by omega,rfl⟩,?_⟩
  rintro m ρ ⟨k,hk,rfl⟩
  refine⟨Ck,?_⟩
  by_cases C6:k<x.length
  ·have hd:decide ((k:Int) < ((x.length:Nat):Int))=true:=dzT (by omega)
   refine(if_pos hd).mpr ?_
   obtain⟨c,hc⟩:∃c,(aJ x)[k]? = some c:=⟨_,aO (by omega)⟩
   have De:atI x.cps.toList (k:Int)=some c:=pU hc
   refine⟨Ck,?_⟩
   show match atI x.cps.toList (k:Int)with | some c=>_ | none=>False
   rw[De]
   show if(!(inT fT c))=true then _ else _
   cases inT fT c with
   |true=>exact C3 _ ⟨_,rfl⟩
   |false=>exact⟨λρ=>∃m',m'<m/\∃k:Nat,k+m'=x.length/\ρ=[.v (.tr (.str x)),.bw l,.v sp,.v (.tr (.int (k:Int))),.un,.un,.un,.un,.un],λρ' h=>h,m-1,by omega,k+1,by omega,rfl⟩
  ·have hd:¬ (decide ((k:Int) < ((x.length:Nat):Int))=true):=by rw [decide_eq_true_eq]; omega
   refine(if_neg hd).mpr ?_
   exact C3 _ ⟨_,rfl⟩
 rintro ρ ⟨at_,rfl⟩
 have small:∀(nx:En->Prop) (l':List Dx) (s:Sv),dS l'->cI (eZ 4 (iV (aW (xC (.str "256")) (aW (xC (.str "255")) (aW (xC (.str "65536")) (aW (xC (.str "18446744073709551615")) (aW (xC (.str "18446744073709551616")) (aW (xC (.str "00")) (aW (xOp w4 (xC (.str "1")) (xC (.int 21))) (aW (xC (.str "-1")) cJ))))))))))
  (gW (xOp eY (xOp eY (xSl (bM 0) xoN (xoS (bM 3))) (xOp ixX (bM 4) (dO gTK 1 (aW (xC (.int 8)) cJ)))) (xSl (bM 0) (xoS (xOp eY (bM 3) (xC (.int 1)))) xoN))) [vT (.str x),.bw l',.v s,vT (.int at_),.un,.un,.un,.un,.un] { aDh Q with nx:=nx }:=λnx l' s N4=>by
  refine lP (zP ?_)
  refine⟨⟨by decide,by decide,by decide⟩,pD (by show 8<=1000000;decide),?_⟩
  refine⟨Ck,rfl,8,rfl,N4,by decide,λr5 l5 d0 d1 Gj=>?_⟩
  refine six (l:=["256","255","65536","18446744073709551615","18446744073709551616","00",Txt.mul "1" 21, "-1"]) (n:=21) (by decide +kernel) d0 d1 λz hz=>?_
  have h1:=wX (a:=none) (b:=some at_) hx
  have h2:=wX (a:=some (at_+1)) (b:=none) hx
  have h3:=zW h1 hz
  exact⟨by omega,Ck,⟨by omega,At _ _ _ (zW h3 h2) (by decide) Gj⟩⟩
 rcases Ch with rfl | ⟨ps,rfl,Bv,K6⟩
 ·refine kZ true (ρ':=[vT (.str x),.bw l,vT .non,vT (.int at_),.un,.un,.un,.un,.un]) (λQ q=>⟨_,rfl,q⟩) (λ_=>small _ l _ hN) (λhb=>by cases hb)
 have A0:∀p∈ps,p.length+2<=170002:=λp hp=>nzL (nE hp) K6
 have Nh:=nF (ps:=ps)
 have hml:(ps.map txS).length=ps.length:=aG _
 have hpos:=List.length_pos_iff.mpr Bv
 refine eb_ (λρ=>∃l1,dS l1/\ρ=[vT (.str x),.bw l1,.v (.ol (ps.map txS)),vT (.int at_),.un,.un,.un,.un,.un]) ?_ (λnx C3=>?_)
 case refine_2 =>
  refine⟨_,rfl,?_⟩
  refine⟨rfl,3,rfl,hN,by decide,λr l1 c0 c1 F0=>?_⟩
  show if decide (r=0)=true then _ else _
  by_cases Dl:r=0
  ·rw [if_pos (dzT Dl)]
   exact small nx l1 _ F0
  ·rw [if_neg (by rw [decide_eq_true_eq]; exact Dl)]
   exact C3 _ ⟨l1,F0,rfl⟩
 rintro ρ ⟨l1,F0,rfl⟩
 refine lP ?_
 refine⟨rfl,((ps.map txS).length:Int),rfl,F0,by omega,λo1 l2 a0 a1 Hg=>?_⟩
 refine lP ?_
 refine⟨rfl,((ps.map txS).length:Int),rfl,Hg,by omega,λo2 l3 b0 b1 Ie=>?_⟩
 refine lP ?_
 refine⟨rfl,3,rfl,Ie,by decide,λway l4 w0 w1 Fp=>?_⟩
 dsimp only
 change cI _ _ [vT (.str x),.bw l4,.v (.ol (ps.map txS)),vT (.int at_),.un,vT (.int o1),vT (.int o2),vT (.int way),.un] _
 obtain⟨p1,Fe⟩:∃p,ps[o1.toNat]? = some p:=⟨_,aO (by omega)⟩
 obtain⟨p2,Ez⟩:∃p,ps[o2.toNat]? = some p:=⟨_,aO (by omega)⟩
 have C9:=A0 p1 (bN Fe)
 have B8:=A0 p2 (bN Ez)
 have z1:((o1.toNat:Nat):Int)=o1:=cW a0
 have z2:((o2.toNat:Nat):Int)=o2:=cW b0
 have Mh:atI (ps.map txS) o1=some (txS p1):=by rw[<-z1];exact pU (by rw[bV,Fe];rfl)
 have Gh:atI (ps.map txS) o2=some (txS p2):=by rw[<-z2];exact pU (by rw[bV,Ez];rfl)
 refine cp_ (M:=λρ=>∃(ps':List (List Nat)) (sv:Sv) (y:Sl),sv.d=.lst (ps'.map txS)/\(eJ ps').length<=520000/\ρ=[vT (.str x),.bw l4,.v sv,vT (.int at_),.un,vT (.int o1),vT (.int o2),vT (.int way),y]) ?_ (λD' Dv=>?_)
 ·rintro ρ ⟨ps',sv,y,Ha,ht',rfl⟩
  have h1:=wX (a:=none) (b:=some 1) hx
  have h2:=wX (a:=some (-1)) (b:=none) hx
  have hj:(Txt.join (Str.ofString ", ") (ps'.map mkS)).length<=520000:=nzL (aFo (ps:=ps')) ht'
  have hs:=k_ ps'
  have h3:=zW h1 hj
  refine⟨Ck,ps'.map mkS,by rw[<-aIn];exact Ha,(by show _+_*2<=16777216;omega),?_⟩
  exact⟨by show _+_<=1000000;omega,Ck,⟨by show _+_<=1000000;omega,At _ _ _ (zW h3 h2) (by decide) Fp⟩⟩
 ·have c1:=uZ (ps:=ps) (lo:=none) (hi:=some o1)
  have c2:=uZ (ps:=ps) (lo:=some (o1+1)) (hi:=none)
  have c3:=uZ (ps:=ps) (lo:=some o1) (hi:=none)
  have k1:=pO (ps:=ps) (lo:=none) (hi:=some o1)
  have k2:=pO (ps:=ps) (lo:=some (o1+1)) (hi:=none)
  have k3:=pO (ps:=ps) (lo:=some o1) (hi:=none)
  by_cases Nc:way=0
  ·refine nA (ρ':=[vT (.str x),.bw l4,.v (.ol (ps.map txS)),vT (.int at_),.un,vT (.int o1),vT (.int o2),vT (.int way),.un]) (fun Q q => ?_) ?_
   ·show Q (decide (way=0)) _
    rw[dzT Nc]
    exact q
   ·refine ⟨by show (fK (ps.map txS) none (some o1)).length + (fK (ps.map txS) (some (o1 + 1)) none).length≤1000000; rw [dv_,dv_,aG,aG]; omega,?_⟩
    refine Dv _ ⟨fK ps none (some o1)++fK ps (some (o1+1)) none,_,_,?_,by rw[ho_,aB];omega,rfl⟩
    show Dx.lst (fK (ps.map txS) none (some o1)++fK (ps.map txS) (some (o1+1)) none)=_
    rw[dv_,dv_,bT]
  refine nB (ρ':=[vT (.str x),.bw l4,.v (.ol (ps.map txS)),vT (.int at_),.un,vT (.int o1),vT (.int o2),vT (.int way),.un]) (λQ q=>?_) ?_
  ·show Q (decide (way=0)) _
   rw[dzF Nc]
   exact q
  by_cases Nb:way=1
  ·refine nA (ρ':=[vT (.str x),.bw l4,.v (.ol (ps.map txS)),vT (.int at_),.un,vT (.int o1),vT (.int o2),vT (.int way),.un]) (fun Q q => ?_) ?_
   ·show Q (decide (way=1)) _
    rw[dzT Nb]
    exact q
   ·show match atI (ps.map txS) o2 with | some d=>_ | none=>False
    rw[Gh]
    refine⟨by show 1<=1000000;decide,by show(fK (ps.map txS) none (some o1)).length+1<=1000000;rw[dv_,aG];omega,?_⟩
    refine⟨by show(fK (ps.map txS) none (some o1)++[txS p2]).length+(fK (ps.map txS) (some o1) none).length<=1000000;rw[dv_,dv_,aB,aG,aG,bH];omega,?_⟩
    refine Dv _ ⟨fK ps none (some o1)++[p2]++fK ps (some o1) none,_,_,?_,by rw[ho_,ho_,jl_,aB,aB,aD,aD];omega,rfl⟩
    show Dx.lst (fK (ps.map txS) none (some o1)++[txS p2]++fK (ps.map txS) (some o1) none)=_
    rw[dv_,dv_,bT,bT]
    rfl
  refine nB (ρ':=[vT (.str x),.bw l4,.v (.ol (ps.map txS)),vT (.int at_),.un,vT (.int o1),vT (.int o2),vT (.int way),.un]) (λQ q=>?_) ?_
  ·show Q (decide (way=1)) _
   rw[dzF Nb]
   exact q
  have Lq:ixN (ps.map txS).length o1=some o1.toNat:=by unfold ixN;rw[if_pos a0,if_pos (by omega)]
  have Lp:ixN ((ps.map txS).set o1.toNat (txS p2)).length o2=some o2.toNat:=by unfold ixN;rw[bG,if_pos b0,if_pos (by omega)]
  refine lP ⟨rfl,?_⟩
  show match atI (ps.map txS) o1 with | some d=>_ | none=>False
  rw[Mh]
  refine cp_ (M:=λρ=>ρ=[vT (.str x),.bw l4,.v (.ol ((ps.map txS).set o1.toNat (txS p2))),vT (.int at_),.un,vT (.int o1),vT (.int o2),vT (.int way),vT (txS p1)]) ?_ (λD2 Mn=>?_)
  ·rintro ρ rfl
   refine⟨rfl,?_⟩
   show match ixN ((ps.map txS).set o1.toNat (txS p2)).length o2 with | some n=>_ | none=>False
   rw[Lp]
   refine Dv _ ⟨(ps.set o1.toNat p2).set o2.toNat p1,_,_,?_,?_,rfl⟩
   ·show Dx.lst (((ps.map txS).set o1.toNat (txS p2)).set o2.toNat (txS p1))=_
    rw[List.map_set,List.map_set]
   ·have s1:=tI (ps:=ps) (i:=o1.toNat) (p:=p2)
    have s2:=tI (ps:=ps.set o1.toNat p2) (i:=o2.toNat) (p:=p1)
    omega
  ·refine ⟨rfl,?_⟩
   show match atI (ps.map txS) o2 with | some d=>_ | none=>False
   rw[Gh]
   refine⟨rfl,?_⟩
   show match ixN (ps.map txS).length o1 with | some n=>_ | none=>False
   rw[Lq]
   exact Mn _ rfl
end
mutual
def Dx.Pl:Dx->Prop
 | .int _=>True
 | .str _=>True
 | .tup l=>l.length<=100000/\plX l
 | .lst l=>l.length<=100000/\plX l
 |_=>False
def plX:List Dx->Prop
 | []=>True
 |d::r=>d.Pl/\plX r
end
mutual
theorem Kd.pl:∀k:Kd,k.Fit->k.x.Pl/\k.x.deep<=3*k.deep
 | .num w m,h=>by
  simp only[Kd.x,Dx.Pl,plX,Dx.deep,gD,Kd.deep,aD,bC]
  exact⟨⟨by decide,trivial,trivial,trivial,trivial⟩,by decide⟩
 | .row k n,h=>by
  simp only[Kd.Fit]at h
  obtain⟨a,b⟩:=Kd.pl k h.1
  simp only[Kd.x,Dx.Pl,plX,Dx.deep,gD,Kd.deep,aD,bC]
  refine⟨⟨by decide,trivial,a,trivial,trivial⟩,?_⟩
  omega
 | .rcd fs,h=>by
  simp only[Kd.Fit]at h
  obtain⟨a,b⟩:=plF fs h.1
  have hl:(xF fs).length<=100000:=by rw[nP];omega
  simp only[Kd.x,Dx.Pl,plX,Dx.deep,gD,Kd.deep,aD,bC]
  refine⟨⟨by decide,trivial,⟨hl,a⟩,trivial⟩,?_⟩
  omega
 | .cho ks,h=>by
  simp only[Kd.Fit]at h
  obtain⟨a,b⟩:=plK ks h.1
  have hl:(xK ks).length<=100000:=by rw[sU];omega
  simp only[Kd.x,Dx.Pl,plX,Dx.deep,gD,Kd.deep,aD,bC]
  refine⟨⟨by decide,trivial,⟨hl,a⟩,trivial⟩,?_⟩
  omega
theorem plF:∀fs:List (Str×Kd),iM fs->plX (xF fs)/\gD (xF fs)<=3*eB fs+1
 | [],h=>⟨by simp only[xF,plX],by simp only[xF,gD];omega⟩
 |f::r,h=>by
  simp only[iM]at h
  obtain⟨a,b⟩:=Kd.pl f.2 h.1.2
  obtain⟨c,d⟩:=plF r h.2
  have e:=gf_ f.2
  simp only[xF,plX,Dx.Pl,gD,Dx.deep,eB,aD,bC]
  refine⟨⟨⟨by decide,trivial,a,trivial⟩,c⟩,?_⟩
  omega
theorem plK:∀ks:List Kd,iD ks->plX (xK ks)/\gD (xK ks)<=3*fF ks+1
 | [],h=>⟨by simp only[xK,plX],by simp only[xK,gD];omega⟩
 |k::r,h=>by
  simp only[iD]at h
  obtain⟨a,b⟩:=Kd.pl k h.1
  obtain⟨c,d⟩:=plK r h.2
  simp only[xK,plX,gD,fF]
  refine⟨⟨a,c⟩,?_⟩
  omega
end
mutual
def Dx.tt:Dx->Dt
 | .int i=>.int i
 | .str x=>.str x
 | .tup l=>.tup (ttX l)
 | .lst l=>.lst (ttX l)
 |_=>.int 0
def ttX:List Dx->List Dt
 | []=>[]
 |d::r=>d.tt::ttX r
end
mutual
theorem zK{G H:Hp}(e:Same G H):∀(d:Dx) (x:V),d.Pl->IsX G d x->IsD H d.tt x
 | .int i,x,_,h=>by simp only[IsX]at h;simp only[Dx.tt,IsD];exact h
 | .str i,x,_,h=>by simp only[IsX]at h;simp only[Dx.tt,IsD];exact h
 | .tup l,x,hp,h=>by
  simp only[Dx.Pl]at hp
  obtain⟨p,vs,rfl,h1,h2⟩:=h.tup_eq
  simp only[Dx.tt,IsD]
  exact⟨p,vs,rfl,e _ _ h1,uP e l vs hp.2 h2⟩
 | .lst l,x,hp,h=>by
  simp only[Dx.Pl]at hp
  obtain⟨p,vs,rfl,h1,h2⟩:=h.lst_eq
  simp only[Dx.tt,IsD]
  exact⟨p,vs,rfl,e _ _ h1,uP e l vs hp.2 h2⟩
 | .bl _,_,hp,_=>by simp only[Dx.Pl]at hp
 | .non,_,hp,_=>by simp only[Dx.Pl]at hp
 | .dic _,_,hp,_=>by simp only[Dx.Pl]at hp
 | .scr _ _,_,hp,_=>by simp only[Dx.Pl]at hp
 | .ins _ _,_,hp,_=>by simp only[Dx.Pl]at hp
 | .exc _,_,hp,_=>by simp only[Dx.Pl]at hp
theorem uP{G H:Hp}(e:Same G H):∀(l:List Dx) (vs:List V),plX l->All2 (IsX G) l vs->IsDs H (ttX l) vs
 | [],vs,_,h=>by simp only[ttX,IsDs];exact h
 |d::r,vs,hp,h=>by
  simp only[plX]at hp
  obtain⟨v,vr,rfl,h1,h2⟩:=h
  simp only[ttX,IsDs]
  exact⟨v,vr,rfl,zK e d v hp.1 h1,uP e r vr hp.2 h2⟩
end
mutual
theorem c6:∀d:Dx,d.Pl->d.tt.deep<=d.deep
 | .int i,_=>by simp only[Dx.tt,Dt.deep,Dx.deep];omega
 | .str i,_=>by simp only[Dx.tt,Dt.deep,Dx.deep];omega
 | .tup l,hp=>by simp only[Dx.Pl]at hp;have:=nV l hp.2;simp only[Dx.tt,Dt.deep,Dx.deep];omega
 | .lst l,hp=>by simp only[Dx.Pl]at hp;have:=nV l hp.2;simp only[Dx.tt,Dt.deep,Dx.deep];omega
 | .bl _,hp=>by simp only[Dx.Pl]at hp
 | .non,hp=>by simp only[Dx.Pl]at hp
 | .dic _,hp=>by simp only[Dx.Pl]at hp
 | .scr _ _,hp=>by simp only[Dx.Pl]at hp
 | .ins _ _,hp=>by simp only[Dx.Pl]at hp
 | .exc _,hp=>by simp only[Dx.Pl]at hp
theorem nV:∀l:List Dx,plX l->gR (ttX l)<=gD l
 | [],_=>by simp only[ttX,gR,gD];omega
 |d::r,hp=>by simp only[plX]at hp;have h1:=c6 d hp.1;have h2:=nV r hp.2;simp only[ttX,gR,gD];omega
end
def neT:G2:=λa b Q=>a=b/\a.Pl/\a.deep<=60/\(∃l,a=.tup l)/\Q (.tr (.bl false))
theorem aRe:OpX (aOa false) neT:=by
 intro F P H a b x y Q Qx R ha hb g k
 obtain⟨rfl,hp,hd,⟨l,rfl⟩,g⟩:=g
 refine⟨(Dx.tup l).tt,nzL (c6 _ hp) hd,.inr ⟨ttX l,by simp only[Dx.tt]⟩,zK R.hv _ _ hp ha,zK R.hv _ _ hp hb,k _ _ H (R.add (IsX.of_bl _)) g⟩
def aDj (K : cZ) : XS := (cI (aIk (aVu (aW (cX aFd (aW (xC (.int 1)) (aW (cX aFc (aW (cX (aSn K) (aW (bM 0) cJ)) (aW (xC (.int 12)) cJ))) cJ))) cJ)) (gxN 1) (cI (eZ 2 (cX gNU (aW (cX (gCA K) (aW (bM 0) (aW (bM 1) cJ))) (aW (xC (.int 140)) cJ))))
    (cI (eZ 3 (xSl (cX gNU (aW (cX (gCA K) (aW (bM 0) (aW (bM 1) cJ))) (aW (xC (.int 254)) cJ))) (xoS (xC (.int 140))) xoN))
    (cI (eZ 4 (dO aGe 2 (aW (xOp eY (xC (.int 1)) (dO gTK 2 (aW (xC (.int 4)) cJ))) (aW (xC (.int 200)) cJ))))
    (cI (eZ 5 (xOp ixX (iV (aW (bM 4) (aW (bM 4) (aW (bM 4) (aW (dO aGe 2 (aW (xC (.int 2)) (aW (xC (.int 200)) cJ))) cJ))))) (dO gTK 3 (aW (xC (.int 4)) cJ))))
    (cI (eZ 6 (cX (gSV 5) (aW (bM 5) (aW (b6 (gVA 5) (bM 5) (xSl (bM 3) xoN (xoS (xC (.int 100))))) cJ))))
    (cI (eZ 3 (xSl (bM 3) (xoS (xC (.int 100))) xoN))
    (cI (eZ 7 (dO gTK 3 (aW (xC (.int 8)) cJ)))
    (cI (xIf (xB (xOp ltX (bM 7) (xC (.int 3)))) (eZ 6 (sW gCH 3 (bM 6))) fD)
    (cI (xIf (xOr (xB (xOp eqX (bM 7) (xC (.int 3)))) (xB (xOp eqX (bM 7) (xC (.int 4))))) (eZ 6 (sW gCH 3 (bM 6))) fD)
    (cI (xIf (xB (xOp eqX (bM 7) (xC (.int 5)))) (eZ 6 (cX gOD (aW (dO gTK 3 (aW (xC (.int 64)) cJ)) cJ))) fD)
    (cI (eZ 6 (xSl (bM 6) xoN (xoS (xC (.int 3000)))))
    (cI (eZ 8 (cX (zS 5) (aW (bM 4) (aW (bM 6) cJ))))
    (cI (xIf (yF (xB (xOp eqX (bM 7) (xC (.int 6)))) (xB (xOp eqX (dO gTK 3 (aW (xC (.int 2)) cJ)) (xC (.int 0))))) (cI (eZ 6 (xOp ixX (iV (aW (xC .non) (aW (xC (.int 7)) (aW (iV (aW (xC (.int 0)) cJ)) (aW (iV (aW (xC (.str "0")) cJ)) (aW (xC (.bl true)) (aW aCa (aW (yD (aW (xC (.str "0")) cJ)) (aW (xC (.int 0)) cJ))))))))) (dO gTK 3 (aW (xC (.int 8)) cJ))))
    (eZ 8 (xC .non))) fD)
    (cI (eZ 9 (cX (gCP 20) (aW (bM 4) cJ)))
    (cI (eZ 10 (cX aCw (aW (bM 6) cJ)))
    (cI (aWg (cX aLy (aW (bM 9) (aW (bM 6) cJ))) (gxT [11,12]))
    (cI (xIf (xOr (xB (xOp neT (bM 9) (bM 4))) (xOr (xB (xOp neX (cX aCw (aW (bM 6) cJ)) (bM 10))) (xB (xOp neX (bM 11) (xOp ixX (iV (aW (xC (.str "told")) (aW (xC (.str "NoText")) cJ))) (cX zN (aW (xOp (lF false) (bM 8) (xC .non)) cJ))))))) (gW (xC (.bl false))) fD)
    (xIf (yF (xB (xOp (lF true) (bM 8) (xC .non))) (aBw (xB (cX (zT 8) (aW (bM 12) (aW (bM 8) cJ)))))) (gW (xC (.bl false))) fD)))))))))))))))))))
    (gW (xC (.bl true))))
section
variable{f:Addr}{L:Nat}
theorem aMe(Kv:Cal P w K mg base 1 "_law_cell_at" BC (spX (gCA K)))(M4:Cal P w K mg base 2 "_law_deck" AG (spX gNU))(J5:Cal P w K mg base 1 "_law_numbers" AG (spX gNU))(A1:Cal P w K mg base 1 "_law_take" AD (spB gTK))(Kr:Cal P w K mg base L "_law_kind_within" AT (spB aGe))(Hj:Cal P w K mg base L "_law_value" AR (kS (gVA 5)))(Hi:Cal P w K mg base L "_law_written" AH (spX (gSV 5)))(M5:Cal P w K mg base 2 "_law_changed" AL (kS gCH))(Mz:Cal P w K mg base 2 "_law_parts_changed" AL (kS gCH))(M0:Cal P w K mg base 1 "_law_odd" ["number"] (spX gOD))(G4:Cal P w K mg base L "_law_read_value" AB (spX (zS 5)))(Hl:Cal P w K mg base L "_law_copy" AS (spX (gCP 20)))(M6:Cal P w K mg base L "_law_asked" AB (spX aLy))(Ih:Cal P w K mg base L "_law_alike" AI (spX (zT 8)))
  (Bb:mg "max" = none) (Dh:mg "min" = none) (Af:mg "range" = none) (Ad:mg "len" = none) (m_int:mg "int" = none) (m_str:mg "str" = none) (hL:2<=L)
  {Ak:Value} {A:Around} {outer:List Env} {s:Shared} {H:Hp} {E:XK} (hr:Room L (A.deeper (PyProof.Rows.envOfC "law" (aM lD) s.heap.objs.size f Ak))) :
  XSs (iS CX0 P w K mg base (["script","k","deck","ways","kind","other","text","way","due","handed","kept","word","found"]:List Str) "law" (aM lD) f Ak A outer s H E).nox dR (eG lD) (aDj K):=by
 have Am:=jM hr
 have Aj:=aR Am
 exact(iT (gN (Bx.mk (gi_ PassesOwn.never rfl (cx_ Af (bR (jJ (sD (by rfl)) o5 (by rfl) Bb vD (bR cK (bR (jJ (aAq (by rfl)) aMj (by rfl) Dh aUe (bR (jJ (kI K) o6 (by rfl) Ad PySem.boot_len (bR (bL (pv 0)) cB)) (bR cK cB))) cB))) cB)) (iU (i:=1) eI.nd rfl (Or.inl rfl)) (sA (n:=99) (i:=1) (by decide)) (iT (gN (Bx.mk (fM (i:=2) eI.nd rfl (Or.inl rfl) (iE M4 (hr.mono (by omega)) (bR (iE Kv (hr.mono (by omega)) (bR (bL (pv 0)) (bR (bL (pv 1)) cB))) (bR cK cB)))))
  (gN (Bx.mk (fM (i:=3) eI.nd rfl (Or.inl rfl) (kX K (iE J5 (hr.mono (by omega)) (bR (iE Kv (hr.mono (by omega)) (bR (bL (pv 0)) (bR (bL (pv 1)) cB))) (bR cK cB))) (jO cK) lZ)))
  (gN (Bx.mk (fM (i:=4) eI.nd rfl (Or.inl rfl) (jB (i:=2) Kr (hr.mono (by omega)) (pv 2) (bR (gA cK (jB (i:=2) A1 (hr.mono (by omega)) (pv 2) (bR cK cB))) (bR cK cB)))))
  (gN (Bx.mk (fM (i:=5) eI.nd rfl (Or.inl rfl) (jI K (pR (bR (bL (pv 4)) (bR (bL (pv 4)) (bR (bL (pv 4)) (bR (jB (i:=2) Kr (hr.mono (by omega)) (pv 2) (bR cK (bR cK cB))) cB))))) (jB (i:=3) A1 (hr.mono (by omega)) (pv 3) (bR cK cB)) (λ_ _=>rfl))))
  (gN (Bx.mk (fM (i:=6) eI.nd rfl (Or.inl rfl) (iE Hi (hr.mono (by omega)) (bR (bL (pv 5)) (bR (s9 Hj (hr.mono (by omega)) (bL (pv 5)) (kX K (bL (pv 3)) lZ (jO cK))) cB)))))
  (gN (Bx.mk (fM (i:=3) eI.nd rfl (Or.inl rfl) (kX K (bL (pv 3)) (jO cK) lZ)))
  (gN (Bx.mk (fM (i:=7) eI.nd rfl (Or.inl rfl) (jB (i:=3) A1 (hr.mono (by omega)) (pv 3) (bR cK cB))))
  (gN (Bx.mk (fL (eE vI vJ (bL (pv 7)) cK (bD _)) (iT (lR (Bx.mk (fM (i:=6) eI.nd rfl (Or.inl rfl) (fq_ (i:=3) M5 (hr.mono (by omega)) (bL (pv 6)) (pv 3)))))) fW))
  (gN (Bx.mk (fL (XW.pt (uV (eE (gV K Aj) hX (bL (pv 7)) cK (bD _)) (xZ (eE (gV K Aj) hX (bL (pv 7)) cK (bD _))))) (iT (lR (Bx.mk (fM (i:=6) eI.nd rfl (Or.inl rfl) (fq_ (i:=3) Mz (hr.mono (by omega)) (bL (pv 6)) (pv 3)))))) fW))
  (gN (Bx.mk (fL (eE (gV K Aj) hX (bL (pv 7)) cK (bD _)) (iT (lR (Bx.mk (fM (i:=6) eI.nd rfl (Or.inl rfl) (iE M0 (hr.mono (by omega)) (bR (jB (i:=3) A1 (hr.mono (by omega)) (pv 3) (bR cK cB)) cB)))))) fW))
  (gN (Bx.mk (fM (i:=6) eI.nd rfl (Or.inl rfl) (kX K (bL (pv 6)) lZ (jO cK))))
  (gN (Bx.mk (fM (i:=8) eI.nd rfl (Or.inl rfl) (iE G4 (hr.mono (by omega)) (bR (bL (pv 4)) (bR (bL (pv 6)) cB)))))
  (gN (sF (Bx.mk (XW.pt (gh_ (eE (gV K Aj) hX (bL (pv 7)) cK (bD _)) (el_ (eE (gV K Aj) hX (jB (i:=3) A1 (hr.mono (by omega)) (pv 3) (bR cK cB)) cK (bD _)))))) (gN (jq_ (i:=6) eI.nd rfl (Or.inl rfl) (pW K (hc_ (fV aUi (fV qD (fV (hc_ (fV qD vK)) (fV (hc_ (fV jN vK)) (fV aZr (fV aMp (fV (aHf (fV jN vK)) (fV qD vK))))))))) (gg_ (i:=3) A1 (hr.mono (by omega)) (pv 3) (fV qD vK)) (λ_ _=>rfl)))
  (lR (Bx.mk (fM (i:=8) eI.nd rfl (Or.inl rfl) pT)))) hs_)
  (gN (Bx.mk (fM (i:=9) eI.nd rfl (Or.inl rfl) (iE Hl (hr.mono (by omega)) (bR (bL (pv 4)) cB))))
  (gN (Bx.mk (fM (i:=10) eI.nd rfl (Or.inl rfl) (yB (sB hr.gd hr.units) o0 (by rfl) m_str jp_ (bR (bL (pv 6)) cB))))
  (gN (Bx.mk (mG (gm_ (n:=99) (is:=[11,12]) rfl (by decide)) λF=>iy_ (XE.at (Ex:=dR) F (iE M6 (hr.mono (by omega)) (bR (bL (pv 9)) (bR (bL (pv 6)) cB)))) (hu_ rfl (qN (iU (i:=11) eI.nd rfl (Or.inl rfl)) (qN (iU (i:=12) eI.nd rfl (Or.inl rfl)) em_)))))
  (gN (Bx.mk (fL (XW.pt (uV (eE (v6 hr.units) aRe (bL (pv 9)) (bL (pv 4)) (bD _)) (uV (eE (gk_ K Aj) kK (yB (sB hr.gd hr.units) o0 (by rfl) m_str jp_ (bR (bL (pv 6)) cB)) (bL (pv 10)) (bD _)) (xZ (eE (gk_ K Aj) kK (bL (pv 11)) (jI K (pR (bR fU (bR fU cB))) (yB dc_ ha_ (by rfl) m_int ez_ (bR (xL lO oX (bL (pv 8)) pT (bD _)) cB)) (λ_ _=>rfl)) (bD _)))))) (iT (lR (Bx.mk (dX iq_)))) fW))
  (lR (Bx.mk (fL (XW.pt (gh_ (eE aKc aKa (bL (pv 8)) pT (bD _)) (el_ (fm_ (qI (iE Ih (hr.mono (by omega)) (bR (bL (pv 12)) (bR (bL (pv 8)) cB)))))))) (iT (lR (Bx.mk (dX iq_)))) fW)))))))))))))))))))))))
  (lR (Bx.mk (dX iq_)))))
end
theorem o9{α:Type}{l:List α}{a b:Option Int}{x:α}(h:x∈fK l a b):x∈l:=List.mem_of_mem_drop (List.mem_of_mem_take h)
theorem aEx{xs:List Int}{a b:Option Int}(h:∀x∈xs,0<=x/\x<720720):dS (fK (xs.map Dx.int) a b):=⟨fK xs a b,o_ _ _ _,λx hx=>(h x (o9 hx)).1⟩
theorem rJ{l:List Dx}{a b:Option Int}(h:dS l):dS (fK l a b):=by
 obtain⟨xs,rfl,hx⟩:=h
 exact⟨fK xs a b,o_ _ _ _,λx h=>hx x (o9 h)⟩
theorem aLd{a b:Kd}{v:Dx}(h:v∈[a.x,a.x,a.x,b.x])(ha:a.Fit/\a.deep<=5/\a.lo<=2000)(hb:b.Fit/\b.deep<=5/\b.lo<=2000):∃c:Kd,v=c.x/\c.Fit/\c.deep<=5/\c.lo<=2000:=by
 simp only[aF,bY,or_false]at h
 rcases h with rfl | rfl | rfl | rfl
 ·exact⟨a,rfl,ha⟩
 ·exact⟨a,rfl,ha⟩
 ·exact⟨a,rfl,ha⟩
 ·exact⟨b,rfl,hb⟩
theorem d8{l:List Dx}{a b:Option Int}{Q:Sv->Prop}(h:Q (.ol (fK l a b))):slX (.lst l) a b Q:=h
theorem j_{t:XT}{c:Int}{ρ:En}{Q:Sv->En->Prop}(h:t ρ λa ρ1=>slX a.d (some c) none λs=>Q s ρ1):xSl t (xoS (xC (.int c))) xoN ρ Q:=h
def aUn(d:Dx):Prop:=∃z:Str,∀Q:Sv->Prop,Q (.tr (.str z))->aCw [d] Q
theorem aZh{v:Dx}(h:v∈[Dx.non,.int 7,.lst [.int 0],.lst [.str "0"],.bl true,.dic [],.tup [.str "0"],.int 0]):noT v/\aUn v:=by
 simp only[aF,bY,or_false]at h
 rcases h with rfl | rfl | rfl | rfl | rfl | rfl | rfl | rfl
 ·exact⟨trivial,_,λQ q=>.inr (.inr (.inl ⟨rfl,q⟩))⟩
 ·exact⟨trivial,_,λQ q=>.inr (.inl ⟨7,rfl,by decide,by decide,q⟩)⟩
 ·exact⟨trivial,_,λQ q=>.inr (.inr (.inr (.inr ⟨_,_,rfl,rfl,by decide +kernel,by decide +kernel,by decide +kernel,q⟩)))⟩
 ·exact⟨trivial,_,λQ q=>.inr (.inr (.inr (.inr ⟨_,_,rfl,rfl,by decide +kernel,by decide +kernel,by decide +kernel,q⟩)))⟩
 ·exact⟨trivial,_,λQ q=>.inr (.inr (.inr (.inl ⟨true,rfl,q⟩)))⟩
 ·exact⟨trivial,_,λQ q=>.inr (.inr (.inr (.inr ⟨_,_,rfl,rfl,by decide +kernel,by decide +kernel,by decide +kernel,q⟩)))⟩
 ·exact⟨trivial,_,λQ q=>.inr (.inr (.inr (.inr ⟨_,_,rfl,rfl,by decide +kernel,by decide +kernel,by decide +kernel,q⟩)))⟩
 ·exact⟨trivial,_,λQ q=>.inr (.inl ⟨0,rfl,by decide,by decide,q⟩)⟩
theorem aLj{d:Dx}{Q:Sv->Prop}(h:d ≠ .non)(q:Q (.tr (.bl true))):lF true d .non Q:=by cases d<;>first | exact absurd rfl h | exact q
theorem bBi(k:Kd):k.x.own=.tr k.x:=by cases k<;>simp only[Kd.x,Dx.own]
theorem aVv(k:Kd):∃l,k.x=.tup l:=by cases k<;>simp only[Kd.x]<;>exact⟨_,rfl⟩
abbrev LB(K:cZ)(ns:List Int)(k:Nat)(l3:List Dx)(kd ko:Kd)(way:Int)(V:List Dx)(d:Dx)(y8 y9 y10 y11 y12:Sl):En:=[vT (.scr K ns),vT (.int (0+(k:Int))),.v (.ol l3),.v (.ol V),vT kd.x,vT ko.x,vT d,vT (.int way),y8,y9,y10,y11,y12]
section
variable{f:Addr}{L:Nat}
theorem aKp(F:Fun K "law" "law" lD f fd)(Kv:Cal P w K mg base 1 "_law_cell_at" BC (spX (gCA K)))(M4:Cal P w K mg base 2 "_law_deck" AG (spX gNU))(J5:Cal P w K mg base 1 "_law_numbers" AG (spX gNU))(A1:Cal P w K mg base 1 "_law_take" AD (spB gTK))(Kr:Cal P w K mg base L "_law_kind_within" AT (spB aGe))(Hj:Cal P w K mg base L "_law_value" AR (kS (gVA 5)))(Hi:Cal P w K mg base L "_law_written" AH (spX (gSV 5)))(M5:Cal P w K mg base 2 "_law_changed" AL (kS gCH))(Mz:Cal P w K mg base 2 "_law_parts_changed" AL (kS gCH))(M0:Cal P w K mg base 1 "_law_odd" ["number"] (spX gOD))(G4:Cal P w K mg base L "_law_read_value" AB (spX (zS 5)))(Hl:Cal P w K mg base L "_law_copy" AS (spX (gCP 20)))(M6:Cal P w K mg base L "_law_asked" AB (spX aLy))(Ih:Cal P w K mg base L "_law_alike" AI (spX (zT 8)))
  (Bb:mg "max" = none) (Dh:mg "min" = none) (Af:mg "range" = none) (Ad:mg "len" = none) (m_int:mg "int" = none) (m_str:mg "str" = none) (hL:2<=L) :
  FnOk P w K mg base CX0 (L+1) f fd ["script"] (spX (aYu K)):=by
 refine jA F eI (λds Q h=>by obtain⟨ns,rfl,_⟩:=h;rfl) (by decide) λAk A outer s H E hr=>?_
 refine⟨_,aMe Kv M4 J5 A1 Kr Hj Hi M5 Mz M0 G4 Hl M6 Ih Bb Dh Af Ad m_int m_str hL hr,λds Q h=>?_⟩
 clear hr
 obtain⟨ns,rfl,h63,q⟩:=h
 unfold aDj
 refine eb_ (λρ=>True) (λρ _=>q) (λnx C3=>?_)
 refine⟨rfl,?_⟩
 refine⟨⟨by split<;>(try split)<;>omega,by split<;>(try split)<;>omega⟩,?_⟩
 refine da_ (λk:Nat=>Dx.int (0+(k:Int))) (λrest ρ=>∃y1 y2 y3 y4 y5 y6 y7 y8 y9 y10 y11 y12,ρ=[vT (.scr K ns),y1,y2,y3,y4,y5,y6,y7,y8,y9,y10,y11,y12]) (λρ h=>C3 ρ trivial) (λk rest ρ Kn h hk=>?_) ⟨.un,.un,.un,.un,.un,.un,.un,.un,.un,.un,.un,.un,rfl⟩
 obtain⟨y1,y2,y3,y4,y5,y6,y7,y8,y9,y10,y11,y12,rfl⟩:=h
 refine⟨ns,0+(k:Int),rfl,by omega,λc=>?_⟩
 refine⟨c,140,rfl,by decide,by decide,λxs hl hx=>?_⟩
 have hN:dS (xs.map Dx.int):=⟨xs,rfl,λx hm=>(hx x hm).1⟩
 try dsimp only
 change cI _ _ [vT (.scr K ns),vT (.int (0+(k:Int))),.v (.ol (xs.map Dx.int)),y3,y4,y5,y6,y7,y8,y9,y10,y11,y12] _
 generalize xs.map Dx.int=W at hN
 refine lP (j_ ?_)
 refine⟨ns,0+(k:Int),rfl,by omega,λc2=>?_⟩
 refine⟨c2,254,rfl,by decide,by decide,λKw B8 C2=>d8 ?_⟩
 have Nz:dS (fK (Kw.map Dx.int) (some 140) none):=aEx C2
 try dsimp only
 change cI _ _ [vT (.scr K ns),vT (.int (0+(k:Int))),.v (.ol W),.v (.ol (fK (Kw.map Dx.int) (some 140) none)),y4,y5,y6,y7,y8,y9,y10,y11,y12] _
 generalize fK (Kw.map Dx.int) (some 140) none=V at Nz
 refine⟨rfl,rfl,4,rfl,hN,by decide,λr l1 r0 r1 F0=>?_⟩
 refine⟨1+r,200,rfl,F0,by omega,by omega,by decide,by decide,λkd l2 hF hd Do Hg=>?_⟩
 obtain⟨hP,Gd⟩:=kd.pl hF
 have hz:=kd.xz hF
 try dsimp only
 change cI _ _ [vT (.scr K ns),vT (.int (0+(k:Int))),.v (.ol l2),.v (.ol V),vT kd.x,y5,y6,y7,y8,y9,y10,y11,y12] _
 refine lP ?_
 refine⟨rfl,2,200,rfl,Hg,by decide,by decide,by decide,by decide,λkd2 l3 Jz Fz Lk Ie=>?_⟩
 refine⟨pD (by show 4<=1000000;decide),rfl,4,rfl,Nz,by decide,λr2 V1 a0 a1 Ny=>?_⟩
 refine gl_ a0 a1 λv hv=>?_
 obtain⟨ko,rfl,Mm,L9,Jj⟩:=aLd (a:=kd) (b:=kd2) hv ⟨hF,hd,Do⟩ ⟨Jz,Fz,Lk⟩
 try dsimp only
 change cI _ _ [vT (.scr K ns),vT (.int (0+(k:Int))),.v (.ol l3),.v (.ol V1),vT kd.x,vT ko.x,y6,y7,y8,y9,y10,y11,y12] _
 refine lP ?_
 refine⟨_,rfl,ko,rfl,rJ Ny,Mm,L9,by decide,λvd l4 hV Fp=>?_⟩
 have Al:=lN Mm hV L9 Jj
 have Dz:=nR ko vd
 refine⟨ko,vd,_,rfl,rfl,Mm,hV,L9,by decide,Jj,?_⟩
 try dsimp only
 change cI _ _ [vT (.scr K ns),vT (.int (0+(k:Int))),.v (.ol l3),vT (.lst V1),vT kd.x,vT ko.x,vT (.str (ko.vs vd)),y7,y8,y9,y10,y11,y12] _
 refine lP (j_ (m6 rfl (d8 ?_)))
 try dsimp only
 change cI _ _ [vT (.scr K ns),vT (.int (0+(k:Int))),.v (.ol l3),.v (.ol (fK V1 (some 100) none)),vT kd.x,vT ko.x,vT (.str (ko.vs vd)),y7,y8,y9,y10,y11,y12] _
 have Nx:dS (fK V1 (some 100) none):=rJ Ny
 generalize fK V1 (some 100) none=V2 at Nx
 refine lP ?_
 refine⟨rfl,8,rfl,Nx,by decide,λway V3 b0 b1 Nw=>?_⟩
 try dsimp only
 change cI _ _ (LB K ns k l3 kd ko way V3 (.str (ko.vs vd)) y8 y9 y10 y11 y12) _
 refine cp_ (M:=λρ=>∃(x:Str) (V':List Dx),dS V'/\x.length<=900000/\(3<=way->x.length<=170000)/\ρ=(LB K ns k l3 kd ko way V' (.str x) y8 y9 y10 y11 y12)) ?_ (λD1 Du=>?_)
 case refine_2 =>
  by_cases hw:way<3
  ·refine uT (ρ':=(LB K ns k l3 kd ko way V3 (.str (ko.vs vd)) y8 y9 y10 y11 y12)) (fun Q q => ?_) ?_
   ·show Q (decide (way < 3)) _
    rw[dzT hw]
    exact q
   ·refine ⟨ko.vs vd,rfl,Nw,by omega,fun x' l' h' Dc => ?_⟩
    exact Du _ ⟨x',l',Dc,h',λz=>absurd hw (by omega),rfl⟩
  ·refine hn_ (ρ':=(LB K ns k l3 kd ko way V3 (.str (ko.vs vd)) y8 y9 y10 y11 y12)) (fun Q q => ?_) ?_
   ·show Q (decide (way < 3)) _
    rw[dzF hw]
    exact q
   ·exact Du _ ⟨_,V3,Nw,by omega,λ_=>by omega,rfl⟩
 rintro ρ ⟨x1,V4,Nv,Go,K1,rfl⟩
 refine cp_ (M:=λρ=>∃(x:Str) (V':List Dx),dS V'/\x.length<=900000/\ρ=(LB K ns k l3 kd ko way V' (.str x) y8 y9 y10 y11 y12)) ?_ (λD1 Du=>?_)
 case refine_2 =>
  by_cases hw:way=3\/way=4
  ·refine uT (ρ':=(LB K ns k l3 kd ko way V4 (.str x1) y8 y9 y10 y11 y12)) (fun Q q => ?_) ?_
   ·show if decide (way=3)=true then _ else _
    by_cases h3:way=3
    ·rw[if_pos (dzT h3)];exact q
    ·rw [if_neg (by rw [decide_eq_true_eq]; exact h3)]
     show Q (decide (way=4)) _
     rw[dzT (hw.resolve_left h3)]
     exact q
   ·refine ⟨x1,rfl,Nv,K1 (by omega),fun x' l' h' Dc => ?_⟩
    exact Du _ ⟨x',l',Dc,h',rfl⟩
  ·refine hn_ (ρ':=(LB K ns k l3 kd ko way V4 (.str x1) y8 y9 y10 y11 y12)) (fun Q q => ?_) ?_
   ·show if decide (way=3)=true then _ else _
    rw[if_neg (by rw[decide_eq_true_eq];exact λz=>hw (.inl z))]
    show Q (decide (way=4)) _
    rw[dzF (λz=>hw (.inr z))]
    exact q
   ·exact Du _ ⟨_,V4,Nv,Go,rfl⟩
 rintro ρ ⟨x2,V5,Nu,C2,rfl⟩
 refine cp_ (M:=λρ=>∃(x:Str) (V':List Dx),dS V'/\x.length<=900000/\ρ=(LB K ns k l3 kd ko way V' (.str x) y8 y9 y10 y11 y12)) ?_ (λD1 Du=>?_)
 case refine_2 =>
  by_cases hw:way=5
  ·refine uT (ρ':=(LB K ns k l3 kd ko way V5 (.str x2) y8 y9 y10 y11 y12)) (fun Q q => ?_) ?_
   ·show Q (decide (way=5)) _
    rw[dzT hw]
    exact q
   ·refine ⟨rfl,64,rfl,Nu,by decide,fun r5 V' d0 d1 hV' => ?_⟩
    refine⟨r5,rfl,d0,λx' h'=>?_⟩
    exact Du _ ⟨x',V',hV',by omega,rfl⟩
  ·refine hn_ (ρ':=(LB K ns k l3 kd ko way V5 (.str x2) y8 y9 y10 y11 y12)) (fun Q q => ?_) ?_
   ·show Q (decide (way=5)) _
    rw[dzF hw]
    exact q
   ·exact Du _ ⟨_,V5,Nu,C2,rfl⟩
 rintro ρ ⟨x3,V6,hV6,K0,rfl⟩
 refine lP ⟨by show x3.length<=1000000;omega,?_⟩
 have ht:(Txt.slice x3 none (some 3000)).length<=3000:=by
  have e:=aNp (x:=x3) (j:=3000)
  rw[gE]
  show(aJ (Txt.slice x3 none (some ((3000:Nat):Int)))).length<=3000
  rw[e,fR]
  exact Nat.min_le_left _ _
 try dsimp only
 change cI _ _ (LB K ns k l3 kd ko way V6 (.str (Txt.slice x3 none (some 3000))) y8 y9 y10 y11 y12) _
 generalize Txt.slice x3 none (some 3000)=t at ht
 refine lP ?_
 refine⟨kd,t,rfl,hF,hd,by omega,?_⟩
 try dsimp only
 change cI _ _ (LB K ns k l3 kd ko way V6 (.str t) (vT (kd.ox (kd.rdV (aJ t)))) y9 y10 y11 y12) _
 refine cp_ (M:=λρ=>∃(d du:Dx) (V':List Dx),aUn d/\((d=.str t/\du=kd.ox (kd.rdV (aJ t)))\/noT d/\du=.non)/\ρ=(LB K ns k l3 kd ko way V' d (vT du) y9 y10 y11 y12)) ?_ (λD1 Du=>?_)
 case refine_2 =>
  have Iy:aUn (.str t):=⟨t,λQ q=>.inl ⟨t,rfl,q⟩⟩
  by_cases hw:way=6
  ·show if decide (way=6)=true then _ else _
   rw[if_pos (dzT hw)]
   refine⟨rfl,2,rfl,hV6,by decide,λr6 V7 d0 d1 hV7=>?_⟩
   show if decide (r6=0)=true then _ else _
   by_cases h6:r6=0
   ·rw [if_pos (dzT h6)]
    refine lP ?_
    refine⟨pD (by show 1<=1000000;decide),pD (by show 1<=1000000;decide),pD (by show 1<=1000000;decide),pD (by show 8<=1000000;decide),rfl,8,rfl,hV7,by decide,λr8 V8 f0 f1 hV8=>?_⟩
    refine gl_ f0 f1 λv hv=>?_
    obtain⟨hn,hs⟩:=aZh hv
    exact Du _ ⟨v,.non,V8,hs,.inr ⟨hn,rfl⟩,rfl⟩
   ·rw [if_neg (by rw [decide_eq_true_eq]; exact h6)]
    exact Du _ ⟨.str t,_,V7,Iy,.inl ⟨rfl,rfl⟩,rfl⟩
  ·show if decide (way=6)=true then _ else _
   rw[if_neg (by rw[decide_eq_true_eq];exact hw)]
   exact Du _ ⟨.str t,_,V6,Iy,.inl ⟨rfl,rfl⟩,rfl⟩
 rintro ρ ⟨d,du,V7,⟨z,M9⟩,hc,rfl⟩
 refine lP ?_
 refine⟨kd.x,rfl,hz,by omega,?_⟩
 rw[bBi kd]
 refine lP (jj_ (fv_ (m6 rfl (zO ?_))))
 refine M9 _ ?_
 try dsimp only
 change cI _ _ (LB K ns k l3 kd ko way V7 d (vT du) (vT kd.x) (vT (.str z)) y11 y12) _
 have Gs:∀(wd:Str) (fo:Dx),Kn (LB K ns k l3 kd ko way V7 d (vT du) (vT kd.x) (vT (.str z)) (vT (.str wd)) (vT fo)):=λwd fo=>hk _ ⟨_,_,_,_,_,_,_,_,_,_,_,_,rfl⟩
 have L7:∀(wd:Str) (fo:Dx),(du=.non/\wd = "NoText" \/ (du ≠ .non/\wd = "told" /\ fo=du/\du.Pd/\du.deep<=8))->cI (xIf (xOr (xB (xOp neT (bM 9) (bM 4))) (xOr (xB (xOp neX (cX aCw (aW (bM 6) cJ)) (bM 10))) (xB (xOp neX (bM 11) (xOp ixX (iV (aW (xC (.str "told")) (aW (xC (.str "NoText")) cJ))) (cX zN (aW (xOp (lF false) (bM 8) (xC .non)) cJ))))))) (gW (xC (.bl false))) fD)
  (xIf (yF (xB (xOp (lF true) (bM 8) (xC .non))) (aBw (xB (cX (zT 8) (aW (bM 12) (aW (bM 8) cJ)))))) (gW (xC (.bl false))) fD) (LB K ns k l3 kd ko way V7 d (vT du) (vT kd.x) (vT (.str z)) (vT (.str wd)) (vT fo)) { nx:=Kn,rt:=λs x=>Q s,bk:=nx,ct:=Kn }:=λwd fo hw=>by
  refine lJ (ρ':=(LB K ns k l3 kd ko way V7 d (vT du) (vT kd.x) (vT (.str z)) (vT (.str wd)) (vT fo))) (λQ q=>?_) ?_
  ·refine aFy (wV (kL (m6 rfl (m6 rfl ?_))))
   refine⟨rfl,hP,by show kd.x.deep<=60;omega,aVv kd,?_⟩
   refine aFy (wV (kL (jj_ (fv_ (m6 rfl (zO ?_))))))
   refine M9 _ ?_
   refine m6 rfl ?_
   show if(!decide (z=z))=true then _ else _
   rw[dzT rfl]
   refine wV (kL (m6 rfl ?_))
   refine kL (zP ⟨pD (by show 2<=1000000;decide),?_⟩)
   refine jj_ (fv_ (kL (m6 rfl ?_)))
   rcases hw with⟨h1,h2⟩ | ⟨h1,h2,_⟩
   ·rw [h1,h2] at q ⊢
    exact q
   ·rw [h2] at q ⊢
    exact aFq h1 q
  ·rcases hw with ⟨h1,h2⟩ | ⟨h1,h2,h3,h4,h5⟩
   ·refine hn_ (ρ':=(LB K ns k l3 kd ko way V7 d (vT du) (vT kd.x) (vT (.str z)) (vT (.str wd)) (vT fo))) (fun Q q => ?_) (Gs wd fo)
    refine aGa (wV (kL (m6 rfl ?_)))
    show lF true du .non _
    rw[h1]
    rw[h1]at q
    exact q
   ·refine hn_ (ρ':=(LB K ns k l3 kd ko way V7 d (vT du) (vT kd.x) (vT (.str z)) (vT (.str wd)) (vT fo))) (fun Q q => ?_) (Gs wd fo)
    refine aGa (wV (kL (m6 rfl ?_)))
    show lF true du .non _
    refine aLj h1 ?_
    refine aFz (wV (jj_ (fv_ (m6 rfl (fv_ (m6 rfl (zO ?_)))))))
    refine⟨du,by rw[h3];rfl,h4,h5,?_⟩
    rw[h3]at q ⊢
    exact q
 refine cp_ (M:=λρ=>∃(wd:Str) (fo:Dx),(du=.non/\wd = "NoText" \/ (du ≠ .non/\wd = "told" /\ fo=du/\du.Pd/\du.deep<=8))/\ρ=(LB K ns k l3 kd ko way V7 d (vT du) (vT kd.x) (vT (.str z)) (vT (.str wd)) (vT fo))) ?_ (λD1 Du=>?_)
 ·rintro ρ ⟨wd,fo,hw,rfl⟩
  exact L7 wd fo hw
 ·rcases hc with ⟨rfl,Kj⟩ | ⟨hn,Kj⟩
  ·refine ⟨kd,.str t,rfl,hF,hd,.inl ⟨t,rfl,by omega,?_⟩⟩
   cases e:kd.rdV (aJ t)with
   |none =>
    have e2:asked kd t=vV:=by unfold asked;rw[e]
    have Er:du=.non:=by rw[Kj,e];rfl
    rw[e2]
    exact Du _ ⟨"NoText",.non,.inl ⟨Er,rfl⟩,rfl⟩
   |some v =>
    have hv:=((yA hF).mp e).1
    have e2:asked kd t=.tup [.str "told",kd.vx v]:=by unfold asked;rw[e]
    have Er:du=kd.vx v:=by rw[Kj,e];rfl
    rw[e2]
    exact Du _ ⟨"told",kd.vx v,.inr ⟨by rw[Er];exact aCd hv,rfl,Er.symm,by rw[Er];exact kd.vxpd v hF hv,by have:=(kd.vx_sz v hF hv).2;rw[Er];omega⟩,rfl⟩
  ·exact⟨kd,d,rfl,hF,hd,.inr ⟨hn,Du _ ⟨"NoText",.non,.inl ⟨Kj,rfl⟩,rfl⟩⟩⟩
end
structure Fx(K:cZ)(mg:kP)(nm:Str)(st:Stmt)(ps:List Str)(f:Addr)(fd:FuncData):Prop where
 F:Fun K nm nm st f fd
 b:Binds K fd ps []
 k:PySem.W.keepIn K (.ref f)=true
 m:mg nm=some (.ref f)
theorem Fx.cal{nm:Str}{st:Stmt}{ps:List Str}{f:Addr}{fd:FuncData}{j:Nat}{sp:Sp}(x:Fx K mg nm st ps f fd)(h:FnOk P w K mg base CX0 j f fd ps sp):Cal P w K mg base j nm ps sp:=⟨f,fd,h,x.b,x.k,x.m⟩
theorem aTm{j:Nat}{f:Addr}{fd:FuncData}{ps:List Str}{g:GB}(no:∀l ds Q,¬g l ds Q):FnOk P w K mg base CX0 j f fd ps (spB g):=
 ⟨λvs H Q E h=>by obtain⟨_,_,_,_,_,_,_,_,_,_,_,_,_,h3,_⟩:=h;exact(no _ _ _ h3).elim,λA outer s H args us vs Q E hr he hb hv h=>by obtain⟨_,_,_,_,_,_,_,_,_,_,_,_,_,h3,_⟩:=h;exact(no _ _ _ h3).elim⟩
theorem lX{j:Nat}{f:Addr}{fd:FuncData}{ps:List Str}{g:GC}(no:∀ds Q,¬g ds Q):FnOk P w K mg base CX0 j f fd ps (spX g):=
 ⟨λvs H Q E h=>by obtain⟨_,ds,Qx,_,_,h,_⟩:=h;exact absurd h (no _ _),λA outer s H args us vs Q E _ _ _ _ h=>by obtain⟨_,ds,Qx,_,_,h,_⟩:=h;exact absurd h (no _ _)⟩
structure Mx(K:cZ)(C:Addr)(m qual:Str)(st:Stmt)(ps:List Str)(f:Addr)(fd:FuncData):Prop where
 F:Fun K m qual st f fd
 b:Binds K fd ps []
 h:Meth K C m f
 c:Cls K C
theorem Mx.cal{C:Addr}{m qual:Str}{st:Stmt}{ps:List Str}{f:Addr}{fd:FuncData}{j:Nat}{sp:Sp}(M:Mx K C m qual st ps f fd)(h:FnOk P w K mg base CX0 j f fd ps sp):aAz P w K mg base j C m ps sp:=⟨M.c,f,fd,M.h,h,M.b⟩
theorem aMa{j:Nat}{f:Addr}{fd:FuncData}{ps:List Str}{g:GB}(no:∀l ds Q,¬g l ds Q):FnOk P w K mg base CX0 j f fd ps (kS g):=
 ⟨λvs H Q E h=>by obtain⟨_,_,_,h⟩:=h;obtain⟨_,_,_,_,_,_,_,_,_,_,_,_,_,h3,_⟩:=h;exact(no _ _ _ h3).elim,λA outer s H args us vs Q E hr he hb hv h=>by obtain⟨_,_,_,h⟩:=h;obtain⟨_,_,_,_,_,_,_,_,_,_,_,_,_,h3,_⟩:=h;exact(no _ _ _ h3).elim⟩
theorem Fx.calE{nm:Str}{st:Stmt}{ps:List Str}{f:Addr}{fd:FuncData}{j:Nat}{sp:Sp}(x:Fx K mg nm st ps f fd)(h:FnOk P w K mg base (CXe P w) j f fd ps sp):CalE P w K mg base j nm ps sp:=⟨f,fd,h,x.b,x.k,x.m⟩
theorem Mx.calE{C:Addr}{m qual:Str}{st:Stmt}{ps:List Str}{f:Addr}{fd:FuncData}{j:Nat}{sp:Sp}(M:Mx K C m qual st ps f fd)(h:FnOk P w K mg base (CXe P w) j f fd ps sp):jX P w K mg base j C m ps sp:=⟨M.c,f,fd,M.h,h,M.b⟩
theorem aLz{j:Nat}{f:Addr}{fd:FuncData}{ps:List Str}{g:GOE}(no:∀C l ds Q Ex,¬g C l ds Q Ex):FnOk P w K mg base (CXe P w) j f fd ps (eV g):=
 ⟨λvs H Q E h=>by obtain⟨_,C,_,_,l,_,ds,Qx,Ex,_,_,_,_,_,h,_⟩:=h;exact absurd h (no _ _ _ _ _),λA outer s H args us vs Q E _ _ _ _ h=>by obtain⟨_,C,_,_,l,_,ds,Qx,Ex,_,_,_,_,_,h,_⟩:=h;exact absurd h (no _ _ _ _ _)⟩
section
variable{C_Reader Ab:Addr}
theorem j4{fKN fNM fTK:Addr}{dKN dNM dTK:FuncData}(KN:Fx K mg "_law_kind" dw_ AU fKN dKN)(NM:Fx K mg "_law_name" ga_ AX fNM dNM)(TK:Fx K mg "_law_take" et_ AD fTK dTK)(Af:mg "range" = none)(m_int:mg "int" = none):∀n,FnOk P w K mg base CX0 (n+2) fKN dKN AU (spB (gKN n))
  | 0 => aTm fun l ds Q h => by
      obtain⟨d,_,_,h1,h2,_⟩:=h
      omega
  |n+1=>aRx (j:=n) KN.F (TK.cal (uE TK.F)) (NM.cal (aKl NM.F (TK.cal (uE TK.F)) Af)) (KN.cal (j4 KN NM TK Af m_int n)) Af m_int
theorem e7{fRM fUP:Addr}{dRM dUP:FuncData}(RM:Fx K mg "_law_room" de_ ["kind"] fRM dRM)(UP:Fx K mg "_law_up" ig_ BD fUP dUP)(Bb:mg "max" = none):∀n,FnOk P w K mg base CX0 (n+1) fRM dRM ["kind"] (spX (gRM n))
  | 0 => lX fun ds Q h => by
      obtain⟨k,_,_,h1,_⟩:=h
      have:=gf_ k
      omega
  |n+1=>aRs (j:=n) RM.F (RM.cal (e7 RM UP Bb n)) (UP.cal (aRq UP.F)) Bb
theorem aGq(d:Dx):1<=d.deep:=by cases d<;>simp only[Dx.deep]<;>omega
theorem p0{fCP:Addr}{dCP:FuncData}(CP:Fx K mg "_law_copy" dx_ AS fCP dCP)(Ac:mg "isinstance" = none)(m_list:mg "list" = none)(Aq:mg "tuple" = none)(m_dict:mg "dict" = none):∀n,FnOk P w K mg base CX0 (n+1) fCP dCP AS (spX (gCP n))
  | 0 => lX fun ds Q h => by
      obtain⟨d,_,_,h1,_⟩:=h
      have:=aGq d
      omega
  |n+1=>aXu (j:=n+1) CP.F (CP.cal (p0 CP Ac m_list Aq m_dict n)) Ac m_list Aq m_dict
theorem q5{fAK:Addr}{dAK:FuncData}(AK:Fx K mg "_law_alike" dg_ AI fAK dAK)(Ac:mg "isinstance" = none)(m_dict:mg "dict" = none)(Aq:mg "tuple" = none)(m_list:mg "list" = none)(Ad:mg "len" = none)(Af:mg "range" = none)(m_str:mg "str" = none)(m_int:mg "int" = none)(Bf:mg "bool" = none):∀n,FnOk P w K mg base CX0 (n+1) fAK dAK AI (spX (zT n))
  | 0 => lX fun ds Q h => by
      obtain⟨d,_,_,h1,_⟩:=h
      have:=aGq d
      omega
  |n+1=>aKs (j:=n+1) AK.F (AK.cal (q5 AK Ac m_dict Aq m_list Ad Af m_str m_int Bf n)) Ac m_dict Aq m_list Ad Af m_str m_int Bf
theorem b_{fVA fTK fPW:Addr}{dVA dTK dPW:FuncData}(VA:Fx K mg "_law_value" ed_ AR fVA dVA)(TK:Fx K mg "_law_take" et_ AD fTK dTK)(PW:Fx K mg "_law_power" ee_ ["width"] fPW dPW)(Af:mg "range" = none)(Ad:mg "len" = none):∀n,FnOk P w K mg base CX0 (n+1) fVA dVA AR (kS (gVA n))
  | 0 => aMa fun l ds Q h => by
      obtain⟨kd,_,_,_,h1,_⟩:=h
      have:=gf_ kd
      omega
  |n+1=>aRp (j:=n+1) VA.F (TK.cal (uE TK.F)) (PW.cal (aEu PW.F Af)) (VA.cal (b_ VA TK PW Af Ad n)) Af Ad (by omega)
theorem i8{fSV:Addr}{dSV:FuncData}(SV:Fx K mg "_law_written" cq_ AH fSV dSV)(m_str:mg "str" = none):∀n,FnOk P w K mg base CX0 (n+1) fSV dSV AH (spX (gSV n))
  | 0 => lX fun ds Q h => by
      obtain⟨kd,_,_,_,_,_,_,h1,_⟩:=h
      have:=gf_ kd
      omega
  |n+1=>aRw (j:=n+1) SV.F (SV.cal (i8 SV m_str n)) m_str
theorem c5{fTV fTN fTR fTC fTS fTH:Addr}{dTV dTN dTR dTC dTS dTH:FuncData}(TV:Fx K mg "taken_value" ds_ AC fTV dTV)(TN:Fx K mg "taken_number" di_ AC fTN dTN)(TR:Fx K mg "taken_row" fe_ AV fTR dTR)(TC:Fx K mg "taken_record" dh_ AF fTC dTC)(TS:Fx K mg "taken_some_fields" ce_ AF fTS dTS)(TH:Fx K mg "taken_choice" dj_ AZ fTH dTH)
    (Ku:Cal P w K mg base 2 "is_value" AY (spX aTj)) (CM_passes:aAz P w K mg base 1 C_Reader "passes" AA (spO (gPA C_Reader))) (CM_take:jX P w K mg base 2 C_Reader "take" AA (eV (aGc C_Reader Ab))) (CM_take_number:jX P w K mg base 2 C_Reader "take_number" AJ (eV (aLw C_Reader Ab))) (Ai:PyProof.Rows.OwnCls "NoText" Ab veM "ValueError.__new__" mg base)
    (A3:∃t,mg "COMMA" = some (.str jV t)) (Ah:∃t,mg "FIGURES_OF_A_BYTE" = some (.int 3 t)) (Af:mg "range" = none) (Ad:mg "len" = none):∀n,FnOk P w K mg base (CXe P w) (3+3*n) fTV dTV AC (eV (z8 C_Reader Ab n))
  | 0 => aLz fun C l ds Q Ex h => by
      obtain⟨_,_,_,kd,_,_,_,_,h1,_⟩:=h
      have:=gf_ kd
      omega
  | n + 1 => by
    have ih:=TV.calE (c5 TV TN TR TC TS TH Ku CM_passes CM_take CM_take_number Ai A3 Ah Af Ad n)
    have Mr:=TN.calE (aKi TN.F CM_take_number Ku Ah Ai)
    have Mq:=TR.calE (aKg TR.F ih CM_take Af A3 (by omega))
    have GTS:=TS.calE (aKf TS.F ih CM_take CM_passes Ad A3 (by omega))
    have GTC:=TC.calE (aKh TC.F GTS Ad Ai (by omega))
    have GTH:=TH.calE (aKj TH.F ih CM_take CM_take_number Ad Ah Ai (by omega))
    exact(aRr (j:=3+3*n+2) TV.F (Mr.mono (by omega)) (Mq.mono (by omega)) GTC (GTH.mono (by omega))).mono (by omega)
theorem i9{fLV fLF fLN fPW fPT:Addr}{dLV dLF dLN dPW dPT:FuncData}(LV:Fx K mg "_law_read_value" ci_ AB fLV dLV)(LF:Fx K mg "_law_read_fields" bz_ AQ fLF dLF)(LN:Fx K mg "_law_number" ei_ ["word"] fLN dLN)(PW:Fx K mg "_law_power" ee_ ["width"] fPW dPW)(PT:Fx K mg "_law_parts" ff_ AW fPT dPT)(Ad:mg "len" = none)(m_int:mg "int" = none)(Af:mg "range" = none):∀n,FnOk P w K mg base CX0 (1+2*n) fLV dLV AB (spX (zS n))
  | 0 => lX fun ds Q h => by
      obtain⟨kd,_,_,_,h1,_⟩:=h
      have:=gf_ kd
      omega
  | n + 1 => by
    have ih:=LV.cal (i9 LV LF LN PW PT Ad m_int Af n)
    have GLF:=LF.cal (aKo LF.F ih Ad)
    exact(aKm (j:=1+2*n+1) LV.F (LN.cal (aKn LN.F Ad m_int)) (PW.cal (aEu PW.F Af)) (PT.cal (i0 PT.F Ad m_int)) (ih.mono (by omega)) GLF Ad m_int (by omega)).mono (by omega)
end
theorem rL{K:cZ}{t:Value}:∀{cs:List Value},(∀c∈cs,PySem.W.kitOne K t c=some false)->PySem.W.kitAny K t cs=some false
 | [],_=>by simp only[PySem.W.kitAny]
 |c::r,h=>by
  have h1:=h c aA
  have h2:=rL (cs:=r) λc' h'=>h c' (aC _ h')
  simp only[PySem.W.kitAny,h1,h2]
theorem aYa{K:cZ}{mg:kP}{base:Heap}{CF CV CB CM CT CN CR:Addr}(hF:ClsX K mg "FieldError" CF)(hV:ClsX K mg "NoValue" CV)(hB:ClsX K mg "NoBytes" CB)(hM:ClsX K mg "NoMake" CM)(hT:ClsX K mg "NoText" CT)(hN:ClsX K mg "NoName" CN)(hR:ClsX K mg "NoRow" CR)
  (l:[(some true,true),(some false,false),(some false,false),(some false,false),(some true,true),(some false,false),(some false,false)]=(["FieldError","NoValue","NoBytes","NoMake","NoText","NoName","NoRow"]:List Str).map (λm=>match lH K m with | some D=>(PySem.W.kitOne K (.ref CT) (.ref D),t3 K CT D) | none=>(none,false))) (v:PySem.W.kitOne K (.ref CT) (.type "ValueError")=some true) (hb:K.In base):Kit48 K mg CV CB CM CT CN CR/\xY base CT CF:=by
 simp only[bB,dA,hF.at',hV.at',hB.at',hM.at',hT.at',hN.at',hR.at',List.cons.injEq,Prod.mk.injEq,and_true]at l
 obtain⟨⟨_,f2⟩,⟨kV,_⟩,⟨kB,_⟩,⟨kM,_⟩,⟨kT,_⟩,⟨kN,_⟩,⟨kR,_⟩⟩:=l
 refine⟨⟨hV.m,hB.m,hM.m,hT.m,hN.m,hR.m,aAk hT.ok,kT.symm,v,rL λc hc=>?_⟩,xU hT.ok f2.symm hb⟩
 simp only[aF,bY,or_false]at hc
 rcases hc with rfl | rfl | rfl | rfl | rfl
 ·exact kB.symm
 ·exact kM.symm
 ·exact kN.symm
 ·exact kR.symm
 ·exact kV.symm
theorem left_top:PySem.W.LeftO PySem.Challenge.pw_laidfields_k47_texts_of_no_value (PySem.W.view PySem.Challenge.pw_laidfields_k47_texts_of_no_value [1,2,3,4,5,6,7,9,11,12,13,14,15,17,18,19,20,21,22,23,24,25,26,27,28,30,31,32,33,34,35,36,37,38,39,40,41,42,43,44,45,46,47,48,49,50,51,52]) [] (λs=>PySem.W.xlAt (PySem.W.view PySem.Challenge.pw_laidfields_k47_texts_of_no_value [1,2,3,4,5,6,7,9,11,12,13,14,15,17,18,19,20,21,22,23,24,25,26,27,28,30,31,32,33,34,35,36,37,38,39,40,41,42,43,44,45,46,47,48,49,50,51,52]) [] s&&PySem.W.recOk [] s) (exHook (seenF PySem.Challenge.pw_laidfields_k47_texts_of_no_value) (seenV PySem.Challenge.pw_laidfields_k47_texts_of_no_value)).obs (exHook (seenF PySem.Challenge.pw_laidfields_k47_texts_of_no_value) (seenV PySem.Challenge.pw_laidfields_k47_texts_of_no_value)).val 6152 true:=w9 (by decide) (by kernel_rfl) (λs=>by kernel_rfl) aEs
theorem pB{α:Type}{f g:Nat->α}:∀{l:List Nat},l.map f=l.map g->∀i,i∈l->f i=g i:=λh i hi=>List.map_inj_left.mp h i hi
theorem aAx{K:cZ}{f:Addr}{fd:FuncData}(F:Fun K "law" "law" lD f fd)(s:Shared)(v:Value):BindsTo s fd ⟨[v],[]⟩ [("script",v)]:=by
 obtain⟨oc,od,kV,doc,pm,an,Ak,ct,osl,rfl,_⟩:=F.ex
 exact .of_eq rfl
theorem all_mk{l:PySem.W.OpenLaw}{w:World}{K:cZ}{mg:kP}{fa:Addr}{h:Heap}(hK:seenF PySem.Challenge.pw_laidfields_k47_texts_of_no_value K=seenV PySem.Challenge.pw_laidfields_k47_texts_of_no_value)(X:K.In h)(G:h.Ns mainGlobals mg)(L4:mg "law" = some (.ref fa)) :
  ∃fd:FuncData,(∀(s:Shared) (v:Value),BindsTo s fd ⟨[v],[]⟩ [("script",v)])/\∀base:Heap,K.In base->base.Ns mainGlobals mg->FnOk l.prog w K mg base CX0 30 fa fd ["script"] (spLaw K):=by
 have hd:=pB (f:=λi=>uI K (fY (fP PySem.Challenge.pw_laidfields_k47_texts_of_no_value i))) (g:=λi=>uX (fP PySem.Challenge.pw_laidfields_k47_texts_of_no_value i)) (l:=[9,12,13,14,15,20,21,23,24,25,26,27,28,30,31,32,33,34,35,36,37,38,39,40,41,42,43,44,45,46,47,48,49,50,51,52]) (congrArg (λx=>x.1) hK)
 have Jg:(bltNs++[(⟨#[86,97,108,117,101,69,114,114,111,114]⟩:Str)]).map (oZ K)=List.replicate 18 true:=congrArg (λx=>x.2.1) hK
 rw[bT]at Jg
 have Lh:bltNs.map (oZ K)++[oZ K (⟨#[86,97,108,117,101,69,114,114,111,114]⟩:Str)]=List.replicate 17 true++[true]:=Jg
 obtain⟨hn,hv⟩:=List.append_inj Lh (by rw[aG];rfl)
 have e_VE:(⟨#[86,97,108,117,101,69,114,114,111,114]⟩:Str) = "ValueError":=by rfl
 have Bg:mg "ValueError" = none:=PySem.W.mg_none_of X G (e_VE ▸ wK (List.cons.inj hv).1)
 have hc:=pB (f:=λi=>uH K (fY (fP PySem.Challenge.pw_laidfields_k47_texts_of_no_value i))) (g:=λi=>aZs (fP PySem.Challenge.pw_laidfields_k47_texts_of_no_value i)) (l:=[11,18,17,19]) (congrArg (λx=>x.2.2.1) hK)
 obtain⟨f9,d9,a9,F9⟩:=jP (hd 9 (by decide))
 have Cp:Fx K mg "is_whole" hi_ AS f9 d9:=⟨F9,iN F9 (λ_ _ _ _ _ _ _=>rfl),F9.kp,PySem.W.mg_of X G a9⟩
 obtain⟨f12,d12,a12,F12⟩:=jP (hd 12 (by decide))
 have Cq:Fx K mg "is_value" hj_ AY f12 d12:=⟨F12,dC F12 (λ_ _ _ _ _ _ _ _=>rfl),F12.kp,PySem.W.mg_of X G a12⟩
 obtain⟨f13,d13,a13,F13⟩:=jP (hd 13 (by decide))
 have Cr:Fx K mg "is_row_value" oJ ["kind","n","thing"] f13 d13:=⟨F13,pV F13 (λ_ _ _ _ _ _ _ _ _=>rfl),F13.kp,PySem.W.mg_of X G a13⟩
 obtain⟨f14,d14,a14,F14⟩:=jP (hd 14 (by decide))
 have Bz:Fx K mg "is_record_value" hk_ ["fields","thing"] f14 d14:=⟨F14,dC F14 (λ_ _ _ _ _ _ _ _=>rfl),F14.kp,PySem.W.mg_of X G a14⟩
 obtain⟨f15,d15,a15,F15⟩:=jP (hd 15 (by decide))
 have B0:Fx K mg "is_choice_value" hl_ ["kinds","thing"] f15 d15:=⟨F15,dC F15 (λ_ _ _ _ _ _ _ _=>rfl),F15.kp,PySem.W.mg_of X G a15⟩
 obtain⟨f20,d20,a20,F20⟩:=jP (hd 20 (by decide))
 have By:Fx K mg "read_value" ft_ AB f20 d20:=⟨F20,dC F20 (λ_ _ _ _ _ _ _ _=>rfl),F20.kp,PySem.W.mg_of X G a20⟩
 obtain⟨f21,d21,a21,F21⟩:=jP (hd 21 (by decide))
 have Bs:Fx K mg "are_figures" du_ AW f21 d21:=⟨F21,iN F21 (λ_ _ _ _ _ _ _=>rfl),F21.kp,PySem.W.mg_of X G a21⟩
 obtain⟨f23,d23,a23,F23⟩:=jP (hd 23 (by decide))
 have Br:Fx K mg "taken_value" ds_ AC f23 d23:=⟨F23,dC F23 (λ_ _ _ _ _ _ _ _=>rfl),F23.kp,PySem.W.mg_of X G a23⟩
 obtain⟨f24,d24,a24,F24⟩:=jP (hd 24 (by decide))
 have Cn:Fx K mg "taken_number" di_ AC f24 d24:=⟨F24,dC F24 (λ_ _ _ _ _ _ _ _=>rfl),F24.kp,PySem.W.mg_of X G a24⟩
 obtain⟨f25,d25,a25,F25⟩:=jP (hd 25 (by decide))
 have Df:Fx K mg "taken_row" fe_ AV f25 d25:=⟨F25,pV F25 (λ_ _ _ _ _ _ _ _ _=>rfl),F25.kp,PySem.W.mg_of X G a25⟩
 obtain⟨f26,d26,a26,F26⟩:=jP (hd 26 (by decide))
 have Cm:Fx K mg "taken_record" dh_ AF f26 d26:=⟨F26,dC F26 (λ_ _ _ _ _ _ _ _=>rfl),F26.kp,PySem.W.mg_of X G a26⟩
 obtain⟨f27,d27,a27,F27⟩:=jP (hd 27 (by decide))
 have Bq:Fx K mg "taken_some_fields" ce_ AF f27 d27:=⟨F27,dC F27 (λ_ _ _ _ _ _ _ _=>rfl),F27.kp,PySem.W.mg_of X G a27⟩
 obtain⟨f28,d28,a28,F28⟩:=jP (hd 28 (by decide))
 have Co:Fx K mg "taken_choice" dj_ AZ f28 d28:=⟨F28,dC F28 (λ_ _ _ _ _ _ _ _=>rfl),F28.kp,PySem.W.mg_of X G a28⟩
 obtain⟨f30,d30,a30,F30⟩:=jP (hd 30 (by decide))
 have Bo:Fx K mg "_law_cell_at" fh_ BC f30 d30:=⟨F30,dC F30 (λ_ _ _ _ _ _ _ _=>rfl),F30.kp,PySem.W.mg_of X G a30⟩
 obtain⟨f31,d31,a31,F31⟩:=jP (hd 31 (by decide))
 have Bm:Fx K mg "_law_numbers" fg_ AG f31 d31:=⟨F31,dC F31 (λ_ _ _ _ _ _ _ _=>rfl),F31.kp,PySem.W.mg_of X G a31⟩
 obtain⟨f32,d32,a32,F32⟩:=jP (hd 32 (by decide))
 have Ce:Fx K mg "_law_deck" hh_ AG f32 d32:=⟨F32,dC F32 (λ_ _ _ _ _ _ _ _=>rfl),F32.kp,PySem.W.mg_of X G a32⟩
 obtain⟨f33,d33,a33,F33⟩:=jP (hd 33 (by decide))
 have A7:Fx K mg "_law_take" et_ AD f33 d33:=⟨F33,dC F33 (λ_ _ _ _ _ _ _ _=>rfl),F33.kp,PySem.W.mg_of X G a33⟩
 obtain⟨f34,d34,a34,F34⟩:=jP (hd 34 (by decide))
 have Cd:Fx K mg "_law_kind" dw_ AU f34 d34:=⟨F34,dC F34 (λ_ _ _ _ _ _ _ _=>rfl),F34.kp,PySem.W.mg_of X G a34⟩
 obtain⟨f35,d35,a35,F35⟩:=jP (hd 35 (by decide))
 have Dg:Fx K mg "_law_name" ga_ AX f35 d35:=⟨F35,pV F35 (λ_ _ _ _ _ _ _ _ _=>rfl),F35.kp,PySem.W.mg_of X G a35⟩
 obtain⟨f36,d36,a36,F36⟩:=jP (hd 36 (by decide))
 have Ef:Fx K mg "_law_up" ig_ BD f36 d36:=⟨F36,dC F36 (λ_ _ _ _ _ _ _ _=>rfl),F36.kp,PySem.W.mg_of X G a36⟩
 obtain⟨f37,d37,a37,F37⟩:=jP (hd 37 (by decide))
 have Cb:Fx K mg "_law_room" de_ ["kind"] f37 d37:=⟨F37,iN F37 (λ_ _ _ _ _ _ _=>rfl),F37.kp,PySem.W.mg_of X G a37⟩
 obtain⟨f38,d38,a38,F38⟩:=jP (hd 38 (by decide))
 have A4:Fx K mg "_law_kind_within" df_ AT f38 d38:=⟨F38,pV F38 (λ_ _ _ _ _ _ _ _ _=>rfl),F38.kp,PySem.W.mg_of X G a38⟩
 obtain⟨f39,d39,a39,F39⟩:=jP (hd 39 (by decide))
 have B2:Fx K mg "_law_power" ee_ ["width"] f39 d39:=⟨F39,iN F39 (λ_ _ _ _ _ _ _=>rfl),F39.kp,PySem.W.mg_of X G a39⟩
 obtain⟨f40,d40,a40,F40⟩:=jP (hd 40 (by decide))
 have B1:Fx K mg "_law_value" ed_ AR f40 d40:=⟨F40,dC F40 (λ_ _ _ _ _ _ _ _=>rfl),F40.kp,PySem.W.mg_of X G a40⟩
 obtain⟨f41,d41,a41,F41⟩:=jP (hd 41 (by decide))
 have Bl:Fx K mg "_law_written" cq_ AH f41 d41:=⟨F41,dC F41 (λ_ _ _ _ _ _ _ _=>rfl),F41.kp,PySem.W.mg_of X G a41⟩
 obtain⟨f42,d42,a42,F42⟩:=jP (hd 42 (by decide))
 have B4:Fx K mg "_law_alike" dg_ AI f42 d42:=⟨F42,dC F42 (λ_ _ _ _ _ _ _ _=>rfl),F42.kp,PySem.W.mg_of X G a42⟩
 obtain⟨f43,d43,a43,F43⟩:=jP (hd 43 (by decide))
 have Cf:Fx K mg "_law_copy" dx_ AS f43 d43:=⟨F43,iN F43 (λ_ _ _ _ _ _ _=>rfl),F43.kp,PySem.W.mg_of X G a43⟩
 obtain⟨f44,d44,a44,F44⟩:=jP (hd 44 (by decide))
 have C4:Fx K mg "_law_number" ei_ ["word"] f44 d44:=⟨F44,iN F44 (λ_ _ _ _ _ _ _=>rfl),F44.kp,PySem.W.mg_of X G a44⟩
 obtain⟨f45,d45,a45,F45⟩:=jP (hd 45 (by decide))
 have Be:Fx K mg "_law_parts" ff_ AW f45 d45:=⟨F45,iN F45 (λ_ _ _ _ _ _ _=>rfl),F45.kp,PySem.W.mg_of X G a45⟩
 obtain⟨f46,d46,a46,F46⟩:=jP (hd 46 (by decide))
 have A8:Fx K mg "_law_read_value" ci_ AB f46 d46:=⟨F46,dC F46 (λ_ _ _ _ _ _ _ _=>rfl),F46.kp,PySem.W.mg_of X G a46⟩
 obtain⟨f47,d47,a47,F47⟩:=jP (hd 47 (by decide))
 have Bu:Fx K mg "_law_read_fields" bz_ AQ f47 d47:=⟨F47,pV F47 (λ_ _ _ _ _ _ _ _ _=>rfl),F47.kp,PySem.W.mg_of X G a47⟩
 obtain⟨f48,d48,a48,F48⟩:=jP (hd 48 (by decide))
 have Bn:Fx K mg "_law_changed" cr_ AL f48 d48:=⟨F48,dC F48 (λ_ _ _ _ _ _ _ _=>rfl),F48.kp,PySem.W.mg_of X G a48⟩
 obtain⟨f49,d49,a49,F49⟩:=jP (hd 49 (by decide))
 have B3:Fx K mg "_law_asked" go_ AB f49 d49:=⟨F49,dC F49 (λ_ _ _ _ _ _ _ _=>rfl),F49.kp,PySem.W.mg_of X G a49⟩
 obtain⟨f50,d50,a50,F50⟩:=jP (hd 50 (by decide))
 have Ax:Fx K mg "_law_parts_changed" bo_ AL f50 d50:=⟨F50,dC F50 (λ_ _ _ _ _ _ _ _=>rfl),F50.kp,PySem.W.mg_of X G a50⟩
 obtain⟨f51,d51,a51,F51⟩:=jP (hd 51 (by decide))
 have Cs:Fx K mg "_law_odd" iu_ ["number"] f51 d51:=⟨F51,iN F51 (λ_ _ _ _ _ _ _=>rfl),F51.kp,PySem.W.mg_of X G a51⟩
 obtain⟨f52,N8,a52,F52⟩:=jP (hd 52 (by decide))
 have E9:Fx K mg "law" lD ["script"] f52 N8:=⟨F52,iN F52 (λ_ _ _ _ _ _ _=>rfl),F52.kp,PySem.W.mg_of X G a52⟩
 have Ac:mg "isinstance" = none:=PySem.W.mg_none_of X G (hz_ hn 0 (by decide) (by rfl))
 have m_int:mg "int" = none:=PySem.W.mg_none_of X G (hz_ hn 1 (by decide) (by rfl))
 have Bf:mg "bool" = none:=PySem.W.mg_none_of X G (hz_ hn 2 (by decide) (by rfl))
 have m_list:mg "list" = none:=PySem.W.mg_none_of X G (hz_ hn 3 (by decide) (by rfl))
 have Ad:mg "len" = none:=PySem.W.mg_none_of X G (hz_ hn 4 (by decide) (by rfl))
 have m_str:mg "str" = none:=PySem.W.mg_none_of X G (hz_ hn 5 (by decide) (by rfl))
 have Aq:mg "tuple" = none:=PySem.W.mg_none_of X G (hz_ hn 6 (by decide) (by rfl))
 have Fb:mg "all" = none:=PySem.W.mg_none_of X G (hz_ hn 7 (by decide) (by rfl))
 have m_dict:mg "dict" = none:=PySem.W.mg_none_of X G (hz_ hn 8 (by decide) (by rfl))
 have Bb:mg "max" = none:=PySem.W.mg_none_of X G (hz_ hn 9 (by decide) (by rfl))
 have Dh:mg "min" = none:=PySem.W.mg_none_of X G (hz_ hn 10 (by decide) (by rfl))
 have Af:mg "range" = none:=PySem.W.mg_none_of X G (hz_ hn 11 (by decide) (by rfl))
 obtain⟨_,Av,r_BITS_OF_A_BYTE⟩:=gv_ (x:=.int 8) (hc 11 (by decide))
 obtain⟨_,rfl⟩:=r_BITS_OF_A_BYTE
 obtain⟨_,A3,r_COMMA⟩:=gv_ (x:=.str jV) (hc 18 (by decide))
 obtain⟨_,rfl⟩:=r_COMMA
 obtain⟨_,Bd,r_FIGURES⟩:=gv_ (x:=.str fT) (hc 17 (by decide))
 obtain⟨_,rfl⟩:=r_FIGURES
 obtain⟨_,Ah,r_FIGURES_OF_A_BYTE⟩:=gv_ (x:=.int 3) (hc 19 (by decide))
 obtain⟨_,rfl⟩:=r_FIGURES_OF_A_BYTE
 have hx:aSd K AN=[(true,[(some true,true),zF,zF,zF,zF,zF,zF],some true,some false),(true,[(some true,true),(some true,true),zF,zF,zF,zF,zF],some true,some false),(true,[(some true,true),zF,(some true,true),zF,zF,zF,zF],some true,some false),(true,[(some true,true),zF,zF,(some true,true),zF,zF,zF],some true,some false),(true,[(some true,true),zF,zF,zF,(some true,true),zF,zF],some true,some false),(true,[(some true,true),zF,zF,zF,zF,(some true,true),zF],some true,some false),(true,[(some true,true),zF,zF,zF,zF,zF,(some true,true)],some true,some false)]:=congrArg (λx=>x.2.2.2.2.1) hK
 rw[aKv]at hx
 simp only[bB,dA,List.cons.injEq,and_true]at hx
 obtain⟨C5,Dw,Dy,Ej,Eg,Eh,Fd⟩:=hx
 obtain⟨Bh,Bp,l_FieldError,v_FieldError,n_FieldError⟩:=jo_ C5 X G
 obtain⟨Ao,Dq,Ht,Hm,Hq⟩:=jo_ Dw X G
 obtain⟨Ap,Dr,Hu,Hn,Hr⟩:=jo_ Dy X G
 obtain⟨As,D9,Ip,Ij,Im⟩:=jo_ Ej X G
 obtain⟨Ab,Cz,Fc,Fa,Ik⟩:=jo_ Eg X G
 obtain⟨Ar,D8,Io,Ii,Il⟩:=jo_ Eh X G
 obtain⟨Au,Ev,J9,J6,J8⟩:=jo_ Fd X G
 have k_BITS_OF_A_BYTE:∃t,mg "BITS_OF_A_BYTE" = some (.int 8 t):=⟨_,PySem.W.mg_of X G Av⟩
 have k_COMMA:∃t,mg "COMMA" = some (.str jV t):=⟨_,PySem.W.mg_of X G A3⟩
 have k_FIGURES:∃t,mg "FIGURES" = some (.str fT t):=⟨_,PySem.W.mg_of X G Bd⟩
 have k_FIGURES_OF_A_BYTE:∃t,mg "FIGURES_OF_A_BYTE" = some (.int 3 t):=⟨_,PySem.W.mg_of X G Ah⟩
 have hO:[i5 K "Reader" [("__init__","Reader.__init__"),("passes","Reader.passes"),("take","Reader.take"),("take_end","Reader.take_end"),("take_run","Reader.take_run"),("take_number","Reader.take_number")] ["place","text"]]=[m5 [fE "__init__" "Reader.__init__" (dU (fP PySem.Challenge.pw_laidfields_k47_texts_of_no_value 22) 0),fE "passes" "Reader.passes" (dU (fP PySem.Challenge.pw_laidfields_k47_texts_of_no_value 22) 1),fE "take" "Reader.take" (dU (fP PySem.Challenge.pw_laidfields_k47_texts_of_no_value 22) 2),fE "take_end" "Reader.take_end" (dU (fP PySem.Challenge.pw_laidfields_k47_texts_of_no_value 22) 3),fE "take_run" "Reader.take_run" (dU (fP PySem.Challenge.pw_laidfields_k47_texts_of_no_value 22) 4),fE "take_number" "Reader.take_number" (dU (fP PySem.Challenge.pw_laidfields_k47_texts_of_no_value 22) 5)] [("__init__","Reader.__init__"),("passes","Reader.passes"),("take","Reader.take"),("take_end","Reader.take_end"),("take_run","Reader.take_run"),("take_number","Reader.take_number")] ["place","text"]]:=congrArg (λx=>x.2.2.2.2.2) hK
 simp only[List.cons.injEq,and_true]at hO
 have Eu:=hO
 obtain⟨C_Reader,at_Reader,Ae,mk_Reader,kp_Reader,ms_Reader,mf_Reader,na_Reader⟩:=aEw Eu
 have C1:mg "Reader" = some (.ref C_Reader):=PySem.W.mg_of X G at_Reader
 have na_Reader_place:NoAttr K C_Reader "place":=na_Reader "place" (by simp only[aF,true_or,or_true])
 have na_Reader_text:NoAttr K C_Reader "text":=na_Reader "text" (by simp only[aF,true_or,or_true])
 simp only[bB,dA,List.cons.injEq,and_true]at ms_Reader
 obtain⟨ms_Reader___init__,ms_Reader_passes,ms_Reader_take,ms_Reader_take_end,ms_Reader_take_run,ms_Reader_take_number⟩:=ms_Reader
 obtain⟨f_Reader___init__,d_Reader___init__,fa_Reader___init__,fn_Reader___init__,F_Reader___init__⟩:=dy_ ms_Reader___init__ (mf_Reader ("__init__","Reader.__init__") (by simp only[aF,true_or,or_true]))
 have b_Reader___init__:Binds K d_Reader___init__ BB []:=dC (st:=yS) F_Reader___init__ (λ_ _ _ _ _ _ _ _=>rfl)
 have mk_Reader_i:Mk K C_Reader f_Reader___init__:=⟨mk_Reader,fa_Reader___init__,fn_Reader___init__,kp_Reader⟩
 obtain⟨f_Reader_passes,d_Reader_passes,fa_Reader_passes,fn_Reader_passes,F_Reader_passes⟩:=dy_ ms_Reader_passes (mf_Reader ("passes","Reader.passes") (by simp only[aF,true_or,or_true]))
 have b_Reader_passes:Binds K d_Reader_passes AA []:=dC (st:=if_) F_Reader_passes (λ_ _ _ _ _ _ _ _=>rfl)
 have Bi:Mx K C_Reader "passes" "Reader.passes" if_ AA f_Reader_passes d_Reader_passes:=⟨F_Reader_passes,b_Reader_passes,⟨fa_Reader_passes,fn_Reader_passes,F_Reader_passes.kp⟩,Ae⟩
 obtain⟨f_Reader_take,d_Reader_take,fa_Reader_take,fn_Reader_take,F_Reader_take⟩:=dy_ ms_Reader_take (mf_Reader ("take","Reader.take") (by simp only[aF,true_or,or_true]))
 have b_Reader_take:Binds K d_Reader_take AA []:=dC (st:=tL) F_Reader_take (λ_ _ _ _ _ _ _ _=>rfl)
 have Bt:Mx K C_Reader "take" "Reader.take" tL AA f_Reader_take d_Reader_take:=⟨F_Reader_take,b_Reader_take,⟨fa_Reader_take,fn_Reader_take,F_Reader_take.kp⟩,Ae⟩
 obtain⟨f_Reader_take_end,d_Reader_take_end,fa_Reader_take_end,fn_Reader_take_end,F_Reader_take_end⟩:=dy_ ms_Reader_take_end (mf_Reader ("take_end","Reader.take_end") (by simp only[aF,true_or,or_true]))
 have b_Reader_take_end:Binds K d_Reader_take_end ["self"] []:=iN (st:=fz_) F_Reader_take_end (λ_ _ _ _ _ _ _=>rfl)
 have Ba:Mx K C_Reader "take_end" "Reader.take_end" fz_ ["self"] f_Reader_take_end d_Reader_take_end:=⟨F_Reader_take_end,b_Reader_take_end,⟨fa_Reader_take_end,fn_Reader_take_end,F_Reader_take_end.kp⟩,Ae⟩
 obtain⟨f_Reader_take_run,d_Reader_take_run,fa_Reader_take_run,fn_Reader_take_run,F_Reader_take_run⟩:=dy_ ms_Reader_take_run (mf_Reader ("take_run","Reader.take_run") (by simp only[aF,true_or,or_true]))
 have b_Reader_take_run:Binds K d_Reader_take_run AA []:=dC (st:=fy_) F_Reader_take_run (λ_ _ _ _ _ _ _ _=>rfl)
 have A9:Mx K C_Reader "take_run" "Reader.take_run" fy_ AA f_Reader_take_run d_Reader_take_run:=⟨F_Reader_take_run,b_Reader_take_run,⟨fa_Reader_take_run,fn_Reader_take_run,F_Reader_take_run.kp⟩,Ae⟩
 obtain⟨f_Reader_take_number,d_Reader_take_number,fa_Reader_take_number,fn_Reader_take_number,F_Reader_take_number⟩:=dy_ ms_Reader_take_number (mf_Reader ("take_number","Reader.take_number") (by simp only[aF,true_or,or_true]))
 have b_Reader_take_number:Binds K d_Reader_take_number AJ []:=dC (st:=dt_) F_Reader_take_number (λ_ _ _ _ _ _ _ _=>rfl)
 have Ay:Mx K C_Reader "take_number" "Reader.take_number" dt_ AJ f_Reader_take_number d_Reader_take_number:=⟨F_Reader_take_number,b_Reader_take_number,⟨fa_Reader_take_number,fn_Reader_take_number,F_Reader_take_number.kp⟩,Ae⟩
 have e:=L4.symm.trans E9.m
 cases e
 refine⟨N8,λs v=>aAx E9.F s v,λbase Mg _=>?_⟩
 exact have KT:=aYa Bp Dq Dr D9 Cz D8 Ev Fc Fa Mg
  have ON:=Cz.own Mg
  have N9:=Bi.cal (P:=l.prog) (w:=w) (mg:=mg) (base:=base) (zD (C_Reader:=C_Reader) Bi.F Ae na_Reader_text na_Reader_place Ad)
  have GTA:=Bt.calE (aEt Bt.F N9 ON)
  have GTE:=Ba.calE (P:=l.prog) (w:=w) (mg:=mg) (base:=base) (uG (C_Reader:=C_Reader) Ba.F Ae na_Reader_text na_Reader_place Ad ON)
  have Mq:=A9.cal (P:=l.prog) (w:=w) (mg:=mg) (base:=base) (uF (C_Reader:=C_Reader) A9.F Ae na_Reader_text na_Reader_place Ad)
  have GAF:=Bs.cal (P:=l.prog) (w:=w) (base:=base) (aKt Bs.F Ad Fb k_FIGURES)
  have Mr:=Ay.calE (ja_ Ay.F Mq GAF Ad m_int k_FIGURES ON)
  have CK:aHl l.prog w K mg base 1 C_Reader BB (eV (aTk C_Reader _)):=⟨_,_,mk_Reader_i,aEv F_Reader___init__ Ae na_Reader_text na_Reader_place Ac m_str ON,b_Reader___init__⟩
  have GIV:=Cq.cal (P:=l.prog) (w:=w) (base:=base) (aKr Cq.F (Cp.cal (aRy Cp.F Ac m_int Bf)) (Cr.cal (lX λ_ _ h=>h)) (Bz.cal (lX λ_ _ h=>h)) (B0.cal (lX λ_ _ h=>h)) k_BITS_OF_A_BYTE)
  have GTV:=Br.calE (c5 Br Cn Df Cm Bq Co GIV N9 GTA Mr ON k_COMMA k_FIGURES_OF_A_BYTE Af Ad 5)
  have GRV:=By.calE (aKk (j:=15) By.F CK C1 GTV GTE)
  have GAS:=B3.cal (aSc B3.F GRV KT.1 (Bp.own Mg) KT.2 Ac m_int Bg)
  have Kq:=A7.cal (P:=l.prog) (w:=w) (base:=base) (uE A7.F)
  have Oa:=Bm.cal (P:=l.prog) (w:=w) (base:=base) (aRv Bm.F Af)
  have GKW:=A4.cal (aKq (j:=6) A4.F Kq (Cd.cal (j4 Cd Dg A7 Af m_int 5)) ((Cb.cal (e7 Cb Ef Bb 5)).mono (by decide)))
  have GPT:=Be.cal (P:=l.prog) (w:=w) (base:=base) (i0 Be.F Ad m_int)
  (aFk (aKp (L:=26) E9.F (Bo.cal (aSb Bo.F Ad)) (Ce.cal (aRz Ce.F Oa)) Oa Kq (GKW.mono (by decide)) ((B1.cal (b_ B1 A7 B2 Af Ad 5)).mono (by decide)) ((Bl.cal (i8 Bl m_str 5)).mono (by decide)) (Bn.cal (aSa Bn.F Kq Ad)) (Ax.cal (aRt Ax.F Kq GPT Ad)) (Cs.cal (aRu Cs.F Ad)) ((A8.cal (i9 A8 Bu C4 B2 Be Ad m_int Af 5)).mono (by decide)) ((Cf.cal (p0 Cf Ac m_list Aq m_dict 20)).mono (by decide)) (GAS.mono (by decide)) ((B4.cal (q5 B4 Ac m_dict Aq m_list Ad Af m_str m_int Bf 8)).mono (by decide)) Bb Dh Af Ad m_int m_str (by decide))).mono (by decide)
def lawRec:DefRec:=match lD with
 | .FunctionDef n a b _ _ _ sc _ _ pos=>⟨n,a,b,sc,pos⟩
 |_=>⟨⟨#[]⟩,⟨[],[],none,[],[],none,[]⟩,[],aM lD,⟨0,0,0,0⟩⟩
end Lf
open PySem PySem.W PyProof.Rows
set_option maxHeartbeats 0 in
theorem PySem.Challenge.cw_laidfields_k47_texts_of_no_value_holds : PySem.Challenge.rw_laidfields_k47_texts_of_no_value.Holds := by
 w_on;o_law
 refine holds_open (d := Lf.lawRec) (kwd := []) (XP := XL (PySem.W.view PySem.Challenge.pw_laidfields_k47_texts_of_no_value [1, 2, 3, 4, 5, 6, 7, 9, 11, 12, 13, 14, 15, 17, 18, 19, 20, 21, 22, 23, 24, 25, 26, 27, 28, 30, 31, 32, 33, 34, 35, 36, 37, 38, 39, 40, 41, 42, 43, 44, 45, 46, 47, 48, 49, 50, 51, 52]) []) Lf.left_top (Hook.of (L2.exHook (Lf.seenF PySem.Challenge.pw_laidfields_k47_texts_of_no_value) (Lf.seenV PySem.Challenge.pw_laidfields_k47_texts_of_no_value))) (Hook.keeps (L2.exHook (Lf.seenF PySem.Challenge.pw_laidfields_k47_texts_of_no_value) (Lf.seenV PySem.Challenge.pw_laidfields_k47_texts_of_no_value))) (fun s e => xl_of s (fG.mp e).1) XL.keeps (by kernel_rfl) (by kernel_rfl) (by kernel_rfl) (fun s e => recFacts_of (fG.mp e).2) (by rfl) (by assumption) (by decide +kernel) ⟨rfl, rfl, rfl, rfl, rfl, by decide +kernel⟩ ?hw ?hc
 case hw=>w_witness2
 case hc=>exact L2.walk_ex (l:=PySem.Challenge.rw_laidfields_k47_texts_of_no_value) (n:=63) (k:=30) (x:= "script") (CX:=L2.CX0) (sp:=Lf.spLaw) rfl (by decide) (by rfl) (by first | exact⟨rfl,by decide,by decide⟩ | exact⟨rfl,by decide,by decide,rfl⟩) (λw K mg fa h hK X G L4=>Lf.all_mk hK X G L4) (λK H a ns hl _ hS=>⟨a,ns,rfl,hS,hl,λ_=>rfl⟩) (λ_ _ _ _ z=>z)
#print axioms PySem.Challenge.cw_laidfields_k47_texts_of_no_value_holds

import PyProof.Rows.All
import Wide.All
import OpenK.AllK
import Wide.FinOn
import PyProof.EqAt
import PyProof.EqKinds
import PyProof.NeKinds
import PyProof.TupleCall
import PyProof.StrWalks
import PyProof.ConsumeWalk
import PyProof.EnumMake
import PyProof.EnumFor
import PyProof.ListNew
import PyProof.ListRange
import PyProof.Rows.SortWalk
import PyProof.Rows.Range3
import PyProof.Rows.ChunkEnd
import PyProof.Rows.ChunkLeaf
import PyProof.Rows.StrInSeq
import Wide.Txt
import PyProof.DictIter
import PyProof.DictWalks
import PyProof.AttrMissHeap
import KE.KDictOf
import KE.KSortTup
import KE.KDictList
import KE.KRevIter
import PyProof.Rows.Own
import PyProof.ExcBaseAll.ValueError
import PyProof.RulesAs
import PyProof.NsDelKeeps
import PyProof.ExcClass3
import PyProof.ExcArgsOwn
import KE.KIsAll
import KE.IntBitsLaws
import PyProof.Rows.StrRev
import Lean
import PySem.Challenge.RW_laidfields_k21_bytes_of_no_value
abbrev AA:List PySem.Str:=["kind","some","place"]
abbrev AB:List PySem.Str:=["kind","room","most","parts","end","multiple","begin"]
abbrev AC:List PySem.Str:=["kind","row","begin","found","byte","most","k","one","inners","ones","at","inner","room","multiple","name"]
abbrev AD:List PySem.Str:=["number","m"]
abbrev AE:List PySem.Str:=["kind","value"]
abbrev AF:List PySem.Str:=["pool","many"]
abbrev AG:List PySem.Str:=["kind"]
abbrev AH:List PySem.Str:=["kind","value","found","k","parts","most","inner","one"]
abbrev AI:List PySem.Str:=["kind","thing"]
abbrev AJ:List PySem.Str:=["script","k","pool","most","kind","laid","other","rows","thing"]
abbrev AK:List PySem.Str:=["pool","deep","most"]
abbrev AL:List PySem.Str:=["kind","row","begin"]
abbrev AM:List PySem.Str:=["kinds"]
abbrev AN:List PySem.Str:=["one","other"]
abbrev AO:List PySem.Str:=["thing"]
abbrev AQ:List PySem.Str:=["pool","laid","other","at","small","to","far","odd","byte","turned","rows"]
abbrev AR:List PySem.Str:=["pool","deep","most","way","kind","found","many"]
abbrev AS:List PySem.Str:=["pool","many","letters","stem","found","k","name","way","at","turn"]
abbrev AT:List PySem.Str:=["FieldError","NoValue","NoBytes","NoMake","NoText","NoName","NoRow"]
abbrev AU:List PySem.Str:=["rooms"]
abbrev AV:List PySem.Str:=["fields","some","place"]
abbrev AW:List PySem.Str:=["thing","how_many"]
abbrev AX:List PySem.Str:=["pool","kind"]
abbrev AY:List PySem.Str:=["laid","place","some"]
abbrev AZ:List PySem.Str:=["pool","laid","other"]
abbrev BB:List PySem.Str:=["room","multiple"]
abbrev BC:List PySem.Str:=["w","some","place"]
abbrev BD:List PySem.Str:=["room"]
abbrev BE:List PySem.Str:=["multiple"]
abbrev BF:List PySem.Str:=["fields"]
abbrev BG:List PySem.Str:=["name","inner"]
set_option Elab.async false
set_option linter.all false
set_option maxRecDepth 100000
set_option maxHeartbeats 16000000
abbrev eE:=PySem.W.Frag
abbrev lN:=PySem.Str→Option PySem.Value
variable {P:PySem.Program} {w:PySem.World} {K:eE} {mg:lN} {base:PySem.Heap} {fd:PySem.FuncData}
abbrev dzT:=@decide_eq_true
abbrev dzF:=@decide_eq_false
abbrev ozI:=@Option.some.inj
abbrev nzL:=@Nat.le_trans
abbrev fO:=List (PySem.Addr×PySem.Obj)
abbrev hW:=PySem.Value→PySem.Shared→Prop
section
open PySem PySem.Spec PyProof.Rows
abbrev aA:=@List.getElem?_eq_getElem
abbrev aB:=@List.mem_cons_self
abbrev aC:=@List.length_append
abbrev aD:=@List.mem_cons_of_mem
abbrev aE:=@List.length_map
abbrev aF:=@List.getElem?_eq_some_iff
abbrev aG:=@Heap.get?_push_of_some
abbrev aI:=@List.mem_cons
abbrev aJ:=@List.mem_of_getElem?
abbrev aK:=@List.mem_append_right
abbrev aL:=@List.length_replicate
abbrev aM:=@List.length_cons
abbrev aO:=@List.mem_singleton
abbrev aP:=@List.map_cons
abbrev aR:=@List.getD_eq_getElem?_getD
abbrev aS:=@Heap.lt_size
abbrev aU:=@List.length_nil
abbrev aV:=@Nat.le_refl
abbrev aW:=@List.size_toArray
abbrev aX:=@Bool.false_ne_true
abbrev aY:=@List.getElem?_append_right
abbrev aZ:=@List.nil_append
abbrev bA:=@List.mem_append
abbrev bB:=@List.length_set
abbrev bC:=@Heap.get?_push_size
abbrev bD:=@List.append_assoc
abbrev bG:=@List.getElem?_map
abbrev bH:=@List.replicate_succ
abbrev bI:=@List.not_mem_nil
abbrev bJ:=@List.mem_append_left
abbrev bK:=@List.getElem?_cons_zero
abbrev bM:=@Heap.get?_update_other
abbrev bN:=@Nat.lt_of_lt_of_le
abbrev bO:=@List.getElem?_cons_succ
abbrev bP:=@List.map_nil
abbrev bR:=@List.length_range
abbrev bS:=@List.getElem?_append_left
abbrev bT:=@List.length_take
abbrev bU:=@List.cons_append
abbrev bV:=@Nat.lt_of_succ_lt
abbrev bZ:=@List.append_nil
abbrev cA:=@List.set_cons_succ
abbrev cB:=@List.replicate_zero
abbrev cF:=@List.getElem?_eq_none
abbrev cG:=@List.zip_cons_cons
abbrev cH:=@List.set_cons_zero
abbrev cI:=@List.getElem?_replicate
abbrev cJ:=@List.getElem?_zip_eq_some
abbrev cK:=@Nat.zero_le
abbrev cL:=@Int.toNat_natCast
abbrev cM:=@List.length_zip
abbrev cN:=@Int.toNat_of_nonneg
abbrev cO:=@Nat.ne_of_lt
abbrev cP:=@List.mem_map
abbrev cQ:=@List.map_map
abbrev cR:=@List.lookup_cons
abbrev cT:=@List.length_singleton
abbrev cU:=@List.map_append
abbrev cY:=@Int.mul_le_mul_of_nonneg_right
abbrev cZ:=@Bool.and_eq_true
abbrev dC:=@Option.isSome_some
abbrev dE:=@List.mem_map_of_mem
abbrev dF:=@List.drop_succ_cons
abbrev dI:=@List.nodup_cons
abbrev dJ:=@Option.bind_some
abbrev dM:=@List.getElem?_of_mem
abbrev dQ:=@Option.isSome_iff_exists
abbrev dR:=@List.set_eq_of_length_le
abbrev dY:=@List.getElem?_set_ne
abbrev dZ:=@Nat.lt_irrefl
abbrev eC:=@Option.getD_some
abbrev eI:=@List.drop_zero
abbrev eK:=@Nat.le_max_right
abbrev eL:=@Nat.add_sub_cancel_left
abbrev eQ:=@Nat.le_max_left
abbrev eZ:=@Bool.false_eq_true
abbrev fB:=@List.any_cons
abbrev fH:=@Option.bind_eq_some_iff
abbrev fI:=@List.flatten_cons
abbrev fJ:=@List.ext_getElem?
abbrev fK:=@List.find?_cons
abbrev fQ:=@PyProof.Rows.callWith_type1
abbrev fR:=@Option.map_eq_some_iff
abbrev fS:=@List.getElem?_set_self
abbrev fX:=@Int.emod_lt_of_pos
abbrev gB:=@Heap.get?_update_self
abbrev gH:=@Nat.sub_self
abbrev gJ:=@List.nodup_append
abbrev gK:=@List.drop_eq_nil_iff
abbrev gL:=@Bool.and_eq_true_iff
abbrev gM:=@List.getElem?_take_of_lt
abbrev gO:=@List.mem_range
abbrev gP:=@List.all_eq_true
abbrev gQ:=@Heap.size_push
abbrev gW:=@List.take_of_length_le
abbrev gZ:=@Int.emod_nonneg
abbrev hZ:=@List.reverse_cons
abbrev iB:=@Int.le_refl
abbrev iF:=@Nat.ne_of_gt
abbrev iG:=@List.length_drop
abbrev iN:=@List.flatMap_append
abbrev iO:=@List.filterMap_cons
abbrev iS:=@List.all_cons
abbrev iT:=@Int.toNat_add
abbrev jD:=@Nat.add_mul
abbrev jJ:=@Nat.zero_add
abbrev jK:=@Int.pow_succ
abbrev jX:=@List.mem_iff_getElem?
end
namespace L2
open PySem PySem.Spec PyProof.Rows
abbrev Key:=Sum Int Str
def sY:Key→Value→Bool
 | .inl k,v=>Value.isInt k v
 | .inr x,v=>Value.isStrOf x v
def bBf (w:World):Key→Int
 | .inl k=>hashInt k
 | .inr x=>hashStr w x
theorem cf_:∀ {k:Key} {v:Value},sY k v=true→(∃ i t,k=Sum.inl i∧v=Value.int i t)∨(∃ x t,k=Sum.inr x∧v=Value.str x t)
 | .inl i,v,h=>by
  obtain ⟨t,e⟩:=Value.isInt_shape (k:=i) (v:=v) h
  exact .inl ⟨i,t,rfl,e⟩
 | .inr x,v,h=>by
  obtain ⟨t,e⟩:=Value.isStrOf_shape (x:=x) (v:=v) h
  exact .inr ⟨x,t,rfl,e⟩
theorem aCe (i:Int) (t:Tok):sY (.inl i) (.int i t)=true:=by simp [sY,Value.isInt]
theorem aCd (x:Str) (t:Tok):sY (.inr x) (.str x t)=true:=by simp [sY,Value.isStrOf]
theorem aSi (a b:Int):decide ((Sum.inl a:Key)=Sum.inl b)=(a == b):=by
 by_cases e:a=b
 ·subst e; simp
 ·have h:¬ (Sum.inl a:Key)=Sum.inl b:=fun q=>e (Sum.inl.inj q)
  rw [dzF h]
  exact (beq_eq_false_iff_ne.mpr e).symm
theorem aSf (a b:Str):decide ((Sum.inr a:Key)=Sum.inr b)=decide (a=b):=by
 by_cases e:a=b
 ·subst e; simp
 ·have h:¬ (Sum.inr a:Key)=Sum.inr b:=fun q=>e (Sum.inr.inj q)
  rw [dzF h,dzF e]
theorem aSh (a:Int) (b:Str):decide ((Sum.inl a:Key)=Sum.inr b)=false:=dzF (fun q=>nomatch q)
theorem aSg (a:Str) (b:Int):decide ((Sum.inr a:Key)=Sum.inl b)=false:=dzF (fun q=>nomatch q)
def fG (prog:Program) (w:World):PySem.KeyKind prog w Key where
 is:=sY
 hash:=bBf w
 inj:=fun v a b ha hb=>by
  rcases cf_ ha with ⟨i,t,rfl,rfl⟩ | ⟨x,t,rfl,rfl⟩
  ·rcases cf_ hb with ⟨j,u,rfl,e⟩ | ⟨y,u,rfl,e⟩
   ·injection e with e1 _; rw [e1]
   ·exact nomatch e
  ·rcases cf_ hb with ⟨j,u,rfl,e⟩ | ⟨y,u,rfl,e⟩
   ·exact nomatch e
   ·injection e with e1 _; rw [e1]
 byValue:=fun k v h=>by
  rcases cf_ h with ⟨i,t,rfl,rfl⟩ | ⟨x,t,rfl,rfl⟩ <;> rfl
 pyHash:=fun hv h=>by
  rcases cf_ hv with ⟨i,t,rfl,rfl⟩ | ⟨x,t,rfl,rfl⟩
  ·exact wpAny_pyHash_int h
  ·exact wpAny_pyHash_str h
 eqBool:=fun hu hv h=>by
  rcases cf_ hu with ⟨i,t,rfl,rfl⟩ | ⟨x,t,rfl,rfl⟩
  ·rcases cf_ hv with ⟨j,u,rfl,rfl⟩ | ⟨y,u,rfl,rfl⟩
   ·rw [aSi] at h; exact wpAny_eqBool_int h
   ·rw [aSh] at h; exact SeqAt.EqAt.int_str i t y u _ _ _ _ h
  ·rcases cf_ hv with ⟨j,u,rfl,rfl⟩ | ⟨y,u,rfl,rfl⟩
   ·rw [aSg] at h; exact SeqAt.EqAt.str_int x t j u _ _ _ _ h
   ·rw [aSf] at h; exact wpAny_eqBool_str h
 «strs» := fun k x t v h=>by
  rcases cf_ h with ⟨i,u,rfl,e⟩ | ⟨y,u,rfl,e⟩
  ·exact nomatch e
  ·injection e with e1 _
   subst e1
   cases v <;> rfl
theorem yK (prog:Program) (w:World) (i:Int) (t:Tok):(fG prog w).is (.inl i) (.int i t)=true:=aCe i t
theorem yJ (prog:Program) (w:World) (x:Str) (t:Tok):(fG prog w).is (.inr x) (.str x t)=true:=aCd x t
inductive V where
 | non | bl (b:Bool) | int (i:Int) | str (x:Str) | byt (b:Array UInt8) | flt (b:UInt64) | ref (a:Addr) | ty (n:String)
 deriving DecidableEq
def RelV:V→Value→Prop
 | .non,u=>u=Value.none
 | .bl b,u=>u=Value.bool b
 | .int i,u => ∃ t,u=Value.int i t
 | .str x,u => ∃ t,u=Value.str x t
 | .byt b,u => ∃ t,u=Value.bytes b t
 | .flt b,u => ∃ t,u=Value.float b t
 | .ref a,u=>u=Value.ref a
 | .ty n,u=>u=Value.type n
abbrev Vals:List V→List Value→Prop:=Paired RelV
theorem Vals.length {xs:List V} {us:List Value} (r:Vals xs us):xs.length=us.length:=Paired.length r
theorem Vals.get:∀ {xs:List V} {us:List Value} {i:Nat} {x:V},Vals xs us→xs[i]? = some x→∃ u,us[i]? = some u∧RelV x u
 | _,_,_,_,.nil,e=>by simp at e
 | _,_,0,_,.cons r _,e=>by simp at e; subst e; exact ⟨_,rfl,r⟩
 | _,_,i + 1,x,.cons _ t,e=>by
  obtain ⟨u,h1,h2⟩:=Vals.get (i:=i) (x:=x) t (by simpa using e)
  exact ⟨u,by simpa using h1,h2⟩
theorem Vals.set {x:V} {u:Value} (r:RelV x u):∀ {xs:List V} {us:List Value} (i:Nat),Vals xs us→Vals (xs.set i x) (us.set i u)
 | _,_,_,.nil=>.nil
 | _,_,0,.cons _ t=>.cons r t
 | _,_,i + 1,.cons q t=>.cons q (Vals.set r i t)
theorem Vals.append:∀ {xs ys:List V} {us ws:List Value},Vals xs us→Vals ys ws→Vals (xs ++ ys) (us ++ ws)
 | _,_,_,_,.nil,s=>s
 | _,_,_,_,.cons r t,s=>.cons r (Vals.append t s)
theorem Vals.take:∀ {xs:List V} {us:List Value} (n:Nat),Vals xs us→Vals (xs.take n) (us.take n)
 | _,_,0,_=>.nil
 | _,_,_ + 1,.nil=>.nil
 | _,_,n + 1,.cons r t=>.cons r (Vals.take n t)
theorem Vals.drop:∀ {xs:List V} {us:List Value} (n:Nat),Vals xs us→Vals (xs.drop n) (us.drop n)
 | _,_,0,r=>r
 | _,_,_ + 1,.nil=>.nil
 | _,_,n + 1,.cons _ t=>Vals.drop n t
def RelO:Option V→Option Value→Prop
 | some v,some u=>RelV v u
 | none,none=>True
 | _,_=>False
def KV {κ:Type}:List (κ×V)→List (κ×Value)→Prop:=Paired fun (p:κ×V) (q:κ×Value)=>p.1=q.1∧RelV p.2 q.2
def kV:Key→V
 | .inl i=>.int i
 | .inr x=>.str x
inductive HO where
 /-- a list -/
 | lst (xs:List V)
 /-- a tuple (never changes) -/
 | tup (xs:List V)
 /-- a dict whose keys are ints and texts; one whose keys are tuples of ints and texts (the empty one is both) -/
 | dK (kvs:List (Key×V)) | dT (kvs:List (List Key×V))
 /-- a set of ints: its members,its size -/
 | set (S:Int→Bool) (n:Nat)
 /-- an instance of the class at C,its dict at dx,its attributes -/
 | ins (C dx:Addr) (fs:List (Str×V))
 /-- the dict of the instance at x -/
 | own (x:Addr)
 /-- the dict of an exception -/
 | xd (fs:List (Str×V))
 /-- a bound method,f of x -/
 | met (f x:Addr)
 /-- a range object lo,lo + 1,.. below hi -/
 | rng (lo hi:Int)
 /-- a thing that is known to the object (the script; a dict while a loop walks it): read,never written while it is so -/
 | frz (o:Obj) (u:HO)
 /-- a code object's table -/
 | tbl (ps:Array Value)
 /-- any other thing,by what is true of its one object (a def of one's own: SetO a S n:=HO.ext fun h=>..) -/
 | ext (φ:Heap→Prop)
abbrev Hp:=Addr→Option HO
def upd (H:Hp) (a:Addr) (o:HO):Hp:=fun b=>if b=a then some o else H b
theorem cX {H:Hp} {a:Addr} {o:HO}:upd H a o a=some o:=by unfold upd; rw [if_pos rfl]
theorem gA {H:Hp} {a b:Addr} {o:HO} (h:b≠a):upd H a o b=H b:=by unfold upd; rw [if_neg h]
theorem aWq {H:Hp} {a b:Addr} {o u:HO} (h:H a=some o) (h':H b=some u) (d:o≠u):a≠b:=by
 intro e; subst e; rw [h] at h'; exact d (ozI h')
theorem d3 {H:Hp} {a b:Addr} {o:HO} (h:H a=some o) (h':H b=none):a≠b:=by
 intro e; subst e; rw [h] at h'; cases h'
section
variable (P:Program) (w:World)
def ObjOk (H:Hp) (h:Heap) (a:Addr):HO→Prop
 | .lst xs=>xs.length≤sizeLine∧∃ (its:List Value) (n:Nat),Vals xs its∧h.get? a=some { cls:=.type "list",data:=.seq its.toArray n }
 | .tup xs=>xs.length≤sizeLine∧∃ its:List Value,Vals xs its∧IsTup h a its.toArray
 | .dK kvs=>kvs.length≤sizeLine∧(a == sysModules)=false∧∃ vs,KV kvs vs∧h.DictOf (fG P w) a vs
 | .dT kvs => kvs.length ≤ sizeLine ∧ (a == sysModules) = false ∧ ∃ xs : List (List Key × Addr × Value),
   Paired (fun (p:List Key×V) (q:List Key×Addr×Value)=>p.1=q.1∧H q.2.1=some (.tup (p.1.map kV))∧RelV p.2 q.2.2) kvs xs ∧
   ∃ o es ep,h.get? a=some o∧o.ExactDict∧o.data=.dict es ep∧es.toList=xs.map (entryOfKey (tupleKind (fG P w)))∧(xs.map (·.1)).Nodup
 | .set S n=>h.SetOf (intKind P w) a S n
 | .ins C dx fs => H dx = some (.own a) ∧ fs.length ≤ 1000 ∧ dx ≠ a ∧ h.get? a = some (PySem.W.instObj C dx) ∧
   ∃ mA,h.Ns1 dx mA∧(∀ f,RelO (fs.lookup f) (mA f))∧PySem.Within mA (fs.map (·.1))
 | .own _ => ∃ o,h.get? a=some o
 | .xd fs => ∃ mA,h.Ns1 a mA∧∀ f,RelO (fs.lookup f) (mA f)
 | .rng lo hi => ∃ t u v,h.get? a=some { cls:=.type "range",data:=.fields #[.int lo t,.int hi u,.int 1 v] }
 | .frz o u=>h.get? a=some o∧ObjOk H h a u
 | .tbl ps=>h.get? a=some { cls:=.none,data:=.fields ps }
 | .met f x=>h.get? a=some (PySem.W.methodObj (.ref f) (.ref x))
 | .ext φ=>φ h∧(∃ o,h.get? a=some o)∧∀ h1 h2:Heap,φ h1→(∀ o,h1.get? a=some o→h2.get? a=some o)→φ h2
def HOk (H:Hp) (h:Heap):Prop := ∀ a o,H a=some o→ObjOk P w H h a o
end
section
variable {P:Program} {w:World} {H H':Hp} {h h':Heap} {a:Addr} {o:HO}
theorem ObjOk.lt (x:ObjOk P w H h a o):a < h.objs.size:=by
 cases o with
 | lst xs=>obtain ⟨_,_,_,_,e⟩:=x; exact aS e
 | tup xs=>obtain ⟨_,_,_,p⟩:=x; exact p.lt
 | dK kvs=>obtain ⟨_,_,_,_,o,_,_,e,_⟩:=x; exact aS e
 | dT kvs=>obtain ⟨_,_,_,_,o,_,_,e,_⟩:=x; exact aS e
 | set S n=>obtain ⟨o,_,_,_,e,_⟩:=x; exact aS e
 | ins C dx fs=>obtain ⟨_,_,_,e,_⟩:=x; exact aS e
 | own y=>obtain ⟨_,e⟩:=x; exact aS e
 | xd fs=>obtain ⟨_,⟨_,_,_,e,_⟩,_⟩:=x; exact aS e
 | rng lo hi=>obtain ⟨_,_,_,e⟩:=x; exact aS e
 | frz ob u=>obtain ⟨e,_⟩:=x; exact aS e
 | tbl ps=>exact aS (show h.get? a=some _ from x)
 | met f y=>exact aS (show h.get? a=some _ from x)
 | ext φ=>obtain ⟨_,⟨_,e⟩,_⟩:=x; exact aS e
theorem Paired.mapP {α β:Type} {F G:α→β→Prop}:∀ {l₁:List α} {l₂:List β},Paired F l₁ l₂→(∀ a b,F a b→G a b)→Paired G l₁ l₂
 | _,_,.nil,_=>.nil
 | _,_,.cons r t,f=>.cons (f _ _ r) (Paired.mapP t f)
theorem ObjOk.stay (x:ObjOk P w H h a o) (k:∀ b u,(b=a∨H b=some (.own a))→h.get? b=some u→h'.get? b=some u)
  (ho:∀ b,H b=some (.own a)→H' b=some (.own a)) (ht:∀ b xs,H b=some (.tup xs)→H' b=some (.tup xs)):ObjOk P w H' h' a o:=by
 induction o with
 | lst xs=>obtain ⟨z,its,n,r,e⟩:=x; exact ⟨z,its,n,r,k _ _ (.inl rfl) e⟩
 | tup xs=>obtain ⟨z,its,r,ob,e,c⟩:=x; exact ⟨z,its,r,ob,k _ _ (.inl rfl) e,c⟩
 | dK kvs=>obtain ⟨z,y,vs,r,ob,es,ep,e,c⟩:=x; exact ⟨z,y,vs,r,ob,es,ep,k _ _ (.inl rfl) e,c⟩
 | dT kvs =>
  obtain ⟨z,y,xs,r,ob,es,ep,e,c⟩:=x
  exact ⟨z,y,xs,Paired.mapP r fun p q z=>⟨z.1,ht _ _ z.2.1,z.2.2⟩,ob,es,ep,k _ _ (.inl rfl) e,c⟩
 | set S n=>obtain ⟨ob,es,ep,t,e,c⟩:=x; exact ⟨ob,es,ep,t,k _ _ (.inl rfl) e,c⟩
 | ins C dx fs =>
  obtain ⟨d,z,ne,e,mA,⟨od,es,ep,e2,c⟩,r⟩:=x
  exact ⟨ho _ d,z,ne,k _ _ (.inl rfl) e,mA,⟨od,es,ep,k _ _ (.inr d) e2,c⟩,r⟩
 | own y=>obtain ⟨ob,e⟩:=x; exact ⟨ob,k _ _ (.inl rfl) e⟩
 | xd fs=>obtain ⟨mA,⟨od,es,ep,e,c⟩,r⟩:=x; exact ⟨mA,⟨od,es,ep,k _ _ (.inl rfl) e,c⟩,r⟩
 | rng lo hi=>obtain ⟨t,u,v,e⟩:=x; exact ⟨t,u,v,k _ _ (.inl rfl) e⟩
 | frz ob u ih=>obtain ⟨e,q⟩:=x; exact ⟨k _ _ (.inl rfl) e,ih q⟩
 | tbl ps =>
  have e:h.get? a=some { cls:=.none,data:=.fields ps }:=x
  show h'.get? a=some { cls:=.none,data:=.fields ps }
  exact k a _ (.inl rfl) e
 | met f y =>
  have e:h.get? a=some (PySem.W.methodObj (.ref f) (.ref y)):=x
  show h'.get? a=some (PySem.W.methodObj (.ref f) (.ref y))
  exact k a _ (.inl rfl) e
 | ext φ=>obtain ⟨p,⟨o,e⟩,st⟩:=x; exact ⟨st _ _ p fun o q=>k _ _ (.inl rfl) q,⟨o,k _ _ (.inl rfl) e⟩,st⟩
theorem HOk.lt (x:HOk P w H h) (e:H a=some o):a < h.objs.size:=(x a o e).lt
theorem HOk.fresh (x:HOk P w H h) (e:h.objs.size≤a):H a=none:=by
 cases q:H a with
 | none=>rfl
 | some u=>exact absurd (bN (x.lt q) e) (dZ _)
theorem HOk.kept (x:HOk P w H h) (k:∀ b u,h.get? b=some u→h'.get? b=some u):HOk P w H h':=fun a o e =>
 (x a o e).stay (fun b u _ q=>k b u q) (fun _ q=>q) fun _ _ q=>q
theorem HOk.laid (x:HOk P w H h) (k:∀ b u,h.get? b=some u→h'.get? b=some u) (hp:h.objs.size≤a) (new:ObjOk P w (upd H a o) h' a o):HOk P w (upd H a o) h':=fun b u e=>by
 have hn:=x.fresh hp
 by_cases hb:b=a
 ·subst hb; rw [cX] at e; cases e; exact new
 ·rw [gA hb] at e
  exact (x b u e).stay (fun c v _ q=>k c v q) (fun c q=>by rw [gA (d3 q hn)]; exact q) fun c xs q=>by rw [gA (d3 q hn)]; exact q
end
def Rd (H:Hp) (a:Addr) (u:HO):Prop:=H a=some u∨∃ o,H a=some (.frz o u)
theorem Rd.ok {P:Program} {w:World} {H:Hp} {h:Heap} {a:Addr} {u:HO} (r:Rd H a u) (x:HOk P w H h):ObjOk P w H h a u:=by
 rcases r with r | ⟨o,r⟩
 ·exact x a u r
 ·obtain ⟨_,q⟩:=x a _ r
  exact q
def Mut:Option HO→Prop
 | some (.lst _)=>True
 | some (.dK _)=>True
 | some (.dT _)=>True
 | some (.set _ _)=>True
 | some (.ins _ _ _)=>True
 | some (.ext _)=>True
 | _=>False
section
variable {P:Program} {w:World} {H:Hp} {h h':Heap} {x e:Addr} {o':HO}
theorem HOk.write (ok:HOk P w H h) (mu:Mut (H x)) (he:e=x∨H e=some (.own x)) (k:∀ b u,b≠e→h.get? b=some u→h'.get? b=some u) (Io:∃ u,h'.get? e=some u)
  (new:ObjOk P w (upd H x o') h' x o'):HOk P w (upd H x o') h':=fun b u q=>by
 have nown:∀ c y,H c=some (.own y)→c≠x:=fun c y r z=>by subst z; rw [r] at mu; exact mu
 have ntup:∀ c xs,H c=some (.tup xs)→c≠x:=fun c xs r z=>by subst z; rw [r] at mu; exact mu
 by_cases hb:b=x
 ·subst hb; rw [cX] at q; cases q; exact new
 ·rw [gA hb] at q
  by_cases Gu:b=e
  ·have q':H b=some (.own x):=by
    rcases he with z | z
    ·exact absurd (Gu.trans z) hb
    ·rw [Gu]; exact z
   rw [q] at q'; cases q'
   obtain ⟨v,hv⟩:=Io
   exact ⟨v,by rw [Gu]; exact hv⟩
  ·refine (ok b u q).stay (fun c v hc r=>k c v ?_ r) (fun c r=>by rw [gA (nown c b r)]; exact r) fun c xs r=>by rw [gA (ntup c xs r)]; exact r
   rcases hc with rfl | hc
   ·exact Gu
   ·rintro rfl
    rcases he with z | z
    ·exact nown c b hc z
    ·rw [hc] at z; cases z; exact hb rfl
end
structure Un (fs ex:List Addr) (H H':Hp) (h h':Heap):Prop where
 keep:∀ b o,h.get? b=some o→H b=none→b∉fs→b∉ex→h'.get? b=some o
 slot:∀ b o,h.get? b=some o→H b=none→b∈fs→b∉ex→∃ sl,h'.get? b=some { o with slots:=sl }
 free:∀ b o,h.get? b=some o→H b=none→b∉ex→H' b=none
 there:∀ b o,h.get? b=some o→b∉ex→∃ o',h'.get? b=some o'
 tups:∀ b xs,H b=some (.tup xs)→H' b=some (.tup xs)
 frzs:∀ b o u,H b=some (.frz o u)→H' b=some (.frz o u)
 tbls:∀ b ps,H b=some (.tbl ps)→∃ more,H' b=some (.tbl (ps ++ more))
section
variable {fs fs' ex ex':List Addr} {H H1 H2:Hp} {h h1 h2 h':Heap} {a x e:Addr} {o:HO}
theorem Un.any (u:Un fs ex H H1 h h1) {b:Addr} {ob:Obj} (q:h.get? b=some ob) (n:H b=none) (hx:b∉ex):∃ sl,h1.get? b=some { ob with slots:=sl }:=by
 by_cases hb:b∈fs
 ·exact u.slot b ob q n hb hx
 ·exact ⟨ob.slots,u.keep b ob q n hb hx⟩
theorem Un.kept (k:∀ b u,h.get? b=some u→h'.get? b=some u):Un fs ex H H h h' :=
 ⟨fun b ob q _ _ _=>k b ob q,fun b ob q _ _ _=>⟨ob.slots,k b ob q⟩,fun _ _ _ n _=>n,fun b ob q _=>⟨ob,k b ob q⟩,fun _ _ q=>q,fun _ _ _ q=>q,fun _ ps q=>⟨#[],by rw [q]; simp⟩⟩
theorem Un.refl:Un fs ex H H h h:=Un.kept fun _ _ q=>q
theorem Un.laid (k:∀ b u,h.get? b=some u→h'.get? b=some u) (hp:h.objs.size≤a) (hn:H a=none):Un fs ex H (upd H a o) h h' where
 keep:=fun b u q _ _ _=>k b u q
 slot:=fun b u q _ _ _=>⟨u.slots,k b u q⟩
 free:=fun b u q n _=>by rw [gA (cO (bN (aS q) hp))]; exact n
 there:=fun b u q _=>⟨u,k b u q⟩
 tups:=fun b xs q=>by rw [gA (d3 q hn)]; exact q
 frzs:=fun b u xs q=>by rw [gA (d3 q hn)]; exact q
 tbls:=fun b ps q=>⟨#[],by rw [gA (d3 q hn),q]; simp⟩
theorem Un.write (mu:Mut (H x)) (he:e=x∨H e=some (.own x)) (k:∀ b u,b≠e→h.get? b=some u→h'.get? b=some u) (Io:∃ u,h'.get? e=some u):Un fs ex H (upd H x o) h h':=by
 have hx:∀ b,H b=none→b≠x:=fun b n z=>by subst z; rw [n] at mu; exact mu
 have hb:∀ b,H b=none→b≠e:=fun b n z=>by
  subst z
  rcases he with r | r
  ·exact hx b n r
  ·rw [n] at r; cases r
 have hm:∀ b u,H b=some u→¬ Mut (some u)→b≠x:=fun b u q nm z=>by subst z; rw [q] at mu; exact nm mu
 refine ⟨fun b u q n _ _=>k b u (hb b n) q,fun b u q n _ _=>⟨u.slots,k b u (hb b n) q⟩,fun b u q n _=>by rw [gA (hx b n)]; exact n,fun b u q _ => ?_,
  fun b xs q=>by rw [gA (hm b _ q fun z=>z)]; exact q,fun b u xs q=>by rw [gA (hm b _ q fun z=>z)]; exact q,fun b ps q=>⟨#[],by rw [gA (hm b _ q fun z=>z),q]; simp⟩⟩
 by_cases Gu:b=e
 ·subst Gu; exact Io
 ·exact ⟨u,k b u Gu q⟩
end
def trk (h:Heap) (H:Hp):List Addr:=(List.range h.objs.size).filter fun a=>(H a).isSome
def wD (h:Heap) (H:Hp):Heap:=PySem.W.hideAll h (trk h H)
theorem aCk (h:Heap) (H:Hp):(wD h H).objs.size=h.objs.size:=PySem.W.hideAll_size _ _
theorem aHu {h:Heap} {H:Hp} {b:Addr} {o:Obj} (e:h.get? b=some o) (n:H b=none):(wD h H).get? b=some o :=
 PySem.W.hideAll_get _ e fun hm=>by
  have q:(H b).isSome=true:=(List.mem_filter.mp hm).2
  rw [n] at q; simp at q
theorem aLs {h:Heap} {H:Hp} {b:Addr} {o:Obj} (e:(wD h H).get? b=some o):h.get? b=some o∧H b=none:=by
 have e':h.get? b=some o:=PySem.W.of_hideAll (trk h H) e
 refine ⟨e',?_⟩
 cases q:H b with
 | none=>rfl
 | some x =>
  have hm:b∈trk h H:=List.mem_filter.mpr ⟨gO.mpr (aS e'),by simp [q]⟩
  have z:(wD h H).get? b=none:=PySem.W.hideAll_none (trk h H) hm
  rw [z] at e; cases e
def aNo (g h:Heap) (L:Addr):List (Addr×Obj):=(List.range h.objs.size).filterMap fun a=>if a=L∨(g.get? a).isSome=true then none else (h.get? a).map fun o=>(a,o)
def rest (g h:Heap) (L d:Addr):List (Addr×Obj):=(aNo g h L).filter fun p=>decide (p.1≠d)
structure Mod (K:eE) (mg:lN) (base:Heap):Prop where
 kin:K.In base
 glob:base.Ns mainGlobals mg
 blt:∃ mb,base.Ns builtinsNs mb∧∀ x:Str,x ≠ "__name__" → mb x=bootBuiltins x
 nolimit:base.NoLimit
structure Cx where
 prog:Program
 w:World
 K:PySem.W.Frag
 mg:Str→Option Value
 base:Heap
 A:Around
 N:List Str
 s₀:Shared
 H₀:Hp
 env:Env
 outer:List Env
 stack:List Env
 ex:List Addr
 fn:Str→Bool
 calm:Bool
 pn:List (Addr×Obj)
 xe:Value→Shared→Prop
def frs (l:List Env):List Addr:=l.filterMap (·.frame)
abbrev Cx.fs (X:Cx):List Addr:=frs X.outer
def Vis (sc:Scope) (x:Str):Prop:=sc.names.lookup x=some .local∨sc.names.lookup x=some .cell∨sc.names.lookup x=some .free
def Loc (sc:Scope) (x:Str):Prop:=sc.names.lookup x=some .local∨sc.names.lookup x=some .cell
def bCi (env:Env) (h:Heap) (m:lN) (x:Str) (u:Value):Prop :=
 (env.kindOf x=some .local∧m x=some u)∨((env.kindOf x=some .cell∨env.kindOf x=some .free)∧∃ c,env.cells.lookup x=some c∧h.IsCell c (some u))
structure Cx.Ok (X:Cx):Prop where
 mod:Mod X.K X.mg X.base
 kind:X.env.scope.kind=.function
 glob:X.env.globals=mainGlobals
 blt:X.env.builtins=builtinsNs
 above:X.s₀.heap.objs.size≤X.env.locals
 inj:∀ x y c,X.env.cells.lookup x=some c→X.env.cells.lookup y=some c→x=y
 has:∀ x,(X.env.kindOf x=some .cell∨X.env.kindOf x=some .free)→∃ c,X.env.cells.lookup x=some c
 cab:∀ x c,X.fn x=true→X.env.cells.lookup x=some c→X.s₀.heap.objs.size≤c
 hd:X.calm=true→X.A.handled=none
 frames:X.A.frames=some X.stack
 stk:X.stack=X.outer∨(X.stack=X.env :: X.outer∧X.env.frame=some X.env.locals)
 exf:∀ b∈X.ex,b≠X.env.locals∧∀ x c,X.env.cells.lookup x=some c→c≠b
 bs:∀ b o,X.base.get? b=some o→X.s₀.heap.get? b=some o∧X.H₀ b=none
 bsz:X.base.objs.size≤X.s₀.heap.objs.size
 noex:∀ b o,X.base.get? b=some o→b∉X.ex
 exfs:∀ b∈X.ex,b∉X.fs
 funs:X.s₀.heap.FunFrames X.base X.outer
 frf:∀ b∈X.fs,X.H₀ b=none
structure Inv (X:Cx) (Aa:fO) (σ:List (Option V)) (H:Hp) (s:Shared):Prop where
 ok:X.Ok
 os:s.os=X.s₀.os
 bare:AllBare s.gens
 base:Un X.fs X.ex X.H₀ H X.s₀.heap s.heap
 loc:∃ m,s.heap.Ns X.env.locals m∧∀ (i:Nat) (x:Str) (v:V),X.N[i]? = some x→σ[i]? = some (some v)→Vis X.env.scope x→∃ u,RelV v u∧bCi X.env s.heap m x u
 cell:∀ x c,X.env.cells.lookup x=some c→∃ v,s.heap.IsCell c v
 free:H X.env.locals=none
 freeC:∀ x c,X.env.cells.lookup x=some c→H c=none
 pin:∀ p∈X.pn ++ Aa,s.heap.get? p.1=some p.2∧H p.1=none∧p.1≠X.env.locals∧p.1∉X.fs∧∀ v,p.2.data ≠ .cell v
 hok:HOk X.prog X.w H s.heap
 len:σ.length=X.N.length
section
variable {X:Cx} {Aa:fO} {σ:List (Option V)} {H H':Hp} {s:Shared} {h':Heap}
theorem Cx.Ok.nofr (ok:X.Ok) {b:Addr} {o:Obj} (e:X.base.get? b=some o):b∉X.fs:=fun hb=>by
 have:=(ok.funs.mem hb).1
 rw [e] at this; cases this
theorem Inv.bs (I:Inv X Aa σ H s):∀ b o,X.base.get? b=some o→s.heap.get? b=some o∧H b=none:=fun b o e =>
 ⟨I.base.keep b o (I.ok.bs b o e).1 (I.ok.bs b o e).2 (I.ok.nofr e) (I.ok.noex b o e),I.base.free b o (I.ok.bs b o e).1 (I.ok.bs b o e).2 (I.ok.noex b o e)⟩
theorem Inv.bk (I:Inv X Aa σ H s):∀ b o,X.base.get? b=some o→s.heap.get? b=some o:=fun b o e=>(I.bs b o e).1
theorem Inv.mod (I:Inv X Aa σ H s):Mod X.K X.mg X.base:=I.ok.mod
theorem Inv.kIn (I:Inv X Aa σ H s):X.K.In s.heap:=I.ok.mod.kin.keeps I.bk
theorem Inv.fr (I:Inv X Aa σ H s):∃ m,Fr X.base X.env.locals s.heap m :=
 let ⟨m,hn,_⟩:=I.loc
 ⟨m,hn,I.bk,nzL I.ok.bsz I.ok.above⟩
theorem Inv.lt (I:Inv X Aa σ H s):X.env.locals < s.heap.objs.size:=let ⟨_,hn,_⟩:=I.loc; hn.lt
theorem Inv.sz (I:Inv X Aa σ H s):X.s₀.heap.objs.size≤s.heap.objs.size:=nzL I.ok.above (Nat.le_of_lt I.lt)
theorem Inv.nofs (I:Inv X Aa σ H s) {a:Addr} (h:s.heap.objs.size≤a):a∉X.fs:=fun hb=>by
 obtain ⟨_,o,ho,_⟩:=I.ok.funs.mem hb
 exact absurd (bN (aS ho) (nzL I.sz h)) (dZ _)
theorem Inv.cne (I:Inv X Aa σ H s):∀ x c,X.env.cells.lookup x=some c→c≠X.env.locals:=fun x c e z=>by
 obtain ⟨v,o,ho,hd⟩:=I.cell x c e
 obtain ⟨m,⟨o',es,ep,D9,Cw,_⟩,_⟩:=I.loc
 rw [z,D9] at ho; cases ho; rw [Cw] at hd; cases hd
theorem Inv.funs (I:Inv X Aa σ H s):s.heap.FunFrames X.base X.outer:=by
 have all:∀ (l:List Env),(∀ b∈frs l,b∈X.fs)→X.s₀.heap.FunFrames X.base l→s.heap.FunFrames X.base l:=by
  intro l
  induction l with
  | nil=>intro _ _; trivial
  | cons env r ih =>
   intro hs hl
   obtain ⟨hk,⟨L,o,hf,hn,ho,hd⟩,hr⟩:=hl
   have hL:L∈X.fs:=hs L (by unfold frs; rw [iO,hf]; exact aB)
   obtain ⟨sl,e⟩:=I.base.slot L o ho (I.ok.frf L hL) hL fun z=>I.ok.exfs L z hL
   exact ⟨hk,⟨L,_,hf,hn,e,hd⟩,ih (fun b hb=>hs b (by unfold frs; rw [iO,hf]; exact aD _ hb)) hr⟩
 exact all X.outer (fun _ hb=>hb) I.ok.funs
theorem Inv.stack (I:Inv X Aa σ H s):s.heap.FunFrames X.base X.stack:=by
 rcases I.ok.stk with e | ⟨e,hf⟩
 ·rw [e]; exact I.funs
 ·rw [e]
  obtain ⟨m,hn,_⟩:=I.loc
  refine .cons (by rw [I.ok.kind]; decide) hf hn ?_ I.funs
  exact Heap.get?_none_of_le (nzL I.ok.bsz I.ok.above)
theorem Inv.stkSub (I:Inv X Aa σ H s):∀ b∈frs X.stack,b∈X.env.locals :: X.fs:=fun b hb=>by
 rcases I.ok.stk with e | ⟨e,hf⟩
 ·rw [e] at hb; exact aD _ hb
 ·rw [e] at hb
  unfold frs at hb
  rw [iO,hf] at hb
  exact hb
theorem Inv.stkFree (I:Inv X Aa σ H s):∀ b∈frs X.stack,H b=none:=fun b hb=>by
 rcases aI.mp (I.stkSub b hb) with e | hb
 ·rw [e]; exact I.free
 ·obtain ⟨_,o,ho,_⟩:=I.ok.funs.mem hb
  exact I.base.free b o ho (I.ok.frf b hb) fun z=>I.ok.exfs b z hb
theorem Inv.step {g':Array GenState} {t':Nat} {d':Drawn} {ch:List Addr} (I:Inv X Aa σ H s)
  (Gd:∀ b∈ch,(b∈X.ex∨X.s₀.heap.objs.size≤b)∧b≠X.env.locals∧(∀ x c,X.env.cells.lookup x=some c→c≠b)∧∀ p∈X.pn ++ Aa,p.1≠b)
  (keep:∀ b o,b≠X.env.locals→b∉X.fs→b∉ch→s.heap.get? b=some o→H b=none→h'.get? b=some o)
  (slot:∀ b o,b≠X.env.locals→b∈X.fs→b∉ch→s.heap.get? b=some o→H b=none→∃ sl,h'.get? b=some { o with slots:=sl }) (free:∀ b o,b∉ch→s.heap.get? b=some o→H b=none→H' b=none)
  (there:∀ b o,b∉ch→s.heap.get? b=some o→∃ o',h'.get? b=some o')
  (tups:∀ b xs,H b=some (.tup xs)→H' b=some (.tup xs)) (frzs:∀ b o u,H b=some (.frz o u)→H' b=some (.frz o u)) (tbls:∀ b ps,H b=some (.tbl ps)→∃ more,H' b=some (.tbl (ps ++ more)))
  (ns:∀ m,s.heap.Ns X.env.locals m→h'.Ns X.env.locals m) (hok:HOk X.prog X.w H' h') (hg:AllBare g') :
  Inv X Aa σ H' { s with heap:=h',gens:=g',drawn:=d',toks:=t' }:=by
 have neL:∀ b o,X.s₀.heap.get? b=some o→b≠X.env.locals:=fun b o e=>cO (bN (aS e) I.ok.above)
 have neC:∀ b o,X.s₀.heap.get? b=some o→b∉X.ex→b∉ch:=fun b o e hx hb=>by
  rcases (Gd b hb).1 with z | z
  ·exact hx z
  ·exact absurd (bN (aS e) z) (dZ _)
 have cellK:∀ x c,X.env.cells.lookup x=some c→∀ v,s.heap.IsCell c v→h'.IsCell c v:=fun x c e v ⟨o,ho,hd⟩=>by
  have nch:c∉ch:=fun z=>(Gd c z).2.2.1 x c e rfl
  by_cases hc:c∈X.fs
  ·obtain ⟨sl,q⟩:=slot c o (I.cne x c e) hc nch ho (I.freeC x c e)
   exact ⟨_,q,hd⟩
  ·exact ⟨o,keep c o (I.cne x c e) hc nch ho (I.freeC x c e),hd⟩
 refine ⟨I.ok,I.os,hg,⟨fun b o e n hb hx => ?_,fun b o e n hb hx => ?_,fun b o e n hx => ?_,fun b o e hx => ?_,fun b xs e=>tups b xs (I.base.tups b xs e),fun b o xs e=>frzs b o xs (I.base.frzs b o xs e),fun b ps e => ?_⟩,?_,fun x c e => ?_,?_,fun x c e => ?_,fun p hp => ?_,hok,I.len⟩
 ·exact keep b o (neL b o e) hb (neC b o e hx) (I.base.keep b o e n hb hx) (I.base.free b o e n hx)
 ·obtain ⟨sl,e1⟩:=I.base.slot b o e n hb hx
  obtain ⟨sl',e2⟩:=slot b _ (neL b o e) hb (neC b o e hx) e1 (I.base.free b o e n hx)
  exact ⟨sl',e2⟩
 ·obtain ⟨o',e1⟩:=I.base.there b o e hx
  exact free b o' (neC b o e hx) e1 (I.base.free b o e n hx)
 ·obtain ⟨o',e1⟩:=I.base.there b o e hx
  exact there b o' (neC b o e hx) e1
 ·obtain ⟨m1,e1⟩:=I.base.tbls b ps e
  obtain ⟨m2,e2⟩:=tbls b _ e1
  exact ⟨m1 ++ m2,by rw [e2,Array.append_assoc]⟩
 ·obtain ⟨m,hn,hl⟩:=I.loc
  refine ⟨m,ns m hn,fun i x v e1 e2 e3 => ?_⟩
  obtain ⟨u,r,l⟩:=hl i x v e1 e2 e3
  refine ⟨u,r,?_⟩
  rcases l with l | ⟨k,c,e,z⟩
  ·exact .inl l
  ·exact .inr ⟨k,c,e,cellK x c e _ z⟩
 ·obtain ⟨v,z⟩:=I.cell x c e
  exact ⟨v,cellK x c e v z⟩
 ·obtain ⟨m,⟨o,_,_,ho,_⟩,_⟩:=I.loc
  exact free _ o (fun z=>(Gd _ z).2.1 rfl) ho I.free
 ·obtain ⟨v,o,ho,hd⟩:=I.cell x c e
  exact free c o (fun z=>(Gd c z).2.2.1 x c e rfl) ho (I.freeC x c e)
 ·obtain ⟨e,n,ne,nf,d⟩:=I.pin p hp
  have nch:p.1∉ch:=fun z=>(Gd p.1 z).2.2.2 p hp rfl
  exact ⟨keep p.1 p.2 ne nf nch e n,free p.1 p.2 nch e n,ne,nf,d⟩
theorem Inv.un {t':Nat} (I:Inv X Aa σ H s) (u:Un X.fs [] H H' s.heap h') (hok:HOk X.prog X.w H' h'):Inv X Aa σ H' { s with heap:=h',toks:=t' }:=by
 obtain ⟨m,⟨o,es,ep,ho,r⟩,_⟩:=id I.loc
 obtain ⟨sl,hL⟩:=u.any ho I.free (by simp)
 exact I.step (g':=s.gens) (d':=s.drawn) (ch:=[]) (fun _ z=>nomatch z) (fun b o _ hb _ e n=>u.keep b o e n hb (by simp)) (fun b o _ hb _ e n=>u.slot b o e n hb (by simp)) (fun b o _ e n=>u.free b o e n (by simp)) (fun b o _ e=>u.there b o e (by simp)) u.tups u.frzs u.tbls (fun m' hm=>by
  obtain ⟨o',es',ep',D9,r'⟩:=hm
  rw [ho] at D9; cases D9
  exact ⟨_,es',ep',hL,r'⟩) hok I.bare
theorem Inv.call {g':Array GenState} {t':Nat} {d':Drawn} {ch:List Addr} (I:Inv X Aa σ H s) (u:Un (frs X.stack) ch H H' s.heap h') (hok:HOk X.prog X.w H' h') (hg:AllBare g')
  (Gd:∀ b∈ch,(b∈X.ex∨X.s₀.heap.objs.size≤b)∧b≠X.env.locals∧(∀ x c,X.env.cells.lookup x=some c→c≠b)∧∀ p∈X.pn ++ Aa,p.1≠b) :
  Inv X Aa σ H' { s with heap:=h',gens:=g',drawn:=d',toks:=t' }:=by
 obtain ⟨m,⟨o,es,ep,ho,r⟩,_⟩:=id I.loc
 obtain ⟨sl,hL⟩:=u.any ho I.free fun z=>(Gd _ z).2.1 rfl
 exact I.step (ch:=ch) Gd (fun b o hL hb hc e n=>u.keep b o e n (fun z=>(aI.mp (I.stkSub b z)).elim hL hb) hc) (fun b o _ _ hc e n=>u.any e n hc) (fun b o hc e n=>u.free b o e n hc) (fun b o hc e=>u.there b o e hc) u.tups u.frzs u.tbls (fun m' hm=>by
  obtain ⟨o',es',ep',D9,r'⟩:=hm
  rw [ho] at D9; cases D9
  exact ⟨_,es',ep',hL,r'⟩) hok hg
theorem Inv.turned {t':Nat} {it:Addr} (I:Inv X Aa σ H s) (k:∀ b o,b≠it→s.heap.get? b=some o→h'.get? b=some o) (hn:H it=none) (hL:it≠X.env.locals)
  (h1:it∈X.ex∨X.s₀.heap.objs.size≤it) (h2:∀ x c,X.env.cells.lookup x=some c→c≠it) (h3:∀ p∈X.pn ++ Aa,p.1≠it):Inv X Aa σ H { s with heap:=h',toks:=t' }:=by
 have nit:∀ b u,H b=some u→b≠it:=fun b u e z=>by rw [z,hn] at e; cases e
 refine I.step (g':=s.gens) (d':=s.drawn) (ch:=[it]) (fun b hb => ?_) (fun b o _ _ hc e _=>k b o (fun z=>hc (by simp [z])) e) (fun b o _ _ hc e _=>⟨o.slots,k b o (fun z=>hc (by simp [z])) e⟩) (fun _ _ _ _ n=>n)
  (fun b o hc e=>⟨o,k b o (fun z=>hc (by simp [z])) e⟩) (fun _ _ e=>e) (fun _ _ _ e=>e) (fun b ps e=>⟨#[],by rw [e]; simp⟩) (fun m hm => ?_) (fun b u e => ?_) I.bare
 ·have e:b=it:=by simpa using hb
  subst e
  exact ⟨h1,hL,h2,h3⟩
 ·obtain ⟨o,es,ep,ho,r⟩:=hm
  exact ⟨o,es,ep,k _ o (Ne.symm hL) ho,r⟩
 ·refine (I.hok b u e).stay (fun c v hc q=>k c v ?_ q) (fun _ q=>q) fun _ _ q=>q
  rcases hc with z | z
  ·rw [z]; exact nit b u e
  ·exact nit c _ z
theorem Inv.tok (I:Inv X Aa σ H s) (t:Nat):Inv X Aa σ H { s with toks:=t }:=I.un (h':=s.heap) (t':=t) Un.refl I.hok
theorem Inv.kept {t':Nat} (I:Inv X Aa σ H s) (k:∀ b u,s.heap.get? b=some u→h'.get? b=some u):Inv X Aa σ H { s with heap:=h',toks:=t' }:=I.un (Un.kept k) (I.hok.kept k)
theorem Inv.laid {a:Addr} {o:HO} {t':Nat} (I:Inv X Aa σ H s) (k:∀ b u,s.heap.get? b=some u→h'.get? b=some u) (hp:s.heap.objs.size≤a) (new:ObjOk X.prog X.w (upd H a o) h' a o) :
  Inv X Aa σ (upd H a o) { s with heap:=h',toks:=t' }:=I.un (Un.laid k hp (I.hok.fresh hp)) (I.hok.laid k hp new)
theorem Inv.write {x e:Addr} {o:HO} {t':Nat} (I:Inv X Aa σ H s) (mu:Mut (H x)) (he:e=x∨H e=some (.own x)) (k:∀ b u,b≠e→s.heap.get? b=some u→h'.get? b=some u) (Io:∃ u,h'.get? e=some u)
  (new:ObjOk X.prog X.w (upd H x o) h' x o):Inv X Aa σ (upd H x o) { s with heap:=h',toks:=t' }:=I.un (Un.write mu he k Io) (I.hok.write mu he k Io new)
theorem Inv.weak {σ':List (Option V)} (I:Inv X Aa σ H s) (hl:σ'.length=σ.length) (w:∀ (i:Nat) v,σ'[i]? = some (some v)→σ[i]? = some (some v)):Inv X Aa σ' H s :=
 ⟨I.ok,I.os,I.bare,I.base,let ⟨m,hn,Gn⟩:=I.loc; ⟨m,hn,fun i x v e1 e2 e3=>Gn i x v e1 (w i v e2) e3⟩,I.cell,I.free,I.freeC,I.pin,I.hok,hl.trans I.len⟩
theorem Inv.pins_of {pins':fO} (I:Inv X Aa σ H s) (h:∀ p∈pins',s.heap.get? p.1=some p.2∧H p.1=none∧p.1≠X.env.locals∧p.1∉X.fs∧∀ v,p.2.data ≠ .cell v):Inv X pins' σ H s :=
 ⟨I.ok,I.os,I.bare,I.base,I.loc,I.cell,I.free,I.freeC,fun p hp=>(bA.mp hp).elim (fun z=>I.pin p (bJ _ z)) (h p),I.hok,I.len⟩
theorem pK {N:List Str} (hN:N.Nodup) {i j:Nat} {x:Str} (a:N[i]? = some x) (b:N[j]? = some x):i=j:=by
 obtain ⟨h1,e1⟩:=aF.mp a
 obtain ⟨h2,e2⟩:=aF.mp b
 exact (List.getElem_inj hN).mp (e1.trans e2.symm)
theorem iw_ {M:Model} {A:Around} {E:hW} {i:Nat} {x:Str} {v:V} {u:Value} {Q:Unit→Shared→Prop} (I:Inv X Aa σ H s) (hN:X.N.Nodup) (hi:X.N[i]? = some x) (hx:Loc X.env.scope x) (r:RelV v u)
  (h:∀ s',Inv X Aa (σ.set i (some v)) H s'→(∃ a,Heap.SameBut a s.heap s'.heap∧(a=X.env.locals∨X.env.cells.lookup x=some a))→Q () s') (hf:X.fn x=true∨X.env.scope.names.lookup x=some .local:=by first | exact .inl rfl | exact .inr rfl | assumption):wpAny M A (storeName X.env x u) Q E s:=by
 obtain ⟨m,hn,hl⟩:=id I.loc
 have Ec:(X.env.scope.kind == .class || (X.env.scope.kind == .module && X.env.locals != X.env.globals))=false:=by rw [I.ok.kind]; rfl
 have hiσ:i < σ.length:=by rw [I.len]; exact (aF.mp hi).1
 have cne:=I.cne
 have tracked:∀ {a:Addr} {h':Heap},(∃ o,s.heap.get? a=some o∧H a=none)→Heap.SameBut a s.heap h'→HOk X.prog X.w H h':=fun {a h'} ha hs b ob e=>by
  obtain ⟨_,_,G6⟩:=ha
  refine (I.hok b ob e).stay (fun c w' hc q=>(hs.2 c ?_).trans q) (fun _ q=>q) fun _ _ q=>q
  rintro rfl
  rcases hc with rfl | hc
  ·rw [G6] at e; cases e
  ·rw [G6] at hc; cases hc
 rcases hx with hk | hk
 ·refine wpAny_storeName_local hk hn (fun h' Dv hs => ?_) Ec
  obtain ⟨oL,_,_,Nh,_⟩:=id hn
  refine h _ ⟨I.ok,I.os,I.bare,⟨fun b o e n hb hx => ?_,fun b o e n hb hx => ?_,I.base.free,fun b o e hx => ?_,I.base.tups,I.base.frzs,I.base.tbls⟩,⟨_,Dv,fun j y v' e1 e2 e3 => ?_⟩,fun y c e => ?_,I.free,I.freeC,fun p hp => ?_,tracked ⟨oL,Nh,I.free⟩ hs,by simpa using I.len⟩ ⟨_,hs,.inl rfl⟩
  ·exact (hs.2 b (cO (bN (aS e) I.ok.above))).trans (I.base.keep b o e n hb hx)
  ·obtain ⟨sl,e1⟩:=I.base.slot b o e n hb hx
   exact ⟨sl,(hs.2 b (cO (bN (aS e) I.ok.above))).trans e1⟩
  ·obtain ⟨o',e1⟩:=I.base.there b o e hx
   exact ⟨o',(hs.2 b (cO (bN (aS e) I.ok.above))).trans e1⟩
  ·by_cases hj:j=i
   ·subst hj
    rw [hi] at e1; cases e1
    rw [fS hiσ] at e2
    cases e2
    exact ⟨u,r,.inl ⟨hk,by simp⟩⟩
   ·rw [dY (Ne.symm hj)] at e2
    obtain ⟨u',r',q⟩:=hl j y v' e1 e2 e3
    refine ⟨u',r',?_⟩
    rcases q with ⟨k,e⟩ | ⟨k,c,e,z⟩
    ·refine .inl ⟨k,?_⟩
     have:y≠x:=fun e=>hj (pK hN e1 (e ▸ hi))
     simp [this,e]
    ·exact .inr ⟨k,c,e,z.sameBut hs (cne y c e)⟩
  ·obtain ⟨w',z⟩:=I.cell y c e
   exact ⟨w',z.sameBut hs (cne y c e)⟩
  ·obtain ⟨e,n,ne,nf,d⟩:=I.pin p hp
   exact ⟨(hs.2 p.1 ne).trans e,n,ne,nf,d⟩
 ·have L7:X.fn x=true:=by
   rcases hf with z | z
   ·exact z
   ·rw [z] at hk; cases hk
  obtain ⟨c,hc⟩:=I.ok.has x (.inl hk)
  obtain ⟨w',z⟩:=I.cell x c hc
  refine wpAny_storeName_cell I.ok.kind hk hc z (fun h' J6 hs => ?_)
  obtain ⟨oc,Fj,Ln⟩:=id z
  refine h { s with heap:=h' } ⟨I.ok,I.os,I.bare,⟨fun b o e n hb hx => ?_,fun b o e n hb hx => ?_,I.base.free,fun b o e hx => ?_,I.base.tups,I.base.frzs,I.base.tbls⟩,⟨m,hn.sameBut hs (Ne.symm (cne x c hc)),fun j y v' e1 e2 e3 => ?_⟩,fun y c' e => ?_,I.free,I.freeC,fun p hp => ?_,tracked ⟨oc,Fj,I.freeC x c hc⟩ hs,by simpa using I.len⟩ ⟨c,hs,.inr hc⟩
  ·exact (hs.2 b (cO (bN (aS e) (I.ok.cab x c L7 hc)))).trans (I.base.keep b o e n hb hx)
  ·obtain ⟨sl,e1⟩:=I.base.slot b o e n hb hx
   exact ⟨sl,(hs.2 b (cO (bN (aS e) (I.ok.cab x c L7 hc)))).trans e1⟩
  ·obtain ⟨o',e1⟩:=I.base.there b o e hx
   exact ⟨o',(hs.2 b (cO (bN (aS e) (I.ok.cab x c L7 hc)))).trans e1⟩
  ·by_cases hj:j=i
   ·subst hj
    rw [hi] at e1; cases e1
    rw [fS hiσ] at e2
    cases e2
    exact ⟨u,r,.inr ⟨.inl hk,c,hc,J6⟩⟩
   ·rw [dY (Ne.symm hj)] at e2
    obtain ⟨u',r',q⟩:=hl j y v' e1 e2 e3
    refine ⟨u',r',?_⟩
    rcases q with q | ⟨k,c',e,z'⟩
    ·exact .inl q
    ·refine .inr ⟨k,c',e,z'.sameBut hs ?_⟩
     rintro rfl
     exact hj (pK hN e1 (I.ok.inj _ _ _ e hc ▸ hi))
  ·by_cases Nn:c'=c
   ·subst Nn; exact ⟨_,J6⟩
   ·obtain ⟨w2,z2⟩:=I.cell y c' e
    exact ⟨w2,z2.sameBut hs Nn⟩
  ·obtain ⟨e,n,ne,nf,d⟩:=I.pin p hp
   refine ⟨(hs.2 p.1 ?_).trans e,n,ne,nf,d⟩
   intro q
   rw [q,Fj] at e
   have q':oc=p.2:=ozI e
   exact d w' (by rw [← q']; exact Ln)
theorem xV {M:Model} {A:Around} {E:hW} {i:Nat} {x:Str} {v:V} {u:Value} {Q:Unit→Shared→Prop} (I:Inv X Aa σ H s) (hN:X.N.Nodup) (hi:X.N[i]? = some x) (hx:Loc X.env.scope x) (r:RelV v u)
  (h:∀ s',Inv X Aa (σ.set i (some v)) H s'→Q () s') (hf:X.fn x=true∨X.env.scope.names.lookup x=some .local:=by first | exact .inl rfl | exact .inr rfl | assumption):wpAny M A (storeName X.env x u) Q E s :=
 iw_ I hN hi hx r (fun s' I' _=>h s' I') hf
theorem Inv.call' {s':Shared} {ch:List Addr} (I:Inv X Aa σ H s) (ho:s'.os=s.os) (u:Un (frs X.stack) ch H H' s.heap s'.heap) (hok:HOk X.prog X.w H' s'.heap) (hg:AllBare s'.gens)
  (Gd:∀ b∈ch,(b∈X.ex∨X.s₀.heap.objs.size≤b)∧b≠X.env.locals∧(∀ x c,X.env.cells.lookup x=some c→c≠b)∧∀ p∈X.pn ++ Aa,p.1≠b):Inv X Aa σ H' s':=by
 obtain ⟨h',g',d',t',o'⟩:=s'
 have e:o'=s.os:=ho
 subst e
 exact I.call (g':=g') (t':=t') (d':=d') u hok hg Gd
end
abbrev XK:=Value→Option Addr→Hp→Prop
abbrev St:=List (Option V)
abbrev VK:=V→Hp→Prop
abbrev TE:=St→Hp→VK→Prop
abbrev TT:=St→Hp→(Bool→Hp→Prop)→Prop
abbrev TA:=St→Hp→(List V→Hp→Prop)→Prop
structure Ends where
 nx:St→Hp→Prop
 rt:VK
 bk:St→Hp→Prop:=fun _ _=>False
 ct:St→Hp→Prop:=fun _ _=>False
abbrev TS:=Ends→St→Hp→Prop
def EP (X:Cx) (Aa:fO) (σ:St) (Q:VK) (u:Value) (s':Shared):Prop := ∃ v H',Inv X Aa σ H' s'∧RelV v u∧Q v H'
def TP (X:Cx) (Aa:fO) (σ:St) (Q:Bool→Hp→Prop) (b:Bool) (s':Shared):Prop := ∃ H',Inv X Aa σ H' s'∧Q b H'
def AP (X:Cx) (Aa:fO) (σ:St) (Q:List V→Hp→Prop) (us:List Value) (s':Shared):Prop := ∃ vs H',Inv X Aa σ H' s'∧Vals vs us∧Q vs H'
def SP (X:Cx) (Aa:fO) (D:Ends) (f:Flow) (s':Shared):Prop :=
 match f with
 | .next => ∃ σ' H',Inv X Aa σ' H' s'∧D.nx σ' H'
 | .brk => ∃ σ' H',Inv X Aa σ' H' s'∧D.bk σ' H'
 | .cont => ∃ σ' H',Inv X Aa σ' H' s'∧D.ct σ' H'
 | .ret u => ∃ v σ' H',Inv X Aa σ' H' s'∧RelV v u∧D.rt v H'
def PE (X:Cx) (e:Expr) (t:TE):Prop :=
 ∀ (Aa:fO) (s:Shared) (σ:St) (H:Hp) (Q:VK),Inv X Aa σ H s→t σ H Q→wpAny (model X.prog X.w) X.A (eval e X.env) (EP X Aa σ Q) X.xe s
def PT (X:Cx) (e:Expr) (t:TT):Prop :=
 ∀ (Aa:fO) (s:Shared) (σ:St) (H:Hp) (Q:Bool→Hp→Prop),Inv X Aa σ H s→t σ H Q→wpAny (model X.prog X.w) X.A (isTrue e X.env (eval e X.env)) (TP X Aa σ Q) X.xe s
def PW (X:Cx) (e:Expr) (t:TT):Prop :=
 ∀ (whole:Sem Value) (Aa:fO) (s:Shared) (σ:St) (H:Hp) (Q:Bool→Hp→Prop),Inv X Aa σ H s→t σ H Q→wpAny (model X.prog X.w) X.A (isTrue e X.env whole) (TP X Aa σ Q) X.xe s
theorem PW.pt {X:Cx} {e:Expr} {t:TT} (h:PW X e t):PT X e t:=h _
def PA (X:Cx) (es:List Expr) (t:TA):Prop :=
 ∀ (pos:Pos) (Aa:fO) (s:Shared) (σ:St) (H:Hp) (Q:List V→Hp→Prop),Inv X Aa σ H s→t σ H Q→wpAny (model X.prog X.w) X.A (spliced (backTo pos (starEach es X.env))) (AP X Aa σ Q) X.xe s
def PS (X:Cx) (st:Stmt) (t:TS):Prop :=
 ∀ (Aa:fO) (s:Shared) (σ:St) (H:Hp) (D:Ends),Inv X Aa σ H s→t D σ H→wpAny (model X.prog X.w) X.A (exec st X.env) (SP X Aa D) X.xe s
def PSs (X:Cx) (st:List Stmt) (t:TS):Prop :=
 ∀ (Aa:fO) (s:Shared) (σ:St) (H:Hp) (D:Ends),Inv X Aa σ H s→t D σ H→wpAny (model X.prog X.w) X.A (execs st X.env) (SP X Aa D) X.xe s
theorem fE {α:Type} {t:Sem α} {Q Q':α→Shared→Prop} {M:Model} {A:Around} {E:hW} {s:Shared} (h:wpAny M A t Q E s) (hQ:∀ a s,Q a s→Q' a s):wpAny M A t Q' E s:=wpAny_mono h hQ fun _ _ x=>x
section
variable {X:Cx}
def iH (i:Nat):TE:=fun σ H Q => ∃ v,σ[i]? = some (some v)∧Q v H
def tC (v:V):TE:=fun _ H Q=>Q v H
theorem aQk {i:Nat} {x:Str} {pos:Pos} (hN:X.N[i]? = some x) (hv:Vis X.env.scope x) (hd:(x == ("__debug__" : Str))=false:=by decide) (E9:(x == ("__classdict__" : Str))=false:=by decide):PE X (.Name x pos) (iH i):=by
 intro Aa s σ H Q I h
 obtain ⟨v,e,h⟩:=h
 obtain ⟨m,hn,hl⟩:=I.loc
 obtain ⟨u,r,l⟩:=hl i x v hN e hv
 have A5:EP X Aa σ Q u s:=⟨v,H,I,r,h⟩
 rcases l with ⟨hk,hm⟩ | ⟨hk,c,hc,G9⟩
 ·exact wpAny_Name (wpAny_loadName_local I.ok.kind hk hn hm A5) hd
 ·rcases hk with hk | hk
  ·exact wpAny_Name (wpAny_loadName_cell I.ok.kind hk hc G9 A5) hd
  ·exact wpAny_Name (wpAny_loadName_free I.ok.kind hk hc G9 A5 E9) hd
theorem pD {i j pos}:PE X (.Constant (.int i) j pos) (tC (.int i)):=fun _ _ _ H _ I h=>wpAny_Constant_int ⟨.int i,H,I.tok _,⟨_,rfl⟩,h⟩
theorem aWg {b j pos}:PE X (.Constant (.bool b) j pos) (tC (.bl b)):=fun _ _ _ H _ I h=>Constant_bool ⟨.bl b,H,I,rfl,h⟩
theorem aQn {j pos}:PE X (.Constant .none j pos) (tC .non):=fun _ _ _ H _ I h=>Constant_none ⟨.non,H,I,rfl,h⟩
theorem i7 {x j pos}:PE X (.Constant (.str x) j pos) (tC (.str x)):=fun _ _ _ H _ I h=>Calls.Constant_str ⟨.str x,H,I.tok _,⟨_,rfl⟩,h⟩
def Gl (X:Cx) (x:Str):Prop:=X.env.kindOf x=some .globalImplicit
theorem jh_ {E:hW} {Aa:fO} {s:Shared} {σ:St} {H:Hp} {x:Str} {u:Value} {pos:Pos} {Q:hW} (I:Inv X Aa σ H s) (hg:Gl X x) (hm:X.mg x=some u) (h:Q u s)
  (hd:(x == ("__debug__" : Str))=false:=by decide):wpAny (model X.prog X.w) X.A (eval (.Name x pos) X.env) Q E s :=
 Calls.Name_function_global I.ok.kind hg (Calls.loadGlobal_global (by rw [I.ok.glob]; exact I.mod.glob.keeps I.bk) hm h) hd
theorem hw_ {E:hW} {Aa:fO} {s:Shared} {σ:St} {H:Hp} {x:Str} {u:Value} {pos:Pos} {Q:hW} (I:Inv X Aa σ H s) (hg:Gl X x) (hm:X.mg x=none) (hv:bootBuiltins x=some u) (h:Q u s)
  (hn:x ≠ "__name__" := by decide) (hd:(x == ("__debug__" : Str))=false:=by decide):wpAny (model X.prog X.w) X.A (eval (.Name x pos) X.env) Q E s:=by
 obtain ⟨mb,h1,h2⟩:=I.mod.blt
 exact Calls.Name_function_global I.ok.kind hg (Calls.loadGlobal_builtin (by rw [I.ok.glob]; exact I.mod.glob.keeps I.bk) hm (by rw [I.ok.blt]; exact h1.keeps I.bk) ((h2 x hn).trans hv) h) hd
theorem ge_ {x:Str} {v:V} {u:Value} {pos:Pos} (hg:Gl X x) (hm:X.mg x=some u) (r:RelV v u) (hd:(x == ("__debug__" : Str))=false:=by decide):PE X (.Name x pos) (tC v) :=
 fun _ _ _ H _ I h=>jh_ I hg hm ⟨v,H,I,r,h⟩ hd
theorem rV {x:Str} {v:V} {u:Value} {pos:Pos} (hg:Gl X x) (hm:X.mg x=none) (hv:bootBuiltins x=some u) (r:RelV v u) (hn:x ≠ "__name__" := by decide) (hd:(x == ("__debug__" : Str))=false:=by decide):PE X (.Name x pos) (tC v) :=
 fun _ _ _ H _ I h=>hw_ I hg hm hv ⟨v,H,I,r,h⟩ hn hd
variable {a b:Expr} {ta tb:TE} {pos:Pos}
def PC (X:Cx) (op:CmpOp) (a b:Expr) (t:TE):Prop :=
 ∀ (Aa:fO) (s:Shared) (σ:St) (H:Hp) (Q:VK),Inv X Aa σ H s→t σ H Q →
  wpAny (model X.prog X.w) X.A (eval a X.env) (fun v s₁=>wpAny (model X.prog X.w) X.A (eval b X.env) (fun u s₂=>wpAny (model X.prog X.w) X.A (compareOp op v u) (EP X Aa σ Q) X.xe s₂) X.xe s₁) X.xe s
theorem aGv (b:Expr) {op:CmpOp} (h:op ≠ .In) (h2:op ≠ .NotIn):behindInMarks op b=false:=by
 have e1:(op == CmpOp.In)=false:=by cases op <;> first | rfl | exact absurd rfl h
 have e2:(op == CmpOp.NotIn)=false:=by cases op <;> first | rfl | exact absurd rfl h2
 cases b <;> simp [behindInMarks,e1,e2]
def tB (t:TE):TT:=fun σ H Q=>t σ H fun x H1 => ∃ c,x=.bl c∧Q c H1
theorem aQf {op:CmpOp} {t:TE} (h:PC X op a b t) (h1:behindInMarks op b=false:=by first | exact aGv _ (by decide) (by decide) | rfl):PT X (.Compare a [op] [b] pos) (tB t):=by
 intro Aa s σ H Q I hw
 refine wpAny_isTrue_Compare1 (fE (h Aa s σ H _ I hw) fun v s1 h1=>fE h1 fun u s2 h2=>fE h2 fun c s3 ⟨x,H1,I1,r1,q1⟩ => ?_) h1
 obtain ⟨d,rfl,q⟩:=q1
 cases r1
 exact wpAny_truthy_bool ⟨H1,I1,q⟩
theorem aQd {e:Expr} {t:TE} (h:PE X e t) (he:∀ whole,isTrue e X.env whole=(do let v ← whole; standAt e.pos; holding [v] (truthy v)):=by intro _; rfl):PT X e (tB t):=by
 intro Aa s σ H Q I hw
 refine isTrue_plain (fE (h Aa s σ H _ I hw) fun v s1 ⟨x,H1,I1,r1,q1⟩ => ?_) (he _)
 obtain ⟨d,rfl,q⟩:=q1
 cases r1
 exact wpAny_truthy_bool ⟨H1,I1,q⟩
variable {tA tB':TT} {rest:List Expr}
def bAv (t u:TT):TT:=fun σ H Q=>t σ H fun c H1=>if c=true then u σ H1 Q else Q false H1
def tOr (t u:TT):TT:=fun σ H Q=>t σ H fun c H1=>if c=true then Q true H1 else u σ H1 Q
def bAq (t:TT):TT:=fun σ H Q=>t σ H fun c H1=>Q (!c) H1
theorem aKo (ha:PT X a tA):PW X (.BoolOp .And [a] pos) tA:=by
 intro wh Aa s σ H Q I h
 refine isTrue_and (fE (ha Aa s σ H Q I h) fun c s1 e => ?_)
 cases c with
 | true=>exact isTrue_and_nil e
 | false=>exact e
theorem aQb (ha:PT X a tA):PW X (.BoolOp .Or [a] pos) tA:=by
 intro wh Aa s σ H Q I h
 refine isTrue_or (fE (ha Aa s σ H Q I h) fun c s1 e => ?_)
 cases c with
 | false=>exact isTrue_or_nil e
 | true=>exact e
theorem aQc (ha:PT X a tA) (hb:PW X (.BoolOp .And (b :: rest) pos) tB'):PW X (.BoolOp .And (a :: b :: rest) pos) (bAv tA tB'):=by
 intro wh Aa s σ H Q I h
 refine isTrue_and (fE (ha Aa s σ H _ I h) fun c s1 ⟨H1,I1,q1⟩ => ?_)
 cases c with
 | true=>exact hb wh Aa s1 σ H1 Q I1 q1
 | false=>exact ⟨H1,I1,q1⟩
theorem aWc (ha:PT X a tA) (hb:PW X (.BoolOp .Or (b :: rest) pos) tB'):PW X (.BoolOp .Or (a :: b :: rest) pos) (tOr tA tB'):=by
 intro wh Aa s σ H Q I h
 refine isTrue_or (fE (ha Aa s σ H _ I h) fun c s1 ⟨H1,I1,q1⟩ => ?_)
 cases c with
 | true=>exact ⟨H1,I1,q1⟩
 | false=>exact hb wh Aa s1 σ H1 Q I1 q1
theorem aQe (ha:PT X a tA):PT X (.UnaryOp .Not a pos) (bAq tA):=by
 intro Aa s σ H Q I h
 exact isTrue_not (ha Aa s σ H (fun c H1=>Q (!c) H1) I h)
def aVt (ta tb:TE):TE:=fun σ H Q=>ta σ H fun x H1 => ∃ c,x=.bl c∧if c=true then tb σ H1 Q else Q (.bl false) H1
def aVq (ta:TE):TE:=fun σ H Q=>ta σ H fun x H1 => ∃ c,x=.bl c∧Q (.bl (!c)) H1
theorem aQl {op} {t:TE} (h:PE X a t):PE X (.BoolOp op [a] pos) t:=fun Aa s σ H Q I hw=>BoolOp_one (h Aa s σ H Q I hw)
theorem aQq (ha:PE X a ta) (hb:PE X (.BoolOp .And (b :: rest) pos) tb):PE X (.BoolOp .And (a :: b :: rest) pos) (aVt ta tb):=by
 intro Aa s σ H Q I h
 refine BoolOp_and (fE (ha Aa s σ H _ I h) fun v s1 ⟨x,H1,I1,r1,q1⟩ => ?_)
 obtain ⟨c,rfl,q1⟩:=q1
 cases r1
 refine wpAny_truthy_bool ?_
 cases c with
 | true=>exact hb Aa s1 σ H1 Q I1 q1
 | false=>exact ⟨.bl false,H1,I1,rfl,q1⟩
theorem aQm (ha:PE X a ta):PE X (.UnaryOp .Not a pos) (aVq ta):=by
 intro Aa s σ H Q I h
 refine UnaryOp_ (fE (ha Aa s σ H _ I h) fun v s1 ⟨x,H1,I1,r1,q1⟩ => ?_)
 obtain ⟨c,rfl,q1⟩:=q1
 cases r1
 exact not_of (wpAny_truthy_bool ⟨.bl (!c),H1,I1,rfl,q1⟩)
end
def SqL (K:eE) (H:Hp) (a:Addr) (xs:List V):Prop :=
 Rd H a (.lst xs) ∨
  ∃ (o:Obj) (its:Array Value) (n:Nat),K.lookup a=some o∧o.cls=.type "list" ∧ o.dict=none∧o.data=.seq its n∧its.size≤sizeLine∧Vals xs its.toList
def SqT (K:eE) (H:Hp) (a:Addr) (xs:List V):Prop :=
 Rd H a (.tup xs) ∨
  ∃ (o:Obj) (its:Array Value) (n:Nat),K.lookup a=some o∧o.cls=.type "tuple" ∧ o.data=.seq its n∧its.size≤sizeLine∧Vals xs its.toList
def aNr:Value→Option V
 | .none=>some .non
 | .bool b=>some (.bl b)
 | .int i _=>some (.int i)
 | .str x _=>some (.str x)
 | .bytes b _=>some (.byt b)
 | .float b _=>some (.flt b)
 | .ref a=>some (.ref a)
 | .type n=>some (.ty n)
 | _=>none
theorem RelV.abs {x:V} {u:Value} (r:RelV x u):aNr u=some x:=by
 cases x with
 | non=>cases r; rfl
 | bl _=>cases r; rfl
 | int _=>obtain ⟨t,rfl⟩:=r; rfl
 | str _=>obtain ⟨t,rfl⟩:=r; rfl
 | byt _=>obtain ⟨t,rfl⟩:=r; rfl
 | flt _=>obtain ⟨t,rfl⟩:=r; rfl
 | ref _=>cases r; rfl
 | ty _=>cases r; rfl
theorem RelV.inj {x y:V} {u:Value} (r:RelV x u) (q:RelV y u):x=y:=ozI (r.abs.symm.trans q.abs)
theorem Vals.inj:∀ {xs ys:List V} {us:List Value},Vals xs us→Vals ys us→xs=ys
 | _,_,_,.nil,.nil=>rfl
 | _,_,_,.cons r t,.cons r' t'=>by rw [r.inj r',Vals.inj t t']
section
variable {X:Cx} {Aa:fO} {σ:St} {H:Hp} {s:Shared} {a:Addr} {xs ys:List V}
theorem SqL.of {K:eE} (h:H a=some (.lst xs)):SqL K H a xs:=.inl (.inl h)
theorem SqT.of {K:eE} (h:H a=some (.tup xs)):SqT K H a xs:=.inl (.inl h)
theorem Inv.list (I:Inv X Aa σ H s) (h:SqL X.K H a xs):∃ its:List Value,Vals xs its∧PlainL s.heap a its.toArray∧xs.length≤sizeLine:=by
 rcases h with h | ⟨o,its,n,hk,hc,hd,hs,hz,r⟩
 ·obtain ⟨z,its,n,r,e⟩:=h.ok I.hok
  exact ⟨its,r,⟨_,n,e,rfl,rfl,rfl⟩,z⟩
 ·refine ⟨its.toList,r,⟨o,n,I.kIn a o hk,hc,hd,by simpa using hs⟩,?_⟩
  have e:=r.length
  simp only [Array.length_toList] at e
  omega
theorem Inv.tuple (I:Inv X Aa σ H s) (h:SqT X.K H a xs):∃ its:List Value,Vals xs its∧IsTup s.heap a its.toArray∧xs.length≤sizeLine:=by
 rcases h with h | ⟨o,its,n,hk,hc,hs,hz,r⟩
 ·obtain ⟨z,its,r,p⟩:=h.ok I.hok
  exact ⟨its,r,p,z⟩
 ·refine ⟨its.toList,r,⟨o,I.kIn a o hk,hc,n,by simpa using hs⟩,?_⟩
  have e:=r.length
  simp only [Array.length_toList] at e
  omega
theorem Inv.list_inj (I:Inv X Aa σ H s) (h:SqL X.K H a xs) (h':SqL X.K H a ys):xs=ys:=by
 obtain ⟨its,r,⟨o,n,e,_,_,d⟩,_⟩:=I.list h
 obtain ⟨its',r',⟨o',n',e',_,_,d'⟩,_⟩:=I.list h'
 rw [e] at e'; cases e'
 rw [d] at d'
 injection d' with d1 _
 have:its=its':=by simpa using congrArg Array.toList d1
 subst this
 exact r.inj r'
theorem Inv.tuple_inj (I:Inv X Aa σ H s) (h:SqT X.K H a xs) (h':SqT X.K H a ys):xs=ys:=by
 obtain ⟨its,r,⟨o,e,_,n,d⟩,_⟩:=I.tuple h
 obtain ⟨its',r',⟨o',e',_,n',d'⟩,_⟩:=I.tuple h'
 rw [e] at e'; cases e'
 rw [d] at d'
 injection d' with d1 _
 have:its=its':=by simpa using congrArg Array.toList d1
 subst this
 exact r.inj r'
end
abbrev Cx.wish (X:Cx) (E:hW):Cx:={ X with xe:=E }
abbrev Cx.nox (X:Cx):Cx:=X.wish fun _ _=>False
theorem Cx.Ok.wish {X:Cx} (ok:X.Ok) (E:hW):(X.wish E).Ok :=
 ⟨ok.mod,ok.kind,ok.glob,ok.blt,ok.above,ok.inj,ok.has,ok.cab,ok.hd,ok.frames,ok.stk,ok.exf,ok.bs,ok.bsz,ok.noex,ok.exfs,ok.funs,ok.frf⟩
theorem Cx.Ok.unwish {X:Cx} {E:hW} (ok:(X.wish E).Ok):X.Ok :=
 ⟨ok.mod,ok.kind,ok.glob,ok.blt,ok.above,ok.inj,ok.has,ok.cab,ok.hd,ok.frames,ok.stk,ok.exf,ok.bs,ok.bsz,ok.noex,ok.exfs,ok.funs,ok.frf⟩
section
variable {X:Cx} {Aa:fO} {σ:St} {H:Hp} {s:Shared} {E:hW}
theorem Inv.wish (I:Inv X Aa σ H s) (E:hW):Inv (X.wish E) Aa σ H s:=⟨I.ok.wish E,I.os,I.bare,I.base,I.loc,I.cell,I.free,I.freeC,I.pin,I.hok,I.len⟩
theorem Inv.unwish (I:Inv (X.wish E) Aa σ H s):Inv X Aa σ H s:=⟨I.ok.unwish,I.os,I.bare,I.base,I.loc,I.cell,I.free,I.freeC,I.pin,I.hok,I.len⟩
theorem SP.unwish {D:Ends} {f:Flow} {s':Shared} (h:SP (X.wish E) Aa D f s'):SP X Aa D f s':=by
 cases f with
 | next=>obtain ⟨σ',H',I,q⟩:=h; exact ⟨σ',H',I.unwish,q⟩
 | brk=>obtain ⟨σ',H',I,q⟩:=h; exact ⟨σ',H',I.unwish,q⟩
 | cont=>obtain ⟨σ',H',I,q⟩:=h; exact ⟨σ',H',I.unwish,q⟩
 | ret u=>obtain ⟨v,σ',H',I,r,q⟩:=h; exact ⟨v,σ',H',I.unwish,r,q⟩
theorem PSs.nox {st:List Stmt} {t:TS} (h:PSs X.nox st t):PSs X st t:=fun Aa s σ H D I hw =>
 wpAny_mono (h Aa s σ H D (I.wish _) hw) (fun _ _ q=>q.unwish) fun _ _ z=>False.elim z
end
section
variable {X:Cx} {st:Stmt} {rest:List Stmt} {t u:TS} {e:Expr} {te:TE} {pos:Pos}
def aVr:TS:=fun D σ H=>D.nx σ H
def bAo (t u:TS):TS:=fun D σ H=>t { D with nx:=u D } σ H
theorem aKp:PSs X [] aVr:=fun _ _ σ H _ I h=>wpAny_execs_nil ⟨σ,H,I,h⟩
theorem aFr (h1:PS X st t) (h2:PSs X rest u):PSs X (st :: rest) (bAo t u):=by
 intro Aa s σ H D I h
 refine wpAny_execs_cons (fE (h1 Aa s σ H { D with nx:=u D } I h) fun f s1 q => ?_)
 cases f with
 | next =>
  obtain ⟨σ',H',I',q⟩:=q
  exact h2 Aa s1 σ' H' D I' q
 | ret v=>exact q
 | brk=>exact q
 | cont=>exact q
theorem u8 (h1:PS X st t):PSs X [st] t:=by
 intro Aa s σ H D I h
 refine wpAny_execs_cons (fE (h1 Aa s σ H D I h) fun f s1 q => ?_)
 cases f with
 | next=>exact wpAny_execs_nil q
 | ret v=>exact q
 | brk=>exact q
 | cont=>exact q
theorem Inv.quiet {Aa:fO} {σ:St} {H:Hp} {s:Shared} (I:Inv X Aa σ H s):interactive X.env=false:=by simp [interactive,I.ok.kind]
def aOb (te:TE):TS:=fun D σ H=>te σ H fun _ H1=>D.nx σ H1
theorem gd_ (he:PE X e te) (hs:swapsWith e none pos.line X.env=pure false:=by rfl):PS X (.Expr e pos) (aOb te):=by
 intro Aa s σ H D I h
 exact wpAny_Expr_any (fE (he Aa s σ H _ I h) fun v s1 ⟨x,H1,I1,r1,q1⟩=>⟨σ,H1,I1,q1⟩) I.quiet hs
def bAp (te:TE):TS:=fun D σ H=>te σ H D.rt
theorem aQg (he:PE X e te):PS X (.Return (some e) pos) (bAp te):=by
 intro Aa s σ H D I h
 exact wpAny_Return_some (fE (he Aa s σ H _ I h) fun v s1 ⟨x,H1,I1,r1,q1⟩=>⟨x,σ,H1,I1,r1,q1⟩)
def bAs (c:TT) (t u:TS):TS:=fun D σ H=>c σ H fun b H1=>if b=true then t D σ H1 else u D σ H1
theorem aWd {c:Expr} {a b:List Stmt} {tc:TT} (hc:PT X c tc) (ha:PSs X a t) (hb:PSs X b u):PS X (.If c a b pos) (bAs tc t u):=by
 intro Aa s σ H D I h
 refine wpAny_If (fE (hc Aa s σ H _ I h) fun d s1 ⟨H1,I1,q1⟩ => ?_)
 cases d with
 | true=>exact ha Aa s1 σ H1 D I1 q1
 | false=>exact hb Aa s1 σ H1 D I1 q1
end
abbrev TG:=V→St→Hp→(St→Hp→Prop)→Prop
abbrev TGs:=List V→St→Hp→(St→Hp→Prop)→Prop
def PG (X:Cx) (target:Expr) (t:TG):Prop :=
 ∀ (Aa:fO) (s:Shared) (σ:St) (H:Hp) (v:V) (u:Value) (Q:St→Hp→Prop),Inv X Aa σ H s→RelV v u→t v σ H Q →
  wpAny (model X.prog X.w) X.A (assign target X.env u) (fun _ s' => ∃ σ' H',Inv X Aa σ' H' s'∧Q σ' H') X.xe s
def PGs (X:Cx) (ts:List Expr) (t:TGs):Prop :=
 ∀ (Aa:fO) (s:Shared) (σ:St) (H:Hp) (vs:List V) (us:List Value) (Q:St→Hp→Prop),Inv X Aa σ H s→Vals vs us→t vs σ H Q →
  wpAny (model X.prog X.w) X.A (assignInOrder ((assignEach ts X.env).map (·.2)) us) (fun _ s' => ∃ σ' H',Inv X Aa σ' H' s'∧Q σ' H') X.xe s
abbrev aUg:=V→V→V→Hp→(Hp→Prop)→Prop
def aYu (X:Cx) (t:aUg):Prop :=
 ∀ (Aa:fO) (s:Shared) (σ:St) (H:Hp) (o i v:V) (ov iv u:Value) (Q:Hp→Prop),Inv X Aa σ H s→RelV o ov→RelV i iv→RelV v u→t o i v H Q →
  wpAny (model X.prog X.w) X.A (setItem ov iv u) (fun _ s' => ∃ H',Inv X Aa σ H' s'∧Q H') X.xe s
section
variable {X:Cx} {pos:Pos}
def kX (i:Nat):TG:=fun v σ H Q=>Q (σ.set i (some v)) H
theorem gG {i:Nat} {x:Str} (hN:X.N.Nodup) (hi:X.N[i]? = some x) (hx:Loc X.env.scope x) (hf:X.fn x=true∨X.env.scope.names.lookup x=some .local:=by first | exact .inl rfl | exact .inr rfl | assumption):PG X (.Name x pos) (kX i):=by
 intro Aa s σ H v u Q I r h
 exact wpAny_assign_Name (xV I hN hi hx r (fun s' I'=>⟨_,H,I',h⟩) hf)
def aIc:TGs:=fun vs σ H Q=>vs=[]∧Q σ H
def yV (t:TG) (u:TGs):TGs:=fun vs σ H Q => ∃ v r,vs=v :: r∧t v σ H fun σ' H'=>u r σ' H' Q
theorem tM:PGs X [] aIc:=by
 intro Aa s σ H vs us Q I r h
 obtain ⟨e,h⟩:=h
 subst e
 cases r
 exact assignInOrder_nil ⟨σ,H,I,h⟩
theorem jY {e:Expr} {es:List Expr} {t:TG} {u:TGs} (h1:PG X e t) (h2:PGs X es u)
  (hs:(assignEach (e :: es) X.env).map (·.2)=assign e X.env :: (assignEach es X.env).map (·.2):=by rfl):PGs X (e :: es) (yV t u):=by
 intro Aa s σ H vs us Q I r h
 obtain ⟨v,vr,e1,h⟩:=h
 subst e1
 cases r with
 | cons r rr =>
  rw [hs]
  refine assignInOrder_cons (fE (h1 Aa s σ H _ _ _ I r h) fun _ s1 ⟨σ1,H1,I1,q1⟩ => ?_)
  exact h2 Aa s1 σ1 H1 _ _ Q I1 rr q1
def aIb (K:eE) (n:Nat) (t:TGs):TG:=fun v σ H Q => ∃ a xs,v=.ref a∧SqT K H a xs∧xs.length=n∧t xs σ H Q
theorem gq_ {es:List Expr} {k:Nat} {t:TGs} {n:Nat} (hc:X.calm=true) (h:PGs X es t)
  (hn:(assignEach es X.env).length=n:=by rfl) (Bb:(assignEach es X.env).findIdx? (·.1)=none:=by rfl):PG X (.Tuple es k pos) (aIb X.K n t):=by
 intro Aa s σ H v u Q I r hw
 obtain ⟨a,xs,e1,hq,hl,hw⟩:=hw
 subst e1
 cases r
 obtain ⟨its,rv,ht,hz⟩:=I.tuple hq
 refine assign_Tuple_tuple (I.ok.hd hc) ht (by simp [hn,← hl,rv.length]) Bb fun h' hx => ?_
 have I1:Inv X Aa σ H { s with heap:=h' }:=I.kept (t':=s.toks) fun b o e=>hx b o (cO (aS e)) e
 exact h Aa _ σ H xs _ Q I1 (by simpa using rv) hw
def aXu (to ti:TE) (t:aUg):TG:=fun v σ H Q=>to σ H fun o H1=>ti σ H1 fun i H2=>t o i v H2 fun H3=>Q σ H3
theorem mK {o i:Expr} {to ti:TE} {t:aUg} (ho:PE X o to) (hi:PE X i ti) (hs:aYu X t)
  (ha:∀ v,assign (.Subscript o i pos) X.env v=(do
   let ov ← holding [v] (eval o X.env)
   let iv ← holding [v,ov] (eval i X.env)
   standAt pos
   holding [v,ov,iv] (setItem ov iv v)
   release [v,ov,iv] []):=by intro _; rfl):PG X (.Subscript o i pos) (aXu to ti t):=by
 intro Aa s σ H v u Q I r h
 rw [ha]
 refine wpAny_bind (wpAny_holding (fE (ho Aa s σ H _ I h) fun ov s1 ⟨x,H1,I1,r1,q1⟩ => ?_))
 refine wpAny_bind (wpAny_holding (fE (hi Aa s1 σ H1 _ I1 q1) fun iv s2 ⟨y,H2,I2,r2,q2⟩ => ?_))
 refine wpAny_bind (wpAny_standAt (wpAny_bind (wpAny_holding (fE (hs Aa s2 σ H2 x y v ov iv u _ I2 r1 r2 r q2) fun _ s3 ⟨H3,I3,q3⟩ => ?_))))
 exact wpAny_release ⟨σ,H3,I3,q3⟩
def xU (te:TE) (g:TG):TS:=fun D σ H=>te σ H fun x H1=>g x σ H1 D.nx
theorem hu_ {tg e:Expr} {te:TE} {g:TG} (he:PE X e te) (hg:PG X tg g) (hs:swapsWithSole [tg] e pos.line X.env=pure false:=by rfl) (hw:swappedStores [tg] e X.env=pure none:=by rfl)
  (h1:(assignEach [tg] X.env).map (·.2)=[assign tg X.env]:=by rfl):PS X (.Assign [tg] e pos) (xU te g):=by
 intro Aa s σ H D I h
 refine wpAny_Assign_stores (fE (he Aa s σ H _ I h) fun v s1 ⟨x,H1,I1,r1,q1⟩ => ?_) hs hw
 rw [h1]
 exact fE (hg Aa s1 σ H1 x v _ I1 r1 q1) fun _ s2 q=>q
theorem ai_ {i:Nat} {x:Str} {e:Expr} {te:TE} {pos':Pos} (hN:X.N.Nodup) (hi:X.N[i]? = some x) (hx:Loc X.env.scope x) (he:PE X e te) (hs:swapsWith e (some (.Name x pos')) pos.line X.env=pure false:=by rfl) (hf:X.fn x=true∨X.env.scope.names.lookup x=some .local:=by first | exact .inl rfl | exact .inr rfl | assumption) :
  PS X (.Assign [.Name x pos'] e pos) (xU te (kX i)):=by
 intro Aa s σ H D I h
 refine wpAny_Assign_Name (fE (he Aa s σ H _ I h) fun v s1 ⟨y,H1,I1,r1,q1⟩ => ?_) hs
 exact xV I1 hN hi hx r1 (fun s2 I2=>⟨_,H1,I2,q1⟩) hf
end
section
variable {X:Cx} {pos:Pos}
def aPq (c:TT) (tb:TS):TS:=fun D σ H => ∃ W:Nat→St→Hp→Prop,(∃ m,W m σ H)∧∀ m σ H,W m σ H →
 c σ H fun b H1=>if b=true then ∃ N:St→Hp→Prop,(∀ σ' H',N σ' H'→∃ m',m' < m∧W m' σ' H')∧tb { D with nx:=N,ct:=N,bk:=D.nx } σ H1 else D.nx σ H1
theorem aFs {c:Expr} {body:List Stmt} {tc:TT} {tb:TS} (hp:PassesOwn (model X.prog X.w) X.A X.env X.xe) (hc:PT X c tc) (hb:PSs X body tb):PS X (.While c body [] pos) (aPq tc tb):=by
 intro Aa s σ H D I h
 obtain ⟨W,⟨m0,w0⟩,turn⟩:=h
 refine wpAny_While (codeAny_whileLoop (fun n s' => ∃ σ' H',Inv X Aa σ' H' s'∧W n σ' H') ?_ m0 ⟨σ,H,I,w0⟩)
 rintro n s1 ⟨σ1,H1,I1,w1⟩
 refine wpAny_passesOwn hp (fE (hc Aa s1 σ1 H1 _ I1 (turn n σ1 H1 w1)) fun b s2 ⟨H2,I2,q2⟩ => ?_)
 cases b with
 | true =>
  obtain ⟨N,hN,q2⟩:=q2
  rw [if_pos rfl]
  refine wpAny_passesOwn hp (fE (hb Aa s2 σ1 H2 _ I2 q2) fun f s3 q3 => ?_)
  cases f with
  | next =>
   obtain ⟨σ3,H3,I3,n3⟩:=q3
   obtain ⟨m',hm,w3⟩:=hN σ3 H3 n3
   exact ⟨m',hm,σ3,H3,I3,w3⟩
  | cont =>
   obtain ⟨σ3,H3,I3,n3⟩:=q3
   obtain ⟨m',hm,w3⟩:=hN σ3 H3 n3
   exact ⟨m',hm,σ3,H3,I3,w3⟩
  | brk=>exact q3
  | ret v=>exact q3
 | false =>
  rw [if_neg aX]
  exact wpAny_execs_nil ⟨σ1,H2,I2,q2⟩
end
structure It where
 go:Nat→Hp→Prop
 yld:Nat→Hp→V→Hp→Prop
 stop:Nat→Hp→Prop
def kI (X:Cx) (Aa:fO) (H:Hp) (b:Addr):Prop :=
 H b=none∧b≠X.env.locals∧b∉X.fs∧(b∈X.ex∨X.s₀.heap.objs.size≤b)∧(∀ x c,X.env.cells.lookup x=some c→c≠b)∧∀ p∈X.pn ++ Aa,p.1≠b
theorem Inv.fpOk {X:Cx} {Aa:fO} {σ:St} {H H':Hp} {s:Shared} {b:Addr} (I:Inv X Aa σ H s) (hb:s.heap.objs.size≤b) (hn:H' b=none):kI X Aa H' b:=by
 refine ⟨hn,iF (bN I.lt hb),I.nofs hb,.inr (nzL I.sz hb),fun x c e z => ?_,fun p hp z => ?_⟩
 ·obtain ⟨v,q⟩:=I.cell x c e
  exact absurd (bN q.lt (by rw [z]; exact hb)) (dZ _)
 ·exact absurd (bN (aS (I.pin p hp).1) (by rw [z]; exact hb)) (dZ _)
structure Turn (P:Program) (w:World) (K:eE) (tg:Expr) (J:It) (fp:List Addr) (it:Addr) (tn:Nat→Heap→Prop):Prop where
 mem:it∈fp
 obj:∀ i h,tn i h→∀ b∈fp,∃ o,h.get? b=some o∧∀ v,o.data ≠ .cell v
 keep:∀ i h h',tn i h→(∀ b∈fp,∀ o,h.get? b=some o→h'.get? b=some o)→tn i h'
 item:∀ (X:Cx),X.prog=P→X.w=w→X.K=K→X.calm=true→∀ (i:Nat) (Aa:fO) (s:Shared) (σ:St) (H:Hp) (E:hW),Inv X Aa σ H s→(∀ b∈fp,kI X Aa H b)→tn i s.heap→J.go i H →
  wpAny (model P w) X.A (pyNext (.ref it)) (fun r s1 => ∃ u,r=some u ∧
   wpAny (model P w) X.A (letOwnedTupleGo tg (.ref it) u) (fun _ s2 => ∃ x H',Inv X Aa σ H' s2∧RelV x u∧J.yld i H x H'∧tn (i + 1) s2.heap∧∀ b∈fp,H' b=none) E s1) E s
 done:∀ (X:Cx),X.prog=P→X.w=w→X.K=K→X.calm=true→∀ (i:Nat) (Aa:fO) (s:Shared) (σ:St) (H:Hp) (E:hW),Inv X Aa σ H s→(∀ b∈fp,kI X Aa H b)→tn i s.heap→J.stop i H →
  wpAny (model P w) X.A (pyNext (.ref it)) (fun r s1=>r=none∧Inv X Aa σ H s1) E s
 self:∀ (A:Around) (i:Nat) (s:Shared) (Q:hW) (E:hW),tn i s.heap→Q (.ref it) s→wpAny (model P w) A (pyIter (.ref it)) Q E s
abbrev TI:=St→Hp→(It→Hp→Prop)→Prop
def PIE (X:Cx) (Aa:fO) (σ:St) (tg:Expr) (R:It→Hp→Prop) (itv:Value) (s2:Shared):Prop :=
 ∃ (it:Addr) (fp:List Addr) (tn:Nat→Heap→Prop) (J:It) (H':Hp),itv=.ref it∧Inv X Aa σ H' s2∧Turn X.prog X.w X.K tg J fp it tn∧tn 0 s2.heap∧(∀ b∈fp,kI X Aa H' b)∧R J H'
def PI (X:Cx) (tg iter:Expr) (wi:TI):Prop :=
 ∀ (Aa:fO) (s:Shared) (σ:St) (H:Hp) (R:It→Hp→Prop),Inv X Aa σ H s→wi σ H R →
  wpAny (model X.prog X.w) X.A (eval iter X.env) (fun v s1=>wpAny (model X.prog X.w) X.A (pyIter v) (PIE X Aa σ tg R) X.xe s1) X.xe s
theorem yU {M:Model} {A:Around} {E:hW} {s:Shared} {tg:Expr} {it:Addr} {u:Value} {o:Obj} {n:String} {vs:Array Value} {Q:Unit→Shared→Prop} (ho:s.heap.get? it=some o) (hc:o.cls=.type n) (hd:o.data=.fields vs)
    (hn:["enumerate","zip","dict_itemiterator","dict_reverseitemiterator","odict_iterator","itertools.zip_longest","itertools.pairwise"].contains n=false) (hQ:Q () s):wpAny M A (letOwnedTupleGo tg (.ref it) u) Q E s:=by
  unfold letOwnedTupleGo
  cases tg <;> first
    | exact wpAny_pure hQ
    | (cases u <;> first
        | exact wpAny_pure hQ
        | (refine wpAny_bind (wpAny_load ho ?_)
           rw [hc,hd]
           show wpAny M A (if (["enumerate","zip","dict_itemiterator","dict_reverseitemiterator","odict_iterator","itertools.zip_longest","itertools.pairwise"].contains n && vs[0]? == some (rawInt _))=true then _ else _) Q E s
           rw [if_neg (by intro h; rw [hn,Bool.false_and] at h; cases h)]
           exact wpAny_pure hQ))
def Itl (K:eE) (a:Addr):It :=
 ⟨fun i H => ∃ xs x,SqL K H a xs∧xs[i]? = some x,fun i H x H'=>H'=H∧∀ xs,SqL K H a xs→xs[i]? = some x,fun i H => ∃ xs,SqL K H a xs∧xs.length≤i⟩
def Itt (K:eE) (a:Addr):It :=
 ⟨fun i H => ∃ xs x,SqT K H a xs∧xs[i]? = some x,fun i H x H'=>H'=H∧∀ xs,SqT K H a xs→xs[i]? = some x,fun i H => ∃ xs,SqT K H a xs∧xs.length≤i⟩
def Itr (lo:Int) (n:Nat):It:=⟨fun i _=>i < n,fun i H x H'=>H'=H∧x=.int (lo + i),fun i _=>n≤i⟩
theorem aBf {P:Program} {w:World} {K:eE} {tg:Expr} (a it:Addr):Turn P w K tg (Itl K a) [it] it (fun i h=>h.IsListIter it a i) where
 mem:=by simp
 obj:=fun i h st b hb=>by
  have e:b=it:=by simpa using hb
  subst e
  obtain ⟨o,e,c,d⟩:=st
  exact ⟨o,e,fun v z=>by rw [d] at z; cases z⟩
 keep:=fun i h h' st k=>st.at fun o e=>k it (by simp) o e
 item:=by
  intro X hP hw hK hc i Aa s σ H E I hf st hg
  subst hP hw hK
  obtain ⟨xs,x,hq,hx⟩:=hg
  obtain ⟨its,rv,p,hz⟩:=I.list hq
  obtain ⟨u,hu,ru⟩:=rv.get hx
  obtain ⟨f0,f1,f2,f3,f4,f5⟩:=hf it (by simp)
  refine wpAny_pyNext_list_item st p.isList (x:=u) (by simpa using hu) fun h' st' sb => ?_
  have I1:Inv X Aa σ H { s with heap:=h' }:=I.turned (t':=s.toks) (fun b o hb e=>(sb.2 b hb).trans e) f0 f1 f3 f4 f5
  obtain ⟨o,e,c,d⟩:=id st'
  exact ⟨u,rfl,yU (s:={ s with heap:=h' }) e c d (by decide) ⟨x,H,I1,ru,⟨rfl,fun ys hy=>by rw [I.list_inj hy hq]; exact hx⟩,st',fun b hb=>(hf b hb).1⟩⟩
 done:=by
  intro X hP hw hK hc i Aa s σ H E I hf st hg
  subst hP hw hK
  obtain ⟨xs,hq,hx⟩:=hg
  obtain ⟨its,rv,p,hz⟩:=I.list hq
  obtain ⟨f0,f1,f2,f3,f4,f5⟩:=hf it (by simp)
  have hl:=rv.length
  exact wpAny_pyNext_list_end (I.ok.hd hc) st p.isList (by simp; omega) fun h' eb=>⟨rfl,I.turned (t':=s.toks) (fun b o hb e=>eb b o hb e) f0 f1 f3 f4 f5⟩
 self:=fun _ _ _ _ _ st h=>wpAny_pyIter_listiter st h
theorem f6 {P:Program} {w:World} {K:eE} {tg:Expr} (a it:Addr):Turn P w K tg (Itt K a) [it] it (fun i h=>h.IsTupleIter it a i) where
 mem:=by simp
 obj:=fun i h st b hb=>by
  have e:b=it:=by simpa using hb
  subst e
  obtain ⟨o,e,c,d⟩:=st
  exact ⟨o,e,fun v z=>by rw [d] at z; cases z⟩
 keep:=fun i h h' st k=>st.at fun o e=>k it (by simp) o e
 item:=by
  intro X hP hw hK hc i Aa s σ H E I hf st hg
  subst hP hw hK
  obtain ⟨xs,x,hq,hx⟩:=hg
  obtain ⟨its,rv,p,hz⟩:=I.tuple hq
  obtain ⟨u,hu,ru⟩:=rv.get hx
  obtain ⟨f0,f1,f2,f3,f4,f5⟩:=hf it (by simp)
  refine wpAny_pyNext_tuple_item st (show s.heap.IsTuple a its.toArray from p) (x:=u) (by simpa using hu) fun h' st' sb => ?_
  have I1:Inv X Aa σ H { s with heap:=h' }:=I.turned (t':=s.toks) (fun b o hb e=>(sb.2 b hb).trans e) f0 f1 f3 f4 f5
  obtain ⟨o,e,c,d⟩:=id st'
  exact ⟨u,rfl,yU (s:={ s with heap:=h' }) e c d (by decide) ⟨x,H,I1,ru,⟨rfl,fun ys hy=>by rw [I.tuple_inj hy hq]; exact hx⟩,st',fun b hb=>(hf b hb).1⟩⟩
 done:=by
  intro X hP hw hK hc i Aa s σ H E I hf st hg
  subst hP hw hK
  obtain ⟨xs,hq,hx⟩:=hg
  obtain ⟨its,rv,p,hz⟩:=I.tuple hq
  obtain ⟨f0,f1,f2,f3,f4,f5⟩:=hf it (by simp)
  have hl:=rv.length
  exact wpAny_pyNext_tuple_end (I.ok.hd hc) st (show s.heap.IsTuple a its.toArray from p) (by simp; omega) fun h' eb=>⟨rfl,I.turned (t':=s.toks) (fun b o hb e=>eb b o hb e) f0 f1 f3 f4 f5⟩
 self:=fun _ _ _ _ _ st h=>wpAny_pyIter_tupleiter st h
theorem f7 {P:Program} {w:World} {K:eE} {tg:Expr} (it:Addr) (lo:Int) (n:Nat):Turn P w K tg (Itr lo n) [it] it (fun i h=>IsRangeIter h it (lo + (i:Nat) * 1) ((n:Int) - (i:Nat)) 1) where
 mem:=by simp
 obj:=fun i h st b hb=>by
  have e:b=it:=by simpa using hb
  subst e
  exact ⟨_,st,fun v z=>by
   have z':Data.fields _=Data.cell v:=z
   cases z'⟩
 keep:=fun i h h' st k=>k it (by simp) _ st
 item:=by
  intro X hP hw hK hc i Aa s σ H E I hf st hg
  subst hP hw hK
  obtain ⟨f0,f1,f2,f3,f4,f5⟩:=hf it (by simp)
  have W:=Walks.range (prog:=X.prog) (w:=X.w) (I.ok.hd hc) it lo 1 n
  refine W.item i s _ _ hg st fun v h' tk hv st' kk => ?_
  obtain ⟨t,rfl⟩:=hv
  have I1:Inv X Aa σ H { s with heap:=h',toks:=tk }:=I.turned (fun b o hb e=>kk b o (by simpa using hb) e) f0 f1 f3 f4 f5
  refine ⟨_,rfl,yU (s:={ s with heap:=h',toks:=tk }) (n := "range_iterator") st' rfl rfl (by decide) ⟨.int (lo + i),H,I1,⟨t,?_⟩,⟨rfl,rfl⟩,st',fun b hb=>(hf b hb).1⟩⟩
  rw [Int.mul_one]
 done:=by
  intro X hP hw hK hc i Aa s σ H E I hf st hg
  subst hP hw hK
  obtain ⟨f0,f1,f2,f3,f4,f5⟩:=hf it (by simp)
  exact wpAny_pyNext_range_end (I.ok.hd hc) st (by have:n≤i:=hg; omega) fun h' eb=>⟨rfl,I.turned (t':=s.toks) (fun b o hb e=>eb b o hb e) f0 f1 f3 f4 f5⟩
 self:=fun _ _ _ _ _ st h=>wpAny_pyIter_rangeiter st h
section
variable {X:Cx} {tg:Expr}
def aXj (K:eE) (tl:TE):TI:=fun σ H R=>tl σ H fun x H1 => ∃ a,x=.ref a∧(∃ xs,SqL K H1 a xs)∧R (Itl K a) H1
def bBv (K:eE) (tl:TE):TI:=fun σ H R=>tl σ H fun x H1 => ∃ a,x=.ref a∧(∃ xs,SqT K H1 a xs)∧R (Itt K a) H1
theorem aKu {l:Expr} {tl:TE} (hl:PE X l tl):PI X tg l (aXj X.K tl):=by
 intro Aa s σ H R I h
 refine fE (hl Aa s σ H _ I h) fun v s1 ⟨x,H1,I1,r1,q1⟩ => ?_
 obtain ⟨a,e,⟨xs,hq⟩,q⟩:=q1
 subst e
 cases r1
 obtain ⟨its,rv,p,hz⟩:=I1.list hq
 refine wpAny_pyIter_list p.isList ?_
 refine ⟨s1.heap.objs.size,[s1.heap.objs.size],_,_,H1,rfl,I1.kept (t':=s1.toks) fun b o e=>aG _ e,aBf a _,⟨_,bC _ rfl,rfl,rfl⟩,fun b hb => ?_,q⟩
 have e:b=s1.heap.objs.size:=by simpa using hb
 subst e
 exact I1.fpOk (aV _) (I1.hok.fresh (aV _))
theorem aQi {l:Expr} {tl:TE} (hl:PE X l tl):PI X tg l (bBv X.K tl):=by
 intro Aa s σ H R I h
 refine fE (hl Aa s σ H _ I h) fun v s1 ⟨x,H1,I1,r1,q1⟩ => ?_
 obtain ⟨a,e,⟨xs,hq⟩,q⟩:=q1
 subst e
 cases r1
 obtain ⟨its,rv,p,hz⟩:=I1.tuple hq
 refine wpAny_pyIter_tuple (show s1.heap.IsTuple a its.toArray from p) ?_
 refine ⟨s1.heap.objs.size,[s1.heap.objs.size],_,_,H1,rfl,I1.kept (t':=s1.toks) fun b o e=>aG _ e,f6 a _,⟨_,bC _ rfl,rfl,rfl⟩,fun b hb => ?_,q⟩
 have e:b=s1.heap.objs.size:=by simpa using hb
 subst e
 exact I1.fpOk (aV _) (I1.hok.fresh (aV _))
theorem aFi {Aa:fO} {σ:St} {H:Hp} {s:Shared} {R:It→Hp→Prop} {E:hW} {lo hi:Int} {t u v:Tok} {tk:Nat} (I:Inv X Aa σ H s) (h1 : -(2 ^ 62)≤lo) (h2:lo < 2 ^ 62) (h3 : -(2 ^ 62)≤hi) (h4:hi < 2 ^ 62)
  (q:R (Itr lo (hi - lo).toNat) H):wpAny (model X.prog X.w) X.A (pyIter (.ref s.heap.objs.size)) (PIE X Aa σ tg R) E { s with heap:=s.heap.push { cls:=.type "range",data:=.fields #[.int lo t,.int hi u,.int 1 v] },toks:=tk }:=by
 refine wpAny_pyIter_range (IsRange.new ..) (small_one h1 h2 h3 h4) ?_
 have I1:Inv X Aa σ H { s with heap:=s.heap.push { cls:=.type "range",data:=.fields #[.int lo t,.int hi u,.int 1 v] },toks:=tk }:=I.kept fun b o e=>aG _ e
 refine ⟨(s.heap.push { cls:=.type "range",data:=.fields #[.int lo t,.int hi u,.int 1 v] }).objs.size,[(s.heap.push { cls:=.type "range",data:=.fields #[.int lo t,.int hi u,.int 1 v] }).objs.size],_,_,H,rfl,
  I1.kept (t':=tk) fun b o e=>aG _ e,f7 _ lo (hi - lo).toNat,?_,fun b hb => ?_,q⟩
 ·have e1:lo + ((0:Nat):Int) * 1=lo:=by simp
  have e2:(((hi - lo).toNat:Nat):Int) - ((0:Nat):Int)=Builtin.Range.rangeSize lo hi 1:=by rw [rangeSize_one]; split <;> omega
  show IsRangeIter _ _ (lo + ((0:Nat):Int) * 1) ((((hi - lo).toNat:Nat):Int) - ((0:Nat):Int)) 1
  rw [e1,e2]
  exact bC _ rfl
 ·have e:b=(s.heap.push { cls:=.type "range",data:=.fields #[.int lo t,.int hi u,.int 1 v] }).objs.size:=by simpa using hb
  subst e
  exact I1.fpOk (aV _) (I1.hok.fresh (aV _))
def aXi (ta:TA):TI:=fun σ H R=>ta σ H fun vs H1 => ∃ j:Int,vs=[.int j] ∧ -(2 ^ 62)≤j∧j < 2 ^ 62∧R (Itr 0 j.toNat) H1
theorem aBm {a:Expr} {ta:TA} {p pos:Pos} (hg:Gl X "range") (hm:X.mg "range" = none) (ha:PA X [a] ta) (hs:starEach [a] X.env=[(false,eval a X.env)]:=by rfl):PI X tg (.Call (.Name "range" p) [a] [] pos) (aXi ta):=by
 intro Aa s σ H R I h
 refine Call_ (hw_ I hg hm boot_range (fQ (fE (ha pos Aa s σ H _ I h) fun us s1 ⟨vs,H1,I1,r1,q1⟩ => ?_) hs rfl))
 obtain ⟨j,e,q1,q2,q⟩:=q1
 subst e
 cases r1 with
 | cons r rr =>
  cases rr
  obtain ⟨t,rfl⟩:=r
  exact call_range_1 (aFi I1 (by omega) (by omega) q1 q2 (by simpa using q))
def aKg (wi:TI) (g:TG) (tb:TS):TS:=fun D σ H=>wi σ H fun J H1 => ∃ W:Nat→Nat→St→Hp→Prop,(∃ m,W 0 m σ H1)∧∀ i m σ H,W i m σ H →
 (J.stop i H∧D.nx σ H)∨(J.go i H∧∃ N:St→Hp→Prop,(∀ σ' H',N σ' H'→∃ m',m' < m∧W (i + 1) m' σ' H')∧∀ x H',J.yld i H x H'→g x σ H' fun σ2 H2=>tb { D with nx:=N,ct:=N,bk:=D.nx } σ2 H2)
def lK (fp:List Addr) (h:Heap):List (Addr×Obj):=fp.filterMap fun b=>(h.get? b).map fun o=>(b,o)
theorem df_ {fp:List Addr} {h:Heap} {b:Addr} {o:Obj} (hb:b∈fp) (e:h.get? b=some o):(b,o)∈lK fp h:=List.mem_filterMap.mpr ⟨b,hb,by rw [e]; rfl⟩
theorem aBt {fp:List Addr} {h:Heap} {p:Addr×Obj} (hp:p∈lK fp h):p.1∈fp∧h.get? p.1=some p.2:=by
 obtain ⟨b,hb,e⟩:=List.mem_filterMap.mp hp
 cases q:h.get? b with
 | none=>rw [q] at e; cases e
 | some o =>
  rw [q] at e
  have e':(b,o)=p:=ozI e
  subst e'
  exact ⟨hb,q⟩
theorem Inv.pinned {Aa:fO} {σ:St} {H:Hp} {s:Shared} {fp:List Addr} (I:Inv X Aa σ H s) (hf:∀ b∈fp,kI X Aa H b) (ho:∀ b∈fp,∃ o,s.heap.get? b=some o∧∀ v,o.data ≠ .cell v):Inv X (Aa ++ lK fp s.heap) σ H s :=
 I.pins_of fun p hp=>(bA.mp hp).elim (fun z=>I.pin p (aK _ z)) fun z=>by
  obtain ⟨hb,e⟩:=aBt z
  obtain ⟨f0,f1,f2,_⟩:=hf p.1 hb
  obtain ⟨o,e',d⟩:=ho p.1 hb
  rw [e] at e'; cases e'
  exact ⟨e,f0,f1,f2,d⟩
theorem Inv.unpinned {Aa pl:fO} {σ:St} {H:Hp} {s:Shared} (I:Inv X (Aa ++ pl) σ H s):Inv X Aa σ H s:=I.pins_of fun p hp=>I.pin p (aK _ (bJ _ hp))
theorem i4 {iter:Expr} {body:List Stmt} {wi:TI} {g:TG} {tb:TS} {pos:Pos} (hp:PassesOwn (model X.prog X.w) X.A X.env X.xe) (hc:X.calm=true) (hi:PI X tg iter wi) (hg:PG X tg g) (hb:PSs X body tb)
  (hs:∀ x,foldedSetIterable iter X.env x=pure x:=by intro _; rfl):PS X (.For tg iter body [] pos) (aKg wi g tb):=by
 intro Aa s σ H D I h
 refine wpAny_For (fE (hi Aa s σ H _ I h) fun v s1 h1=>fE h1 fun itv s2 h2 => ?_) hs
 obtain ⟨it,fp,tn,J,H2,e,I2,T,Es,f2,W,⟨m0,w0⟩,turn⟩:=h2
 subst e
 have stat:∀ {H':Hp},(∀ b∈fp,H' b=none)→∀ b∈fp,kI X Aa H' b:=fun hn b hb=>⟨hn b hb,(f2 b hb).2⟩
 refine codeAny_forLoop_any (fun n s' => ∃ i σ' H',Inv X Aa σ' H' s'∧tn i s'.heap∧(∀ b∈fp,H' b=none)∧W i n σ' H') ?_ m0 ⟨0,σ,H2,I2,Es,fun b hb=>(f2 b hb).1,w0⟩
 rintro n s3 ⟨i,σ3,H3,I3,M6,N2,w3⟩
 rcases turn i n σ3 H3 w3 with ⟨stop,qn⟩ | ⟨go,N,hN,step⟩
 ·refine wpAny_passesOwn hp (fE (T.done X rfl rfl rfl hc i Aa s3 σ3 H3 X.xe I3 (stat N2) M6 stop) fun r s4 ⟨hr,I4⟩ => ?_)
  subst hr
  exact wpAny_execs_nil ⟨σ3,H3,I4,qn⟩
 ·refine wpAny_passesOwn hp (fE (T.item X rfl rfl rfl hc i Aa s3 σ3 H3 X.xe I3 (stat N2) M6 go) fun r s4 ⟨u,hr,h4⟩ => ?_)
  subst hr
  refine wpAny_passesOwn hp (fE h4 fun _ s5 ⟨x,H5,I5,r5,y5,Ek,Kf⟩ => ?_)
  have I5':=I5.pinned (stat Kf) (T.obj _ _ Ek)
  refine wpAny_passesOwn hp (fE (hg _ s5 σ3 H5 x u _ I5' r5 (step x H5 y5)) fun _ s6 ⟨σ6,H6,I6,q6⟩ => ?_)
  refine wpAny_passesOwn hp (fE (hb _ s6 σ6 H6 _ I6 q6) fun f s7 q7 => ?_)
  have again:∀ {σ7:St} {H7:Hp},Inv X (Aa ++ lK fp s5.heap) σ7 H7 s7→N σ7 H7→∃ m,m < n∧∃ i σ' H',Inv X Aa σ' H' s7∧tn i s7.heap∧(∀ b∈fp,H' b=none)∧W i m σ' H':=fun {σ7 H7} I7 n7=>by
   obtain ⟨m',hm,w7⟩:=hN σ7 H7 n7
   refine ⟨m',hm,i + 1,σ7,H7,I7.unpinned,T.keep _ _ _ Ek fun b hb o e=>(I7.pin (b,o) (aK _ (aK _ (df_ hb e)))).1,fun b hb => ?_,w7⟩
   obtain ⟨o,e,d⟩:=T.obj _ _ Ek b hb
   exact (I7.pin (b,o) (aK _ (aK _ (df_ hb e)))).2.1
  cases f with
  | next=>obtain ⟨σ7,H7,I7,n7⟩:=q7; exact again I7 n7
  | cont=>obtain ⟨σ7,H7,I7,n7⟩:=q7; exact again I7 n7
  | brk=>obtain ⟨σ7,H7,I7,q7⟩:=q7; exact ⟨σ7,H7,I7.unpinned,q7⟩
  | ret v=>obtain ⟨x7,σ7,H7,I7,r7,q7⟩:=q7; exact ⟨x7,σ7,H7,I7.unpinned,r7,q7⟩
end
abbrev R2:=V→V→Hp→VK→Prop
def OpR (X:Cx) (f:Value→Value→Sem Value) (r:R2):Prop :=
 ∀ (Aa:fO) (s:Shared) (σ:St) (H:Hp) (x y:V) (v u:Value) (Q:VK),Inv X Aa σ H s→RelV x v→RelV y u→r x y H Q →
  wpAny (model X.prog X.w) X.A (f v u) (EP X Aa σ Q) X.xe s
def UnR (X:Cx) (f:Value→Sem Value) (r:V→Hp→VK→Prop):Prop :=
 ∀ (Aa:fO) (s:Shared) (σ:St) (H:Hp) (x:V) (v:Value) (Q:VK),Inv X Aa σ H s→RelV x v→r x H Q →
  wpAny (model X.prog X.w) X.A (f v) (EP X Aa σ Q) X.xe s
def CallR (X:Cx) (f:Value) (r:List V→Hp→VK→Prop):Prop :=
 ∀ (Aa:fO) (s:Shared) (σ:St) (H:Hp) (xs:List V) (us:List Value) (Q:VK),Inv X Aa σ H s→Vals xs us→r xs H Q →
  wpAny (model X.prog X.w) X.A (call f us) (EP X Aa σ Q) X.xe s
def tOp (r:R2) (ta tb:TE):TE:=fun σ H Q=>ta σ H fun x H1=>tb σ H1 fun y H2=>r x y H2 Q
def tUn (r:V→Hp→VK→Prop) (ta:TE):TE:=fun σ H Q=>ta σ H fun x H1=>r x H1 Q
def rI (C:Int→Int→Prop) (g:Int→Int→V):R2:=fun x y H Q => ∃ i j,x=.int i∧y=.int j∧C i j∧Q (g i j) H
def rI0 (g:Int→Int→V):R2:=fun x y H Q => ∃ i j,x=.int i∧y=.int j∧Q (g i j) H
def rU (g:Int→V):V→Hp→VK→Prop:=fun x H Q => ∃ i,x=.int i∧Q (g i) H
section
variable {X:Cx} {a b c:Expr} {ta tb tc:TE} {pos:Pos}
theorem aUb (ha:PE X a ta) (hb:PE X b tb) {Aa:fO} {s:Shared} {σ:St} {H:Hp} {R:V→V→Hp→Prop} (I:Inv X Aa σ H s)
  (h:ta σ H fun x H1=>tb σ H1 fun y H2=>R x y H2) {Q:hW} {f:Value→Value→Sem Value}
  (hf:∀ v u s2 x y H2,Inv X Aa σ H2 s2→RelV x v→RelV y u→R x y H2→wpAny (model X.prog X.w) X.A (f v u) Q X.xe s2) :
  wpAny (model X.prog X.w) X.A (eval a X.env) (fun v s₁=>wpAny (model X.prog X.w) X.A (eval b X.env) (fun u s₂=>wpAny (model X.prog X.w) X.A (f v u) Q X.xe s₂) X.xe s₁) X.xe s:=by
 refine fE (ha Aa s σ H _ I h) fun v s1 ⟨x,H1,I1,r1,q1⟩ => ?_
 refine fE (hb Aa s1 σ H1 _ I1 q1) fun u s2 ⟨y,H2,I2,r2,q2⟩ => ?_
 exact hf v u s2 x y H2 I2 r1 r2 q2
theorem aWf {op:Operator} {r:R2} (ho:OpR X (binaryOp op) r) (ha:PE X a ta) (hb:PE X b tb):PE X (.BinOp a op b pos) (tOp r ta tb):=by
 intro Aa s σ H Q I h
 exact wpAny_BinOp (aUb ha hb I h fun v u s2 x y H2 I2 rx ry q=>ho Aa s2 σ H2 x y v u Q I2 rx ry q)
theorem aOk {op:UnaryOp} {r:V→Hp→VK→Prop} (ho:UnR X (unaryOp op) r) (ha:PE X a ta):PE X (.UnaryOp op a pos) (tUn r ta):=by
 intro Aa s σ H Q I h
 exact UnaryOp_ (fE (ha Aa s σ H _ I h) fun v s1 ⟨x,H1,I1,r1,q1⟩=>ho Aa s1 σ H1 x v Q I1 r1 q1)
theorem opI {f:Value→Value→Sem Value} {C:Int→Int→Prop} {g:Int→Int→Int}
  (rule:∀ (i j:Int) (t u:Tok) (s:Shared) (Q:hW) (E:hW),C i j→Q (.int (g i j) s.toks) { s with toks:=s.toks + 1 }→wpAny (model X.prog X.w) X.A (f (.int i t) (.int j u)) Q E s) :
  OpR X f (rI C fun i j=>.int (g i j)):=by
 intro Aa s σ H x y v u Q I rx ry h
 obtain ⟨i,j,rfl,rfl,hc,q⟩:=h
 obtain ⟨t,rfl⟩:=rx
 obtain ⟨t',rfl⟩:=ry
 exact rule i j t t' s _ _ hc ⟨.int (g i j),H,I.tok _,⟨_,rfl⟩,q⟩
theorem aWm {f:Value→Value→Sem Value} {g:Int→Int→Int}
  (rule:∀ (i j:Int) (t u:Tok) (s:Shared) (Q:hW) (E:hW),Q (.int (g i j) s.toks) { s with toks:=s.toks + 1 }→wpAny (model X.prog X.w) X.A (f (.int i t) (.int j u)) Q E s) :
  OpR X f (rI0 fun i j=>.int (g i j)):=by
 intro Aa s σ H x y v u Q I rx ry h
 obtain ⟨i,j,rfl,rfl,q⟩:=h
 obtain ⟨t,rfl⟩:=rx
 obtain ⟨t',rfl⟩:=ry
 exact rule i j t t' s _ _ ⟨.int (g i j),H,I.tok _,⟨_,rfl⟩,q⟩
theorem aLg {f:Value→Value→Sem Value} {g:Int→Int→Bool}
  (rule:∀ (i j:Int) (t u:Tok) (s:Shared) (Q:hW) (E:hW),Q (.bool (g i j)) s→wpAny (model X.prog X.w) X.A (f (.int i t) (.int j u)) Q E s) :
  OpR X f (rI0 fun i j=>.bl (g i j)):=by
 intro Aa s σ H x y v u Q I rx ry h
 obtain ⟨i,j,rfl,rfl,q⟩:=h
 obtain ⟨t,rfl⟩:=rx
 obtain ⟨t',rfl⟩:=ry
 exact rule i j t t' s _ _ ⟨.bl (g i j),H,I,rfl,q⟩
def aUk (i j:Int):Prop:=0≤j∧j≤1000000∧i.natAbs < 2 ^ 64
theorem aRc:OpR X (binaryOp .Add) (rI0 fun i j=>.int (i + j)):=aWm fun _ _ _ _ _ _ _ q=>add_int q
theorem aQv:OpR X (binaryOp .Sub) (rI0 fun i j=>.int (i - j)):=aWm fun _ _ _ _ _ _ _ q=>sub_int q
theorem aQy:OpR X (binaryOp .Mod) (rI (fun _ j=>0 < j) fun i j=>.int (i % j)):=opI fun i j _ _ _ _ _ hc q=>by
 have h1:(0:Int) < j:=hc
 exact mod_int' (by omega) (by rw [Int.fmod_eq_emod_of_nonneg i (by omega)]; exact q)
theorem aQx:OpR X (binaryOp .Pow) (rI aUk fun i j=>.int (i ^ j.toNat)):=opI fun _ _ _ _ _ _ _ hc q=>pow_int_small hc.1 hc.2.1 hc.2.2 q
theorem unI {f:Value→Sem Value} {g:Int→Int}
  (rule:∀ (i:Int) (t:Tok) (s:Shared) (Q:hW) (E:hW),Q (.int (g i) s.toks) { s with toks:=s.toks + 1 }→wpAny (model X.prog X.w) X.A (f (.int i t)) Q E s) :
  UnR X f (rU fun i=>.int (g i)):=by
 intro Aa s σ H x v Q I rx h
 obtain ⟨i,rfl,q⟩:=h
 obtain ⟨t,rfl⟩:=rx
 exact rule i t s _ _ ⟨.int (g i),H,I.tok _,⟨_,rfl⟩,q⟩
theorem aEl:UnR X (unaryOp .USub) (rU fun i=>.int (-i)):=unI fun _ _ _ _ _ q=>neg_int q
end
def aPv:V→V→Bool
 | .non,.non=>true | .non,.int _=>true | .int _,.non=>true | .non,.bl _=>true | .bl _,.non=>true | .non,.str _=>true | .str _,.non=>true
 | .int _,.int _=>true | .bl _,.bl _=>true | .str _,.str _=>true | .byt _,.byt _=>true
 | .int _,.str _=>true | .str _,.int _=>true | .bl _,.str _=>true | .str _,.bl _=>true
 | _,_=>false
def rEq:R2:=fun x y H Q=>aPv x y=true∧Q (.bl (decide (x=y))) H
def rNe:R2:=fun x y H Q=>aPv x y=true∧Q (.bl (!decide (x=y))) H
theorem aAl {i j:Int}:decide (V.int i=V.int j)=(i == j):=by
 rw [Bool.eq_iff_iff]
 simp
theorem aIr {i j:Bool}:decide (V.bl i=V.bl j)=(i == j):=by
 rw [Bool.eq_iff_iff]
 simp
theorem aAk {i j:Str}:decide (V.str i=V.str j)=(i == j):=by
 rw [Bool.eq_iff_iff]
 simp
theorem aAm {i j:Array UInt8}:decide (V.byt i=V.byt j)=(i.toList == j.toList):=by
 rw [Bool.eq_iff_iff]
 cases i
 cases j
 simp
section
variable {X:Cx} {a b c:Expr} {ta tb tc:TE} {pos:Pos}
theorem kZ {Aa:fO} {σ:St} {H:Hp} {s:Shared} {Q:VK} {k k':Bool} (I:Inv X Aa σ H s) (q:Q (.bl k) H) (e:k=k'):EP X Aa σ Q (.bool k') s:=by
 subst e
 exact ⟨.bl k,H,I,rfl,q⟩
theorem aWl:OpR X (compareOp .Eq) rEq:=by
 intro Aa s σ H x y v u Q I rx ry h
 obtain ⟨hs,q⟩:=h
 cases x with
 | non =>
  cases rx
  cases y with
  | non=>cases ry; exact PySem.EqNone.eq_none_none (kZ I q (by simp))
  | bl j=>cases ry; exact PySem.EqNone.eq_none_bool (kZ I q (by simp))
  | int j=>obtain ⟨t',rfl⟩:=ry; exact PySem.EqNone.eq_none_int (kZ I q (by simp))
  | str j=>obtain ⟨t',rfl⟩:=ry; exact PySem.EqNone.eq_none_str (kZ I q (by simp))
  | _=>exact absurd (show false=true from hs) aX
 | bl i =>
  cases rx
  cases y with
  | non=>cases ry; exact PySem.EqNone.eq_bool_none (kZ I q (by simp))
  | bl j=>cases ry; exact eq_bool (kZ I q aIr)
  | str j=>obtain ⟨t',rfl⟩:=ry; exact PySem.EqMixed.eq_bool_str (kZ I q (by simp))
  | _=>exact absurd (show false=true from hs) aX
 | int i =>
  obtain ⟨t,rfl⟩:=rx
  cases y with
  | non=>cases ry; exact PySem.EqNone.eq_int_none (kZ I q (by simp))
  | int j=>obtain ⟨t',rfl⟩:=ry; exact eq_int (kZ I q aAl)
  | str j=>obtain ⟨t',rfl⟩:=ry; exact PySem.EqMixed.eq_int_str (kZ I q (by simp))
  | _=>exact absurd (show false=true from hs) aX
 | str i =>
  obtain ⟨t,rfl⟩:=rx
  cases y with
  | non=>cases ry; exact PySem.EqNone.eq_str_none (kZ I q (by simp))
  | bl j=>cases ry; exact PySem.EqMixed.eq_str_bool (kZ I q (by simp))
  | int j=>obtain ⟨t',rfl⟩:=ry; exact PySem.EqMixed.eq_str_int (kZ I q (by simp))
  | str j=>obtain ⟨t',rfl⟩:=ry; exact eq_str (kZ I q aAk)
  | _=>exact absurd (show false=true from hs) aX
 | byt i =>
  obtain ⟨t,rfl⟩:=rx
  cases y with
  | byt j=>obtain ⟨t',rfl⟩:=ry; exact PySem.W.eq_bytes (kZ I q aAm)
  | _=>exact absurd (show false=true from hs) aX
 | _=>cases y <;> exact absurd (show false=true from hs) aX
theorem aWk:OpR X (compareOp .NotEq) rNe:=by
 intro Aa s σ H x y v u Q I rx ry h
 obtain ⟨hs,q⟩:=h
 cases x with
 | non =>
  cases rx
  cases y with
  | non=>cases ry; exact PySem.EqNone.ne_none_none (kZ I q (by simp))
  | bl j=>cases ry; exact PySem.EqNone.ne_none_bool (kZ I q (by simp))
  | int j=>obtain ⟨t',rfl⟩:=ry; exact PySem.EqNone.ne_none_int (kZ I q (by simp))
  | str j=>obtain ⟨t',rfl⟩:=ry; exact PySem.EqNone.ne_none_str (kZ I q (by simp))
  | _=>exact absurd (show false=true from hs) aX
 | bl i =>
  cases rx
  cases y with
  | non=>cases ry; exact PySem.EqNone.ne_bool_none (kZ I q (by simp))
  | bl j=>cases ry; exact ne_bool (kZ I q (congrArg not aIr))
  | str j=>obtain ⟨t',rfl⟩:=ry; exact PySem.EqMixed.ne_bool_str (kZ I q (by simp))
  | _=>exact absurd (show false=true from hs) aX
 | int i =>
  obtain ⟨t,rfl⟩:=rx
  cases y with
  | non=>cases ry; exact PySem.EqNone.ne_int_none (kZ I q (by simp))
  | int j=>obtain ⟨t',rfl⟩:=ry; exact ne_int (kZ I q (congrArg not aAl))
  | str j=>obtain ⟨t',rfl⟩:=ry; exact PySem.EqMixed.ne_int_str (kZ I q (by simp))
  | _=>exact absurd (show false=true from hs) aX
 | str i =>
  obtain ⟨t,rfl⟩:=rx
  cases y with
  | non=>cases ry; exact PySem.EqNone.ne_str_none (kZ I q (by simp))
  | bl j=>cases ry; exact PySem.EqMixed.ne_str_bool (kZ I q (by simp))
  | int j=>obtain ⟨t',rfl⟩:=ry; exact PySem.EqMixed.ne_str_int (kZ I q (by simp))
  | str j=>obtain ⟨t',rfl⟩:=ry; exact ne_str (kZ I q (congrArg not aAk))
  | _=>exact absurd (show false=true from hs) aX
 | byt i =>
  obtain ⟨t,rfl⟩:=rx
  cases y with
  | byt j=>obtain ⟨t',rfl⟩:=ry; exact PySem.W.ne_bytes (kZ I q (congrArg not aAm))
  | _=>exact absurd (show false=true from hs) aX
 | _=>cases y <;> exact absurd (show false=true from hs) aX
theorem pI:OpR X (compareOp .Lt) (rI0 fun i j=>.bl (decide (i < j))):=aLg fun _ _ _ _ _ _ _ q=>lt_int q
theorem aOm:OpR X (compareOp .LtE) (rI0 fun i j=>.bl (decide (i≤j))):=aLg fun _ _ _ _ _ _ _ q=>le_int q
theorem aGj:OpR X (compareOp .Gt) (rI0 fun i j=>.bl (decide (j < i))):=aLg fun _ _ _ _ _ _ _ q=>gt_int q
theorem aGk:OpR X (compareOp .GtE) (rI0 fun i j=>.bl (decide (j≤i))):=aLg fun _ _ _ _ _ _ _ q=>ge_int q
theorem vG:OpR X (compareOp .Is) (fun x y H Q=>y=.non∧Q (.bl (decide (x=.non))) H):=by
 intro Aa s σ H x y v u Q I rx ry h
 obtain ⟨rfl,q⟩:=h
 cases ry
 refine is_none_gen (kZ I q ?_)
 cases x <;> first
  | (cases rx; rfl)
  | (obtain ⟨t,rfl⟩:=rx; rfl)
theorem OpR.or {f:Value→Value→Sem Value} {r r':R2} (h:OpR X f r) (h':OpR X f r'):OpR X f (fun x y H Q=>r x y H Q∨r' x y H Q):=by
 intro Aa s σ H x y v u Q I rx ry q
 rcases q with q | q
 ·exact h Aa s σ H x y v u Q I rx ry q
 ·exact h' Aa s σ H x y v u Q I rx ry q
theorem bY (b:Expr) {op:CmpOp} (h:op ≠ .In:=by decide) (h2:op ≠ .NotIn:=by decide):behindInMarks op b=false:=by
 have e1:(op == CmpOp.In)=false:=by cases op <;> first | rfl | exact absurd rfl h
 have e2:(op == CmpOp.NotIn)=false:=by cases op <;> first | rfl | exact absurd rfl h2
 cases b <;> simp [behindInMarks,e1,e2]
theorem aKz {op:CmpOp} {r:R2} (ho:OpR X (compareOp op) r) (ha:PE X a ta) (hb:PE X b tb) (hm:behindInMarks op b=false):PE X (.Compare a [op] [b] pos) (tOp r ta tb):=by
 intro Aa s σ H Q I h
 exact wpAny_Compare1 (aUb ha hb I h fun v u s2 x y H2 I2 rx ry q=>ho Aa s2 σ H2 x y v u Q I2 rx ry q) hm
def aEr (t:TE):TT:=fun σ H Q=>t σ H fun x H' => ∃ k,x=.bl k∧Q k H'
theorem uV {op:CmpOp} {r:R2} (ho:OpR X (compareOp op) r) (ha:PE X a ta) (hb:PE X b tb) (hm:behindInMarks op b=false):PT X (.Compare a [op] [b] pos) (aEr (tOp r ta tb)):=by
 intro Aa s σ H Q I h
 refine wpAny_isTrue_Compare1 (fE (ha Aa s σ H _ I h) fun v s1 ⟨x,H1,I1,r1,q1⟩=>fE (hb Aa s1 σ H1 _ I1 q1) fun u s2 ⟨y,H2,I2,r2,q2⟩ =>
  fE (ho Aa s2 σ H2 x y v u _ I2 r1 r2 q2) fun c s3 ⟨z,H3,I3,r3,k,e,q3⟩ => ?_) hm
 subst e
 cases r3
 exact wpAny_truthy_bool ⟨H3,I3,q3⟩
def g7 (r r':R2) (ta tb tc:TE):TE:=fun σ H Q=>ta σ H fun x H1=>tb σ H1 fun y H2=>r x y H2 fun z H3 => ∃ k,z=.bl k ∧
 (if k=true then tc σ H3 fun w' H4=>r' y w' H4 Q else Q (.bl false) H3)
theorem aFy {op op':CmpOp} {r r':R2} (ho:OpR X (compareOp op) r) (D9:OpR X (compareOp op') r') (ha:PE X a ta) (hb:PE X b tb) (hc:PE X c tc)
  (hm:lastMarks [op,op'] [b,c]=false:=by with_unfolding_all rfl):PE X (.Compare a [op,op'] [b,c] pos) (g7 r r' ta tb tc):=by
 intro Aa s σ H Q I h
 refine Compare_chain (fE (ha Aa s σ H _ I h) fun v s1 ⟨x,H1,I1,r1,q1⟩=>chain_link (fE (hb Aa s1 σ H1 _ I1 q1) fun u s2 ⟨y,H2,I2,r2,q2⟩ =>
  fE (ho Aa s2 σ H2 x y v u _ I2 r1 r2 q2) fun d s3 ⟨z,H3,I3,r3,k,e,q3⟩ => ?_)) hm
 subst e
 cases r3
 refine wpAny_truthy_bool ?_
 cases k with
 | false=>exact ite_ff ⟨.bl false,H3,I3,rfl,q3⟩
 | true=>exact ite_tt (chain_last (fE (hc Aa s3 σ H3 _ I3 q3) fun w' s4 ⟨z',H4,I4,r4,q4⟩=>D9 Aa s4 σ H4 y z' u w' Q I4 r2 r4 q4))
theorem aFq {op op':CmpOp} {r r':R2} (ho:OpR X (compareOp op) r) (D9:OpR X (compareOp op') r') (ha:PE X a ta) (hb:PE X b tb) (hc:PE X c tc)
  (hm:lastMarks [op,op'] [b,c]=false:=by with_unfolding_all rfl):PT X (.Compare a [op,op'] [b,c] pos) (aEr (g7 r r' ta tb tc)):=by
 intro Aa s σ H Q I h
 refine isTrue_chain (fE (ha Aa s σ H _ I h) fun v s1 ⟨x,H1,I1,r1,q1⟩=>test_link (fE (hb Aa s1 σ H1 _ I1 q1) fun u s2 ⟨y,H2,I2,r2,q2⟩ =>
  fE (ho Aa s2 σ H2 x y v u _ I2 r1 r2 q2) fun d s3 ⟨z,H3,I3,r3,k,e,q3⟩ => ?_)) hm
 subst e
 cases r3
 refine wpAny_truthy_bool ?_
 cases k with
 | false =>
  obtain ⟨k',e',q'⟩:=q3
  cases e'
  exact ite_ff ⟨H3,I3,q'⟩
 | true =>
  refine ite_tt (test_last (fE (hc Aa s3 σ H3 _ I3 q3) fun w' s4 ⟨z',H4,I4,r4,q4⟩=>fE (D9 Aa s4 σ H4 y z' u w' _ I4 r2 r4 q4) fun d' s5 ⟨z2,H5,I5,r5,k2,e2,q5⟩ => ?_))
  subst e2
  cases r5
  exact wpAny_truthy_bool ⟨H5,I5,q5⟩
theorem mL:(sizeLine:Nat) < 2 ^ 63:=by rw [sizeLine_eq]; decide
theorem i_:OpR X (binaryOp .Add) (fun x y H Q => ∃ i j,x=.str i∧y=.str j∧i.length + j.length≤sizeLine∧Q (.str (i ++ j)) H):=by
 intro Aa s σ H x y v u Q I rx ry h
 obtain ⟨i,j,rfl,rfl,hz,q⟩:=h
 obtain ⟨t,rfl⟩:=rx
 obtain ⟨t',rfl⟩:=ry
 exact add_str (fun t' tk=>⟨.str (i ++ j),H,I.tok _,⟨_,rfl⟩,q⟩) hz
theorem jQ {x:V} {us:List Value} (r:Vals [x] us):∃ u,us=[u]∧RelV x u:=by
 cases r with
 | cons r1 r2=>cases r2; exact ⟨_,rfl,r1⟩
theorem oU {x y:V} {us:List Value} (r:Vals [x,y] us):∃ u w',us=[u,w']∧RelV x u∧RelV y w':=by
 cases r with
 | cons r1 r2 =>
  cases r2 with
  | cons r3 r4=>cases r4; exact ⟨_,_,rfl,r1,r3⟩
theorem aDa (hc:X.calm=true):CallR X (.builtin "max") (fun xs H Q => ∃ i j,xs=[.int i,.int j]∧Q (.int (if j > i then j else i)) H):=by
 intro Aa s σ H xs us Q I r h
 obtain ⟨i,j,rfl,q⟩:=h
 obtain ⟨u,w',rfl,⟨t,rfl⟩,⟨t',rfl⟩⟩:=oU r
 refine max_two_ints (I.ok.hd hc) fun h' tk k=>⟨_,H,I.kept k,?_,q⟩
 by_cases hj:j > i
 ·rw [if_pos hj,if_pos hj]; exact ⟨_,rfl⟩
 ·rw [if_neg hj,if_neg hj]; exact ⟨_,rfl⟩
theorem aCw (hc:X.calm=true):CallR X (.builtin "min") (fun xs H Q => ∃ i j,xs=[.int i,.int j]∧Q (.int (if j < i then j else i)) H):=by
 intro Aa s σ H xs us Q I r h
 obtain ⟨i,j,rfl,q⟩:=h
 obtain ⟨u,w',rfl,⟨t,rfl⟩,⟨t',rfl⟩⟩:=oU r
 refine min_two_ints (I.ok.hd hc) fun h' tk k=>⟨_,H,I.kept k,?_,q⟩
 by_cases hj:j < i
 ·rw [if_pos hj,if_pos hj]; exact ⟨_,rfl⟩
 ·rw [if_neg hj,if_neg hj]; exact ⟨_,rfl⟩
theorem jy_:CallR X (.type "int") (fun xs H Q=>(∃ i,xs=[.int i]∧Q (.int i) H)∨∃ k,xs=[.bl k]∧Q (.int (if k then 1 else 0)) H):=by
 intro Aa s σ H xs us Q I r h
 rcases h with ⟨i,rfl,q⟩ | ⟨k,rfl,q⟩
 ·obtain ⟨u,rfl,t,rfl⟩:=jQ r
  exact call_int_int ⟨.int i,H,I,⟨_,rfl⟩,q⟩
 ·obtain ⟨u,rfl,r1⟩:=jQ r
  cases r1
  exact call_int_bool ⟨.int (if k then 1 else 0),H,I.tok _,⟨_,rfl⟩,q⟩
end
structure ObjM (h:Heap) (x dx C:Addr) (mA:lN):Prop where
 obj:h.get? x=some (PySem.W.instObj C dx)
 ns:h.Ns1 dx mA
 ne:dx≠x
theorem aBz {h:Heap} {dx:Addr} {mA:lN} (n:h.Ns1 dx mA):∃ od,h.get? dx=some od∧∀ name,PySem.W.lookIn name od=some (mA name):=by
 obtain ⟨o,es,ep,ho,hd,hk,_,hm⟩:=n
 refine ⟨o,ho,fun name => ?_⟩
 have e:=hm name
 unfold nsFind findBy at e
 rw [← Array.find?_toList] at e
 unfold PySem.W.lookIn
 rw [hd]
 dsimp only
 split
 ·rename_i y q
  rw [q] at e
  exact congrArg some e
 ·rename_i q
  rw [q] at e
  have a:es.toList.any (·.refKey)=false:=by
   rw [List.any_eq_false]
   intro y hy
   obtain ⟨z,t,Lx⟩:=hk y (Array.mem_toList_iff.mp hy)
   simp [DictEntry.refKey,Lx]
  have a':¬ es.toList.any (·.refKey)=true:=by rw [a]; exact aX
  rw [if_neg a']
  exact congrArg some e
theorem ObjM.look {h:Heap} {x dx C:Addr} {mA:lN} (I:ObjM h x dx C mA):∃ od,PySem.W.InstAt h x (PySem.W.instObj C dx) C (some od)∧∀ name,PySem.W.lookIn name od=some (mA name) :=
 let ⟨od,ho,hl⟩:=aBz I.ns
 ⟨od,⟨I.obj,rfl,rfl,ho⟩,hl⟩
theorem RelO.some_of {v:V} {o:Option Value} (r:RelO (some v) o):∃ u,o=some u∧RelV v u:=by
 cases o with
 | none=>exact (show False from r).elim
 | some u=>exact ⟨u,rfl,r⟩
section
variable {P:Program} {w:World} {H H':Hp} {h h':Heap} {a C dx:Addr} {fs fs':List (Str×V)}
theorem y_ (hok:HOk P w H h) (e:H a=some (.ins C dx fs)):∃ mA,ObjM h a dx C mA∧(∀ f,RelO (fs.lookup f) (mA f))∧PySem.Within mA (fs.map (·.1))∧fs.length≤1000∧H dx=some (.own a):=by
 obtain ⟨d,z,ne,ob,mA,n,r,q⟩:=(show ObjOk P w H h a (.ins C dx fs) from hok a _ e)
 exact ⟨mA,⟨ob,n,ne⟩,r,q,z,d⟩
end
structure Cls (K:eE) (C:Addr):Prop where
 pg:PySem.W.plainGet K C Str.empty=true
 hd:PySem.W.hasDictIn K C=true
 po:PySem.W.plainOver K C=true
 sa:PySem.W.findIn K (.ref C) "__setattr__" = some (some (.builtin "object.__setattr__"))
theorem Cls.get {K:eE} {C:Addr} (c:Cls K C) (f:Str):PySem.W.plainGet K C f=true:=c.pg
section
variable {X:Cx} {Aa:fO} {σ:St} {H:Hp} {s:Shared} {A:Around} {E:hW} {Q:hW} {c:Value} {b:Bool}
inductive TyOf (K:eE) (H:Hp):V→Value→Prop where
 | non:TyOf K H .non (.type "NoneType")
 | bl (x:Bool):TyOf K H (.bl x) (.type "bool")
 | int (i:Int):TyOf K H (.int i) (.type "int")
 | str (x:Str):TyOf K H (.str x) (.type "str")
 | flt (x:UInt64):TyOf K H (.flt x) (.type "float")
 | lst {a:Addr} {xs:List V} (e:H a=some (.lst xs)):TyOf K H (.ref a) (.type "list")
 | frz {a:Addr} {o:Obj} {xs:List V} (e:H a=some (.frz o (.lst xs))):TyOf K H (.ref a) (.type "list")
 | tup {a:Addr} {xs:List V} (e:H a=some (.tup xs)):TyOf K H (.ref a) (.type "tuple")
 | dK {a:Addr} {kvs:List (Key×V)} (e:H a=some (.dK kvs)):TyOf K H (.ref a) (.type "dict")
 | dT {a:Addr} {kvs:List (List Key×V)} (e:H a=some (.dT kvs)):TyOf K H (.ref a) (.type "dict")
 | ins {a C dx : Addr} {fs : List (Str × V)} (e : H a = some (.ins C dx fs)) (cl : Cls K C) (ha : PySem.W.findIn K (.ref C) "__class__" = some (some (.builtin "object.__class__")))
   (hn:PySem.W.specialIn K (.builtin "object.__class__") "__get__" = some (some (.builtin "getset_descriptor.__get__"))) (Ks:PySem.W.takesIn K (.builtin "object.__class__")=some true)
   (hm:PySem.W.mroIn K C (.type "object")=some true):TyOf K H (.ref a) (.ref C)
theorem ed_ {x:V} {u t:Value} (I:Inv X Aa σ H s) (rx:RelV x u) (ty:TyOf X.K H x t) (e:PySem.W.kitOne X.K t c=some b) (h:∀ tk,Q (.bool b) { s with toks:=tk }) :
  wpAny (model X.prog X.w) A (call (.builtin "isinstance") [u,c]) Q E s:=by
 cases ty with
 | non=>cases (show u=Value.none from rx); exact PySem.W.kia_one PySem.W.kitx_none I.kIn True.intro e (fun z=>nomatch z) h
 | bl y=>cases (show u=Value.bool y from rx); exact PySem.W.kia_one PySem.W.kitx_bool I.kIn True.intro e (fun z=>nomatch z) h
 | int i=>obtain ⟨t,q⟩:=(show ∃ t,u=Value.int i t from rx); cases q; exact PySem.W.kia_one PySem.W.kitx_int I.kIn True.intro e (fun z=>nomatch z) h
 | str y=>obtain ⟨t,q⟩:=(show ∃ t,u=Value.str y t from rx); cases q; exact PySem.W.kia_one PySem.W.kitx_str I.kIn True.intro e (fun z=>nomatch z) h
 | flt y=>obtain ⟨t,q⟩:=(show ∃ t,u=Value.float y t from rx); cases q; exact PySem.W.kia_one PySem.W.kitx_float I.kIn True.intro e (fun z=>nomatch z) h
 | @lst a xs ea =>
  cases (show u=Value.ref a from rx)
  obtain ⟨_,_,n,_,h1⟩:=(show ObjOk X.prog X.w H s.heap a (.lst xs) from I.hok a _ ea)
  exact PySem.W.kia_one PySem.W.kitx_list I.kIn ⟨_,h1,rfl⟩ e (fun z=>nomatch z) h
 | @frz a ob xs ea =>
  cases (show u=Value.ref a from rx)
  obtain ⟨_,_,_,n,_,h1⟩:=(show ObjOk X.prog X.w H s.heap a (.frz ob (.lst xs)) from I.hok a _ ea)
  exact PySem.W.kia_one PySem.W.kitx_list I.kIn ⟨_,h1,rfl⟩ e (fun z=>nomatch z) h
 | @tup a xs ea =>
  cases (show u=Value.ref a from rx)
  obtain ⟨_,_,_,p⟩:=(show ObjOk X.prog X.w H s.heap a (.tup xs) from I.hok a _ ea)
  obtain ⟨o,h1,h2,_⟩:=p
  exact PySem.W.kia_one PySem.W.kitx_tuple I.kIn ⟨o,h1,h2⟩ e (fun z=>nomatch z) h
 | @dK a kvs ea =>
  cases (show u=Value.ref a from rx)
  obtain ⟨_,_,vs,_,p⟩:=(show ObjOk X.prog X.w H s.heap a (.dK kvs) from I.hok a _ ea)
  obtain ⟨o,es,ep,h1,h2,_⟩:=p
  exact PySem.W.kia_one PySem.W.kitx_dict I.kIn ⟨o,h1,h2.1⟩ e (fun z=>nomatch z) h
 | @dT a kvs ea =>
  cases (show u=Value.ref a from rx)
  obtain ⟨_,_,xs,_,o,es,ep,h1,h2,_⟩:=(show ObjOk X.prog X.w H s.heap a (.dT kvs) from I.hok a _ ea)
  exact PySem.W.kia_one PySem.W.kitx_dict I.kIn ⟨o,h1,h2.1⟩ e (fun z=>nomatch z) h
 | @ins a C dx fs ea cl ha hn Ks hm =>
  cases (show u=Value.ref a from rx)
  obtain ⟨mA,O,_⟩:=y_ I.hok ea
  obtain ⟨od,J,_⟩:=O.look
  exact PySem.W.kia_one (PySem.W.kitx_own (cl.get _) cl.hd ha hn Ks hm) I.kIn J e (fun z=>nomatch z) h
end
structure Room (k:Nat) (A:Around):Prop where
 hd:A.handled=none
 dp:A.depth + 3 * k + 5 < recursionLimit
 un:A.units + 16 * k + 200 < cLine
theorem Room.mono {j k:Nat} {A:Around} (r:Room k A) (h:j≤k):Room j A:=⟨r.hd,by have:=r.dp; omega,by have:=r.un; omega⟩
theorem Room.deeper {k:Nat} {A:Around} (r:Room (k + 1) A) (env:Env):Room k (A.deeper env) :=
 ⟨r.hd,by have:=r.dp; show A.depth + 1 + 3 * k + 5 < _; omega,by have:=r.un; show A.units + 3 + 16 * k + 200 < _; omega⟩
theorem Room.depth {k:Nat} {A:Around} (r:Room k A):A.depth < recursionLimit:=by have:=r.dp; omega
theorem Room.units {k:Nat} {A:Around} (r:Room k A):A.units + 64 < cLine:=by have:=r.un; omega
def f_:TA:=fun _ H Q=>Q [] H
def lQ (ta:TE) (tr:TA):TA:=fun σ H Q=>ta σ H fun x H1=>tr σ H1 fun xs H2=>Q (x :: xs) H2
section
variable {X:Cx} {e:Expr} {es:List Expr} {te:TE} {t:TA} {pos:Pos}
theorem zM:PA X [] f_:=fun _ _ _ _ H Q I h=>Calls.spliced_nil ⟨[],H,I,.nil,h⟩
theorem lZ (ha:PE X e te) (hr:PA X es t) (hs:starEach (e :: es) X.env=(false,eval e X.env) :: starEach es X.env:=by rfl):PA X (e :: es) (lQ te t):=by
 intro pos Aa s σ H Q I h
 rw [hs]
 show wpAny _ _ (spliced ((false,eval e X.env) :: backTo pos (starEach es X.env))) _ _ s
 refine Calls.spliced_cons (fE (ha Aa s σ H _ I h) fun u s1 ⟨x,H1,I1,r1,q1⟩ => ?_)
 exact fE (hr pos Aa s1 σ H1 _ I1 q1) fun us s2 ⟨xs,H2,I2,r2,q2⟩=>⟨x :: xs,H2,I2,.cons r1 r2,q2⟩
def aVn (t:TA):TE:=fun σ H Q=>t σ H fun xs H1=>xs.length≤sizeLine∧∀ p,H1 p=none→Q (.ref p) (upd H1 p (.tup xs))
def bAr (t:TA):TE:=fun σ H Q=>t σ H fun xs H1=>xs.length≤sizeLine∧∀ p,H1 p=none→Q (.ref p) (upd H1 p (.lst xs))
theorem vA {x1} (h:PA X es t):PE X (.Tuple es x1 pos) (aVn t):=by
 intro Aa s σ H Q I hq
 refine wpAny_Tuple_spliced (fE (h pos Aa s σ H _ I hq) fun us s1 ⟨xs,H1,I1,r,z,q⟩=>⟨by rw [← r.length]; exact z,?_⟩)
 have hf:H1 s1.heap.objs.size=none:=I1.hok.fresh (aV _)
 refine ⟨.ref s1.heap.objs.size,upd H1 s1.heap.objs.size (.tup xs),I1.laid (t':=s1.toks) (fun b u e=>aG _ e) (aV _) ?_,rfl,q _ hf⟩
 exact ⟨z,us,r,⟨_,bC _ rfl,rfl,_,rfl⟩⟩
theorem aQo (h:PA X es t):PE X (.List es pos) (bAr t):=by
 intro Aa s σ H Q I hq
 refine wpAny_List_spliced (fE (h pos Aa s σ H _ I hq) fun us s1 ⟨xs,H1,I1,r,z,q⟩=>⟨by rw [← r.length]; exact z,?_⟩)
 have hf:H1 s1.heap.objs.size=none:=I1.hok.fresh (aV _)
 refine ⟨.ref s1.heap.objs.size,upd H1 s1.heap.objs.size (.lst xs),I1.laid (t':=s1.toks) (fun b u e=>aG _ e) (aV _) ?_,rfl,q _ hf⟩
 exact ⟨z,us,0,r,bC _ rfl⟩
end
abbrev Sp:=List V→Hp→VK→XK→Prop
abbrev CXT:=List Env→Hp→Shared→XK→Value→Shared→Prop
structure Env0 (P:Program) (w:World) (K:eE) (mg:lN) (base:Heap) (A:Around) (outer:List Env) (s:Shared) (H:Hp):Prop where
 frames:A.frames=some outer
 mod:Mod K mg base
 bs:∀ b o,base.get? b=some o→s.heap.get? b=some o∧H b=none
 bsz:base.objs.size≤s.heap.objs.size
 funs:s.heap.FunFrames base outer
 frf:∀ b∈frs outer,H b=none
 hok:HOk P w H s.heap
 bare:AllBare s.gens
def CE (outer:List Env) (P:Program) (w:World) (H:Hp) (s:Shared) (Q:VK) (u:Value) (s':Shared):Prop :=
 ∃ v H',s'.os=s.os∧AllBare s'.gens∧Un (frs outer) [] H H' s.heap s'.heap∧HOk P w H' s'.heap∧RelV v u∧Q v H'
def CR (CX:CXT) (outer:List Env) (P:Program) (w:World) (H:Hp) (s:Shared) (Q:VK) (E:XK) (r:Result) (s':Shared):Prop :=
 match r with
 | .ok (.ret u)=>CE outer P w H s Q u s'
 | .ok _=>False
 | .error e=>CX outer H s E e s'
structure FnOk (P:Program) (w:World) (K:eE) (mg:lN) (base:Heap) (CX:CXT) (k:Nat) (f:Addr) (fd:FuncData) (ps:List Str) (sp:Sp):Prop where
 len:∀ vs H Q E,sp vs H Q E→vs.length=ps.length
 run:∀ (A:Around) (outer:List Env) (s:Shared) (H:Hp) (args:Args) (us:List Value) (vs:List V) (Q:VK) (E:XK),Room k A→Env0 P w K mg base A outer s H→BindsTo s fd args (ps.zip us)→Vals vs us→sp vs H Q E →
  codeAny (model P w) A (.call (.ref f) args) (CR CX outer P w H s Q E) s
theorem FnOk.mono {CX:CXT} {j k:Nat} {f:Addr} {fd:FuncData} {ps:List Str} {sp:Sp} (F:FnOk P w K mg base CX j f fd ps sp) (h:j≤k) :
  FnOk P w K mg base CX k f fd ps sp:=⟨F.len,fun A outer s H args us vs Q E hr=>F.run A outer s H args us vs Q E (hr.mono h)⟩
theorem FnOk.imp {CX:CXT} {k:Nat} {f:Addr} {fd:FuncData} {ps:List Str} {sp sp':Sp} (F:FnOk P w K mg base CX k f fd ps sp)
  (h:∀ vs H Q E,sp' vs H Q E→sp vs H Q E):FnOk P w K mg base CX k f fd ps sp' :=
 ⟨fun vs H Q E q=>F.len vs H Q E (h _ _ _ _ q),fun A outer s H args us vs Q E hr he hb hv hs=>F.run A outer s H args us vs Q E hr he hb hv (h _ _ _ _ hs)⟩
section
variable {X:Cx} {Aa:fO} {σ:St} {H:Hp} {s s':Shared}
theorem Inv.env0 (I:Inv X Aa σ H s):Env0 X.prog X.w X.K X.mg X.base X.A X.stack s H :=
 ⟨I.ok.frames,I.ok.mod,I.bs,nzL I.ok.bsz I.sz,I.stack,I.stkFree,I.hok,I.bare⟩
theorem Inv.after {Q:VK} {u:Value} (I:Inv X Aa σ H s) (h:CE X.stack X.prog X.w H s Q u s'):EP X Aa σ Q u s':=by
 obtain ⟨v,H',os,bare,un,hok,r,q⟩:=h
 obtain ⟨hh,g,d,t,os'⟩:=s'
 obtain rfl:os'=s.os:=os
 exact ⟨v,H',I.call (h':=hh) (g':=g) (d':=d) (t':=t) (ch:=[]) un hok bare (fun b z=>absurd z (by simp)),r,q⟩
end
def aEt (sp:Sp) (dvs:List V) (E:XK) (t:TA):TE:=fun σ H Q=>t σ H fun vs H1=>sp (vs ++ dvs) H1 Q E
def Binds (K:eE) (fd:FuncData) (ps:List Str) (ds:List Value):Prop :=
 ∀ (s:Shared) (us:List Value),K.In s.heap→(us ++ ds).length=ps.length→BindsTo s fd ⟨us,[]⟩ (ps.zip (us ++ ds))
theorem Binds.all {K:eE} {fd:FuncData} {ps:List Str} (h:∀ us:List Value,us.length=ps.length→bindArgs fd ⟨us,[]⟩=pure (ps.zip us)):Binds K fd ps []:=fun s us _ hl=>by
 rw [bZ] at hl ⊢
 exact .of_eq (h us hl)
def wZ (CX:CXT) (X:Cx) (E:XK):Prop := ∀ (Aa:fO) (σ:St) (H:Hp) (s:Shared) (e:Value) (s':Shared),Inv X Aa σ H s→CX X.stack H s E e s'→X.xe e s'
section
variable {X:Cx} {CX:CXT} {k:Nat} {f C:Addr} {ps:List Str} {sp:Sp} {dvs:List V} {ds:List Value} {E:XK} {x m:Str} {p pos apos:Pos} {e o:Expr} {es:List Expr} {ta:TE} {t:TA}
theorem aPx {Aa:fO} {σ:St} {H:Hp} {s:Shared} {Q:VK} {us:List Value} {vs:List V} (F:FnOk X.prog X.w X.K X.mg X.base CX k f fd ps sp) (hr:Room k X.A) (hb:Binds X.K fd ps ds) (hd:Vals dvs ds) (hx:wZ CX X E)
  (I:Inv X Aa σ H s) (r:Vals vs us) (h:sp (vs ++ dvs) H Q E):wpAny (model X.prog X.w) X.A (call (.ref f) us) (EP X Aa σ Q) X.xe s:=by
 have r2:Vals (vs ++ dvs) (us ++ ds):=r.append hd
 have hl:(us ++ ds).length=ps.length:=by rw [← r2.length]; exact F.len _ _ _ _ h
 refine wpAny_call (codeAny_mono (F.run X.A X.stack s H ⟨us,[]⟩ (us ++ ds) (vs ++ dvs) Q E hr I.env0 (hb s us I.kIn hl) r2 h) fun r s' hq => ?_)
 cases r with
 | error e=>exact hx Aa σ H s e s' I hq
 | ok fl =>
  cases fl with
  | ret u=>exact I.after hq
  | next=>exact False.elim hq
  | brk=>exact False.elim hq
  | cont=>exact False.elim hq
theorem u_ (F:FnOk X.prog X.w X.K X.mg X.base CX k f fd ps sp) (hr:Room k X.A) (hg:Gl X x) (hm:X.mg x=some (.ref f)) (hk:PySem.W.keepIn X.K (.ref f)=true) (hb:Binds X.K fd ps ds) (hd:Vals dvs ds) (hx:wZ CX X E)
  (ha:PA X (e :: es) t) (B0:(x == ("__debug__" : Str))=false:=by decide) (he:starEach (e :: es) X.env=(false,eval e X.env) :: starEach es X.env:=by rfl) (A9:(backTo pos (starEach es X.env)).any (·.1)=false:=by rfl) :
  PE X (.Call (.Name x p) (e :: es) [] pos) (aEt sp dvs E t):=by
 intro Aa s σ H Q I h
 refine wpAny_Call_Name_kw (jh_ I hg hm ?_ B0)
 refine PySem.W.callWith_K (h₀:=X.base) I.ok.mod.kin hk (fE (ha pos Aa s σ H _ I h) fun us s1 ⟨vs,H1,I1,r,q⟩=>⟨I1.kIn,?_⟩) he A9
 exact aPx F hr hb hd hx I1 r q
end
def PK (X:Cx) (kws:List Keyword) (t:TA):Prop :=
 ∀ (pos:Pos) (Aa:fO) (s:Shared) (σ:St) (H:Hp) (Q:List V→Hp→Prop),Inv X Aa σ H s→t σ H Q→wpAny (model X.prog X.w) X.A (evalAll ((backToKw pos (keywordEach kws X.env)).map (·.2))) (AP X Aa σ Q) X.xe s
section
variable {X:Cx} {CX:CXT} {k:Nat} {f C:Addr} {ps ks:List Str} {sp:Sp} {E:XK} {x m:Str} {p pos apos kpos:Pos} {e o:Expr} {es:List Expr} {kws:List Keyword} {te ta:TE} {t tk:TA} {nm:Option Str}
theorem i5:PK X [] f_:=fun _ _ _ _ H Q I h=>wpAny_evalAll_nil ⟨[],H,I,.nil,h⟩
theorem uX (ha:PE X e te) (hr:PK X kws t):PK X (⟨nm,e,kpos⟩ :: kws) (lQ te t):=by
 intro pos Aa s σ H Q I h
 show wpAny _ _ (evalAll ((do let v ← eval e X.env; standAt pos; pure v) :: (backToKw pos (keywordEach kws X.env)).map (·.2))) _ _ s
 refine wpAny_evalAll_cons (wpAny_bind (fE (ha Aa s σ H _ I h) fun u s1 ⟨x,H1,I1,r1,q1⟩=>wpAny_bind (wpAny_standAt (wpAny_pure ?_))))
 exact fE (hr pos Aa s1 σ H1 _ I1 q1) fun us s2 ⟨xs,H2,I2,r2,q2⟩=>⟨x :: xs,H2,I2,.cons r1 r2,q2⟩
variable {g:List Value→List Value→List Value} {gV:List V→List V→List V}
end
structure FnScope (N P:List Str) (sc:Scope):Prop where
 kind:sc.kind=.function
 co:sc.isCoroutine=false
 gen:sc.isGenerator=false
 nd:N.Nodup
 pre:N.take P.length=P
 par:∀ x∈P,sc.names.lookup x=some .local∨sc.names.lookup x=some .cell
 nofree:∀ y∈sc.names,y.2 ≠ .free
theorem kF {N P:List Str} {sc:Scope} (h:(sc.kind=.function∧sc.isCoroutine=false∧sc.isGenerator=false)∧N.Nodup∧N.take P.length=P∧(∀ x∈P,sc.names.lookup x=some .local∨sc.names.lookup x=some .cell)∧∀ y∈sc.names,y.2 ≠ .free):FnScope N P sc:=⟨h.1.1,h.1.2.1,h.1.2.2,h.2.1,h.2.2.1,h.2.2.2.1,h.2.2.2.2⟩
theorem tR {kindOf:Str→Option NameKind} {x:Str}:∀ {binds:List (Str×Value)} {m:lN},(∀ v,(x,v)∉binds)→bindL kindOf binds m x=m x
 | [],_,_=>rfl
 | (n,v) :: r,m,h=>by
  unfold bindL
  rw [tR fun w hw=>h w (aD _ hw)]
  split
  ·have:x≠n:=by rintro rfl; exact h v aB
   simp [this]
  ·rfl
theorem tU {kindOf:Str→Option NameKind} {x:Str}:∀ {binds:List (Str×Value)} {m:lN},(∀ v,(x,v)∉binds)→bindC kindOf binds m x=m x
 | [],_,_=>rfl
 | (n,v) :: r,m,h=>by
  unfold bindC
  rw [tU fun w hw=>h w (aD _ hw)]
  split
  ·rfl
  ·have:x≠n:=by rintro rfl; exact h v aB
   simp [this]
theorem tS {kindOf:Str→Option NameKind} {x:Str} {v:Value}:∀ {P:List Str} {vs:List Value} {i:Nat} {m:lN},P.Nodup→P[i]? = some x→vs[i]? = some v→kindOf x=some .local →
  bindL kindOf (P.zip vs) m x=some v
 | [],_,_,_,_,h,_,_=>by simp at h
 | _ :: _,[],_,_,_,_,h,_=>by simp at h
 | p :: P,w :: vs,0,m,nd,h1,h2,hk=>by
  simp at h1 h2; subst h1; subst h2
  show bindL kindOf ((p,w) :: P.zip vs) m p=_
  unfold bindL
  rw [tR fun v hv=>(dI.mp nd).1 (List.of_mem_zip hv).1,if_pos hk]
  simp
 | p :: P,w :: vs,i + 1,m,nd,h1,h2,hk=>by
  show bindL kindOf ((p,w) :: P.zip vs) m x=_
  unfold bindL
  exact tS (i:=i) (dI.mp nd).2 (by simpa using h1) (by simpa using h2) hk
theorem tV {kindOf:Str→Option NameKind} {x:Str} {v:Value}:∀ {P:List Str} {vs:List Value} {i:Nat} {m:lN},P.Nodup→P[i]? = some x→vs[i]? = some v→kindOf x≠some .local →
  bindC kindOf (P.zip vs) m x=some v
 | [],_,_,_,_,h,_,_=>by simp at h
 | _ :: _,[],_,_,_,_,h,_=>by simp at h
 | p :: P,w :: vs,0,m,nd,h1,h2,hk=>by
  simp at h1 h2; subst h1; subst h2
  show bindC kindOf ((p,w) :: P.zip vs) m p=_
  unfold bindC
  rw [tU fun v hv=>(dI.mp nd).1 (List.of_mem_zip hv).1,if_neg hk]
  simp
 | p :: P,w :: vs,i + 1,m,nd,h1,h2,hk=>by
  show bindC kindOf ((p,w) :: P.zip vs) m x=_
  unfold bindC
  exact tV (i:=i) (dI.mp nd).2 (by simpa using h1) (by simpa using h2) hk
def start (N:List Str) (vs:List V):St:=vs.map some ++ List.replicate (N.length - vs.length) none
def lM (CX:CXT) (P:Program) (w:World) (K:eE) (mg:lN) (base:Heap) (N:List Str) (qual:Str) (scope:Scope) (f:Addr) (cd:Value) (A:Around) (outer:List Env) (s:Shared) (H:Hp) (E:XK):Cx where
 prog:=P
 w:=w
 K:=K
 mg:=mg
 base:=base
 A:=A.deeper (envOfC qual scope s.heap.objs.size f cd)
 N:=N
 s₀:=s
 H₀:=H
 env:=envOfC qual scope s.heap.objs.size f cd
 outer:=outer
 stack:=envOfC qual scope s.heap.objs.size f cd :: outer
 ex:=[]
 calm:=true
 fn:=fun _=>true
 pn:=[]
 xe:=fun e s'=>wpAny (model P w) (A.deeper (envOfC qual scope s.heap.objs.size f cd)) (leaving (envOfC qual scope s.heap.objs.size f cd) e) (fun _ s''=>CX outer H s E e s'') (fun e' s''=>CX outer H s E e' s'') s'
theorem zY {sc:Scope} {n:Nat} {x:Str} (h:sc.names.lookup x=some .cell):∃ c,(cellsFrom n sc.names []).lookup x=some c:=by
 have q:=PySem.W.cellsFrom_some sc.names n [] (.inl h)
 exact dQ.mp q
theorem aCh {CX:CXT} {N ps:List Str} {qual:Str} {scope:Scope} {f:Addr} {cd:Value} {A:Around} {outer:List Env} {s s1:Shared} {H:Hp} {E:XK} {us:List Value} {vs:List V}
  (S:FnScope N ps scope) (hd:A.handled=none) (e0:Env0 P w K mg base A outer s H) (hl:vs.length=ps.length) (r:Vals vs us)
  (x:InCallC s s.heap.objs.size (bindL (envOfC qual scope s.heap.objs.size f cd).kindOf (ps.zip us) fun _=>none) (cellsFrom (s.heap.objs.size + 1) scope.names []) (bindC (envOfC qual scope s.heap.objs.size f cd).kindOf (ps.zip us) fun _=>none) s1) :
  Inv (lM CX P w K mg base N qual scope f cd A outer s H E) [] (start N vs) H s1:=by
 have A9:ps.length≤N.length:=by have:=congrArg List.length S.pre; rw [bT] at this; omega
 obtain ⟨h1,tk,rfl,hk⟩:=x.done
 have noA:∀ b:Addr,b∉(lM CX P w K mg base N qual scope f cd A outer s H E).ex:=fun b z=>absurd (show b∈([]:List Addr) from z) (by simp)
 refine ⟨⟨e0.mod,S.kind,rfl,rfl,aV _,fun y z c h1 h2 => ?_,fun y hy => ?_,fun y c _ h => ?_,fun _=>hd,Around.frames_deeper e0.frames,.inr ⟨rfl,rfl⟩,fun b z=>absurd z (noA b),e0.bs,e0.bsz,fun b _ _=>noA b,fun b z=>absurd z (noA b),e0.funs,e0.frf⟩,
  rfl,e0.bare,Un.kept hk,⟨_,x.toInCall.ns,fun i y v h1 h2 h3 => ?_⟩,fun y c h=>⟨_,x.cell y c h⟩,e0.hok.fresh (aV _),fun y c h => ?_,fun p hp=>absurd (show p∈([]:fO) from hp) (by simp),e0.hok.kept hk,?_⟩
 ·exact name_of_addr x.apart (PySem.mem_of_lookup h1) (PySem.mem_of_lookup h2)
 ·have hy:scope.names.lookup y=some .cell∨scope.names.lookup y=some .free:=hy
  rcases hy with hy | hy
  ·exact zY hy
  ·exact absurd rfl (S.nofree _ (PySem.mem_of_lookup hy))
 ·exact Nat.le_of_lt (x.above y c (PySem.mem_of_lookup h))
 ·have hi:i < vs.length:=by
   unfold start at h2
   by_cases hi:i < vs.length
   ·exact hi
   ·rw [aY (by simpa using hi)] at h2
    rw [cI] at h2
    split at h2 <;> cases h2
  have ha:vs[i]? = some v:=by
   unfold start at h2
   rw [bS (by simpa using hi),bG] at h2
   cases e:vs[i]? with
   | none=>rw [e] at h2; cases h2
   | some a=>rw [e] at h2; cases h2; rfl
  obtain ⟨u,hu,rv⟩:=r.get ha
  have hp:ps[i]? = some y:=by
   rw [← S.pre,gM (by omega)]; exact h1
  have ndP:ps.Nodup:=by rw [← S.pre]; exact S.nd.sublist (List.take_sublist _ _)
  refine ⟨u,rv,?_⟩
  rcases S.par y (aJ hp) with k | k
  ·exact .inl ⟨k,tS ndP hp hu k⟩
  ·obtain ⟨c,e⟩:=zY (n:=s.heap.objs.size + 1) k
   refine .inr ⟨.inl k,c,e,?_⟩
   have q:=x.cell y c e
   rw [tV ndP hp hu (by show scope.names.lookup y≠_; rw [k]; decide)] at q
   exact q
 ·exact e0.hok.fresh (Nat.le_of_lt (x.above y c (PySem.mem_of_lookup h)))
 ·unfold start
  show _=N.length
  rw [aC,aE,aL]
  omega
theorem aOt {CX:CXT} {k:Nat} {f:Addr} {name qual:Str} {params:Arguments} {body:List Stmt} {scope:Scope} {dV kV doc pm Ak ct oc:Value} {an od:Option Addr}
  {osl:Array (Option Value)} {N ps:List Str} {sp:Sp} (lk:K.lookup f=some ⟨oc,od,.func (PySem.W.fnOf name qual params body scope dV kV doc pm an Ak ct),osl⟩) (E9:PySem.W.codeIn K Ak qual=true) (S:FnScope N ps scope)
  (len:∀ vs H Q E,sp vs H Q E→vs.length=ps.length)
  (B1:∀ (A:Around) (outer:List Env) (s:Shared) (H:Hp) (vs:List V) (Q:VK) (E:XK),Room k (A.deeper (envOfC qual scope s.heap.objs.size f Ak))→sp vs H Q E →
   ∃ t,PSs (lM CX P w K mg base N qual scope f Ak A outer s H E) body t∧t { nx:=fun _ H'=>Q .non H',rt:=Q } (start N vs) H) :
  FnOk P w K mg base CX (k + 1) f (PySem.W.fnOf name qual params body scope dV kV doc pm an Ak ct) ps sp:=by
 refine ⟨len,fun A outer s H args us vs Q E hr e0 hb r Fh => ?_⟩
 have hl:=len _ _ _ _ Fh
 have KX:K.In s.heap:=e0.mod.kin.keeps fun b o e=>(e0.bs b o e).1
 have lim:s.heap.NoLimit:=e0.mod.nolimit.keeps fun b o e=>(e0.bs b o e).1
 have Jy:∀ y∈ps.zip us,scope.names.lookup y.1=some .local∨(scope.names.lookup y.1=some .cell∧((cellsFrom (s.heap.objs.size + 1) scope.names []).lookup y.1).isSome=true):=fun ⟨n,v⟩ hy=>by
  rcases S.par n (List.of_mem_zip hy).1 with q | q
  ·exact .inl q
  ·exact .inr ⟨q,PySem.W.cellsFrom_some _ _ _ (.inl q)⟩
 refine codeAny_call_function hr.depth (KX _ _ lk) rfl S.co S.gen rfl (PySem.W.codeRec_of KX E9) (hb _ _ _ _ ?_)
 refine wpAny_newFunctionEnv_cells S.kind Jy fun env he s1 x => ?_
 subst he
 refine ⟨lim.keeps x.toInCall.keep,codeAny_func ?_⟩
 obtain ⟨t,ht,hq⟩:=B1 A outer s H vs Q E (hr.deeper _) Fh
 have I:Inv (lM CX P w K mg base N qual scope f Ak A outer s H E) [] (start N vs) H s1:=aCh S hr.hd e0 hl r x
 refine wpAny_mono (ht [] s1 (start N vs) H _ I hq) (fun fl s' hs => ?_) fun e s' hs=>hs
 have A5:∀ {σ':St} {H':Hp} {v:V} {u:Value},Inv (lM CX P w K mg base N qual scope f Ak A outer s H E) [] σ' H' s'→RelV v u→Q v H'→CE outer P w H s Q u s' :=
  fun {σ' H' v u} J rv q=>⟨v,H',J.os,J.bare,J.base,J.hok,rv,q⟩
 cases fl with
 | ret u =>
  obtain ⟨v,σ',H',J,rv,q⟩:=hs
  exact A5 J rv q
 | next =>
  obtain ⟨σ',H',J,q⟩:=hs
  exact A5 (v:=V.non) (u:=Value.none) J rfl q
 | brk =>
  obtain ⟨_,_,_,q⟩:=hs
  exact False.elim q
 | cont =>
  obtain ⟨_,_,_,q⟩:=hs
  exact False.elim q
section
variable {X:Cx} {x:Str} {p pos:Pos} {e:Expr} {es:List Expr} {t:TA} {id T:String} {r:List V→Hp→VK→Prop}
def tCB (r:List V→Hp→VK→Prop) (t:TA):TE:=fun σ H Q=>t σ H fun vs H1=>r vs H1 Q
theorem gr_ (hc:CallR X (.builtin id) r) (hg:Gl X x) (hm:X.mg x=none) (hv:bootBuiltins x=some (.builtin id)) (ha:PA X (e :: es) t) (hn:x ≠ "__name__" := by decide) (B0:(x == ("__debug__" : Str))=false:=by decide)
  (he:starEach (e :: es) X.env=(false,eval e X.env) :: starEach es X.env:=by rfl) (A9:(backTo pos (starEach es X.env)).any (·.1)=false:=by rfl):PE X (.Call (.Name x p) (e :: es) [] pos) (tCB r t):=by
 intro Aa s σ H Q I h
 refine wpAny_Call_Name_kw (hw_ I hg hm hv ?_ hn B0)
 exact PyProof.Rows.callWith_builtin1 (fE (ha pos Aa s σ H _ I h) fun us s1 ⟨vs,H1,I1,r1,q1⟩=>hc Aa s1 σ H1 vs us Q I1 r1 q1) he A9
theorem aBn (hc:CallR X (.type T) r) (hg:Gl X x) (hm:X.mg x=none) (hv:bootBuiltins x=some (.type T)) (ha:PA X (e :: es) t) (hn:x ≠ "__name__" := by decide) (B0:(x == ("__debug__" : Str))=false:=by decide)
  (he:starEach (e :: es) X.env=(false,eval e X.env) :: starEach es X.env:=by rfl) (A9:(backTo pos (starEach es X.env)).any (·.1)=false:=by rfl):PE X (.Call (.Name x p) (e :: es) [] pos) (tCB r t):=by
 intro Aa s σ H Q I h
 refine wpAny_Call_Name_kw (hw_ I hg hm hv ?_ hn B0)
 exact fQ (fE (ha pos Aa s σ H _ I h) fun us s1 ⟨vs,H1,I1,r1,q1⟩=>hc Aa s1 σ H1 vs us Q I1 r1 q1) he A9
end
end L2
namespace HT
open PySem PyProof.Rows
section
open PySem.SeqAt
open PySem.AutoSeq1 (wpAny_loadPart')
open PySem.MeetsSeq PySem.MeetsSeq2 PySem.MeetsSeq3
end
section
variable {prog:Program} {w:World} {A:Around} {E:hW} {s:Shared}
def sIx (n d:Nat):Option Int→Nat
 | none=>d
 | some v=>if v < 0 then (v + (n:Int)).toNat else min v.toNat n
theorem sIx_nat (n d k:Nat):sIx n d (some (k:Int))=min k n:=by
 show (if (k:Int) < 0 then ((k:Int) + (n:Int)).toNat else min (k:Int).toNat n)=min k n
 rw [if_neg (by omega),cL]
end
end HT
namespace L2
open PySem PySem.Spec PyProof.Rows
abbrev TO:=St→Hp→(Option Int→Hp→Prop)→Prop
def PO (X:Cx) (e:Option Expr) (t:TO):Prop :=
 ∀ (Aa:fO) (s:Shared) (σ:St) (H:Hp) (Q:Option Int→Hp→Prop),Inv X Aa σ H s→t σ H Q →
  wpAny (model X.prog X.w) X.A (evalPart e X.env) (fun u s' => ∃ o H',Inv X Aa σ H' s'∧IsPart u o∧Q o H') X.xe s
def aKf:TO:=fun _ H Q=>Q none H
def aVp (t:TE):TO:=fun σ H Q=>t σ H fun x H1 => ∃ i,x=.int i∧Q (some i) H1
theorem qB {ns:List Int}:∀ {us:List Value},Vals (ns.map V.int) us→IntsAre us ns:=by
 induction ns with
 | nil=>intro us r; rw [bP] at r; cases r; exact .nil
 | cons n ns ih =>
  intro us r
  rw [aP] at r
  cases r with
  | cons r1 r2 =>
   obtain ⟨t,e⟩:=r1
   subst e
   exact .cons n t (ih r2)
section
variable {X:Cx} {e:Expr} {te:TE} {lo hi:Option Expr} {tl th:TO} {pos p2:Pos}
theorem aKt:PO X none aKf:=by
 intro Aa s σ H Q I h
 rw [evalPart_none]
 exact wpAny_pure ⟨none,H,I,.none,h⟩
theorem aKs (h:PE X e te):PO X (some e) (aVp te):=by
 intro Aa s σ H Q I hw
 rw [evalPart_some]
 refine fE (h Aa s σ H _ I hw) fun u s1 ⟨x,H1,I1,r1,q1⟩ => ?_
 obtain ⟨i,rfl,q⟩:=q1
 obtain ⟨t,rfl⟩:=r1
 exact ⟨some i,H1,I1,.int i t,q⟩
def SlR (X:Cx) (r:V→Option Int→Option Int→Hp→VK→Prop):Prop :=
 ∀ (Aa:fO) (s:Shared) (σ:St) (H:Hp) (x:V) (v vl vu:Value) (lo hi:Option Int) (sl:Addr) (Q:VK),Inv X Aa σ H s→RelV x v→s.heap.IsSliceOf sl vl vu .none→IsPart vl lo→IsPart vu hi→r x lo hi H Q →
  ∃ T id,typeLookup (.type T) "__getitem__" = pure (some (.builtin id))∧s.TypeIs v T∧wpAny (model X.prog X.w) X.A (getItem v (.ref sl)) (EP X Aa σ Q) X.xe s
theorem SlR.or {r r':V→Option Int→Option Int→Hp→VK→Prop} (h:SlR X r) (h':SlR X r'):SlR X (fun x lo hi H Q=>r x lo hi H Q∨r' x lo hi H Q):=by
 intro Aa s σ H x v vl vu lo hi sl Q I rx hs pl pu q
 rcases q with q | q
 ·exact h Aa s σ H x v vl vu lo hi sl Q I rx hs pl pu q
 ·exact h' Aa s σ H x v vl vu lo hi sl Q I rx hs pl pu q
def tSl (r:V→Option Int→Option Int→Hp→VK→Prop) (te:TE) (tl th:TO):TE:=fun σ H Q=>te σ H fun x H1=>tl σ H1 fun l H2=>th σ H2 fun u H3=>r x l u H3 Q
theorem aFu {r:V→Option Int→Option Int→Hp→VK→Prop} (hr:SlR X r) (he:PE X e te) (hl:PO X lo tl) (hu:PO X hi th):PE X (.Subscript e (.Slice lo hi none p2) pos) (tSl r te tl th):=by
 intro Aa s σ H Q I h
 refine Subscript_ (fE (he Aa s σ H _ I h) fun v s1 ⟨x,H1,I1,r1,q1⟩ => ?_)
 refine wpAny_Slice (fE (hl Aa s1 σ H1 _ I1 q1) fun vl s2 ⟨l,H2,I2,pl,q2⟩=>fE (hu Aa s2 σ H2 _ I2 q2) fun vu s3 ⟨u,H3,I3,pu,q3⟩ => ?_)
 rw [evalPart_none]
 refine wpAny_pure ?_
 have I4:Inv X Aa σ H3 { s3 with heap:=s3.heap.push { cls:=.type "slice",data:=.fields #[vl,vu,.none] } }:=I3.kept (t':=s3.toks) fun b ob q=>aG _ q
 obtain ⟨T,id,hT,ht,hg⟩:=hr Aa { s3 with heap:=s3.heap.push { cls:=.type "slice",data:=.fields #[vl,vu,.none] } } σ H3 x v vl vu l u s3.heap.objs.size Q I4 r1 (Heap.IsSliceOf.new ..) pl pu q3
 show wpAny (model X.prog X.w) X.A (subscriptTail e (.Slice lo hi none p2) v (.ref s3.heap.objs.size)) (EP X Aa σ Q) X.xe { s3 with heap:=s3.heap.push { cls:=.type "slice",data:=.fields #[vl,vu,.none] } }
 exact tail_any (ops:=[.ref s3.heap.objs.size,v]) ht hT hg (by with_unfolding_all rfl)
def aIt (xs:List V) (lo hi:Option Int):List V:=(xs.drop (HT.sIx xs.length 0 lo)).take (HT.sIx xs.length xs.length hi - HT.sIx xs.length 0 lo)
theorem zS (xs:List V) (lo hi:Option Int):(aIt xs lo hi).length≤xs.length:=by
 unfold aIt
 rw [bT,iG]
 omega
end
def ixN (n:Nat) (i:Int):Option Nat:=if 0≤i then (if i < n then some i.toNat else none) else if -(n:Int)≤i then some (i + n).toNat else none
def atI {α:Type} (xs:List α) (i:Int):Option α:=(ixN xs.length i).bind fun j=>xs[j]?
theorem w9 {n:Nat} {i:Int} {j:Nat} (h:ixN n i=some j):seqIndex? i n=some j∧j < n ∧ -(n:Int)≤i∧i < n:=by
 unfold ixN at h
 by_cases h0:0≤i
 ·rw [if_pos h0] at h
  by_cases h1:i < n
  ·rw [if_pos h1] at h
   have e:i.toNat=j:=ozI h
   exact ⟨by rw [seqIndex_of h0 h1,e],by omega,by omega,h1⟩
  ·rw [if_neg h1] at h; cases h
 ·rw [if_neg h0] at h
  by_cases h1 : -(n:Int)≤i
  ·rw [if_pos h1] at h
   have e:(i + n).toNat=j:=ozI h
   exact ⟨by rw [seqIndex_neg (by omega) h1,e],by omega,h1,by omega⟩
  ·rw [if_neg h1] at h; cases h
theorem wV {α:Type} {xs:List α} {i:Int} {v:α} (h:atI xs i=some v):∃ j,seqIndex? i xs.length=some j∧xs[j]? = some v∧j < xs.length ∧ -(xs.length:Int)≤i∧i < xs.length:=by
 unfold atI at h
 cases e:ixN xs.length i with
 | none=>rw [e] at h; cases h
 | some j =>
  rw [e] at h
  obtain ⟨h1,h2,h3,h4⟩:=w9 e
  exact ⟨j,h1,h,h2,h3,h4⟩
theorem em_ {α:Type} {xs:List α} {j:Nat} {v:α} (h:xs[j]? = some v):atI xs (j:Int)=some v:=by
 have hj:j < xs.length:=(aF.mp h).1
 have e:ixN xs.length (j:Int)=some j:=by
  unfold ixN
  rw [if_pos (by omega),if_pos (by omega)]; simp
 unfold atI; rw [e]; exact h
def lW (b:Expr):Prop := ∀ o i,subscripted b false o i=operate [o,i] (getItem o i)
def IxR (X:Cx) (r:R2):Prop :=
 ∀ (value slice:Expr) (Aa:fO) (s:Shared) (σ:St) (H:Hp) (x y:V) (v u:Value) (Q:VK),Inv X Aa σ H s→RelV x v→RelV y u→r x y H Q →
  subscripted slice false v u=operate [v,u] (getItem v u)→wpAny (model X.prog X.w) X.A (subscriptTail value slice v u) (EP X Aa σ Q) X.xe s
def MtR (X:Cx) (id:String) (r:V→List V→Hp→VK→Prop):Prop :=
 ∀ (Aa:fO) (s:Shared) (σ:St) (H:Hp) (x:V) (xs:List V) (v:Value) (us:List Value) (Q:VK),Inv X Aa σ H s→RelV x v→Vals xs us→r x xs H Q →
  wpAny (model X.prog X.w) X.A (call (.builtin id) (v :: us)) (EP X Aa σ Q) X.xe s
section
variable {X:Cx} {a b:Expr} {ta tb:TE} {pos:Pos}
theorem IxR.or {r r':R2} (h:IxR X r) (h':IxR X r'):IxR X (fun x y H Q=>r x y H Q∨r' x y H Q):=by
 intro value slice Aa s σ H x y v u Q I rx ry q hs
 rcases q with q | q
 ·exact h value slice Aa s σ H x y v u Q I rx ry q hs
 ·exact h' value slice Aa s σ H x y v u Q I rx ry q hs
theorem aFv {r:R2} (hr:IxR X r) (ha:PE X a ta) (hb:PE X b tb) (hs:lW b):PE X (.Subscript a b pos) (tOp r ta tb):=by
 intro Aa s σ H Q I h
 exact Subscript_ (aUb ha hb I h fun v u s2 x y H2 I2 rx ry q=>hr a b Aa s2 σ H2 x y v u Q I2 rx ry q (hs _ _))
def aFk (K:eE):R2:=fun x y H Q => ∃ p xs i v,x=.ref p∧y=.int i∧SqL K H p xs∧atI xs i=some v∧Q v H
def aQa (K:eE):R2:=fun x y H Q => ∃ p xs i v,x=.ref p∧y=.int i∧SqT K H p xs∧atI xs i=some v∧Q v H
def aVy:R2:=fun x y H Q => ∃ z i c,x=.str z∧y=.int i∧z.length≤sizeLine∧atI z.cps.toList i=some c∧Q (.str ⟨#[c]⟩) H
theorem w6:IxR X (aFk X.K):=by
 intro value slice Aa s σ H x y v u Q I rx ry h hs
 obtain ⟨p,xs,i,z,rfl,rfl,hq,he,q⟩:=h
 cases rx
 obtain ⟨t,rfl⟩:=ry
 obtain ⟨its,r,pl,hz⟩:=I.list hq
 obtain ⟨j,h1,h2,h3,h4,h5⟩:=wV he
 obtain ⟨w,ew,rw'⟩:=r.get h2
 have hl:=r.length
 have hn:=mL
 have A5:EP X Aa σ Q w s:=⟨z,H,I,rw',q⟩
 by_cases h0:0≤i
 ·have hj:i.toNat=j:=by
   rw [seqIndex_of h0 h5] at h1
   exact ozI h1
  exact item_listR pl.isList h0 (by omega) (by rw [hj]; simpa using ew) A5 hs
 ·have hj:(i + (its.toArray.size:Int)).toNat=j:=by
   rw [seqIndex_neg (by omega) h4] at h1
   rw [aW,← hl]
   exact ozI h1
  exact subscriptTail_builtinR (x:=w) pl.isList.typeIs slot_list_getitem.lookup
   (wpAny_getItem_list_neg (Q:=fun r s'=>r=w∧EP X Aa σ Q r s') pl.isList (by omega) (by rw [aW] <;> omega) (by omega) (by rw [hj]; simpa using ew) ⟨rfl,A5⟩) hs
theorem aSm:IxR X (aQa X.K):=by
 intro value slice Aa s σ H x y v u Q I rx ry h hs
 obtain ⟨p,xs,i,z,rfl,rfl,hq,he,q⟩:=h
 cases rx
 obtain ⟨t,rfl⟩:=ry
 obtain ⟨its,r,pl,hz⟩:=I.tuple hq
 obtain ⟨j,h1,h2,h3,h4,h5⟩:=wV he
 obtain ⟨w,ew,rw'⟩:=r.get h2
 have hl:=r.length
 have hn:=mL
 have A5:EP X Aa σ Q w s:=⟨z,H,I,rw',q⟩
 exact subscriptTail_builtinR (x:=w) pl.typeIs slot_tuple_getitem.lookup
  (getItem_tuple (j:=j) (Q:=fun r s'=>r=w∧EP X Aa σ Q r s') pl (by omega) (by omega) (by rw [aW,← hl]; exact h1) (by simpa using ew) ⟨rfl,A5⟩) hs
theorem aSn:IxR X aVy:=by
 intro value slice Aa s σ H x y v u Q I rx ry h hs
 obtain ⟨z,i,c,rfl,rfl,hz,he,q⟩:=h
 obtain ⟨t,rfl⟩:=rx
 obtain ⟨t',rfl⟩:=ry
 obtain ⟨j,h1,h2,h3,h4,h5⟩:=wV he
 have hl:z.cps.toList.length=z.length:=by simp [Str.length]
 rw [hl] at h1 h4 h5
 have hn:=mL
 exact tail_any (typeIs_str s z t) slot_str_getitem.lookup (getItem_str (c:=c) (by
  have e1:decide (i < -(2 ^ 63:Int))=false:=dzF (by omega)
  have e2:decide (i≥2 ^ 63)=false:=dzF (by omega)
  rw [e1,e2,Bool.or_false]) (by rw [h1]; simpa using h2) ⟨.str ⟨#[c]⟩,H,I.tok _,⟨_,rfl⟩,q⟩) hs
theorem j8 (its:List Value) (n j:Nat) (u:Value):Obj.mapSeq (·.setIfInBounds j u) { cls:=.type "list",data:=.seq its.toArray n }={ cls:=.type "list",data:=.seq (its.set j u).toArray n }:=by
 simp [Obj.mapSeq]
theorem Inv.lst {Aa:fO} {σ:St} {H:Hp} {s:Shared} {p:Addr} {xs:List V} (I:Inv X Aa σ H s) (h:H p=some (.lst xs)) :
  ∃ (its:List Value) (n:Nat),Vals xs its∧s.heap.get? p=some { cls:=.type "list",data:=.seq its.toArray n }∧xs.length≤sizeLine:=by
 obtain ⟨z,its,n,r,e⟩:=I.hok p _ h
 exact ⟨its,n,r,e,z⟩
theorem Inv.lstUpd {Aa:fO} {σ:St} {H:Hp} {s:Shared} {p:Addr} {xs ys:List V} {its its':List Value} {n n':Nat} {f:Obj→Obj} (I:Inv X Aa σ H s) (h:H p=some (.lst xs))
  (ho:s.heap.get? p=some { cls:=.type "list",data:=.seq its.toArray n }) (hf:f { cls:=.type "list",data:=.seq its.toArray n }={ cls:=.type "list",data:=.seq its'.toArray n' }) (r:Vals ys its') (hz:ys.length≤sizeLine) (t:Nat) :
  Inv X Aa σ (upd H p (.lst ys)) { s with heap:=s.heap.update p f,toks:=t }:=by
 have e:(s.heap.update p f).get? p=some { cls:=.type "list",data:=.seq its'.toArray n' }:=by
  rw [gB f ho (by rw [hf] <;> rfl),hf]
 refine I.write (x:=p) (e:=p) (by rw [h]; trivial) (.inl rfl) (fun b u hb q=>(bM _ _ (Ne.symm hb)).trans q) ⟨_,e⟩ ?_
 exact ⟨hz,its',n',r,e⟩
def aOh:V→V→V→Hp→(Hp→Prop)→Prop:=fun o i v H Q => ∃ p xs k j,o=.ref p∧i=.int k∧H p=some (.lst xs)∧ixN xs.length k=some j∧Q (upd H p (.lst (xs.set j v)))
theorem fq_:aYu X aOh:=by
 intro Aa s σ H o i v ov iv u Q I ro ri rv h
 obtain ⟨p,xs,k,j,rfl,rfl,hp,hj,q⟩:=h
 cases ro
 obtain ⟨t,rfl⟩:=ri
 obtain ⟨its,n,r,ho,hz⟩:=I.lst hp
 obtain ⟨h1,h2,h3,h4⟩:=w9 hj
 have hl:=r.length
 have hn:=mL
 have I':Inv X Aa σ (upd H p (.lst (xs.set j v))) { s with heap:=s.heap.update p (Obj.mapSeq (·.setIfInBounds j u)) } :=
  I.lstUpd hp ho (j8 its n j u) (r.set rv j) (by rw [bB]; exact hz) s.toks
 by_cases h0:0≤k
 ·have hk:k.toNat=j:=by
   rw [seqIndex_of h0 h4] at h1
   exact ozI h1
  exact PySem.W.ki_setAt ho h0 (by omega) (by rw [aW,← hl]; exact h4) (by rw [hk]; exact ⟨_,I',q⟩)
 ·have hk:(k + (its.toArray.size:Int)).toNat=j:=by
   rw [seqIndex_neg (by omega) h3] at h1
   rw [aW,← hl]
   exact ozI h1
  exact PySem.W.ki_setBack ho (by omega) (by rw [aW,← hl]; exact h3) (by omega) (by rw [hk]; exact ⟨_,I',q⟩)
theorem uL (lo hi:Option Int) (n:Nat):(sliceBounds lo hi none n).1=((HT.sIx n 0 lo:Nat):Int)∧(sliceBounds lo hi none n).2.1=((HT.sIx n n hi:Nat):Int)∧(sliceBounds lo hi none n).2.2=1:=by
 refine ⟨?_,?_,rfl⟩
 ·cases lo with
  | none=>simp [sliceBounds,HT.sIx]
  | some i =>
   simp only [sliceBounds,HT.sIx,Option.getD_none,show (1:Int) > 0 by decide,if_true]
   by_cases h:i < 0
   ·simp only [h,if_true] <;> omega
   ·simp only [h,if_false] <;> omega
 ·cases hi with
  | none=>simp [sliceBounds,HT.sIx]
  | some i =>
   simp only [sliceBounds,HT.sIx,Option.getD_none,show (1:Int) > 0 by decide,if_true]
   by_cases h:i < 0
   ·simp only [h,if_true] <;> omega
   ·simp only [h,if_false] <;> omega
theorem rX (its:List Value) (lo hi:Option Int):slicePick its.toArray lo hi none=((its.drop (HT.sIx its.length 0 lo)).take (HT.sIx its.length its.length hi - HT.sIx its.length 0 lo)).toArray:=by
 obtain ⟨h1,h2,h3⟩:=uL lo hi its.toArray.size
 unfold slicePick
 rw [h1,h2,h3]
 simp only [sliceRange_one,pick_run,aW] <;> rfl
def aVw (K:eE):V→Option Int→Option Int→Hp→VK→Prop:=fun x lo hi H Q => ∃ a xs,x=.ref a∧SqL K H a xs∧∀ p,H p=none→Q (.ref p) (upd H p (.lst (aIt xs lo hi)))
theorem aKi:SlR X (aVw X.K):=by
 intro Aa s σ H x v vl vu lo hi sl Q I rx hs pl pu h
 obtain ⟨a,xs,rfl,hx,q⟩:=h
 cases rx
 obtain ⟨its,r,ht,hz⟩:=I.list hx
 have Aj:=r.length
 refine ⟨"list",_,slot_list_getitem.lookup,ht.isList.typeIs,?_⟩
 refine wpAny_getItem_list_slice ht.isList hs pl pu .none (by simp) ?_ (by rw [aW] <;> omega)
 rw [rX,← Aj]
 refine ⟨.ref s.heap.objs.size,_,I.laid (t':=s.toks) (o:=.lst (aIt xs lo hi)) (fun b ob q=>aG _ q) (aV _) ?_,rfl,q _ (I.hok.fresh (aV _))⟩
 exact ⟨nzL (zS xs lo hi) hz,_,0,(r.drop (HT.sIx xs.length 0 lo)).take (HT.sIx xs.length xs.length hi - HT.sIx xs.length 0 lo),bC _ rfl⟩
def lH:V→Bool
 | .non=>true
 | .bl _=>true
 | .int _=>true
 | .str _=>true
 | _=>false
def eqV:V→V→Bool
 | .non,.non=>true
 | .bl a,.bl b=>a == b
 | .bl a,.int b=>(if a then 1 else 0) == b
 | .int a,.bl b=>a == (if b then 1 else 0)
 | .int a,.int b=>a == b
 | .str a,.str b=>a == b
 | _,_=>false
theorem aTl {A:Around} {s:Shared} {y x:V} {u v:Value} (ry:RelV y u) (rx:RelV x v) (fy:lH y=true) (fx:lH x=true):SeqAt.EqAt A s u v (eqV y x):=by
 cases y with
 | non =>
  cases ry
  cases x with
  | non=>cases rx; exact SeqAt.EqAt.same _
  | bl b=>cases rx; exact SeqAt.EqAt.none_bool b
  | int b=>obtain ⟨t,rfl⟩:=rx; exact SeqAt.EqAt.none_int b t
  | str b=>obtain ⟨t,rfl⟩:=rx; exact SeqAt.EqAt.none_str b t
  | _=>exact absurd (show false=true from fx) aX
 | bl a =>
  cases ry
  cases x with
  | non=>cases rx; exact SeqAt.EqAt.bool_none a
  | bl b=>cases rx; exact SeqAt.EqAt.bool_bool a b
  | int b=>obtain ⟨t,rfl⟩:=rx; exact SeqAt.EqAt.bool_int a b t
  | str b=>obtain ⟨t,rfl⟩:=rx; exact SeqAt.EqAt.bool_str a b t
  | _=>exact absurd (show false=true from fx) aX
 | int a =>
  obtain ⟨t',rfl⟩:=ry
  cases x with
  | non=>cases rx; exact SeqAt.EqAt.int_none a t'
  | bl b=>cases rx; exact SeqAt.EqAt.int_bool a t' b
  | int b=>obtain ⟨t,rfl⟩:=rx; exact SeqAt.EqAt.int_int a t' b t
  | str b=>obtain ⟨t,rfl⟩:=rx; exact SeqAt.EqAt.int_str a t' b t
  | _=>exact absurd (show false=true from fx) aX
 | str a =>
  obtain ⟨t',rfl⟩:=ry
  cases x with
  | non=>cases rx; exact SeqAt.EqAt.str_none a t'
  | bl b=>cases rx; exact SeqAt.EqAt.str_bool a t' b
  | int b=>obtain ⟨t,rfl⟩:=rx; exact SeqAt.EqAt.str_int a t' b t
  | str b=>obtain ⟨t,rfl⟩:=rx; exact SeqAt.EqAt.str_str a t' b t
  | _=>exact absurd (show false=true from fx) aX
 | _=>exact absurd (show false=true from fy) aX
def eqU (x:V) (u:Value):Bool:=match u with
 | .none=>eqV .non x
 | .bool b=>eqV (.bl b) x
 | .int i _=>eqV (.int i) x
 | .str z _=>eqV (.str z) x
 | _=>false
theorem aIj {x y:V} {u:Value} (r:RelV y u) (f:lH y=true):eqU x u=eqV y x:=by
 cases y with
 | non=>cases r; rfl
 | bl b=>cases r; rfl
 | int i=>obtain ⟨t,rfl⟩:=r; rfl
 | str z=>obtain ⟨t,rfl⟩:=r; rfl
 | _=>exact absurd (show false=true from f) aX
theorem wW {x:V}:∀ {xs:List V} {us:List Value},Vals xs us→xs.all lH=true→us.any (eqU x)=xs.any fun y=>eqV y x
 | _,_,.nil,_=>rfl
 | y :: xs,u :: us,.cons r t,f=>by
  rw [iS,cZ] at f
  rw [fB,fB,aIj r f.1,wW t f.2]
theorem pO {A:Around} {s:Shared} {x:V} {v:Value} (rx:RelV x v) (fx:lH x=true):∀ {xs:List V} {us:List Value},Vals xs us→xs.all lH=true→∀ u∈us,SeqAt.EqAt A s u v (eqU x u)
 | _,_,.nil,_=>fun u hu=>by cases hu
 | y :: xs,u :: us,.cons r t,f=>fun u' hu=>by
  rw [iS,cZ] at f
  rcases aI.mp hu with rfl | hu
  ·rw [aIj r f.1]; exact aTl r rx f.1 fx
  ·exact pO rx fx t f.2 u' hu
def inV (x:V) (xs:List V):Bool:=xs.any fun y=>eqV y x
def rIn (K:eE) (neg:Bool):R2:=fun x y H Q => ∃ p xs,y=.ref p∧(SqL K H p xs∨SqT K H p xs)∧lH x=true∧xs.all lH=true∧Q (.bl (if neg then !inV x xs else inV x xs)) H
theorem aBr:OpR X (compareOp .In) (rIn X.K false):=by
 intro Aa s σ H x y v u Q I rx ry h
 obtain ⟨p,xs,rfl,hq,fx,fs,q⟩:=h
 cases ry
 rcases hq with hq | hq
 ·obtain ⟨its,r,pl,hz⟩:=I.list hq
  refine SeqAt.in_listAt (eqU x) pl.isList (fun w hw=>pO rx fx r fs w (by simpa using hw)) ⟨.bl _,H,I,rfl,?_⟩
  rw [show its.toArray.any (eqU x)=its.any (eqU x) by simp,wW r fs]
  exact q
 ·obtain ⟨its,r,pl,hz⟩:=I.tuple hq
  refine SeqAt.in_tupleAt (eqU x) pl (fun w hw=>pO rx fx r fs w (by simpa using hw)) ⟨.bl _,H,I,rfl,?_⟩
  rw [show its.toArray.any (eqU x)=its.any (eqU x) by simp,wW r fs]
  exact q
theorem wQ:CallR X (.builtin "len") (fun xs H Q => ∃ p ys,xs=[.ref p]∧(SqL X.K H p ys∨SqT X.K H p ys)∧Q (.int ys.length) H):=by
 intro Aa s σ H xs us Q I r h
 obtain ⟨p,ys,rfl,hq,q⟩:=h
 obtain ⟨u,rfl,rx⟩:=jQ r
 cases rx
 have hn:=mL
 rcases hq with hq | hq
 ·obtain ⟨its,r',pl,hz⟩:=I.list hq
  have Aj:=r'.length
  exact Calls.call_len_list pl.isList (by simp only [aW] <;> omega) ⟨.int ys.length,H,I.tok _,⟨s.toks + 1,by rw [aW,Aj]⟩,q⟩
 ·obtain ⟨its,r',pl,hz⟩:=I.tuple hq
  have Aj:=r'.length
  exact len_tuple pl (by simp only [aW] <;> omega) ⟨.int ys.length,H,I.tok _,⟨s.toks + 1,by rw [aW,Aj]⟩,q⟩
theorem wP:CallR X (.builtin "len") (fun xs H Q => ∃ z,xs=[.str z]∧z.length≤sizeLine∧Q (.int z.length) H):=by
 intro Aa s σ H xs us Q I r h
 obtain ⟨z,rfl,hz,q⟩:=h
 obtain ⟨u,rfl,t,rfl⟩:=jQ r
 have hn:=mL
 exact len_str (by omega) ⟨.int z.length,H,I.tok _,⟨_,rfl⟩,q⟩
theorem CallR.or {f:Value} {r r':List V→Hp→VK→Prop} (h:CallR X f r) (h':CallR X f r'):CallR X f (fun xs H Q=>r xs H Q∨r' xs H Q):=by
 intro Aa s σ H xs us Q I rs q
 rcases q with q | q
 ·exact h Aa s σ H xs us Q I rs q
 ·exact h' Aa s σ H xs us Q I rs q
theorem wO:CallR X (.type "list") (fun xs H Q => ∃ p ys,xs=[.ref p]∧(SqL X.K H p ys∨SqT X.K H p ys)∧∀ l,H l=none→Q (.ref l) (upd H l (.lst ys))):=by
 intro Aa s σ H xs us Q I r h
 obtain ⟨p,ys,rfl,hq,q⟩:=h
 obtain ⟨u,rfl,rx⟩:=jQ r
 cases rx
 have A5:∀ (its:List Value),Vals ys its→ys.length≤sizeLine→∀ (h':Heap) (c':Nat),(∀ b o',s.heap.get? b=some o'→h'.get? b=some o') →
   h'.get? s.heap.objs.size=some { cls:=.type "list",dict:=none,data:=.seq its.toArray c',slots := #[] }→EP X Aa σ Q (.ref s.heap.objs.size) { s with heap:=h' }:=fun its r' hz h' c' kp e =>
  ⟨.ref s.heap.objs.size,_,I.laid (t':=s.toks) kp (aV _) (show ObjOk X.prog X.w _ h' _ (.lst ys) from ⟨hz,its,c',r',e⟩),rfl,q _ (I.hok.fresh (aV _))⟩
 rcases hq with hq | hq
 ·obtain ⟨its,r',pl,hz⟩:=I.list hq
  have Aj:=r'.length
  obtain ⟨o,ho,hc,n,hd⟩:=pl.isList
  exact call_list_seq p (.inl rfl) ho hc hd (fun h' c' kp e=>A5 its r' hz h' c' kp e) (by simp only [aW] <;> omega)
 ·obtain ⟨its,r',pl,hz⟩:=I.tuple hq
  have Aj:=r'.length
  obtain ⟨o,ho,hc,n,hd⟩:=pl
  exact call_list_seq p (.inr rfl) ho hc hd (fun h' c' kp e=>A5 its r' hz h' c' kp e) (by simp only [aW] <;> omega)
theorem sG:CallR X (.type "tuple") (fun xs H Q => ∃ p ys,xs=[.ref p]∧((SqL X.K H p ys∧∀ l,H l=none→Q (.ref l) (upd H l (.tup ys)))∨(SqT X.K H p ys∧Q (.ref p) H))):=by
 intro Aa s σ H xs us Q I r h
 obtain ⟨p,ys,rfl,h⟩:=h
 obtain ⟨u,rfl,rx⟩:=jQ r
 cases rx
 rcases h with ⟨hq,q⟩ | ⟨hq,q⟩
 ·obtain ⟨its,r',pl,hz⟩:=I.list hq
  have Aj:=r'.length
  refine call_tuple_list pl.isList (fun h' kp => ?_) (by simp only [aW] <;> omega)
  have I1:Inv X Aa σ H { s with heap:=h' }:=I.kept (t':=s.toks) kp
  have I2:Inv X Aa σ (upd H h'.objs.size (.tup ys)) { s with heap:=h'.push { cls:=.type "tuple",data:=.seq its.toArray } } :=
   I1.laid (t':=s.toks) (fun b o e=>aG _ e) (aV _) (show ObjOk X.prog X.w _ _ _ (.tup ys) from ⟨hz,its,r',IsTup.new _ _⟩)
  exact ⟨.ref h'.objs.size,_,I2,rfl,q _ (I1.hok.fresh (aV _))⟩
 ·obtain ⟨its,r',pl,hz⟩:=I.tuple hq
  exact call_tuple_same pl ⟨.ref p,H,I,rfl,q⟩
def tyV (K:eE) (T:String) (x:V) (H:Hp):Prop:=match x with
 | .str _=>T = "str"
 | .int _=>T = "int"
 | .ref p => (T = "list" ∧ ∃ xs, SqL K H p xs) ∨ (T = "tuple" ∧ ∃ o, K.lookup p = some o ∧ o.cls = .type "tuple" ∧ o.dict = none) ∨
   (T = "dict" ∧ ((∃ kvs,H p=some (.dK kvs))∨∃ kvs,H p=some (.dT kvs)))∨(T = "set" ∧ ∃ S n,H p=some (.set S n))
 | _=>False
theorem aPn {Aa:fO} {σ:St} {H:Hp} {s:Shared} {T:String} {x:V} {v:Value} (I:Inv X Aa σ H s) (r:RelV x v) (ty:tyV X.K T x H) :
  s.TypeIs v T∧∀ a,v=.ref a→∃ ob,s.heap.get? a=some ob∧ob.dict=none:=by
 cases x with
 | str z =>
  obtain ⟨t,rfl⟩:=r
  cases (show T = "str" from ty)
  exact ⟨typeIs_str s z t,fun _ e=>nomatch e⟩
 | int i =>
  obtain ⟨t,rfl⟩:=r
  cases (show T = "int" from ty)
  exact ⟨typeIs_int s i t,fun _ e=>nomatch e⟩
 | ref p =>
  cases r
  rcases ty with ⟨rfl,xs,hq⟩ | ⟨rfl,o,hk,hc,hd⟩ | ⟨rfl,hk⟩ | ⟨rfl,S,n,hk⟩
  ·obtain ⟨its,_,pl,_⟩:=I.list hq
   refine ⟨pl.isList.typeIs,fun a e => ?_⟩
   cases e
   obtain ⟨o,n,e,c,hd,_⟩:=pl
   exact ⟨o,e,hd⟩
  ·refine ⟨⟨o,I.kIn p o hk,hc⟩,fun a e => ?_⟩
   cases e
   exact ⟨o,I.kIn _ o hk,hd⟩
  ·have z:∃ o,s.heap.get? p=some o∧o.ExactDict:=by
    rcases hk with ⟨kvs,hk⟩ | ⟨kvs,hk⟩
    ·obtain ⟨_,_,_,_,o,_,_,e,ex,_⟩:=I.hok p _ hk
     exact ⟨o,e,ex⟩
    ·obtain ⟨_,_,_,_,o,_,_,e,ex,_⟩:=I.hok p _ hk
     exact ⟨o,e,ex⟩
   obtain ⟨o,e,ex⟩:=z
   refine ⟨⟨o,e,ex.1⟩,fun a e2 => ?_⟩
   cases e2
   exact ⟨o,e,ex.2.1⟩
  ·obtain ⟨o,_,_,_,e,ex,_⟩:=I.hok p _ hk
   refine ⟨⟨o,e,ex.1⟩,fun a e2 => ?_⟩
   cases e2
   exact ⟨o,e,ex.2.1⟩
 | _=>exact False.elim ty
def tBM (K:eE) (T:String) (r:V→List V→Hp→VK→Prop) (to:TE) (t:TA):TE:=fun σ H Q=>to σ H fun x H1=>tyV K T x H1∧t σ H1 fun xs H2=>r x xs H2 Q
variable {o e:Expr} {es:List Expr} {to:TE} {t:TA} {name:Str} {apos cpos:Pos} {T id:String} {r:V→List V→Hp→VK→Prop}
theorem pE (pa:PlainAttrs T) (slot:Slot T name id) (hty:typeOf (.builtin id)=pure (.type "method_descriptor")) (hm:MtR X id r) (ho:PE X o to) (ha:PA X (e :: es) t)
  (Dq:attributeBase o name X.env (eval o X.env)=eval o X.env:=by rfl)
  (Ho:((backTo cpos (starEach (e :: es) X.env)).all (fun x => !x.1) && (backToKw cpos (keywordEach [] X.env)).all (fun x=>x.1.isSome)
   && decide ((e :: es).length + ([]:List Keyword).length + (if ([]:List Keyword).isEmpty then 0 else 1) < 30))=true:=by rfl)
  (Fz:(apos.endLine == cpos.line)=true:=by rfl) (hs:starEach (e :: es) X.env=(false,eval e X.env) :: starEach es X.env:=by rfl) (D8:(backTo cpos (starEach es X.env)).any (·.1)=false:=by rfl) :
  PE X (.Call (.Attribute o name apos) (e :: es) [] cpos) (tBM X.K T r to t):=by
 intro Aa s σ H Q I h
 refine wpAny_Call_method_late Dq Ho Fz rfl (fE (ho Aa s σ H _ I h) fun v s1 ⟨x,H1,I1,r1,ty,q1⟩ => ?_)
 obtain ⟨h1,h2⟩:=aPn I1 r1 ty
 refine ⟨T,id,pa,slot,hty,h1,h2,?_⟩
 have hA:=ha cpos Aa s1 σ H1 _ I1 q1
 rw [hs] at hA ⊢
 refine Calls.callWith_builtin (by show (false || (backTo cpos (starEach es X.env)).any (·.1))=false; rw [D8] <;> rfl) (Calls.evalArgs_plain ?_)
 exact fE hA fun us s2 ⟨vs,H2,I2,r2,q2⟩=>hm Aa s2 σ H2 x vs v us Q I2 r1 r2 q2
end
def MtM (X:Cx) (id:String) (r:V→List V→Hp→VK→Prop):Prop :=
 ∀ (Aa:fO) (s:Shared) (σ:St) (H:Hp) (x:V) (xs:List V) (v:Value) (us:List Value) (Q:VK),Inv X Aa σ H s→RelV x v→Vals xs us→r x xs H Q →
  wpAny (model X.prog X.w) X.A (call (.builtin id) (v :: us)) (EP X Aa σ Q) X.xe s
theorem Vals.one:∀ {x:V} {us:List Value},Vals [x] us→∃ u,us=[u]∧RelV x u
 | _,_,.cons r .nil=>⟨_,rfl,r⟩
theorem Vals.two:∀ {x y:V} {us:List Value},Vals [x,y] us→∃ u v,us=[u,v]∧RelV x u∧RelV y v:=by
 intro x y us h
 cases h with
 | cons r t=>cases t with
  | cons q z=>cases z; exact ⟨_,_,rfl,r,q⟩
theorem Vals.reverse {xs:List V} {us:List Value} (h:Vals xs us):Vals xs.reverse us.reverse:=by
 induction h with
 | nil=>exact .nil
 | cons r t ih=>rw [hZ,hZ]; exact Vals.append ih (.cons r .nil)
theorem Vals.rep {xs:List V} {us:List Value} (h:Vals xs us):∀ k:Nat,Vals (List.replicate k xs).flatten (List.replicate k us).flatten
 | 0=>.nil
 | k + 1=>by
  rw [bH,bH,fI,fI]
  exact Vals.append h (Vals.rep h k)
theorem tF (its:List Value):∀ (k:Nat) (Ad:List Value),
  List.foldl (fun x1 x2=>x1 ++ x2) Ad.toArray (List.replicate k its.toArray)=(Ad ++ (List.replicate k its).flatten).toArray
 | 0,Ad=>by simp
 | k + 1,Ad=>by
  have e:Ad.toArray ++ its.toArray=(Ad ++ its).toArray:=by simp
  have e2:(Ad ++ its) ++ (List.replicate k its).flatten=Ad ++ (List.replicate (k + 1) its).flatten:=by
   rw [bH,fI,bD]
  rw [← e2,← tF its k (Ad ++ its),← e,bH,List.foldl_cons]
section
variable {X:Cx} {Aa:fO} {σ:St} {H:Hp} {s:Shared} {l b:Addr} {xs ys zs:List V}
theorem Inv.lset {its its':List Value} {n:Nat} {f:Array Value→Array Value} {t':Nat} (I:Inv X Aa σ H s) (hH:H l=some (.lst xs))
  (e:s.heap.get? l=some { cls:=.type "list",data:=.seq its.toArray n }) (hf:f its.toArray=its'.toArray) (hv:Vals ys its') (hz:ys.length≤sizeLine) :
  Inv X Aa σ (upd H l (.lst ys)) { s with heap:=s.heap.update l (Obj.mapSeq f),toks:=t' }:=by
 have q:=PySem.IsL.update e f
 rw [hf] at q
 refine I.write (x:=l) (e:=l) (by rw [hH]; exact trivial) (.inl rfl) (fun b' u hb hu=>(bM s.heap (Obj.mapSeq f) (Ne.symm hb)).trans hu) ⟨_,q⟩ ?_
 exact ⟨hz,its',_,hv,q⟩
theorem Inv.lnew {its:List Value} {t':Nat} (I:Inv X Aa σ H s) (hv:Vals ys its) (hz:ys.length≤sizeLine) :
  Inv X Aa σ (upd H s.heap.objs.size (.lst ys)) { s with heap:=s.heap.push { cls:=.type "list",data:=.seq its.toArray },toks:=t' } :=
 I.laid (fun _ _ q=>aG _ q) (aV _) ⟨hz,its,0,hv,bC _ rfl⟩
theorem Inv.fresh (I:Inv X Aa σ H s):H s.heap.objs.size=none:=I.hok.fresh (aV _)
theorem Inv.lstM (I:Inv X Aa σ H s) (hH:H l=some (.lst xs)):xs.length≤sizeLine∧∃ (its:List Value) (n:Nat),Vals xs its∧xs.length=its.length∧s.heap.get? l=some { cls:=.type "list",data:=.seq its.toArray n }:=by
 obtain ⟨z,its,n,r,e⟩:=I.hok l _ hH
 exact ⟨z,its,n,r,r.length,e⟩
theorem aGu {n:Nat} (h:n≤sizeLine):Builtin.List.listTooLong n=false:=by
 unfold Builtin.List.listTooLong
 exact dzF (by omega)
end
section
variable {X:Cx}
def u6:V→List V→Hp→VK→Prop:=fun x vs H Q => ∃ l xs y,x=.ref l∧vs=[y]∧H l=some (.lst xs)∧xs.length < sizeLine∧Q .non (upd H l (.lst (xs ++ [y])))
theorem es_:MtM X "list.append" u6:=by
 intro Aa s σ H x vs v us Q I rx rv h
 obtain ⟨l,xs,y,rfl,rfl,hH,hz,q⟩:=h
 cases rx
 obtain ⟨u,rfl,ru⟩:=rv.one
 obtain ⟨z,its,n,r,hl,e⟩:=I.lstM hH
 refine call_meets F.slot_list_append ⟨_,e,rfl⟩ F.entry_list_append (F.args_list_append_2 _ _) (PySem.list_append l its.toArray n u (by rw [aW]; omega)) ⟨e,?_⟩
 refine ⟨.non,_,I.lset (its':=its ++ [u]) hH e (by simp) (r.append (.cons ru .nil)) ?_,rfl,q⟩
 rw [aC,cT]
 omega
def bAy:R2:=fun x y H Q => ∃ l b xs zs,x=.ref l∧y=.ref b∧H l=some (.lst xs)∧H b=some (.lst zs)∧xs.length + zs.length≤sizeLine∧∀ p,H p=none→Q (.ref p) (upd H p (.lst (xs ++ zs)))
theorem aRb:OpR X (binaryOp .Add) bAy:=by
 intro Aa s σ H x y v u Q I rx ry h
 obtain ⟨l,b,xs,zs,rfl,rfl,hH,hB,hz,q⟩:=h
 cases rx
 cases ry
 obtain ⟨z,its,n,r,hl,e⟩:=I.lstM hH
 obtain ⟨z2,its2,n2,r2,Ch,e2⟩:=I.lstM hB
 refine PySem.P.add_list e e2 ?_ (by rw [aW,aW]; omega)
 have ea:its.toArray ++ its2.toArray=(its ++ its2).toArray:=by simp
 rw [ea]
 exact ⟨.ref _,_,I.lnew (t':=s.toks) (r.append r2) (by rw [aC]; omega),rfl,q _ I.fresh⟩
def bAx:R2:=fun x y H Q => ∃ l k xs,x=.ref l∧y=.int k∧H l=some (.lst xs) ∧ -(2 ^ 63)≤k∧k < 2 ^ 63∧xs.length * k.toNat≤sizeLine ∧
 ∀ p,H p=none→Q (.ref p) (upd H p (.lst (List.replicate k.toNat xs).flatten))
theorem aLz {α:Type} (xs:List α) (k:Nat):(List.replicate k xs).flatten.length=k * xs.length:=by
 induction k with
 | zero=>simp
 | succ k ih=>rw [bH,fI,aC,ih,Nat.succ_mul,Nat.add_comm]
theorem aQw:OpR X (binaryOp .Mult) bAx:=by
 intro Aa s σ H x y v u Q I rx ry h
 obtain ⟨l,k,xs,rfl,rfl,hH,h1,h2,hz,q⟩:=h
 cases rx
 obtain ⟨t,rfl⟩:=ry
 obtain ⟨z,its,n,r,hl,e⟩:=I.lstM hH
 have Aj:its.toArray.size * k.toNat≤sizeLine:=by rw [aW,← hl]; exact hz
 have Mi:¬ its.toArray.size * k.toNat > (2 ^ 63 - 1) / 8:=by
  have:(sizeLine:Nat)≤(2 ^ 63 - 1) / 8:=by decide
  omega
 have Af:¬ (!Builtin.List.listFitsIndex k)=true:=by
  rw [fitsIndex_both h1 h2]
  exact aX
 have Jw:¬ Builtin.List.listTooLong (its.toArray.size * k.toNat)=true:=by
  rw [aGu Aj]
  exact aX
 have C8:List.foldl (fun x1 x2=>x1 ++ x2) #[] (List.replicate (if its.toArray.isEmpty=true then 0 else k.toNat) its.toArray)=(List.replicate k.toNat its).flatten.toArray:=by
  have f0:∀ m:Nat,List.foldl (fun x1 x2=>x1 ++ x2) #[] (List.replicate m its.toArray)=(List.replicate m its).flatten.toArray:=fun m=>by
   have:=tF its m []
   rw [aZ] at this
   exact this
  rw [f0]
  cases its with
  | nil=>simp
  | cons a r'=>rw [if_neg (by simp)]
 refine wpAny_binaryOp_repeat_ref (T := "list") (U := "int") (by decide) ⟨_,e,rfl⟩ (fun s'=>typeIs_int s' k t) noFill_list_mul F.fills_int_mul F.slot_int_rmul repeat_list F.slot_int_index.lookup
  (call_meets F.slot_int_rmul (typeIs_int s k t) F.entry_int_rmul (F.args_int_rmul_2 _ _) (int___rmul___int_list k t l its.toArray n)
   ⟨e,rfl,⟨_,e,rfl⟩,call_meets F.slot_list_mul ⟨_,e,rfl⟩ F.entry_list_mul (F.args_list_mul_2 _ _) (AutoListH.list___mul___list_int_3 l its.toArray n k t Af Mi Jw) ⟨e,?_⟩⟩)
 rw [C8]
 exact ⟨.ref _,_,I.lnew (t':=s.toks) (r.rep k.toNat) (by rw [aLz,Nat.mul_comm]; exact hz),rfl,q _ I.fresh⟩
end
end L2
namespace Att
open PySem PySem.W PySem.Calls PyProof.Rows
theorem jm_ {P:Params} {h:Heap}:∀ (ns:List Int) (vs:List Value),WellAll P h vs (ns.map WData.int)→IntsAre vs ns:=by
 intro ns
 induction ns with
 | nil =>
  intro vs w
  rw [bP] at w
  cases w
  exact .nil
 | cons n ns ih =>
  intro vs w
  rw [aP] at w
  cases w with
  | cons a b =>
   cases a
   exact .cons _ _ (ih _ b)
theorem aBj {l:OpenLaw} {n:Nat} (hn:l.most=some n) {P:Params} {h:Heap} {args:List WData} {lB:List Value}
  (Gk:l.row.toRowW.claim.pre args=true) (La:WellAll P h lB args) :
  ∃ a vs ns,lB=[Value.ref a]∧args=[WData.list (ns.map WData.int)]∧h.get? a=some { cls:=.type "list",data:=.seq vs.toArray }∧IntsAre vs ns∧ns.length≤n:=by
 have hsh:WShape.hasAll [] args [.list .int]=true:=(pre_splitW Gk).1
 have hc:l.pre.holds [] { args:=args }=true:=(pre_splitW Gk).2
 obtain ⟨d,r,rfl,h1,h2⟩:=hasAllW_cons hsh
 obtain rfl:=hasAllW_nil h2
 obtain ⟨xs,rfl,h3⟩:=hasW_list h1
 obtain ⟨ns,rfl⟩:=items_int h3
 have Aj:ns.length≤n:=by
  unfold OpenLaw.pre at hc
  have h4:(WTm.not (.lt (.lit (.int (n:Int))) (.len (.arg 0)))).holds [] { args:=[.list (ns.map .int)] }=true:=by
   have h4:=(holds_andW hc).1
   rw [hn] at h4
   exact h4
  have h5:=condW_of h4 (w_not (w_lt w_lit (w_len_list (w_arg rfl))))
  rw [aE] at h5
  refine Nat.le_of_not_lt fun q => ?_
  have q':(n:Int) < ((ns.length:Nat):Int):=by omega
  first
   | (rw [dzT q'] at h5; exact absurd h5 (by decide))
   | (simp at h5; omega)
 cases La with
 | cons w1 w2 =>
  cases w2
  cases w1 with
  | list ho Au=>exact ⟨_,_,ns,rfl,rfl,ho,jm_ ns _ Au,Aj⟩
theorem aBl (l:OpenLaw) (args:List WData):l.row.toRowW.claim.post args (.bool true) args=true :=
 postW_of (r:=l.row.toRowW) (X:=(true == true))
  (show WShape.has [] (.bool true) .bool=true by first | rfl | decide | simp [WShape.has,WShape.arms,WShape.armsAll])
  (show (WTm.eq .res (.lit (.bool true))).value [] { args:=args,res:=some (.bool true),after:=args }=some (.bool (true == true)) from w_eq_bool (w_res rfl) w_lit) rfl
theorem attach_call {l:OpenLaw} {n:Nat} {q:Program} {loose:List Str} {XP:(Str→Option Value)→Heap→Prop} {YP:World→Heap→Prop} {d:DefRec}
  (hn:l.most=some n) (Mf:d.params.defaults=[])
  (call:∀ (w:World) (s₀ s₁:Shared) (mg mb:lN) (fa:Addr) (o:Obj) (pm cd doc:Value) (a:Addr) (vs:List Value) (ns:List Int),
   Ground q loose [] XP w s₀ mg mb s₁.heap→YP w s₁.heap →
   s₁.heap.get? fa=some o→o.data=.func (docDef d.name d.params d.body d.scope pm cd doc)→s₁.heap.CodeRec cd d.name→mg d.name=some (.ref fa) →
   s₁.heap.get? a=some { cls:=.type "list",data:=.seq vs.toArray }→IntsAre vs ns→ns.length≤n→s₁.gens = #[] →
   codeAny (model l.prog w) callerA (.call (.ref fa) ⟨[.ref a],[]⟩) (fun r s'=>r=.ok (.ret (.bool true))∧OldK s₁.heap s'.heap∧s'.os=s₁.os∧AllBare s'.gens) s₁) :
  WalkO q loose XP YP l.row.toRowW d [] (fun f vs=>PySem.call f vs):=by
 intro w s₀ s₁ mg mb G Y fa o pm cd doc dV kV ho hd E9 hD Lr hg args lB as Gk Hl hrd La hlo
 obtain rfl:dV=.none:=Dflts.none hD Mf
 obtain rfl:kV=.none:=Dflts.noKw hD
 obtain ⟨a,vs,ns,rfl,rfl,Hj,F0,Aj⟩:=aBj hn Gk La
 refine enter_call (codeAny_mono (call w s₀ s₁ mg mb fa o pm cd doc a vs ns G Y ho (fd_plain hd) E9 Lr Hj F0 Aj hg) fun r s' hq => ?_)
 obtain ⟨rfl,h2,h3,h4⟩:=hq
 exact ⟨.inl ⟨.bool true,.bool true,[],rfl,fun _=>rfl,.bool true,aBl l _,fun _=>⟨List.Pairwise.nil,fun _ hm=>(nomatch hm)⟩⟩,h2,h3,h4⟩
end Att
namespace L2
open PySem PySem.Spec PyProof.Rows
theorem sK:∀ {vs:List Value} {ns:List Int},IntsAre vs ns→Vals (ns.map V.int) vs
 | _,_,.nil=>.nil
 | _,_,.cons n t h=>.cons ⟨t,rfl⟩ (sK h)
def aUi (H:Hp):Prop := ∀ b,H b=none∨∃ o xs,H b=some (.frz o (.lst xs))
theorem aHe {P:Program} {w:World} {K:eE} {mg mb:lN} {CX:CXT} {k:Nat} {fa a:Addr} {fd:FuncData} {x:Str} {sp:Sp} {s₁:Shared} {vs:List Value} {ns:List Int}
  (KX:K.In s₁.heap) (Db:s₁.heap.Ns mainGlobals mg) (hb:s₁.heap.Ns builtinsNs mb) (hbb:∀ x:Str,x ≠ "__name__" → mb x=bootBuiltins x) (Lu:s₁.heap.NoLimit) (hg:s₁.gens = #[])
  (ha:s₁.heap.get? a=some { cls:=.type "list",data:=.seq vs.toArray }) (hi:IntsAre vs ns) (hl:ns.length≤sizeLine) (hr:Room k callerA)
  (F:∀ base:Heap,K.In base→base.Ns mainGlobals mg→FnOk P w K mg base CX k fa fd [x] sp) (J7:∀ (s:Shared) (u:Value),BindsTo s fd ⟨[u],[]⟩ [(x,u)])
  (Fh:∀ H:Hp,aUi H→SqL K H a (ns.map V.int)→sp [.ref a] H (fun v _=>v=.bl true) fun _ _ _=>False)
  (Mt:∀ H e s',CX [] H s₁ (fun _ _ _=>False) e s'→False) :
  codeAny (model P w) callerA (.call (.ref fa) ⟨[.ref a],[]⟩) (fun r s'=>r=.ok (.ret (.bool true))∧OldK s₁.heap s'.heap∧s'.os=s₁.os∧AllBare s'.gens) s₁:=by
 have rv:=sK hi
 have lenV:=hi.length
 have core:∀ H:Hp,aUi H→SqL K H a (ns.map V.int)→HOk P w H s₁.heap→(∀ b,H b≠none→b=a)→(H a≠none→K.lookup a=none) →
   codeAny (model P w) callerA (.call (.ref fa) ⟨[.ref a],[]⟩) (fun r s'=>r=.ok (.ret (.bool true))∧OldK s₁.heap s'.heap∧s'.os=s₁.os∧AllBare s'.gens) s₁:=by
  intro H hO hS hok hA hK
  have base_of:∀ {b:Addr} {o:Obj},s₁.heap.get? b=some o→H b=none→(wD s₁.heap H).get? b=some o:=fun e n=>aHu e n
  have noA:∀ {b:Addr} {o:Obj} {es:Array DictEntry} {ep:Nat},s₁.heap.get? b=some o→o.data=.dict es ep→H b=none:=fun {b o es ep} e d=>by
   cases q:H b with
   | none=>rfl
   | some u =>
    have e':b=a:=hA b (by rw [q]; simp)
    subst e'
    rw [ha] at e; cases e
    have d':Data.seq vs.toArray _=Data.dict es ep:=d
    cases d'
  have nsK:∀ {b:Addr} {m:lN},s₁.heap.Ns b m→(wD s₁.heap H).Ns b m:=fun {b m} ⟨o,es,ep,e,d,r⟩=>⟨o,es,ep,base_of e (noA e d),d,r⟩
  have N1:K.In (wD s₁.heap H):=fun b o e=>base_of (KX b o e) (by
   cases q:H b with
   | none=>rfl
   | some u =>
    have e':b=a:=hA b (by rw [q]; simp)
    subst e'
    rw [hK (by rw [q]; simp)] at e; cases e)
  have hM:Mod K mg (wD s₁.heap H):=⟨N1,nsK Db,⟨mb,nsK hb,hbb⟩,let ⟨mc,h1,h2⟩:=Lu; ⟨mc,nsK h1,h2⟩⟩
  have e0:Env0 P w K mg (wD s₁.heap H) callerA [] s₁ H:=⟨rfl,hM,fun b o e=>aLs e,Nat.le_of_eq (aCk _ _),trivial,fun b hb=>absurd (show b∈([]:List Addr) from hb) (by simp),hok,.of_eq hg⟩
  refine codeAny_mono ((F _ N1 (nsK Db)).run callerA [] s₁ H ⟨[.ref a],[]⟩ [.ref a] [.ref a] _ _ hr e0 (J7 s₁ (.ref a)) (.cons rfl .nil) (Fh H hO hS)) fun r s' h => ?_
  cases r with
  | error e=>exact (Mt H e s' h).elim
  | ok fl =>
   cases fl with
   | next=>exact False.elim h
   | brk=>exact False.elim h
   | cont=>exact False.elim h
   | ret u =>
    obtain ⟨v,H',os,bare,un,Ll,r',q⟩:=h
    have q':v=.bl true:=q
    subst q'
    obtain rfl:u=Value.bool true:=r'
    refine ⟨rfl,OldK.of_keep fun b o e => ?_,os,bare⟩
    cases q:H b with
    | none=>exact un.keep b o e q (by intro z; exact absurd (show b∈([]:List Addr) from z) (by simp)) (by simp)
    | some u =>
     rcases hO b with z | ⟨ob,xs,z⟩
     ·rw [q] at z; cases z
     ·have z2:=un.frzs b ob _ z
      obtain ⟨e1,_⟩:=hok b _ z
      obtain ⟨e2,_⟩:=Ll b _ z2
      rw [e] at e1; cases e1
      exact e2
 cases hk:K.lookup a with
 | some o =>
  have e:=KX a o hk
  rw [ha] at e
  cases e
  refine core (fun _=>none) (fun _=>.inl rfl) (.inr ⟨_,vs.toArray,_,hk,rfl,rfl,rfl,by rw [aW,lenV]; exact hl,by simpa using rv⟩) (fun b u z=>by have z':(none:Option HO)=some u:=z; cases z') (fun b z=>absurd rfl z) fun z=>absurd rfl z
 | none =>
  refine core (fun b=>if b=a then some (.frz { cls:=.type "list",data:=.seq vs.toArray } (.lst (ns.map V.int))) else none) (fun b => ?_) (.inl (.inr ⟨{ cls:=.type "list",data:=.seq vs.toArray },if_pos rfl⟩)) (fun b u z => ?_) (fun b z => ?_) fun _=>hk
  ·by_cases hb:b=a
   ·exact .inr ⟨_,_,if_pos hb⟩
   ·exact .inl (if_neg hb)
  ·by_cases hb:b=a
   ·have z':=(if_pos hb).symm.trans z
    cases z'
    subst hb
    exact ⟨ha,by rw [aE]; exact hl,vs,_,rv,ha⟩
   ·have z':=(if_neg hb).symm.trans z
    cases z'
  ·by_cases hb:b=a
   ·exact hb
   ·exact absurd (if_neg hb) z
def oB (s:Stmt):Arguments:=match s with
 | .FunctionDef _ a _ _ _ _ _ _ _ _=>a
 | _=>{ posonlyargs:=[],args:=[],vararg:=none,kwonlyargs:=[],kw_defaults:=[],kwarg:=none,defaults:=[] }
def hU (s:Stmt):List Stmt:=match s with
 | .FunctionDef _ _ b _ _ _ _ _ _ _=>b
 | _=>[]
def aQ (s:Stmt):Scope:=match s with
 | .FunctionDef _ _ _ _ _ _ sc _ _ _=>sc
 | _=>{ kind:=.function,names:=[],isGenerator:=false,isCoroutine:=false }
abbrev CX0:CXT:=fun _ _ _ _ _ _=>False
abbrev E0:XK:=fun _ _ _=>False
theorem aWh {X:Cx}:wZ CX0 X E0:=fun _ _ _ _ _ _ _ h=>h.elim
structure Fun (K:eE) (x qual:Str) (st:Stmt) (f:Addr) (fd:FuncData):Prop where
 ex:∃ (oc:Value) (od:Option Addr) (kV doc pm:Value) (an:Option Addr) (Ak ct:Value) (osl:Array (Option Value)),
  fd=PySem.W.fnOf x qual (oB st) (hU st) (aQ st) .none kV doc pm an Ak ct∧K.lookup f=some ⟨oc,od,.func fd,osl⟩∧PySem.W.codeIn K Ak qual=true
 kp:PySem.W.keepIn K (.ref f)=true
section
theorem Fun.ok {x qual:Str} {st:Stmt} {f:Addr} {fd:FuncData} {N ps:List Str} {k:Nat} {sp:Sp} (F:Fun K x qual st f fd) (S:FnScope N ps (aQ st)) (len:∀ vs H Q E,sp vs H Q E→vs.length=ps.length)
  (B1:∀ (Ak:Value) (A:Around) (outer:List Env) (s:Shared) (H:Hp) (vs:List V) (Q:VK) (E:XK),Room k (A.deeper (envOfC qual (aQ st) s.heap.objs.size f Ak))→sp vs H Q E →
   ∃ t,PSs (lM CX0 P w K mg base N qual (aQ st) f Ak A outer s H E).nox (hU st) t∧t { nx:=fun _ H'=>Q .non H',rt:=Q } (start N vs) H):FnOk P w K mg base CX0 (k + 1) f fd ps sp:=by
 obtain ⟨oc,od,kV,doc,pm,an,Ak,ct,osl,rfl,lk,E9⟩:=F.ex
 refine aOt lk E9 S len fun A outer s H vs Q E hr Fh => ?_
 obtain ⟨t,h,q⟩:=B1 Ak A outer s H vs Q E hr Fh
 exact ⟨t,h.nox,q⟩
theorem Fun.binds {x qual:Str} {st:Stmt} {f:Addr} {fd:FuncData} {ps:List Str} (F:Fun K x qual st f fd)
  (h:∀ (kV doc pm:Value) (an:Option Addr) (Ak ct:Value) (us:List Value),us.length=ps.length→bindArgs (PySem.W.fnOf x qual (oB st) (hU st) (aQ st) .none kV doc pm an Ak ct) ⟨us,[]⟩=pure (ps.zip us)):Binds K fd ps []:=by
 obtain ⟨oc,od,kV,doc,pm,an,Ak,ct,osl,rfl,lk,E9⟩:=F.ex
 exact .all (h kV doc pm an Ak ct)
end
theorem qK {A:Around} {k:Nat} (hr:Room k A):A.units + 1 < cLine:=Nat.lt_of_le_of_lt (Nat.add_le_add_left (by decide:1≤64) _) hr.units
section
variable {X:Cx}
theorem pv (i:Nat) {x:Str} {pos:Pos} (hN:X.N[i]? = some x:=by rfl) (hv:Vis X.env.scope x:=by first | exact Or.inl rfl | exact Or.inr (Or.inl rfl) | exact Or.inr (Or.inr rfl)) (hd:(x == ("__debug__" : Str))=false:=by decide)
  (E9:(x == ("__classdict__" : Str))=false:=by decide):PE X (.Name x pos) (iH i):=aQk hN hv hd E9
end
theorem k7 {c A B:Prop} [Decidable c] (h1:c→A) (h2:¬ c→B):if c then A else B:=by
 by_cases h:c
 ·rw [if_pos h]
  exact h1 h
 ·rw [if_neg h]
  exact h2 h
def Same (H H':Hp):Prop := ∀ b o,H b=some o→H' b=some o
theorem Same.refl (H:Hp):Same H H:=fun _ _ h=>h
section
variable {X:Cx}
def aPc (_ j:Int):Prop:=0 < j∧j < 2 ^ 250
theorem aGz {j:Int} (h1:0 < j) (h2:j < 2 ^ 250):j.natAbs.log2 < 9000:=by
 have h0:j.natAbs≠0:=by omega
 have h3:j.natAbs < 2 ^ 250:=by omega
 exact Nat.lt_trans ((Nat.log2_lt h0).mpr h3) (by decide)
theorem aGl:OpR X (binaryOp .FloorDiv) (rI aPc fun i j=>.int (i / j)):=opI fun i j _ _ _ _ _ hc q=>by
 have h1:(0:Int) < j:=hc.1
 exact floordiv_int (by omega) (by rw [Int.fdiv_eq_ediv_of_nonneg i (by omega)]; exact q) (.inl (PyProof.noPylong_of_log2 (aGz hc.1 hc.2)))
def CMulB (i j:Int):Prop:=i.natAbs < 2 ^ 250∧j.natAbs < 2 ^ 250
theorem CMulB.ok {i j:Int} (h:CMulB i j):IntMulOk i j:=by
 have a:Builtin.Int.intBits i≤250:=intBits_le h.1
 have b:Builtin.Int.intBits j≤250:=intBits_le h.2
 unfold IntMulOk Builtin.Int.intTooBig
 intro z
 rw [cZ] at z
 have c:=of_decide_eq_true z.2
 rw [bitsLine_eq] at c
 omega
theorem aLf:OpR X (binaryOp .Mult) (rI CMulB fun i j=>.int (i * j)):=opI fun _ _ _ _ _ _ _ hc q=>mul_int q hc.ok
end
section
variable {K:eE}
theorem aHi (T:String):PySem.W.kitOne K (.type T) (.type T)=some true:=by
 unfold PySem.W.kitOne
 rw [if_pos (beq_self_eq_true _)]
theorem aSe {T S:String} {b:Bool} (h1:(Value.type T == Value.type S)=false) (h2:PySem.W.kitMeta S=true) (h3:(fastBuiltinMro T).map (·.contains (Value.type S))=some b):PySem.W.kitOne K (.type T) (.type S)=some b:=by
 unfold PySem.W.kitOne
 rw [if_neg (by rw [h1]; exact aX)]
 show (if PySem.W.kitMeta S=true then PySem.W.subIn K (.type T) (.type S) else none)=some b
 rw [if_pos h2]
 exact h3
theorem ds_:bootBuiltins "isinstance" = some (.builtin "isinstance"):=by decide +kernel
theorem jz_:bootBuiltins "max" = some (.builtin "max"):=by decide +kernel
theorem aTx:bootBuiltins "min" = some (.builtin "min"):=by decide +kernel
theorem qW:bootBuiltins "int" = some (.type "int"):=by decide +kernel
theorem oG:bootBuiltins "bool" = some (.type "bool"):=by decide +kernel
theorem aJa:bootBuiltins "str" = some (.type "str"):=by decide +kernel
theorem hs_:bootBuiltins "list" = some (.type "list"):=by decide +kernel
theorem fd_:bootBuiltins "tuple" = some (.type "tuple"):=by decide +kernel
theorem wT:bootBuiltins "dict" = some (.type "dict"):=by decide +kernel
end
theorem hq_ {scope:Scope} {env:Env} (h:∀ y∈scope.names,y.2=.free→∃ c,env.cells.lookup y.1=some c) :
  ∃ cl,closureFor scope env=pure cl∧(∀ x c,cl.lookup x=some c→env.cells.lookup x=some c)∧(∀ y∈scope.names,y.2=.free→∃ c,cl.lookup y.1=some c):=by
 have key:∀ (ns:List (Str×NameKind)) (cs:List (Str×Addr)),(∀ y∈ns,y.2=.free→∃ c,env.cells.lookup y.1=some c)→(∀ x c,cs.lookup x=some c→env.cells.lookup x=some c) →
   ∃ cl,(forIn ns cs fun (x:Str×NameKind) (cs:List (Str×Addr))=>(if x.2 == .free then do let c ← cellOf env x.1; pure (ForInStep.yield ((x.1,c) :: cs)) else pure (ForInStep.yield cs):Sem _))=pure cl ∧
    (∀ x c,cl.lookup x=some c→env.cells.lookup x=some c)∧(∀ x c,cs.lookup x=some c→∃ c,cl.lookup x=some c)∧(∀ y∈ns,y.2=.free→∃ c,cl.lookup y.1=some c):=by
  intro ns
  induction ns with
  | nil=>intro cs _ hc; exact ⟨cs,rfl,hc,fun x c e=>⟨c,e⟩,fun y hy=>nomatch hy⟩
  | cons y r ih =>
   intro cs hn hc
   obtain ⟨n,k⟩:=y
   by_cases hk:k=.free
   ·subst hk
    obtain ⟨c,e⟩:=hn (n,.free) aB rfl
    obtain ⟨cl,e1,e2,e3,e4⟩:=ih ((n,c) :: cs) (fun y hy=>hn y (aD _ hy)) (fun x c' q=>by
     rw [cR] at q
     cases hx:x == n with
     | true =>
      rw [hx] at q
      cases q
      have:x=n:=by simpa using hx
      rw [this]
      exact e
     | false =>
      rw [hx] at q
      exact hc x c' q)
    refine ⟨cl,?_,e2,fun x c' q => ?_,fun y hy Kq => ?_⟩
    ·rw [List.forIn_cons]
     have e':env.cells.lookup n=some c:=e
     simp only [beq_self_eq_true,if_true,cellOf,e']
     exact e1
    ·cases hx:x == n with
     | true=>exact e3 x c (by rw [cR,hx])
     | false=>exact e3 x c' (by rw [cR,hx]; exact q)
    ·rcases aI.mp hy with rfl | hy
     ·exact e3 n c (by rw [cR]; simp)
     ·exact e4 y hy Kq
   ·obtain ⟨cl,e1,e2,e3,e4⟩:=ih cs (fun y hy=>hn y (aD _ hy)) hc
    refine ⟨cl,?_,e2,e3,fun y hy Kq => ?_⟩
    ·rw [List.forIn_cons]
     have hb:(k == NameKind.free)=false:=by simpa using hk
     simp only [hb,eZ,if_false]
     exact e1
    ·rcases aI.mp hy with rfl | hy
     ·exact absurd Kq hk
     ·exact e4 y hy Kq
 obtain ⟨cl,e1,e2,_,e4⟩:=key scope.names [] h (fun x c e=>by simp at e)
 refine ⟨cl,?_,e2,e4⟩
 simp only [closureFor]
 rw [show (forIn scope.names ([]:List (Str×Addr)) fun (x:Str×NameKind) (cs:List (Str×Addr))=>(if x.2 == .free then do let c ← cellOf env x.1; pure (ForInStep.yield ((x.1,c) :: cs)) else pure (ForInStep.yield cs):Sem _))=pure cl from e1]
 rfl
theorem jc_ {scope:Scope} {env:Env} {x:Str} {k:NameKind} (h:(relabel scope env).names.lookup x=some k):∃ k0,scope.names.lookup x=some k0∧(k0=k∨(k0=.free∧k=.cell)):=by
 unfold relabel at h
 dsimp only at h
 revert h
 generalize scope.names=ns
 induction ns with
 | nil=>intro h; simp at h
 | cons y r ih =>
  obtain ⟨n,k'⟩:=y
  intro h
  rw [aP] at h
  cases hx:x == n with
  | true =>
   rw [cR,hx]
   refine ⟨k',rfl,?_⟩
   dsimp only at h
   split at h
   ·rename_i hc
    rw [cR,hx] at h
    cases h
    rw [cZ,cZ] at hc
    exact .inr ⟨by simpa using hc.1.1,rfl⟩
   ·rw [cR,hx] at h
    cases h
    exact .inl rfl
  | false =>
   rw [cR,hx]
   dsimp only at h
   apply ih
   split at h
   ·rw [cR,hx] at h; exact h
   ·rw [cR,hx] at h; exact h
theorem uS {scope:Scope} {env:Env} {x:Str} (h:scope.names.lookup x=some .free) (hk:env.scope.kind=.function) (hc:env.kindOf x=some .cell):(relabel scope env).names.lookup x=some .cell:=by
 unfold relabel
 dsimp only
 revert h
 generalize scope.names=ns
 induction ns with
 | nil=>intro h; simp at h
 | cons y r ih =>
  obtain ⟨n,k'⟩:=y
  intro h
  rw [aP]
  cases hx:x == n with
  | true =>
   rw [cR,hx] at h
   cases h
   have:x=n:=by simpa using hx
   subst this
   dsimp only
   rw [if_pos (by rw [hk,hc]; rfl),cR,hx]
  | false =>
   rw [cR,hx] at h
   dsimp only
   split
   ·rw [cR,hx]; exact ih h
   ·rw [cR,hx]; exact ih h
section
variable {prog:Program} {w:World} {A:Around} {R:Result→Shared→Prop} {s:Shared}
theorem wN {elt target iter:Expr} {ifs:List Expr} {scope:Scope} {pos:Pos} {it Ad:Value} {env:Env} (I:Nat→Shared→Prop)
  (turn:∀ n s,I n s→wpAny (model prog w) A (pyNext it) (fun r s₁=>match r with
   | none=>R (.ok .next) s₁
   | some v => wpAny (model prog w) A (letOwnedTupleGo target it v) (fun _ s₀ => wpAny (model prog w) A (assign target env v) (fun _ s₂ =>
     wpAny (model prog w) A (forIn ifs true fun c r=>if r=true then do let ok ← isTrue c env (eval c env); pure (ForInStep.yield ok) else pure (ForInStep.yield r)) (fun ok s₃ =>
      if ok=true then wpAny (model prog w) A (eval elt env) (fun x s₄ =>
       wpAny (model prog w) A (call (.builtin "list.append") [Ad,x]) (fun _ s₅ => ∃ m,m < n∧I m s₅) (fun _ _=>False) s₄) (fun _ _=>False) s₃
      else ∃ m,m < n∧I m s₃) (fun _ _=>False) s₂) (fun _ _=>False) s₀) (fun _ _=>False) s₁) (fun _ _=>False) s)
  (n:Nat) (h:I n s) :
  codeAny (model prog w) A (.compLoop (.ListComp elt [⟨target,iter,ifs,0⟩] scope pos) 0 it Ad env) R s:=by
 refine codeAny_loop rfl I (fun n s hI => ?_) n h
 show wpAny _ A ((compTurn (.ListComp elt [⟨target,iter,ifs,0⟩] scope pos) 0 it Ad env).onRaise (fun x=>do noteFrame x env; theTreesLotGoes x)) _ _ s
 refine wpAny_noted ?_
 rw [compTurn_list]
 refine wpAny_bind (wpAny_standAt (wpAny_bind (wpAny_mono (turn n s hI) (fun r s₁ h₁ => ?_) fun _ _ h'=>h'.elim)))
 cases r with
 | none=>exact wpAny_pure h₁
 | some v =>
  refine wpAny_bind (wpAny_mono h₁ (fun _ s₀ h₀ => ?_) fun _ _ h'=>h'.elim)
  refine wpAny_bind (wpAny_mono h₀ (fun _ s₂ h₂=>wpAny_bind (wpAny_mono h₂ (fun ok s₃ h₃ => ?_) fun _ _ h'=>h'.elim)) fun _ _ h'=>h'.elim)
  cases ok with
  | false=>exact wpAny_pure ⟨rfl,h₃⟩
  | true =>
   exact wpAny_bind (wpAny_bind (wpAny_mono h₃ (fun x s₄ h₄=>wpAny_bind (wpAny_mono h₄ (fun _ s₅ h₅=>wpAny_pure (wpAny_pure ⟨rfl,h₅⟩)) fun _ _ h'=>h'.elim)) fun _ _ h'=>h'.elim))
end
section
variable {X:Cx} {Aa:fO} {σ:St} {H:Hp} {s:Shared}
def PCs (X:Cx) (ifs:List Expr) (t:TT):Prop :=
 ∀ (Aa:fO) (s:Shared) (σ:St) (H:Hp) (Q:Bool→Hp→Prop),Inv X Aa σ H s→t σ H Q →
  wpAny (model X.prog X.w) X.A (forIn ifs true fun c r=>if r=true then do let ok ← isTrue c X.env (eval c X.env); pure (ForInStep.yield ok) else pure (ForInStep.yield r)) (TP X Aa σ Q) X.xe s
def bAn:TT:=fun _ H Q=>Q true H
theorem aLc:PCs X [] bAn:=fun Aa s σ H Q I h=>wpAny_tests_nil ⟨H,I,h⟩
theorem aLb {c:Expr} {t:TT} (h:PT X c t):PCs X [c] t:=fun Aa s σ H Q I q=>wpAny_tests_one (h Aa s σ H Q I q)
end
def kG (n:Nat) (outs:List Nat) (σ:St):St:=List.replicate n none ++ outs.map fun j=>(σ[j]?).join
theorem pC (n:Nat) (outs:List Nat) (σ:St):(kG n outs σ).length=n + outs.length:=by
 unfold kG
 rw [aC,aL,aE]
def dA (X:Cx) (N':List Str) (scope:Scope) (cl:List (Str×Addr)) (C:Addr) (s:Shared) (H:Hp) (ex:List Addr):Cx where
 prog:=X.prog
 w:=X.w
 K:=X.K
 mg:=X.mg
 base:=X.base
 A:=X.A
 N:=N'
 s₀:=s
 H₀:=H
 env:=compEnvC scope cl C X.env
 outer:=X.stack
 stack:=X.stack
 ex:=ex
 fn:=fun _=>false
 calm:=X.calm
 pn:=[]
 xe:=fun _ _=>False
structure CompScope (dsc scope:Scope) (N tgs:List Str) (outs:List Nat) (N':List Str):Prop where
 kind:scope.kind=.function
 names:∀ x∈scope.names,x.2=.local→scope.names.lookup x.1=some .local
 nocell:∀ y∈scope.names,y.2 ≠ .cell
 free:∀ y∈scope.names,y.2=.free→dsc.names.lookup y.1=some .cell
 isN:N'=tgs ++ outs.map (fun j=>N.getD j "")
 lts:∀ j∈outs,j < N.length
 outF:∀ j∈outs,scope.names.lookup (N.getD j "")=some .free
 nd:N'.Nodup
def Tgt (n:Nat) (g:TG):Prop := ∀ x σ H Q,g x σ H Q→g x σ H (fun σ2 H2=>Q σ2 H2∧σ2.length=σ.length∧∀ i,n≤i→σ2[i]? = σ[i]?)
theorem qZ {n i:Nat} (h:i < n):Tgt n (kX i):=fun x σ H Q q=>⟨q,by rw [bB],fun j hj=>dY (by omega)⟩
def aJj (n:Nat) (g:TGs):Prop := ∀ xs σ H Q,g xs σ H Q→g xs σ H (fun σ2 H2=>Q σ2 H2∧σ2.length=σ.length∧∀ i,n≤i→σ2[i]? = σ[i]?)
theorem dp_ {n:Nat}:aJj n aIc:=fun xs σ H Q ⟨e,q⟩=>⟨e,q,rfl,fun _ _=>rfl⟩
def aAu (g:TGs):Prop := ∀ xs σ H Q Q',(∀ σ2 H2,Q σ2 H2→Q' σ2 H2)→g xs σ H Q→g xs σ H Q'
theorem xI {n i:Nat} {u:TGs} (h:i < n) (hu:aJj n u) (mu:aAu u):aJj n (yV (kX i) u):=fun xs σ H Q ⟨v,r,e,q⟩=>by
 refine ⟨v,r,e,?_⟩
 have z:=hu r (σ.set i (some v)) H Q q
 refine mu r _ H _ _ (fun σ2 H2 ⟨a,b,c⟩=>⟨a,?_,fun j hj => ?_⟩) z
 ·rw [b,bB]
 ·rw [c j hj,dY (by omega)]
theorem xJ:aAu aIc:=fun xs σ H Q Q' h ⟨e,q⟩=>⟨e,h _ _ q⟩
theorem co_ {i:Nat} {u:TGs} (mu:aAu u):aAu (yV (kX i) u):=fun xs σ H Q Q' h ⟨v,r,e,q⟩=>⟨v,r,e,mu r _ H _ _ h q⟩
theorem hd_ {K:eE} {n k:Nat} {t:TGs} (h:aJj n t):Tgt n (aIb K k t):=fun x σ H Q ⟨a,xs,e,hq,hl,q⟩=>⟨a,xs,e,hq,hl,h xs σ H Q q⟩
def oX (n:Nat) (outs:List Nat) (wi:TI) (g:TG) (tc:TT) (te:TE):TE:=fun σ H Q=>wi σ H fun J H1 =>
 ∃ W:Nat→Nat→List V→Hp→Prop,(∃ m,W 0 m [] H1)∧∀ i m Ad H,W i m Ad H →
  (J.stop i H∧Ad.length≤sizeLine∧∀ l,H l=none→Q (.ref l) (upd H l (.lst Ad))) ∨
  (J.go i H∧Ad.length < sizeLine∧∃ N:List V→Hp→Prop,(∀ acc' H',N acc' H'→∃ m',m' < m∧W (i + 1) m' acc' H')∧∀ x H',J.yld i H x H'→g x (kG n outs σ) H' fun σ2 H2=>tc σ2 H2 fun b H3 =>
   if b=true then te σ2 H3 fun y H4=>N (Ad ++ [y]) H4 else N Ad H3)
section
variable {X:Cx} {Aa:fO} {σ:St} {H2:Hp} {s2:Shared} {dsc scope:Scope} {tgs N':List Str} {outs:List Nat} {cl:List (Str×Addr)} {fp:List Addr} {C D:Addr} {h1:Heap} {tk:Nat} {mC:lN}
theorem qR (S:CompScope dsc scope X.N tgs outs N') (Cs:X.env.scope=dsc) (I2:Inv X Aa σ H2 s2) (f2:∀ b∈fp,kI X Aa H2 b) (Gs:∀ b∈fp,b < s2.heap.objs.size)
  (Cy:∀ x c,cl.lookup x=some c→X.env.cells.lookup x=some c) (E8:∀ y∈scope.names,y.2=.free→∃ c,cl.lookup y.1=some c)
  (hC:s2.heap.objs.size≤C) (kp:∀ b o,s2.heap.get? b=some o→h1.get? b=some o) (nC:h1.Ns C mC) :
  Inv (dA X N' scope cl C s2 H2 fp) [] (kG tgs.length outs σ) H2 { s2 with heap:=h1,toks:=tk }:=by
 have freeAt:∀ x,scope.names.lookup x=some .free→(relabel scope X.env).names.lookup x=some .cell:=fun x e =>
  uS e I2.ok.kind (by show X.env.scope.names.lookup x=some .cell; rw [Cs]; exact S.free (x,.free) (PySem.mem_of_lookup e) rfl)
 refine ⟨⟨I2.ok.mod,?_,I2.ok.glob,I2.ok.blt,hC,fun x y c e1 e2=>I2.ok.inj x y c (Cy x c e1) (Cy y c e2),fun x hx => ?_,(fun x c h=>nomatch h),I2.ok.hd,I2.ok.frames,.inl rfl,fun b hb => ?_,I2.bs,nzL I2.ok.bsz I2.sz,fun b o e hb => ?_,fun b hb => ?_,I2.stack,I2.stkFree⟩,
  rfl,I2.bare,Un.kept kp,⟨mC,nC,fun i x v e1 e2 e3 => ?_⟩,fun x c e => ?_,I2.hok.fresh hC,fun x c e=>I2.freeC x c (Cy x c e),fun p hp=>absurd (show p∈([]:fO) from hp) (by simp),I2.hok.kept kp,?_⟩
 ·exact S.kind
 ·have Ey:(relabel scope X.env).names.lookup x=some .cell∨(relabel scope X.env).names.lookup x=some .free:=hx
  have z:scope.names.lookup x=some .free:=by
   rcases Ey with Ey | Ey
   ·obtain ⟨k0,e,h | ⟨h,_⟩⟩:=jc_ Ey
    ·rw [h] at e
     exact absurd rfl (S.nocell _ (PySem.mem_of_lookup e))
    ·rw [h] at e; exact e
   ·obtain ⟨k0,e,h | ⟨h,_⟩⟩:=jc_ Ey
    ·rw [h] at e; exact e
    ·rw [h] at e; exact e
  exact E8 (x,.free) (PySem.mem_of_lookup z) rfl
 ·refine ⟨fun z => ?_,fun x c e=>(f2 b hb).2.2.2.2.1 x c (Cy x c e)⟩
  have z':b=C:=z
  exact absurd (bN (Gs b hb) hC) (by rw [z']; exact dZ _)
 ·rcases (f2 b hb).2.2.2.1 with z | z
  ·exact I2.ok.noex b o e z
  ·exact absurd (bN (aS e) (nzL I2.ok.bsz z)) (dZ _)
 ·intro z
  rcases aI.mp (I2.stkSub b z) with z | z
  ·exact (f2 b hb).2.1 z
  ·exact (f2 b hb).2.2.1 z
 ·have e2':(List.replicate tgs.length (none:Option V) ++ outs.map fun j=>(σ[j]?).join)[i]? = some (some v):=e2
  have e1':N'[i]? = some x:=e1
  by_cases hi:i < tgs.length
  ·rw [bS (by rw [aL]; exact hi),cI,if_pos hi] at e2'
   cases e2'
  ·rw [aY (by rw [aL]; omega),aL,bG] at e2'
   rw [S.isN,aY (by omega),bG] at e1'
   cases ej:outs[i - tgs.length]? with
   | none=>rw [ej] at e2'; cases e2'
   | some j =>
    rw [ej] at e1' e2'
    have hj:j∈outs:=aJ ej
    have ex:X.N.getD j "" = x:=ozI e1'
    have ev:(σ[j]?).join=some v:=ozI e2'
    have ev':σ[j]? = some (some v):=by
     cases q:σ[j]? with
     | none=>rw [q] at ev; cases ev
     | some o=>rw [q] at ev; exact congrArg some ev
    have eN:X.N[j]? = some x:=by
     have hl:=S.lts j hj
     rw [← ex,aR,aA hl]
     rfl
    have fx:scope.names.lookup x=some .free:=by rw [← ex]; exact S.outF j hj
    have cx:X.env.scope.names.lookup x=some .cell:=by rw [Cs]; exact S.free (x,.free) (PySem.mem_of_lookup fx) rfl
    obtain ⟨m,hn,hl⟩:=I2.loc
    obtain ⟨u,ru,lk⟩:=hl j x v eN ev' (.inr (.inl cx))
    refine ⟨u,ru,?_⟩
    rcases lk with ⟨k,_⟩ | ⟨k,c,ec,⟨oc,Fj,Hu⟩⟩
    ·have k':X.env.scope.names.lookup x=some .local:=k
     rw [cx] at k'; cases k'
    ·obtain ⟨c',ec'⟩:=E8 (x,.free) (PySem.mem_of_lookup fx) rfl
     have ecc:=Cy x c' ec'
     rw [ec] at ecc
     cases ecc
     exact .inr ⟨.inl (freeAt x fx),c,ec',oc,kp _ _ Fj,Hu⟩
 ·obtain ⟨v,oc,Fj,Hu⟩:=I2.cell x c (Cy x c e)
  exact ⟨v,oc,kp _ _ Fj,Hu⟩
 ·show (kG tgs.length outs σ).length=N'.length
  rw [pC,S.isN,aC,aE]
theorem zT {σ5:St} {H5:Hp} {s5:Shared} {Ad:List V} {its:List Value} {n:Nat} (I2:Inv X Aa σ H2 s2) (I5:Inv (dA X N' scope cl C s2 H2 fp) [] σ5 H5 s5) (f2:∀ b∈fp,kI X Aa H2 b)
  (hD:s2.heap.objs.size≤D) (eD:s5.heap.get? D=some { cls:=.type "list",data:=.seq its.toArray n }) (r:Vals Ad its) (hz:Ad.length≤sizeLine) (hn:H5 D=none):Inv X Aa σ (upd H5 D (.lst Ad)) s5:=by
 have ne:∀ b o,s2.heap.get? b=some o→b≠D:=fun b o e z=>absurd (bN (aS e) (by rw [z]; exact hD)) (dZ _)
 refine I2.call' (ch:=fp) I5.os ⟨fun b o e nn hb hx => ?_,fun b o e nn hb hx => ?_,fun b o e nn hx => ?_,fun b o e hx => ?_,fun b xs e => ?_,fun b o u e => ?_,fun b ps e => ?_⟩ (fun b u e => ?_) I5.bare fun b hb=>⟨(f2 b hb).2.2.2.1,(f2 b hb).2.1,(f2 b hb).2.2.2.2.1,(f2 b hb).2.2.2.2.2⟩
 ·exact I5.base.keep b o e nn hb hx
 ·exact I5.base.slot b o e nn hb hx
 ·rw [gA (ne b o e)]
  exact I5.base.free b o e nn hx
 ·exact I5.base.there b o e hx
 ·have q:=I5.base.tups b xs e
  rw [gA (d3 q hn)]
  exact q
 ·have q:=I5.base.frzs b o u e
  rw [gA (d3 q hn)]
  exact q
 ·obtain ⟨more,q⟩:=I5.base.tbls b ps e
  refine ⟨more,?_⟩
  rw [gA (d3 q hn)]
  exact q
 ·by_cases hb:b=D
  ·subst hb
   rw [cX] at e
   cases e
   exact ⟨hz,its,n,r,eD⟩
  ·rw [gA hb] at e
   exact (I5.hok b u e).stay (fun c v _ q=>q) (fun c q=>by rw [gA (d3 q hn)]; exact q) fun c xs q=>by rw [gA (d3 q hn)]; exact q
end
theorem gp_ {n:Nat} {outs:List Nat} {σ σ6:St} (k6:∀ i,n≤i→σ6[i]? = (kG n outs σ)[i]?):∀ (i:Nat) v,(kG n outs σ)[i]? = some (some v)→σ6[i]? = some (some v):=fun i v e=>by
 by_cases hi:n≤i
 ·rw [k6 i hi]; exact e
 ·unfold kG at e
  rw [bS (by rw [aL]; omega),cI,if_pos (by omega)] at e
  cases e
section
variable {X:Cx} {tg elt iter:Expr} {ifs:List Expr} {dsc scope:Scope} {tgs N':List Str} {outs:List Nat} {wi:TI} {g:TG} {tc:TT} {te:TE} {pos:Pos}
theorem qS {Aa:fO} {σ:St} {H2:Hp} {s2:Shared} {cl:List (Str×Addr)} {it:Addr} {fp:List Addr} {tn:Nat→Heap→Prop} {J:It} (S:CompScope dsc scope X.N tgs outs N') (Cs:X.env.scope=dsc) (hc:X.calm=true)
  (hg:∀ cl C s H ex,PG (dA X N' scope cl C s H ex) tg g) (Dy:Tgt tgs.length g) (Dp:∀ cl C s H ex,PCs (dA X N' scope cl C s H ex) ifs tc) (he:∀ cl C s H ex,PE (dA X N' scope cl C s H ex) elt te)
  (Cy:∀ x c,cl.lookup x=some c→X.env.cells.lookup x=some c) (E8:∀ y∈scope.names,y.2=.free→∃ c,cl.lookup y.1=some c)
  (I2:Inv X Aa σ H2 s2) (T:Turn X.prog X.w X.K tg J fp it tn) (Es:tn 0 s2.heap) (f2:∀ b∈fp,kI X Aa H2 b)
  {W:Nat→Nat→List V→Hp→Prop} {m0:Nat} (w0:W 0 m0 [] H2) {Qf:List V→Hp→Prop}
  (turn:∀ i m Ad H,W i m Ad H→(J.stop i H∧Ad.length≤sizeLine∧Qf Ad H)∨(J.go i H∧Ad.length < sizeLine∧∃ N:List V→Hp→Prop,(∀ acc' H',N acc' H'→∃ m',m' < m∧W (i + 1) m' acc' H')∧∀ x H',J.yld i H x H'→g x (kG tgs.length outs σ) H' fun σ2 H2=>tc σ2 H2 fun b H3 =>
   if b=true then te σ2 H3 fun y H4=>N (Ad ++ [y]) H4 else N Ad H3))
  {E:hW} {RR:Value→Addr→Result→Shared→Prop}
  (A5:∀ D C s5 mC Ad H5,Inv X Aa σ (upd H5 D (.lst Ad)) s5→H5 D=none→Qf Ad H5→s5.heap.Ns C mC→kI X Aa (upd H5 D (.lst Ad)) C→RR (.ref D) C (.ok .next) s5) :
  wpAny (model X.prog X.w) X.A (newList []) (fun Ad s₃=>wpAny (model X.prog X.w) X.A (newFunctionEnv scope X.env.globals cl [] X.env.qual none .none (some X.env)) (fun cenv s₄ =>
   codeAny (model X.prog X.w) X.A (.compStart (.ListComp elt [⟨tg,iter,ifs,0⟩] scope pos) 0 (.ref it) Ad { cenv with scope:=relabel scope X.env }) (RR Ad cenv.locals) s₄) E s₃) E s2:=by
 have Gs:∀ b∈fp,b < s2.heap.objs.size:=fun b hb=>let ⟨o,e,_⟩:=T.obj 0 _ Es b hb; aS e
 refine wpAny_newObj_type (wpAny_newFunctionEnv S.nocell (by intro y hy; simp at hy) (fun h₁ hns₁ hsb₁ => ?_) S.kind)
 dsimp only at hns₁ hsb₁ ⊢
 generalize H9:s2.heap.push { cls:=.type "list",dict:=none,data:=.seq ([]:List Value).toArray }=HH at hns₁ hsb₁ ⊢
 have hC:HH.objs.size=s2.heap.objs.size + 1:=by rw [← H9,gQ]
 have Gy:s2.heap.objs.size≠HH.objs.size:=by rw [hC]; exact cO (Nat.lt_succ_self _)
 have Fa:s2.heap.objs.size≤HH.objs.size:=by rw [hC]; exact Nat.le_succ _
 have old:∀ b o,s2.heap.get? b=some o→h₁.get? b=some o:=fun b o e=>hsb₁.extBut b o (by rw [hC]; exact cO (Nat.lt_succ_of_lt (aS e))) (aG _ (H9 ▸ aG _ e))
 have Cq:h₁.get? s2.heap.objs.size=some { cls:=.type "list",data:=.seq ([]:List Value).toArray 0 }:=hsb₁.extBut _ _ Gy (aG _ (H9 ▸ bC _ rfl))
 have F6:∀ b∈fp,s2.heap.objs.size≠b:=fun b hb=>iF (Gs b hb)
 have fresh2:H2 s2.heap.objs.size=none:=I2.hok.fresh (aV _)
 have I4:=qR (tk:=s2.toks + ([]:List (Str×Value)).length) S Cs I2 f2 Gs Cy E8 Fa old hns₁
 have Iz:tn 0 h₁:=T.keep 0 _ _ Es fun b hb o e=>old b o e
 generalize hCC:HH.objs.size=C at *
 generalize Gx:s2.heap.objs.size=D at *
 have nofs:D∉(dA X N' scope cl C s2 H2 fp).fs:=fun z=>by
  obtain ⟨_,o,ho,_⟩:=I2.stack.mem (show D∈frs X.stack from z)
  have:=aS ho
  rw [Gx] at this
  exact dZ _ this
 have pinD:∀ {σ':St} {H':Hp} {s':Shared} {its:List Value} {n:Nat},Inv (dA X N' scope cl C s2 H2 fp) [] σ' H' s'→s'.heap.get? D=some { cls:=.type "list",data:=.seq its.toArray n }→H' D=none →
   Inv (dA X N' scope cl C s2 H2 fp) [(D,{ cls:=.type "list",data:=.seq its.toArray n })] σ' H' s':=fun {σ' H' s' its n} J e hn=>J.pins_of fun p hp=>by
  have ep:p=(D,{ cls:=.type "list",data:=.seq its.toArray n }):=by simpa using hp
  subst ep
  exact ⟨e,hn,Gy,nofs,fun v z=>by cases z⟩
 have stat:∀ {H':Hp} {o:Obj},(∀ b∈fp,H' b=none)→∀ b∈fp,kI (dA X N' scope cl C s2 H2 fp) [(D,o)] H' b:=fun {H' o} hn b hb=>by
  refine ⟨hn b hb,(I4.ok.exf b hb).1,I4.ok.exfs b hb,.inl hb,(I4.ok.exf b hb).2,fun p hp => ?_⟩
  have Fi:p∈([]:fO) ++ [(D,o)]:=hp
  have ep:p=(D,o):=by simpa using Fi
  subst ep
  exact F6 b hb
 have loop:∀ s₃:Shared,s₃={ s2 with heap:=h₁,toks:=s2.toks + ([]:List (Str×Value)).length } →
   codeAny (model X.prog X.w) X.A (.compLoop (.ListComp elt [⟨tg,iter,ifs,0⟩] scope pos) 0 (.ref it) (.ref D) (compEnvC scope cl C X.env)) (RR (.ref D) C) s₃:=by
  rintro s₃ rfl
  refine wN (fun m s' => ∃ i Ad H its n,Inv (dA X N' scope cl C s2 H2 fp) [(D,{ cls:=.type "list",data:=.seq its.toArray n })] (kG tgs.length outs σ) H s'∧tn i s'.heap∧(∀ b∈fp,H b=none)∧Vals Ad its∧W i m Ad H) ?_ m0
   ⟨0,[],H2,[],0,pinD I4 Cq fresh2,Iz,fun b hb=>(f2 b hb).1,.nil,w0⟩
  rintro m s' ⟨i,Ad,H,its,n,I',st',fr',rD,w'⟩
  rcases turn i m Ad H w' with ⟨stop,hz,q⟩ | ⟨go,hz,N,hN,step⟩
  ·refine fE (T.done (dA X N' scope cl C s2 H2 fp) rfl rfl rfl hc i _ s' _ H _ I' (stat fr') st' stop) fun r s4 ⟨hr,J4⟩ => ?_
   subst hr
   obtain ⟨eD,nD,_⟩:=J4.pin (D,{ cls:=.type "list",data:=.seq its.toArray n }) (aK _ aB)
   obtain ⟨mC,nsC,_⟩:=J4.loc
   have I5:Inv X Aa σ (upd H D (.lst Ad)) s4:=zT (D:=D) I2 (J4.pins_of (pins':=[]) (fun p hp=>nomatch hp)) f2 (by rw [Gx]; exact aV _) eD rD hz nD
   refine A5 D C s4 mC Ad H I5 nD q nsC (I2.fpOk (by rw [Gx]; exact Fa) ?_)
   rw [gA (Ne.symm Gy)]
   exact J4.free
  ·refine fE (T.item (dA X N' scope cl C s2 H2 fp) rfl rfl rfl hc i _ s' _ H _ I' (stat fr') st' go) fun r s4 ⟨u,hr,h4⟩ => ?_
   subst hr
   dsimp only
   refine fE h4 fun _ s5 ⟨x,H5,I5,r5,y5,Ek,Kf⟩ => ?_
   have I5':=I5.pinned (stat Kf) (T.obj _ _ Ek)
   refine fE (hg cl C s2 H2 fp _ s5 _ H5 x u _ I5' r5 (Dy x _ H5 _ (step x H5 y5))) fun _ s6 ⟨σ6,H6,I6,q6,l6,k6⟩ => ?_
   refine fE (Dp cl C s2 H2 fp _ s6 σ6 H6 _ I6 q6) fun b s7 ⟨H7,I7,q7⟩ => ?_
   have tail:∀ {H':Hp} {s':Shared},Inv (dA X N' scope cl C s2 H2 fp) ([(D,{ cls:=.type "list",data:=.seq its.toArray n })] ++ lK fp s5.heap) σ6 H' s'→(∀ b∈fp,∀ o,s5.heap.get? b=some o→s'.heap.get? b=some o)∧∀ b∈fp,H' b=none:=fun {H' s'} J =>
    ⟨fun b hb o e=>(J.pin (b,o) (aK _ (aK _ (df_ hb e)))).1,fun b hb=>by
     obtain ⟨o,e,d⟩:=T.obj _ _ Ek b hb
     exact (J.pin (b,o) (aK _ (aK _ (df_ hb e)))).2.1⟩
   cases b with
   | false =>
    rw [if_neg aX] at q7 ⊢
    obtain ⟨m',hm,w7⟩:=hN _ _ q7
    obtain ⟨t1,t2⟩:=tail I7
    exact ⟨m',hm,i + 1,Ad,H7,its,n,I7.unpinned.weak l6.symm (gp_ k6),T.keep _ _ _ Ek t1,t2,rD,w7⟩
   | true =>
    rw [if_pos rfl] at q7 ⊢
    refine fE (he cl C s2 H2 fp _ s7 σ6 H7 _ I7 q7) fun v s8 ⟨y,H8,I8,r8,q8⟩ => ?_
    obtain ⟨m',hm,w8⟩:=hN _ _ q8
    obtain ⟨t1,t2⟩:=tail I8
    obtain ⟨eD,nD,_⟩:=I8.pin (D,{ cls:=.type "list",data:=.seq its.toArray n }) (aK _ (bJ _ aB))
    have hl:=rD.length
    refine call_meets F.slot_list_append ⟨_,eD,rfl⟩ F.entry_list_append (F.args_list_append_2 _ _) (PySem.list_append D its.toArray n v (by rw [aW]; omega)) ⟨eD,?_⟩
    have q:=PySem.IsL.update eD (·.push v)
    have eA:its.toArray.push v=(its ++ [v]).toArray:=by simp
    rw [eA] at q
    refine ⟨m',hm,i + 1,Ad ++ [y],H8,its ++ [v],_,pinD (Inv.weak (Inv.turned (it:=D) (I8.pins_of (pins':=[]) (fun p hp=>nomatch hp)) (fun b o hb e=>(bM _ _ (Ne.symm hb)).trans e) nD Gy (.inr (by show s2.heap.objs.size≤D; rw [Gx]; exact aV _)) (fun x c e z => ?_) (fun p hp=>nomatch hp)) l6.symm (gp_ k6)) q nD,
     T.keep _ _ _ Ek (fun b hb o e=>(bM _ _ (F6 b hb)).trans (t1 b hb o e)),t2,rD.append (.cons r8 .nil),w8⟩
    obtain ⟨v',oc,Fj,Hu⟩:=I8.cell x c e
    rw [z,eD] at Fj
    cases Fj
    cases Hu
 exact codeAny_compStart_list (loop _ rfl) (T.self X.A 0 _ _ _ Iz (loop _ rfl))
theorem vB {N:List Str} (S:CompScope dsc scope N tgs outs N') (hi:PI X tg iter wi) (hg:∀ cl C s H ex,PG (dA X N' scope cl C s H ex) tg g) (Dy:Tgt tgs.length g) (Dp:∀ cl C s H ex,PCs (dA X N' scope cl C s H ex) ifs tc)
  (he:∀ cl C s H ex,PE (dA X N' scope cl C s H ex) elt te) (Fo:X.N=N:=by rfl) (Cs:X.env.scope=dsc:=by rfl) (hc:X.calm=true:=by rfl) (hs:∀ x,foldedSetIterable iter X.env x=pure x:=by intro _; rfl) :
  PE X (.ListComp elt [⟨tg,iter,ifs,0⟩] scope pos) (oX tgs.length outs wi g tc te):=by
 subst Fo
 intro Aa s σ H Q I h
 obtain ⟨cl,e1,e2,e3⟩:=hq_ (scope:=scope) (env:=X.env) (fun y hy hk=>I.ok.has y.1 (.inl (by show X.env.scope.names.lookup y.1=_; rw [Cs]; exact S.free y hy hk)))
 rw [eval_ListComp]
 refine wpAny_comprehension_free (use:=none) rfl hs e1 S.kind S.names (wpAny_mono (hi Aa s σ H _ I h) (fun xv s1 h1=>wpAny_mono h1 (fun itv s2 h2 => ?_) fun _ _ e=>e) fun _ _ e=>e)
 obtain ⟨it,fp,tn,J,H2,rfl,I2,T,Es,f2,W,⟨m0,w0⟩,turn⟩:=h2
 refine qS (RR:=fun Ad C=>compPost (model X.prog X.w) X.A X.xe none (EP X Aa σ Q) Ad C) S Cs hc hg Dy Dp he e2 e3 I2 T Es f2 w0 (Qf:=fun Ad H => ∀ l,H l=none→Q (.ref l) (upd H l (.lst Ad))) turn ?_
 intro D C s5 mC Ad H5 I5 nD q nsC hf
 refine ⟨mC,nsC,fun h' Jo=>⟨.ref D,_,?_,rfl,q D nD⟩⟩
 exact I5.turned (it:=C) (t':=s5.toks) (fun b o hb e=>(Jo.2 b hb).trans e) hf.1 hf.2.1 hf.2.2.2.1 hf.2.2.2.2.1 hf.2.2.2.2.2
theorem gc_ {N:List Str} {i:Nat} {x:Str} {px spos:Pos} (hN:X.N.Nodup) (hx:X.N[i]? = some x) (hl:X.env.scope.names.lookup x=some .local) (S:CompScope dsc scope N tgs outs N') (hi:PI X tg iter wi) (hg:∀ cl C s H ex,PG (dA X N' scope cl C s H ex) tg g) (Dy:Tgt tgs.length g)
  (Dp:∀ cl C s H ex,PCs (dA X N' scope cl C s H ex) ifs tc) (he:∀ cl C s H ex,PE (dA X N' scope cl C s H ex) elt te)
  (hsw:swapsWith (.ListComp elt [⟨tg,iter,ifs,0⟩] scope pos) (some (.Name x px)) spos.line X.env=pure true:=by rfl)
  (Fo:X.N=N:=by rfl) (Cs:X.env.scope=dsc:=by rfl) (hc:X.calm=true:=by rfl) (hs:∀ x,foldedSetIterable iter X.env x=pure x:=by intro _; rfl) :
  PS X (.Assign [.Name x px] (.ListComp elt [⟨tg,iter,ifs,0⟩] scope pos) spos) (xU (oX tgs.length outs wi g tc te) (kX i)):=by
 subst Fo
 intro Aa s σ H Dn I h
 obtain ⟨cl,e1,e2,e3⟩:=hq_ (scope:=scope) (env:=X.env) (fun y hy hk=>I.ok.has y.1 (.inl (by show X.env.scope.names.lookup y.1=_; rw [Cs]; exact S.free y hy hk)))
 rw [exec_Assign_Name_used _ _ _ _ hsw]
 refine wpAny_bind (wpAny_standAt (wpAny_bind ?_))
 show wpAny _ X.A (do let _ ← comprehension (.ListComp elt [⟨tg,iter,ifs,0⟩] scope pos) scope X.env _ (newList []) false (eval iter X.env) (some (assign (.Name x px) X.env))) _ _ s
 refine wpAny_bind (wpAny_mono (wpAny_comprehension_free (use:=some (assign (.Name x px) X.env)) (Q:=fun _ s'=>SP X Aa Dn .next s') rfl hs e1 S.kind S.names
  (wpAny_mono (hi Aa s σ H _ I h) (fun xv s1 h1=>wpAny_mono h1 (fun itv s2 h2 => ?_) fun _ _ e=>e) fun _ _ e=>e)) (fun _ s' hq=>wpAny_pure (wpAny_pure hq)) fun _ _ e=>e)
 obtain ⟨it,fp,tn,J,H2,rfl,I2,T,Es,f2,W,⟨m0,w0⟩,turn⟩:=h2
 refine qS (RR:=fun Ad C=>compPost (model X.prog X.w) X.A X.xe (some (assign (.Name x px) X.env)) (fun _ s'=>SP X Aa Dn .next s') Ad C) S Cs hc hg Dy Dp he e2 e3 I2 T Es f2 w0
  (Qf:=fun Ad H => ∀ l,H l=none→Dn.nx (σ.set i (some (.ref l))) (upd H l (.lst Ad))) turn ?_
 intro D C s5 mC Ad H5 I5 nD q nsC hf
 show wpAny _ X.A (assign (.Name x px) X.env (.ref D)) _ _ _
 refine wpAny_assign_Name (iw_ I5 hN hx (.inl hl) (show RelV (.ref D) (.ref D) from rfl) (fun s' I' ⟨a,sb,ha⟩ => ?_) (.inr hl))
 have hCa:C≠a:=by
  rcases ha with ha | ha
  ·rw [ha]; exact hf.2.1
  ·exact Ne.symm (hf.2.2.2.2.1 x a ha)
 refine ⟨mC,nsC.sameBut sb hCa,fun h' Jo=>⟨_,_,I'.turned (it:=C) (t':=s'.toks) (fun b o hb e=>(Jo.2 b hb).trans e) hf.1 hf.2.1 hf.2.2.2.1 hf.2.2.2.2.1 hf.2.2.2.2.2,q D nD⟩⟩
end
def SIter (t:Bool) (h:Heap) (it l:Addr) (k:Nat):Prop:=if t=true then h.IsTupleIter it l k else h.IsListIter it l k
def SSeq (t:Bool) (h:Heap) (l:Addr) (xs:Array Value):Prop:=if t=true then h.IsTuple l xs else h.IsList l xs
theorem SIter.obj {t:Bool} {h:Heap} {it l:Addr} {k:Nat} (x:SIter t h it l k):∃ o,h.get? it=some o∧∀ v,o.data ≠ .cell v:=by
 cases t
 ·obtain ⟨o,e,_,d⟩:=(show h.IsListIter it l k from x); exact ⟨o,e,fun v z=>by rw [d] at z; cases z⟩
 ·obtain ⟨o,e,_,d⟩:=(show h.IsTupleIter it l k from x); exact ⟨o,e,fun v z=>by rw [d] at z; cases z⟩
theorem SIter.to {t:Bool} {h h':Heap} {it l:Addr} {k:Nat} (x:SIter t h it l k) (e:∀ o,h.get? it=some o→h'.get? it=some o):SIter t h' it l k:=by
 cases t
 ·obtain ⟨o,a,r⟩:=(show h.IsListIter it l k from x); exact ⟨o,e o a,r⟩
 ·obtain ⟨o,a,r⟩:=(show h.IsTupleIter it l k from x); exact ⟨o,e o a,r⟩
theorem SSeq.to {t:Bool} {h h':Heap} {l:Addr} {xs:Array Value} (x:SSeq t h l xs) (e:∀ o,h.get? l=some o→h'.get? l=some o):SSeq t h' l xs:=by
 cases t
 ·obtain ⟨o,a,r⟩:=(show h.IsList l xs from x); exact ⟨o,e o a,r⟩
 ·obtain ⟨o,a,r⟩:=(show h.IsTuple l xs from x); exact ⟨o,e o a,r⟩
section
variable {prog:Program} {w:World} {A:Around} {E:hW} {s:Shared}
theorem j6 {it l:Addr} {i:Nat} {items:Array Value} {x:Value} {Q:hW} (Do:s.heap.IsTupleIter it l i) (hl:s.heap.IsTuple l items) (hx:items[i]? = some x)
  (hQ:∀ h',h'.IsTupleIter it l (i + 1)→Heap.SameBut it s.heap h'→Q x { s with heap:=h' }):wpAny (model prog w) A (Builtin.SmallTypes.nextOf (.ref it)) Q E s:=by
 obtain ⟨o,ho,hc,hd⟩:=id Do; obtain ⟨ol,Lk,_,nl,Ht⟩:=hl
 unfold Builtin.SmallTypes.nextOf
 refine wpAny_bind (wpAny_callSpecial?_slot (name:=Str.ofString "__next__") Do.typeIs F.slot_tuple_iterator_next (wpAny_call_entry F.slot_tuple_iterator_next Do.typeIs F.entry_tuple_iterator_next ?_ (F.args_tuple_iterator_next_1 _)))
 show wpAny _ _ (field (.ref it) 0 >>= _) _ _ s; refine wpAny_bind (wpAny_field ho hd (x:=.ref l) rfl ?_)
 show wpAny _ _ (if (Value.ref l == Value.none)=true then _ else _) _ _ s; rw [if_neg (show ¬ ((Value.ref l == Value.none)=true) from aX)]
 show wpAny _ _ (field (.ref it) 1 >>= _) _ _ s; refine wpAny_bind (wpAny_field ho hd (x:=.int i 0) rfl ?_)
 show wpAny _ _ (seqItems? (.ref l) >>= _) _ _ s; refine wpAny_bind (wpAny_seqItems Lk Ht ?_); simp only [cL,hx]
 exact wpAny_bind (wpAny_setField ho hd (by simp) (wpAny_pure ⟨x,rfl,wpAny_pure (hQ _ ⟨_,gB _ ho (Obj.isFreed_of_fields (Obj.data_mapFields hd _)),(Obj.cls_mapFields ..).trans hc,by rw [Obj.data_mapFields hd]; simp [rawInt]⟩ (Heap.SameBut.update ..))⟩))
theorem yI {it l:Addr} {i:Nat} {items:Array Value} {Q:hW} (hh:A.handled=none) (Do:s.heap.IsTupleIter it l i) (hl:s.heap.IsTuple l items) (hx:items[i]? = none)
  (hE:∀ h' e,Heap.ExtBut it s.heap h'→(∃ o,h'.get? e=some o∧o.cls=.type "StopIteration")→E (.ref e) { s with heap:=h' }):wpAny (model prog w) A (Builtin.SmallTypes.nextOf (.ref it)) Q E s:=by
 obtain ⟨o,ho,hc,hd⟩:=id Do; obtain ⟨ol,Lk,_,nl,Ht⟩:=hl
 unfold Builtin.SmallTypes.nextOf
 refine wpAny_bind (wpAny_callSpecial?_slot (name:=Str.ofString "__next__") Do.typeIs F.slot_tuple_iterator_next (wpAny_call_entry F.slot_tuple_iterator_next Do.typeIs F.entry_tuple_iterator_next ?_ (F.args_tuple_iterator_next_1 _)))
 show wpAny _ _ (field (.ref it) 0 >>= _) _ _ s; refine wpAny_bind (wpAny_field ho hd (x:=.ref l) rfl ?_)
 show wpAny _ _ (if (Value.ref l == Value.none)=true then _ else _) _ _ s; rw [if_neg (show ¬ ((Value.ref l == Value.none)=true) from aX)]
 show wpAny _ _ (field (.ref it) 1 >>= _) _ _ s; refine wpAny_bind (wpAny_field ho hd (x:=.int i 0) rfl ?_)
 show wpAny _ _ (seqItems? (.ref l) >>= _) _ _ s; refine wpAny_bind (wpAny_seqItems Lk Ht ?_); simp only [cL,hx]
 refine wpAny_bind (wpAny_rule (wpAny_bind (wpAny_setField ho hd (by simp) ?_))); show wpAny _ _ (newExc (.type "StopIteration") [] >>= _) _ _ _
 refine wpAny_bind ?_; simp only [newExc,newTuple]; refine wpAny_bind (wpAny_newObj_type ?_ (by size_fits))
 refine wpAny_bind (m:=firstArgMember _ _) (wpAny_of_eq (a:=Value.none) (by first | rfl | (simp only [firstArgMember]; rfl)) ?_); refine wpAny_newObj_type ?_ (by size_fits); simp only [raiseNew]
 refine wpAny_bind (wpAny_handled ?_); first | rw [show A.in1.handled=none from hh] | rw [hh]
 refine wpAny_bind (wpAny_pure (wpAny_throw ?_)); exact hE _ _ (((Heap.SameBut.update ..).extBut.push _).push _) ⟨_,bC _ rfl,rfl⟩
theorem pM {t:Bool} {it l:Addr} {i:Nat} {items:Array Value} {x:Value} {Q:hW} (Do:SIter t s.heap it l i) (hl:SSeq t s.heap l items) (hx:items[i]? = some x)
  (hQ:∀ h',SIter t h' it l (i + 1)→Heap.SameBut it s.heap h'→Q x { s with heap:=h' }):wpAny (model prog w) A (Builtin.SmallTypes.nextOf (.ref it)) Q E s:=by
 cases t
 ·exact wpAny_nextOf_list_item Do hl hx hQ
 ·exact j6 Do hl hx hQ
theorem sW {t:Bool} {it l:Addr} {i:Nat} {items:Array Value} {Q:hW} (hh:A.handled=none) (Do:SIter t s.heap it l i) (hl:SSeq t s.heap l items) (hx:items[i]? = none)
  (hE:∀ h' e,Heap.ExtBut it s.heap h'→(∃ o,h'.get? e=some o∧o.cls=.type "StopIteration")→E (.ref e) { s with heap:=h' }):wpAny (model prog w) A (Builtin.SmallTypes.nextOf (.ref it)) Q E s:=by
 cases t
 ·exact wpAny_nextOf_list_end hh Do hl hx hE
 ·exact yI hh Do hl hx hE
theorem aAz {t1 t2:Bool} {z TI TO i1 i2 l1 l2:Addr} {k1 k2:Nat} {xs ys:Array Value} {x y a b:Value} {Q:hW} (D:ZipApart z TI TO i1 i2 l1 l2)
  (hz:IsZip s.heap z TI TO .none) (C9:IsPair s.heap TI (.ref i1) (.ref i2)) (De:IsPair s.heap TO a b)
  (h1:SIter t1 s.heap i1 l1 k1) (h2:SIter t2 s.heap i2 l2 k2) (Dw:SSeq t1 s.heap l1 xs) (Ch:SSeq t2 s.heap l2 ys) (hx:xs[k1]? = some x) (hy:ys[k2]? = some y)
  (hQ:∀ h',IsZip h' z TI TO (rawInt s.heap.objs.size)→IsPair h' TO x y→SIter t1 h' i1 l1 (k1 + 1)→SIter t2 h' i2 l2 (k2 + 1)→IsPair h' s.heap.objs.size x y→h'.objs.size=s.heap.objs.size + 1 →
   (∀ c o,c≠z→c≠TO→c≠i1→c≠i2→s.heap.get? c=some o→h'.get? c=some o)→Q (.ref s.heap.objs.size) { s with heap:=h' }) :
  wpAny (model prog w) A (Builtin.«zip.__next__» ⟨[.ref z],[]⟩) (fun A5 s' => ∃ v,A5=.done (.ret v)∧Q v s') E s:=by
 show wpAny _ _ (field (.ref z) 2 >>= _) _ _ _; refine wpAny_bind (wpAny_field hz rfl (x:=.bool false) rfl ?_)
 show wpAny _ _ (field (.ref z) 3 >>= _) _ _ _; refine wpAny_bind (wpAny_field hz rfl (x:=.ref TI) rfl ?_); refine wpAny_bind (wpAny_seqItems C9 rfl ?_)
 show wpAny _ _ (Builtin.SmallTypes.ownedTupleIsFree (.ref z) >>= _) _ _ _; refine wpAny_bind ?_; unfold Builtin.SmallTypes.ownedTupleIsFree
 refine wpAny_bind (wpAny_field hz rfl (x:=.none) rfl (wpAny_pure ?_)); simp only [if_true]; refine wpAny_bind (wpAny_rule ?_)
 refine wpAny_bind (wpAny_field hz rfl (x:=.ref TO) rfl ?_); refine wpAny_bind (wpAny_setField_rec hz (by simp) fun q1 hz₁ s1 => ?_); replace hz₁:IsZip q1 z TI TO .ellipsis:=hz₁
 refine wpAny_bind ?_; simp only [List.zipIdx_cons,List.zipIdx_nil,List.forIn_cons,List.forIn_nil]
 refine wpAny_bind (wpAny_bind (wpAny_onRaise ?_)); show wpAny _ _ (Builtin.SmallTypes.nextOf (.ref i1) >>= _) _ _ _
 refine wpAny_bind (pM (h1.to fun o e=>s1.extBut _ _ D.i1z e) (Dw.to fun o e=>s1.extBut _ _ D.l1z e) hx fun q2 a2 s2=>wpAny_pure ?_)
 have b2:IsPair q2 TO a b:=s2.extBut _ _ D.TOi1 (s1.extBut _ _ D.TOz De)
 refine wpAny_bind (wpAny_seqItems b2 rfl ?_); refine wpAny_bind (wpAny_updateSeq_pair b2 fun q3 b3 s3 => ?_); replace b3:IsPair q3 TO x b:=b3
 refine wpAny_bind (wpAny_letGo (wpAny_pure ?_)); refine wpAny_bind (wpAny_bind (wpAny_onRaise ?_)); show wpAny _ _ (Builtin.SmallTypes.nextOf (.ref i2) >>= _) _ _ _
 refine wpAny_bind (pM (h2.to fun o e=>s3.extBut _ _ D.TOi2.symm (s2.extBut _ _ D.i12.symm (s1.extBut _ _ D.i2z e))) (Ch.to fun o e=>s3.extBut _ _ D.l2TO (s2.extBut _ _ D.l2i1 (s1.extBut _ _ D.l2z e))) hy fun q4 a4 s4=>wpAny_pure ?_)
 have b4:IsPair q4 TO x b:=s4.extBut _ _ D.TOi2 b3
 refine wpAny_bind (wpAny_seqItems b4 rfl ?_); refine wpAny_bind (wpAny_updateSeq_pair b4 fun q5 b5 s5 => ?_); replace b5:IsPair q5 TO x y:=b5
 refine wpAny_bind (wpAny_letGo (wpAny_pure (wpAny_pure ?_))); refine wpAny_bind (wpAny_seqItems b5 rfl ?_); refine wpAny_bind (wpAny_newTuple ?_)
 have hsz:q5.objs.size=s.heap.objs.size:=by rw [s5.1,s4.1,s3.1,s2.1,s1.1]
 have z5:IsZip q5 z TI TO .ellipsis:=s5.extBut _ _ D.TOz.symm (s4.extBut _ _ D.i2z.symm (s3.extBut _ _ D.TOz.symm (s2.extBut _ _ D.i1z.symm hz₁)))
 have k5:∀ c o,c≠z→c≠TO→c≠i1→c≠i2→s.heap.get? c=some o→q5.get? c=some o:=fun c o c1 c2 c3 c4 e=>s5.extBut _ _ c2 (s4.extBut _ _ c4 (s3.extBut _ _ c2 (s2.extBut _ _ c3 (s1.extBut _ _ c1 e))))
 have d1:SIter t1 q5 i1 l1 (k1 + 1):=a2.to fun o e=>s5.extBut _ _ D.TOi1.symm (s4.extBut _ _ D.i12 (s3.extBut _ _ D.TOi1.symm e))
 have d2:SIter t2 q5 i2 l2 (k2 + 1):=a4.to fun o e=>s5.extBut _ _ D.TOi2.symm e
 have zlt:z < q5.objs.size:=aS z5
 show wpAny _ _ (Builtin.SmallTypes.ownedTupleHandOut (.ref z) (.ref q5.objs.size) >>= _) _ _ _; refine wpAny_bind ?_; unfold Builtin.SmallTypes.ownedTupleHandOut
 have z6:IsZip (q5.push { cls:=.type "tuple",data:=.seq #[x,y] }) z TI TO .ellipsis:=aG _ z5
 refine wpAny_bind (wpAny_setField_rec z6 (by simp) fun q7 z7 s7 => ?_); replace z7:IsZip q7 z TI TO (rawInt q5.objs.size):=z7
 refine wpAny_setField_rec z7 (by simp) fun q8 z8 s8 => ?_; replace z8:IsZip q8 z TI TO (rawInt q5.objs.size):=z8
 have up:∀ c o,c≠z→q5.get? c=some o→q8.get? c=some o:=fun c o c1 e=>s8.extBut _ _ c1 (s7.extBut _ _ c1 (aG _ e))
 have t8:IsPair q8 q5.objs.size x y:=s8.extBut _ _ (iF zlt) (s7.extBut _ _ (iF zlt) (bC _ rfl))
 have n8:q8.objs.size=q5.objs.size + 1:=by rw [s8.1,s7.1,gQ]
 rw [hsz] at z8 t8 n8; refine wpAny_pure ⟨_,rfl,?_⟩; show Q (.ref q5.objs.size) _; rw [hsz]
 exact hQ q8 z8 (up _ _ D.TOz b5) (d1.to fun o e=>up _ o D.i1z e) (d2.to fun o e=>up _ o D.i2z e) t8 n8 fun c o c1 c2 c3 c4 e=>up c o c1 (k5 c o c1 c2 c3 c4 e)
theorem aDp {t1 t2:Bool} {z TI TO i1 i2 l1 l2:Addr} {k1 k2:Nat} {xs ys:Array Value} {a b:Value} {Q:Fin→Shared→Prop} (hh:A.handled=none) (D:ZipApart z TI TO i1 i2 l1 l2)
  (hz:IsZip s.heap z TI TO .none) (C9:IsPair s.heap TI (.ref i1) (.ref i2)) (De:IsPair s.heap TO a b)
  (h1:SIter t1 s.heap i1 l1 k1) (h2:SIter t2 s.heap i2 l2 k2) (Dw:SSeq t1 s.heap l1 xs) (Ch:SSeq t2 s.heap l2 ys) (Hq:xs[k1]? = none∨ys[k2]? = none)
  (hE:∀ h' e,(∀ c o,c≠z→c≠TO→c≠i1→c≠i2→s.heap.get? c=some o→h'.get? c=some o)→(∃ o,h'.get? e=some o∧o.cls=.type "StopIteration")→E (.ref e) { s with heap:=h' }) :
  wpAny (model prog w) A (Builtin.«zip.__next__» ⟨[.ref z],[]⟩) Q E s:=by
 show wpAny _ _ (field (.ref z) 2 >>= _) _ _ _; refine wpAny_bind (wpAny_field hz rfl (x:=.bool false) rfl ?_)
 show wpAny _ _ (field (.ref z) 3 >>= _) _ _ _; refine wpAny_bind (wpAny_field hz rfl (x:=.ref TI) rfl ?_); refine wpAny_bind (wpAny_seqItems C9 rfl ?_)
 show wpAny _ _ (Builtin.SmallTypes.ownedTupleIsFree (.ref z) >>= _) _ _ _; refine wpAny_bind ?_; unfold Builtin.SmallTypes.ownedTupleIsFree
 refine wpAny_bind (wpAny_field hz rfl (x:=.none) rfl (wpAny_pure ?_)); simp only [if_true]; refine wpAny_bind (wpAny_rule ?_)
 refine wpAny_bind (wpAny_field hz rfl (x:=.ref TO) rfl ?_); refine wpAny_bind (wpAny_setField_rec hz (by simp) fun q1 hz₁ s1 => ?_); replace hz₁:IsZip q1 z TI TO .ellipsis:=hz₁
 refine wpAny_bind ?_; simp only [List.zipIdx_cons,List.zipIdx_nil,List.forIn_cons,List.forIn_nil]
 refine wpAny_bind (wpAny_bind (wpAny_onRaise ?_)); show wpAny _ _ (Builtin.SmallTypes.nextOf (.ref i1) >>= _) _ _ _
 cases hx:xs[k1]? with
 | none =>
  refine wpAny_bind (sW hh (h1.to fun o e=>s1.extBut _ _ D.i1z e) (Dw.to fun o e=>s1.extBut _ _ D.l1z e) hx fun q2 e s2 he => ?_)
  obtain ⟨oe,Hi,J5⟩:=he
  have z2:IsZip q2 z TI TO .ellipsis:=s2 _ _ D.i1z.symm hz₁
  have ez:e≠z:=fun x=>by subst x; rw [z2] at Hi; cases Hi; simp at J5
  exact wpAny_setField_rec z2 (by simp) fun q3 _ s3=>hE q3 e (fun c o c1 _ c3 _ x=>s3.extBut _ _ c1 (s2 _ _ c3 (s1.extBut _ _ c1 x))) ⟨oe,s3.extBut _ _ ez Hi,J5⟩
 | some x =>
  have hy:ys[k2]? = none:=by rcases Hq with h | h; rw [hx] at h; cases h; exact h
  refine wpAny_bind (pM (h1.to fun o e=>s1.extBut _ _ D.i1z e) (Dw.to fun o e=>s1.extBut _ _ D.l1z e) hx fun q2 a2 s2=>wpAny_pure ?_)
  have b2:IsPair q2 TO a b:=s2.extBut _ _ D.TOi1 (s1.extBut _ _ D.TOz De)
  refine wpAny_bind (wpAny_seqItems b2 rfl ?_); refine wpAny_bind (wpAny_updateSeq_pair b2 fun q3 b3 s3 => ?_)
  refine wpAny_bind (wpAny_letGo (wpAny_pure ?_)); refine wpAny_bind (wpAny_bind (wpAny_onRaise ?_)); show wpAny _ _ (Builtin.SmallTypes.nextOf (.ref i2) >>= _) _ _ _
  refine wpAny_bind (sW hh (h2.to fun o e=>s3.extBut _ _ D.TOi2.symm (s2.extBut _ _ D.i12.symm (s1.extBut _ _ D.i2z e))) (Ch.to fun o e=>s3.extBut _ _ D.l2TO (s2.extBut _ _ D.l2i1 (s1.extBut _ _ D.l2z e))) hy fun q4 e s4 he => ?_)
  obtain ⟨oe,Hi,J5⟩:=he
  have z4:IsZip q4 z TI TO .ellipsis:=s4 _ _ D.i2z.symm (s3.extBut _ _ D.TOz.symm (s2.extBut _ _ D.i1z.symm hz₁))
  have ez:e≠z:=fun x=>by subst x; rw [z4] at Hi; cases Hi; simp at J5
  exact wpAny_setField_rec z4 (by simp) fun q5 _ s5=>hE q5 e (fun c o c1 c2 c3 c4 x=>s5.extBut _ _ c1 (s4 _ _ c4 (s3.extBut _ _ c2 (s2.extBut _ _ c3 (s1.extBut _ _ c1 x))))) ⟨oe,s5.extBut _ _ ez Hi,J5⟩
theorem yB {t1 t2:Bool} {z TI TO i1 i2 l1 l2:Addr} {k1 k2:Nat} {xs ys:Array Value} {x y a b:Value} {Q:Option Value→Shared→Prop} (D:ZipApart z TI TO i1 i2 l1 l2)
  (hz:IsZip s.heap z TI TO .none) (C9:IsPair s.heap TI (.ref i1) (.ref i2)) (De:IsPair s.heap TO a b)
  (h1:SIter t1 s.heap i1 l1 k1) (h2:SIter t2 s.heap i2 l2 k2) (Dw:SSeq t1 s.heap l1 xs) (Ch:SSeq t2 s.heap l2 ys) (hx:xs[k1]? = some x) (hy:ys[k2]? = some y)
  (hQ:∀ h',IsZip h' z TI TO (rawInt s.heap.objs.size)→IsPair h' TO x y→SIter t1 h' i1 l1 (k1 + 1)→SIter t2 h' i2 l2 (k2 + 1)→IsPair h' s.heap.objs.size x y→h'.objs.size=s.heap.objs.size + 1 →
   (∀ c o,c≠z→c≠TO→c≠i1→c≠i2→s.heap.get? c=some o→h'.get? c=some o)→Q (some (.ref s.heap.objs.size)) { s with heap:=h' }) :
  wpAny (model prog w) A (pyNext (.ref z)) Q E s:=by
 have hT:s.TypeIs (.ref z) "zip" := ⟨_,hz,rfl⟩
 unfold pyNext
 exact wpAny_bind (wpAny_attempt (wpAny_callSpecial?_slot (name:=Str.ofString "__next__") hT F.slot_zip_next (wpAny_call_entry F.slot_zip_next hT F.entry_zip_next (aAz D hz C9 De h1 h2 Dw Ch hx hy fun h' a1 a2 a3 a4 a5 a6 a7=>wpAny_pure (hQ h' a1 a2 a3 a4 a5 a6 a7)) (F.args_zip_next_1 _))))
theorem uU {t1 t2:Bool} {z TI TO i1 i2 l1 l2:Addr} {k1 k2:Nat} {xs ys:Array Value} {a b:Value} {Q:Option Value→Shared→Prop} (hh:A.handled=none) (D:ZipApart z TI TO i1 i2 l1 l2)
  (hz:IsZip s.heap z TI TO .none) (C9:IsPair s.heap TI (.ref i1) (.ref i2)) (De:IsPair s.heap TO a b)
  (h1:SIter t1 s.heap i1 l1 k1) (h2:SIter t2 s.heap i2 l2 k2) (Dw:SSeq t1 s.heap l1 xs) (Ch:SSeq t2 s.heap l2 ys) (Hq:xs[k1]? = none∨ys[k2]? = none)
  (hQ:∀ h',(∀ c o,c≠z→c≠TO→c≠i1→c≠i2→s.heap.get? c=some o→h'.get? c=some o)→Q none { s with heap:=h' }):wpAny (model prog w) A (pyNext (.ref z)) Q E s:=by
 have hT:s.TypeIs (.ref z) "zip" := ⟨_,hz,rfl⟩
 unfold pyNext
 refine wpAny_bind (wpAny_attempt (wpAny_callSpecial?_slot (name:=Str.ofString "__next__") hT F.slot_zip_next (wpAny_call_entry F.slot_zip_next hT F.entry_zip_next (aDp hh D hz C9 De h1 h2 Dw Ch Hq fun h' e hk he => ?_) (F.args_zip_next_1 _))))
 obtain ⟨o,ho,hc⟩:=he
 exact wpAny_bind (wpAny_isInstance (T := "StopIteration") (b:=true) ⟨o,ho,hc⟩ isSubtype_stop (wpAny_pure (hQ _ hk)))
end
abbrev aHo (t:Bool):String:=if t=true then "tuple_iterator" else "list_iterator"
abbrev zq1 (t1:Bool) (h:Heap) (l1:Addr):Heap:=h.push { cls:=.type (aHo t1),data:=.fields #[.ref l1,.int 0 0] }
abbrev zq2 (t1 t2:Bool) (h:Heap) (l1 l2:Addr):Heap:=(zq1 t1 h l1).push { cls:=.type (aHo t2),data:=.fields #[.ref l2,.int 0 0] }
abbrev zq3 (t1 t2:Bool) (h:Heap) (l1 l2:Addr):Heap:=(zq2 t1 t2 h l1 l2).push { cls:=.type "tuple",data:=.seq #[.ref h.objs.size,.ref (zq1 t1 h l1).objs.size] }
abbrev zq4 (t1 t2:Bool) (h:Heap) (l1 l2:Addr):Heap:=(zq3 t1 t2 h l1 l2).push { cls:=.type "tuple",data:=.seq #[.none,.none] }
abbrev zq5 (t1 t2:Bool) (h:Heap) (l1 l2:Addr):Heap:=(zq4 t1 t2 h l1 l2).push { cls:=.type "zip",data:=.fields #[.none,.bool false,.bool false,.ref (zq2 t1 t2 h l1 l2).objs.size,.ref (zq3 t1 t2 h l1 l2).objs.size] }
theorem yC {prog:Program} {w:World} {A:Around} {E:hW} {s:Shared} {t:Bool} {l:Addr} {xs:Array Value} {Q:hW} (hl:SSeq t s.heap l xs)
  (hQ:Q (.ref s.heap.objs.size) { s with heap:=zq1 t s.heap l }):wpAny (model prog w) A (pyIter (.ref l)) Q E s:=by
 cases t
 ·exact wpAny_pyIter_list hl hQ
 ·exact wpAny_pyIter_tuple hl hQ
theorem aDo (t1 t2:Bool) (l1 l2:Addr) (xs ys:Array Value) :
  Meets (Builtin.«zip.__new__» ⟨[.type "zip",.ref l1,.ref l2],[]⟩) (fun _ R s=>SSeq t1 s.heap l1 xs∧SSeq t2 s.heap l2 ys∧R (.ok (.ret (.ref (zq4 t1 t2 s.heap l1 l2).objs.size))) { s with heap:=zq5 t1 t2 s.heap l1 l2 }) :=
 .of_wp fun prog w A R s h=>by
  obtain ⟨hp,g,d,tk,os⟩:=s
  obtain ⟨Dw,Ch,h⟩:=h
  have Ez:=sub_zip
  have hL1:SSeq t1 (Shared.heap ⟨hp,g,d,tk,os⟩) l1 xs:=Dw
  have hL2:SSeq t2 (Shared.heap ⟨zq1 t1 hp l1,g,d,tk,os⟩) l2 ys:=Ch.to fun o e=>aG _ e
  wp_walk using yC hL1,yC hL2
  exact ⟨_,rfl,h⟩
theorem aCv {prog:Program} {w:World} {A:Around} {E:hW} {s:Shared} {t1 t2:Bool} {l1 l2:Addr} {xs ys:Array Value} {Q:hW} (Dw:SSeq t1 s.heap l1 xs) (Ch:SSeq t2 s.heap l2 ys)
  (h:∀ h',IsZip h' (s.heap.objs.size + 4) (s.heap.objs.size + 2) (s.heap.objs.size + 3) .none→IsPair h' (s.heap.objs.size + 2) (.ref s.heap.objs.size) (.ref (s.heap.objs.size + 1)) →
   IsPair h' (s.heap.objs.size + 3) .none .none→SIter t1 h' s.heap.objs.size l1 0→SIter t2 h' (s.heap.objs.size + 1) l2 0→(∀ c o,s.heap.get? c=some o→h'.get? c=some o)→Q (.ref (s.heap.objs.size + 4)) { s with heap:=h' }) :
  wpAny (model prog w) A (call (.type "zip") [.ref l1,.ref l2]) Q E s:=by
 refine callType_new F.called_zip (by decide) (F.typeCall_zip_2 _ _) (F.newCall_zip_2 _ _) (fun obj=>F.args_object_init_3 obj _ _) F.entry_zip_new (aDo t1 t2 l1 l2 xs ys) ⟨Dw,Ch,?_⟩
 have z1:(zq1 t1 s.heap l1).objs.size=s.heap.objs.size + 1:=gQ ..
 have z2:(zq2 t1 t2 s.heap l1 l2).objs.size=s.heap.objs.size + 2:=by rw [gQ,z1]
 have z3:(zq3 t1 t2 s.heap l1 l2).objs.size=s.heap.objs.size + 3:=by rw [gQ,z2]
 have z4:(zq4 t1 t2 s.heap l1 l2).objs.size=s.heap.objs.size + 4:=by rw [gQ,z3]
 have g5:(zq5 t1 t2 s.heap l1 l2).get? (zq4 t1 t2 s.heap l1 l2).objs.size=some _:=bC _ rfl
 have g4:(zq5 t1 t2 s.heap l1 l2).get? (zq3 t1 t2 s.heap l1 l2).objs.size=some _:=aG _ (bC _ rfl)
 have g3:(zq5 t1 t2 s.heap l1 l2).get? (zq2 t1 t2 s.heap l1 l2).objs.size=some _:=aG _ (aG _ (bC _ rfl))
 have g2:(zq5 t1 t2 s.heap l1 l2).get? (zq1 t1 s.heap l1).objs.size=some _:=aG _ (aG _ (aG _ (bC _ rfl)))
 have g1:(zq5 t1 t2 s.heap l1 l2).get? s.heap.objs.size=some _:=aG _ (aG _ (aG _ (aG _ (bC _ rfl))))
 show _∧_
 rw [z2,z3,z4] at g5; rw [z1,z2] at g3; rw [z3] at g4; rw [z1] at g2; rw [z4]
 refine ⟨⟨_,g5,rfl⟩,h _ g5 g3 g4 ?_ ?_ fun c o x=>aG _ (aG _ (aG _ (aG _ (aG _ x))))⟩
 ·cases t1 <;> exact ⟨_,g1,rfl,rfl⟩
 ·cases t2 <;> exact ⟨_,g2,rfl,rfl⟩
section
variable {prog:Program} {w:World} {A:Around} {R:Result→Shared→Prop} {I:Addr} {fp wr:List Addr} {n:Nat} {P:Nat→Value→Prop} {St:Nat→Heap→Prop}
theorem aBy (kw:List (Str×Value)) (W:Walks prog w A.in1 I fp wr n P St) (bt:Nat→Nat→Bool) (Hv:CmpOf prog w A.in1 .Gt P bt) (S:Addr) (F5:S∉fp) :
  ∀ (k j:Nat) (s:Shared) (vb:Value) (c:Nat),n - (j + 1)=k→j + 1≤n→St (j + 1) s.heap→P (argBest bt j) vb→s.heap.get? S=some { cls:=.type "list",dict:=none,data:=.seq #[vb,vb] c,slots := #[] } →
  (∀ v h' tk,P (argBest bt (n - 1)) v→(∀ b o,b∉wr→b≠S→s.heap.get? b=some o→h'.get? b=some o)→R (.ok (.ret v)) { s with heap:=h',toks:=tk }) →
  codeAny (model prog w) A (.builtin "max.loop" ⟨[.ref I,.none,.ref S],kw⟩) R s:=by
 have Ka:S∉wr:=fun h=>F5 (W.sub _ h)
 have C3:(toString "max" ++ toString ".loop" : String) = "max.loop" := by decide
 intro k
 induction k with
 | zero =>
  intro j s vb c hk hj Bb Gh hS hR
  have Gr:j + 1=n:=by omega
  refine codeAny_builtin F.entry_max_loop ?_; rw [Around.under_plainId F.plain_max_loop _]
  show wpAny _ A.in1 (seqItems? (.ref S) >>= _) _ _ s; refine wpAny_bind (wpAny_seqItems hS rfl ?_)
  show wpAny _ A.in1 (tryCatch (pyNext (.ref I)) _ >>= _) _ _ s; refine wpAny_bind (wpAny_tryCatch (W.done s _ _ (Gr ▸ Bb) fun h' tk Ba => ?_))
  have Hc:=Ba S _ Ka hS
  show wpAny _ A.in1 (updateSeq S (fun _ => #[]) >>= _) _ _ _; refine wpAny_bind ?_; refine wpAny_updateSeq Hc rfl (wpAny_bind (wpAny_letGo (wpAny_pure ?_)))
  exact hR vb _ tk (by rw [← Gr]; exact Gh) fun b o Gf D0 e=>(bM _ _ (Ne.symm D0)).trans (Ba b o Gf e)
 | succ k ih =>
  intro j s vb c hk hj Bb Gh hS hR
  have Br:j + 1 < n:=by omega
  refine codeAny_builtin F.entry_max_loop ?_; rw [Around.under_plainId F.plain_max_loop _]
  show wpAny _ A.in1 (seqItems? (.ref S) >>= _) _ _ s; refine wpAny_bind (wpAny_seqItems hS rfl ?_)
  show wpAny _ A.in1 (tryCatch (pyNext (.ref I)) _ >>= _) _ _ s; refine wpAny_bind (wpAny_tryCatch (W.item (j + 1) s _ _ Br Bb fun v h' tk hP Gj Ba => ?_))
  have Hc:=Ba S _ Ka hS
  show wpAny _ A.in1 (tryCatch (holding [v,v] (richCompare .Gt v vb >>= _)) _ >>= _) _ _ _; refine wpAny_bind (wpAny_tryCatch (wpAny_holding (wpAny_bind (Hv (j + 1) (argBest bt j) v vb _ _ _ hP Gh ?_))))
  refine wpAny_bind (wpAny_holding (wpAny_truthy_bool ?_)); refine wpAny_bind (wpAny_letGo (wpAny_pure ?_))
  cases hb:bt (j + 1) (argBest bt j) with
  | true =>
   simp only [if_true]; refine wpAny_bind ?_; refine wpAny_updateSeq Hc rfl (wpAny_bind (wpAny_letGo ?_)); rw [C3]
   refine wpAny_pure ⟨plainId_quiet F.plain_max_loop _,ih (j + 1) _ v _ (by omega) Br (W.frame _ _ _ Gj fun b J8 o e => ?_) (by simp only [argBest,hb,if_true]; exact hP) (gB _ Hc rfl) fun v' Ee tk'' Gw Ea => ?_⟩
   ·exact (bM _ _ (fun h:S=b=>F5 (by rw [h]; exact J8))).trans e
   ·exact hR v' Ee tk'' Gw fun b o Gf D0 e=>Ea b o Gf D0 ((bM _ _ (Ne.symm D0)).trans (Ba b o Gf e))
  | false =>
   simp only [eZ,if_false]; refine wpAny_bind (wpAny_letGo ?_); rw [C3]
   refine wpAny_pure ⟨plainId_quiet F.plain_max_loop _,ih (j + 1) _ vb c (by omega) Br Gj (by simp only [argBest,hb,eZ,if_false]; exact Gh) Hc fun v' Ee tk'' Gw Ea => ?_⟩
   exact hR v' Ee tk'' Gw fun b o Gf D0 e=>Ea b o Gf D0 (Ba b o Gf e)
theorem j7 (kw:List (Str×Value)) (W:Walks prog w A.in1 I fp wr n P St) (bt:Nat→Nat→Bool) (Hv:CmpOf prog w A.in1 .Gt P bt) (S:Addr) (F5:S∉fp) (hn:0 < n) {s:Shared} {c:Nat} (Bb:St 0 s.heap)
  (hS:s.heap.get? S=some { cls:=.type "list",dict:=none,data:=.seq #[] c,slots := #[] })
  (hR:∀ v h' tk,P (argBest bt (n - 1)) v→(∀ b o,b∉wr→b≠S→s.heap.get? b=some o→h'.get? b=some o)→R (.ok (.ret v)) { s with heap:=h',toks:=tk }) :
  codeAny (model prog w) A (.builtin "max.loop" ⟨[.ref I,.none,.ref S],kw⟩) R s:=by
 have Ka:S∉wr:=fun h=>F5 (W.sub _ h)
 have C3:(toString "max" ++ toString ".loop" : String) = "max.loop" := by decide
 refine codeAny_builtin F.entry_max_loop ?_; rw [Around.under_plainId F.plain_max_loop _]
 show wpAny _ A.in1 (seqItems? (.ref S) >>= _) _ _ s; refine wpAny_bind (wpAny_seqItems hS rfl ?_)
 show wpAny _ A.in1 (tryCatch (pyNext (.ref I)) _ >>= _) _ _ s; refine wpAny_bind (wpAny_tryCatch (W.item 0 s _ _ hn Bb fun v h' tk hP Gj Ba => ?_))
 have Hc:=Ba S _ Ka hS
 show wpAny _ A.in1 (updateSeq S (fun _ => #[v,v]) >>= _) _ _ _; refine wpAny_bind ?_; refine wpAny_updateSeq Hc rfl ?_; rw [C3]
 refine wpAny_pure ⟨plainId_quiet F.plain_max_loop _,aBy kw W bt Hv S F5 _ 0 _ v _ rfl hn (W.frame _ _ _ Gj fun b J8 o e => ?_) hP (gB _ Hc rfl) fun v' Ee tk'' Gw Ea => ?_⟩
 ·exact (bM _ _ (fun h:S=b=>F5 (by rw [h]; exact J8))).trans e
 ·exact hR v' Ee tk'' Gw fun b o Gf D0 e=>Ea b o Gf D0 ((bM _ _ (Ne.symm D0)).trans (Ba b o Gf e))
theorem aBx {d:Value} {nm:Str} (W:Walks prog w A.in1 I fp wr 0 P St) (S:Addr) (F5:S∉fp) {s:Shared} {c:Nat} (Bb:St 0 s.heap)
  (hS:s.heap.get? S=some { cls:=.type "list",dict:=none,data:=.seq #[] c,slots := #[] })
  (hR:∀ h' tk,(∀ b o,b∉wr→s.heap.get? b=some o→h'.get? b=some o)→R (.ok (.ret d)) { s with heap:=h',toks:=tk }) :
  codeAny (model prog w) A (.builtin "max.loop" ⟨[.ref I,.none,.ref S],[(nm,d)]⟩) R s:=by
 have Ka:S∉wr:=fun h=>F5 (W.sub _ h)
 refine codeAny_builtin F.entry_max_loop ?_; rw [Around.under_plainId F.plain_max_loop _]
 show wpAny _ A.in1 (seqItems? (.ref S) >>= _) _ _ s; refine wpAny_bind (wpAny_seqItems hS rfl ?_)
 show wpAny _ A.in1 (tryCatch (pyNext (.ref I)) _ >>= _) _ _ s; refine wpAny_bind (wpAny_tryCatch (W.done s _ _ Bb fun h' tk Ba => ?_))
 refine wpAny_bind (wpAny_rule (wpAny_pure ?_))
 exact hR h' tk Ba
end
theorem aDj (a d:Value):argsOk "max" ⟨[a],[(Str.ofString "default",d)]⟩:=by unfold argsOk; kernel_rfl
def Sq (t:Bool) (K:eE) (H:Hp) (a:Addr) (xs:List V):Prop:=if t=true then SqT K H a xs else SqL K H a xs
theorem Inv.sseq {X:Cx} {Aa:fO} {σ:St} {H:Hp} {s:Shared} {t:Bool} {a:Addr} {xs:List V} (I:Inv X Aa σ H s) (h:Sq t X.K H a xs):∃ its:List Value,Vals xs its∧SSeq t s.heap a its.toArray∧xs.length≤sizeLine:=by
 cases t
 ·obtain ⟨its,r,p,z⟩:=I.list h
  exact ⟨its,r,p.isList,z⟩
 ·obtain ⟨its,r,p,z⟩:=I.tuple h
  exact ⟨its,r,p,z⟩
theorem Inv.sseq_inj {X:Cx} {Aa:fO} {σ:St} {H:Hp} {s:Shared} {t:Bool} {a:Addr} {xs ys:List V} (I:Inv X Aa σ H s) (h:Sq t X.K H a xs) (h':Sq t X.K H a ys):xs=ys:=by
 cases t
 ·exact I.list_inj h h'
 ·exact I.tuple_inj h h'
def Itz (t1 t2:Bool) (K:eE) (a b:Addr):It :=
  ⟨fun i H => ∃ xs ys x y,Sq t1 K H a xs∧Sq t2 K H b ys∧xs[i]? = some x∧ys[i]? = some y,
   fun i H v H' => ∃ p x y,v=.ref p∧H p=none∧H'=upd H p (.tup [x,y])∧∀ xs ys,Sq t1 K H a xs→Sq t2 K H b ys→xs[i]? = some x∧ys[i]? = some y,
   fun i H => ∃ xs ys,Sq t1 K H a xs∧Sq t2 K H b ys∧(xs.length≤i∨ys.length≤i)⟩
section
variable {X:Cx} {Aa:fO} {σ:St} {H:Hp} {s:Shared}
theorem Inv.turnedL {ch:List Addr} {h':Heap} {t':Nat} (I:Inv X Aa σ H s) (hf:∀ b∈ch,kI X Aa H b) (k:∀ b o,b∉ch→s.heap.get? b=some o→h'.get? b=some o):Inv X Aa σ H { s with heap:=h',toks:=t' }:=by
 have nch:∀ b u,H b=some u→b∉ch:=fun b u e z=>by rw [(hf b z).1] at e; cases e
 refine I.step (g':=s.gens) (d':=s.drawn) (ch:=ch) (fun b hb=>⟨(hf b hb).2.2.2.1,(hf b hb).2.1,(hf b hb).2.2.2.2.1,(hf b hb).2.2.2.2.2⟩) (fun b o _ _ hc e _=>k b o hc e) (fun b o _ _ hc e _=>⟨o.slots,k b o hc e⟩) (fun _ _ _ _ n=>n)
  (fun b o hc e=>⟨o,k b o hc e⟩) (fun _ _ e=>e) (fun _ _ _ e=>e) (fun b ps e=>⟨#[],by rw [e]; simp⟩) (fun m hm => ?_) (fun b u e => ?_) I.bare
 ·obtain ⟨o,es,ep,ho,r⟩:=hm
  exact ⟨o,es,ep,k _ o (fun z=>(hf _ z).2.1 rfl) ho,r⟩
 ·refine (I.hok b u e).stay (fun c v hc q=>k c v ?_ q) (fun _ q=>q) fun _ _ q=>q
  rcases hc with z | z
  ·rw [z]; exact nch b u e
  ·exact nch c _ z
theorem Inv.turnedT {ch:List Addr} {h':Heap} {t':Nat} {T:Addr} {xs:List V} {its:List Value} (I:Inv X Aa σ H s) (hf:∀ b∈ch,kI X Aa H b) (k:∀ b o,b∉ch→s.heap.get? b=some o→h'.get? b=some o)
  (hT:s.heap.objs.size≤T) (r:Vals xs its) (hz:xs.length≤sizeLine) (e:IsTup h' T its.toArray):Inv X Aa σ (upd H T (.tup xs)) { s with heap:=h',toks:=t' }:=by
 have nT:H T=none:=I.hok.fresh hT
 have nch:∀ b u,H b=some u→b∉ch:=fun b u e z=>by rw [(hf b z).1] at e; cases e
 have neT:∀ b o,s.heap.get? b=some o→b≠T:=fun b o e z=>absurd (bN (aS e) (by rw [z]; exact hT)) (dZ _)
 refine I.step (g':=s.gens) (d':=s.drawn) (ch:=ch) (fun b hb=>⟨(hf b hb).2.2.2.1,(hf b hb).2.1,(hf b hb).2.2.2.2.1,(hf b hb).2.2.2.2.2⟩) (fun b o _ _ hc e _=>k b o hc e) (fun b o _ _ hc e _=>⟨o.slots,k b o hc e⟩)
  (fun b o _ e n=>by rw [gA (neT b o e)]; exact n) (fun b o hc e=>⟨o,k b o hc e⟩) (fun b ys q=>by rw [gA (d3 q nT)]; exact q) (fun b o u q=>by rw [gA (d3 q nT)]; exact q)
  (fun b ps q=>⟨#[],by rw [gA (d3 q nT),q]; simp⟩) (fun m hm => ?_) (fun b u q => ?_) I.bare
 ·obtain ⟨o,es,ep,ho,rr⟩:=hm
  exact ⟨o,es,ep,k _ o (fun z=>(hf _ z).2.1 rfl) ho,rr⟩
 ·by_cases hb:b=T
  ·subst hb
   rw [cX] at q
   cases q
   exact ⟨hz,its,r,e⟩
  ·rw [gA hb] at q
   refine (I.hok b u q).stay (fun c v hc z=>k c v ?_ z) (fun c z=>by rw [gA (d3 z nT)]; exact z) fun c ys z=>by rw [gA (d3 z nT)]; exact z
   rcases hc with z | z
   ·rw [z]; exact nch b u q
   ·exact nch c _ z
end
theorem aEm {P:Program} {w:World} {K:eE} {es:List Expr} {kk:Nat} {tpos:Pos} {t1 t2:Bool} {a b z TI TO i1 i2:Addr} (D:ZipApart z TI TO i1 i2 a b) :
  Turn P w K (.Tuple es kk tpos) (Itz t1 t2 K a b) [z,TI,TO,i1,i2] z (fun i h=>IsZip h z TI TO .none∧IsPair h TI (.ref i1) (.ref i2)∧(∃ u v,IsPair h TO u v)∧SIter t1 h i1 a i∧SIter t2 h i2 b i) where
 mem:=by simp
 obj:=fun i h st c hb=>by
  obtain ⟨hz,C9,⟨u,v,De⟩,h1,h2⟩:=st
  simp only [aI,bI,or_false] at hb
  rcases hb with rfl | rfl | rfl | rfl | rfl
  ·exact ⟨_,hz,fun v e=>nomatch e⟩
  ·exact ⟨_,C9,fun v e=>nomatch e⟩
  ·exact ⟨_,De,fun v e=>nomatch e⟩
  ·exact h1.obj
  ·exact h2.obj
 keep:=fun i h h' st k=>by
  obtain ⟨hz,C9,⟨u,v,De⟩,h1,h2⟩:=st
  exact ⟨k z (by simp) _ hz,k TI (by simp) _ C9,⟨u,v,k TO (by simp) _ De⟩,h1.to fun o e=>k i1 (by simp) o e,h2.to fun o e=>k i2 (by simp) o e⟩
 item:=by
  intro X hP hw hK hc i Aa s σ H E I hf st hg
  subst hP hw hK
  obtain ⟨xs,ys,x,y,q1,q2,e1,e2⟩:=hg
  obtain ⟨its1,r1,p1,z1⟩:=I.sseq q1
  obtain ⟨its2,r2,p2,z2⟩:=I.sseq q2
  obtain ⟨u1,Mu,K5⟩:=r1.get e1
  obtain ⟨u2,eu2,ru2⟩:=r2.get e2
  obtain ⟨hz,C9,⟨u,v,De⟩,h1,h2⟩:=st
  have L9:∀ c∈[z,TO,i1,i2],kI X Aa H c:=fun c hc=>hf c (by simp only [aI,bI,or_false] at hc ⊢; rcases hc with rfl | rfl | rfl | rfl <;> simp)
  have lt:∀ {c o},s.heap.get? c=some o→s.heap.objs.size≠c:=fun e=>iF (aS e)
  refine yB D hz C9 De h1 h2 p1 p2 (x:=u1) (y:=u2) (by simpa using Mu) (by simpa using eu2) fun h' a1 a2 a3 a4 a5 a6 hk => ?_
  refine ⟨_,rfl,wpAny_letOwnedTupleGo_zip a1 fun Ee b1 b2 => ?_⟩
  have b2':Heap.SameBut z h' Ee:=b2
  have kk:∀ c o,c∉[z,TO,i1,i2]→s.heap.get? c=some o→Ee.get? c=some o:=fun c o hc e=>by
   simp only [aI,bI,or_false,not_or] at hc
   exact b2'.extBut _ _ hc.1 (hk c o hc.1 hc.2.1 hc.2.2.1 hc.2.2.2 e)
  have tT:Ee.get? s.heap.objs.size=some { cls:=.type "tuple",data:=.seq #[u1,u2] }:=b2'.extBut _ _ (lt hz) a5
  have nT:H s.heap.objs.size=none:=I.hok.fresh (aV _)
  have I':Inv X Aa σ (upd H s.heap.objs.size (.tup [x,y])) { s with heap:=Ee }:=I.turnedT (t':=s.toks) (its:=[u1,u2]) L9 kk (aV _) (.cons K5 (.cons ru2 .nil)) (by show 2≤sizeLine; decide) ⟨_,tT,rfl,_,rfl⟩
  refine ⟨.ref s.heap.objs.size,upd H s.heap.objs.size (.tup [x,y]),I',rfl,
   ⟨_,x,y,rfl,nT,rfl,fun xs' ys' w1 w2=>⟨by rw [I.sseq_inj w1 q1]; exact e1,by rw [I.sseq_inj w2 q2]; exact e2⟩⟩,⟨b1,b2'.extBut _ _ D.TIz (hk _ _ D.TIz D.TITO D.TIi1 D.TIi2 C9),⟨_,_,b2'.extBut _ _ D.TOz a2⟩,a3.to fun o e=>b2'.extBut _ _ D.i1z e,a4.to fun o e=>b2'.extBut _ _ D.i2z e⟩,fun c hc => ?_⟩
  obtain ⟨o,eo,_⟩ : ∃ o,s.heap.get? c=some o∧True:=by
   simp only [aI,bI,or_false] at hc
   rcases hc with rfl | rfl | rfl | rfl | rfl
   ·exact ⟨_,hz,trivial⟩
   ·exact ⟨_,C9,trivial⟩
   ·exact ⟨_,De,trivial⟩
   ·obtain ⟨o,e,_⟩:=h1.obj; exact ⟨o,e,trivial⟩
   ·obtain ⟨o,e,_⟩:=h2.obj; exact ⟨o,e,trivial⟩
  rw [gA (Ne.symm (lt eo))]
  exact (hf c hc).1
 done:=by
  intro X hP hw hK hc i Aa s σ H E I hf st hg
  subst hP hw hK
  obtain ⟨xs,ys,q1,q2,e⟩:=hg
  obtain ⟨its1,r1,p1,z1⟩:=I.sseq q1
  obtain ⟨its2,r2,p2,z2⟩:=I.sseq q2
  obtain ⟨hz,C9,⟨u,v,De⟩,h1,h2⟩:=st
  have L9:∀ c∈[z,TO,i1,i2],kI X Aa H c:=fun c hc=>hf c (by simp only [aI,bI,or_false] at hc ⊢; rcases hc with rfl | rfl | rfl | rfl <;> simp)
  have l1:=r1.length
  have l2:=r2.length
  refine uU (I.ok.hd hc) D hz C9 De h1 h2 p1 p2 ?_ fun h' hk=>⟨rfl,I.turnedL (t':=s.toks) L9 fun c o hc e => ?_⟩
  ·rcases e with e | e
   ·exact .inl (by simp; omega)
   ·exact .inr (by simp; omega)
  ·simp only [aI,bI,or_false,not_or] at hc
   exact hk c o hc.1 hc.2.1 hc.2.2.1 hc.2.2.2 e
 self:=fun _ _ _ _ _ st h=>wpAny_pyIter_zip st.1 h
theorem aTw:bootBuiltins "zip" = some (.type "zip"):=by decide +kernel
def bBu (t1 t2:Bool) (K:eE) (ta:TA):TI:=fun σ H R=>ta σ H fun vs H1 => ∃ a b,vs=[.ref a,.ref b]∧(∃ xs,Sq t1 K H1 a xs)∧(∃ ys,Sq t2 K H1 b ys)∧R (Itz t1 t2 K a b) H1
theorem i6 {X:Cx} {ea eb:Expr} {ta:TA} {p pos:Pos} {es:List Expr} {kk:Nat} {tpos:Pos} {t1 t2:Bool} (hg:Gl X "zip") (hm:X.mg "zip" = none) (ha:PA X [ea,eb] ta) (hs:starEach [ea,eb] X.env=[(false,eval ea X.env),(false,eval eb X.env)]:=by rfl) (C2:starEach [eb] X.env=[(false,eval eb X.env)]:=by rfl) :
  PI X (.Tuple es kk tpos) (.Call (.Name "zip" p) [ea,eb] [] pos) (bBu t1 t2 X.K ta):=by
 intro Aa s σ H R I h
 refine Call_ (hw_ I hg hm aTw (fQ (fE (ha pos Aa s σ H _ I h) fun us s1 ⟨vs,H1,I1,r1,q1⟩ => ?_) (by rw [hs,C2]) (by rw [C2]; rfl)))
 obtain ⟨a,b,e,⟨xs,w1⟩,⟨ys,w2⟩,q⟩:=q1
 subst e
 obtain ⟨u,v,rfl,ru,rv⟩:=r1.two
 cases ru
 cases rv
 obtain ⟨its1,r1,p1,z1⟩:=I1.sseq w1
 obtain ⟨its2,r2,p2,z2⟩:=I1.sseq w2
 have lt1:a < s1.heap.objs.size:=by cases t1 <;> (obtain ⟨_,e,_⟩:=p1; exact aS e)
 have lt2:b < s1.heap.objs.size:=by cases t2 <;> (obtain ⟨_,e,_⟩:=p2; exact aS e)
 refine aCv p1 p2 fun h' hz C9 De hi1 hi2 hk=>wpAny_pyIter_zip hz ?_
 refine ⟨_,_,_,_,H1,rfl,I1.kept (t':=s1.toks) hk,aEm (t1:=t1) (t2:=t2) (zipApart_new lt1 lt2),⟨hz,C9,⟨_,_,De⟩,hi1,hi2⟩,fun c hc => ?_,q⟩
 have C4:s1.heap.objs.size≤c:=by
  simp only [aI,bI,or_false] at hc
  rcases hc with rfl | rfl | rfl | rfl | rfl <;> omega
 exact I1.fpOk C4 (I1.hok.fresh C4)
section
variable {X:Cx}
theorem aCy (hc:X.calm=true):CallR X (.builtin "max") (fun xs H Q => ∃ p ns,xs=[.ref p]∧SqL X.K H p (ns.map V.int)∧ns≠[]∧∀ M,M∈ns→(∀ a∈ns,a≤M)→Q (.int M) H):=by
 intro Aa s σ H xs us Q I r h
 obtain ⟨p,ns,rfl,hq,Bf,q⟩:=h
 obtain ⟨u,rfl,rx⟩:=jQ r
 cases rx
 obtain ⟨its,r',pl,hz⟩:=I.list hq
 have hi:=qB r'
 obtain ⟨zs,e⟩:=hi.allInts.items
 have Db:ns=zs.toList.map (·.1):=by rw [← hi.numsOf,← nums_intItems,← e]
 have hsz:0 < zs.size:=by
  have h3:=List.length_pos_iff.mpr Bf
  rw [Db,aE,Array.length_toList] at h3
  exact h3
 have pl':=pl.isList
 rw [e] at pl'
 refine max_intList (I.ok.hd hc) pl' hsz fun v h' tk hv hk => ?_
 obtain ⟨t,rfl⟩:=intItems_at hv
 obtain ⟨h1,h2⟩:=argBest_gt (numAt zs) (zs.size - 1)
 refine ⟨.int _,H,I.kept hk,⟨t,rfl⟩,q _ ?_ fun a ha => ?_⟩
 ·rw [Db,numAt_eq]
  exact getD_mem (by rw [aE,Array.length_toList]; omega)
 ·rw [Db] at ha
  obtain ⟨j,hj,rfl⟩:=mem_getD ha
  rw [aE,Array.length_toList] at hj
  rw [← numAt_eq]
  exact h2 j (by omega)
def aJk (X:Cx) (f:Value) (ks:List Str) (r:List V→List V→Hp→VK→Prop):Prop :=
 ∀ (Aa:fO) (s:Shared) (σ:St) (H:Hp) (xs zs:List V) (us ws:List Value) (Q:VK),Inv X Aa σ H s→Vals xs us→Vals zs ws→r xs zs H Q →
  wpAny (model X.prog X.w) X.A (call f us (ks.zip ws)) (EP X Aa σ Q) X.xe s
def bAu (r:List V→List V→Hp→VK→Prop) (t tk:TA):TE:=fun σ H Q=>t σ H fun vs H1=>tk σ H1 fun zs H2=>r vs zs H2 Q
theorem aBo {x:Str} {p pos:Pos} {e:Expr} {es:List Expr} {kws:List Keyword} {t tk:TA} {id:String} {ks:List Str} {r:List V→List V→Hp→VK→Prop} (hc:aJk X (.builtin id) ks r) (hg:Gl X x) (hm:X.mg x=none) (hv:bootBuiltins x=some (.builtin id))
  (ha:PA X (e :: es) t) (Lv:PK X kws tk) (Kz:(backToKw pos (keywordEach kws X.env)).filterMap (·.1)=ks:=by rfl) (hn:x ≠ "__name__" := by decide) (B0:(x == ("__debug__" : Str))=false:=by decide)
  (he:backTo pos (starEach (e :: es) X.env)=(false,eval e X.env) :: backTo pos (starEach es X.env):=by rfl) (A9:(backTo pos (starEach (e :: es) X.env)).any (·.1)=false:=by rfl)
  (Au:(backToKw pos (keywordEach kws X.env)).all (·.1.isSome)=true:=by rfl) (Lw:(backToKw pos (keywordEach kws X.env)).any (·.1.isNone)=false:=by rfl):PE X (.Call (.Name x p) (e :: es) kws pos) (bAu r t tk):=by
 intro Aa s σ H Q I h
 refine wpAny_Call_Name_kw (hw_ I hg hm hv ?_ hn B0)
 refine PyProof.Rows.callWith_kw (fE (ha pos Aa s σ H _ I h) fun us s1 ⟨vs,H1,I1,r1,q1⟩=>fE (Lv pos Aa s1 σ H1 _ I1 q1) fun ws s2 ⟨zs,H2,I2,r2,q2⟩ => ?_) he A9 Au Lw
 rw [Kz]
 exact hc Aa s2 σ H2 vs zs us ws Q I2 r1 r2 q2
theorem aCz (hc:X.calm=true):aJk X (.builtin "max") ["default"] (fun xs zs H Q => ∃ p ns d,xs=[.ref p]∧zs=[.int d]∧SqL X.K H p (ns.map V.int)∧(ns=[]→Q (.int d) H)∧(∀ M,M∈ns→(∀ a∈ns,a≤M)→Q (.int M) H)):=by
 intro Aa s σ H xs zs us ws Q I r rz h
 obtain ⟨p,ns,d,rfl,rfl,hq,q0,q⟩:=h
 obtain ⟨u,rfl,rx⟩:=jQ r
 cases rx
 obtain ⟨v,rfl,td,rfl⟩:=jQ rz
 obtain ⟨its,r',pl,hz⟩:=I.list hq
 have hi:=qB r'
 obtain ⟨ys,e⟩:=hi.allInts.items
 have Db:ns=ys.toList.map (·.1):=by rw [← hi.numsOf,← nums_intItems,← e]
 have pl':=pl.isList
 rw [e] at pl'
 have C3:(toString "max" ++ toString ".loop" : String) = "max.loop" := by decide
 have hh:X.A.handled=none:=I.ok.hd hc
 refine kmk_tree PySem.F.kind_max PySem.F.plain_max PySem.F.entry_max (aDj _ _) ?_
 show wpAny _ X.A.in1 (Builtin.Builtins.bindParams "max" ["key","default"] 0 ⟨[],[(Str.ofString "default",.int d td)]⟩ >>= _) _ _ s
 refine wpAny_bind (wpAny_of_eq (show Builtin.Builtins.bindParams "max" ["key","default"] 0 ⟨[],[(Str.ofString "default",.int d td)]⟩=pure [none,some (.int d td)] from rfl) ?_)
 refine wpAny_bind (wpAny_pure ?_)
 refine wpAny_bind (iter_intList pl' fun s2 e2 st Gs hlI => ?_)
 subst e2
 refine wpAny_bind (wpAny_newObj_type ?_)
 have W:=Walks.list (prog:=X.prog) (w:=X.w) (A:=X.A.in1) hh s.heap.objs.size p hlI (intItems ys)
 rw [C3]
 have old:∀ b o,s.heap.get? b=some o→b≠s.heap.objs.size:=fun b o e=>cO (aS e)
 refine wpAny_pure ⟨plainId_quiet PySem.F.plain_max_loop _,?_⟩
 have F5:(s.heap.push { cls:=.type "list_iterator",data:=.fields #[.ref p,.int 0 0] }).objs.size∉[s.heap.objs.size,p]:=fun hm=>dZ _ (Gs _ hm)
 have st':=W.frame 0 _ ((s.heap.push { cls:=.type "list_iterator",data:=.fields #[.ref p,.int 0 0] }).push { cls:=.type "list",dict:=none,data:=.seq ([]:List Value).toArray }) st fun b _ o e=>aG _ e
 by_cases hn:0 < ys.size
 ·refine j7 _ W (fun i j=>decide (numAt ys i > numAt ys j)) (CmpOf.ints_gt (numAt ys) (fun _ _=>intItems_at)) _ F5 (by simpa [intItems] using hn) st' (bC _ rfl) fun v h' tk hP hk => ?_
  have hv:(intItems ys)[argBest (fun i j=>decide (numAt ys i > numAt ys j)) (ys.size - 1)]? = some v:=by simpa [intItems] using hP
  obtain ⟨t,rfl⟩:=intItems_at hv
  obtain ⟨h1,h2⟩:=argBest_gt (numAt ys) (ys.size - 1)
  refine ⟨.int _,H,I.kept fun b o e=>hk b o (by simpa using old b o e) ?_ (aG _ (aG _ e)),⟨t,rfl⟩,q _ ?_ fun a ha => ?_⟩
  ·have:=aS e
   rw [gQ]
   exact cO (Nat.lt_succ_of_lt this)
  ·rw [Db,numAt_eq]
   exact getD_mem (by rw [aE,Array.length_toList]; omega)
  ·rw [Db] at ha
   obtain ⟨j,hj,rfl⟩:=mem_getD ha
   rw [aE,Array.length_toList] at hj
   rw [← numAt_eq]
   exact h2 j (by omega)
 ·have e0:(intItems ys).size=0:=by rw [intItems,Array.size_map]; omega
  rw [e0] at W
  refine aBx W _ F5 st' (bC _ rfl) fun h' tk hk => ?_
  refine ⟨.int d,H,I.kept fun b o e=>hk b o (by simpa using old b o e) (aG _ (aG _ e)),⟨td,rfl⟩,q0 ?_⟩
  rw [Db]
  have:ys.toList.length=0:=by rw [Array.length_toList]; omega
  rw [List.eq_nil_of_length_eq_zero this]
  rfl
theorem aGm (hu:X.A.units < cLine):OpR X (compareOp .Eq) (fun x y H Q => ∃ p b xs,x=.ref p∧y=.ref b∧SqL X.K H p xs∧SqL X.K H b []∧Q (.bl xs.isEmpty) H):=by
 intro Aa s σ H x y v u Q I rx ry h
 obtain ⟨p,b,xs,rfl,rfl,h1,h2,q⟩:=h
 cases rx
 cases ry
 obtain ⟨its,r1,p1,_⟩:=I.list h1
 obtain ⟨its2,r2,p2,_⟩:=I.list h2
 cases r2
 cases r1 with
 | nil=>exact PySem.SeqAt.eq_listAt (e:=fun _=>true) p1.isList p2.isList rfl hu (fun j a1=>absurd a1 (by simp)) ⟨.bl true,H,I,rfl,q⟩
 | cons ra rb=>exact PySem.SeqAt.eq_list_lengthsAt p1.isList p2.isList (by simp) hu ⟨.bl false,H,I,rfl,q⟩
theorem aGi (hu:X.A.units < cLine):OpR X (compareOp .NotEq) (fun x y H Q => ∃ p b xs,x=.ref p∧y=.ref b∧SqL X.K H p xs∧SqL X.K H b []∧Q (.bl (!xs.isEmpty)) H):=by
 intro Aa s σ H x y v u Q I rx ry h
 obtain ⟨p,b,xs,rfl,rfl,h1,h2,q⟩:=h
 cases rx
 cases ry
 obtain ⟨its,r1,p1,_⟩:=I.list h1
 obtain ⟨its2,r2,p2,_⟩:=I.list h2
 cases r2
 cases r1 with
 | nil=>exact PySem.SeqAt.RcNeAt.lists (e:=fun _=>true) p1.isList p2.isList rfl hu (fun j a1=>absurd a1 (by simp)) _ _ _ _ ⟨.bl false,H,I,rfl,q⟩
 | cons ra rb=>exact PySem.SeqAt.RcNeAt.lists_lengths p1.isList p2.isList (by simp) hu _ _ _ _ ⟨.bl true,H,I,rfl,q⟩
theorem e_:∀ {ns:List String} {its:List Value},Vals (ns.map V.ty) its→its=ns.map Value.type
 | [],_,h=>by cases h; rfl
 | m :: ms,_,h=>by
  cases h with
  | cons ra rb =>
   rw [aP,← e_ rb]
   exact congrArg (· :: _) (show _=Value.type m from ra)
theorem wR:CallR X (.builtin "isinstance") (fun xs H Q => ∃ (x:V) (p:Addr) (t:Value) (b:Bool) (ns:List String),xs=[x,.ref p]∧TyOf X.K H x t∧H p=some (.tup (ns.map V.ty))∧PySem.W.kitAny X.K t (ns.map Value.type)=some b∧Q (.bl b) H):=by
 intro Aa s σ H xs us Q I r h
 obtain ⟨x,p,t,b,ns,rfl,ty,hp,e,q⟩:=h
 obtain ⟨u,w',rfl,r1,r2⟩:=oU r
 cases r2
 obtain ⟨_,its,rv,o,h1,h2,n,h3⟩:=(show ObjOk X.prog X.w H s.heap p (.tup (ns.map V.ty)) from I.hok p _ hp)
 have ei:=e_ rv
 subst ei
 obtain ⟨cls,dd,data,sl⟩:=o
 dsimp only at h2 h3
 subst h2 h3
 have A5:∀ tk,EP X Aa σ Q (.bool b) { s with toks:=tk }:=fun tk=>⟨.bl b,H,I.tok _,rfl,q⟩
 cases ty with
 | non=>cases (show u=Value.none from r1); exact PySem.W.kia_tup PySem.W.kitx_none I.kIn True.intro h1 e (fun z=>nomatch z) A5
 | bl y=>cases (show u=Value.bool y from r1); exact PySem.W.kia_tup PySem.W.kitx_bool I.kIn True.intro h1 e (fun z=>nomatch z) A5
 | int i=>obtain ⟨t,z⟩:=(show ∃ t,u=Value.int i t from r1); cases z; exact PySem.W.kia_tup PySem.W.kitx_int I.kIn True.intro h1 e (fun z=>nomatch z) A5
 | str y=>obtain ⟨t,z⟩:=(show ∃ t,u=Value.str y t from r1); cases z; exact PySem.W.kia_tup PySem.W.kitx_str I.kIn True.intro h1 e (fun z=>nomatch z) A5
 | flt y=>obtain ⟨t,z⟩:=(show ∃ t,u=Value.float y t from r1); cases z; exact PySem.W.kia_tup PySem.W.kitx_float I.kIn True.intro h1 e (fun z=>nomatch z) A5
 | @lst a xs ea =>
  cases (show u=Value.ref a from r1)
  obtain ⟨_,_,n,_,g1⟩:=(show ObjOk X.prog X.w H s.heap a (.lst xs) from I.hok a _ ea)
  exact PySem.W.kia_tup PySem.W.kitx_list I.kIn ⟨_,g1,rfl⟩ h1 e (fun z=>nomatch z) A5
 | @frz a ob xs ea =>
  cases (show u=Value.ref a from r1)
  obtain ⟨_,_,_,n,_,g1⟩:=(show ObjOk X.prog X.w H s.heap a (.frz ob (.lst xs)) from I.hok a _ ea)
  exact PySem.W.kia_tup PySem.W.kitx_list I.kIn ⟨_,g1,rfl⟩ h1 e (fun z=>nomatch z) A5
 | @tup a xs ea =>
  cases (show u=Value.ref a from r1)
  obtain ⟨_,_,_,p⟩:=(show ObjOk X.prog X.w H s.heap a (.tup xs) from I.hok a _ ea)
  obtain ⟨o,g1,g2,_⟩:=p
  exact PySem.W.kia_tup PySem.W.kitx_tuple I.kIn ⟨o,g1,g2⟩ h1 e (fun z=>nomatch z) A5
 | @dK a kvs ea =>
  cases (show u=Value.ref a from r1)
  obtain ⟨_,_,vs,_,p⟩:=(show ObjOk X.prog X.w H s.heap a (.dK kvs) from I.hok a _ ea)
  obtain ⟨o,es,ep,g1,g2,_⟩:=p
  exact PySem.W.kia_tup PySem.W.kitx_dict I.kIn ⟨o,g1,g2.1⟩ h1 e (fun z=>nomatch z) A5
 | @dT a kvs ea =>
  cases (show u=Value.ref a from r1)
  obtain ⟨_,_,xs,_,o,es,ep,g1,g2,_⟩:=(show ObjOk X.prog X.w H s.heap a (.dT kvs) from I.hok a _ ea)
  exact PySem.W.kia_tup PySem.W.kitx_dict I.kIn ⟨o,g1,g2.1⟩ h1 e (fun z=>nomatch z) A5
 | @ins a C dx fs ea cl ha hn Ks hm =>
  cases (show u=Value.ref a from r1)
  obtain ⟨mA,O,_⟩:=y_ I.hok ea
  obtain ⟨od,J,_⟩:=O.look
  exact PySem.W.kia_tup (PySem.W.kitx_own (cl.get _) cl.hd ha hn Ks hm) I.kIn J h1 e (fun z=>nomatch z) A5
theorem aPt:SlR X (fun x lo hi H Q => ∃ z,x=.str z∧z.length≤sizeLine∧Q (.str (Txt.slice z lo hi)) H):=by
 intro Aa s σ H x v vl vu lo hi sl Q I rx hs pl pu h
 obtain ⟨z,rfl,hz,q⟩:=h
 obtain ⟨t,rfl⟩:=rx
 refine ⟨"str",_,PySem.F.slot_str_getitem.lookup,typeIs_str _ _ _,?_⟩
 obtain ⟨o,h1,h2,h3⟩:=hs
 cases pl with
 | none =>
  cases pu with
  | none=>exact wpAny_getItem_str_slice (l:=none) (u:=none) (st:=none) ⟨o,h1,h2,h3⟩ rfl (post_val_or_str ⟨nzL (Txt.slice_le z _ _) hz,fun t' k=>⟨.str _,H,I.tok _,⟨_,rfl⟩,q⟩⟩)
  | int j uj=>exact wpAny_getItem_str_slice (l:=none) (u:=some (j,uj)) (st:=none) ⟨o,h1,h2,h3⟩ rfl (post_val_or_str ⟨nzL (Txt.slice_le z _ _) hz,fun t' k=>⟨.str _,H,I.tok _,⟨_,rfl⟩,q⟩⟩)
 | int i ui =>
  cases pu with
  | none=>exact wpAny_getItem_str_slice (l:=some (i,ui)) (u:=none) (st:=none) ⟨o,h1,h2,h3⟩ rfl (post_val_or_str ⟨nzL (Txt.slice_le z _ _) hz,fun t' k=>⟨.str _,H,I.tok _,⟨_,rfl⟩,q⟩⟩)
  | int j uj=>exact wpAny_getItem_str_slice (l:=some (i,ui)) (u:=some (j,uj)) (st:=none) ⟨o,h1,h2,h3⟩ rfl (post_val_or_str ⟨nzL (Txt.slice_le z _ _) hz,fun t' k=>⟨.str _,H,I.tok _,⟨_,rfl⟩,q⟩⟩)
theorem i9:OpR X (binaryOp .Mult) (fun x y H Q => ∃ z n,x=.str z∧y=.int n∧z.length≤1000∧0≤n∧n≤1000∧Q (.str (Txt.mul z n)) H):=by
 intro Aa s σ H x y v u Q I rx ry h
 obtain ⟨z,n,rfl,rfl,hz,h0,h1,q⟩:=h
 obtain ⟨t,rfl⟩:=rx
 obtain ⟨t',rfl⟩:=ry
 exact SB.mul (mulOk_of 1000 1000 hz (by omega) (by omega) (by decide) (by decide)) fun t' k=>⟨.str _,H,I.tok _,⟨_,rfl⟩,q⟩
theorem g8 {ys:List Str}:∀ {us:List Value},Vals (ys.map V.str) us→StrsAre us ys:=by
 induction ys with
 | nil=>intro us r; rw [bP] at r; cases r; exact .nil
 | cons n ns ih =>
  intro us r
  rw [aP] at r
  cases r with
  | cons r1 r2 =>
   obtain ⟨t,e⟩:=r1
   subst e
   exact .cons n t (ih r2)
theorem aLw:MtR X "str.join" (fun x vs H Q => ∃ z p ys,x=.str z∧vs=[.ref p]∧SqL X.K H p (ys.map V.str)∧(ys.map (·.length)).sum + ys.length * z.length≤16777216∧Q (.str (Txt.join z ys)) H):=by
 intro Aa s σ H x vs v us Q I rx rv h
 obtain ⟨z,p,ys,rfl,rfl,hq,hok,q⟩:=h
 obtain ⟨t,rfl⟩:=rx
 obtain ⟨u,rfl,ru⟩:=rv.one
 cases ru
 obtain ⟨its,r',pl,hz⟩:=I.list hq
 exact join_list pl.isList (by rw [List.toList_toArray]; exact g8 r') hok fun t' k=>⟨.str _,H,I.tok _,⟨_,rfl⟩,q⟩
end
section
variable {prog:Program} {w:World} {A:Around} {E:hW}
theorem zJ {it l:Addr} {items:Array Value} (Bf:l≠it):∀ (n i:Nat) (s:Shared) (Q:List Value→Shared→Prop),s.heap.IsListIter it l i→s.heap.IsList l items→i + n≤items.size →
  (∀ h',h'.IsListIter it l (i + n)→Heap.SameBut it s.heap h'→Q ((items.toList.drop i).take n) { s with heap:=h' })→wpAny (model prog w) A (draw (.ref it) n) Q E s
 | 0,i,s,Q,Do,_,_,hQ=>by
  show wpAny _ _ (pure []) Q E s; exact wpAny_pure (by simpa using hQ s.heap Do (Heap.SameBut.refl ..))
 | n + 1,i,s,Q,Do,ht,C4,hQ=>by
  have Br:i < items.size:=by omega
  show wpAny _ _ (pyNext (.ref it) >>= _) Q E s; refine wpAny_bind (wpAny_pyNext_list_item Do ht (x:=items[i]) (by simp [Br]) fun h1 Hn Jn => ?_)
  refine wpAny_bind (wpAny_holding (zJ Bf n (i + 1) _ _ Hn (ht.extBut Jn.extBut Bf) (by omega) fun h2 L5 C2=>wpAny_pure ?_))
  have hd:items.toList.drop i=items[i] :: items.toList.drop (i + 1):=by simp [List.drop_eq_getElem_cons,Br]
  have z:=hQ h2 (by rw [show i + (n + 1)=i + 1 + n by omega]; exact L5) (Jn.trans C2)
  rw [hd,List.take_succ_cons] at z; exact z
theorem d_ {s:Shared} {l:Addr} {items:Array Value} {Q:List Value→Shared→Prop} (hh:A.handled=none) (ht:s.heap.IsList l items)
  (hQ:∀ h',Heap.ExtBut s.heap.objs.size s.heap h'→Q items.toList { s with heap:=h' }):wpAny (model prog w) A (unpackItems (.ref l) items.size none) Q E s:=by
 have Br:l≠s.heap.objs.size:=by obtain ⟨o,ho,_⟩:=ht; exact cO (aS ho)
 unfold unpackItems; refine wpAny_bind ?_; unfold notIterableAtAll
 refine wpAny_bind (wpAny_specialOf ht.typeIs PySem.F.slot_list_iter.lookup ?_); refine wpAny_pure ?_; simp only [eZ,if_false]
 refine wpAny_bind (wpAny_holding (wpAny_pyIter_list ht ?_))
 refine wpAny_bind (wpAny_holding (zJ Br items.size 0 _ _ ⟨_,bC _ rfl,rfl,rfl⟩ (ht.push _) (by omega) fun h1 Hn Jn => ?_))
 have Au:List.take items.size (List.drop 0 items.toList)=items.toList:=by rw [eI]; exact gW (by simp)
 rw [Au,if_neg (by simp)]
 have Le:h1.IsList l items:=(ht.push _).extBut Jn.extBut Br
 refine wpAny_bind (wpAny_holding (wpAny_pyNext_list_end hh Hn Le (by simp) fun h2 F2 => ?_)); simp only [Option.isSome_none,eZ,if_false]
 exact wpAny_pure (hQ h2 fun b o hb e=>F2 b o hb (Jn.extBut b o hb (aG _ e)))
end
def aMs (K:eE) (n:Nat) (t:TGs):TG:=fun v σ H Q => ∃ a xs,v=.ref a∧SqL K H a xs∧xs.length=n∧t xs σ H Q
theorem uZ {X:Cx} {pos:Pos} {es:List Expr} {k:Nat} {t:TGs} {n:Nat} (hc:X.calm=true) (h:PGs X es t) (hn:(assignEach es X.env).length=n:=by rfl) (Bb:(assignEach es X.env).findIdx? (·.1)=none:=by rfl):PG X (.Tuple es k pos) (aMs X.K n t):=by
 intro Aa s σ H v u Q I r hw
 obtain ⟨a,xs,e1,hq,hl,hw⟩:=hw
 subst e1
 cases r
 obtain ⟨its,rv,ht,hz⟩:=I.list hq
 rw [assign_Tuple]
 refine wpAny_bind (wpAny_standAt ?_)
 unfold unpack
 have Aj:(assignEach es X.env).length=its.toArray.size:=by rw [aW,hn,← hl,rv.length]
 rw [Aj,Bb]
 refine wpAny_bind (wpAny_holding (d_ (I.ok.hd hc) ht.isList fun h' hx => ?_))
 have I1:Inv X Aa σ H { s with heap:=h' }:=I.kept (t':=s.toks) fun b o e=>hx b o (cO (aS e)) e
 exact h Aa _ σ H xs _ Q I1 (by simpa using rv) hw
theorem uJ {K:eE} {n k:Nat} {t:TGs} (h:aJj n t):Tgt n (aMs K k t):=fun x σ H Q ⟨a,xs,e,hq,hl,q⟩=>⟨a,xs,e,hq,hl,h xs σ H Q q⟩
section
variable {X:Cx} (K:eE) (h:X.K=K:=by rfl)
include h
theorem aMd:IxR X (aQa K):=h ▸ aSm
theorem yO:IxR X (aFk K):=h ▸ w6
theorem aRa:OpR X (compareOp .In) (rIn K false):=h ▸ aBr
theorem aEx:SlR X (aVw K):=h ▸ aKi
theorem hl_ {pos:Pos} {es:List Expr} {k:Nat} {t:TGs} {n:Nat} (hc:X.calm=true) (hh:PGs X es t) (hn:(assignEach es X.env).length=n:=by rfl) (Bb:(assignEach es X.env).findIdx? (·.1)=none:=by rfl):PG X (.Tuple es k pos) (aIb K n t):=h ▸ gq_ hc hh hn Bb
theorem uY {pos:Pos} {es:List Expr} {k:Nat} {t:TGs} {n:Nat} (hc:X.calm=true) (hh:PGs X es t) (hn:(assignEach es X.env).length=n:=by rfl) (Bb:(assignEach es X.env).findIdx? (·.1)=none:=by rfl):PG X (.Tuple es k pos) (aMs K n t):=h ▸ uZ hc hh hn Bb
end
def aFj (K:eE):List V→Hp→VK→Prop:=fun xs H Q => ∃ p ns,xs=[.ref p]∧SqL K H p (ns.map V.int)∧ns≠[]∧∀ M,M∈ns→(∀ a∈ns,a≤M)→Q (.int M) H
theorem aCx {X:Cx} (hc:X.calm=true):CallR X (.builtin "max") (aFj X.K):=aCy hc
section
variable {K:eE}
theorem aHj {t a b:Value} {x y:Bool} (h1:PySem.W.kitOne K t a=some x) (h2:PySem.W.kitOne K t b=some y):PySem.W.kitAny K t [a,b]=some (x || y):=by
 unfold PySem.W.kitAny
 rw [h1]
 cases x with
 | true=>rfl
 | false =>
  show PySem.W.kitAny K t [b]=_
  unfold PySem.W.kitAny
  rw [h2]
  cases y <;> rfl
end
end L2
namespace Lf
open PySem
inductive Kd where
 | num (w m:Int)
 | row (k:Kd) (n:Int)
 | rcd (fs:List (Str×Kd))
 | cho (ks:List Kd)
def up (n m:Int):Int:=(n + m - 1) / m * m
theorem aVm {n m:Int} (hm:0 < m):up n m=n + m - 1 - (n + m - 1) % m:=by
 have:=Int.mul_ediv_add_emod (n + m - 1) m
 rw [Int.mul_comm] at this
 unfold up
 omega
theorem jN {n m:Int} (hm:0 < m):n≤up n m∧up n m < n + m:=by
 have a:=gZ (n + m - 1) (Int.ne_of_gt hm)
 have b:=fX (n + m - 1) hm
 rw [aVm hm]
 omega
theorem iv_ {n m:Int}:up n m % m=0:=Int.mul_emod_left _ _
def upL (n m:Int):Int:=if n % m=0 then n else n + m - n % m
theorem fs_ {a b m:Int} (hm:0 < m) (ha:a % m=0) (hb:b % m=0) (h1:a - b < m) (h2:b - a < m):a=b:=by
 have h:(a - b) % m=0:=by rw [Int.sub_emod,ha,hb]; simp
 obtain ⟨c,hc⟩:=Int.dvd_of_emod_eq_zero h
 by_cases c0:c=0
 ·subst c0; omega
 ·rcases Int.lt_or_gt_of_ne c0 with c1 | c1
  ·have:m * c≤m * (-1):=Int.mul_le_mul_of_nonneg_left (by omega) (by omega)
   omega
  ·have:m * 1≤m * c:=Int.mul_le_mul_of_nonneg_left (by omega) (by omega)
   omega
theorem aPm {n m:Int} (hm:0 < m):upL n m=up n m:=by
 have a:=gZ n (Int.ne_of_gt hm)
 have b:=fX n hm
 obtain ⟨c,d⟩:=jN (n:=n) hm
 refine fs_ hm ?_ iv_ ?_ ?_
 ·unfold upL
  split
  ·assumption
  ·have e:n + m - n % m=(n - n % m) + m:=by omega
   rw [e,Int.add_emod_right,Int.sub_emod]
   simp
 ·unfold upL; split <;> omega
 ·unfold upL; split <;> omega
def maxL (d:Int) (l:List Int):Int:=l.foldr max d
theorem gg_ {d:Int}:∀ {l:List Int} {a:Int},a∈l→a≤maxL d l
 | b :: r,a,h=>by
  show a≤max b (maxL d r)
  rcases aI.mp h with rfl | h
  ·exact Int.le_max_left _ _
  ·exact Int.le_trans (gg_ h) (Int.le_max_right _ _)
theorem vO {d M:Int} {l:List Int} (hm:M∈l) (hd:d≤M) (hM:∀ a∈l,a≤M):M=maxL d l:=by
 refine Int.le_antisymm (gg_ hm) ?_
 clear hm
 induction l with
 | nil=>exact hd
 | cons b r ih =>
  show max b (maxL d r)≤M
  exact Int.max_le.mpr ⟨hM b aB,ih fun a ha=>hM a (aD _ ha)⟩
def ends (e:Int):List (Int×Int)→List Int
 | []=>[]
 | r :: rs=>(up e r.2 + r.1) :: ends (up e r.2 + r.1) rs
def dB (e:Int):List (Int×Int)→Int
 | []=>e
 | r :: rs=>dB (up e r.2 + r.1) rs
def dW (e:Int):List (Int×Int)→List Int
 | []=>[]
 | r :: rs=>up e r.2 :: dW (up e r.2 + r.1) rs
def Rms (rs:List (Int×Int)):Prop := ∀ r∈rs,0≤r.1∧0 < r.2
theorem dw_:∀ {rs:List (Int×Int)} {e:Int},Rms rs→e≤dB e rs
 | [],e,_=>iB e
 | r :: rs,e,h=>by
  obtain ⟨a,b⟩:=h r aB
  have:=dw_ (rs:=rs) (e:=up e r.2 + r.1) fun x hx=>h x (aD _ hx)
  have:=(jN (n:=e) b).1
  show e≤dB (up e r.2 + r.1) rs
  omega
theorem zI:∀ {rs:List (Int×Int)} {e:Int},Rms rs→rs≠[]→dB e rs∈ends e rs∧∀ a∈ends e rs,a≤dB e rs
 | [],_,_,h=>absurd rfl h
 | [r],e,h,_=>by
  refine ⟨aB,fun a ha => ?_⟩
  rcases aI.mp ha with rfl | ha
  ·exact iB _
  ·cases ha
 | r :: s :: rs,e,h,_=>by
  have ih:=zI (rs:=s :: rs) (e:=up e r.2 + r.1) (fun x hx=>h x (aD _ hx)) (by simp)
  refine ⟨aD _ ih.1,fun a ha => ?_⟩
  rcases aI.mp ha with rfl | ha
  ·exact dw_ (rs:=s :: rs) fun x hx=>h x (aD _ hx)
  ·exact ih.2 a ha
theorem ct_:∀ (rs:List (Int×Int)) (e:Int),(dW e rs).length=rs.length
 | [],_=>rfl
 | r :: rs,e=>by show (dW _ rs).length + 1=_; rw [ct_ rs]; rfl
theorem sS:∀ (rs:List (Int×Int)) (r:Int×Int) (e:Int),dW e (rs ++ [r])=dW e rs ++ [up (dB e rs) r.2]
 | [],_,_=>rfl
 | s :: rs,r,e=>by show up e s.2 :: dW _ (rs ++ [r])=up e s.2 :: (dW _ rs ++ _); rw [sS rs]; rfl
theorem fl_:∀ (rs:List (Int×Int)) (r:Int×Int) (e:Int),dB e (rs ++ [r])=up (dB e rs) r.2 + r.1
 | [],_,_=>rfl
 | s :: rs,r,e=>fl_ rs r _
theorem zH:∀ (rs:List (Int×Int)) (e:Int),ends e rs=((dW e rs).zip rs).map fun p=>p.1 + p.2.1
 | [],_=>rfl
 | r :: rs,e=>by show _ :: ends _ rs=_ :: _; rw [zH rs]; rfl
def nE (rs:List (Int×Int)):Int×Int:=(up (dB 0 rs) (maxL 1 (rs.map (·.2))),maxL 1 (rs.map (·.2)))
def iK (rs:List (Int×Int)):Int×Int:=(up (up 1 (maxL 1 (rs.map (·.2))) + maxL 0 (rs.map (·.1))) (maxL 1 (rs.map (·.2))),maxL 1 (rs.map (·.2)))
mutual
def Kd.rm:Kd→Int×Int
 | .num w m=>(w,m)
 | .row k n=>(n * up k.rm.1 k.rm.2,k.rm.2)
 | .rcd fs=>nE (rmF fs)
 | .cho ks=>iK (rmK ks)
def rmF:List (Str×Kd)→List (Int×Int)
 | []=>[]
 | f :: r=>f.2.rm :: rmF r
def rmK:List Kd→List (Int×Int)
 | []=>[]
 | k :: r=>k.rm :: rmK r
end
mutual
def Kd.deep:Kd→Nat
 | .num _ _=>1
 | .row k _=>k.deep + 1
 | .rcd fs=>eJ fs + 1
 | .cho ks=>eP ks + 1
def eJ:List (Str×Kd)→Nat
 | []=>0
 | f :: r=>max f.2.deep (eJ r)
def eP:List Kd→Nat
 | []=>0
 | k :: r=>max k.deep (eP r)
end
mutual
def Kd.Ok:Kd→Prop
 | .num w m=>1≤w∧w≤8∧1≤m∧m≤8
 | .row k n=>k.Ok∧0≤n∧n≤100
 | .rcd fs=>okF fs∧fs.length≤10
 | .cho ks=>okK ks∧ks.length≤10
def okF:List (Str×Kd)→Prop
 | []=>True
 | f :: r=>f.2.Ok∧okF r
def okK:List Kd→Prop
 | []=>True
 | k :: r=>k.Ok∧okK r
end
theorem nU {d M:Int}:∀ {l:List Int},d≤M→(∀ a∈l,a≤M)→maxL d l≤M
 | [],hd,_=>hd
 | b :: r,hd,h=>Int.max_le.mpr ⟨h b aB,nU hd fun a ha=>h a (aD _ ha)⟩
theorem gt_ {d:Int}:∀ (l:List Int),d≤maxL d l
 | []=>iB _
 | b :: r=>Int.le_trans (gt_ r) (Int.le_max_right _ _)
def Bd (B:Int) (r:Int×Int):Prop:=0≤r.1∧r.1≤B∧1≤r.2∧r.2≤8
theorem dv_ {B:Int}:∀ {rs:List (Int×Int)} {e:Int},0≤e→(∀ r∈rs,Bd B r)→0≤dB e rs∧dB e rs≤e + (rs.length:Int) * (B + 8)
 | [],e,h0,_=>⟨h0,by simp [dB]⟩
 | r :: rs,e,h0,h=>by
  obtain ⟨a,b,c,d⟩:=h r aB
  obtain ⟨u1,u2⟩:=jN (n:=e) (m:=r.2) (by omega)
  have ih:=dv_ (B:=B) (rs:=rs) (e:=up e r.2 + r.1) (by omega) fun x hx=>h x (aD _ hx)
  refine ⟨ih.1,?_⟩
  show dB (up e r.2 + r.1) rs≤_
  have e1:((r :: rs).length:Int) * (B + 8)=(rs.length:Int) * (B + 8) + (B + 8):=by
   rw [aM]
   push_cast
   rw [Int.add_mul]
   omega
  rw [e1]
  omega
theorem lT {B:Int} {rs:List (Int×Int)} (h:∀ r∈rs,Bd B r):1≤maxL 1 (rs.map (·.2))∧maxL 1 (rs.map (·.2))≤8 :=
 ⟨gt_ _,nU (by decide) fun a ha=>by obtain ⟨r,hr,rfl⟩:=cP.mp ha; exact (h r hr).2.2.2⟩
theorem aPy {B:Int} {rs:List (Int×Int)} (h:∀ r∈rs,Bd B r) (hl:rs.length≤10) (hB:0≤B):Bd (1000 * (B + 8)) (nE rs):=by
 obtain ⟨a,b⟩:=lT h
 obtain ⟨c,d⟩:=dv_ (e:=0) (by omega) h
 obtain ⟨u1,u2⟩:=jN (n:=dB 0 rs) (m:=maxL 1 (rs.map (·.2))) (by omega)
 have:(rs.length:Int) * (B + 8)≤10 * (B + 8):=cY (by omega) (by omega)
 exact ⟨by show 0≤up _ _; omega,by show up _ _≤_; omega,a,b⟩
theorem aTu {B:Int} {rs:List (Int×Int)} (h:∀ r∈rs,Bd B r) (hB:0≤B):Bd (1000 * (B + 8)) (iK rs):=by
 obtain ⟨a,b⟩:=lT h
 have c:0≤maxL 0 (rs.map (·.1)):=gt_ _
 have d:maxL 0 (rs.map (·.1))≤B:=nU hB fun z hz=>by obtain ⟨r,hr,rfl⟩:=cP.mp hz; exact (h r hr).2.1
 obtain ⟨u1,u2⟩:=jN (n:=1) (m:=maxL 1 (rs.map (·.2))) (by omega)
 obtain ⟨v1,v2⟩:=jN (n:=up 1 (maxL 1 (rs.map (·.2))) + maxL 0 (rs.map (·.1))) (m:=maxL 1 (rs.map (·.2))) (by omega)
 exact ⟨by show 0≤up _ _; omega,by show up _ _≤_; omega,a,b⟩
def bnd:Nat→Int
 | 0=>0
 | n + 1=>1000 * (bnd n + 8)
theorem fv_:∀ n,0≤bnd n
 | 0=>iB _
 | n + 1=>by have:=fv_ n; show 0≤1000 * (bnd n + 8); omega
theorem gz_ {n m:Nat} (h:n≤m):bnd n≤bnd m:=by
 induction m with
 | zero=>cases (Nat.le_zero.mp h); exact iB _
 | succ m ih =>
  by_cases e:n=m + 1
  ·subst e; exact iB _
  ·have:=ih (by omega)
   have:=fv_ m
   show bnd n≤1000 * (bnd m + 8)
   omega
theorem Bd.mono {B C:Int} {r:Int×Int} (h:Bd B r) (hb:B≤C):Bd C r:=⟨h.1,Int.le_trans h.2.1 hb,h.2.2⟩
mutual
theorem Kd.bd:∀ (k:Kd),k.Ok→Bd (bnd k.deep) k.rm
 | .num w m,h=>by
  obtain ⟨a,b,c,d⟩:=h
  refine ⟨by show 0≤w; omega,?_,c,d⟩
  show w≤1000 * (0 + 8)
  omega
 | .row k n,h=>by
  obtain ⟨hk,h0,h1⟩:=h
  obtain ⟨a,b,c,d⟩:=Kd.bd k hk
  obtain ⟨u1,u2⟩:=jN (n:=k.rm.1) (m:=k.rm.2) (by omega)
  refine ⟨Int.mul_nonneg h0 (by omega),?_,c,d⟩
  have e1:n * up k.rm.1 k.rm.2≤100 * up k.rm.1 k.rm.2:=cY h1 (by omega)
  show n * up k.rm.1 k.rm.2≤1000 * (bnd k.deep + 8)
  omega
 | .rcd fs,h=>by
  refine aPy (rs:=rmF fs) (bdF fs h.1) ?_ (fv_ _)
  have:(rmF fs).length=fs.length:=vP fs
  rw [this]; exact h.2
 | .cho ks,h=>aTu (rs:=rmK ks) (bdK ks h.1) (fv_ _)
theorem bdF:∀ (fs:List (Str×Kd)),okF fs→∀ r∈rmF fs,Bd (bnd (eJ fs)) r
 | [],_,_,h=>nomatch h
 | f :: fs,h,r,hr=>by
  have Bg:r∈f.2.rm :: rmF fs:=hr
  rcases aI.mp Bg with rfl | Bg
  ·exact (Kd.bd f.2 h.1).mono (gz_ (eQ _ _))
  ·exact (bdF fs h.2 r Bg).mono (gz_ (eK _ _))
theorem bdK:∀ (ks:List Kd),okK ks→∀ r∈rmK ks,Bd (bnd (eP ks)) r
 | [],_,_,h=>nomatch h
 | k :: ks,h,r,hr=>by
  have Bg:r∈k.rm :: rmK ks:=hr
  rcases aI.mp Bg with rfl | Bg
  ·exact (Kd.bd k h.1).mono (gz_ (eQ _ _))
  ·exact (bdK ks h.2 r Bg).mono (gz_ (eK _ _))
theorem vP:∀ (fs:List (Str×Kd)),(rmF fs).length=fs.length
 | []=>rfl
 | f :: fs=>by show (rmF fs).length + 1=_; rw [vP fs]; rfl
end
theorem j_:∀ (ks:List Kd),(rmK ks).length=ks.length
 | []=>rfl
 | f :: fs=>by show (rmK fs).length + 1=_; rw [j_ fs]; rfl
inductive Dt where
 | int (i:Int)
 | str (x:Str)
 | bl (b:Bool)
 | tup (ds:List Dt)
 | lst (ds:List Dt)
mutual
def Kd.dt:Kd→Dt
 | .num w m=>.tup [.str "number",.int w,.int m]
 | .row k n=>.tup [.str "row",k.dt,.int n]
 | .rcd fs=>.tup [.str "record",.lst (dtF fs)]
 | .cho ks=>.tup [.str "choice",.lst (dtK ks)]
def dtF:List (Str×Kd)→List Dt
 | []=>[]
 | f :: r=>.tup [.str f.1,f.2.dt] :: dtF r
def dtK:List Kd→List Dt
 | []=>[]
 | k :: r=>k.dt :: dtK r
end
theorem Kd.deep_pos:∀ k:Kd,1≤k.deep
 | .num _ _=>aV _
 | .row k _=>Nat.le_add_left 1 k.deep
 | .rcd fs=>Nat.le_add_left 1 (eJ fs)
 | .cho ks=>Nat.le_add_left 1 (eP ks)
end Lf
namespace Lf
open PySem L2
theorem id_ {H:Hp} {p:Addr} (h:H p=none) (o:HO):Same H (upd H p o):=fun b u q=>by rw [gA (d3 q h)]; exact q
def aMg (p:Addr) (H:Hp):Hp:=fun b=>if b=p then none else H b
theorem wA {p b:Addr} {H:Hp} (h:b≠p):aMg p H b=H b:=if_neg h
abbrev SameX (p:Addr) (H H':Hp):Prop:=Same (aMg p H) (aMg p H')
theorem SameX.get {p b:Addr} {H H':Hp} {o:HO} (e:SameX p H H') (n:b≠p) (h:H b=some o):H' b=some o:=by
 have:=e b o (by rw [wA n]; exact h)
 rw [wA n] at this
 exact this
theorem aUe {α:Type} {xs:List α} {i:Int} (h0:0≤i) (h1:i < (xs.length:Int)):∃ v,atI xs i=some v∧v∈xs:=by
 have hk:i.toNat < xs.length:=by omega
 have ek:((i.toNat:Nat):Int)=i:=by omega
 have q:atI xs ((i.toNat:Nat):Int)=some xs[i.toNat]:=em_ (aA hk)
 rw [ek] at q
 exact ⟨_,q,List.getElem_mem _⟩
end Lf
namespace L2
open PySem PySem.Spec PyProof.Rows
section
variable {κ:Type} [DecidableEq κ]
def lP (kvs:List (κ×V)) (k:κ):Option V:=(kvs.find? fun kv=>decide (kv.1=k)).map (·.2)
def mJ (kvs:List (κ×V)) (k:κ) (v:V):List (κ×V) :=
 if (kvs.any fun kv=>decide (kv.1=k))=true then kvs.map (fun kv=>if kv.1=k then (kv.1,v) else kv) else kvs ++ [(k,v)]
theorem ib_ {p:κ×V} {r:List (κ×V)} {k:κ} (e:p.1=k):lP (p :: r) k=some p.2:=by simp [lP,fK,e]
theorem ic_ {p:κ×V} {r:List (κ×V)} {k:κ} (e:¬ p.1=k):lP (p :: r) k=lP r k:=by simp [lP,fK,e]
theorem xQ (k:κ):∀ kvs:List (κ×V),(kvs.any fun kv=>decide (kv.1=k))=(lP kvs k).isSome
 | []=>rfl
 | p :: r=>by
  rw [fB]
  by_cases e:p.1=k
  ·simp only [ib_ e,dzT e,Bool.true_or,dC]
  ·rw [ic_ e,dzF e,Bool.false_or]; exact xQ k r
theorem jg_ (kvs:List (κ×V)) (k:κ) (v:V):(mJ kvs k v).length≤kvs.length + 1:=by
 unfold mJ
 split
 ·rw [aE]; omega
 ·rw [aC,aM,aU]; omega
theorem RelO.isSome_eq {o:Option V} {u:Option Value} (r:RelO o u):o.isSome=u.isSome:=by
 cases o with
 | none=>cases u with
  | none=>rfl
  | some _=>exact (show False from r).elim
 | some _=>cases u with
  | none=>exact (show False from r).elim
  | some _=>rfl
theorem KV.val {kvs:List (κ×V)} {vs:List (κ×Value)} (r:KV kvs vs) (k:κ):RelO (lP kvs k) (valueAt vs k):=by
 unfold KV at r
 induction r with
 | nil=>exact True.intro
 | @cons p q ps qs h t ih =>
  obtain ⟨h1,h2⟩:=h
  by_cases e:p.1=k
  ·have e':q.1=k:=h1.symm.trans e
   have b:valueAt (q :: qs) k=some q.2:=by simp [valueAt,fK,e']
   rw [ib_ e,b]; exact h2
  ·have e':¬ q.1=k:=fun z=>e (h1.trans z)
   have b:valueAt (q :: qs) k=valueAt qs k:=by simp [valueAt,fK,e']
   rw [ic_ e,b]; exact ih
theorem KV.any {kvs:List (κ×V)} {vs:List (κ×Value)} (r:KV kvs vs) (k:κ):(kvs.any fun kv=>decide (kv.1=k))=vs.any fun kv=>decide (kv.1=k):=by
 unfold KV at r
 induction r with
 | nil=>rfl
 | cons h t ih=>rw [fB,fB,ih,h.1]
theorem KV.repl {kvs:List (κ×V)} {vs:List (κ×Value)} (r:KV kvs vs) (k:κ) {y:V} {u:Value} (ry:RelV y u) :
  KV (kvs.map fun kv=>if kv.1=k then (kv.1,y) else kv) (vs.map fun kv=>if kv.1=k then (kv.1,u) else kv):=by
 unfold KV at r ⊢
 induction r with
 | nil=>exact .nil
 | @cons p q ps qs h t ih =>
  rw [aP,aP]
  refine .cons ?_ ih
  obtain ⟨h1,h2⟩:=h
  by_cases e:p.1=k
  ·rw [if_pos e,if_pos (h1.symm.trans e)]; exact ⟨h1,ry⟩
  ·rw [if_neg e,if_neg (fun z=>e (h1.trans z))]; exact ⟨h1,h2⟩
theorem KV.put {kvs:List (κ×V)} {vs:List (κ×Value)} (r:KV kvs vs) (k:κ) {y:V} {u:Value} (ry:RelV y u):KV (mJ kvs k y) (stored vs k u):=by
 unfold mJ stored
 rw [r.any k]
 by_cases e:(vs.any fun kv=>decide (kv.1=k))=true
 ·rw [if_pos e,if_pos e]; exact r.repl k ry
 ·rw [if_neg e,if_neg e]; exact Paired.snoc r ⟨rfl,ry⟩
theorem KV.length {kvs:List (κ×V)} {vs:List (κ×Value)} (r:KV kvs vs):kvs.length=vs.length:=Paired.length r
end
theorem w5 {P:Program} {w:World} {k:Key} {u:Value} (r:RelV (kV k) u):(fG P w).is k u=true:=by
 cases k with
 | inl i=>obtain ⟨t,e⟩:=(show ∃ t,u=Value.int i t from r); subst e; exact yK P w i t
 | inr x=>obtain ⟨t,e⟩:=(show ∃ t,u=Value.str x t from r); subst e; exact yJ P w x t
theorem sZ {P:Program} {w:World}:∀ {ks:List Key} {us:List Value},Vals (ks.map kV) us→ItemsAre (fG P w) ks us
 | [],_,r=>by rw [bP] at r; cases r; exact .nil
 | k :: ks,_,r=>by
  rw [aP] at r
  cases r with
  | cons h t=>exact .cons (w5 h) (sZ t)
abbrev KT (H:Hp):List (List Key×V)→List (List Key×Addr×Value)→Prop:=Paired fun p q=>p.1=q.1∧H q.2.1=some (.tup (p.1.map kV))∧RelV p.2 q.2.2
theorem KT.val {H:Hp} {kvs:List (List Key×V)} {xs:List (List Key×Addr×Value)} (r:KT H kvs xs) (k:List Key):RelO (lP kvs k) ((atKey xs k).map (·.2)):=by
 induction r with
 | nil=>exact True.intro
 | @cons p q ps qs h t ih =>
  obtain ⟨h1,_,h2⟩:=h
  by_cases e:p.1=k
  ·have e':q.1=k:=h1.symm.trans e
   have b:atKey (q :: qs) k=some q.2:=by simp [atKey,fK,e']
   rw [ib_ e,b]; exact h2
  ·have e':¬ q.1=k:=fun z=>e (h1.trans z)
   have b:atKey (q :: qs) k=atKey qs k:=by simp [atKey,fK,e']
   rw [ic_ e,b]; exact ih
theorem KT.repl {H:Hp} {kvs:List (List Key×V)} {xs:List (List Key×Addr×Value)} (r:KT H kvs xs) (k:List Key) {y:V} {u:Value} (ry:RelV y u) :
  KT H (kvs.map fun kv=>if kv.1=k then (kv.1,y) else kv) (xs.map (putAt k u)):=by
 induction r with
 | nil=>exact .nil
 | @cons p q ps qs h t ih =>
  rw [aP,aP]
  refine .cons ?_ ih
  obtain ⟨h1,h2,h3⟩:=h
  unfold putAt
  by_cases e:p.1=k
  ·rw [if_pos e,if_pos (h1.symm.trans e)]; exact ⟨h1,h2,ry⟩
  ·rw [if_neg e,if_neg (fun z=>e (h1.trans z))]; exact ⟨h1,h2,h3⟩
theorem KT.put {H:Hp} {kvs:List (List Key×V)} {xs:List (List Key×Addr×Value)} (r:KT H kvs xs) (k:List Key) {b:Addr} {y:V} {u:Value} (hb:H b=some (.tup (k.map kV))) (ry:RelV y u) :
  KT H (mJ kvs k y) (storedH xs k b u):=by
 have e:(kvs.any fun kv=>decide (kv.1=k))=(atKey xs k).isSome:=by
  rw [xQ,(r.val k).isSome_eq,Option.isSome_map]
 unfold mJ storedH
 rw [e]
 by_cases q:(atKey xs k).isSome=true
 ·rw [if_pos q,if_pos q]; exact r.repl k ry
 ·rw [if_neg q,if_neg q]; exact Paired.snoc r ⟨rfl,hb,ry⟩
theorem KT.keeps {H H':Hp} {kvs:List (List Key×V)} {xs:List (List Key×Addr×Value)} (r:KT H kvs xs) (ht:∀ b ys,H b=some (.tup ys)→H' b=some (.tup ys)):KT H' kvs xs :=
 Paired.mapP r fun _ _ z=>⟨z.1,ht _ _ z.2.1,z.2.2⟩
section
variable {P:Program} {w:World} {H:Hp} {h:Heap} {a:Addr}
theorem aOg {u:HO} (ok:HOk P w H h) (e:Rd H a u):ObjOk P w H h a u:=e.ok ok
theorem zL {kvs:List (Key×V)} (ok:HOk P w H h) (e:Rd H a (.dK kvs)):kvs.length≤sizeLine∧(a == sysModules)=false∧∃ vs,KV kvs vs∧h.DictOf (fG P w) a vs :=
 show ObjOk P w H h a (.dK kvs) from aOg ok e
theorem aYl {kvs:List (Key×V)} (ok:HOk P w H h) (e:H a=some (.dK kvs)):kvs.length≤sizeLine∧(a == sysModules)=false∧∃ vs,KV kvs vs∧h.DictOf (fG P w) a vs:=zL ok (.inl e)
theorem vS {ks:List Key} (ok:HOk P w H h) (e:H a=some (.tup (ks.map kV))):(tupleKind (fG P w)).is h ks a:=by
 obtain ⟨_,its,r,o,h1,h2,n,h3⟩:=(show ObjOk P w H h a (.tup (ks.map kV)) from ok a _ e)
 exact ⟨o,its.toArray,n,h1,h2,h3,by simpa using sZ r⟩
theorem aAj {kvs:List (List Key×V)} (ok:HOk P w H h) (e:Rd H a (.dT kvs)):kvs.length≤sizeLine∧(a == sysModules)=false ∧
  ∃ xs,KT H kvs xs∧h.DictOfH (tupleKind (fG P w)) a xs:=by
 obtain ⟨z,y,xs,r,o,es,ep,h1,h2,h3,h4,h5⟩:=(show ObjOk P w H h a (.dT kvs) from aOg ok e)
 refine ⟨z,y,xs,r,o,es,ep,h1,h2,h3,h4,fun x hx => ?_,h5⟩
 have all:∀ {l:List (List Key×V)} {m:List (List Key×Addr×Value)},KT H l m→∀ x∈m,(tupleKind (fG P w)).is h x.1 x.2.1:=by
  intro l m q
  induction q with
  | nil=>intro x hx; exact nomatch hx
  | @cons p q ps qs hq t ih =>
   intro x hx
   rcases aI.mp hx with e | hx
   ·subst e
    exact vS ok (by rw [← hq.1]; exact hq.2.1)
   ·exact ih x hx
 exact all r x hx
theorem aYk {kvs:List (List Key×V)} (ok:HOk P w H h) (e:H a=some (.dT kvs)):kvs.length≤sizeLine∧(a == sysModules)=false ∧
  ∃ xs,KT H kvs xs∧h.DictOfH (tupleKind (fG P w)) a xs:=aAj ok (.inl e)
end
def DGet (H:Hp) (a:Addr) (y:V) (r:Option V):Prop :=
 (∃ kvs k,Rd H a (.dK kvs)∧y=kV k∧r=lP kvs k)∨∃ kvs k b,Rd H a (.dT kvs)∧y=.ref b∧H b=some (.tup (k.map kV))∧r=lP kvs k
def DPut (H:Hp) (a:Addr) (y v:V) (H':Hp):Prop :=
 (∃ kvs k,H a=some (.dK kvs)∧y=kV k∧kvs.length < sizeLine∧H'=upd H a (.dK (mJ kvs k v))) ∨
 ∃ kvs k b,H a=some (.dT kvs)∧y=.ref b∧H b=some (.tup (k.map kV))∧kvs.length < sizeLine∧H'=upd H a (.dT (mJ kvs k v))
theorem DGet.k {H:Hp} {a:Addr} {kvs:List (Key×V)} {k:Key} (e:H a=some (.dK kvs)):DGet H a (kV k) (lP kvs k):=.inl ⟨kvs,k,.inl e,rfl,rfl⟩
theorem DPut.k {H:Hp} {a:Addr} {kvs:List (Key×V)} {k:Key} {v:V} (e:H a=some (.dK kvs)) (hl:kvs.length < sizeLine):DPut H a (kV k) v (upd H a (.dK (mJ kvs k v))):=.inl ⟨kvs,k,e,rfl,hl,rfl⟩
section
variable {X:Cx} {Aa:fO} {σ:St} {H:Hp} {s:Shared} {a:Addr} {y v:V} {u r:Value} {o:Option V} {A:Around} {E:hW}
theorem Inv.big (I:Inv X Aa σ H s):sysModules < s.heap.objs.size:=by
 have h:mainGlobals < s.heap.objs.size:=(I.mod.glob.keeps I.bk).lt
 exact Nat.lt_trans (by decide) h
theorem aCr {Q:hW} (hu:A.units + 1 < cLine) (I:Inv X Aa σ H s) (g:DGet H a y (some v)) (ry:RelV y u) (h:∀ w' s',Inv X Aa σ H s'→RelV v w'→Q w' s') :
  wpAny (model X.prog X.w) A (getItem (.ref a) u) Q E s:=by
 rcases g with ⟨kvs,k,e,ey,l⟩ | ⟨kvs,k,b,e,ey,eb,l⟩
 ·subst ey
  obtain ⟨z,hd,vs,rel,dd⟩:=zL I.hok e
  obtain ⟨w',hw,rw'⟩:=RelO.some_of (v:=v) (o:=valueAt vs k) (by rw [l]; exact rel.val k)
  exact wpAny_getItem_of (w5 ry) dd.mapOf hw (h w' _ (I.tok _) rw')
 ·subst ey
  cases (show u=Value.ref b from ry)
  obtain ⟨z,hd,xs,rel,dd⟩:=aAj I.hok e
  obtain ⟨w',hw,rw'⟩:=RelO.some_of (v:=v) (o:=(atKey xs k).map (·.2)) (by rw [l]; exact rel.val k)
  obtain ⟨p,hp,Ij⟩:=fR.mp hw
  refine wpAny_getItem_heap (tupleKind_room_in1 hu) (vS I.hok eb) dd hp ?_
  rw [Ij]
  exact h w' _ (I.tok _) rw'
theorem aNa {Q:hW} (hu:A.units + 1 < cLine) (I:Inv X Aa σ H s) (g:DGet H a y o) (ry:RelV y u) (h:∀ s',Inv X Aa σ H s'→Q (.bool (!o.isSome)) s') :
  wpAny (model X.prog X.w) A (compareOp .NotIn u (.ref a)) Q E s:=by
 rcases g with ⟨kvs,k,e,ey,l⟩ | ⟨kvs,k,b,e,ey,eb,l⟩
 ·subst ey
  obtain ⟨z,hd,vs,rel,dd⟩:=zL I.hok e
  refine wpAny_notIn_of (w5 ry) hd dd.mapOf ?_
  rw [← (rel.val k).isSome_eq,← l]
  exact h _ (I.tok _)
 ·subst ey
  cases (show u=Value.ref b from ry)
  obtain ⟨z,hd,xs,rel,dd⟩:=aAj I.hok e
  refine wpAny_notIn_heap (tupleKind_room_in1 hu) (vS I.hok eb) hd dd ?_
  have q:=(rel.val k).isSome_eq
  rw [Option.isSome_map] at q
  rw [← q,← l]
  exact h _ (I.tok _)
theorem aAn {h':Heap} {t':Nat} {ob:HO} (I:Inv X Aa σ H s) (mu:Mut (H a)) (hs:Heap.SameBut a s.heap h') (he:∃ q,h'.get? a=some q) (new:ObjOk X.prog X.w (upd H a ob) h' a ob) :
  Inv X Aa σ (upd H a ob) { s with heap:=h',toks:=t' } :=
 I.write (x:=a) (e:=a) mu (.inl rfl) (fun b q hb z=>(hs.2 b hb).trans z) he new
theorem aTo {P:Program} {w:World} {H':Hp} {h':Heap} {kvs:List (Key×V)} {vs:List (Key×Value)} (z:kvs.length≤sizeLine) (hd:(a == sysModules)=false) (rel:KV kvs vs) (dd:h'.DictOf (fG P w) a vs) :
  ObjOk P w H' h' a (.dK kvs):=⟨z,hd,vs,rel,dd⟩
theorem aCq {H':Hp} {Q:Unit→Shared→Prop} (hu:A.units + 1 < cLine) (I:Inv X Aa σ H s) (g:DPut H a y v H') (ry:RelV y u) (rv:RelV v r) (h:∀ s',Inv X Aa σ H' s'→Q () s') :
  wpAny (model X.prog X.w) A (setItem (.ref a) u r) Q E s:=by
 rcases g with ⟨kvs,k,e,ey,l,eH⟩ | ⟨kvs,k,b,e,ey,eb,l,eH⟩
 ·subst ey eH
  obtain ⟨z,hd,vs,rel,dd⟩:=aYl I.hok e
  have hz:vs.length≤sizeLine:=by rw [← rel.length]; exact z
  have hl:(mJ kvs k v).length≤sizeLine:=by have:=jg_ kvs k v; omega
  refine wpAny_setItem_pairs (hsz:=hz) (w5 ry) dd fun h' dd' hs=>h _ ?_
  have he:∃ q,h'.get? a=some q:=let ⟨q,_,_,hq,_⟩:=dd'; ⟨q,hq⟩
  exact aAn I (by rw [e]; exact True.intro) hs he (aTo hl hd (rel.put k rv) dd')
 ·subst ey eH
  cases (show u=Value.ref b from ry)
  obtain ⟨z,hd,xs,rel,dd⟩:=aYk I.hok e
  have hz:xs.length≤sizeLine:=by rw [← Paired.length rel]; exact z
  have hl:(mJ kvs k v).length≤sizeLine:=by have:=jg_ kvs k v; omega
  refine wpAny_setItem_heap (hsz:=hz) (tupleKind_room_in1 hu) (vS I.hok eb) dd fun h' dd' hs=>h _ ?_
  obtain ⟨q,es,ep,hq,h2,h3,h4,_,h5⟩:=dd'
  refine aAn I (by rw [e]; exact True.intro) hs ⟨q,hq⟩ ⟨hl,hd,_,(rel.put k eb rv).keeps fun c ys ec => ?_,q,es,ep,hq,h2,h3,h4,h5⟩
  rw [gA (aWq ec e (fun z=>nomatch z))]
  exact ec
end
section
variable {X:Cx} {Aa:fO} {σ:St} {H:Hp} {s:Shared} {a:Addr} {kvs:List (Key×V)} {k:Key} {u:Value} {A:Around} {E:hW}
theorem aYm {Q:hW} (I:Inv X Aa σ H s) (e:Rd H a (.dK kvs)) (h:∀ t s',Inv X Aa σ H s'→Q (.int kvs.length t) s'):wpAny (model X.prog X.w) A (call (.builtin "len") [.ref a]) Q E s:=by
 obtain ⟨z,hd,vs,rel,dd⟩:=zL I.hok e
 refine call_len_dict hd dd (by rw [← rel.length]; rw [sizeLine_eq] at z; omega) ?_
 rw [← rel.length]
 exact h _ _ (I.tok _)
end
def aUj (i:Expr):Prop := ∀ ov iv,subscripted i false ov iv=operate [ov,iv] (getItem ov iv)
theorem aKh {prog:Program} {w:World} {A:Around} {E:hW} {s:Shared} {env:Env} {value slice:Expr} {pos:Pos} {T id:String} {Q:hW}
  (hl:typeLookup (.type T) "__getitem__" = pure (some (.builtin id))) (hs:aUj slice)
  (h:wpAny (model prog w) A (eval value env) (fun o s₁=>wpAny (model prog w) A (eval slice env) (fun i s₂=>s₂.TypeIs o T∧wpAny (model prog w) A (getItem o i) Q E s₂) E s₁) E s) :
  wpAny (model prog w) A (eval (.Subscript value slice pos) env) Q E s:=by
 refine Subscript_ (wpAny_mono h (fun o s₁ h₁=>wpAny_mono h₁ (fun i s₂ h₂ => ?_) fun _ _ x=>x) fun _ _ x=>x)
 obtain ⟨hT,h₂⟩:=h₂
 unfold subscriptTail
 refine wpAny_bind ?_
 rw [getitemInPython_of_ne hT.not_modules]
 refine wpAny_bind (wpAny_specialOf hT hl ?_)
 have A5:wpAny (model prog w) A (subscripted slice false o i) (fun r s₃=>wpAny (model prog w) A (letTemporaryGo value o r >>= fun _=>pure r) Q E s₃) E s₂:=by
  rw [hs o i]
  exact wpAny_operating (wpAny_mono h₂ (fun r s₃ h₃=>wpAny_bind (wpAny_letTemporaryGo (wpAny_pure h₃))) fun _ _ x=>x)
 first
  | exact wpAny_pure (wpAny_bind A5)
  | exact wpAny_bind (wpAny_pure (wpAny_bind A5))
  | exact wpAny_bind A5
theorem zO {X:Cx} {Aa:fO} {σ:St} {H:Hp} {s:Shared} {a:Addr} {y:V} {o:Option V} (I:Inv X Aa σ H s) (g:DGet H a y o):s.TypeIs (.ref a) "dict" := by
 rcases g with ⟨kvs,k,e,_,_⟩ | ⟨kvs,k,b,e,_,_,_⟩
 ·obtain ⟨_,_,vs,_,dd⟩:=zL I.hok e
  exact dd.typeIs
 ·obtain ⟨_,_,xs,_,dd⟩:=aAj I.hok e
  exact dd.typeIs
def aVs (td ty:TE):TE:=fun σ H Q=>td σ H fun x H1=>ty σ H1 fun y H2 => ∃ a v,x=.ref a∧DGet H2 a y (some v)∧Q v H2
def s9 (ty td:TE):TE:=fun σ H Q=>ty σ H fun y H1=>td σ H1 fun x H2 => ∃ a o,x=.ref a∧DGet H2 a y o∧Q (.bl (!o.isSome)) H2
def aOe (td ty tv:TE):TS:=fun D σ H=>tv σ H fun v H1=>td σ H1 fun x H2=>ty σ H2 fun y H3 => ∃ a H4,x=.ref a∧DPut H3 a y v H4∧D.nx σ H4
section
variable {X:Cx} {o i e value:Expr} {pos pos' tpos:Pos} {td ty tv:TE}
theorem aKy (hu:X.A.units + 1 < cLine) (ho:PE X o td) (hi:PE X i ty) (hs:aUj i):PE X (.Subscript o i pos) (aVs td ty):=by
 intro Aa s σ H Q I h
 refine aKh PySem.F.slot_dict_getitem.lookup hs (fE (ho Aa s σ H _ I h) fun u s1 ⟨x,H1,I1,rx,q1⟩=>fE (hi Aa s1 σ H1 _ I1 q1) fun iv s2 ⟨y,H2,I2,ry,a,v,ex,g,q2⟩ => ?_)
 subst ex
 obtain rfl:u=Value.ref a:=rx
 exact ⟨zO I2 g,aCr hu I2 g ry fun w' s3 I3 rw'=>⟨v,H2,I3,rw',q2⟩⟩
theorem aBp (hu:X.A.units + 1 < cLine) (hi:PE X i ty) (ho:PE X o td):PC X .NotIn i o (s9 ty td):=by
 intro Aa s σ H Q I h
 refine fE (hi Aa s σ H _ I h) fun iv s1 ⟨y,H1,I1,ry,q1⟩=>fE (ho Aa s1 σ H1 _ I1 q1) fun u s2 ⟨x,H2,I2,rx,a,ov,ex,g,q2⟩ => ?_
 subst ex
 obtain rfl:u=Value.ref a:=rx
 exact aNa hu I2 g ry fun s3 I3=>⟨.bl (!ov.isSome),H2,I3,rfl,q2⟩
theorem nO (hu:X.A.units + 1 < cLine) (ho:PE X o td) (hi:PE X i ty) (hv:PE X value tv) (hs:swapsWith value (some (.Subscript o i pos')) pos.line X.env=pure false) :
  PS X (.Assign [.Subscript o i pos'] value pos) (aOe td ty tv):=by
 intro Aa s σ H D I h
 refine wpAny_Assign_Subscript (fE (hv Aa s σ H _ I h) fun r s1 ⟨v,H1,I1,rv,q1⟩=>fE (ho Aa s1 σ H1 _ I1 q1) fun u s2 ⟨x,H2,I2,rx,q2⟩=>fE (hi Aa s2 σ H2 _ I2 q2) fun iv s3 ⟨y,H3,I3,ry,a,H4,ex,g,q3⟩ => ?_) hs
 subst ex
 obtain rfl:u=Value.ref a:=rx
 exact aCq hu I3 g ry rv fun s4 I4=>⟨σ,H4,I4,q3⟩
end
theorem aIp {P:Program} {w:World} {H:Hp} (h:Heap) (hb:sysModules < h.objs.size):ObjOk P w H (h.push { cls:=.type "dict",data:=.dict #[] }) h.objs.size (.dK []) :=
 ⟨cK _,beq_eq_false_iff_ne.mpr (Ne.symm (cO hb)),[],.nil,Heap.DictOf.new h⟩
def aPs:TE:=fun _ H Q => ∀ p,H p=none→Q (.ref p) (upd H p (.dK []))
section
variable {X:Cx} {pos:Pos}
theorem aFw:PE X (.Dict [] [] pos) aPs:=fun Aa s σ H Q I h =>
 wpAny_Dict_empty ⟨.ref s.heap.objs.size,_,I.laid (a:=s.heap.objs.size) (o:=.dK []) (t':=s.toks) (fun _ _ q=>aG _ q) (aV _) (aIp s.heap I.big),rfl,h _ (I.hok.fresh (aV _))⟩
end
theorem aTy:bootBuiltins "all" = some (.builtin "all"):=by decide +kernel
theorem q_:∀ {bs:List Bool} {us:List Value},Vals (bs.map V.bl) us→us=bs.map Value.bool
 | [],_,h=>by cases h; rfl
 | b :: bs,_,h=>by
  cases h with
  | cons ra rb =>
   cases ra
   rw [q_ rb]
   rfl
theorem aBk:∀ (bs:List Bool),(List.range bs.length).all (fun i=>bs[i]?.getD false)=bs.all id:=by
 intro bs
 rw [Bool.eq_iff_iff,gP,gP]
 constructor
 ·intro h b hb
  obtain ⟨i,hi,rfl⟩:=List.getElem_of_mem hb
  have:=h i (gO.mpr hi)
  rw [aA hi] at this
  exact this
 ·intro h i hi
  have K0:=gO.mp hi
  rw [aA K0]
  exact h _ (List.getElem_mem K0)
section
variable {X:Cx}
def aFm (K:eE):List V→Hp→VK→Prop:=fun xs H Q => ∃ (p:Addr) (bs:List Bool),xs=[.ref p]∧SqL K H p (bs.map V.bl)∧Q (.bl (bs.all id)) H
theorem aDd (hc:X.calm=true):CallR X (.builtin "all") (aFm X.K):=by
 intro Aa s σ H xs us Q I r h
 obtain ⟨p,bs,rfl,hq,q⟩:=h
 obtain ⟨u,rfl,rx⟩:=jQ r
 cases rx
 obtain ⟨its,r',pl,hz⟩:=I.list hq
 have hi:=q_ r'
 subst hi
 have hh:X.A.in1.handled=none:=I.ok.hd hc
 have lt:p < s.heap.objs.size:=by obtain ⟨_,e,_⟩:=pl.isList; exact aS e
 refine call_all_walk (wpAny_pyIter_list pl.isList ⟨_,_,_,_,_,_,fun i=>bs[i]?.getD false,rfl,Walks.list hh s.heap.objs.size p (cO lt) (bs.map Value.bool).toArray,⟨⟨_,bC _ rfl,rfl,rfl⟩,?_⟩,?_,fun h' tk hk => ?_⟩)
 ·obtain ⟨o,e,r⟩:=pl.isList
  exact ⟨o,aG _ e,r⟩
 ·intro i v s' Q' E' hv hQ
  have Bn:(bs.map Value.bool)[i]? = some v:=by simpa using hv
  rw [bG] at Bn
  cases hb:bs[i]? with
  | none=>rw [hb] at Bn; cases Bn
  | some b =>
   rw [hb] at Bn
   cases Bn
   have Nz:Q' (bs[i]?.getD false) s':=hQ
   rw [hb] at Nz
   exact wpAny_truthy_bool Nz
 ·have Ba:∀ b o,s.heap.get? b=some o→h'.get? b=some o:=fun b o e=>hk b o (by simp; exact cO (aS e)) (aG _ e)
  refine ⟨.bl _,H,I.kept Ba,?_,q⟩
  show Value.bool _=Value.bool _
  rw [aW,aE,aBk]
end
def Ite (K:eE) (a:Addr):It :=
  ⟨fun i H => ∃ xs x,SqL K H a xs∧xs[i]? = some x,
   fun i H v H' => ∃ p x,v=.ref p∧H p=none∧H'=upd H p (.tup [.int (i:Int),x])∧∀ xs,SqL K H a xs→xs[i]? = some x,
   fun i H => ∃ xs,SqL K H a xs∧xs.length≤i⟩
theorem aBh {P:Program} {w:World} {K:eE} {es:List Expr} {kk:Nat} {tpos:Pos} {a e it:Addr} (Bf:e≠it) :
  Turn P w K (.Tuple es kk tpos) (Ite K a) [e,it] e (fun i h=>(∃ old,IsEnum h e it (i:Int) old)∧h.IsListIter it a i) where
 mem:=by simp
 obj:=fun i h st c hb=>by
  obtain ⟨⟨old,he⟩,h1⟩:=st
  simp only [aI,bI,or_false] at hb
  rcases hb with rfl | rfl
  ·exact ⟨_,he,fun v e=>nomatch e⟩
  ·obtain ⟨o,e,_,d⟩:=h1; exact ⟨o,e,fun v z=>by rw [d] at z; cases z⟩
 keep:=fun i h h' st k=>by
  obtain ⟨⟨old,he⟩,o,a,r⟩:=st
  exact ⟨⟨old,k e (by simp) _ he⟩,⟨o,k it (by simp) o a,r⟩⟩
 item:=by
  intro X hP hw hK hc i Aa s σ H E I hf st hg
  subst hP hw hK
  obtain ⟨xs,x,q1,e1⟩:=hg
  obtain ⟨its1,r1,p1,z1⟩:=I.list q1
  obtain ⟨u1,Mu,K5⟩:=r1.get e1
  obtain ⟨⟨old,he⟩,h1⟩:=st
  have lt:∀ {c o},s.heap.get? c=some o→s.heap.objs.size≠c:=fun e=>iF (aS e)
  refine wpAny_pyNext_enum_item he h1 p1.isList (x:=u1) (by simpa using Mu) Bf fun h' a1 a2 a3 a4 hk => ?_
  refine ⟨_,rfl,wpAny_letOwnedTupleGo_enum a1 fun Ee b1 b2 => ?_⟩
  have b2':Heap.SameBut e h' Ee:=b2
  have kk:∀ c o,c∉[e,it]→s.heap.get? c=some o→Ee.get? c=some o:=fun c o hc e=>by
   simp only [aI,bI,or_false,not_or] at hc
   exact b2'.extBut _ _ hc.1 (hk c o hc.1 hc.2 e)
  have tT:Ee.get? s.heap.objs.size=some { cls:=.type "tuple",data:=.seq #[.int i s.toks,u1] }:=b2'.extBut _ _ (lt he) a3
  have nT:H s.heap.objs.size=none:=I.hok.fresh (aV _)
  have I':Inv X Aa σ (upd H s.heap.objs.size (.tup [.int (i:Int),x])) { s with heap:=Ee,toks:=s.toks + 1 }:=I.turnedT (t':=s.toks + 1) (its:=[.int i s.toks,u1]) hf kk (aV _) (.cons ⟨_,rfl⟩ (.cons K5 .nil)) (by show 2≤sizeLine; decide) ⟨_,tT,rfl,_,rfl⟩
  obtain ⟨o2,ho2,r2⟩:=a2
  refine ⟨.ref s.heap.objs.size,upd H s.heap.objs.size (.tup [.int (i:Int),x]),I',rfl,⟨_,x,rfl,nT,rfl,fun xs' w1=>by rw [I.list_inj w1 q1]; exact e1⟩,⟨⟨_,b1⟩,⟨o2,b2'.extBut _ _ (Ne.symm Bf) ho2,r2⟩⟩,fun c hc => ?_⟩
  obtain ⟨o,eo⟩ : ∃ o,s.heap.get? c=some o:=by
   simp only [aI,bI,or_false] at hc
   rcases hc with rfl | rfl
   ·exact ⟨_,he⟩
   ·obtain ⟨o,e,_⟩:=h1; exact ⟨o,e⟩
  rw [gA (Ne.symm (lt eo))]
  exact (hf c hc).1
 done:=by
  intro X hP hw hK hc i Aa s σ H E I hf st hg
  subst hP hw hK
  obtain ⟨xs,q1,e⟩:=hg
  obtain ⟨its1,r1,p1,z1⟩:=I.list q1
  obtain ⟨⟨old,he⟩,h1⟩:=st
  have l1:=r1.length
  refine wpAny_pyNext_enum_end (I.ok.hd hc) he h1 p1.isList (by simp; omega) fun h' hk=>⟨rfl,I.turnedL (t':=s.toks) hf fun c o hc e => ?_⟩
  simp only [aI,bI,or_false,not_or] at hc
  exact hk c o hc.2 e
 self:=fun _ _ _ _ _ st h=>by
  obtain ⟨⟨old,he⟩,_⟩:=st
  exact wpAny_pyIter_enum he h
theorem wS:bootBuiltins "enumerate" = some (.type "enumerate"):=by decide +kernel
def aXk (K:eE) (ta:TA):TI:=fun σ H R=>ta σ H fun vs H1 => ∃ a,vs=[.ref a]∧(∃ xs,SqL K H1 a xs)∧R (Ite K a) H1
theorem aKv {X:Cx} {ea:Expr} {ta:TA} {p pos:Pos} {es:List Expr} {kk:Nat} {tpos:Pos} (hg:Gl X "enumerate") (hm:X.mg "enumerate" = none) (ha:PA X [ea] ta) (hs:starEach [ea] X.env=[(false,eval ea X.env)]:=by rfl) :
  PI X (.Tuple es kk tpos) (.Call (.Name "enumerate" p) [ea] [] pos) (aXk X.K ta):=by
 intro Aa s σ H R I h
 refine Call_ (hw_ I hg hm wS (fQ (fE (ha pos Aa s σ H _ I h) fun us s1 ⟨vs,H1,I1,r1,q1⟩ => ?_) hs rfl))
 obtain ⟨a,e,⟨xs,w1⟩,q⟩:=q1
 subst e
 obtain ⟨u,rfl,ru⟩:=jQ r1
 cases ru
 obtain ⟨its1,r2,p1,z1⟩:=I1.list w1
 refine call_enumerate_list p1.isList fun h' he hi hsz hk=>wpAny_pyIter_enum he ?_
 refine ⟨_,_,_,_,H1,rfl,I1.kept (t':=s1.toks) hk,aBh (a:=a) (e:=s1.heap.objs.size + 1) (it:=s1.heap.objs.size) (Nat.succ_ne_self _),⟨⟨_,he⟩,hi⟩,fun c hc => ?_,q⟩
 have C4:s1.heap.objs.size≤c:=by
  simp only [aI,bI,or_false] at hc
  rcases hc with rfl | rfl <;> omega
 exact I1.fpOk C4 (I1.hok.fresh C4)
section
variable {X:Cx}
def aVx (K:eE):V→Hp→VK→Prop:=fun x H Q => ∃ a xs,x=.ref a∧SqL K H a xs∧∀ p,H p=none→Q (.ref p) (upd H p (.lst xs.reverse))
def aVo (K:eE) (te:TE):TE:=fun σ H Q=>te σ H fun x H1=>aVx K x H1 Q
theorem aKw {e:Expr} {te:TE} {k:Nat} {p1 p2 p3 pos:Pos} (he:PE X e te):PE X (.Subscript e (.Slice none none (some (.UnaryOp .USub (.Constant (.int 1) k p1) p2)) p3) pos) (aVo X.K te):=by
 intro Aa s σ H Q I h
 refine Subscript_ (fE (he Aa s σ H _ I h) fun v s1 ⟨x,H1,I1,r1,q1⟩ => ?_)
 obtain ⟨a,xs,rfl,hx,q⟩:=q1
 cases r1
 refine wpAny_Slice ?_
 rw [evalPart_none]
 refine wpAny_pure (wpAny_pure ?_)
 rw [evalPart_some]
 refine fE ((aOk aEl pD:PE X (.UnaryOp .USub (.Constant (.int 1) k p1) p2) _) Aa s1 σ H1 (fun x H'=>x=.int (-1)∧H'=H1) I1 ⟨_,rfl,rfl,rfl⟩) fun vs s2 ⟨y,H2,I2,r2,e2,e3⟩ => ?_
 subst e2 e3
 obtain ⟨t,rfl⟩:=r2
 have I3:Inv X Aa σ H2 { s2 with heap:=s2.heap.push { cls:=.type "slice",data:=.fields #[.none,.none,.int (-1) t] } }:=I2.kept (t':=s2.toks) fun b ob q=>aG _ q
 obtain ⟨its,r,ht,hz⟩:=I3.list hx
 have Aj:=r.length
 refine tail_any (ops:=[.ref a,.ref s2.heap.objs.size]) ht.isList.typeIs slot_list_getitem.lookup ?_ (by with_unfolding_all rfl)
 refine wpAny_getItem_list_slice ht.isList (Heap.IsSliceOf.new ..) .none .none (.int _ _) (by simp) ?_ (by rw [aW] <;> omega)
 rw [PySem.W.krv_pick]
 refine ⟨.ref _,_,I3.laid (t':=s2.toks) (o:=.lst xs.reverse) (fun b ob q=>aG _ q) (aV _) ?_,rfl,q _ (I3.hok.fresh (aV _))⟩
 exact ⟨by rw [List.length_reverse]; exact hz,its.reverse,0,r.reverse,bC _ rfl⟩
end
end L2
namespace Lf
open PySem L2
end Lf
namespace L2
open PySem PySem.Spec PyProof.Rows
end L2
namespace Lf
open PySem PySem.W PyProof.Rows
end Lf
namespace L2
open PySem PySem.Spec PyProof.Rows PySem.W
section
variable {prog:Program} {w:World} {A:Around} {E:hW} {s:Shared}
abbrev TI2:=Addr×List Int
def t0:TI2:=(0,[])
end
end L2
namespace Lf
open PySem
theorem sM {n m:Int} (hm:0 < m) (h:n % m=0):up n m=n:=by
 obtain ⟨a,b⟩:=jN (n:=n) hm
 exact fs_ hm iv_ h (by omega) (by omega)
theorem uH {m:Int} (hm:0 < m):up 0 m=0:=sM hm (Int.zero_emod _)
theorem aEk {n k m:Int} (hm:0 < m) (h:k % m=0):up (k + n) m=k + up n m:=by
 obtain ⟨a,b⟩:=jN (n:=n) hm
 obtain ⟨c,d⟩:=jN (n:=k + n) hm
 refine fs_ hm iv_ ?_ (by omega) (by omega)
 rw [Int.add_emod,h,iv_]
 simp
def Pw (m:Int):Prop:=m=1∨m=2∨m=4∨m=8
theorem Pw.max {a b:Int} (ha:Pw a) (hb:Pw b):Pw (max a b):=by
 by_cases h:a≤b
 ·rw [Int.max_eq_right h]; exact hb
 ·rw [Int.max_eq_left (by omega)]; exact ha
theorem Pw.maxL {l:List Int} (h:∀ a∈l,Pw a):Pw (maxL 1 l):=by
 induction l with
 | nil=>exact .inl rfl
 | cons b r ih=>exact Pw.max (h b aB) (ih fun a ha=>h a (aD _ ha))
theorem Pw.pos {a:Int} (h:Pw a):1≤a:=by rcases h with rfl | rfl | rfl | rfl <;> decide
theorem Pw.dvd {a b n:Int} (ha:Pw a) (hb:Pw b) (h:a≤b) (hn:n % b=0):n % a=0:=by
 rcases ha with rfl | rfl | rfl | rfl <;> rcases hb with rfl | rfl | rfl | rfl <;> omega
theorem eo_ {m:Int} (h:1≤m):up 1 m=m:=by
 obtain ⟨a,b⟩:=jN (n:=1) (m:=m) (by omega)
 exact fs_ (by omega) iv_ (Int.emod_self) (by omega) (by omega)
end Lf
namespace Lf
end Lf
namespace Lf
open PySem
end Lf
namespace Lf
inductive Vd where
 | num (n:Int)
 | row (vs:List Vd)
 | rcd (vs:List Vd)
 | cho (k:Nat) (v:Vd)
def iZ:Nat→Int→List Int
 | 0,_=>[]
 | w + 1,n=>n % 256 :: iZ w (n / 256)
theorem ej_:∀ (w:Nat) (n:Int),(iZ w n).length=w
 | 0,_=>rfl
 | w + 1,n=>by show (iZ w _).length + 1=_; rw [ej_ w]
theorem fr_:∀ (w:Nat) (n:Int),∀ b∈iZ w n,0≤b∧b < 256
 | 0,_,b,h=>(nomatch h)
 | w + 1,n,b,h=>by
  rcases aI.mp h with e | e
  ·rw [e]; exact ⟨gZ _ (by decide),fX _ (by decide)⟩
  ·exact fr_ w _ b e
theorem je_:∀ (w:Nat) (n:Int),iZ (w + 1) n=iZ w n ++ [n / 256 ^ w % 256]
 | 0,n=>by show [n % 256]=[n / 1 % 256]; rw [Int.ediv_one]
 | w + 1,n=>by
  show n % 256 :: iZ (w + 1) (n / 256)=n % 256 :: iZ w (n / 256) ++ _
  rw [je_ w (n / 256),Int.ediv_ediv_of_nonneg (by decide)]
  have e:(256:Int) * 256 ^ w=256 ^ (w + 1):=by rw [jK,Int.mul_comm]
  rw [e]
  rfl
def lay (l:List Int) (p:Nat) (some:List Int):List Int:=l.mapIdx fun i b=>if p≤i∧i < p + some.length then some.getD (i - p) 0 else b
theorem el_ (l:List Int) (p:Nat) (some:List Int):(lay l p some).length=l.length:=by simp [lay]
theorem hx_ (l:List Int) (p:Nat) (s:List Int) (i:Nat):(lay l p s)[i]? = l[i]?.map fun b=>if p≤i∧i < p + s.length then s.getD (i - p) 0 else b:=by
 rw [lay,List.getElem?_mapIdx]
theorem aMb (l:List Int) (p:Nat):lay l p []=l:=by
 refine fJ fun i => ?_
 rw [hx_]
 cases l[i]? with
 | none=>rfl
 | some c =>
  show some (if p≤i∧i < p + 0 then _ else c)=some c
  rw [if_neg (by omega)]
theorem aHc {l:List Int} {p:Nat} {s:List Int} {b:Int} (h:p + s.length < l.length):lay l p (s ++ [b])=(lay l p s).set (p + s.length) b:=by
 refine fJ fun i => ?_
 by_cases hi:i=p + s.length
 ·subst hi
  rw [fS (by rw [el_]; exact h),hx_,aA h]
  show some (if p≤p + s.length∧p + s.length < p + (s ++ [b]).length then (s ++ [b]).getD (p + s.length - p) 0 else _)=some b
  rw [if_pos ⟨by omega,by rw [aC]; show _ < p + (s.length + 1); omega⟩,eL,aR,aY (aV _),gH]
  rfl
 ·rw [dY (fun e=>hi e.symm),hx_,hx_]
  cases l[i]? with
  | none=>rfl
  | some c =>
   show some (if _ then _ else c)=some (if _ then _ else c)
   by_cases hp:p≤i∧i < p + s.length
   ·rw [if_pos hp,if_pos ⟨hp.1,by rw [aC]; show i < p + (s.length + 1); omega⟩,aR,aR,bS (by omega)]
   ·rw [if_neg hp,if_neg (by rw [aC]; show ¬ (p≤i∧i < p + (s.length + 1)); omega)]
def fZ (f:Vd→List Int) (step:Nat):Nat→List Vd→List Int→List Int
 | _,[],l=>l
 | j,v :: r,l=>fZ f step (j + 1) r (lay l (j * step) (f v))
mutual
def Kd.byt:Kd→Vd→List Int
 | .num w _,.num n=>iZ w.toNat n
 | .row k n,.row vs=>fZ k.byt (up k.rm.1 k.rm.2).toNat 0 vs (List.replicate (n * up k.rm.1 k.rm.2).toNat 0)
 | .rcd fs,.rcd vs=>gS (dW 0 (rmF fs)) fs vs (List.replicate (nE (rmF fs)).1.toNat 0)
 | .cho ks,.cho k v=>lay ((List.replicate (iK (rmK ks)).1.toNat (0:Int)).set 0 (k:Int)) (up 1 (iK (rmK ks)).2).toNat (a_ ks k v)
 | _,_=>[]
def gS:List Int→List (PySem.Str×Kd)→List Vd→List Int→List Int
 | p :: ps,f :: r,v :: vs,l=>gS ps r vs (lay l p.toNat (f.2.byt v))
 | _,_,_,l=>l
def a_:List Kd→Nat→Vd→List Int
 | [],_,_=>[]
 | k :: _,0,v=>k.byt v
 | _ :: r,j + 1,v=>a_ r j v
end
mutual
def Kd.Val:Kd→Vd→Prop
 | .num w _,.num n=>0≤n∧n < 256 ^ w.toNat
 | .row k n,.row vs=>(vs.length:Int)=n∧∀ v∈vs,k.Val v
 | .rcd fs,.rcd vs=>fD fs vs
 | .cho ks,.cho k v=>kP ks k v
 | _,_=>False
def fD:List (PySem.Str×Kd)→List Vd→Prop
 | [],[]=>True
 | f :: r,v :: vs=>f.2.Val v∧fD r vs
 | _,_=>False
def kP:List Kd→Nat→Vd→Prop
 | [],_,_=>False
 | k :: _,0,v=>k.Val v
 | _ :: r,j + 1,v=>kP r j v
end
theorem et_ (f:Vd→List Int) (step:Nat):∀ (vs:List Vd) (j:Nat) (l:List Int),(fZ f step j vs l).length=l.length
 | [],_,_=>rfl
 | v :: r,j,l=>by show (fZ f step (j + 1) r _).length=_; rw [et_ f step r,el_]
theorem gy_:∀ (fs:List (PySem.Str×Kd)) (ps:List Int) (vs:List Vd) (l:List Int),(gS ps fs vs l).length=l.length
 | [],_,_,_=>by simp [gS]
 | _ :: _,[],_,_=>by simp [gS]
 | _ :: _,_ :: _,[],_=>by simp [gS]
 | f :: r,p :: ps,v :: vs,l=>by simp only [gS]; rw [gy_ r,el_]
theorem Kd.byt_len:∀ {kd:Kd} {v:Vd},kd.Val v→(kd.byt v).length=kd.rm.1.toNat
 | .num w m,.num n,_=>by simp only [Kd.byt]; rw [ej_]; rfl
 | .row k n,.row vs,_=>by simp only [Kd.byt]; rw [et_,aL]; rfl
 | .rcd fs,.rcd vs,_=>by simp only [Kd.byt]; rw [gy_,aL]; rfl
 | .cho ks,.cho k v,_=>by simp only [Kd.byt]; rw [el_,bB,aL]; rfl
end Lf
namespace Lf
theorem nV {l s:List Int} {p i:Nat} (hi:i < l.length):(lay l p s).getD i 0=if p≤i∧i < p + s.length then s.getD (i - p) 0 else l.getD i 0:=by
 rw [aR,hx_,aA hi]
 show (if p≤i∧i < p + s.length then s.getD (i - p) 0 else l[i])=_
 split
 ·rfl
 ·rw [aR,aA hi]
  rfl
theorem jk_ (f:Vd→List Int) (step:Nat):∀ (vs:List Vd) (j:Nat) (l:List Int) (i:Nat),i < j * step→(fZ f step j vs l).getD i 0=l.getD i 0
 | [],_,_,_,_=>rfl
 | v :: r,j,l,i,h=>by
  have h':i < (j + 1) * step:=bN h (Nat.mul_le_mul_right _ (Nat.le_succ _))
  show (fZ f step (j + 1) r _).getD i 0=_
  rw [jk_ f step r (j + 1) _ i h']
  by_cases c:i < l.length
  ·rw [nV c,if_neg (by omega)]
  ·rw [aR,aR,cF (by rw [el_]; omega),cF (by omega)]
theorem pS (f:Vd→List Int) (step:Nat):∀ (vs:List Vd) (j:Nat) (l:List Int) (i t:Nat) (v:Vd),(∀ u∈vs,(f u).length≤step)→vs[t]? = some v→(j + t) * step≤i→i < (j + t) * step + (f v).length→i < l.length→(fZ f step j vs l).getD i 0=(f v).getD (i - (j + t) * step) 0
 | [],_,_,_,_,_,_,h,_,_,_=>by simp at h
 | u :: r,j,l,i,0,v,hs,h,h1,h2,h3=>by
  have e:u=v:=by simpa using h
  subst e
  have hl:=hs u aB
  rw [Nat.add_zero] at h1 h2 ⊢
  show (fZ f step (j + 1) r _).getD i 0=_
  rw [jk_ f step r (j + 1) _ i (by rw [jD,Nat.one_mul]; omega),nV h3,if_pos ⟨h1,h2⟩]
 | u :: r,j,l,i,t + 1,v,hs,h,h1,h2,h3=>by
  have e:j + (t + 1)=j + 1 + t:=by omega
  rw [e] at h1 h2 ⊢
  exact pS f step r (j + 1) _ i t v (fun w hw=>hs w (aD _ hw)) (by simpa using h) h1 h2 (by rw [el_]; exact h3)
end Lf
namespace Lf
theorem tO:∀ (fs:List (PySem.Str×Kd)) (ps:List Int) (vs:List Vd) (l:List Int) (i:Nat),(∀ p∈ps,i < p.toNat)→(gS ps fs vs l).getD i 0=l.getD i 0
 | [],ps,vs,l,i,_=>by simp only [gS]
 | f :: r,[],vs,l,i,_=>by simp only [gS]
 | f :: r,p :: ps,[],l,i,_=>by simp only [gS]
 | f :: r,p :: ps,v :: vs,l,i,h=>by
  simp only [gS]
  rw [tO r ps vs _ i fun q hq=>h q (aD _ hq)]
  have hp:=h p aB
  by_cases c:i < l.length
  ·rw [nV c,if_neg (by omega)]
  ·rw [aR,aR,cF (by rw [el_]; omega),cF (by omega)]
end Lf
namespace Lf
end Lf
namespace L2
open PySem PySem.Spec PyProof.Rows
section
variable {X:Cx} {Aa:fO} {σ:St} {H:Hp} {s:Shared} {a:Addr}
theorem Inv.other {u u':HO} (I:Inv X Aa σ H s) (e:H a=some u) (n1:∀ y,u ≠ .own y) (n2:∀ xs,u ≠ .tup xs) (n3:∀ ps,u ≠ .tbl ps) (n4:∀ o v,X.H₀ a≠some (.frz o v)) (hok:ObjOk X.prog X.w (upd H a u') s.heap a u'):Inv X Aa σ (upd H a u') s:=by
 have ne:∀ {b:Addr},H b=none→b≠a:=fun h z=>by rw [z,e] at h; cases h
 refine ⟨I.ok,I.os,I.bare,⟨I.base.keep,I.base.slot,fun b o h1 h2 h3 => ?_,I.base.there,fun b xs h => ?_,fun b o v h => ?_,fun b ps h => ?_⟩,I.loc,I.cell,?_,fun x c h => ?_,fun p hp => ?_,fun b v h => ?_,I.len⟩
 ·have:=I.base.free b o h1 h2 h3
  rw [gA (ne this)]; exact this
 ·have:=I.base.tups b xs h
  rw [gA (fun z=>by rw [z,e] at this; exact n2 _ (ozI this))]; exact this
 ·have:=I.base.frzs b o v h
  rw [gA (fun z=>n4 o v (by rw [← z]; exact h))]; exact this
 ·obtain ⟨m,q⟩:=I.base.tbls b ps h
  exact ⟨m,by rw [gA (fun z=>by rw [z,e] at q; exact n3 _ (ozI q))]; exact q⟩
 ·rw [gA (ne I.free)]; exact I.free
 ·rw [gA (ne (I.freeC x c h))]; exact I.freeC x c h
 ·obtain ⟨p1,p2,p3⟩:=I.pin p hp
  exact ⟨p1,by rw [gA (ne p2)]; exact p2,p3⟩
 ·by_cases hb:b=a
  ·subst hb
   rw [cX] at h
   cases h
   exact hok
  ·rw [gA hb] at h
   refine (I.hok b v h).stay (fun _ _ _ q=>q) (fun c q => ?_) fun c xs q => ?_
   ·rw [gA (fun z=>by rw [z,e] at q; exact n1 _ (ozI q))]; exact q
   ·rw [gA (fun z=>by rw [z,e] at q; exact n2 _ (ozI q))]; exact q
theorem aIo {P:Program} {w:World} {H H':Hp} {h:Heap} {a:Addr} {kvs:List (Key×V)} (x:ObjOk P w H h a (.dK kvs)):ObjOk P w H' h a (.dK kvs):=x
theorem Inv.freeze {kvs:List (Key×V)} (I:Inv X Aa σ H s) (e:H a=some (.dK kvs)):∃ o,Inv X Aa σ (upd H a (.frz o (.dK kvs))) s:=by
 have x:=I.hok a _ e
 obtain ⟨_,_,vs,r,o,es,ep,h1,h2⟩:=id x
 refine ⟨o,I.other e (fun _ z=>by cases z) (fun _ z=>by cases z) (fun _ z=>by cases z) (fun o v z => ?_) ⟨h1,aIo x⟩⟩
 have:=I.base.frzs a o v z
 rw [e] at this; cases this
theorem Inv.thaw {o:Obj} {kvs:List (Key×V)} (I:Inv X Aa σ H s) (e:H a=some (.frz o (.dK kvs))) (n:∀ o v,X.H₀ a≠some (.frz o v)):Inv X Aa σ (upd H a (.dK kvs)) s :=
 I.other e (fun _ z=>by cases z) (fun _ z=>by cases z) (fun _ z=>by cases z) n (aIo (I.hok a _ e).2)
end
def bAt (H0:Hp) (t:TE):TE:=fun σ H Q => ∃ a kvs,H a=some (.dK kvs)∧(∀ o v,H0 a≠some (.frz o v))∧∀ o,t σ (upd H a (.frz o (.dK kvs))) fun v H'=>H' a=some (.frz o (.dK kvs))∧Q v (upd H' a (.dK kvs))
theorem aQp {X:Cx} {e:Expr} {t:TE} (h:PE X e t):PE X e (bAt X.H₀ t):=by
 intro Aa s σ H Q I ⟨a,kvs,ha,hn,q⟩
 obtain ⟨o,I1⟩:=I.freeze ha
 refine fE (h Aa s σ _ _ I1 (q o)) fun u s1 ⟨v,H1,I2,r,e1,q1⟩=>⟨v,_,I2.thaw e1 hn,r,q1⟩
def bAw (H0:Hp) (t:TS):TS:=fun D σ H => ∃ a kvs,H a=some (.dK kvs)∧(∀ o v,H0 a≠some (.frz o v))∧∀ o,
 t ⟨fun σ' H'=>H' a=some (.frz o (.dK kvs))∧D.nx σ' (upd H' a (.dK kvs)),fun v H'=>H' a=some (.frz o (.dK kvs))∧D.rt v (upd H' a (.dK kvs)),fun σ' H'=>H' a=some (.frz o (.dK kvs))∧D.bk σ' (upd H' a (.dK kvs)),fun σ' H'=>H' a=some (.frz o (.dK kvs))∧D.ct σ' (upd H' a (.dK kvs))⟩ σ (upd H a (.frz o (.dK kvs)))
theorem aQh {X:Cx} {st:Stmt} {t:TS} (h:PS X st t):PS X st (bAw X.H₀ t):=by
 intro Aa s σ H D I ⟨a,kvs,ha,hn,q⟩
 obtain ⟨o,I1⟩:=I.freeze ha
 refine fE (h Aa s σ _ _ I1 (q o)) fun f s1 h1 => ?_
 cases f with
 | next=>obtain ⟨σ',H',I2,e1,q1⟩:=h1; exact ⟨σ',_,I2.thaw e1 hn,q1⟩
 | brk=>obtain ⟨σ',H',I2,e1,q1⟩:=h1; exact ⟨σ',_,I2.thaw e1 hn,q1⟩
 | cont=>obtain ⟨σ',H',I2,e1,q1⟩:=h1; exact ⟨σ',_,I2.thaw e1 hn,q1⟩
 | ret u=>obtain ⟨v,σ',H',I2,r,e1,q1⟩:=h1; exact ⟨v,σ',_,I2.thaw e1 hn,r,q1⟩
def Itd (a:Addr) (o:Obj) (kvs:List (Key×V)):It :=
 ⟨fun i H=>H a=some (.frz o (.dK kvs))∧i < kvs.length,fun i H x H'=>H'=H∧∃ kv,kvs[i]? = some kv∧x=kV kv.1,fun i H=>H a=some (.frz o (.dK kvs))∧kvs.length≤i⟩
theorem aXe {P:Program} {w:World} {k:Key} {u:Value} (h:(fG P w).is k u=true):RelV (kV k) u:=by
 cases k with
 | inl i=>exact Value.isInt_shape (k:=i) h
 | inr x=>exact Value.isStrOf_shape (x:=x) h
theorem KV.at' {kvs:List (Key×V)} {vs:List (Key×Value)} (r:KV kvs vs):∀ {i:Nat} {kv:Key×V},kvs[i]? = some kv→∃ u,vs[i]? = some (kv.1,u):=by
 induction r with
 | nil=>intro i kv h; simp at h
 | @cons p q ps qs hq t ih =>
  intro i kv h
  cases i with
  | zero=>simp at h; subst h; exact ⟨q.2,by simp [hq.1]⟩
  | succ i=>obtain ⟨u,e⟩:=ih (i:=i) (by simpa using h); exact ⟨u,by simpa using e⟩
theorem yY {X:Cx} {Aa:fO} {σ:St} {H:Hp} {s:Shared} {a:Addr} {o:Obj} {kvs:List (Key×V)} {es:Array DictEntry} {ep:Nat} (I:Inv X Aa σ H s) (e:H a=some (.frz o (.dK kvs))) (hd:o.data=.dict es ep) :
  (a == sysModules)=false∧∃ vs,KV kvs vs∧s.heap.DictAt (fG X.prog X.w) a vs ep:=by
 obtain ⟨h0,_,y,vs,r,o',es',ep',h1,h2,h3,h4⟩:=(show ObjOk X.prog X.w H s.heap a (.frz o (.dK kvs)) from I.hok a _ e)
 rw [h0] at h1
 cases h1
 rw [hd] at h3
 cases h3
 exact ⟨y,vs,r,o,es,h0,h2,hd,h4⟩
theorem aBg {P:Program} {w:World} {K:eE} {tg:Expr} (a it:Addr) (Bf:a≠it) (o:Obj) (kvs:List (Key×V)) (es:Array DictEntry) (ep:Nat) (hd:o.data=.dict es ep):Turn P w K tg (Itd a o kvs) [it] it (fun i h=>h.IsKeyIter it a i kvs.length ep) where
 mem:=by simp
 obj:=fun i h st b hb=>by
  have e:b=it:=by simpa using hb
  subst e
  obtain ⟨o,e,c,d⟩:=st
  exact ⟨o,e,fun v z=>by rw [d] at z; cases z⟩
 keep:=fun i h h' st k=>st.at fun o e=>k it (by simp) o e
 item:=by
  intro X hP hw hK hc i Aa s σ H E I hf st hg
  subst hP hw hK
  obtain ⟨ha,hi⟩:=hg
  obtain ⟨y,vs,r,dd⟩:=yY I ha hd
  obtain ⟨f0,f1,f2,f3,f4,f5⟩:=hf it (by simp)
  have hl:kvs.length=vs.length:=r.length
  obtain ⟨u,hu⟩:=r.at' (aA hi)
  rw [hl] at st
  refine wpAny_pyNext_dict_item st dd hu fun key h' hk st' sb => ?_
  have I1:Inv X Aa σ H { s with heap:=h' }:=I.turned (t':=s.toks) (fun b o hb e=>(sb.2 b hb).trans e) f0 f1 f3 f4 f5
  rw [← hl] at st'
  obtain ⟨o',e,c,d⟩:=id st'
  exact ⟨key,rfl,yU (s:={ s with heap:=h' }) e c d (by decide) ⟨kV kvs[i].1,H,I1,aXe hk,⟨rfl,_,aA hi,rfl⟩,st',fun b hb=>(hf b hb).1⟩⟩
 done:=by
  intro X hP hw hK hc i Aa s σ H E I hf st hg
  subst hP hw hK
  obtain ⟨ha,hi⟩:=hg
  obtain ⟨y,vs,r,dd⟩:=yY I ha hd
  obtain ⟨f0,f1,f2,f3,f4,f5⟩:=hf it (by simp)
  have hl:kvs.length=vs.length:=r.length
  rw [hl] at st
  exact wpAny_pyNext_dict_end (I.ok.hd hc) st dd (by simp; omega) fun h' eb=>⟨rfl,I.turned (t':=s.toks) (fun b o hb e=>eb b o hb e) f0 f1 f3 f4 f5⟩
 self:=fun _ _ _ _ _ st h=>wpAny_pyIter_keyiter st h
def yS (tl:TE):TI:=fun σ H R=>tl σ H fun x H1 => ∃ a o kvs,x=.ref a∧H1 a=some (.frz o (.dK kvs))∧R (Itd a o kvs) H1
theorem nP {X:Cx} {tg l:Expr} {tl:TE} (hl:PE X l tl):PI X tg l (yS tl):=by
 intro Aa s σ H R I h
 refine fE (hl Aa s σ H _ I h) fun v s1 ⟨x,H1,I1,r1,q1⟩ => ?_
 obtain ⟨a,o,kvs,e,ha,q⟩:=q1
 subst e
 cases r1
 obtain ⟨h0,_,y,vs,r,o',es,ep,h1,h2,h3,h4⟩:=(show ObjOk X.prog X.w H1 s1.heap a (.frz o (.dK kvs)) from I1.hok a _ ha)
 rw [h0] at h1
 cases h1
 have hl:kvs.length=vs.length:=r.length
 refine wpAny_pyIter_dict y (⟨o,es,h0,h2,h3,h4⟩ : s1.heap.DictAt (fG X.prog X.w) a vs ep) ?_
 refine ⟨s1.heap.objs.size,[s1.heap.objs.size],_,_,H1,rfl,I1.kept (t':=s1.toks) fun b o e=>aG _ e,aBg a _ (cO (aS h0)) o kvs es ep h3,⟨_,bC _ rfl,rfl,by rw [hl]; rfl⟩,fun b hb => ?_,q⟩
 have e:b=s1.heap.objs.size:=by simpa using hb
 subst e
 exact I1.fpOk (aV _) (I1.hok.fresh (aV _))
end L2
namespace L2
open PySem PySem.W PySem.Spec PyProof.Rows PySem.Calls
def aNq (h:Heap):Frag:=(List.range h.objs.size).filterMap fun a=>(h.get? a).map fun o=>(a,o)
theorem pP {α β:Type} [BEq α] [LawfulBEq α] {a:α} {b:β}:∀ {l:List (α×β)},l.lookup a=some b→(a,b)∈l
 | [],h=>by simp at h
 | (c,d) :: r,h=>by
  by_cases e:a=c
  ·subst e; simp at h; subst h; exact aB
  ·rw [cR,beq_eq_false_iff_ne.mpr e] at h
   exact aD _ (pP h)
theorem aNp (h:Heap):(aNq h).In h:=fun a o e=>by
 obtain ⟨b,_,hb⟩:=List.mem_filterMap.mp (pP e)
 obtain ⟨o',h1,h2⟩:=fR.mp hb
 cases h2
 exact h1
def exHook {α:Type} (f:Frag→α) (v:α):Hook where
 α:=α
 obs:=fun s=>f (aNq s.heap)
 val:=fun _=>v
 says:=fun _ h => ∃ K:Frag,K.In h∧f K=v
 of:=fun _ s e=>⟨aNq s.heap,aNp _,e⟩
 keeps:=fun _ _ _ e g=>by
  obtain ⟨K,k,e⟩:=e
  exact ⟨K,fun a o q=>g _ _ (k a o q),e⟩
theorem aDg:∀ w:World,((boot_heap w.params).isNs mainGlobals && (Array.mk []:Array GenState).size == 0,(boot_heap w.params).objs.size,(boot_heap w.params).nsMap mainGlobals "__annotations__")=(true,11,some (.ref 6)):=fun w=>by kernel_rfl
noncomputable def onceSeen (tr:(String→Option Builtin)→Program→World→Nat→Option Value→Nat→Shared→Thread→Option Shared) (tb:String→Option Builtin) (im:List Stmt→List Str) {β:Type} (os:List Str→Shared→β) (p:Program) (N:Nat) {α:Type} (Yf:Frag→α) (w:World) (o:OsState):Option (Bool×β×α) :=
 (tr tb p w 11 (some (.ref 6)) N ⟨boot_heap w.params,Array.mk [],boot_drawn,boot_toks,o⟩ (topStub p)).map fun s₁ =>
  (staticsOk (im p.main.body) (boot_heap w.params) s₁.heap && namesBound p s₁.heap && gensDone s₁ && laidKept (boot_heap w.params) s₁.heap,os (im p.main.body) s₁,Yf (aNq s₁.heap))
theorem aCa {p q:Program} {loose:List Str} {Xt:Shared→Bool} {α:Type} {Yf:Frag→α} {v:α} {N:Nat} {g0:Bool} (hN:Nat.ble 600 N=true) (e:opening p=plainProg p.main.scope.names) (f:∀ s,fenceModules? p s=some s)
  (all:∀ w:World,onceSeen topRun treeTable importedModules (fun m s=>openSeen q loose m Xt g0 s) p N Yf w=fun _=>some (true,openGood q loose,v)) :
  LeftO p q loose Xt (exHook Yf v).obs (exHook Yf v).val N g0:=fun w=>by
 obtain ⟨⟨h,gs,d,k,os⟩,e1,e'⟩:=fR.mp (boot_open e hN f w)
 obtain ⟨rfl,rfl,rfl,rfl⟩ : h=boot_heap w.params∧gs=Array.mk []∧d=boot_drawn∧k=boot_toks:=by simpa using e'
 obtain ⟨z1,z2,z3⟩ : _∧_∧_:=by simpa only [Prod.mk.injEq] using aDg w
 obtain ⟨s₁,r,r2⟩:=fR.mp (congrFun (all w) os)
 obtain ⟨l1,l2,l3⟩ : _∧_∧_:=by simpa only [Prod.mk.injEq] using r2
 have t:topFrom treeTable p w N ⟨boot_heap w.params,Array.mk [],boot_drawn,boot_toks,os⟩=some s₁:=by
  unfold topFrom
  dsimp only
  rw [z1,z2,z3]
  show (topRun treeTable p w 11 (some (.ref 6)) N _ (topStub p)).bind _=_
  rw [r]
  show (match staticsOk (importedModules p.main.body) (boot_heap w.params) s₁.heap && namesBound p s₁.heap && gensDone s₁ && laidKept (boot_heap w.params) s₁.heap with | true=>_ | false=>_)=_
  rw [l1]
 unfold openEnds
 rw [e1]
 show (topFrom treeTable p w N _).map _=_
 rw [t]
 exact congrArg some (Prod.ext l2 l3)
theorem walk_ex {l:PySem.W.OpenLaw} {n k:Nat} {q:Program} {loose:List Str} {XP:(Str→Option Value)→Heap→Prop} {α:Type} {f:Frag→α} {v:α} {d:DefRec} {CX:CXT} {sp:PySem.W.Frag→Sp} {x:Str}
  (hn:l.most=some n) (hn2:n≤sizeLine) (Mf:d.params.defaults=[]) (hr:Room k callerA)
  (F:∀ (w:World) (K:Frag) (mg:lN) (fa:Addr) (h:Heap),f K=v→K.In h→h.Ns mainGlobals mg→mg d.name=some (.ref fa) →
   ∃ fd:FuncData,(∀ (s:Shared) (u:Value),BindsTo s fd ⟨[u],[]⟩ [(x,u)]) ∧
    ∀ base:Heap,K.In base→base.Ns mainGlobals mg→FnOk l.prog w K mg base CX k fa fd [x] (sp K))
  (Fh:∀ (K:eE) (H:Hp) (a:Addr) (ns:List Int),ns.length≤n→aUi H→SqL K H a (ns.map V.int)→sp K [.ref a] H (fun v _=>v=.bl true) fun _ _ _=>False)
  (Mt:∀ (H:Hp) (s:Shared) (e:Value) (s':Shared),CX [] H s (fun _ _ _=>False) e s'→False) :
  PySem.W.WalkO q loose XP (exHook f v).says l.row.toRowW d [] (fun f vs=>PySem.call f vs):=by
 refine Att.attach_call hn Mf fun w s₀ s₁ mg mb fa o pm cd doc a vs ns G Y ho hd E9 Lr Hj F0 Aj hg => ?_
 obtain ⟨K,KX,hK⟩:=Y
 obtain ⟨fd,hb,hF⟩:=F w K mg fa _ hK KX G.T.g Lr
 exact aHe KX G.T.g G.T.b G.T.builtins G.T.nolimit hg Hj F0 (nzL Aj hn2) hr hF hb (fun H hO hS=>Fh K H a ns Aj hO hS) fun H e s'=>Mt H s₁ e s'
def lF (p:Program) (i:Nat):Stmt:=p.main.body.getD i (.Pass ⟨0,0,0,0⟩)
def gU (s:Stmt):Str:=match s with
 | .FunctionDef n .. => n
 | .Assign [.Name n _] _ _=>n
 | _=>⟨#[]⟩
abbrev FO:=Option ((Str×Str×Arguments×FuncBody×Scope)×(Addr×List (Str×Addr)×Value×Addr)×Bool)
def vK (K:Frag) (n:Str):FO:=match nsIn K mainGlobals n with
 | some (some (.ref f))=>(match K.lookup f with
  | some ⟨_,_,.func fd,_⟩=>some ((fd.name,fd.qualname,fd.params,fd.body,fd.scope),(fd.globals,fd.closure,fd.defaults,fd.builtins),codeIn K fd.code n)
  | _=>none)
 | _=>none
def wK (s:Stmt):FO:=some ((gU s,gU s,oB s,.stmts (hU s),aQ s),(mainGlobals,[],.none,builtinsNs),true)
def pJ (K:Frag) (n:Str):Bool:=match nsIn K mainGlobals n with
 | some none=>true
 | _=>false
def vJ (K:Frag) (n:Str):Option V:=match nsIn K mainGlobals n with
 | some (some v)=>aNr v
 | _=>none
def aSa (K:Frag) (n:Str):Option (List (Option V)):=match nsIn K mainGlobals n with
 | some (some (.ref a))=>(match K.lookup a with
  | some ⟨.type "tuple",_,.seq xs _,_⟩=>some (xs.toList.map aNr)
  | _=>none)
 | _=>none
theorem kH {K:Frag} {s:Stmt} (h:vK K (gU s)=wK s):∃ f fd,nsIn K mainGlobals (gU s)=some (some (.ref f))∧Fun K (gU s) (gU s) s f fd:=by
 unfold vK at h
 cases e:nsIn K mainGlobals (gU s) with
 | none=>rw [e] at h; cases h
 | some o =>
  cases o with
  | none=>rw [e] at h; cases h
  | some v =>
   cases v with
   | ref f =>
    rw [e] at h
    dsimp only at h
    cases e2:K.lookup f with
    | none=>rw [e2] at h; cases h
    | some ob =>
     obtain ⟨oc,od,da,sl⟩:=ob
     rw [e2] at h
     cases da with
     | func fd =>
      obtain ⟨nm,qn,pa,bo,sc,gl,cl,df,kw,dc,pm,an,cd,ct,bl⟩:=fd
      simp only [wK,Option.some.injEq,Prod.mk.injEq] at h
      obtain ⟨⟨rfl,rfl,rfl,rfl,rfl⟩,⟨rfl,rfl,rfl,rfl⟩,h3⟩:=h
      refine ⟨f,_,rfl,⟨oc,od,kw,dc,pm,an,cd,ct,sl,rfl,e2,h3⟩,?_⟩
      unfold keepIn
      dsimp only
      rw [e2]
     | _=>cases h
   | _=>rw [e] at h; cases h
theorem yG {K:Frag} {n:Str} (h:pJ K n=true):nsIn K mainGlobals n=some none:=by
 unfold pJ at h
 split at h
 ·assumption
 ·cases h
theorem aJi:∀ {v:Value} {x:V},aNr v=some x→RelV x v
 | .none,x,h=>by cases h; rfl
 | .bool b,x,h=>by cases h; rfl
 | .int i t,x,h=>by cases h; exact ⟨t,rfl⟩
 | .str i t,x,h=>by cases h; exact ⟨t,rfl⟩
 | .bytes i t,x,h=>by cases h; exact ⟨t,rfl⟩
 | .float i t,x,h=>by cases h; exact ⟨t,rfl⟩
 | .ref a,x,h=>by cases h; rfl
 | .type n,x,h=>by cases h; rfl
 | .builtin _,x,h=>by cases h
theorem aBu {K:Frag} {n:Str} {x:V} (h:vJ K n=some x):∃ v,nsIn K mainGlobals n=some (some v)∧RelV x v:=by
 unfold vJ at h
 split at h
 ·exact ⟨_,by assumption,aJi h⟩
 ·cases h
section
variable {K:Frag} {x qual:Str} {st:Stmt} {f:Addr} {p1 p2 p3 p4 p5 p6:Str}
abbrev BA (x qual:Str) (st:Stmt) (us:List Value) (r:List (Str×Value)):Prop := ∀ (kV doc pm:Value) (an:Option Addr) (Ak ct:Value),bindArgs (PySem.W.fnOf x qual (oB st) (hU st) (aQ st) .none kV doc pm an Ak ct) ⟨us,[]⟩=pure r
theorem gX (F:Fun K x qual st f fd) (h:∀ a,BA x qual st [a] [(p1,a)]):Binds K fd [p1] []:=F.binds fun _ _ _ _ _ _ us hl=>by
 match us,hl with
 | [a],_=>exact h a _ _ _ _ _ _
theorem gT (F:Fun K x qual st f fd) (h:∀ a b,BA x qual st [a,b] [(p1,a),(p2,b)]):Binds K fd [p1,p2] []:=F.binds fun _ _ _ _ _ _ us hl=>by
 match us,hl with
 | [a,b],_=>exact h a b _ _ _ _ _ _
theorem kY (F:Fun K x qual st f fd) (h:∀ a b c,BA x qual st [a,b,c] [(p1,a),(p2,b),(p3,c)]):Binds K fd [p1,p2,p3] []:=F.binds fun _ _ _ _ _ _ us hl=>by
 match us,hl with
 | [a,b,c],_=>exact h a b c _ _ _ _ _ _
end
def bltNs:List Str:=[⟨#[105,115,105,110,115,116,97,110,99,101]⟩,⟨#[105,110,116]⟩,⟨#[98,111,111,108]⟩,⟨#[108,105,115,116]⟩,⟨#[108,101,110]⟩,⟨#[115,116,114]⟩,⟨#[116,117,112,108,101]⟩,⟨#[97,108,108]⟩,⟨#[100,105,99,116]⟩,⟨#[109,97,120]⟩,⟨#[109,105,110]⟩,⟨#[114,97,110,103,101]⟩,⟨#[122,105,112]⟩,⟨#[101,110,117,109,101,114,97,116,101]⟩,⟨#[115,111,114,116,101,100]⟩,⟨#[115,117,109]⟩,⟨#[114,101,118,101,114,115,101,100]⟩]
theorem k_ {K:Frag} (h:bltNs.map (pJ K)=List.replicate 17 true) {n:Str} (i:Nat) (hi:i < 17) (e:bltNs[i]? = some n):nsIn K mainGlobals n=some none:=by
 refine yG ?_
 have:=congrArg (fun l=>l[i]?) h
 simp only [bG,e,Option.map_some,cI,hi,if_true,Option.some.injEq] at this
 exact this
end L2
namespace Lf
open PySem L2
def All2 {α β:Type} (g:α→β→Prop):List α→List β→Prop
 | [],ys=>ys=[]
 | x :: xs,ys => ∃ y yr,ys=y :: yr∧g x y∧All2 g xs yr
section
variable {α β:Type} {g h:α→β→Prop}
theorem All2.nil:All2 g [] []:=rfl
theorem All2.imp (i:∀ v x,g v x→h v x):∀ {vs:List α} {xs:List β},All2 g vs xs→All2 h vs xs
 | [],_,e=>e
 | _ :: _,_,⟨x,xr,e,a,b⟩=>⟨x,xr,e,i _ _ a,All2.imp i b⟩
theorem All2.len:∀ {vs:List α} {xs:List β},All2 g vs xs→xs.length=vs.length
 | [],_,e=>by rw [show _=[] from e]; rfl
 | _ :: _,_,⟨x,xr,e,a,b⟩=>by rw [e,aM,aM,All2.len b]
theorem All2.get:∀ {vs:List α} {xs:List β} {i:Nat} {x:β},All2 g vs xs→xs[i]? = some x→∃ v,vs[i]? = some v∧g v x
 | [],_,_,_,e,h=>by rw [show _=[] from e] at h; simp at h
 | v :: vs,_,0,x,⟨y,yr,e,a,b⟩,h=>by rw [e] at h; cases (ozI h); exact ⟨v,rfl,a⟩
 | v :: vs,_,i + 1,x,⟨y,yr,e,a,b⟩,h=>by
  rw [e] at h
  obtain ⟨u,hu,hg⟩:=All2.get (i:=i) b (by simpa using h)
  exact ⟨u,by simpa using hu,hg⟩
theorem All2.at:∀ {vs:List α} {xs:List β} {i:Nat} {v:α},All2 g vs xs→vs[i]? = some v→∃ x,xs[i]? = some x∧g v x
 | [],_,_,_,e,h=>by simp at h
 | v :: vs,_,0,w,⟨y,yr,e,a,b⟩,h=>by rw [e]; cases (ozI h); exact ⟨y,rfl,a⟩
 | v :: vs,_,i + 1,w,⟨y,yr,e,a,b⟩,h=>by
  rw [e]
  obtain ⟨u,hu,hg⟩:=All2.at (i:=i) b (by simpa using h)
  exact ⟨u,by simpa using hu,hg⟩
theorem All2.app {us:List α} {ys:List β} (hu:All2 g us ys):∀ {vs:List α} {xs:List β},All2 g vs xs→All2 g (vs ++ us) (xs ++ ys)
 | [],_,e=>by rw [show _=[] from e]; exact hu
 | _ :: _,_,⟨y,yr,e,a,b⟩=>by rw [e]; exact ⟨y,yr ++ ys,rfl,a,All2.app hu b⟩
theorem All2.one {v:α} {x:β} (hg:g v x):All2 g [v] [x]:=⟨x,[],rfl,hg,rfl⟩
theorem All2.snoc {v:α} {x:β} (hg:g v x) {vs:List α} {xs:List β} (h:All2 g vs xs):All2 g (vs ++ [v]) (xs ++ [x]):=All2.app (All2.one hg) h
theorem All2.take:∀ (n:Nat) {vs:List α} {xs:List β},All2 g vs xs→All2 g (vs.take n) (xs.take n)
 | 0,_,_,_=>by simp only [List.take_zero]; rfl
 | n + 1,[],_,e=>by rw [show _=[] from e]; rfl
 | n + 1,_ :: _,_,⟨y,yr,e,a,b⟩=>by rw [e]; exact ⟨y,yr.take n,rfl,a,All2.take n b⟩
theorem All2.drop:∀ (n:Nat) {vs:List α} {xs:List β},All2 g vs xs→All2 g (vs.drop n) (xs.drop n)
 | 0,_,_,h=>h
 | n + 1,[],_,e=>by rw [show _=[] from e]; rfl
 | n + 1,_ :: _,_,⟨y,yr,e,a,b⟩=>by rw [e]; exact All2.drop n b
theorem All2.rev:∀ {vs:List α} {xs:List β},All2 g vs xs→All2 g vs.reverse xs.reverse
 | [],_,e=>by rw [show _=[] from e]; rfl
 | _ :: _,_,⟨y,yr,e,a,b⟩=>by rw [e,hZ,hZ]; exact All2.snoc a (All2.rev b)
theorem All2.set {v:α} {x:β} (hg:g v x):∀ (i:Nat) {vs:List α} {xs:List β},All2 g vs xs→All2 g (vs.set i v) (xs.set i x)
 | _,[],_,e=>by rw [show _=[] from e]; rfl
 | 0,_ :: _,_,⟨y,yr,e,a,b⟩=>by rw [e]; exact ⟨x,yr,rfl,hg,b⟩
 | i + 1,_ :: _,_,⟨y,yr,e,a,b⟩=>by rw [e]; exact ⟨y,yr.set i x,rfl,a,All2.set hg i b⟩
end
inductive Dx where
 | non | bl (b:Bool) | int (i:Int) | str (x:Str) | tup (l:List Dx) | lst (l:List Dx) | dic (l:List (Key×Dx)) | scr (K:eE) (ns:List Int)
 | ins (C:Addr) (fs:List (Str×Dx)) | exc (c:Value)
def zB (a:Addr) (c:Value):Heap→Prop:=fun h => ∃ o vs,h.get? a=some o∧o.cls=c∧o.data=.fields vs∧o.dict=none
mutual
def IsX (H:Hp):Dx→V→Prop
 | .non,v=>v=.non
 | .bl b,v=>v=.bl b
 | .int i,v=>v=.int i
 | .str x,v=>v=.str x
 | .tup ds,v => ∃ a vs,v=.ref a∧H a=some (.tup vs)∧IsXs H ds vs
 | .lst ds,v => ∃ a vs,v=.ref a∧H a=some (.lst vs)∧IsXs H ds vs
 | .dic ks,v => ∃ a ws,v=.ref a∧Rd H a (.dK ws)∧IsXk H ks ws
 | .scr K ns,v => ∃ a,v=.ref a∧SqL K H a (ns.map V.int)
 | .ins C fs,v => ∃ a dx ws,v=.ref a∧H a=some (.ins C dx ws)∧IsXf H fs ws
 | .exc c,v => ∃ a,v=.ref a∧H a=some (.ext (zB a c))
def IsXs (H:Hp):List Dx→List V→Prop
 | [],vs=>vs=[]
 | d :: r,vs => ∃ v vr,vs=v :: vr∧IsX H d v∧IsXs H r vr
def IsXk (H:Hp):List (Key×Dx)→List (Key×V)→Prop
 | [],ws=>ws=[]
 | k :: r,ws => ∃ w wr,ws=w :: wr∧(k.1=w.1∧IsX H k.2 w.2)∧IsXk H r wr
def IsXf (H:Hp):List (Str×Dx)→List (Str×V)→Prop
 | [],ws=>ws=[]
 | k :: r,ws => ∃ w wr,ws=w :: wr∧(k.1=w.1∧IsX H k.2 w.2)∧IsXf H r wr
end
theorem IsXs.all {H:Hp}:∀ {ds:List Dx} {vs:List V},IsXs H ds vs↔All2 (IsX H) ds vs
 | [],vs=>by simp only [IsXs,All2]
 | d :: r,vs=>by
  simp only [IsXs,All2]
  constructor
  ·rintro ⟨v,vr,e,a,b⟩; exact ⟨v,vr,e,a,IsXs.all.mp b⟩
  ·rintro ⟨v,vr,e,a,b⟩; exact ⟨v,vr,e,a,IsXs.all.mpr b⟩
abbrev KvX (H:Hp) (k:Key×Dx) (w:Key×V):Prop:=k.1=w.1∧IsX H k.2 w.2
theorem IsXk.all {H:Hp}:∀ {ds:List (Key×Dx)} {vs:List (Key×V)},IsXk H ds vs↔All2 (KvX H) ds vs
 | [],vs=>by simp only [IsXk,All2]
 | d :: r,vs=>by
  simp only [IsXk,All2]
  constructor
  ·rintro ⟨v,vr,e,a,b⟩; exact ⟨v,vr,e,a,IsXk.all.mp b⟩
  ·rintro ⟨v,vr,e,a,b⟩; exact ⟨v,vr,e,a,IsXk.all.mpr b⟩
abbrev FvX (H:Hp) (k:Str×Dx) (w:Str×V):Prop:=k.1=w.1∧IsX H k.2 w.2
theorem IsXf.all {H:Hp}:∀ {ds:List (Str×Dx)} {vs:List (Str×V)},IsXf H ds vs↔All2 (FvX H) ds vs
 | [],vs=>by simp only [IsXf,All2]
 | d :: r,vs=>by
  simp only [IsXf,All2]
  constructor
  ·rintro ⟨v,vr,e,a,b⟩; exact ⟨v,vr,e,a,IsXf.all.mp b⟩
  ·rintro ⟨v,vr,e,a,b⟩; exact ⟨v,vr,e,a,IsXf.all.mpr b⟩
def SameF (H H':Hp):Prop := ∀ b o,H b=some o→H' b=some o∨∃ ob ws,(o=.dK ws∧H' b=some (.frz ob (.dK ws)))∨(o=.frz ob (.dK ws)∧H' b=some (.dK ws))
theorem SameF.of {H H':Hp} (e:Same H H'):SameF H H':=fun b o h=>.inl (e _ _ h)
theorem SameF.tup {H H':Hp} (e:SameF H H') {a:Addr} {vs:List V} (h:H a=some (.tup vs)):H' a=some (.tup vs):=by
 rcases e _ _ h with q | ⟨ob,ws,q | q⟩
 ·exact q
 ·cases q.1
 ·cases q.1
theorem SameF.lst {H H':Hp} (e:SameF H H') {a:Addr} {vs:List V} (h:H a=some (.lst vs)):H' a=some (.lst vs):=by
 rcases e _ _ h with q | ⟨ob,ws,q | q⟩
 ·exact q
 ·cases q.1
 ·cases q.1
theorem SameF.dic {H H':Hp} (e:SameF H H') {a:Addr} {ws:List (Key×V)} (h:Rd H a (.dK ws)):Rd H' a (.dK ws):=by
 rcases h with h | ⟨o,h⟩
 ·rcases e _ _ h with q | ⟨ob,ws,q | q⟩
  ·exact .inl q
  ·obtain ⟨q1,q2⟩:=q; cases q1; exact .inr ⟨_,q2⟩
  ·cases q.1
 ·rcases e _ _ h with q | ⟨ob,ws,q | q⟩
  ·exact .inr ⟨_,q⟩
  ·cases q.1
  ·obtain ⟨q1,q2⟩:=q; cases q1; exact .inl q2
theorem SameF.ins {H H':Hp} (e:SameF H H') {a C dx:Addr} {ws:List (Str×V)} (h:H a=some (.ins C dx ws)):H' a=some (.ins C dx ws):=by
 rcases e _ _ h with q | ⟨ob,ws,q | q⟩
 ·exact q
 ·cases q.1
 ·cases q.1
theorem SameF.ext {H H':Hp} (e:SameF H H') {a:Addr} {φ:Heap→Prop} (h:H a=some (.ext φ)):H' a=some (.ext φ):=by
 rcases e _ _ h with q | ⟨ob,ws,q | q⟩
 ·exact q
 ·cases q.1
 ·cases q.1
theorem SameF.sq {H H':Hp} (e:SameF H H') {K:eE} {a:Addr} {xs:List V} (h:SqL K H a xs):SqL K H' a xs:=by
 rcases h with (h | ⟨o,h⟩) | h
 ·exact .inl (.inl (e.lst h))
 ·rcases e _ _ h with q | ⟨ob,ws,q | q⟩
  ·exact .inl (.inr ⟨o,q⟩)
  ·cases q.1
  ·cases q.1
 ·exact .inr h
mutual
theorem IsX.sameF {H H':Hp} (e:SameF H H'):∀ (d:Dx) (v:V),IsX H d v→IsX H' d v
 | .non,v,h=>by simpa only [IsX] using h
 | .bl _,v,h=>by simpa only [IsX] using h
 | .int _,v,h=>by simpa only [IsX] using h
 | .str _,v,h=>by simpa only [IsX] using h
 | .tup ds,v,h=>by
  simp only [IsX] at h ⊢
  obtain ⟨a,vs,h1,h2,h3⟩:=h
  exact ⟨a,vs,h1,e.tup h2,IsXs.sameF e ds vs h3⟩
 | .lst ds,v,h=>by
  simp only [IsX] at h ⊢
  obtain ⟨a,vs,h1,h2,h3⟩:=h
  exact ⟨a,vs,h1,e.lst h2,IsXs.sameF e ds vs h3⟩
 | .dic ks,v,h=>by
  simp only [IsX] at h ⊢
  obtain ⟨a,ws,h1,h2,h3⟩:=h
  exact ⟨a,ws,h1,e.dic h2,IsXk.sameF e ks ws h3⟩
 | .scr K ns,v,h=>by
  simp only [IsX] at h ⊢
  obtain ⟨a,h1,h2⟩:=h
  exact ⟨a,h1,e.sq h2⟩
 | .ins C fs,v,h=>by
  simp only [IsX] at h ⊢
  obtain ⟨a,dx,ws,h1,h2,h3⟩:=h
  exact ⟨a,dx,ws,h1,e.ins h2,IsXf.sameF e fs ws h3⟩
 | .exc c,v,h=>by
  simp only [IsX] at h ⊢
  obtain ⟨a,h1,h2⟩:=h
  exact ⟨a,h1,e.ext h2⟩
theorem IsXs.sameF {H H':Hp} (e:SameF H H'):∀ (ds:List Dx) (vs:List V),IsXs H ds vs→IsXs H' ds vs
 | [],vs,h=>by simpa only [IsXs] using h
 | d :: r,vs,h=>by
  simp only [IsXs] at h ⊢
  obtain ⟨v,vr,h1,h2,h3⟩:=h
  exact ⟨v,vr,h1,IsX.sameF e d v h2,IsXs.sameF e r vr h3⟩
theorem IsXk.sameF {H H':Hp} (e:SameF H H'):∀ (ds:List (Key×Dx)) (ws:List (Key×V)),IsXk H ds ws→IsXk H' ds ws
 | [],vs,h=>by simpa only [IsXk] using h
 | d :: r,vs,h=>by
  simp only [IsXk] at h ⊢
  obtain ⟨v,vr,h1,h2,h3⟩:=h
  exact ⟨v,vr,h1,⟨h2.1,IsX.sameF e d.2 v.2 h2.2⟩,IsXk.sameF e r vr h3⟩
theorem IsXf.sameF {H H':Hp} (e:SameF H H'):∀ (ds:List (Str×Dx)) (ws:List (Str×V)),IsXf H ds ws→IsXf H' ds ws
 | [],vs,h=>by simpa only [IsXf] using h
 | d :: r,vs,h=>by
  simp only [IsXf] at h ⊢
  obtain ⟨v,vr,h1,h2,h3⟩:=h
  exact ⟨v,vr,h1,⟨h2.1,IsX.sameF e d.2 v.2 h2.2⟩,IsXf.sameF e r vr h3⟩
end
theorem IsX.toF {H H':Hp} {d:Dx} {v:V} (h:IsX H d v) (e:SameF H H'):IsX H' d v:=IsX.sameF e d v h
theorem IsX.to {H H':Hp} {d:Dx} {v:V} (h:IsX H d v) (e:Same H H'):IsX H' d v:=IsX.sameF (.of e) d v h
theorem IsX.int_eq {H:Hp} {i:Int} {v:V} (h:IsX H (.int i) v):v=.int i:=by simpa only [IsX] using h
theorem IsX.bl_eq {H:Hp} {i:Bool} {v:V} (h:IsX H (.bl i) v):v=.bl i:=by simpa only [IsX] using h
theorem IsX.str_eq {H:Hp} {i:Str} {v:V} (h:IsX H (.str i) v):v=.str i:=by simpa only [IsX] using h
theorem IsX.non_eq {H:Hp} {v:V} (h:IsX H .non v):v=.non:=by simpa only [IsX] using h
theorem IsX.tup_eq {H:Hp} {l:List Dx} {v:V} (h:IsX H (.tup l) v):∃ a vs,v=.ref a∧H a=some (.tup vs)∧All2 (IsX H) l vs:=by
 simp only [IsX] at h
 obtain ⟨a,vs,h1,h2,h3⟩:=h
 exact ⟨a,vs,h1,h2,IsXs.all.mp h3⟩
theorem IsX.lst_eq {H:Hp} {l:List Dx} {v:V} (h:IsX H (.lst l) v):∃ a vs,v=.ref a∧H a=some (.lst vs)∧All2 (IsX H) l vs:=by
 simp only [IsX] at h
 obtain ⟨a,vs,h1,h2,h3⟩:=h
 exact ⟨a,vs,h1,h2,IsXs.all.mp h3⟩
theorem IsX.dic_eq {H:Hp} {l:List (Key×Dx)} {v:V} (h:IsX H (.dic l) v):∃ a ws,v=.ref a∧Rd H a (.dK ws)∧All2 (KvX H) l ws:=by
 simp only [IsX] at h
 obtain ⟨a,vs,h1,h2,h3⟩:=h
 exact ⟨a,vs,h1,h2,IsXk.all.mp h3⟩
theorem IsX.scr_eq {H:Hp} {K:eE} {ns:List Int} {v:V} (h:IsX H (.scr K ns) v):∃ a,v=.ref a∧SqL K H a (ns.map V.int):=by simpa only [IsX] using h
theorem IsX.of_scr {H:Hp} {K:eE} {ns:List Int} {a:Addr} (h:SqL K H a (ns.map V.int)):IsX H (.scr K ns) (.ref a):=by simp only [IsX]; exact ⟨a,rfl,h⟩
theorem IsX.ins_eq {H:Hp} {C:Addr} {fs:List (Str×Dx)} {v:V} (h:IsX H (.ins C fs) v):∃ a dx ws,v=.ref a∧H a=some (.ins C dx ws)∧All2 (FvX H) fs ws:=by
 simp only [IsX] at h
 obtain ⟨a,dx,ws,h1,h2,h3⟩:=h
 exact ⟨a,dx,ws,h1,h2,IsXf.all.mp h3⟩
theorem IsX.exc_eq {H:Hp} {c:Value} {v:V} (h:IsX H (.exc c) v):∃ a,v=.ref a∧H a=some (.ext (zB a c)):=by simpa only [IsX] using h
theorem IsX.of_ins {H:Hp} {C a dx:Addr} {fs:List (Str×Dx)} {ws:List (Str×V)} (h:H a=some (.ins C dx ws)) (h':All2 (FvX H) fs ws):IsX H (.ins C fs) (.ref a):=by simp only [IsX]; exact ⟨a,dx,ws,rfl,h,IsXf.all.mpr h'⟩
theorem IsX.of_exc {H:Hp} {c:Value} {a:Addr} (h:H a=some (.ext (zB a c))):IsX H (.exc c) (.ref a):=by simp only [IsX]; exact ⟨a,rfl,h⟩
theorem IsX.of_int {H:Hp} (i:Int):IsX H (.int i) (.int i):=by simp only [IsX]
theorem IsX.of_bl {H:Hp} (i:Bool):IsX H (.bl i) (.bl i):=by simp only [IsX]
theorem IsX.of_str {H:Hp} (i:Str):IsX H (.str i) (.str i):=by simp only [IsX]
theorem IsX.of_non {H:Hp}:IsX H .non .non:=by simp only [IsX]
theorem IsX.of_tup {H:Hp} {l:List Dx} {a:Addr} {vs:List V} (h:H a=some (.tup vs)) (h':All2 (IsX H) l vs):IsX H (.tup l) (.ref a):=by simp only [IsX]; exact ⟨a,vs,rfl,h,IsXs.all.mpr h'⟩
theorem IsX.of_lst {H:Hp} {l:List Dx} {a:Addr} {vs:List V} (h:H a=some (.lst vs)) (h':All2 (IsX H) l vs):IsX H (.lst l) (.ref a):=by simp only [IsX]; exact ⟨a,vs,rfl,h,IsXs.all.mpr h'⟩
theorem IsX.of_dic {H:Hp} {l:List (Key×Dx)} {a:Addr} {vs:List (Key×V)} (h:Rd H a (.dK vs)) (h':All2 (KvX H) l vs):IsX H (.dic l) (.ref a):=by simp only [IsX]; exact ⟨a,vs,rfl,h,IsXk.all.mpr h'⟩
inductive Ow where
 | tr (d:Dx) | ol (a:Addr) (l:List Ow) | od (a:Addr) (l:List (Key×Ow)) | oi (C a dx:Addr) (l:List (Str×Ow))
mutual
def Ow.d:Ow→Dx
 | .tr d=>d
 | .ol _ l=>.lst (aGe l)
 | .od _ l=>.dic (aGf l)
 | .oi C _ _ l=>.ins C (aGg l)
def aGe:List Ow→List Dx
 | []=>[]
 | o :: r=>o.d :: aGe r
def aGf:List (Key×Ow)→List (Key×Dx)
 | []=>[]
 | o :: r=>(o.1,o.2.d) :: aGf r
def aGg:List (Str×Ow)→List (Str×Dx)
 | []=>[]
 | o :: r=>(o.1,o.2.d) :: aGg r
end
mutual
def Ow.fp:Ow→List Addr
 | .tr _=>[]
 | .ol a l=>a :: vD l
 | .od a l=>a :: vE l
 | .oi _ a dx l=>a :: dx :: vF l
def vD:List Ow→List Addr
 | []=>[]
 | o :: r=>o.fp ++ vD r
def vE:List (Key×Ow)→List Addr
 | []=>[]
 | o :: r=>o.2.fp ++ vE r
def vF:List (Str×Ow)→List Addr
 | []=>[]
 | o :: r=>o.2.fp ++ vF r
end
mutual
def OwOk (G H:Hp):Ow→V→Prop
 | .tr d,v=>IsX G d v
 | .ol a l,v=>v=.ref a∧∃ vs,H a=some (.lst vs)∧OwOks G H l vs
 | .od a l,v=>v=.ref a∧∃ ws,H a=some (.dK ws)∧OwOkk G H l ws
 | .oi C a dx l,v=>v=.ref a∧∃ ws,H a=some (.ins C dx ws)∧H dx=some (.own a)∧OwOkf G H l ws
def OwOks (G H:Hp):List Ow→List V→Prop
 | [],vs=>vs=[]
 | o :: r,vs => ∃ v vr,vs=v :: vr∧OwOk G H o v∧OwOks G H r vr
def OwOkk (G H:Hp):List (Key×Ow)→List (Key×V)→Prop
 | [],vs=>vs=[]
 | o :: r,vs => ∃ v vr,vs=v :: vr∧(o.1=v.1∧OwOk G H o.2 v.2)∧OwOkk G H r vr
def OwOkf (G H:Hp):List (Str×Ow)→List (Str×V)→Prop
 | [],vs=>vs=[]
 | o :: r,vs => ∃ v vr,vs=v :: vr∧(o.1=v.1∧OwOk G H o.2 v.2)∧OwOkf G H r vr
end
section
variable {G G' H H':Hp}
mutual
theorem OwOk.mono (e:SameF G G'):∀ (o:Ow) (v:V),(∀ b∈o.fp,H' b=H b)→OwOk G H o v→OwOk G' H' o v
 | .tr d,v,_,h=>by simp only [OwOk] at h ⊢; exact h.toF e
 | .ol a l,v,k,h=>by
  simp only [OwOk,Ow.fp] at h k ⊢
  obtain ⟨h1,vs,h2,h3⟩:=h
  exact ⟨h1,vs,by rw [k a aB]; exact h2,OwOks.mono e l vs (fun b hb=>k b (aD _ hb)) h3⟩
 | .od a l,v,k,h=>by
  simp only [OwOk,Ow.fp] at h k ⊢
  obtain ⟨h1,vs,h2,h3⟩:=h
  exact ⟨h1,vs,by rw [k a aB]; exact h2,OwOkk.mono e l vs (fun b hb=>k b (aD _ hb)) h3⟩
 | .oi C a dx l,v,k,h=>by
  simp only [OwOk,Ow.fp] at h k ⊢
  obtain ⟨h1,vs,h2,h4,h3⟩:=h
  exact ⟨h1,vs,by rw [k a aB]; exact h2,by rw [k dx (aD _ aB)]; exact h4,OwOkf.mono e l vs (fun b hb=>k b (aD _ (aD _ hb))) h3⟩
theorem OwOks.mono (e:SameF G G'):∀ (l:List Ow) (vs:List V),(∀ b∈vD l,H' b=H b)→OwOks G H l vs→OwOks G' H' l vs
 | [],vs,_,h=>by simpa only [OwOks] using h
 | o :: r,vs,k,h=>by
  simp only [OwOks,vD] at h k ⊢
  obtain ⟨v,vr,h1,h2,h3⟩:=h
  exact ⟨v,vr,h1,OwOk.mono e o v (fun b hb=>k b (bJ _ hb)) h2,OwOks.mono e r vr (fun b hb=>k b (aK _ hb)) h3⟩
theorem OwOkk.mono (e:SameF G G'):∀ (l:List (Key×Ow)) (vs:List (Key×V)),(∀ b∈vE l,H' b=H b)→OwOkk G H l vs→OwOkk G' H' l vs
 | [],vs,_,h=>by simpa only [OwOkk] using h
 | o :: r,vs,k,h=>by
  simp only [OwOkk,vE] at h k ⊢
  obtain ⟨v,vr,h1,h2,h3⟩:=h
  exact ⟨v,vr,h1,⟨h2.1,OwOk.mono e o.2 v.2 (fun b hb=>k b (bJ _ hb)) h2.2⟩,OwOkk.mono e r vr (fun b hb=>k b (aK _ hb)) h3⟩
theorem OwOkf.mono (e:SameF G G'):∀ (l:List (Str×Ow)) (vs:List (Str×V)),(∀ b∈vF l,H' b=H b)→OwOkf G H l vs→OwOkf G' H' l vs
 | [],vs,_,h=>by simpa only [OwOkf] using h
 | o :: r,vs,k,h=>by
  simp only [OwOkf,vF] at h k ⊢
  obtain ⟨v,vr,h1,h2,h3⟩:=h
  exact ⟨v,vr,h1,⟨h2.1,OwOk.mono e o.2 v.2 (fun b hb=>k b (bJ _ hb)) h2.2⟩,OwOkf.mono e r vr (fun b hb=>k b (aK _ hb)) h3⟩
end
def aNt (H:Hp) (b:Addr):Prop := ∃ o,H b=some o∧∀ ob u,o ≠ .frz ob u
mutual
theorem OwOk.there:∀ (o:Ow) (v:V),OwOk G H o v→∀ b∈o.fp,aNt H b
 | .tr d,v,_,b,hb=>by simp only [Ow.fp] at hb; cases hb
 | .ol a l,v,h,b,hb=>by
  simp only [OwOk,Ow.fp] at h hb
  obtain ⟨h1,vs,h2,h3⟩:=h
  rcases aI.mp hb with rfl | hb
  ·exact ⟨_,h2,fun _ _ z=>nomatch z⟩
  ·exact OwOks.there l vs h3 b hb
 | .od a l,v,h,b,hb=>by
  simp only [OwOk,Ow.fp] at h hb
  obtain ⟨h1,vs,h2,h3⟩:=h
  rcases aI.mp hb with rfl | hb
  ·exact ⟨_,h2,fun _ _ z=>nomatch z⟩
  ·exact OwOkk.there l vs h3 b hb
 | .oi C a dx l,v,h,b,hb=>by
  simp only [OwOk,Ow.fp] at h hb
  obtain ⟨h1,vs,h2,h4,h3⟩:=h
  rcases aI.mp hb with rfl | hb
  ·exact ⟨_,h2,fun _ _ z=>nomatch z⟩
  ·rcases aI.mp hb with rfl | hb
   ·exact ⟨_,h4,fun _ _ z=>nomatch z⟩
   ·exact OwOkf.there l vs h3 b hb
theorem OwOks.there:∀ (l:List Ow) (vs:List V),OwOks G H l vs→∀ b∈vD l,aNt H b
 | [],vs,_,b,hb=>by simp only [vD] at hb; cases hb
 | o :: r,vs,h,b,hb=>by
  simp only [OwOks,vD] at h hb
  obtain ⟨v,vr,h1,h2,h3⟩:=h
  rcases bA.mp hb with hb | hb
  ·exact OwOk.there o v h2 b hb
  ·exact OwOks.there r vr h3 b hb
theorem OwOkk.there:∀ (l:List (Key×Ow)) (vs:List (Key×V)),OwOkk G H l vs→∀ b∈vE l,aNt H b
 | [],vs,_,b,hb=>by simp only [vE] at hb; cases hb
 | o :: r,vs,h,b,hb=>by
  simp only [OwOkk,vE] at h hb
  obtain ⟨v,vr,h1,h2,h3⟩:=h
  rcases bA.mp hb with hb | hb
  ·exact OwOk.there o.2 v.2 h2.2 b hb
  ·exact OwOkk.there r vr h3 b hb
theorem OwOkf.there:∀ (l:List (Str×Ow)) (vs:List (Str×V)),OwOkf G H l vs→∀ b∈vF l,aNt H b
 | [],vs,_,b,hb=>by simp only [vF] at hb; cases hb
 | o :: r,vs,h,b,hb=>by
  simp only [OwOkf,vF] at h hb
  obtain ⟨v,vr,h1,h2,h3⟩:=h
  rcases bA.mp hb with hb | hb
  ·exact OwOk.there o.2 v.2 h2.2 b hb
  ·exact OwOkf.there r vr h3 b hb
end
mutual
theorem OwOk.tree (e:SameF G G'):∀ (o:Ow) (v:V),(∀ b∈o.fp,G' b=H b)→OwOk G H o v→IsX G' o.d v
 | .tr d,v,_,h=>by simp only [OwOk,Ow.d] at h ⊢; exact h.toF e
 | .ol a l,v,k,h=>by
  simp only [OwOk,Ow.fp,Ow.d] at h k ⊢
  obtain ⟨h1,vs,h2,h3⟩:=h
  subst h1
  exact IsX.of_lst (by rw [k a aB]; exact h2) (OwOks.tree e l vs (fun b hb=>k b (aD _ hb)) h3)
 | .od a l,v,k,h=>by
  simp only [OwOk,Ow.fp,Ow.d] at h k ⊢
  obtain ⟨h1,vs,h2,h3⟩:=h
  subst h1
  exact IsX.of_dic (.inl (by rw [k a aB]; exact h2)) (OwOkk.tree e l vs (fun b hb=>k b (aD _ hb)) h3)
 | .oi C a dx l,v,k,h=>by
  simp only [OwOk,Ow.fp,Ow.d] at h k ⊢
  obtain ⟨h1,vs,h2,h4,h3⟩:=h
  subst h1
  exact IsX.of_ins (by rw [k a aB]; exact h2) (OwOkf.tree e l vs (fun b hb=>k b (aD _ (aD _ hb))) h3)
theorem OwOks.tree (e:SameF G G'):∀ (l:List Ow) (vs:List V),(∀ b∈vD l,G' b=H b)→OwOks G H l vs→All2 (IsX G') (aGe l) vs
 | [],vs,_,h=>by simpa only [OwOks,aGe,All2] using h
 | o :: r,vs,k,h=>by
  simp only [OwOks,vD,aGe] at h k ⊢
  obtain ⟨v,vr,h1,h2,h3⟩:=h
  exact ⟨v,vr,h1,OwOk.tree e o v (fun b hb=>k b (bJ _ hb)) h2,OwOks.tree e r vr (fun b hb=>k b (aK _ hb)) h3⟩
theorem OwOkk.tree (e:SameF G G'):∀ (l:List (Key×Ow)) (vs:List (Key×V)),(∀ b∈vE l,G' b=H b)→OwOkk G H l vs→All2 (KvX G') (aGf l) vs
 | [],vs,_,h=>by simpa only [OwOkk,aGf,All2] using h
 | o :: r,vs,k,h=>by
  simp only [OwOkk,vE,aGf] at h k ⊢
  obtain ⟨v,vr,h1,h2,h3⟩:=h
  exact ⟨v,vr,h1,⟨h2.1,OwOk.tree e o.2 v.2 (fun b hb=>k b (bJ _ hb)) h2.2⟩,OwOkk.tree e r vr (fun b hb=>k b (aK _ hb)) h3⟩
theorem OwOkf.tree (e:SameF G G'):∀ (l:List (Str×Ow)) (vs:List (Str×V)),(∀ b∈vF l,G' b=H b)→OwOkf G H l vs→All2 (FvX G') (aGg l) vs
 | [],vs,_,h=>by simpa only [OwOkf,aGg,All2] using h
 | o :: r,vs,k,h=>by
  simp only [OwOkf,vF,aGg] at h k ⊢
  obtain ⟨v,vr,h1,h2,h3⟩:=h
  exact ⟨v,vr,h1,⟨h2.1,OwOk.tree e o.2 v.2 (fun b hb=>k b (bJ _ hb)) h2.2⟩,OwOkf.tree e r vr (fun b hb=>k b (aK _ hb)) h3⟩
end
end
inductive Sv where
 | tr (d:Dx) | ol (l:List Dx) | od (l:List (Key×Dx)) | ow (o:Ow)
def Sv.d:Sv→Dx
 | .tr d=>d
 | .ol l=>.lst l
 | .od l=>.dic l
 | .ow o=>o.d
inductive Sl where
 | un | v (s:Sv) | bw (l:List Dx) | bo (o:Ow) | pn (v:V)
abbrev vT (d:Dx):Sl:=.v (.tr d)
abbrev Rw:=Sl×Option V
def jT:Rw→List Addr
 | (.v (.ol _),some (.ref a))=>[a]
 | (.v (.od _),some (.ref a))=>[a]
 | (.bw _,some (.ref a))=>[a]
 | (.v (.ow o),_)=>o.fp
 | (.bo o,_)=>o.fp
 | _=>[]
def cD (P:List Rw):List Addr:=P.flatMap jT
def hid (O:List Addr) (H:Hp):Hp:=fun b=>if b∈O then none else H b
theorem bQ {O:List Addr} {H:Hp} {b:Addr} {o:HO}:hid O H b=some o↔b∉O∧H b=some o:=by
 unfold hid
 by_cases h:b∈O
 ·rw [if_pos h]; simp [h]
 ·rw [if_neg h]; simp [h]
theorem qC {O:List Addr} {H H':Hp} (e:Same H H'):Same (hid O H) (hid O H'):=fun b o h=>bQ.mpr ⟨(bQ.mp h).1,e _ _ (bQ.mp h).2⟩
theorem oH {O O':List Addr} {H:Hp} (e:∀ a∈O',a∈O):Same (hid O H) (hid O' H):=fun b o h=>bQ.mpr ⟨fun z=>(bQ.mp h).1 (e _ z),(bQ.mp h).2⟩
theorem z9 {O:List Addr} {H:Hp}:Same (hid O H) H:=fun b o h=>(bQ.mp h).2
def nf:Option HO→Option HO
 | some (.frz _ _)=>none
 | o=>o
theorem nR {x:Option HO} {o:HO} (h:nf x=some o):x=some o:=by
 unfold nf at h
 split at h
 ·cases h
 ·exact h
theorem vM {x y:Option HO} {o:HO} (h:nf x=some o) (e:∀ o,x=some o→y=some o):nf y=some o:=by
 have hx:=nR h
 rw [hx] at h
 rw [e o hx]
 exact h
def ext (Hs H0 H:Hp):Hp:=fun b=>match H0 b with | none=>nf (H b) | some _=>Hs b
theorem rS {Hs H0 H:Hp} {b:Addr} (h:H0 b=none):ext Hs H0 H b=nf (H b):=by unfold ext; rw [h]
theorem rT {Hs H0 H:Hp} {b:Addr} {o:HO} (h:H0 b=some o):ext Hs H0 H b=Hs b:=by unfold ext; rw [h]
theorem gw_ {Hs H0 H H':Hp} (e:Same H H'):Same (ext Hs H0 H) (ext Hs H0 H'):=fun b o h=>by
 cases q:H0 b with
 | none=>rw [rS q] at h ⊢; exact vM h (e b)
 | some u=>rw [rT q] at h ⊢; exact h
def RowOk (O:List Addr) (G H:Hp):Rw→Prop
 | (.un,_)=>True
 | (.pn w,v)=>v=some w
 | (.v (.tr d),v) => ∃ x,v=some x∧IsX (hid O G) d x
 | (.v (.ol l),v) => ∃ a vs,v=some (.ref a)∧H a=some (.lst vs)∧All2 (IsX (hid O G)) l vs
 | (.v (.od l),v) => ∃ a ws,v=some (.ref a)∧H a=some (.dK ws)∧All2 (KvX (hid O G)) l ws
 | (.bw l,v) => ∃ a vs,v=some (.ref a)∧H a=some (.lst vs)∧All2 (IsX (hid O G)) l vs
 | (.v (.ow o),v) => ∃ x,v=some x∧OwOk (hid O G) H o x
 | (.bo o,v) => ∃ x,v=some x∧OwOk (hid O G) H o x
theorem KvX.toF {H H':Hp} {k:Key×Dx} {w:Key×V} (h:KvX H k w) (e:SameF H H'):KvX H' k w:=⟨h.1,h.2.toF e⟩
theorem KvX.to {H H':Hp} {k:Key×Dx} {w:Key×V} (h:KvX H k w) (e:Same H H'):KvX H' k w:=⟨h.1,h.2.to e⟩
theorem RowOk.mono {O O':List Addr} {G G' H H':Hp} {r:Rw} (h:RowOk O G H r) (e:SameF (hid O G) (hid O' G')) (ho:∀ a∈jT r,H' a=H a):RowOk O' G' H' r:=by
 match r,h,ho with
 | (.un,_),_,_=>trivial
 | (.pn w,v),h,_=>exact h
 | (.v (.tr d),v),⟨x,h1,h2⟩,_=>exact ⟨x,h1,h2.toF e⟩
 | (.v (.ol l),v),⟨a,vs,h1,h2,h3⟩,ho =>
  subst h1
  exact ⟨a,vs,rfl,by rw [ho a (aO.mpr rfl)]; exact h2,h3.imp fun _ _ z=>z.toF e⟩
 | (.v (.od l),v),⟨a,vs,h1,h2,h3⟩,ho =>
  subst h1
  exact ⟨a,vs,rfl,by rw [ho a (aO.mpr rfl)]; exact h2,h3.imp fun _ _ z=>z.toF e⟩
 | (.bw l,v),⟨a,vs,h1,h2,h3⟩,ho =>
  subst h1
  exact ⟨a,vs,rfl,by rw [ho a (aO.mpr rfl)]; exact h2,h3.imp fun _ _ z=>z.toF e⟩
 | (.v (.ow o),v),⟨x,h1,h2⟩,ho=>exact ⟨x,h1,OwOk.mono e o x ho h2⟩
 | (.bo o,v),⟨x,h1,h2⟩,ho=>exact ⟨x,h1,OwOk.mono e o x ho h2⟩
structure Fm where
 H0:Hp
 Hs:Hp
 B:List Addr
 sub:Same Hs H0
 nb:∀ b∈B,Hs b=none
 ib:∀ b∈B,∃ o,H0 b=some o
abbrev Fm.vis (F:Fm) (H:Hp):Hp:=ext F.Hs F.H0 H
def FrOk (F:Fm) (r:Rw) (a:Addr):Prop:=match r.1 with
 | .bw _=>a∈F.B
 | .bo _=>a∈F.B∨F.H0 a=none
 | _=>F.H0 a=none
theorem FrOk.or {F:Fm} {r:Rw} {a:Addr} (h:FrOk F r a):a∈F.B∨F.H0 a=none:=by
 unfold FrOk at h
 split at h
 ·exact .inl h
 ·exact h
 ·exact .inr h
structure Rep (F:Fm) (P:List Rw) (H:Hp):Prop where
 nd:(cD P).Nodup
 ok:∀ r∈P,RowOk (cD P) (F.vis H) H r
 fr:∀ r∈P,∀ a∈jT r,FrOk F r a
 kp:∀ b o,F.H0 b=some o→b∉F.B→H b=some o
 lv:∀ b∈F.B,∃ o,H b=some o
section
variable {F:Fm} {P P':List Rw} {H H':Hp} {r r':Rw} {d:Dx} {v:V} {a p:Addr} {l l':List Dx} {vs vs':List V} {k k':List (Key×Dx)} {ws ws':List (Key×V)} {s:Sv} {x:Option V}
theorem cn_:cD (r :: P)=jT r ++ cD P:=by
 unfold cD
 rw [List.flatMap_cons]
theorem pH:cD (P ++ P')=cD P ++ cD P':=by
 unfold cD
 rw [iN]
theorem mY (h:jT r=[a]):cD (r :: P)=a :: cD P:=by rw [cn_,h]; rfl
theorem dl_ (h:jT r=[]):cD (r :: P)=cD P:=by rw [cn_,h]; rfl
theorem aBq (h:P.Perm P'):(cD P).Perm (cD P'):=h.flatMap_right _
theorem Rep.vis (R:Rep F P H):Same (F.vis H) H:=fun b o h=>by
 cases q:F.H0 b with
 | none=>exact nR ((rS q).symm.trans h)
 | some u =>
  have h:=(rT q).symm.trans h
  have:=F.sub _ _ h
  exact R.kp b o this fun z=>by rw [F.nb b z] at h; cases h
theorem Rep.hv (R:Rep F P H) {O:List Addr}:Same (hid O (F.vis H)) H:=fun b o h=>R.vis b o (bQ.mp h).2
theorem Rep.fresh (R:Rep F P H) (hp:H p=none):F.H0 p=none:=by
 cases q:F.H0 p with
 | none=>rfl
 | some o =>
  by_cases hB:p∈F.B
  ·obtain ⟨u,hu⟩:=R.lv p hB; rw [hp] at hu; cases hu
  ·rw [R.kp p o q hB] at hp; cases hp
theorem Rep.perm (R:Rep F P H) (h:P.Perm P'):Rep F P' H:=by
 have hp:(cD P).Perm (cD P'):=aBq h
 exact ⟨hp.nodup_iff.mp R.nd,fun r hr=>(R.ok r (h.mem_iff.mpr hr)).mono (.of (oH fun a ha=>hp.mem_iff.mpr ha)) fun _ _=>rfl,fun r hr=>R.fr r (h.mem_iff.mpr hr),R.kp,R.lv⟩
theorem Rep.tail (R:Rep F (r :: P) H):Rep F P H:=by
 have hs:∀ a∈cD P,a∈cD (r :: P):=fun a ha=>by rw [cn_]; exact aK _ ha
 refine ⟨?_,fun x hx=>(R.ok x (aD _ hx)).mono (.of (oH hs)) fun _ _=>rfl,fun x hx=>R.fr x (aD _ hx),R.kp,R.lv⟩
 have:=R.nd
 rw [cn_] at this
 exact (gJ.mp this).2.1
theorem dz_ (h:r∈P) (e:a∈jT r):a∈cD P:=List.mem_flatMap.mpr ⟨r,h,e⟩
theorem aWr {α:Type} {x:α} {l:List α} (h:l=[x]):x∈l:=by rw [h]; exact aO.mpr rfl
theorem eq1 {α:Type} {x y:α} {l:List α} (h:l=[x]) (hy:y∈l):y=x:=by rw [h] at hy; exact aO.mp hy
theorem Rep.own_in (R:Rep F P H) (h:a∈cD P):∃ o,H a=some o:=by
 obtain ⟨⟨sl,v⟩,hr,e⟩:=List.mem_flatMap.mp h
 have t:=R.ok (sl,v) hr
 cases sl with
 | v s =>
  cases s with
  | tr d=>exact absurd (show a∈([]:List Addr) from e) bI
  | ol l =>
   obtain ⟨c,vs,h1,h2,_⟩:=t
   cases h1
   rw [aO.mp (show a∈[c] from e)]
   exact ⟨_,h2⟩
  | od l =>
   obtain ⟨c,vs,h1,h2,_⟩:=t
   cases h1
   rw [aO.mp (show a∈[c] from e)]
   exact ⟨_,h2⟩
  | ow o =>
   obtain ⟨x,h1,h2⟩:=t
   obtain ⟨u,hu,_⟩:=OwOk.there o x h2 a e
   exact ⟨u,hu⟩
 | bw l =>
  obtain ⟨c,vs,h1,h2,_⟩:=t
  cases h1
  rw [aO.mp (show a∈[c] from e)]
  exact ⟨_,h2⟩
 | bo o =>
  obtain ⟨x,h1,h2⟩:=t
  obtain ⟨u,hu,_⟩:=OwOk.there o x h2 a e
  exact ⟨u,hu⟩
 | un=>exact absurd (show a∈([]:List Addr) from e) bI
 | pn _=>exact absurd (show a∈([]:List Addr) from e) bI
theorem Rep.not_own (R:Rep F P H) (hp:H p=none):p∉cD P:=fun z=>by
 obtain ⟨o,ho⟩:=R.own_in z
 rw [hp] at ho
 cases ho
theorem Rep.grow (R:Rep F P H) (e:Same H H'):Rep F P H':=by
 refine ⟨R.nd,fun r hr=>(R.ok r hr).mono (.of (qC (gw_ e))) fun a ha => ?_,R.fr,fun b o h1 h2=>e _ _ (R.kp b o h1 h2),fun b hb => ?_⟩
 ·obtain ⟨o,ho⟩:=R.own_in (dz_ hr ha)
  rw [ho,e _ _ ho]
 ·obtain ⟨o,ho⟩:=R.lv b hb
  exact ⟨o,e _ _ ho⟩
theorem Rep.cons0 (R:Rep F P H) (ho:jT r=[]) (h:RowOk (cD P) (F.vis H) H r):Rep F (r :: P) H:=by
 refine ⟨by rw [dl_ ho]; exact R.nd,fun x hx => ?_,fun x hx a ha => ?_,R.kp,R.lv⟩
 ·rw [dl_ ho]
  rcases aI.mp hx with rfl | hx
  ·exact h
  ·exact R.ok x hx
 ·rcases aI.mp hx with rfl | hx
  ·rw [ho] at ha; cases ha
  ·exact R.fr x hx a ha
theorem Rep.add (R:Rep F P H) (h:IsX (hid (cD P) (F.vis H)) d v):Rep F ((vT d,some v) :: P) H:=R.cons0 rfl ⟨v,rfl,h⟩
theorem Rep.addU (R:Rep F P H):Rep F ((.un,x) :: P) H:=R.cons0 rfl trivial
theorem Rep.head (R:Rep F ((.v s,x) :: P) H):∃ v,x=some v∧IsX (hid (cD P) (F.vis H)) s.d v:=by
 have h:=R.ok _ aB
 have hs:∀ a∈cD P,a∈cD ((.v s,x) :: P):=fun a ha=>by rw [cn_]; exact aK _ ha
 have hn:=R.nd
 have hf:=R.fr _ aB
 match s,h with
 | .tr d,⟨v,h1,h2⟩=>exact ⟨v,h1,h2.to (oH hs)⟩
 | .ol l,⟨a,vs,h1,h2,h3⟩ =>
  subst h1
  have q:F.H0 a=none:=hf a (aO.mpr rfl)
  rw [mY (a:=a) rfl] at hn
  exact ⟨.ref a,rfl,IsX.of_lst (vs:=vs) (bQ.mpr ⟨(dI.mp hn).1,(rS q).trans (by rw [h2]; rfl)⟩) (h3.imp fun _ _ z=>z.to (oH hs))⟩
 | .od l,⟨a,vs,h1,h2,h3⟩ =>
  subst h1
  have q:F.H0 a=none:=hf a (aO.mpr rfl)
  rw [mY (a:=a) rfl] at hn
  exact ⟨.ref a,rfl,IsX.of_dic (vs:=vs) (.inl (bQ.mpr ⟨(dI.mp hn).1,(rS q).trans (by rw [h2]; rfl)⟩)) (h3.imp fun _ _ z=>z.to (oH hs))⟩
 | .ow o,⟨v,h1,h2⟩ =>
  refine ⟨v,h1,OwOk.tree (.of (oH hs)) o v (fun b hb => ?_) h2⟩
  have q:F.H0 b=none:=hf b hb
  obtain ⟨u,hu,Dv⟩:=OwOk.there o v h2 b hb
  rw [cn_] at hn
  have hb2:b∉cD P:=fun z=>(gJ.mp hn).2.2 b hb b z rfl
  rw [hu]
  refine bQ.mpr ⟨hb2,(rS q).trans ?_⟩
  rw [hu]
  unfold nf
  split
  ·rename_i e; cases e; exact absurd rfl (Dv _ _)
  ·rfl
theorem Rep.frz (R:Rep F ((.v s,x) :: P) H):Rep F ((vT s.d,x) :: P) H:=by
 obtain ⟨v,rfl,h⟩:=R.head
 exact R.tail.add h
theorem wC {O:List Addr} {Hs H0:Hp} (hp:H p=none) {o:HO} (hq:H0 p=none):Same (hid O (ext Hs H0 H)) (hid (p :: O) (ext Hs H0 (upd H p o))):=fun b u hb=>by
 have Av:=bQ.mp hb
 have Ha:b≠p:=fun z=>by have:=nR ((rS hq).symm.trans (z ▸ Av.2)); rw [hp] at this; cases this
 refine bQ.mpr ⟨fun z=>(aI.mp z).elim Ha Av.1,?_⟩
 cases q:H0 b with
 | none=>exact (rS q).trans ((congrArg nf (gA Ha)).trans ((rS q).symm.trans Av.2))
 | some w=>exact (rT q).trans ((rT q).symm.trans Av.2)
theorem Rep.new_own (R:Rep F P H) (hp:H p=none) {o:HO} (hA:jT (.v s,some (.ref p))=[p]) (h:RowOk (p :: cD P) (F.vis (upd H p o)) (upd H p o) (.v s,some (.ref p))):Rep F ((.v s,some (.ref p)) :: P) (upd H p o):=by
 have Az:=R.not_own hp
 have hq:=R.fresh hp
 refine ⟨by rw [mY hA]; exact dI.mpr ⟨Az,R.nd⟩,fun r hr => ?_,fun r hr a ha => ?_,fun b o h1 h2 => ?_,fun b hb => ?_⟩
 ·rw [mY hA]
  rcases aI.mp hr with rfl | hr
  ·exact h
  ·exact (R.ok r hr).mono (.of (wC hp hq)) fun a ha=>gA fun z=>Az (z ▸ dz_ hr ha)
 ·rcases aI.mp hr with rfl | hr
  ·cases eq1 hA ha; exact hq
  ·exact R.fr r hr a ha
 ·have:=R.kp b o h1 h2
  rw [gA fun z=>by rw [z,hp] at this; cases this]
  exact this
 ·obtain ⟨u,hu⟩:=R.lv b hb
  exact ⟨u,by rw [gA fun z=>by rw [z,hp] at hu; cases hu]; exact hu⟩
theorem Rep.newL (R:Rep F P H) (hp:H p=none) (h:All2 (IsX (hid (cD P) (F.vis H))) l vs):Rep F ((.v (.ol l),some (.ref p)) :: P) (upd H p (.lst vs)) :=
 R.new_own hp rfl ⟨p,vs,rfl,cX,h.imp fun _ _ z=>z.to (wC hp (R.fresh hp))⟩
theorem Rep.newD (R:Rep F P H) (hp:H p=none) (h:All2 (KvX (hid (cD P) (F.vis H))) k ws):Rep F ((.v (.od k),some (.ref p)) :: P) (upd H p (.dK ws)) :=
 R.new_own hp rfl ⟨p,ws,rfl,cX,h.imp fun _ _ z=>z.to (wC hp (R.fresh hp))⟩
theorem Rep.newT (R:Rep F P H) (hp:H p=none) (h:All2 (IsX (hid (cD P) (F.vis H))) l vs):Rep F ((vT (.tup l),some (.ref p)) :: P) (upd H p (.tup vs)):=by
 have e:Same H (upd H p (.tup vs)):=id_ hp _
 exact (R.grow e).add (IsX.of_tup (vs:=vs) (bQ.mpr ⟨R.not_own hp,(rS (R.fresh hp)).trans (by rw [cX]; rfl)⟩) (h.imp fun _ _ z=>z.to (qC (gw_ e))))
theorem wB {O:List Addr} {o:HO} {Hs H0:Hp}:Same (hid (a :: O) (ext Hs H0 H)) (hid (a :: O) (ext Hs H0 (upd H a o))):=fun b u hb=>by
 have Av:=bQ.mp hb
 have J9:b≠a:=fun z=>Av.1 (by rw [z]; exact aB)
 refine bQ.mpr ⟨Av.1,?_⟩
 cases q:H0 b with
 | none=>exact (rS q).trans ((congrArg nf (gA J9)).trans ((rS q).symm.trans Av.2))
 | some w=>exact (rT q).trans ((rT q).symm.trans Av.2)
theorem Rep.put {o:HO} (R:Rep F (r :: P) H) (hA:jT r=[a]) (Ia:jT r'=[a]) (hF:FrOk F r a→FrOk F r' a) (h:RowOk (a :: cD P) (F.vis (upd H a o)) (upd H a o) r'):Rep F (r' :: P) (upd H a o):=by
 have hn:=R.nd
 rw [mY hA] at hn
 have Js:=(dI.mp hn).1
 have R1:=R.ok
 rw [mY hA] at R1
 have Ce:=R.fr r aB a (aWr hA)
 refine ⟨by rw [mY Ia]; exact hn,fun x hx => ?_,fun x hx b hb => ?_,fun b u h1 h2 => ?_,fun b hb => ?_⟩
 ·rw [mY Ia]
  rcases aI.mp hx with rfl | hx
  ·exact h
  ·exact (R1 x (aD _ hx)).mono (.of wB) fun b hb=>gA fun z=>Js (z ▸ dz_ hx hb)
 ·rcases aI.mp hx with rfl | hx
  ·cases eq1 Ia hb; exact hF Ce
  ·exact R.fr x (aD _ hx) b hb
 ·have hb:=R.kp b u h1 h2
  by_cases z:b=a
  ·subst z
   rcases Ce.or with Ce | Ce
   ·exact absurd Ce h2
   ·rw [Ce] at h1; cases h1
  ·rw [gA z]; exact hb
 ·by_cases z:b=a
  ·subst z; exact ⟨o,cX⟩
  ·rw [gA z]; exact R.lv b hb
theorem Rep.putD (R:Rep F ((.v (.od k),some (.ref a)) :: P) H) (h:All2 (KvX (hid (a :: cD P) (F.vis H))) k' ws'):Rep F ((.v (.od k'),some (.ref a)) :: P) (upd H a (.dK ws')) :=
 R.put (a:=a) rfl rfl id ⟨a,ws',rfl,cX,h.imp fun _ _ z=>z.to wB⟩
theorem Rep.atL (R:Rep F ((.v (.ol l),x) :: P) H):∃ a vs,x=some (.ref a)∧H a=some (.lst vs)∧All2 (IsX (hid (a :: cD P) (F.vis H))) l vs:=by
 obtain ⟨a,vs,h1,h2,h3⟩:=R.ok _ aB
 subst h1
 exact ⟨a,vs,rfl,h2,by rw [← mY (a:=a) (r:=(.v (.ol l),some (.ref a))) rfl]; exact h3⟩
theorem Rep.atB (R:Rep F ((.bw l,x) :: P) H):∃ a vs,x=some (.ref a)∧H a=some (.lst vs)∧All2 (IsX (hid (a :: cD P) (F.vis H))) l vs:=by
 obtain ⟨a,vs,h1,h2,h3⟩:=R.ok _ aB
 subst h1
 exact ⟨a,vs,rfl,h2,by rw [← mY (a:=a) (r:=(.bw l,some (.ref a))) rfl]; exact h3⟩
theorem Rep.atD (R:Rep F ((.v (.od k),x) :: P) H):∃ a ws,x=some (.ref a)∧H a=some (.dK ws)∧All2 (KvX (hid (a :: cD P) (F.vis H))) k ws:=by
 obtain ⟨a,vs,h1,h2,h3⟩:=R.ok _ aB
 subst h1
 exact ⟨a,vs,rfl,h2,by rw [← mY (a:=a) (r:=(.v (.od k),some (.ref a))) rfl]; exact h3⟩
theorem Rep.atT (R:Rep F ((vT d,x) :: P) H):∃ v,x=some v∧IsX (hid (cD P) (F.vis H)) d v:=R.head
end
section
variable {ρ:List Sl} {σ:St} {i:Nat} {s s':Sl} {v v':Option V}
theorem aPd (h1:ρ[i]? = some s) (h2:σ[i]? = some v):(ρ.zip σ)[i]? = some (s,v):=(cJ (z:=(s,v))).mpr ⟨h1,h2⟩
theorem aOi {α:Type}:∀ (l:List α) (i:Nat) (h:i < l.length),l.Perm (l[i] :: l.eraseIdx i)
 | x :: l,0,_=>.refl _
 | x :: l,i + 1,h=>((aOi l i (by simpa using h)).cons x).trans (.swap _ _ _)
theorem aFp {α:Type} {l:List α} {x:α} {i:Nat} (h:l[i]? = some x):l.Perm (x :: l.eraseIdx i):=by
 obtain ⟨hi,e⟩:=aF.mp h
 subst e
 exact aOi l i hi
theorem fo_ (h1:ρ[i]? = some s) (h2:σ[i]? = some v):(ρ.zip σ).Perm ((s,v) :: (ρ.zip σ).eraseIdx i):=aFp (aPd h1 h2)
theorem p7:∀ {ρ:List Sl} {σ:St} (i:Nat),(ρ.set i s).zip (σ.set i v)=(ρ.zip σ).set i (s,v)
 | [],_,_=>by simp
 | _ :: _,[],_=>by simp
 | a :: ρ,b :: σ,0=>rfl
 | a :: ρ,b :: σ,i + 1=>by simp only [cA,cG]; rw [p7 i]
theorem nI (hl:ρ.length=σ.length) (h:i < ρ.length):((ρ.set i s).zip (σ.set i v)).Perm ((s,v) :: (ρ.zip σ).eraseIdx i):=by
 rw [p7]
 have hi:i < (ρ.zip σ).length:=by rw [cM]; omega
 have:=aFp (l:=(ρ.zip σ).set i (s,v)) (x:=(s,v)) (i:=i) (by rw [fS hi])
 rwa [List.eraseIdx_set_eq] at this
theorem aEy (h:σ[i]? = some v):σ.set i v=σ:=by
 obtain ⟨hi,e⟩:=aF.mp h
 subst e
 exact List.set_getElem_self hi
theorem dg_ (hl:ρ.length=σ.length) (h:i < ρ.length) (h2:σ[i]? = some v):((ρ.set i s).zip σ).Perm ((s,v) :: (ρ.zip σ).eraseIdx i):=by
 have:=nI (s:=s) (v:=v) hl h
 rwa [aEy h2] at this
end
end Lf
namespace L2
open PySem
theorem PE.weak {X:Cx} {e:Expr} {t u:TE} (h:PE X e t) (w:∀ σ H Q,u σ H Q→t σ H Q):PE X e u:=fun Aa s σ H Q I q=>h Aa s σ H Q I (w σ H Q q)
theorem PT.weak {X:Cx} {e:Expr} {t u:TT} (h:PT X e t) (w:∀ σ H Q,u σ H Q→t σ H Q):PT X e u:=fun Aa s σ H Q I q=>h Aa s σ H Q I (w σ H Q q)
theorem PW.weak {X:Cx} {e:Expr} {t u:TT} (h:PW X e t) (w:∀ σ H Q,u σ H Q→t σ H Q):PW X e u:=fun wh Aa s σ H Q I q=>h wh Aa s σ H Q I (w σ H Q q)
theorem PA.weak {X:Cx} {e:List Expr} {t u:TA} (h:PA X e t) (w:∀ σ H Q,u σ H Q→t σ H Q):PA X e u:=fun pos Aa s σ H Q I q=>h pos Aa s σ H Q I (w σ H Q q)
theorem PE.or {X:Cx} {e:Expr} {t u:TE} (h:PE X e t) (h':PE X e u):PE X e (fun σ H Q=>t σ H Q∨u σ H Q):=fun Aa s σ H Q I q=>q.elim (h Aa s σ H Q I) (h' Aa s σ H Q I)
end L2
namespace Lf
open PySem L2
abbrev En:=List Sl
abbrev XT:=En→(Sv→En→Prop)→Prop
abbrev XC:=En→(Bool→En→Prop)→Prop
abbrev XA:=En→(List Sv→En→Prop)→Prop
structure EOk (F:Fm) (ρ:En) (σ:St) (fr:List Rw) (H:Hp):Prop where
 len:ρ.length=σ.length
 rep:Rep F (ρ.zip σ ++ fr) H
def tX (F:Fm) (t:XT):TE:=fun σ H Q => ∃ ρ fr Qx,EOk F ρ σ fr H∧t ρ Qx∧∀ v s H' ρ',EOk F ρ' σ ((.v s,some v) :: fr) H'→Qx s ρ'→Q v H'
def tXc (F:Fm) (t:XC):TT:=fun σ H Q => ∃ ρ fr Qx,EOk F ρ σ fr H∧t ρ Qx∧∀ b H' ρ',EOk F ρ' σ fr H'→Qx b ρ'→Q b H'
def aEo (ss:List Sv) (vs:List V):List Rw:=(ss.zip vs).map fun p=>(.v p.1,some p.2)
def tXa (F:Fm) (t:XA):TA:=fun σ H Q => ∃ ρ fr Qx,EOk F ρ σ fr H∧t ρ Qx∧∀ vs ss H' ρ',ss.length=vs.length→EOk F ρ' σ (aEo ss vs ++ fr) H'→Qx ss ρ'→Q vs H'
abbrev ExT:=Value→Prop
abbrev dU:ExT:=fun _=>False
def o9 (F:Fm) (H:Hp):Prop := ∀ b o,F.H0 b=some o→b∉F.B→H b=some o
def Air (nw:Addr→Prop) (h':Heap) (H:Hp) (ea:Addr) (cls:Value):Prop:=nw ea∧H ea=none∧∃ oe vs,h'.get? ea=some oe∧oe.cls=cls∧oe.data=.fields vs∧oe.dict=none∧1 < vs.size ∧
 (vs[1]? = some .none∨∃ T oT ts,vs[1]? = some (.ref T)∧T≠ea∧nw T∧H T=none∧h'.get? T=some oT∧oT.data=.fields ts∧3 < ts.size)
def CXe (P:Program) (w:World):CXT:=fun outer H s E e s' => ∃ (ea:Addr) (cls:Value) (H':Hp),e=.ref ea∧s'.os=s.os∧PyProof.Rows.AllBare s'.gens∧Un (frs outer) [] H H' s.heap s'.heap∧HOk P w H' s'.heap∧Air (fun b=>s.heap.get? b=none) s'.heap H' ea cls∧E cls none H'
abbrev NwX (X:Cx) (Aa:fO):Addr→Prop:=fun b=>(X.s₀.heap.get? b=none∨b∈X.ex)∧∀ p∈X.pn ++ Aa,p.1≠b
class OkF (X:Cx) (Ex:ExT) (F:Fm):Prop where
 pass1:∀ (Aa:fO) (σ:St) (H:Hp) (s':Shared) (ea:Addr) (cls:Value),Inv X Aa σ H s'→Air (NwX X Aa) s'.heap H ea cls→Ex cls→o9 F H→X.xe (.ref ea) s'
instance {X:Cx} {F:Fm}:OkF X dU F:=⟨fun _ _ _ _ _ _ _ _ h _=>h.elim⟩
def XE (X:Cx) (Ex:ExT) (e:Expr) (t:XT):Prop := ∀ F,[OkF X Ex F]→PE X e (tX F t)
def XTe (X:Cx) (Ex:ExT) (e:Expr) (t:XC):Prop := ∀ F,[OkF X Ex F]→PT X e (tXc F t)
def XW (X:Cx) (Ex:ExT) (e:Expr) (t:XC):Prop := ∀ F,[OkF X Ex F]→PW X e (tXc F t)
def XAs (X:Cx) (Ex:ExT) (es:List Expr) (t:XA):Prop := ∀ F,[OkF X Ex F]→PA X es (tXa F t)
section
variable {F:Fm} {ρ ρ':En} {σ:St} {fr P:List Rw} {H H':Hp} {s:Sv} {v x y:V} {a b:Dx}
theorem EOk.grow (E:EOk F ρ σ fr H) (e:Same H H'):EOk F ρ σ fr H':=⟨E.len,E.rep.grow e⟩
theorem nG {α:Type} {x:α} {A B:List α}:(A ++ x :: B).Perm (x :: (A ++ B)):=List.perm_middle
theorem EOk.front {r:Rw} (E:EOk F ρ σ (r :: fr) H):Rep F (r :: (ρ.zip σ ++ fr)) H:=E.rep.perm nG
theorem EOk.back {r:Rw} (hl:ρ.length=σ.length) (R:Rep F (r :: (ρ.zip σ ++ fr)) H):EOk F ρ σ (r :: fr) H:=⟨hl,R.perm nG.symm⟩
theorem EOk.drop {r:Rw} (E:EOk F ρ σ (r :: fr) H):EOk F ρ σ fr H:=⟨E.len,E.front.tail⟩
theorem EOk.one (E:EOk F ρ σ ((.v s,some v) :: fr) H):Rep F (ρ.zip σ ++ fr) H∧IsX (hid (cD (ρ.zip σ ++ fr)) (F.vis H)) s.d v:=by
 obtain ⟨v',e,h⟩:=E.front.head
 cases e
 exact ⟨E.front.tail,h⟩
theorem EOk.two {s1 s2:Sv} {v1 v2:V} (E:EOk F ρ σ ((.v s2,some v2) :: (.v s1,some v1) :: fr) H) :
  Rep F (ρ.zip σ ++ fr) H∧IsX (hid (cD (ρ.zip σ ++ fr)) (F.vis H)) s1.d v1∧IsX (hid (cD (ρ.zip σ ++ fr)) (F.vis H)) s2.d v2:=by
 obtain ⟨R1,h1⟩:=E.drop.one
 obtain ⟨R2,h2⟩:=E.one
 refine ⟨R1,h1,h2.to (oH fun c hc => ?_)⟩
 have:(cD ((.v s1,some v1) :: (ρ.zip σ ++ fr))).Perm (cD (ρ.zip σ ++ (.v s1,some v1) :: fr)):=nG.symm.flatMap_right _
 refine this.mem_iff.mp ?_
 rw [cn_]
 exact aK _ hc
end
def bW (i:Nat):XT:=fun ρ Q=>match ρ[i]? with
 | some (.v s)=>Q (.tr s.d) (ρ.set i (.v (.tr s.d)))
 | _=>False
def jO (i:Nat):XT:=fun ρ Q=>match ρ[i]? with
 | some (.v s)=>Q s (ρ.set i .un)
 | _=>False
theorem aMp {ρ:En} {σ:St} {i:Nat} {s:Sl} (hl:ρ.length=σ.length) (h:ρ[i]? = some s):∃ v,σ[i]? = some v:=by
 have:=(aF.mp h).1
 exact ⟨_,aA (by omega)⟩
section
variable {X:Cx} {Ex:ExT} {i:Nat} {x:Str} {pos:Pos}
theorem di_ {F:Fm} {ρ:En} {σ:St} {fr:List Rw} {H:Hp} {s:Sl} (E:EOk F ρ σ fr H) (h:ρ[i]? = some s):∃ v,σ[i]? = some v∧i < ρ.length∧Rep F ((s,v) :: ((ρ.zip σ).eraseIdx i ++ fr)) H:=by
 obtain ⟨v,hv⟩:=aMp E.len h
 exact ⟨v,hv,(aF.mp h).1,E.rep.perm ((fo_ h hv).append_right fr)⟩
theorem nZ {F:Fm} {ρ:En} {σ:St} {fr:List Rw} {H:Hp} {s:Sl} {v:Option V} (hl:ρ.length=σ.length) (hi:i < ρ.length) (hv:σ[i]? = some v) (R:Rep F ((s,v) :: ((ρ.zip σ).eraseIdx i ++ fr)) H):EOk F (ρ.set i s) σ fr H :=
 ⟨by rw [bB]; exact hl,R.perm ((dg_ hl hi hv).append_right fr).symm⟩
theorem bE (h:PE X (.Name x pos) (iH i)):XE X Ex (.Name x pos) (bW i):=fun F=>h.weak fun σ H Q=>by
 rintro ⟨ρ,fr,Qx,E,t,k⟩
 unfold bW at t
 split at t
 ·rename_i s hs
  obtain ⟨v,hv,hi,R⟩:=di_ E hs
  obtain ⟨w,rfl,hx⟩:=R.head
  refine ⟨w,hv,k w _ H _ ?_ t⟩
  have R2:=R.frz
  have R3:Rep F ((vT s.d,some w) :: (vT s.d,some w) :: ((ρ.zip σ).eraseIdx i ++ fr)) H:=R2.add hx
  exact EOk.back (by rw [bB]; exact E.len) (R3.perm (((dg_ E.len hi hv).append_right fr).symm.cons _))
 ·exact t.elim
theorem tQ (h:PE X (.Name x pos) (iH i)):XE X Ex (.Name x pos) (jO i):=fun F=>h.weak fun σ H Q=>by
 rintro ⟨ρ,fr,Qx,E,t,k⟩
 unfold jO at t
 split at t
 ·rename_i s hs
  obtain ⟨v,hv,hi,R⟩:=di_ E hs
  obtain ⟨w,rfl,hx⟩:=R.head
  refine ⟨w,hv,k w _ H _ ?_ t⟩
  have R3:Rep F ((.v s,some w) :: (.un,some w) :: ((ρ.zip σ).eraseIdx i ++ fr)) H:=(R.addU (x:=some w)).perm (.swap _ _ _)
  exact EOk.back (by rw [bB]; exact E.len) (R3.perm (((dg_ E.len hi hv).append_right fr).symm.cons _))
 ·exact t.elim
end
def xC (d:Dx):XT:=fun ρ Q=>Q (.tr d) ρ
theorem aDv {X:Cx} {Ex:ExT} {e:Expr} {v:V} (h:PE X e (tC v)) (d:Dx) (hd:∀ H,IsX H d v):XE X Ex e (xC d):=fun F=>h.weak fun σ H Q=>by
 rintro ⟨ρ,fr,Qx,E,t,k⟩
 exact k v _ H ρ (EOk.back E.len (E.rep.add (hd _))) t
section
variable {X:Cx} {Ex:ExT}
theorem dH {i j pos}:XE X Ex (.Constant (.int i) j pos) (xC (.int i)):=aDv pD _ fun _=>IsX.of_int _
theorem mZ {b j pos}:XE X Ex (.Constant (.bool b) j pos) (xC (.bl b)):=aDv aWg _ fun _=>IsX.of_bl _
theorem ef_ {j pos}:XE X Ex (.Constant .none j pos) (xC .non):=aDv aQn _ fun _=>IsX.of_non
theorem lI {x j pos}:XE X Ex (.Constant (.str x) j pos) (xC (.str x)):=aDv i7 _ fun _=>IsX.of_str _
end
abbrev G2:=Dx→Dx→(Sv→Prop)→Prop
def OpX (r:R2) (g:G2):Prop := ∀ (F:Fm) (P:List Rw) (H:Hp) (a b:Dx) (x y:V) (Q:VK) (Qx:Sv→Prop),Rep F P H→IsX (hid (cD P) (F.vis H)) a x→IsX (hid (cD P) (F.vis H)) b y→g a b Qx →
 (∀ v s H',Rep F ((.v s,some v) :: P) H'→Qx s→Q v H')→r x y H Q
def xOp (g:G2) (ta tb:XT):XT:=fun ρ Q=>ta ρ fun a ρ1=>tb ρ1 fun b ρ2=>g a.d b.d fun s=>Q s ρ2
theorem oW {F:Fm} {r:R2} {g:G2} {ta tb:XT} (hx:OpX r g):∀ σ H Q,tX F (xOp g ta tb) σ H Q→tOp r (tX F ta) (tX F tb) σ H Q:=by
 rintro σ H Q ⟨ρ,fr,Qx,E,t,k⟩
 refine ⟨ρ,fr,_,E,t,fun v s H' ρ' E' t' => ?_⟩
 refine ⟨ρ',_,_,E',t',fun w s2 H2 ρ2 E2 t2 => ?_⟩
 obtain ⟨R,h1,h2⟩:=E2.two
 exact hx F _ H2 s.d s2.d v w Q (fun z=>Qx z ρ2) R h1 h2 t2 fun v' s' H' R' q=>k v' s' H' ρ2 (EOk.back E2.len R') q
def xB (t:XT):XC:=fun ρ Q=>t ρ fun s ρ'=>match s with
 | .tr (.bl b)=>Q b ρ'
 | _=>False
theorem he_ {F:Fm} {t:TE} {u:XT} (h:∀ σ H Q,tX F u σ H Q→t σ H Q):∀ σ H Q,tXc F (xB u) σ H Q→aEr t σ H Q:=by
 rintro σ H Q ⟨ρ,fr,Qx,E,t,k⟩
 refine h _ _ _ ⟨ρ,fr,_,E,t,fun v s H' ρ' E' q => ?_⟩
 split at q
 ·rename_i b
  obtain ⟨_,hx⟩:=E'.one
  cases hx.bl_eq
  exact ⟨b,rfl,k b H' ρ' E'.drop q⟩
 ·exact q.elim
section
variable {X:Cx} {Ex:ExT} {a b c e:Expr} {pos:Pos} {r r':R2} {g g':G2} {ta tb tc:XT}
theorem sI {op:Operator} (ho:OpR X (binaryOp op) r) (hx:OpX r g) (ha:XE X Ex a ta) (hb:XE X Ex b tb):XE X Ex (.BinOp a op b pos) (xOp g ta tb):=fun F=>(aWf ho (ha F) (hb F)).weak (oW hx)
theorem fx_ {op:CmpOp} (ho:OpR X (compareOp op) r) (hx:OpX r g) (ha:XE X Ex a ta) (hb:XE X Ex b tb) (hm:behindInMarks op b=false):XE X Ex (.Compare a [op] [b] pos) (xOp g ta tb):=fun F=>(aKz ho (ha F) (hb F) hm).weak (oW hx)
theorem iM {op:CmpOp} (ho:OpR X (compareOp op) r) (hx:OpX r g) (ha:XE X Ex a ta) (hb:XE X Ex b tb) (hm:behindInMarks op b=false):XTe X Ex (.Compare a [op] [b] pos) (xB (xOp g ta tb)):=fun F=>(uV ho (ha F) (hb F) hm).weak (he_ (oW hx))
theorem xG {t:XT} (h:XE X Ex e t) (he:∀ whole,isTrue e X.env whole=(do let v ← whole; standAt e.pos; holding [v] (truthy v)):=by intro _; rfl):XTe X Ex e (xB t):=fun F=>(aQd (h F) he).weak (he_ fun _ _ _ z=>z)
def aBd (t u:XC):XC:=fun ρ Q=>t ρ fun c ρ1=>if c=true then u ρ1 Q else Q false ρ1
def xOr (t u:XC):XC:=fun ρ Q=>t ρ fun c ρ1=>if c=true then Q true ρ1 else u ρ1 Q
def aDy (t:XC):XC:=fun ρ Q=>t ρ fun c ρ1=>Q (!c) ρ1
theorem iq_ {t:XC} (h:XTe X Ex a t):XW X Ex (.BoolOp .And [a] pos) t:=fun F=>aKo (h F)
theorem gk_ {t:XC} (h:XTe X Ex a t):XW X Ex (.BoolOp .Or [a] pos) t:=fun F=>aQb (h F)
theorem oI {t u:XC} {rest:List Expr} (h:XTe X Ex a t) (h':XW X Ex (.BoolOp .And (b :: rest) pos) u):XW X Ex (.BoolOp .And (a :: b :: rest) pos) (aBd t u):=fun F=>(aQc (h F) (h' F)).weak fun σ H Q=>by
 rintro ⟨ρ,fr,Qx,E,t,k⟩
 refine ⟨ρ,fr,_,E,t,fun c H' ρ' E' q => ?_⟩
 cases c with
 | true=>exact ⟨ρ',fr,Qx,E',q,k⟩
 | false=>exact k false H' ρ' E' q
theorem lE {t u:XC} {rest:List Expr} (h:XTe X Ex a t) (h':XW X Ex (.BoolOp .Or (b :: rest) pos) u):XW X Ex (.BoolOp .Or (a :: b :: rest) pos) (xOr t u):=fun F=>(aWc (h F) (h' F)).weak fun σ H Q=>by
 rintro ⟨ρ,fr,Qx,E,t,k⟩
 refine ⟨ρ,fr,_,E,t,fun c H' ρ' E' q => ?_⟩
 cases c with
 | true=>exact k true H' ρ' E' q
 | false=>exact ⟨ρ',fr,Qx,E',q,k⟩
theorem ff_ {t:XC} (h:XTe X Ex a t):XTe X Ex (.UnaryOp .Not a pos) (aDy t):=fun F=>(aQe (h F)).weak fun σ H Q=>by
 rintro ⟨ρ,fr,Qx,E,t,k⟩
 exact ⟨ρ,fr,_,E,t,fun c H' ρ' E' q=>k (!c) H' ρ' E' q⟩
theorem XW.pt {t:XC} (h:XW X Ex e t):XTe X Ex e t:=fun F=>(h F).pt
def aEb (t u:XT):XT:=fun ρ Q=>xB t ρ fun c ρ1=>if c=true then u ρ1 Q else Q (.tr (.bl false)) ρ1
def aNv (t:XT):XT:=fun ρ Q=>xB t ρ fun c ρ1=>Q (.tr (.bl (!c))) ρ1
theorem oM {op} {t:XT} (h:XE X Ex a t):XE X Ex (.BoolOp op [a] pos) t:=fun F=>aQl (h F)
theorem oP {t u:XT} {rest:List Expr} (h:XE X Ex a t) (h':XE X Ex (.BoolOp .And (b :: rest) pos) u):XE X Ex (.BoolOp .And (a :: b :: rest) pos) (aEb t u):=fun F=>(aQq (h F) (h' F)).weak fun σ H Q=>by
 rintro ⟨ρ,fr,Qx,E,t,k⟩
 refine ⟨ρ,fr,_,E,t,fun v s H' ρ' E' q => ?_⟩
 split at q
 ·rename_i c
  obtain ⟨_,hx⟩:=E'.one
  cases hx.bl_eq
  refine ⟨c,rfl,?_⟩
  cases c with
  | true=>exact ⟨ρ',fr,Qx,E'.drop,q,k⟩
  | false=>exact k _ _ H' ρ' (EOk.back E'.len (E'.drop.rep.add (IsX.of_bl _))) q
 ·exact q.elim
theorem aDs {t:XT} (h:XE X Ex a t):XE X Ex (.UnaryOp .Not a pos) (aNv t):=fun F=>(aQm (h F)).weak fun σ H Q=>by
 rintro ⟨ρ,fr,Qx,E,t,k⟩
 refine ⟨ρ,fr,_,E,t,fun v s H' ρ' E' q => ?_⟩
 split at q
 ·rename_i c
  obtain ⟨_,hx⟩:=E'.one
  cases hx.bl_eq
  exact ⟨c,rfl,k _ _ H' ρ' (EOk.back E'.len (E'.drop.rep.add (IsX.of_bl _))) q⟩
 ·exact q.elim
end
def dD:XA:=fun ρ Q=>Q [] ρ
def bL (t:XT) (u:XA):XA:=fun ρ Q=>t ρ fun s ρ1=>u ρ1 fun ss ρ2=>Q (s :: ss) ρ2
section
variable {X:Cx} {Ex:ExT} {e:Expr} {es:List Expr} {t:XT} {u:XA} {pos:Pos}
theorem bX:XAs X Ex [] dD:=fun F=>(zM (X:=X)).weak fun σ H Q=>by
 rintro ⟨ρ,fr,Qx,E,t,k⟩
 exact k [] [] H ρ rfl E t
theorem bF (h:XE X Ex e t) (h':XAs X Ex es u) (he:starEach (e :: es) X.env=(false,eval e X.env) :: starEach es X.env:=by rfl):XAs X Ex (e :: es) (bL t u):=fun F=>(lZ (h F) (h' F) he).weak fun σ H Q=>by
 rintro ⟨ρ,fr,Qx,E,t,k⟩
 refine ⟨ρ,fr,_,E,t,fun v s H' ρ' E' q=>⟨ρ',_,_,E',q,fun vs ss H2 ρ2 hl E2 q2 => ?_⟩⟩
 refine k (v :: vs) (s :: ss) H2 ρ2 (by rw [aM,aM,hl]) ⟨E2.len,E2.rep.perm ?_⟩ q2
 exact List.Perm.append_left _ List.perm_middle
theorem EOk.many {F:Fm} {ρ:En} {σ:St} {fr:List Rw} {H:Hp}:∀ {ss:List Sv} {vs:List V},ss.length=vs.length→EOk F ρ σ (aEo ss vs ++ fr) H→Rep F (ρ.zip σ ++ fr) H∧All2 (IsX (hid (cD (ρ.zip σ ++ fr)) (F.vis H))) (ss.map Sv.d) vs
 | [],[],_,E=>⟨E.rep,rfl⟩
 | [],_ :: _,h,_=>by simp at h
 | _ :: _,[],h,_=>by simp at h
 | s :: ss,v :: vs,h,E=>by
  have E':EOk F ρ σ ((.v s,some v) :: (aEo ss vs ++ fr)) H:=E
  obtain ⟨R,hs⟩:=EOk.many (ss:=ss) (vs:=vs) (by simpa using h) E'.drop
  obtain ⟨_,hx⟩:=E'.one
  refine ⟨R,v,vs,rfl,hx.to (oH fun c hc => ?_),hs⟩
  have:cD (ρ.zip σ ++ (aEo ss vs ++ fr))=cD (ρ.zip σ) ++ (cD (aEo ss vs) ++ cD fr):=by unfold cD; rw [iN,iN]
  rw [this]
  have h2:cD (ρ.zip σ ++ fr)=cD (ρ.zip σ) ++ cD fr:=by unfold cD; rw [iN]
  rw [h2] at hc
  rcases bA.mp hc with hc | hc
  ·exact bJ _ hc
  ·exact aK _ (aK _ hc)
def xN (u:XA):XT:=fun ρ Q=>u ρ fun ss ρ'=>ss.length≤1000000∧Q (.tr (.tup (ss.map Sv.d))) ρ'
def jF (u:XA):XT:=fun ρ Q=>u ρ fun ss ρ'=>ss.length≤1000000∧Q (.ol (ss.map Sv.d)) ρ'
theorem jG:(1000000:Nat) < sizeLine:=by rw [sizeLine_eq]; decide
theorem zN {j:Nat} (h:XAs X Ex es u):XE X Ex (.Tuple es j pos) (xN u):=fun F=>(vA (h F)).weak fun σ H Q=>by
 rintro ⟨ρ,fr,Qx,E,t,k⟩
 refine ⟨ρ,fr,_,E,t,fun vs ss H2 ρ2 hl E2 q2=>⟨by have:=jG; omega,fun p hp => ?_⟩⟩
 obtain ⟨R,hs⟩:=E2.many hl
 exact k _ _ _ ρ2 (EOk.back E2.len (R.newT hp hs)) q2.2
theorem jH (h:XAs X Ex es u):XE X Ex (.List es pos) (jF u):=fun F=>(aQo (h F)).weak fun σ H Q=>by
 rintro ⟨ρ,fr,Qx,E,t,k⟩
 refine ⟨ρ,fr,_,E,t,fun vs ss H2 ρ2 hl E2 q2=>⟨by have:=jG; omega,fun p hp => ?_⟩⟩
 obtain ⟨R,hs⟩:=E2.many hl
 exact k _ _ _ ρ2 (EOk.back E2.len (R.newL hp hs)) q2.2
end
def gI (f:Int→Int→Dx):G2
 | .int i,.int j,Q=>Q (.tr (f i j))
 | _,_,_=>False
def gIC (C:Int→Int→Prop) (f:Int→Int→Dx):G2
 | .int i,.int j,Q=>C i j∧Q (.tr (f i j))
 | _,_,_=>False
theorem yE {f:Int→Int→V} {fd:Int→Int→Dx} (h:∀ H i j,IsX H (fd i j) (f i j)):OpX (rI0 f) (gI fd):=by
 intro F P H a b x y Q Qx R ha hb g k
 unfold gI at g
 split at g
 ·cases ha.int_eq; cases hb.int_eq
  exact ⟨_,_,rfl,rfl,k _ _ H (R.add (h _ _ _)) g⟩
 ·exact g.elim
theorem i8 {C:Int→Int→Prop} {f:Int→Int→V} {fd:Int→Int→Dx} (h:∀ H i j,IsX H (fd i j) (f i j)):OpX (rI C f) (gIC C fd):=by
 intro F P H a b x y Q Qx R ha hb g k
 unfold gIC at g
 split at g
 ·cases ha.int_eq; cases hb.int_eq
  exact ⟨_,_,rfl,rfl,g.1,k _ _ H (R.add (h _ _ _)) g.2⟩
 ·exact g.elim
abbrev aVv:G2:=gI fun i j=>.int (i - j)
abbrev aYe:G2:=gIC aPc fun i j=>.int (i / j)
abbrev bBc:G2:=gIC (fun _ j=>0 < j) fun i j=>.int (i % j)
abbrev bAz:G2:=gIC aUk fun i j=>.int (i ^ j.toNat)
abbrev ltX:G2:=gI fun i j=>.bl (decide (i < j))
abbrev leX:G2:=gI fun i j=>.bl (decide (i≤j))
abbrev gtX:G2:=gI fun i j=>.bl (decide (j < i))
abbrev geX:G2:=gI fun i j=>.bl (decide (j≤i))
theorem oi {f:Int→Int→Int}:∀ H i j,IsX H (.int (f i j)) (.int (f i j)):=fun _ _ _=>IsX.of_int _
theorem ob {f:Int→Int→Bool}:∀ H i j,IsX H (.bl (f i j)) (.bl (f i j)):=fun _ _ _=>IsX.of_bl _
def iL:G2
 | .int i,.int j,Q=>Q (.tr (.int (i + j)))
 | .str i,.str j,Q=>i.length + j.length≤1000000∧Q (.tr (.str (i ++ j)))
 | .lst l,.lst m,Q=>l.length + m.length≤1000000∧Q (.ol (l ++ m))
 | _,_,_=>False
def sA:G2
 | .int i,.int j,Q=>CMulB i j∧Q (.tr (.int (i * j)))
 | .lst l,.int j,Q=>(j≤1000000 ∧ -1000000≤j∧l.length * j.toNat≤1000000)∧Q (.ol (List.replicate j.toNat l).flatten)
 | .str z,.int j,Q=>(z.length≤1000∧0≤j∧j≤1000)∧Q (.tr (.str (Txt.mul z j)))
 | _,_,_=>False
section
variable {X:Cx} {Ex:ExT} {a b e:Expr} {pos:Pos} {ta tb:XT}
theorem iD (ha:XE X Ex a ta) (hb:XE X Ex b tb):XE X Ex (.BinOp a .Add b pos) (xOp iL ta tb):=sI (aRc.or (i_.or aRb)) (by
 intro F P H a b x y Q Qx R ha hb g k
 unfold iL at g
 split at g
 ·cases ha.int_eq; cases hb.int_eq
  exact .inl ⟨_,_,rfl,rfl,k _ _ H (R.add (IsX.of_int _)) g⟩
 ·cases ha.str_eq; cases hb.str_eq
  exact .inr (.inl ⟨_,_,rfl,rfl,by have:=jG; omega,k _ _ H (R.add (IsX.of_str _)) g.2⟩)
 ·obtain ⟨p,vs,rfl,h1,h2⟩:=ha.lst_eq
  obtain ⟨q,ws,rfl,h3,h4⟩:=hb.lst_eq
  refine .inr (.inr ⟨p,q,vs,ws,rfl,rfl,R.hv _ _ h1,R.hv _ _ h3,by rw [h2.len,h4.len]; have:=jG; omega,fun l hl=>k _ _ _ (R.newL hl (All2.app h4 h2)) g.2⟩)
 ·exact g.elim) ha hb
theorem tZ {α β:Type} {g:α→β→Prop} {l:List α} {m:List β} (h:All2 g l m):∀ n,All2 g (List.replicate n l).flatten (List.replicate n m).flatten
 | 0=>rfl
 | n + 1=>by rw [bH,bH,fI,fI]; exact All2.app (tZ h n) h
theorem qT (ha:XE X Ex a ta) (hb:XE X Ex b tb):XE X Ex (.BinOp a .Mult b pos) (xOp sA ta tb):=sI (aLf.or (aQw.or i9)) (by
 intro F P H a b x y Q Qx R ha hb g k
 unfold sA at g
 split at g
 ·cases ha.int_eq; cases hb.int_eq
  exact .inl ⟨_,_,rfl,rfl,g.1,k _ _ H (R.add (IsX.of_int _)) g.2⟩
 ·obtain ⟨p,vs,rfl,h1,h2⟩:=ha.lst_eq
  cases hb.int_eq
  obtain ⟨⟨g1,g2,g3⟩,g4⟩:=g
  refine .inr (.inl ⟨p,_,vs,rfl,rfl,R.hv _ _ h1,by omega,by omega,by rw [h2.len]; have:=jG; omega,fun l hl=>k _ _ _ (R.newL hl (tZ h2 _)) g4⟩)
 ·cases ha.str_eq; cases hb.int_eq
  exact .inr (.inr ⟨_,_,rfl,rfl,g.1.1,g.1.2.1,g.1.2.2,k _ _ H (R.add (IsX.of_str _)) g.2⟩)
 ·exact g.elim) ha hb
theorem fg_ (ha:XE X Ex a ta) (hb:XE X Ex b tb):XE X Ex (.BinOp a .Sub b pos) (xOp aVv ta tb):=sI aQv (yE oi) ha hb
theorem ir_ (ha:XE X Ex a ta) (hb:XE X Ex b tb):XE X Ex (.BinOp a .FloorDiv b pos) (xOp aYe ta tb):=sI aGl (i8 oi) ha hb
theorem ht_ (ha:XE X Ex a ta) (hb:XE X Ex b tb):XE X Ex (.BinOp a .Mod b pos) (xOp bBc ta tb):=sI aQy (i8 oi) ha hb
theorem d4 (ha:XE X Ex a ta) (hb:XE X Ex b tb):XE X Ex (.BinOp a .Pow b pos) (xOp bAz ta tb):=sI aQx (i8 oi) ha hb
end
theorem pG:OpX (rI0 fun i j=>.bl (decide (i < j))) ltX:=yE ob
theorem aOl:OpX (rI0 fun i j=>.bl (decide (i≤j))) leX:=yE ob
theorem aGb:OpX (rI0 fun i j=>.bl (decide (j < i))) gtX:=yE ob
theorem aGc:OpX (rI0 fun i j=>.bl (decide (j≤i))) geX:=yE ob
def eqS:Dx→Dx→Option Bool
 | .int i,.int j=>some (decide (i=j))
 | .str i,.str j=>some (decide (i=j))
 | .bl i,.bl j=>some (decide (i=j))
 | .non,.non=>some true
 | .non,.int _=>some false | .int _,.non=>some false | .non,.bl _=>some false | .bl _,.non=>some false | .non,.str _=>some false | .str _,.non=>some false
 | .int _,.str _=>some false | .str _,.int _=>some false | .bl _,.str _=>some false | .str _,.bl _=>some false
 | .lst l,.lst []=>some l.isEmpty
 | _,_=>none
def eqX:G2:=fun a b Q=>match eqS a b with
 | some c=>Q (.tr (.bl c))
 | none=>False
def neX:G2:=fun a b Q=>match eqS a b with
 | some c=>Q (.tr (.bl (!c)))
 | none=>False
def scV:Dx→Option V
 | .int i=>some (.int i)
 | .str i=>some (.str i)
 | .bl i=>some (.bl i)
 | .non=>some .non
 | _=>none
theorem mG {H:Hp} {d:Dx} {x v:V} (h:IsX H d x) (e:scV d=some v):x=v:=by
 cases d <;> simp only [scV,Option.some.injEq] at e <;> first | (subst e; first | exact h.int_eq | exact h.str_eq | exact h.bl_eq | exact h.non_eq) | cases e
theorem zC {a b:Dx} {c:Bool} (h:eqS a b=some c):(∃ l,a=.lst l∧b=.lst []∧c=l.isEmpty)∨∃ x y,scV a=some x∧scV b=some y∧aPv x y=true∧decide (x=y)=c:=by
 unfold eqS at h
 split at h <;> (try simp only [Option.some.injEq] at h) <;> first
  | (subst h; exact .inr ⟨_,_,rfl,rfl,rfl,by simp⟩)
  | (subst h; exact .inl ⟨_,rfl,rfl,rfl⟩)
  | cases h
section
variable {K:eE}
def aFl (K:eE) (n:Bool):R2:=fun x y H Q => ∃ p b xs,x=.ref p∧y=.ref b∧SqL K H p xs∧SqL K H b []∧Q (.bl (if n then !xs.isEmpty else xs.isEmpty)) H
theorem kL:OpX (fun x y H Q=>rEq x y H Q∨aFl K false x y H Q) eqX:=by
 intro F P H a b x y Q Qx R ha hb g k
 unfold eqX at g
 split at g
 ·rename_i c hc
  rcases zC hc with ⟨l,rfl,rfl,rfl⟩ | ⟨u,w,h1,h2,h3,h4⟩
  ·obtain ⟨p,vs,rfl,q1,q2⟩:=ha.lst_eq
   obtain ⟨p',vs',rfl,q3,q4⟩:=hb.lst_eq
   cases (show vs'=[] from q4)
   refine .inr ⟨p,p',vs,rfl,rfl,SqL.of (R.hv _ _ q1),SqL.of (R.hv _ _ q3),k _ (.tr (.bl l.isEmpty)) H (R.add ?_) g⟩
   have:vs.isEmpty=l.isEmpty:=by
    have:=q2.len
    cases vs <;> cases l <;> simp at this ⊢
   simp only [IsX,this]; rfl
  ·cases mG ha h1; cases mG hb h2
   exact .inl ⟨h3,k _ _ H (R.add (by rw [h4]; exact IsX.of_bl _)) g⟩
 ·exact g.elim
theorem pF:OpX (fun x y H Q=>rNe x y H Q∨aFl K true x y H Q) neX:=by
 intro F P H a b x y Q Qx R ha hb g k
 unfold neX at g
 split at g
 ·rename_i c hc
  rcases zC hc with ⟨l,rfl,rfl,rfl⟩ | ⟨u,w,h1,h2,h3,h4⟩
  ·obtain ⟨p,vs,rfl,q1,q2⟩:=ha.lst_eq
   obtain ⟨p',vs',rfl,q3,q4⟩:=hb.lst_eq
   cases (show vs'=[] from q4)
   refine .inr ⟨p,p',vs,rfl,rfl,SqL.of (R.hv _ _ q1),SqL.of (R.hv _ _ q3),k _ (.tr (.bl (!l.isEmpty))) H (R.add ?_) g⟩
   have:vs.isEmpty=l.isEmpty:=by
    have:=q2.len
    cases vs <;> cases l <;> simp at this ⊢
   simp only [IsX,this]; rfl
  ·cases mG ha h1; cases mG hb h2
   exact .inl ⟨h3,k _ _ H (R.add (by rw [h4]; exact IsX.of_bl _)) g⟩
 ·exact g.elim
end
section
variable {X:Cx} {Ex:ExT} (K:eE) (h:X.K=K)
theorem kO (hu:X.A.units < cLine) (h:X.K=K:=by rfl):OpR X (compareOp .Eq) (fun x y H Q=>rEq x y H Q∨aFl K false x y H Q):=by subst h; exact aWl.or (aGm hu)
theorem hv_ (hu:X.A.units < cLine) (h:X.K=K:=by rfl):OpR X (compareOp .NotEq) (fun x y H Q=>rNe x y H Q∨aFl K true x y H Q):=by subst h; exact aWk.or (aGi hu)
end
def vY (neg:Bool):G2
 | .non,.non,Q=>Q (.tr (.bl !neg))
 | _,.non,Q=>Q (.tr (.bl neg))
 | _,_,_=>False
theorem aSs {H:Hp} {a:Dx} {x:V} (h:IsX H a x) (ha:a ≠ .non):¬ x=.non:=by
 intro z
 subst z
 cases a with
 | non=>exact ha rfl
 | bl _=>cases h.bl_eq
 | int _=>cases h.int_eq
 | str _=>cases h.str_eq
 | tup _=>obtain ⟨_,_,e,_⟩:=h.tup_eq; cases e
 | lst _=>obtain ⟨_,_,e,_⟩:=h.lst_eq; cases e
 | dic _=>obtain ⟨_,_,e,_⟩:=h.dic_eq; cases e
 | scr _ _=>obtain ⟨_,e,_⟩:=h.scr_eq; cases e
 | ins _ _=>obtain ⟨_,_,_,e,_⟩:=h.ins_eq; cases e
 | exc _=>obtain ⟨_,e,_⟩:=h.exc_eq; cases e
theorem vC:OpX (fun x y H Q=>y=.non∧Q (.bl (decide (x=.non))) H) (vY false):=by
 intro F P H a b x y Q Qx R ha hb g k
 unfold vY at g
 split at g
 ·cases ha.non_eq; cases hb.non_eq
  exact ⟨rfl,k _ _ H (R.add (IsX.of_bl _)) g⟩
 ·rename_i Js
  cases hb.non_eq
  exact ⟨rfl,k _ _ H (R.add (by rw [dzF (aSs ha fun z=>Js z)]; exact IsX.of_bl _)) g⟩
 ·exact g.elim
def ixX:G2
 | .lst l,.int i,Q=>(match atI l i with | some d=>Q (.tr d) | none=>False)
 | .tup l,.int i,Q=>(match atI l i with | some d=>Q (.tr d) | none=>False)
 | .str z,.int i,Q=>z.length≤1000000∧(match atI z.cps.toList i with | some c=>Q (.tr (.str ⟨#[c]⟩)) | none=>False)
 | _,_,_=>False
theorem rO {α β:Type} {g:α→β→Prop} {l:List α} {m:List β} {i:Int} {d:α} (h:All2 g l m) (e:atI l i=some d):∃ v,atI m i=some v∧g d v:=by
 unfold atI at e ⊢
 rw [h.len]
 obtain ⟨j,h1,h2⟩:=fH.mp e
 obtain ⟨v,h3,h4⟩:=h.at h2
 exact ⟨v,fH.mpr ⟨j,h1,h3⟩,h4⟩
theorem aWi {K:eE}:OpX (fun x y H Q=>aFk K x y H Q∨aQa K x y H Q∨aVy x y H Q) ixX:=by
 intro F P H a b x y Q Qx R ha hb g k
 unfold ixX at g
 split at g
 ·obtain ⟨p,vs,rfl,h1,h2⟩:=ha.lst_eq
  cases hb.int_eq
  split at g
  ·rename_i d hd
   obtain ⟨v,h3,h4⟩:=rO h2 hd
   exact .inl ⟨p,vs,_,v,rfl,rfl,SqL.of (R.hv _ _ h1),h3,k _ _ H (R.add h4) g⟩
  ·exact g.elim
 ·obtain ⟨p,vs,rfl,h1,h2⟩:=ha.tup_eq
  cases hb.int_eq
  split at g
  ·rename_i d hd
   obtain ⟨v,h3,h4⟩:=rO h2 hd
   exact .inr (.inl ⟨p,vs,_,v,rfl,rfl,SqT.of (R.hv _ _ h1),h3,k _ _ H (R.add h4) g⟩)
  ·exact g.elim
 ·cases ha.str_eq; cases hb.int_eq
  obtain ⟨g0,g⟩:=g
  split at g
  ·rename_i c hc
   exact .inr (.inr ⟨_,_,c,rfl,rfl,by have:=jG; omega,hc,k _ _ H (R.add (IsX.of_str _)) g⟩)
  ·exact g.elim
 ·exact g.elim
theorem IxR.or {X:Cx} {r r':R2} (h:IxR X r) (h':IxR X r'):IxR X (fun x y H Q=>r x y H Q∨r' x y H Q):=fun a b Aa s σ H x y v u Q I rx ry q hs=>q.elim (fun q=>h a b Aa s σ H x y v u Q I rx ry q hs) fun q=>h' a b Aa s σ H x y v u Q I rx ry q hs
theorem jZ {X:Cx} {Ex:ExT} {a b:Expr} {pos:Pos} {ta tb:XT} (K:eE) (ha:XE X Ex a ta) (hb:XE X Ex b tb) (hs:lW b) (h:X.K=K:=by rfl):XE X Ex (.Subscript a b pos) (xOp ixX ta tb):=fun F =>
 (aFv (IxR.or (yO K h) (IxR.or (aMd K h) aSn)) (ha F) (hb F) hs).weak (oW aWi)
def lD (l:List (Key×Dx)) (k:Key):Option Dx:=(l.find? fun p=>decide (p.1=k)).map (·.2)
theorem qF {G:Hp} {k:Key}:∀ {l:List (Key×Dx)} {ws:List (Key×V)},All2 (KvX G) l ws→(lD l k=none∧lP ws k=none)∨∃ d v,lD l k=some d∧lP ws k=some v∧IsX G d v
 | [],_,h=>by rw [show _=[] from h]; exact .inl ⟨rfl,rfl⟩
 | p :: l,_,⟨w,wr,e,⟨h1,h2⟩,h3⟩=>by
  rw [e]
  by_cases hk:p.1=k
  ·refine .inr ⟨p.2,w.2,?_,ib_ (h1 ▸ hk),h2⟩
   unfold lD
   rw [fK,dzT hk]
   rfl
  ·rw [ic_ (h1 ▸ hk)]
   have:lD (p :: l) k=lD l k:=by unfold lD; rw [fK,dzF hk]
   rw [this]
   exact qF h3
def yN:Dx→Option Key
 | .int i=>some (.inl i)
 | .str x=>some (.inr x)
 | _=>none
theorem vU {H:Hp} {d:Dx} {x:V} {k:Key} (h:IsX H d x) (e:yN d=some k):x=kV k:=by
 cases d <;> simp only [yN,Option.some.injEq] at e <;> first | (subst e; first | exact h.int_eq | exact h.str_eq) | cases e
def dgX:G2:=fun a b Q=>match a,yN b with
 | .dic l,some k=>(match lD l k with | some d=>Q (.tr d) | none=>False)
 | _,_=>False
def aMy (neg:Bool):G2:=fun a b Q=>match yN a,b with
 | some k,.dic l=>Q (.tr (.bl (if neg then !(lD l k).isSome else (lD l k).isSome)))
 | _,_=>False
theorem DGet.rd {H:Hp} {a:Addr} {kvs:List (Key×V)} {k:Key} (e:Rd H a (.dK kvs)):DGet H a (kV k) (lP kvs k):=.inl ⟨kvs,k,e,rfl,rfl⟩
theorem u5 {F:Fm} {P:List Rw} {H:Hp} (R:Rep F P H) {O:List Addr} {a:Addr} {u:HO} (h:Rd (hid O (F.vis H)) a u):Rd H a u:=by
 rcases h with h | ⟨o,h⟩
 ·exact .inl (R.hv _ _ h)
 ·exact .inr ⟨o,R.hv _ _ h⟩
theorem aLd:OpX (fun x y H Q => ∃ a v,x=.ref a∧DGet H a y (some v)∧Q v H) dgX:=by
 intro F P H a b x y Q Qx R ha hb g k
 unfold dgX at g
 split at g
 ·rename_i l kk hk
  obtain ⟨p,ws,rfl,h1,h2⟩:=ha.dic_eq
  cases vU hb hk
  split at g
  ·rename_i d hd
   rcases qF (k:=kk) h2 with ⟨z,_⟩ | ⟨d',v,z1,z2,z3⟩
   ·rw [z] at hd; cases hd
   ·rw [z1] at hd; cases hd
    exact ⟨p,v,rfl,by rw [← z2]; exact DGet.rd (u5 R h1),k _ _ H (R.add z3) g⟩
  ·exact g.elim
 ·exact g.elim
theorem aQu (neg:Bool):OpX (fun y x H Q => ∃ a o,x=.ref a∧DGet H a y o∧Q (.bl (if neg then !o.isSome else o.isSome)) H) (aMy neg):=by
 intro F P H a b x y Q Qx R ha hb g k
 unfold aMy at g
 split at g
 ·rename_i kk l hk
  obtain ⟨p,ws,rfl,h1,h2⟩:=hb.dic_eq
  cases vU ha hk
  refine ⟨p,_,rfl,DGet.rd (k:=kk) (u5 R h1),k _ _ H (R.add ?_) g⟩
  rcases qF (k:=kk) h2 with ⟨z1,z2⟩ | ⟨d',v,z1,z2,z3⟩
  ·rw [z1,z2]; simp only [IsX]; rfl
  ·rw [z1,z2]; simp only [IsX]; rfl
 ·exact g.elim
section
variable {X:Cx} {Ex:ExT} {a b o i:Expr} {pos:Pos} {ta tb:XT}
theorem it_ (hu:X.A.units + 1 < cLine) (ha:XE X Ex o ta) (hb:XE X Ex i tb) (hs:aUj i):XE X Ex (.Subscript o i pos) (xOp dgX ta tb):=fun F=>(aKy hu (ha F) (hb F) hs).weak fun σ H Q h=>oW aLd σ H Q h
theorem aBa (hu:X.A.units + 1 < cLine) (ha:XE X Ex i ta) (hb:XE X Ex o tb) (hm:behindInMarks .NotIn o=false):XTe X Ex (.Compare i [.NotIn] [o] pos) (xB (xOp (aMy true) ta tb)):=fun F=>(aQf (aBp hu (ha F) (hb F)) hm).weak (he_ (t:=s9 (tX F ta) (tX F tb)) fun σ H Q h=>oW (aQu true) σ H Q h)
def xO:XT:=fun ρ Q=>Q (.od []) ρ
theorem is_:XE X Ex (.Dict [] [] pos) xO:=fun F=>(aFw (X:=X)).weak fun σ H Q=>by
 rintro ⟨ρ,fr,Qx,E,t,k⟩
 exact fun p hp=>k _ _ _ ρ (EOk.back E.len (E.rep.newD hp All2.nil)) t
end
abbrev GC:=List Dx→(Sv→Prop)→Prop
def jW (r:List V→Hp→VK→Prop) (g:GC):Prop := ∀ (F:Fm) (P:List Rw) (H:Hp) (ds:List Dx) (xs:List V) (Q:VK) (Qx:Sv→Prop),Rep F P H→All2 (IsX (hid (cD P) (F.vis H))) ds xs→g ds Qx →
 (∀ v s H',Rep F ((.v s,some v) :: P) H'→Qx s→Q v H')→r xs H Q
def dS (g:GC) (u:XA):XT:=fun ρ Q=>u ρ fun ss ρ'=>g (ss.map Sv.d) fun s=>Q s ρ'
theorem aOc {F:Fm} {r:List V→Hp→VK→Prop} {g:GC} {u:XA} (hx:jW r g):∀ σ H Q,tX F (dS g u) σ H Q→tCB r (tXa F u) σ H Q:=by
 rintro σ H Q ⟨ρ,fr,Qx,E,t,k⟩
 refine ⟨ρ,fr,_,E,t,fun vs ss H2 ρ2 hl E2 q2 => ?_⟩
 obtain ⟨R,hs⟩:=E2.many hl
 exact hx F _ H2 _ vs Q (fun s=>Qx s ρ2) R hs q2 fun v s H' R' q=>k v s H' ρ2 (EOk.back E2.len R') q
section
variable {X:Cx} {Ex:ExT} {e:Expr} {es:List Expr} {x:Str} {p pos:Pos} {r:List V→Hp→VK→Prop} {g:GC} {u:XA} {id T:String}
theorem mX (hc:CallR X (.builtin id) r) (hx:jW r g) (hg:Gl X x) (hm:X.mg x=none) (hv:bootBuiltins x=some (.builtin id)) (ha:XAs X Ex (e :: es) u) (hn:x ≠ "__name__" := by decide) (B0:(x == ("__debug__" : Str))=false:=by decide)
  (he:starEach (e :: es) X.env=(false,eval e X.env) :: starEach es X.env:=by rfl) (A9:(backTo pos (starEach es X.env)).any (·.1)=false:=by rfl):XE X Ex (.Call (.Name x p) (e :: es) [] pos) (dS g u):=fun F=>(gr_ hc hg hm hv (ha F) hn B0 he A9).weak (aOc hx)
theorem en_ (hc:CallR X (.type T) r) (hx:jW r g) (hg:Gl X x) (hm:X.mg x=none) (hv:bootBuiltins x=some (.type T)) (ha:XAs X Ex (e :: es) u) (hn:x ≠ "__name__" := by decide) (B0:(x == ("__debug__" : Str))=false:=by decide)
  (he:starEach (e :: es) X.env=(false,eval e X.env) :: starEach es X.env:=by rfl) (A9:(backTo pos (starEach es X.env)).any (·.1)=false:=by rfl):XE X Ex (.Call (.Name x p) (e :: es) [] pos) (dS g u):=fun F=>(aBn hc hg hm hv (ha F) hn B0 he A9).weak (aOc hx)
end
theorem xA {α β:Type} {g:α→β→Prop} {a:α} {xs:List β} (h:All2 g [a] xs):∃ x,xs=[x]∧g a x:=by
 obtain ⟨x,xr,rfl,h1,h2⟩:=h
 cases (show xr=[] from h2)
 exact ⟨x,rfl,h1⟩
theorem o8 {α β:Type} {g:α→β→Prop} {a b:α} {xs:List β} (h:All2 g [a,b] xs):∃ x y,xs=[x,y]∧g a x∧g b y:=by
 obtain ⟨x,xr,rfl,h1,h2⟩:=h
 obtain ⟨y,rfl,h3⟩:=xA h2
 exact ⟨x,y,rfl,h1,h3⟩
def sB:GC
 | [.lst l],Q=>Q (.tr (.int l.length))
 | [.tup l],Q=>Q (.tr (.int l.length))
 | [.str z],Q=>z.length≤1000000∧Q (.tr (.int z.length))
 | [.dic l],Q=>Q (.tr (.int l.length))
 | _,_=>False
abbrev aPz (K:eE):List V→Hp→VK→Prop:=fun xs H Q=>(∃ p ys,xs=[.ref p]∧(SqL K H p ys∨SqT K H p ys)∧Q (.int ys.length) H)∨(∃ z,xs=[.str z]∧z.length≤sizeLine∧Q (.int z.length) H)∨(∃ a kvs,xs=[V.ref a]∧Rd H a (.dK kvs)∧Q (.int kvs.length) H)
theorem wU {X:Cx} (K:eE) (h:X.K=K:=by rfl):CallR X (.builtin "len") (aPz K):=by
 subst h
 refine wQ.or (wP.or ?_)
 intro Aa s σ H xs us Q I r h
 obtain ⟨a,kvs,rfl,ha,q⟩:=h
 obtain ⟨u,rfl,ru⟩:=jQ r
 cases ru
 exact aYm I ha fun t s' I'=>⟨.int kvs.length,H,I',⟨t,rfl⟩,q⟩
theorem zK {K:eE}:jW (aPz K) sB:=by
 intro F P H ds xs Q Qx R hs g k
 unfold sB at g
 split at g
 ·obtain ⟨x,rfl,hx⟩:=xA hs
  obtain ⟨a,vs,rfl,h1,h2⟩:=hx.lst_eq
  exact .inl ⟨a,vs,rfl,.inl (SqL.of (R.hv _ _ h1)),k _ _ H (R.add (by rw [h2.len]; exact IsX.of_int _)) g⟩
 ·obtain ⟨x,rfl,hx⟩:=xA hs
  obtain ⟨a,vs,rfl,h1,h2⟩:=hx.tup_eq
  exact .inl ⟨a,vs,rfl,.inr (SqT.of (R.hv _ _ h1)),k _ _ H (R.add (by rw [h2.len]; exact IsX.of_int _)) g⟩
 ·obtain ⟨x,rfl,hx⟩:=xA hs
  cases hx.str_eq
  exact .inr (.inl ⟨_,rfl,by have:=jG; omega,k _ _ H (R.add (IsX.of_int _)) g.2⟩)
 ·obtain ⟨x,rfl,hx⟩:=xA hs
  obtain ⟨a,vs,rfl,h1,h2⟩:=hx.dic_eq
  exact .inr (.inr ⟨a,vs,rfl,u5 R h1,k _ _ H (R.add (by rw [h2.len]; exact IsX.of_int _)) g⟩)
 ·exact g.elim
def aCi:GC
 | [.int i],Q=>Q (.tr (.int i))
 | [.bl b],Q=>Q (.tr (.int (if b then 1 else 0)))
 | _,_=>False
theorem m6:jW (fun xs H Q=>(∃ i,xs=[.int i]∧Q (.int i) H)∨∃ k,xs=[.bl k]∧Q (.int (if k then 1 else 0)) H) aCi:=by
 intro F P H ds xs Q Qx R hs g k
 unfold aCi at g
 split at g
 ·obtain ⟨x,rfl,hx⟩:=xA hs
  cases hx.int_eq
  exact .inl ⟨_,rfl,k _ _ H (R.add (IsX.of_int _)) g⟩
 ·obtain ⟨x,rfl,hx⟩:=xA hs
  cases hx.bl_eq
  exact .inr ⟨_,rfl,k _ _ H (R.add (IsX.of_int _)) g⟩
 ·exact g.elim
def aHb:GC
 | [.lst l],Q=>Q (.ol l)
 | [.tup l],Q=>Q (.ol l)
 | _,_=>False
def f8:GC
 | [.lst l],Q=>Q (.tr (.tup l))
 | [.tup l],Q=>Q (.tr (.tup l))
 | _,_=>False
theorem n5 {X:Cx} (K:eE) (h:X.K=K:=by rfl):CallR X (.type "list") (fun xs H Q => ∃ p ys,xs=[.ref p]∧(SqL K H p ys∨SqT K H p ys)∧∀ l,H l=none→Q (.ref l) (upd H l (.lst ys))):=by subst h; exact wO
theorem jx_ {X:Cx} (K:eE) (h:X.K=K:=by rfl):CallR X (.type "tuple") (fun xs H Q => ∃ p ys,xs=[.ref p]∧((SqL K H p ys∧∀ l,H l=none→Q (.ref l) (upd H l (.tup ys)))∨(SqT K H p ys∧Q (.ref p) H))):=by subst h; exact sG
theorem aNd {K:eE}:jW (fun xs H Q => ∃ p ys,xs=[.ref p]∧(SqL K H p ys∨SqT K H p ys)∧∀ l,H l=none→Q (.ref l) (upd H l (.lst ys))) aHb:=by
 intro F P H ds xs Q Qx R hs g k
 unfold aHb at g
 split at g
 ·obtain ⟨x,rfl,hx⟩:=xA hs
  obtain ⟨a,vs,rfl,h1,h2⟩:=hx.lst_eq
  exact ⟨a,vs,rfl,.inl (SqL.of (R.hv _ _ h1)),fun l hl=>k _ _ _ (R.newL hl h2) g⟩
 ·obtain ⟨x,rfl,hx⟩:=xA hs
  obtain ⟨a,vs,rfl,h1,h2⟩:=hx.tup_eq
  exact ⟨a,vs,rfl,.inr (SqT.of (R.hv _ _ h1)),fun l hl=>k _ _ _ (R.newL hl h2) g⟩
 ·exact g.elim
theorem zQ {K:eE}:jW (fun xs H Q => ∃ p ys,xs=[.ref p]∧((SqL K H p ys∧∀ l,H l=none→Q (.ref l) (upd H l (.tup ys)))∨(SqT K H p ys∧Q (.ref p) H))) f8:=by
 intro F P H ds xs Q Qx R hs g k
 unfold f8 at g
 split at g
 ·obtain ⟨x,rfl,hx⟩:=xA hs
  obtain ⟨a,vs,rfl,h1,h2⟩:=hx.lst_eq
  exact ⟨a,vs,rfl,.inl ⟨SqL.of (R.hv _ _ h1),fun l hl=>k _ _ _ (R.newT hl h2) g⟩⟩
 ·obtain ⟨x,rfl,hx⟩:=xA hs
  obtain ⟨a,vs,rfl,h1,h2⟩:=hx.tup_eq
  exact ⟨a,vs,rfl,.inr ⟨SqT.of (R.hv _ _ h1),k _ _ H (R.add (IsX.of_tup h1 h2)) g⟩⟩
 ·exact g.elim
inductive Ty where
 | bool | int | str | tuple | list | dict
def Ty.nm:Ty→String
 | .bool => "bool" | .int => "int" | .str => "str" | .tuple => "tuple" | .list => "list" | .dict => "dict"
def tyN:Dx→String
 | .non => "NoneType" | .bl _ => "bool" | .int _ => "int" | .str _ => "str" | .tup _ => "tuple" | .lst _ => "list" | .dic _ => "dict" | .scr _ _ => "list" | .ins _ _ => "object" | .exc _ => "object"
def isT:Ty→Dx→Bool
 | .bool,.bl _=>true
 | .int,.int _=>true
 | .int,.bl _=>true
 | .str,.str _=>true
 | .tuple,.tup _=>true
 | .list,.lst _=>true
 | .dict,.dic _=>true
 | .list,.scr _ _=>true
 | _,_=>false
def pL:Dx→Prop
 | .scr _ _=>False
 | .ins _ _=>False
 | .exc _=>False
 | _=>True
theorem vR {K:eE} {d:Dx} {n:Ty} (hd:pL d):PySem.W.kitOne K (.type (tyN d)) (.type n.nm)=some (isT n d):=by
 have h:∀ T∈["NoneType","bool","int","str","tuple","list","dict"],∀ n:Ty,PySem.W.kitOne K (.type T) (.type n.nm)=some (T == n.nm || (n.nm == "int" && T == "bool")):=by
  intro T hT n
  simp only [aI,bI,or_false] at hT
  rcases hT with rfl | rfl | rfl | rfl | rfl | rfl | rfl <;> cases n <;> first
   | exact aHi _
   | exact aSe (by decide +kernel) (by decide +kernel) (by decide +kernel)
 rw [h _ (by cases d <;> first | exact hd.elim | simp [tyN]) n]
 cases d <;> cases n <;> first | rfl | exact hd.elim
theorem aCg {X:Cx} {Aa:fO} {σ:St} {H:Hp} {s:Shared} {A:Around} {E:hW} {Q:hW} {b:Bool} {c:Value} {d:Dx} {x:V} {u:Value} (I:Inv X Aa σ H s) (rx:RelV x u) (hx:IsX H d x) (hd:pL d) (e:PySem.W.kitOne X.K (.type (tyN d)) c=some b) (h:∀ tk,Q (.bool b) { s with toks:=tk }) :
  wpAny (model X.prog X.w) A (call (.builtin "isinstance") [u,c]) Q E s:=by
 cases d with
 | non=>cases hx.non_eq; exact ed_ I rx .non e h
 | bl _=>cases hx.bl_eq; exact ed_ I rx (.bl _) e h
 | int _=>cases hx.int_eq; exact ed_ I rx (.int _) e h
 | str _=>cases hx.str_eq; exact ed_ I rx (.str _) e h
 | tup _=>obtain ⟨a,vs,rfl,h1,_⟩:=hx.tup_eq; exact ed_ I rx (.tup h1) e h
 | lst _=>obtain ⟨a,vs,rfl,h1,_⟩:=hx.lst_eq; exact ed_ I rx (.lst h1) e h
 | dic _ =>
  obtain ⟨a,vs,rfl,h1,_⟩:=hx.dic_eq
  rcases h1 with h1 | ⟨ob,h1⟩
  ·exact ed_ I rx (.dK h1) e h
  ·cases (show u=Value.ref a from rx)
   obtain ⟨_,_,_,_,_,p⟩:=(show ObjOk X.prog X.w H s.heap a (.frz ob (.dK vs)) from I.hok a _ h1)
   obtain ⟨o,es,ep,h1,h2,_⟩:=p
   exact PySem.W.kia_one PySem.W.kitx_dict I.kIn ⟨o,h1,h2.1⟩ e (fun z=>nomatch z) h
 | scr _ _=>exact hd.elim
 | ins _ _=>exact hd.elim
 | exc _=>exact hd.elim
theorem aIy {X:Cx} (n:Ty):CallR X (.builtin "isinstance") (fun xs H Q => ∃ x d,xs=[x,.ty n.nm]∧IsX H d x∧pL d∧Q (.bl (isT n d)) H):=by
 intro Aa s σ H xs us Q I r h
 obtain ⟨x,d,rfl,hx,hd,q⟩:=h
 obtain ⟨u,w',rfl,r1,r2⟩:=oU r
 cases (show w'=Value.type n.nm from r2)
 exact aCg I r1 hx hd (vR hd) (fun tk=>⟨.bl _,H,I.tok _,rfl,q⟩)
def xIs (n:Ty) (t:XT):XT:=fun ρ Q=>t ρ fun s ρ'=>match s.d with
 | .scr _ _=>False
 | .ins _ _=>False
 | .exc _=>False
 | d=>Q (.tr (.bl (isT n d))) ρ'
theorem b_ {X:Cx} {Ex:ExT} {e:Expr} {t:XT} {nm:Str} {p q pos:Pos} (n:Ty) (hm:X.mg "isinstance" = none) (h:XE X Ex e t) (hT:PE X (.Name nm q) (tC (.ty n.nm))) (hg:Gl X "isinstance" := by rfl)
  (he:starEach [e,.Name nm q] X.env=(false,eval e X.env) :: starEach [.Name nm q] X.env:=by rfl) (F2:starEach [.Name nm q] X.env=(false,eval (.Name nm q) X.env) :: starEach [] X.env:=by rfl) (A9:(backTo pos (starEach [.Name nm q] X.env)).any (·.1)=false:=by rfl):XE X Ex (.Call (.Name "isinstance" p) [e,.Name nm q] [] pos) (xIs n t):=fun F =>
 (gr_ (aIy n) hg hm ds_ (lZ (h F) (lZ hT zM F2) he) (by decide) (by decide) he A9).weak fun σ H Q=>by
  rintro ⟨ρ,fr,Qx,E,t,k⟩
  refine ⟨ρ,fr,_,E,t,fun v s H' ρ' E' q => ?_⟩
  obtain ⟨R,hx⟩:=E'.one
  generalize hd:s.d=d at q hx
  cases d with
  | scr _ _=>exact q.elim
  | ins _ _=>exact q.elim
  | exc _=>exact q.elim
  | _=>exact ⟨v,_,rfl,hx.to R.hv,trivial,k _ _ H' ρ' (EOk.back E'.len (R.add (IsX.of_bl _))) q⟩
def Cal (P:Program) (w:World) (K:eE) (mg:lN) (base:Heap) (j:Nat) (x:Str) (ps:List Str) (sp:Sp):Prop := ∃ f fd,FnOk P w K mg base CX0 j f fd ps sp∧Binds K fd ps []∧PySem.W.keepIn K (.ref f)=true∧mg x=some (.ref f)
theorem aGa {X:Cx} {j:Nat} {x:Str} {ps:List Str} {sp:Sp} {e:Expr} {es:List Expr} {t:TA} {p pos:Pos} (C:Cal X.prog X.w X.K X.mg X.base j x ps sp) (hr:Room j X.A) (ha:PA X (e :: es) t) (hg:Gl X x:=by rfl) (B0:(x == ("__debug__" : Str))=false:=by decide)
  (he:starEach (e :: es) X.env=(false,eval e X.env) :: starEach es X.env:=by rfl) (A9:(backTo pos (starEach es X.env)).any (·.1)=false:=by rfl):PE X (.Call (.Name x p) (e :: es) [] pos) (aEt sp [] E0 t):=by
 obtain ⟨f,fd,G,b,k,m⟩:=C
 exact u_ G hr hg m k b .nil aWh ha B0 he A9
def aAv (Hs H H':Hp):Sv→V→Prop
 | .tr d,v=>IsX (ext Hs H H') d v
 | .ol l,v => ∃ a vs,v=.ref a∧H a=none∧H' a=some (.lst vs)∧All2 (IsX (hid [a] (ext Hs H H'))) l vs
 | .od l,v => ∃ a ws,v=.ref a∧H a=none∧H' a=some (.dK ws)∧All2 (KvX (hid [a] (ext Hs H H'))) l ws
 | .ow o,v=>o.fp.Nodup∧(∀ a∈o.fp,H a=none)∧OwOk (hid o.fp (ext Hs H H')) H' o v
def spX (g:GC):Sp:=fun vs H Q _ => ∃ Hs ds Qx,Same Hs H∧All2 (IsX Hs) ds vs∧g ds Qx∧∀ s v H',Same H H'→aAv Hs H H' s v→Qx s→Q v H'
section
variable {F:Fm} {P:List Rw} {H H':Hp} {a:Addr} {s:Sv} {v:V}
theorem wJ (R:Rep F P H) (e:Same H H'):Same (ext (hid (cD P) (F.vis H)) H H') (hid (cD P) (F.vis H')):=fun b o hb=>by
 cases q:H b with
 | none =>
  rw [rS q] at hb
  exact bQ.mpr ⟨R.not_own q,(rS (R.fresh q)).trans hb⟩
 | some u =>
  rw [rT q] at hb
  exact qC (gw_ e) _ _ hb
theorem Rep.adopt (R:Rep F P H) (e:Same H H') (ha:H a=none) (hA:jT (.v s,some (.ref a))=[a]) (h:RowOk (a :: cD P) (F.vis H') H' (.v s,some (.ref a))):Rep F ((.v s,some (.ref a)) :: P) H':=by
 have Az:=R.not_own ha
 have hq:=R.fresh ha
 have R':=R.grow e
 refine ⟨by rw [mY hA]; exact dI.mpr ⟨Az,R.nd⟩,fun r hr => ?_,fun r hr b hb => ?_,R'.kp,R'.lv⟩
 ·rw [mY hA]
  rcases aI.mp hr with rfl | hr
  ·exact h
  ·refine (R.ok r hr).mono (.of fun b o hb => ?_) fun b hb => ?_
   ·have Av:=bQ.mp hb
    have J9:b≠a:=fun z=>by have:=R.vis _ _ Av.2; rw [z,ha] at this; cases this
    exact bQ.mpr ⟨fun z=>(aI.mp z).elim J9 Av.1,gw_ e _ _ Av.2⟩
   ·obtain ⟨o,ho⟩:=R.own_in (dz_ hr hb)
    rw [ho,e _ _ ho]
 ·rcases aI.mp hr with rfl | hr
  ·cases eq1 hA hb; exact hq
  ·exact R.fr r hr b hb
theorem Rep.adoptW {o:Ow} (R:Rep F P H) (e:Same H H') (hn:o.fp.Nodup) (ha:∀ a∈o.fp,H a=none) (h:OwOk (hid (o.fp ++ cD P) (F.vis H')) H' o v):Rep F ((.v (.ow o),some v) :: P) H':=by
 have R':=R.grow e
 have hO:cD ((.v (.ow o),some v) :: P)=o.fp ++ cD P:=cn_
 have Me:∀ a∈o.fp,a∉cD P:=fun a h1=>R.not_own (ha a h1)
 refine ⟨?_,fun r hr => ?_,fun r hr b hb => ?_,R'.kp,R'.lv⟩
 ·rw [hO]
  exact gJ.mpr ⟨hn,R.nd,fun a h1 b h2 z=>Me a h1 (z ▸ h2)⟩
 ·rw [hO]
  rcases aI.mp hr with rfl | hr
  ·exact ⟨v,rfl,h⟩
  ·refine (R.ok r hr).mono (.of fun b u hb => ?_) fun b hb => ?_
   ·have Av:=bQ.mp hb
    refine bQ.mpr ⟨fun z=>(bA.mp z).elim (fun z => ?_) Av.1,gw_ e _ _ Av.2⟩
    have:=R.vis _ _ Av.2; rw [ha b z] at this; cases this
   ·obtain ⟨u,hu⟩:=R.own_in (dz_ hr hb)
    rw [hu,e _ _ hu]
 ·rcases aI.mp hr with rfl | hr
  ·exact R.fresh (ha b hb)
  ·exact R.fr r hr b hb
theorem yZ (R:Rep F P H) (e:Same H H') (ha:H a=none):Same (hid [a] (ext (hid (cD P) (F.vis H)) H H')) (hid (a :: cD P) (F.vis H')):=fun b o hb=>by
 have Av:=bQ.mp hb
 have:=bQ.mp (wJ R e _ _ Av.2)
 exact bQ.mpr ⟨fun z=>(aI.mp z).elim (fun z=>Av.1 (by rw [z]; exact aB)) this.1,this.2⟩
theorem Rep.res (R:Rep F P H) (e:Same H H') (h:aAv (hid (cD P) (F.vis H)) H H' s v):Rep F ((.v s,some v) :: P) H':=by
 match s,h with
 | .tr d,h=>exact (R.grow e).add (IsX.to h (wJ R e))
 | .ol l,⟨a,vs,h1,h2,h3,h4⟩ =>
  subst h1
  exact R.adopt e h2 rfl ⟨a,vs,rfl,h3,h4.imp fun _ _ z=>z.to (yZ R e h2)⟩
 | .od l,⟨a,vs,h1,h2,h3,h4⟩ =>
  subst h1
  exact R.adopt e h2 rfl ⟨a,vs,rfl,h3,h4.imp fun _ _ z=>z.to (yZ R e h2)⟩
 | .ow o,⟨h1,h2,h3⟩ =>
  refine R.adoptW e h1 h2 (OwOk.mono (.of fun b u hb => ?_) o v (fun _ _=>rfl) h3)
  have Av:=bQ.mp hb
  have:=bQ.mp (wJ R e _ _ Av.2)
  exact bQ.mpr ⟨fun z=>(bA.mp z).elim Av.1 this.1,this.2⟩
end
theorem fW {X:Cx} {Ex:ExT} {j:Nat} {x:Str} {ps:List Str} {g:GC} {e:Expr} {es:List Expr} {u:XA} {p pos:Pos} (C:Cal X.prog X.w X.K X.mg X.base j x ps (spX g)) (hr:Room j X.A) (ha:XAs X Ex (e :: es) u) (hg:Gl X x:=by rfl) (B0:(x == ("__debug__" : Str))=false:=by decide)
  (he:starEach (e :: es) X.env=(false,eval e X.env) :: starEach es X.env:=by rfl) (A9:(backTo pos (starEach es X.env)).any (·.1)=false:=by rfl):XE X Ex (.Call (.Name x p) (e :: es) [] pos) (dS g u):=fun F=>(aGa C hr (ha F) hg B0 he A9).weak fun σ H Q=>by
 rintro ⟨ρ,fr,Qx,E,t,k⟩
 refine ⟨ρ,fr,_,E,t,fun vs ss H2 ρ2 hl E2 q2 => ?_⟩
 obtain ⟨R,hs⟩:=E2.many hl
 rw [bZ]
 exact ⟨_,_,_,R.hv,hs,q2,fun s v H' e hr q=>k v s H' ρ2 (EOk.back E2.len (R.res e hr)) q⟩
abbrev GB:=List Dx→List Dx→(Dx→List Dx→Prop)→Prop
def spB (g:GB):Sp:=fun vs H Q _ => ∃ p ws l vr Hs ds Qx,vs=.ref p :: vr∧H p=some (.lst ws)∧Same Hs H∧Hs p=none∧All2 (IsX Hs) l ws∧All2 (IsX Hs) ds vr∧g l ds Qx ∧
 ∀ d v l' ws' H',SameX p H H'→H' p=some (.lst ws')→All2 (IsX (hid [p] (ext Hs H H'))) l' ws'→IsX (ext Hs H H') d v→Qx d l'→Q v H'
def kK:Sl→Option (List Dx×(List Dx→Sl))
 | .bw l=>some (l,.bw)
 | .v (.ol l)=>some (l,fun l'=>.v (.ol l'))
 | _=>none
def fU (g:GB) (i:Nat) (u:XA):XT:=fun ρ Q=>((ρ[i]?).bind kK).isSome=true∧u ρ fun ss ρ'=>match (ρ'[i]?).bind kK with
 | some (l,f)=>g l (ss.map Sv.d) fun d l'=>Q (.tr d) (ρ'.set i (f l'))
 | none=>False
section
variable {F:Fm} {P:List Rw} {H H':Hp} {a p:Addr} {s:Sv} {v:V} {r r':Rw}
theorem Rep.called (R:Rep F (r :: P) H) (hA:jT r=[p]) (Ia:jT r'=[p]) (hF:FrOk F r p→FrOk F r' p) (e:SameX p H H') (hp:∃ o,H' p=some o) (h:RowOk (p :: cD P) (F.vis H') H' r'):Rep F (r' :: P) H':=by
 have hn:=R.nd
 rw [mY hA] at hn
 have Js:=(dI.mp hn).1
 have R1:=R.ok
 rw [mY hA] at R1
 have Ce:=R.fr r aB p (aWr hA)
 have ev:Same (hid (p :: cD P) (F.vis H)) (hid (p :: cD P) (F.vis H')):=fun b o hb=>by
  have Av:=bQ.mp hb
  have Ha:b≠p:=fun z=>Av.1 (by rw [z]; exact aB)
  refine bQ.mpr ⟨Av.1,?_⟩
  cases q:F.H0 b with
  | none=>exact (rS q).trans (vM ((rS q).symm.trans Av.2) fun o h=>e.get Ha h)
  | some u=>exact (rT q).trans ((rT q).symm.trans Av.2)
 refine ⟨by rw [mY Ia]; exact hn,fun x hx => ?_,fun x hx b hb => ?_,fun b u h1 h2 => ?_,fun b hb => ?_⟩
 ·rw [mY Ia]
  rcases aI.mp hx with rfl | hx
  ·exact h
  ·refine (R1 x (aD _ hx)).mono (.of ev) fun b hb => ?_
   have Ha:b≠p:=fun z=>Js (z ▸ dz_ hx hb)
   obtain ⟨o,ho⟩:=R.own_in (dz_ (aD _ hx) hb)
   rw [ho,e.get Ha ho]
 ·rcases aI.mp hx with rfl | hx
  ·cases eq1 Ia hb; exact hF Ce
  ·exact R.fr x (aD _ hx) b hb
 ·have hb:=R.kp b u h1 h2
  by_cases z:b=p
  ·subst z
   rcases Ce.or with Ce | Ce
   ·exact absurd Ce h2
   ·rw [Ce] at h1; cases h1
  ·exact e.get z hb
 ·by_cases z:b=p
  ·subst z; exact hp
  ·obtain ⟨o,ho⟩:=R.lv b hb
   exact ⟨o,e.get z ho⟩
theorem l_ (R:Rep F (r :: P) H) (hA:jT r=[p]) (e:SameX p H H'):Same (ext (hid (cD (r :: P)) (F.vis H)) H H') (hid (cD (r :: P)) (F.vis H')):=fun b o hb=>by
 have hpo:p∈cD (r :: P):=by rw [mY hA]; exact aB
 cases q:H b with
 | none =>
  rw [rS q] at hb
  exact bQ.mpr ⟨R.not_own q,(rS (R.fresh q)).trans hb⟩
 | some u =>
  rw [rT q] at hb
  have Av:=bQ.mp hb
  have Ha:b≠p:=fun z=>Av.1 (by rw [z]; exact hpo)
  refine bQ.mpr ⟨Av.1,?_⟩
  cases q:F.H0 b with
  | none=>exact (rS q).trans (vM ((rS q).symm.trans Av.2) fun o h=>e.get Ha h)
  | some u=>exact (rT q).trans ((rT q).symm.trans Av.2)
end
theorem pQ {sl:Sl} {x:Option V} {l:List Dx} {f:List Dx→Sl} {F:Fm} {P:List Rw} {H:Hp} (h:kK sl=some (l,f)) (R:Rep F ((sl,x) :: P) H):∃ p ws,x=some (.ref p)∧H p=some (.lst ws)∧jT (sl,some (.ref p))=[p]∧All2 (IsX (hid (p :: cD P) (F.vis H))) l ws ∧
  ∀ l',jT (f l',some (.ref p))=[p]∧(FrOk F (sl,some (.ref p)) p→FrOk F (f l',some (.ref p)) p)∧∀ {O:List Addr} {G H':Hp} {ws':List V},H' p=some (.lst ws')→All2 (IsX (hid O G)) l' ws'→RowOk O G H' (f l',some (.ref p)):=by
 match sl,h with
 | .bw l,h =>
  cases h
  obtain ⟨p,ws,h1,h2,h3⟩:=R.atB
  exact ⟨p,ws,h1,h2,rfl,h3,fun l'=>⟨rfl,id,fun a b=>⟨p,_,rfl,a,b⟩⟩⟩
 | .v (.ol l),h =>
  cases h
  obtain ⟨p,ws,h1,h2,h3⟩:=R.atL
  exact ⟨p,ws,h1,h2,rfl,h3,fun l'=>⟨rfl,id,fun a b=>⟨p,_,rfl,a,b⟩⟩⟩
theorem iQ {X:Cx} {Ex:ExT} {j i:Nat} {x:Str} {ps:List Str} {g:GB} {e:Expr} {es:List Expr} {u:XA} {p pos:Pos} (C:Cal X.prog X.w X.K X.mg X.base j x ps (spB g)) (hr:Room j X.A) (hv:PE X e (iH i)) (ha:XAs X Ex es u) (hg:Gl X x:=by rfl) (B0:(x == ("__debug__" : Str))=false:=by decide)
  (he:starEach (e :: es) X.env=(false,eval e X.env) :: starEach es X.env:=by rfl) (A9:(backTo pos (starEach es X.env)).any (·.1)=false:=by rfl):XE X Ex (.Call (.Name x p) (e :: es) [] pos) (fU g i u):=fun F=>(aGa C hr (lZ hv (ha F) he) hg B0 he A9).weak fun σ H Q=>by
 rintro ⟨ρ,fr,Qx,E,⟨t0,t⟩,k⟩
 obtain ⟨⟨l0,f0⟩,h0⟩:=dQ.mp t0
 obtain ⟨sl0,h1,h2⟩:=fH.mp h0
 obtain ⟨v,hv,hi,R0⟩:=di_ E h1
 obtain ⟨p,_,rfl,_⟩:=pQ h2 R0
 refine ⟨.ref p,hv,ρ,fr,_,E,t,fun vs ss H2 ρ2 hl E2 q2 => ?_⟩
 obtain ⟨R,hs⟩:=E2.many hl
 split at q2
 ·rename_i l f hb
  obtain ⟨sl,h3,h4⟩:=fH.mp hb
  have E3:EOk F ρ2 σ fr H2:=⟨E2.len,R⟩
  obtain ⟨v',Bn,K0,R2⟩:=di_ E3 h3
  rw [hv] at Bn
  cases Bn
  obtain ⟨p',ws,ep,h5,h6,h7,h8⟩:=pQ h4 R2
  cases ep
  rw [bZ]
  have hO:(cD (ρ2.zip σ ++ fr)).Perm (cD ((sl,some (V.ref p)) :: ((ρ2.zip σ).eraseIdx i ++ fr))):=((fo_ h3 hv).append_right fr).flatMap_right _
  have hOm:∀ a∈cD ((sl,some (V.ref p)) :: ((ρ2.zip σ).eraseIdx i ++ fr)),a∈cD (ρ2.zip σ ++ fr):=fun a ha=>hO.mem_iff.mpr ha
  refine ⟨p,ws,l,vs,hid (cD ((sl,some (V.ref p)) :: ((ρ2.zip σ).eraseIdx i ++ fr))) (F.vis H2),_,_,rfl,h5,R2.hv,?_,?_,hs.imp fun _ _ z=>z.to (oH hOm),q2,fun d w l' ws' H' e hp Gn hd q => ?_⟩
  ·unfold hid
   rw [if_pos (by rw [mY h6]; exact aB)]
  ·rw [mY h6]
   exact h7
  ·obtain ⟨k1,k2,k3⟩:=h8 l'
   have ev:=l_ R2 h6 e
   have R3:=R2.called h6 k1 k2 e ⟨_,hp⟩ (k3 hp (Gn.imp fun _ _ z=>z.to fun b o hb=>by
    have Av:=bQ.mp hb
    have:=ev _ _ Av.2
    rw [mY h6] at this
    exact this))
   refine k w (.tr d) H' _ (EOk.back (by rw [bB]; exact E2.len) ?_) q
   have R4:=R3.add (d:=d) (v:=w) (hd.to fun b o hb=>by
    have:=ev _ _ hb
    rw [mY h6] at this
    rw [mY k1]
    exact this)
   exact R4.perm (((dg_ E2.len K0 hv).append_right fr).symm.cons _)
 ·exact q2.elim
end Lf
variable {X:L2.Cx} {Ex:Lf.ExT}
namespace L2
open PySem
theorem PI.weak {X:Cx} {tg e:Expr} {t u:TI} (h:PI X tg e t) (w:∀ σ H Q,u σ H Q→t σ H Q):PI X tg e u:=fun Aa s σ H Q I q=>h Aa s σ H Q I (w σ H Q q)
theorem PCs.weak {X:Cx} {e:List Expr} {t u:TT} (h:PCs X e t) (w:∀ σ H Q,u σ H Q→t σ H Q):PCs X e u:=fun Aa s σ H Q I q=>h Aa s σ H Q I (w σ H Q q)
end L2
namespace Lf
open PySem L2
abbrev XI:=En→(List Dx→En→Prop)→Prop
structure ItX (F:Fm) (J:It) (row:List Rw) (ds:List Dx):Prop where
 go:∀ P H i d,Rep F (row ++ P) H→ds[i]? = some d→J.go i H
 stop:∀ P H i,Rep F (row ++ P) H→ds.length≤i→J.stop i H
 yld:∀ P H i d x H',Rep F (row ++ P) H→ds[i]? = some d→J.yld i H x H'→Rep F ((vT d,some x) :: (row ++ P)) H'
def tXi (F:Fm) (t:XI):TI:=fun σ H R => ∃ ρ fr Qx,EOk F ρ σ fr H∧t ρ Qx∧∀ J H' ρ' row ds,EOk F ρ' σ (row ++ fr) H'→ItX F J row ds→Qx ds ρ'→R J H'
def XIt (X:Cx) (Ex:ExT) (tg iter:Expr) (t:XI):Prop := ∀ F,[OkF X Ex F]→PI X tg iter (tXi F t)
def xiL (t:XT):XI:=fun ρ Q=>t ρ fun s ρ'=>match s.d with
 | .lst l=>Q l ρ'
 | _=>False
def xiT (t:XT):XI:=fun ρ Q=>t ρ fun s ρ'=>match s.d with
 | .tup l=>Q l ρ'
 | _=>False
theorem aHm {F:Fm} {K:eE} {a:Addr} {l:List Dx}:ItX F (Itl K a) [(vT (.lst l),some (.ref a))] l where
 go:=fun P H i d R hd=>by
  obtain ⟨v,e,h⟩:=R.atT; cases e
  obtain ⟨_,vs,e,h1,h2⟩:=h.lst_eq; cases e
  obtain ⟨x,h3,_⟩:=h2.at hd
  exact ⟨vs,x,SqL.of (R.hv _ _ h1),h3⟩
 stop:=fun P H i R hi=>by
  obtain ⟨v,e,h⟩:=R.atT; cases e
  obtain ⟨_,vs,e,h1,h2⟩:=h.lst_eq; cases e
  exact ⟨vs,SqL.of (R.hv _ _ h1),by rw [h2.len]; exact hi⟩
 yld:=fun P H i d x H' R hd q=>by
  obtain ⟨rfl,q⟩:=q
  obtain ⟨v,e,h⟩:=R.atT; cases e
  obtain ⟨_,vs,e,h1,h2⟩:=h.lst_eq; cases e
  obtain ⟨y,h3,h4⟩:=h2.at hd
  rw [q vs (SqL.of (R.hv _ _ h1))] at h3
  cases h3
  exact R.add h4
theorem aMe {F:Fm} {K:eE} {a:Addr} {l:List Dx}:ItX F (Itt K a) [(vT (.tup l),some (.ref a))] l where
 go:=fun P H i d R hd=>by
  obtain ⟨v,e,h⟩:=R.atT; cases e
  obtain ⟨_,vs,e,h1,h2⟩:=h.tup_eq; cases e
  obtain ⟨x,h3,_⟩:=h2.at hd
  exact ⟨vs,x,SqT.of (R.hv _ _ h1),h3⟩
 stop:=fun P H i R hi=>by
  obtain ⟨v,e,h⟩:=R.atT; cases e
  obtain ⟨_,vs,e,h1,h2⟩:=h.tup_eq; cases e
  exact ⟨vs,SqT.of (R.hv _ _ h1),by rw [h2.len]; exact hi⟩
 yld:=fun P H i d x H' R hd q=>by
  obtain ⟨rfl,q⟩:=q
  obtain ⟨v,e,h⟩:=R.atT; cases e
  obtain ⟨_,vs,e,h1,h2⟩:=h.tup_eq; cases e
  obtain ⟨y,h3,h4⟩:=h2.at hd
  rw [q vs (SqT.of (R.hv _ _ h1))] at h3
  cases h3
  exact R.add h4
section
variable {tg l a b:Expr} {t:XT} {u:XA} {p pos:Pos}
theorem mW (h:XE X Ex l t):XIt X Ex tg l (xiL t):=fun F=>(aKu (h F)).weak fun σ H R=>by
 rintro ⟨ρ,fr,Qx,E,t,k⟩
 refine ⟨ρ,fr,_,E,t,fun v s H' ρ' E' q => ?_⟩
 split at q
 ·rename_i m hm
  have R1:=E'.front.frz
  rw [hm] at R1
  obtain ⟨v',e,h⟩:=R1.atT; cases e
  obtain ⟨c,vs,rfl,h1,h2⟩:=h.lst_eq
  exact ⟨c,rfl,⟨vs,SqL.of (R1.hv _ _ h1)⟩,k _ H' ρ' [(vT (.lst m),some (.ref c))] m (EOk.back E'.len R1) aHm q⟩
 ·exact q.elim
theorem aPg (h:XE X Ex l t):XIt X Ex tg l (xiT t):=fun F=>(aQi (h F)).weak fun σ H R=>by
 rintro ⟨ρ,fr,Qx,E,t,k⟩
 refine ⟨ρ,fr,_,E,t,fun v s H' ρ' E' q => ?_⟩
 split at q
 ·rename_i m hm
  have R1:=E'.front.frz
  rw [hm] at R1
  obtain ⟨v',e,h⟩:=R1.atT; cases e
  obtain ⟨c,vs,rfl,h1,h2⟩:=h.tup_eq
  exact ⟨c,rfl,⟨vs,SqT.of (R1.hv _ _ h1)⟩,k _ H' ρ' [(vT (.tup m),some (.ref c))] m (EOk.back E'.len R1) aMe q⟩
 ·exact q.elim
def rZ (lo:Int) (n:Nat):List Dx:=(List.range n).map fun k:Nat=>.int (lo + (k:Int))
theorem uO {lo:Int} {n i:Nat} {d:Dx} (h:(rZ lo n)[i]? = some d):i < n∧d=.int (lo + i):=by
 unfold rZ at h
 rw [bG] at h
 obtain ⟨k,h1,h2⟩:=fR.mp h
 obtain ⟨h3,h4⟩:=aF.mp h1
 rw [List.getElem_range] at h4
 rw [bR] at h3
 subst h4
 exact ⟨h3,h2.symm⟩
theorem aCf {F:Fm} {lo:Int} {n:Nat}:ItX F (Itr lo n) [] (rZ lo n) where
 go:=fun P H i d R hd=>(uO hd).1
 stop:=fun P H i R hi=>by unfold rZ at hi; rw [aE,bR] at hi; exact hi
 yld:=fun P H i d x H' R hd q=>by
  obtain ⟨rfl,rfl⟩:=q
  rw [(uO hd).2]
  exact R.add (IsX.of_int _)
def xL (u:XA):XI:=fun ρ Q=>u ρ fun ss ρ'=>match ss.map Sv.d with
 | [.int j]=>(-(2 ^ 62)≤j∧j < 2 ^ 62)∧Q (rZ 0 j.toNat) ρ'
 | _=>False
theorem cg_ (hm:X.mg "range" = none) (ha:XAs X Ex [a] u) (hg:Gl X "range" := by rfl) (hs:starEach [a] X.env=[(false,eval a X.env)]:=by rfl):XIt X Ex tg (.Call (.Name "range" p) [a] [] pos) (xL u):=fun F=>(aBm hg hm (ha F) hs).weak fun σ H R=>by
 rintro ⟨ρ,fr,Qx,E,t,k⟩
 refine ⟨ρ,fr,_,E,t,fun vs ss H2 ρ2 hl E2 q => ?_⟩
 obtain ⟨R,hs⟩:=E2.many hl
 split at q
 ·rename_i j hj
  rw [hj] at hs
  obtain ⟨x,rfl,hx⟩:=xA hs
  cases hx.int_eq
  exact ⟨j,rfl,q.1.1,q.1.2,k _ H2 ρ2 [] _ ⟨E2.len,R⟩ aCf q.2⟩
 ·exact q.elim
def iA (l m:List Dx):List Dx:=List.zipWith (fun a b=>.tup [a,b]) l m
def xiZ (u:XA):XI:=fun ρ Q=>u ρ fun ss ρ'=>match ss.map Sv.d with
 | [.lst l,.lst m]=>Q (iA l m) ρ'
 | _=>False
def zG (l:List Dx):List Dx:=iA (rZ 0 l.length) l
def xiE (u:XA):XI:=fun ρ Q=>u ρ fun ss ρ'=>match ss.map Sv.d with
 | [.lst l]=>Q (zG l) ρ'
 | _=>False
theorem hb_ {l m:List Dx} {i:Nat} {d:Dx} (h:(iA l m)[i]? = some d):∃ a b,l[i]? = some a∧m[i]? = some b∧d=.tup [a,b]:=by
 unfold iA at h
 rw [List.getElem?_zipWith] at h
 cases e1:l[i]? with
 | none=>rw [e1] at h; cases h
 | some a =>
  cases e2:m[i]? with
  | none=>rw [e1,e2] at h; cases h
  | some b=>rw [e1,e2] at h; exact ⟨a,b,rfl,rfl,(ozI h).symm⟩
theorem x4 {F:Fm} {K:eE} {a b:Addr} {l m:List Dx}:ItX F (Itz false false K a b) [(vT (.lst l),some (.ref a)),(vT (.lst m),some (.ref b))] (iA l m) where
 go:=fun P H i d R hd=>by
  obtain ⟨v,e,h⟩:=R.atT; cases e
  obtain ⟨_,vs,e,h1,h2⟩:=h.lst_eq; cases e
  obtain ⟨v,e,h'⟩:=R.tail.atT; cases e
  obtain ⟨_,ws,e,h3,h4⟩:=h'.lst_eq; cases e
  obtain ⟨c,c',e1,e2,_⟩:=hb_ hd
  obtain ⟨x,h5,_⟩:=h2.at e1
  obtain ⟨y,h6,_⟩:=h4.at e2
  exact ⟨vs,ws,x,y,SqL.of (R.hv _ _ h1),SqL.of (R.hv _ _ h3),h5,h6⟩
 stop:=fun P H i R hi=>by
  obtain ⟨v,e,h⟩:=R.atT; cases e
  obtain ⟨_,vs,e,h1,h2⟩:=h.lst_eq; cases e
  obtain ⟨v,e,h'⟩:=R.tail.atT; cases e
  obtain ⟨_,ws,e,h3,h4⟩:=h'.lst_eq; cases e
  refine ⟨vs,ws,SqL.of (R.hv _ _ h1),SqL.of (R.hv _ _ h3),?_⟩
  unfold iA at hi
  rw [List.length_zipWith] at hi
  rw [h2.len,h4.len]
  omega
 yld:=fun P H i d x H' R hd q=>by
  obtain ⟨p,x,y,rfl,hp,rfl,q⟩:=q
  obtain ⟨v,e,h⟩:=R.atT; cases e
  obtain ⟨_,vs,e,h1,h2⟩:=h.lst_eq; cases e
  obtain ⟨v,e,h'⟩:=R.tail.atT; cases e
  obtain ⟨_,ws,e,h3,h4⟩:=h'.lst_eq; cases e
  obtain ⟨c,c',e1,e2,rfl⟩:=hb_ hd
  obtain ⟨x',h5,h7⟩:=h2.at e1
  obtain ⟨y',h6,h8⟩:=h4.at e2
  obtain ⟨q1,q2⟩:=q vs ws (SqL.of (R.hv _ _ h1)) (SqL.of (R.hv _ _ h3))
  rw [q1] at h5; cases h5
  rw [q2] at h6; cases h6
  exact R.newT hp ⟨_,_,rfl,h7,_,_,rfl,h8,rfl⟩
theorem aHn {F:Fm} {K:eE} {a:Addr} {l:List Dx}:ItX F (Ite K a) [(vT (.lst l),some (.ref a))] (zG l) where
 go:=fun P H i d R hd=>by
  obtain ⟨v,e,h⟩:=R.atT; cases e
  obtain ⟨_,vs,e,h1,h2⟩:=h.lst_eq; cases e
  obtain ⟨c,c',e1,e2,_⟩:=hb_ hd
  obtain ⟨y,h6,_⟩:=h2.at e2
  exact ⟨vs,y,SqL.of (R.hv _ _ h1),h6⟩
 stop:=fun P H i R hi=>by
  obtain ⟨v,e,h⟩:=R.atT; cases e
  obtain ⟨_,vs,e,h1,h2⟩:=h.lst_eq; cases e
  refine ⟨vs,SqL.of (R.hv _ _ h1),?_⟩
  unfold zG iA rZ at hi
  rw [List.length_zipWith,aE,bR] at hi
  rw [h2.len]
  omega
 yld:=fun P H i d x H' R hd q=>by
  obtain ⟨p,x,rfl,hp,rfl,q⟩:=q
  obtain ⟨v,e,h⟩:=R.atT; cases e
  obtain ⟨_,vs,e,h1,h2⟩:=h.lst_eq; cases e
  obtain ⟨c,c',e1,e2,rfl⟩:=hb_ hd
  obtain ⟨y',h6,h8⟩:=h2.at e2
  rw [q vs (SqL.of (R.hv _ _ h1))] at h6; cases h6
  rw [(uO e1).2]
  exact R.newT hp ⟨_,_,rfl,by rw [show (0:Int) + (i:Int)=i from Int.zero_add _]; exact IsX.of_int _,_,_,rfl,h8,rfl⟩
theorem oK {es:List Expr} {kk:Nat} {tpos:Pos} (hm:X.mg "zip" = none) (ha:XAs X Ex [a,b] u) (hg:Gl X "zip" := by rfl) (hs:starEach [a,b] X.env=[(false,eval a X.env),(false,eval b X.env)]:=by rfl) (C2:starEach [b] X.env=[(false,eval b X.env)]:=by rfl) :
  XIt X Ex (.Tuple es kk tpos) (.Call (.Name "zip" p) [a,b] [] pos) (xiZ u):=fun F=>(i6 (t1:=false) (t2:=false) hg hm (ha F) hs C2).weak fun σ H R=>by
 rintro ⟨ρ,fr,Qx,E,t,k⟩
 refine ⟨ρ,fr,_,E,t,fun vs ss H2 ρ2 hl E2 q => ?_⟩
 obtain ⟨R,hs⟩:=E2.many hl
 split at q
 ·rename_i l m hj
  rw [hj] at hs
  obtain ⟨x,y,rfl,hx,hy⟩:=o8 hs
  obtain ⟨c,cs,rfl,h1,_⟩:=hx.lst_eq
  obtain ⟨d,ds,rfl,h3,_⟩:=hy.lst_eq
  have R1:=(R.add hy).add (d:=.lst l) (v:=.ref c) hx
  exact ⟨c,d,rfl,⟨cs,SqL.of (R.hv _ _ h1)⟩,⟨ds,SqL.of (R.hv _ _ h3)⟩,k _ H2 ρ2 [(vT (.lst l),some (.ref c)),(vT (.lst m),some (.ref d))] _ ⟨E2.len,R1.perm ((nG.symm.cons _).trans nG.symm)⟩ x4 q⟩
 ·exact q.elim
theorem p9 {es:List Expr} {kk:Nat} {tpos:Pos} (hm:X.mg "enumerate" = none) (ha:XAs X Ex [a] u) (hg:Gl X "enumerate" := by rfl) (hs:starEach [a] X.env=[(false,eval a X.env)]:=by rfl) :
  XIt X Ex (.Tuple es kk tpos) (.Call (.Name "enumerate" p) [a] [] pos) (xiE u):=fun F=>(aKv hg hm (ha F) hs).weak fun σ H R=>by
 rintro ⟨ρ,fr,Qx,E,t,k⟩
 refine ⟨ρ,fr,_,E,t,fun vs ss H2 ρ2 hl E2 q => ?_⟩
 obtain ⟨R,hs⟩:=E2.many hl
 split at q
 ·rename_i l hj
  rw [hj] at hs
  obtain ⟨x,rfl,hx⟩:=xA hs
  obtain ⟨c,cs,rfl,h1,_⟩:=hx.lst_eq
  exact ⟨c,rfl,⟨cs,SqL.of (R.hv _ _ h1)⟩,k _ H2 ρ2 [(vT (.lst l),some (.ref c))] _ (EOk.back E2.len (R.add hx)) aHn q⟩
 ·exact q.elim
end
abbrev XG:=Dx→En→(En→Prop)→Prop
def GX (n:Nat) (g:TG) (gx:XG):Prop := ∀ (F:Fm) (ρ:En) (σ:St) (fr:List Rw) (H:Hp) (d:Dx) (x:V) (Q:St→Hp→Prop) (Qx:En→Prop),EOk F ρ σ ((vT d,some x) :: fr) H→gx d ρ Qx →
 (∀ σ' H' ρ',EOk F ρ' σ' fr H'→σ'.length=σ.length→(∀ i,n≤i→σ'[i]? = σ[i]?)→Qx ρ'→Q σ' H')→g x σ H Q
def gxN (i:Nat):XG:=fun d ρ Q=>Q (ρ.set i (vT d))
theorem ho_ {F:Fm} {ρ:En} {σ:St} {fr:List Rw} {H:Hp} {s:Sv} {x:V} {i:Nat} (E:EOk F ρ σ ((.v s,some x) :: fr) H):EOk F (ρ.set i (.v s)) (σ.set i (some x)) fr H:=by
 by_cases hi:i < ρ.length
 ·refine ⟨by rw [bB,bB]; exact E.len,?_⟩
  have hz:=aFp (l:=ρ.zip σ) (i:=i) (aA (by rw [cM]; have:=E.len; omega))
  have R:=E.front.perm ((hz.append_right fr).cons _)
  exact (R.perm (.swap _ _ _)).tail.perm ((nI E.len hi).append_right fr).symm
 ·rw [dR (by omega),dR (by have:=E.len; omega)]
  exact E.drop
theorem kJ {n i:Nat} (h:i < n):GX n (kX i) (gxN i):=fun F ρ σ fr H d x Q Qx E g k=>k _ H _ (ho_ E) (bB) (fun j hj=>dY (by omega)) g
@[reducible] def aMj:List Nat→TGs
 | []=>aIc
 | i :: is=>yV (kX i) (aMj is)
def gxs:List Nat→List Dx→En→(En→Prop)→Prop
 | [],[],ρ,Q=>Q ρ
 | i :: is,d :: ds,ρ,Q=>gxs is ds (ρ.set i (.v (.tr d))) Q
 | _,_,_,_=>False
def gxT (is:List Nat):XG:=fun d ρ Q=>match d with
 | .tup ds=>gxs is ds ρ Q
 | _=>False
def gxL (is:List Nat):XG:=fun d ρ Q=>match d with
 | .lst ds=>gxs is ds ρ Q
 | _=>False
theorem k9 {n:Nat} {F:Fm} {fr:List Rw} {H:Hp} {Q:St→Hp→Prop} {Qx:En→Prop}:∀ {is:List Nat} {ds:List Dx} {xs:List V} {ρ:En} {σ:St},(∀ i∈is,i < n)→EOk F ρ σ fr H→All2 (IsX (hid (cD (ρ.zip σ ++ fr)) (F.vis H))) ds xs→gxs is ds ρ Qx →
  (∀ σ' ρ',EOk F ρ' σ' fr H→σ'.length=σ.length→(∀ i,n≤i→σ'[i]? = σ[i]?)→Qx ρ'→Q σ' H)→aMj is xs σ H Q
 | [],[],xs,ρ,σ,_,E,ha,g,k=>⟨ha,k σ ρ E rfl (fun _ _=>rfl) g⟩
 | i :: is,d :: ds,xs,ρ,σ,hi,E,⟨x,xr,e,h1,h2⟩,g,k=>by
  have E1:EOk F (ρ.set i (vT d)) (σ.set i (some x)) fr H:=ho_ (EOk.back E.len (E.rep.add h1))
  refine ⟨x,xr,e,k9 (fun j hj=>hi j (aD _ hj)) E1 (h2.imp fun a b z=>z.to (oH fun c hc => ?_)) g fun σ' ρ' E' hl hs q=>k σ' ρ' E' (hl.trans bB) (fun j hj=>(hs j hj).trans (dY (by have:=hi i aB; omega))) q⟩
  by_cases Br:i < ρ.length
  ·have hp:=((nI (s:=.v (.tr d)) (v:=some x) E.len Br).append_right fr).flatMap_right jT
   have hz:=((aFp (l:=ρ.zip σ) (i:=i) (aA (by rw [cM]; have:=E.len; omega))).append_right fr).flatMap_right jT
   refine hz.mem_iff.mpr ?_
   have:=hp.mem_iff.mp hc
   rw [bU,List.flatMap_cons] at this
   rw [bU,List.flatMap_cons]
   rcases bA.mp this with z | z
   ·cases z
   ·exact aK _ z
  ·rw [dR (by omega),dR (by have:=E.len; omega)] at hc
   exact hc
 | [],_ :: _,_,_,_,_,_,_,g,_=>g.elim
 | _ :: _,[],_,_,_,_,_,_,g,_=>g.elim
theorem wE {Q:En→Prop}:∀ {is:List Nat} {ds:List Dx} {ρ:En},gxs is ds ρ Q→ds.length=is.length
 | [],[],_,_=>rfl
 | i :: is,d :: ds,ρ,g=>congrArg (· + 1) (wE (is:=is) (ds:=ds) (ρ:=ρ.set i (.v (.tr d))) g)
 | [],_ :: _,_,g=>g.elim
 | _ :: _,[],_,g=>g.elim
theorem fe_ {K:eE} {n m:Nat} {is:List Nat} (hm:is.length=m) (h:∀ i∈is,i < n):GX n (aIb K m (aMj is)) (gxT is):=fun F ρ σ fr H d x Q Qx E g k=>by
 unfold gxT at g
 split at g
 ·obtain ⟨R,hx⟩:=E.one
  obtain ⟨a,vs,rfl,h1,h2⟩:=hx.tup_eq
  exact ⟨a,vs,rfl,SqT.of (R.hv _ _ h1),by rw [h2.len,wE g,hm],k9 h E.drop h2 g fun σ' ρ' E' hl hs q=>k σ' H ρ' E' hl hs q⟩
 ·exact g.elim
theorem mO {K:eE} {n m:Nat} {is:List Nat} (hm:is.length=m) (h:∀ i∈is,i < n):GX n (aMs K m (aMj is)) (gxL is):=fun F ρ σ fr H d x Q Qx E g k=>by
 unfold gxL at g
 split at g
 ·obtain ⟨R,hx⟩:=E.one
  obtain ⟨a,vs,rfl,h1,h2⟩:=hx.lst_eq
  exact ⟨a,vs,rfl,SqL.of (R.hv _ _ h1),by rw [h2.len,wE g,hm],k9 h E.drop h2 g fun σ' ρ' E' hl hs q=>k σ' H ρ' E' hl hs q⟩
 ·exact g.elim
def lO:XC:=fun ρ Q=>Q true ρ
def XCs (X:Cx) (Ex:ExT) (ifs:List Expr) (t:XC):Prop := ∀ F,[OkF X Ex F]→PCs X ifs (tXc F t)
theorem mD {X:Cx} {Ex:ExT}:XCs X Ex [] lO:=fun F=>(aLc (X:=X)).weak fun σ H Q=>by
 rintro ⟨ρ,fr,Qx,E,t,k⟩
 exact k true H ρ E t
theorem nK {c:Expr} {t:XC} (h:XTe X Ex c t):XCs X Ex [c] t:=fun F=>aLb (h F)
def dX (n:Nat) (gx:XG) (tc:XC) (te:XT) (Q:List Dx→List Sl→Prop):List Dx→List Sl→List Dx→Prop
 | [],cs,Ad=>Q Ad cs
 | d :: ds,cs,Ad=>gx d (List.replicate n .un ++ cs) fun ρ1=>tc ρ1 fun b ρ2=>if b=true then te ρ2 fun s ρ3=>dX n gx tc te Q ds (ρ3.drop n) (Ad ++ [s.d]) else dX n gx tc te Q ds (ρ2.drop n) Ad
def cut:List Nat→En→En
 | [],ρ=>ρ
 | j :: js,ρ=>cut js (ρ.set j .un)
def iP (outs:List Nat) (ρ:En):List Sl:=outs.map fun j=>(ρ[j]?).getD .un
def back:List Nat→List Sl→En→En
 | j :: js,c :: cs,ρ=>back js cs (ρ.set j c)
 | _,_,ρ=>ρ
def iR (n:Nat) (outs:List Nat) (ti:XI) (gx:XG) (tc:XC) (te:XT):XT:=fun ρ Q=>ti ρ fun ds ρ1=>ds.length≤1000000∧dX n gx tc te (fun Ad cs=>Q (.ol Ad) (back outs cs ρ1)) ds (iP outs ρ1) []
theorem sw {α:Type} {A B C:List α}:(A ++ (B ++ C)).Perm (B ++ (A ++ C)):=by
 rw [← bD,← bD]
 exact List.perm_append_comm.append_right C
section
variable {F:Fm} {H:Hp} {σ:St}
abbrev lB (σ:St) (outs:List Nat):St:=outs.map fun j=>(σ[j]?).join
theorem aIv {js:List Nat} {j:Nat} {s:Sl} {ρ:En} (h:j∉js):iP js (ρ.set j s)=iP js ρ:=by
 unfold iP
 refine List.map_congr_left fun k hk => ?_
 rw [dY (fun z=>h (by rw [z]; exact hk))]
theorem oD:∀ {js:List Nat} {ρ:En},(cut js ρ).length=ρ.length
 | [],_=>rfl
 | j :: js,ρ=>(oD (js:=js)).trans bB
theorem aAp:∀ {js:List Nat} {j:Nat} {s:Sl} {ρ:En},j∉js→cut js (ρ.set j s)=(cut js ρ).set j s
 | [],_,_,_,_=>rfl
 | k :: js,j,s,ρ,h=>by
  show cut js ((ρ.set j s).set k .un)=(cut js (ρ.set k .un)).set j s
  rw [List.set_comm _ _ (fun z=>h (by rw [z]; exact aB)),aAp fun z=>h (aD _ z)]
theorem u7:∀ {outs:List Nat} {ρ:En} {T:List Rw},outs.Nodup→ρ.length=σ.length→Rep F (ρ.zip σ ++ T) H→Rep F ((iP outs ρ).zip (lB σ outs) ++ ((cut outs ρ).zip σ ++ T)) H
 | [],_,_,_,_,R=>R
 | j :: js,ρ,T,hn,hl,R=>by
  have Dv:=dI.mp hn
  have step:Rep F ((ρ.set j .un).zip σ ++ (((ρ[j]?).getD .un,(σ[j]?).join) :: T)) H:=by
   by_cases hj:j < ρ.length
   ·have h1:ρ[j]? = some ρ[j]:=aA hj
    have h2:σ[j]? = some (σ[j]'(by omega)):=aA (by omega)
    have R1:=R.perm ((fo_ h1 h2).append_right T)
    have R2:=R1.addU (x:=σ[j]'(by omega))
    rw [h1,h2]
    refine R2.perm ?_
    refine (List.Perm.swap _ _ _).trans ?_
    exact (((dg_ hl hj h2).append_right T).symm.cons _).trans nG.symm
   ·rw [dR (by omega),cF (by omega),cF (by omega)]
    exact (R.addU (x:=none)).perm nG.symm
  have:=u7 (outs:=js) Dv.2 (by rw [bB]; exact hl) step
  rw [aIv Dv.1] at this
  show Rep F ((((ρ[j]?).getD .un,(σ[j]?).join) :: (iP js ρ).zip (lB σ js)) ++ ((cut js (ρ.set j .un)).zip σ ++ T)) H
  refine this.perm ?_
  refine List.Perm.trans ?_ (List.Perm.refl _)
  rw [← bD]
  exact nG.trans (by rw [bD]; exact .refl _)
theorem aFo:∀ {outs:List Nat} {cs:List Sl} {ρ:En} {T:List Rw},outs.Nodup→ρ.length=σ.length→cs.length=outs.length→Rep F (cs.zip (lB σ outs) ++ ((cut outs ρ).zip σ ++ T)) H→Rep F ((back outs cs ρ).zip σ ++ T) H
 | [],[],_,_,_,_,_,R=>R
 | [],_ :: _,_,_,_,_,h,_=>by simp at h
 | _ :: _,[],_,_,_,_,h,_=>by simp at h
 | j :: js,c :: cs,ρ,T,hn,hl,hc,R=>by
  have Dv:=dI.mp hn
  refine aFo (outs:=js) (cs:=cs) (ρ:=ρ.set j c) Dv.2 (by rw [bB]; exact hl) (by simpa using hc) ?_
  have R1:Rep F ((c,(σ[j]?).join) :: (cs.zip (lB σ js) ++ ((cut js (ρ.set j .un)).zip σ ++ T))) H:=R
  rw [aAp Dv.1] at R1 ⊢
  have Iq:(cut js ρ).length=σ.length:=oD.trans hl
  by_cases hj:j < ρ.length
  ·have Nk:j < (cut js ρ).length:=by rw [oD]; exact hj
   have h2:σ[j]? = some (σ[j]'(by omega)):=aA (by omega)
   rw [h2] at R1
   have p1:=((dg_ (s:=.un) Iq Nk h2).append_right T)
   have p2:=((dg_ (s:=c) Iq Nk h2).append_right T)
   have R2:=R1.perm ((List.Perm.append_left _ p1).cons _)
   have R3:=R2.perm ((nG.cons _).trans (.swap _ _ _))
   exact R3.tail.perm (nG.symm.trans (List.Perm.append_left _ p2.symm))
  ·have hz:(cut js ρ).length≤j:=by rw [oD]; omega
   rw [dR hz] at R1 ⊢
   exact R1.tail
theorem Rep.drops:∀ {A P:List Rw},Rep F (A ++ P) H→Rep F P H
 | [],_,R=>R
 | _ :: _,_,R=>Rep.drops R.tail
theorem Rep.addUs {P:List Rw} (R:Rep F P H):∀ n,Rep F (List.replicate n (.un,none) ++ P) H
 | 0=>R
 | n + 1=>(Rep.addUs R n).addU
def nH (ds:List Dx) (xs:List V):List Rw:=(ds.zip xs).map fun p=>(vT p.1,some p.2)
theorem Rep.accs:∀ {ds:List Dx} {xs:List V} {P:List Rw},ds.length=xs.length→Rep F (nH ds xs ++ P) H→Rep F P H∧All2 (IsX (hid (cD P) (F.vis H))) ds xs
 | [],[],P,_,R=>⟨R,rfl⟩
 | [],_ :: _,_,h,_=>by simp at h
 | _ :: _,[],_,h,_=>by simp at h
 | d :: ds,x :: xs,P,h,R=>by
  obtain ⟨v,e,hx⟩:=Rep.atT (show Rep F ((vT d,some x) :: (nH ds xs ++ P)) H from R)
  cases e
  obtain ⟨R1,h1⟩:=Rep.accs (ds:=ds) (xs:=xs) (by simpa using h) (Rep.tail (show Rep F ((vT d,some x) :: (nH ds xs ++ P)) H from R))
  refine ⟨R1,x,xs,rfl,hx.to (oH fun c hc => ?_),h1⟩
  unfold cD
  rw [iN]
  exact aK _ hc
end
section
variable {dsc scope:Scope} {tgs N':List Str} {outs:List Nat} {tg iter elt:Expr} {ifs:List Expr} {pos:Pos} {ti:XI} {g:TG} {gx:XG} {tc:XC} {te:XT}
theorem jt_ {F:Fm} {n:Nat} (By:GX n g gx) (Az:outs.Nodup) {tcT:TT} {teT:TE} (htc:∀ σ H Q,tXc F tc σ H Q→tcT σ H Q) (hte:∀ σ H Q,tX F te σ H Q→teT σ H Q) {σ:St} {H':Hp} {Q:VK} {Qx:Sv→En→Prop} {ρ':En} {fr row:List Rw} {ds:List Dx} {J:It}
  (k:∀ v s H' ρ',EOk F ρ' σ ((.v s,some v) :: fr) H'→Qx s ρ'→Q v H') (E':EOk F ρ' σ (row ++ fr) H') (hJ:ItX F J row ds) (q:ds.length≤1000000∧dX n gx tc te (fun Ad cs=>Qx (.ol Ad) (back outs cs ρ')) ds (iP outs ρ') []) :
  ∃ W:Nat→Nat→List V→Hp→Prop,(∃ m,W 0 m [] H')∧∀ i m Ad H,W i m Ad H →
  (J.stop i H∧Ad.length≤sizeLine∧∀ l,H l=none→Q (.ref l) (upd H l (.lst Ad))) ∨
  (J.go i H∧Ad.length < sizeLine∧∃ N:List V→Hp→Prop,(∀ acc' H',N acc' H'→∃ m',m' < m∧W (i + 1) m' acc' H')∧∀ x H',J.yld i H x H'→g x (kG n outs σ) H' fun σ2 H2=>tcT σ2 H2 fun b H3 =>
   if b=true then teT σ2 H3 fun y H4=>N (Ad ++ [y]) H4 else N Ad H3):=by
 obtain ⟨hd,q⟩:=q
 have zl:=jG
 refine ⟨fun i m Ad H=>m=ds.length - i∧i≤ds.length∧∃ cs accD,cs.length=outs.length∧accD.length=Ad.length∧Ad.length≤i∧Rep F (cs.zip (lB σ outs) ++ (nH accD Ad ++ (row ++ ((cut outs ρ').zip σ ++ fr)))) H ∧
  dX n gx tc te (fun Ad cs=>Qx (.ol Ad) (back outs cs ρ')) (ds.drop i) cs accD,⟨ds.length,by simp,cK _,iP outs ρ',[],by simp [iP],rfl,aV _,?_,by simpa using q⟩,?_⟩
 ·have R:=u7 (outs:=outs) Az E'.len E'.rep
  refine R.perm (List.Perm.append_left _ ?_)
  exact sw
 rintro i m Ad H3 ⟨rfl,hi,cs,accD,Iq,K3,hai,R,hq⟩
 have Dm:Rep F (row ++ (cs.zip (lB σ outs) ++ (nH accD Ad ++ ((cut outs ρ').zip σ ++ fr)))) H3:=by
  exact R.perm ((List.Perm.append_left _ sw).trans sw)
 by_cases Br:i < ds.length
 ·right
  have J3:ds[i]? = some ds[i]:=aA Br
  rw [List.drop_eq_getElem_cons Br] at hq
  refine ⟨hJ.go _ _ i _ Dm J3,by omega,fun acc' H4 => ∃ m',m' < ds.length - i∧(m'=ds.length - (i + 1)∧i + 1≤ds.length∧∃ cs accD,cs.length=outs.length∧accD.length=acc'.length∧acc'.length≤i + 1∧Rep F (cs.zip (lB σ outs) ++ (nH accD acc' ++ (row ++ ((cut outs ρ').zip σ ++ fr)))) H4 ∧
   dX n gx tc te (fun Ad cs=>Qx (.ol Ad) (back outs cs ρ')) (ds.drop (i + 1)) cs accD),fun acc' H4 h=>h,fun x H4 hy => ?_⟩
  have R4:=hJ.yld _ _ i _ x H4 Dm J3 hy
  have K7:∀ (cs:List Sl),cs.length=outs.length→(List.replicate n Sl.un ++ cs).zip (kG n outs σ)=List.replicate n (Sl.un,none) ++ cs.zip (lB σ outs):=fun cs Dp=>by
   unfold kG
   rw [List.zip_append (by rw [aL,aL]),List.zip_replicate]
   simp
  have Ei:EOk F (List.replicate n .un ++ cs) (kG n outs σ) ((vT ds[i],some x) :: (nH accD Ad ++ (row ++ ((cut outs ρ').zip σ ++ fr)))) H4:=by
   refine ⟨by rw [pC,aC,aL,Iq],?_⟩
   rw [K7 cs Iq,bD]
   refine Rep.addUs (R4.perm ?_) n
   exact ((sw.trans (List.Perm.append_left _ sw)).cons _).trans nG.symm
  have A5:∀ {ρ3:En} {σ2:St} {H5:Hp} {accD':List Dx} {acc':List V},σ2.length=(kG n outs σ).length→(∀ j,n≤j→σ2[j]? = (kG n outs σ)[j]?)→EOk F ρ3 σ2 (nH accD' acc' ++ (row ++ ((cut outs ρ').zip σ ++ fr))) H5→accD'.length=acc'.length→acc'.length≤i + 1 →
    dX n gx tc te (fun Ad cs=>Qx (.ol Ad) (back outs cs ρ')) (ds.drop (i + 1)) (ρ3.drop n) accD' →
    ∃ m',m' < ds.length - i∧(m'=ds.length - (i + 1)∧i + 1≤ds.length∧∃ cs accD,cs.length=outs.length∧accD.length=acc'.length∧acc'.length≤i + 1∧Rep F (cs.zip (lB σ outs) ++ (nH accD acc' ++ (row ++ ((cut outs ρ').zip σ ++ fr)))) H5 ∧
     dX n gx tc te (fun Ad cs=>Qx (.ol Ad) (back outs cs ρ')) (ds.drop (i + 1)) cs accD):=fun {ρ3 σ2 H5 accD' acc'} Ch C2 E3 h1 h2 h3=>by
   have hl3:ρ3.length=n + outs.length:=by rw [E3.len,Ch,pC]
   refine ⟨ds.length - (i + 1),by omega,rfl,Br,ρ3.drop n,accD',by rw [iG,hl3]; omega,h1,h2,?_,h3⟩
   have hv:σ2.drop n=lB σ outs:=by
    apply fJ
    intro j
    rw [List.getElem?_drop,C2 _ (Nat.le_add_right n j)]
    unfold kG
    rw [aY (by rw [aL]; omega),aL,eL]
   have hz:ρ3.zip σ2=(ρ3.take n).zip (σ2.take n) ++ (ρ3.drop n).zip (σ2.drop n):=by
    rw [← List.zip_append (by rw [bT,bT,E3.len]),List.take_append_drop,List.take_append_drop]
   have R5:=E3.rep
   rw [hz,hv,bD] at R5
   exact Rep.drops R5
  refine By F _ _ _ H4 _ x _ _ Ei hq fun σ2 H5 ρ1 E1 Ch C2 q1=>htc _ _ _ ⟨ρ1,_,_,E1,q1,fun b H6 ρ2 E2 q2 => ?_⟩
  cases b with
  | false=>exact A5 Ch C2 E2 K3 (by omega) q2
  | true =>
   refine hte _ _ _ ⟨ρ2,_,_,E2,q2,fun y s H7 ρ3 E3 q3 => ?_⟩
   refine A5 (accD':=accD ++ [s.d]) (acc':=Ad ++ [y]) Ch C2 ⟨E3.len,?_⟩ (by rw [aC,aC,K3]; rfl) (by rw [aC]; show Ad.length + 1≤_; omega) q3
   have R7:=(EOk.front E3).frz
   have he:nH (accD ++ [s.d]) (Ad ++ [y])=nH accD Ad ++ [(vT s.d,some y)]:=by
    unfold nH
    rw [List.zip_append K3,cU]
    rfl
   rw [he,bD]
   exact R7.perm (nG.symm.trans (List.Perm.append_left _ nG.symm))
 ·left
  have L6:i=ds.length:=by omega
  subst L6
  rw [List.drop_length] at hq
  refine ⟨hJ.stop _ _ _ Dm (aV _),by omega,fun l hl => ?_⟩
  have R1:=R.perm (sw.trans (List.Perm.append_left _ sw))
  obtain ⟨R2,ha⟩:=R1.accs K3
  have R3:Rep F (row ++ ((.v (.ol accD),some (.ref l)) :: (cs.zip (lB σ outs) ++ ((cut outs ρ').zip σ ++ fr)))) (upd H3 l (.lst Ad)):=(R2.newL hl ha).perm nG.symm
  have R4:Rep F (cs.zip (lB σ outs) ++ ((cut outs ρ').zip σ ++ ((.v (.ol accD),some (.ref l)) :: fr))) (upd H3 l (.lst Ad)):=R3.drops.perm (nG.symm.trans (List.Perm.append_left _ nG.symm))
  have Mj:∀ {js:List Nat} {cs:List Sl} {ρ:En},(back js cs ρ).length=ρ.length:=by
   intro js
   induction js with
   | nil=>intro cs ρ; cases cs <;> rfl
   | cons j js ih=>intro cs ρ; cases cs with
    | nil=>rfl
    | cons c cs=>exact (ih (cs:=cs) (ρ:=ρ.set j c)).trans bB
  exact k _ (.ol accD) _ (back outs cs ρ') ⟨Mj.trans E'.len,aFo Az E'.len Iq R4⟩ hq
theorem uK {F:Fm} {n:Nat} (By:GX n g gx) (Az:outs.Nodup):∀ σ H Q,tX F (iR n outs ti gx tc te) σ H Q→oX n outs (tXi F ti) g (tXc F tc) (tX F te) σ H Q:=by
 rintro σ H Q ⟨ρ,fr,Qx,E,t,k⟩
 exact ⟨ρ,fr,_,E,t,fun J H' ρ' row ds E' hJ q=>jt_ By Az (fun _ _ _ z=>z) (fun _ _ _ z=>z) k E' hJ q⟩
end
end Lf
namespace L2
open PySem
theorem PS.weak {X:Cx} {e:Stmt} {t u:TS} (h:PS X e t) (w:∀ D σ H,u D σ H→t D σ H):PS X e u:=fun Aa s σ H D I q=>h Aa s σ H D I (w D σ H q)
theorem PSs.weak {X:Cx} {e:List Stmt} {t u:TS} (h:PSs X e t) (w:∀ D σ H,u D σ H→t D σ H):PSs X e u:=fun Aa s σ H D I q=>h Aa s σ H D I (w D σ H q)
end L2
namespace Lf
open PySem L2
theorem rW {dsc scope:Scope} {tgs N' N:List Str} {outs:List Nat} {tg iter elt:Expr} {ifs:List Expr} {pos:Pos} {ti:XI} {g:TG} {gx:XG} {tc:XC} {te:XT} (S:CompScope dsc scope N tgs outs N') (hi:XIt X Ex tg iter ti) (hg:∀ cl C s H ex,PG (dA X N' scope cl C s H ex) tg g) (By:GX tgs.length g gx) (Dy:Tgt tgs.length g)
  (Dp:∀ cl C s H ex,XCs (dA X N' scope cl C s H ex) dU ifs tc) (he:∀ cl C s H ex,XE (dA X N' scope cl C s H ex) dU elt te) (Az:outs.Nodup:=by decide) (Fo:X.N=N:=by rfl) (Cs:X.env.scope=dsc:=by rfl) (hc:X.calm=true:=by rfl) (hs:∀ x,foldedSetIterable iter X.env x=pure x:=by intro _; rfl) :
  XE X Ex (.ListComp elt [⟨tg,iter,ifs,0⟩] scope pos) (iR tgs.length outs ti gx tc te):=fun F =>
 (vB S (hi F) hg Dy (fun a b c d e=>Dp a b c d e F) (fun a b c d e=>he a b c d e F) Fo Cs hc hs).weak (uK By Az)
structure XD where
 nx:En→Prop
 rt:Sv→En→Prop
 bk:En→Prop
 ct:En→Prop
abbrev XS:=En→XD→Prop
structure DOk (F:Fm) (n:Nat) (fr:List Rw) (D:Ends) (d:XD):Prop where
 nx:∀ σ' H' ρ',σ'.length=n→EOk F ρ' σ' fr H'→d.nx ρ'→D.nx σ' H'
 rt:∀ v s σ' H' ρ',σ'.length=n→EOk F ρ' σ' ((.v s,some v) :: fr) H'→d.rt s ρ'→D.rt v H'
 bk:∀ σ' H' ρ',σ'.length=n→EOk F ρ' σ' fr H'→d.bk ρ'→D.bk σ' H'
 ct:∀ σ' H' ρ',σ'.length=n→EOk F ρ' σ' fr H'→d.ct ρ'→D.ct σ' H'
def tXS (F:Fm) (G:XS):TS:=fun D σ H => ∃ ρ fr d,EOk F ρ σ fr H∧G ρ d∧DOk F σ.length fr D d
def XSt (X:Cx) (Ex:ExT) (st:Stmt) (G:XS):Prop := ∀ F,[OkF X Ex F]→PS X st (tXS F G)
def XSs (X:Cx) (Ex:ExT) (st:List Stmt) (G:XS):Prop := ∀ F,[OkF X Ex F]→PSs X st (tXS F G)
def fM:XS:=fun ρ D=>D.nx ρ
def cV (G K:XS):XS:=fun ρ D=>G ρ { D with nx:=fun ρ'=>K ρ' D }
def eU (i:Nat) (t:XT):XS:=fun ρ D=>t ρ fun s ρ'=>D.nx (ρ'.set i (.v s))
def aVl (t:XT) (gx:XG):XS:=fun ρ D=>t ρ fun s ρ'=>gx s.d ρ' D.nx
def aPl (t:XT):XS:=fun ρ D=>t ρ fun _ ρ'=>D.nx ρ'
def iW (t:XT):XS:=fun ρ D=>t ρ fun s ρ'=>D.rt s ρ'
def xIf (c:XC) (G K:XS):XS:=fun ρ D=>c ρ fun b ρ'=>if b=true then G ρ' D else K ρ' D
def iJ (gx:XG) (G:XS) (D:XD):List Dx→En→Prop
 | [],ρ=>D.nx ρ
 | d :: ds,ρ=>gx d ρ fun ρ1=>G ρ1 { D with nx:=iJ gx G D ds,ct:=iJ gx G D ds,bk:=D.nx }
def lA (ti:XI) (gx:XG) (G:XS):XS:=fun ρ D=>ti ρ fun ds ρ'=>iJ gx G D ds ρ'
section
variable {st:Stmt} {rest:List Stmt} {G K:XS} {e c tg iter:Expr} {t:XT} {tc:XC} {pos:Pos} {i:Nat}
theorem jE:XSs X Ex [] fM:=fun F=>(aKp (X:=X)).weak fun D σ H=>by
 rintro ⟨ρ,fr,d,E,q,k⟩
 exact k.nx σ H ρ rfl E q
theorem dO (h:XSt X Ex st G) (h':XSs X Ex rest K):XSs X Ex (st :: rest) (cV G K):=fun F=>(aFr (h F) (h' F)).weak fun D σ H=>by
 rintro ⟨ρ,fr,d,E,q,k⟩
 exact ⟨ρ,fr,_,E,q,⟨fun σ' H' ρ' hl E' q'=>⟨ρ',fr,d,E',q',by rw [hl]; exact k⟩,k.rt,k.bk,k.ct⟩⟩
theorem eF (h:XSt X Ex st G):XSs X Ex [st] G:=fun F=>u8 (h F)
theorem ag_ (h:∀ F,[OkF X Ex F]→PS X st (xU (tX F t) (kX i))):XSt X Ex st (eU i t):=fun F=>(h F).weak fun D σ H=>by
 rintro ⟨ρ,fr,d,E,q,k⟩
 exact ⟨ρ,fr,_,E,q,fun v s H' ρ' E' q'=>k.nx _ H' _ bB (ho_ E') q'⟩
theorem p8 {n:Nat} {g:TG} {gx:XG} (By:GX n g gx) (h:∀ F,[OkF X Ex F]→PS X st (xU (tX F t) g)):XSt X Ex st (aVl t gx):=fun F=>(h F).weak fun D σ H=>by
 rintro ⟨ρ,fr,d,E,q,k⟩
 exact ⟨ρ,fr,_,E,q,fun v s H' ρ' E' q'=>By F ρ' σ fr H' s.d v _ _ (EOk.back E'.len E'.front.frz) q' fun σ' H2 ρ2 E2 hl _ q2=>k.nx σ' H2 ρ2 hl E2 q2⟩
theorem uB (he:XE X Ex e t) (hs:swapsWith e none pos.line X.env=pure false:=by rfl):XSt X Ex (.Expr e pos) (aPl t):=fun F=>(gd_ (he F) hs).weak fun D σ H=>by
 rintro ⟨ρ,fr,d,E,q,k⟩
 exact ⟨ρ,fr,_,E,q,fun v s H' ρ' E' q'=>k.nx σ H' ρ' rfl E'.drop q'⟩
theorem gD (he:XE X Ex e t):XSt X Ex (.Return (some e) pos) (iW t):=fun F=>(aQg (he F)).weak fun D σ H=>by
 rintro ⟨ρ,fr,d,E,q,k⟩
 exact ⟨ρ,fr,_,E,q,fun v s H' ρ' E' q'=>k.rt v s σ H' ρ' rfl E' q'⟩
theorem iE {a b:List Stmt} (hc:XTe X Ex c tc) (ha:XSs X Ex a G) (hb:XSs X Ex b K):XSt X Ex (.If c a b pos) (xIf tc G K):=fun F=>(aWd (hc F) (ha F) (hb F)).weak fun D σ H=>by
 rintro ⟨ρ,fr,d,E,q,k⟩
 refine ⟨ρ,fr,_,E,q,fun b H' ρ' E' q' => ?_⟩
 cases b with
 | true=>exact ⟨ρ',fr,d,E',q',k⟩
 | false=>exact ⟨ρ',fr,d,E',q',k⟩
theorem qG {F:Fm} {n:Nat} {g:TG} {gx:XG} (By:GX n g gx) {tb:TS} (htb:∀ D σ H,tXS F G D σ H→tb D σ H) {D:Ends} {d:XD} {σ:St} {H':Hp} {ρ':En} {fr row:List Rw} {ds:List Dx} {J:It} (k:DOk F σ.length fr D d) (E':EOk F ρ' σ (row ++ fr) H') (hJ:ItX F J row ds) (q':iJ gx G d ds ρ') :
  ∃ W:Nat→Nat→St→Hp→Prop,(∃ m,W 0 m σ H')∧∀ i m σ H,W i m σ H →
  (J.stop i H∧D.nx σ H)∨(J.go i H∧∃ N:St→Hp→Prop,(∀ σ' H',N σ' H'→∃ m',m' < m∧W (i + 1) m' σ' H')∧∀ x H',J.yld i H x H'→g x σ H' fun σ2 H2=>tb { D with nx:=N,ct:=N,bk:=D.nx } σ2 H2):=by
 refine ⟨fun i m σ1 H1=>m=ds.length - i∧i≤ds.length∧σ1.length=σ.length∧∃ ρ1,EOk F ρ1 σ1 (row ++ fr) H1∧iJ gx G d (ds.drop i) ρ1,⟨ds.length,by simp,cK _,rfl,ρ',E',by simpa using q'⟩,?_⟩
 rintro i m σ1 H1 ⟨rfl,hi,hl,ρ1,E1,q1⟩
 have Dm:Rep F (row ++ (ρ1.zip σ1 ++ fr)) H1:=E1.rep.perm sw
 by_cases Br:i < ds.length
 ·right
  have J3:ds[i]? = some ds[i]:=aA Br
  rw [List.drop_eq_getElem_cons Br] at q1
  refine ⟨hJ.go _ _ i _ Dm J3,fun σ2 H2 => ∃ m',m' < ds.length - i∧(m'=ds.length - (i + 1)∧i + 1≤ds.length∧σ2.length=σ.length∧∃ ρ1,EOk F ρ1 σ2 (row ++ fr) H2∧iJ gx G d (ds.drop (i + 1)) ρ1),fun _ _ h=>h,fun x H2 hy => ?_⟩
  have R2:=hJ.yld _ _ i _ x H2 Dm J3 hy
  have E2:EOk F ρ1 σ1 ((vT ds[i],some x) :: (row ++ fr)) H2:=⟨E1.len,R2.perm ((sw.cons _).trans nG.symm)⟩
  refine By F ρ1 σ1 _ H2 _ x _ _ E2 q1 fun σ2 H3 ρ2 E3 Ch _ q2 => ?_
  have nxt:∀ σ' H' ρ',σ'.length=σ2.length→EOk F ρ' σ' (row ++ fr) H'→iJ gx G d (ds.drop (i + 1)) ρ'→∃ m',m' < ds.length - i∧(m'=ds.length - (i + 1)∧i + 1≤ds.length∧σ'.length=σ.length∧∃ ρ1,EOk F ρ1 σ' (row ++ fr) H'∧iJ gx G d (ds.drop (i + 1)) ρ1):=fun σ' H' ρ' h1 h2 h3 =>
   ⟨ds.length - (i + 1),by omega,rfl,Br,by rw [h1,Ch,hl],ρ',h2,h3⟩
  have ends:∀ {σ':St} {H':Hp} {ρ':En} {N3:List Rw},EOk F ρ' σ' (row ++ N3) H'→EOk F ρ' σ' N3 H':=fun h=>⟨h.len,Rep.drops (A:=row) (h.rep.perm sw)⟩
  refine htb _ _ _ ⟨ρ2,row ++ fr,_,E3,q2,⟨nxt,fun v s σ' H' ρ' h1 h2 h3=>k.rt v s σ' H' ρ' (by rw [h1,Ch,hl]) ?_ h3,fun σ' H' ρ' h1 h2 h3=>k.nx σ' H' ρ' (by rw [h1,Ch,hl]) (ends h2) h3,nxt⟩⟩
  exact ends ⟨h2.len,h2.rep.perm (List.Perm.append_left _ nG.symm)⟩
 ·left
  have L6:i=ds.length:=by omega
  subst L6
  rw [List.drop_length] at q1
  exact ⟨hJ.stop _ _ _ Dm (aV _),k.nx σ1 H1 ρ1 hl ⟨E1.len,Rep.drops (A:=row) Dm⟩ q1⟩
theorem aPr {F:Fm} {ti:XI} {n:Nat} {g:TG} {gx:XG} (By:GX n g gx):∀ D σ H,tXS F (lA ti gx G) D σ H→aKg (tXi F ti) g (tXS F G) D σ H:=by
 rintro D σ H ⟨ρ,fr,d,E,q,k⟩
 exact ⟨ρ,fr,_,E,q,fun J H' ρ' row ds E' hJ q'=>qG By (fun _ _ _ z=>z) k E' hJ q'⟩
theorem wM {body:List Stmt} {ti:XI} {n:Nat} {g:TG} {gx:XG} (hp:PassesOwn (model X.prog X.w) X.A X.env X.xe) (hc:X.calm=true) (hi:XIt X Ex tg iter ti) (hg:PG X tg g) (By:GX n g gx) (hb:XSs X Ex body G) (hs:∀ x,foldedSetIterable iter X.env x=pure x:=by intro _; rfl):XSt X Ex (.For tg iter body [] pos) (lA ti gx G):=fun F =>
 (i4 hp hc (hi F) hg (hb F) hs).weak (aPr By)
theorem qL (h:∀ F,[OkF X Ex F]→PS X st (tXS F G)):XSt X Ex st G:=h
end
section
variable {F:Fm} {ρ:En} {σ:St} {fr:List Rw} {H:Hp} {i:Nat}
theorem ft_ {l:List Dx} {f:List Dx→Sl} (E:EOk F ρ σ fr H) (h:(ρ[i]?).bind kK=some (l,f)):∃ p ws,σ[i]? = some (some (.ref p))∧H p=some (.lst ws)∧All2 (IsX (hid (cD (ρ.zip σ ++ fr)) (F.vis H))) l ws ∧
  ∀ l' ws',All2 (IsX (hid (cD (ρ.zip σ ++ fr)) (F.vis H))) l' ws'→EOk F (ρ.set i (f l')) σ fr (upd H p (.lst ws')):=by
 obtain ⟨sl,h3,h4⟩:=fH.mp h
 obtain ⟨v,hv,hi,R⟩:=di_ E h3
 obtain ⟨p,ws,rfl,h5,h6,h7,h8⟩:=pQ h4 R
 have hO:(cD (ρ.zip σ ++ fr)).Perm (cD ((sl,some (V.ref p)) :: ((ρ.zip σ).eraseIdx i ++ fr))):=((fo_ h3 hv).append_right fr).flatMap_right _
 rw [mY h6] at hO
 refine ⟨p,ws,hv,h5,h7.imp fun _ _ z=>z.to (oH fun a ha=>hO.mem_iff.mp ha),fun l' ws' Gn => ?_⟩
 obtain ⟨k1,k2,k3⟩:=h8 l'
 exact nZ E.len hi hv (R.put h6 k1 k2 (k3 cX (Gn.imp fun _ _ z=>(z.to (oH fun a ha=>hO.mem_iff.mpr ha)).to wB)))
theorem zP {l:List (Key×Dx)} (E:EOk F ρ σ fr H) (h:ρ[i]? = some (.v (.od l))):∃ p ws,σ[i]? = some (some (.ref p))∧H p=some (.dK ws)∧All2 (KvX (hid (cD (ρ.zip σ ++ fr)) (F.vis H))) l ws ∧
  ∀ l' ws',All2 (KvX (hid (cD (ρ.zip σ ++ fr)) (F.vis H))) l' ws'→EOk F (ρ.set i (.v (.od l'))) σ fr (upd H p (.dK ws')):=by
 obtain ⟨v,hv,hi,R⟩:=di_ E h
 obtain ⟨p,ws,rfl,h5,h7⟩:=R.atD
 have hO:(cD (ρ.zip σ ++ fr)).Perm (cD ((.v (.od l),some (V.ref p)) :: ((ρ.zip σ).eraseIdx i ++ fr))):=((fo_ h hv).append_right fr).flatMap_right _
 rw [mY (a:=p) rfl] at hO
 refine ⟨p,ws,hv,h5,h7.imp fun _ _ z=>z.to (oH fun a ha=>hO.mem_iff.mp ha),fun l' ws' Gn => ?_⟩
 exact nZ E.len hi hv (R.putD (Gn.imp fun _ _ z=>z.to (oH fun a ha=>hO.mem_iff.mpr ha)))
theorem v9 {l:List Dx} {f:List Dx→Sl} (E:EOk F ρ σ fr H) (h:(ρ[i]?).bind kK=some (l,f)):∃ p ws,σ[i]? = some (some (.ref p))∧H p=some (.lst ws):=by
 obtain ⟨p,ws,h1,h2,_⟩:=ft_ E h
 exact ⟨p,ws,h1,h2⟩
end
def aBc (i:Nat) (t:XT):XS:=fun ρ D=>((ρ[i]?).bind kK).isSome=true∧t ρ fun s ρ'=>match (ρ'[i]?).bind kK with
 | some (l,f)=>l.length < 1000000∧D.nx (ρ'.set i (f (l ++ [s.d])))
 | none=>False
def bCo (i:Nat) (t:XT):XS:=fun ρ D=>((ρ[i]?).bind kK).isSome=true∧t ρ fun s ρ'=>match (ρ'[i]?).bind kK,s.d with
 | some (l,f),.lst m=>l.length + m.length≤1000000∧D.nx (ρ'.set i (f (l ++ m)))
 | _,_=>False
def sJ (i:Nat) (ti te:XT):XS:=fun ρ D=>te ρ fun s ρ1=>((ρ1[i]?).bind kK).isSome=true∧ti ρ1 fun k ρ2=>match (ρ2[i]?).bind kK,k.d with
 | some (l,f),.int j=>(match ixN l.length j with | some n=>D.nx (ρ2.set i (f (l.set n s.d))) | none=>False)
 | _,_=>False
def yD (l:List (Key×Dx)) (k:Key) (d:Dx):List (Key×Dx):=if (l.any fun kv=>decide (kv.1=k))=true then l.map (fun kv=>if kv.1=k then (kv.1,d) else kv) else l ++ [(k,d)]
def p_ (i:Nat) (tk tv:XT):XS:=fun ρ D=>tv ρ fun s ρ1=>(∃ l,ρ1[i]? = some (.v (.od l)))∧tk ρ1 fun k ρ2=>match ρ2[i]?,yN k.d with
 | some (.v (.od l)),some key=>l.length < 1000000∧D.nx (ρ2.set i (.v (.od (yD l key s.d))))
 | _,_=>False
theorem aFn {G:Hp} {l:List (Key×Dx)} {ws:List (Key×V)} {k:Key} {d:Dx} {v:V} (h:All2 (KvX G) l ws) (hd:IsX G d v):All2 (KvX G) (yD l k d) (mJ ws k v):=by
 have any:∀ {l:List (Key×Dx)} {ws:List (Key×V)},All2 (KvX G) l ws→(l.any fun kv=>decide (kv.1=k))=(ws.any fun kv=>decide (kv.1=k)):=by
  intro l
  induction l with
  | nil=>intro ws h; rw [show ws=[] from h]; rfl
  | cons p l ih =>
   intro ws h
   obtain ⟨w,wr,rfl,⟨h1,_⟩,h3⟩:=h
   rw [fB,fB,ih h3,h1]
 have mp:∀ {l:List (Key×Dx)} {ws:List (Key×V)},All2 (KvX G) l ws→All2 (KvX G) (l.map fun kv=>if kv.1=k then (kv.1,d) else kv) (ws.map fun kv=>if kv.1=k then (kv.1,v) else kv):=by
  intro l
  induction l with
  | nil=>intro ws h; rw [show ws=[] from h]; rfl
  | cons p l ih =>
   intro ws h
   obtain ⟨w,wr,rfl,⟨h1,h2⟩,h3⟩:=h
   refine ⟨_,_,rfl,?_,ih h3⟩
   by_cases e:p.1=k
   ·show KvX G (if p.1=k then (p.1,d) else p) (if w.1=k then (w.1,v) else w)
    rw [if_pos e,if_pos (h1 ▸ e)]; exact ⟨h1,hd⟩
   ·show KvX G (if p.1=k then (p.1,d) else p) (if w.1=k then (w.1,v) else w)
    rw [if_neg e,if_neg (h1 ▸ e)]; exact ⟨h1,h2⟩
 unfold yD mJ
 rw [any h]
 split
 ·exact mp h
 ·exact h.snoc ⟨rfl,hd⟩
section
variable {st:Stmt} {i:Nat} {t ti te tk tv:XT} {F:Fm} {K:eE}
theorem mE:∀ D σ H,tXS F (aBc i t) D σ H→aOb (tBM K "list" u6 (iH i) (lQ (tX F t) f_)) D σ H:=by
 rintro D σ H ⟨ρ,fr,d,E,⟨q0,q⟩,k⟩
 obtain ⟨⟨l0,f0⟩,h0⟩:=dQ.mp q0
 obtain ⟨p,ws,hv,hp⟩:=v9 E h0
 refine ⟨.ref p,hv,.inl ⟨rfl,ws,SqL.of hp⟩,ρ,fr,_,E,q,fun y s H' ρ' E' q' => ?_⟩
 split at q'
 ·rename_i l f hb
  obtain ⟨R,hx⟩:=E'.one
  obtain ⟨p',ws',Bn,Fi,hl,Fv⟩:=ft_ E'.drop hb
  rw [hv] at Bn
  cases Bn
  exact ⟨p,ws',y,rfl,rfl,Fi,by rw [hl.len]; have:=jG; omega,k.nx σ _ _ rfl (Fv _ _ (hl.snoc hx)) q'.2⟩
 ·exact q'.elim
theorem hf_:∀ D σ H,tXS F (sJ i ti te) D σ H→xU (tX F te) (aXu (iH i) (tX F ti) aOh) D σ H:=by
 rintro D σ H ⟨ρ,fr,d,E,q,k⟩
 refine ⟨ρ,fr,_,E,q,fun y s H' ρ' E' q' => ?_⟩
 obtain ⟨q0,q'⟩:=q'
 obtain ⟨⟨l0,f0⟩,h0⟩:=dQ.mp q0
 obtain ⟨p,ws,hv,hp⟩:=v9 E' h0
 refine ⟨.ref p,hv,ρ',_,_,E',q',fun z s2 H2 ρ2 E2 q2 => ?_⟩
 split at q2
 ·rename_i l f j hb hj
  obtain ⟨R,Jg,D7⟩:=E2.two
  rw [hj] at D7
  cases D7.int_eq
  obtain ⟨p',ws',Bn,Fi,hl,Fv⟩:=ft_ (E2.drop.drop) hb
  rw [hv] at Bn
  cases Bn
  split at q2
  ·rename_i n hn
   exact ⟨p,ws',j,n,rfl,rfl,Fi,by rw [hl.len]; exact hn,k.nx σ _ _ rfl (Fv _ _ (hl.set Jg n)) q2⟩
  ·exact q2.elim
 ·exact q2.elim
theorem nM:∀ D σ H,tXS F (p_ i tk tv) D σ H→aOe (iH i) (tX F tk) (tX F tv) D σ H:=by
 rintro D σ H ⟨ρ,fr,d,E,q,k⟩
 refine ⟨ρ,fr,_,E,q,fun y s H' ρ' E' q' => ?_⟩
 obtain ⟨⟨l0,h0⟩,q'⟩:=q'
 obtain ⟨p,ws,hv,hp,_⟩:=zP E' h0
 refine ⟨.ref p,hv,ρ',_,_,E',q',fun z s2 H2 ρ2 E2 q2 => ?_⟩
 split at q2
 ·rename_i l key hb hk
  obtain ⟨R,Jg,D7⟩:=E2.two
  obtain ⟨p',ws',Bn,Fi,hl,Fv⟩:=zP (E2.drop.drop) hb
  rw [hv] at Bn
  cases Bn
  cases vU D7 hk
  exact ⟨p,_,rfl,DPut.k Fi (by rw [hl.len]; have:=jG; omega),k.nx σ _ _ rfl (Fv _ _ (aFn hl Jg)) q2.2⟩
 ·exact q2.elim
end
def aDx (c:XC) (G:XS):XS:=fun ρ D => ∃ W:Nat→En→Prop,(∃ m,W m ρ)∧∀ m ρ,W m ρ→c ρ fun b ρ1=>if b=true then ∃ N:En→Prop,(∀ ρ',N ρ'→∃ m',m' < m∧W m' ρ')∧G ρ1 { D with nx:=N,ct:=N,bk:=D.nx } else D.nx ρ1
theorem aDr {c:Expr} {body:List Stmt} {pos:Pos} {tc:XC} {G:XS} (hp:PassesOwn (model X.prog X.w) X.A X.env X.xe) (hc:XTe X Ex c tc) (hb:XSs X Ex body G):XSt X Ex (.While c body [] pos) (aDx tc G):=fun F=>(aFs hp (hc F) (hb F)).weak fun D σ H=>by
 rintro ⟨ρ,fr,d,E,⟨W,⟨m0,w0⟩,turn⟩,k⟩
 refine ⟨fun m σ1 H1=>σ1.length=σ.length∧∃ ρ1,EOk F ρ1 σ1 fr H1∧W m ρ1,⟨m0,rfl,ρ,E,w0⟩,?_⟩
 rintro m σ1 H1 ⟨hl,ρ1,E1,w1⟩
 refine ⟨ρ1,fr,_,E1,turn m ρ1 w1,fun b H2 ρ2 E2 q2 => ?_⟩
 cases b with
 | false=>exact k.nx σ1 H2 ρ2 hl E2 q2
 | true =>
  obtain ⟨N,hN,q2⟩:=q2
  have nxt:∀ σ' H' ρ',σ'.length=σ1.length→EOk F ρ' σ' fr H'→N ρ'→∃ m',m' < m∧σ'.length=σ.length∧∃ ρ1,EOk F ρ1 σ' fr H'∧W m' ρ1:=fun σ' H' ρ' h1 h2 h3=>by
   obtain ⟨m',h4,h5⟩:=hN ρ' h3
   exact ⟨m',h4,by rw [h1,hl],ρ',h2,h5⟩
  exact ⟨fun σ' H' => ∃ m',m' < m∧σ'.length=σ.length∧∃ ρ1,EOk F ρ1 σ' fr H'∧W m' ρ1,fun σ' H' h=>h,ρ2,fr,_,E2,q2,⟨nxt,fun v s σ' H' ρ' h1 h2 h3=>k.rt v s σ' H' ρ' (by rw [h1,hl]) h2 h3,fun σ' H' ρ' h1 h2 h3=>k.nx σ' H' ρ' (by rw [h1,hl]) h2 h3,nxt⟩⟩
def fA (N:List Str) (ds:List Dx):En:=ds.map (fun d=>.v (.tr d)) ++ List.replicate (N.length - ds.length) .un
abbrev aKl (Q:Sv→Prop):XD:=⟨fun _=>Q (.tr .non),fun s _=>Q s,fun _=>False,fun _=>False⟩
theorem ih_ {F:Fm} {H:Hp} (R0:Rep F [] H) {m:Nat}:∀ {ds:List Dx} {vs:List V},All2 (IsX (F.vis H)) ds vs→Rep F ((ds.map (fun d=>Sl.v (.tr d)) ++ List.replicate m Sl.un).zip (vs.map some ++ List.replicate m none)) H
 | [],_,h=>by
  rw [show _=[] from h]
  simp only [bP,aZ]
  rw [List.zip_replicate,Nat.min_self]
  have:=R0.addUs m
  simpa using this
 | d :: ds,_,⟨v,vr,e,h1,h2⟩=>by
  subst e
  have R:=ih_ (m:=m) R0 h2
  simp only [aP,bU,cG]
  refine R.add (h1.to fun b o hb=>bQ.mpr ⟨fun z => ?_,hb⟩)
  obtain ⟨r,hr,hb⟩:=List.mem_flatMap.mp z
  have:∀ {ds:List Dx} {vs:List (Option V)} {r:Rw},r∈((ds.map (fun d=>Sl.v (.tr d)) ++ List.replicate m Sl.un).zip vs)→jT r=[]:=by
   intro ds vs r hr
   obtain ⟨a,b⟩:=r
   have:=(List.of_mem_zip hr).1
   rcases bA.mp this with h | h
   ·obtain ⟨d,_,rfl⟩:=cP.mp h; rfl
   ·rw [(List.mem_replicate.mp h).2]; rfl
  rw [this hr] at hb
  cases hb
theorem uR {H Hs:Hp} {sub:Same Hs H} {nb:∀ b∈([]:List Addr),Hs b=none} {ib:∀ b∈([]:List Addr),∃ o,H b=some o} {P:List Rw} {H':Hp} {s:Sv} {v:V} (R:Rep ⟨H,Hs,[],sub,nb,ib⟩ ((.v s,some v) :: P) H'):Same H H'∧aAv Hs H H' s v:=by
 refine ⟨fun b o h=>R.kp b o h (by simp),?_⟩
 match s with
 | .tr d =>
  obtain ⟨v',e,h⟩:=R.atT
  cases e
  exact h.to z9
 | .ol l =>
  obtain ⟨a,vs,e,h1,h2⟩:=R.atL
  cases e
  exact ⟨a,vs,rfl,R.fr _ aB a (aO.mpr rfl),h1,h2.imp fun _ _ z=>z.to (oH fun c hc=>by rw [aO.mp hc]; exact aB)⟩
 | .od l =>
  obtain ⟨a,vs,e,h1,h2⟩:=R.atD
  cases e
  exact ⟨a,vs,rfl,R.fr _ aB a (aO.mpr rfl),h1,h2.imp fun _ _ z=>z.to (oH fun c hc=>by rw [aO.mp hc]; exact aB)⟩
 | .ow o =>
  have hn:=R.nd
  rw [cn_] at hn
  obtain ⟨x,e,h⟩:=R.ok _ aB
  cases e
  refine ⟨(gJ.mp hn).1,fun a ha=>R.fr _ aB a ha,OwOk.mono (.of (oH fun c hc => ?_)) o v (fun _ _=>rfl) h⟩
  rw [cn_]
  exact bJ _ hc
theorem lU {x:Str} {st:Stmt} {f:Addr} {fd:FuncData} {N ps:List Str} {k:Nat} {g:GC} (Fn:Fun K x x st f fd) (S:FnScope N ps (aQ st)) (Aj:∀ ds Q,g ds Q→ds.length=ps.length) (hN:ps.length≤N.length)
  (B1:∀ (Ak:Value) (A:Around) (outer:List Env) (s:Shared) (H:Hp) (E:XK),Room k (A.deeper (PyProof.Rows.envOfC x (aQ st) s.heap.objs.size f Ak)) →
   ∃ G,XSs (lM CX0 P w K mg base N x (aQ st) f Ak A outer s H E).nox dU (hU st) G∧∀ ds Q,g ds Q→G (fA N ds) (aKl Q)):FnOk P w K mg base CX0 (k + 1) f fd ps (spX g):=by
 refine Fn.ok S (fun vs H Q E h => ?_) (fun Ak A outer s H vs Q E hr h => ?_)
 ·obtain ⟨Hs,ds,Qx,h1,h2,h3,_⟩:=h
  rw [h2.len]
  exact Aj ds Qx h3
 obtain ⟨Hs,ds,Qx,h1,h2,h3,h4⟩:=h
 obtain ⟨G,hG,hq⟩:=B1 Ak A outer s H E hr
 have hl:=Aj ds Qx h3
 refine ⟨_,hG ⟨H,Hs,[],h1,by simp,by simp⟩,fA N ds,[],aKl Qx,⟨?_,?_⟩,hq ds Qx h3,⟨fun σ' H' ρ' _ E' q => ?_,fun v s σ' H' ρ' _ E' q => ?_,fun _ _ _ _ _ q=>q.elim,fun _ _ _ _ _ q=>q.elim⟩⟩
 ·unfold fA L2.start
  simp only [aC,aE,aL]
  rw [h2.len]
 ·rw [bZ]
  have hv:(Fm.vis ⟨H,Hs,[],h1,by simp,by simp⟩ H)=ext Hs H H:=rfl
  have R0:Rep ⟨H,Hs,[],h1,by simp,by simp⟩ [] H:=⟨List.nodup_nil,fun r hr=>by simp at hr,fun r hr=>by simp at hr,fun b o h _=>h,fun b hb=>by simp at hb⟩
  unfold fA L2.start
  rw [h2.len]
  refine ih_ R0 (h2.imp fun _ _ z=>z.to fun b o hb => ?_)
  cases q:H b with
  | none=>rw [h1 _ _ hb] at q; cases q
  | some u=>exact (rT q).trans hb
 ·have R:=E'.rep.add (d:=.non) (v:=.non) IsX.of_non
  obtain ⟨e1,e2⟩:=uR R
  exact h4 _ _ _ e1 e2 q
 ·obtain ⟨e1,e2⟩:=uR E'.front
  exact h4 _ _ _ e1 e2 q
end Lf
namespace L2
open PySem
def aOa (t:TE):TE:=fun σ H Q => ∃ a kvs,H a=some (.dK kvs)∧∀ o,t σ (upd H a (.frz o (.dK kvs))) fun v H'=>H' a=some (.frz o (.dK kvs))∧Q v (upd H' a (.dK kvs))
theorem aKx {X:Cx} {e:Expr} {t:TE} (h:PE X e t):PE X e (aOa t):=by
 intro Aa s σ H Q I ⟨a,kvs,ha,q⟩
 exact aQp h Aa s σ H Q I ⟨a,kvs,ha,fun o v z=>(by have:=I.base.frzs a o v z; rw [ha] at this; cases this),q⟩
def aOd (t:TS):TS:=fun D σ H => ∃ a kvs,H a=some (.dK kvs)∧∀ o,
 t ⟨fun σ' H'=>H' a=some (.frz o (.dK kvs))∧D.nx σ' (upd H' a (.dK kvs)),fun v H'=>H' a=some (.frz o (.dK kvs))∧D.rt v (upd H' a (.dK kvs)),fun σ' H'=>H' a=some (.frz o (.dK kvs))∧D.bk σ' (upd H' a (.dK kvs)),fun σ' H'=>H' a=some (.frz o (.dK kvs))∧D.ct σ' (upd H' a (.dK kvs))⟩ σ (upd H a (.frz o (.dK kvs)))
theorem aKq {X:Cx} {st:Stmt} {t:TS} (h:PS X st t):PS X st (aOd t):=by
 intro Aa s σ H D I ⟨a,kvs,ha,q⟩
 exact aQh h Aa s σ H D I ⟨a,kvs,ha,fun o v z=>(by have:=I.base.frzs a o v z; rw [ha] at this; cases this),q⟩
theorem PS.or {X:Cx} {st:Stmt} {t u:TS} (h:PS X st t) (h':PS X st u):PS X st (fun D σ H=>t D σ H∨u D σ H):=fun Aa s σ H D I q=>q.elim (h Aa s σ H D I) (h' Aa s σ H D I)
end L2
namespace Lf
open PySem L2
section
variable {F:Fm} {P:List Rw} {H H':Hp} {a:Addr} {kvs:List (Key×V)} {o:Obj}
theorem nem {b a:Addr} {B:List Addr} (h:b∈B) (h':a∉B):b≠a:=fun z=>h' (by rw [← z]; exact h)
def Fm.fz (F:Fm) (a:Addr) (o:Obj) (kvs:List (Key×V)) (ha:a∉F.B):Fm where
 H0:=upd F.H0 a (.frz o (.dK kvs))
 Hs:=upd F.Hs a (.frz o (.dK kvs))
 B:=F.B
 sub:=fun b u h=>by
  by_cases e:b=a
  ·subst e; rw [cX] at h ⊢; exact h
  ·rw [gA e] at h ⊢; exact F.sub _ _ h
 nb:=fun b hb=>by rw [gA (nem hb ha)]; exact F.nb b hb
 ib:=fun b hb=>by rw [gA (nem hb ha)]; exact F.ib b hb
theorem aNz (h:F.vis H a=some (.dK kvs)):a∉F.B:=fun hB=>by
 obtain ⟨u,hu⟩:=F.ib a hB
 have:=(rT hu).symm.trans h
 rw [F.nb a hB] at this
 cases this
theorem aEi {F:Fm} {ha:a∉F.B} {b:Addr} {H H':Hp} (hb:b≠a) (e:H' b=H b):(F.fz a o kvs ha).vis H' b=F.vis H b:=by
 have e1:(F.fz a o kvs ha).H0 b=F.H0 b:=gA hb
 have e2:(F.fz a o kvs ha).Hs b=F.Hs b:=gA hb
 show ext _ _ _ b=ext _ _ _ b
 unfold ext
 rw [e1,e2,e]
theorem Rep.fzD (R:Rep F P H) (hv:F.vis H a=some (.dK kvs)) (Az:a∉cD P) (ha:a∉F.B):Rep (F.fz a o kvs ha) P (upd H a (.frz o (.dK kvs))):=by
 refine ⟨R.nd,fun r hr=>(R.ok r hr).mono (fun b u hb => ?_) fun b hb=>gA fun z=>Az (z ▸ dz_ hr hb),fun r hr b hb => ?_,fun b u h1 h2 => ?_,fun b hb => ?_⟩
 ·have Av:=bQ.mp hb
  by_cases e:b=a
  ·subst e
   rw [hv] at Av
   cases Av.2
   refine .inr ⟨o,kvs,.inl ⟨rfl,bQ.mpr ⟨Av.1,?_⟩⟩⟩
   exact (rT (show (F.fz b o kvs ha).H0 b=some (.frz o (.dK kvs)) from cX)).trans cX
  ·exact .inl (bQ.mpr ⟨Av.1,by rw [aEi e (gA e)]; exact Av.2⟩)
 ·have J9:b≠a:=fun z=>Az (z ▸ dz_ hr hb)
  have:=R.fr r hr b hb
  unfold FrOk at this ⊢
  split at this <;> simp_all [Fm.fz,gA]
 ·by_cases e:b=a
  ·subst e
   have:some (HO.frz o (.dK kvs))=some u:=cX.symm.trans h1
   rw [cX]; exact this
  ·rw [gA e]
   exact R.kp b u ((gA e).symm.trans h1) h2
 ·obtain ⟨u,hu⟩:=R.lv b hb
  exact ⟨u,by rw [gA (nem hb ha)]; exact hu⟩
theorem Rep.thD {ha:a∉F.B} (R:Rep (F.fz a o kvs ha) P H) (hv:F.H0 a=none∨(F.H0 a=some (.dK kvs)∧F.Hs a=some (.dK kvs))):H a=some (.frz o (.dK kvs))∧Rep F P (upd H a (.dK kvs)):=by
 have hk:H a=some (.frz o (.dK kvs)):=R.kp a _ cX ha
 have Az:a∉cD P:=fun z=>by
  obtain ⟨r,hr,e⟩:=List.mem_flatMap.mp z
  have:=R.fr r hr a e
  rcases this.or with this | this
  ·exact ha this
  ·have h2:some (HO.frz o (.dK kvs))=none:=cX.symm.trans this
   cases h2
 refine ⟨hk,R.nd,fun r hr=>(R.ok r hr).mono (fun b u hb => ?_) fun b hb=>gA fun z=>Az (z ▸ dz_ hr hb),fun r hr b hb => ?_,fun b u h1 h2 => ?_,fun b hb => ?_⟩
 ·have Av:=bQ.mp hb
  by_cases e:b=a
  ·subst e
   have hu:(F.fz b o kvs ha).vis H b=some (.frz o (.dK kvs)):=(rT (show (F.fz b o kvs ha).H0 b=some (.frz o (.dK kvs)) from cX)).trans cX
   rw [hu] at Av
   cases Av.2
   refine .inr ⟨o,kvs,.inr ⟨rfl,bQ.mpr ⟨Av.1,?_⟩⟩⟩
   rcases hv with q | ⟨q1,q2⟩
   ·exact (rS q).trans (by rw [cX]; rfl)
   ·exact (rT q1).trans q2
  ·exact .inl (bQ.mpr ⟨Av.1,by rw [← aEi (F:=F) (o:=o) (kvs:=kvs) (ha:=ha) e (gA (o:=.dK kvs) e).symm]; exact Av.2⟩)
 ·have J9:b≠a:=fun z=>Az (z ▸ dz_ hr hb)
  have:=R.fr r hr b hb
  unfold FrOk at this ⊢
  split at this <;> simp_all [Fm.fz,gA]
 ·by_cases e:b=a
  ·subst e
   rcases hv with q | ⟨q1,q2⟩
   ·rw [q] at h1; cases h1
   ·rw [q1] at h1; rw [cX]; exact h1
  ·rw [gA e]
   exact R.kp b u ((gA e).trans h1) h2
 ·obtain ⟨u,hu⟩:=R.lv b hb
  exact ⟨u,by rw [gA (nem hb ha)]; exact hu⟩
end
def sC:Key→Dx
 | .inl i=>.int i
 | .inr x=>.str x
theorem aMc {H:Hp} (k:Key):IsX H (sC k) (kV k):=by cases k <;> simp only [sC,kV,IsX]
def jU (l:List (Key×Dx)):List Dx:=l.map fun p=>sC p.1
theorem jl_ {l:List (Key×Dx)}:(jU l).length=l.length:=aE _
theorem ik_ {F:Fm} {a:Addr} {o:Obj} {kvs:List (Key×V)} {l:List (Key×Dx)} {G:Hp} (h:∀ P H,Rep F P H→H a=some (.frz o (.dK kvs))) (hl:All2 (KvX G) l kvs):ItX F (Itd a o kvs) [] (jU l) where
 go:=fun P H i d R hd=>⟨h _ _ R,by have:=(aF.mp hd).1; rw [jl_] at this; rw [hl.len]; exact this⟩
 stop:=fun P H i R hi=>⟨h _ _ R,by rw [jl_] at hi; rw [hl.len]; exact hi⟩
 yld:=fun P H i d x H' R hd q=>by
  obtain ⟨rfl,kv,q1,rfl⟩:=q
  obtain ⟨p,h1,h2⟩:=hl.get q1
  unfold jU at hd
  rw [bG,h1] at hd
  cases hd
  show Rep F ((Sl.v (Sv.tr (sC p.1)),some (kV kv.1)) :: ([] ++ P)) H'
  rw [h2.1]
  exact R.add (aMc _)
def aEq (G:XS):TS:=fun D σ H => ∃ F,tXS F G D σ H
def tXe (t:XT):TE:=fun σ H Q => ∃ F,tX F t σ H Q
def aEp (t:XC):TT:=fun σ H Q => ∃ F,tXc F t σ H Q
theorem XSs.ex {X:Cx} {st:List Stmt} {G:XS} (h:XSs X dU st G):PSs X st (aEq G):=fun Aa s σ H D I ⟨F,q⟩=>h F Aa s σ H D I q
theorem XE.ex {X:Cx} {e:Expr} {t:XT} (h:XE X dU e t):PE X e (tXe t):=fun Aa s σ H D I ⟨F,q⟩=>h F Aa s σ H D I q
theorem XCs.ex {X:Cx} {e:List Expr} {t:XC} (h:XCs X dU e t):PCs X e (aEp t):=fun Aa s σ H D I ⟨F,q⟩=>h F Aa s σ H D I q
def aDz (i:Nat) (gx:XG) (G:XS):XS:=fun ρ D=>match ρ[i]? with
 | some (.v s)=>(match s.d with | .dic l=>iJ gx G D (jU l) (ρ.set i (.v (.tr s.d))) | _=>False)
 | _=>False
def d7 (i n:Nat) (outs:List Nat) (gx:XG) (tc:XC) (te:XT):XT:=fun ρ Q=>match ρ[i]? with
 | some (.v s)=>(match s.d with | .dic l=>l.length≤1000000∧dX n gx tc te (fun Ad cs=>Q (.ol Ad) (back outs cs (ρ.set i (.v (.tr s.d))))) (jU l) (iP outs (ρ.set i (.v (.tr s.d)))) [] | _=>False)
 | _=>False
theorem sQ {F:Fm} {ρ:En} {σ:St} {fr:List Rw} {H:Hp} {i:Nat} {s:Sv} {l:List (Key×Dx)} (E:EOk F ρ σ fr H) (h:ρ[i]? = some (.v s)) (hs:s.d=.dic l) :
  ∃ a ws,σ[i]? = some (some (.ref a))∧EOk F (ρ.set i (vT s.d)) σ fr H∧Rd (hid (cD ((ρ.set i (vT s.d)).zip σ ++ fr)) (F.vis H)) a (.dK ws)∧All2 (KvX (hid (cD ((ρ.set i (vT s.d)).zip σ ++ fr)) (F.vis H))) l ws:=by
 obtain ⟨v,hv,hi,R⟩:=di_ E h
 have R2:=R.frz
 have E2:=nZ E.len hi hv R2
 obtain ⟨w,e,hx⟩:=R2.atT
 subst e
 rw [hs] at hx
 have hO:(cD ((ρ.set i (vT s.d)).zip σ ++ fr)).Perm (cD ((vT s.d,some w) :: ((ρ.zip σ).eraseIdx i ++ fr))):=((dg_ E.len hi hv).append_right fr).flatMap_right _
 rw [dl_ rfl] at hO
 have D7:=hx.to (oH fun a ha=>hO.mem_iff.mp ha)
 obtain ⟨a,ws,rfl,h1,h2⟩:=D7.dic_eq
 exact ⟨a,ws,hv,E2,h1,h2⟩
theorem aEh {F:Fm} {P:List Rw} {H:Hp} {a:Addr} {kvs:List (Key×V)} (R:Rep F P H) (h:F.vis H a=some (.dK kvs)):F.H0 a=none∨(F.H0 a=some (.dK kvs)∧F.Hs a=some (.dK kvs)):=by
 cases q:F.H0 a with
 | none=>exact .inl rfl
 | some u =>
  have h1:F.Hs a=some (.dK kvs):=(rT q).symm.trans h
  have h2:=F.sub _ _ h1
  rw [q] at h2
  exact .inr ⟨h2,h1⟩
theorem aAf {F:Fm} {H:Hp} {a:Addr} {o:Obj} {kvs:List (Key×V)} (h:F.vis H a=some (.frz o (.dK kvs))):∀ P H,Rep F P H→H a=some (.frz o (.dK kvs)):=fun P H2 R=>by
 cases q:F.H0 a with
 | none =>
  have h1:=(rS q).symm.trans h
  rw [nR h1] at h1
  cases h1
 | some u =>
  have h1:F.Hs a=some (.frz o (.dK kvs)):=(rT q).symm.trans h
  exact R.kp a _ (F.sub _ _ h1) fun hB=>by rw [F.nb a hB] at h1; cases h1
section
variable {st:Stmt} {i n:Nat} {g:TG} {gx:XG} {G:XS} {outs:List Nat} {tc:XC} {te:XT}
theorem aTf (By:GX n g gx) {F:Fm}:∀ D σ H,tXS F (aDz i gx G) D σ H→aKg (yS (iH i)) g (aEq G) D σ H∨aOd (aKg (yS (iH i)) g (aEq G)) D σ H:=by
 rintro D σ H ⟨ρ,fr,d,E,q,k⟩
 unfold aDz at q
 split at q
 ·rename_i s hs
  split at q
  ·rename_i l hl
   obtain ⟨a,ws,hv,E2,hr,hk⟩:=sQ E hs hl
   rw [hl] at E2 hr hk
   rw [← hl] at E2
   rcases hr with hr | ⟨o,hr⟩
   ·have Bg:=bQ.mp hr
    have hB:=aNz Bg.2
    have Ik:=aEh E2.rep Bg.2
    refine .inr ⟨a,ws,E2.rep.vis _ _ Bg.2,fun o=>⟨.ref a,hv,a,o,ws,rfl,cX,?_⟩⟩
    have E3:EOk (F.fz a o ws hB) (ρ.set i (vT s.d)) σ ([] ++ fr) (upd H a (.frz o (.dK ws))):=⟨E2.len,E2.rep.fzD Bg.2 (by rw [hl]; exact Bg.1) hB⟩
    refine qG (F:=F.fz a o ws hB) By (tb:=aEq G) (fun _ _ _ z=>⟨_,z⟩) (d:=d) ⟨fun σ' H' ρ' h1 h2 h3 => ?_,fun v s σ' H' ρ' h1 h2 h3 => ?_,fun σ' H' ρ' h1 h2 h3 => ?_,fun σ' H' ρ' h1 h2 h3 => ?_⟩ E3 (ik_ (fun P H R=>R.kp a _ cX hB) hk) q
    ·obtain ⟨e1,e2⟩:=h2.rep.thD Ik; exact ⟨e1,k.nx σ' _ ρ' h1 ⟨h2.len,e2⟩ h3⟩
    ·obtain ⟨e1,e2⟩:=h2.rep.thD Ik; exact ⟨e1,k.rt v s σ' _ ρ' h1 ⟨h2.len,e2⟩ h3⟩
    ·obtain ⟨e1,e2⟩:=h2.rep.thD Ik; exact ⟨e1,k.bk σ' _ ρ' h1 ⟨h2.len,e2⟩ h3⟩
    ·obtain ⟨e1,e2⟩:=h2.rep.thD Ik; exact ⟨e1,k.ct σ' _ ρ' h1 ⟨h2.len,e2⟩ h3⟩
   ·have Bg:=bQ.mp hr
    refine .inl ⟨.ref a,hv,a,o,ws,rfl,E2.rep.vis _ _ Bg.2,?_⟩
    exact qG (F:=F) By (tb:=aEq G) (fun _ _ _ z=>⟨_,z⟩) k (row:=[]) E2 (ik_ (aAf Bg.2) hk) q
  ·exact q.elim
 ·exact q.elim
theorem aNg (By:GX n g gx) (Az:outs.Nodup) {F:Fm}:∀ σ H Q,tX F (d7 i n outs gx tc te) σ H Q→oX n outs (yS (iH i)) g (aEp tc) (tXe te) σ H Q∨aOa (oX n outs (yS (iH i)) g (aEp tc) (tXe te)) σ H Q:=by
 rintro σ H Q ⟨ρ,fr,Qx,E,q,k⟩
 unfold d7 at q
 split at q
 ·rename_i s hs
  split at q
  ·rename_i l hl
   obtain ⟨a,ws,hv,E2,hr,hk⟩:=sQ E hs hl
   rw [hl] at E2 hr hk
   rw [← hl] at E2
   have q':(jU l).length≤1000000∧_:=⟨by rw [jl_]; exact q.1,q.2⟩
   rcases hr with hr | ⟨o,hr⟩
   ·have Bg:=bQ.mp hr
    have hB:=aNz Bg.2
    have Ik:=aEh E2.rep Bg.2
    refine .inr ⟨a,ws,E2.rep.vis _ _ Bg.2,fun o=>⟨.ref a,hv,a,o,ws,rfl,cX,?_⟩⟩
    have E3:EOk (F.fz a o ws hB) (ρ.set i (vT s.d)) σ ([] ++ fr) (upd H a (.frz o (.dK ws))):=⟨E2.len,E2.rep.fzD Bg.2 (by rw [hl]; exact Bg.1) hB⟩
    refine jt_ (F:=F.fz a o ws hB) (Q:=fun v H'=>H' a=some (.frz o (.dK ws))∧Q v (upd H' a (.dK ws))) (tcT:=aEp tc) (teT:=tXe te) By Az (fun _ _ _ z=>⟨_,z⟩) (fun _ _ _ z=>⟨_,z⟩) (fun v s H' ρ' h2 h3 => ?_) E3 (ik_ (fun P H R=>R.kp a _ cX hB) hk) q'
    obtain ⟨e1,e2⟩:=h2.rep.thD Ik
    exact ⟨e1,k v s _ ρ' ⟨h2.len,e2⟩ h3⟩
   ·have Bg:=bQ.mp hr
    refine .inl ⟨.ref a,hv,a,o,ws,rfl,E2.rep.vis _ _ Bg.2,?_⟩
    exact jt_ (F:=F) (Q:=Q) (tcT:=aEp tc) (teT:=tXe te) By Az (fun _ _ _ z=>⟨_,z⟩) (fun _ _ _ z=>⟨_,z⟩) k (row:=[]) E2 (ik_ (aAf Bg.2) hk) q'
  ·exact q.elim
 ·exact q.elim
theorem aJv {x:Str} {px pos:Pos} {tg:Expr} {body:List Stmt} (hp:PassesOwn (model X.prog X.w) X.A X.env X.xe) (hc:X.calm=true) (hv:PE X (.Name x px) (iH i)) (hg:PG X tg g) (By:GX n g gx) (hb:XSs X dU body G) (hs:∀ y,foldedSetIterable (.Name x px) X.env y=pure y:=by intro _; rfl):XSt X Ex (.For tg (.Name x px) body [] pos) (aDz i gx G):=fun F =>
 (PS.or (i4 hp hc (nP hv) hg hb.ex hs) (aKq (i4 hp hc (nP hv) hg hb.ex hs))).weak (aTf By)
theorem xM {dsc scope:Scope} {tgs N' N:List Str} {x:Str} {px pos:Pos} {tg elt:Expr} {ifs:List Expr} (S:CompScope dsc scope N tgs outs N') (hv:PE X (.Name x px) (iH i)) (hg:∀ cl C s H ex,PG (dA X N' scope cl C s H ex) tg g) (By:GX tgs.length g gx) (Dy:Tgt tgs.length g)
  (Dp:∀ cl C s H ex,XCs (dA X N' scope cl C s H ex) dU ifs tc) (he:∀ cl C s H ex,XE (dA X N' scope cl C s H ex) dU elt te) (Az:outs.Nodup:=by decide) (Fo:X.N=N:=by rfl) (Cs:X.env.scope=dsc:=by rfl) (hc:X.calm=true:=by rfl) (hs:∀ y,foldedSetIterable (.Name x px) X.env y=pure y:=by intro _; rfl) :
  XE X Ex (.ListComp elt [⟨tg,.Name x px,ifs,0⟩] scope pos) (d7 i tgs.length outs gx tc te):=fun F =>
 (PE.or (vB S (nP hv) hg Dy (fun a b c d e=>(Dp a b c d e).ex) (fun a b c d e=>(he a b c d e).ex) Fo Cs hc hs) (aKx (vB S (nP hv) hg Dy (fun a b c d e=>(Dp a b c d e).ex) (fun a b c d e=>(he a b c d e).ex) Fo Cs hc hs))).weak (aNg By Az)
end
theorem aDb {X:Cx} (n m:Ty):CallR X (.builtin "isinstance") (fun xs H Q => ∃ x d p,xs=[x,.ref p]∧IsX H d x∧pL d∧H p=some (.tup [.ty n.nm,.ty m.nm])∧Q (.bl (isT n d || isT m d)) H):=by
 intro Aa s σ H xs us Q I r h
 obtain ⟨x,d,p,rfl,hx,Db,hp,q⟩:=h
 have e:PySem.W.kitAny X.K (.type (tyN d)) ([n.nm,m.nm].map Value.type)=some (isT n d || isT m d):=aHj (vR Db) (vR Db)
 have gen:∀ {t:Value},TyOf X.K H x t→t=.type (tyN d)→wpAny (model X.prog X.w) X.A (call (.builtin "isinstance") us) (EP X Aa σ Q) X.xe s:=fun ty et =>
  wR Aa s σ H _ us Q I r ⟨x,p,_,_,[n.nm,m.nm],rfl,ty,hp,by rw [et]; exact e,q⟩
 cases d with
 | non=>cases hx.non_eq; exact gen .non rfl
 | bl _=>cases hx.bl_eq; exact gen (.bl _) rfl
 | int _=>cases hx.int_eq; exact gen (.int _) rfl
 | str _=>cases hx.str_eq; exact gen (.str _) rfl
 | tup _=>obtain ⟨a,vs,rfl,h1,_⟩:=hx.tup_eq; exact gen (.tup h1) rfl
 | lst _=>obtain ⟨a,vs,rfl,h1,_⟩:=hx.lst_eq; exact gen (.lst h1) rfl
 | dic _ =>
  obtain ⟨a,vs,rfl,h1,_⟩:=hx.dic_eq
  rcases h1 with h1 | ⟨ob,h1⟩
  ·exact gen (.dK h1) rfl
  ·obtain ⟨u,w',rfl,r1,r2⟩:=oU r
   cases r2
   obtain ⟨_,its,rv,o,h2,h3,n',h4⟩:=(show ObjOk X.prog X.w H s.heap p (.tup ([n.nm,m.nm].map V.ty)) from I.hok p _ hp)
   have ei:=e_ rv
   subst ei
   obtain ⟨cls,dd,data,sl⟩:=o
   dsimp only at h3 h4
   subst h3 h4
   have A5:∀ tk,EP X Aa σ Q (.bool (isT n (.dic _) || isT m (.dic _))) { s with toks:=tk }:=fun tk=>⟨.bl _,H,I.tok _,rfl,q⟩
   cases (show u=Value.ref a from r1)
   obtain ⟨_,_,_,_,_,pp⟩:=(show ObjOk X.prog X.w H s.heap a (.frz ob (.dK vs)) from I.hok a _ h1)
   obtain ⟨o,es,ep,g1,g2,_⟩:=pp
   exact PySem.W.kia_tup PySem.W.kitx_dict I.kIn ⟨o,g1,g2.1⟩ h2 e (fun z=>nomatch z) A5
 | scr _ _=>exact Db.elim
 | ins _ _=>exact Db.elim
 | exc _=>exact Db.elim
def bAm (n m:Ty) (t:XT):XT:=fun ρ Q=>t ρ fun s ρ'=>match s.d with
 | .scr _ _=>False
 | .ins _ _=>False
 | .exc _=>False
 | d=>Q (.tr (.bl (isT n d || isT m d))) ρ'
theorem oO {e:Expr} {t:XT} {nm Hf:Str} {p q q2 q3 pos:Pos} {j:Nat} (n m:Ty) (hm:X.mg "isinstance" = none) (h:XE X Ex e t) (hT:PE X (.Tuple [.Name nm q,.Name Hf q2] j q3) (aVn (lQ (tC (.ty n.nm)) (lQ (tC (.ty m.nm)) f_)))) (hg:Gl X "isinstance" := by rfl)
  (he:starEach [e,.Tuple [.Name nm q,.Name Hf q2] j q3] X.env=(false,eval e X.env) :: starEach [.Tuple [.Name nm q,.Name Hf q2] j q3] X.env:=by rfl) (F2:starEach [.Tuple [.Name nm q,.Name Hf q2] j q3] X.env=(false,eval (.Tuple [.Name nm q,.Name Hf q2] j q3) X.env) :: starEach [] X.env:=by rfl)
  (A9:(backTo pos (starEach [.Tuple [.Name nm q,.Name Hf q2] j q3] X.env)).any (·.1)=false:=by rfl):XE X Ex (.Call (.Name "isinstance" p) [e,.Tuple [.Name nm q,.Name Hf q2] j q3] [] pos) (bAm n m t):=fun F =>
 (gr_ (aDb n m) hg hm ds_ (lZ (h F) (lZ hT zM F2) he) (by decide) (by decide) he A9).weak fun σ H Q=>by
  rintro ⟨ρ,fr,Qx,E,t,k⟩
  refine ⟨ρ,fr,_,E,t,fun v s H' ρ' E' q=>⟨by have:=jG; show 2≤sizeLine; omega,fun p hp => ?_⟩⟩
  obtain ⟨R,hx⟩:=E'.one
  have e:Same H' (upd H' p (.tup [.ty n.nm,.ty m.nm])):=id_ hp _
  have R2:=R.grow e
  generalize hd:s.d=d at q hx
  cases d with
  | scr _ _=>exact q.elim
  | ins _ _=>exact q.elim
  | exc _=>exact q.elim
  | _=>exact ⟨v,_,p,rfl,(hx.to R.hv).to e,trivial,cX,k _ _ _ ρ' (EOk.back E'.len (R2.add (IsX.of_bl _))) q⟩
def d8 (g g':G2) (ta tb tc:XT):XT:=fun ρ Q=>ta ρ fun a ρ1=>tb ρ1 fun b ρ2=>g a.d b.d fun s=>match s with
 | .tr (.bl k)=>if k=true then tc ρ2 fun c ρ3=>g' b.d c.d fun s'=>Q s' ρ3 else Q (.tr (.bl false)) ρ2
 | _=>False
theorem xT {F:Fm} {r r':R2} {g g':G2} {ta tb tc:XT} (hx:OpX r g) (Ey:OpX r' g'):∀ σ H Q,tX F (d8 g g' ta tb tc) σ H Q→g7 r r' (tX F ta) (tX F tb) (tX F tc) σ H Q:=by
 rintro σ H Q ⟨ρ,fr,Qx,E,t,k⟩
 refine ⟨ρ,fr,_,E,t,fun v s H' ρ' E' t'=>⟨ρ',_,_,E',t',fun w s2 H2 ρ2 E2 t2 => ?_⟩⟩
 obtain ⟨R,h1,h2⟩:=E2.two
 have E2b:EOk F ρ2 σ ((.v s2,some w) :: fr) H2:=⟨E2.len,((E2.rep.perm (List.Perm.append_left _ (.swap _ _ _))).perm nG).tail.perm (.refl _)⟩
 have E2c:EOk F ρ2 σ ((vT s2.d,some w) :: fr) H2:=EOk.back E2.len (E2b.front.frz)
 obtain ⟨Rb,hb⟩:=E2c.one
 have h1b:IsX (hid (cD (ρ2.zip σ ++ (vT s2.d,some w) :: fr)) (F.vis H2)) s.d v:=h1.to (oH fun c hc=>by
  have:(cD ((vT s2.d,some w) :: (ρ2.zip σ ++ fr))).Perm (cD (ρ2.zip σ ++ (vT s2.d,some w) :: fr)):=nG.symm.flatMap_right _
  have:=this.mem_iff.mpr hc
  rw [dl_ rfl] at this
  exact this)
 have h2b:IsX (hid (cD (ρ2.zip σ ++ (vT s2.d,some w) :: fr)) (F.vis H2)) s2.d w:=hb.to (oH fun c hc=>by
  have:(cD ((vT s2.d,some w) :: (ρ2.zip σ ++ fr))).Perm (cD (ρ2.zip σ ++ (vT s2.d,some w) :: fr)):=nG.symm.flatMap_right _
  have:=this.mem_iff.mpr hc
  rw [dl_ rfl] at this
  exact this)
 refine hx F (ρ2.zip σ ++ (vT s2.d,some w) :: fr) H2 s.d s2.d v w _ _ E2c.rep h1b h2b t2 fun z s3 H3 R3 q => ?_
 split at q
 ·rename_i kb
  obtain ⟨z',e,hz⟩:=R3.atT
  cases e
  cases hz.bl_eq
  refine ⟨kb,rfl,?_⟩
  have E3:EOk F ρ2 σ ((vT s2.d,some w) :: fr) H3:=⟨E2.len,R3.tail⟩
  cases kb with
  | true =>
   refine ⟨ρ2,_,_,E3,q,fun u s4 H4 ρ4 E4 q4 => ?_⟩
   obtain ⟨R5,h5,h6⟩:=E4.two
   exact Ey F _ H4 s2.d s4.d w u Q (fun z=>Qx z ρ4) R5 h5 h6 q4 fun v' s' H' R' q=>k v' s' H' ρ4 (EOk.back E4.len R') q
  | false=>exact k _ _ H3 ρ2 (EOk.back E2.len (E3.drop.rep.add (IsX.of_bl _))) q
 ·exact q.elim
section
variable {a b c e:Expr} {pos:Pos} {r r':R2} {g g':G2} {ta tb tc te:XT} {op op':CmpOp}
theorem aDu (ho:OpR X (compareOp op) r) (hx:OpX r g) (D9:OpR X (compareOp op') r') (Ey:OpX r' g') (ha:XE X Ex a ta) (hb:XE X Ex b tb) (hc:XE X Ex c tc) (hm:lastMarks [op,op'] [b,c]=false:=by with_unfolding_all rfl):XE X Ex (.Compare a [op,op'] [b,c] pos) (d8 g g' ta tb tc):=fun F=>(aFy ho D9 (ha F) (hb F) (hc F) hm).weak (xT hx Ey)
theorem aDq (ho:OpR X (compareOp op) r) (hx:OpX r g) (D9:OpR X (compareOp op') r') (Ey:OpX r' g') (ha:XE X Ex a ta) (hb:XE X Ex b tb) (hc:XE X Ex c tc) (hm:lastMarks [op,op'] [b,c]=false:=by with_unfolding_all rfl):XTe X Ex (.Compare a [op,op'] [b,c] pos) (xB (d8 g g' ta tb tc)):=fun F=>(aFq ho D9 (ha F) (hb F) (hc F) hm).weak (he_ (xT hx Ey))
end
abbrev XO:=En→(Option Int→En→Prop)→Prop
def tXo (F:Fm) (t:XO):TO:=fun σ H Q => ∃ ρ fr Qx,EOk F ρ σ fr H∧t ρ Qx∧∀ b H' ρ',EOk F ρ' σ fr H'→Qx b ρ'→Q b H'
def XOp (X:Cx) (Ex:ExT) (e:Option Expr) (t:XO):Prop := ∀ F,[OkF X Ex F]→PO X e (tXo F t)
def xoN:XO:=fun ρ Q=>Q none ρ
def xoS (t:XT):XO:=fun ρ Q=>t ρ fun s ρ'=>match s.d with
 | .int i=>Q (some i) ρ'
 | _=>False
theorem dd_ {X:Cx} {Ex:ExT}:XOp X Ex none xoN:=fun F _ Aa s σ H Q I h=>by
 obtain ⟨ρ,fr,Qx,E,t,k⟩:=h
 exact aKt Aa s σ H Q I (k none H ρ E t)
theorem zX {e:Expr} {t:XT} (h:XE X Ex e t):XOp X Ex (some e) (xoS t):=fun F _ Aa s σ H Q I hq=>by
 refine aKs (h F) Aa s σ H Q I ?_
 obtain ⟨ρ,fr,Qx,E,t,k⟩:=hq
 refine ⟨ρ,fr,_,E,t,fun v s H' ρ' E' q => ?_⟩
 split at q
 ·rename_i i hi
  obtain ⟨R,hx⟩:=E'.one
  rw [hi] at hx
  cases hx.int_eq
  exact ⟨i,rfl,k (some i) H' ρ' E'.drop q⟩
 ·exact q.elim
def mS {α:Type} (xs:List α) (lo hi:Option Int):List α:=(xs.drop (HT.sIx xs.length 0 lo)).take (HT.sIx xs.length xs.length hi - HT.sIx xs.length 0 lo)
def slX (a:Dx) (lo hi:Option Int) (Q:Sv→Prop):Prop:=match a with
 | .lst l=>Q (.ol (mS l lo hi))
 | .str z=>z.length≤1000000∧Q (.tr (.str (Txt.slice z lo hi)))
 | _=>False
def xSl (t:XT) (lo hi:XO):XT:=fun ρ Q=>t ρ fun a ρ1=>lo ρ1 fun l ρ2=>hi ρ2 fun h ρ3=>slX a.d l h fun s=>Q s ρ3
theorem m_ {e:Expr} {lo hi:Option Expr} {p2 pos:Pos} {t:XT} {tl th:XO} (K:eE) (he:XE X Ex e t) (hl:XOp X Ex lo tl) (hh:XOp X Ex hi th) (h:X.K=K:=by rfl):XE X Ex (.Subscript e (.Slice lo hi none p2) pos) (xSl t tl th):=fun F =>
 (aFu (SlR.or (aEx K h) aPt) (he F) (hl F) (hh F)).weak fun σ H Q=>by
  rintro ⟨ρ,fr,Qx,E,t,k⟩
  refine ⟨ρ,fr,_,E,t,fun v s H' ρ' E' q=>⟨ρ',_,_,E',q,fun l H2 ρ2 E2 q2=>⟨ρ2,_,_,E2,q2,fun u H3 ρ3 E3 q3 => ?_⟩⟩⟩
  obtain ⟨R,hx⟩:=E3.one
  unfold slX at q3
  split at q3
  ·rename_i m hm
   rw [hm] at hx
   obtain ⟨a,vs,rfl,h1,h2⟩:=hx.lst_eq
   refine .inl ⟨a,vs,rfl,SqL.of (R.hv _ _ h1),fun p hp=>k _ _ _ ρ3 (EOk.back E3.len (R.newL hp ?_)) q3⟩
   unfold aIt mS
   rw [h2.len]
   exact (h2.drop _).take _
  ·rename_i z hz
   rw [hz] at hx
   cases hx.str_eq
   exact .inr ⟨z,rfl,by have:=jG; omega,k _ _ H3 ρ3 (EOk.back E3.len (R.add (IsX.of_str _))) q3.2⟩
  ·exact q3.elim
def aNu (t:XT):XT:=fun ρ Q=>t ρ fun s ρ'=>match s.d with
 | .lst l=>Q (.ol l.reverse) ρ'
 | _=>False
theorem aJy {e:Expr} {t:XT} {k:Nat} {p1 p2 p3 pos:Pos} (he:XE X Ex e t):XE X Ex (.Subscript e (.Slice none none (some (.UnaryOp .USub (.Constant (.int 1) k p1) p2)) p3) pos) (aNu t):=fun F=>(aKw (he F)).weak fun σ H Q=>by
 rintro ⟨ρ,fr,Qx,E,t,k⟩
 refine ⟨ρ,fr,_,E,t,fun v s H' ρ' E' q => ?_⟩
 split at q
 ·rename_i m hm
  obtain ⟨R,hx⟩:=E'.one
  rw [hm] at hx
  obtain ⟨a,vs,rfl,h1,h2⟩:=hx.lst_eq
  exact ⟨a,vs,rfl,SqL.of (R.hv _ _ h1),fun p hp=>k _ _ _ ρ' (EOk.back E'.len (R.newL hp h2.rev)) q⟩
 ·exact q.elim
theorem t9 {d:Dx} {v:V} (h:scV d=some v):lH v=true:=by
 cases d <;> simp only [scV,Option.some.injEq] at h <;> first | (subst h; rfl) | cases h
theorem aEz {G:Hp}:∀ {l:List Dx} {vs:List V},All2 (IsX G) l vs→(l.all fun d=>(scV d).isSome)=true→vs=l.filterMap scV∧vs.all lH=true
 | [],_,h,_=>by rw [show _=[] from h]; exact ⟨rfl,rfl⟩
 | d :: l,_,⟨v,vr,e,h1,h2⟩,h=>by
  rw [iS,cZ] at h
  obtain ⟨x,hx⟩:=dQ.mp h.1
  obtain ⟨e1,e2⟩:=aEz h2 h.2
  subst e
  have:=mG h1 hx
  subst this
  exact ⟨by rw [iO,hx,← e1],by rw [iS,t9 hx,e2]; rfl⟩
def aYs:GC
 | [.lst l],Q=>(∃ bs:List Bool,l=bs.map Dx.bl∧Q (.tr (.bl (bs.all id))))
 | _,_=>False
theorem aAs {G:Hp}:∀ {bs:List Bool} {vs:List V},All2 (IsX G) (bs.map Dx.bl) vs→vs=bs.map V.bl
 | [],_,h=>h
 | b :: bs,_,⟨v,vr,e,h1,h2⟩=>by rw [e,h1.bl_eq,aAs h2]; rfl
theorem qA {G:Hp}:∀ {bs:List Int} {vs:List V},All2 (IsX G) (bs.map Dx.int) vs→vs=bs.map V.int
 | [],_,h=>h
 | b :: bs,_,⟨v,vr,e,h1,h2⟩=>by rw [e,h1.int_eq,qA h2]; rfl
theorem aTr {K:eE}:jW (aFm K) aYs:=by
 intro F P H ds xs Q Qx R hs g k
 unfold aYs at g
 split at g
 ·obtain ⟨bs,rfl,g⟩:=g
  obtain ⟨x,rfl,hx⟩:=xA hs
  obtain ⟨a,vs,rfl,h1,h2⟩:=hx.lst_eq
  have:=aAs h2
  subst this
  exact ⟨a,bs,rfl,SqL.of (R.hv _ _ h1),k _ _ H (R.add (IsX.of_bl _)) g⟩
 ·exact g.elim
theorem aDe {X:Cx} (K:eE) (hc:X.calm=true) (h:X.K=K:=by rfl):CallR X (.builtin "all") (aFm K):=by subst h; exact aDd hc
def aGx:GC
 | [.int i,.int j],Q=>Q (.tr (.int (if j > i then j else i)))
 | _,_=>False
def aGw:GC
 | [.int i,.int j],Q=>Q (.tr (.int (if j < i then j else i)))
 | _,_=>False
theorem aNc:jW (fun xs H Q => ∃ i j,xs=[.int i,.int j]∧Q (.int (if j > i then j else i)) H) aGx:=by
 intro F P H ds xs Q Qx R hs g k
 unfold aGx at g
 split at g
 ·obtain ⟨x,y,rfl,hx,hy⟩:=o8 hs
  cases hx.int_eq; cases hy.int_eq
  exact ⟨_,_,rfl,k _ _ H (R.add (IsX.of_int _)) g⟩
 ·exact g.elim
theorem aNb:jW (fun xs H Q => ∃ i j,xs=[.int i,.int j]∧Q (.int (if j < i then j else i)) H) aGw:=by
 intro F P H ds xs Q Qx R hs g k
 unfold aGw at g
 split at g
 ·obtain ⟨x,y,rfl,hx,hy⟩:=o8 hs
  cases hx.int_eq; cases hy.int_eq
  exact ⟨_,_,rfl,k _ _ H (R.add (IsX.of_int _)) g⟩
 ·exact g.elim
def yL:GC
 | [.lst l],Q=>(∃ ns:List Int,l=ns.map Dx.int∧ns≠[]∧∀ M,M∈ns→(∀ a∈ns,a≤M)→Q (.tr (.int M)))
 | _,_=>False
theorem js_ {K:eE}:jW (aFj K) yL:=by
 intro F P H ds xs Q Qx R hs g k
 unfold yL at g
 split at g
 ·obtain ⟨bs,rfl,g1,g⟩:=g
  obtain ⟨x,rfl,hx⟩:=xA hs
  obtain ⟨a,vs,rfl,h1,h2⟩:=hx.lst_eq
  have:=qA h2
  subst this
  exact ⟨a,bs,rfl,SqL.of (R.hv _ _ h1),g1,fun M h3 h4=>k _ _ H (R.add (IsX.of_int _)) (g M h3 h4)⟩
 ·exact g.elim
theorem fn_ {X:Cx} (K:eE) (hc:X.calm=true) (h:X.K=K:=by rfl):CallR X (.builtin "max") (aFj K):=by subst h; exact aCx hc
theorem ix_ {F:Fm} {ti:XI} {n i:Nat} {g:TG} {gx:XG} {outs:List Nat} {tc:XC} {te:XT} (By:GX n g gx) (Az:outs.Nodup):∀ D σ H,tXS F (eU i (iR n outs ti gx tc te)) D σ H→xU (oX n outs (tXi F ti) g (tXc F tc) (tX F te)) (kX i) D σ H:=by
 rintro D σ H ⟨ρ,fr,d,E,q,k⟩
 exact uK By Az σ H _ ⟨ρ,fr,_,E,q,fun v s H' ρ' E' q'=>k.nx _ H' _ bB (ho_ E') q'⟩
def fV (N:List Str) (l:List Dx) (ds:List Dx):En:=.bw l :: (ds.map (fun d=>.v (.tr d)) ++ List.replicate (N.length - (ds.length + 1)) .un)
def fY (Q:Dx→List Dx→Prop) (d:Dx) (ρ:En):Prop:=match (ρ[0]? : Option Sl) with
 | some (Sl.bw l)=>Q d l
 | _=>False
abbrev mI (Q:Dx→List Dx→Prop):XD:=⟨fun ρ=>fY Q .non ρ,fun s ρ=>fY Q s.d ρ,fun _=>False,fun _=>False⟩
theorem aCm {x:Str} {st:Stmt} {f:Addr} {fd:FuncData} {N ps:List Str} {k:Nat} {g:GB} (Fn:Fun K x x st f fd) (S:FnScope N ps (aQ st)) (Aj:∀ l ds Q,g l ds Q→ds.length + 1=ps.length) (hN:ps.length≤N.length)
  (B1:∀ (Ak:Value) (A:Around) (outer:List Env) (s:Shared) (H:Hp) (E:XK),Room k (A.deeper (PyProof.Rows.envOfC x (aQ st) s.heap.objs.size f Ak)) →
   ∃ G,XSs (lM CX0 P w K mg base N x (aQ st) f Ak A outer s H E).nox dU (hU st) G∧∀ l ds Q,g l ds Q→G (fV N l ds) (mI Q)):FnOk P w K mg base CX0 (k + 1) f fd ps (spB g):=by
 refine Fn.ok S (fun vs H Q E h => ?_) (fun Ak A outer s H vs Q E hr h => ?_)
 ·obtain ⟨p,ws,l,vr,Hs,ds,Qx,rfl,_,_,_,_,h2,h3,_⟩:=h
  rw [aM,h2.len]
  exact Aj l ds Qx h3
 obtain ⟨p,ws,l,vr,Hs,ds,Qx,rfl,hp,h1,Fh,hl,h2,h3,h4⟩:=h
 obtain ⟨G,hG,hq⟩:=B1 Ak A outer s H E hr
 have Nj:=Aj l ds Qx h3
 have nb:∀ b∈[p],Hs b=none:=fun b hb=>by rw [aO.mp hb]; exact Fh
 have ib:∀ b∈[p],∃ o,H b=some o:=fun b hb=>by rw [aO.mp hb]; exact ⟨_,hp⟩
 have A5:∀ {d:Dx} {v:V} {σ':St} {H':Hp} {ρ':En},EOk ⟨H,Hs,[p],h1,nb,ib⟩ ρ' σ' ((vT d,some v) :: []) H'→fY Qx d ρ'→Q v H':=fun {d v σ' H' ρ'} E' q=>by
  unfold fY at q
  split at q
  ·rename_i l' h0
   obtain ⟨R,hx⟩:=E'.one
   obtain ⟨y,hy,hi,R2⟩:=di_ ⟨E'.len,R⟩ h0
   obtain ⟨a,ws',rfl,h5,h6⟩:=R2.atB
   have ha:a=p:=aO.mp (R2.fr _ aB a (aO.mpr rfl))
   subst ha
   refine h4 d v l' ws' H' (fun b o hb => ?_) h5 (h6.imp fun _ _ z=>z.to (oH fun c hc=>by rw [aO.mp hc]; exact aB)) (hx.to z9) q
   have Av:b≠a:=fun z=>by rw [z] at hb; unfold aMg at hb; rw [if_pos rfl] at hb; cases hb
   rw [wA Av] at hb ⊢
   exact R.kp b o hb fun z=>Av (aO.mp z)
  ·exact q.elim
 refine ⟨_,hG ⟨H,Hs,[p],h1,nb,ib⟩,fV N l ds,[],mI Qx,⟨?_,?_⟩,hq l ds Qx h3,⟨fun σ' H' ρ' _ E' q=>A5 (EOk.back E'.len (E'.rep.add (d:=.non) (v:=.non) IsX.of_non)) q,fun v s σ' H' ρ' _ E' q=>A5 (EOk.back E'.len E'.front.frz) q,fun _ _ _ _ _ q=>q.elim,fun _ _ _ _ _ q=>q.elim⟩⟩
 ·unfold fV L2.start
  simp only [aC,aE,aL,aM]
  rw [h2.len]
  omega
 ·have R0:Rep ⟨H,Hs,[p],h1,nb,ib⟩ [] H:=⟨List.nodup_nil,fun r hr=>by simp at hr,fun r hr=>by simp at hr,fun b o h _=>h,ib⟩
  have Jj:Same Hs (Fm.vis ⟨H,Hs,[p],h1,nb,ib⟩ H):=fun b o hb=>(rT (h1 _ _ hb)).trans hb
  have R1:=ih_ (m:=N.length - (ds.length + 1)) R0 (h2.imp fun _ _ z=>z.to Jj)
  have Jp:cD ((ds.map (fun d=>Sl.v (.tr d)) ++ List.replicate (N.length - (ds.length + 1)) Sl.un).zip (vr.map some ++ List.replicate (N.length - (ds.length + 1)) none))=[]:=by
   unfold cD
   refine List.flatMap_eq_nil_iff.mpr fun r hr => ?_
   obtain ⟨a,b⟩:=r
   rcases bA.mp (List.of_mem_zip hr).1 with h | h
   ·obtain ⟨d,_,rfl⟩:=cP.mp h; rfl
   ·rw [(List.mem_replicate.mp h).2]; rfl
  rw [bZ]
  have e:(fV N l ds).zip (L2.start N (.ref p :: vr))=(.bw l,some (.ref p)) :: (ds.map (fun d=>Sl.v (.tr d)) ++ List.replicate (N.length - (ds.length + 1)) Sl.un).zip (vr.map some ++ List.replicate (N.length - (ds.length + 1)) none):=by
   unfold fV L2.start
   rw [aP,bU,cG,aM,h2.len]
  rw [e]
  refine ⟨by rw [mY (a:=p) rfl,Jp]; simp,fun r hr => ?_,fun r hr a ha => ?_,R1.kp,R1.lv⟩
  ·rw [mY (a:=p) rfl,Jp]
   rcases aI.mp hr with rfl | hr
   ·refine ⟨p,ws,rfl,hp,hl.imp fun _ _ z=>z.to fun b o hb=>bQ.mpr ⟨fun z => ?_,Jj _ _ hb⟩⟩
    rw [aO.mp z,Fh] at hb; cases hb
   ·refine (R1.ok r hr).mono (.of fun b o hb => ?_) fun _ _=>rfl
    have Av:=bQ.mp hb
    refine bQ.mpr ⟨fun z => ?_,Av.2⟩
    have h9:Hs p=some o:=(rT hp).symm.trans (aO.mp z ▸ Av.2)
    rw [Fh] at h9; cases h9
  ·rcases aI.mp hr with rfl | hr
   ·exact ha
   ·exact R1.fr r hr a ha
theorem Cal.mono {i j:Nat} {x:Str} {ps:List Str} {sp:Sp} (C:Cal P w K mg base i x ps sp) (h:i≤j):Cal P w K mg base j x ps sp:=by
 obtain ⟨f,fd,G,b,k,m⟩:=C
 exact ⟨f,fd,G.mono h,b,k,m⟩
theorem IsX.cast {H:Hp} {d d':Dx} {v:V} (h:IsX H d v) (e:d=d'):IsX H d' v:=e ▸ h
theorem sP {F:Fm} {ρ:En} {σ:St} {fr:List Rw} {H:Hp} {i:Nat} {s:Sv} (E:EOk F ρ σ fr H) (h:ρ[i]? = some (.v s)) :
  ∃ v,σ[i]? = some (some v)∧EOk F (ρ.set i (vT s.d)) σ fr H∧IsX (hid (cD ((ρ.set i (vT s.d)).zip σ ++ fr)) (F.vis H)) s.d v:=by
 obtain ⟨v,hv,hi,R⟩:=di_ E h
 have R2:=R.frz
 have E2:=nZ E.len hi hv R2
 obtain ⟨w,e,hx⟩:=R2.atT
 subst e
 have hO:(cD ((ρ.set i (vT s.d)).zip σ ++ fr)).Perm (cD ((vT s.d,some w) :: ((ρ.zip σ).eraseIdx i ++ fr))):=((dg_ E.len hi hv).append_right fr).flatMap_right _
 rw [dl_ rfl] at hO
 exact ⟨w,hv,E2,hx.to (oH fun a ha=>hO.mem_iff.mp ha)⟩
def aVj (i j:Nat):XI:=fun ρ Q=>match ρ[i]? with
 | some (.v s)=>(match (ρ.set i (.v (.tr s.d)))[j]? with
  | some (.v s')=>(match s.d,s'.d with
   | .lst l,.lst m=>Q (iA l m) ((ρ.set i (.v (.tr s.d))).set j (.v (.tr s'.d)))
   | .tup l,.tup m=>Q (iA l m) ((ρ.set i (.v (.tr s.d))).set j (.v (.tr s'.d)))
   | _,_=>False)
  | _=>False)
 | _=>False
theorem aHl {F:Fm} {K:eE} {a b:Addr} {l m:List Dx}:ItX F (Itz true true K a b) [(vT (.tup l),some (.ref a)),(vT (.tup m),some (.ref b))] (iA l m) where
 go:=fun P H i d R hd=>by
  obtain ⟨v,e,h⟩:=R.atT; cases e
  obtain ⟨_,vs,e,h1,h2⟩:=h.tup_eq; cases e
  obtain ⟨v,e,h'⟩:=R.tail.atT; cases e
  obtain ⟨_,ws,e,h3,h4⟩:=h'.tup_eq; cases e
  obtain ⟨c,c',e1,e2,_⟩:=hb_ hd
  obtain ⟨x,h5,_⟩:=h2.at e1
  obtain ⟨y,h6,_⟩:=h4.at e2
  exact ⟨vs,ws,x,y,SqT.of (R.hv _ _ h1),SqT.of (R.hv _ _ h3),h5,h6⟩
 stop:=fun P H i R hi=>by
  obtain ⟨v,e,h⟩:=R.atT; cases e
  obtain ⟨_,vs,e,h1,h2⟩:=h.tup_eq; cases e
  obtain ⟨v,e,h'⟩:=R.tail.atT; cases e
  obtain ⟨_,ws,e,h3,h4⟩:=h'.tup_eq; cases e
  refine ⟨vs,ws,SqT.of (R.hv _ _ h1),SqT.of (R.hv _ _ h3),?_⟩
  unfold iA at hi
  rw [List.length_zipWith] at hi
  rw [h2.len,h4.len]
  omega
 yld:=fun P H i d x H' R hd q=>by
  obtain ⟨p,x,y,rfl,hp,rfl,q⟩:=q
  obtain ⟨v,e,h⟩:=R.atT; cases e
  obtain ⟨_,vs,e,h1,h2⟩:=h.tup_eq; cases e
  obtain ⟨v,e,h'⟩:=R.tail.atT; cases e
  obtain ⟨_,ws,e,h3,h4⟩:=h'.tup_eq; cases e
  obtain ⟨c,c',e1,e2,rfl⟩:=hb_ hd
  obtain ⟨x',h5,h7⟩:=h2.at e1
  obtain ⟨y',h6,h8⟩:=h4.at e2
  obtain ⟨q1,q2⟩:=q vs ws (SqT.of (R.hv _ _ h1)) (SqT.of (R.hv _ _ h3))
  rw [q1] at h5; cases h5
  rw [q2] at h6; cases h6
  exact R.newT hp ⟨_,_,rfl,h7,_,_,rfl,h8,rfl⟩
theorem aJx {a b:Expr} {i j:Nat} {p pos:Pos} {es:List Expr} {kk:Nat} {tpos:Pos} (hm:X.mg "zip" = none) (ha:PE X a (iH i)) (hb:PE X b (iH j)) (hg:Gl X "zip" := by rfl) (hs:starEach [a,b] X.env=[(false,eval a X.env),(false,eval b X.env)]:=by rfl) (C2:starEach [b] X.env=[(false,eval b X.env)]:=by rfl)
  (hs3:starEach [a,b] X.env=(false,eval a X.env) :: starEach [b] X.env:=by rfl) (hs4:starEach [b] X.env=(false,eval b X.env) :: starEach [] X.env:=by rfl) :
  XIt X Ex (.Tuple es kk tpos) (.Call (.Name "zip" p) [a,b] [] pos) (aVj i j):=fun F _ Aa s σ H R I h=>by
 have pa:PA X [a,b] (lQ (iH i) (lQ (iH j) f_)):=lZ ha (lZ hb zM hs4) hs3
 obtain ⟨ρ,fr,Qx,E,t,k⟩:=h
 unfold aVj at t
 split at t
 ·rename_i s1 h1
  split at t
  ·rename_i s2 h2
   obtain ⟨v,hv,E1,Jg⟩:=sP E h1
   obtain ⟨w,hw,E2,D7⟩:=sP E1 h2
   have Dl:IsX (hid (cD (((ρ.set i (vT s1.d)).set j (vT s2.d)).zip σ ++ fr)) (F.vis H)) s1.d v:=Jg.to (oH fun c hc=>by
    obtain ⟨w',M8,hj,R2⟩:=di_ E1 h2
    have hO:(cD (((ρ.set i (vT s1.d)).set j (vT s2.d)).zip σ ++ fr)).Perm (cD ((vT s2.d,w') :: (((ρ.set i (vT s1.d)).zip σ).eraseIdx j ++ fr))):=((dg_ E1.len hj M8).append_right fr).flatMap_right _
    have hO2:(cD ((ρ.set i (vT s1.d)).zip σ ++ fr)).Perm (cD ((.v s2,w') :: (((ρ.set i (vT s1.d)).zip σ).eraseIdx j ++ fr))):=((fo_ h2 M8).append_right fr).flatMap_right _
    have:=hO.mem_iff.mp hc
    rw [dl_ rfl] at this
    refine hO2.mem_iff.mpr ?_
    rw [cn_]
    exact aK _ this)
   split at t
   ·rename_i l m e1 e2
    replace Dl:=Dl.cast e1
    replace D7:=D7.cast e2
    obtain ⟨c,cs,rfl,g1,_⟩:=Dl.lst_eq
    obtain ⟨d,ds,rfl,g2,_⟩:=D7.lst_eq
    have R1:=(E2.rep.add D7).add (d:=.lst l) (v:=.ref c) Dl
    refine i6 (t1:=false) (t2:=false) hg hm pa hs C2 Aa s σ H R I ⟨_,hv,_,hw,c,d,rfl,⟨cs,SqL.of (E2.rep.hv _ _ g1)⟩,⟨ds,SqL.of (E2.rep.hv _ _ g2)⟩,k _ H _ [(vT (.lst l),some (.ref c)),(vT (.lst m),some (.ref d))] _ ⟨E2.len,R1.perm ((nG.symm.cons _).trans nG.symm)⟩ x4 t⟩
   ·rename_i l m e1 e2
    replace Dl:=Dl.cast e1
    replace D7:=D7.cast e2
    obtain ⟨c,cs,rfl,g1,_⟩:=Dl.tup_eq
    obtain ⟨d,ds,rfl,g2,_⟩:=D7.tup_eq
    have R1:=(E2.rep.add D7).add (d:=.tup l) (v:=.ref c) Dl
    refine i6 (t1:=true) (t2:=true) hg hm pa hs C2 Aa s σ H R I ⟨_,hv,_,hw,c,d,rfl,⟨cs,SqT.of (E2.rep.hv _ _ g1)⟩,⟨ds,SqT.of (E2.rep.hv _ _ g2)⟩,k _ H _ [(vT (.tup l),some (.ref c)),(vT (.tup m),some (.ref d))] _ ⟨E2.len,R1.perm ((nG.symm.cons _).trans nG.symm)⟩ aHl t⟩
   ·exact t.elim
  ·exact t.elim
 ·exact t.elim
theorem ju_ {n:Nat} {gx:XG} {tc:XC} {te:XT} {Q:List Dx→List Sl→Prop} {cs:List Sl} (f:Dx→List Dx):∀ {ds:List Dx} {Ad:List Dx},
  (∀ d∈ds,∀ (Ad:List Dx) (P:List Dx→List Sl→Prop),P (Ad ++ f d) cs→gx d (List.replicate n .un ++ cs) fun ρ1=>tc ρ1 fun b ρ2=>if b=true then te ρ2 fun s ρ3=>P (Ad ++ [s.d]) (ρ3.drop n) else P Ad (ρ2.drop n)) →
  Q (Ad ++ (ds.map f).flatten) cs→dX n gx tc te Q ds cs Ad
 | [],Ad,_,q=>by simpa [dX] using q
 | d :: ds,Ad,h,q=>by
  show gx d _ _
  exact h d aB Ad (fun Ad cs=>dX n gx tc te Q ds cs Ad) (ju_ f (fun d' hd=>h d' (aD _ hd)) (by simpa [bD] using q))
theorem il_ {gx:XG} {G:XS} {D:XD} (Pv:List Dx→En→Prop) (hd:∀ ρ,Pv [] ρ→D.nx ρ) (hs:∀ d ds ρ (K:En→Prop),Pv (d :: ds) ρ→(∀ ρ',Pv ds ρ'→K ρ')→gx d ρ fun ρ1=>G ρ1 { D with nx:=K,ct:=K,bk:=D.nx }) :
  ∀ {ds:List Dx} {ρ:En},Pv ds ρ→iJ gx G D ds ρ
 | [],ρ,h=>hd ρ h
 | d :: ds,ρ,h=>hs d ds ρ (iJ gx G D ds) h fun ρ' h'=>il_ Pv hd hs h'
section
variable {α:Type} {a b c d:α}
theorem rM:atI [a] 0=some a:=rfl
theorem rL:atI [a,b] 0=some a:=rfl
theorem rK:atI [a,b] 1=some b:=rfl
theorem rJ:atI [a,b,c] 0=some a:=rfl
theorem rH:atI [a,b,c] 1=some b:=rfl
theorem rG:atI [a,b,c] 2=some c:=rfl
theorem rF:atI [a,b,c,d] 0=some a:=rfl
theorem rE:atI [a,b,c,d] 1=some b:=rfl
theorem rB:atI [a,b,c,d] 2=some c:=rfl
theorem rA:atI [a,b,c,d] 3=some d:=rfl
theorem pY:ixN 3 0=some 0:=rfl
theorem pX:ixN 3 1=some 1:=rfl
theorem pW:ixN 3 2=some 2:=rfl
end
theorem ec_ {l:List Dx}:kK (.bw l)=some (l,.bw):=rfl
theorem eb_ {l:List Dx}:kK (.v (.ol l))=some (l,fun l'=>.v (.ol l')):=rfl
theorem pR {α:Type} {a b c:α}:[a,b,c].length=3:=rfl
theorem aUd {α:Type} {l:List α} {i:Int} (h0:0≤i) (h1:i < l.length):∃ x,atI l i=some x∧l[i.toNat]? = some x:=by
 have hk:i.toNat < l.length:=by omega
 refine ⟨l[i.toNat],?_,aA hk⟩
 unfold atI
 have:ixN l.length i=some i.toNat:=by
  unfold ixN
  simp only [h0]
  split <;> simp_all <;> omega
 rw [this]
 exact aA hk
abbrev GP:=List Dx→Dx→(Dx→Prop)→Prop
def OpL (r:R2) (g:GP):Prop := ∀ (G:Hp) (H:Hp) (p:Addr) (ws:List V) (l:List Dx) (b:Dx) (y:V) (Q:VK) (Qx:Dx→Prop),Same G H→H p=some (.lst ws)→All2 (IsX G) l ws→IsX G b y→g l b Qx→(∀ v d,IsX G d v→Qx d→Q v H)→r (.ref p) y H Q
def aYw (r:R2) (g:GP):Prop := ∀ (G:Hp) (H:Hp) (p:Addr) (ws:List V) (l:List Dx) (b:Dx) (y:V) (Q:VK) (Qx:Dx→Prop),Same G H→H p=some (.lst ws)→All2 (IsX G) l ws→IsX G b y→g l b Qx→(∀ v d,IsX G d v→Qx d→Q v H)→r y (.ref p) H Q
def uD (g:GP) (i:Nat) (t:XT):XT:=fun ρ Q=>((ρ[i]?).bind kK).isSome=true∧t ρ fun k ρ'=>match (ρ'[i]?).bind kK with
 | some (l,_)=>g l k.d fun d=>Q (.tr d) ρ'
 | none=>False
def aPk (g:GP) (t:XT) (i:Nat):XT:=fun ρ Q=>t ρ fun k ρ'=>match (ρ'[i]?).bind kK with
 | some (l,_)=>g l k.d fun d=>Q (.tr d) ρ'
 | none=>False
section
variable {F:Fm} {i:Nat} {t:XT} {r:R2} {g:GP} {x:Str} {a b e:Expr} {p pos:Pos}
theorem aOj (hx:OpL r g):∀ σ H Q,tX F (uD g i t) σ H Q→tOp r (iH i) (tX F t) σ H Q:=by
 rintro σ H Q ⟨ρ,fr,Qx,E,⟨h0,q⟩,k⟩
 obtain ⟨⟨l,f⟩,h1⟩:=dQ.mp h0
 obtain ⟨p,ws,hv,_⟩:=ft_ E h1
 refine ⟨.ref p,hv,ρ,fr,_,E,q,fun w s H' ρ' E' q' => ?_⟩
 split at q'
 ·rename_i l' f' hb
  obtain ⟨R,hs⟩:=E'.one
  obtain ⟨p',ws',Bn,hp,hl,_⟩:=ft_ E'.drop hb
  rw [hv] at Bn; cases Bn
  exact hx _ H' p ws' l' s.d w Q _ R.hv hp hl hs q' fun v d hd qd=>k v (.tr d) H' ρ' (EOk.back E'.len (R.add hd)) qd
 ·exact q'.elim
theorem aWe (hx:aYw r g):∀ σ H Q,tX F (aPk g t i) σ H Q→tOp r (tX F t) (iH i) σ H Q:=by
 rintro σ H Q ⟨ρ,fr,Qx,E,q,k⟩
 refine ⟨ρ,fr,_,E,q,fun w s H' ρ' E' q' => ?_⟩
 split at q'
 ·rename_i l' f' hb
  obtain ⟨R,hs⟩:=E'.one
  obtain ⟨p,ws',hv,hp,hl,_⟩:=ft_ E'.drop hb
  exact ⟨.ref p,hv,hx _ H' p ws' l' s.d w Q _ R.hv hp hl hs q' fun v d hd qd=>k v (.tr d) H' ρ' (EOk.back E'.len (R.add hd)) qd⟩
 ·exact q'.elim
def ixP:GP:=fun l k Q=>match k with
 | .int j=>(match atI l j with | some d=>Q d | none=>False)
 | _=>False
theorem aWo {K:eE}:OpL (aFk K) ixP:=by
 intro G H p ws l b y Q Qx hs hp hl hb g k
 unfold ixP at g
 split at g
 ·cases hb.int_eq
  split at g
  ·rename_i d hd
   obtain ⟨v,h1,h2⟩:=rO hl hd
   exact ⟨_,_,_,_,rfl,rfl,SqL.of hp,h1,k v d h2 g⟩
  ·exact g.elim
 ·exact g.elim
theorem eu_ (K:eE) (hv:PE X (.Name x p) (iH i)) (hb:XE X Ex b t) (hs:lW b) (h:X.K=K:=by rfl):XE X Ex (.Subscript (.Name x p) b pos) (uD ixP i t):=fun F=>by
 subst h
 exact (aFv w6 hv (hb F) hs).weak (aOj aWo)
def neP (n:Bool):GP:=fun l k Q=>match k with
 | .lst []=>Q (.bl (if n then !l.isEmpty else l.isEmpty))
 | _=>False
theorem aWn {K:eE} {r:R2} (n:Bool):OpL (fun x y H Q=>r x y H Q∨aFl K n x y H Q) (neP n):=by
 intro G H p ws l b y Q Qx hs hp hl hb g k
 unfold neP at g
 split at g
 ·obtain ⟨p',vs',rfl,q3,q4⟩:=hb.lst_eq
  cases (show vs'=[] from q4)
  refine .inr ⟨p,p',ws,rfl,rfl,SqL.of hp,SqL.of (hs _ _ q3),k _ _ ?_ g⟩
  have:ws.isEmpty=l.isEmpty:=by
   have:=hl.len
   cases ws <;> cases l <;> simp at this ⊢
  rw [this]
  exact IsX.of_bl _
 ·exact g.elim
theorem aJt (K:eE) (hu:X.A.units < cLine) (hv:PE X (.Name x p) (iH i)) (hb:XE X Ex b t) (hm:behindInMarks .NotEq b=false) (h:X.K=K:=by rfl):XTe X Ex (.Compare (.Name x p) [.NotEq] [b] pos) (xB (uD (neP true) i t)):=fun F=>(uV (hv_ K hu h) hv (hb F) hm).weak (he_ (aOj (aWn true)))
def inP (neg:Bool):GP:=fun l k Q=>match scV k with
 | some u=>(l.all fun d=>(scV d).isSome)=true∧Q (.bl (if neg then !inV u (l.filterMap scV) else inV u (l.filterMap scV)))
 | none=>False
theorem aWj {K:eE} (neg:Bool):aYw (rIn K neg) (inP neg):=by
 intro G H p ws l b y Q Qx hs hp hl hb g k
 unfold inP at g
 split at g
 ·rename_i u hu
  cases mG hb hu
  obtain ⟨e1,e2⟩:=aEz hl g.1
  subst e1
  exact ⟨p,_,rfl,.inl (SqL.of hp),t9 hu,e2,k _ _ (IsX.of_bl _) g.2⟩
 ·exact g.elim
theorem aJu (K:eE) (hb:XE X Ex b t) (hv:PE X (.Name x p) (iH i)) (hm:behindInMarks .In (.Name x p)=false) (h:X.K=K:=by rfl):XTe X Ex (.Compare b [.In] [.Name x p] pos) (xB (aPk (inP false) t i)):=fun F=>(uV (aRa K h) (hb F) hv hm).weak (he_ (aWe (aWj false)))
end
theorem XE.at {e:Expr} {t:XT} (F:Fm) [OkF X Ex F] (h:XE X Ex e t):PE X e (tX F t):=h F
theorem eS {e:Expr} {t:XT} {x:Str} {i:Nat} {pos pos':Pos} (hN:X.N.Nodup) (hi:X.N[i]? = some x) (hx:Loc X.env.scope x) (he:XE X dU e t) (hs:swapsWith e (some (.Name x pos')) pos.line X.env=pure false:=by rfl) (hf:X.fn x=true∨X.env.scope.names.lookup x=some .local:=by first | exact .inl rfl | exact .inr rfl | assumption):XSt X Ex (.Assign [.Name x pos'] e pos) (eU i t):=ag_ fun F=>ai_ hN hi hx (XE.at (Ex:=dU) F he) hs hf
theorem fC {x:Str} {p q pos:Pos} {i j:Nat} {n:Int} (K:eE) (h0:PE X (.Name x p) (iH i)) (h:X.K=K:=by rfl):XE X Ex (.Subscript (.Name x p) (.Constant (.int n) j q) pos) (xOp ixX (bW i) (xC (.int n))):=jZ K (bE h0) dH (fun _ _=>rfl) h
theorem XIt.at {tg e:Expr} {t:XI} (F:Fm) [OkF X Ex F] (h:XIt X Ex tg e t):PI X tg e (tXi F t):=h F
theorem XCs.at {e:List Expr} {t:XC} (F:Fm) [OkF X Ex F] (h:XCs X Ex e t):PCs X e (tXc F t):=h F
section
variable {α:Type} {n:Nat} {gx:XG} {tc:XC} {te:XT} {Q:List Dx→List Sl→Prop}
abbrev xW (n:Nat) (gx:XG) (tc:XC) (te:XT) (P:List Dx→List Sl→Prop) (d:Dx) (cs:List Sl) (Ad:List Dx):Prop:=gx d (List.replicate n .un ++ cs) fun ρ1=>tc ρ1 fun b ρ2=>if b=true then te ρ2 fun s ρ3=>P (Ad ++ [s.d]) (ρ3.drop n) else P Ad (ρ2.drop n)
theorem b9 {cs:List Sl} (φ ψ:α→Dx):∀ {as:List α} {Ad:List Dx},(∀ a∈as,∀ (Ad:List Dx) (P:List Dx→List Sl→Prop),P (Ad ++ [ψ a]) cs→xW n gx tc te P (φ a) cs Ad) →
  Q (Ad ++ as.map ψ) cs→dX n gx tc te Q (as.map φ) cs Ad
 | [],Ad,_,q=>by simpa [dX] using q
 | a :: as,Ad,h,q=>by
  show gx (φ a) _ _
  exact h a aB Ad (fun Ad cs=>dX n gx tc te Q (as.map φ) cs Ad) (b9 φ ψ (fun a' ha=>h a' (aD _ ha)) (by simpa [bD] using q))
theorem cb_ (φ:α→Dx) (I:List α→List Dx→List Sl→Prop) (hd:∀ Ad cs,I [] Ad cs→Q Ad cs) (hs:∀ a as Ad cs (P:List Dx→List Sl→Prop),I (a :: as) Ad cs→(∀ acc' cs',I as acc' cs'→P acc' cs')→xW n gx tc te P (φ a) cs Ad) :
  ∀ {as:List α} {Ad:List Dx} {cs:List Sl},I as Ad cs→dX n gx tc te Q (as.map φ) cs Ad
 | [],Ad,cs,h=>hd Ad cs h
 | a :: as,Ad,cs,h=>by
  show gx (φ a) _ _
  exact hs a as Ad cs (fun Ad cs=>dX n gx tc te Q (as.map φ) cs Ad) h fun acc' cs' h'=>cb_ φ I hd hs h'
theorem xH {gx:XG} {G:XS} {D:XD} (φ:α→Dx) (Pv:List α→En→Prop) (hd:∀ ρ,Pv [] ρ→D.nx ρ) (hs:∀ d ds ρ (K:En→Prop),Pv (d :: ds) ρ→(∀ ρ',Pv ds ρ'→K ρ')→gx (φ d) ρ fun ρ1=>G ρ1 { D with nx:=K,ct:=K,bk:=D.nx }) :
  ∀ {ds:List α} {ρ:En},Pv ds ρ→iJ gx G D (ds.map φ) ρ
 | [],ρ,h=>hd ρ h
 | d :: ds,ρ,h=>hs d ds ρ (iJ gx G D (ds.map φ)) h fun ρ' h'=>xH φ Pv hd hs h'
end
section
variable {F:Fm} {e:Expr} {kws:List Keyword} {x:Str} {p pos:Pos} {u:XA} {t:XT}
def aVk (dd:Int) (u:XA):XT:=fun ρ Q=>u ρ fun ss ρ'=>match ss.map Sv.d with
 | [.lst l] => ∃ ns:List Int,l=ns.map Dx.int∧(ns=[]→Q (.tr (.int dd)) ρ')∧∀ M,M∈ns→(∀ a∈ns,a≤M)→Q (.tr (.int M)) ρ'
 | _=>False
theorem uC {dd:Int} (hc:X.calm=true) (hg:Gl X "max") (hm:X.mg "max" = none) (ha:XAs X Ex [e] u) (Lv:PK X kws (lQ (tC (.int dd)) f_)) (Kz:(backToKw pos (keywordEach kws X.env)).filterMap (·.1)=(["default"]:List Str):=by rfl)
  (he:backTo pos (starEach [e] X.env)=(false,eval e X.env) :: backTo pos (starEach [] X.env):=by rfl) (A9:(backTo pos (starEach [e] X.env)).any (·.1)=false:=by rfl)
  (Au:(backToKw pos (keywordEach kws X.env)).all (·.1.isSome)=true:=by rfl) (Lw:(backToKw pos (keywordEach kws X.env)).any (·.1.isNone)=false:=by rfl):XE X Ex (.Call (.Name "max" p) [e] kws pos) (aVk dd u):=fun F=>by
 refine (aBo (aCz hc) hg hm jz_ (ha F) Lv Kz (by decide) (by decide) he A9 Au Lw).weak fun σ H Q => ?_
 rintro ⟨ρ,fr,Qx,E,t,k⟩
 refine ⟨ρ,fr,_,E,t,fun vs ss H2 ρ2 hl E2 q2 => ?_⟩
 obtain ⟨R,hs⟩:=E2.many hl
 generalize hds:ss.map Sv.d=ds at q2 hs
 split at q2
 ·obtain ⟨v,rfl,hv⟩:=xA hs
  obtain ⟨a,ws,rfl,h1,h2⟩:=hv.lst_eq
  obtain ⟨ns,rfl,q3,q4⟩:=q2
  have:=qA h2
  subst this
  exact ⟨a,ns,dd,rfl,rfl,SqL.of (R.hv _ _ h1),fun en=>k _ _ H2 ρ2 (EOk.back E2.len (R.add (IsX.of_int _))) (q3 en),fun M hM C4=>k _ _ H2 ρ2 (EOk.back E2.len (R.add (IsX.of_int _))) (q4 M hM C4)⟩
 ·exact q2.elim
theorem nJ {i:Int} (hg:Gl X x) (hm:∃ t,X.mg x=some (.int i t)) (hd:(x == ("__debug__" : Str))=false:=by decide):XE X Ex (.Name x pos) (xC (.int i)):=by
 obtain ⟨t,hm⟩:=hm
 exact aDv (ge_ (v:=.int i) hg hm ⟨t,rfl⟩ hd) _ fun _=>IsX.of_int _
end
def neL:G2:=fun a b Q=>match a,b with
 | .lst l,.lst m => ∃ ns:List Int,l=ns.map Dx.int∧m=ns.map Dx.int∧Q (.tr (.bl false))
 | _,_=>False
section
variable {F:Fm} {a b e:Expr} {x:Str} {p pos:Pos} {ta tb t:XT} {tl th:XO} {u:XA} {K:eE}
theorem aNn {α β:Type} {f:α→β} {l:List α} {i:Int}:atI (l.map f) i=(atI l i).map f:=by
 unfold atI
 rw [aE]
 cases ixN l.length i with
 | none=>rfl
 | some n=>exact bG
def ixZ (K:eE):G2
 | .scr K' ns,.int i,Q=>K'=K∧(match atI ns i with | some n=>Q (.tr (.int n)) | none=>False)
 | _,_,_=>False
theorem aQr:OpX (aFk K) (ixZ K):=by
 intro F P H a b x y Q Qx R ha hb g k
 unfold ixZ at g
 split at g
 ·obtain ⟨rfl,g⟩:=g
  obtain ⟨p,rfl,h1⟩:=ha.scr_eq
  cases hb.int_eq
  split at g
  ·rename_i n hn
   refine ⟨p,_,_,V.int n,rfl,rfl,SameF.sq (.of R.hv) h1,?_,k _ _ H (R.add (IsX.of_int _)) g⟩
   rw [aNn,hn]; rfl
  ·exact g.elim
 ·exact g.elim
theorem aPi (K:eE) (ha:XE X Ex a ta) (hb:XE X Ex b tb) (hs:lW b) (h:X.K=K:=by rfl):XE X Ex (.Subscript a b pos) (xOp (ixZ K) ta tb):=fun F=>(aFv (yO K h) (ha F) (hb F) hs).weak (oW aQr)
def aSc (K:eE):GC
 | [.scr K' ns],Q=>K'=K∧Q (.tr (.int ns.length))
 | _,_=>False
theorem aAo:jW (aPz K) (aSc K):=by
 intro F P H ds xs Q Qx R hs g k
 unfold aSc at g
 split at g
 ·obtain ⟨rfl,g⟩:=g
  obtain ⟨x,rfl,hx⟩:=xA hs
  obtain ⟨a,rfl,h1⟩:=hx.scr_eq
  exact .inl ⟨a,_,rfl,.inl (SameF.sq (.of R.hv) h1),k _ _ H (R.add (by rw [aE]; exact IsX.of_int _)) g⟩
 ·exact g.elim
end
def spLaw (K:eE):Sp:=fun vs H Q _ => ∃ (a:Addr) (ns:List Int),vs=[.ref a]∧SqL K H a (ns.map V.int)∧ns.length≤63∧∀ H',Q (.bl true) H'
def aXw (K:eE):GC:=fun ds Q => ∃ ns:List Int,ds=[.scr K ns]∧ns.length≤63∧Q (.tr (.bl true))
theorem aHd {f:Addr} {fd:FuncData} {j:Nat} (h:FnOk P w K mg base CX0 j f fd ["script"] (spX (aXw K))):FnOk P w K mg base CX0 j f fd ["script"] (spLaw K):=h.imp fun vs H Q E=>by
 rintro ⟨a,ns,rfl,hS,hl,q⟩
 refine ⟨H,[.scr K ns],fun s=>s=.tr (.bl true),Same.refl _,⟨_,_,rfl,IsX.of_scr hS,rfl⟩,⟨ns,rfl,hl,rfl⟩,fun s v H' _ hr e => ?_⟩
 subst e
 have Bg:IsX (ext H H H') (.bl true) v:=hr
 cases Bg.bl_eq
 exact q H'
end Lf
namespace L2
open PySem
section
variable {M:Model} {A:Around} {E:hW} {s:Shared}
def KeptX (fs S:List Addr) (h h':Heap):Prop := ∀ b o,h.get? b=some o→b∉S→(b∉fs→h'.get? b=some o)∧∃ sl,h'.get? b=some { o with slots:=sl }
end
end L2
namespace Lf
open PySem L2
section
variable {M:Model} {A:Around} {E:hW} {s:Shared}
theorem qI {nw:Addr→Prop} {H:Hp} {ea:Addr} {cls:Value} {fl:Option Addr} {Q:Unit→Shared→Prop} (a:Air nw s.heap H ea cls)
  (h:∀ h' S,(∀ b∈S,nw b∧H b=none∧∃ o vs,s.heap.get? b=some o∧o.data=.fields vs)→KeptX [] S s.heap h'→Air nw h' H ea cls→Q () { s with heap:=h' }):wpAny M A (setFlight (.ref ea) fl) Q E s:=by
 obtain ⟨a1,a2,oe,vs,he,hc,hd,Eb,hsz,a3⟩:=a
 unfold setFlight
 rcases a3 with a3 | ⟨T,oT,ts,a3,aT,aN,aH,hT,Dz,h3⟩
 ·refine wpAny_bind (wpAny_field he hd a3 ?_)
  rw [if_neg (by decide)]
  exact wpAny_pure (h s.heap [] (fun b hb=>nomatch hb) (fun b o hb _=>⟨fun _=>hb,o.slots,hb⟩) ⟨a1,a2,oe,vs,he,hc,hd,Eb,hsz,.inl a3⟩)
 ·refine wpAny_bind (wpAny_field he hd a3 ?_)
  rw [if_pos (show (Value.ref T != Value.none)=true from by simp)]
  refine wpAny_setField hT Dz h3 (h _ [T] (fun b hb => ?_) (fun b o hb D0 => ?_) ⟨a1,a2,oe,vs,(bM _ _ aT).trans he,hc,hd,Eb,hsz,.inr ⟨T,_,_,a3,aT,aN,aH,gB _ hT (Obj.isFreed_of_fields (Obj.data_mapFields Dz _)),Obj.data_mapFields Dz _,by simpa using h3⟩⟩)
  ·rw [aO.mp hb]; exact ⟨aN,aH,oT,ts,hT,Dz⟩
  ·have n2:b≠T:=fun z=>D0 (aO.mpr z)
   have e2:=(bM s.heap (Obj.mapFields (·.setIfInBounds 3 (fl.elim Value.none fun f=>rawInt f))) (Ne.symm n2)).trans hb
   exact ⟨fun _=>e2,o.slots,e2⟩
def Tb (h':Heap) (ea:Addr):Prop := ∃ oe vs T,h'.get? ea=some oe∧oe.data=.fields vs∧vs[1]? = some (.ref T)
theorem sU {base:Heap} {nw:Addr→Prop} {H:Hp} {env:Env} {outer:List Env} {L ea:Addr} {cls:Value} {Q:Unit→Shared→Prop}
  (Ce:A.frames=some (env :: outer)) (hl:s.heap.FunFrames base (env :: outer)) (hf:env.frame=some L) (hz:∀ T,s.heap.objs.size≤T→nw T) (hH:∀ a,s.heap.objs.size≤a→H a=none) (a:Air nw s.heap H ea cls)
  (h:∀ h' S,(∀ b∈S,nw b∧H b=none∧∃ o vs,s.heap.get? b=some o∧o.data=.fields vs)→KeptX (frs (env :: outer)) S s.heap h'→Air nw h' H ea cls→Tb h' ea→Q () { s with heap:=h' }):wpAny M A (noteFrame (.ref ea) env) Q E s:=by
 have entry:∀ {s:Shared} {oe:Obj} {vs:Array Value} {head:Value} {Em:Bool} {Q:Unit→Shared→Prop},s.heap.FunFrames base (env :: outer)→s.heap.get? ea=some oe→oe.data=.fields vs→1 < vs.size →
   (∀ h' T oT ts,KeptX (frs (env :: outer)) [ea] s.heap h'→s.heap.objs.size≤T→T≠ea→h'.get? ea=some (oe.mapFields (·.setIfInBounds 1 (.ref T)))→h'.get? T=some oT→oT.data=.fields ts→3 < ts.size→Q () { s with heap:=h' }) →
   wpAny M A (do let a ← frameOf env; let pl ← entryPlaceOf L Em; let b ← EntryCells.newEntry head a .none (rawInt L) .none pl; setField (.ref ea) 1 b) Q E s:=by
  intro s oe vs head Em Q hl he hd hsz h
  have Mb:ea∉(env :: outer).filterMap (·.frame):=fun hm=>by
   obtain ⟨_,o,ho,Jr⟩:=hl.mem hm
   rw [he] at ho; injection ho with ho; subst ho; exact Jr vs hd
  refine wpAny_bind (wpAny_frameOf_fun Ce hl hf fun h₁ hs₁ => ?_)
  refine wpAny_bind (wpAny_entryPlaceOf fun pl A9 => ?_)
  unfold EntryCells.newEntry newFields
  refine wpAny_bind (wpAny_newObj_type ?_ (A9.sizeOk5 _ _ _ _ _))
  have he₁:h₁.get? ea=some oe:=(hs₁.2.1 ea Mb).trans he
  have he₂:=aG (h:=h₁) { cls:=.type "traceback",dict:=none,data:=.fields ([head,.ref L,.none,rawInt L,.none] ++ (if pl.isEmpty then List.replicate 6 Value.none else pl)).toArray } he₁
  have Nv:h₁.objs.size≠ea:=iF (aS he₁)
  have hd₃:=Obj.data_mapFields hd (·.setIfInBounds 1 (Value.ref h₁.objs.size))
  have he₃:=gB (Obj.mapFields (·.setIfInBounds 1 (Value.ref h₁.objs.size))) he₂ (Obj.isFreed_of_fields hd₃)
  have hT₃:=(bM (h₁.push { cls:=.type "traceback",dict:=none,data:=.fields ([head,.ref L,.none,rawInt L,.none] ++ (if pl.isEmpty then List.replicate 6 Value.none else pl)).toArray })
   (Obj.mapFields (·.setIfInBounds 1 (Value.ref h₁.objs.size))) (Ne.symm Nv)).trans (bC h₁ rfl)
  refine wpAny_setField he₂ hd hsz (h _ h₁.objs.size _ _ ?_ (Nat.le_of_eq hs₁.1.symm) Nv he₃ hT₃ rfl (by simp only [aW,aC,aM,aU] <;> omega))
  intro b o hb Gu
  have Mk:b≠ea:=fun z=>Gu (aO.mpr z)
  have keep:∀ o,h₁.get? b=some o→((h₁.push { cls:=.type "traceback",dict:=none,data:=.fields ([head,.ref L,.none,rawInt L,.none] ++ (if pl.isEmpty then List.replicate 6 Value.none else pl)).toArray }).update ea (Obj.mapFields (·.setIfInBounds 1 (Value.ref h₁.objs.size)))).get? b=some o:=fun o hb=>by
   rw [bM _ _ (Ne.symm Mk)]
   exact aG _ hb
  refine ⟨fun J8=>keep o ((hs₁.2.1 b J8).trans hb),?_⟩
  obtain ⟨sl,hs⟩:=hs₁.2.2 b o hb
  exact ⟨sl,keep _ hs⟩
 obtain ⟨a1,a2,oe,vs,he,hc,hd,Eb,hsz,a3⟩:=a
 have A5:∀ (h':Heap) (T:Addr) (oT:Obj) (ts:Array Value),s.heap.objs.size≤T→T≠ea→h'.get? ea=some (oe.mapFields (·.setIfInBounds 1 (.ref T)))→h'.get? T=some oT→oT.data=.fields ts→3 < ts.size→Air nw h' H ea cls∧Tb h' ea:=fun h' T oT ts g1 g2 g3 g4 g5 g6=>by
  refine ⟨⟨a1,a2,_,_,g3,(Obj.cls_mapFields _ _).trans hc,Obj.data_mapFields hd _,by obtain ⟨c,dct,dt,sl⟩:=oe; cases dt <;> exact Eb,by simpa using hsz,.inr ⟨T,oT,ts,by simp [hsz],g2,hz T g1,hH T g1,g4,g5,g6⟩⟩,⟨_,_,T,g3,Obj.data_mapFields hd _,by simp [hsz]⟩⟩
 unfold noteFrame
 simp only [hf]
 rcases a3 with a3 | ⟨T,oT,ts,a3,aT,aN,aH,hT,Dz,h3⟩
 ·refine wpAny_bind (wpAny_field he hd a3 ?_)
  rw [if_neg (by decide)]
  exact entry hl he hd hsz fun h' T oT ts g0 g1 g2 g3 g4 g5 g6=>h h' [ea] (fun b hb=>by rw [aO.mp hb]; exact ⟨a1,a2,_,_,he,hd⟩) g0 (A5 h' T oT ts g1 g2 g3 g4 g5 g6).1 (A5 h' T oT ts g1 g2 g3 g4 g5 g6).2
 ·refine wpAny_bind (wpAny_field he hd a3 ?_)
  rw [if_pos (show (Value.ref T != Value.none)=true from by simp)]
  obtain ⟨x3,e3⟩ : ∃ x,ts[3]? = some x:=⟨_,Array.getElem?_eq_getElem h3⟩
  refine wpAny_bind (wpAny_field hT Dz e3 ?_)
  by_cases hx:(x3 == rawInt L)=true
  ·rw [if_pos hx]
   exact wpAny_pure (h s.heap [] (fun b hb=>nomatch hb) (fun b o hb _=>⟨fun _=>hb,o.slots,hb⟩) ⟨a1,a2,oe,vs,he,hc,hd,Eb,hsz,.inr ⟨T,oT,ts,a3,aT,aN,aH,hT,Dz,h3⟩⟩ ⟨oe,vs,T,he,hd,a3⟩)
  rw [if_neg hx]
  refine wpAny_bind (wpAny_setField hT Dz h3 ?_)
  have other:∀ b,b≠T→(s.heap.update T (Obj.mapFields (·.setIfInBounds 3 Value.none))).get? b=s.heap.get? b:=fun b hb=>bM _ _ (Ne.symm hb)
  have noRecord:∀ b o,s.heap.get? b=some o→(∀ vs,o.data ≠ .fields vs)→b≠T:=fun b o hb Jr q=>by
   rw [q,hT] at hb; injection hb with hb; subst hb; exact Jr ts Dz
  have Jl:(s.heap.update T (Obj.mapFields (·.setIfInBounds 3 Value.none))).objs.size=s.heap.objs.size:=Heap.size_after_update ..
  refine entry (s:={ s with heap:=_ }) (hl.of_keeps fun b o hb Jr=>⟨o,(other b (noRecord b o hb Jr)).trans hb,rfl⟩) ((other ea (Ne.symm aT)).trans he) hd hsz
   fun h' T' oT' ts' g0 g1 g2 g3 g4 g5 g6=>h h' [ea,T] (fun b hb => ?_) (fun b o hb D0 => ?_) (A5 h' T' oT' ts' (by rw [← Jl]; exact g1) g2 g3 g4 g5 g6).1 (A5 h' T' oT' ts' (by rw [← Jl]; exact g1) g2 g3 g4 g5 g6).2
  ·rcases aI.mp hb with rfl | hb
   ·exact ⟨a1,a2,_,_,he,hd⟩
   ·rw [aO.mp hb]; exact ⟨aN,aH,_,_,hT,Dz⟩
  ·have n1:b≠ea:=fun z=>D0 (by rw [z]; exact aB)
   have n2:b≠T:=fun z=>D0 (by rw [z]; exact aD _ aB)
   exact g0 b o ((other b n2).trans hb) fun z=>n1 (aO.mp z)
theorem KeptX.more {fs fs' S:List Addr} {h h1:Heap} (a:KeptX fs S h h1) (k:∀ b,b∈fs→b∈fs'):KeptX fs' S h h1:=fun x o e n=>⟨fun hf=>(a x o e n).1 fun z=>hf (k x z),(a x o e n).2⟩
theorem yH {base:Heap} {nw:Addr→Prop} {H:Hp} {env:Env} {outer:List Env} {L ea:Addr} {cls:Value} {Q:Unit→Shared→Prop}
  (Ce:A.frames=some (env :: outer)) (hl:s.heap.FunFrames base (env :: outer)) (hf:env.frame=some L) (hz:∀ T,s.heap.objs.size≤T→nw T) (hH:∀ a,s.heap.objs.size≤a→H a=none) (a:Air nw s.heap H ea cls)
  (h:∀ h' S,(∀ b∈S,nw b∧H b=none∧∃ o vs,s.heap.get? b=some o∧o.data=.fields vs)→KeptX (frs (env :: outer)) S s.heap h'→Air nw h' H ea cls→Q () { s with heap:=h' }):wpAny M A (noteFrame (.ref ea) env) (fun _ s₂=>wpAny M A (setFlight (.ref ea) none) Q E s₂) E s :=
 sU Ce hl hf hz hH a fun h' S hS kx air' _=>qI (s:={ s with heap:=h' }) air' fun h2 S2 hS2 M7 air2=>h h2 (S ++ S2.filter fun b=>(s.heap.get? b).isSome) (fun b hb=>by
  rcases bA.mp hb with z | z
  ·exact hS b z
  ·by_cases Av:b∈S
   ·exact hS b Av
   obtain ⟨z1,z2⟩:=List.mem_filter.mp z
   obtain ⟨o,e⟩:=dQ.mp z2
   obtain ⟨g1,g2,o2,vs2,e2,d2⟩:=hS2 b z1
   obtain ⟨sl,e3⟩:=(kx b o e Av).2
   have e4:some o2=some { o with slots:=sl }:=e2.symm.trans e3
   cases e4
   exact ⟨g1,g2,o,vs2,e,d2⟩) (fun b o e n=>by
  have n1:b∉S:=fun z=>n (bJ _ z)
  have n2:b∉S2:=fun z=>n (aK _ (List.mem_filter.mpr ⟨z,by rw [e]; rfl⟩))
  obtain ⟨p,sl,q⟩:=kx b o e n1
  refine ⟨fun hf=>(M7 b o (p hf) n2).1 (by simp),?_⟩
  obtain ⟨sl',q'⟩:=(M7 b _ q n2).2
  exact ⟨sl',q'⟩) air2
end
theorem tD {P:Program} {w:World} {H:Hp} {h h':Heap} {fs S:List Addr} (x:HOk P w H h) (k:KeptX fs S h h') (hf:∀ b∈fs,H b=none) (hS:∀ b∈S,H b=none):HOk P w H h':=fun a o e =>
 ObjOk.stay (x a o e) (fun b u hb hu=>by
  have Av:∃ o,H b=some o:=by
   rcases hb with rfl | hb
   ·exact ⟨_,e⟩
   ·exact ⟨_,hb⟩
  obtain ⟨ob,Ku⟩:=Av
  exact (k b u hu fun z=>by rw [hS b z] at Ku; cases Ku).1 fun z=>by rw [hf b z] at Ku; cases Ku) (fun _ z=>z) (fun _ _ z=>z)
section
variable {X:Cx} {Aa:fO} {σ:St} {H H':Hp} {s s':Shared}
theorem Inv.thrown (I:Inv X Aa σ H s) (os:s'.os=s.os) (bare:PyProof.Rows.AllBare s'.gens) (un:Un (frs X.stack) [] H H' s.heap s'.heap) (hok:HOk X.prog X.w H' s'.heap):Inv X Aa σ H' s':=by
 obtain ⟨hh,g,d,t,os'⟩:=s'
 obtain rfl:os'=s.os:=os
 exact I.call (h':=hh) (g':=g) (d':=d) (t':=t) (ch:=[]) un hok bare (fun b z=>absurd z (by simp))
end
theorem Air.older {n0 n:Addr→Prop} {h':Heap} {H:Hp} {ea:Addr} {cls:Value} (a:Air n h' H ea cls) (k:∀ b,n b→n0 b):Air n0 h' H ea cls:=by
 obtain ⟨a1,a2,oe,vs,he,hc,hd,Eb,hsz,a3⟩:=a
 refine ⟨k _ a1,a2,oe,vs,he,hc,hd,Eb,hsz,?_⟩
 rcases a3 with a3 | ⟨T,oT,ts,a3,aT,aN,r⟩
 ·exact .inl a3
 ·exact .inr ⟨T,oT,ts,a3,aT,k _ aN,r⟩
theorem OkF.pass {F:Fm} [OkF X Ex F] (Aa:fO) (σ:St) (H:Hp) (s:Shared) (e:Value) (s':Shared) (I:Inv X Aa σ H s) (h:CXe X.prog X.w X.stack H s (fun c _ H'=>Ex c∧o9 F H') e s'):X.xe e s':=by
 obtain ⟨ea,cls,H',rfl,os,bare,un,hok,air,hx,hk⟩:=h
 refine OkF.pass1 (Ex:=Ex) (F:=F) Aa σ H' s' ea cls (Inv.thrown I os bare un hok) (air.older fun b hb=>⟨?_,fun p hp z => ?_⟩) hx hk
 ·by_cases Np:b∈X.ex
  ·exact .inr Np
  ·left
   cases q:X.s₀.heap.get? b with
   | none=>rfl
   | some o =>
    obtain ⟨o',e'⟩:=I.base.there b o q Np
    rw [hb] at e'; cases e'
 ·have:=(I.pin p hp).1
  rw [z,hb] at this; cases this
section
variable {N:List Str} {x:Str} {scope:Scope} {f:Addr} {Ak:Value} {A:Around} {outer:List Env} {s:Shared} {H:Hp} {E:XK} {Ex:ExT} {F:Fm}
theorem aLr (hE:∀ c H',Ex c→o9 F H'→E c none H'):OkF (lM (CXe P w) P w K mg base N x scope f Ak A outer s H E) Ex F:=⟨fun Aa σ H' s' ea cls I' air hx hk=>by
 have older:∀ b,NwX (lM (CXe P w) P w K mg base N x scope f Ak A outer s H E) Aa b→s.heap.get? b=none:=fun b hb=>hb.1.elim (fun z=>z) fun z=>nomatch z
 refine wpAny_bind (yH (base:=base) (nw:=fun b=>s.heap.get? b=none) (H:=H') (L:=s.heap.objs.size) I'.ok.frames I'.stack rfl (fun T hT=>Heap.get?_none_of_le (nzL I'.sz hT)) (fun a ha=>I'.hok.fresh ha) (air.older older) fun h' S hS kx air' => ?_)
 have nS:∀ b o,s.heap.get? b=some o→b∉S:=fun b o hb z=>by rw [(hS b z).1] at hb; cases hb
 have nL:∀ b o,s.heap.get? b=some o→b∈frs (PyProof.Rows.envOfC x scope s.heap.objs.size f Ak :: outer)→b∈frs outer:=fun b o hb z=>by
  rcases aI.mp (show b∈s.heap.objs.size :: frs outer from z) with z | z
  ·exact absurd (aS hb) (by rw [z]; exact dZ _)
  ·exact z
 have B:=I'.base
 refine ⟨ea,cls,H',rfl,I'.os,I'.bare,⟨fun b o hb n hf he => ?_,fun b o hb n hf he => ?_,fun b o hb n he=>B.free b o hb n he,fun b o hb he => ?_,B.tups,B.frzs,B.tbls⟩,tD I'.hok kx I'.stkFree (fun b hb=>(hS b hb).2.1),air',hE cls H' hx hk⟩
 ·exact (kx b o (B.keep b o hb n hf he) (nS b o hb)).1 fun z=>hf (nL b o hb z)
 ·obtain ⟨sl,e1⟩:=B.slot b o hb n hf he
  obtain ⟨sl',e2⟩:=(kx b _ e1 (nS b o hb)).2
  exact ⟨sl',e2⟩
 ·obtain ⟨o',e1⟩:=B.there b o hb he
  obtain ⟨sl',e2⟩:=(kx b _ e1 (nS b o hb)).2
  exact ⟨_,e2⟩⟩
end
abbrev aPp {H Hs:Hp} (h:Same Hs H):Fm:=⟨H,Hs,[],h,fun b hb=>by simp at hb,fun b hb=>by simp at hb⟩
abbrev GE:=List Dx→(Sv→Prop)→ExT→Prop
def spE (g:GE):Sp:=fun vs H Q E => ∃ Hs ds Qx Ex,Same Hs H∧All2 (IsX Hs) ds vs∧g ds Qx Ex∧(∀ s v H',Same H H'→aAv Hs H H' s v→Qx s→Q v H')∧∀ c H',Same H H'→Ex c→E c none H'
theorem aMt {x:Str} {st:Stmt} {f:Addr} {fd:FuncData} {N ps:List Str} {k:Nat} {g:GE} (Fn:Fun K x x st f fd) (S:FnScope N ps (aQ st)) (Aj:∀ ds Q Ex,g ds Q Ex→ds.length=ps.length) (hN:ps.length≤N.length)
  (B1:∀ (Ak:Value) (A:Around) (outer:List Env) (s:Shared) (H:Hp) (E:XK) (Ex:ExT),Room k (A.deeper (PyProof.Rows.envOfC x (aQ st) s.heap.objs.size f Ak)) →
   ∃ G,XSs (lM (CXe P w) P w K mg base N x (aQ st) f Ak A outer s H E) Ex (hU st) G∧∀ ds Q,g ds Q Ex→G (fA N ds) (aKl Q)):FnOk P w K mg base (CXe P w) (k + 1) f fd ps (spE g):=by
 obtain ⟨oc,od,kV,doc,pm,an,Ak,ct,osl,rfl,lk,E9⟩:=Fn.ex
 refine aOt lk E9 S (fun vs H Q E h => ?_) fun A outer s H vs Q E hr h => ?_
 ·obtain ⟨Hs,ds,Qx,Ex,h1,h2,h3,_⟩:=h
  rw [h2.len]
  exact Aj ds Qx Ex h3
 obtain ⟨Hs,ds,Qx,Ex,h1,h2,h3,h4,h5⟩:=h
 obtain ⟨G,hG,hq⟩:=B1 Ak A outer s H E Ex hr
 have hl:=Aj ds Qx Ex h3
 haveI:OkF (lM (CXe P w) P w K mg base N x (aQ st) f Ak A outer s H E) Ex (aPp h1):=aLr fun c H' e k=>h5 c H' (fun b o hb=>k b o hb (by simp)) e
 refine ⟨_,hG (aPp h1),fA N ds,[],aKl Qx,⟨?_,?_⟩,hq ds Qx h3,⟨fun σ' H' ρ' _ E' q => ?_,fun v s σ' H' ρ' _ E' q => ?_,fun _ _ _ _ _ q=>q.elim,fun _ _ _ _ _ q=>q.elim⟩⟩
 ·unfold fA L2.start
  simp only [aC,aE,aL]
  rw [h2.len]
 ·rw [bZ]
  have R0:Rep (aPp h1) [] H:=⟨List.nodup_nil,fun r hr=>by simp at hr,fun r hr=>by simp at hr,fun b o h _=>h,fun b hb=>by simp at hb⟩
  unfold fA L2.start
  rw [h2.len]
  refine ih_ R0 (h2.imp fun _ _ z=>z.to fun b o hb => ?_)
  cases q:H b with
  | none=>rw [h1 _ _ hb] at q; cases q
  | some u=>exact (rT q).trans hb
 ·have R:=E'.rep.add (d:=.non) (v:=.non) IsX.of_non
  obtain ⟨e1,e2⟩:=uR R
  exact h4 _ _ _ e1 e2 q
 ·obtain ⟨e1,e2⟩:=uR E'.front
  exact h4 _ _ _ e1 e2 q
def rQ (P:Program) (w:World) (K:eE) (mg:lN) (base:Heap) (j:Nat) (x:Str) (ps:List Str) (sp:Sp):Prop := ∃ f fd,FnOk P w K mg base (CXe P w) j f fd ps sp∧Binds K fd ps []∧PySem.W.keepIn K (.ref f)=true∧mg x=some (.ref f)
theorem aLa {X:Cx} {j:Nat} {x:Str} {ps:List Str} {sp:Sp} {E:XK} {e:Expr} {es:List Expr} {t:TA} {p pos:Pos} (C:rQ X.prog X.w X.K X.mg X.base j x ps sp) (hr:Room j X.A) (hx:wZ (CXe X.prog X.w) X E) (ha:PA X (e :: es) t) (hg:Gl X x:=by rfl) (B0:(x == ("__debug__" : Str))=false:=by decide)
  (he:starEach (e :: es) X.env=(false,eval e X.env) :: starEach es X.env:=by rfl) (A9:(backTo pos (starEach es X.env)).any (·.1)=false:=by rfl):PE X (.Call (.Name x p) (e :: es) [] pos) (aEt sp [] E t):=by
 obtain ⟨f,fd,G,b,k,m⟩:=C
 exact u_ G hr hg m k b .nil hx ha B0 he A9
def aEa (Ex:ExT) (g:GE) (u:XA):XT:=fun ρ Q=>u ρ fun ss ρ'=>g (ss.map Sv.d) (fun s=>Q s ρ') Ex
theorem fp_ {j:Nat} {x:Str} {ps:List Str} {g:GE} {e:Expr} {es:List Expr} {u:XA} {p pos:Pos} (C:rQ X.prog X.w X.K X.mg X.base j x ps (spE g)) (hr:Room j X.A) (ha:XAs X Ex (e :: es) u) (hg:Gl X x:=by rfl) (B0:(x == ("__debug__" : Str))=false:=by decide)
  (he:starEach (e :: es) X.env=(false,eval e X.env) :: starEach es X.env:=by rfl) (A9:(backTo pos (starEach es X.env)).any (·.1)=false:=by rfl):XE X Ex (.Call (.Name x p) (e :: es) [] pos) (aEa Ex g u):=fun F=>(aLa (E:=fun c _ H'=>Ex c∧o9 F H') C hr (fun Aa σ H s e s' I h=>OkF.pass Aa σ H s e s' I h) (ha F) hg B0 he A9).weak fun σ H Q=>by
 rintro ⟨ρ,fr,Qx,E,t,k⟩
 refine ⟨ρ,fr,_,E,t,fun vs ss H2 ρ2 hl E2 q2 => ?_⟩
 obtain ⟨R,hs⟩:=E2.many hl
 rw [bZ]
 exact ⟨_,_,_,Ex,R.hv,hs,q2,fun s v H' e hr q=>k v s H' ρ2 (EOk.back E2.len (R.res e hr)) q,fun c H' e q=>⟨q,fun b o h1 h2=>e b o (R.kp b o h1 h2)⟩⟩
theorem aBv {P:Program} {w:World} {H:Hp} {h:Heap} {a:Addr} {o:HO} (x:ObjOk P w H h a o):∃ ob,h.get? a=some ob:=by
 cases o with
 | lst xs=>obtain ⟨z,its,n,r,e⟩:=x; exact ⟨_,e⟩
 | tup xs=>obtain ⟨z,its,r,ob,e,c⟩:=x; exact ⟨_,e⟩
 | dK kvs=>obtain ⟨z,y,vs,r,ob,es,ep,e,c⟩:=x; exact ⟨_,e⟩
 | dT kvs=>obtain ⟨z,y,xs,r,ob,es,ep,e,c⟩:=x; exact ⟨_,e⟩
 | set S n=>obtain ⟨ob,es,ep,t,e,c⟩:=x; exact ⟨_,e⟩
 | ins C dx fs=>obtain ⟨d,z,ne,e,_⟩:=x; exact ⟨_,e⟩
 | own y=>exact x
 | xd fs=>obtain ⟨mA,⟨od,es,ep,e,c⟩,r⟩:=x; exact ⟨_,e⟩
 | rng lo hi=>obtain ⟨t,u,v,e⟩:=x; exact ⟨_,e⟩
 | frz ob u=>exact ⟨_,x.1⟩
 | tbl ps=>exact ⟨_,x⟩
 | met f y=>exact ⟨_,x⟩
 | ext φ=>exact x.2.1
theorem HOk.none {P:Program} {w:World} {H:Hp} {h:Heap} (x:HOk P w H h) {a:Addr} (n:h.get? a=.none):H a=.none:=by
 cases q:H a with
 | none=>rfl
 | some o =>
  obtain ⟨ob,e⟩:=aBv (x a o q)
  rw [n] at e; cases e
abbrev veM:List Value:=[.type "ValueError",.type "Exception",.type "BaseException",.type "object"]
abbrev aYv (X:Cx) (x:Str) (C:Addr):Prop:=PyProof.Rows.OwnCls x C veM "ValueError.__new__" X.mg X.base
def aPj (Ex:ExT) (c:Value):XS:=fun _ _=>Ex c
theorem oJ {x z:Str} {C:Addr} {np cpos pos p:Pos} {j:Nat} (O:aYv X x C) (hc:X.calm=true) (hg:Gl X x) (hd:(x == ("__debug__" : Str))=false:=by decide)
  (he:starEach [.Constant (.str z) j p] X.env=[(false,eval (.Constant (.str z) j p) X.env)]:=by rfl):XSt X Ex (.Raise (some (.Call (.Name x np) [.Constant (.str z) j p] [] cpos)) none pos) (aPj Ex (.ref C)):=fun F _ Aa s σ H D I h=>by
 obtain ⟨ρ,fr,d,E,q,k⟩:=h
 have pa:PA X [.Constant (.str z) j p] (lQ (tC (.str z)) f_):=lZ i7 zM he
 obtain ⟨tl,N,nm,qn,bs,hdct,sn,sub,ab,col,dd,k0,k1,k2,k3,k5,mN,hC,hN,Lp,T⟩:=O.obj
 refine wpAny_Raise_call_subT (C:=C) (nm:=nm) (q:=qn) (N:=N) (bs:=bs) (bm:=tl) (hdct:=hdct) (sn:=sn) (sub:=sub) (ab:=ab) (col:=col) (dd:=dd) (k0:=k0) (k1:=k1) (k2:=k2) (k3:=k3) (k5:=k5)
  PySem.F.excBase_ValueError (mN:=mN) (T.hasType PySem.F.excBase_ValueError.hasBase) (I.ok.hd hc) (by rw [he]; rfl) Lp (jh_ I hg O.bound ⟨rfl,?_⟩ hd)
 refine Calls.evalArgs_plain ?_
 refine wpAny_mono (pa cpos Aa s σ H (fun vs H1=>vs=[.str z]∧H1=H) I ⟨rfl,rfl⟩) (fun us s₂ h₂ => ?_) fun _ _ y=>y
 obtain ⟨vs,H1,I2,rv,rfl,rfl⟩:=h₂
 refine ⟨rfl,by rw [← rv.length]; show 1≤sizeLine; exact nzL (by decide) (Nat.le_of_lt jG),I2.bk _ _ hC,hN.keeps I2.bk,T.keeps I2.bk,fun h' e hm => ?_⟩
 obtain ⟨t,ht,tn,_⟩:=hm.there
 refine OkF.pass (Ex:=Ex) (F:=F) Aa σ H1 s₂ _ _ I2 ⟨e,.ref C,H1,rfl,rfl,I2.bare,Un.kept hm.keeps,I2.hok.kept hm.keeps,⟨hm.new,HOk.none I2.hok hm.new,_,_,ht,rfl,rfl,rfl,by show 1 < 6; decide,.inl rfl⟩,q,fun b o h1 h2=>E.rep.kp b o h1 h2⟩
section
variable {X:Cx} {Aa:fO} {σ:St} {H H':Hp} {s s':Shared} {h':Heap} {S:List Addr}
theorem Inv.noLoc (I:Inv X Aa σ H s) {b:Addr} {o:Obj} {vs:Array Value} (h:s.heap.get? b=some o) (hd:o.data=.fields vs):b≠X.env.locals∧∀ x c,X.env.cells.lookup x=some c→c≠b:=by
 refine ⟨fun z => ?_,fun x c e z => ?_⟩
 ·obtain ⟨m,⟨oL,es,ep,hL,hLd,_⟩,_⟩:=I.loc
  rw [z,hL] at h; cases h; rw [hLd] at hd; cases hd
 ·obtain ⟨v,o',ho,hv⟩:=I.cell x c e
  rw [z,h] at ho; cases ho; rw [hv] at hd; cases hd
theorem Inv.noted {t':Nat} (I:Inv X Aa σ H s) (kx:KeptX (frs X.stack) S s.heap h') (hS:∀ b∈S,(X.s₀.heap.get? b=none∧∀ p∈X.pn ++ Aa,p.1≠b)∧H b=none∧∃ o vs,s.heap.get? b=some o∧o.data=.fields vs):Inv X Aa σ H { s with heap:=h',toks:=t' }:=by
 have neL:∀ b o,X.s₀.heap.get? b=some o→b≠X.env.locals:=fun b o e=>cO (bN (aS e) I.ok.above)
 have nS:∀ b o,X.s₀.heap.get? b=some o→b∉S:=fun b o e z=>by rw [(hS b z).1.1] at e; cases e
 have nst:∀ b,b≠X.env.locals→b∉X.fs→b∉frs X.stack:=fun b h1 h2 z=>(aI.mp (I.stkSub b z)).elim h1 h2
 have lS:X.env.locals∉S:=fun z=>by obtain ⟨_,_,o,vs,h1,h2⟩:=hS _ z; exact (Inv.noLoc I h1 h2).1 rfl
 have cS:∀ x c,X.env.cells.lookup x=some c→c∉S:=fun x c e z=>by obtain ⟨_,_,o,vs,h1,h2⟩:=hS _ z; exact (Inv.noLoc I h1 h2).2 x c e rfl
 have cell:∀ x c,X.env.cells.lookup x=some c→∀ v,s.heap.IsCell c v→h'.IsCell c v:=fun x c e v ⟨o,ho,hd⟩=>by
  obtain ⟨sl,e2⟩:=(kx c o ho (cS x c e)).2
  exact ⟨_,e2,hd⟩
 have B:=I.base
 refine ⟨I.ok,I.os,I.bare,⟨fun b o e n hb hx => ?_,fun b o e n hb hx => ?_,B.free,fun b o e hx => ?_,B.tups,B.frzs,B.tbls⟩,?_,fun x c e => ?_,I.free,I.freeC,fun p hp => ?_,tD I.hok kx I.stkFree (fun b hb=>(hS b hb).2.1),I.len⟩
 ·exact (kx b o (B.keep b o e n hb hx) (nS b o e)).1 (nst b (neL b o e) hb)
 ·obtain ⟨sl,e1⟩:=B.slot b o e n hb hx
  obtain ⟨sl',e2⟩:=(kx b _ e1 (nS b o e)).2
  exact ⟨sl',e2⟩
 ·obtain ⟨o',e1⟩:=B.there b o e hx
  obtain ⟨sl',e2⟩:=(kx b _ e1 (nS b o e)).2
  exact ⟨_,e2⟩
 ·obtain ⟨m,⟨oL,es,ep,hL,r⟩,hl⟩:=I.loc
  obtain ⟨sl,e2⟩:=(kx _ oL hL lS).2
  refine ⟨m,⟨_,es,ep,e2,r⟩,fun i x v e1 e2 e3 => ?_⟩
  obtain ⟨u,ru,lk⟩:=hl i x v e1 e2 e3
  refine ⟨u,ru,?_⟩
  rcases lk with lk | ⟨k,c,e,z⟩
  ·exact .inl lk
  ·exact .inr ⟨k,c,e,cell x c e _ z⟩
 ·obtain ⟨v,z⟩:=I.cell x c e
  exact ⟨v,cell x c e v z⟩
 ·obtain ⟨e,n,ne,nf,d⟩:=I.pin p hp
  exact ⟨(kx p.1 p.2 e fun z=>(hS p.1 z).1.2 p hp rfl).1 (nst p.1 ne nf),n,ne,nf,d⟩
theorem Inv.caught {ea:Addr} {cls:Value} {o:Obj} {vs:Array Value} (I:Inv X Aa σ H s) (nw:X.s₀.heap.get? ea=none∧∀ p∈X.pn ++ Aa,p.1≠ea) (hn:H ea=none) (he:s.heap.get? ea=some o) (hc:o.cls=cls) (hd:o.data=.fields vs) (Eb:o.dict=none) :
  Inv X Aa σ (upd H ea (.ext (zB ea cls))) s:=by
 obtain ⟨nl,nc⟩:=Inv.noLoc I he hd
 have B:=I.base
 have ne:∀ b u,H b=some u→b≠ea:=fun b u e z=>by rw [z,hn] at e; cases e
 refine ⟨I.ok,I.os,I.bare,⟨B.keep,B.slot,fun b o e n hx => ?_,B.there,fun b xs e => ?_,fun b o xs e => ?_,fun b ps e => ?_⟩,I.loc,I.cell,?_,fun x c e => ?_,fun p hp => ?_,fun a u e => ?_,I.len⟩
 ·rw [gA fun z=>by rw [z,nw.1] at e; cases e]; exact B.free b o e n hx
 ·have:=B.tups b xs e; rw [gA (ne b _ this)]; exact this
 ·have:=B.frzs b o xs e; rw [gA (ne b _ this)]; exact this
 ·obtain ⟨more,h1⟩:=B.tbls b ps e; exact ⟨more,by rw [gA (ne b _ h1)]; exact h1⟩
 ·rw [gA (Ne.symm nl)]; exact I.free
 ·rw [gA (nc x c e)]; exact I.freeC x c e
 ·obtain ⟨e1,e2,e3⟩:=I.pin p hp
  exact ⟨e1,by rw [gA (nw.2 p hp)]; exact e2,e3⟩
 ·by_cases z:a=ea
  ·subst z
   rw [cX] at e
   cases e
   exact ⟨⟨o,vs,he,hc,hd,Eb⟩,⟨o,he⟩,fun h1 h2 ⟨o',vs',a1,a2⟩ k=>⟨o',vs',k o' a1,a2⟩⟩
  ·rw [gA z] at e
   exact ObjOk.stay (I.hok a u e) (fun b v _ hv=>hv) (fun b hb=>by rw [gA (ne b _ hb)]; exact hb) (fun b xs hb=>by rw [gA (ne b _ hb)]; exact hb)
theorem gs_ {M:Model} {A:Around} {E:hW} {i:Nat} {n:Str} {pos:Pos} {Q:Unit→Shared→Prop} (I:Inv X Aa σ H s) (hN:X.N.Nodup) (hi:X.N[i]? = some n) (hk:X.env.kindOf n=some .local)
  (h:∀ s',Inv X Aa (σ.set i none) H s'→Q () s'):wpAny M A (do bindName X.env n .none; unbindBehindTheSuite X.env n pos) Q E s:=by
 obtain ⟨m,hn,hl⟩:=id I.loc
 obtain ⟨oL,_,_,Nh,_⟩:=id hn
 have Ec:(X.env.scope.kind == .class || (X.env.scope.kind == .module && X.env.locals != X.env.globals))=false:=by rw [I.ok.kind]; rfl
 have hiσ:i < σ.length:=by rw [I.len]; exact (aF.mp hi).1
 refine wpAny_nameGoes_keeps hk hn Ec fun h' v Dv hs=>h _ ?_
 have nl:∀ b o,X.s₀.heap.get? b=some o→b≠X.env.locals:=fun b o e=>cO (bN (aS e) I.ok.above)
 refine ⟨I.ok,I.os,I.bare,⟨fun b o e n hb hx => ?_,fun b o e n hb hx => ?_,I.base.free,fun b o e hx => ?_,I.base.tups,I.base.frzs,I.base.tbls⟩,⟨_,Dv,fun j y v' e1 e2 e3 => ?_⟩,fun y c e => ?_,I.free,I.freeC,fun p hp => ?_,fun b ob e => ?_,by simpa using I.len⟩
 ·exact (hs.2 b (nl b o e)).trans (I.base.keep b o e n hb hx)
 ·obtain ⟨sl,e1⟩:=I.base.slot b o e n hb hx
  exact ⟨sl,(hs.2 b (nl b o e)).trans e1⟩
 ·obtain ⟨o',e1⟩:=I.base.there b o e hx
  exact ⟨o',(hs.2 b (nl b o e)).trans e1⟩
 ·by_cases hj:j=i
  ·subst hj
   rw [fS hiσ] at e2
   cases e2
  ·rw [dY (Ne.symm hj)] at e2
   obtain ⟨u',r',q⟩:=hl j y v' e1 e2 e3
   refine ⟨u',r',?_⟩
   rcases q with ⟨k,e⟩ | ⟨k,c,e,z⟩
   ·refine .inl ⟨k,?_⟩
    have:y≠n:=fun e=>hj (pK hN e1 (e ▸ hi))
    simp [this,e]
   ·exact .inr ⟨k,c,e,z.sameBut hs (I.cne y c e)⟩
 ·obtain ⟨v',z⟩:=I.cell y c e
  exact ⟨v',z.sameBut hs (I.cne y c e)⟩
 ·obtain ⟨e,n,ne,nf,d⟩:=I.pin p hp
  exact ⟨(hs.2 p.1 ne).trans e,n,ne,nf,d⟩
 ·refine (I.hok b ob e).stay (fun c w' hc q=>(hs.2 c ?_).trans q) (fun _ q=>q) fun _ _ q=>q
  rintro rfl
  rcases hc with rfl | hc
  ·rw [I.free] at e; cases e
  ·rw [I.free] at hc; cases hc
end
abbrev NwT (X:Cx) (Aa:fO):Addr→Prop:=fun b=>X.s₀.heap.get? b=none∧∀ p∈X.pn ++ Aa,p.1≠b
abbrev aBi (X:Cx) (Aa:fO) (σ:St) (Qe:Value→Hp→Prop):Cx:={ X with pn:=X.pn ++ Aa,xe:=fun e s' => ∃ ea cls H',e=.ref ea∧Inv X Aa σ H' s'∧Air (NwT X Aa) s'.heap H' ea cls∧Qe cls H' }
section
variable {X:Cx} {Aa:fO} {σ:St} {H:Hp} {s:Shared} {Qe:Value→Hp→Prop}
theorem Inv.inTry {σ0:St} (I:Inv X Aa σ H s):Inv (aBi X Aa σ0 Qe) [] σ H s :=
 ⟨⟨I.ok.mod,I.ok.kind,I.ok.glob,I.ok.blt,I.ok.above,I.ok.inj,I.ok.has,I.ok.cab,I.ok.hd,I.ok.frames,I.ok.stk,I.ok.exf,I.ok.bs,I.ok.bsz,I.ok.noex,I.ok.exfs,I.ok.funs,I.ok.frf⟩,I.os,I.bare,I.base,I.loc,I.cell,I.free,I.freeC,fun p hp=>I.pin p (by simpa using hp),I.hok,I.len⟩
theorem Inv.outTry {σ0:St} {pins':fO} (I:Inv (aBi X Aa σ0 Qe) pins' σ H s):Inv X Aa σ H s :=
 ⟨⟨I.ok.mod,I.ok.kind,I.ok.glob,I.ok.blt,I.ok.above,I.ok.inj,I.ok.has,I.ok.cab,I.ok.hd,I.ok.frames,I.ok.stk,I.ok.exf,I.ok.bs,I.ok.bsz,I.ok.noex,I.ok.exfs,I.ok.funs,I.ok.frf⟩,I.os,I.bare,I.base,I.loc,I.cell,I.free,I.freeC,fun p hp=>I.pin p (bJ _ hp),I.hok,I.len⟩
end
abbrev XQ:=En→(En→Prop)→(Value→En→Prop)→Prop
def tXQ (F:Fm) (σ0:St) (Qe:Value→Hp→Prop) (q:XQ):TS:=fun D σ H=>σ=σ0∧∃ ρ fr Qx Qe',EOk F ρ σ fr H∧q ρ Qx Qe'∧(∀ σ' H' ρ',σ'.length=σ.length→EOk F ρ' σ' fr H'→Qx ρ'→D.nx σ' H')∧∀ c H' ρ',EOk F ρ' σ fr H'→Qe' c ρ'→Qe c H'
def XQs (X:Cx) (sts:List Stmt) (q:XQ):Prop := ∀ Aa σ0 Qe F,PSs (aBi X Aa σ0 Qe) sts (tXQ F σ0 Qe q)
section
variable {X:Cx} {Aa:fO} {σ0:St} {Qe:Value→Hp→Prop} {F:Fm} {g:GE} {u:XA}
def aEs (F:Fm) (σ0:St) (Qe:Value→Hp→Prop) (g:GE) (u:XA):TE:=fun σ H Q=>σ=σ0∧∃ (ρ:En) (fr:List Rw) (Qx:Sv→En→Prop) (Qe':Value→En→Prop),EOk F ρ σ fr H∧(u ρ fun ss ρ'=>g (ss.map Sv.d) (fun s=>Qx s ρ') (fun c=>Qe' c ρ'))∧(∀ v s H' ρ',EOk F ρ' σ ((.v s,some v) :: fr) H'→Qx s ρ'→Q v H')∧∀ c H' ρ',EOk F ρ' σ fr H'→Qe' c ρ'→Qe c H'
theorem aFz {j:Nat} {x:Str} {ps:List Str} {e:Expr} {es:List Expr} {p pos:Pos} (C:rQ X.prog X.w X.K X.mg X.base j x ps (spE g)) (hr:Room j X.A) (ha:XAs (aBi X Aa σ0 Qe) dU (e :: es) u) (Im:X.ex=[]:=by rfl) (hg:Gl X x:=by rfl) (B0:(x == ("__debug__" : Str))=false:=by decide)
  (he:starEach (e :: es) X.env=(false,eval e X.env) :: starEach es X.env:=by rfl) (A9:(backTo pos (starEach es X.env)).any (·.1)=false:=by rfl):PE (aBi X Aa σ0 Qe) (.Call (.Name x p) (e :: es) [] pos) (aEs F σ0 Qe g u):=by
 obtain ⟨f,fd,G,hb,hk,hm⟩:=C
 intro pins' s σ H Q I h
 obtain ⟨rfl,ρ,fr,Qx,Qe',E,q,k1,k2⟩:=h
 refine wpAny_Call_Name_kw (jh_ I hg hm ?_ B0)
 refine PySem.W.callWith_K (h₀:=X.base) I.ok.mod.kin hk (fE (ha F pos pins' s σ H (fun vs H1=>spE g vs H1 Q (fun c _ H'=>Qe c H')) I ⟨ρ,fr,_,E,q,fun vs ss H2 ρ2 hl E2 q2 => ?_⟩) fun us s1 ⟨vs,H1,I1,r,q⟩=>⟨I1.kIn,?_⟩) he A9
 ·obtain ⟨R,hs⟩:=E2.many hl
  exact ⟨_,_,_,fun c=>Qe' c ρ2,R.hv,hs,q2,fun s v H' e hr q=>k1 v s H' ρ2 (EOk.back E2.len (R.res e hr)) q,fun c H' e q=>k2 c H' ρ2 ⟨E2.len,R.grow e⟩ q⟩
 ·have hl:=G.len _ _ _ _ q
  have Ch:us.length=ps.length:=by rw [← r.length]; exact hl
  refine wpAny_call (codeAny_mono (G.run X.A X.stack s1 H1 ⟨us,[]⟩ us vs Q _ hr I1.env0 (by have:=hb s1 us I1.kIn (by rw [bZ]; exact Ch); rwa [bZ] at this) r q) fun r s' hq => ?_)
  cases r with
  | error e =>
   obtain ⟨ea,cls,H',rfl,os,bare,un,hok,air,hx⟩:=hq
   refine ⟨ea,cls,H',rfl,Inv.outTry (Inv.thrown I1 os bare un hok),air.older fun b hb=>⟨?_,fun p hp z => ?_⟩,hx⟩
   ·cases qq:X.s₀.heap.get? b with
    | none=>rfl
    | some o =>
     obtain ⟨o',e'⟩:=I1.base.there b o qq (by show b∉X.ex; rw [Im]; simp)
     rw [hb] at e'; cases e'
   ·obtain ⟨e1,_⟩:=I1.pin p (bJ _ hp)
    rw [z,hb] at e1; cases e1
  | ok fl =>
   cases fl with
   | ret v=>exact I1.after hq
   | next=>exact False.elim hq
   | brk=>exact False.elim hq
   | cont=>exact False.elim hq
end
def aVi (i:Nat) (g:GE) (u:XA):XQ:=fun ρ N Qe=>u ρ fun ss ρ'=>g (ss.map Sv.d) (fun s=>N (ρ'.set i (.v s))) (fun c=>Qe c ρ')
section
variable {X:Cx} {st:Stmt} {i:Nat} {g:GE} {u:XA} {q r:XQ} {e c:Expr} {tc:XC} {pos:Pos}
theorem aPf (h:∀ Aa σ0 Qe F,PS (aBi X Aa σ0 Qe) st (xU (aEs F σ0 Qe g u) (kX i))):XQs X [st] (aVi i g u):=fun Aa σ0 Qe F=>(u8 (h Aa σ0 Qe F)).weak fun D σ H=>by
 rintro ⟨rfl,ρ,fr,Qx,Qe',E,q,k1,k2⟩
 exact ⟨rfl,ρ,fr,fun s ρ'=>Qx (ρ'.set i (.v s)),Qe',E,q,fun v s H' ρ' E' q'=>k1 _ H' _ bB (ho_ E') q',k2⟩
end
def c_ (base:Heap) (C D:Addr):Prop := ∃ nm q N bs bm hdct sn sub ab col dd k0 k1 k2 k3 k5 newId,base.get? C=some (excClassObj nm q C N bs bm hdct sn sub ab col dd k0 k1 k2 k3 k5 newId)∧(Value.ref C :: bm).contains (.ref D)=true
section
variable {M:Model} {A:Around} {E:hW} {h:Heap} {g:Array GenState} {d:Drawn} {t:Nat} {os:OsState}
theorem qJ {C D e:Addr} {oe:Obj} {Q:Bool→Shared→Prop} {nm q:Str} {N:Addr} {bs bm:List Value} {hdct:Bool} {sn:List Str} {sub:List Value} {ab:Bool} {col:Option Bool} {dd:Option Addr} {k0 k1 k2 k3 k5:Option Value} {newId:String}
  {nm' q':Str} {N':Addr} {bs' bm':List Value} {G8:Bool} {sn':List Str} {sub':List Value} {ab':Bool} {col':Option Bool} {dd':Option Addr} {k0' k1' k2' k3' k5':Option Value} {newId':String}
  (hC:h.get? C=some (excClassObj nm q C N bs bm hdct sn sub ab col dd k0 k1 k2 k3 k5 newId)) (hD:h.get? D=some (excClassObj nm' q' D N' bs' bm' G8 sn' sub' ab' col' dd' k0' k1' k2' k3' k5' newId')) (he:h.get? e=some oe) (Ec:oe.cls=.ref C)
  (Dq:bm'.contains (.type "BaseException")=true) (Ez:(Value.ref C :: bm).contains (.ref D)=true) (hq:Q true ⟨h,g,d,t,os⟩):wpAny M A (excMatches (.ref e) (.ref D)) Q E ⟨h,g,d,t,os⟩:=by
 have hcB:(Value.ref D :: bm').contains (.type "BaseException")=true:=by rw [List.contains_cons,Dq,Bool.or_true]
 have f:=tc_notTuple
 unfold excMatches
 repeat (first | (with_reducible refine wpAny_loadPart_at he ?_; rw [Ec]) | with_reducible refine wpAny_loadPart_at hD ?_ | (with_reducible refine wpAny_isSubtype_exc hD ?_; rw [hcB]) | (with_reducible refine wpAny_isSubtype_exc hC ?_; rw [Ez]) | wp_step)
 exact hq
end
abbrev aIh (X:Cx) (ea:Addr):Cx:={ X with A:=X.A.mark (some (.ref ea)),calm:=false,xe:=fun _ _=>False }
section
variable {X:Cx} {Aa:fO} {σ:St} {H:Hp} {s:Shared} {ea:Addr}
theorem Inv.inExc (I:Inv X Aa σ H s):Inv (aIh X ea) Aa σ H s :=
 ⟨⟨I.ok.mod,I.ok.kind,I.ok.glob,I.ok.blt,I.ok.above,I.ok.inj,I.ok.has,I.ok.cab,(fun z=>nomatch z),I.ok.frames,I.ok.stk,I.ok.exf,I.ok.bs,I.ok.bsz,I.ok.noex,I.ok.exfs,I.ok.funs,I.ok.frf⟩,I.os,I.bare,I.base,I.loc,I.cell,I.free,I.freeC,I.pin,I.hok,I.len⟩
theorem Inv.outExc (ok:X.Ok) (I:Inv (aIh X ea) Aa σ H s):Inv X Aa σ H s:=⟨ok,I.os,I.bare,I.base,I.loc,I.cell,I.free,I.freeC,I.pin,I.hok,I.len⟩
end
def bAl (M:Value→Prop) (jn:Nat) (q:XQ) (K:XS):XS:=fun ρ D=>q ρ D.nx fun c ρ'=>M c∧K (ρ'.set jn (vT (.exc c))) ⟨fun ρ2=>D.nx (ρ2.set jn .un),fun s ρ2=>D.rt s (ρ2.set jn .un),fun ρ2=>D.bk (ρ2.set jn .un),fun ρ2=>D.ct (ρ2.set jn .un)⟩
theorem im_ {F:Fm} {ρ:En} {σ:St} {fr:List Rw} {H:Hp} {i:Nat} (E:EOk F ρ σ fr H):EOk F (ρ.set i .un) (σ.set i none) fr H:=by
 by_cases hi:i < ρ.length
 ·refine ⟨by rw [bB,bB]; exact E.len,?_⟩
  have hz:=aFp (l:=ρ.zip σ) (i:=i) (aA (by rw [cM]; have:=E.len; omega))
  have R:=E.rep.perm (hz.append_right fr)
  exact (R.tail.addU (x:=none)).perm ((nI E.len hi).append_right fr).symm
 ·rw [dR (by omega),dR (by have:=E.len; omega)]
  exact E
theorem aPe {body suite:List Stmt} {b₀:Stmt} {cn n:Str} {jn:Nat} {Cc:Addr} {q:XQ} {K:XS} {cp hp pos:Pos} (hq:XQs X body q) (O:aYv X cn Cc) (Bb:X.stack=X.env :: X.outer) (Ce:X.env.frame=some X.env.locals) (hgc:Gl X cn) (hN:X.N.Nodup) (hi:X.N[jn]? = some n) (hk:X.env.kindOf n=some .local)
  (hh:∀ ea,XSs (aIh X ea) dU (b₀ :: suite) K) (B0:(cn == ("__debug__" : Str))=false:=by decide) (hf:X.fn n=true∨X.env.scope.names.lookup n=some .local:=by first | exact .inl rfl | exact .inr rfl) :
  XSt X Ex (.Try body [.ExceptHandler (some (.Name cn cp)) (some n) (b₀ :: suite) hp] [] [] pos) (bAl (fun c => ∃ C,c=.ref C∧c_ X.base C Cc) jn q K):=fun F _ Aa s σ H D I h=>by
 obtain ⟨ρ,fr,d,E,t,k⟩:=h
 let Qe:Value→Hp→Prop:=fun c H' => ∃ ρ',EOk F ρ' σ fr H'∧(∃ C,c=.ref C∧c_ X.base C Cc)∧K (ρ'.set jn (vT (.exc c))) ⟨fun ρ2=>d.nx (ρ2.set jn .un),fun s ρ2=>d.rt s (ρ2.set jn .un),fun ρ2=>d.bk (ρ2.set jn .un),fun ρ2=>d.ct (ρ2.set jn .un)⟩
 refine wpAny_Try_except (wpAny_mono (hq Aa σ Qe F [] s σ H ⟨D.nx,fun _ _=>False,fun _ _=>False,fun _ _=>False⟩ (Inv.inTry I) ⟨rfl,ρ,fr,d.nx,_,E,t,fun σ' H' ρ' hl E' q'=>k.nx σ' H' ρ' hl E' q',fun c H' ρ' E' q'=>⟨ρ',E',q'⟩⟩) (fun f s₁ h₁ => ?_) fun e s₁ h₁ => ?_)
 ·cases f with
  | next =>
   obtain ⟨σ',H',I',q'⟩:=h₁
   exact wpAny_execs_nil ⟨σ',H',Inv.outTry I',q'⟩
  | brk=>obtain ⟨_,_,_,q'⟩:=h₁; exact q'.elim
  | cont=>obtain ⟨_,_,_,q'⟩:=h₁; exact q'.elim
  | ret u=>obtain ⟨_,_,_,_,_,q'⟩:=h₁; exact q'.elim
 ·obtain ⟨ea,cls,H',rfl,I1,air,ρ',E1,⟨C,rfl,hUn⟩,hK⟩:=h₁
  have fr1:X.A.frames=some (X.env :: X.outer):=by rw [← Bb]; exact I1.ok.frames
  refine yH (base:=X.base) (nw:=NwT X Aa) (H:=H') (L:=X.env.locals) fr1 (by rw [← Bb]; exact I1.stack) Ce (fun T hT=>⟨Heap.get?_none_of_le (nzL I1.sz hT),fun p hp z => ?_⟩) (fun a ha=>I1.hok.fresh ha) air fun h2 S hS kx air2 => ?_
  ·obtain ⟨e1,_⟩:=I1.pin p hp
   exact absurd (aS e1) (by rw [z]; exact Nat.not_lt.mpr hT)
  have I2:Inv X Aa σ H' { s₁ with heap:=h2 }:=Inv.noted (t':=s₁.toks) I1 (by rw [Bb]; exact kx) hS
  generalize C2:({ s₁ with heap:=h2 }:Shared)=s₂ at I2 ⊢
  have air3:Air (NwT X Aa) s₂.heap H' ea (.ref C):=by rw [← C2]; exact air2
  clear air2 C2 kx hS I1
  obtain ⟨nm,qn,N,bs,bm,hdct,sn,sub,ab,col,dd,k0,k1,k2,k3,k5,newId,hC,Ez⟩:=hUn
  obtain ⟨tl,N',nm',qn',bs',G8,sn',sub',ab',col',dd',k0',k1',k2',k3',k5',mN',hD,hN',hni',T'⟩:=O.obj
  obtain ⟨nw,Kw,oe,vs,he,hc,hd,Eb,hsz,a3⟩:=air3
  refine wpAny_handleBy_cons (codeAny_handlers_test (jh_ (X:=aIh X ea) (Inv.inExc I2) hgc O.bound ?_ B0)) (by intro z; cases z)
  obtain ⟨Ij,g2,d2,t2,Km⟩:=s₂
  refine qJ (I2.bk _ _ hC) (I2.bk _ _ hD) he hc (T'.hasType PySem.F.excBase_ValueError.hasBase) Ez ?_
  rw [if_pos rfl]
  refine codeAny_handlers_suite_as ?_
  have fl:∀ {Q:Unit→Shared→Prop} {E':hW},(∀ h3,Inv X Aa σ H' ⟨h3,g2,d2,t2,Km⟩→(∃ o vs,h3.get? ea=some o∧o.cls=.ref C∧o.data=.fields vs∧o.dict=none)→Q () ⟨h3,g2,d2,t2,Km⟩)→wpAny (model X.prog X.w) (X.A.mark (some (.ref ea))) (setFlight (.ref ea) none) Q E' ⟨Ij,g2,d2,t2,Km⟩:=fun {Q E'} hQ=>by
   rcases a3 with a3 | ⟨T,oT,ts,a3,aT,aN,aH,hT,Dz,h3⟩
   ·unfold setFlight
    refine wpAny_bind (wpAny_field he hd a3 ?_)
    rw [if_neg (by decide)]
    exact wpAny_pure (hQ Ij I2 ⟨oe,vs,he,hc,hd,Eb⟩)
   ·refine wpAny_setFlight_none he hd a3 hT Dz h3 (hQ _ ?_ ⟨oe,vs,?_,hc,hd,Eb⟩)
    ·refine Inv.noted (s:=⟨Ij,g2,d2,t2,Km⟩) (S:=[T]) (t':=t2) I2 (fun b o hb D0 => ?_) (fun b hb=>by rw [aO.mp hb]; exact ⟨aN,aH,oT,ts,hT,Dz⟩)
     have n2:b≠T:=fun z=>D0 (aO.mpr z)
     have e2:=(bM Ij (Obj.mapFields (·.setIfInBounds 3 Value.none)) (Ne.symm n2)).trans hb
     exact ⟨fun _=>e2,o.slots,e2⟩
    ·exact (bM _ _ aT).trans he
  refine fl fun h3 I3 ⟨o3,vs3,he3,No,hd3,Md⟩ => ?_
  have I4:=Inv.caught I3 nw Kw he3 No hd3 Md
  refine iw_ (X:=aIh X ea) (v:=.ref ea) (Inv.inExc I4) hN hi (.inl hk) rfl (fun s5 I5 _ => ?_) hf
  have e4:Same H' (upd H' ea (.ext (zB ea (.ref C)))):=id_ Kw _
  have E4:=E1.grow e4
  have E5:EOk F (ρ'.set jn (vT (.exc (.ref C)))) (σ.set jn (some (.ref ea))) fr (upd H' ea (.ext (zB ea (.ref C)))):=by
   refine ho_ (EOk.back E4.len (E4.rep.add (IsX.of_exc (bQ.mpr ⟨E1.rep.not_own Kw,(rS (E1.rep.fresh Kw)).trans ?_⟩))))
   rw [cX]; rfl
  have ends:DOk F (σ.set jn (some (.ref ea))).length fr ⟨fun σ' H2=>D.nx (σ'.set jn none) H2,fun v H2=>D.rt v H2,fun σ' H2=>D.bk (σ'.set jn none) H2,fun σ' H2=>D.ct (σ'.set jn none) H2⟩ ⟨fun ρ2=>d.nx (ρ2.set jn .un),fun s ρ2=>d.rt s (ρ2.set jn .un),fun ρ2=>d.bk (ρ2.set jn .un),fun ρ2=>d.ct (ρ2.set jn .un)⟩:=by
   have hl:(σ.set jn (some (.ref ea))).length=σ.length:=bB
   refine ⟨fun σ' H2 ρ2 h1 h2 h3=>k.nx _ H2 _ (by rw [bB,h1,hl]) (im_ h2) h3,fun v s σ' H2 ρ2 h1 h2 h3=>k.rt v s (σ'.set jn none) H2 _ (by rw [bB,h1,hl]) (im_ h2) h3,fun σ' H2 ρ2 h1 h2 h3=>k.bk _ H2 _ (by rw [bB,h1,hl]) (im_ h2) h3,fun σ' H2 ρ2 h1 h2 h3=>k.ct _ H2 _ (by rw [bB,h1,hl]) (im_ h2) h3⟩
  refine wpAny_mono (hh ea F Aa s5 _ _ _ I5 ⟨_,fr,_,E5,hK,ends⟩) (fun f s6 h6 => ?_) fun _ _ z=>False.elim z
  cases f with
  | next =>
   obtain ⟨σ',H2,I6,q6⟩:=h6
   exact gs_ (Inv.outExc I4.ok I6) hN hi hk fun s7 I7=>⟨_,H2,I7,q6⟩
  | brk =>
   obtain ⟨σ',H2,I6,q6⟩:=h6
   exact gs_ (Inv.outExc I4.ok I6) hN hi hk fun s7 I7=>⟨_,H2,I7,q6⟩
  | cont =>
   obtain ⟨σ',H2,I6,q6⟩:=h6
   exact gs_ (Inv.outExc I4.ok I6) hN hi hk fun s7 I7=>⟨_,H2,I7,q6⟩
  | ret u =>
   obtain ⟨v,σ',H2,I6,rv,q6⟩:=h6
   exact gs_ (Inv.outExc I4.ok I6) hN hi hk fun s7 I7=>⟨v,_,H2,I7,rv,q6⟩
end Lf
namespace PySem.W
open PySem PySem.Spec PySem.Calls PyProof.Rows
section
variable {prog:Program} {w:World} {A:Around} {E:hW} {s:Shared} {K:Frag} {x C D:Addr} {ox:Obj} {od:Obj} {odo:Option Obj} {name:Str}
theorem aCc {M:Model} {nameV:Value} {Q:Unit→Shared→Prop} (X:K.In s.heap) (I:InstAt s.heap x ox D odo) (hm:mroIn K D (.type "BaseException")=some true) (hq:Q () s):wpAny M A (checkBuiltinCall "BaseException.__getattribute__" ⟨[.ref x,nameV],[]⟩) Q E s:=by
 have hk:builtinKind "BaseException.__getattribute__" = some .slot:=by decide +kernel
 have Hh:splitId "BaseException.__getattribute__" = some ("BaseException","__getattribute__"):=by decide +kernel
 have ha:=F.args_bexc_ga (.ref x) nameV
 have L0:=I.type (M:=M)
 have L1:=looks_mroIn (M:=M) X hm
 obtain ⟨hh,g,d,t,os⟩:=s
 simp only [checkBuiltinCall,hk,Hh]
 refine wpAny_bind ?_
 unfold isInstance
 refine wpAny_bind (L0.at (L1.at ?_))
 repeat (first | assumption | wp_step)
theorem aCb {Q:Option Value→Shared→Prop} (X:K.In s.heap) (I:InstAt s.heap x ox D odo) (hga:findIn K (.ref D) "__getattribute__" = some (some (.builtin "BaseException.__getattribute__"))) (hk:findIn K (.ref D) "__getattr__" = some none)
  (hm:mroIn K D (.type "BaseException")=some true) (Jv:mroIn K D (.type "object")=some true) (hf:findObj K D odo "__class__" = some (.bind (.builtin "getset_descriptor.__get__") (.builtin "object.__class__")))
  (h:Q (some (.ref D)) { s with toks:=s.toks + 1 }):wpAny (model prog w) A (getAttr? (.ref x) "__class__") Q E s:=by
 have GA:=(F.excAttr_ValueError).ga
 obtain ⟨hh,g,d,t,os⟩:=s
 have L0:=I.type (M:=model prog w)
 have L1:=looks_findIn (M:=model prog w) X hga
 have L2:=looks_findIn (M:=model prog w) X hk
 have L3:=looks_find (M:=model prog w) X I hf
 have f3:=GA.bind (.ref x)
 unfold getAttr? getAttrBy? getAttrBy
 refine wpAny_bind (wpAny_mkText (wpAny_bind (wpAny_attempt (wpAny_holding (wpAny_bind (L0.at (wpAny_bind (L1.at ?_))))))))
 dsimp only
 rw [if_neg (show ¬ (onTheHeap (Value.ref D) && (Value.builtin "BaseException.__getattribute__" == Value.builtin "object.__getattribute__"))=true from by rw [show (Value.builtin "BaseException.__getattribute__" == Value.builtin "object.__getattribute__")=false from by decide +kernel,Bool.and_false]; exact aX)]
 unfold getAttrByItsOwn hookBefore
 rw [if_pos (show onTheHeap (Value.ref D)=true from rfl)]
 refine wpAny_bind (L2.at (wpAny_bind (wpAny_attempt (wpAny_holding ?_))))
 unfold callGetattribute
 rw [if_neg (by decide)]
 unfold boundAndCalled
 repeat (any_goals (first | assumption | wp_step))
 refine codeAny_call_builtin GA.plain F.entry_bexc_ga (aCc (s:=⟨hh,g,d,t + 1,os⟩) X I hm ?_)
 unfold Builtin.«object.__getattribute__»
 repeat (any_goals (first | assumption | with_reducible refine wpAny_bind (L0.at ?_) | with_reducible refine wpAny_bind (L3.at ?_) | wp_step))
 refine class_get (s:=⟨hh,g,d,t + 1,os⟩) X I Jv ?_
 repeat (any_goals (first | assumption | wp_step))
def excKit (K:Frag) (D:Addr):Bool:=(findIn K (.ref D) "__getattribute__" == some (some (.builtin "BaseException.__getattribute__"))) && (findIn K (.ref D) "__getattr__" == some none) && (mroIn K D (.type "BaseException") == some true) && (mroIn K D (.type "object") == some true) &&
 (findIn K (.ref D) "__class__" == some (some (.builtin "object.__class__"))) && (specialIn K (.builtin "object.__class__") "__get__" == some (some (.builtin "getset_descriptor.__get__"))) && (takesIn K (.builtin "object.__class__") == some true)
theorem kitx_exc {x D:Addr} (hk:excKit K D=true):KitX K (.ref x) (.ref D) (fun h => ∃ ox,InstAt h x ox D none):=by
 simp only [excKit,cZ,beq_iff_eq] at hk
 obtain ⟨⟨⟨⟨⟨⟨h1,h2⟩,h3⟩,h4⟩,h5⟩,h6⟩,h7⟩:=hk
 have Ec:∃ cd,clsIn K D=some cd:=by
  obtain ⟨cd,a,_⟩:=fH.mp h3
  exact ⟨cd,a⟩
 obtain ⟨cdD,Hw⟩:=Ec
 have hf:findObj K D none "__class__" = some (.bind (.builtin "getset_descriptor.__get__") (.builtin "object.__class__")):=by
  unfold findObj
  rw [Hw,dJ,h5,dJ]
  simp [h6,h7]
 refine ⟨fun _ _ _ ⟨ox,I⟩=>I.type,fun _ _ X _ => ?_,fun h tp dd its n sl X htp => ?_,fun {_ _ _ _ _ _} X ⟨ox,I⟩ k=>aCb X I h1 h2 h3 h4 hf k⟩
 ·unfold clsIn at Hw
  split at Hw
  ·rename_i c' d' cd' sl' ho
   intro A' Q' E' s' k q
   unfold isType loadHead
   exact wpAny_bind (wpAny_loadPart (k _ _ (X _ _ ho)) (wpAny_pure q))
  ·cases Hw
 ·refine Bool.eq_false_iff.mpr fun q => ?_
  have e:D=tp:=Value.ref.inj (beq_iff_eq.mp q)
  subst e
  unfold clsIn at Hw
  split at Hw
  ·rename_i c' d' cd' sl' ho
   have z:=(X _ _ ho).symm.trans htp
   cases z
  ·cases Hw
end
end PySem.W
namespace Lf
open PySem L2
open PySem.W (Frag nsIn)
def vL (K:Frag) (N:Addr) (n:Str):Bool:=match K.lookup N with
 | some ⟨_,_,.dict es _,_⟩=>es.toList.all (fun e=>match e.key with | .str _ _=>true | _=>false) && (es.toList.find? (·.key.isStr n)).isNone
 | _=>false
def gR (K:Frag):Nat→List Value→Bool
 | n + 1,.ref A :: r=>(match K.lookup A with
  | some ⟨_,_,.cls cd,_⟩=>vL K cd.ns "__init__" && gR K n r
  | _=>false)
 | _,l=>l == veM
def nF (K:Frag) (C:Addr):Bool:=match K.lookup C with
 | some ⟨.type "type",_,.cls cd,sl⟩=>(match cd.mro with
  | .ref C' :: tl=>C' == C && cd.hasDel == false && sl.size == 6 && sl[4]? == some (some (.builtin "ValueError.__new__")) && vL K cd.ns "__init__" && gR K 4 tl
  | _=>false) && PySem.W.excKit K C
 | _=>false
def lV (K:Frag) (n:Str):Option Addr:=match nsIn K mainGlobals n with
 | some (some (.ref C))=>some C
 | _=>none
def aBe (K:Frag) (C D:Addr):Bool:=match K.lookup C with
 | some ⟨_,_,.cls cd,_⟩=>cd.mro.contains (.ref D)
 | _=>false
def aRz (K:Frag) (ns:List Str):List (Bool×List (Option Bool×Bool)×Option Bool×Option Bool):=ns.map fun n=>match lV K n with
 | some C=>(nF K C,ns.map (fun m=>match lV K m with | some D=>(PySem.W.kitOne K (.ref C) (.ref D),aBe K C D) | none=>(none,false)),PySem.W.kitOne K (.ref C) (.type "ValueError"),PySem.W.kitOne K (.type "NoneType") (.ref C))
 | none=>(false,[],none,none)
section
variable {K:Frag} {h:Heap}
theorem sV {N:Addr} {n:Str} (e:vL K N n=true) (X:K.In h):∃ m,h.Ns N m∧m n=none:=by
 unfold vL at e
 split at e
 ·rename_i c d es ep sl q
  obtain ⟨e1,e2⟩:=gL.mp e
  refine ⟨nsFind es,⟨_,es,ep,X _ _ q,rfl,fun en hen => ?_,fun _=>rfl⟩,?_⟩
  ·have:=gP.mp e1 en (by simpa using hen)
   split at this
   ·rename_i x t hk; exact ⟨x,t,hk⟩
   ·cases this
  ·unfold nsFind findBy
   rw [← Array.find?_toList]
   rw [Option.isNone_iff_eq_none] at e2
   rw [e2]
   rfl
 ·cases e
theorem oV:∀ (k:Nat) (l:List Value),gR K k l=true→K.In h→OwnTail h veM l
  | 0, l, e, X => by
    have:l=veM:=by simpa [gR] using e
    rw [this]; exact .base
  | k + 1, [], e, X => by
    have:([]:List Value)=veM:=by simpa [gR] using e
    rw [this]; exact .base
  | k + 1, v :: r, e, X => by
    cases v with
    | ref A =>
      unfold gR at e
      split at e
      · rename_i c d cd sl q
        obtain ⟨e1,e2⟩:=gL.mp e
        obtain ⟨m,hm,hn⟩:=sV e1 X
        exact .own (X _ _ q) hm hn (oV k r e2 X)
      · cases e
    | none => have : Value.none :: r = veM := by simpa [gR] using e
              cases this
    | bool b => have : Value.bool b :: r = veM := by simpa [gR] using e
                cases this
    | int i t => have : Value.int i t :: r = veM := by simpa [gR] using e
                 cases this
    | str x t => have : Value.str x t :: r = veM := by simpa [gR] using e
                 cases this
    | bytes x t => have : Value.bytes x t :: r = veM := by simpa [gR] using e
                   cases this
    | float x t => have : Value.float x t :: r = veM := by simpa [gR] using e
                   cases this
    | builtin x => have : Value.builtin x :: r = veM := by simpa [gR] using e
                   cases this
    | type T => have : Value.type T :: r = veM := by simpa [gR] using e
                rw [this]; exact .base
    | _=>first | (simp [gR] at e; done) | (exfalso; revert e; simp [gR])
theorem tL {C:Addr} {x:Str} {mg:lN} (e:nF K C=true) (hm:mg x=some (.ref C)) (X:K.In h):PyProof.Rows.OwnCls x C veM "ValueError.__new__" mg h:=by
 unfold nF at e
 split at e
 ·rename_i dd cd sl q
  obtain ⟨e1,_⟩:=gL.mp e
  split at e1
  ·rename_i C' tl Ju
   simp only [cZ,beq_iff_eq] at e1
   obtain ⟨⟨⟨⟨⟨rfl,h2⟩,h3⟩,h4⟩,h5⟩,h6⟩:=e1
   obtain ⟨m,Db,Lp⟩:=sV h5 X
   have Li:sl = #[sl.getD 0 none,sl.getD 1 none,sl.getD 2 none,sl.getD 3 none,some (.builtin "ValueError.__new__"),sl.getD 5 none]:=by
    apply Array.ext_getElem?
    intro i
    match i with
    | 0=>simp [h3]
    | 1=>simp [h3]
    | 2=>simp [h3]
    | 3=>simp [h3]
    | 4=>simp [h4]
    | 5=>simp [h3]
    | i + 6=>rw [Array.getElem?_eq_none (by rw [h3]; omega),Array.getElem?_eq_none (by simp)]
   refine ⟨hm,tl,cd.ns,cd.name,cd.qualname,cd.bases,cd.hasDict,cd.slotNames,cd.subclasses,cd.abstract,cd.collection,dd,sl.getD 0 none,sl.getD 1 none,sl.getD 2 none,sl.getD 3 none,sl.getD 5 none,m,?_,Db,Lp,oV 4 tl h6 X⟩
   have:=X _ _ q
   rw [this]
   obtain ⟨nm,bs,mro,ns,qn,hd,sn,sub,ab,col,hdel⟩:=cd
   dsimp only at Ju h2 ⊢
   subst Ju h2
   unfold excClassObj
   rw [← Li]
  ·cases e1
 ·cases e
theorem aCs {C:Addr} (e:nF K C=true):PySem.W.excKit K C=true:=by
 unfold nF at e
 split at e
 ·exact (gL.mp e).2
 ·cases e
theorem zW {C D:Addr} (e:nF K C=true) (hu:aBe K C D=true) (X:K.In h):c_ h C D:=by
 obtain ⟨_,tl,N,nm,q,bs,hdct,sn,sub,ab,col,dd,k0,k1,k2,k3,k5,mN,hC,_⟩:=tL (x := "x") (mg:=fun _=>some (.ref C)) e rfl X
 refine ⟨nm,q,N,bs,tl,hdct,sn,sub,ab,col,dd,k0,k1,k2,k3,k5,_,hC,?_⟩
 unfold aBe at hu
 split at hu
 ·rename_i c d cd sl ql
  have:=X _ _ ql
  rw [hC] at this
  cases this
  exact hu
 ·cases hu
end
def isC (K:Frag) (c:Value):Dx→Option Bool
 | .non=>PySem.W.kitOne K (.type "NoneType") c
 | .exc (.ref C)=>if PySem.W.excKit K C=true then PySem.W.kitOne K (.ref C) c else none
 | _=>none
def aHq (K:Frag) (cs:List Value):Dx→Option Bool
 | .non=>PySem.W.kitAny K (.type "NoneType") cs
 | .exc (.ref C)=>if PySem.W.excKit K C=true then PySem.W.kitAny K (.ref C) cs else none
 | _=>none
def aKd (f:Dx→Option Bool) (t:XT):XT:=fun ρ Q=>t ρ fun s ρ'=>match f s.d with
 | some b=>Q (.tr (.bl b)) ρ'
 | none=>False
theorem zA {X:Cx} {Aa:fO} {σ:St} {H:Hp} {s:Shared} {a C:Addr} (I:Inv X Aa σ H s) (h:H a=some (.ext (zB a (.ref C)))):∃ ox,PySem.W.InstAt s.heap a ox C none:=by
 obtain ⟨⟨o,vs,h1,h2,h3,h4⟩,_⟩:=(show ObjOk X.prog X.w H s.heap a (.ext (zB a (.ref C))) from I.hok a _ h)
 refine ⟨o,h1,h2,?_,?_⟩
 ·unfold PySem.W.notCls; rw [h3]
 ·rw [h4]; trivial
theorem aIz {X:Cx} {c:Value} {vc:V} (hv:∀ u,RelV vc u→u=c):CallR X (.builtin "isinstance") (fun xs H Q => ∃ x d b,xs=[x,vc]∧IsX H d x∧isC X.K c d=some b∧Q (.bl b) H):=by
 intro Aa s σ H xs us Q I r h
 obtain ⟨x,d,b,rfl,hx,hb,q⟩:=h
 obtain ⟨u,w',rfl,r1,r2⟩:=oU r
 cases hv _ r2
 cases d with
 | non=>cases hx.non_eq; cases (show u=Value.none from r1); exact PySem.W.kia_one PySem.W.kitx_none I.kIn True.intro hb (fun z=>nomatch z) (fun tk=>⟨.bl _,H,I.tok _,rfl,q⟩)
 | exc e =>
  cases e with
  | ref C =>
   simp only [isC] at hb
   split at hb
   ·rename_i hk
    obtain ⟨a,rfl,h1⟩:=hx.exc_eq
    cases (show u=Value.ref a from r1)
    exact PySem.W.kia_one (PySem.W.kitx_exc hk) I.kIn (zA I h1) hb (fun z=>nomatch z) (fun tk=>⟨.bl _,H,I.tok _,rfl,q⟩)
   ·cases hb
  | _=>cases hb
 | _=>cases hb
theorem aDc {X:Cx} {cs:List Value} {vcs:List V} (hv:∀ us,Vals vcs us→us=cs):CallR X (.builtin "isinstance") (fun xs H Q => ∃ x d b p,xs=[x,.ref p]∧IsX H d x∧H p=some (.tup vcs)∧aHq X.K cs d=some b∧Q (.bl b) H):=by
 intro Aa s σ H xs us Q I r h
 obtain ⟨x,d,b,p,rfl,hx,hp,hb,q⟩:=h
 obtain ⟨u,w',rfl,r1,r2⟩:=oU r
 cases r2
 obtain ⟨_,its,rv,o,h2,h3,n',h4⟩:=(show ObjOk X.prog X.w H s.heap p (.tup vcs) from I.hok p _ hp)
 have ei:=hv its rv
 subst ei
 obtain ⟨cls,dd,data,sl⟩:=o
 dsimp only at h3 h4
 subst h3 h4
 cases d with
 | non=>cases hx.non_eq; cases (show u=Value.none from r1); exact PySem.W.kia_tup PySem.W.kitx_none I.kIn True.intro h2 hb (fun z=>nomatch z) (fun tk=>⟨.bl _,H,I.tok _,rfl,q⟩)
 | exc e =>
  cases e with
  | ref C =>
   simp only [aHq] at hb
   split at hb
   ·rename_i hk
    obtain ⟨a,rfl,h1⟩:=hx.exc_eq
    cases (show u=Value.ref a from r1)
    exact PySem.W.kia_tup (PySem.W.kitx_exc hk) I.kIn (zA I h1) h2 hb (fun z=>nomatch z) (fun tk=>⟨.bl _,H,I.tok _,rfl,q⟩)
   ·cases hb
  | _=>cases hb
 | _=>cases hb
theorem d6 {e:Expr} {t:XT} {nm:Str} {p q pos:Pos} {c:Value} {vc:V} (K:Frag) (hm:X.mg "isinstance" = none) (h:XE X Ex e t) (hT:PE X (.Name nm q) (tC vc)) (hv:∀ u,RelV vc u→u=c) (hK:X.K=K:=by rfl) (hg:Gl X "isinstance" := by rfl)
  (he:starEach [e,.Name nm q] X.env=(false,eval e X.env) :: starEach [.Name nm q] X.env:=by rfl) (F2:starEach [.Name nm q] X.env=(false,eval (.Name nm q) X.env) :: starEach [] X.env:=by rfl) (A9:(backTo pos (starEach [.Name nm q] X.env)).any (·.1)=false:=by rfl):XE X Ex (.Call (.Name "isinstance" p) [e,.Name nm q] [] pos) (aKd (isC K c) t):=fun F=>by
 subst hK
 exact (gr_ (aIz hv) hg hm ds_ (lZ (h F) (lZ hT zM F2) he) (by decide) (by decide) he A9).weak fun σ H Q=>by
  rintro ⟨ρ,fr,Qx,E,t,k⟩
  refine ⟨ρ,fr,_,E,t,fun v s H' ρ' E' q => ?_⟩
  obtain ⟨R,hx⟩:=E'.one
  split at q
  ·rename_i b hb
   exact ⟨v,s.d,b,rfl,hx.to R.hv,hb,k _ _ H' ρ' (EOk.back E'.len (R.add (IsX.of_bl _))) q⟩
  ·exact q.elim
theorem aKa {e:Expr} {es:List Expr} {t:XT} {p q3 pos:Pos} {j:Nat} {cs:List Value} {vcs:List V} {ta:TA} (K:Frag) (hm:X.mg "isinstance" = none) (h:XE X Ex e t) (hT:PA X es ta) (ht:∀ σ H Q,Q vcs H→ta σ H Q) (hv:∀ us,Vals vcs us→us=cs) (hl:vcs.length≤1000) (hK:X.K=K:=by rfl) (hg:Gl X "isinstance" := by rfl)
  (he:starEach [e,.Tuple es j q3] X.env=(false,eval e X.env) :: starEach [.Tuple es j q3] X.env:=by rfl) (F2:starEach [.Tuple es j q3] X.env=(false,eval (.Tuple es j q3) X.env) :: starEach [] X.env:=by rfl)
  (A9:(backTo pos (starEach [.Tuple es j q3] X.env)).any (·.1)=false:=by rfl):XE X Ex (.Call (.Name "isinstance" p) [e,.Tuple es j q3] [] pos) (aKd (aHq K cs) t):=fun F=>by
 subst hK
 exact (gr_ (aDc hv) hg hm ds_ (lZ (h F) (lZ (vA hT) zM F2) he) (by decide) (by decide) he A9).weak fun σ H Q=>by
  rintro ⟨ρ,fr,Qx,E,t,k⟩
  refine ⟨ρ,fr,_,E,t,fun v s H' ρ' E' q=>ht _ _ _ ⟨by have:=jG; omega,fun p hp => ?_⟩⟩
  obtain ⟨R,hx⟩:=E'.one
  have e:Same H' (upd H' p (.tup vcs)):=id_ hp _
  have R2:=R.grow e
  split at q
  ·rename_i b hb
   exact ⟨v,s.d,b,p,rfl,(hx.to R.hv).to e,cX,hb,k _ _ _ ρ' (EOk.back E'.len (R2.add (IsX.of_bl _))) q⟩
  ·exact q.elim
end Lf
namespace L2
open PySem PySem.Spec PySem.SeqAt PySem.AutoSeq1 PySem.MeetsSeq PyProof.Rows
section
variable {A:Around} {s:Shared}
def DictH (h:Heap) (l:Addr):Prop := ∃ es n dd sl,h.get? l=some { cls:=.type "dict",dict:=dd,data:=.dict es n,slots:=sl }
theorem DictH.of {P:Program} {w:World} {h:Heap} {a:Addr} {vs} (d:h.DictOf (fG P w) a vs):DictH h a:=by
 obtain ⟨⟨cls,dd,data,sl⟩,es,ep,ho,⟨e1,_,_⟩,e2,_⟩:=d
 simp only at e1 e2
 subst e1 e2
 exact ⟨_,_,_,_,ho⟩
end
def Itv (K:eE) (a:Addr) (n:Nat):It :=
 ⟨fun i H => ∃ xs x,SqL K H a xs∧xs.length=n∧xs.reverse[i]? = some x,fun i H x H'=>H'=H∧∀ xs,SqL K H a xs→xs.reverse[i]? = some x,fun i _=>n≤i⟩
theorem aEn {P:Program} {w:World} {K:eE} {tg:Expr} (a it:Addr) (n:Nat):Turn P w K tg (Itv K a n) [it] it (fun i h=>i≤n∧h.IsRevIter it a ((n:Int) - 1 - i)) where
 mem:=by simp
 obj:=fun i h st b hb=>by
  have e:b=it:=by simpa using hb
  subst e
  obtain ⟨_,o,e,c,d⟩:=st
  exact ⟨o,e,fun v z=>by rw [d] at z; cases z⟩
 keep:=fun i h h' st k=>⟨st.1,st.2.at fun o e=>k it (by simp) o e⟩
 item:=by
  intro X hP hw hK hc i Aa s σ H E I hf st hg
  subst hP hw hK
  replace st:=st.2
  obtain ⟨xs,x,hq,hn,hx⟩:=hg
  subst hn
  obtain ⟨its,rv,p,hz⟩:=I.list hq
  obtain ⟨f0,f1,f2,f3,f4,f5⟩:=hf it (by simp)
  have hi:i < xs.length:=by
   have:=(aF.mp hx).1
   rwa [List.length_reverse] at this
  have Ey:xs[xs.length - 1 - i]? = some x:=by rw [List.getElem?_reverse hi] at hx; exact hx
  obtain ⟨u,hu,ru⟩:=rv.get Ey
  have e1:(xs.length:Int) - 1 - (i:Int)=((xs.length - 1 - i:Nat):Int):=by omega
  rw [e1] at st
  refine wpAny_pyNext_rev_item st p.isList (x:=u) (by simpa using hu) fun h' st' sb => ?_
  have e2:((xs.length - 1 - i:Nat):Int) - 1=(xs.length:Int) - 1 - ((i + 1:Nat):Int):=by omega
  rw [e2] at st'
  have I1:Inv X Aa σ H { s with heap:=h' }:=I.turned (t':=s.toks) (fun b o hb e=>(sb.2 b hb).trans e) f0 f1 f3 f4 f5
  obtain ⟨o,e,c,d⟩:=id st'
  exact ⟨u,rfl,yU (s:={ s with heap:=h' }) e c d (by decide) ⟨x,H,I1,ru,⟨rfl,fun ys hy=>by rw [I.list_inj hy hq]; exact hx⟩,⟨hi,st'⟩,fun b hb=>(hf b hb).1⟩⟩
 done:=by
  intro X hP hw hK hc i Aa s σ H E I hf st hg
  subst hP hw hK
  have hx:i=n:=Nat.le_antisymm st.1 hg
  subst hx
  replace st:=st.2
  obtain ⟨f0,f1,f2,f3,f4,f5⟩:=hf it (by simp)
  have e1:(i:Int) - 1 - (i:Int) = -1:=by omega
  rw [e1] at st
  exact wpAny_pyNext_rev_end (I.ok.hd hc) st fun h' eb=>⟨rfl,I.turned (t':=s.toks) (fun b o hb e=>eb b o hb e) f0 f1 f3 f4 f5⟩
 self:=fun _ _ _ _ _ st h=>wpAny_pyIter_revIter st.2 h
theorem b8:bootBuiltins "reversed" = some (.type "reversed"):=by decide +kernel
def bBw (K:eE) (ta:TA):TI:=fun σ H R=>ta σ H fun vs H1 => ∃ a xs,vs=[.ref a]∧SqL K H1 a xs∧R (Itv K a xs.length) H1
theorem aQj {X:Cx} {tg ea:Expr} {ta:TA} {p pos:Pos} (hg:Gl X "reversed") (hm:X.mg "reversed" = none) (ha:PA X [ea] ta) (hs:starEach [ea] X.env=[(false,eval ea X.env)]:=by rfl) :
  PI X tg (.Call (.Name "reversed" p) [ea] [] pos) (bBw X.K ta):=by
 intro Aa s σ H R I h
 refine Call_ (hw_ I hg hm b8 (fQ (fE (ha pos Aa s σ H _ I h) fun us s1 ⟨vs,H1,I1,r1,q1⟩ => ?_) hs rfl))
 obtain ⟨a,xs,e,w1,q⟩:=q1
 subst e
 obtain ⟨u,rfl,ru⟩:=jQ r1
 cases ru
 obtain ⟨its1,r2,p1,z1⟩:=I1.list w1
 have Aj:=r2.length
 refine call_reversed_list p1.isList ?_
 have st:(s1.heap.push (revObj a ((its1.toArray.size:Int) - 1))).IsRevIter s1.heap.objs.size a ((xs.length:Int) - 1 - ((0:Nat):Int)):=by
  have e:((its1.toArray.size:Nat):Int) - 1=(xs.length:Int) - 1 - ((0:Nat):Int):=by simp [Aj]
  rw [e]
  exact ⟨_,bC _ rfl,rfl,rfl⟩
 refine wpAny_pyIter_revIter st ?_
 refine ⟨s1.heap.objs.size,[s1.heap.objs.size],_,_,H1,rfl,I1.kept (t':=s1.toks) fun b o e=>aG _ e,aEn a _ xs.length,⟨cK _,st⟩,fun b hb => ?_,q⟩
 have e:b=s1.heap.objs.size:=by simpa using hb
 subst e
 exact I1.fpOk (aV _) (I1.hok.fresh (aV _))
end L2
namespace L2
open PySem PySem.Spec PySem.SeqAt PyProof.Rows
section
variable {X:Cx}
theorem Inv.dictH {Aa:fO} {σ:St} {H:Hp} {s:Shared} {a:Addr} {ws:List (Key×V)} (I:Inv X Aa σ H s) (h:H a=some (.dK ws)∨∃ o,H a=some (.frz o (.dK ws))):DictH s.heap a:=by
 rcases h with h | ⟨o,h⟩
 ·obtain ⟨_,_,vs,_,d⟩:=(show ObjOk X.prog X.w H s.heap a (.dK ws) from I.hok a _ h)
  exact DictH.of d
 ·obtain ⟨_,_,_,vs,_,d⟩:=(show ObjOk X.prog X.w H s.heap a (.frz o (.dK ws)) from I.hok a _ h)
  exact DictH.of d
def aWa (K:eE) (neg:Bool):R2:=fun x y H Q => ∃ (p b:Addr) (xs ys:List Int),x=.ref p∧y=.ref b∧SqL K H p (xs.map V.int)∧SqL K H b (ys.map V.int)∧Q (.bl (if neg then !decide (xs=ys) else decide (xs=ys))) H
theorem gl_:∀ {xs:List Int} {us:List Value},Vals (xs.map V.int) us→us.length=xs.length∧∀ j (h:j < us.length),∃ t,us[j]=Value.int (xs.getD j 0) t
 | [],_,h=>by cases h; exact ⟨rfl,fun j h=>absurd h (Nat.not_lt_zero _)⟩
 | x :: xs,_,h=>by
  cases h with
  | cons ra rb =>
   obtain ⟨e,k⟩:=gl_ rb
   obtain ⟨t,rfl⟩:=ra
   refine ⟨by simp [e],fun j h => ?_⟩
   cases j with
   | zero=>exact ⟨t,rfl⟩
   | succ j =>
    obtain ⟨t',e'⟩:=k j (by simpa using h)
    exact ⟨t',by simpa using e'⟩
theorem o7:∀ {xs ys:List Int},xs.length=ys.length→(List.range xs.length).all (fun j=>xs.getD j 0 == ys.getD j 0)=decide (xs=ys):=by
 intro xs ys h
 by_cases e:xs=ys
 ·subst e
  simp
 ·rw [dzF e,List.all_eq_false]
  have:∃ j,j < xs.length∧xs.getD j 0≠ys.getD j 0:=by
   apply Classical.byContradiction
   intro hn
   apply e
   refine fJ fun j => ?_
   by_cases hj:j < xs.length
   ·have:xs.getD j 0=ys.getD j 0:=Classical.byContradiction fun z=>hn ⟨j,hj,z⟩
    rw [aR,aR,aA hj,aA (by omega)] at this
    rw [aA hj,aA (by omega)]
    exact congrArg some this
   ·rw [cF (by omega),cF (by omega)]
  obtain ⟨j,hj,Bf⟩:=this
  exact ⟨j,gO.mpr hj,by simpa using Bf⟩
theorem aIi {A:Around} {s:Shared} {xs ys:List Int} {us ws:List Value} (r1:Vals (xs.map V.int) us) (r2:Vals (ys.map V.int) ws):∀ (j:Nat) (h1:j < us.toArray.size) (h2:j < ws.toArray.size),SeqAt.EqAt A s us.toArray[j] ws.toArray[j] (xs.getD j 0 == ys.getD j 0):=by
 intro j h1 h2
 obtain ⟨t,e1⟩:=(gl_ r1).2 j (by simpa using h1)
 obtain ⟨u,e2⟩:=(gl_ r2).2 j (by simpa using h2)
 rw [List.getElem_toArray,List.getElem_toArray,e1,e2]
 exact SeqAt.EqAt.int_int _ _ _ _
theorem aGh (hu:X.A.units < cLine):OpR X (compareOp .NotEq) (aWa X.K true):=by
 intro Aa s σ H x y v u Q I rx ry h
 obtain ⟨p,b,xs,ys,rfl,rfl,h1,h2,q⟩:=h
 cases rx
 cases ry
 obtain ⟨its,r1,p1,_⟩:=I.list h1
 obtain ⟨its2,r2,p2,_⟩:=I.list h2
 have l1:=(gl_ r1).1
 have l2:=(gl_ r2).1
 by_cases hl:xs.length=ys.length
 ·refine PySem.SeqAt.RcNeAt.lists p1.isList p2.isList (by simp only [aW]; omega) hu (aIi r1 r2) _ _ _ _ ?_
  refine kZ I q ?_
  rw [aW,l1,o7 hl]
  rfl
 ·refine PySem.SeqAt.RcNeAt.lists_lengths p1.isList p2.isList (by simp only [aW]; simp; omega) hu _ _ _ _ (kZ I q ?_)
  rw [dzF fun e=>hl (by rw [e])]
  rfl
end
end L2
namespace Lf
open PySem L2
def eqI (neg:Bool):G2:=fun a b Q => ∃ xs ys:List Int,a=.lst (xs.map Dx.int)∧b=.lst (ys.map Dx.int)∧Q (.tr (.bl (if neg then !decide (xs=ys) else decide (xs=ys))))
theorem vZ {G:Hp}:∀ {xs:List Int} {vs:List V},All2 (IsX G) (xs.map Dx.int) vs→vs=xs.map V.int
 | [],_,h=>h
 | x :: xs,_,⟨v,vr,e,h1,h2⟩=>by rw [e,vZ h2,h1.int_eq]; rfl
theorem aGd {K:eE} {neg:Bool}:OpX (aWa K neg) (eqI neg):=by
 intro F P H a b x y Q Qx R ha hb g k
 obtain ⟨xs,ys,rfl,rfl,g⟩:=g
 obtain ⟨p,vs,rfl,q1,q2⟩:=ha.lst_eq
 obtain ⟨p',vs',rfl,q3,q4⟩:=hb.lst_eq
 cases vZ q2
 cases vZ q4
 exact ⟨p,p',xs,ys,rfl,rfl,SqL.of (R.hv _ _ q1),SqL.of (R.hv _ _ q3),k _ _ H (R.add (IsX.of_bl _)) g⟩
def xiV (u:XA):XI:=fun ρ Q=>u ρ fun ss ρ'=>match ss.map Sv.d with
 | [.lst l]=>Q l.reverse ρ'
 | _=>False
theorem aMf {F:Fm} {K:eE} {a:Addr} {l:List Dx}:ItX F (Itv K a l.length) [(vT (.lst l),some (.ref a))] l.reverse where
 go:=fun P H i d R hd=>by
  obtain ⟨v,e,h⟩:=R.atT; cases e
  obtain ⟨_,vs,e,h1,h2⟩:=h.lst_eq; cases e
  obtain ⟨x,h3,_⟩:=h2.rev.at hd
  exact ⟨vs,x,SqL.of (R.hv _ _ h1),h2.len,h3⟩
 stop:=fun P H i R hi=>by
  rw [List.length_reverse] at hi
  exact hi
 yld:=fun P H i d x H' R hd q=>by
  obtain ⟨rfl,q⟩:=q
  obtain ⟨v,e,h⟩:=R.atT; cases e
  obtain ⟨_,vs,e,h1,h2⟩:=h.lst_eq; cases e
  obtain ⟨y,h3,h4⟩:=h2.rev.at hd
  rw [q vs (SqL.of (R.hv _ _ h1))] at h3
  cases h3
  exact R.add h4
section
variable {tg a b c:Expr} {p pos:Pos} {u:XA}
theorem aPh (hm:X.mg "reversed" = none) (ha:XAs X Ex [a] u) (hg:Gl X "reversed" := by rfl) (hs:starEach [a] X.env=[(false,eval a X.env)]:=by rfl):XIt X Ex tg (.Call (.Name "reversed" p) [a] [] pos) (xiV u):=fun F=>(aQj hg hm (ha F) hs).weak fun σ H R=>by
 rintro ⟨ρ,fr,Qx,E,t,k⟩
 refine ⟨ρ,fr,_,E,t,fun vs ss H2 ρ2 hl E2 q => ?_⟩
 obtain ⟨R,hs⟩:=E2.many hl
 split at q
 ·rename_i l hj
  rw [hj] at hs
  obtain ⟨x,rfl,hx⟩:=xA hs
  obtain ⟨c,cs,rfl,h1,h2⟩:=hx.lst_eq
  refine ⟨c,cs,rfl,SqL.of (R.hv _ _ h1),k _ H2 ρ2 [(vT (.lst l),some (.ref c))] _ (EOk.back E2.len (R.add hx)) ?_ q⟩
  rw [h2.len]
  exact aMf
 ·exact q.elim
end
open PySem.W (Frag nsIn)
abbrev OX:=Bool×List (Option Bool×Bool)×Option Bool×Option Bool
def aSb (K:Frag) (ns:List Str) (n:Str):OX:=match lV K n with
 | some C=>(nF K C,ns.map (fun m=>match lV K m with | some D=>(PySem.W.kitOne K (.ref C) (.ref D),aBe K C D) | none=>(none,false)),PySem.W.kitOne K (.ref C) (.type "ValueError"),PySem.W.kitOne K (.type "NoneType") (.ref C))
 | none=>(false,[],none,none)
theorem aLt (K:Frag) (ns:List Str):aRz K ns=ns.map (aSb K ns):=rfl
structure ClsX (K:Frag) (mg:lN) (n:Str) (C:Addr):Prop where
 at':lV K n=some C
 m:mg n=some (.ref C)
 ok:nF K C=true
theorem jw_ {K:Frag} {ns:List Str} {n:Str} {l:List (Option Bool×Bool)} {a b:Option Bool} {h:Heap} {mg:lN} (e:aSb K ns n=(true,l,a,b)) (X:K.In h) (G:h.Ns mainGlobals mg):∃ C,ClsX K mg n C∧l=ns.map (fun m=>match lV K m with | some D=>(PySem.W.kitOne K (.ref C) (.ref D),aBe K C D) | none=>(none,false))∧PySem.W.kitOne K (.ref C) (.type "ValueError")=a∧PySem.W.kitOne K (.type "NoneType") (.ref C)=b:=by
 unfold aSb at e
 cases hc:lV K n with
 | none=>rw [hc] at e; simp at e
 | some C =>
  rw [hc] at e
  simp only [Prod.mk.injEq] at e
  obtain ⟨e1,e2,e3,e4⟩:=e
  refine ⟨C,⟨hc,?_,e1⟩,e2.symm,e3,e4⟩
  unfold lV at hc
  split at hc
  ·rename_i C' hn
   cases hc
   exact PySem.W.mg_of X G hn
  ·cases hc
theorem ClsX.own {K:Frag} {mg:lN} {n:Str} {C:Addr} {base:Heap} (x:ClsX K mg n C) (X:K.In base):PyProof.Rows.OwnCls n C veM "ValueError.__new__" mg base:=tL x.ok x.m X
def aBb (t:XT):XT:=fun ρ Q=>t ρ fun s ρ'=>match s.d with
 | .int i=>Q (.tr (.int (-i))) ρ'
 | _=>False
theorem oN {e:Expr} {t:XT} {pos:Pos} (h:XE X Ex e t):XE X Ex (.UnaryOp .USub e pos) (aBb t):=fun F=>(aOk aEl (h F)).weak fun σ H Q=>by
 rintro ⟨ρ,fr,Qx,E,t,k⟩
 refine ⟨ρ,fr,_,E,t,fun v s H' ρ' E' q => ?_⟩
 split at q
 ·rename_i i hi
  obtain ⟨R,hx⟩:=E'.one
  rw [hi] at hx
  cases hx.int_eq
  exact ⟨i,rfl,k _ _ H' ρ' (EOk.back E'.len (R.add (IsX.of_int _))) q⟩
 ·exact q.elim
def rows:List Dx→List V→List Rw
 | d :: ds,v :: vs=>(.v (.tr d),some v) :: rows ds vs
 | _,_=>[]
theorem zD {F:Fm} {ρ:En} {σ:St} {fr:List Rw} {H:Hp}:∀ {ds:List Dx} {vs:List V},EOk F ρ σ fr H→All2 (IsX (hid (cD (ρ.zip σ ++ fr)) (F.vis H))) ds vs→EOk F ρ σ (rows ds vs ++ fr) H
 | [],vs,E,h=>by rw [show vs=[] from h]; exact E
 | d :: ds,_,E,⟨v,vr,e,h1,h2⟩=>by
  subst e
  have E1:=zD E h2
  have ho:cD (ρ.zip σ ++ (rows ds vr ++ fr))=cD (ρ.zip σ ++ fr):=by
   have hz:∀ (ds:List Dx) (vs:List V),cD (rows ds vs)=[]:=by
    intro ds
    induction ds with
    | nil=>intro vs; rfl
    | cons a r ih =>
     intro vs
     cases vs with
     | nil=>rfl
     | cons u us=>show cD ((.v (.tr a),some u) :: rows r us)=[]; rw [dl_ rfl]; exact ih us
   rw [pH,pH,pH,hz,aZ]
  exact EOk.back E1.len (E1.rep.add (by rw [ho]; exact h1))
abbrev XGs:=List Dx→En→(En→Prop)→Prop
def GXs (n:Nat) (u:TGs) (gs:XGs):Prop := ∀ (F:Fm) (ρ:En) (σ:St) (fr:List Rw) (H:Hp) (ds:List Dx) (xs:List V) (Q:St→Hp→Prop) (Qx:En→Prop),ds.length=xs.length→EOk F ρ σ (rows ds xs ++ fr) H→gs ds ρ Qx →
 (∀ σ' H' ρ',EOk F ρ' σ' fr H'→σ'.length=σ.length→(∀ i,n≤i→σ'[i]? = σ[i]?)→Qx ρ'→Q σ' H')→u xs σ H Q
def aHv:XGs:=fun ds ρ Q=>match ds with
 | []=>Q ρ
 | _=>False
def qD (gx:XG) (gs:XGs):XGs:=fun ds ρ Q=>match ds with
 | d :: r=>gx d ρ fun ρ'=>gs r ρ' Q
 | []=>False
theorem yT {n:Nat}:GXs n aIc aHv:=fun F ρ σ fr H ds xs Q Qx hl E g k=>by
 cases ds with
 | nil =>
  cases xs with
  | nil=>exact ⟨rfl,k σ H ρ E rfl (fun _ _=>rfl) g⟩
  | cons _ _=>simp at hl
 | cons _ _=>exact g.elim
theorem gu_ {n:Nat} {t:TG} {u:TGs} {gx:XG} {gs:XGs} (h1:GX n t gx) (h2:GXs n u gs):GXs n (yV t u) (qD gx gs):=fun F ρ σ fr H ds xs Q Qx hl E g k=>by
 cases ds with
 | nil=>exact g.elim
 | cons d r =>
  cases xs with
  | nil=>simp at hl
  | cons x xr =>
   refine ⟨x,xr,rfl,h1 F ρ σ (rows r xr ++ fr) H d x _ _ E g fun σ' H' ρ' E' e1 e2 q => ?_⟩
   exact h2 F ρ' σ' fr H' r xr Q Qx (by simpa using hl) E' q fun σ2 H2 ρ2 E2 e3 e4 q2=>k σ2 H2 ρ2 E2 (e3.trans e1) (fun i hi=>(e4 i hi).trans (e2 i hi)) q2
def aAa (m:Nat) (gs:XGs):XG:=fun d ρ Q=>match d with
 | .tup ds=>ds.length=m∧gs ds ρ Q
 | _=>False
theorem z_ {K:eE} {n m:Nat} {u:TGs} {gs:XGs} (h:GXs n u gs):GX n (aIb K m u) (aAa m gs):=fun F ρ σ fr H d x Q Qx E g k=>by
 unfold aAa at g
 split at g
 ·obtain ⟨R,hx⟩:=E.one
  obtain ⟨a,vs,rfl,h1,h2⟩:=hx.tup_eq
  obtain ⟨g0,g⟩:=g
  refine ⟨a,vs,rfl,SqT.of (R.hv _ _ h1),by rw [h2.len,g0],h F ρ σ fr H _ vs Q Qx h2.len.symm (zD E.drop h2) g k⟩
 ·exact g.elim
end Lf
namespace L2
open PySem PySem.Spec PyProof.Rows
end L2
namespace Lf
open PySem L2
theorem tP {G K:XS} {ρ:En} {D:XD} (M:En→Prop) (h1:∀ ρ',M ρ'→K ρ' D) (h2:∀ nx:En→Prop,(∀ ρ',M ρ'→nx ρ')→G ρ { D with nx:=nx }):cV G K ρ D:=h2 _ h1
end Lf
namespace L2
open PySem PySem.Spec PyProof.Rows
end L2
namespace Lf
open PySem L2
def nst:Expr→Bool
 | .Starred _ _=>false
 | _=>true
theorem t6 {e:Expr} {es:List Expr} {env:Env} (h:nst e=true):starEach (e :: es) env=(false,eval e env) :: starEach es env:=by
 cases e <;> first | rfl | cases h
theorem aDw {e:Expr} {es:List Expr} {t:XT} {u:XA} (h:XE X Ex e t) (h':XAs X Ex es u) (hn:nst e=true:=by rfl):XAs X Ex (e :: es) (bL t u):=bF h h' (t6 hn)
structure Bx (p:Prop):Prop where
 out:p
section
variable {a b c e o k v l:Expr} {es:List Expr} {t ta tb te tk tv:XT} {u:XA} {pos p p2:Pos} {x:Str} {i j:Nat}
theorem fz_ {i:Int} {j:Nat}:Bx (XE X Ex (.Constant (.int i) j pos) (xC (.int i))):=⟨dH⟩
theorem aJg {b:Bool} {j:Nat}:Bx (XE X Ex (.Constant (.bool b) j pos) (xC (.bl b))):=⟨mZ⟩
theorem aJe {j:Nat}:Bx (XE X Ex (.Constant .none j pos) (xC .non)):=⟨ef_⟩
theorem aJd {x:Str} {j:Nat}:Bx (XE X Ex (.Constant (.str x) j pos) (xC (.str x))):=⟨lI⟩
theorem ka_ (h:PE X (.Name x pos) (iH i)):Bx (XE X Ex (.Name x pos) (bW i)):=⟨bE h⟩
theorem n_ (h:Bx (XE X Ex e t)):Bx (XE X Ex (.UnaryOp .USub e pos) (aBb t)):=⟨oN h.out⟩
theorem aJc {j:Nat} (h:Bx (XAs X Ex es u)):Bx (XE X Ex (.Tuple es j pos) (xN u)):=⟨zN h.out⟩
theorem qX (h:Bx (XAs X Ex es u)):Bx (XE X Ex (.List es pos) (jF u)):=⟨jH h.out⟩
theorem aNl:Bx (XE X Ex (.Dict [] [] pos) xO):=⟨is_⟩
theorem o0 (ha:Bx (XE X Ex a ta)) (hb:Bx (XE X Ex b tb)):Bx (XE X Ex (.BinOp a .Add b pos) (xOp iL ta tb)):=⟨iD ha.out hb.out⟩
theorem aYq (K:eE) (ha:Bx (XE X Ex a ta)) (hb:Bx (XE X Ex b tb)) (hs:lW b) (h:X.K=K:=by rfl):Bx (XE X Ex (.Subscript a b pos) (xOp ixX ta tb)):=⟨jZ K ha.out hb.out hs h⟩
variable {lo hi:Option Expr} {tl th:XO}
theorem ha_:Bx (XAs X Ex [] dD):=⟨bX⟩
theorem mU (h:Bx (XE X Ex e t)) (h':Bx (XAs X Ex es u)) (hn:nst e=true:=by rfl):Bx (XAs X Ex (e :: es) (bL t u)):=⟨aDw h.out h'.out hn⟩
def aGt:List Expr→Bool
 | []=>true
 | e :: es=>nst e && aGt es
theorem aEw {env:Env}:∀ {es:List Expr},aGt es=true→(backTo pos (starEach es env)).any (·.1)=false
 | [],_=>rfl
 | e :: es,h=>by
  simp only [aGt,cZ] at h
  rw [t6 h.1]
  exact aEw h.2
theorem aJf {ps:List Str} {g:GB} (C:Cal X.prog X.w X.K X.mg X.base j x ps (spB g)) (hr:Room j X.A) (hv:PE X e (iH i)) (ha:Bx (XAs X Ex es u)) (hg:Gl X x:=by rfl) (B0:(x == ("__debug__" : Str))=false:=by decide) (he:nst e=true:=by rfl) (Ma:aGt es=true:=by rfl):Bx (XE X Ex (.Call (.Name x p) (e :: es) [] pos) (fU g i u)):=⟨iQ C hr hv ha.out hg B0 (t6 he) (aEw Ma)⟩
theorem aDi {T:String} {r:List V→Hp→VK→Prop} {g:GC} (hc:CallR X (.type T) r) (hx:jW r g) (hg:Gl X x) (hm:X.mg x=none) (hv:bootBuiltins x=some (.type T)) (ha:Bx (XAs X Ex (e :: es) u)) (hn:x ≠ "__name__" := by decide) (B0:(x == ("__debug__" : Str))=false:=by decide) (he:nst e=true:=by rfl) (Ma:aGt es=true:=by rfl):Bx (XE X Ex (.Call (.Name x p) (e :: es) [] pos) (dS g u)):=⟨en_ hc hx hg hm hv ha.out hn B0 (t6 he) (aEw Ma)⟩
variable {r:R2} {g:G2} {op:CmpOp} {tc uc:XC} {rest:List Expr}
variable {st:Stmt} {sts as bs:List Stmt} {G K:XS}
theorem aTz {pos':Pos} (hN:X.N.Nodup) (hi:X.N[i]? = some x) (hx:Loc X.env.scope x) (he:Bx (XE X Ex e t)) (hs:swapsWith e (some (.Name x pos')) pos.line X.env=pure false:=by rfl) (hf:X.fn x=true∨X.env.scope.names.lookup x=some .local:=by first | exact .inl rfl | exact .inr rfl | assumption):Bx (XSt X Ex (.Assign [.Name x pos'] e pos) (eU i t)):=⟨ag_ fun F=>ai_ hN hi hx (XE.at (Ex:=Ex) F he.out) hs hf⟩
theorem gj_ (h:Bx (XSt X Ex st G)):Bx (XSs X Ex [st] G):=⟨eF h.out⟩
theorem qY (h:Bx (XSt X Ex st G)) (h':Bx (XSs X Ex sts K)):Bx (XSs X Ex (st :: sts) (cV G K)):=⟨dO h.out h'.out⟩
end
section
variable {prog:Program} {w:World} {A:Around} {R:Result→Shared→Prop} {s:Shared}
theorem sF {elt target iter:Expr} {ifs:List Expr} {scope:Scope} {pos:Pos} {it Ad:Value} {env:Env} (I:Nat→Shared→Prop)
  (turn:∀ n s,I n s→wpAny (model prog w) A (pyNext it) (fun r s₁=>match r with
   | none=>R (.ok .next) s₁
   | some v => wpAny (model prog w) A (letOwnedTupleGo target it v) (fun _ s₀ => wpAny (model prog w) A (assign target env v) (fun _ s₂ =>
     wpAny (model prog w) A (forIn ifs true fun c r=>if r=true then do let ok ← isTrue c env (eval c env); pure (ForInStep.yield ok) else pure (ForInStep.yield r)) (fun ok s₃ =>
      if ok=true then wpAny (model prog w) A (eval elt env) (fun x s₄ =>
       wpAny (model prog w) A (call (.builtin "list.append") [Ad,x]) (fun _ s₅ => ∃ m,m < n∧I m s₅) (fun _ _=>False) s₄) (fun e s'=>wpAny (model prog w) A (noteFrame e env) (fun _ s''=>R (.error e) s'') (fun _ _=>False) s') s₃
      else ∃ m,m < n∧I m s₃) (fun _ _=>False) s₂) (fun _ _=>False) s₀) (fun _ _=>False) s₁) (fun _ _=>False) s)
  (n:Nat) (h:I n s) :
  codeAny (model prog w) A (.compLoop (.ListComp elt [⟨target,iter,ifs,0⟩] scope pos) 0 it Ad env) R s:=by
 refine codeAny_loop rfl I (fun n s hI => ?_) n h
 show wpAny _ A ((compTurn (.ListComp elt [⟨target,iter,ifs,0⟩] scope pos) 0 it Ad env).onRaise (fun x=>do noteFrame x env; theTreesLotGoes x)) _ _ s
 refine wpAny_noted ?_
 rw [compTurn_list]
 refine wpAny_bind (wpAny_standAt (wpAny_bind (wpAny_mono (turn n s hI) (fun r s₁ h₁ => ?_) fun _ _ h'=>h'.elim)))
 cases r with
 | none=>exact wpAny_pure h₁
 | some v =>
  refine wpAny_bind (wpAny_mono h₁ (fun _ s₀ h₀ => ?_) fun _ _ h'=>h'.elim)
  refine wpAny_bind (wpAny_mono h₀ (fun _ s₂ h₂=>wpAny_bind (wpAny_mono h₂ (fun ok s₃ h₃ => ?_) fun _ _ h'=>h'.elim)) fun _ _ h'=>h'.elim)
  cases ok with
  | false=>exact wpAny_pure ⟨rfl,h₃⟩
  | true =>
   exact wpAny_bind (wpAny_bind (wpAny_mono h₃ (fun x s₄ h₄=>wpAny_bind (wpAny_mono h₄ (fun _ s₅ h₅=>wpAny_pure (wpAny_pure ⟨rfl,h₅⟩)) fun _ _ h'=>h'.elim)) fun e s' h'=>wpAny_mono h' (fun _ _ z=>z) fun _ _ z=>z.elim))
end
abbrev aNe (X:Cx) (N':List Str) (scope:Scope) (cl:List (Str×Addr)) (C:Addr) (s:Shared) (H:Hp) (ex:List Addr) (pn:fO):Cx:={ dA X N' scope cl C s H ex with pn:=pn }
abbrev qQ (X:Cx) (N':List Str) (scope:Scope) (cl:List (Str×Addr)) (C:Addr) (s:Shared) (H:Hp) (ex:List Addr) (pn:fO) (EE:Value→Hp→Prop):Cx :=
 { aNe X N' scope cl C s H ex pn with xe:=fun e s' => ∃ ea cls H' σ' Aa,e=.ref ea∧Inv (aNe X N' scope cl C s H ex pn) Aa σ' H' s'∧Air (NwX (aNe X N' scope cl C s H ex pn) Aa) s'.heap H' ea cls∧EE cls H' }
section
variable {X:Cx} {N':List Str} {scope:Scope} {cl:List (Str×Addr)} {C:Addr} {s0 s:Shared} {H0 H:Hp} {ex:List Addr} {pn Aa:fO} {EE:Value→Hp→Prop} {σ:St}
theorem bBb (o:(dA X N' scope cl C s0 H0 ex).Ok):(qQ X N' scope cl C s0 H0 ex pn EE).Ok:=⟨o.mod,o.kind,o.glob,o.blt,o.above,o.inj,o.has,o.cab,o.hd,o.frames,o.stk,o.exf,o.bs,o.bsz,o.noex,o.exfs,o.funs,o.frf⟩
theorem aRy (o:(qQ X N' scope cl C s0 H0 ex pn EE).Ok):(dA X N' scope cl C s0 H0 ex).Ok:=⟨o.mod,o.kind,o.glob,o.blt,o.above,o.inj,o.has,o.cab,o.hd,o.frames,o.stk,o.exf,o.bs,o.bsz,o.noex,o.exfs,o.funs,o.frf⟩
theorem bBa (o:(qQ X N' scope cl C s0 H0 ex pn EE).Ok):(aNe X N' scope cl C s0 H0 ex pn).Ok:=⟨o.mod,o.kind,o.glob,o.blt,o.above,o.inj,o.has,o.cab,o.hd,o.frames,o.stk,o.exf,o.bs,o.bsz,o.noex,o.exfs,o.funs,o.frf⟩
theorem Inv.toCE (I:Inv (dA X N' scope cl C s0 H0 ex) (Aa ++ pn) σ H s):Inv (qQ X N' scope cl C s0 H0 ex pn EE) Aa σ H s :=
 ⟨bBb I.ok,I.os,I.bare,I.base,I.loc,I.cell,I.free,I.freeC,fun p hp=>I.pin p (aK _ ((bA.mp hp).elim (fun z=>aK _ z) fun z=>bJ _ z)),I.hok,I.len⟩
theorem Inv.ofCE (I:Inv (qQ X N' scope cl C s0 H0 ex pn EE) Aa σ H s):Inv (dA X N' scope cl C s0 H0 ex) (Aa ++ pn) σ H s :=
 ⟨aRy I.ok,I.os,I.bare,I.base,I.loc,I.cell,I.free,I.freeC,fun p hp=>I.pin p ((bA.mp (show p∈[] ++ (Aa ++ pn) from hp)).elim (fun z=>nomatch z) fun z=>(bA.mp z).elim (fun z=>aK _ z) fun z=>bJ _ z),I.hok,I.len⟩
theorem aRx {Ex:ExT} {F:Fm}:OkF (qQ X N' scope cl C s0 H0 ex pn fun c H'=>Ex c∧o9 F H') Ex F :=
 ⟨fun Aa σ H s' ea cls I a e k=>⟨ea,cls,H,σ,Aa,rfl,⟨bBa I.ok,I.os,I.bare,I.base,I.loc,I.cell,I.free,I.freeC,I.pin,I.hok,I.len⟩,a,e,k⟩⟩
end
section
variable {X:Cx} {tg elt iter:Expr} {ifs:List Expr} {dsc scope:Scope} {tgs N':List Str} {outs:List Nat} {wi:TI} {g:TG} {tc:TT} {te:TE} {pos:Pos}
theorem zU {EE:Value→Hp→Prop} {Aa:fO} {σ:St} {H2:Hp} {s2:Shared} {cl:List (Str×Addr)} {it:Addr} {fp:List Addr} {tn:Nat→Heap→Prop} {J:It} (S:CompScope dsc scope X.N tgs outs N') (Cs:X.env.scope=dsc) (hc:X.calm=true)
  (hg:∀ cl C s H ex,PG (dA X N' scope cl C s H ex) tg g) (Dy:Tgt tgs.length g) (Dp:∀ cl C s H ex,PCs (dA X N' scope cl C s H ex) ifs tc) (he:∀ cl C s H ex pn,PE (qQ X N' scope cl C s H ex pn EE) elt te)
  (Cy:∀ x c,cl.lookup x=some c→X.env.cells.lookup x=some c) (E8:∀ y∈scope.names,y.2=.free→∃ c,cl.lookup y.1=some c)
  (I2:Inv X Aa σ H2 s2) (T:Turn X.prog X.w X.K tg J fp it tn) (Es:tn 0 s2.heap) (f2:∀ b∈fp,kI X Aa H2 b)
  {W:Nat→Nat→List V→Hp→Prop} {m0:Nat} (w0:W 0 m0 [] H2) {Qf:List V→Hp→Prop}
  (turn:∀ i m Ad H,W i m Ad H→(J.stop i H∧Ad.length≤sizeLine∧Qf Ad H)∨(J.go i H∧Ad.length < sizeLine∧∃ N:List V→Hp→Prop,(∀ acc' H',N acc' H'→∃ m',m' < m∧W (i + 1) m' acc' H')∧∀ x H',J.yld i H x H'→g x (kG tgs.length outs σ) H' fun σ2 H2=>tc σ2 H2 fun b H3 =>
   if b=true then te σ2 H3 fun y H4=>N (Ad ++ [y]) H4 else N Ad H3))
  {E:hW} {RR:Value→Addr→Result→Shared→Prop}
  (rais:∀ D C pn e s',s2.heap.objs.size≤C→(∀ b∈fp,∃ o,(b,o)∈pn)→(qQ X N' scope cl C s2 H2 fp pn EE).xe e s'→wpAny (model X.prog X.w) X.A (noteFrame e (compEnvC scope cl C X.env)) (fun _ s''=>RR (.ref D) C (.error e) s'') (fun _ _=>False) s')
  (A5:∀ D C s5 mC Ad H5,Inv X Aa σ (upd H5 D (.lst Ad)) s5→H5 D=none→Qf Ad H5→s5.heap.Ns C mC→kI X Aa (upd H5 D (.lst Ad)) C→RR (.ref D) C (.ok .next) s5) :
  wpAny (model X.prog X.w) X.A (newList []) (fun Ad s₃=>wpAny (model X.prog X.w) X.A (newFunctionEnv scope X.env.globals cl [] X.env.qual none .none (some X.env)) (fun cenv s₄ =>
   codeAny (model X.prog X.w) X.A (.compStart (.ListComp elt [⟨tg,iter,ifs,0⟩] scope pos) 0 (.ref it) Ad { cenv with scope:=relabel scope X.env }) (RR Ad cenv.locals) s₄) E s₃) E s2:=by
 have Gs:∀ b∈fp,b < s2.heap.objs.size:=fun b hb=>let ⟨o,e,_⟩:=T.obj 0 _ Es b hb; aS e
 refine wpAny_newObj_type (wpAny_newFunctionEnv S.nocell (by intro y hy; simp at hy) (fun h₁ hns₁ hsb₁ => ?_) S.kind)
 dsimp only at hns₁ hsb₁ ⊢
 generalize H9:s2.heap.push { cls:=.type "list",dict:=none,data:=.seq ([]:List Value).toArray }=HH at hns₁ hsb₁ ⊢
 have hC:HH.objs.size=s2.heap.objs.size + 1:=by rw [← H9,gQ]
 have Gy:s2.heap.objs.size≠HH.objs.size:=by rw [hC]; exact cO (Nat.lt_succ_self _)
 have Fa:s2.heap.objs.size≤HH.objs.size:=by rw [hC]; exact Nat.le_succ _
 have old:∀ b o,s2.heap.get? b=some o→h₁.get? b=some o:=fun b o e=>hsb₁.extBut b o (by rw [hC]; exact cO (Nat.lt_succ_of_lt (aS e))) (aG _ (H9 ▸ aG _ e))
 have Cq:h₁.get? s2.heap.objs.size=some { cls:=.type "list",data:=.seq ([]:List Value).toArray 0 }:=hsb₁.extBut _ _ Gy (aG _ (H9 ▸ bC _ rfl))
 have F6:∀ b∈fp,s2.heap.objs.size≠b:=fun b hb=>iF (Gs b hb)
 have fresh2:H2 s2.heap.objs.size=none:=I2.hok.fresh (aV _)
 have I4:=qR (tk:=s2.toks + ([]:List (Str×Value)).length) S Cs I2 f2 Gs Cy E8 Fa old hns₁
 have Iz:tn 0 h₁:=T.keep 0 _ _ Es fun b hb o e=>old b o e
 generalize hCC:HH.objs.size=C at *
 generalize Gx:s2.heap.objs.size=D at *
 have nofs:D∉(dA X N' scope cl C s2 H2 fp).fs:=fun z=>by
  obtain ⟨_,o,ho,_⟩:=I2.stack.mem (show D∈frs X.stack from z)
  have:=aS ho
  rw [Gx] at this
  exact dZ _ this
 have pinD:∀ {σ':St} {H':Hp} {s':Shared} {its:List Value} {n:Nat},Inv (dA X N' scope cl C s2 H2 fp) [] σ' H' s'→s'.heap.get? D=some { cls:=.type "list",data:=.seq its.toArray n }→H' D=none →
   Inv (dA X N' scope cl C s2 H2 fp) [(D,{ cls:=.type "list",data:=.seq its.toArray n })] σ' H' s':=fun {σ' H' s' its n} J e hn=>J.pins_of fun p hp=>by
  have ep:p=(D,{ cls:=.type "list",data:=.seq its.toArray n }):=by simpa using hp
  subst ep
  exact ⟨e,hn,Gy,nofs,fun v z=>by cases z⟩
 have stat:∀ {H':Hp} {o:Obj},(∀ b∈fp,H' b=none)→∀ b∈fp,kI (dA X N' scope cl C s2 H2 fp) [(D,o)] H' b:=fun {H' o} hn b hb=>by
  refine ⟨hn b hb,(I4.ok.exf b hb).1,I4.ok.exfs b hb,.inl hb,(I4.ok.exf b hb).2,fun p hp => ?_⟩
  have Fi:p∈([]:fO) ++ [(D,o)]:=hp
  have ep:p=(D,o):=by simpa using Fi
  subst ep
  exact F6 b hb
 have loop:∀ s₃:Shared,s₃={ s2 with heap:=h₁,toks:=s2.toks + ([]:List (Str×Value)).length } →
   codeAny (model X.prog X.w) X.A (.compLoop (.ListComp elt [⟨tg,iter,ifs,0⟩] scope pos) 0 (.ref it) (.ref D) (compEnvC scope cl C X.env)) (RR (.ref D) C) s₃:=by
  rintro s₃ rfl
  refine sF (fun m s' => ∃ i Ad H its n,Inv (dA X N' scope cl C s2 H2 fp) [(D,{ cls:=.type "list",data:=.seq its.toArray n })] (kG tgs.length outs σ) H s'∧tn i s'.heap∧(∀ b∈fp,H b=none)∧Vals Ad its∧W i m Ad H) ?_ m0
   ⟨0,[],H2,[],0,pinD I4 Cq fresh2,Iz,fun b hb=>(f2 b hb).1,.nil,w0⟩
  rintro m s' ⟨i,Ad,H,its,n,I',st',fr',rD,w'⟩
  rcases turn i m Ad H w' with ⟨stop,hz,q⟩ | ⟨go,hz,N,hN,step⟩
  ·refine fE (T.done (dA X N' scope cl C s2 H2 fp) rfl rfl rfl hc i _ s' _ H _ I' (stat fr') st' stop) fun r s4 ⟨hr,J4⟩ => ?_
   subst hr
   obtain ⟨eD,nD,_⟩:=J4.pin (D,{ cls:=.type "list",data:=.seq its.toArray n }) (aK _ aB)
   obtain ⟨mC,nsC,_⟩:=J4.loc
   have I5:Inv X Aa σ (upd H D (.lst Ad)) s4:=zT (D:=D) I2 (J4.pins_of (pins':=[]) (fun p hp=>nomatch hp)) f2 (by rw [Gx]; exact aV _) eD rD hz nD
   refine A5 D C s4 mC Ad H I5 nD q nsC (I2.fpOk (by rw [Gx]; exact Fa) ?_)
   rw [gA (Ne.symm Gy)]
   exact J4.free
  ·refine fE (T.item (dA X N' scope cl C s2 H2 fp) rfl rfl rfl hc i _ s' _ H _ I' (stat fr') st' go) fun r s4 ⟨u,hr,h4⟩ => ?_
   subst hr
   dsimp only
   refine fE h4 fun _ s5 ⟨x,H5,I5,r5,y5,Ek,Kf⟩ => ?_
   have I5':=I5.pinned (stat Kf) (T.obj _ _ Ek)
   refine fE (hg cl C s2 H2 fp _ s5 _ H5 x u _ I5' r5 (Dy x _ H5 _ (step x H5 y5))) fun _ s6 ⟨σ6,H6,I6,q6,l6,k6⟩ => ?_
   refine fE (Dp cl C s2 H2 fp _ s6 σ6 H6 _ I6 q6) fun b s7 ⟨H7,I7,q7⟩ => ?_
   have tail:∀ {H':Hp} {s':Shared},Inv (dA X N' scope cl C s2 H2 fp) ([(D,{ cls:=.type "list",data:=.seq its.toArray n })] ++ lK fp s5.heap) σ6 H' s'→(∀ b∈fp,∀ o,s5.heap.get? b=some o→s'.heap.get? b=some o)∧∀ b∈fp,H' b=none:=fun {H' s'} J =>
    ⟨fun b hb o e=>(J.pin (b,o) (aK _ (aK _ (df_ hb e)))).1,fun b hb=>by
     obtain ⟨o,e,d⟩:=T.obj _ _ Ek b hb
     exact (J.pin (b,o) (aK _ (aK _ (df_ hb e)))).2.1⟩
   cases b with
   | false =>
    rw [if_neg aX] at q7 ⊢
    obtain ⟨m',hm,w7⟩:=hN _ _ q7
    obtain ⟨t1,t2⟩:=tail I7
    exact ⟨m',hm,i + 1,Ad,H7,its,n,I7.unpinned.weak l6.symm (gp_ k6),T.keep _ _ _ Ek t1,t2,rD,w7⟩
   | true =>
    rw [if_pos rfl] at q7 ⊢
    refine wpAny_mono (he cl C s2 H2 fp (lK fp s5.heap) [(D,{ cls:=.type "list",data:=.seq its.toArray n })] s7 σ6 H7 _ (Inv.toCE I7) q7) (fun v s8 h8 => ?_) fun e s' hxe=>rais D C _ e s' Fa (fun b hb => ?_) hxe
    rotate_left 1
    ·obtain ⟨o,e,d⟩:=T.obj _ _ Ek b hb
     exact ⟨o,df_ hb e⟩
    obtain ⟨y,H8,I8',r8,q8⟩:=h8
    have I8:=Inv.ofCE I8'
    obtain ⟨m',hm,w8⟩:=hN _ _ q8
    obtain ⟨t1,t2⟩:=tail I8
    obtain ⟨eD,nD,_⟩:=I8.pin (D,{ cls:=.type "list",data:=.seq its.toArray n }) (aK _ (bJ _ aB))
    have hl:=rD.length
    refine call_meets F.slot_list_append ⟨_,eD,rfl⟩ F.entry_list_append (F.args_list_append_2 _ _) (PySem.list_append D its.toArray n v (by rw [aW]; omega)) ⟨eD,?_⟩
    have q:=PySem.IsL.update eD (·.push v)
    have eA:its.toArray.push v=(its ++ [v]).toArray:=by simp
    rw [eA] at q
    refine ⟨m',hm,i + 1,Ad ++ [y],H8,its ++ [v],_,pinD (Inv.weak (Inv.turned (it:=D) (I8.pins_of (pins':=[]) (fun p hp=>nomatch hp)) (fun b o hb e=>(bM _ _ (Ne.symm hb)).trans e) nD Gy (.inr (by show s2.heap.objs.size≤D; rw [Gx]; exact aV _)) (fun x c e z => ?_) (fun p hp=>nomatch hp)) l6.symm (gp_ k6)) q nD,
     T.keep _ _ _ Ek (fun b hb o e=>(bM _ _ (F6 b hb)).trans (t1 b hb o e)),t2,rD.append (.cons r8 .nil),w8⟩
    obtain ⟨v',oc,Fj,Hu⟩:=I8.cell x c e
    rw [z,eD] at Fj
    cases Fj
    cases Hu
 exact codeAny_compStart_list (loop _ rfl) (T.self X.A 0 _ _ _ Iz (loop _ rfl))
end
theorem Air.kept {nw:Addr→Prop} {h h':Heap} {H:Hp} {ea:Addr} {cls:Value} (a:Air nw h H ea cls) (k:∀ b o vs,h.get? b=some o→o.data=.fields vs→h'.get? b=some o):Air nw h' H ea cls:=by
 obtain ⟨a1,a2,oe,vs,he,hc,hd,Eb,hsz,a3⟩:=a
 refine ⟨a1,a2,oe,vs,k _ _ _ he hd,hc,hd,Eb,hsz,?_⟩
 rcases a3 with a3 | ⟨T,oT,ts,a3,aT,aN,aH,hT,Dz,h3⟩
 ·exact .inl a3
 ·exact .inr ⟨T,oT,ts,a3,aT,aN,aH,k _ _ _ hT Dz,Dz,h3⟩
theorem aBw {e:Value} {env env':Env} (h:env'.frame=env.frame):noteFrame e env'=noteFrame e env:=by
 unfold noteFrame frameOf
 rw [h]
section
variable {X:Cx} {tg elt iter:Expr} {ifs:List Expr} {dsc scope:Scope} {tgs N':List Str} {outs:List Nat} {wi:TI} {g:TG} {tc:TT} {te:TE} {pos:Pos} {EE:Value→Hp→Prop}
theorem aFx {N:List Str} (hx:∀ Aa σ H s' ea cls,Inv X Aa σ H s'→Air (NwX X Aa) s'.heap H ea cls→EE cls H→X.xe (.ref ea) s') (Bb:X.stack=X.env :: X.outer) (Ce:X.env.frame=some X.env.locals) (Im:X.ex=[])
  (S:CompScope dsc scope N tgs outs N') (hi:PI X tg iter wi) (hg:∀ cl C s H ex,PG (dA X N' scope cl C s H ex) tg g) (Dy:Tgt tgs.length g) (Dp:∀ cl C s H ex,PCs (dA X N' scope cl C s H ex) ifs tc)
  (he:∀ cl C s H ex pn,PE (qQ X N' scope cl C s H ex pn EE) elt te) (Fo:X.N=N:=by rfl) (Cs:X.env.scope=dsc:=by rfl) (hc:X.calm=true:=by rfl) (hs:∀ x,foldedSetIterable iter X.env x=pure x:=by intro _; rfl) :
  PE X (.ListComp elt [⟨tg,iter,ifs,0⟩] scope pos) (oX tgs.length outs wi g tc te):=by
 subst Fo
 intro Aa s σ H Q I h
 obtain ⟨cl,e1,e2,e3⟩:=hq_ (scope:=scope) (env:=X.env) (fun y hy hk=>I.ok.has y.1 (.inl (by show X.env.scope.names.lookup y.1=_; rw [Cs]; exact S.free y hy hk)))
 rw [eval_ListComp]
 refine wpAny_comprehension_free (use:=none) rfl hs e1 S.kind S.names (wpAny_mono (hi Aa s σ H _ I h) (fun xv s1 h1=>wpAny_mono h1 (fun itv s2 h2 => ?_) fun _ _ e=>e) fun _ _ e=>e)
 obtain ⟨it,fp,tn,J,H2,rfl,I2,T,Es,f2,W,⟨m0,w0⟩,turn⟩:=h2
 refine zU (RR:=fun Ad C=>compPost (model X.prog X.w) X.A X.xe none (EP X Aa σ Q) Ad C) S Cs hc hg Dy Dp he e2 e3 I2 T Es f2 w0 (Qf:=fun Ad H => ∀ l,H l=none→Q (.ref l) (upd H l (.lst Ad))) turn ?_ ?_
 ·rintro D C pn e s' hC Nf ⟨ea,cls,H',σ',pins',rfl,IY,air,hee⟩
  have fpn:∀ b∈fp,H' b=none:=fun b hb=>by
   obtain ⟨o,z⟩:=Nf b hb
   exact (IY.pin (b,o) (bJ _ z)).2.1
  have I1:Inv X Aa σ H' s':=I2.call' (ch:=fp) IY.os IY.base IY.hok IY.bare fun b hb=>⟨(f2 b hb).2.2.2.1,(f2 b hb).2.1,(f2 b hb).2.2.2.2.1,(f2 b hb).2.2.2.2.2⟩
  have airX:Air (NwX X Aa) s'.heap H' ea cls:=air.older fun b hb=>by
   have nb:b∉fp:=fun z=>by
    obtain ⟨o,y⟩:=Nf b z
    exact hb.2 (b,o) (bJ _ y) rfl
   have n2:s2.heap.get? b=none:=hb.1.elim (fun z=>z) fun z=>absurd z nb
   refine ⟨?_,fun p hp z => ?_⟩
   ·left
    cases q:X.s₀.heap.get? b with
    | none=>rfl
    | some o =>
     obtain ⟨o',e'⟩:=I2.base.there b o q (by rw [Im]; intro z; cases z)
     rw [n2] at e'; cases e'
   ·have:=(I2.pin p hp).1
    rw [z,n2] at this; cases this
  have cC:H' C=none:=IY.free
  obtain ⟨mC,nsC,_⟩:=IY.loc
  have nsC':s'.heap.Ns C mC:=nsC
  have toT:∀ b,NwX X Aa b→X.s₀.heap.get? b=none∧∀ p∈X.pn ++ Aa,p.1≠b:=fun b hb=>⟨hb.1.elim (fun z=>z) (fun z=>by rw [Im] at z; cases z),hb.2⟩
  rw [aBw (env:=X.env) (show (compEnvC scope cl C X.env).frame=X.env.frame from rfl)]
  refine sU (base:=X.base) (nw:=NwX X Aa) (H:=H') (L:=X.env.locals) (by rw [← Bb]; exact I1.ok.frames) (by rw [← Bb]; exact I1.stack) Ce (fun T hT=>⟨.inl (Heap.get?_none_of_le (nzL I1.sz hT)),fun p hp z => ?_⟩) (fun a ha=>I1.hok.fresh ha) airX fun h' S hS kx air' tb => ?_
  ·obtain ⟨e1,_⟩:=I1.pin p hp
   exact absurd (aS e1) (by rw [z]; exact Nat.not_lt.mpr hT)
  have I3:Inv X Aa σ H' { s' with heap:=h' }:=Inv.noted (t':=s'.toks) I1 (by rw [Bb]; exact kx) fun b hb=>⟨toT b (hS b hb).1,(hS b hb).2⟩
  obtain ⟨oC,es,ep,Ni,Mg,rC⟩:=nsC'
  have nCS:C∉S:=fun z=>by
   obtain ⟨_,_,o,vs,e,d⟩:=hS C z
   rw [Ni] at e; cases e; rw [Mg] at d; cases d
  have nCf:C∉frs (X.env :: X.outer):=fun z=>by
   obtain ⟨_,o,ho,_⟩:=I2.stack.mem (show C∈frs X.stack by rw [Bb]; exact z)
   exact absurd (bN (aS ho) hC) (dZ _)
  have Jq:h'.get? C=some oC:=(kx C oC Ni nCS).1 nCf
  have fpC:kI X Aa H' C:=I2.fpOk hC cC
  refine ⟨mC,⟨oC,es,ep,Jq,Mg,rC⟩,fun h2 C2 cenv _ => ?_⟩
  have kC:∀ b o vs,h'.get? b=some o→o.data=.fields vs→h2.get? b=some o:=fun b o vs e d=>by
   have nb:b≠C:=fun z=>by rw [z,Jq] at e; cases e; rw [Mg] at d; cases d
   exact (C2.2 b nb).trans e
  have I4:Inv X Aa σ H' { s' with heap:=h2 }:=Inv.turned (s:={ s' with heap:=h' }) (it:=C) (t':=s'.toks) I3 (fun b o hb e=>(C2.2 b hb).trans e) fpC.1 fpC.2.1 fpC.2.2.2.1 fpC.2.2.2.2.1 fpC.2.2.2.2.2
  have air4:Air (NwX X Aa) h2 H' ea cls:=air'.kept kC
  obtain ⟨oe,vs,T,Le,Nb,ht3⟩:=tb
  unfold passOn
  refine wpAny_bind (wpAny_field (s:={ s' with heap:=h2 }) (kC _ _ _ Le Nb) Nb ht3 ?_)
  rw [if_neg (show ¬ ((Value.ref T == Value.none)=true) from by simp)]
  refine wpAny_bind (qI (s:={ s' with heap:=h2 }) air4 fun h5 S5 Ny kx5 air5=>wpAny_throw ?_)
  exact hx Aa σ H' _ ea cls (Inv.noted (s:={ s' with heap:=h2 }) (t':=s'.toks) I4 (KeptX.more kx5 fun b z=>nomatch z) fun b hb=>⟨toT b (Ny b hb).1,(Ny b hb).2⟩) air5 hee
 ·intro D C s5 mC Ad H5 I5 nD q nsC hf
  refine ⟨mC,nsC,fun h' Jo=>⟨.ref D,_,?_,rfl,q D nD⟩⟩
  exact I5.turned (it:=C) (t':=s5.toks) (fun b o hb e=>(Jo.2 b hb).trans e) hf.1 hf.2.1 hf.2.2.2.1 hf.2.2.2.2.1 hf.2.2.2.2.2
end
theorem aDt {dsc scope:Scope} {tgs N' N:List Str} {outs:List Nat} {tg iter elt:Expr} {ifs:List Expr} {pos:Pos} {ti:XI} {g:TG} {gx:XG} {tc:XC} {te:XT} (S:CompScope dsc scope N tgs outs N') (hi:XIt X Ex tg iter ti) (hg:∀ cl C s H ex,PG (dA X N' scope cl C s H ex) tg g) (By:GX tgs.length g gx) (Dy:Tgt tgs.length g)
  (Dp:∀ cl C s H ex,XCs (dA X N' scope cl C s H ex) dU ifs tc) (he:∀ cl C s H ex pn EE,XE (qQ X N' scope cl C s H ex pn EE) Ex elt te) (Bb:X.stack=X.env :: X.outer:=by rfl) (Ce:X.env.frame=some X.env.locals:=by rfl) (Im:X.ex=[]:=by rfl) (Az:outs.Nodup:=by decide) (Fo:X.N=N:=by rfl) (Cs:X.env.scope=dsc:=by rfl) (hc:X.calm=true:=by rfl) (hs:∀ x,foldedSetIterable iter X.env x=pure x:=by intro _; rfl) :
  XE X Ex (.ListComp elt [⟨tg,iter,ifs,0⟩] scope pos) (iR tgs.length outs ti gx tc te):=fun F _ =>
 (aFx (EE:=fun c H'=>Ex c∧o9 F H') (fun Aa σ H s' ea cls I a e=>OkF.pass1 (Ex:=Ex) (F:=F) Aa σ H s' ea cls I a e.1 e.2) Bb Ce Im S (hi F) hg Dy (fun a b c d e=>Dp a b c d e F) (fun a b c d e pn=>haveI:OkF (qQ X N' scope a b c d e pn fun c H'=>Ex c∧o9 F H') Ex F:=aRx; he a b c d e pn _ F) Fo Cs hc hs).weak (uK By Az)
end Lf
namespace L2
open PySem PySem.Spec PySem.SeqAt PySem.AutoSeq1 PySem.MeetsSeq PyProof.Rows
theorem sD (l:Addr) (es:Array DictEntry) (n:Nat) (dd:Option Addr) (sl:Array (Option Value)) :
  Meets (Builtin.«dict.__eq__» ⟨[.ref l,.none],[]⟩) (fun _ R s=>s.heap.get? l=some { cls:=.type "dict",dict:=dd,data:=.dict es n,slots:=sl }∧R (.ok (.ret .notImplemented)) s) :=
 .of_wp fun prog w A R s h=>by obtain ⟨hp,g,d,tk,os⟩:=s; obtain ⟨hl,h⟩:=h; have f1:=F.sub_NoneType_dict; wp_walk using wpAny_loadPart' hl; exact ⟨_,rfl,h⟩
section
variable {A:Around} {s:Shared}
theorem uT {l:Addr} (hl:DictH s.heap l) (hu:A.units < cLine):RcAt A s (.ref l) .none false:=fun prog w E Q h=>by
 obtain ⟨es,n,dd,sl,ho⟩:=hl
 exact rc_eq_decline_or (k:=false) ⟨_,ho,rfl⟩ rfl (by decide) F.sub_NoneType_dict F.slot_dict_eq F.slot_NoneType_eq_refl
  (fun _ hq=>call_meets F.slot_dict_eq ⟨_,ho,rfl⟩ F.entry_dict_eq (F.args_dict_eq_2 _ _) (sD l es n dd sl) ⟨ho,hq⟩)
  (fun _ hq=>call_gives F.slot_NoneType_eq_refl rfl F.entry_NoneType_eq (F.args_NoneType_eq_2 _ _) (NoneType___eq___none_ref_0 l) hq)
  (fun _ hq=>wpAny_of_eq (rfl:isSame (.ref l) .none=pure false) hq) (.inr hu) h
theorem wL {l:Addr} (hl:DictH s.heap l) (hu:A.units < cLine):EqAt A s (.ref l) .none false:=fun prog w E Q h=>by
 unfold eqBool
 refine wpAny_holding ?_
 refine wpAny_ite_split (fun F4=>absurd (eq_of_beq F4) nofun) (fun _ => ?_)
 exact wpAny_bind (uT hl hu prog w E _ (wpAny_truthy_bool h))
end
inductive ShN (K:eE) (H:Hp):V→Bool→Prop
 | non:ShN K H .non true
 | int (i:Int):ShN K H (.int i) false
 | lst {a:Addr} {xs:List V} (h:SqL K H a xs):ShN K H (.ref a) false
 | tup {a:Addr} {xs:List V} (h:SqT K H a xs):ShN K H (.ref a) false
 | dic {a:Addr} {ws:List (Key×V)} (h:H a=some (.dK ws)∨∃ o,H a=some (.frz o (.dK ws))):ShN K H (.ref a) false
def isNone:Value→Bool
 | .none=>true
 | _=>false
def aVz (K:eE):R2:=fun x y H Q => ∃ p ws,x=.non∧y=.ref p∧SqL K H p ws∧∃ bs:List Bool,Lf.All2 (fun v b=>ShN K H v b) ws bs∧Q (.bl (bs.any id)) H
section
variable {X:Cx}
theorem aHt {Aa:fO} {σ:St} {H:Hp} {s:Shared} (I:Inv X Aa σ H s) {A:Around} (hu:A.units < cLine):∀ {ws:List V} {its:List Value} {bs:List Bool},Vals ws its→Lf.All2 (fun v b=>ShN X.K H v b) ws bs→(∀ y∈its,EqAt A s y .none (isNone y))∧its.any isNone=bs.any id
 | _,_,_,.nil,h=>by cases (show _=[] from h); exact ⟨fun y hy=>absurd hy (by simp),rfl⟩
 | v :: ws,u :: its,bs,.cons r t,h=>by
  obtain ⟨b,br,rfl,h1,h2⟩:=h
  obtain ⟨g1,g2⟩:=aHt I hu t h2
  have key:EqAt A s u .none (isNone u)∧isNone u=b:=by
   cases h1 with
   | non=>cases r; exact ⟨EqAt.same .none,rfl⟩
   | int i=>obtain ⟨t,rfl⟩:=r; exact ⟨EqAt.int_none i t,rfl⟩
   | lst h=>cases r; obtain ⟨_,_,p,_⟩:=I.list h; exact ⟨EqAt.list_none p.isList hu,rfl⟩
   | tup h=>cases r; obtain ⟨_,_,p,_⟩:=I.tuple h; exact ⟨EqAt.tuple_none p hu,rfl⟩
   | dic h=>cases r; exact ⟨wL (I.dictH h) hu,rfl⟩
  refine ⟨fun y hy => ?_,?_⟩
  ·rcases aI.mp hy with rfl | hy
   ·exact key.1
   ·exact g1 y hy
  ·rw [fB,fB,key.2,g2]; rfl
theorem aQz (hu:X.A.units + 1 < cLine):OpR X (compareOp .In) (aVz X.K):=by
 intro Aa s σ H x y v u Q I rx ry h
 obtain ⟨p,ws,rfl,rfl,hq,bs,hb,q⟩:=h
 cases ry
 cases rx
 obtain ⟨its,r,pl,hz⟩:=I.list hq
 obtain ⟨g1,g2⟩:=aHt (A:=X.A.in1) I hu r hb
 refine SeqAt.in_listAt isNone pl.isList (fun w hw=>g1 w (by simpa using hw)) ⟨.bl _,H,I,rfl,?_⟩
 rw [show its.toArray.any isNone=its.any isNone by simp,g2]
 exact q
end
end L2
namespace Lf
open PySem L2
def shN:Dx→Option Bool
 | .non=>some true
 | .int _=>some false
 | .lst _=>some false
 | .tup _=>some false
 | .dic _=>some false
 | _=>none
theorem aPu {K:eE} {F:Fm} {P:List Rw} {H:Hp} {d:Dx} {v:V} {b:Bool} (R:Rep F P H) (h:IsX (hid (cD P) (F.vis H)) d v) (e:shN d=some b):ShN K H v b:=by
 unfold shN at e
 split at e
 ·cases e; rw [h.non_eq]; exact .non
 ·cases e; rw [h.int_eq]; exact .int _
 ·cases e; obtain ⟨a,vs,rfl,q,_⟩:=h.lst_eq; exact .lst (SqL.of (R.hv _ _ q))
 ·cases e; obtain ⟨a,vs,rfl,q,_⟩:=h.tup_eq; exact .tup (SqT.of (R.hv _ _ q))
 ·cases e; obtain ⟨a,ws,rfl,q,_⟩:=h.dic_eq; exact .dic (u5 R q)
 ·cases e
def aSt:G2:=fun a b Q=>match a,b with
 | .non,.lst l=>(l.all fun d=>(shN d).isSome)=true∧Q (.tr (.bl (l.any fun d=>shN d == some true)))
 | _,_=>False
theorem t7 {K:eE} {F:Fm} {P:List Rw} {H:Hp} (R:Rep F P H):∀ {l:List Dx} {vs:List V},All2 (IsX (hid (cD P) (F.vis H))) l vs→(l.all fun d=>(shN d).isSome)=true→∃ bs:List Bool,All2 (fun v b=>ShN K H v b) vs bs∧bs.any id=l.any fun d=>shN d == some true
 | [],_,h,_=>⟨[],by rw [show _=[] from h]; exact rfl,rfl⟩
 | d :: l,_,⟨v,vr,e,h1,h2⟩,h=>by
  rw [iS,cZ] at h
  obtain ⟨x,hx⟩:=dQ.mp h.1
  obtain ⟨bs,e1,e2⟩:=t7 (K:=K) R h2 h.2
  subst e
  refine ⟨x :: bs,⟨x,bs,rfl,aPu R h1 hx,e1⟩,?_⟩
  rw [fB,fB,e2,hx]
  cases x <;> rfl
theorem aQs {K:eE}:OpX (aVz K) aSt:=by
 intro F P H a b x y Q Qx R ha hb g k
 unfold aSt at g
 split at g
 ·cases ha.non_eq
  obtain ⟨p,vs,rfl,q3,q4⟩:=hb.lst_eq
  obtain ⟨bs,e1,e2⟩:=t7 (K:=K) R q4 g.1
  exact ⟨p,vs,rfl,rfl,SqL.of (R.hv _ _ q3),bs,e1,k _ _ H (R.add (IsX.of_bl _)) (by rw [e2]; exact g.2)⟩
 ·exact g.elim
end Lf
namespace L2
open PySem PySem.Spec PySem.SeqAt PyProof.Rows
def aWb (K:eE) (neg:Bool):R2:=fun x y H Q => ∃ (p b:Addr) (xs ys:List Bool),x=.ref p∧y=.ref b∧SqL K H p (xs.map V.bl)∧SqL K H b (ys.map V.bl)∧xs.length=ys.length∧Q (.bl (if neg then !decide (xs=ys) else decide (xs=ys))) H
theorem oS:∀ {xs:List Bool} {us:List Value},Vals (xs.map V.bl) us→us=xs.map Value.bool
 | [],_,h=>by cases h; rfl
 | x :: xs,_,h=>by
  cases h with
  | cons ra rb=>rw [oS rb]; cases ra; rfl
theorem oR:∀ {as:List Addr} {us:List Value},Vals (as.map V.ref) us→us=as.map Value.ref
 | [],_,h=>by cases h; rfl
 | x :: xs,_,h=>by
  cases h with
  | cons ra rb=>rw [oR rb]; cases ra; rfl
theorem c6:∀ {xs ys:List Bool},xs.length=ys.length→(List.range xs.length).all (fun j=>xs.getD j false == ys.getD j false)=decide (xs=ys):=by
 intro xs ys h
 by_cases e:xs=ys
 ·subst e
  simp
 ·rw [dzF e,List.all_eq_false]
  have:∃ j,j < xs.length∧xs.getD j false≠ys.getD j false:=by
   apply Classical.byContradiction
   intro hn
   apply e
   refine fJ fun j => ?_
   by_cases hj:j < xs.length
   ·have:xs.getD j false=ys.getD j false:=Classical.byContradiction fun z=>hn ⟨j,hj,z⟩
    rw [aR,aR,aA hj,aA (by omega)] at this
    rw [aA hj,aA (by omega)]
    exact congrArg some this
   ·rw [cF (by omega),cF (by omega)]
  obtain ⟨j,hj,Bf⟩:=this
  exact ⟨j,gO.mpr hj,by simpa using Bf⟩
theorem aMv {A:Around} {s:Shared} {xs ys:List Bool}:∀ (j:Nat) (h1:j < (xs.map Value.bool).toArray.size) (h2:j < (ys.map Value.bool).toArray.size),SeqAt.EqAt A s (xs.map Value.bool).toArray[j] (ys.map Value.bool).toArray[j] (xs.getD j false == ys.getD j false):=by
 intro j h1 h2
 have l1:j < xs.length:=by simpa using h1
 have l2:j < ys.length:=by simpa using h2
 rw [List.getElem_toArray,List.getElem_toArray,List.getElem_map,List.getElem_map,aR,aR,aA l1,aA l2]
 exact SeqAt.EqAt.bool_bool _ _
section
variable {X:Cx}
theorem aLe (hu:X.A.units < cLine):OpR X (compareOp .NotEq) (aWb X.K true):=by
 intro Aa s σ H x y v u Q I rx ry h
 obtain ⟨p,b,xs,ys,rfl,rfl,h1,h2,hl,q⟩:=h
 cases rx
 cases ry
 obtain ⟨its,r1,p1,_⟩:=I.list h1
 obtain ⟨its2,r2,p2,_⟩:=I.list h2
 cases oS r1
 cases oS r2
 refine PySem.SeqAt.RcNeAt.lists p1.isList p2.isList (by simp only [aW,aE]; omega) hu aMv _ _ _ _ ?_
 refine kZ I q ?_
 rw [aW,aE,c6 hl]
 rfl
end
end L2
namespace Lf
open PySem L2
def eqB (neg:Bool):G2:=fun a b Q => ∃ xs ys:List Bool,a=.lst (xs.map Dx.bl)∧b=.lst (ys.map Dx.bl)∧xs.length=ys.length∧Q (.tr (.bl (if neg then !decide (xs=ys) else decide (xs=ys))))
theorem n9 {G:Hp}:∀ {xs:List Bool} {vs:List V},All2 (IsX G) (xs.map Dx.bl) vs→vs=xs.map V.bl
 | [],_,h=>h
 | x :: xs,_,⟨v,vr,e,h1,h2⟩=>by rw [e,n9 h2,h1.bl_eq]; rfl
theorem aQt {K:eE} {neg:Bool}:OpX (aWb K neg) (eqB neg):=by
 intro F P H a b x y Q Qx R ha hb g k
 obtain ⟨xs,ys,rfl,rfl,hl,g⟩:=g
 obtain ⟨p,vs,rfl,q1,q2⟩:=ha.lst_eq
 obtain ⟨p',vs',rfl,q3,q4⟩:=hb.lst_eq
 cases n9 q2
 cases n9 q4
 exact ⟨p,p',xs,ys,rfl,rfl,SqL.of (R.hv _ _ q1),SqL.of (R.hv _ _ q3),hl,k _ _ H (R.add (IsX.of_bl _)) g⟩
def aNx (z:Str) (t:XT):XT:=fun ρ Q=>t ρ fun s ρ' => ∃ ys:List Str,s.d=.lst (ys.map Dx.str)∧(ys.map (·.length)).sum + ys.length * z.length≤16777216∧Q (.tr (.str (Txt.join z ys))) ρ'
theorem t4 {G:Hp}:∀ {ys:List Str} {vs:List V},All2 (IsX G) (ys.map Dx.str) vs→vs=ys.map V.str
 | [],_,h=>h
 | x :: xs,_,⟨v,vr,e,h1,h2⟩=>by rw [e,t4 h2,h1.str_eq]; rfl
theorem aJz {e:Expr} {t:XT} {z:Str} {j:Nat} {sp apos cpos:Pos} (h:XE X Ex e t)
  (Dq:attributeBase (.Constant (.str z) j sp) "join" X.env (eval (.Constant (.str z) j sp) X.env)=eval (.Constant (.str z) j sp) X.env:=by rfl)
  (Ho:((backTo cpos (starEach [e] X.env)).all (fun x => !x.1) && (backToKw cpos (keywordEach [] X.env)).all (fun x=>x.1.isSome)
   && decide ([e].length + ([]:List Keyword).length + (if ([]:List Keyword).isEmpty then 0 else 1) < 30))=true:=by rfl)
  (Fz:(apos.endLine == cpos.line)=true:=by rfl) (hs:starEach [e] X.env=(false,eval e X.env) :: starEach [] X.env:=by rfl) (D8:(backTo cpos (starEach [] X.env)).any (·.1)=false:=by rfl) :
  XE X Ex (.Call (.Attribute (.Constant (.str z) j sp) "join" apos) [e] [] cpos) (aNx z t):=fun F =>
 (pE PySem.F.plainAttrs_str PySem.F.slot_str_join PySem.F.type_str_join aLw (i7 (x:=z)) (lZ (h F) zM hs) Dq Ho Fz hs D8).weak fun σ H Q=>by
  rintro ⟨ρ,fr,Qx,E,t,k⟩
  refine ⟨rfl,ρ,fr,_,E,t,fun v s H' ρ' E' q => ?_⟩
  obtain ⟨ys,hd,hz,q⟩:=q
  obtain ⟨R,hx⟩:=E'.one
  rw [hd] at hx
  obtain ⟨p,vs,rfl,q1,q2⟩:=hx.lst_eq
  cases t4 q2
  exact ⟨z,p,ys,rfl,rfl,SqL.of (R.hv _ _ q1),hz,k _ _ H' ρ' (EOk.back E'.len (R.add (IsX.of_str _))) q⟩
def top (i:Nat):Stmt:=PySem.Challenge.pw_laidfields_k21_bytes_of_no_value.main.body.getD i (.Pass ⟨0,0,0,0⟩)
abbrev hi_:Stmt:=top 9
abbrev eg_:Stmt:=top 10
abbrev fk_:Stmt:=top 11
abbrev eq_:Stmt:=top 12
abbrev bq_:Stmt:=top 13
abbrev gm_:Stmt:=top 14
abbrev dq_:Stmt:=top 15
abbrev ch_:Stmt:=top 16
abbrev cy_:Stmt:=top 17
abbrev ci_:Stmt:=top 18
abbrev ez_:Stmt:=top 19
abbrev ay_:Stmt:=top 21
abbrev ei_:Stmt:=top 24
abbrev dh_:Stmt:=top 25
abbrev u0:Stmt:=top 26
abbrev hg_:Stmt:=top 27
abbrev fb_:Stmt:=top 28
abbrev ja_:Stmt:=top 29
abbrev ep_:Stmt:=top 30
abbrev ey_:Stmt:=top 31
abbrev ex_:Stmt:=top 32
abbrev fa_:Stmt:=top 33
abbrev hh_:Stmt:=top 35
abbrev er_:Stmt:=top 36
abbrev ce_:Stmt:=top 37
abbrev bw_:Stmt:=top 38
abbrev cm_:Stmt:=top 39
abbrev dt_:Stmt:=top 40
abbrev du_:Stmt:=top 41
abbrev de_:Stmt:=top 42
abbrev gn_:Stmt:=top 43
abbrev dy_:Stmt:=top 44
abbrev cs_:Stmt:=top 45
abbrev ie_:Stmt:=top 46
abbrev cp_:Stmt:=top 47
abbrev iy_:Stmt:=top 48
abbrev gb_:Stmt:=top 49
abbrev eh_:Stmt:=top 50
abbrev iz_:Stmt:=top 51
theorem xZ:FnScope AO AO (aQ hi_):=kF (by decide +kernel)
theorem rY:FnScope AD AD (aQ eg_):=kF (by decide +kernel)
theorem g_:FnScope AG AG (aQ fk_):=kF (by decide +kernel)
theorem xX:FnScope AM AM (aQ eq_):=kF (by decide +kernel)
theorem fw_:FnScope AU AU (aQ bq_):=kF (by decide +kernel)
theorem g9:FnScope BD BD (aQ gm_):=kF (by decide +kernel)
theorem kQ:FnScope ["kind","n","room"] ["kind","n"] (aQ dq_):=kF (by decide +kernel)
theorem gE:FnScope ["kinds","rooms","multiple","ends"] AM (aQ ch_):=kF (by decide +kernel)
theorem eW:FnScope ["rooms","places","end","room","place"] AU (aQ cy_):=kF (by decide +kernel)
theorem gF:FnScope ["kinds","rooms","multiple","greatest"] AM (aQ ci_):=kF (by decide +kernel)
theorem uM:FnScope BE BE (aQ ez_):=kF (by decide +kernel)
theorem iX:FnScope ["fields","places"] BF (aQ ay_):=kF (by decide +kernel)
theorem fL:FnScope ["kind","value","laid","step","k","each","field","placed"] AE (aQ ei_):=kF (by decide +kernel)
theorem gC:FnScope ["w","value","some","rest","k"] ["w","value"] (aQ dh_):=kF (by decide +kernel)
theorem h_:FnScope ["laid","place","some","k","byte"] AY (aQ u0):=kF (by decide +kernel)
theorem nA:FnScope ["kind","thing","value"] AI (aQ hg_):=kF (by decide +kernel)
theorem uN:FnScope AW AW (aQ fb_):=kF (by decide +kernel)
theorem i3:FnScope AO AO (aQ ja_):=kF (by decide +kernel)
theorem nB:FnScope ["kind","some","place","step"] AA (aQ ep_):=kF (by decide +kernel)
theorem iV:FnScope ["w","some","place","value","byte"] BC (aQ ey_):=kF (by decide +kernel)
theorem iU:FnScope ["fields","some","place","value","field","placed"] AV (aQ ex_):=kF (by decide +kernel)
theorem lR:FnScope ["kind","some","place","mark"] AA (aQ fa_):=kF (by decide +kernel)
theorem kU:FnScope ["script","k","cell"] ["script","k"] (aQ hh_):=kF (by decide +kernel)
theorem gY:FnScope ["pool","many","found","step","mark"] AF (aQ er_):=kF (by decide +kernel)
theorem kS:FnScope ["number","m","left"] AD (aQ ce_):=kF (by decide +kernel)
theorem eG:FnScope AB AG (aQ bw_):=kF (by decide +kernel)
theorem dP:FnScope AS AF (aQ cm_):=kF (by decide +kernel)
theorem eV:FnScope AR AK (aQ dt_):=kF (by decide +kernel)
theorem kW:FnScope ["thing","found","key"] AO (aQ du_):=kF (by decide +kernel)
theorem xY:FnScope AN AN (aQ de_):=kF (by decide +kernel)
theorem kD:FnScope ["width","found","k"] ["width"] (aQ gn_):=kF (by decide +kernel)
theorem gN:FnScope ["pool","kind","top","found","name","inner","k"] AX (aQ dy_):=kF (by decide +kernel)
theorem dL:FnScope AH AE (aQ cs_):=kF (by decide +kernel)
theorem sR:FnScope ["caught","due","kinds"] ["caught","due"] (aQ ie_):=kF (by decide +kernel)
theorem cW:FnScope AC AL (aQ cp_):=kF (by decide +kernel)
theorem lJ:FnScope ["kind","thing","byte","found"] AI (aQ iy_):=kF (by decide +kernel)
theorem fF:FnScope ["kind","thing","due","handed","caught","found","e"] AI (aQ gb_):=kF (by decide +kernel)
theorem dG:FnScope AQ AZ (aQ eh_):=kF (by decide +kernel)
theorem jL:FnScope AJ ["script"] (aQ iz_):=kF (by decide +kernel)
theorem aJb {n:Nat} (h:n≤12):bnd n < 2 ^ 150:=Int.lt_of_le_of_lt (gz_ h) (by decide)
section
variable {f g fRU fGM fPB fRS fRO fRR fRC fRH fSO fCA:Addr} {fd gd dRU dGM dPB dRS dRO dRR dRC dRH dSO dCA:FuncData} {n j:Nat}
theorem aGq:∀ {ks:List Kd} {i:Nat} {k:Kd},okK ks→ks[i]? = some k→k.Ok∧k.deep≤eP ks
 | [],_,_,_,e=>by simp at e
 | k' :: r,0,k,h,e=>by simp at e; subst e; exact ⟨h.1,eQ _ _⟩
 | k' :: r,i + 1,k,h,e=>by obtain ⟨a,b⟩:=aGq (i:=i) h.2 (by simpa using e); exact ⟨a,nzL b (eK _ _)⟩
theorem oZ:∀ {ks:List Kd} {i:Nat} {k:Kd},ks[i]? = some k→(rmK ks)[i]? = some k.rm
 | [],_,_,e=>by simp at e
 | k' :: r,0,k,e=>by simp at e; subst e; rfl
 | k' :: r,i + 1,k,e=>by show (rmK r)[i]? = _; exact oZ (by simpa using e)
theorem tW {ks:List Kd} (h:okK ks) (hd:eP ks≤n) (hn:n≤12):∀ r∈rmK ks,Bd (2 ^ 150) r:=fun r hr=>(bdK ks h r hr).mono (Int.le_of_lt (aJb (nzL hd hn)))
theorem aNm {k:Kd} (h:k.Ok) (hd:k.deep≤n) (hn:n≤12):Bd (2 ^ 150) k.rm:=(Kd.bd k h).mono (Int.le_of_lt (aJb (nzL hd hn)))
theorem vI:∀ {fs:List (Str×Kd)},okF fs→okK (fs.map (·.2))
 | [],_=>trivial
 | f :: r,h=>⟨h.1,vI h.2⟩
theorem jr_:∀ (fs:List (Str×Kd)),eP (fs.map (·.2))=eJ fs
 | []=>rfl
 | f :: r=>by show max f.2.deep (eP (r.map (·.2)))=_; rw [jr_ r]; rfl
theorem hk_:∀ (fs:List (Str×Kd)),rmK (fs.map (·.2))=rmF fs
 | []=>rfl
 | f :: r=>by show f.2.rm :: rmK (r.map (·.2))=_; rw [hk_ r]; rfl
end
def eO (x:Str):List Nat:=x.cps.toList
theorem cc_ (x:Str):x.length=(eO x).length:=by simp [eO,Str.length]
theorem gx_ (x y:Str):eO (x ++ y)=eO x ++ eO y:=by
 show (x.cps ++ y.cps).toList=_
 rw [Array.toList_append]
 rfl
theorem jv_ (c:Nat):eO ⟨#[c]⟩=[c]:=rfl
theorem zV {x:Str} {k:Int} (h0:0≤k) (h1:k≤(eO x).length):eO (Txt.slice x none (some k))=(eO x).take k.toNat:=by
 have e:=beq_iff_eq.mp (PyProof.Rows.slice_closes_toL (x:=x) h0 (by rw [cc_]; exact h1))
 rw [e]
 show (((x.cps.toList.drop 0).take (k - 0).toNat).toArray).toList=_
 simp [eO]
theorem m9 {x:Str} {k:Int} (h0:0≤k) (h1:k≤(eO x).length):eO (Txt.slice x (some k) none)=(eO x).drop k.toNat:=by
 rw [PyProof.Rows.slice_from_eq (x:=x) (b:=x.length) h0 (by rw [cc_]; exact h1) rfl]
 show (((x.cps.toList.drop k.toNat).take ((x.length:Int) - k).toNat).toArray).toList=_
 rw [List.toList_toArray,gW]
 ·rfl
 ·rw [iG,cc_]
  show x.cps.toList.length - k.toNat≤(((eO x).length:Int) - k).toNat
  show (eO x).length - k.toNat≤(((eO x).length:Int) - k).toNat
  omega
theorem tE (g:Array Nat) (hg:g = #[]):∀ (r:List Str) (Ad:Array Nat),(r.foldl (fun Ad p=>Ad ++ g ++ p.cps) Ad).toList=Ad.toList ++ (r.map eO).flatten
 | [],Ad=>by simp
 | y :: r,Ad=>by
  rw [List.foldl_cons,tE g hg r]
  subst hg
  simp [eO]
theorem m8 (ys:List Str):eO (Txt.join (Str.ofString "") ys)=(ys.map eO).flatten:=by
 show ((ys.drop 1).foldl (fun Ad p=>Ad ++ (Str.ofString "").cps ++ p.cps) (ys.headD Str.empty).cps).toList=_
 rw [tE _ (by decide)]
 cases ys with
 | nil=>rfl
 | cons y r=>rfl
def Low (l:List Nat):Prop := ∀ c∈l,97≤c∧c≤122
def Nm (x:Str):Prop:=1≤(eO x).length∧(eO x).length≤8∧Low (eO x)
abbrev lets:Str := "abcdefghijklmnopqrstuvwxyz"
theorem j9:eO lets=(List.range 26).map (97 + ·):=by decide +kernel
theorem aLy {r:Int} (h0:0≤r) (h1:r < 26):atI lets.cps.toList r=some (97 + r.toNat):=by
 have e:((r.toNat:Nat):Int)=r:=by omega
 have q:atI (eO lets) ((r.toNat:Nat):Int)=some (97 + r.toNat):=em_ (by
  rw [j9,bG,List.getElem?_range (by omega)]
  rfl)
 rw [e] at q
 exact q
def qU (t:Nat):Str:=Txt.mul ⟨#[97 + t]⟩ 8
theorem hr_ (t:Nat):eO (qU t)=List.replicate 8 (97 + t):=PyProof.Rows.mul_one_list (97 + t) 8
theorem aIx {s t:Nat} (h:qU s=qU t):s=t:=by
 have e:=congrArg eO h
 rw [hr_,hr_] at e
 have e1:(97 + s) :: List.replicate 7 (97 + s)=(97 + t) :: List.replicate 7 (97 + t):=e
 have:=(List.cons.inj e1).1
 omega
theorem aNj {t:Nat} (h:t < 26):Nm (qU t):=by
 unfold Nm
 rw [hr_]
 refine ⟨by simp,by simp,fun c hc => ?_⟩
 have:=(List.mem_replicate.mp hc).2
 omega
theorem aFt {α:Type} [BEq α] [LawfulBEq α]:∀ (l xs:List α),l.Nodup→(∀ a∈l,a∈xs)→l.length≤xs.length
 | [],_,_,_=>cK _
 | a :: r,xs,hn,hs=>by
  have ha:=hs a aB
  obtain ⟨h1,h2⟩:=dI.mp hn
  have ih:=aFt r (xs.erase a) h2 fun b hb=>(List.mem_erase_of_ne (fun e=>h1 (by rw [← e]; exact hb))).mpr (hs b (aD _ hb))
  rw [List.length_erase_of_mem ha] at ih
  have:=List.length_pos_of_mem ha
  rw [aM]
  omega
theorem aIw {xs:List Str} {t:Nat} (h:∀ j < t,qU j∈xs):t≤xs.length:=by
 have q:=aFt ((List.range t).map qU) xs ?_ ?_
 ·rw [aE,bR] at q
  exact q
 ·refine List.nodup_iff_pairwise_ne.mpr (List.pairwise_map.mpr ?_)
  exact List.Pairwise.imp (fun F4 e=>F4 (aIx e)) (List.nodup_iff_pairwise_ne.mp List.nodup_range)
 ·intro a ha
  obtain ⟨j,hj,rfl⟩:=cP.mp ha
  exact h j (gO.mp hj)
theorem yR {x:Str}:∀ {xs:List Str},inV (.str x) (xs.map V.str)=true↔x∈xs:=by
 intro xs
 unfold inV
 rw [List.any_map,List.any_eq_true]
 constructor
 ·rintro ⟨y,hy,e⟩
  have e':(y == x)=true:=e
  have:y=x:=by simpa using e'
  rw [← this]
  exact hy
 ·intro h
  exact ⟨x,h,(beq_self_eq_true x:(x == x)=true)⟩
theorem jd_ (c:Nat):(⟨#[c]⟩ : Str).length=1:=rfl
theorem aLv {st:Str} {r s:Int} (h7:(eO st).length=7) (hl:Low (eO st)) (h0:0≤r) (h1:r < 8) (h2:0≤s) (h3:s < 26) :
  Nm (Txt.slice st none (some r) ++ ⟨#[97 + s.toNat]⟩)∧(Txt.slice st none (some r)).length≤7:=by
 have e:=zV (x:=st) h0 (by omega)
 constructor
 ·unfold Nm
  rw [gx_,e,jv_]
  refine ⟨by simp,by simp; omega,fun c hc => ?_⟩
  rcases bA.mp hc with hc | hc
  ·exact hl c (List.mem_of_mem_take hc)
  ·have:=aO.mp hc
   omega
 ·rw [cc_,e,bT]
  omega
theorem aLu {ys:List Str} (hl:∀ y∈ys,∃ j:Nat,j < 26∧y=⟨#[97 + j]⟩) (h1:1≤ys.length) (h8:ys.length≤8):Nm (Txt.join (Str.ofString "") ys):=by
 unfold Nm
 rw [m8]
 have key:∀ zs:List Str,(∀ y∈zs,∃ j:Nat,j < 26∧y=⟨#[97 + j]⟩)→((zs.map eO).flatten).length=zs.length∧Low (zs.map eO).flatten:=by
  intro zs
  induction zs with
  | nil=>intro _; exact ⟨rfl,fun c hc=>by simp at hc⟩
  | cons z r ih =>
   intro h
   obtain ⟨a,b⟩:=ih fun y hy=>h y (aD _ hy)
   obtain ⟨j,hj,rfl⟩:=h z aB
   rw [aP,fI,jv_]
   refine ⟨by rw [aC,a]; simp; omega,fun c hc => ?_⟩
   rcases bA.mp hc with hc | hc
   ·have:=aO.mp hc
    omega
   ·exact b c hc
 obtain ⟨a,b⟩:=key ys hl
 exact ⟨by omega,by omega,b⟩
theorem v4 {x:Str} {r s:Int} (hx:Nm x) (h0:0≤r) (h1:r < x.length) (h2:0≤s) (h3:s < 26) :
  Nm (Txt.slice x none (some r) ++ ⟨#[97 + s.toNat]⟩ ++ Txt.slice x (some (r + 1)) none)∧(Txt.slice x none (some r)).length≤8∧(Txt.slice x (some (r + 1)) none).length≤8:=by
 obtain ⟨a,b,c⟩:=hx
 rw [cc_] at h1
 have e:=zV (x:=x) h0 (by omega)
 have e2:=m9 (x:=x) (k:=r + 1) (by omega) (by omega)
 refine ⟨?_,?_,?_⟩
 ·unfold Nm
  rw [gx_,gx_,e,e2,jv_]
  refine ⟨by simp; omega,by simp; omega,fun z hz => ?_⟩
  rcases bA.mp hz with hz | hz
  ·rcases bA.mp hz with hz | hz
   ·exact c z (List.mem_of_mem_take hz)
   ·have:=aO.mp hz
    omega
  ·exact c z (List.mem_of_mem_drop hz)
 ·rw [cc_,e,bT]
  omega
 ·rw [cc_,e2,iG]
  omega
def aUh (st:Str):Prop:=(eO st).length=7∧Low (eO st)
theorem nN {v:V} (h:v∈[V.str "abcdefg",V.str "placeof",V.str "zyxwvut",V.str "kjqrshn"]):∃ st:Str,v=.str st∧aUh st:=by
 have L:∀ st:Str,((eO st).length == 7 && (eO st).all fun c=>decide (97≤c) && decide (c≤122))=true→aUh st:=by
  intro st h
  rw [cZ,gP] at h
  refine ⟨by simpa using h.1,fun c hc => ?_⟩
  have:=h.2 c hc
  simpa using this
 simp only [aI,bI,or_false] at h
 rcases h with rfl | rfl | rfl | rfl
 ·exact ⟨_,rfl,L _ (by decide +kernel)⟩
 ·exact ⟨_,rfl,L _ (by decide +kernel)⟩
 ·exact ⟨_,rfl,L _ (by decide +kernel)⟩
 ·exact ⟨_,rfl,L _ (by decide +kernel)⟩
theorem aMa (x y:Str):(x ++ y).length=x.length + y.length:=by rw [cc_,gx_,aC,cc_ x,cc_ y]
theorem yF:∀ {ys:List Str},(∀ y∈ys,∃ j:Nat,j < 26∧y=⟨#[97 + j]⟩)→(ys.map (·.length)).sum=ys.length
 | [],_=>rfl
 | y :: r,h=>by
  obtain ⟨j,_,rfl⟩:=h y aB
  rw [aP,List.sum_cons,yF fun y hy=>h y (aD _ hy),aM,jd_]
  omega
mutual
def Kd.Full:Kd→Prop
 | .num _ _=>True
 | .row k _=>k.Full
 | .rcd fs=>fs≠[]∧aAe fs
 | .cho ks=>ks≠[]∧aAd ks
def aAe:List (Str×Kd)→Prop
 | []=>True
 | f :: r=>f.2.Full∧aAe r
def aAd:List Kd→Prop
 | []=>True
 | k :: r=>k.Full∧aAd r
end
theorem yX:∀ {fs:List (Str×Kd)} {i:Nat} {f:Str×Kd},aAe fs→fs[i]? = some f→f.2.Full
 | [],_,_,_,e=>by simp at e
 | k' :: r,0,k,h,e=>by simp at e; subst e; exact h.1
 | k' :: r,i + 1,k,h,e=>yX (i:=i) h.2 (by simpa using e)
theorem yW:∀ {ks:List Kd} {i:Nat} {k:Kd},aAd ks→ks[i]? = some k→k.Full
 | [],_,_,_,e=>by simp at e
 | k' :: r,0,k,h,e=>by simp at e; subst e; exact h.1
 | k' :: r,i + 1,k,h,e=>yW (i:=i) h.2 (by simpa using e)
theorem aGr:∀ {fs:List (Str×Kd)} {i:Nat} {f:Str×Kd},okF fs→fs[i]? = some f→f.2.Ok∧f.2.deep≤eJ fs
 | [],_,_,_,e=>by simp at e
 | k' :: r,0,k,h,e=>by simp at e; subst e; exact ⟨h.1,eQ _ _⟩
 | k' :: r,i + 1,k,h,e=>by obtain ⟨a,b⟩:=aGr (i:=i) h.2 (by simpa using e); exact ⟨a,nzL b (eK _ _)⟩
theorem mH:∀ {fs:List (Str×Kd)} {i:Nat} {f:Str×Kd},fs[i]? = some f→(rmF fs)[i]? = some f.2.rm
 | [],_,_,e=>by simp at e
 | k' :: r,0,k,e=>by simp at e; subst e; rfl
 | k' :: r,i + 1,k,e=>by show (rmF r)[i]? = _; exact mH (by simpa using e)
theorem aJh {fs:List (Str×Kd)} {n:Nat} (h:okF fs) (hd:eJ fs≤n) (hn:n≤12):∀ r∈rmF fs,Bd (2 ^ 150) r:=fun r hr=>(bdF fs h r hr).mono (Int.le_of_lt (aJb (nzL hd hn)))
mutual
def Kd.Fit:Kd→Prop
 | .num w m=>1≤w∧w≤8∧(m=1∨m=2∨m=4∨m=8)
 | .row k n=>k.Fit∧1≤n∧n≤20
 | .rcd fs=>lL fs∧1≤fs.length∧fs.length≤8∧(fs.map (·.1)).Nodup
 | .cho ks=>mP ks∧1≤ks.length∧ks.length≤6
def lL:List (Str×Kd)→Prop
 | []=>True
 | f :: r=>(Nm f.1∧f.2.Fit)∧lL r
def mP:List Kd→Prop
 | []=>True
 | k :: r=>k.Fit∧mP r
end
mutual
theorem Kd.Fit.ok:∀ (k:Kd),k.Fit→k.Ok
 | .num w m,h=>by
  obtain ⟨a,b,c⟩:=h
  exact ⟨a,b,by omega,by omega⟩
 | .row k n,h=>⟨Kd.Fit.ok k h.1,by have:=h.2.1; omega,by have:=h.2.2; omega⟩
 | .rcd fs,h=>⟨jq_ fs h.1,by have:=h.2.2.1; omega⟩
 | .cho ks,h=>⟨jp_ ks h.1,by have:=h.2.2; omega⟩
theorem jq_:∀ (fs:List (Str×Kd)),lL fs→okF fs
 | [],_=>trivial
 | f :: r,h=>⟨Kd.Fit.ok f.2 h.1.2,jq_ r h.2⟩
theorem jp_:∀ (ks:List Kd),mP ks→okK ks
 | [],_=>trivial
 | k :: r,h=>⟨Kd.Fit.ok k h.1,jp_ r h.2⟩
end
mutual
theorem Kd.Fit.full:∀ (k:Kd),k.Fit→k.Full
 | .num w m,h=>trivial
 | .row k n,h=>Kd.Fit.full k h.1
 | .rcd fs,h=>⟨(by intro z; rw [z] at h; exact absurd h.2.1 (by decide)),tJ fs h.1⟩
 | .cho ks,h=>⟨(by intro z; rw [z] at h; exact absurd h.2.1 (by decide)),tH ks h.1⟩
theorem tJ:∀ (fs:List (Str×Kd)),lL fs→aAe fs
 | [],_=>trivial
 | f :: r,h=>⟨Kd.Fit.full f.2 h.1.2,tJ r h.2⟩
theorem tH:∀ (ks:List Kd),mP ks→aAd ks
 | [],_=>trivial
 | k :: r,h=>⟨Kd.Fit.full k h.1,tH r h.2⟩
end
theorem tI:∀ {fs:List (Str×Kd)} {f:Str×Kd},lL fs→Nm f.1→f.2.Fit→lL (fs ++ [f])
 | [],_,_,a,b=>⟨⟨a,b⟩,trivial⟩
 | g :: r,f,h,a,b=>⟨h.1,tI h.2 a b⟩
theorem tG:∀ {ks:List Kd} {k:Kd},mP ks→k.Fit→mP (ks ++ [k])
 | [],_,_,b=>⟨b,trivial⟩
 | g :: r,f,h,b=>⟨h.1,tG h.2 b⟩
theorem qP:∀ {fs:List (Str×Kd)} {f:Str×Kd} {n:Nat},eJ fs≤n→f.2.deep≤n→eJ (fs ++ [f])≤n
 | [],f,n,_,b=>by show max f.2.deep 0≤n; omega
 | g :: r,f,n,h,b=>by
  have h':max g.2.deep (eJ r)≤n:=h
  have:=qP (fs:=r) (f:=f) (n:=n) (by omega) b
  show max g.2.deep (eJ (r ++ [f]))≤n
  omega
theorem qO:∀ {ks:List Kd} {k:Kd} {n:Nat},eP ks≤n→k.deep≤n→eP (ks ++ [k])≤n
 | [],f,n,_,b=>by show max f.deep 0≤n; omega
 | g :: r,f,n,h,b=>by
  have h':max g.deep (eP r)≤n:=h
  have:=qO (ks:=r) (k:=f) (n:=n) (by omega) b
  show max g.deep (eP (r ++ [f]))≤n
  omega
def tk:Nat→Int
 | 0=>0
 | n + 1=>3000 + 12 * tk n
theorem sO:∀ n,0≤tk n
 | 0=>iB _
 | n + 1=>by have:=sO n; show 0≤3000 + 12 * tk n; omega
mutual
def Kd.x:Kd→Dx
 | .num w m=>.tup [.str "number",.int w,.int m]
 | .row k n=>.tup [.str "row",k.x,.int n]
 | .rcd fs=>.tup [.str "record",.lst (xF fs)]
 | .cho ks=>.tup [.str "choice",.lst (xK ks)]
def xF:List (Str×Kd)→List Dx
 | []=>[]
 | f :: r=>.tup [.str f.1,f.2.x] :: xF r
def xK:List Kd→List Dx
 | []=>[]
 | k :: r=>k.x :: xK r
end
theorem xE:∀ fs:List (Str×Kd),xF fs=fs.map fun f=>.tup [.str f.1,f.2.x]
 | []=>rfl
 | f :: r=>by rw [xF,xE r]; rfl
theorem sE:∀ ks:List Kd,xK ks=ks.map Kd.x
 | []=>rfl
 | f :: r=>by rw [xK,sE r]; rfl
mutual
def Dx.deep:Dx→Nat
 | .tup l=>jC l + 1
 | .lst l=>jC l + 1
 | .dic l=>qN l + 1
 | _=>1
def jC:List Dx→Nat
 | []=>0
 | d :: r=>max d.deep (jC r)
def qN:List (Key×Dx)→Nat
 | []=>0
 | k :: r=>max k.2.deep (qN r)
end
mutual
def Dx.Sz:Dx→Prop
 | .tup l=>l.length≤100000∧szX l
 | .lst l=>l.length≤100000∧szX l
 | .dic l=>l.length≤100000∧(l.map (·.1)).Nodup∧aEu l
 | .scr _ _=>False
 | .ins _ _=>False
 | .exc _=>False
 | _=>True
def szX:List Dx→Prop
 | []=>True
 | d :: r=>d.Sz∧szX r
def aEu:List (Key×Dx)→Prop
 | []=>True
 | k :: r=>k.2.Sz∧aEu r
end
theorem fm_:∀ {l:List Dx} {d:Dx},d∈l→d.deep≤jC l
 | e :: r,d,h=>by
  show _≤max _ _
  rcases aI.mp h with rfl | h
  ·exact eQ _ _
  ·exact nzL (fm_ h) (eK _ _)
theorem hp_:∀ {l:List (Key×Dx)} {p:Key×Dx},p∈l→p.2.deep≤qN l
 | e :: r,d,h=>by
  show _≤max _ _
  rcases aI.mp h with rfl | h
  ·exact eQ _ _
  ·exact nzL (hp_ h) (eK _ _)
theorem ga_:∀ {l:List Dx} {d:Dx},szX l→d∈l→d.Sz
 | e :: r,d,hs,h=>by
  rcases aI.mp h with rfl | h
  ·exact hs.1
  ·exact ga_ hs.2 h
theorem oY:∀ {l:List (Key×Dx)} {p:Key×Dx},aEu l→p∈l→p.2.Sz
 | e :: r,d,hs,h=>by
  rcases aI.mp h with rfl | h
  ·exact hs.1
  ·exact oY hs.2 h
def Dx.own:Dx→Sv
 | .lst l=>.ol l
 | .dic l=>.od l
 | d=>.tr d
theorem lG (d:Dx):d.own.d=d:=by cases d <;> rfl
def gCP (n:Nat):GC:=fun ds Q => ∃ d,ds=[d]∧d.Sz∧d.deep≤n∧Q d.own
theorem v6 {α β:Type} {f:α→β}:∀ (l:List α),(l.map fun d=>[f d]).flatten=l.map f
 | []=>rfl
 | d :: l=>by simp [v6 l]
theorem aAg (l:List Dx):[] ++ (l.map fun d=>[d]).flatten=l:=by simp [v6 (f:=fun d:Dx=>d)]
theorem ii_ {l:List (Key×Dx)} {k:Key} {d:Dx} (h:k∉l.map (·.1)):yD l k d=l ++ [(k,d)]:=by
 unfold yD
 have:(l.any fun kv=>decide (kv.1=k))=false:=by
  rw [List.any_eq_false]
  intro kv hkv z
  exact h (by rw [← of_decide_eq_true z]; exact dE (f:=fun x:Key×Dx=>x.1) hkv)
 rw [this,if_neg aX]
theorem hn_:∀ {l:List (Key×Dx)} {p:Key×Dx},(l.map (·.1)).Nodup→p∈l→lD l p.1=some p.2
 | q :: l,p,hn,h=>by
  unfold lD
  rw [fK]
  have Dv:=dI.mp hn
  rcases aI.mp h with rfl | h
  ·rw [dzT rfl]; rfl
  ·have Bf:¬ q.1=p.1:=fun z=>Dv.1 (by show q.1∈_; rw [z]; exact dE (f:=fun x:Key×Dx=>x.1) h)
   rw [dzF Bf]
   exact hn_ Dv.2 h
theorem pV (k:Key):yN (sC k)=some k:=by cases k <;> rfl
section
variable {f:Addr} {n j:Nat}
theorem aWp (F:Fun K "_law_copy" "_law_copy" du_ f fd) (Iu:Cal P w K mg base j "_law_copy" AO (spX (gCP n))) (Ab:mg "isinstance" = none) (m_list:mg "list" = none) (Ai:mg "tuple" = none) (Ax:mg "dict" = none) :
  FnOk P w K mg base CX0 (j + 1) f fd AO (spX (gCP (n + 1))):=by
 refine lU F kW (fun ds Q h=>by obtain ⟨d,rfl,_⟩:=h; rfl) (by decide) fun Ak A outer s H E hr => ?_
 have As:=qK hr
 refine ⟨_,(dO (iE (xG (b_ .list Ab (bE (pv 0)) (rV (v:=.ty "list") rfl m_list hs_ rfl))) (eF (gD (rW (dsc:=aQ du_) (N:=["thing","found","key"]) (tgs:=["one"]) (outs:=[]) (N':=["one"]) (by refine ⟨rfl,?_,?_,?_,rfl,?_,?_,?_⟩ <;> decide +kernel) (mW (bE (pv 0))) (fun _ _ _ _ _=>(gG (i:=0) (show (["one"]:List Str).Nodup by decide +kernel) rfl (Or.inl rfl) (.inr rfl))) (kJ (n:=1) (i:=0) (by decide)) (qZ (by decide)) (fun _ _ _ _ _=>mD) (fun _ _ _ _ _=>(fW Iu (hr.mono (by omega)) (bF (bE (pv 0)) bX)))))) jE)
  (dO (iE (xG (b_ .tuple Ab (bE (pv 0)) (rV (v:=.ty "tuple") rfl Ai fd_ rfl))) (eF (gD (en_ (jx_ K) zQ (by rfl) Ai fd_ (bF (rW (dsc:=aQ du_) (N:=["thing","found","key"]) (tgs:=["one"]) (outs:=[]) (N':=["one"]) (by refine ⟨rfl,?_,?_,?_,rfl,?_,?_,?_⟩ <;> decide +kernel) (aPg (bE (pv 0))) (fun _ _ _ _ _=>(gG (i:=0) (show (["one"]:List Str).Nodup by decide +kernel) rfl (Or.inl rfl) (.inr rfl))) (kJ (n:=1) (i:=0) (by decide)) (qZ (by decide)) (fun _ _ _ _ _=>mD) (fun _ _ _ _ _=>(fW Iu (hr.mono (by omega)) (bF (bE (pv 0)) bX)))) bX)))) jE)
  (dO (iE (xG (b_ .dict Ab (bE (pv 0)) (rV (v:=.ty "dict") rfl Ax wT rfl))) (dO (eS (i:=1) kW.nd rfl (Or.inl rfl) is_)
  (dO (aJv PassesOwn.never rfl (pv 0) (gG (i:=2) kW.nd rfl (Or.inl rfl)) (kJ (n:=99) (i:=2) (by decide)) (eF (qL fun F=>PS.weak (nO As (pv 1) (XE.at (Ex:=dU) F (bE (pv 2))) (XE.at (Ex:=dU) F (fW Iu (hr.mono (by omega)) (bF (it_ As (bE (pv 0)) (bE (pv 2)) (fun _ _=>rfl)) bX))) rfl) nM)))
  (eF (gD (tQ (pv 1)))))) jE)
  (eF (gD (tQ (pv 0))))))),fun ds Q h => ?_⟩
 clear As
 obtain ⟨d,rfl,hs,hd,q⟩:=h
 cases d with
 | scr _ _=>simp only [Dx.Sz] at hs
 | ins _ _=>simp only [Dx.Sz] at hs
 | exc _=>simp only [Dx.Sz] at hs
 | lst l =>
  show l.length≤1000000∧dX 1 (gxN 0) lO (dS (gCP n) (bL (bW 0) dD)) _ l [] []
  simp only [Dx.Sz] at hs
  refine ⟨by omega,ju_ (fun d=>[d]) (fun d hm Ad P p => ?_) (by rw [aAg]; exact q)⟩
  exact ⟨d,rfl,ga_ hs.2 hm,by have:=fm_ hm; simp only [Dx.deep] at hd; omega,by show P (Ad ++ [d.own.d]) []; rw [lG]; exact p⟩
 | tup l =>
  show l.length≤1000000∧dX 1 (gxN 0) lO (dS (gCP n) (bL (bW 0) dD)) _ l [] []
  simp only [Dx.Sz] at hs
  refine ⟨by omega,ju_ (fun d=>[d]) (fun d hm Ad P p => ?_) (by rw [aAg]; exact q)⟩
  exact ⟨d,rfl,ga_ hs.2 hm,by have:=fm_ hm; simp only [Dx.deep] at hd; omega,by show P (Ad ++ [d.own.d]) []; rw [lG]; exact p⟩
 | dic l =>
  simp only [Dx.Sz] at hs
  simp only [Dx.deep] at hd
  show iJ _ _ _ (jU l) _
  refine il_ (fun ks ρ => ∃ done rest x,l=done ++ rest∧ks=jU rest∧ρ=[vT (.dic l),.v (.od done),x]) (fun ρ h => ?_) (fun k ks ρ K h hk => ?_) ⟨[],l,.un,rfl,rfl,rfl⟩
  ·obtain ⟨done,rest,x,e1,e2,rfl⟩:=h
   have:rest=[]:=by cases rest with | nil=>rfl | cons a b=>simp [jU] at e2
   subst this
   rw [bZ] at e1
   subst e1
   exact q
  ·obtain ⟨done,rest,x,e1,e2,rfl⟩:=h
   cases rest with
   | nil=>simp [jU] at e2
   | cons p rest =>
    simp only [jU,aP,List.cons.injEq] at e2
    obtain ⟨rfl,rfl⟩:=e2
    have hm:p∈l:=by rw [e1]; exact aK _ aB
    have F1:=hn_ hs.2.1 hm
    have C8:p.1∉done.map (·.1):=by
     have:=hs.2.1
     rw [e1,cU,gJ] at this
     exact fun z=>this.2.2 _ z _ (dE (f:=fun x:Key×Dx=>x.1) aB) rfl
    have Aj:done.length≤l.length:=by rw [e1,aC]; omega
    have Ba:=hk [vT (.dic l),.v (.od (yD done p.1 p.2)),vT (sC p.1)] ⟨done ++ [p],rest,vT (sC p.1),by rw [e1,bD]; rfl,rfl,by rw [ii_ C8]⟩
    have Ea:K [vT (.dic l),.v (.od (yD done p.1 p.2.own.d)),vT (sC p.1)]:=by rw [lG]; exact Ba
    simp only [gxN,p_,dS,bL,dD,xOp,bW,bK,bO,cH,cA,Sv.d,aP,bP,dgX,pV,F1]
    exact ⟨p.2,rfl,oY hs.2.2 hm,by have:=hp_ hm; omega,⟨done,rfl⟩,by omega,Ea⟩
 | non=>exact q
 | bl b=>exact q
 | int i=>exact q
 | str x=>exact q
end
def PoolX (B:Int) (l:List Dx):Prop := ∃ c md st:Int,l=[.int c,.int md,.int st]∧0≤st∧st≤B
theorem PoolX.mono {B C:Int} {l:List Dx} (h:PoolX B l) (hb:B≤C):PoolX C l:=by
 obtain ⟨c,md,st,e,h0,h1⟩:=h
 exact ⟨c,md,st,e,h0,by omega⟩
def gTK:GB:=fun l ds Q => ∃ B many:Int,ds=[.int many]∧PoolX B l∧B < 2 ^ 60∧0 < many∧many < 2 ^ 250∧∀ (r:Int) (l':List Dx),0≤r→r < many→PoolX (B + 1) l'→Q (.int r) l'
def gLR:GC:=fun ds Q => ∃ n m:Int,ds=[.int n,.int m]∧0≤n∧0 < m∧Q (.tr (.int (up n m)))
section
variable {f:Addr} {n j:Nat}
theorem ij_ (F:Fun K "_law_take" "_law_take" er_ f fd):FnOk P w K mg base CX0 1 f fd AF (spB gTK):=by
 refine aCm F gY (fun l ds Q h=>by obtain ⟨B,m,rfl,_⟩:=h; rfl) (by decide) fun Ak A outer s H E hr => ?_
 have Am:=bV (qK hr)
 refine ⟨_,(dO (iE (iM (kO K Am) kL (eu_ K (pv 0) dH (fun _ _=>rfl)) dH (bY _)) (dO (eS (i:=2) gY.nd rfl (Or.inl rfl) (ht_ (eu_ K (pv 0) dH (fun _ _=>rfl)) (bE (pv 1))))
  (dO (qL fun F=>PS.weak (hu_ (XE.at (Ex:=dU) F (ir_ (eu_ K (pv 0) dH (fun _ _=>rfl)) (bE (pv 1)))) (mK (pv 0) (XE.at (Ex:=dU) F dH) fq_)) hf_)
  (eF (gD (tQ (pv 2)))))) jE)
  (dO (qL fun F=>PS.weak (hu_ (XE.at (Ex:=dU) F (iD (eu_ K (pv 0) dH (fun _ _=>rfl)) dH)) (mK (pv 0) (XE.at (Ex:=dU) F dH) fq_)) hf_)
  (dO (eS (i:=3) gY.nd rfl (Or.inl rfl) (eu_ K (pv 0) dH (fun _ _=>rfl)))
  (dO (eS (i:=4) gY.nd rfl (Or.inl rfl) (qT (iD (ht_ (eu_ K (pv 0) dH (fun _ _=>rfl)) dH) dH) (iD (qT dH (bE (pv 3))) dH)))
  (dO (eS (i:=4) gY.nd rfl (Or.inl rfl) (iD (bE (pv 4)) (qT (qT dH (bE (pv 3))) (bE (pv 3)))))
  (dO (eS (i:=4) gY.nd rfl (Or.inl rfl) (ht_ (qT (bE (pv 4)) (bE (pv 4))) dH))
  (eF (gD (ht_ (ir_ (ht_ (qT (bE (pv 4)) (iD (bE (pv 4)) dH)) dH) dH) (bE (pv 1))))))))))),fun l ds Q h => ?_⟩
 obtain ⟨B,many,rfl,⟨c,md,st,rfl,h0,h1⟩,hB,h2,h3,q⟩:=h
 simp only [cV,fM,xIf,xB,xOp,bW,jO,xC,eU,iW,sJ,uD,ixP,iL,sA,gIC,eqX,eqS,mI,fY,fA,fV,ec_,eb_,pR,rM,rL,rK,rJ,rH,rG,rF,rE,rB,rA,pY,pX,pW,bK,bO,cH,cA,Sv.d,aP,bP,dJ,dC,bU,aZ,aM,aU,bH,cB,Nat.reduceAdd,Nat.reduceSub,Nat.reduceLeDiff,true_and,decide_eq_true_eq,cut,iP,back,eC,if_true,↓reduceIte,dF,eI]
 by_cases e:md=1
 ·rw [if_pos e]
  exact ⟨h2,⟨h2,h3⟩,q _ _ (gZ _ (by omega)) (fX _ h2) ⟨_,_,_,rfl,h0,by omega⟩⟩
 ·rw [if_neg e]
  have a0:(0:Int)≤c % 9999999619:=gZ _ (by decide)
  have a1:c % 9999999619 < 9999999619:=fX _ (by decide)
  refine ⟨by decide,⟨by decide,by omega⟩,⟨by omega,by omega⟩,⟨by decide,by omega⟩,⟨by omega,by omega⟩,?_⟩
  have m1:0≤(c % 9999999619 + 983) * (23 * (st + 1) + 53):=Int.mul_nonneg (by omega) (by omega)
  have m2:(c % 9999999619 + 983) * (23 * (st + 1) + 53)≤10000000602 * (23 * (st + 1) + 53):=cY (by omega) (by omega)
  have m3:0≤3491 * (st + 1) * (st + 1):=Int.mul_nonneg (by omega) (by omega)
  have m4:3491 * (st + 1) * (st + 1)≤3491 * (st + 1) * 2 ^ 61:=Int.mul_le_mul_of_nonneg_left (by omega) (by omega)
  generalize (c % 9999999619 + 983) * (23 * (st + 1) + 53)=A1 at m1 m2 ⊢
  generalize 3491 * (st + 1) * (st + 1)=A2 at m3 m4 ⊢
  refine ⟨⟨by omega,by omega⟩,by decide,?_⟩
  have b0:(0:Int)≤(A1 + A2) * (A1 + A2) % 99999999659:=gZ _ (by decide)
  have b1:(A1 + A2) * (A1 + A2) % 99999999659 < 99999999659:=fX _ (by decide)
  generalize (A1 + A2) * (A1 + A2) % 99999999659=B2 at b0 b1 ⊢
  exact ⟨⟨by omega,by omega⟩,by decide,⟨by decide,by decide⟩,h2,q _ _ (gZ _ (by omega)) (fX _ h2) ⟨_,_,_,rfl,by omega,by omega⟩⟩
theorem j4 (F:Fun K "_law_rounded" "_law_rounded" ce_ f fd):FnOk P w K mg base CX0 1 f fd AD (spX gLR):=by
 refine lU F kS (fun ds Q h=>by obtain ⟨B,m,rfl,_⟩:=h; rfl) (by decide) fun Ak A outer s H E hr => ?_
 have Am:=bV (qK hr)
 refine ⟨_,(dO (eS (i:=2) kS.nd rfl (Or.inl rfl) (ht_ (bE (pv 0)) (bE (pv 1))))
  (dO (iE (iM (kO K Am) kL (bE (pv 2)) dH (bY _)) (eF (gD (tQ (pv 0)))) jE)
  (eF (gD (fg_ (iD (bE (pv 0)) (bE (pv 1))) (bE (pv 2))))))),fun ds Q h => ?_⟩
 obtain ⟨n,m,rfl,h0,h1,q⟩:=h
 simp only [cV,fM,xIf,xB,xOp,bW,jO,xC,eU,iW,iL,gI,gIC,eqX,eqS,mI,fY,fA,fV,ec_,eb_,pR,rM,rL,rK,rJ,rH,rG,rF,rE,rB,rA,pY,pX,pW,bK,bO,cH,cA,Sv.d,aP,bP,dJ,dC,bU,aZ,aM,aU,bH,cB,Nat.reduceAdd,Nat.reduceSub,Nat.reduceLeDiff,true_and,decide_eq_true_eq,cut,iP,back,eC,if_true,↓reduceIte,dF,eI]
 refine ⟨h1,?_⟩
 rw [← aPm h1] at q
 unfold upL at q
 by_cases e:n % m=0
 ·rw [if_pos e] at q ⊢
  exact q
 ·rw [if_neg e] at q ⊢
  exact q
end
def prD (r:Int×Int):Dx:=.lst [.int r.1,.int r.2]
def gLM (n:Nat):GC:=fun ds Q => ∃ kd:Kd,ds=[kd.x]∧kd.Ok∧kd.Full∧kd.deep≤n∧n≤12∧Q (.ol [.int kd.rm.1,.int kd.rm.2])
theorem vN {rs:List (Int×Int)} {sel:Int×Int→Int} {d:Int} {Q:Sv→Prop} (Bf:rs≠[]) (G7:∀ r∈rs,d≤sel r) (q:Q (.tr (.int (maxL d (rs.map sel))))):yL [.lst (rs.map fun r=>.int (sel r))] Q:=by
 refine ⟨rs.map sel,by rw [cQ]; rfl,fun z=>Bf (List.map_eq_nil_iff.mp z),fun M hM C4 => ?_⟩
 obtain ⟨r,Bg,rfl⟩:=cP.mp hM
 rw [vO (d:=d) hM (G7 r Bg) C4] at *
 exact q
theorem aFd:∀ fs:List (Str×Kd),(fs.map fun f=>prD f.2.rm)=(rmF fs).map prD
 | []=>rfl
 | f :: r=>by rw [aP,aFd r]; rfl
theorem uQ:∀ ks:List Kd,(ks.map fun k=>prD k.rm)=(rmK ks).map prD
 | []=>rfl
 | f :: r=>by rw [aP,uQ r]; rfl
theorem if_ {rs:List (Int×Int)} {sel:Int×Int→Int} {d:Int} {i:Nat} {ρ:En} {Q:Sv→En→Prop} (hl:rs.length≤10) (Bf:rs≠[]) (G7:∀ r∈rs,d≤sel r) (hj:∀ r,([Dx.int r.1,Dx.int r.2]:List Dx)[i]? = some (.int (sel r)))
  {s:Sv} (h3:ρ[3]? = some (.v s)) (hs:s.d=.lst (rs.map prD)) (q:Q (.tr (.int (maxL d (rs.map sel)))) (ρ.set 3 (vT (.lst (rs.map prD))))):dS yL (bL (iR 2 [] (xiL (bW 3)) (gxL [0,1]) lO (bW i)) dD) ρ Q:=by
 simp only [dS,bL,dD,iR,xiL,bW,h3,hs]
 show _∧_
 refine ⟨by rw [aE]; omega,?_⟩
 refine b9 prD (fun r=>.int (sel r)) (fun r hr Ad P p => ?_) ?_
 ·have hi:=hj r
  show (match (([.v (.tr (.int r.1)),.v (.tr (.int r.2))]:En)[i]?) with | some (.v s)=>_ | _=>_)
  match i,hi with
  | 0,hi=>simp only [bK,Option.some.injEq] at hi; rw [← hi] at p; exact p
  | 1,hi=>simp only [bK,bO,Option.some.injEq] at hi; rw [← hi] at p; exact p
  | i + 2,hi=>simp at hi
 ·exact vN Bf G7 q
theorem qH {j:Nat} {f:Addr} {fd:FuncData} {ps:List Str} {g:GC} (no:∀ ds Q,¬ g ds Q):FnOk P w K mg base CX0 j f fd ps (spX g) :=
 ⟨fun vs H Q E h=>by obtain ⟨_,ds,Qx,_,_,h,_⟩:=h; exact absurd h (no _ _),fun A outer s H args us vs Q E _ _ _ _ h=>by obtain ⟨_,ds,Qx,_,_,h,_⟩:=h; exact absurd h (no _ _)⟩
theorem aKb {g:GC} {d:Dx} {t:XT} {ρ:En} {Q:Sv→En→Prop} (h:t ρ fun s ρ'=>g [d,s.d] fun r=>Q r ρ'):dS g (bL (xC d) (bL t dD)) ρ Q:=h
theorem iC {α:Type} {a b:α}:[a,b].length≤1000000:=by show 2≤1000000; decide
section
variable {f:Addr} {n j:Nat}
theorem aRr (F:Fun K "_law_room" "_law_room" bw_ f fd) (D2:Cal P w K mg base j "_law_room" AG (spX (gLM n))) (Fp:Cal P w K mg base 1 "_law_rounded" AD (spX gLR)) (m_max:mg "max" = none) (hj:1≤j) :
  FnOk P w K mg base CX0 (j + 1) f fd AG (spX (gLM (n + 1))):=by
 refine lU F eG (fun ds Q h=>by obtain ⟨d,rfl,_⟩:=h; rfl) (by decide) fun Ak A outer s H E hr => ?_
 have Am:=bV (qK hr)
 refine ⟨_,(dO (iE (iM (kO K Am) kL (fC K (pv 0)) lI (bY _)) (eF (gD (jH (bF (fC K (pv 0)) (bF (fC K (pv 0)) bX))))) jE)
  (dO (iE (iM (kO K Am) kL (fC K (pv 0)) lI (bY _)) (dO (p8 (mO (n:=99) (is:=[1,2]) rfl (by decide)) fun F=>hu_ (XE.at (Ex:=dU) F (fW D2 (hr.mono (by omega)) (bF (fC K (pv 0)) bX))) (uZ rfl (jY (gG (i:=1) eG.nd rfl (Or.inl rfl)) (jY (gG (i:=2) eG.nd rfl (Or.inl rfl)) tM))))
  (eF (gD (jH (bF (qT (fC K (pv 0)) (fW Fp (hr.mono (by omega)) (bF (bE (pv 1)) (bF (bE (pv 2)) bX)))) (bF (bE (pv 2)) bX)))))) jE)
  (dO (iE (iM (kO K Am) kL (fC K (pv 0)) lI (bY _)) (dO (qL fun F=>PS.weak (gc_ (i:=3) eG.nd rfl rfl (dsc:=aQ bw_) (N:=AB) (tgs:=BG) (outs:=[]) (N':=BG) (by refine ⟨rfl,?_,?_,?_,rfl,?_,?_,?_⟩ <;> decide +kernel) (XIt.at (Ex:=dU) F (mW (fC K (pv 0)))) (fun _ _ _ _ _=>(hl_ K (n:=2) rfl rfl (jY (gG (i:=0) (show (["name","inner"]:List Str).Nodup by decide +kernel) rfl (Or.inl rfl) (.inr rfl)) (jY (gG (i:=1) (show (["name","inner"]:List Str).Nodup by decide +kernel) rfl (Or.inl rfl) (.inr rfl)) tM)))) (hd_ (xI (by decide) (xI (by decide) dp_ xJ) (co_ xJ))) (fun a b c d e=>XCs.at (Ex:=dU) F mD) (fun a b c d e=>XE.at (Ex:=dU) F (fW D2 (hr.mono (by omega)) (bF (bE (pv 1)) bX)))) (ix_ (fe_ (n:=2) (is:=[0,1]) rfl (by decide)) (by decide)))
  (dO (eS (i:=4) eG.nd rfl (Or.inl rfl) dH)
  (eF (wM PassesOwn.never rfl (mW (bE (pv 3))) (uZ rfl (jY (gG (i:=1) eG.nd rfl (Or.inl rfl)) (jY (gG (i:=5) eG.nd rfl (Or.inl rfl)) tM))) (mO (n:=99) (is:=[1,5]) rfl (by decide)) (eF (eS (i:=4) eG.nd rfl (Or.inl rfl) (iD (fW Fp (hr.mono (by omega)) (bF (bE (pv 4)) (bF (bE (pv 5)) bX))) (bE (pv 1))))))))) (dO (qL fun F=>PS.weak (gc_ (i:=3) eG.nd rfl rfl (dsc:=aQ bw_) (N:=AB) (tgs:=["inner"]) (outs:=[]) (N':=["inner"]) (by refine ⟨rfl,?_,?_,?_,rfl,?_,?_,?_⟩ <;> decide +kernel) (XIt.at (Ex:=dU) F (mW (fC K (pv 0)))) (fun _ _ _ _ _=>(gG (i:=0) (show (["inner"]:List Str).Nodup by decide +kernel) rfl (Or.inl rfl) (.inr rfl))) (qZ (by decide)) (fun a b c d e=>XCs.at (Ex:=dU) F mD) (fun a b c d e=>XE.at (Ex:=dU) F (fW D2 (hr.mono (by omega)) (bF (bE (pv 0)) bX)))) (ix_ (kJ (n:=1) (i:=0) (by decide)) (by decide)))
  (dO (eS (i:=6) eG.nd rfl (Or.inl rfl) (fW Fp (hr.mono (by omega)) (bF dH (bF (mX (fn_ K (by rfl)) js_ (by rfl) m_max jz_ (bF (rW (dsc:=aQ bw_) (N:=AB) (tgs:=BB) (outs:=[]) (N':=BB) (by refine ⟨rfl,?_,?_,?_,rfl,?_,?_,?_⟩ <;> decide +kernel) (mW (bE (pv 3))) (fun _ _ _ _ _=>(uY K (n:=2) rfl rfl (jY (gG (i:=0) (show (["room","multiple"]:List Str).Nodup by decide +kernel) rfl (Or.inl rfl) (.inr rfl)) (jY (gG (i:=1) (show (["room","multiple"]:List Str).Nodup by decide +kernel) rfl (Or.inl rfl) (.inr rfl)) tM)))) (mO (n:=2) (is:=[0,1]) rfl (by decide)) (uJ (xI (by decide) (xI (by decide) dp_ xJ) (co_ xJ))) (fun _ _ _ _ _=>mD) (fun _ _ _ _ _=>(bE (pv 1)))) bX)) bX))))
  (eF (eS (i:=4) eG.nd rfl (Or.inl rfl) (iD (bE (pv 6)) (mX (fn_ K (by rfl)) js_ (by rfl) m_max jz_ (bF (rW (dsc:=aQ bw_) (N:=AB) (tgs:=BB) (outs:=[]) (N':=BB) (by refine ⟨rfl,?_,?_,?_,rfl,?_,?_,?_⟩ <;> decide +kernel) (mW (bE (pv 3))) (fun _ _ _ _ _=>(uY K (n:=2) rfl rfl (jY (gG (i:=0) (show (["room","multiple"]:List Str).Nodup by decide +kernel) rfl (Or.inl rfl) (.inr rfl)) (jY (gG (i:=1) (show (["room","multiple"]:List Str).Nodup by decide +kernel) rfl (Or.inl rfl) (.inr rfl)) tM)))) (mO (n:=2) (is:=[0,1]) rfl (by decide)) (uJ (xI (by decide) (xI (by decide) dp_ xJ) (co_ xJ))) (fun _ _ _ _ _=>mD) (fun _ _ _ _ _=>(bE (pv 0)))) bX))))))))
  (dO (eS (i:=2) eG.nd rfl (Or.inl rfl) (mX (fn_ K (by rfl)) js_ (by rfl) m_max jz_ (bF (rW (dsc:=aQ bw_) (N:=AB) (tgs:=BB) (outs:=[]) (N':=BB) (by refine ⟨rfl,?_,?_,?_,rfl,?_,?_,?_⟩ <;> decide +kernel) (mW (bE (pv 3))) (fun _ _ _ _ _=>(uY K (n:=2) rfl rfl (jY (gG (i:=0) (show (["room","multiple"]:List Str).Nodup by decide +kernel) rfl (Or.inl rfl) (.inr rfl)) (jY (gG (i:=1) (show (["room","multiple"]:List Str).Nodup by decide +kernel) rfl (Or.inl rfl) (.inr rfl)) tM)))) (mO (n:=2) (is:=[0,1]) rfl (by decide)) (uJ (xI (by decide) (xI (by decide) dp_ xJ) (co_ xJ))) (fun _ _ _ _ _=>mD) (fun _ _ _ _ _=>(bE (pv 1)))) bX)))
  (eF (gD (jH (bF (fW Fp (hr.mono (by omega)) (bF (bE (pv 4)) (bF (bE (pv 2)) bX))) (bF (bE (pv 2)) bX))))))))),fun ds Q h => ?_⟩
 obtain ⟨kd,rfl,hk,hf,Bz,hn,q⟩:=h
 cases kd with
 | num wd m=>exact ⟨iC,q⟩
 | row k m =>
  have Ci:k.deep + 1≤n + 1:=Bz
  obtain ⟨b0,b1,b2,b3⟩:=aNm (n:=n) hk.1 (by omega) (by omega)
  obtain ⟨u1,u2⟩:=jN (n:=k.rm.1) (m:=k.rm.2) (by omega)
  have hm:=hk.2
  refine ⟨k,rfl,hk.1,hf,by omega,by omega,?_⟩
  exact ⟨_,_,rfl,b0,by omega,⟨by omega,by omega⟩,iC,q⟩
 | rcd fs =>
  have Ci:eJ fs + 1≤n + 1:=Bz
  have hlf:=hk.2
  have hb:=aJh (n:=n) hk.1 (by omega) (by omega)
  have Dc:(rmF fs).length=fs.length:=vP fs
  have Bf:rmF fs≠[]:=fun z=>hf.1 (List.eq_nil_of_length_eq_zero (by rw [← Dc,z]; rfl))
  obtain ⟨x0,x1⟩:=lT hb
  obtain ⟨c0,c1⟩:=dv_ (e:=0) (by omega) hb
  refine ⟨show (xF fs).length≤1000000 by rw [xE,aE]; omega,show dX _ _ _ _ _ (xF fs) _ _ from ?_⟩
  rw [xE]
  refine b9 _ (fun f=>prD f.2.rm) (fun f Dd Ad P p => ?_) ?_
  ·obtain ⟨i,hi⟩:=jX.mp Dd
   obtain ⟨ok,dk⟩:=aGr hk.1 hi
   exact ⟨f.2,rfl,ok,yX hf.2 hi,by omega,by omega,p⟩
  ·rw [aZ,aFd]
   refine xH prD (fun rest ρ => ∃ done y1 y2 y5,rmF fs=done ++ rest∧ρ=[vT (Kd.rcd fs).x,y1,y2,vT (.lst ((rmF fs).map prD)),vT (.int (dB 0 done)),y5,.un]) (fun ρ h => ?_) (fun r rest ρ Kn h Ba => ?_) ⟨[],.un,.un,.un,rfl,rfl⟩
   ·obtain ⟨done,y1,y2,y5,e1,rfl⟩:=h
    rw [bZ] at e1
    rw [← e1]
    simp only [cV,fM,eU,xOp,bW,back,iP,fA,fV,bP,aP,bU,aZ,aM,aU,bH,cB,Nat.reduceAdd,Nat.reduceSub,bK,bO,cH,cA,Sv.d]
    refine if_ (i:=1) (sel:=fun r=>r.2) (d:=1) (by omega) Bf (fun r hr=>(hb r hr).2.2.1) (fun _=>rfl) (by rfl) (by rfl) ?_
    exact ⟨_,_,rfl,c0,by omega,iC,q⟩
   ·obtain ⟨done,y1,y2,y5,e1,rfl⟩:=h
    have Bg:r∈rmF fs:=by rw [e1]; exact aK _ aB
    obtain ⟨b0,b1,b2,b3⟩:=hb r Bg
    obtain ⟨d0,d1⟩:=dv_ (e:=0) (rs:=done) (by omega) (fun z hz=>hb z (by rw [e1]; exact bJ _ hz))
    refine ⟨_,_,rfl,d0,by omega,Ba _ ⟨done ++ [r],vT (.int r.1),y2,vT (.int r.2),by rw [e1,bD]; rfl,by rw [fl_]; rfl⟩⟩
 | cho ks =>
  have Ci:eP ks + 1≤n + 1:=Bz
  have hlf:=hk.2
  have hb:=tW (n:=n) hk.1 (by omega) (by omega)
  have Dc:(rmK ks).length=ks.length:=j_ ks
  have Bf:rmK ks≠[]:=fun z=>hf.1 (List.eq_nil_of_length_eq_zero (by rw [← Dc,z]; rfl))
  obtain ⟨x0,x1⟩:=lT hb
  obtain ⟨u1,u2⟩:=jN (n:=1) (m:=maxL 1 ((rmK ks).map (·.2))) (by omega)
  have y0:0≤maxL 0 ((rmK ks).map (·.1)):=gt_ _
  refine ⟨show (xK ks).length≤1000000 by rw [sE,aE]; omega,show dX _ _ _ _ _ (xK ks) _ _ from ?_⟩
  rw [sE]
  refine b9 _ (fun k=>prD k.rm) (fun k Dd Ad P p => ?_) ?_
  ·obtain ⟨i,hi⟩:=jX.mp Dd
   obtain ⟨ok,dk⟩:=aGq hk.1 hi
   exact ⟨k,rfl,ok,yW hf.2 hi,by omega,by omega,p⟩
  ·rw [aZ,uQ]
   simp only [cV,fM,eU,xOp,bW,back,iP,fA,fV,bP,aP,bU,aZ,aM,aU,bH,cB,Nat.reduceAdd,Nat.reduceSub,bK,bO,cH,cA,Sv.d]
   refine aKb ?_
   refine if_ (i:=1) (sel:=fun r=>r.2) (d:=1) (by omega) Bf (fun r hr=>(hb r hr).2.2.1) (fun _=>rfl) (by rfl) (by rfl) ?_
   refine ⟨_,_,rfl,by decide,by omega,?_⟩
   simp only [cV,fM,eU,xOp,bW,back,iP,fA,fV,bP,aP,bU,aZ,aM,aU,bH,cB,Nat.reduceAdd,Nat.reduceSub,bK,bO,cH,cA,Sv.d]
   refine if_ (i:=0) (sel:=fun r=>r.1) (d:=0) (by omega) Bf (fun r hr=>(hb r hr).1) (fun _=>rfl) (by rfl) (by rfl) ?_
   simp only [cV,fM,eU,xOp,bW,back,iP,fA,fV,bP,aP,bU,aZ,aM,aU,bH,cB,Nat.reduceAdd,Nat.reduceSub,bK,bO,cH,cA,Sv.d]
   refine if_ (i:=1) (sel:=fun r=>r.2) (d:=1) (by omega) Bf (fun r hr=>(hb r hr).2.2.1) (fun _=>rfl) (by rfl) (by rfl) ?_
   exact ⟨_,_,rfl,by omega,by omega,iC,q⟩
theorem aHa:FnOk P w K mg base CX0 j f fd AG (spX (gLM 0)):=qH fun ds Q h=>by
 obtain ⟨kd,_,_,_,hd,_⟩:=h
 have:=Kd.deep_pos kd
 omega
end
def prT (r:Int×Int):Dx:=.tup [.int r.1,.int r.2]
def gRU:GC:=fun ds Q => ∃ n m:Int,ds=[.int n,.int m]∧0≤n∧n < 2 ^ 200∧0 < m∧m < 2 ^ 200∧Q (.tr (.int (up n m)))
def gSO:GC:=fun ds Q => ∃ r:Int×Int,ds=[prT r]∧0≤r.1∧r.1 < 2 ^ 200∧0 < r.2∧r.2 < 2 ^ 200∧Q (.tr (.int (up r.1 r.2)))
def gCA:GC:=fun ds Q => ∃ m:Int,ds=[.int m]∧0 < m∧m < 2 ^ 200∧Q (.tr (.int (up 1 m)))
def gGM:GC:=fun ds Q => ∃ rs:List (Int×Int),ds=[.lst (rs.map prT)]∧rs.length≤10∧(∀ r∈rs,1≤r.2)∧Q (.tr (.int (maxL 1 (rs.map (·.2)))))
def gPB:GC:=fun ds Q => ∃ rs:List (Int×Int),ds=[.lst (rs.map prT)]∧rs.length≤10∧(∀ r∈rs,Bd (2 ^ 150) r)∧Q (.ol ((dW 0 rs).map Dx.int))
def gRO (n:Nat):GC:=fun ds Q => ∃ kd:Kd,ds=[kd.x]∧kd.Ok∧kd.deep≤n∧n≤12∧Q (.tr (prT kd.rm))
def gRS (n:Nat):GC:=fun ds Q => ∃ ks:List Kd,ds=[.lst (xK ks)]∧okK ks∧eP ks≤n∧ks.length≤10∧n≤12∧Q (.ol ((rmK ks).map prT))
def gRR (n:Nat):GC:=fun ds Q => ∃ (kd:Kd) (m:Int),ds=[kd.x,.int m]∧kd.Ok∧kd.deep≤n∧n≤12∧0≤m∧m≤100∧Q (.tr (prT (m * up kd.rm.1 kd.rm.2,kd.rm.2)))
def gRL (f:List (Int×Int)→Int×Int) (n:Nat):GC:=fun ds Q => ∃ ks:List Kd,ds=[.lst (xK ks)]∧okK ks∧eP ks≤n∧ks.length≤10∧n≤12∧Q (.tr (prT (f (rmK ks))))
def gPO (n:Nat):GC:=fun ds Q => ∃ fs:List (Str×Kd),ds=[.lst (xF fs)]∧okF fs∧eJ fs≤n∧fs.length≤10∧n≤12∧Q (.ol ((fs.zip (dW 0 (rmF fs))).map fun x=>.tup [.str x.1.1,.int x.2]))
theorem aOf:∀ ks:List Kd,(ks.map fun k=>prT k.rm)=(rmK ks).map prT
 | []=>rfl
 | f :: r=>by rw [aP,aOf r]; rfl
theorem do_ {α β:Type} (f:α→Dx) (g:β→Dx):∀ (l:List α) (m:List β),iA (l.map f) (m.map g)=(l.zip m).map fun p=>.tup [f p.1,g p.2]
 | [],_=>rfl
 | _ :: _,[]=>rfl
 | a :: l,b :: m=>by show _ :: iA (l.map f) (m.map g)=_; rw [do_ f g l m]; rfl
section
variable {f:Addr} {n j:Nat}
theorem vH (F:Fun K "rounded_up" "rounded_up" eg_ f fd):FnOk P w K mg base CX0 1 f fd AD (spX gRU):=by
 refine lU F rY (fun ds Q h=>by obtain ⟨_,_,rfl,_⟩:=h; rfl) (by decide) fun Ak A outer s H E hr => ?_
 refine ⟨_,(eF (gD (qT (ir_ (fg_ (iD (bE (pv 0)) (bE (pv 1))) dH) (bE (pv 1))) (bE (pv 1))))),fun ds Q h => ?_⟩
 obtain ⟨n,m,rfl,h0,h1,h2,h3,q⟩:=h
 have d0:0≤(n + m - 1) / m:=Int.ediv_nonneg (by omega) (by omega)
 have d1:(n + m - 1) / m≤n + m - 1:=Int.ediv_le_self m (by omega)
 refine ⟨⟨h2,by omega⟩,⟨?_,by omega⟩,q⟩
 generalize (n + m - 1) / m=z at d0 d1
 omega
theorem j3 (F:Fun K "step_of" "step_of" gm_ f fd) (G0:Cal P w K mg base 1 "rounded_up" AD (spX gRU)):FnOk P w K mg base CX0 2 f fd BD (spX gSO):=by
 refine lU F g9 (fun ds Q h=>by obtain ⟨_,rfl,_⟩:=h; rfl) (by decide) fun Ak A outer s H E hr => ?_
 refine ⟨_,(eF (gD (fW G0 (hr.mono (by omega)) (bF (fC K (pv 0)) (bF (fC K (pv 0)) bX))))),fun ds Q h => ?_⟩
 obtain ⟨r,rfl,h0,h1,h2,h3,q⟩:=h
 exact ⟨_,_,rfl,h0,h1,h2,h3,q⟩
theorem j5 (F:Fun K "chosen_at" "chosen_at" ez_ f fd) (G0:Cal P w K mg base 1 "rounded_up" AD (spX gRU)):FnOk P w K mg base CX0 2 f fd BE (spX gCA):=by
 refine lU F uM (fun ds Q h=>by obtain ⟨_,rfl,_⟩:=h; rfl) (by decide) fun Ak A outer s H E hr => ?_
 refine ⟨_,(eF (gD (fW G0 (hr.mono (by omega)) (bF dH (bF (bE (pv 0)) bX))))),fun ds Q h => ?_⟩
 obtain ⟨m,rfl,h2,h3,q⟩:=h
 exact ⟨_,_,rfl,by decide,by decide,h2,h3,q⟩
theorem aRv (F:Fun K "greatest_multiple" "greatest_multiple" bq_ f fd) (m_max:mg "max" = none):FnOk P w K mg base CX0 1 f fd AU (spX gGM):=by
 refine lU F fw_ (fun ds Q h=>by obtain ⟨_,rfl,_⟩:=h; rfl) (by decide) fun Ak A outer s H E hr => ?_
 refine ⟨_,(eF (gD (uC (by rfl) (by rfl) m_max (bF (rW (dsc:=aQ bq_) (N:=AU) (tgs:=BD) (outs:=[]) (N':=BD) (by refine ⟨rfl,?_,?_,?_,rfl,?_,?_,?_⟩ <;> decide +kernel) (mW (bE (pv 0))) (fun _ _ _ _ _=>(gG (i:=0) (show (["room"]:List Str).Nodup by decide +kernel) rfl (Or.inl rfl) (.inr rfl))) (kJ (n:=1) (i:=0) (by decide)) (qZ (by decide)) (fun _ _ _ _ _=>mD) (fun _ _ _ _ _=>(fC K (pv 0)))) bX) (uX pD i5)))),fun ds Q h => ?_⟩
 obtain ⟨rs,rfl,hl,h1,q⟩:=h
 refine ⟨show (rs.map prT).length≤_ by rw [aE]; omega,show dX _ _ _ _ _ (rs.map prT) _ _ from ?_⟩
 refine b9 prT (fun r=>.int r.2) (fun r hr Ad P p=>p) ?_
 refine ⟨rs.map (·.2),by rw [cQ]; rfl,fun en => ?_,fun M hM C4 => ?_⟩
 ·rw [en] at q; exact q
 ·obtain ⟨r,Bg,rfl⟩:=cP.mp hM
  rw [← vO (d:=1) hM (h1 r Bg) C4] at q
  exact q
theorem aGp (F:Fun K "places_behind" "places_behind" cy_ f fd) (G0:Cal P w K mg base 1 "rounded_up" AD (spX gRU)):FnOk P w K mg base CX0 2 f fd AU (spX gPB):=by
 refine lU F eW (fun ds Q h=>by obtain ⟨_,rfl,_⟩:=h; rfl) (by decide) fun Ak A outer s H E hr => ?_
 refine ⟨_,(dO (eS (i:=1) eW.nd rfl (Or.inl rfl) (jH bX))
  (dO (eS (i:=2) eW.nd rfl (Or.inl rfl) dH)
  (dO (wM PassesOwn.never rfl (mW (bE (pv 0))) (gG (i:=3) eW.nd rfl (Or.inl rfl)) (kJ (n:=99) (i:=3) (by decide)) (dO (eS (i:=4) eW.nd rfl (Or.inl rfl) (fW G0 (hr.mono (by omega)) (bF (bE (pv 2)) (bF (fC K (pv 3)) bX))))
  (dO (qL fun F=>PS.weak (gd_ (pE PySem.F.plainAttrs_list PySem.F.slot_list_append PySem.F.type_list_append es_ (pv 1) (lZ (XE.at (Ex:=dU) F (bE (pv 4))) zM))) mE)
  (eF (eS (i:=2) eW.nd rfl (Or.inl rfl) (iD (bE (pv 4)) (fC K (pv 3))))))))
  (eF (gD (tQ (pv 1))))))),fun ds Q h => ?_⟩
 obtain ⟨rs,rfl,hl,h1,q⟩:=h
 refine ⟨cK _,?_⟩
 refine xH prT (fun rest ρ => ∃ done y3 y4,rs=done ++ rest∧ρ=[vT (.lst (rs.map prT)),.v (.ol ((dW 0 done).map Dx.int)),vT (.int (dB 0 done)),y3,y4]) (fun ρ h => ?_) (fun r rest ρ Kn h hk => ?_) ⟨[],.un,.un,rfl,rfl⟩
 ·obtain ⟨done,y3,y4,e1,rfl⟩:=h
  rw [bZ] at e1
  subst e1
  exact q
 ·obtain ⟨done,y3,y4,e1,rfl⟩:=h
  obtain ⟨b0,b1,b2,b3⟩:=h1 r (by rw [e1]; exact aK _ aB)
  have Aj:done.length + (rest.length + 1)=rs.length:=by rw [e1,aC,aM]
  obtain ⟨c0,c1⟩:=dv_ (e:=0) (rs:=done) (by omega) (fun z hz=>h1 z (by rw [e1]; exact bJ _ hz))
  have c2:(done.length:Int) * (2 ^ 150 + 8)≤10 * (2 ^ 150 + 8):=cY (by omega) (by decide)
  refine ⟨_,_,rfl,c0,by omega,by omega,by omega,rfl,by rw [aE,ct_]; omega,hk _ ⟨done ++ [r],vT (prT r),vT (.int (up (dB 0 done) r.2)),by rw [e1,bD]; rfl,?_⟩⟩
  rw [fl_,sS,cU]
  rfl
theorem aGo (F:Fun K "rooms_of" "rooms_of" eq_ f fd) (Fe:Cal P w K mg base j "room_of" AG (spX (gRO n))):FnOk P w K mg base CX0 (j + 1) f fd AM (spX (gRS n)):=by
 refine lU F xX (fun ds Q h=>by obtain ⟨_,rfl,_⟩:=h; rfl) (by decide) fun Ak A outer s H E hr => ?_
 refine ⟨_,(eF (gD (rW (dsc:=aQ eq_) (N:=AM) (tgs:=AG) (outs:=[]) (N':=AG) (by refine ⟨rfl,?_,?_,?_,rfl,?_,?_,?_⟩ <;> decide +kernel) (mW (bE (pv 0))) (fun _ _ _ _ _=>(gG (i:=0) (show (["kind"]:List Str).Nodup by decide +kernel) rfl (Or.inl rfl) (.inr rfl))) (kJ (n:=1) (i:=0) (by decide)) (qZ (by decide)) (fun _ _ _ _ _=>mD) (fun _ _ _ _ _=>(fW Fe (hr.mono (by omega)) (bF (bE (pv 0)) bX)))))),fun ds Q h => ?_⟩
 obtain ⟨ks,rfl,hk,hd,hl,hn,q⟩:=h
 refine ⟨show (xK ks).length≤_ by rw [sE,aE]; omega,show dX _ _ _ _ _ (xK ks) _ _ from ?_⟩
 rw [sE]
 refine b9 Kd.x (fun k=>prT k.rm) (fun k hm Ad P p => ?_) ?_
 ·obtain ⟨i,hi⟩:=jX.mp hm
  obtain ⟨ok,dk⟩:=aGq hk hi
  exact ⟨k,rfl,ok,by omega,hn,p⟩
 ·rw [aZ,aOf]
  exact q
theorem aRh (F:Fun K "room_of_row" "room_of_row" dq_ f fd) (Fe:Cal P w K mg base j "room_of" AG (spX (gRO n))) (Kh:Cal P w K mg base 2 "step_of" BD (spX gSO)) (hj:2≤j):FnOk P w K mg base CX0 (j + 1) f fd ["kind","n"] (spX (gRR n)):=by
 refine lU F kQ (fun ds Q h=>by obtain ⟨_,_,rfl,_⟩:=h; rfl) (by decide) fun Ak A outer s H E hr => ?_
 refine ⟨_,(dO (eS (i:=2) kQ.nd rfl (Or.inl rfl) (fW Fe (hr.mono (by omega)) (bF (bE (pv 0)) bX)))
  (eF (gD (zN (bF (qT (bE (pv 1)) (fW Kh (hr.mono (by omega)) (bF (bE (pv 2)) bX))) (bF (fC K (pv 2)) bX)))))),fun ds Q h => ?_⟩
 obtain ⟨kd,m,rfl,hk,hd,hn,m0,m1,q⟩:=h
 obtain ⟨b0,b1,b2,b3⟩:=aNm (n:=n) hk hd hn
 obtain ⟨u1,u2⟩:=jN (n:=kd.rm.1) (m:=kd.rm.2) (by omega)
 exact ⟨kd,rfl,hk,hd,hn,kd.rm,rfl,b0,by omega,by omega,by omega,⟨by omega,by omega⟩,iC,q⟩
theorem aRl (F:Fun K "room_of_record" "room_of_record" ch_ f fd) (Ki:Cal P w K mg base j "rooms_of" AM (spX (gRS n))) (M4:Cal P w K mg base 1 "greatest_multiple" AU (spX gGM)) (M3:Cal P w K mg base 2 "places_behind" AU (spX gPB)) (G0:Cal P w K mg base 1 "rounded_up" AD (spX gRU)) (m_max:mg "max" = none) (m_zip:mg "zip" = none) (hj:2≤j) :
  FnOk P w K mg base CX0 (j + 1) f fd AM (spX (gRL nE n)):=by
 refine lU F gE (fun ds Q h=>by obtain ⟨_,rfl,_⟩:=h; rfl) (by decide) fun Ak A outer s H E hr => ?_
 refine ⟨_,(dO (eS (i:=1) gE.nd rfl (Or.inl rfl) (fW Ki (hr.mono (by omega)) (bF (bE (pv 0)) bX)))
  (dO (eS (i:=2) gE.nd rfl (Or.inl rfl) (fW M4 (hr.mono (by omega)) (bF (bE (pv 1)) bX)))
  (dO (qL fun F=>PS.weak (gc_ (i:=3) gE.nd rfl rfl (dsc:=aQ ch_) (N:=["kinds","rooms","multiple","ends"]) (tgs:=["place","room"]) (outs:=[]) (N':=["place","room"]) (by refine ⟨rfl,?_,?_,?_,rfl,?_,?_,?_⟩ <;> decide +kernel) (XIt.at (Ex:=dU) F (oK m_zip (bF (fW M3 (hr.mono (by omega)) (bF (bE (pv 1)) bX)) (bF (bE (pv 1)) bX)))) (fun _ _ _ _ _=>(hl_ K (n:=2) rfl rfl (jY (gG (i:=0) (show (["place","room"]:List Str).Nodup by decide +kernel) rfl (Or.inl rfl) (.inr rfl)) (jY (gG (i:=1) (show (["place","room"]:List Str).Nodup by decide +kernel) rfl (Or.inl rfl) (.inr rfl)) tM)))) (hd_ (xI (by decide) (xI (by decide) dp_ xJ) (co_ xJ))) (fun a b c d e=>XCs.at (Ex:=dU) F mD) (fun a b c d e=>XE.at (Ex:=dU) F (iD (bE (pv 0)) (fC K (pv 1))))) (ix_ (fe_ (n:=2) (is:=[0,1]) rfl (by decide)) (by decide)))
  (eF (gD (zN (bF (fW G0 (hr.mono (by omega)) (bF (uC (by rfl) (by rfl) m_max (bF (bE (pv 3)) bX) (uX pD i5)) (bF (bE (pv 2)) bX))) (bF (bE (pv 2)) bX)))))))),fun ds Q h => ?_⟩
 obtain ⟨ks,rfl,hk,hd,hl,hn,q⟩:=h
 have hb:=tW hk hd hn
 refine ⟨ks,rfl,hk,hd,hl,hn,?_⟩
 generalize Gc:rmK ks=rs at hb q
 have Dc:rs.length≤10:=by rw [← Gc,j_]; exact hl
 obtain ⟨c0,c1⟩:=dv_ (e:=0) (by omega) hb
 have c2:(rs.length:Int) * (2 ^ 150 + 8)≤10 * (2 ^ 150 + 8):=cY (by omega) (by decide)
 obtain ⟨x0,x1⟩:=lT hb
 refine ⟨rs,rfl,Dc,fun r hr=>(hb r hr).2.2.1,?_⟩
 refine ⟨rs,rfl,Dc,hb,?_⟩
 have Ft:(iA ((dW 0 rs).map Dx.int) (rs.map prT)).length≤1000000:=by rw [do_,aE,cM]; omega
 refine ⟨Ft,show dX _ _ _ _ _ (iA ((dW 0 rs).map Dx.int) (rs.map prT)) _ _ from ?_⟩
 rw [do_]
 refine b9 _ (fun p:Int×(Int×Int)=>Dx.int (p.1 + p.2.1)) (fun p hp Ad P pp=>pp) ?_
 rw [aZ]
 have ez:(((dW 0 rs).zip rs).map fun p=>Dx.int (p.1 + p.2.1))=(ends 0 rs).map Dx.int:=by rw [zH,cQ]; rfl
 rw [ez]
 refine ⟨ends 0 rs,rfl,fun en => ?_,fun M hM C4 => ?_⟩
 ·have:rs=[]:=by
   cases rs with
   | nil=>rfl
   | cons r t=>cases en
  subst this
  exact ⟨_,_,rfl,by decide,by decide,by decide,by decide,iC,q⟩
 ·have Bf:rs≠[]:=fun z=>by rw [z] at hM; cases hM
  obtain ⟨t1,t2⟩:=zI (e:=0) (fun r hr=>⟨(hb r hr).1,by have:=(hb r hr).2.2.1; omega⟩) Bf
  have:M=dB 0 rs:=Int.le_antisymm (t2 M hM) (C4 _ t1)
  subst this
  exact ⟨_,_,rfl,c0,by omega,by omega,by omega,iC,q⟩
theorem aRj (F:Fun K "room_of_choice" "room_of_choice" ci_ f fd) (Ki:Cal P w K mg base j "rooms_of" AM (spX (gRS n))) (M4:Cal P w K mg base 1 "greatest_multiple" AU (spX gGM)) (Kk:Cal P w K mg base 2 "chosen_at" BE (spX gCA)) (G0:Cal P w K mg base 1 "rounded_up" AD (spX gRU)) (m_max:mg "max" = none) (hj:2≤j) :
  FnOk P w K mg base CX0 (j + 1) f fd AM (spX (gRL iK n)):=by
 refine lU F gF (fun ds Q h=>by obtain ⟨_,rfl,_⟩:=h; rfl) (by decide) fun Ak A outer s H E hr => ?_
 refine ⟨_,(dO (eS (i:=1) gF.nd rfl (Or.inl rfl) (fW Ki (hr.mono (by omega)) (bF (bE (pv 0)) bX)))
  (dO (eS (i:=2) gF.nd rfl (Or.inl rfl) (fW M4 (hr.mono (by omega)) (bF (bE (pv 1)) bX)))
  (dO (eS (i:=3) gF.nd rfl (Or.inl rfl) (uC (by rfl) (by rfl) m_max (bF (rW (dsc:=aQ ci_) (N:=["kinds","rooms","multiple","greatest"]) (tgs:=BD) (outs:=[]) (N':=BD) (by refine ⟨rfl,?_,?_,?_,rfl,?_,?_,?_⟩ <;> decide +kernel) (mW (bE (pv 1))) (fun _ _ _ _ _=>(gG (i:=0) (show (["room"]:List Str).Nodup by decide +kernel) rfl (Or.inl rfl) (.inr rfl))) (kJ (n:=1) (i:=0) (by decide)) (qZ (by decide)) (fun _ _ _ _ _=>mD) (fun _ _ _ _ _=>(fC K (pv 0)))) bX) (uX pD i5)))
  (eF (gD (zN (bF (fW G0 (hr.mono (by omega)) (bF (iD (fW Kk (hr.mono (by omega)) (bF (bE (pv 2)) bX)) (bE (pv 3))) (bF (bE (pv 2)) bX))) (bF (bE (pv 2)) bX)))))))),fun ds Q h => ?_⟩
 obtain ⟨ks,rfl,hk,hd,hl,hn,q⟩:=h
 have hb:=tW hk hd hn
 refine ⟨ks,rfl,hk,hd,hl,hn,?_⟩
 generalize Gc:rmK ks=rs at hb q
 have Dc:rs.length≤10:=by rw [← Gc,j_]; exact hl
 obtain ⟨x0,x1⟩:=lT hb
 obtain ⟨u1,u2⟩:=jN (n:=1) (m:=maxL 1 (rs.map (·.2))) (by omega)
 have y0:0≤maxL 0 (rs.map (·.1)):=gt_ _
 have y1:maxL 0 (rs.map (·.1))≤2 ^ 150:=nU (by decide) fun z hz=>by obtain ⟨r,hr,rfl⟩:=cP.mp hz; exact (hb r hr).2.1
 refine ⟨rs,rfl,Dc,fun r hr=>(hb r hr).2.2.1,?_⟩
 refine ⟨show (rs.map prT).length≤_ by rw [aE]; omega,show dX _ _ _ _ _ (rs.map prT) _ _ from ?_⟩
 refine b9 prT (fun r=>.int r.1) (fun r hr Ad P p=>p) ?_
 refine ⟨rs.map (·.1),by rw [cQ]; rfl,fun en => ?_,fun M hM C4 => ?_⟩
 ·have:rs=[]:=List.map_eq_nil_iff.mp en
  subst this
  exact ⟨_,rfl,by decide,by decide,_,_,rfl,by decide,by decide,by decide,by decide,iC,q⟩
 ·obtain ⟨r,Bg,rfl⟩:=cP.mp hM
  have e:r.1=maxL 0 (rs.map (·.1)):=(vO (d:=0) hM (hb r Bg).1 C4)
  rw [e]
  exact ⟨_,rfl,by omega,by omega,_,_,rfl,by omega,by omega,by omega,by omega,iC,q⟩
theorem aRi (F:Fun K "room_of" "room_of" fk_ f fd) (CRR:Cal P w K mg base j "room_of_row" ["kind","n"] (spX (gRR n))) (CRC:Cal P w K mg base j "room_of_record" AM (spX (gRL nE n))) (CRH:Cal P w K mg base j "room_of_choice" AM (spX (gRL iK n))) :
  FnOk P w K mg base CX0 (j + 1) f fd AG (spX (gRO (n + 1))):=by
 refine lU F g_ (fun ds Q h=>by obtain ⟨_,rfl,_⟩:=h; rfl) (by decide) fun Ak A outer s H E hr => ?_
 have Am:=bV (qK hr)
 refine ⟨_,(dO (iE (iM (kO K Am) kL (fC K (pv 0)) lI (bY _)) (eF (gD (zN (bF (fC K (pv 0)) (bF (fC K (pv 0)) bX))))) jE)
  (dO (iE (iM (kO K Am) kL (fC K (pv 0)) lI (bY _)) (eF (gD (fW CRR (hr.mono (by omega)) (bF (fC K (pv 0)) (bF (fC K (pv 0)) bX))))) jE)
  (dO (iE (iM (kO K Am) kL (fC K (pv 0)) lI (bY _)) (eF (gD (fW CRC (hr.mono (by omega)) (bF (rW (dsc:=aQ fk_) (N:=AG) (tgs:=["field"]) (outs:=[]) (N':=["field"]) (by refine ⟨rfl,?_,?_,?_,rfl,?_,?_,?_⟩ <;> decide +kernel) (mW (fC K (pv 0))) (fun _ _ _ _ _=>(gG (i:=0) (show (["field"]:List Str).Nodup by decide +kernel) rfl (Or.inl rfl) (.inr rfl))) (kJ (n:=1) (i:=0) (by decide)) (qZ (by decide)) (fun _ _ _ _ _=>mD) (fun _ _ _ _ _=>(fC K (pv 0)))) bX)))) jE)
  (eF (gD (fW CRH (hr.mono (by omega)) (bF (fC K (pv 0)) bX))))))),fun ds Q h => ?_⟩
 obtain ⟨kd,rfl,hk,hd,hn,q⟩:=h
 cases kd with
 | num wd m=>exact ⟨iC,q⟩
 | row k m =>
  have Cw:k.deep + 1≤n + 1:=hd
  exact ⟨k,m,rfl,hk.1,by omega,by omega,hk.2.1,hk.2.2,q⟩
 | rcd fs =>
  have Cw:eJ fs + 1≤n + 1:=hd
  have hl:=hk.2
  refine ⟨show (xF fs).length≤_ by rw [xE,aE]; omega,show dX _ _ _ _ _ (xF fs) _ _ from ?_⟩
  rw [xE]
  refine b9 _ (fun f:Str×Kd=>f.2.x) (fun f hm Ad P p=>p) ?_
  refine ⟨fs.map (·.2),by rw [aZ,sE,cQ]; rfl,vI hk.1,by rw [jr_]; omega,by rw [aE]; exact hl,by omega,?_⟩
  rw [hk_]
  exact q
 | cho ks =>
  have Cw:eP ks + 1≤n + 1:=hd
  exact ⟨ks,rfl,hk.1,by omega,hk.2,by omega,q⟩
theorem aRm (F:Fun K "places_in_order" "places_in_order" ay_ f fd) (M3:Cal P w K mg base 2 "places_behind" AU (spX gPB)) (Ki:Cal P w K mg base j "rooms_of" AM (spX (gRS n))) (m_zip:mg "zip" = none) (hj:2≤j) :
  FnOk P w K mg base CX0 (j + 1) f fd BF (spX (gPO n)):=by
 refine lU F iX (fun ds Q h=>by obtain ⟨_,rfl,_⟩:=h; rfl) (by decide) fun Ak A outer s H E hr => ?_
 refine ⟨_,(dO (eS (i:=1) iX.nd rfl (Or.inl rfl) (fW M3 (hr.mono (by omega)) (bF (fW Ki (hr.mono (by omega)) (bF (rW (dsc:=aQ ay_) (N:=["fields","places"]) (tgs:=["field"]) (outs:=[]) (N':=["field"]) (by refine ⟨rfl,?_,?_,?_,rfl,?_,?_,?_⟩ <;> decide +kernel) (mW (bE (pv 0))) (fun _ _ _ _ _=>(gG (i:=0) (show (["field"]:List Str).Nodup by decide +kernel) rfl (Or.inl rfl) (.inr rfl))) (kJ (n:=1) (i:=0) (by decide)) (qZ (by decide)) (fun _ _ _ _ _=>mD) (fun _ _ _ _ _=>(fC K (pv 0)))) bX)) bX)))
  (eF (gD (rW (dsc:=aQ ay_) (N:=["fields","places"]) (tgs:=["field","place"]) (outs:=[]) (N':=["field","place"]) (by refine ⟨rfl,?_,?_,?_,rfl,?_,?_,?_⟩ <;> decide +kernel) (oK m_zip (bF (bE (pv 0)) (bF (bE (pv 1)) bX))) (fun _ _ _ _ _=>(hl_ K (n:=2) rfl rfl (jY (gG (i:=0) (show (["field","place"]:List Str).Nodup by decide +kernel) rfl (Or.inl rfl) (.inr rfl)) (jY (gG (i:=1) (show (["field","place"]:List Str).Nodup by decide +kernel) rfl (Or.inl rfl) (.inr rfl)) tM)))) (fe_ (n:=2) (is:=[0,1]) rfl (by decide)) (hd_ (xI (by decide) (xI (by decide) dp_ xJ) (co_ xJ))) (fun _ _ _ _ _=>mD) (fun _ _ _ _ _=>(zN (bF (fC K (pv 0)) (bF (bE (pv 1)) bX)))))))),fun ds Q h => ?_⟩
 obtain ⟨fs,rfl,hk,hd,hl,hn,q⟩:=h
 have hb:=aJh hk hd hn
 have Dc:(rmF fs).length=fs.length:=vP fs
 refine ⟨show (xF fs).length≤_ by rw [xE,aE]; omega,show dX _ _ _ _ _ (xF fs) _ _ from ?_⟩
 rw [xE]
 refine b9 _ (fun f:Str×Kd=>f.2.x) (fun f hm Ad P p=>p) ?_
 refine ⟨fs.map (·.2),by rw [aZ,sE,cQ]; rfl,vI hk,by rw [jr_]; omega,by rw [aE]; exact hl,hn,?_⟩
 rw [hk_]
 refine ⟨rmF fs,rfl,by omega,hb,?_⟩
 have Ft:(iA (fs.map fun f=>.tup [.str f.1,f.2.x]) ((dW 0 (rmF fs)).map Dx.int)).length≤1000000:=by rw [do_,aE,cM]; omega
 refine ⟨Ft,show dX _ _ _ _ _ (iA (fs.map fun f=>.tup [.str f.1,f.2.x]) ((dW 0 (rmF fs)).map Dx.int)) _ _ from ?_⟩
 rw [do_]
 exact b9 _ (fun p:(Str×Kd)×Int=>Dx.tup [.str p.1.1,.int p.2]) (fun p hp Ad P pp=>⟨iC,pp⟩) q
theorem aFa:FnOk P w K mg base CX0 j f fd AG (spX (gRO 0)):=qH fun ds Q h=>by
 obtain ⟨kd,_,_,hd,_⟩:=h
 have:=Kd.deep_pos kd
 omega
end
def gLN:GB:=fun l ds Q => ∃ B many:Int,ds=[.int many]∧PoolX B l∧0≤many∧many≤12∧B + 1000 < 2 ^ 60∧∀ (xs:List Str) (l':List Dx),xs.length=many.toNat→xs.Nodup→(∀ x∈xs,Nm x)→PoolX (B + 200) l'→Q (.lst (xs.map Dx.str)) l'
theorem hz_ {G K:XS} {ρ:En} {D:XD} (M:En→Prop) (h1:∀ ρ',M ρ'→K ρ' D) (h2:∀ D':XD,(∀ ρ',M ρ'→D'.nx ρ')→G ρ D'):cV G K ρ D:=h2 { D with nx:=fun ρ'=>K ρ' D } h1
theorem xD {i:Nat} {t:XT} {K:XS} {ρ:En} {D:XD} (h:t ρ fun s ρ'=>K (ρ'.set i (.v s)) D):cV (eU i t) K ρ D:=h
theorem rR {i:Nat} {s:Sv} {ρ:En} {Q:Sv→En→Prop} (hi:ρ[i]? = some (.v s)) (h:Q (.tr s.d) (ρ.set i (vT s.d))):bW i ρ Q:=by
 unfold bW
 rw [hi]
 exact h
theorem aKe (fs:List (Str×Kd)) (f:Str×Kd):xF (fs ++ [f])=xF fs ++ [.tup [.str f.1,f.2.x]]:=by rw [xE,xE,cU]; rfl
theorem aKc (ks:List Kd) (k:Kd):xK (ks ++ [k])=xK ks ++ [k.x]:=by rw [sE,sE,cU]; rfl
theorem uI {v:Dx} {a b B:Int} (h:v∈[Dx.int a,Dx.int b]) (a0:0≤a) (a1:a < B) (b0:0≤b) (b1:b < B):∃ z,v=.int z∧0≤z∧z < B:=by
 simp only [aI,bI,or_false] at h
 rcases h with rfl | rfl
 ·exact ⟨_,rfl,a0,a1⟩
 ·exact ⟨_,rfl,b0,b1⟩
theorem aId {v:Dx} (h:v∈[Dx.int 1,Dx.int 2,Dx.int 4,Dx.int 8]):∃ z,v=.int z∧(z=1∨z=2∨z=4∨z=8):=by
 simp only [aI,bI,or_false] at h
 rcases h with rfl | rfl | rfl | rfl
 ·exact ⟨_,rfl,by omega⟩
 ·exact ⟨_,rfl,by omega⟩
 ·exact ⟨_,rfl,by omega⟩
 ·exact ⟨_,rfl,by omega⟩
theorem fy_ {l:List Dx} {r:Int} {Q:Sv→Prop} (h0:0≤r) (h1:r < l.length) (q:∀ d∈l,Q (.tr d)):ixX (.lst l) (.int r) Q:=by
 obtain ⟨v,hv,hm⟩:=aUe h0 h1
 show (match atI l r with | some d=>Q (.tr d) | none=>False)
 rw [hv]
 exact q v hm
theorem k4 {n:Nat} (h:n≤1000000):n≤1000000:=h
def gLK (n:Nat):GB:=fun l ds Q => ∃ B d mo:Int,ds=[.int d,.int mo]∧PoolX B l∧8≤mo∧1≤d∧d≤n∧n≤5∧B + tk n < 2 ^ 60 ∧
 ∀ (kd:Kd) (l':List Dx),kd.Fit→(kd.deep:Int)≤d→kd.rm.1≤mo→PoolX (B + tk n) l'→Q kd.x l'
section
variable {f:Addr} {n j jM:Nat}
theorem aRs (F:Fun K "_law_kind" "_law_kind" dt_ f fd) (A6:Cal P w K mg base 1 "_law_take" AF (spB gTK)) (CLN:Cal P w K mg base 2 "_law_names" AF (spB gLN)) (D2:Cal P w K mg base jM "_law_room" AG (spX (gLM 5))) (Ly:jM≤j) (J1:2≤j)
  (Ib:Cal P w K mg base j "_law_kind" AK (spB (gLK n))) (m_range:mg "range" = none) (m_int:mg "int" = none):FnOk P w K mg base CX0 (j + 1) f fd AK (spB (gLK (n + 1))):=by
 refine aCm F eV (fun l ds Q h=>by obtain ⟨B,d,mo,rfl,_⟩:=h; rfl) (by decide) fun Ak A outer s H E hr => ?_
 have Am:=bV (qK hr)
 refine ⟨_,(dO (eS (i:=3) eV.nd rfl (Or.inl rfl) (iQ (i:=0) A6 (hr.mono (by omega)) (pv 0) (bF dH bX)))
  (dO (eS (i:=4) eV.nd rfl (Or.inl rfl) (zN (bF lI (bF (iD dH (iQ (i:=0) A6 (hr.mono (by omega)) (pv 0) (bF dH bX))) (bF (jZ K (jH (bF dH (bF dH (bF dH (bF dH bX))))) (iQ (i:=0) A6 (hr.mono (by omega)) (pv 0) (bF dH bX)) (fun _ _=>rfl)) bX)))))
  (dO (iE (XW.pt (lE (iM (kO K Am) kL (bE (pv 1)) dH (bY _)) (gk_ (iM pI pG (bE (pv 3)) dH (bY _))))) (eF (gD (tQ (pv 4)))) jE)
  (dO (eS (i:=5) eV.nd rfl (Or.inl rfl) (bE (pv 4)))
  (dO (iE (iM pI pG (bE (pv 3)) dH (bY _)) (dO (eS (i:=6) eV.nd rfl (Or.inl rfl) (iD dH (jZ K (jH (bF (iQ (i:=0) A6 (hr.mono (by omega)) (pv 0) (bF dH bX)) (bF (iQ (i:=0) A6 (hr.mono (by omega)) (pv 0) (bF dH bX)) bX))) (iQ (i:=0) A6 (hr.mono (by omega)) (pv 0) (bF dH bX)) (fun _ _=>rfl))))
  (eF (eS (i:=5) eV.nd rfl (Or.inl rfl) (zN (bF lI (bF (iQ (i:=0) Ib (hr.mono (by omega)) (pv 0) (bF (fg_ (bE (pv 1)) dH) (bF (bE (pv 2)) bX))) (bF (bE (pv 6)) bX))))))) (eF (iE (iM pI pG (bE (pv 3)) dH (bY _)) (dO (eS (i:=6) eV.nd rfl (Or.inl rfl) (iD dH (jZ K (jH (bF (iQ (i:=0) A6 (hr.mono (by omega)) (pv 0) (bF dH bX)) (bF (iQ (i:=0) A6 (hr.mono (by omega)) (pv 0) (bF dH bX)) bX))) (en_ jy_ m6 (by rfl) m_int qW (bF (fx_ (kO K Am) kL (iQ (i:=0) A6 (hr.mono (by omega)) (pv 0) (bF dH bX)) dH (bY _)) bX)) (fun _ _=>rfl))))
  (eF (eS (i:=5) eV.nd rfl (Or.inl rfl) (zN (bF lI (bF (rW (dsc:=aQ dt_) (N:=AR) (tgs:=["name"]) (outs:=[0,1,2]) (N':=["name","pool","deep","most"]) (by refine ⟨rfl,?_,?_,?_,rfl,?_,?_,?_⟩ <;> decide +kernel) (mW (iQ (i:=0) CLN (hr.mono (by omega)) (pv 0) (bF (bE (pv 6)) bX))) (fun _ _ _ _ _=>(gG (i:=0) (show (["name","pool","deep","most"]:List Str).Nodup by decide +kernel) rfl (Or.inl rfl) (.inr rfl))) (kJ (n:=1) (i:=0) (by decide)) (qZ (by decide)) (fun _ _ _ _ _=>mD) (fun _ _ _ _ _=>(zN (bF (bE (pv 0)) (bF (iQ (i:=1) Ib (hr.mono (by omega)) (pv 1) (bF (fg_ (bE (pv 2)) dH) (bF (bE (pv 3)) bX))) bX))))) bX)))))) (dO (eS (i:=6) eV.nd rfl (Or.inl rfl) (iD dH (jZ K (jH (bF (iQ (i:=0) A6 (hr.mono (by omega)) (pv 0) (bF dH bX)) (bF (iQ (i:=0) A6 (hr.mono (by omega)) (pv 0) (bF dH bX)) bX))) (iQ (i:=0) A6 (hr.mono (by omega)) (pv 0) (bF dH bX)) (fun _ _=>rfl))))
  (eF (eS (i:=5) eV.nd rfl (Or.inl rfl) (zN (bF lI (bF (rW (dsc:=aQ dt_) (N:=AR) (tgs:=["k"]) (outs:=[0,1,2]) (N':=["k","pool","deep","most"]) (by refine ⟨rfl,?_,?_,?_,rfl,?_,?_,?_⟩ <;> decide +kernel) (cg_ m_range (bF (bE (pv 6)) bX)) (fun _ _ _ _ _=>(gG (i:=0) (show (["k","pool","deep","most"]:List Str).Nodup by decide +kernel) rfl (Or.inl rfl) (.inr rfl))) (kJ (n:=1) (i:=0) (by decide)) (qZ (by decide)) (fun _ _ _ _ _=>mD) (fun _ _ _ _ _=>(iQ (i:=1) Ib (hr.mono (by omega)) (pv 1) (bF (fg_ (bE (pv 2)) dH) (bF (bE (pv 3)) bX))))) bX)))))))))
  (dO (iE (iM aGj aGb (jZ K (fW D2 (hr.mono (by omega)) (bF (bE (pv 5)) bX)) dH (fun _ _=>rfl)) (bE (pv 2)) (bY _)) (eF (gD (tQ (pv 4)))) jE)
  (eF (gD (tQ (pv 5)))))))))),fun l ds Q h => ?_⟩
 clear Am Ly J1
 obtain ⟨B,d,mo,rfl,hp,Jv,hd1,Eb,hn5,hB,q⟩:=h
 have Nx:=sO n
 have eT:tk (n + 1)=3000 + 12 * tk n:=rfl
 rw [eT] at hB q
 refine ⟨rfl,B,7,rfl,hp,by omega,by decide,by decide,fun way l1 w0 w1 D1 => ?_⟩
 refine ⟨rfl,_,8,rfl,D1,by omega,by decide,by decide,fun r2 l2 r20 r21 Df => ?_⟩
 refine ⟨k4 (by decide),rfl,_,4,rfl,Df,by omega,by decide,by decide,fun r3 l3 r30 r31 Ed => ?_⟩
 refine fy_ r30 r31 fun v hv => ?_
 obtain ⟨m,rfl,hm⟩:=aId hv
 refine ⟨k4 (by show 3≤1000000; decide),?_⟩
 dsimp only
 change cV _ _ [.bw l3,vT (.int d),vT (.int mo),vT (.int way),vT (Kd.num (1 + r2) m).x,.un,.un] _
 have fN:(Kd.num (1 + r2) m).Fit:=⟨by omega,by omega,hm⟩
 have rN:(Kd.num (1 + r2) m).rm.1≤mo:=by show 1 + r2≤mo; omega
 have dN:((Kd.num (1 + r2) m).deep:Int)≤d:=by show ((1:Nat):Int)≤d; omega
 have done:∀ {l':List Dx},PoolX (B + (3000 + 12 * tk n)) l'→Q (Kd.num (1 + r2) m).x l':=fun {l'} hP=>q _ _ fN dN rN hP
 have Eo:PoolX (B + 3) l3:=Ed.mono (by omega)
 clear Ed Df D1 hv
 generalize Kd.num (1 + r2) m=kN at *
 refine k7 (fun c=>done (Eo.mono (by omega))) (fun c => ?_)
 have c':¬ d=1:=fun z=>c (by rw [z]; exact dzT rfl)
 refine k7 (fun c=>done (Eo.mono (by omega))) (fun c2 => ?_)
 unfold fM
 dsimp only
 refine xD (rR rfl ?_)
 change cV _ _ [.bw l3,vT (.int d),vT (.int mo),vT (.int way),vT kN.x,vT kN.x,.un] _
 refine hz_ (fun ρ => ∃ (kd:Kd) (o:Sl) (l':List Dx),ρ=[.bw l',vT (.int d),vT (.int mo),vT (.int way),vT kN.x,vT kd.x,o]∧kd.Fit∧(kd.deep:Int)≤d∧PoolX (B + (3000 + 12 * tk n)) l') ?_ (fun D' hD => ?_)
 ·rintro ρ' ⟨kd,o,l',rfl,hF,Bz,Dr⟩
  refine ⟨kd,rfl,hF.ok,hF.full,by omega,by decide,?_⟩
  refine k7 (fun c3=>done Dr) (fun c3 => ?_)
  have:¬ kd.rm.1 > mo:=fun z=>c3 (dzT z)
  exact q kd l' hF Bz (by omega) Dr
 ·have G7:d - 1=((d - 1).toNat:Int):=by omega
  have T8:∀ i:Nat,i≤8→(i:Int) * tk n≤8 * tk n:=fun i hi=>cY (by omega) Nx
  have Tn:∀ i:Nat,0≤(i:Int) * tk n:=fun i=>Int.mul_nonneg (by omega) Nx
  have Ts:∀ i:Nat,((i + 1:Nat):Int) * tk n=(i:Int) * tk n + tk n:=fun i=>by push_cast; rw [Int.add_mul,Int.one_mul]
  refine k7 (fun c3 => ?_) (fun c3=>k7 (fun c4 => ?_) (fun c4 => ?_))
  ·-- a row
   refine ⟨rfl,_,3,rfl,Eo,by omega,by decide,by decide,fun a la a0 a1 Ke => ?_⟩
   refine ⟨rfl,_,20,rfl,Ke,by omega,by decide,by decide,fun b lb b0 b1 Gh => ?_⟩
   refine ⟨iC,rfl,_,2,rfl,Gh,by omega,by decide,by decide,fun r lr r0 r1 Kc=>fy_ r0 r1 fun v Jh => ?_⟩
   obtain ⟨z,rfl,z0,z1⟩:=uI (B:=20) Jh a0 (by omega) b0 b1
   refine ⟨rfl,_,d - 1,mo,rfl,Kc,Jv,by omega,by omega,by omega,by omega,fun kd l5 hF Bz C7 Dr => ?_⟩
   refine ⟨k4 (by show 3≤1000000; decide),hD _ ⟨.row kd (1 + z),vT (.int (1 + z)),l5,rfl,⟨hF,by omega,by omega⟩,?_,Dr.mono (by omega)⟩⟩
   show ((kd.deep + 1:Nat):Int)≤d
   omega
  ·-- a record
   refine ⟨rfl,_,4,rfl,Eo,by omega,by decide,by decide,fun a la a0 a1 Ke => ?_⟩
   refine ⟨rfl,_,8,rfl,Ke,by omega,by decide,by decide,fun b lb b0 b1 Gh => ?_⟩
   refine ⟨iC,rfl,_,4,rfl,Gh,by omega,by decide,by decide,fun r lr r0 r1 Kc => ?_⟩
   simp only [xC,eqX,eqS,dD,Sv.d,aP,bP,aCi]
   refine fy_ (by split <;> decide) (by show _ < (2:Int); split <;> decide) fun v Jh => ?_
   obtain ⟨z,rfl,z0,z1⟩:=uI (B:=8) Jh a0 (by omega) b0 b1
   refine ⟨rfl,_,1 + z,rfl,Kc,by omega,by omega,by omega,fun xs l5 Hg B6 G3 Dr => ?_⟩
   have hx8:xs.length≤8:=by omega
   refine ⟨by rw [aE]; omega,?_⟩
   refine cb_ Dx.str (fun rest Ad cs => ∃ (fs:List (Str×Kd)) (l':List Dx),xs=fs.map (·.1) ++ rest∧Ad=xF fs∧cs=[.bw l',vT (.int d),vT (.int mo)]∧lL fs∧eJ fs≤(d - 1).toNat∧PoolX (B + 300 + (fs.length:Int) * tk n) l') (fun Ad cs h => ?_) (fun nm rest Ad cs Pn h hk => ?_) ⟨[],l5,rfl,rfl,rfl,trivial,cK _,Dr.mono (by simp; omega)⟩
   ·obtain ⟨fs,l',e1,rfl,rfl,hF,Bz,Bj⟩:=h
    rw [bZ] at e1
    have hfl:fs.length=xs.length:=by rw [e1,aE]
    have t8:=T8 fs.length (by omega)
    refine ⟨iC,hD _ ⟨.rcd fs,vT (.int (1 + z)),l',rfl,⟨hF,by omega,by omega,by rw [← e1]; exact B6⟩,?_,Bj.mono (by omega)⟩⟩
    show ((eJ fs + 1:Nat):Int)≤d
    omega
   ·obtain ⟨fs,l',e1,rfl,rfl,hF,Bz,Bj⟩:=h
    have hfl:fs.length + (rest.length + 1)=xs.length:=by rw [e1,aC,aE,aM]
    have t8:=T8 fs.length (by omega)
    have ts:=Ts fs.length
    have Lo:nm∈xs:=by rw [e1]; exact aK _ aB
    refine ⟨rfl,_,d - 1,mo,rfl,Bj,Jv,by omega,by omega,by omega,by omega,fun kd l6 Ms Mc C7 Cj=>⟨iC,hk _ _ ⟨fs ++ [(nm,kd)],l6,?_,?_,rfl,tI hF (G3 nm Lo) Ms,qP Bz (by show kd.deep≤_; omega),Cj.mono (by rw [aC]; show _≤B + 300 + ((fs.length + 1:Nat):Int) * tk n; omega)⟩⟩⟩
    ·rw [e1,cU,bD]; rfl
    ·rw [aKe]; rfl
  ·-- a choice
   refine ⟨rfl,_,3,rfl,Eo,by omega,by decide,by decide,fun a la a0 a1 Ke => ?_⟩
   refine ⟨rfl,_,6,rfl,Ke,by omega,by decide,by decide,fun b lb b0 b1 Gh => ?_⟩
   refine ⟨iC,rfl,_,2,rfl,Gh,by omega,by decide,by decide,fun r lr r0 r1 Kc=>fy_ r0 r1 fun v Jh => ?_⟩
   obtain ⟨z,rfl,z0,z1⟩:=uI (B:=6) Jh a0 (by omega) b0 b1
   refine ⟨⟨by omega,by omega⟩,by show ((List.range _).map _).length≤_; rw [aE,bR]; omega,?_⟩
   refine cb_ (fun k:Nat=>Dx.int (0 + (k:Int))) (fun rest Ad cs => ∃ (ks:List Kd) (l':List Dx),ks.length + rest.length=(1 + z).toNat∧Ad=xK ks∧cs=[.bw l',vT (.int d),vT (.int mo)]∧mP ks∧eP ks≤(d - 1).toNat∧PoolX (B + 300 + (ks.length:Int) * tk n) l') (fun Ad cs h => ?_) (fun nm rest Ad cs Pn h hk => ?_) ⟨[],lr,by rw [bR]; simp,rfl,rfl,trivial,cK _,Kc.mono (by simp; omega)⟩
   ·obtain ⟨ks,l',e1,rfl,rfl,hF,Bz,Bj⟩:=h
    rw [aU] at e1
    have t8:=T8 ks.length (by omega)
    refine ⟨iC,hD _ ⟨.cho ks,vT (.int (1 + z)),l',rfl,⟨hF,by omega,by omega⟩,?_,Bj.mono (by omega)⟩⟩
    show ((eP ks + 1:Nat):Int)≤d
    omega
   ·obtain ⟨ks,l',e1,rfl,rfl,hF,Bz,Bj⟩:=h
    rw [aM] at e1
    have t8:=T8 ks.length (by omega)
    have ts:=Ts ks.length
    refine ⟨rfl,_,d - 1,mo,rfl,Bj,Jv,by omega,by omega,by omega,by omega,fun kd l6 Ms Mc C7 Cj=>hk _ _ ⟨ks ++ [kd],l6,by rw [aC,cT]; omega,?_,rfl,tG hF Ms,qO Bz (by show kd.deep≤_; omega),Cj.mono (by rw [aC]; show _≤B + 300 + ((ks.length + 1:Nat):Int) * tk n; omega)⟩⟩
    rw [aKc]; rfl
end
mutual
def Kd.vx:Kd→Vd→Dx
 | .num _ _,.num n=>.int n
 | .row k _,.row vs=>.lst (vs.map k.vx)
 | .rcd fs,.rcd vs=>.dic (vxF fs vs)
 | .cho ks,.cho j v=>.tup [.int (j:Int),vxK ks j v]
 | _,_=>.non
def vxF:List (Str×Kd)→List Vd→List (Key×Dx)
 | f :: r,v :: vs=>(Sum.inr f.1,f.2.vx v) :: vxF r vs
 | _,_=>[]
def vxK:List Kd→Nat→Vd→Dx
 | [],_,_=>.non
 | k :: _,0,v=>k.vx v
 | _ :: r,j + 1,v=>vxK r j v
end
theorem ia_:∀ {fs:List (Str×Kd)} {vs:List Vd} {f:Str×Kd} {v:Vd},vs.length=fs.length→vxF (fs ++ [f]) (vs ++ [v])=vxF fs vs ++ [(Sum.inr f.1,f.2.vx v)]
 | [],[],f,v,_=>by simp [vxF]
 | [],_ :: _,_,_,h=>by simp at h
 | _ :: _,[],_,_,h=>by simp at h
 | g :: r,u :: vs,f,v,h=>by simp only [bU,vxF]; rw [ia_ (by simpa using h)]
theorem ev_:∀ {fs:List (Str×Kd)} {vs:List Vd},vs.length=fs.length→(vxF fs vs).map (·.1)=fs.map fun f=>(Sum.inr f.1:Key)
 | [],[],_=>by simp [vxF]
 | [],_ :: _,h=>by simp at h
 | _ :: _,[],h=>by simp at h
 | g :: r,u :: vs,h=>by simp only [vxF,aP]; rw [ev_ (by simpa using h)]
theorem iu_ {v:Vd}:∀ {ks:List Kd} {j:Nat} {k:Kd},ks[j]? = some k→vxK ks j v=k.vx v
 | [],_,_,e=>by simp at e
 | k' :: r,0,k,e=>by simp at e; subst e; simp only [vxK]
 | k' :: r,j + 1,k,e=>by simp only [vxK]; exact iu_ (j:=j) (by simpa using e)
theorem bz_:∀ {fs:List (Str×Kd)} {vs:List Vd},fD fs vs→vs.length=fs.length
 | [],[],_=>rfl
 | [],_ :: _,h=>by simp [fD] at h
 | _ :: _,[],h=>by simp [fD] at h
 | f :: r,v :: vs,h=>by simp only [fD] at h; simp [bz_ h.2]
theorem sL:∀ {fs:List (Str×Kd)} {vs:List Vd} {f:Str×Kd} {v:Vd},fD fs vs→f.2.Val v→fD (fs ++ [f]) (vs ++ [v])
 | [],[],f,v,_,h=>by simp only [aZ,fD]; exact ⟨h,trivial⟩
 | [],_ :: _,_,_,h,_=>by simp [fD] at h
 | _ :: _,[],_,_,h,_=>by simp [fD] at h
 | g :: r,u :: vs,f,v,h,h'=>by simp only [bU,fD] at h ⊢; exact ⟨h.1,sL h.2 h'⟩
theorem r_:∀ {ks:List Kd} {j:Nat} {k:Kd} {v:Vd},ks[j]? = some k→k.Val v→kP ks j v
 | [],_,_,_,e,_=>by simp at e
 | k' :: r,0,k,v,e,h=>by simp at e; subst e; simp only [kP]; exact h
 | k' :: r,j + 1,k,v,e,h=>by simp only [kP]; exact r_ (j:=j) (by simpa using e) h
theorem jV:∀ {fs:List (Str×Kd)} {f:Str×Kd},lL fs→f∈fs→f.2.Fit∧f.2.deep≤eJ fs
 | g :: r,f,h,hm=>by
  rcases aI.mp hm with rfl | hm
  ·exact ⟨h.1.2,eQ _ _⟩
  ·exact ⟨(jV h.2 hm).1,nzL (jV h.2 hm).2 (eK _ _)⟩
theorem jA:∀ {ks:List Kd} {k:Kd},mP ks→k∈ks→k.Fit∧k.deep≤eP ks
 | g :: r,f,h,hm=>by
  rcases aI.mp hm with rfl | hm
  ·exact ⟨h.1,eQ _ _⟩
  ·exact ⟨(jA h.2 hm).1,nzL (jA h.2 hm).2 (eK _ _)⟩
theorem uW {i:Nat} (h:i≤8):(256:Int) ^ i≤256 ^ 8:=by
 have:=Nat.pow_le_pow_right (n:=256) (by decide) h
 exact_mod_cast this
theorem aKr {i:Nat} (h:1≤i):(256:Int)≤256 ^ i:=by
 obtain ⟨k,rfl⟩ : ∃ k,i=k + 1:=⟨i - 1,by omega⟩
 rw [jK]
 have:(1:Int)≤256 ^ k:=Int.pow_pos (by decide)
 omega
theorem aCl {v:Dx} {t a b:Int} (h:v∈[Dx.int 0,Dx.int t,Dx.int a,Dx.int b]) (ht:0≤t) (a0:0≤a) (a1:a≤t) (b0:0≤b) (b1:b≤t):∃ z,v=.int z∧0≤z∧z≤t:=by
 simp only [aI,bI,or_false] at h
 rcases h with rfl | rfl | rfl | rfl
 ·exact ⟨_,rfl,by omega,ht⟩
 ·exact ⟨_,rfl,ht,by omega⟩
 ·exact ⟨_,rfl,a0,a1⟩
 ·exact ⟨_,rfl,b0,b1⟩
def tv:Nat→Int
 | 0=>0
 | n + 1=>10 + 21 * tv n
theorem sN:∀ n,0≤tv n
 | 0=>iB _
 | n + 1=>by have:=sN n; show 0≤10 + 21 * tv n; omega
def gTP:GC:=fun ds Q => ∃ w:Int,ds=[.int w]∧0≤w∧w≤8∧Q (.tr (.int (256 ^ w.toNat - 1)))
def gVA (n:Nat):GB:=fun l ds Q => ∃ (B:Int) (kd:Kd),ds=[kd.x]∧PoolX B l∧kd.Fit∧kd.deep≤n∧n≤5∧B + tv n < 2 ^ 60∧∀ (vd:Vd) (l':List Dx),kd.Val vd→PoolX (B + tv n) l'→Q (kd.vx vd) l'
section
variable {f:Addr} {n j:Nat}
theorem aRf (F:Fun K "_law_top" "_law_top" gn_ f fd) (m_range:mg "range" = none):FnOk P w K mg base CX0 1 f fd ["width"] (spX gTP):=by
 refine lU F kD (fun ds Q h=>by obtain ⟨w,rfl,_⟩:=h; rfl) (by decide) fun Ak A outer s H E hr => ?_
 refine ⟨_,(dO (eS (i:=1) kD.nd rfl (Or.inl rfl) dH)
  (dO (wM PassesOwn.never rfl (cg_ m_range (bF (bE (pv 0)) bX)) (gG (i:=2) kD.nd rfl (Or.inl rfl)) (kJ (n:=99) (i:=2) (by decide)) (eF (eS (i:=1) kD.nd rfl (Or.inl rfl) (qT dH (bE (pv 1))))))
  (eF (gD (fg_ (bE (pv 1)) dH))))),fun ds Q h => ?_⟩
 obtain ⟨w,rfl,h0,h8,q⟩:=h
 refine ⟨⟨by omega,by omega⟩,?_⟩
 refine xH (fun k:Nat=>Dx.int (0 + (k:Int))) (fun rest ρ => ∃ (i:Nat) (y:Sl),i + rest.length=w.toNat∧ρ=[vT (.int w),vT (.int (256 ^ i)),y]) (fun ρ h => ?_) (fun k rest ρ Kn h hk => ?_) ⟨0,.un,by rw [bR]; simp,rfl⟩
 ·obtain ⟨i,y,e,rfl⟩:=h
  rw [aU,Nat.add_zero] at e
  subst e
  exact q
 ·obtain ⟨i,y,e,rfl⟩:=h
  rw [aM] at e
  have hp1:=uW (show i≤8 by omega)
  have hp0:(0:Int)≤256 ^ i:=Int.pow_nonneg (by decide)
  exact ⟨⟨by decide,by omega⟩,hk _ ⟨i + 1,vT (.int (0 + (k:Int))),by omega,by rw [jK,Int.mul_comm]; rfl⟩⟩
theorem aRe (F:Fun K "_law_value" "_law_value" dy_ f fd) (A6:Cal P w K mg base 1 "_law_take" AF (spB gTK)) (CTP:Cal P w K mg base 1 "_law_top" ["width"] (spX gTP)) (Hd:Cal P w K mg base j "_law_value" AX (spB (gVA n))) (m_range:mg "range" = none) (Ae:mg "len" = none) (h1:1≤j) :
  FnOk P w K mg base CX0 (j + 1) f fd AX (spB (gVA (n + 1))):=by
 refine aCm F gN (fun l ds Q h=>by obtain ⟨B,kd,rfl,_⟩:=h; rfl) (by decide) fun Ak A outer s H E hr => ?_
 have As:=qK hr
 have Am:=bV As
 refine ⟨_,(dO (iE (iM (kO K Am) kL (fC K (pv 1)) lI (bY _)) (dO (eS (i:=2) gN.nd rfl (Or.inl rfl) (fW CTP (hr.mono (by omega)) (bF (fC K (pv 1)) bX)))
  (eF (gD (jZ K (jH (bF dH (bF (bE (pv 2)) (bF (iQ (i:=0) A6 (hr.mono (by omega)) (pv 0) (bF dH bX)) (bF (iQ (i:=0) A6 (hr.mono (by omega)) (pv 0) (bF (iD (bE (pv 2)) dH) bX)) bX))))) (iQ (i:=0) A6 (hr.mono (by omega)) (pv 0) (bF dH bX)) (fun _ _=>rfl))))) jE)
  (dO (iE (iM (kO K Am) kL (fC K (pv 1)) lI (bY _)) (eF (gD (rW (dsc:=aQ dy_) (N:=["pool","kind","top","found","name","inner","k"]) (tgs:=["k"]) (outs:=[0,1]) (N':=["k","pool","kind"]) (by refine ⟨rfl,?_,?_,?_,rfl,?_,?_,?_⟩ <;> decide +kernel) (cg_ m_range (bF (fC K (pv 1)) bX)) (fun _ _ _ _ _=>(gG (i:=0) (show (["k","pool","kind"]:List Str).Nodup by decide +kernel) rfl (Or.inl rfl) (.inr rfl))) (kJ (n:=1) (i:=0) (by decide)) (qZ (by decide)) (fun _ _ _ _ _=>mD) (fun _ _ _ _ _=>(iQ (i:=1) Hd (hr.mono (by omega)) (pv 1) (bF (fC K (pv 2)) bX)))))) jE)
  (dO (iE (iM (kO K Am) kL (fC K (pv 1)) lI (bY _)) (dO (eS (i:=3) gN.nd rfl (Or.inl rfl) is_)
  (dO (wM PassesOwn.never rfl (mW (fC K (pv 1))) (gq_ rfl (jY (gG (i:=4) gN.nd rfl (Or.inl rfl)) (jY (gG (i:=5) gN.nd rfl (Or.inl rfl)) tM))) (fe_ (n:=99) (is:=[4,5]) rfl (by decide)) (eF (qL fun F=>PS.weak (nO As (pv 3) (XE.at (Ex:=dU) F (bE (pv 4))) (XE.at (Ex:=dU) F (iQ (i:=0) Hd (hr.mono (by omega)) (pv 0) (bF (bE (pv 5)) bX))) rfl) nM)))
  (eF (gD (tQ (pv 3)))))) jE)
  (dO (eS (i:=6) gN.nd rfl (Or.inl rfl) (iQ (i:=0) A6 (hr.mono (by omega)) (pv 0) (bF (mX (wU K) zK (by rfl) Ae PySem.boot_len (bF (fC K (pv 1)) bX)) bX)))
  (eF (gD (zN (bF (bE (pv 6)) (bF (iQ (i:=0) Hd (hr.mono (by omega)) (pv 0) (bF (jZ K (fC K (pv 1)) (bE (pv 6)) (fun _ _=>rfl)) bX)) bX))))))))),fun l ds Q h => ?_⟩
 clear Am As h1
 obtain ⟨B,kd,rfl,hP,Af,Bz,hn,hB,q⟩:=h
 have ht0:=sN n
 have eT:tv (n + 1)=10 + 21 * tv n:=rfl
 rw [eT] at hB q
 have Tm:∀ i:Nat,i≤20→(i:Int) * tv n≤20 * tv n:=fun i hi=>cY (by omega) ht0
 have Ts:∀ i:Nat,((i + 1:Nat):Int) * tv n=(i:Int) * tv n + tv n:=fun i=>by push_cast; rw [Int.add_mul,Int.one_mul]
 cases kd with
 | num wd m =>
  obtain ⟨a1,a2,_⟩:=Af
  have g1:=uW (show wd.toNat≤8 by omega)
  have g2:=aKr (show 1≤wd.toNat by omega)
  refine ⟨wd,rfl,by omega,by omega,?_⟩
  refine ⟨rfl,B,256,rfl,hP,by omega,by decide,by decide,fun x1 l1 x10 x11 D1 => ?_⟩
  refine ⟨rfl,_,256 ^ wd.toNat - 1 + 1,rfl,D1,by omega,by omega,by omega,fun x2 l2 x20 x21 Df => ?_⟩
  refine ⟨k4 (by show 4≤1000000; decide),rfl,_,4,rfl,Df,by omega,by decide,by decide,fun x3 l3 x30 x31 Ed=>fy_ x30 x31 fun v hv => ?_⟩
  obtain ⟨z,rfl,z0,z1⟩:=aCl hv (by omega) x10 (by omega) x20 (by omega)
  exact q (.num z) l3 (by simp only [Kd.Val]; exact ⟨z0,by omega⟩) (Ed.mono (by omega))
 | row k m =>
  obtain ⟨f1,m1,m2⟩:=Af
  have Ci:k.deep + 1≤n + 1:=Bz
  refine ⟨⟨by omega,by omega⟩,by show ((List.range _).map _).length≤_; rw [aE,bR]; omega,?_⟩
  refine cb_ (fun k:Nat=>Dx.int (0 + (k:Int))) (fun rest Ad cs => ∃ (vs:List Vd) (l':List Dx),vs.length + rest.length=m.toNat∧Ad=vs.map k.vx∧cs=[.bw l',.v (.tr (Kd.row k m).x)]∧(∀ v∈vs,k.Val v)∧PoolX (B + (vs.length:Int) * tv n) l') (fun Ad cs h => ?_) (fun nm rest Ad cs Pn h hk => ?_) ⟨[],l,by rw [bR]; simp,rfl,rfl,(fun v hv=>nomatch hv),hP.mono (by simp)⟩
  ·obtain ⟨vs,l',e1,rfl,rfl,hv,Bj⟩:=h
   rw [aU] at e1
   have t8:=Tm vs.length (by omega)
   have:=q (.row vs) l' (by simp only [Kd.Val]; exact ⟨by omega,hv⟩) (Bj.mono (by omega))
   simp only [Kd.vx] at this
   exact this
  ·obtain ⟨vs,l',e1,rfl,rfl,hv,Bj⟩:=h
   rw [aM] at e1
   have t8:=Tm vs.length (by omega)
   have ts:=Ts vs.length
   refine ⟨rfl,_,k,rfl,Bj,f1,by omega,by omega,by omega,fun vd l6 Jk Cj=>hk _ _ ⟨vs ++ [vd],l6,by rw [aC,cT]; omega,by rw [cU]; rfl,rfl,fun v hm => ?_,Cj.mono (by rw [aC]; show _≤B + ((vs.length + 1:Nat):Int) * tv n; omega)⟩⟩
   rcases bA.mp hm with hm | hm
   ·exact hv v hm
   ·rw [aO.mp hm]; exact Jk
 | rcd fs =>
  obtain ⟨f1,m1,m2,B6⟩:=Af
  have Ci:eJ fs + 1≤n + 1:=Bz
  show iJ _ _ _ (xF fs) _
  rw [xE]
  refine xH _ (fun rest ρ => ∃ (done:List (Str×Kd)) (vs:List Vd) (l':List Dx) (y4 y5:Sl),fs=done ++ rest∧ρ=[.bw l',vT (Kd.rcd fs).x,.un,.v (.od (vxF done vs)),y4,y5,.un]∧fD done vs∧PoolX (B + (done.length:Int) * tv n) l') (fun ρ h => ?_) (fun f rest ρ Kn h hk => ?_) ⟨[],[],l,.un,.un,rfl,by simp only [vxF]; rfl,by simp only [fD],hP.mono (by simp)⟩
  ·obtain ⟨done,vs,l',y4,y5,e1,rfl,hv,Bj⟩:=h
   rw [bZ] at e1
   subst e1
   have t8:=Tm fs.length (by omega)
   have:=q (.rcd vs) l' (by simp only [Kd.Val]; exact hv) (Bj.mono (by omega))
   simp only [Kd.vx] at this
   exact this
  ·obtain ⟨done,vs,l',y4,y5,e1,rfl,hv,Bj⟩:=h
   have hm:f∈fs:=by rw [e1]; exact aK _ aB
   have Aj:done.length + (rest.length + 1)=fs.length:=by rw [e1,aC,aM]
   obtain ⟨ff,fd'⟩:=jV f1 hm
   have t8:=Tm done.length (by omega)
   have ts:=Ts done.length
   have Cv:=bz_ hv
   have C8:(Sum.inr f.1:Key)∉(vxF done vs).map (·.1):=by
    rw [ev_ Cv]
    intro z
    obtain ⟨g,hg,e⟩:=cP.mp z
    rw [e1,cU,gJ] at B6
    exact B6.2.2 g.1 (dE (f:=fun x:Str×Kd=>x.1) hg) f.1 (dE (f:=fun x:Str×Kd=>x.1) aB) (Sum.inr.inj e)
   have hvx:(vxF done vs).length=done.length:=by have:=congrArg List.length (ev_ Cv); simpa using this
   refine ⟨rfl,_,f.2,rfl,Bj,ff,by omega,by omega,by omega,fun vd l6 Jk Cj=>⟨⟨_,rfl⟩,?_⟩⟩
   refine ⟨show (vxF done vs).length < 1000000 by omega,hk _ ⟨done ++ [f],vs ++ [vd],l6,vT (.str f.1),vT f.2.x,by rw [e1,bD]; rfl,?_,sL hv Jk,Cj.mono (by rw [aC]; show _≤B + ((done.length + 1:Nat):Int) * tv n; omega)⟩⟩
   rw [ia_ Cv,← ii_ C8]
   rfl
 | cho ks =>
  obtain ⟨f1,m1,m2⟩:=Af
  have Ci:eP ks + 1≤n + 1:=Bz
  have hlk:(xK ks).length=ks.length:=by rw [sE,aE]
  refine ⟨rfl,B,((xK ks).length:Int),rfl,hP,by omega,by omega,by omega,fun r l1 r0 r1 D1 => ?_⟩
  have Bg:r.toNat < ks.length:=by omega
  have Ba:=aA Bg
  generalize ks[r.toNat]=kc at Ba
  obtain ⟨kf,kdp⟩:=jA f1 (aJ Ba)
  have Gi:(xK ks)[r.toNat]? = some kc.x:=by rw [sE,bG,Ba]; rfl
  refine ⟨rfl,?_⟩
  have Hb:=em_ Gi
  rw [cN r0] at Hb
  simp only [cV,fM,xIf,xB,xOp,bW,jO,xC,eU,iW,dS,fU,bL,dD,xN,jF,lA,iR,xiL,xL,p_,ixX,iL,eqX,eqS,sB,gxN,gxT,gxs,mI,fY,fA,fV,ec_,eb_,pR,rM,rL,rK,rJ,rH,rG,rF,rE,rB,rA,pY,pX,pW,bK,bO,cH,cA,Sv.d,aP,bP,dJ,dC,bU,aZ,aM,aU,bH,cB,Nat.reduceAdd,Nat.reduceSub,Nat.reduceLeDiff,true_and,decide_eq_true_eq,cut,iP,back,lO,eC,if_true,↓reduceIte,dF,eI,Kd.x,Hb]
  refine ⟨_,kc,rfl,D1,kf,by omega,by omega,by omega,fun vd l6 Jk Cj => ?_⟩
  have:=q (.cho r.toNat vd) l6 (by simp only [Kd.Val]; exact r_ Ba Jk) (Cj.mono (by omega))
  simp only [Kd.vx] at this
  rw [iu_ Ba,cN r0] at this
  exact this
end
def gSA (n:Nat):GC:=fun ds Q => ∃ d:Dx,ds=[d,d]∧d.Sz∧d.deep≤n∧Q (.tr (.bl true))
theorem io_:∀ l:List Dx,iA l l=l.map fun a=>.tup [a,a]
 | []=>rfl
 | a :: l=>by show _ :: iA l l=_; rw [io_ l]; rfl
section
variable {f:Addr} {n j:Nat}
theorem aRg (F:Fun K "_law_same" "_law_same" de_ f fd) (Ir:Cal P w K mg base j "_law_same" AN (spX (gSA n))) (Ab:mg "isinstance" = none) (m_list:mg "list" = none) (Ai:mg "tuple" = none) (Ax:mg "dict" = none) (Ay:mg "bool" = none) (Cp:mg "str" = none) (Ae:mg "len" = none) (m_zip:mg "zip" = none) :
  FnOk P w K mg base CX0 (j + 1) f fd AN (spX (gSA (n + 1))):=by
 refine lU F xY (fun ds Q h=>by obtain ⟨d,rfl,_⟩:=h; rfl) (by decide) fun Ak A outer s H E hr => ?_
 have As:=qK hr
 have Am:=bV As
 refine ⟨_,(dO (iE (XW.pt (lE (iM (hv_ K Am) pF (b_ .bool Ab (bE (pv 0)) (rV (v:=.ty "bool") rfl Ay oG rfl)) (b_ .bool Ab (bE (pv 1)) (rV (v:=.ty "bool") rfl Ay oG rfl)) (bY _)) (gk_ (iM (hv_ K Am) pF (b_ .tuple Ab (bE (pv 0)) (rV (v:=.ty "tuple") rfl Ai fd_ rfl)) (b_ .tuple Ab (bE (pv 1)) (rV (v:=.ty "tuple") rfl Ai fd_ rfl)) (bY _))))) (eF (gD mZ)) jE)
  (dO (iE (XW.pt (oI (xG (oO .list .tuple Ab (bE (pv 0)) (vA (lZ (rV (v:=.ty "list") rfl m_list hs_ rfl) (lZ (rV (v:=.ty "tuple") rfl Ai fd_ rfl) zM))))) (iq_ (xG (oO .list .tuple Ab (bE (pv 1)) (vA (lZ (rV (v:=.ty "list") rfl m_list hs_ rfl) (lZ (rV (v:=.ty "tuple") rfl Ai fd_ rfl) zM)))))))) (eF (gD (oP (fx_ (kO K Am) kL (mX (wU K) zK (by rfl) Ae PySem.boot_len (bF (bE (pv 0)) bX)) (mX (wU K) zK (by rfl) Ae PySem.boot_len (bF (bE (pv 1)) bX)) (bY _)) (oM (fx_ (kO K Am) kL (rW (dsc:=aQ de_) (N:=AN) (tgs:=["a","b"]) (outs:=[]) (N':=["a","b"]) (by refine ⟨rfl,?_,?_,?_,rfl,?_,?_,?_⟩ <;> decide +kernel) (aJx (i:=0) (j:=1) m_zip (pv 0) (pv 1)) (fun _ _ _ _ _=>(hl_ K (n:=2) rfl rfl (jY (gG (i:=0) (show (["a","b"]:List Str).Nodup by decide +kernel) rfl (Or.inl rfl) (.inr rfl)) (jY (gG (i:=1) (show (["a","b"]:List Str).Nodup by decide +kernel) rfl (Or.inl rfl) (.inr rfl)) tM)))) (fe_ (n:=2) (is:=[0,1]) rfl (by decide)) (hd_ (xI (by decide) (xI (by decide) dp_ xJ) (co_ xJ))) (fun _ _ _ _ _=>(nK (ff_ (xG (fW Ir (hr.mono (by omega)) (bF (bE (pv 0)) (bF (bE (pv 1)) bX))))))) (fun _ _ _ _ _=>dH)) (jH bX) (bY _)))))) jE)
  (dO (iE (XW.pt (oI (xG (b_ .dict Ab (bE (pv 0)) (rV (v:=.ty "dict") rfl Ax wT rfl))) (iq_ (xG (b_ .dict Ab (bE (pv 1)) (rV (v:=.ty "dict") rfl Ax wT rfl)))))) (dO (iE (XW.pt (lE (iM (hv_ K Am) pF (mX (wU K) zK (by rfl) Ae PySem.boot_len (bF (bE (pv 0)) bX)) (mX (wU K) zK (by rfl) Ae PySem.boot_len (bF (bE (pv 1)) bX)) (bY _)) (gk_ (iM (hv_ K Am) pF (xM (dsc:=aQ de_) (N:=AN) (tgs:=["key"]) (outs:=[1]) (N':=["key","other"]) (by refine ⟨rfl,?_,?_,?_,rfl,?_,?_,?_⟩ <;> decide +kernel) (pv 0) (fun _ _ _ _ _=>(gG (i:=0) (show (["key","other"]:List Str).Nodup by decide +kernel) rfl (Or.inl rfl) (.inr rfl))) (kJ (n:=1) (i:=0) (by decide)) (qZ (by decide)) (fun _ _ _ _ _=>(nK (aBa As (bE (pv 0)) (bE (pv 1)) (by with_unfolding_all rfl)))) (fun _ _ _ _ _=>(bE (pv 0)))) (jH bX) (bY _))))) (eF (gD mZ)) jE)
  (eF (gD (fx_ (kO K Am) kL (xM (dsc:=aQ de_) (N:=AN) (tgs:=["key"]) (outs:=[0,1]) (N':=["key","one","other"]) (by refine ⟨rfl,?_,?_,?_,rfl,?_,?_,?_⟩ <;> decide +kernel) (pv 0) (fun _ _ _ _ _=>(gG (i:=0) (show (["key","one","other"]:List Str).Nodup by decide +kernel) rfl (Or.inl rfl) (.inr rfl))) (kJ (n:=1) (i:=0) (by decide)) (qZ (by decide)) (fun _ _ _ _ _=>(nK (ff_ (xG (fW Ir (hr.mono (by omega)) (bF (it_ As (bE (pv 1)) (bE (pv 0)) (fun _ _=>rfl)) (bF (it_ As (bE (pv 2)) (bE (pv 0)) (fun _ _=>rfl)) bX))))))) (fun _ _ _ _ _=>(bE (pv 0)))) (jH bX) (bY _))))) jE)
  (eF (gD (oP (fx_ (kO K Am) kL (b_ .str Ab (bE (pv 0)) (rV (v:=.ty "str") rfl Cp aJa rfl)) (b_ .str Ab (bE (pv 1)) (rV (v:=.ty "str") rfl Cp aJa rfl)) (bY _)) (oM (fx_ (kO K Am) kL (bE (pv 0)) (bE (pv 1)) (bY _))))))))),fun ds Q h => ?_⟩
 clear Am As
 obtain ⟨d,rfl,hs,hd,q⟩:=h
 cases d with
 | scr _ _=>simp only [Dx.Sz] at hs
 | ins _ _=>simp only [Dx.Sz] at hs
 | exc _=>simp only [Dx.Sz] at hs
 | non=>exact q
 | bl b=>show Q (.tr (.bl (decide (b=b)))); rw [dzT rfl]; exact q
 | int i=>show Q (.tr (.bl (decide (i=i)))); rw [dzT rfl]; exact q
 | str x=>show Q (.tr (.bl (decide (x=x)))); rw [dzT rfl]; exact q
 | lst l =>
  simp only [Dx.Sz] at hs
  simp only [Dx.deep] at hd
  show if decide ((l.length:Int)=(l.length:Int))=true then _ else _
  rw [if_pos (dzT rfl)]
  show (iA l l).length≤1000000∧dX _ _ _ _ _ (iA l l) _ _
  rw [io_]
  refine ⟨by rw [aE]; omega,cb_ _ (fun rest Ad cs=>Ad=[]∧cs=[]∧∀ a∈rest,a∈l) (fun Ad cs h => ?_) (fun a rest Ad cs Pn h hk => ?_) ⟨rfl,rfl,fun a h=>h⟩⟩
  ·obtain ⟨rfl,rfl,_⟩:=h
   exact ⟨by decide,q⟩
  ·obtain ⟨rfl,rfl,h⟩:=h
   have hm:=h a aB
   exact ⟨a,rfl,ga_ hs.2 hm,by have:=fm_ hm; omega,hk _ _ ⟨rfl,rfl,fun b hb=>h b (aD _ hb)⟩⟩
 | tup l =>
  simp only [Dx.Sz] at hs
  simp only [Dx.deep] at hd
  show if decide ((l.length:Int)=(l.length:Int))=true then _ else _
  rw [if_pos (dzT rfl)]
  show (iA l l).length≤1000000∧dX _ _ _ _ _ (iA l l) _ _
  rw [io_]
  refine ⟨by rw [aE]; omega,cb_ _ (fun rest Ad cs=>Ad=[]∧cs=[]∧∀ a∈rest,a∈l) (fun Ad cs h => ?_) (fun a rest Ad cs Pn h hk => ?_) ⟨rfl,rfl,fun a h=>h⟩⟩
  ·obtain ⟨rfl,rfl,_⟩:=h
   exact ⟨by decide,q⟩
  ·obtain ⟨rfl,rfl,h⟩:=h
   have hm:=h a aB
   exact ⟨a,rfl,ga_ hs.2 hm,by have:=fm_ hm; omega,hk _ _ ⟨rfl,rfl,fun b hb=>h b (aD _ hb)⟩⟩
 | dic l =>
  simp only [Dx.Sz] at hs
  simp only [Dx.deep] at hd
  show if (!decide ((l.length:Int)=(l.length:Int)))=true then _ else _
  rw [dzT rfl]
  show l.length≤1000000∧dX _ _ _ _ _ (jU l) _ _
  refine ⟨by omega,cb_ (fun p:Key×Dx=>sC p.1) (fun rest Ad cs=>Ad=[]∧cs=[vT (.dic l)]∧∀ a∈rest,a∈l) (fun Ad cs h => ?_) (fun a rest Ad cs Pn h hk => ?_) ⟨rfl,rfl,fun a h=>h⟩⟩
  ·obtain ⟨rfl,rfl,_⟩:=h
   refine ⟨by decide,?_⟩
   show l.length≤1000000∧dX _ _ _ _ _ (jU l) _ _
   refine ⟨by omega,cb_ (fun p:Key×Dx=>sC p.1) (fun rest Ad cs=>Ad=[]∧cs=[vT (.dic l),vT (.dic l)]∧∀ a∈rest,a∈l) (fun Ad cs h => ?_) (fun a rest Ad cs Pn h hk => ?_) ⟨rfl,rfl,fun a h=>h⟩⟩
   ·obtain ⟨rfl,rfl,_⟩:=h
    exact ⟨by decide,q⟩
   ·obtain ⟨rfl,rfl,h⟩:=h
    have hm:=h a aB
    have F1:=hn_ hs.2.1 hm
    have:=hk [] [vT (.dic l),vT (.dic l)] ⟨rfl,rfl,fun b hb=>h b (aD _ hb)⟩
    simp only [xW,cV,fM,xIf,xB,xOp,bW,xC,iW,dS,bL,dD,jF,iR,aBd,xOr,aDy,aEb,xIs,dgX,eqX,neX,eqS,sB,gxN,gxT,gxs,mI,fY,fA,fV,ec_,eb_,pR,rM,rL,rK,rJ,rH,rG,rF,rE,rB,rA,pY,pX,pW,bK,bO,cH,cA,Sv.d,aP,bP,dJ,dC,bU,aZ,aM,aU,bH,cB,Nat.reduceAdd,Nat.reduceSub,Nat.reduceLeDiff,true_and,decide_eq_true_eq,cut,iP,back,lO,eC,if_true,↓reduceIte,dF,eI,pV,F1]
    exact ⟨a.2,rfl,oY hs.2.2 hm,by have:=hp_ hm; omega,this⟩
  ·obtain ⟨rfl,rfl,h⟩:=h
   have hm:=h a aB
   have F1:=hn_ hs.2.1 hm
   have:=hk [] [vT (.dic l)] ⟨rfl,rfl,fun b hb=>h b (aD _ hb)⟩
   simp only [xW,cV,fM,xIf,xB,xOp,bW,xC,iW,dS,bL,dD,jF,iR,aBd,xOr,aDy,aEb,xIs,dgX,eqX,neX,eqS,sB,gxN,gxT,gxs,mI,fY,fA,fV,ec_,eb_,pR,rM,rL,rK,rJ,rH,rG,rF,rE,rB,rA,pY,pX,pW,bK,bO,cH,cA,Sv.d,aP,bP,dJ,dC,bU,aZ,aM,aU,bH,cB,Nat.reduceAdd,Nat.reduceSub,Nat.reduceLeDiff,true_and,decide_eq_true_eq,cut,iP,back,lO,eC,if_true,↓reduceIte,dF,eI,aMy,pV,F1]
   exact this
end
theorem ji_ {l s:List Int} {p k:Nat} (h1:l.length≤p) (h2:p + s.length≤l.length + k):lay (l ++ List.replicate k 0) p s=l ++ List.replicate (p - l.length) 0 ++ s ++ List.replicate (l.length + k - (p + s.length)) 0:=by
 refine fJ fun i => ?_
 rw [hx_]
 by_cases c1:i < l.length
 ·rw [bS c1,bD,bD,bS c1,aA c1]
  show some (if _ then _ else _)=_
  rw [if_neg (by omega)]
 ·by_cases c2:i < p
  ·rw [aY (by omega),bD,bD,aY (by omega),bS (by rw [aL]; omega),cI,cI,if_pos (by omega),if_pos (by omega)]
   show some (if _ then _ else _)=_
   rw [if_neg (by omega)]
  ·by_cases c3:i < p + s.length
   ·rw [aY (by omega),cI,if_pos (by omega)]
    show some (if _ then _ else _)=_
    rw [if_pos (by omega),bD (l ++ _),aY (by rw [aC,aL]; omega),aC,aL,show i - (l.length + (p - l.length))=i - p by omega,bS (by omega),aR,aA (by omega)]
    rfl
   ·rw [aY (by omega),aY (by simp only [aC,aL]; omega),cI,cI]
    simp only [aC,aL]
    by_cases c4:i < l.length + k
    ·rw [if_pos (by omega),if_pos (by omega)]
     show some (if _ then _ else _)=_
     rw [if_neg (by omega)]
    ·rw [if_neg (by omega),if_neg (by omega)]
     rfl
def iY (l:List Int) (kv:Kd×Vd):List Int:=l ++ List.replicate ((up l.length kv.1.rm.2).toNat - l.length) 0 ++ kv.1.byt kv.2
def fP:List Int→List (Kd×Vd)→List Int
 | l,[]=>l
 | l,kv :: r=>fP (iY l kv) r
def aAx (kv:Kd×Vd):Prop:=kv.1.Val kv.2∧0≤kv.1.rm.1∧1≤kv.1.rm.2
theorem pA {l:List Int} {kv:Kd×Vd} (h:aAx kv):((iY l kv).length:Int)=up l.length kv.1.rm.2 + kv.1.rm.1:=by
 obtain ⟨h1,h2,h3⟩:=h
 obtain ⟨u1,u2⟩:=jN (n:=(l.length:Int)) (m:=kv.1.rm.2) (by omega)
 unfold iY
 rw [aC,aC,aL,Kd.byt_len h1]
 omega
theorem qV:∀ {fs:List (Str×Kd)} {vs:List Vd} {l:List Int} {k:Nat},fD fs vs→(∀ kv∈(fs.map (·.2)).zip vs,aAx kv)→dB l.length (rmF fs)≤l.length + k →
  gS (dW l.length (rmF fs)) fs vs (l ++ List.replicate k 0)=fP l ((fs.map (·.2)).zip vs) ++ List.replicate (l.length + k - (fP l ((fs.map (·.2)).zip vs)).length) 0
 | [],[],l,k,_,_,_=>by simp only [rmF,dW,gS,bP,List.zip_nil_left,fP]; rw [eL]
 | [],_ :: _,_,_,h,_,_=>by simp [fD] at h
 | _ :: _,[],_,_,h,_,_=>by simp [fD] at h
 | f :: r,v :: vs,l,k,hv,hg,he=>by
  simp only [fD] at hv
  have g:=hg (f.2,v) (by simp only [aP,cG]; exact aB)
  have pl:((iY l (f.2,v)).length:Int)=up l.length f.2.rm.2 + f.2.rm.1:=pA g
  obtain ⟨g1,g2,g3⟩ : f.2.Val v∧0≤f.2.rm.1∧1≤f.2.rm.2:=g
  obtain ⟨u1,u2⟩:=jN (n:=(l.length:Int)) (m:=f.2.rm.2) (by omega)
  have bl:(f.2.byt v).length=f.2.rm.1.toNat:=Kd.byt_len g1
  have he':dB (up l.length f.2.rm.2 + f.2.rm.1) (rmF r)≤l.length + k:=he
  have ge:=dw_ (rs:=rmF r) (e:=up l.length f.2.rm.2 + f.2.rm.1) (rms_of hv.2 fun kv h=>hg kv (by simp only [aP,cG]; exact aD _ h))
  show gS (dW (up l.length f.2.rm.2 + f.2.rm.1) (rmF r)) r vs (lay (l ++ List.replicate k 0) (up l.length f.2.rm.2).toNat (f.2.byt v))=_
  have pd:(iY l (f.2,v)).length=(up l.length f.2.rm.2).toNat + (f.2.byt v).length:=by rw [bl]; omega
  rw [ji_ (by omega) (by rw [bl]; omega),← pl]
  have:=qV (fs:=r) (vs:=vs) (l:=iY l (f.2,v)) (k:=l.length + k - ((up l.length f.2.rm.2).toNat + (f.2.byt v).length)) hv.2 (fun kv h=>hg kv (by simp only [aP,cG]; exact aD _ h)) (by rw [pl]; show dB (up l.length f.2.rm.2 + f.2.rm.1) _≤_; rw [bl]; omega)
  show gS _ r vs (iY l (f.2,v) ++ _)=_
  have ea:fP l (((f :: r).map (·.2)).zip (v :: vs))=fP (iY l (f.2,v)) ((r.map (·.2)).zip vs):=rfl
  rw [this,ea]
  congr 2
  rw [← pd,Nat.add_sub_cancel' (by omega)]
where rms_of:∀ {fs:List (Str×Kd)} {vs:List Vd},fD fs vs→(∀ kv∈(fs.map (·.2)).zip vs,aAx kv)→Rms (rmF fs)
 | [],_,_,_,r,hr=>by simp [rmF] at hr
 | _ :: _,[],h,_,_,_=>by simp [fD] at h
 | f :: r,v :: vs,hv,hg,x,hx=>by
  simp only [fD] at hv
  simp only [rmF] at hx
  rcases aI.mp hx with rfl | hx
  ·have g:=hg (f.2,v) (by simp only [aP,cG]; exact aB)
   exact ⟨g.2.1,Int.lt_of_lt_of_le (by decide) (show (1:Int)≤f.2.rm.2 from g.2.2)⟩
  ·exact rms_of hv.2 (fun kv h=>hg kv (by simp only [aP,cG]; exact aD _ h)) x hx
theorem pT {k:Kd} {st:Nat} (h0:0≤k.rm.1) (h1:1≤k.rm.2) (Bb:(st:Int)=up k.rm.1 k.rm.2):∀ {vs:List Vd} {j:Nat} {l:List Int} {z:Nat},(∀ v∈vs,k.Val v)→up l.length k.rm.2=(j:Int) * st→l.length + z=(j + vs.length) * st →
  fZ k.byt st j vs (l ++ List.replicate z 0)=fP l (vs.map fun v=>(k,v)) ++ List.replicate (l.length + z - (fP l (vs.map fun v=>(k,v))).length) 0
 | [],j,l,z,_,_,_=>by simp only [fZ,bP,fP]; rw [eL]
 | v :: vs,j,l,z,hv,hj,he=>by
  have g1:=hv v aB
  have pl:((iY l (k,v)).length:Int)=up l.length k.rm.2 + k.rm.1:=pA ⟨g1,h0,h1⟩
  have bl:(k.byt v).length=k.rm.1.toNat:=Kd.byt_len g1
  have hrz:((k.rm.1.toNat:Nat):Int)=k.rm.1:=cN h0
  generalize k.rm.1.toNat=rN at bl hrz
  obtain ⟨u1,u2⟩:=jN (n:=(l.length:Int)) (m:=k.rm.2) (by omega)
  obtain ⟨w1,w2⟩:=jN (n:=k.rm.1) (m:=k.rm.2) (by omega)
  have hjn:((j * st:Nat):Int)=(j:Int) * st:=by push_cast; rfl
  have F2:(j + (vs.length + 1)) * st=j * st + vs.length * st + st:=by rw [jD,jD,Nat.one_mul,Nat.add_assoc]
  rw [aM,F2] at he
  generalize hV:vs.length * st=V at he
  show fZ k.byt st (j + 1) vs (lay (l ++ List.replicate z 0) (j * st) (k.byt v))=_
  rw [ji_ (by omega) (by rw [bl]; omega)]
  have pd:(iY l (k,v)).length=j * st + (k.byt v).length:=by rw [bl]; omega
  have Lc:(up l.length k.rm.2).toNat=j * st:=by rw [hj,← hjn]; exact cL _
  have eB:l ++ List.replicate (j * st - l.length) 0 ++ k.byt v=iY l (k,v):=by
   show _=l ++ List.replicate ((up l.length k.rm.2).toNat - l.length) 0 ++ k.byt v
   rw [Lc]
  clear Lc
  have Bo:up (iY l (k,v)).length k.rm.2=((j + 1:Nat):Int) * st:=by
   rw [pl,hj,aEk (by omega) (by rw [Bb,Int.mul_emod,iv_,Int.mul_zero,Int.zero_emod]),← Bb]
   push_cast
   rw [Int.add_mul,Int.one_mul]
  have:=pT h0 h1 Bb (vs:=vs) (j:=j + 1) (l:=iY l (k,v)) (z:=l.length + z - (j * st + (k.byt v).length)) (fun u hu=>hv u (aD _ hu)) Bo (by
   have:(j + 1 + vs.length) * st=j * st + V + st:=by rw [jD,jD,Nat.one_mul,hV]; omega
   rw [this,pd,bl]
   omega)
  rw [eB,this]
  have ea:fP l ((v :: vs).map fun v=>(k,v))=fP (iY l (k,v)) (vs.map fun v=>(k,v)):=rfl
  rw [ea]
  congr 2
  rw [← pd,Nat.add_sub_cancel' (by omega)]
theorem tY:∀ (l:List Int) (ps:List (Kd×Vd)) (kv:Kd×Vd),fP l (ps ++ [kv])=iY (fP l ps) kv
 | _,[],_=>rfl
 | l,p :: ps,kv=>tY (iY l p) ps kv
theorem aAt:∀ (ps:List (Kd×Vd)) (l:List Int),l.length≤(fP l ps).length
 | [],_=>aV _
 | p :: ps,l=>by
  refine nzL ?_ (aAt ps (iY l p))
  unfold iY
  rw [bD,aC]
  omega
theorem c5:∀ (ps qs:List (Kd×Vd)) (l:List Int),fP l (ps ++ qs)=fP (fP l ps) qs
 | [],_,_=>rfl
 | p :: ps,qs,l=>c5 ps qs (iY l p)
mutual
theorem Kd.Fit.pw:∀ (k:Kd),k.Fit→Pw k.rm.2
 | .num w m,h=>by obtain ⟨_,_,h⟩:=h; exact h
 | .row k n,h=>Kd.Fit.pw k h.1
 | .rcd fs,h=>Pw.maxL fun a ha=>by
  obtain ⟨r,hr,rfl⟩:=cP.mp ha
  exact wI fs h.1 r hr
 | .cho ks,h=>Pw.maxL fun a ha=>by
  obtain ⟨r,hr,rfl⟩:=cP.mp ha
  exact jo_ ks h.1 r hr
theorem wI:∀ (fs:List (Str×Kd)),lL fs→∀ r∈rmF fs,Pw r.2
 | [],_,r,hr=>by simp [rmF] at hr
 | f :: fs,h,r,hr=>by
  simp only [rmF] at hr
  rcases aI.mp hr with rfl | hr
  ·exact Kd.Fit.pw f.2 h.1.2
  ·exact wI fs h.2 r hr
theorem jo_:∀ (ks:List Kd),mP ks→∀ r∈rmK ks,Pw r.2
 | [],_,r,hr=>by simp [rmK] at hr
 | f :: fs,h,r,hr=>by
  simp only [rmK] at hr
  rcases aI.mp hr with rfl | hr
  ·exact Kd.Fit.pw f h.1
  ·exact jo_ fs h.2 r hr
end
theorem nX {k:Kd} {v:Vd} (h:k.Fit) (hv:k.Val v):aAx (k,v):=by
 obtain ⟨a,b,c,d⟩:=k.bd h.ok
 exact ⟨hv,a,c⟩
theorem xR:∀ {fs:List (Str×Kd)} {vs:List Vd},lL fs→fD fs vs→∀ kv∈(fs.map (·.2)).zip vs,kv.1.Fit∧kv.1.Val kv.2∧kv.1.deep≤eJ fs
 | [],_,_,_,kv,h=>by simp at h
 | _ :: _,[],_,h,_,_=>by simp [fD] at h
 | f :: r,v :: vs,hf,hv,kv,h=>by
  simp only [fD] at hv
  simp only [aP,cG] at h
  rcases aI.mp h with rfl | h
  ·exact ⟨hf.1.2,hv.1,eQ _ _⟩
  ·obtain ⟨a,b,c⟩:=xR hf.2 hv.2 kv h
   exact ⟨a,b,nzL c (eK _ _)⟩
def aAw (kd:Kd) (vd:Vd) (n:Nat) (st:List Int) (ps:List (Kd×Vd)):Prop:=kd.byt vd=fP st ps ++ List.replicate (kd.rm.1.toNat - (fP st ps).length) 0∧∀ kv∈ps,kv.1.Fit∧kv.1.Val kv.2∧kv.1.deep≤n
theorem aHf {k:Kd} {m:Int} {vs:List Vd} {n:Nat} (hf:(Kd.row k m).Fit) (hv:(Kd.row k m).Val (.row vs)) (hd:k.deep≤n):aAw (.row k m) (.row vs) n [] (vs.map fun v=>(k,v)):=by
 obtain ⟨f1,f2,f3⟩:=hf
 simp only [Kd.Val] at hv
 obtain ⟨a,b,c,d⟩:=k.bd f1.ok
 obtain ⟨u1,u2⟩:=jN (n:=k.rm.1) (m:=k.rm.2) (by omega)
 refine ⟨?_,fun kv h=>by obtain ⟨v,Bn,rfl⟩:=cP.mp h; exact ⟨f1,hv.2 v Bn,hd⟩⟩
 have e:(m * up k.rm.1 k.rm.2).toNat=vs.length * (up k.rm.1 k.rm.2).toNat:=by
  have:m * up k.rm.1 k.rm.2=((vs.length * (up k.rm.1 k.rm.2).toNat:Nat):Int):=by rw [← hv.1]; push_cast; rw [cN (by omega)]
  rw [this,cL]
 have h:=pT (k:=k) (st:=(up k.rm.1 k.rm.2).toNat) a c (by omega) (vs:=vs) (j:=0) (l:=[]) (z:=(m * up k.rm.1 k.rm.2).toNat) hv.2 (by show up 0 _=_; rw [uH (by omega)]; simp) (by rw [e]; simp)
 simp only [Kd.byt]
 rw [aZ] at h
 rw [h]
 simp only [aU,jJ]
 rfl
theorem aHg {fs:List (Str×Kd)} {vs:List Vd} {n:Nat} (hf:(Kd.rcd fs).Fit) (hv:(Kd.rcd fs).Val (.rcd vs)) (hd:eJ fs≤n):aAw (.rcd fs) (.rcd vs) n [] ((fs.map (·.2)).zip vs):=by
 simp only [Kd.Val] at hv
 have z:=xR hf.1 hv
 refine ⟨?_,fun kv h=>⟨(z kv h).1,(z kv h).2.1,nzL (z kv h).2.2 hd⟩⟩
 have pw:=Pw.maxL (l:=(rmF fs).map (·.2)) fun a ha=>by
  obtain ⟨r,hr,rfl⟩:=cP.mp ha
  exact wI fs hf.1 r hr
 obtain ⟨u1,u2⟩:=jN (n:=dB 0 (rmF fs)) (m:=maxL 1 ((rmF fs).map (·.2))) (by have:=pw.pos; omega)
 have hR:Rms (rmF fs):=qV.rms_of hv fun kv h=>nX (z kv h).1 (z kv h).2.1
 have ge:=dw_ (e:=0) hR
 have h:=qV (fs:=fs) (vs:=vs) (l:=[]) (k:=(nE (rmF fs)).1.toNat) hv (fun kv h=>nX (z kv h).1 (z kv h).2.1) (by
  show dB 0 (rmF fs)≤0 + (((up (dB 0 (rmF fs)) (maxL 1 ((rmF fs).map (·.2)))).toNat:Nat):Int)
  omega)
 simp only [Kd.byt]
 rw [aZ] at h
 have h':gS (dW 0 (rmF fs)) fs vs (List.replicate (nE (rmF fs)).1.toNat 0)=_:=h
 rw [h']
 simp only [aU,jJ]
 rfl
theorem in_ {v:Vd}:∀ {ks:List Kd} {j:Nat} {k:Kd},ks[j]? = some k→a_ ks j v=k.byt v
 | [],_,_,e=>by simp at e
 | k' :: r,0,k,e=>by simp at e; subst e; simp only [a_]
 | k' :: r,j + 1,k,e=>by simp only [a_]; exact in_ (j:=j) (by simpa using e)
theorem ew_:∀ {ks:List Kd} {j:Nat} {v:Vd},kP ks j v→∃ k,ks[j]? = some k∧k.Val v
 | [],_,_,h=>by simp [kP] at h
 | k :: _,0,v,h=>by simp only [kP] at h; exact ⟨k,rfl,h⟩
 | _ :: r,j + 1,v,h=>by simp only [kP] at h; obtain ⟨k,e,hk⟩:=ew_ h; exact ⟨k,by simpa using e,hk⟩
theorem aHh {ks:List Kd} {j:Nat} {k:Kd} {v:Vd} {n:Nat} (hf:(Kd.cho ks).Fit) (hk:ks[j]? = some k) (hv:k.Val v) (hd:eP ks≤n):aAw (.cho ks) (.cho j v) n ((j:Int) :: List.replicate ((maxL 1 ((rmK ks).map (·.2))).toNat - 1) 0) [(k,v)]:=by
 obtain ⟨kf,kd⟩:=jA hf.1 (aJ hk)
 refine ⟨?_,fun kv h=>by rw [aO.mp h]; exact ⟨kf,hv,nzL kd hd⟩⟩
 have C7:k.rm∈rmK ks:=aJ (oZ hk)
 have pw:=Pw.maxL (l:=(rmK ks).map (·.2)) fun a ha=>by
  obtain ⟨r,hr,rfl⟩:=cP.mp ha
  exact jo_ ks hf.1 r hr
 have p1:=pw.pos
 have pk:=kf.pw
 have C4:k.rm.2≤maxL 1 ((rmK ks).map (·.2)):=gg_ (dE C7)
 have Dw:k.rm.1≤maxL 0 ((rmK ks).map (·.1)):=gg_ (dE C7)
 obtain ⟨u1,u2⟩:=jN (n:=up 1 (maxL 1 ((rmK ks).map (·.2))) + maxL 0 ((rmK ks).map (·.1))) (m:=maxL 1 ((rmK ks).map (·.2))) (by omega)
 rw [eo_ p1] at u1 u2
 have bl:(k.byt v).length=k.rm.1.toNat:=Kd.byt_len hv
 obtain ⟨a,b,c,d⟩:=k.bd kf.ok
 have eR:(Kd.cho ks).rm.1=up (maxL 1 ((rmK ks).map (·.2)) + maxL 0 ((rmK ks).map (·.1))) (maxL 1 ((rmK ks).map (·.2))):=by show up (up 1 _ + _) _=_; rw [eo_ p1]
 have eR':(iK (rmK ks)).1=(Kd.cho ks).rm.1:=rfl
 have eM:up 1 (iK (rmK ks)).2=maxL 1 ((rmK ks).map (·.2)):=eo_ p1
 generalize maxL 1 ((rmK ks).map (·.2))=M at *
 generalize maxL 0 ((rmK ks).map (·.1))=R1 at *
 simp only [Kd.byt]
 rw [eM,eR',in_ hk,eR]
 generalize up (M + R1) M=R at *
 have hM0:((M.toNat:Nat):Int)=M:=cN (by omega)
 have hR0:((R.toNat:Nat):Int)=R:=cN (by omega)
 have hk0:((k.rm.1.toNat:Nat):Int)=k.rm.1:=cN a
 generalize M.toNat=Mn at *
 generalize R.toNat=Rn at *
 generalize k.rm.1.toNat=kn at *
 have e1:(List.replicate Rn (0:Int)).set 0 (j:Int)=[(j:Int)] ++ List.replicate (Rn - 1) 0:=by
  obtain ⟨q,hq⟩ : ∃ q,Rn=q + 1:=⟨Rn - 1,by omega⟩
  rw [hq]; rfl
 rw [e1,ji_ (by show 1≤Mn; omega) (by rw [bl]; show _≤1 + _; omega)]
 have Aj:((j:Int) :: List.replicate (Mn - 1) 0).length=Mn:=by rw [aM,aL]; omega
 have e2:fP ((j:Int) :: List.replicate (Mn - 1) 0) [(k,v)]=(j:Int) :: List.replicate (Mn - 1) 0 ++ k.byt v:=by
  show _ ++ List.replicate ((up (((j:Int) :: List.replicate (Mn - 1) 0).length:Int) k.rm.2).toNat - _) 0 ++ k.byt v=_
  have:up ((Mn:Nat):Int) k.rm.2=((Mn:Nat):Int):=sM (by omega) (by rw [hM0]; exact pk.dvd pw C4 Int.emod_self)
  rw [Aj,this,cL,gH,cB,bZ]
 rw [e2]
 simp only [aC,Aj,bl,cT,List.singleton_append,bU]
 have Ez:1 + (Rn - 1) - (Mn + kn)=Rn - (Mn + kn):=by rw [Nat.add_sub_cancel' (by omega)]
 rw [Ez]
 have Ch:((j:Int) :: (List.replicate (Mn - 1) 0 ++ k.byt v)).length=Mn + kn:=by rw [aM,aC,aL,bl]; omega
 rw [Ch,aZ]
theorem m7 {c:XC} {G K:XS} {ρ ρ':En} {D:XD} (hc:∀ Q:Bool→En→Prop,Q false ρ'→c ρ Q) (h:K ρ' D):cV (xIf c G fM) K ρ D:=hc _ h
theorem aMq {fs:List (Str×Kd)} {vs:List Vd} {i:Nat} {f:Str×Kd} {v:Vd} (hn:(fs.map (·.1)).Nodup) (hl:vs.length=fs.length) (h1:fs[i]? = some f) (h2:vs[i]? = some v):lD (vxF fs vs) (Sum.inr f.1)=some (f.2.vx v):=by
 have hk:=ev_ hl
 have B6:((vxF fs vs).map (·.1)).Nodup:=by
  rw [hk]
  have:(fs.map fun f=>(Sum.inr f.1:Key))=(fs.map (·.1)).map (fun x:Str=>(Sum.inr x:Key)):=by rw [cQ]; rfl
  rw [this]
  exact List.Pairwise.map _ (fun a b h e=>h (Sum.inr.inj e)) hn
 exact hn_ (p:=(Sum.inr f.1,f.2.vx v)) B6 (mem_vx h1 h2)
where mem_vx:∀ {fs:List (Str×Kd)} {vs:List Vd} {i:Nat} {f:Str×Kd} {v:Vd},fs[i]? = some f→vs[i]? = some v→((Sum.inr f.1,f.2.vx v):Key×Dx)∈vxF fs vs
 | [],_,_,_,_,h,_=>by simp at h
 | _ :: _,[],_,_,_,_,h=>by simp at h
 | g :: r,u :: vs,0,f,v,h1,h2=>by simp at h1 h2; subst h1 h2; simp only [vxF]; exact aB
 | g :: r,u :: vs,i + 1,f,v,h1,h2=>by simp only [vxF]; exact aD _ (mem_vx (i:=i) (by simpa using h1) (by simpa using h2))
theorem lC {α:Type} {a:α}:[a].length≤1000000:=by show 1≤1000000; decide
theorem jb_ {α:Type} (v:α):∀ n,(List.replicate n [v]).flatten=List.replicate n v
 | 0=>rfl
 | n + 1=>by rw [bH,fI,jb_ v n]; rfl
theorem uA (q:Nat):(List.replicate q (List.map Sv.d [Sv.tr (Dx.int 0)])).flatten=(List.replicate q (0:Int)).map Dx.int:=by show (List.replicate q [Dx.int 0]).flatten=_; rw [jb_,List.map_replicate]
def prB (kv:Kd×Vd):Dx:=.tup [kv.1.x,kv.1.vx kv.2]
def gLY (n:Nat):GC:=fun ds Q => ∃ (kd:Kd) (vd:Vd),ds=[kd.x,kd.vx vd]∧kd.Fit∧kd.Val vd∧kd.deep≤n∧n≤5∧kd.rm.1≤100000∧Q (.ol ((kd.byt vd).map Dx.int))
section
variable {f:Addr} {n j jM:Nat}
theorem aRq (F:Fun K "_law_bytes" "_law_bytes" cs_ f fd) (D2:Cal P w K mg base jM "_law_room" AG (spX (gLM 5))) (Fp:Cal P w K mg base 1 "_law_rounded" AD (spX gLR)) (He:Cal P w K mg base j "_law_bytes" AE (spX (gLY n))) (m_range:mg "range" = none) (Ae:mg "len" = none) (m_max:mg "max" = none) (hj:1≤j) (Ly:jM≤j) :
  FnOk P w K mg base CX0 (j + 1) f fd AE (spX (gLY (n + 1))):=by
 refine lU F dL (fun ds Q h=>by obtain ⟨_,_,rfl,_⟩:=h; rfl) (by decide) fun Ak A outer s H E hr => ?_
 have As:=qK hr
 have Am:=bV As
 refine ⟨_,(dO (eS (i:=2) dL.nd rfl (Or.inl rfl) (jH bX))
  (dO (iE (iM (kO K Am) kL (fC K (pv 0)) lI (bY _)) (dO (wM PassesOwn.never rfl (cg_ m_range (bF (fC K (pv 0)) bX)) (gG (i:=3) dL.nd rfl (Or.inl rfl)) (kJ (n:=99) (i:=3) (by decide)) (dO (qL fun F=>PS.weak (gd_ (pE PySem.F.plainAttrs_list PySem.F.slot_list_append PySem.F.type_list_append es_ (pv 2) (lZ (XE.at (Ex:=dU) F (ht_ (bE (pv 1)) dH)) zM))) mE)
  (eF (eS (i:=1) dL.nd rfl (Or.inr rfl) (ir_ (bE (pv 1)) dH)))))
  (eF (gD (tQ (pv 2))))) jE)
  (dO (iE (iM (kO K Am) kL (fC K (pv 0)) lI (bY _)) (eF (qL fun F=>PS.weak (gc_ (i:=4) dL.nd rfl rfl (dsc:=aQ cs_) (N:=AH) (tgs:=["one"]) (outs:=[0]) (N':=["one","kind"]) (by refine ⟨rfl,?_,?_,?_,rfl,?_,?_,?_⟩ <;> decide +kernel) (XIt.at (Ex:=dU) F (mW (bE (pv 1)))) (fun _ _ _ _ _=>(gG (i:=0) (show (["one","kind"]:List Str).Nodup by decide +kernel) rfl (Or.inl rfl) (.inr rfl))) (qZ (by decide)) (fun a b c d e=>XCs.at (Ex:=dU) F mD) (fun a b c d e=>XE.at (Ex:=dU) F (zN (bF (fC K (pv 1)) (bF (bE (pv 0)) bX))))) (ix_ (kJ (n:=1) (i:=0) (by decide)) (by decide)))) (eF (iE (iM (kO K Am) kL (fC K (pv 0)) lI (bY _)) (eF (qL fun F=>PS.weak (gc_ (i:=4) dL.nd rfl rfl (dsc:=aQ cs_) (N:=AH) (tgs:=BG) (outs:=[1]) (N':=["name","inner","value"]) (by refine ⟨rfl,?_,?_,?_,rfl,?_,?_,?_⟩ <;> decide +kernel) (XIt.at (Ex:=dU) F (mW (fC K (pv 0)))) (fun _ _ _ _ _=>(hl_ K (n:=2) rfl rfl (jY (gG (i:=0) (show (["name","inner","value"]:List Str).Nodup by decide +kernel) rfl (Or.inl rfl) (.inr rfl)) (jY (gG (i:=1) (show (["name","inner","value"]:List Str).Nodup by decide +kernel) rfl (Or.inl rfl) (.inr rfl)) tM)))) (hd_ (xI (by decide) (xI (by decide) dp_ xJ) (co_ xJ))) (fun a b c d e=>XCs.at (Ex:=dU) F mD) (fun a b c d e=>XE.at (Ex:=dU) F (zN (bF (bE (pv 1)) (bF (it_ As (bE (pv 2)) (bE (pv 0)) (fun _ _=>rfl)) bX))))) (ix_ (fe_ (n:=2) (is:=[0,1]) rfl (by decide)) (by decide)))) (dO (eS (i:=2) dL.nd rfl (Or.inl rfl) (jH (bF (fC K (pv 1)) bX)))
  (dO (eS (i:=5) dL.nd rfl (Or.inl rfl) (mX (fn_ K (by rfl)) js_ (by rfl) m_max jz_ (bF (rW (dsc:=aQ cs_) (N:=AH) (tgs:=["inner"]) (outs:=[]) (N':=["inner"]) (by refine ⟨rfl,?_,?_,?_,rfl,?_,?_,?_⟩ <;> decide +kernel) (mW (fC K (pv 0))) (fun _ _ _ _ _=>(gG (i:=0) (show (["inner"]:List Str).Nodup by decide +kernel) rfl (Or.inl rfl) (.inr rfl))) (kJ (n:=1) (i:=0) (by decide)) (qZ (by decide)) (fun _ _ _ _ _=>mD) (fun _ _ _ _ _=>(jZ K (fW D2 (hr.mono (by omega)) (bF (bE (pv 0)) bX)) dH (fun _ _=>rfl)))) bX)))
  (dO (eS (i:=2) dL.nd rfl (Or.inl rfl) (iD (bE (pv 2)) (qT (jH (bF dH bX)) (fg_ (fW Fp (hr.mono (by omega)) (bF dH (bF (bE (pv 5)) bX))) dH))))
  (eF (eS (i:=4) dL.nd rfl (Or.inl rfl) (jH (bF (zN (bF (jZ K (fC K (pv 0)) (fC K (pv 1)) (fun _ _=>rfl)) (bF (fC K (pv 1)) bX))) bX))))))))))
  (dO (wM PassesOwn.never rfl (mW (bE (pv 4))) (gq_ rfl (jY (gG (i:=6) dL.nd rfl (Or.inl rfl)) (jY (gG (i:=7) dL.nd rfl (Or.inl rfl)) tM))) (fe_ (n:=99) (is:=[6,7]) rfl (by decide)) (dO (eS (i:=2) dL.nd rfl (Or.inl rfl) (iD (bE (pv 2)) (qT (jH (bF dH bX)) (fg_ (fW Fp (hr.mono (by omega)) (bF (mX (wU K) zK (by rfl) Ae PySem.boot_len (bF (bE (pv 2)) bX)) (bF (jZ K (fW D2 (hr.mono (by omega)) (bF (bE (pv 6)) bX)) dH (fun _ _=>rfl)) bX))) (mX (wU K) zK (by rfl) Ae PySem.boot_len (bF (bE (pv 2)) bX))))))
  (eF (eS (i:=2) dL.nd rfl (Or.inl rfl) (iD (bE (pv 2)) (fW He (hr.mono (by omega)) (bF (bE (pv 6)) (bF (bE (pv 7)) bX))))))))
  (eF (gD (iD (bE (pv 2)) (qT (jH (bF dH bX)) (fg_ (jZ K (fW D2 (hr.mono (by omega)) (bF (bE (pv 0)) bX)) dH (fun _ _=>rfl)) (mX (wU K) zK (by rfl) Ae PySem.boot_len (bF (bE (pv 2)) bX))))))))))),fun ds Q h => ?_⟩
 clear Am As hj Ly
 obtain ⟨kd,vd,rfl,Af,An,Bz,hn,C7,q⟩:=h
 refine ⟨cK _,?_⟩
 dsimp only
 change cV _ _ [vT kd.x,vT (kd.vx vd),.v (.ol []),.un,.un,.un,.un,.un] _
 by_cases isnum:∃ wd m,kd=.num wd m
 ·obtain ⟨wd,m,rfl⟩:=isnum
  cases vd with
  | num i =>
   obtain ⟨a1,a2,_⟩:=Af
   refine ⟨⟨by omega,by omega⟩,?_⟩
   refine xH (fun k:Nat=>Dx.int (0 + (k:Int))) (fun rest ρ => ∃ (c:Nat) (y:Sl),c + rest.length=wd.toNat∧ρ=[vT (Kd.num wd m).x,vT (.int (i / 256 ^ c)),.v (.ol ((iZ c i).map Dx.int)),y,.un,.un,.un,.un]) (fun ρ h => ?_) (fun k rest ρ Kn h hk => ?_) ⟨0,.un,by rw [bR]; simp,by simp only [Kd.vx,iZ,Int.pow_zero,Int.ediv_one]; rfl⟩
   ·obtain ⟨c,y,e,rfl⟩:=h
    rw [aU,Nat.add_zero] at e
    subst e
    simp only [Kd.byt] at q
    exact q
   ·obtain ⟨c,y,e,rfl⟩:=h
    rw [aM] at e
    refine ⟨rfl,show (0:Int) < 256 by decide,⟨by rw [aE,ej_]; omega,⟨by decide,by decide⟩,hk _ ⟨c + 1,vT (.int (0 + (k:Int))),by omega,?_⟩⟩⟩
    rw [je_,cU,jK,← Int.ediv_ediv_of_nonneg (Int.pow_nonneg (by decide))]
    rfl
  | _=>simp [Kd.Val] at An
 ·have E6:∀ Q:Bool→En→Prop,Q false [vT kd.x,vT (kd.vx vd),.v (.ol []),.un,.un,.un,.un,.un]→(xB (xOp eqX (xOp ixX (bW 0) (xC (.int 0))) (xC (.str "number")))) [vT kd.x,vT (kd.vx vd),.v (.ol []),.un,.un,.un,.un,.un] Q:=by
   cases kd with
   | num wd m=>exact absurd ⟨wd,m,rfl⟩ isnum
   | row k m=>exact fun Q q=>q
   | rcd fs=>exact fun Q q=>q
   | cho ks=>exact fun Q q=>q
  refine m7 E6 ?_
  refine hz_ (fun ρ => ∃ (st:List Int) (ps:List (Kd×Vd)) (y5:Sl),ρ=[vT kd.x,vT (kd.vx vd),.v (.ol (st.map Dx.int)),.un,.v (.ol (ps.map prB)),y5,.un,.un]∧aAw kd vd n st ps) ?_ (fun D' hD => ?_)
  ·rintro ρ ⟨st,ps,y5,rfl,e,hps⟩
   have Mj:=Kd.byt_len An
   have Au:(fP st ps).length≤100000:=by
    have:=congrArg List.length e
    rw [aC,Mj] at this
    omega
   show iJ _ _ _ (ps.map prB) _
   refine xH prB (fun rest ρ => ∃ (done:List (Kd×Vd)) (y5 y6 y7:Sl),ps=done ++ rest∧ρ=[vT kd.x,vT (kd.vx vd),.v (.ol ((fP st done).map Dx.int)),.un,vT (.lst (ps.map prB)),y5,y6,y7]) (fun ρ h => ?_) (fun kv rest ρ Kn h hk => ?_) ⟨[],y5,.un,.un,rfl,rfl⟩
   ·obtain ⟨done,y5,y6,y7,e1,rfl⟩:=h
    rw [bZ] at e1
    subst e1
    obtain ⟨b0,b1,b2,b3⟩:=kd.bd Af.ok
    have Ky:((fP st ps).map Dx.int).length=(fP st ps).length:=aE _
    refine ⟨lC,kd,rfl,Af.ok,Af.full,by omega,by decide,?_⟩
    refine ⟨⟨by omega,by omega,by show 1 * _≤_; omega⟩,?_⟩
    rw [uA]
    refine ⟨by rw [aE,aE,aL]; omega,?_⟩
    have Mv:(kd.rm.1 - (((fP st ps).map Dx.int).length:Int)).toNat=kd.rm.1.toNat - (fP st ps).length:=by rw [aE]; exact Int.toNat_sub' _ _
    rw [Mv,← cU,← e]
    exact q
   ·obtain ⟨done,y5,y6,y7,e1,rfl⟩:=h
    obtain ⟨kf,kv',kdp⟩:=hps kv (by rw [e1]; exact aK _ aB)
    have pl:((iY (fP st done) kv).length:Int)=up ((fP st done).length:Int) kv.1.rm.2 + kv.1.rm.1:=pA (nX kf kv')
    obtain ⟨g1,g2,g3⟩ : kv.1.Val kv.2∧0≤kv.1.rm.1∧1≤kv.1.rm.2:=nX kf kv'
    obtain ⟨u1,u2⟩:=jN (n:=((fP st done).length:Int)) (m:=kv.1.rm.2) (by omega)
    have C4:(iY (fP st done) kv).length≤100000:=by
     have h9:=aAt rest (iY (fP st done) kv)
     have h8:fP st ps=fP (iY (fP st done) kv) rest:=by rw [e1,c5]; rfl
     rw [h8] at Au
     omega
    have bl:(kv.1.byt kv.2).length=kv.1.rm.1.toNat:=Kd.byt_len g1
    have Ky:((fP st done).map Dx.int).length=(fP st done).length:=aE _
    refine ⟨lC,kv.1,rfl,kf.ok,kf.full,by omega,by decide,?_⟩
    refine ⟨_,_,rfl,by omega,by omega,?_⟩
    have Gm:((((fP st done).map Dx.int).length:Nat):Int)=((fP st done).length:Int):=by rw [Ky]
    refine ⟨⟨by rw [Gm]; omega,by rw [Gm]; omega,by show 1 * _≤_; rw [Gm]; omega⟩,?_⟩
    rw [uA,Gm]
    refine ⟨by rw [Ky,aE,aL]; omega,?_⟩
    refine ⟨kv.1,kv.2,rfl,kf,kv',by omega,by omega,by omega,?_⟩
    refine ⟨by rw [aC,Ky,aE,aE,aL]; omega,hk _ ⟨done ++ [kv],y5,vT kv.1.x,vT (kv.1.vx kv.2),by rw [e1,bD]; rfl,?_⟩⟩
    have Mv:(up ((fP st done).length:Int) kv.1.rm.2 - ((fP st done).length:Int)).toNat=(up ((fP st done).length:Int) kv.1.rm.2).toNat - (fP st done).length:=Int.toNat_sub' _ _
    rw [Mv,← cU,← cU,tY]
    rfl
  ·cases kd with
   | num wd m=>exact absurd ⟨wd,m,rfl⟩ isnum
   | row k m =>
    cases vd with
    | row vs =>
     have Ci:k.deep + 1≤n + 1:=Bz
     have hv:=An
     simp only [Kd.Val] at hv
     have f3:=Af.2.2
     have evx:(Kd.row k m).vx (.row vs)=.lst (vs.map k.vx):=by simp only [Kd.vx]
     rw [evx] at hD ⊢
     refine ⟨show (vs.map k.vx).length≤1000000 by rw [aE]; omega,show dX _ _ _ _ _ (vs.map k.vx) _ _ from ?_⟩
     refine b9 k.vx (fun v=>prB (k,v)) (fun v hv Ad P p=>⟨iC,p⟩) ?_
     refine hD _ ⟨[],vs.map fun v=>(k,v),.un,?_,aHf Af An (by omega)⟩
     rw [cQ]
     rfl
    | _=>simp [Kd.Val] at An
   | rcd fs =>
    cases vd with
    | rcd vs =>
     have Ci:eJ fs + 1≤n + 1:=Bz
     have hv:=An
     simp only [Kd.Val] at hv
     obtain ⟨f1,f2,f3,B6⟩:=Af
     have hl:=bz_ hv
     have evx:(Kd.rcd fs).vx (.rcd vs)=.dic (vxF fs vs):=by simp only [Kd.vx]
     rw [evx] at hD ⊢
     refine ⟨show (xF fs).length≤1000000 by rw [xE,aE]; omega,show dX _ _ _ _ _ (xF fs) _ _ from ?_⟩
     have exf:xF fs=(fs.zip vs).map fun p=>.tup [.str p.1.1,p.1.2.x]:=by
      rw [xE]
      have:fs=(fs.zip vs).map (·.1):=by rw [List.map_fst_zip (by omega)]
      conv=>lhs; rw [this]
      rw [cQ]
      rfl
     rw [exf]
     refine b9 _ (fun p:(Str×Kd)×Vd=>prB (p.1.2,p.2)) (fun p hp Ad P pp => ?_) ?_
     ·obtain ⟨i,hi⟩:=jX.mp hp
      obtain ⟨h1,h2⟩:=cJ.mp hi
      have hg:=aMq B6 hl h1 h2
      simp only [xW,cV,fM,xIf,xB,xOp,bW,jO,xC,eU,iW,dS,bL,dD,xN,jF,lA,iR,xiL,xL,aBc,ixX,dgX,iL,sA,gI,gIC,eqX,eqS,sB,gxN,gxT,gxs,mI,fY,fA,fV,ec_,eb_,pR,rM,rL,rK,rJ,rH,rG,rF,rE,rB,rA,pY,pX,pW,bK,bO,cH,cA,Sv.d,aP,bP,dJ,dC,bU,aZ,aM,aU,bH,cB,Nat.reduceAdd,Nat.reduceSub,Nat.reduceLeDiff,true_and,decide_eq_true_eq,cut,iP,back,lO,eC,if_true,↓reduceIte,dF,eI,yN,hg]
      exact pp
     ·refine hD _ ⟨[],(fs.map (·.2)).zip vs,.un,?_,aHg ⟨f1,f2,f3,B6⟩ An (by omega)⟩
      have:(fs.map (·.2)).zip vs=(fs.zip vs).map fun p=>(p.1.2,p.2):=by rw [List.zip_map_left]; rfl
      rw [this,cQ]
      rfl
    | _=>simp [Kd.Val] at An
   | cho ks =>
    cases vd with
    | cho jj v =>
     have Ci:eP ks + 1≤n + 1:=Bz
     have hv:=An
     simp only [Kd.Val] at hv
     obtain ⟨kc,Jz,hvc⟩:=ew_ hv
     obtain ⟨f1,f2,f3⟩:=id Af
     have J0:jj < ks.length:=(aF.mp Jz).1
     have evx:(Kd.cho ks).vx (.cho jj v)=.tup [.int (jj:Int),kc.vx v]:=by simp only [Kd.vx]; rw [iu_ Jz]
     rw [evx] at hD ⊢
     have Dc:(rmK ks).length=ks.length:=j_ ks
     have Bf:rmK ks≠[]:=fun z=>by rw [z] at Dc; simp at Dc; omega
     have hb:=tW (n:=5) (jp_ ks f1) (by omega) (by decide)
     have Kx:=Pw.maxL (l:=(rmK ks).map (·.2)) fun a ha=>by
      obtain ⟨r,hr,rfl⟩:=cP.mp ha
      exact jo_ ks f1 r hr
     have Ls:=Kx.pos
     obtain ⟨x0,x1⟩:=lT hb
     refine ⟨lC,?_⟩
     refine ⟨show (xK ks).length≤1000000 by rw [sE,aE]; omega,show dX _ _ _ _ _ (xK ks) _ _ from ?_⟩
     rw [sE]
     refine b9 Kd.x (fun k=>.int k.rm.2) (fun k hk Ad P p => ?_) ?_
     ·obtain ⟨kf,kdp⟩:=jA f1 hk
      exact ⟨k,rfl,kf.ok,kf.full,by omega,by decide,p⟩
     ·have erm:(ks.map fun k=>Dx.int k.rm.2)=(rmK ks).map fun r=>Dx.int r.2:=by
       have:=uQ ks
       clear hb Kx Ls x0 x1 hD Bf Dc evx Jz J0 f1 f2 f3 Ci Af An hv q C7 Bz E6 isnum
       induction ks with
       | nil=>rfl
       | cons k r ih=>simp only [aP,rmK]; rw [ih (uQ r)]
      simp only [dD,aP,bP,Sv.d,aZ,erm]
      refine vN (sel:=fun r=>r.2) (d:=1) Bf (fun r hr=>(hb r hr).2.2.1) ?_
      generalize hM:maxL 1 ((rmK ks).map fun r=>r.2)=M at *
      refine ⟨lC,_,_,rfl,by decide,by omega,?_⟩
      rw [eo_ Ls]
      refine ⟨⟨by omega,by omega,by show 1 * _≤_; omega⟩,?_⟩
      rw [uA]
      refine ⟨by rw [aE,aL]; show 1 + _≤_; omega,?_⟩
      have Gi:(xK ks)[jj]? = some kc.x:=by rw [sE,bG,Jz]; rfl
      have Hb:=em_ Gi
      simp only [cV,fM,xIf,xB,xOp,bW,jO,xC,eU,iW,dS,bL,dD,xN,jF,lA,iR,xiL,xL,aBc,ixX,dgX,iL,sA,gI,gIC,eqX,eqS,sB,gxN,gxT,gxs,mI,fY,fA,fV,ec_,eb_,pR,rM,rL,rK,rJ,rH,rG,rF,rE,rB,rA,pY,pX,pW,bK,bO,cH,cA,Sv.d,aP,bP,dJ,dC,bU,aZ,aM,aU,bH,cB,Nat.reduceAdd,Nat.reduceSub,Nat.reduceLeDiff,true_and,decide_eq_true_eq,cut,iP,back,lO,eC,if_true,↓reduceIte,dF,eI,Kd.x,Hb]
      have hl:=aHh Af Jz hvc (n:=n) (by omega)
      rw [hM] at hl
      refine hD _ ⟨_,_,vT (.int M),?_,hl⟩
      rw [show (M - 1).toNat=M.toNat - 1 from Int.toNat_sub' M 1]
      rfl
    | _=>simp [Kd.Val] at An
theorem aGy:FnOk P w K mg base CX0 j f fd AE (spX (gLY 0)):=qH fun ds Q h=>by
 obtain ⟨kd,_,_,_,_,hd,_⟩:=h
 have:=Kd.deep_pos kd
 omega
end
mutual
def Kd.isv:Kd→Vd→Dx→Prop
 | .num _ _,.num n,d=>d=.int n
 | .row k _,.row vs,d => ∃ ds,d=.lst ds∧All2 k.isv vs ds
 | .rcd fs,.rcd vs,d => ∃ kvs,d=.dic kvs∧kvs.length=fs.length∧(∀ kv∈kvs,∃ x,kv.1=Sum.inr x)∧yQ fs vs kvs
 | .cho ks,.cho j x,d => ∃ u,d=.tup [.int (j:Int),u]∧vW ks j x u
 | _,_,_=>False
def yQ:List (Str×Kd)→List Vd→List (Key×Dx)→Prop
 | [],[],_=>True
 | f :: r,v :: vs,kvs=>(∃ x,lD kvs (Sum.inr f.1)=some x∧f.2.isv v x)∧yQ r vs kvs
 | _,_,_=>False
def vW:List Kd→Nat→Vd→Dx→Prop
 | [],_,_,_=>False
 | k :: _,0,v,u=>k.isv v u
 | _ :: r,j + 1,v,u=>vW r j v u
end
theorem yP:∀ {fs:List (Str×Kd)} {vs:List Vd} {kvs:List (Key×Dx)} {p:(Str×Kd)×Vd},yQ fs vs kvs→p∈fs.zip vs→∃ x,lD kvs (Sum.inr p.1.1)=some x∧p.1.2.isv p.2 x
 | [],_,_,_,_,h=>by simp at h
 | _ :: _,[],_,_,h,_=>by simp [yQ] at h
 | f :: r,v :: vs,kvs,p,h,hm=>by
  simp only [yQ] at h
  rw [cG] at hm
  rcases aI.mp hm with rfl | hm
  ·exact h.1
  ·exact yP h.2 hm
theorem x9:∀ {ks:List Kd} {j:Nat} {v:Vd} {u:Dx},vW ks j v u→∃ k,ks[j]? = some k∧k.isv v u
 | [],_,_,_,h=>by simp [vW] at h
 | k :: _,0,v,u,h=>by simp only [vW] at h; exact ⟨k,rfl,h⟩
 | _ :: r,j + 1,v,u,h=>by simp only [vW] at h; obtain ⟨k,e,hk⟩:=x9 h; exact ⟨k,by simpa using e,hk⟩
theorem xS:∀ {fs:List (Str×Kd)} {vs:List Vd} {p:(Str×Kd)×Vd},okF fs→fD fs vs→p∈fs.zip vs→p.1.2.Ok∧p.1.2.Val p.2∧p.1.2.deep≤eJ fs
 | [],_,_,_,_,h=>by simp at h
 | _ :: _,[],_,_,h,_=>by simp [fD] at h
 | f :: r,v :: vs,p,ho,h,hm=>by
  simp only [fD] at h
  rw [cG] at hm
  rcases aI.mp hm with rfl | hm
  ·exact ⟨ho.1,h.1,eQ _ _⟩
  ·obtain ⟨a,b,c⟩:=xS ho.2 h.2 hm
   exact ⟨a,b,nzL c (eK _ _)⟩
theorem aEj {ks:List Kd} {j:Nat} {v:Vd} {k:Kd} (h:kP ks j v) (e:ks[j]? = some k):k.Val v:=by
 obtain ⟨k',e',h'⟩:=ew_ h
 rw [e] at e'
 cases e'
 exact h'
theorem c7 {α β:Type} {g:α→β→Prop}:∀ {l:List α} {m:List β},All2 g l m→∀ p∈l.zip m,g p.1 p.2
 | [],_,_,p,h=>by simp at h
 | a :: l,_,⟨b,r,e,h1,h2⟩,p,h=>by
  subst e
  rw [cG] at h
  rcases aI.mp h with rfl | h
  ·exact h1
  ·exact c7 h2 p h
theorem uE:∀ {fs:List (Str×Kd)} {vs:List Vd},vxF fs vs=(fs.zip vs).map fun p=>(Sum.inr p.1.1,p.1.2.vx p.2)
 | [],_=>by simp [vxF]
 | _ :: _,[]=>by simp [vxF]
 | g :: r,u :: vs=>by simp only [vxF,cG,aP]; rw [uE]
theorem x_:∀ {fs:List (Str×Kd)} {vs:List Vd} {kvs:List (Key×Dx)},vs.length=fs.length→(∀ p∈fs.zip vs,∃ x,lD kvs (Sum.inr p.1.1)=some x∧p.1.2.isv p.2 x)→yQ fs vs kvs
 | [],[],_,_,_=>by simp only [yQ]
 | [],_ :: _,_,h,_=>by simp at h
 | _ :: _,[],_,h,_=>by simp at h
 | f :: r,v :: vs,kvs,hl,h=>by
  simp only [yQ]
  exact ⟨h (f,v) (by rw [cG]; exact aB),x_ (by simpa using hl) fun p hp=>h p (by rw [cG]; exact aD _ hp)⟩
theorem x8 {v:Vd} {u:Dx}:∀ {ks:List Kd} {j:Nat} {k:Kd},ks[j]? = some k→k.isv v u→vW ks j v u
 | [],_,_,e,_=>by simp at e
 | k' :: r,0,k,e,h=>by simp at e; subst e; simp only [vW]; exact h
 | k' :: r,j + 1,k,e,h=>by simp only [vW]; exact x8 (j:=j) (by simpa using e) h
theorem c8 {α:Type} {g:α→Dx→Prop} {φ:α→Dx}:∀ {l:List α},(∀ a∈l,g a (φ a))→All2 g l (l.map φ)
 | [],_=>rfl
 | a :: l,h=>⟨_,_,rfl,h a aB,c8 fun b hb=>h b (aD _ hb)⟩
theorem aAy {fs:List (Str×Kd)} {vs:List Vd} (Cv:vs.length=fs.length) (B6:(fs.map (·.1)).Nodup):((fs.zip vs).map fun p=>p.1.1).Nodup:=by
 have:((fs.zip vs).map fun p=>p.1.1)=fs.map (·.1):=by
  have e:fs.map (·.1)=((fs.zip vs).map (·.1)).map (·.1):=by rw [List.map_fst_zip (by omega)]
  rw [e,cQ]
  rfl
 rw [this]
 exact B6
theorem aIa {L:List ((Str×Kd)×Vd)} {φ:(Str×Kd)×Vd→Dx} (hn:(L.map fun p=>p.1.1).Nodup) {p:(Str×Kd)×Vd} (hp:p∈L):lD (L.map fun p=>((Sum.inr p.1.1,φ p):Key×Dx)) (Sum.inr p.1.1)=some (φ p):=by
 refine hn_ (p:=(Sum.inr p.1.1,φ p)) ?_ (dE (f:=fun p=>((Sum.inr p.1.1,φ p):Key×Dx)) hp)
 rw [cQ]
 have:(L.map ((fun x:Key×Dx=>x.1) ∘ fun p=>((Sum.inr p.1.1,φ p):Key×Dx)))=(L.map fun p=>p.1.1).map (fun x:Str=>(Sum.inr x:Key)):=by rw [cQ]; rfl
 rw [this]
 exact List.Pairwise.map _ (fun a b h e=>h (Sum.inr.inj e)) hn
mutual
theorem vV:∀ (kd:Kd) (vd:Vd),kd.Fit→kd.Val vd→kd.isv vd (kd.vx vd)
 | .num w m,vd,hf,hv=>by
  cases vd with
  | num i=>simp only [Kd.isv,Kd.vx]
  | _=>simp [Kd.Val] at hv
 | .row k m,vd,hf,hv=>by
  cases vd with
  | row vs =>
   simp only [Kd.Val] at hv
   simp only [Kd.isv,Kd.vx]
   exact ⟨_,rfl,c8 fun v h=>vV k v hf.1 (hv.2 v h)⟩
  | _=>simp [Kd.Val] at hv
 | .rcd fs,vd,hf,hv=>by
  cases vd with
  | rcd vs =>
   simp only [Kd.Val] at hv
   obtain ⟨f1,f2,f3,B6⟩:=hf
   have Cv:=bz_ hv
   have hz:=x6 fs vs f1 hv
   simp only [Kd.isv,Kd.vx]
   rw [uE]
   refine ⟨_,rfl,by rw [aE,cM]; omega,fun kv h => ?_,x_ Cv fun p hp=>⟨_,aIa (φ:=fun p=>p.1.2.vx p.2) (aAy Cv B6) hp,hz p hp⟩⟩
   obtain ⟨p,_,rfl⟩:=cP.mp h
   exact ⟨_,rfl⟩
  | _=>simp [Kd.Val] at hv
 | .cho ks,vd,hf,hv=>by
  cases vd with
  | cho jj v =>
   simp only [Kd.Val] at hv
   obtain ⟨k,hk,Fg⟩:=ew_ hv
   simp only [Kd.isv,Kd.vx]
   exact ⟨_,rfl,x8 hk (by rw [iu_ hk]; exact x5 ks hf.1 k (aJ hk) v Fg)⟩
  | _=>simp [Kd.Val] at hv
theorem x6:∀ (fs:List (Str×Kd)) (vs:List Vd),lL fs→fD fs vs→∀ p∈fs.zip vs,p.1.2.isv p.2 (p.1.2.vx p.2)
 | [],_,_,_,p,h=>by simp at h
 | _ :: _,[],_,h,_,_=>by simp [fD] at h
 | f :: r,v :: vs,hf,hv,p,h=>by
  simp only [fD] at hv
  rw [cG] at h
  rcases aI.mp h with rfl | h
  ·exact vV f.2 v hf.1.2 hv.1
  ·exact x6 r vs hf.2 hv.2 p h
theorem x5:∀ (ks:List Kd),mP ks→∀ k∈ks,∀ v,k.Val v→k.isv v (k.vx v)
 | [],_,k,h,_,_=>by simp at h
 | k' :: r,hf,k,h,v,hv=>by
  by_cases e:k=k'
  ·rw [e] at hv ⊢; exact vV k' v hf.1 hv
  ·exact x5 r hf.2 k ((aI.mp h).resolve_left e) v hv
end
theorem mF:∀ {l:List Dx},(∀ d∈l,d.Sz)→szX l
 | [],_=>trivial
 | d :: r,h=>⟨h d aB,mF fun e he=>h e (aD _ he)⟩
theorem s_:∀ {l:List (Key×Dx)},(∀ p∈l,p.2.Sz)→aEu l
 | [],_=>trivial
 | d :: r,h=>⟨h d aB,s_ fun e he=>h e (aD _ he)⟩
theorem fc_ {n:Nat}:∀ {l:List Dx},(∀ d∈l,d.deep≤n)→jC l≤n
 | [],_=>cK _
 | d :: r,h=>Nat.max_le.mpr ⟨h d aB,fc_ fun e he=>h e (aD _ he)⟩
theorem tK {n:Nat}:∀ {l:List (Key×Dx)},(∀ p∈l,p.2.deep≤n)→qN l≤n
 | [],_=>cK _
 | d :: r,h=>Nat.max_le.mpr ⟨h d aB,tK fun e he=>h e (aD _ he)⟩
mutual
theorem Kd.x_sz:∀ (k:Kd),k.Fit→k.x.Sz∧k.x.deep≤3 * k.deep + 2
 | .num w m,h=>by
  simp only [Kd.x,Dx.Sz,szX,Dx.deep,jC,Kd.deep,aM,aU]
  exact ⟨⟨by omega,trivial,trivial,trivial,trivial⟩,by decide⟩
 | .row k m,h=>by
  obtain ⟨a,b⟩:=Kd.x_sz k h.1
  simp only [Kd.x,Dx.Sz,szX,Dx.deep,jC,Kd.deep,aM,aU]
  exact ⟨⟨by omega,trivial,a,trivial,trivial⟩,by omega⟩
 | .rcd fs,h=>by
  have z:=aNy fs h.1
  have hl:=h.2.2.1
  have e:jC (xF fs)≤3 * eJ fs + 3:=fc_ fun d hd=>(z d hd).2
  simp only [Kd.x,Dx.Sz,szX,Dx.deep,jC,Kd.deep,aM,aU]
  exact ⟨⟨by omega,trivial,⟨by rw [xE,aE]; omega,mF fun d hd=>(z d hd).1⟩,trivial⟩,by omega⟩
 | .cho ks,h=>by
  have z:=aNw ks h.1
  have hl:=h.2.2
  have e:jC (xK ks)≤3 * eP ks + 2:=fc_ fun d hd=>(z d hd).2
  simp only [Kd.x,Dx.Sz,szX,Dx.deep,jC,Kd.deep,aM,aU]
  exact ⟨⟨by omega,trivial,⟨by rw [sE,aE]; omega,mF fun d hd=>(z d hd).1⟩,trivial⟩,by omega⟩
theorem aNy:∀ (fs:List (Str×Kd)),lL fs→∀ d∈xF fs,d.Sz∧d.deep≤3 * eJ fs + 3
 | [],_,d,hd=>by simp [xF] at hd
 | f :: r,h,d,hd=>by
  obtain ⟨a,b⟩:=Kd.x_sz f.2 h.1.2
  simp only [xF] at hd
  have e:eJ (f :: r)=max f.2.deep (eJ r):=rfl
  rcases aI.mp hd with rfl | hd
  ·simp only [Dx.Sz,szX,Dx.deep,jC,aM,aU]
   exact ⟨⟨by omega,trivial,a,trivial⟩,by omega⟩
  ·obtain ⟨a',b'⟩:=aNy r h.2 d hd
   exact ⟨a',by omega⟩
theorem aNw:∀ (ks:List Kd),mP ks→∀ d∈xK ks,d.Sz∧d.deep≤3 * eP ks + 2
 | [],_,d,hd=>by simp [xK] at hd
 | k :: r,h,d,hd=>by
  obtain ⟨a,b⟩:=Kd.x_sz k h.1
  simp only [xK] at hd
  have e:eP (k :: r)=max k.deep (eP r):=rfl
  rcases aI.mp hd with rfl | hd
  ·exact ⟨a,by omega⟩
  ·obtain ⟨a',b'⟩:=aNw r h.2 d hd
   exact ⟨a',by omega⟩
end
mutual
theorem Kd.vx_sz:∀ (kd:Kd) (vd:Vd),kd.Fit→kd.Val vd→(kd.vx vd).Sz∧(kd.vx vd).deep≤kd.deep
 | .num w m,vd,hf,hv=>by
  cases vd with
  | num i=>simp only [Kd.vx,Dx.Sz,Dx.deep,Kd.deep]; exact ⟨trivial,by omega⟩
  | _=>simp [Kd.Val] at hv
 | .row k m,vd,hf,hv=>by
  cases vd with
  | row vs =>
   simp only [Kd.Val] at hv
   have f3:=hf.2.2
   have z:∀ d∈vs.map k.vx,d.Sz∧d.deep≤k.deep:=fun d hd=>by
    obtain ⟨v,hm,rfl⟩:=cP.mp hd
    exact Kd.vx_sz k v hf.1 (hv.2 v hm)
   simp only [Kd.vx,Dx.Sz,Dx.deep,Kd.deep]
   have:=fc_ fun d hd=>(z d hd).2
   exact ⟨⟨by rw [aE]; omega,mF fun d hd=>(z d hd).1⟩,by omega⟩
  | _=>simp [Kd.Val] at hv
 | .rcd fs,vd,hf,hv=>by
  cases vd with
  | rcd vs =>
   simp only [Kd.Val] at hv
   obtain ⟨f1,f2,f3,B6⟩:=hf
   have Cv:=bz_ hv
   have z:=aEf fs vs f1 hv
   simp only [Kd.vx,Dx.Sz,Dx.deep,Kd.deep]
   have hk:=ev_ Cv
   have Aj:(vxF fs vs).length=fs.length:=by have:=congrArg List.length hk; simpa using this
   have:=tK fun d hd=>(z d hd).2
   refine ⟨⟨by omega,?_,s_ fun d hd=>(z d hd).1⟩,by omega⟩
   rw [hk]
   have e:(fs.map fun f=>(Sum.inr f.1:Key))=(fs.map (·.1)).map (fun x:Str=>(Sum.inr x:Key)):=by rw [cQ]; rfl
   rw [e]
   exact List.Pairwise.map _ (fun a b h e=>h (Sum.inr.inj e)) B6
  | _=>simp [Kd.Val] at hv
 | .cho ks,vd,hf,hv=>by
  cases vd with
  | cho jj v =>
   simp only [Kd.Val] at hv
   obtain ⟨k,hk,Fg⟩:=ew_ hv
   obtain ⟨a,b⟩:=aEe ks hf.1 k (aJ hk) v Fg
   simp only [Kd.vx,Dx.Sz,Dx.deep,Kd.deep,szX,jC,aM,aU]
   rw [iu_ hk]
   have:=Kd.deep_pos k
   have C4:=(jA hf.1 (aJ hk)).2
   exact ⟨⟨by omega,trivial,a,trivial⟩,by omega⟩
  | _=>simp [Kd.Val] at hv
theorem aEf:∀ (fs:List (Str×Kd)) (vs:List Vd),lL fs→fD fs vs→∀ p∈vxF fs vs,p.2.Sz∧p.2.deep≤eJ fs
 | [],_,_,_,p,h=>by simp [vxF] at h
 | _ :: _,[],_,h,_,_=>by simp [fD] at h
 | f :: r,v :: vs,hf,hv,p,h=>by
  simp only [fD] at hv
  simp only [vxF] at h
  have e:eJ (f :: r)=max f.2.deep (eJ r):=rfl
  rcases aI.mp h with rfl | h
  ·obtain ⟨a,b⟩:=Kd.vx_sz f.2 v hf.1.2 hv.1
   exact ⟨a,nzL b (by omega)⟩
  ·obtain ⟨a,b⟩:=aEf r vs hf.2 hv.2 p h
   exact ⟨a,by omega⟩
theorem aEe:∀ (ks:List Kd),mP ks→∀ k∈ks,∀ v,k.Val v→(k.vx v).Sz∧(k.vx v).deep≤k.deep
 | [],_,k,h,_,_=>by simp at h
 | k' :: r,hf,k,h,v,hv=>by
  by_cases e:k=k'
  ·rw [e] at hv ⊢; exact Kd.vx_sz k' v hf.1 hv
  ·exact aEe r hf.2 k ((aI.mp h).resolve_left e) v hv
end
theorem fu_:∀ {rs:List (Int×Int)} {e:Int} {i:Nat} {r:Int×Int} {p:Int},Rms rs→rs[i]? = some r→(dW e rs)[i]? = some p→p + r.1≤dB e rs∧e≤p
 | [],_,_,_,_,_,h,_=>by simp at h
 | s :: rs,e,0,r,p,hR,h,hp=>by
  simp at h
  subst h
  have Fi:up e s.2=p:=by have:(up e s.2 :: dW (up e s.2 + s.1) rs)[0]? = some p:=hp; simpa using this
  obtain ⟨a,b⟩:=hR s aB
  have g:=dw_ (rs:=rs) (e:=up e s.2 + s.1) fun x hx=>hR x (aD _ hx)
  have u:=(jN (n:=e) b).1
  show p + s.1≤dB (up e s.2 + s.1) rs∧_
  omega
 | s :: rs,e,i + 1,r,p,hR,h,hp=>by
  obtain ⟨a,b⟩:=hR s aB
  have Fi:(dW (up e s.2 + s.1) rs)[i]? = some p:=by have:(up e s.2 :: dW (up e s.2 + s.1) rs)[i + 1]? = some p:=hp; simpa using this
  obtain ⟨x,y⟩:=fu_ (rs:=rs) (i:=i) (fun x hx=>hR x (aD _ hx)) (by simpa using h) Fi
  have u:=(jN (n:=e) b).1
  exact ⟨x,by omega⟩
theorem jj_ (g:Vd→List Int) (step:Nat):∀ (vs:List Vd) (v:Vd) (j:Nat) (l:List Int),fZ g step j (vs ++ [v]) l=lay (fZ g step j vs l) ((j + vs.length) * step) (g v)
 | [],v,j,l=>by simp [fZ]
 | u :: vs,v,j,l=>by
  show fZ g step (j + 1) (vs ++ [v]) _=lay (fZ g step (j + 1) vs _) _ _
  rw [jj_ g step vs v (j + 1),aM,show j + 1 + vs.length=j + (vs.length + 1) by omega]
theorem tN:∀ {ps:List Int} {fs:List (Str×Kd)} {vs:List Vd} {p:Int} {f:Str×Kd} {v:Vd} {l:List Int},ps.length=fs.length→vs.length=fs.length→gS (ps ++ [p]) (fs ++ [f]) (vs ++ [v]) l=lay (gS ps fs vs l) p.toNat (f.2.byt v)
 | [],[],[],_,_,_,_,_,_=>by simp [gS]
 | q :: ps,g :: fs,u :: vs,p,f,v,l,h,h'=>by
  show gS (ps ++ [p]) (fs ++ [f]) (vs ++ [v]) _=lay (gS ps fs vs _) _ _
  exact tN (by simpa using h) (by simpa using h')
 | [],_ :: _,_,_,_,_,_,h,_=>by simp at h
 | _ :: _,[],_,_,_,_,_,h,_=>by simp at h
 | _,[],_ :: _,_,_,_,_,_,h=>by simp at h
 | _,_ :: _,[],_,_,_,_,_,h=>by simp at h
theorem w_ {n:Nat} {k:Int} (h0:0≤k) (h1:k < n):ixN n k=some k.toNat:=by
 unfold ixN
 rw [if_pos h0,if_pos h1]
theorem cw_ {α:Type} {l:List α} {i:Nat} {a:α} {as:List α} (h:a :: as=l.drop i):l[i]? = some a∧as=l.drop (i + 1):=by
 have h1:(l.drop i)[0]? = some a:=by rw [← h]; rfl
 rw [List.getElem?_drop,Nat.add_zero] at h1
 refine ⟨h1,?_⟩
 have h2:(l.drop i).tail=as:=by rw [← h]; rfl
 rw [List.tail_drop] at h2
 exact h2.symm
theorem zE {α:Type} (f:α→Dx) (l:List α):zG (l.map f)=((List.range l.length).zip l).map fun p=>.tup [.int (0 + (p.1:Int)),f p.2]:=by
 unfold zG rZ
 rw [aE,do_]
theorem u3 {α:Type} {l:List α} {i:Nat} {p:Nat×α} (h:((List.range l.length).zip l)[i]? = some p):p.1=i∧l[i]? = some p.2:=by
 obtain ⟨h1,h2⟩:=cJ.mp h
 have hi:=(aF.mp h2).1
 rw [List.getElem?_range hi] at h1
 exact ⟨by simpa using h1.symm,h2⟩
theorem cv_ {α:Type} {l:List α} {i:Nat} {x:α} (h:l[i]? = some x):l.take (i + 1)=l.take i ++ [x]:=by
 rw [List.take_succ,h]; rfl
def gNB:GC:=fun ds Q => ∃ w n:Int,ds=[.int w,.int n]∧0≤w∧w≤100∧Q (.ol ((iZ w.toNat n).map Dx.int))
def aXx:GB:=fun l ds Q => ∃ (xs ys:List Int) (p:Int),l=xs.map Dx.int∧ds=[.int p,.lst (ys.map Dx.int)]∧0≤p∧p + (ys.length:Int)≤(xs.length:Int)∧xs.length≤100000∧Q .non ((lay xs p.toNat ys).map Dx.int)
def gLB (n:Nat):GC:=fun ds Q => ∃ (kd:Kd) (vd:Vd) (d:Dx),ds=[kd.x,d]∧kd.isv vd d∧kd.Fit∧kd.Val vd∧kd.deep≤n∧n≤12∧kd.rm.1≤100000∧Q (.ol ((kd.byt vd).map Dx.int))
section
variable {f:Addr} {n j jR jP:Nat}
theorem aRo (F:Fun K "number_bytes" "number_bytes" dh_ f fd) (Ah:∃ t,mg "HOW_MANY_BYTES" = some (.int 256 t)) (m_range:mg "range" = none):FnOk P w K mg base CX0 1 f fd ["w","value"] (spX gNB):=by
 refine lU F gC (fun ds Q h=>by obtain ⟨_,_,rfl,_⟩:=h; rfl) (by decide) fun Ak A outer s H E hr => ?_
 refine ⟨_,(dO (eS (i:=2) gC.nd rfl (Or.inl rfl) (jH bX))
  (dO (eS (i:=3) gC.nd rfl (Or.inl rfl) (bE (pv 1)))
  (dO (wM PassesOwn.never rfl (cg_ m_range (bF (bE (pv 0)) bX)) (gG (i:=4) gC.nd rfl (Or.inl rfl)) (kJ (n:=99) (i:=4) (by decide)) (dO (qL fun F=>PS.weak (gd_ (pE PySem.F.plainAttrs_list PySem.F.slot_list_append PySem.F.type_list_append es_ (pv 2) (lZ (XE.at (Ex:=dU) F (ht_ (bE (pv 3)) (nJ (by rfl) Ah))) zM))) mE)
  (eF (eS (i:=3) gC.nd rfl (Or.inl rfl) (ir_ (bE (pv 3)) (nJ (by rfl) Ah))))))
  (eF (gD (tQ (pv 2))))))),fun ds Q h => ?_⟩
 obtain ⟨w,i,rfl,h0,h1,q⟩:=h
 refine ⟨cK _,⟨by omega,by omega⟩,?_⟩
 refine xH (fun k:Nat=>Dx.int (0 + (k:Int))) (fun rest ρ => ∃ (c:Nat) (y:Sl),c + rest.length=w.toNat∧ρ=[vT (.int w),vT (.int i),.v (.ol ((iZ c i).map Dx.int)),vT (.int (i / 256 ^ c)),y]) (fun ρ h => ?_) (fun k rest ρ Kn h hk => ?_) ⟨0,.un,by rw [bR]; simp,by simp only [iZ,Int.pow_zero,Int.ediv_one]; rfl⟩
 ·obtain ⟨c,y,e,rfl⟩:=h
  rw [aU,Nat.add_zero] at e
  subst e
  exact q
 ·obtain ⟨c,y,e,rfl⟩:=h
  rw [aM] at e
  refine ⟨rfl,show (0:Int) < 256 by decide,⟨by rw [aE,ej_]; omega,⟨by decide,by decide⟩,hk _ ⟨c + 1,vT (.int (0 + (k:Int))),by omega,?_⟩⟩⟩
  rw [je_,cU,jK,← Int.ediv_ediv_of_nonneg (Int.pow_nonneg (by decide))]
  rfl
theorem aLm (F:Fun K "lay" "lay" u0 f fd) (Al:mg "enumerate" = none):FnOk P w K mg base CX0 1 f fd AY (spB aXx):=by
 refine aCm F h_ (fun l ds Q h=>by obtain ⟨_,_,_,_,rfl,_⟩:=h; rfl) (by decide) fun Ak A outer s H E hr => ?_
 refine ⟨_,(eF (wM PassesOwn.never rfl (p9 Al (bF (bE (pv 2)) bX)) (gq_ rfl (jY (gG (i:=3) h_.nd rfl (Or.inl rfl)) (jY (gG (i:=4) h_.nd rfl (Or.inl rfl)) tM))) (fe_ (n:=99) (is:=[3,4]) rfl (by decide)) (eF (qL fun F=>PS.weak (hu_ (XE.at (Ex:=dU) F (bE (pv 4))) (mK (pv 0) (XE.at (Ex:=dU) F (iD (bE (pv 1)) (bE (pv 3)))) fq_)) hf_)))),fun l ds Q h => ?_⟩
 obtain ⟨xs,ys,p,rfl,rfl,h0,h1,h2,q⟩:=h
 show iJ _ _ _ (zG (ys.map Dx.int)) _
 rw [zE]
 refine xH _ (fun rest ρ => ∃ (i:Nat) (y3 y4:Sl),rest=((List.range ys.length).zip ys).drop i∧i≤ys.length∧ρ=[.bw ((lay xs p.toNat (ys.take i)).map Dx.int),vT (.int p),vT (.lst (ys.map Dx.int)),y3,y4]) (fun ρ h => ?_) (fun a rest ρ Kn h hk => ?_) ⟨0,.un,.un,rfl,cK _,by rw [List.take_zero,aMb]; rfl⟩
 ·obtain ⟨i,y3,y4,e,hi,rfl⟩:=h
  have hz:((List.range ys.length).zip ys).length=ys.length:=by rw [cM,bR]; omega
  have Fk:=gK.mp e.symm
  rw [hz] at Fk
  have:i=ys.length:=by omega
  subst this
  rw [List.take_length]
  exact q
 ·obtain ⟨i,y3,y4,e,hi,rfl⟩:=h
  obtain ⟨e1,e2⟩:=cw_ e
  obtain ⟨e3,e4⟩:=u3 e1
  have Bw:=(aF.mp e4).1
  have Aj:((lay xs p.toNat (ys.take i)).map Dx.int).length=xs.length:=by rw [aE,el_]
  have Cr:(ys.take i).length=i:=by rw [bT]; omega
  have Gq:ixN ((lay xs p.toNat (ys.take i)).map Dx.int).length (p + (0 + (a.1:Int)))=some (p.toNat + i):=by
   rw [w_ (by omega) (by rw [Aj]; omega)]
   congr 1
   omega
  have Ba:=hk [.bw ((lay xs p.toNat (ys.take (i + 1))).map Dx.int),vT (.int p),vT (.lst (ys.map Dx.int)),vT (.int (0 + (a.1:Int))),vT (.int a.2)] ⟨i + 1,_,_,e2,Bw,rfl⟩
  rw [cv_ e4,aHc (by rw [Cr]; omega),Cr,List.map_set] at Ba
  simp only [cV,fM,xOp,bW,iW,bL,dD,lA,sJ,iL,gxT,gxs,mI,fY,fA,fV,ec_,eb_,pR,rM,rL,rK,rJ,rH,rG,rF,rE,rB,rA,pY,pX,pW,bK,bO,cH,cA,Sv.d,aP,bP,dJ,dC,bU,aZ,aM,aU,bH,cB,Nat.reduceAdd,Nat.reduceSub,Nat.reduceLeDiff,true_and,decide_eq_true_eq,cut,iP,back,eC,if_true,↓reduceIte,dF,eI,Gq]
  exact Ba
end
section
variable {f:Addr} {n j jR jP jI:Nat}
theorem aRt (F:Fun K "laid_bytes" "laid_bytes" ei_ f fd) (CNB:Cal P w K mg base 1 "number_bytes" ["w","value"] (spX gNB)) (Fe:Cal P w K mg base jR "room_of" AG (spX (gRO (n + 1)))) (Kh:Cal P w K mg base 2 "step_of" BD (spX gSO)) (M1:Cal P w K mg base jP "places_in_order" BF (spX (gPO n))) (Kk:Cal P w K mg base 2 "chosen_at" BE (spX gCA)) (Ic:Cal P w K mg base 1 "lay" AY (spB aXx)) (Kj:Cal P w K mg base j "laid_bytes" AE (spX (gLB n))) (m_zip:mg "zip" = none) (Al:mg "enumerate" = none) (hR:jR≤j) (hP:jP≤j) (h2j:2≤j) :
  FnOk P w K mg base CX0 (j + 1) f fd AE (spX (gLB (n + 1))):=by
 refine lU F fL (fun ds Q h=>by obtain ⟨_,_,_,rfl,_⟩:=h; rfl) (by decide) fun Ak A outer s H E hr => ?_
 have As:=qK hr
 have Am:=bV As
 refine ⟨_,(dO (iE (iM (kO K Am) kL (fC K (pv 0)) lI (bY _)) (eF (gD (fW CNB (hr.mono (by omega)) (bF (fC K (pv 0)) (bF (bE (pv 1)) bX))))) jE)
  (dO (eS (i:=2) fL.nd rfl (Or.inl rfl) (qT (jH (bF dH bX)) (jZ K (fW Fe (hr.mono (by omega)) (bF (bE (pv 0)) bX)) dH (fun _ _=>rfl))))
  (dO (iE (iM (kO K Am) kL (fC K (pv 0)) lI (bY _)) (dO (eS (i:=3) fL.nd rfl (Or.inl rfl) (fW Kh (hr.mono (by omega)) (bF (fW Fe (hr.mono (by omega)) (bF (fC K (pv 0)) bX)) bX)))
  (eF (wM PassesOwn.never rfl (p9 Al (bF (bE (pv 1)) bX)) (gq_ rfl (jY (gG (i:=4) fL.nd rfl (Or.inl rfl)) (jY (gG (i:=5) fL.nd rfl (Or.inl rfl)) tM))) (fe_ (n:=99) (is:=[4,5]) rfl (by decide)) (eF (uB (iQ (i:=2) Ic (hr.mono (by omega)) (pv 2) (bF (qT (bE (pv 4)) (bE (pv 3))) (bF (fW Kj (hr.mono (by omega)) (bF (fC K (pv 0)) (bF (bE (pv 5)) bX))) bX)))))))) (eF (iE (iM (kO K Am) kL (fC K (pv 0)) lI (bY _)) (eF (wM PassesOwn.never rfl (oK m_zip (bF (fC K (pv 0)) (bF (fW M1 (hr.mono (by omega)) (bF (fC K (pv 0)) bX)) bX))) (gq_ rfl (jY (gG (i:=6) fL.nd rfl (Or.inl rfl)) (jY (gG (i:=7) fL.nd rfl (Or.inl rfl)) tM))) (fe_ (n:=99) (is:=[6,7]) rfl (by decide)) (eF (uB (iQ (i:=2) Ic (hr.mono (by omega)) (pv 2) (bF (fC K (pv 7)) (bF (fW Kj (hr.mono (by omega)) (bF (fC K (pv 6)) (bF (it_ As (bE (pv 1)) (fC K (pv 6)) (fun _ _=>rfl)) bX))) bX))))))) (dO (qL fun F=>PS.weak (hu_ (XE.at (Ex:=dU) F (fC K (pv 1))) (mK (pv 2) (XE.at (Ex:=dU) F dH) fq_)) hf_)
  (eF (uB (iQ (i:=2) Ic (hr.mono (by omega)) (pv 2) (bF (fW Kk (hr.mono (by omega)) (bF (jZ K (fW Fe (hr.mono (by omega)) (bF (bE (pv 0)) bX)) dH (fun _ _=>rfl)) bX)) (bF (fW Kj (hr.mono (by omega)) (bF (jZ K (fC K (pv 0)) (fC K (pv 1)) (fun _ _=>rfl)) (bF (fC K (pv 1)) bX))) bX)))))))))
  (eF (gD (tQ (pv 2))))))),fun ds Q h => ?_⟩
 clear Am As hR hP h2j
 obtain ⟨kd,vd,d,rfl,hi,Af,An,Bz,hn,C7,q⟩:=h
 change cV _ _ [vT kd.x,vT d,.un,.un,.un,.un,.un,.un] _
 by_cases isnum:∃ wd m,kd=.num wd m
 ·obtain ⟨wd,m,rfl⟩:=isnum
  cases vd with
  | num i =>
   obtain ⟨a1,a2,_⟩:=Af
   simp only [Kd.isv] at hi
   subst hi
   simp only [Kd.byt] at q
   exact ⟨wd,i,rfl,by omega,by omega,q⟩
  | _=>simp [Kd.Val] at An
 ·have E6:∀ Q:Bool→En→Prop,Q false [vT kd.x,vT d,.un,.un,.un,.un,.un,.un]→(xB (xOp eqX (xOp ixX (bW 0) (xC (.int 0))) (xC (.str "number")))) [vT kd.x,vT d,.un,.un,.un,.un,.un,.un] Q:=by
   cases kd with
   | num wd m=>exact absurd ⟨wd,m,rfl⟩ isnum
   | row k m=>exact fun Q q=>q
   | rcd fs=>exact fun Q q=>q
   | cho ks=>exact fun Q q=>q
  refine m7 E6 ?_
  obtain ⟨b0,b1,b2,b3⟩:=kd.bd Af.ok
  refine ⟨lC,kd,rfl,Af.ok,Bz,hn,⟨by omega,by omega,by show 1 * _≤_; omega⟩,?_⟩
  rw [uA]
  dsimp only
  change cV _ _ [vT kd.x,vT d,.v (.ol ((List.replicate kd.rm.1.toNat (0:Int)).map Dx.int)),.un,.un,.un,.un,.un] _
  refine hz_ (fun ρ => ∃ y3 y4 y5 y6 y7,ρ=[vT kd.x,vT d,.v (.ol ((kd.byt vd).map Dx.int)),y3,y4,y5,y6,y7]) ?_ (fun D' hD => ?_)
  ·rintro ρ ⟨y3,y4,y5,y6,y7,rfl⟩
   exact q
  ·cases kd with
   | num wd m=>exact absurd ⟨wd,m,rfl⟩ isnum
   | row k m =>
    cases vd with
    | row vs =>
     have Ci:k.deep + 1≤n + 1:=Bz
     obtain ⟨f1,f2,f3⟩:=Af
     simp only [Kd.Val] at An
     simp only [Kd.isv] at hi
     obtain ⟨ds,rfl,ha⟩:=hi
     have hl:ds.length=vs.length:=ha.len
     obtain ⟨c0,c1,c2,c3⟩:=aNm (n:=n) f1.ok (by omega) (by omega)
     obtain ⟨u1,u2⟩:=jN (n:=k.rm.1) (m:=k.rm.2) (by omega)
     have Bb:((up k.rm.1 k.rm.2).toNat:Int)=up k.rm.1 k.rm.2:=cN (by omega)
     have Fl:(Kd.row k m).rm.1=m * up k.rm.1 k.rm.2:=rfl
     have Kb:(m * up k.rm.1 k.rm.2).toNat=vs.length * (up k.rm.1 k.rm.2).toNat:=by
      have:m * up k.rm.1 k.rm.2=((vs.length * (up k.rm.1 k.rm.2).toNat:Nat):Int):=by rw [← An.1]; push_cast; rw [Bb]
      rw [this,cL]
     have Lc:up k.rm.1 k.rm.2≤100000:=by
      have:1 * up k.rm.1 k.rm.2≤m * up k.rm.1 k.rm.2:=cY (by omega) (by omega)
      rw [Fl] at C7
      omega
     have Mo:vs.length * (up k.rm.1 k.rm.2).toNat≤100000:=by rw [← Kb]; rw [Fl] at C7; omega
     rw [Fl,Kb]
     refine ⟨k,rfl,f1.ok,by omega,by omega,k.rm,rfl,c0,by omega,by omega,by omega,?_⟩
     generalize hS:(up k.rm.1 k.rm.2).toNat=S at *
     have ez:ds=(vs.zip ds).map (·.2):=by rw [List.map_snd_zip (by omega)]
     have een:zG ds=((List.range (vs.zip ds).length).zip (vs.zip ds)).map fun p=>.tup [.int (0 + (p.1:Int)),p.2.2]:=by
      conv=>lhs; rw [ez]
      rw [zE]
     have Ft:(vs.zip ds).length=vs.length:=by rw [cM]; omega
     show iJ _ _ _ (zG ds) _
     rw [een]
     refine xH _ (fun rest ρ => ∃ (i:Nat) (y4 y5:Sl),rest=((List.range (vs.zip ds).length).zip (vs.zip ds)).drop i∧i≤vs.length∧ρ=[vT (Kd.row k m).x,vT (.lst ds),.v (.ol ((fZ k.byt S 0 (vs.take i) (List.replicate (vs.length * S) 0)).map Dx.int)),vT (.int (up k.rm.1 k.rm.2)),y4,y5,.un,.un]) (fun ρ h => ?_) (fun a rest ρ Kn h hk => ?_) ⟨0,.un,.un,rfl,cK _,rfl⟩
     ·obtain ⟨i,y4,y5,e,hi,rfl⟩:=h
      have Fk:=gK.mp e.symm
      rw [cM,bR,Ft] at Fk
      have:i=vs.length:=by omega
      subst this
      refine hD _ ⟨.v (.tr (.int (up k.rm.1 k.rm.2))),y4,y5,.un,.un,?_⟩
      simp only [Kd.byt]
      rw [List.take_length,Kb,hS]
     ·obtain ⟨i,y4,y5,e,hi,rfl⟩:=h
      obtain ⟨e1,e2⟩:=cw_ e
      obtain ⟨e3,e4⟩:=u3 e1
      obtain ⟨e5,e6⟩:=cJ.mp e4
      have Bw:=(aF.mp e5).1
      have Lb:=An.2 a.2.1 (aJ e5)
      have hia:=c7 ha a.2 (aJ e4)
      have bl:(k.byt a.2.1).length=k.rm.1.toNat:=Kd.byt_len Lb
      have Fy:(i + 1) * S≤vs.length * S:=Nat.mul_le_mul_right _ Bw
      rw [jD,Nat.one_mul] at Fy
      have Cf:(0 + (a.1:Int)) * up k.rm.1 k.rm.2=((i * S:Nat):Int):=by rw [e3,Int.zero_add,← Bb]; push_cast; rfl
      have Cr:(vs.take i).length=i:=by rw [bT]; omega
      refine ⟨rfl,⟨by omega,by omega⟩,k,a.2.1,a.2.2,rfl,hia,f1,Lb,by omega,by omega,by omega,fZ k.byt S 0 (vs.take i) (List.replicate (vs.length * S) 0),k.byt a.2.1,(0 + (a.1:Int)) * up k.rm.1 k.rm.2,rfl,rfl,by rw [Cf]; omega,by rw [Cf,et_,aL,bl]; omega,by rw [et_,aL]; exact Mo,hk _ ⟨i + 1,vT (.int (0 + (a.1:Int))),vT a.2.2,e2,Bw,?_⟩⟩
      rw [Cf,cL,cv_ e5,jj_,Cr,jJ]
      rfl
    | _=>simp [Kd.Val] at An
   | rcd fs =>
    cases vd with
    | rcd vs =>
     have Ci:eJ fs + 1≤n + 1:=Bz
     obtain ⟨f1,f2,f3,B6⟩:=Af
     simp only [Kd.Val] at An
     simp only [Kd.isv] at hi
     obtain ⟨kvs,rfl,hl,Kz,ha⟩:=hi
     have Cv:=bz_ An
     have hok:=jq_ fs f1
     have hb:=aJh (n:=n) hok (by omega) (by omega)
     have Hx:Rms (rmF fs):=fun r hr=>⟨(hb r hr).1,by have:=(hb r hr).2.2.1; omega⟩
     obtain ⟨x0,x1⟩:=lT hb
     obtain ⟨u1,u2⟩:=jN (n:=dB 0 (rmF fs)) (m:=maxL 1 ((rmF fs).map (·.2))) (by omega)
     have Fl:(Kd.rcd fs).rm.1=up (dB 0 (rmF fs)) (maxL 1 ((rmF fs).map (·.2))):=rfl
     have Dc:(rmF fs).length=fs.length:=vP fs
     have A9:(dW 0 (rmF fs)).length=fs.length:=by rw [ct_,Dc]
     refine ⟨fs,rfl,hok,by omega,by omega,by omega,?_⟩
     have exf:xF fs=(fs.zip vs).map fun p=>.tup [.str p.1.1,p.1.2.x]:=by
      rw [xE]
      have:fs=(fs.zip vs).map (·.1):=by rw [List.map_fst_zip (by omega)]
      conv=>lhs; rw [this]
      rw [cQ]
      rfl
     show iJ _ _ _ (iA (xF fs) ((fs.zip (dW 0 (rmF fs))).map fun x=>.tup [.str x.1.1,.int x.2])) _
     rw [exf,do_]
     have Ft:((fs.zip vs).zip (fs.zip (dW 0 (rmF fs)))).length=fs.length:=by rw [cM,cM,cM]; omega
     refine xH _ (fun rest ρ => ∃ (i:Nat) (y6 y7:Sl),rest=((fs.zip vs).zip (fs.zip (dW 0 (rmF fs)))).drop i∧i≤fs.length∧ρ=[vT (Kd.rcd fs).x,vT (.dic kvs),.v (.ol ((gS ((dW 0 (rmF fs)).take i) (fs.take i) (vs.take i) (List.replicate (Kd.rcd fs).rm.1.toNat 0)).map Dx.int)),.un,.un,.un,y6,y7]) (fun ρ h => ?_) (fun a rest ρ Kn h hk => ?_) ⟨0,.un,.un,rfl,cK _,by simp only [List.take_zero,gS]; rfl⟩
     ·obtain ⟨i,y6,y7,e,hi,rfl⟩:=h
      have Fk:=gK.mp e.symm
      rw [Ft] at Fk
      have:i=fs.length:=by omega
      subst this
      refine hD _ ⟨.un,.un,.un,y6,y7,?_⟩
      simp only [Kd.byt]
      have t1:(dW 0 (rmF fs)).take fs.length=dW 0 (rmF fs):=gW (by omega)
      have t2:vs.take fs.length=vs:=gW (by omega)
      rw [t1,t2,List.take_length]
      rfl
     ·obtain ⟨i,y6,y7,e,hi,rfl⟩:=h
      obtain ⟨e1,e2⟩:=cw_ e
      obtain ⟨e3,e4⟩:=cJ.mp e1
      obtain ⟨e5,e6⟩:=cJ.mp e3
      obtain ⟨e7,e8⟩:=cJ.mp e4
      have Bw:=(aF.mp e5).1
      obtain ⟨x,hx,Gq⟩:=yP ha (aJ e3)
      obtain ⟨o1,o2,o3⟩:=xS hok An (aJ e3)
      have ff:=(jV f1 (aJ e5)).1
      obtain ⟨l1,l2⟩:=fu_ (e:=0) Hx (mH e5) e8
      have bl:(a.1.1.2.byt a.1.2).length=a.1.1.2.rm.1.toNat:=Kd.byt_len o2
      have hb0:=(hb _ (aJ (mH e5))).1
      have Ba:=hk [vT (Kd.rcd fs).x,vT (.dic kvs),.v (.ol ((gS ((dW 0 (rmF fs)).take (i + 1)) (fs.take (i + 1)) (vs.take (i + 1)) (List.replicate (Kd.rcd fs).rm.1.toNat 0)).map Dx.int)),.un,.un,.un,vT (.tup [.str a.1.1.1,a.1.1.2.x]),vT (.tup [.str a.2.1.1,.int a.2.2])] ⟨i + 1,_,_,e2,Bw,rfl⟩
      rw [cv_ e5,cv_ e6,cv_ e8,tN (by rw [bT,bT]; omega) (by rw [bT,bT]; omega)] at Ba
      simp only [cV,fM,xIf,xB,xOp,bW,jO,xC,eU,iW,aPl,dS,fU,bL,dD,jF,lA,sJ,ixX,dgX,sA,eqX,eqS,gxT,gxs,mI,fY,fA,fV,ec_,eb_,pR,rM,rL,rK,rJ,rH,rG,rF,rE,rB,rA,pY,pX,pW,bK,bO,cH,cA,Sv.d,aP,bP,dJ,dC,bU,aZ,aM,aU,bH,cB,Nat.reduceAdd,Nat.reduceSub,Nat.reduceLeDiff,true_and,decide_eq_true_eq,cut,iP,back,eC,if_true,↓reduceIte,dF,eI,yN,hx,Kd.x]
      exact ⟨a.1.1.2,a.1.2,x,rfl,Gq,ff,o2,by omega,by omega,by omega,_,_,a.2.2,rfl,rfl,l2,by rw [gy_,aL,bl]; omega,by rw [gy_,aL]; omega,Ba⟩
    | _=>simp [Kd.Val] at An
   | cho ks =>
    cases vd with
    | cho jj v =>
     have Ci:eP ks + 1≤n + 1:=Bz
     have Dd:=Af
     obtain ⟨f1,f2,f3⟩:=Af
     have M9:=An
     simp only [Kd.Val] at An
     simp only [Kd.isv] at hi
     obtain ⟨u,rfl,ha⟩:=hi
     obtain ⟨k,hk,hik⟩:=x9 ha
     obtain ⟨kf,kdp⟩:=jA f1 (aJ hk)
     have Fg:=aEj An hk
     have hok:=jp_ ks f1
     have hb:=tW (n:=n) hok (by omega) (by omega)
     obtain ⟨x0,x1⟩:=lT hb
     have Ii:k.rm∈rmK ks:=aJ (oZ hk)
     have Dw:k.rm.1≤maxL 0 ((rmK ks).map (·.1)):=gg_ (dE Ii)
     obtain ⟨u1,u2⟩:=jN (n:=up 1 (maxL 1 ((rmK ks).map (·.2))) + maxL 0 ((rmK ks).map (·.1))) (m:=maxL 1 ((rmK ks).map (·.2))) (by omega)
     rw [eo_ x0] at u1 u2
     have hk0:=(hb _ Ii).1
     have bl:(k.byt v).length=k.rm.1.toNat:=Kd.byt_len Fg
     have eR:(Kd.cho ks).rm.1=up (maxL 1 ((rmK ks).map (·.2)) + maxL 0 ((rmK ks).map (·.1))) (maxL 1 ((rmK ks).map (·.2))):=by show up (up 1 _ + _) _=_; rw [eo_ x0]
     have eM:(Kd.cho ks).rm.2=maxL 1 ((rmK ks).map (·.2)):=rfl
     have eu:up 1 (Kd.cho ks).rm.2=(Kd.cho ks).rm.2:=by rw [eM]; exact eo_ x0
     have Gi:(xK ks)[jj]? = some k.x:=by rw [sE,bG,hk]; rfl
     have Hb:=em_ Gi
     have Aj:((List.replicate (Kd.cho ks).rm.1.toNat (0:Int)).map Dx.int).length=(Kd.cho ks).rm.1.toNat:=by rw [aE,aL]
     have Gq:ixN ((List.replicate (Kd.cho ks).rm.1.toNat (0:Int)).map Dx.int).length 0=some 0:=by rw [w_ (by decide) (by rw [Aj]; omega)]; rfl
     refine ⟨rfl,?_⟩
     simp only [cV,fM,xIf,xB,xOp,bW,jO,xC,eU,iW,aPl,dS,fU,bL,dD,jF,lA,sJ,ixX,dgX,sA,eqX,eqS,gxT,gxs,mI,fY,fA,fV,ec_,eb_,pR,rM,rL,rK,rJ,rH,rG,rF,rE,rB,rA,pY,pX,pW,bK,bO,cH,cA,Sv.d,aP,bP,dJ,dC,bU,aZ,aM,aU,bH,cB,Nat.reduceAdd,Nat.reduceSub,Nat.reduceLeDiff,true_and,decide_eq_true_eq,cut,iP,back,eC,if_true,↓reduceIte,dF,eI,Gq,Hb,Kd.x]
     refine ⟨.cho ks,rfl,Dd.ok,Bz,hn,(Kd.cho ks).rm.2,rfl,by rw [eM]; omega,by rw [eM]; omega,k,v,u,rfl,hik,kf,Fg,by omega,by omega,by omega,(List.replicate (Kd.cho ks).rm.1.toNat (0:Int)).set 0 (jj:Int),k.byt v,up 1 (Kd.cho ks).rm.2,by rw [List.map_set],rfl,by rw [eu,eM]; omega,by rw [eu,eM,bl,bB,aL]; omega,by rw [bB,aL]; omega,hD _ ⟨.un,.un,.un,.un,.un,?_⟩⟩
     simp only [Kd.byt]
     rw [in_ hk]
     rfl
    | _=>simp [Kd.Val] at An
end
def gPL (K:eE):GC:=fun ds Q => ∃ (ns:List Int) (k:Int),ds=[.scr K ns,.int k]∧0≤k∧k < 2 ^ 20∧∀ l,PoolX (31 * k) l→Q (.ol l)
section
variable {f:Addr}
theorem aRn (F:Fun K "_law_pool" "_law_pool" hh_ f fd) (Ae:mg "len" = none):FnOk P w K mg base CX0 1 f fd ["script","k"] (spX (gPL K)):=by
 refine lU F kU (fun ds Q h=>by obtain ⟨ns,k,rfl,_⟩:=h; rfl) (by decide) fun Ak A outer s H E hr => ?_
 have As:=qK hr
 have Am:=bV As
 refine ⟨_,(dO (eS (i:=2) kU.nd rfl (Or.inl rfl) dH)
  (dO (iE (iM pI pG (bE (pv 1)) (mX (wU K) aAo (by rfl) Ae PySem.boot_len (bF (bE (pv 0)) bX)) (bY _)) (eF (eS (i:=2) kU.nd rfl (Or.inl rfl) (aPi K (bE (pv 0)) (bE (pv 1)) (fun _ _=>rfl)))) jE)
  (dO (iE (iM aGk aGc (bE (pv 2)) (d4 dH dH) (bY _)) (eF (gD (jH (bF (fg_ (bE (pv 2)) (d4 dH dH)) (bF dH (bF dH bX)))))) jE)
  (eF (gD (jH (bF (bE (pv 2)) (bF dH (bF (qT dH (bE (pv 1))) bX))))))))),fun ds Q h => ?_⟩
 clear Am As
 obtain ⟨ns,k,rfl,h0,h1,q⟩:=h
 have cp:aUk 10 18:=⟨by decide,by decide,by decide⟩
 refine xD ?_
 change cV _ _ [vT (.scr K ns),vT (.int k),vT (.int 0)] _
 refine hz_ (fun ρ => ∃ c:Int,ρ=[vT (.scr K ns),vT (.int k),vT (.int c)]) ?_ (fun D' hD => ?_)
 ·rintro ρ' ⟨c,rfl⟩
  refine ⟨cp,?_⟩
  refine k7 (fun c2 => ?_) (fun c2 => ?_)
  ·exact ⟨cp,k4 (by show 3≤1000000; decide),q _ ⟨_,_,_,rfl,by omega,by omega⟩⟩
  ·exact ⟨⟨by decide,by omega⟩,k4 (by show 3≤1000000; decide),q _ ⟨_,_,_,rfl,by omega,by omega⟩⟩
 ·refine ⟨rfl,?_⟩
  refine k7 (fun c => ?_) (fun c=>hD _ ⟨0,rfl⟩)
  have c':=of_decide_eq_true c
  obtain ⟨v,hv,_⟩:=aUd (l:=ns) h0 c'
  refine ⟨rfl,?_⟩
  rw [hv]
  exact hD _ ⟨v,rfl⟩
end
def AtP (xs:List Int) (p:Nat) (ys:List Int):Prop:=p + ys.length≤xs.length∧∀ i,i < ys.length→xs.getD (p + i) 0=ys.getD i 0
theorem AtP.trans {xs ys zs:List Int} {p q:Nat} (h:AtP xs p ys) (h':AtP ys q zs):AtP xs (p + q) zs:=⟨by have:=h.1; have:=h'.1; omega,fun i hi=>by rw [Nat.add_assoc,h.2 (q + i) (by have:=h'.1; omega),h'.2 i hi]⟩
theorem AtP.self (xs:List Int):AtP xs 0 xs:=⟨by omega,fun i _=>by rw [jJ]⟩
theorem AtP.cut {xs ys:List Int} {p:Nat} (h:AtP xs p ys):(xs.drop p).take ys.length=ys:=by
 have h1:=h.1
 refine fJ fun i => ?_
 by_cases hi:i < ys.length
 ·have:=h.2 i hi
  rw [gM hi,List.getElem?_drop,aA (by omega),aA hi]
  rw [aR,aR,aA (by omega),aA hi] at this
  exact congrArg some this
 ·rw [cF (by rw [bT]; omega),cF (by omega)]
theorem AtP.uniq {xs ys zs:List Int} {p:Nat} (h:AtP xs p ys) (h':AtP xs p zs) (e:ys.length=zs.length):ys=zs:=by rw [← h.cut,← h'.cut,e]
theorem w4 {l s:List Int} {p:Nat} (h:p + s.length≤l.length):AtP (lay l p s) p s:=⟨by rw [el_]; exact h,fun i hi=>by rw [nV (by omega),if_pos (by omega),eL]⟩
theorem o4 {k:Kd} {m:Int} {vs:List Vd} {t:Nat} {v:Vd} (hf:(Kd.row k m).Fit) (hv:(Kd.row k m).Val (.row vs)) (h:vs[t]? = some v):AtP ((Kd.row k m).byt (.row vs)) (t * (up k.rm.1 k.rm.2).toNat) (k.byt v):=by
 obtain ⟨f1,f2,f3⟩:=hf
 simp only [Kd.Val] at hv
 obtain ⟨c0,c1,c2,c3⟩:=k.bd f1.ok
 obtain ⟨u1,u2⟩:=jN (n:=k.rm.1) (m:=k.rm.2) (by omega)
 have Bb:((up k.rm.1 k.rm.2).toNat:Int)=up k.rm.1 k.rm.2:=cN (by omega)
 have Kb:(m * up k.rm.1 k.rm.2).toNat=vs.length * (up k.rm.1 k.rm.2).toNat:=by
  have:m * up k.rm.1 k.rm.2=((vs.length * (up k.rm.1 k.rm.2).toNat:Nat):Int):=by rw [← hv.1]; push_cast; rw [Bb]
  rw [this,cL]
 have Cr:=(aF.mp h).1
 have Lb:=hv.2 v (aJ h)
 have bl:∀ u∈vs,(k.byt u).length≤(up k.rm.1 k.rm.2).toNat:=fun u hu=>by rw [Kd.byt_len (hv.2 u hu)]; omega
 have Fy:(t + 1) * (up k.rm.1 k.rm.2).toNat≤vs.length * (up k.rm.1 k.rm.2).toNat:=Nat.mul_le_mul_right _ Cr
 rw [jD,Nat.one_mul] at Fy
 have b2:=bl v (aJ h)
 simp only [Kd.byt]
 rw [Kb]
 refine ⟨by rw [et_,aL]; omega,fun i hi => ?_⟩
 have:=pS k.byt (up k.rm.1 k.rm.2).toNat vs 0 (List.replicate (vs.length * (up k.rm.1 k.rm.2).toNat) 0) (t * (up k.rm.1 k.rm.2).toNat + i) t v bl h (by rw [jJ]; omega) (by rw [jJ]; omega) (by rw [aL]; omega)
 rw [this,jJ,eL]
theorem b7:∀ {fs:List (Str×Kd)} {vs:List Vd} {e:Int} {l:List Int} {t:Nat} {f:Str×Kd} {v:Vd} {p:Int},Rms (rmF fs)→0≤e→fD fs vs→fs[t]? = some f→vs[t]? = some v→(dW e (rmF fs))[t]? = some p→dB e (rmF fs)≤(l.length:Int)→AtP (gS (dW e (rmF fs)) fs vs l) p.toNat (f.2.byt v)
 | [],_,_,_,_,_,_,_,_,_,_,h,_,_,_=>by simp at h
 | g :: r,[],_,_,_,_,_,_,_,_,h,_,_,_,_=>by simp [fD] at h
 | g :: r,u :: vs,e,l,t,f,v,p,hR,he,hv,h1,h2,h3,hl=>by
  simp only [fD] at hv
  have e0:rmF (g :: r)=g.2.rm :: rmF r:=rfl
  rw [e0] at hR h3 hl ⊢
  have Fl:Rms (rmF r):=fun x hx=>hR x (aD _ hx)
  obtain ⟨c0,c1⟩:=hR _ aB
  obtain ⟨u1,u2⟩:=jN (n:=e) (m:=g.2.rm.2) c1
  have Fk:=dw_ (rs:=rmF r) (e:=up e g.2.rm.2 + g.2.rm.1) Fl
  have Gn:dB (up e g.2.rm.2 + g.2.rm.1) (rmF r)≤(l.length:Int):=hl
  have bl:(g.2.byt u).length=g.2.rm.1.toNat:=Kd.byt_len hv.1
  show AtP (gS (up e g.2.rm.2 :: dW (up e g.2.rm.2 + g.2.rm.1) (rmF r)) (g :: r) (u :: vs) l) p.toNat (f.2.byt v)
  simp only [gS]
  cases t with
  | zero =>
   simp at h1 h2
   subst h1 h2
   have h3':some (up e g.2.rm.2)=some p:=h3
   cases h3'
   have Hl:AtP (lay l (up e g.2.rm.2).toNat (g.2.byt u)) (up e g.2.rm.2).toNat (g.2.byt u):=w4 (by omega)
   refine ⟨by rw [gy_]; exact Hl.1,fun i hi => ?_⟩
   rw [tO r _ vs _ _ fun q hq => ?_]
   ·exact Hl.2 i hi
   ·obtain ⟨n,hn⟩:=dM hq
    have Dv:n < (rmF r).length:=by
     have:=(aF.mp hn).1
     rwa [ct_] at this
    have:=(fu_ (e:=up e g.2.rm.2 + g.2.rm.1) Fl (aA Dv) hn).2
    omega
  | succ t =>
   exact b7 (e:=up e g.2.rm.2 + g.2.rm.1) (l:=lay l (up e g.2.rm.2).toNat (g.2.byt u)) Fl (by omega) hv.2 (by simpa using h1) (by simpa using h2) (by simpa [dW] using h3) (by rw [el_]; exact Gn)
theorem o5 {fs:List (Str×Kd)} {vs:List Vd} {t:Nat} {f:Str×Kd} {v:Vd} {p:Int} (hf:(Kd.rcd fs).Fit) (hv:(Kd.rcd fs).Val (.rcd vs)) (h1:fs[t]? = some f) (h2:vs[t]? = some v) (h3:(dW 0 (rmF fs))[t]? = some p):AtP ((Kd.rcd fs).byt (.rcd vs)) p.toNat (f.2.byt v):=by
 obtain ⟨f1,f2,f3,B6⟩:=hf
 simp only [Kd.Val] at hv
 have hok:=jq_ fs f1
 have hb:∀ r∈rmF fs,0≤r.1∧1≤r.2:=fun r hr=>by
  obtain ⟨i,hi⟩:=dM hr
  have Bw:i < fs.length:=by have:=(aF.mp hi).1; rwa [vP fs] at this
  have:=mH (aA Bw)
  rw [this] at hi
  cases hi
  obtain ⟨c0,c1,c2,c3⟩:=(fs[i]).2.bd (jV f1 (List.getElem_mem Bw)).1.ok
  exact ⟨by omega,by omega⟩
 have Hx:Rms (rmF fs):=fun r hr=>⟨(hb r hr).1,by have:=(hb r hr).2; omega⟩
 have x0:1≤maxL 1 ((rmF fs).map (·.2)):=gt_ _
 obtain ⟨u1,u2⟩:=jN (n:=dB 0 (rmF fs)) (m:=maxL 1 ((rmF fs).map (·.2))) (by omega)
 simp only [Kd.byt]
 have Fl:(nE (rmF fs)).1=up (dB 0 (rmF fs)) (maxL 1 ((rmF fs).map (·.2))):=rfl
 exact b7 Hx (by decide) hv h1 h2 h3 (by rw [aL,Fl]; omega)
theorem o6 {ks:List Kd} {j:Nat} {k:Kd} {v:Vd} (hf:(Kd.cho ks).Fit) (hk:ks[j]? = some k) (hv:k.Val v):AtP ((Kd.cho ks).byt (.cho j v)) (up 1 (Kd.cho ks).rm.2).toNat (k.byt v)∧((Kd.cho ks).byt (.cho j v))[0]? = some (j:Int):=by
 obtain ⟨f1,f2,f3⟩:=hf
 obtain ⟨kf,kdp⟩:=jA f1 (aJ hk)
 have x0:1≤maxL 1 ((rmK ks).map (·.2)):=gt_ _
 have Ii:k.rm∈rmK ks:=aJ (oZ hk)
 have Dw:k.rm.1≤maxL 0 ((rmK ks).map (·.1)):=gg_ (dE Ii)
 obtain ⟨u1,u2⟩:=jN (n:=up 1 (maxL 1 ((rmK ks).map (·.2))) + maxL 0 ((rmK ks).map (·.1))) (m:=maxL 1 ((rmK ks).map (·.2))) (by omega)
 rw [eo_ x0] at u1 u2
 obtain ⟨c0,c1,c2,c3⟩:=k.bd kf.ok
 have bl:(k.byt v).length=k.rm.1.toNat:=Kd.byt_len hv
 have eR:(iK (rmK ks)).1=up (maxL 1 ((rmK ks).map (·.2)) + maxL 0 ((rmK ks).map (·.1))) (maxL 1 ((rmK ks).map (·.2))):=by show up (up 1 _ + _) _=_; rw [eo_ x0]
 have eM:(iK (rmK ks)).2=maxL 1 ((rmK ks).map (·.2)):=rfl
 have eu:up 1 (iK (rmK ks)).2=maxL 1 ((rmK ks).map (·.2)):=by rw [eM]; exact eo_ x0
 simp only [Kd.byt]
 rw [in_ hk]
 show AtP (lay _ (up 1 (iK (rmK ks)).2).toNat _) (up 1 (iK (rmK ks)).2).toNat (k.byt v)∧_
 refine ⟨w4 (by rw [eu,bl,bB,aL,eR]; omega),?_⟩
 rw [hx_,fS (by rw [aL,eR]; omega),Option.map_some,if_neg (by rw [eu]; omega)]
theorem vQ {Pp:Int→Prop} {l s:List Int} {p:Nat} (hl:∀ b∈l,Pp b) (hs:∀ b∈s,Pp b):∀ b∈lay l p s,Pp b:=fun b hb=>by
 obtain ⟨i,hi⟩:=dM hb
 rw [hx_] at hi
 obtain ⟨c,h1,h2⟩:=fR.mp hi
 by_cases hc:p≤i∧i < p + s.length
 ·rw [if_pos hc,aR,aA (by omega)] at h2
  rw [← h2]
  exact hs _ (List.getElem_mem _)
 ·rw [if_neg hc] at h2
  rw [← h2]
  exact hl _ (aJ h1)
theorem pU {Pp:Int→Prop} (f:Vd→List Int) (st:Nat):∀ (vs:List Vd) (j:Nat) (l:List Int),(∀ b∈l,Pp b)→(∀ v∈vs,∀ b∈f v,Pp b)→∀ b∈fZ f st j vs l,Pp b
 | [],_,_,hl,_=>hl
 | v :: r,j,l,hl,hv=>pU f st r (j + 1) _ (vQ hl (hv v aB)) fun u hu=>hv u (aD _ hu)
theorem ip_ {n:Nat}:∀ b∈List.replicate n (0:Int),0≤b∧b < 256:=fun b hb=>by rw [(List.mem_replicate.mp hb).2]; decide
mutual
theorem oE:∀ (kd:Kd) (v:Vd),kd.Fit→kd.Val v→∀ b∈kd.byt v,0≤b∧b < 256
 | .num w m,.num n,_,_=>by simp only [Kd.byt]; exact fr_ _ _
 | .row k m,.row vs,hf,hv=>by
  simp only [Kd.byt]
  simp only [Kd.Val] at hv
  exact pU _ _ _ _ _ ip_ fun v hm=>oE k v hf.1 (hv.2 v hm)
 | .rcd fs,.rcd vs,hf,hv=>by
  simp only [Kd.byt]
  simp only [Kd.Val] at hv
  exact b6 fs vs hf.1 hv _ _ ip_
 | .cho ks,.cho j v,hf,hv=>by
  simp only [Kd.byt]
  simp only [Kd.Val] at hv
  obtain ⟨k,hk,_⟩:=ew_ hv
  have hj:=(aF.mp hk).1
  have h6:=hf.2.2
  refine vQ (fun b hb => ?_) (zZ ks j v hf.1 hv)
  rcases List.mem_or_eq_of_mem_set hb with h | h
  ·exact ip_ b h
  ·rw [h]; omega
 | .num _ _,.row _,_,hv=>by simp [Kd.Val] at hv
 | .num _ _,.rcd _,_,hv=>by simp [Kd.Val] at hv
 | .num _ _,.cho _ _,_,hv=>by simp [Kd.Val] at hv
 | .row _ _,.num _,_,hv=>by simp [Kd.Val] at hv
 | .row _ _,.rcd _,_,hv=>by simp [Kd.Val] at hv
 | .row _ _,.cho _ _,_,hv=>by simp [Kd.Val] at hv
 | .rcd _,.num _,_,hv=>by simp [Kd.Val] at hv
 | .rcd _,.row _,_,hv=>by simp [Kd.Val] at hv
 | .rcd _,.cho _ _,_,hv=>by simp [Kd.Val] at hv
 | .cho _,.num _,_,hv=>by simp [Kd.Val] at hv
 | .cho _,.row _,_,hv=>by simp [Kd.Val] at hv
 | .cho _,.rcd _,_,hv=>by simp [Kd.Val] at hv
theorem b6:∀ (fs:List (Str×Kd)) (vs:List Vd),lL fs→fD fs vs→∀ (ps l:List Int),(∀ b∈l,0≤b∧b < 256)→∀ b∈gS ps fs vs l,0≤b∧b < 256
 | [],vs,_,_,ps,l,hl=>by simp only [gS]; exact hl
 | f :: r,[],_,_,ps,l,hl=>by simp only [gS]; exact hl
 | f :: r,v :: vs,_,_,[],l,hl=>by simp only [gS]; exact hl
 | f :: r,v :: vs,hf,hv,p :: ps,l,hl=>by
  simp only [gS]
  simp only [fD] at hv
  exact b6 r vs hf.2 hv.2 ps _ (vQ hl (oE f.2 v hf.1.2 hv.1))
theorem zZ:∀ (ks:List Kd) (j:Nat) (v:Vd),mP ks→kP ks j v→∀ b∈a_ ks j v,0≤b∧b < 256
 | [],_,_,_,h=>by simp [kP] at h
 | k :: r,0,v,hf,hv=>by simp only [a_]; simp only [kP] at hv; exact oE k v hf.1 hv
 | k :: r,j + 1,v,hf,hv=>by simp only [a_]; simp only [kP] at hv; exact zZ r j v hf.2 hv
end
def iI:List Int→Int
 | []=>0
 | b :: r=>b + 256 * iI r
theorem ea_:∀ (w:Nat) (n:Int),0≤n→n < 256 ^ w→iI (iZ w n)=n
 | 0,n,h0,h1=>by simp at h1; show (0:Int)=n; omega
 | w + 1,n,h0,h1=>by
  show n % 256 + 256 * iI (iZ w (n / 256))=n
  rw [ea_ w (n / 256) (Int.ediv_nonneg h0 (by decide)) (Int.ediv_lt_of_lt_mul (by decide) (by rw [jK] at h1; exact h1))]
  omega
theorem fj_:∀ {fs:List (Str×Kd)} {vs:List Vd} {i:Nat} {f:Str×Kd} {v:Vd},fD fs vs→fs[i]? = some f→vs[i]? = some v→f.2.Val v
 | [],_,_,_,_,_,h,_=>by simp at h
 | g :: r,[],_,_,_,h,_,_=>by simp [fD] at h
 | g :: r,u :: vs,0,f,v,h,h1,h2=>by simp only [fD] at h; simp at h1 h2; subst h1 h2; exact h.1
 | g :: r,u :: vs,i + 1,f,v,h,h1,h2=>by simp only [fD] at h; exact fj_ h.2 (by simpa using h1) (by simpa using h2)
theorem oQ {fs:List (Str×Kd)} {vs:List Vd} (hl:vs.length=fs.length):(vxF fs vs).length=fs.length:=by rw [uE,aE,cM]; omega
theorem hc_ {w m:Int} {v:Vd} (h:(Kd.num w m).Val v):∃ i,v=.num i∧0≤i∧i < 256 ^ w.toNat:=by
 cases v with
 | num i=>simp only [Kd.Val] at h; exact ⟨i,rfl,h⟩
 | _=>simp [Kd.Val] at h
theorem fh_ {k:Kd} {m:Int} {v:Vd} (h:(Kd.row k m).Val v):∃ vs,v=.row vs∧(vs.length:Int)=m∧∀ u∈vs,k.Val u:=by
 cases v with
 | row vs=>simp only [Kd.Val] at h; exact ⟨vs,rfl,h⟩
 | _=>simp [Kd.Val] at h
theorem fi_ {fs:List (Str×Kd)} {v:Vd} (h:(Kd.rcd fs).Val v):∃ vs,v=.rcd vs∧fD fs vs:=by
 cases v with
 | rcd vs=>simp only [Kd.Val] at h; exact ⟨vs,rfl,h⟩
 | _=>simp [Kd.Val] at h
theorem ek_ {ks:List Kd} {v:Vd} (h:(Kd.cho ks).Val v):∃ j u k,v=.cho j u∧ks[j]? = some k∧k.Val u:=by
 cases v with
 | cho j u=>simp only [Kd.Val] at h; obtain ⟨k,h1,h2⟩:=ew_ h; exact ⟨j,u,k,rfl,h1,h2⟩
 | _=>simp [Kd.Val] at h
theorem mQ {α:Type} {l m:List α} (hl:l.length=m.length) (h:∀ (i:Nat) (a b:α),l[i]? = some a→m[i]? = some b→a=b):l=m:=by
 refine fJ fun i => ?_
 by_cases hi:i < l.length
 ·rw [aA hi,aA (by omega)]
  exact congrArg some (h i _ _ (aA hi) (aA (by omega)))
 ·rw [cF (by omega),cF (by omega)]
theorem oF:∀ (n:Nat) (kd:Kd) (v v':Vd),kd.deep≤n→kd.Fit→kd.Val v→kd.Val v'→kd.byt v=kd.byt v'→v=v'
 | 0,kd,_,_,hd,_,_,_,_=>by have:=Kd.deep_pos kd; omega
 | n + 1,.num w m,v,v',hd,hf,hv,Bn,h=>by
  obtain ⟨i,rfl,a1,a2⟩:=hc_ hv
  obtain ⟨i',rfl,b1,b2⟩:=hc_ Bn
  simp only [Kd.byt] at h
  rw [← ea_ _ i a1 a2,h,ea_ _ i' b1 b2]
 | n + 1,.row k m,v,v',hd,hf,hv,Bn,h=>by
  obtain ⟨vs,rfl,h1,h2⟩:=fh_ hv
  obtain ⟨vs',rfl,h1',K4⟩:=fh_ Bn
  have Cw:k.deep + 1≤n + 1:=hd
  refine congrArg Vd.row (mQ (by omega) fun i a b ha hb => ?_)
  have ka:=h2 a (aJ ha)
  have kb:=K4 b (aJ hb)
  have p1:=o4 hf hv ha
  have p2:=o4 hf Bn hb
  rw [h] at p1
  exact oF n k a b (by omega) hf.1 ka kb (p1.uniq p2 (by rw [Kd.byt_len ka,Kd.byt_len kb]))
 | n + 1,.rcd fs,v,v',hd,hf,hv,Bn,h=>by
  obtain ⟨vs,rfl,h2⟩:=fi_ hv
  obtain ⟨vs',rfl,K4⟩:=fi_ Bn
  have Cw:eJ fs + 1≤n + 1:=hd
  have Cv:=bz_ h2
  have hvl':=bz_ K4
  refine congrArg Vd.rcd (mQ (by omega) fun i a b ha hb => ?_)
  have hi:=(aF.mp ha).1
  have e1:=aA (l:=fs) (i:=i) (by omega)
  obtain ⟨ff,fd⟩:=jV hf.1 (aJ e1)
  have e2:=aA (l:=dW 0 (rmF fs)) (i:=i) (by rw [ct_,vP fs]; omega)
  have ka:=fj_ h2 e1 ha
  have kb:=fj_ K4 e1 hb
  have p1:=o5 hf hv e1 ha e2
  have p2:=o5 hf Bn e1 hb e2
  rw [h] at p1
  exact oF n _ a b (by omega) ff ka kb (p1.uniq p2 (by rw [Kd.byt_len ka,Kd.byt_len kb]))
 | n + 1,.cho ks,v,v',hd,hf,hv,Bn,h=>by
  obtain ⟨j,u,k,rfl,hk,hu⟩:=ek_ hv
  obtain ⟨j',u',k',rfl,Ba,Ld⟩:=ek_ Bn
  have Cw:eP ks + 1≤n + 1:=hd
  obtain ⟨kf,kdp⟩:=jA hf.1 (aJ hk)
  obtain ⟨p1,q1⟩:=o6 hf hk hu
  obtain ⟨p2,q2⟩:=o6 hf Ba Ld
  rw [h,q2] at q1
  have e:j=j':=by have:=ozI q1; omega
  subst e
  rw [hk] at Ba
  cases Ba
  rw [h] at p1
  rw [oF n k u u' (by omega) kf hu Ld (p1.uniq p2 (by rw [Kd.byt_len hu,Kd.byt_len Ld]))]
theorem AtP.get {xs ys:List Int} {p i:Nat} (h:AtP xs p ys) (hi:i < ys.length):xs[p + i]? = ys[i]? := by
 have h1:=h.1
 have h2:=h.2 i hi
 rw [aR,aR,aA (by omega),aA hi] at h2
 rw [aA (by omega),aA hi]
 exact congrArg some h2
theorem AtP.of_get {xs ys:List Int} {p:Nat} (Bf:0 < ys.length) (h:∀ i,i < ys.length→xs[p + i]? = ys[i]?):AtP xs p ys:=by
 refine ⟨?_,fun i hi => ?_⟩
 ·have:=h (ys.length - 1) (by omega)
  rw [aA (l:=ys) (by omega)] at this
  have:=(aF.mp this).1
  omega
 ·rw [aR,aR,h i hi]
mutual
def Kd.Ag (xs:List Int):Kd→Nat→Vd→Prop
 | .num w _,p,.num n=>AtP xs p (iZ w.toNat n)
 | .row k _,p,.row vs => ∀ t v,vs[t]? = some v→k.Ag xs (p + t * (up k.rm.1 k.rm.2).toNat) v
 | .rcd fs,p,.rcd vs=>agF xs fs (dW 0 (rmF fs)) p vs
 | .cho ks,p,.cho j v=>xs[p]? = some (j:Int)∧agK xs ks j (p + (up 1 (iK (rmK ks)).2).toNat) v
 | _,_,_=>False
def agF (xs:List Int):List (Str×Kd)→List Int→Nat→List Vd→Prop
 | f :: r,q :: ps,p,v :: vs=>f.2.Ag xs (p + q.toNat) v∧agF xs r ps p vs
 | [],_,_,_=>True
 | _,_,_,_=>False
def agK (xs:List Int):List Kd→Nat→Nat→Vd→Prop
 | [],_,_,_=>False
 | k :: _,0,p,v=>k.Ag xs p v
 | _ :: r,j + 1,p,v=>agK xs r j p v
end
theorem rP {xs:List Int} {p:Nat}:∀ {fs:List (Str×Kd)} {ps:List Int} {vs:List Vd} {t:Nat} {f:Str×Kd} {q:Int} {v:Vd},agF xs fs ps p vs→fs[t]? = some f→ps[t]? = some q→vs[t]? = some v→f.2.Ag xs (p + q.toNat) v
 | [],_,_,_,_,_,_,_,h,_,_=>by simp at h
 | g :: r,[],_,_,_,_,_,_,_,h,_=>by simp at h
 | g :: r,_ :: _,[],_,_,_,_,_,_,_,h=>by simp at h
 | g :: r,q0 :: ps,u :: vs,0,f,q,v,h,h1,h2,h3=>by
  simp at h1 h2 h3
  subst h1 h2 h3
  simp only [agF] at h
  exact h.1
 | g :: r,q0 :: ps,u :: vs,t + 1,f,q,v,h,h1,h2,h3=>by
  simp only [agF] at h
  exact rP h.2 (by simpa using h1) (by simpa using h2) (by simpa using h3)
theorem wX {xs:List Int} {p:Nat}:∀ {fs:List (Str×Kd)} {ps:List Int} {vs:List Vd},ps.length=fs.length→vs.length=fs.length→(∀ (t:Nat) (f:Str×Kd) (q:Int) (v:Vd),fs[t]? = some f→ps[t]? = some q→vs[t]? = some v→f.2.Ag xs (p + q.toNat) v)→agF xs fs ps p vs
 | [],_,_,_,_,_=>by simp only [agF]
 | g :: r,[],_,h,_,_=>by simp at h
 | g :: r,_ :: _,[],_,h,_=>by simp at h
 | g :: r,q0 :: ps,u :: vs,h1,h2,h=>by
  simp only [agF]
  exact ⟨h 0 g q0 u rfl rfl rfl,wX (by simpa using h1) (by simpa using h2) fun t f q v e1 e2 e3=>h (t + 1) f q v (by simpa using e1) (by simpa using e2) (by simpa using e3)⟩
theorem hy_ {xs:List Int}:∀ {ks:List Kd} {j p:Nat} {k:Kd} {v:Vd},ks[j]? = some k→(agK xs ks j p v↔k.Ag xs p v)
 | [],_,_,_,_,h=>by simp at h
 | k' :: r,0,p,k,v,h=>by simp at h; subst h; simp only [agK]
 | k' :: r,j + 1,p,k,v,h=>by simp only [agK]; exact hy_ (by simpa using h)
theorem go_ {fs:List (Str×Kd)}:(dW 0 (rmF fs)).length=fs.length:=by rw [ct_,vP fs]
theorem c9 {xs:List Int}:∀ (n:Nat) (kd:Kd) (v:Vd) (p:Nat),kd.deep≤n→kd.Fit→kd.Val v→AtP xs p (kd.byt v)→kd.Ag xs p v
 | 0,kd,_,_,hd,_,_,_=>by have:=Kd.deep_pos kd; omega
 | n + 1,.num w m,v,p,hd,hf,hv,h=>by
  obtain ⟨i,rfl,_⟩:=hc_ hv
  simp only [Kd.byt] at h
  simp only [Kd.Ag]
  exact h
 | n + 1,.row k m,v,p,hd,hf,hv,h=>by
  obtain ⟨vs,rfl,h1,h2⟩:=fh_ hv
  have Cw:k.deep + 1≤n + 1:=hd
  simp only [Kd.Ag]
  exact fun t u hu=>c9 n k u _ (by omega) hf.1 (h2 u (aJ hu)) (h.trans (o4 hf hv hu))
 | n + 1,.rcd fs,v,p,hd,hf,hv,h=>by
  obtain ⟨vs,rfl,h2⟩:=fi_ hv
  have Cw:eJ fs + 1≤n + 1:=hd
  simp only [Kd.Ag]
  refine wX go_ (bz_ h2) fun t f q u e1 e2 e3 => ?_
  obtain ⟨ff,fd⟩:=jV hf.1 (aJ e1)
  exact c9 n f.2 u _ (by omega) ff (fj_ h2 e1 e3) (h.trans (o5 hf hv e1 e3 e2))
 | n + 1,.cho ks,v,p,hd,hf,hv,h=>by
  obtain ⟨j,u,k,rfl,hk,hu⟩:=ek_ hv
  have Cw:eP ks + 1≤n + 1:=hd
  obtain ⟨kf,kdp⟩:=jA hf.1 (aJ hk)
  obtain ⟨a1,a2⟩:=o6 hf hk hu
  have h0:0 < ((Kd.cho ks).byt (.cho j u)).length:=(aF.mp a2).1
  simp only [Kd.Ag]
  exact ⟨by rw [← a2,← h.get h0,Nat.add_zero],(hy_ hk).mpr (c9 n k u _ (by omega) kf hu (h.trans a1))⟩
theorem aJw {i:Nat} {x c:Int} {ρ:En} {Q:Sv→En→Prop} (h:ρ[i]? = some (vT (.int x))) (q:Q (.tr (.int (if decide (c < x)=true then 1 else 0))) (ρ.set i (vT (.int x)))):dS aCi (bL (xOp gtX (bW i) (xC (.int c))) dD) ρ Q:=by
 unfold dS bL xOp bW
 dsimp only
 rw [h]
 exact q
theorem nY {g:GC} {u:XA} {ρ:En} {Q:Sv→En→Prop} (h:u ρ fun ss ρ'=>g (ss.map Sv.d) fun s=>Q s ρ'):dS g u ρ Q:=h
theorem gi_ {t:XT} {u:XA} {ρ:En} {Q:List Sv→En→Prop} (h:t ρ fun s ρ1=>u ρ1 fun ss ρ2=>Q (s :: ss) ρ2):bL t u ρ Q:=h
theorem oA {g:G2} {ta tb:XT} {ρ:En} {Q:Sv→En→Prop} (h:ta ρ fun a ρ1=>tb ρ1 fun b ρ2=>g a.d b.d fun s=>Q s ρ2):xOp g ta tb ρ Q:=h
def whD:Dx→Bool
 | .int _=>true
 | _=>false
def byD:Dx→Bool
 | .int i=>decide (0≤i) && decide (i < 256)
 | _=>false
def abD:Dx→Int→Bool
 | .lst l,n=>decide ((l.length:Int)=n) && l.all byD
 | _,_=>false
theorem aVu {d:Dx} (h:d.Sz):pL d:=by cases d <;> simp only [Dx.Sz] at h <;> first | exact h.elim | trivial
def gWB:GC:=fun ds Q => ∃ d:Dx,ds=[d]∧pL d∧Q (.tr (.bl (whD d)))
def aXy:GC:=fun ds Q => ∃ d:Dx,ds=[d]∧pL d∧Q (.tr (.bl (byD d)))
def aYa:GC:=fun ds Q => ∃ (d:Dx) (n:Int),ds=[d,.int n]∧d.Sz∧Q (.tr (.bl (abD d n)))
theorem wY:∀ {l:List Dx},l.all byD=true→∃ xs:List Int,l=xs.map Dx.int∧∀ b∈xs,0≤b∧b < 256
 | [],_=>⟨[],rfl,fun b h=>absurd h (by simp)⟩
 | d :: r,h=>by
  rw [iS,cZ] at h
  obtain ⟨xs,e,hx⟩:=wY h.2
  cases d <;> simp only [byD,eZ,false_and] at h
  rename_i i
  rw [cZ,decide_eq_true_eq,decide_eq_true_eq] at h
  refine ⟨i :: xs,by rw [e]; rfl,fun b hb => ?_⟩
  rcases aI.mp hb with rfl | hb
  ·exact h.1
  ·exact hx b hb
theorem aYt {xs:List Int} (h:∀ b∈xs,0≤b∧b < 256):(xs.map Dx.int).all byD=true:=by
 rw [List.all_map,gP]
 intro b hb
 show (decide (0≤b) && decide (b < 256))=true
 rw [dzT (h b hb).1,dzT (h b hb).2]
 rfl
section
variable {f:Addr} {n j:Nat}
theorem aRd (F:Fun K "is_whole" "is_whole" hi_ f fd) (Ab:mg "isinstance" = none) (m_int:mg "int" = none) (Ay:mg "bool" = none):FnOk P w K mg base CX0 1 f fd AO (spX gWB):=by
 refine lU F xZ (fun ds Q h=>by obtain ⟨_,rfl,_⟩:=h; rfl) (by decide) fun Ak A outer s H E hr => ?_
 refine ⟨_,(eF (gD (oP (b_ .int Ab (bE (pv 0)) (rV (v:=.ty "int") rfl m_int qW rfl)) (oM (aDs (b_ .bool Ab (bE (pv 0)) (rV (v:=.ty "bool") rfl Ay oG rfl))))))),fun ds Q h => ?_⟩
 obtain ⟨d,rfl,hd,q⟩:=h
 cases d <;> first | exact q | exact hd.elim
theorem aLo (F:Fun K "is_byte" "is_byte" ja_ f fd) (CIW:Cal P w K mg base 1 "is_whole" AO (spX gWB)) (Ah:∃ t,mg "HOW_MANY_BYTES" = some (.int 256 t)):FnOk P w K mg base CX0 2 f fd AO (spX aXy):=by
 refine lU F i3 (fun ds Q h=>by obtain ⟨_,rfl,_⟩:=h; rfl) (by decide) fun Ak A outer s H E hr => ?_
 refine ⟨_,(eF (gD (oP (fW CIW (hr.mono (by omega)) (bF (bE (pv 0)) bX)) (oM (aDu aOm aOl pI pG dH (bE (pv 0)) (nJ (by rfl) Ah)))))),fun ds Q h => ?_⟩
 obtain ⟨d,rfl,hd,q⟩:=h
 refine ⟨d,rfl,hd,?_⟩
 cases d <;> first | exact q | skip
 rename_i i
 simp only [byD] at q
 by_cases h1:0≤i
 ·rw [dzT h1,Bool.true_and] at q
  show if decide (0≤i)=true then _ else _
  rw [if_pos (dzT h1)]
  exact q
 ·rw [dzF h1,Bool.false_and] at q
  show if decide (0≤i)=true then _ else _
  rw [dzF h1]
  exact q
theorem aLq (F:Fun K "are_bytes" "are_bytes" fb_ f fd) (CIB:Cal P w K mg base 2 "is_byte" AO (spX aXy)) (Ab:mg "isinstance" = none) (m_list:mg "list" = none) (Ae:mg "len" = none) (Fs:mg "all" = none):FnOk P w K mg base CX0 3 f fd AW (spX aYa):=by
 refine lU F uN (fun ds Q h=>by obtain ⟨_,_,rfl,_⟩:=h; rfl) (by decide) fun Ak A outer s H E hr => ?_
 have As:=qK hr
 have Am:=bV As
 refine ⟨_,(dO (iE (XW.pt (lE (ff_ (xG (b_ .list Ab (bE (pv 0)) (rV (v:=.ty "list") rfl m_list hs_ rfl)))) (gk_ (iM (hv_ K Am) pF (mX (wU K) zK (by rfl) Ae PySem.boot_len (bF (bE (pv 0)) bX)) (bE (pv 1)) (bY _))))) (eF (gD mZ)) jE)
  (eF (gD (mX (aDe K (by rfl)) aTr (by rfl) Fs aTy (bF (rW (dsc:=aQ fb_) (N:=AW) (tgs:=["each"]) (outs:=[]) (N':=["each"]) (by refine ⟨rfl,?_,?_,?_,rfl,?_,?_,?_⟩ <;> decide +kernel) (mW (bE (pv 0))) (fun _ _ _ _ _=>(gG (i:=0) (show (["each"]:List Str).Nodup by decide +kernel) rfl (Or.inl rfl) (.inr rfl))) (kJ (n:=1) (i:=0) (by decide)) (qZ (by decide)) (fun _ _ _ _ _=>mD) (fun _ _ _ _ _=>(fW CIB (hr.mono (by omega)) (bF (bE (pv 0)) bX)))) bX))))),fun ds Q h => ?_⟩
 clear Am As
 obtain ⟨d,n,rfl,hd,q⟩:=h
 cases d <;> first | exact q | exact hd.elim | skip
 rename_i l
 simp only [Dx.Sz] at hd
 simp only [abD] at q
 by_cases h1:(l.length:Int)=n
 ·rw [dzT h1,Bool.true_and] at q
  show if (!decide ((l.length:Int)=n))=true then _ else _
  rw [dzT h1]
  refine ⟨show l.length≤1000000 by omega,show dX _ _ _ _ _ l _ _ from ?_⟩
  rw [show l=l.map (fun d:Dx=>d) from (List.map_id' l).symm]
  refine b9 (fun d:Dx=>d) (fun d=>.bl (byD d)) (fun d hm Ad P p=>⟨d,rfl,aVu (ga_ hd.2 hm),p⟩) ?_
  rw [aZ]
  refine ⟨l.map byD,by rw [cQ]; rfl,?_⟩
  rw [List.all_map]
  exact q
 ·rw [dzF h1,Bool.false_and] at q
  show if (!decide ((l.length:Int)=n))=true then _ else _
  rw [dzF h1]
  exact q
end
theorem sT:∀ (l:List Int),(∀ b∈l,0≤b∧b < 256)→iZ l.length (iI l)=l
 | [],_=>rfl
 | b :: r,h=>by
  obtain ⟨h1,h2⟩:=h b aB
  show (b + 256 * iI r) % 256 :: iZ r.length ((b + 256 * iI r) / 256)=b :: r
  rw [show (b + 256 * iI r) % 256=b from by omega,show (b + 256 * iI r) / 256=iI r from by omega,sT r fun x hx=>h x (aD _ hx)]
theorem uG:∀ {fs:List (Str×Kd)} {vs:List Vd},vs.length=fs.length→(∀ (t:Nat) (f:Str×Kd) (v:Vd),fs[t]? = some f→vs[t]? = some v→f.2.Val v)→fD fs vs
 | [],[],_,_=>by simp only [fD]
 | [],_ :: _,h,_=>by simp at h
 | _ :: _,[],h,_=>by simp at h
 | f :: r,v :: vs,h,k=>by
  simp only [fD]
  exact ⟨k 0 f v rfl rfl,uG (by simpa using h) fun t g u e1 e2=>k (t + 1) g u (by simpa using e1) (by simpa using e2)⟩
theorem aKk {fs:List (Str×Kd)} (h:lL fs):Rms (rmF fs):=fun r hr=>by
 obtain ⟨m,hm⟩:=dM hr
 have Il:m < fs.length:=by have:=(aF.mp hm).1; rwa [vP fs] at this
 have:=mH (aA Il)
 rw [this] at hm
 cases hm
 obtain ⟨c0,c1,c2,c3⟩:=(fs[m]).2.bd (jV h (List.getElem_mem Il)).1.ok
 exact ⟨by omega,by omega⟩
theorem nQ:∀ {l:List Int},(∀ b∈l,0≤b∧b < 256)→0≤iI l∧iI l < 256 ^ l.length
 | [],_=>by decide
 | b :: r,h=>by
  obtain ⟨h1,h2⟩:=h b aB
  obtain ⟨h3,h4⟩:=nQ (l:=r) fun x hx=>h x (aD _ hx)
  show 0≤b + 256 * iI r∧b + 256 * iI r < 256 ^ (r.length + 1)
  rw [jK]
  omega
theorem aIs {xs ys:List Int} {p w:Int} (h:AtP xs p.toNat ys) (hp:0≤p) (hw:w.toNat=ys.length) (hw0:0≤w):mS (xs.map Dx.int) (some p) (some (p + w))=ys.map Dx.int:=by
 have h1:=h.1
 unfold mS
 have e1:p=((p.toNat:Nat):Int):=by omega
 have e2:p + w=((p.toNat + ys.length:Nat):Int):=by omega
 rw [e2,e1,HT.sIx_nat,HT.sIx_nat,aE,Nat.min_eq_left (by omega),Nat.min_eq_left (by omega),← List.map_drop,← List.map_take,cL,eL,h.cut]
theorem kb_ {xs:List Int}:∀ (n:Nat) (kd:Kd) (v u:Vd) (p:Nat),kd.deep≤n→kd.Fit→kd.Val v→kd.Val u→kd.Ag xs p v→kd.Ag xs p u→v=u
 | 0,kd,_,_,_,hd,_,_,_,_,_=>by have:=Kd.deep_pos kd; omega
 | n + 1,.num w m,v,u,p,hd,hf,hv,hu,h,h'=>by
  obtain ⟨i,rfl,i0,i1⟩:=hc_ hv
  obtain ⟨j,rfl,j0,j1⟩:=hc_ hu
  simp only [Kd.Ag] at h h'
  have e:=h.uniq h' (by rw [ej_,ej_])
  rw [← ea_ w.toNat i i0 i1,e,ea_ w.toNat j j0 j1]
 | n + 1,.row k m,v,u,p,hd,hf,hv,hu,h,h'=>by
  obtain ⟨vs,rfl,h1,h2⟩:=fh_ hv
  obtain ⟨us,rfl,g1,g2⟩:=fh_ hu
  have Cw:k.deep + 1≤n + 1:=hd
  simp only [Kd.Ag] at h h'
  rw [mQ (l:=vs) (m:=us) (by omega) fun i a b e1 e2=>kb_ n k a b _ (by omega) hf.1 (h2 a (aJ e1)) (g2 b (aJ e2)) (h i a e1) (h' i b e2)]
 | n + 1,.rcd fs,v,u,p,hd,hf,hv,hu,h,h'=>by
  obtain ⟨vs,rfl,h2⟩:=fi_ hv
  obtain ⟨us,rfl,g2⟩:=fi_ hu
  have Cw:eJ fs + 1≤n + 1:=hd
  simp only [Kd.Ag] at h h'
  have l1:=bz_ h2
  have l2:=bz_ g2
  have l3:=go_ (fs:=fs)
  rw [mQ (l:=vs) (m:=us) (by omega) fun i a b e1 e2=>by
   have hi:=(aF.mp e1).1
   have e3:=aA (l:=fs) (i:=i) (by omega)
   have e4:=aA (l:=dW 0 (rmF fs)) (i:=i) (by omega)
   obtain ⟨ff,fd⟩:=jV hf.1 (aJ e3)
   exact kb_ n _ a b _ (by omega) ff (fj_ h2 e3 e1) (fj_ g2 e3 e2) (rP h e3 e4 e1) (rP h' e3 e4 e2)]
 | n + 1,.cho ks,v,u,p,hd,hf,hv,hu,h,h'=>by
  obtain ⟨j,v1,k,rfl,hk,hv1⟩:=ek_ hv
  obtain ⟨j2,u1,k2,rfl,El,As⟩:=ek_ hu
  have Cw:eP ks + 1≤n + 1:=hd
  obtain ⟨kf,kdp⟩:=jA hf.1 (aJ hk)
  simp only [Kd.Ag] at h h'
  have ej:some (j:Int)=some (j2:Int):=h.1.symm.trans h'.1
  have Kg:j=j2:=by have:=ozI ej; omega
  subst Kg
  rw [hk] at El
  cases El
  rw [kb_ n k v1 u1 _ (by omega) kf hv1 As ((hy_ hk).mp h.2) ((hy_ hk).mp h'.2)]
theorem aFf {xs:List Int} {w m:Int} {p:Nat} (hb:∀ b∈xs,0≤b∧b < 256) (hw:1≤w) (hl:p + w.toNat≤xs.length):∃ i:Int,0≤i∧i < 256 ^ w.toNat∧AtP xs p (iZ w.toNat i):=by
 have Aj:((xs.drop p).take w.toNat).length=w.toNat:=by rw [bT,iG]; omega
 have Nq:∀ b∈(xs.drop p).take w.toNat,0≤b∧b < 256:=fun b h=>hb b (List.mem_of_mem_drop (List.mem_of_mem_take h))
 obtain ⟨n0,n1⟩:=nQ Nq
 rw [Aj] at n1
 refine ⟨iI ((xs.drop p).take w.toNat),n0,n1,?_⟩
 have e:=sT _ Nq
 rw [Aj] at e
 rw [e]
 refine AtP.of_get (by omega) fun i hi => ?_
 rw [gM (by omega),List.getElem?_drop]
theorem uF:∀ {ks:List Kd} {j:Nat} {k:Kd} {v:Vd},ks[j]? = some k→k.Val v→kP ks j v
 | [],_,_,_,h,_=>by simp at h
 | k' :: _,0,k,v,h,hv=>by simp at h; subst h; simp only [kP]; exact hv
 | _ :: r,j + 1,k,v,h,hv=>by simp only [kP]; exact uF (by simpa using h) hv
theorem wG {k:Kd} {m:Int} {t:Nat} (hf:(Kd.row k m).Fit) (ht:t < m.toNat):t * (up k.rm.1 k.rm.2).toNat + k.rm.1.toNat≤(Kd.row k m).rm.1.toNat:=by
 obtain ⟨f1,f2,f3⟩:=hf
 obtain ⟨c0,c1,c2,c3⟩:=k.bd f1.ok
 obtain ⟨u1,u2⟩:=jN (n:=k.rm.1) (m:=k.rm.2) (by omega)
 have hR:(Kd.row k m).rm.1=((m.toNat * (up k.rm.1 k.rm.2).toNat:Nat):Int):=by show m * up k.rm.1 k.rm.2=_; push_cast; rw [cN (by omega),cN (by omega)]
 rw [hR,cL]
 have Fy:(t + 1) * (up k.rm.1 k.rm.2).toNat≤m.toNat * (up k.rm.1 k.rm.2).toNat:=Nat.mul_le_mul_right _ ht
 rw [jD,Nat.one_mul] at Fy
 omega
theorem wH {fs:List (Str×Kd)} {t:Nat} {f:Str×Kd} {q:Int} (hf:(Kd.rcd fs).Fit) (h1:fs[t]? = some f) (h2:(dW 0 (rmF fs))[t]? = some q):0≤q∧q.toNat + f.2.rm.1.toNat≤(Kd.rcd fs).rm.1.toNat:=by
 have ff:=(jV hf.1 (aJ h1)).1
 obtain ⟨c0,c1,c2,c3⟩:=f.2.bd ff.ok
 obtain ⟨l1,l2⟩:=fu_ (e:=0) (aKk hf.1) (mH h1) h2
 have x0:1≤maxL 1 ((rmF fs).map (·.2)):=gt_ _
 obtain ⟨u1,u2⟩:=jN (n:=dB 0 (rmF fs)) (m:=maxL 1 ((rmF fs).map (·.2))) (by omega)
 have Fl:(Kd.rcd fs).rm.1=up (dB 0 (rmF fs)) (maxL 1 ((rmF fs).map (·.2))):=rfl
 have l0:0≤q:=by omega
 exact ⟨l0,by rw [Fl,← iT l0 c0]; exact Int.toNat_le_toNat (by omega)⟩
theorem jn_ {ks:List Kd} {j:Nat} {k:Kd} (hf:(Kd.cho ks).Fit) (hk:ks[j]? = some k):(up 1 (Kd.cho ks).rm.2).toNat + k.rm.1.toNat≤(Kd.cho ks).rm.1.toNat:=by
 obtain ⟨kf,kdp⟩:=jA hf.1 (aJ hk)
 obtain ⟨c0,c1,c2,c3⟩:=k.bd kf.ok
 have x0:1≤maxL 1 ((rmK ks).map (·.2)):=gt_ _
 have Ii:k.rm∈rmK ks:=aJ (oZ hk)
 have Dw:k.rm.1≤maxL 0 ((rmK ks).map (·.1)):=gg_ (dE Ii)
 obtain ⟨u1,u2⟩:=jN (n:=up 1 (maxL 1 ((rmK ks).map (·.2))) + maxL 0 ((rmK ks).map (·.1))) (m:=maxL 1 ((rmK ks).map (·.2))) (by omega)
 rw [eo_ x0] at u1 u2
 have eR:(Kd.cho ks).rm.1=up (maxL 1 ((rmK ks).map (·.2)) + maxL 0 ((rmK ks).map (·.1))) (maxL 1 ((rmK ks).map (·.2))):=by show up (up 1 _ + _) _=_; rw [eo_ x0]
 have eu:up 1 (Kd.cho ks).rm.2=maxL 1 ((rmK ks).map (·.2)):=by show up 1 (maxL 1 ((rmK ks).map (·.2)))=_; exact eo_ x0
 rw [eR,eu,← iT (by omega) c0]
 exact Int.toNat_le_toNat (by omega)
def gNA:GC:=fun ds Q => ∃ (w p i:Int) (xs:List Int),ds=[.int w,.lst (xs.map Dx.int),.int p]∧0≤w∧w≤8∧0≤p∧0≤i∧i < 256 ^ w.toNat∧AtP xs p.toNat (iZ w.toNat i)∧Q (.tr (.int i))
def RdQ (C:Addr) (kd:Kd) (xs:List Int) (p:Nat) (Q:Sv→Prop) (Ex:ExT):Prop:=(∀ vd,kd.Val vd→kd.Ag xs p vd→Q (kd.vx vd).own)∧((¬ ∃ vd,kd.Val vd∧kd.Ag xs p vd)→Ex (.ref C))
def RdP (kd:Kd) (n:Nat) (xs:List Int) (p:Int):Prop:=kd.Fit∧kd.deep≤n∧n≤12∧0≤p∧xs.length≤100000∧(∀ b∈xs,0≤b∧b < 256)∧p.toNat + kd.rm.1.toNat≤xs.length
def l8 (C:Addr) (n:Nat):GE:=fun ds Q Ex => ∃ (kd:Kd) (xs:List Int) (p:Int),ds=[kd.x,.lst (xs.map Dx.int),.int p]∧RdP kd n xs p∧RdQ C kd xs p.toNat Q Ex
def aXv (C:Addr) (n:Nat):GE:=fun ds Q Ex => ∃ (fs:List (Str×Kd)) (xs:List Int) (p:Int),ds=[.lst (xF fs),.lst (xs.map Dx.int),.int p]∧RdP (.rcd fs) (n + 1) xs p∧RdQ C (.rcd fs) xs p.toNat Q Ex
def aXz (C:Addr) (n:Nat):GE:=fun ds Q Ex => ∃ (ks:List Kd) (xs:List Int) (p:Int),ds=[(Kd.cho ks).x,.lst (xs.map Dx.int),.int p]∧RdP (.cho ks) (n + 1) xs p∧RdQ C (.cho ks) xs p.toNat Q Ex
section
variable {f:Addr} {n j jR jP:Nat} {Ac:Addr}
theorem aRp (F:Fun K "number_at" "number_at" ey_ f fd) (Ah:∃ t,mg "HOW_MANY_BYTES" = some (.int 256 t)) (Aw:mg "reversed" = none):FnOk P w K mg base CX0 1 f fd BC (spX gNA):=by
 refine lU F iV (fun ds Q h=>by obtain ⟨_,_,_,_,rfl,_⟩:=h; rfl) (by decide) fun Ak A outer s H E hr => ?_
 refine ⟨_,(dO (eS (i:=3) iV.nd rfl (Or.inl rfl) dH)
  (dO (wM PassesOwn.never rfl (aPh Aw (bF (m_ K (bE (pv 1)) (zX (bE (pv 2))) (zX (iD (bE (pv 2)) (bE (pv 0))))) bX)) (gG (i:=4) iV.nd rfl (Or.inl rfl)) (kJ (n:=99) (i:=4) (by decide)) (eF (eS (i:=3) iV.nd rfl (Or.inl rfl) (iD (qT (bE (pv 3)) (nJ (by rfl) Ah)) (bE (pv 4))))))
  (eF (gD (tQ (pv 3)))))),fun ds Q h => ?_⟩
 obtain ⟨w,p,i,xs,rfl,w0,w1,p0,i0,i1,ha,q⟩:=h
 have hl:=ej_ w.toNat i
 have hr:=fr_ w.toNat i
 have hv:=ea_ w.toNat i i0 i1
 generalize iZ w.toNat i=ys at *
 have hc:=aIs ha p0 hl.symm w0
 show iJ _ _ _ (mS (xs.map Dx.int) (some p) (some (p + w))).reverse _
 rw [hc,← List.map_reverse]
 refine xH _ (fun rest ρ => ∃ (done:List Int) (y:Sl),ys=rest.reverse ++ done∧ρ=[vT (.int w),vT (.lst (xs.map Dx.int)),vT (.int p),vT (.int (iI done)),y]) (fun ρ h => ?_) (fun b rest ρ Kn h hk => ?_) ⟨[],.un,by rw [List.reverse_reverse,bZ],rfl⟩
 ·obtain ⟨done,y,e,rfl⟩:=h
  rw [List.reverse_nil,aZ] at e
  rw [e] at hv
  rw [← hv] at q
  exact q
 ·obtain ⟨done,y,e,rfl⟩:=h
  rw [hZ,bD] at e
  have hd:∀ c∈done,0≤c∧c < 256:=fun c hc=>hr c (by rw [e]; exact aK _ (aK _ hc))
  obtain ⟨n0,n1⟩:=nQ hd
  have Ht:done.length≤8:=by
   have:=congrArg List.length e
   rw [aC,aC] at this
   have:ys.length≤8:=by omega
   omega
  have n2:iI done < 256 ^ 8:=Int.lt_of_lt_of_le n1 (uW Ht)
  have k':=hk [vT (.int w),vT (.lst (xs.map Dx.int)),vT (.int p),vT (.int (iI (b :: done))),vT (.int b)] ⟨b :: done,_,e,rfl⟩
  have e3:iI (b :: done)=iI done * 256 + b:=by show b + 256 * iI done=_; omega
  rw [e3] at k'
  exact ⟨⟨by omega,by decide⟩,k'⟩
theorem aLk (F:Fun K "record_at" "record_at" ex_ f fd) (Ej:rQ P w K mg base j "value_at" AA (spE (l8 Ac n))) (M1:Cal P w K mg base jP "places_in_order" BF (spX (gPO n))) (m_zip:mg "zip" = none) (hj:jP≤j):FnOk P w K mg base (CXe P w) (j + 1) f fd AV (spE (aXv Ac n)):=by
 refine aMt F iU (fun ds Q Ex h=>by obtain ⟨_,_,_,rfl,_⟩:=h; rfl) (by decide) fun Ak A outer s H E Ex hr => ?_
 have As:=qK hr
 refine ⟨_,(dO (ag_ fun F=>ai_ (i:=3) iU.nd rfl (Or.inl rfl) (XE.at (Ex:=Ex) F is_))
  (dO (wM PassesOwn.leaving rfl (oK m_zip (bF (bE (pv 0)) (bF (fW M1 (hr.mono (by omega)) (bF (bE (pv 0)) bX)) bX))) (gq_ rfl (jY (gG (i:=4) iU.nd rfl (Or.inl rfl)) (jY (gG (i:=5) iU.nd rfl (Or.inl rfl)) tM))) (fe_ (n:=99) (is:=[4,5]) rfl (by decide)) (eF (qL fun F=>PS.weak (nO As (pv 3) (XE.at (Ex:=Ex) F (fC K (pv 4))) (XE.at (Ex:=Ex) F (fp_ Ej (hr.mono (by omega)) (bF (fC K (pv 4)) (bF (bE (pv 1)) (bF (iD (bE (pv 2)) (fC K (pv 5))) bX))))) rfl) nM)))
  (eF (gD (tQ (pv 3)))))),fun ds Q h => ?_⟩
 clear As hj
 obtain ⟨fs,xs,p,rfl,⟨Af,hd,hn,p0,hx,hb,hl⟩,qy,qn⟩:=h
 have Dd:=Af
 obtain ⟨f1,f2,f3,B6⟩:=Af
 have hok:=jq_ fs f1
 have Cw:eJ fs + 1≤n + 1:=hd
 have A9:=go_ (fs:=fs)
 refine ⟨fs,rfl,hok,by omega,by omega,by omega,?_⟩
 show iJ _ _ _ (iA (xF fs) ((fs.zip (dW 0 (rmF fs))).map fun x=>.tup [.str x.1.1,.int x.2])) _
 have ezz:iA (xF fs) ((fs.zip (dW 0 (rmF fs))).map fun x=>.tup [.str x.1.1,.int x.2])=(fs.zip (fs.zip (dW 0 (rmF fs)))).map fun q=>.tup [.tup [.str q.1.1,q.1.2.x],.tup [.str q.2.1.1,.int q.2.2]]:=by rw [xE,do_]
 rw [ezz]
 have Ft:(fs.zip (fs.zip (dW 0 (rmF fs)))).length=fs.length:=by rw [cM,cM]; omega
 refine xH _ (fun rest ρ => ∃ (i:Nat) (vs:List Vd) (y4 y5:Sl),rest=(fs.zip (fs.zip (dW 0 (rmF fs)))).drop i∧i≤fs.length∧vs.length=i∧(∀ (t:Nat) (f:Str×Kd) (q:Int) (v:Vd),fs[t]? = some f→(dW 0 (rmF fs))[t]? = some q→vs[t]? = some v→f.2.Val v∧f.2.Ag xs (p.toNat + q.toNat) v)∧ρ=[vT (.lst (xF fs)),vT (.lst (xs.map Dx.int)),vT (.int p),.v (.od (vxF (fs.take i) vs)),y4,y5]) (fun ρ h => ?_) (fun a rest ρ Kn h hk => ?_) ⟨0,[],.un,.un,rfl,cK _,rfl,fun t f q v _ _ h=>by simp at h,by simp only [List.take_zero,vxF]; rfl⟩
 ·obtain ⟨i,vs,y4,y5,e,hi,Cv,Au,rfl⟩:=h
  have Fk:=gK.mp e.symm
  rw [Ft] at Fk
  have:i=fs.length:=by omega
  subst this
  rw [List.take_length]
  have hv:(Kd.rcd fs).Val (.rcd vs):=by
   simp only [Kd.Val]
   exact uG Cv fun t f v e1 e2=>by
    have ht:=(aF.mp e1).1
    exact (Au t f _ v e1 (aA (by omega)) e2).1
  have:=qy (.rcd vs) hv (by simp only [Kd.Ag]; exact wX A9 Cv fun t f q v e1 e2 e3=>(Au t f q v e1 e2 e3).2)
  simp only [Kd.vx] at this
  exact this
 ·obtain ⟨i,vs,y4,y5,e,hi,Cv,Au,rfl⟩:=h
  obtain ⟨e1,e2⟩:=cw_ e
  obtain ⟨e5,e4⟩:=cJ.mp e1
  obtain ⟨e7,e8⟩:=cJ.mp e4
  have Bw:=(aF.mp e5).1
  obtain ⟨ff,fdp⟩:=jV f1 (aJ e5)
  obtain ⟨l1,l2⟩:=wH Dd e5 e8
  have Br:vs.length=(fs.take i).length:=by rw [bT]; omega
  have C8:(Sum.inr a.1.1:Key)∉(vxF (fs.take i) vs).map (·.1):=by
   rw [ev_ Br]
   intro hm
   obtain ⟨g,hg,eg⟩:=cP.mp hm
   have eg':g.1=a.1.1:=Sum.inr.inj eg
   obtain ⟨m,Hk⟩:=dM hg
   have Il:m < i:=by have:=(aF.mp Hk).1; rw [bT] at this; omega
   rw [gM Il] at Hk
   have n1:(fs.map (·.1))[m]? = some a.1.1:=by rw [bG,Hk,← eg']; rfl
   have n2:(fs.map (·.1))[i]? = some a.1.1:=by rw [bG,e5]; rfl
   have:=(List.getElem?_inj (by rw [aE]; omega) B6).mp (n1.trans n2.symm)
   omega
  have Bq:(p + a.2.2).toNat=p.toNat + a.2.2.toNat:=iT p0 l1
  have Ji:(vxF (fs.take i) vs).length≤100000:=by rw [oQ Br,bT]; omega
  refine ⟨a.1.2,xs,p + a.2.2,rfl,⟨ff,by omega,by omega,by omega,hx,hb,by omega⟩,fun vd hv A4 => ?_,fun Az=>qn ?_⟩
  ·rw [Bq] at A4
   have Ba:=hk [vT (.lst (xF fs)),vT (.lst (xs.map Dx.int)),vT (.int p),.v (.od (vxF (fs.take (i + 1)) (vs ++ [vd]))),vT (.tup [.str a.1.1,a.1.2.x]),vT (.tup [.str a.2.1.1,.int a.2.2])] ⟨i + 1,vs ++ [vd],_,_,e2,Bw,by rw [aC,Cv]; rfl,fun t f q v g1 g2 g3 => ?_,rfl⟩
   ·rw [cv_ e5,ia_ Br,← ii_ C8] at Ba
    have El:Kn [vT (.lst (xF fs)),vT (.lst (xs.map Dx.int)),vT (.int p),.v (.od (yD (vxF (fs.take i) vs) (Sum.inr a.1.1) (a.1.2.vx vd).own.d)),vT (.tup [.str a.1.1,a.1.2.x]),vT (.tup [.str a.2.1.1,.int a.2.2])]:=by rw [lG]; exact Ba
    exact ⟨⟨_,rfl⟩,by omega,El⟩
   ·by_cases ht:t < i
    ·rw [bS (by omega)] at g3
     exact Au t f q v g1 g2 g3
    ·have Cr:=(aF.mp g3).1
     rw [aC,Cv] at Cr
     have et:t=i:=by have:t < i + 1:=Cr; omega
     subst et
     rw [aY (by omega),Cv,gH] at g3
     cases g3
     rw [e5] at g1
     cases g1
     rw [e8] at g2
     cases g2
     exact ⟨hv,A4⟩
  ·rintro ⟨vd,hv,A4⟩
   obtain ⟨us,rfl,g2⟩:=fi_ hv
   simp only [Kd.Ag] at A4
   have l1':=bz_ g2
   have e9:=aA (l:=us) (i:=i) (by omega)
   refine Az ⟨_,fj_ g2 e5 e9,?_⟩
   rw [Bq]
   exact rP A4 e5 e8 e9
theorem aLp (F:Fun K "choice_at" "choice_at" fa_ f fd) (Ej:rQ P w K mg base j "value_at" AA (spE (l8 Ac n))) (Fe:Cal P w K mg base jR "room_of" AG (spX (gRO (n + 1)))) (Kk:Cal P w K mg base 2 "chosen_at" BE (spX gCA)) (Ae:mg "len" = none) (Bk:PyProof.Rows.OwnCls "NoBytes" Ac veM "ValueError.__new__" mg base) (hj:jR≤j) (J1:2≤j):FnOk P w K mg base (CXe P w) (j + 1) f fd AA (spE (aXz Ac n)):=by
 refine aMt F lR (fun ds Q Ex h=>by obtain ⟨_,_,_,rfl,_⟩:=h; rfl) (by decide) fun Ak A outer s H E Ex hr => ?_
 have As:=qK hr
 refine ⟨_,(dO (ag_ fun F=>ai_ (i:=3) lR.nd rfl (Or.inl rfl) (XE.at (Ex:=Ex) F (jZ K (bE (pv 1)) (bE (pv 2)) (fun _ _=>rfl))))
  (dO (iE (iM aGk aGc (bE (pv 3)) (mX (wU K) zK (by rfl) Ae PySem.boot_len (bF (fC K (pv 0)) bX)) (bY _)) (eF (oJ Bk rfl (by rfl))) jE)
  (eF (gD (zN (bF (bE (pv 3)) (bF (fp_ Ej (hr.mono (by omega)) (bF (jZ K (fC K (pv 0)) (bE (pv 3)) (fun _ _=>rfl)) (bF (bE (pv 1)) (bF (iD (bE (pv 2)) (fW Kk (hr.mono (by omega)) (bF (jZ K (fW Fe (hr.mono (by omega)) (bF (bE (pv 0)) bX)) dH (fun _ _=>rfl)) bX))) bX)))) bX))))))),fun ds Q h => ?_⟩
 clear As hj J1
 obtain ⟨ks,xs,p,rfl,⟨Af,hd,hn,p0,hx,hb,hl⟩,qy,qn⟩:=h
 have Dd:=Af
 obtain ⟨f1,f2,f3⟩:=Af
 have Cw:eP ks + 1≤n + 1:=hd
 obtain ⟨b0,b1,b2,b3⟩:=(Kd.cho ks).bd Dd.ok
 have h00:=jn_ Dd (aA (l:=ks) (i:=0) (by omega))
 obtain ⟨v1,v2⟩:=jN (n:=1) (m:=(Kd.cho ks).rm.2) (by omega)
 have A9:p.toNat < xs.length:=by omega
 obtain ⟨mk,E7⟩ : ∃ mk,xs[p.toNat]? = some mk:=⟨_,aA A9⟩
 obtain ⟨m0,m1⟩:=hb mk (aJ E7)
 have Gq:ixX (.lst (xs.map Dx.int)) (.int p)=fun Q=>Q (.tr (.int mk)):=by
  have hm:(xs.map Dx.int)[p.toNat]? = some (.int mk):=by rw [bG,E7]; rfl
  have:=em_ hm
  rw [show ((p.toNat:Nat):Int)=p from by omega] at this
  funext Q
  simp only [ixX,this]
 have Go:(xK ks).length=ks.length:=by rw [sE,aE]
 refine xD ?_
 refine oA (rR rfl (rR rfl ?_))
 show ixX (.lst (xs.map Dx.int)) (.int p) _
 rw [Gq]
 dsimp only
 change cV _ _ [vT (Kd.cho ks).x,vT (.lst (xs.map Dx.int)),vT (.int p),vT (.int mk)] _
 by_cases Ml:ks.length≤mk.toNat
 ·show if decide (((xK ks).length:Int)≤mk)=true then Ex (.ref Ac) else _
  rw [if_pos (dzT (by omega))]
  refine qn ?_
  rintro ⟨vd,hv,A4⟩
  obtain ⟨jj,v,k,rfl,hk,Fg⟩:=ek_ hv
  simp only [Kd.Ag] at A4
  have:=A4.1
  rw [E7] at this
  have e:=ozI this
  have:=(aF.mp hk).1
  omega
 ·obtain ⟨jj,Gp⟩ : ∃ jj:Nat,(jj:Int)=mk:=⟨mk.toNat,by omega⟩
  have J0:jj < ks.length:=by omega
  obtain ⟨k,hk⟩ : ∃ k,ks[jj]? = some k:=⟨_,aA J0⟩
  obtain ⟨kf,kdp⟩:=jA f1 (aJ hk)
  have Gi:(xK ks)[jj]? = some k.x:=by rw [sE,bG,hk]; rfl
  have F3:=em_ Gi
  rw [Gp] at F3
  have Nl:=jn_ Dd hk
  refine m7 (ρ':=[vT (Kd.cho ks).x,vT (.lst (xs.map Dx.int)),vT (.int p),vT (.int mk)]) (fun Q q => ?_) ?_
  ·show Q (decide (((xK ks).length:Int)≤mk)) _
   rw [dzF (by omega)]
   exact q
  ·simp only [cV,fM,xIf,xB,xOp,bW,xC,eU,iW,dS,bL,dD,xN,ixX,iL,gI,sB,mI,fY,fA,fV,ec_,eb_,pR,rM,rL,rK,rJ,rH,rG,rF,rE,rB,rA,pY,pX,pW,bK,bO,cH,cA,Sv.d,aP,bP,dJ,dC,bU,aZ,aM,aU,bH,cB,Nat.reduceAdd,Nat.reduceSub,Nat.reduceLeDiff,true_and,decide_eq_true_eq,cut,iP,back,eC,if_true,↓reduceIte,dF,eI,aEa,F3,Kd.x]
   obtain ⟨u1,u2⟩:=jN (n:=1) (m:=(Kd.cho ks).rm.2) (by omega)
   have Bq:(p + up 1 (Kd.cho ks).rm.2).toNat=p.toNat + (up 1 (Kd.cho ks).rm.2).toNat:=iT p0 (Int.le_trans (by decide) u1)
   refine ⟨.cho ks,rfl,Dd.ok,by show eP ks + 1≤n + 1; omega,by omega,(Kd.cho ks).rm.2,rfl,by omega,by omega,k,xs,p + up 1 (Kd.cho ks).rm.2,rfl,⟨kf,by omega,by omega,by omega,hx,hb,by omega⟩,fun v hv A4 => ?_,fun Az=>qn ?_⟩
   ·rw [Bq] at A4
    have q:=qy (.cho jj v) (by simp only [Kd.Val]; exact uF hk hv) (by simp only [Kd.Ag]; exact ⟨by rw [E7,Gp],(hy_ hk).mpr A4⟩)
    simp only [Kd.vx] at q
    rw [iu_ hk,Gp] at q
    show Q (.tr (.tup [.int mk,(k.vx v).own.d]))
    rw [lG]
    exact q
   ·rintro ⟨vd,hv,A4⟩
    obtain ⟨j2,v,k2,rfl,El,Fg⟩:=ek_ hv
    simp only [Kd.Ag] at A4
    have ej:=A4.1
    rw [E7] at ej
    have e:=ozI ej
    have Kg:j2=jj:=by omega
    subst Kg
    rw [hk] at El
    cases El
    refine Az ⟨v,Fg,?_⟩
    rw [Bq]
    exact (hy_ hk).mp A4.2
theorem aLh (F:Fun K "value_at" "value_at" ep_ f fd) (CNA:Cal P w K mg base 1 "number_at" BC (spX gNA)) (Ej:rQ P w K mg base j "value_at" AA (spE (l8 Ac n))) (Fe:Cal P w K mg base jR "room_of" AG (spX (gRO n))) (Kh:Cal P w K mg base 2 "step_of" BD (spX gSO)) (M0:rQ P w K mg base (j + 1) "record_at" AV (spE (aXv Ac n))) (M5:rQ P w K mg base (j + 1) "choice_at" AA (spE (aXz Ac n))) (m_range:mg "range" = none) (hj:jR≤j) (J1:2≤j):FnOk P w K mg base (CXe P w) (j + 2) f fd AA (spE (l8 Ac (n + 1))):=by
 refine aMt F nB (fun ds Q Ex h=>by obtain ⟨_,_,_,rfl,_⟩:=h; rfl) (by decide) fun Ak A outer s H E Ex hr => ?_
 have As:=qK hr
 have Am:=bV As
 refine ⟨_,(dO (iE (iM (kO K Am) kL (fC K (pv 0)) lI (bY _)) (eF (gD (fW CNA (hr.mono (by omega)) (bF (fC K (pv 0)) (bF (bE (pv 1)) (bF (bE (pv 2)) bX)))))) jE)
  (dO (iE (iM (kO K Am) kL (fC K (pv 0)) lI (bY _)) (dO (ag_ fun F=>ai_ (i:=3) nB.nd rfl (Or.inr rfl) (XE.at (Ex:=Ex) F (fW Kh (hr.mono (by omega)) (bF (fW Fe (hr.mono (by omega)) (bF (fC K (pv 0)) bX)) bX))))
  (eF (gD (aDt (dsc:=aQ ep_) (N:=["kind","some","place","step"]) (tgs:=["k"]) (outs:=[0,1,2,3]) (N':=["k","kind","some","place","step"]) (by refine ⟨rfl,?_,?_,?_,rfl,?_,?_,?_⟩ <;> decide +kernel) (cg_ m_range (bF (fC K (pv 0)) bX)) (fun _ _ _ _ _=>(gG (i:=0) (show (["k","kind","some","place","step"]:List Str).Nodup by decide +kernel) rfl (Or.inl rfl) (.inr rfl))) (kJ (n:=1) (i:=0) (by decide)) (qZ (by decide)) (fun _ _ _ _ _=>mD) (fun _ _ _ _ _ _ _=>(fp_ Ej (hr.mono (by omega)) (bF (fC K (pv 1)) (bF (bE (pv 2)) (bF (iD (bE (pv 3)) (qT (bE (pv 0)) (bE (pv 4)))) bX))))))))) jE)
  (dO (iE (iM (kO K Am) kL (fC K (pv 0)) lI (bY _)) (eF (gD (fp_ M0 (hr.mono (by omega)) (bF (fC K (pv 0)) (bF (bE (pv 1)) (bF (bE (pv 2)) bX)))))) jE)
  (eF (gD (fp_ M5 (hr.mono (by omega)) (bF (bE (pv 0)) (bF (bE (pv 1)) (bF (bE (pv 2)) bX))))))))),fun ds Q h => ?_⟩
 clear Am As hj J1
 obtain ⟨kd,xs,p,rfl,hP,qy,qn⟩:=h
 have Gw:=hP
 obtain ⟨Af,hd,hn,p0,hx,hb,hl⟩:=hP
 cases kd with
 | num wd m =>
  obtain ⟨i,i0,i1,ha⟩:=aFf (m:=m) hb Af.1 (show p.toNat + wd.toNat≤xs.length from hl)
  have q:=qy (.num i) (by simp only [Kd.Val]; exact ⟨i0,i1⟩) (by simp only [Kd.Ag]; exact ha)
  simp only [Kd.vx] at q
  exact ⟨wd,p,i,xs,rfl,by have:=Af.1; omega,Af.2.1,p0,i0,i1,ha,q⟩
 | row k m =>
  have Cw:k.deep + 1≤n + 1:=hd
  have Dd:=Af
  obtain ⟨f1,f2,f3⟩:=Af
  obtain ⟨c0,c1,c2,c3⟩:=aNm (n:=n) f1.ok (by omega) (by omega)
  obtain ⟨u1,u2⟩:=jN (n:=k.rm.1) (m:=k.rm.2) (by omega)
  have Bb:((up k.rm.1 k.rm.2).toNat:Int)=up k.rm.1 k.rm.2:=cN (by omega)
  refine ⟨k,rfl,f1.ok,by omega,by omega,k.rm,rfl,c0,by omega,by omega,by omega,?_⟩
  refine ⟨⟨by omega,by omega⟩,?_⟩
  have Aj:(rZ 0 m.toNat).length≤1000000:=by unfold rZ; rw [aE,bR]; omega
  refine ⟨Aj,?_⟩
  show dX _ _ _ _ _ ((List.range m.toNat).map fun t:Nat=>Dx.int (0 + (t:Int))) _ _
  refine cb_ (fun t:Nat=>Dx.int (0 + (t:Int))) (fun rest Ad cs => ∃ vs:List Vd,rest=(List.range m.toNat).drop vs.length∧vs.length≤m.toNat∧Ad=vs.map k.vx∧(∀ (t:Nat) (v:Vd),vs[t]? = some v→k.Val v∧k.Ag xs (p.toNat + t * (up k.rm.1 k.rm.2).toNat) v)∧cs=[vT (Kd.row k m).x,vT (.lst (xs.map Dx.int)),vT (.int p),vT (.int (up k.rm.1 k.rm.2))]) (fun Ad cs h => ?_) (fun t rest Ad cs Pn h hk => ?_) ⟨[],rfl,cK _,rfl,fun t v h=>by simp at h,rfl⟩
  ·obtain ⟨vs,e,Cv,rfl,Au,rfl⟩:=h
   have Fk:=gK.mp e.symm
   rw [bR] at Fk
   have q:=qy (.row vs) (by simp only [Kd.Val]; exact ⟨by omega,fun v hv=>by obtain ⟨t,ht⟩:=dM hv; exact (Au t v ht).1⟩) (by simp only [Kd.Ag]; exact fun t v ht=>(Au t v ht).2)
   simp only [Kd.vx] at q
   exact q
  ·obtain ⟨vs,e,Cv,rfl,Au,rfl⟩:=h
   obtain ⟨e1,e2⟩:=cw_ e
   have Cr:=(aF.mp e1).1
   rw [bR] at Cr
   have et:t=vs.length:=by
    rw [List.getElem?_range Cr] at e1
    exact (ozI e1).symm
   subst et
   have Ce:=wG Dd Cr
   have Cf:(0 + (vs.length:Int)) * up k.rm.1 k.rm.2=((vs.length * (up k.rm.1 k.rm.2).toNat:Nat):Int):=by rw [Int.zero_add,← Bb]; push_cast; rfl
   have Bq:(p + (0 + (vs.length:Int)) * up k.rm.1 k.rm.2).toNat=p.toNat + vs.length * (up k.rm.1 k.rm.2).toNat:=by rw [Cf,iT p0 (Int.natCast_nonneg _),cL]
   refine ⟨⟨by omega,by omega⟩,k,xs,p + (0 + (vs.length:Int)) * up k.rm.1 k.rm.2,rfl,⟨f1,by omega,by omega,by rw [Cf]; omega,hx,hb,by rw [Bq]; omega⟩,fun vd hv A4 => ?_,fun Az=>qn ?_⟩
   ·rw [Bq] at A4
    show Pn (vs.map k.vx ++ [(k.vx vd).own.d]) _
    rw [lG]
    refine hk _ _ ⟨vs ++ [vd],by rw [aC]; exact e2,by rw [aC]; exact Cr,by rw [cU]; rfl,fun t v g3 => ?_,rfl⟩
    by_cases ht:t < vs.length
    ·rw [bS ht] at g3
     exact Au t v g3
    ·have Cr:=(aF.mp g3).1
     rw [aC] at Cr
     have et:t=vs.length:=by have:t < vs.length + 1:=Cr; omega
     subst et
     rw [aY (by omega),gH] at g3
     cases g3
     exact ⟨hv,A4⟩
   ·rintro ⟨vd,hv,A4⟩
    obtain ⟨us,rfl,g1,g2⟩:=fh_ hv
    simp only [Kd.Ag] at A4
    have e9:=aA (l:=us) (i:=vs.length) (by omega)
    refine Az ⟨_,g2 _ (aJ e9),?_⟩
    rw [Bq]
    exact A4 _ _ e9
 | rcd fs=>exact ⟨fs,xs,p,rfl,Gw,qy,qn⟩
 | cho ks=>exact ⟨ks,xs,p,rfl,Gw,qy,qn⟩
theorem aTg {j:Nat} {f:Addr} {fd:FuncData} {ps:List Str} {g:GE} (no:∀ ds Q Ex,¬ g ds Q Ex):FnOk P w K mg base (CXe P w) j f fd ps (spE g) :=
 ⟨fun vs H Q E h=>by obtain ⟨_,_,_,_,_,_,h3,_⟩:=h; exact (no _ _ _ h3).elim,fun A outer s H args us vs Q E hr he hb hv h=>by obtain ⟨_,_,_,_,_,_,h3,_⟩:=h; exact (no _ _ _ h3).elim⟩
theorem aEg:FnOk P w K mg base (CXe P w) j f fd AA (spE (l8 Ac 0)):=aTg fun ds Q Ex h=>by
 obtain ⟨kd,_,_,_,hP,_⟩:=h
 have:=Kd.deep_pos kd
 have:=hP.2.1
 omega
end
def o_ (kd:Kd) (d:Dx) (vd:Vd):Prop:=kd.Val vd∧d=.lst ((kd.byt vd).map Dx.int)
def aXt (C:Addr) (n:Nat):GE:=fun ds Q Ex => ∃ (kd:Kd) (d:Dx),ds=[kd.x,d]∧d.Sz∧kd.Fit∧kd.deep≤n∧n≤12∧kd.rm.1≤100000∧(∀ vd,o_ kd d vd→Q (.tr (kd.vx vd)))∧((¬ ∃ vd,o_ kd d vd)→Ex (.ref C))
theorem pZ {xs ys:List Int} (h:xs.map Dx.int=ys.map Dx.int):xs=ys:=by
 have:=congrArg (List.map fun d:Dx=>match d with | .int i=>i | _=>0) h
 rw [cQ,cQ] at this
 have e:((fun d:Dx=>match d with | .int i=>i | _=>0) ∘ Dx.int)=id:=rfl
 rwa [e,List.map_id,List.map_id] at this
theorem aIn {kd:Kd} {d:Dx} {vd:Vd} (hf:kd.Fit) (h:o_ kd d vd):abD d kd.rm.1=true:=by
 obtain ⟨hv,rfl⟩:=h
 obtain ⟨b0,b1,b2,b3⟩:=kd.bd hf.ok
 have hl:=Kd.byt_len hv
 show (decide ((((kd.byt vd).map Dx.int).length:Int)=kd.rm.1) && ((kd.byt vd).map Dx.int).all byD)=true
 rw [dzT (by rw [aE]; omega),aYt (oE kd vd hf hv)]
 rfl
section
variable {f:Addr} {n j jR jB:Nat} {Ac:Addr}
theorem aLi (F:Fun K "value_of" "value_of" hg_ f fd) (CAB:Cal P w K mg base 3 "are_bytes" AW (spX aYa)) (Fe:Cal P w K mg base jR "room_of" AG (spX (gRO n))) (Ej:rQ P w K mg base j "value_at" AA (spE (l8 Ac n))) (Kj:Cal P w K mg base jB "laid_bytes" AE (spX (gLB n))) (hj:jR≤j) (Lz:jB≤j) (hj3:3≤j) (Bk:PyProof.Rows.OwnCls "NoBytes" Ac veM "ValueError.__new__" mg base):FnOk P w K mg base (CXe P w) (j + 1) f fd AI (spE (aXt Ac n)):=by
 refine aMt F nA (fun ds Q Ex h=>by obtain ⟨_,_,rfl,_⟩:=h; rfl) (by decide) fun Ak A outer s H E Ex hr => ?_
 have As:=qK hr
 have Am:=bV As
 refine ⟨_,(dO (iE (ff_ (xG (fW CAB (hr.mono (by omega)) (bF (bE (pv 1)) (bF (jZ K (fW Fe (hr.mono (by omega)) (bF (bE (pv 0)) bX)) dH (fun _ _=>rfl)) bX))))) (eF (oJ Bk rfl (by rfl))) jE)
  (dO (ag_ fun F=>ai_ (i:=2) nA.nd rfl (Or.inl rfl) (XE.at (Ex:=Ex) F (fp_ Ej (hr.mono (by omega)) (bF (bE (pv 0)) (bF (bE (pv 1)) (bF dH bX))))))
  (dO (iE (iM (aGh Am) aGd (fW Kj (hr.mono (by omega)) (bF (bE (pv 0)) (bF (bE (pv 2)) bX))) (bE (pv 1)) (bY _)) (eF (oJ Bk rfl (by rfl))) jE)
  (eF (gD (tQ (pv 2))))))),fun ds Q h => ?_⟩
 clear Am As hj Lz hj3
 obtain ⟨kd,d,rfl,hsz,Af,hd,hn,C7,qy,qn⟩:=h
 obtain ⟨b0,b1,b2,b3⟩:=kd.bd Af.ok
 cases F4:abD d kd.rm.1 with
 | false =>
  refine ⟨kd,rfl,Af.ok,hd,hn,?_⟩
  refine ⟨d,kd.rm.1,rfl,hsz,?_⟩
  rw [F4]
  exact qn fun ⟨vd,h⟩=>by rw [aIn Af h] at F4; cases F4
 | true =>
  refine m7 (ρ':=[vT kd.x,vT d,.un]) (fun Q q => ?_) ?_
  ·refine ⟨kd,rfl,Af.ok,hd,hn,?_⟩
   refine ⟨d,kd.rm.1,rfl,hsz,?_⟩
   rw [F4]
   exact q
  cases d <;> simp only [abD,eZ] at F4
  rename_i l
  rw [cZ,decide_eq_true_eq] at F4
  obtain ⟨hl,Ge⟩:=F4
  obtain ⟨xs,rfl,K9⟩:=wY Ge
  rw [aE] at hl
  have A4:∀ {vd},o_ kd (.lst (xs.map Dx.int)) vd→kd.Val vd∧xs=kd.byt vd∧kd.Ag xs 0 vd:=fun {vd} h=>by
   have e:=pZ (Dx.lst.inj h.2)
   exact ⟨h.1,e,c9 kd.deep kd vd 0 (aV _) Af h.1 (by rw [e]; exact AtP.self _)⟩
  refine ⟨kd,xs,0,rfl,⟨Af,hd,hn,by decide,by omega,K9,by show 0 + _≤_; omega⟩,fun vd An ha => ?_,fun Az=>qn fun ⟨vd,h⟩=>Az ⟨vd,(A4 h).1,(A4 h).2.2⟩⟩
  dsimp only
  refine ⟨kd,vd,(kd.vx vd).own.d,rfl,by rw [lG]; exact vV kd vd Af An,Af,An,hd,hn,C7,?_⟩
  refine ⟨kd.byt vd,xs,rfl,rfl,?_⟩
  by_cases e:xs=kd.byt vd
  ·show if (!decide (kd.byt vd=xs))=true then _ else _
   rw [dzT e.symm]
   show Q (.tr (kd.vx vd).own.d)
   rw [lG]
   exact qy vd ⟨An,by rw [e]⟩
  ·show if (!decide (kd.byt vd=xs))=true then _ else _
   rw [dzF fun z=>e z.symm]
   refine qn fun ⟨v2,h⟩ => ?_
   obtain ⟨g1,g2,g3⟩:=A4 h
   rw [kb_ kd.deep kd vd v2 0 (aV _) Af An g1 ha g3] at e
   exact e g2
end
def l9 (n:Nat):GC:=fun ds Q => ∃ (kd:Kd) (xs:List Int) (p:Int),ds=[kd.x,.lst (xs.map Dx.int),.int p]∧RdP kd n xs p∧n≤5∧(∀ vd s,kd.Val vd→kd.Ag xs p.toNat vd→s.d=kd.vx vd→Q s)∧((¬ ∃ vd,kd.Val vd∧kd.Ag xs p.toNat vd)→Q (.tr .non))
def u4 (n : Nat) : XS := (cV (xIf (xB (xOp eqX (xOp ixX (bW 0) (xC (.int 0))) (xC (.str "number")))) (cV (eU 3 (xC (.int 0)))
    (cV (lA (xiL (aNu (xSl (bW 1) (xoS (bW 2)) (xoS (xOp iL (bW 2) (xOp ixX (bW 0) (xC (.int 1)))))))) (gxN 4) (eU 3 (xOp iL (xOp sA (xC (.int 256)) (bW 3)) (bW 4))))
    (iW (jO 3)))) fM)
    (cV (xIf (xB (xOp eqX (xOp ixX (bW 0) (xC (.int 0))) (xC (.str "choice")))) (cV (eU 5 (dS yL (bL (iR 1 [] (xiL (xOp ixX (bW 0) (xC (.int 1)))) (gxN 0) lO (xOp ixX (dS (gLM 5) (bL (bW 0) dD)) (xC (.int 1)))) dD)))
    (cV (eU 6 (xOp ixX (bW 1) (bW 2)))
    (cV (xIf (xB (xOp geX (bW 6) (dS sB (bL (xOp ixX (bW 0) (xC (.int 1))) dD)))) (iW (xC .non)) fM)
    (cV (eU 7 (dS (l9 n) (bL (xOp ixX (xOp ixX (bW 0) (xC (.int 1))) (bW 6)) (bL (bW 1) (bL (xOp iL (bW 2) (dS gLR (bL (xC (.int 1)) (bL (bW 5) dD)))) dD)))))
    (iW (xOp ixX (jF (bL (xN (bL (bW 6) (bL (bW 7) dD))) (bL (xC .non) dD))) (dS aCi (bL (xOp (vY false) (bW 7) (xC .non)) dD)))))))) fM)
    (cV (xIf (xB (xOp eqX (xOp ixX (bW 0) (xC (.int 0))) (xC (.str "row")))) (eU 8 (xOp sA (jF (bL (xOp ixX (bW 0) (xC (.int 1))) dD)) (xOp ixX (bW 0) (xC (.int 2))))) (eU 8 (iR 2 [] (xiL (xOp ixX (bW 0) (xC (.int 1)))) (gxT [0,1]) lO (bW 1))))
    (cV (eU 9 (jF dD))
    (cV (eU 10 (xC (.int 0)))
    (cV (lA (xiL (bW 8)) (gxN 11) (cV (aVl (dS (gLM 5) (bL (bW 11) dD)) (gxL [12,13]))
    (cV (eU 10 (dS gLR (bL (bW 10) (bL (bW 13) dD))))
    (cV (aBc 9 (dS (l9 n) (bL (bW 11) (bL (bW 1) (bL (xOp iL (bW 2) (bW 10)) dD)))))
    (eU 10 (xOp iL (bW 10) (bW 12)))))))
    (cV (xIf (xB (xOp aSt (xC .non) (bW 9))) (iW (xC .non)) fM)
    (cV (xIf (xB (xOp eqX (xOp ixX (bW 0) (xC (.int 0))) (xC (.str "row")))) (iW (jO 9)) fM)
    (cV (eU 3 xO)
    (cV (lA (xiZ (bL (xOp ixX (bW 0) (xC (.int 1))) (bL (bW 9) dD))) (aAa 2 (qD (aAa 2 (qD (gxN 14) (qD (gxN 11) aHv))) (qD (gxN 7) aHv))) (p_ 3 (bW 14) (bW 7)))
    (iW (jO 3))))))))))))
section
variable {f:Addr} {n j jM:Nat}
theorem aIq (D2:Cal P w K mg base jM "_law_room" AG (spX (gLM 5))) (Fp:Cal P w K mg base 1 "_law_rounded" AD (spX gLR)) (Ff:Cal P w K mg base j "_law_read" AL (spX (l9 n))) (m_max:mg "max" = none) (Ae:mg "len" = none) (m_int:mg "int" = none) (m_zip:mg "zip" = none) (hj:jM≤j) (J2:1≤j)
  {Ak:Value} {A:Around} {outer:List Env} {s:Shared} {H:Hp} {E:XK} (hr:Room j (A.deeper (PyProof.Rows.envOfC "_law_read" (aQ cp_) s.heap.objs.size f Ak))) :
  XSs (lM CX0 P w K mg base (["kind","row","begin","found","byte","most","k","one","inners","ones","at","inner","room","multiple","name"]:List Str) "_law_read" (aQ cp_) f Ak A outer s H E).nox dU (hU cp_) (u4 n):=by
 have As:=qK hr
 have Am:=bV As
 exact (dO (iE (iM (kO K Am) kL (fC K (pv 0)) lI (bY _)) (dO (eS (i:=3) cW.nd rfl (Or.inl rfl) dH)
  (dO (wM PassesOwn.never rfl (mW (aJy (m_ K (bE (pv 1)) (zX (bE (pv 2))) (zX (iD (bE (pv 2)) (fC K (pv 0))))))) (gG (i:=4) cW.nd rfl (Or.inl rfl)) (kJ (n:=99) (i:=4) (by decide)) (eF (eS (i:=3) cW.nd rfl (Or.inl rfl) (iD (qT dH (bE (pv 3))) (bE (pv 4))))))
  (eF (gD (tQ (pv 3)))))) jE)
  (dO (iE (iM (kO K Am) kL (fC K (pv 0)) lI (bY _)) (dO (eS (i:=5) cW.nd rfl (Or.inl rfl) (mX (fn_ K (by rfl)) js_ (by rfl) m_max jz_ (bF (rW (dsc:=aQ cp_) (N:=AC) (tgs:=["inner"]) (outs:=[]) (N':=["inner"]) (by refine ⟨rfl,?_,?_,?_,rfl,?_,?_,?_⟩ <;> decide +kernel) (mW (fC K (pv 0))) (fun _ _ _ _ _=>(gG (i:=0) (show (["inner"]:List Str).Nodup by decide +kernel) rfl (Or.inl rfl) (.inr rfl))) (kJ (n:=1) (i:=0) (by decide)) (qZ (by decide)) (fun _ _ _ _ _=>mD) (fun _ _ _ _ _=>(jZ K (fW D2 (hr.mono (by omega)) (bF (bE (pv 0)) bX)) dH (fun _ _=>rfl)))) bX)))
  (dO (eS (i:=6) cW.nd rfl (Or.inl rfl) (jZ K (bE (pv 1)) (bE (pv 2)) (fun _ _=>rfl)))
  (dO (iE (iM aGk aGc (bE (pv 6)) (mX (wU K) zK (by rfl) Ae PySem.boot_len (bF (fC K (pv 0)) bX)) (bY _)) (eF (gD ef_)) jE)
  (dO (eS (i:=7) cW.nd rfl (Or.inl rfl) (fW Ff (hr.mono (by omega)) (bF (jZ K (fC K (pv 0)) (bE (pv 6)) (fun _ _=>rfl)) (bF (bE (pv 1)) (bF (iD (bE (pv 2)) (fW Fp (hr.mono (by omega)) (bF dH (bF (bE (pv 5)) bX)))) bX)))))
  (eF (gD (jZ K (jH (bF (zN (bF (bE (pv 6)) (bF (bE (pv 7)) bX))) (bF ef_ bX))) (en_ jy_ m6 (by rfl) m_int qW (bF (fx_ vG vC (bE (pv 7)) ef_ (bY _)) bX)) (fun _ _=>rfl)))))))) jE)
  (dO (iE (iM (kO K Am) kL (fC K (pv 0)) lI (bY _)) (eF (eS (i:=8) cW.nd rfl (Or.inl rfl) (qT (jH (bF (fC K (pv 0)) bX)) (fC K (pv 0))))) (eF (qL fun F=>PS.weak (gc_ (i:=8) cW.nd rfl rfl (dsc:=aQ cp_) (N:=AC) (tgs:=BG) (outs:=[]) (N':=BG) (by refine ⟨rfl,?_,?_,?_,rfl,?_,?_,?_⟩ <;> decide +kernel) (XIt.at (Ex:=dU) F (mW (fC K (pv 0)))) (fun _ _ _ _ _=>(hl_ K (n:=2) rfl rfl (jY (gG (i:=0) (show (["name","inner"]:List Str).Nodup by decide +kernel) rfl (Or.inl rfl) (.inr rfl)) (jY (gG (i:=1) (show (["name","inner"]:List Str).Nodup by decide +kernel) rfl (Or.inl rfl) (.inr rfl)) tM)))) (hd_ (xI (by decide) (xI (by decide) dp_ xJ) (co_ xJ))) (fun a b c d e=>XCs.at (Ex:=dU) F mD) (fun a b c d e=>XE.at (Ex:=dU) F (bE (pv 1)))) (ix_ (fe_ (n:=2) (is:=[0,1]) rfl (by decide)) (by decide)))))
  (dO (eS (i:=9) cW.nd rfl (Or.inl rfl) (jH bX))
  (dO (eS (i:=10) cW.nd rfl (Or.inl rfl) dH)
  (dO (wM PassesOwn.never rfl (mW (bE (pv 8))) (gG (i:=11) cW.nd rfl (Or.inl rfl)) (kJ (n:=99) (i:=11) (by decide)) (dO (p8 (mO (n:=99) (is:=[12,13]) rfl (by decide)) fun F=>hu_ (XE.at (Ex:=dU) F (fW D2 (hr.mono (by omega)) (bF (bE (pv 11)) bX))) (uZ rfl (jY (gG (i:=12) cW.nd rfl (Or.inl rfl)) (jY (gG (i:=13) cW.nd rfl (Or.inl rfl)) tM))))
  (dO (eS (i:=10) cW.nd rfl (Or.inl rfl) (fW Fp (hr.mono (by omega)) (bF (bE (pv 10)) (bF (bE (pv 13)) bX))))
  (dO (qL fun F=>PS.weak (gd_ (pE PySem.F.plainAttrs_list PySem.F.slot_list_append PySem.F.type_list_append es_ (pv 9) (lZ (XE.at (Ex:=dU) F (fW Ff (hr.mono (by omega)) (bF (bE (pv 11)) (bF (bE (pv 1)) (bF (iD (bE (pv 2)) (bE (pv 10))) bX))))) zM))) mE)
  (eF (eS (i:=10) cW.nd rfl (Or.inl rfl) (iD (bE (pv 10)) (bE (pv 12)))))))))
  (dO (iE (iM (aQz As) aQs ef_ (bE (pv 9)) (by with_unfolding_all rfl)) (eF (gD ef_)) jE)
  (dO (iE (iM (kO K Am) kL (fC K (pv 0)) lI (bY _)) (eF (gD (tQ (pv 9)))) jE)
  (dO (eS (i:=3) cW.nd rfl (Or.inl rfl) is_)
  (dO (wM PassesOwn.never rfl (oK m_zip (bF (fC K (pv 0)) (bF (bE (pv 9)) bX))) (gq_ rfl (jY (gq_ rfl (jY (gG (i:=14) cW.nd rfl (Or.inl rfl)) (jY (gG (i:=11) cW.nd rfl (Or.inl rfl)) tM))) (jY (gG (i:=7) cW.nd rfl (Or.inl rfl)) tM))) (z_ (gu_ (z_ (gu_ (kJ (n:=99) (i:=14) (by decide)) (gu_ (kJ (n:=99) (i:=11) (by decide)) yT))) (gu_ (kJ (n:=99) (i:=7) (by decide)) yT))) (eF (qL fun F=>PS.weak (nO As (pv 3) (XE.at (Ex:=dU) F (bE (pv 14))) (XE.at (Ex:=dU) F (bE (pv 7))) rfl) nM)))
  (eF (gD (tQ (pv 3))))))))))))))
end
theorem aAh {Pp:Nat→Vd→Prop}:∀ (m:Nat),(∀ t,t < m→∃ v,Pp t v)→∃ vs:List Vd,vs.length=m∧∀ t v,vs[t]? = some v→Pp t v
 | 0,_=>⟨[],rfl,fun t v h=>by simp at h⟩
 | m + 1,h=>by
  obtain ⟨vs,h1,h2⟩:=aAh m fun t ht=>h t (by omega)
  obtain ⟨u,hu⟩:=h m (by omega)
  refine ⟨vs ++ [u],by rw [aC,h1]; rfl,fun t v hv => ?_⟩
  by_cases ht:t < m
  ·rw [bS (by omega)] at hv
   exact h2 t v hv
  ·have Cr:=(aF.mp hv).1
   rw [aC,h1] at Cr
   have e:t=m:=by have:t < m + 1:=Cr; omega
   subst e
   rw [aY (by omega),h1,gH] at hv
   cases hv
   exact hu
theorem pB {r:Int×Int} (h1:0 < r.2):∀ (m:Nat) (e:Int) (i:Nat),i < m→(dW e (List.replicate m r))[i]? = some (up e r.2 + (i:Int) * up r.1 r.2)
 | 0,_,_,h=>by omega
 | m + 1,e,0,_=>by
  show some (up e r.2)=_
  simp
 | m + 1,e,i + 1,h=>by
  show (dW (up e r.2 + r.1) (List.replicate m r))[i]? = _
  rw [pB h1 m _ i (by omega),aEk h1 iv_]
  congr 1
  push_cast
  rw [Int.add_mul,Int.one_mul]
  omega
theorem ig_:∀ ks:List Kd,rmK ks=ks.map Kd.rm
 | []=>rfl
 | k :: r=>by simp only [rmK,aP]; rw [ig_ r]
def aNs:Kd→List Kd→Prop
 | .row k m,kl=>kl=List.replicate m.toNat k
 | .rcd fs,kl=>kl=fs.map (·.2)
 | _,_=>False
theorem aHs {kd:Kd} {kl:List Kd} (hf:kd.Fit) (h:aNs kd kl):kl.length≤20:=by
 cases kd with
 | num w m=>exact h.elim
 | row k m =>
  cases (show kl=_ from h)
  have:=hf.2.2
  rw [aL]; omega
 | rcd fs =>
  cases (show kl=_ from h)
  have:=hf.2.2.1
  rw [aE]; omega
 | cho ks=>exact h.elim
theorem aHr {kd:Kd} {kl:List Kd} {n:Nat} (hf:kd.Fit) (hd:kd.deep≤n + 1) (h:aNs kd kl) {i:Nat} {k:Kd} {q:Int} (h1:kl[i]? = some k) (h2:(dW 0 (rmK kl))[i]? = some q):k.Fit∧k.deep≤n∧0≤q∧q.toNat + k.rm.1.toNat≤kd.rm.1.toNat:=by
 cases kd with
 | num w m=>exact h.elim
 | row k' m =>
  cases (show kl=_ from h)
  have Bw:=(aF.mp h1).1
  rw [aL] at Bw
  rw [cI,if_pos Bw] at h1
  have ek:k'=k:=ozI h1
  subst ek
  obtain ⟨f1,f2,f3⟩:=id hf
  obtain ⟨c0,c1,c2,c3⟩:=k'.bd f1.ok
  rw [ig_,List.map_replicate,pB (by omega) _ _ _ Bw,uH (by omega),Int.zero_add] at h2
  cases h2
  obtain ⟨u1,u2⟩:=jN (n:=k'.rm.1) (m:=k'.rm.2) (by omega)
  have Ce:=wG hf Bw
  have Bb:((up k'.rm.1 k'.rm.2).toNat:Int)=up k'.rm.1 k'.rm.2:=cN (by omega)
  have Cf:(i:Int) * up k'.rm.1 k'.rm.2=((i * (up k'.rm.1 k'.rm.2).toNat:Nat):Int):=by rw [← Bb]; push_cast; rfl
  have Cw:k'.deep + 1≤n + 1:=hd
  rw [Cf]
  exact ⟨f1,by omega,by omega,by rw [cL]; exact Ce⟩
 | rcd fs =>
  cases (show kl=_ from h)
  rw [bG] at h1
  cases e:fs[i]? with
  | none=>rw [e] at h1; cases h1
  | some f =>
   rw [e] at h1
   have ek:f.2=k:=ozI h1
   subst ek
   rw [hk_] at h2
   obtain ⟨ff,fdp⟩:=jV hf.1 (aJ e)
   obtain ⟨l1,l2⟩:=wH hf e h2
   have Cw:eJ fs + 1≤n + 1:=hd
   exact ⟨ff,by omega,l1,l2⟩
 | cho ks=>exact h.elim
def RdL (xs:List Int) (p:Nat) (kl:List Kd) (pl:List Int) (l:List Dx):Prop := ∀ (i:Nat) (k:Kd) (q:Int) (d:Dx),kl[i]? = some k→pl[i]? = some q→l[i]? = some d→(∃ v,k.Val v∧k.Ag xs (p + q.toNat) v∧d=k.vx v)∨((¬ ∃ v,k.Val v∧k.Ag xs (p + q.toNat) v)∧d=.non)
theorem aEc {k:Kd} {v:Vd} (h:k.Val v):shN (k.vx v)=some false:=by
 cases k with
 | num w m=>obtain ⟨i,rfl,_⟩:=hc_ h; simp only [Kd.vx,shN]
 | row k m=>obtain ⟨vs,rfl,_⟩:=fh_ h; simp only [Kd.vx,shN]
 | rcd fs=>obtain ⟨vs,rfl,_⟩:=fi_ h; simp only [Kd.vx,shN]
 | cho ks=>obtain ⟨j,u,k,rfl,_⟩:=ek_ h; simp only [Kd.vx,shN]
theorem aEd {k:Kd} {v:Vd} (h:k.Val v):k.vx v ≠ .non:=fun z=>by
 have:=aEc h
 rw [z] at this
 cases this
theorem aKn {xs:List Int} {p:Nat} {kl:List Kd} {pl:List Int} {l:List Dx} (h:RdL xs p kl pl l) (h1:l.length=kl.length) (h2:pl.length=kl.length):(l.all fun d=>(shN d).isSome)=true:=by
 rw [gP]
 intro d hd
 obtain ⟨i,hi⟩:=dM hd
 have Bw:=(aF.mp hi).1
 rcases h i _ _ d (aA (by omega)) (aA (by omega)) hi with ⟨v,hv,_,rfl⟩ | ⟨_,rfl⟩
 ·rw [aEc hv]; rfl
 ·rfl
theorem aFe {xs:List Int} {p:Nat} {kl:List Kd} {pl:List Int} {l:List Dx} (h:RdL xs p kl pl l) (h1:l.length=kl.length) (h2:pl.length=kl.length) (ha:(l.any fun d=>shN d == some true)=false):∃ vs:List Vd,vs.length=kl.length∧∀ (i:Nat) (v:Vd),vs[i]? = some v→∃ k q,kl[i]? = some k∧pl[i]? = some q∧k.Val v∧k.Ag xs (p + q.toNat) v∧l[i]? = some (k.vx v):=by
 refine aAh kl.length fun i hi => ?_
 have e1:=aA (l:=kl) (i:=i) hi
 have e2:=aA (l:=pl) (i:=i) (by omega)
 have e3:=aA (l:=l) (i:=i) (by omega)
 rcases h i _ _ _ e1 e2 e3 with ⟨v,hv,A4,e⟩ | ⟨_,e⟩
 ·exact ⟨v,_,_,e1,e2,hv,A4,by rw [e3,e]⟩
 ·rw [List.any_eq_false] at ha
  exact absurd (by rw [e]; rfl) (ha _ (aJ e3))
theorem aKm {xs:List Int} {p:Nat} {kl:List Kd} {pl:List Int} {l:List Dx} (h:RdL xs p kl pl l) (h1:l.length=kl.length) (h2:pl.length=kl.length) (ha:(l.any fun d=>shN d == some true)=true):∃ (i:Nat) (k:Kd) (q:Int),kl[i]? = some k∧pl[i]? = some q∧¬ ∃ v,k.Val v∧k.Ag xs (p + q.toNat) v:=by
 rw [List.any_eq_true] at ha
 obtain ⟨d,hd,hs⟩:=ha
 obtain ⟨i,hi⟩:=dM hd
 have Bw:=(aF.mp hi).1
 have e1:=aA (l:=kl) (i:=i) (by omega)
 have e2:=aA (l:=pl) (i:=i) (by omega)
 rcases h i _ _ d e1 e2 hi with ⟨v,hv,_,rfl⟩ | ⟨Az,_⟩
 ·rw [aEc hv] at hs; cases hs
 ·exact ⟨i,_,_,e1,e2,Az⟩
theorem aFc {k:Kd} {m:Int} {i:Nat} (hf:(Kd.row k m).Fit) (hi:i < m.toNat):∃ q:Int,(dW 0 (rmK (List.replicate m.toNat k)))[i]? = some q∧q.toNat=i * (up k.rm.1 k.rm.2).toNat:=by
 obtain ⟨f1,f2,f3⟩:=id hf
 obtain ⟨c0,c1,c2,c3⟩:=k.bd f1.ok
 obtain ⟨u1,u2⟩:=jN (n:=k.rm.1) (m:=k.rm.2) (by omega)
 have Bb:((up k.rm.1 k.rm.2).toNat:Int)=up k.rm.1 k.rm.2:=cN (by omega)
 refine ⟨(i:Int) * up k.rm.1 k.rm.2,by rw [ig_,List.map_replicate,pB (by omega) _ _ _ hi,uH (by omega),Int.zero_add],?_⟩
 rw [show (i:Int) * up k.rm.1 k.rm.2=((i * (up k.rm.1 k.rm.2).toNat:Nat):Int) from by rw [← Bb]; push_cast; rfl,cL]
theorem aCj {kd:Kd} {kl:List Kd} {xs:List Int} {p:Nat} (hf:kd.Fit) (h:aNs kd kl) {i:Nat} {k:Kd} {q:Int} (h1:kl[i]? = some k) (h2:(dW 0 (rmK kl))[i]? = some q) (Az:¬ ∃ v,k.Val v∧k.Ag xs (p + q.toNat) v):¬ ∃ vd,kd.Val vd∧kd.Ag xs p vd:=by
 rintro ⟨vd,hv,A4⟩
 cases kd with
 | num w m=>exact h.elim
 | row k' m =>
  cases (show kl=_ from h)
  have Bw:=(aF.mp h1).1
  rw [aL] at Bw
  rw [cI,if_pos Bw] at h1
  cases h1
  obtain ⟨q',e1,e2⟩:=aFc hf Bw
  rw [h2] at e1
  cases e1
  obtain ⟨us,rfl,g1,g2⟩:=fh_ hv
  simp only [Kd.Ag] at A4
  have e9:=aA (l:=us) (i:=i) (by omega)
  exact Az ⟨_,g2 _ (aJ e9),by rw [e2]; exact A4 _ _ e9⟩
 | rcd fs =>
  cases (show kl=_ from h)
  rw [bG] at h1
  cases e:fs[i]? with
  | none=>rw [e] at h1; cases h1
  | some f =>
   rw [e] at h1
   cases h1
   rw [hk_] at h2
   obtain ⟨us,rfl,g2⟩:=fi_ hv
   simp only [Kd.Ag] at A4
   have hl:=bz_ g2
   have Bw:=(aF.mp e).1
   have e9:=aA (l:=us) (i:=i) (by omega)
   exact Az ⟨_,fj_ g2 e e9,rP A4 e h2 e9⟩
 | cho ks=>exact h.elim
theorem aFb {k:Kd} {m:Int} {xs:List Int} {p:Nat} {l:List Dx} (hf:(Kd.row k m).Fit) (hl:l.length=m.toNat) (h:∃ vs:List Vd,vs.length=(List.replicate m.toNat k).length∧∀ (i:Nat) (v:Vd),vs[i]? = some v→∃ k' q,(List.replicate m.toNat k)[i]? = some k'∧(dW 0 (rmK (List.replicate m.toNat k)))[i]? = some q∧k'.Val v∧k'.Ag xs (p + q.toNat) v∧l[i]? = some (k'.vx v)):∃ vd,(Kd.row k m).Val vd∧(Kd.row k m).Ag xs p vd∧Dx.lst l=(Kd.row k m).vx vd:=by
 obtain ⟨vs,h1,h2⟩:=h
 rw [aL] at h1
 have f2:=hf.2.1
 have key:∀ (i:Nat) (v:Vd),vs[i]? = some v→k.Val v∧k.Ag xs (p + i * (up k.rm.1 k.rm.2).toNat) v∧l[i]? = some (k.vx v):=fun i v e=>by
  obtain ⟨k',q,g1,g2,g3,g4,g5⟩:=h2 i v e
  have Bw:=(aF.mp e).1
  rw [cI,if_pos (by omega)] at g1
  cases g1
  obtain ⟨q',e1,e2⟩:=aFc hf (show i < m.toNat by omega)
  rw [g2] at e1
  cases e1
  rw [e2] at g4
  exact ⟨g3,g4,g5⟩
 refine ⟨.row vs,?_,?_,?_⟩
 ·simp only [Kd.Val]
  exact ⟨by omega,fun v hv=>by obtain ⟨t,ht⟩:=dM hv; exact (key t v ht).1⟩
 ·simp only [Kd.Ag]
  exact fun t v ht=>(key t v ht).2.1
 ·simp only [Kd.vx]
  congr 1
  refine mQ (by rw [aE]; omega) fun i a b e1 e2 => ?_
  rw [bG] at e2
  cases e:vs[i]? with
  | none=>rw [e] at e2; cases e2
  | some v =>
   rw [e] at e2
   have:=(key i v e).2.2
   rw [e1] at this
   cases e2
   exact ozI this
theorem aFh {fs:List (Str×Kd)} {xs:List Int} {p:Nat} {l:List Dx} (hl:l.length=fs.length) (h:∃ vs:List Vd,vs.length=(fs.map (·.2)).length∧∀ (i:Nat) (v:Vd),vs[i]? = some v→∃ k' q,(fs.map (·.2))[i]? = some k'∧(dW 0 (rmK (fs.map (·.2))))[i]? = some q∧k'.Val v∧k'.Ag xs (p + q.toNat) v∧l[i]? = some (k'.vx v)):∃ vs,vs.length=fs.length∧(Kd.rcd fs).Val (.rcd vs)∧(Kd.rcd fs).Ag xs p (.rcd vs)∧∀ (i:Nat) (f:Str×Kd) (v:Vd),fs[i]? = some f→vs[i]? = some v→l[i]? = some (f.2.vx v):=by
 obtain ⟨vs,h1,h2⟩:=h
 rw [aE] at h1
 have key:∀ (i:Nat) (f:Str×Kd) (v:Vd),fs[i]? = some f→vs[i]? = some v→∃ q,(dW 0 (rmF fs))[i]? = some q∧f.2.Val v∧f.2.Ag xs (p + q.toNat) v∧l[i]? = some (f.2.vx v):=fun i f v ef e=>by
  obtain ⟨k',q,g1,g2,g3,g4,g5⟩:=h2 i v e
  rw [bG,ef] at g1
  cases g1
  rw [hk_] at g2
  exact ⟨q,g2,g3,g4,g5⟩
 refine ⟨vs,h1,?_,?_,fun i f v e1 e2=>by obtain ⟨_,_,_,_,g⟩:=key i f v e1 e2; exact g⟩
 ·simp only [Kd.Val]
  exact uG h1 fun t f v e1 e2=>by obtain ⟨_,_,g,_⟩:=key t f v e1 e2; exact g
 ·simp only [Kd.Ag]
  exact wX go_ h1 fun t f q v e1 e2 e3=>by
   obtain ⟨q',g1,_,g,_⟩:=key t f v e1 e3
   rw [e2] at g1
   cases g1
   exact g
theorem aHp {d:Dx} {Q:Sv→Prop} (h:d ≠ .non) (q:Q (.tr (.bl false))):vY false d .non Q:=by
 cases d <;> first | exact q | exact absurd rfl h
theorem aMm {i j:Nat} {a b:Dx} {ρ:En} {Q:En→Prop} (h:Q ((ρ.set i (vT a)).set j (vT b))):gxL [i,j] (.lst [a,b]) ρ Q:=h
theorem aXq {ρ:En} {Q:Sv→En→Prop} (h:Q (.od []) ρ):xO ρ Q:=h
theorem qE {d:Dx} {ρ:En} {Q:Sv→En→Prop} (h:Q (.tr d) ρ):xC d ρ Q:=h
theorem k8 {ks:List Kd} {xs:List Int} {p jj:Nat} {mk:Int} {k:Kd} (E7:xs[p]? = some mk) (Gp:(jj:Int)=mk) (hk:ks[jj]? = some k) (Az:¬ ∃ v,k.Val v∧k.Ag xs (p + (up 1 (iK (rmK ks)).2).toNat) v):¬ ∃ vd,(Kd.cho ks).Val vd∧(Kd.cho ks).Ag xs p vd:=by
 rintro ⟨vd,hv,A4⟩
 obtain ⟨j2,v,k2,rfl,El,Fg⟩:=ek_ hv
 simp only [Kd.Ag] at A4
 have ej:=A4.1
 rw [E7] at ej
 have e:=ozI ej
 have Kg:j2=jj:=by omega
 subst Kg
 rw [hk] at El
 cases El
 exact Az ⟨v,Fg,(hy_ hk).mp A4.2⟩
section
variable {f:Addr} {n j jM:Nat}
theorem aLl (F:Fun K "_law_read" "_law_read" cp_ f fd) (D2:Cal P w K mg base jM "_law_room" AG (spX (gLM 5))) (Fp:Cal P w K mg base 1 "_law_rounded" AD (spX gLR)) (Ff:Cal P w K mg base j "_law_read" AL (spX (l9 n))) (m_max:mg "max" = none) (Ae:mg "len" = none) (m_int:mg "int" = none) (m_zip:mg "zip" = none) (hj:jM≤j) (J2:1≤j):FnOk P w K mg base CX0 (j + 1) f fd AL (spX (l9 (n + 1))):=by
 refine lU F cW (fun ds Q h=>by obtain ⟨_,_,_,rfl,_⟩:=h; rfl) (by decide) fun Ak A outer s H E hr => ?_
 refine ⟨_,aIq D2 Fp Ff m_max Ae m_int m_zip hj J2 hr,fun ds Q h => ?_⟩
 clear hj J2
 obtain ⟨kd,xs,p,rfl,hP,hn5,qy,qn⟩:=h
 have Gw:=hP
 obtain ⟨Af,hd,hn,p0,hx,hb,hl⟩:=hP
 unfold u4
 by_cases isnum:∃ wd m,kd=.num wd m
 ·obtain ⟨wd,m,rfl⟩:=isnum
  obtain ⟨i,i0,i1,ha⟩:=aFf (m:=m) hb Af.1 (show p.toNat + wd.toNat≤xs.length from hl)
  have q:=fun s=>qy (.num i) s (by simp only [Kd.Val]; exact ⟨i0,i1⟩) (by simp only [Kd.Ag]; exact ha)
  have hw1:=Af.1
  have hw8:=Af.2.1
  have hlB:=ej_ wd.toNat i
  have hrB:=fr_ wd.toNat i
  have hv:=ea_ wd.toNat i i0 i1
  generalize iZ wd.toNat i=ys at *
  have hc:=aIs ha p0 hlB.symm (by omega)
  show iJ _ _ _ (mS (xs.map Dx.int) (some p) (some (p + wd))).reverse _
  rw [hc,← List.map_reverse]
  refine xH _ (fun rest ρ => ∃ (done:List Int) (y:Sl),ys=rest.reverse ++ done∧ρ=[vT (Kd.num wd m).x,vT (.lst (xs.map Dx.int)),vT (.int p),vT (.int (iI done)),y,.un,.un,.un,.un,.un,.un,.un,.un,.un,.un]) (fun ρ h => ?_) (fun b rest ρ Kn h hk => ?_) ⟨[],.un,by rw [List.reverse_reverse,bZ],rfl⟩
  ·obtain ⟨done,y,e,rfl⟩:=h
   rw [List.reverse_nil,aZ] at e
   rw [e] at hv
   rw [← hv] at q
   exact q _ (by simp only [Kd.vx]; rfl)
  ·obtain ⟨done,y,e,rfl⟩:=h
   rw [hZ,bD] at e
   have hd:∀ c∈done,0≤c∧c < 256:=fun c hc=>hrB c (by rw [e]; exact aK _ (aK _ hc))
   obtain ⟨n0,n1⟩:=nQ hd
   have Ht:done.length≤8:=by
    have:=congrArg List.length e
    rw [aC,aC] at this
    have:ys.length≤8:=by omega
    omega
   have n2:iI done < 256 ^ 8:=Int.lt_of_lt_of_le n1 (uW Ht)
   have k':=hk [vT (Kd.num wd m).x,vT (.lst (xs.map Dx.int)),vT (.int p),vT (.int (iI (b :: done))),vT (.int b),.un,.un,.un,.un,.un,.un,.un,.un,.un,.un] ⟨b :: done,_,e,rfl⟩
   have e3:iI (b :: done)=256 * iI done + b:=by show b + 256 * iI done=_; omega
   rw [e3] at k'
   exact ⟨⟨by decide,by omega⟩,k'⟩
 ·have E6:∀ Q:Bool→En→Prop,Q false [vT kd.x,vT (.lst (xs.map Dx.int)),vT (.int p),.un,.un,.un,.un,.un,.un,.un,.un,.un,.un,.un,.un]→(xB (xOp eqX (xOp ixX (bW 0) (xC (.int 0))) (xC (.str "number")))) [vT kd.x,vT (.lst (xs.map Dx.int)),vT (.int p),.un,.un,.un,.un,.un,.un,.un,.un,.un,.un,.un,.un] Q:=by
   cases kd with
   | num wd m=>exact absurd ⟨wd,m,rfl⟩ isnum
   | row k m=>exact fun Q q=>q
   | rcd fs=>exact fun Q q=>q
   | cho ks=>exact fun Q q=>q
  change cV _ _ [vT kd.x,vT (.lst (xs.map Dx.int)),vT (.int p),.un,.un,.un,.un,.un,.un,.un,.un,.un,.un,.un,.un] _
  refine m7 E6 ?_
  by_cases ischo:∃ ks,kd=.cho ks
  ·obtain ⟨ks,rfl⟩:=ischo
   have Dd:=Af
   obtain ⟨f1,f2,f3⟩:=Af
   have Cw:eP ks + 1≤n + 1:=hd
   obtain ⟨b0,b1,b2,b3⟩:=(Kd.cho ks).bd Dd.ok
   have h00:=jn_ Dd (aA (l:=ks) (i:=0) (by omega))
   obtain ⟨v1,v2⟩:=jN (n:=1) (m:=(Kd.cho ks).rm.2) (by omega)
   have A9:p.toNat < xs.length:=by omega
   obtain ⟨mk,E7⟩ : ∃ mk,xs[p.toNat]? = some mk:=⟨_,aA A9⟩
   obtain ⟨m0,m1⟩:=hb mk (aJ E7)
   have Gq:ixX (.lst (xs.map Dx.int)) (.int p)=fun Q=>Q (.tr (.int mk)):=by
    have hm:(xs.map Dx.int)[p.toNat]? = some (.int mk):=by rw [bG,E7]; rfl
    have:=em_ hm
    rw [show ((p.toNat:Nat):Int)=p from by omega] at this
    funext Q
    simp only [ixX,this]
   have Go:(xK ks).length=ks.length:=by rw [sE,aE]
   have Dc:(rmK ks).length=ks.length:=j_ ks
   have Bf:rmK ks≠[]:=fun z=>by rw [z] at Dc; simp at Dc; omega
   have Mm:=tW (n:=5) (jp_ ks f1) (by omega) (by decide)
   have Kx:=Pw.maxL (l:=(rmK ks).map (·.2)) fun a ha=>by
    obtain ⟨r,hr,rfl⟩:=cP.mp ha
    exact jo_ ks f1 r hr
   have Ls:=Kx.pos
   refine ⟨show (xK ks).length≤1000000 by omega,show dX _ _ _ _ _ (xK ks) _ _ from ?_⟩
   rw [sE]
   refine b9 Kd.x (fun k=>.int k.rm.2) (fun k hk Ad P p => ?_) ?_
   ·obtain ⟨kf,kdp⟩:=jA f1 hk
    exact ⟨k,rfl,kf.ok,kf.full,by omega,by decide,p⟩
   ·have erm:(ks.map fun k=>Dx.int k.rm.2)=(rmK ks).map fun r=>Dx.int r.2:=by rw [ig_,cQ]; rfl
    simp only [dD,aP,bP,Sv.d,aZ,erm]
    refine vN (sel:=fun r=>r.2) (d:=1) Bf (fun r hr=>(Mm r hr).2.2.1) ?_
    have hM:maxL 1 ((rmK ks).map fun r=>r.2)=(Kd.cho ks).rm.2:=rfl
    rw [hM]
    generalize Mr:(Kd.cho ks).rm.2=M at *
    change cV _ _ [vT (Kd.cho ks).x,vT (.lst (xs.map Dx.int)),vT (.int p),.un,.un,vT (.int M),.un,.un,.un,.un,.un,.un,.un,.un,.un] _
    refine xD (oA (rR rfl (rR rfl ?_)))
    show ixX (.lst (xs.map Dx.int)) (.int p) _
    rw [Gq]
    dsimp only
    change cV _ _ [vT (Kd.cho ks).x,vT (.lst (xs.map Dx.int)),vT (.int p),.un,.un,vT (.int M),vT (.int mk),.un,.un,.un,.un,.un,.un,.un,.un] _
    by_cases Ml:ks.length≤mk.toNat
    ·show if decide (((xK ks).length:Int)≤mk)=true then _ else _
     rw [if_pos (dzT (by omega))]
     refine qn ?_
     rintro ⟨vd,hv,A4⟩
     obtain ⟨jj,v,k,rfl,hk,Fg⟩:=ek_ hv
     simp only [Kd.Ag] at A4
     have:=A4.1
     rw [E7] at this
     have e:=ozI this
     have:=(aF.mp hk).1
     omega
    ·obtain ⟨jj,Gp⟩ : ∃ jj:Nat,(jj:Int)=mk:=⟨mk.toNat,by omega⟩
     have J0:jj < ks.length:=by omega
     obtain ⟨k,hk⟩ : ∃ k,ks[jj]? = some k:=⟨_,aA J0⟩
     obtain ⟨kf,kdp⟩:=jA f1 (aJ hk)
     have Gi:(xK ks)[jj]? = some k.x:=by rw [sE,bG,hk]; rfl
     have F3:=em_ Gi
     rw [Gp] at F3
     have Nl:=jn_ Dd hk
     rw [Mr] at Nl
     refine m7 (ρ':=[vT (Kd.cho ks).x,vT (.lst (xs.map Dx.int)),vT (.int p),.un,.un,vT (.int M),vT (.int mk),.un,.un,.un,.un,.un,.un,.un,.un]) (fun Q q => ?_) ?_
     ·show Q (decide (((xK ks).length:Int)≤mk)) _
      rw [dzF (by omega)]
      exact q
     have Bq:(p + up 1 M).toNat=p.toNat + (up 1 M).toNat:=iT p0 (Int.le_trans (by decide) v1)
     have ecx:(Kd.cho ks).x=.tup [.str "choice",.lst (xK ks)]:=by simp only [Kd.x]
     refine xD (nY (gi_ ?_))
     have L4:∀ (Q:Sv→En→Prop),Q (.tr k.x) [vT (Kd.cho ks).x,vT (.lst (xs.map Dx.int)),vT (.int p),.un,.un,vT (.int M),vT (.int mk),.un,.un,.un,.un,.un,.un,.un,.un]→xOp ixX (xOp ixX (bW 0) (xC (.int 1))) (bW 6) [vT (Kd.cho ks).x,vT (.lst (xs.map Dx.int)),vT (.int p),.un,.un,vT (.int M),vT (.int mk),.un,.un,.un,.un,.un,.un,.un,.un] Q:=fun Q q=>by
      show ixX (.lst (xK ks)) (.int mk) fun s=>Q s [vT (Kd.cho ks).x,vT (.lst (xs.map Dx.int)),vT (.int p),.un,.un,vT (.int M),vT (.int mk),.un,.un,.un,.un,.un,.un,.un,.un]
      simp only [ixX,F3]
      exact q
     refine L4 _ ?_
     refine ⟨1,M,rfl,by decide,by omega,?_⟩
     refine ⟨k,xs,p + up 1 M,rfl,⟨kf,by omega,by omega,by omega,hx,hb,by omega⟩,by omega,fun v s hv A4 hs => ?_,fun Az => ?_⟩
     ·rw [Bq] at A4
      have q:=qy (.cho jj v) (.tr ((Kd.cho ks).vx (.cho jj v))) (by simp only [Kd.Val]; exact uF hk hv) (by simp only [Kd.Ag]; exact ⟨by rw [E7,Gp],(hy_ hk).mpr (by rw [show (iK (rmK ks)).2=M from Mr]; exact A4)⟩) rfl
      have evx:(Kd.cho ks).vx (.cho jj v)=.tup [.int mk,k.vx v]:=by simp only [Kd.vx]; rw [iu_ hk,Gp]
      rw [evx] at q
      change iW _ [vT (Kd.cho ks).x,vT (.lst (xs.map Dx.int)),vT (.int p),.un,.un,vT (.int M),vT (.int mk),.v s,.un,.un,.un,.un,.un,.un,.un] _
      refine oA ⟨iC,iC,?_⟩
      refine nY (gi_ (oA ?_))
      show vY false s.d .non _
      rw [hs]
      refine aHp (aEd hv) ?_
      exact q
     ·have q:=qn (k8 E7 Gp hk (by rw [show (iK (rmK ks)).2=M from Mr,← Bq]; exact Az))
      exact ⟨iC,iC,q⟩
  ·have Mh:∀ Q:Bool→En→Prop,Q false [vT kd.x,vT (.lst (xs.map Dx.int)),vT (.int p),.un,.un,.un,.un,.un,.un,.un,.un,.un,.un,.un,.un]→(xB (xOp eqX (xOp ixX (bW 0) (xC (.int 0))) (xC (.str "choice")))) [vT kd.x,vT (.lst (xs.map Dx.int)),vT (.int p),.un,.un,.un,.un,.un,.un,.un,.un,.un,.un,.un,.un] Q:=by
    cases kd with
    | num wd m=>exact absurd ⟨wd,m,rfl⟩ isnum
    | row k m=>exact fun Q q=>q
    | rcd fs=>exact fun Q q=>q
    | cho ks=>exact absurd ⟨ks,rfl⟩ ischo
   refine m7 Mh ?_
   refine tP (fun ρ => ∃ kl:List Kd,aNs kd kl∧ρ=[vT kd.x,vT (.lst (xs.map Dx.int)),vT (.int p),.un,.un,.un,.un,.un,.v (.ol (kl.map Kd.x)),.un,.un,.un,.un,.un,.un]) ?_ (fun nx Bo => ?_)
   rotate_left 1
   ·cases kd with
    | num wd m=>exact absurd ⟨wd,m,rfl⟩ isnum
    | cho ks=>exact absurd ⟨ks,rfl⟩ ischo
    | row k m =>
     have f2:=Af.2.1
     have f3:=Af.2.2
     refine ⟨lC,⟨by omega,by omega,by show 1 * _≤_; omega⟩,?_⟩
     refine Bo _ ⟨List.replicate m.toNat k,rfl,?_⟩
     rw [List.map_replicate,show List.replicate m.toNat k.x=(List.replicate m.toNat [k.x]).flatten from (jb_ _ _).symm]
     rfl
    | rcd fs =>
     have f3:=Af.2.2.1
     refine ⟨show (xF fs).length≤1000000 by rw [xE,aE]; omega,show dX _ _ _ _ _ (xF fs) _ _ from ?_⟩
     rw [xE]
     refine b9 _ (fun f:Str×Kd=>f.2.x) (fun f hf Ad P pp=>pp) ?_
     refine Bo _ ⟨fs.map (fun f:Str×Kd=>f.2),rfl,?_⟩
     rw [aZ,cQ]
     rfl
   rintro ρ ⟨kl,Go,rfl⟩
   have hk20:=aHs Af Go
   have Fw:(dW 0 (rmK kl)).length=kl.length:=by rw [ct_,j_]
   refine ⟨cK _,?_⟩
   dsimp only
   refine xD (qE ?_)
   change cV _ _ [vT kd.x,vT (.lst (xs.map Dx.int)),vT (.int p),.un,.un,.un,.un,.un,.v (.ol (kl.map Kd.x)),.v (.ol []),vT (.int 0),.un,.un,.un,.un] _
   refine tP (fun ρ => ∃ (l:List Dx) (y10 y11 y12 y13:Sl),l.length=kl.length∧RdL xs p.toNat kl (dW 0 (rmK kl)) l∧ρ=[vT kd.x,vT (.lst (xs.map Dx.int)),vT (.int p),.un,.un,.un,.un,.un,vT (.lst (kl.map Kd.x)),.v (.ol l),y10,y11,y12,y13,.un]) ?_ (fun nx Bo => ?_)
   rotate_left 1
   ·refine xH Kd.x (fun rest ρ => ∃ (done:List Kd) (dn:List Int) (e:Int) (l:List Dx) (y11 y12 y13:Sl),kl=done ++ rest∧dW 0 (rmK kl)=dn ++ dW e (rmK rest)∧dn.length=done.length∧l.length=done.length∧0≤e∧RdL xs p.toNat done dn l∧ρ=[vT kd.x,vT (.lst (xs.map Dx.int)),vT (.int p),.un,.un,.un,.un,.un,vT (.lst (kl.map Kd.x)),.v (.ol l),vT (.int e),y11,y12,y13,.un]) (fun ρ h => ?_) (fun k rest ρ Kn h hk => ?_) ⟨[],[],0,[],.un,.un,.un,rfl,rfl,rfl,rfl,iB _,fun i k q d h=>by simp at h,rfl⟩
    ·obtain ⟨done,dn,e,l,y11,y12,y13,e1,e2,e3,e4,e5,Hy,rfl⟩:=h
     rw [bZ] at e1
     subst e1
     have e6:dW 0 (rmK kl)=dn:=by rw [e2]; show dn ++ []=dn; rw [bZ]
     exact Bo _ ⟨l,_,_,_,_,e4,by rw [e6]; exact Hy,rfl⟩
    ·obtain ⟨done,dn,e,l,y11,y12,y13,e1,e2,e3,e4,e5,Hy,rfl⟩:=h
     have g1:kl[done.length]? = some k:=by rw [e1,aY (aV _),gH]; rfl
     have g2:(dW 0 (rmK kl))[done.length]? = some (up e k.rm.2):=by rw [e2,aY (by omega),e3,gH]; rfl
     obtain ⟨kf,kdp,kq,krm⟩:=aHr Af hd Go g1 g2
     obtain ⟨c0,c1,c2,c3⟩:=k.bd kf.ok
     refine ⟨k,rfl,kf.ok,kf.full,by omega,by decide,?_⟩
     refine aMm ?_
     dsimp only
     change cV _ _ [vT kd.x,vT (.lst (xs.map Dx.int)),vT (.int p),.un,.un,.un,.un,.un,vT (.lst (kl.map Kd.x)),.v (.ol l),vT (.int e),vT k.x,vT (.int k.rm.1),vT (.int k.rm.2),.un] _
     refine ⟨e,k.rm.2,rfl,e5,by omega,?_⟩
     dsimp only
     change cV _ _ [vT kd.x,vT (.lst (xs.map Dx.int)),vT (.int p),.un,.un,.un,.un,.un,vT (.lst (kl.map Kd.x)),.v (.ol l),vT (.int (up e k.rm.2)),vT k.x,vT (.int k.rm.1),vT (.int k.rm.2),.un] _
     have G4:l.length≤20:=by rw [e4]; have:=congrArg List.length e1; rw [aC] at this; omega
     have Bq:(p + up e k.rm.2).toNat=p.toNat + (up e k.rm.2).toNat:=iT p0 kq
     have A5:∀ d:Dx,((∃ v,k.Val v∧k.Ag xs (p.toNat + (up e k.rm.2).toNat) v∧d=k.vx v)∨((¬ ∃ v,k.Val v∧k.Ag xs (p.toNat + (up e k.rm.2).toNat) v)∧d=.non))→Kn [vT kd.x,vT (.lst (xs.map Dx.int)),vT (.int p),.un,.un,.un,.un,.un,vT (.lst (kl.map Kd.x)),.v (.ol (l ++ [d])),vT (.int (up e k.rm.2 + k.rm.1)),vT k.x,vT (.int k.rm.1),vT (.int k.rm.2),.un]:=fun d G7=>by
      refine hk _ ⟨done ++ [k],dn ++ [up e k.rm.2],up e k.rm.2 + k.rm.1,l ++ [d],_,_,_,by rw [e1,bD]; rfl,by rw [e2,bD]; rfl,by rw [aC,aC,e3]; rfl,by rw [aC,aC,e4]; rfl,by omega,fun i k' q d' h1 h2 h3 => ?_,rfl⟩
      by_cases hi:i < done.length
      ·rw [bS hi] at h1
       rw [bS (by omega)] at h2
       rw [bS (by omega)] at h3
       exact Hy i k' q d' h1 h2 h3
      ·have Bw:=(aF.mp h1).1
       rw [aC] at Bw
       have ei:i=done.length:=by have:i < done.length + 1:=Bw; omega
       subst ei
       rw [aY (aV _),gH] at h1
       rw [aY (by omega),e3,gH] at h2
       rw [aY (by omega),e4,gH] at h3
       cases h1
       cases h2
       cases h3
       exact G7
     refine ⟨rfl,k,xs,p + up e k.rm.2,rfl,⟨kf,by omega,by omega,by omega,hx,hb,by omega⟩,by omega,fun v s hv A4 hs => ?_,fun Az => ?_⟩
     ·rw [Bq] at A4
      have:=A5 s.d (.inl ⟨v,hv,A4,hs⟩)
      exact ⟨by omega,this⟩
     ·rw [Bq] at Az
      have:=A5 .non (.inr ⟨Az,rfl⟩)
      exact ⟨by omega,this⟩
   rintro ρ ⟨l,y10,y11,y12,y13,G4,Hy,rfl⟩
   have Au:=aKn Hy G4 Fw
   cases Gv:(l.any fun d=>shN d == some true) with
   | true =>
    obtain ⟨i,k,q,g1,g2,Az⟩:=aKm Hy G4 Fw Gv
    refine ⟨Au,?_⟩
    rw [Gv]
    exact qn (aCj Af Go g1 g2 Az)
   | false =>
    have G5:=aFe Hy G4 Fw Gv
    refine m7 (ρ':=[vT kd.x,vT (.lst (xs.map Dx.int)),vT (.int p),.un,.un,.un,.un,.un,vT (.lst (kl.map Kd.x)),vT (.lst l),y10,y11,y12,y13,.un]) (fun Q q => ?_) ?_
    ·refine ⟨Au,?_⟩
     rw [Gv]
     exact q
    cases kd with
    | num wd m=>exact absurd ⟨wd,m,rfl⟩ isnum
    | cho ks=>exact absurd ⟨ks,rfl⟩ ischo
    | row k m =>
     cases (show kl=_ from Go)
     rw [aL] at G4
     obtain ⟨vd,hv,A4,e⟩:=aFb Af G4 G5
     exact qy vd _ hv A4 e
    | rcd fs =>
     cases (show kl=_ from Go)
     rw [aE] at G4
     obtain ⟨vs,Cv,hv,A4,hlv⟩:=aFh G4 G5
     have f3:=Af.2.2.1
     have B6:=Af.2.2.2
     refine m7 (ρ':=[vT (Kd.rcd fs).x,vT (.lst (xs.map Dx.int)),vT (.int p),.un,.un,.un,.un,.un,vT (.lst ((fs.map fun f:Str×Kd=>f.2).map Kd.x)),vT (.lst l),y10,y11,y12,y13,.un]) (fun Q q=>q) ?_
     refine xD (aXq ?_)
     change cV _ _ [vT (Kd.rcd fs).x,vT (.lst (xs.map Dx.int)),vT (.int p),.v (.od []),.un,.un,.un,.un,vT (.lst ((fs.map fun f:Str×Kd=>f.2).map Kd.x)),vT (.lst l),y10,y11,y12,y13,.un] _
     have el:l=(fs.zip vs).map fun q=>q.1.2.vx q.2:=by
      refine mQ (by rw [aE,cM]; omega) fun i a b g1 g2 => ?_
      rw [bG] at g2
      cases e:(fs.zip vs)[i]? with
      | none=>rw [e] at g2; cases g2
      | some q =>
       rw [e] at g2
       obtain ⟨h1,h2⟩:=cJ.mp e
       have:=hlv i q.1 q.2 h1 h2
       rw [g1] at this
       cases g2
       exact ozI this
     have exf:xF fs=(fs.zip vs).map fun p=>.tup [.str p.1.1,p.1.2.x]:=by
      rw [xE]
      have:fs=(fs.zip vs).map (·.1):=by rw [List.map_fst_zip (by omega)]
      conv=>lhs; rw [this]
      rw [cQ]
      rfl
     have ezz:iA (xF fs) l=(fs.zip vs).map fun q=>.tup [.tup [.str q.1.1,q.1.2.x],q.1.2.vx q.2]:=by
      rw [exf,el,do_]
      have:(fs.zip vs).zip (fs.zip vs)=(fs.zip vs).map fun q=>(q,q):=by
       have:=List.zip_map' (l:=fs.zip vs) (f:=id) (g:=id)
       rwa [List.map_id] at this
      rw [this,cQ]
      rfl
     have Ft:(fs.zip vs).length=fs.length:=by rw [cM]; omega
     refine tP (fun ρ => ∃ y7 y11 y14:Sl,ρ=[vT (Kd.rcd fs).x,vT (.lst (xs.map Dx.int)),vT (.int p),.v (.od (vxF fs vs)),.un,.un,.un,y7,vT (.lst ((fs.map fun f:Str×Kd=>f.2).map Kd.x)),vT (.lst l),y10,y11,y12,y13,y14]) ?_ (fun nx Bo => ?_)
     rotate_left 1
     ·show iJ _ _ _ (iA (xF fs) l) _
      rw [ezz]
      refine xH _ (fun rest ρ => ∃ (i:Nat) (y7 y11 y14:Sl),rest=(fs.zip vs).drop i∧i≤fs.length∧ρ=[vT (Kd.rcd fs).x,vT (.lst (xs.map Dx.int)),vT (.int p),.v (.od (vxF (fs.take i) (vs.take i))),.un,.un,.un,y7,vT (.lst ((fs.map fun f:Str×Kd=>f.2).map Kd.x)),vT (.lst l),y10,y11,y12,y13,y14]) (fun ρ h => ?_) (fun a rest ρ Kn h hk => ?_) ⟨0,.un,y11,.un,rfl,cK _,by simp only [List.take_zero,vxF]; rfl⟩
      ·obtain ⟨i,y7,y11,y14,e,hi,rfl⟩:=h
       have Fk:=gK.mp e.symm
       rw [Ft] at Fk
       have:i=fs.length:=by omega
       subst this
       have t2:vs.take fs.length=vs:=gW (by omega)
       rw [t2,List.take_length]
       exact Bo _ ⟨_,_,_,rfl⟩
      ·obtain ⟨i,y7,y11,y14,e,hi,rfl⟩:=h
       obtain ⟨e1,e2⟩:=cw_ e
       obtain ⟨e5,e6⟩:=cJ.mp e1
       have Bw:=(aF.mp e5).1
       have Br:(vs.take i).length=(fs.take i).length:=by rw [bT,bT]; omega
       have C8:(Sum.inr a.1.1:Key)∉(vxF (fs.take i) (vs.take i)).map (·.1):=by
        rw [ev_ Br]
        intro hm
        obtain ⟨g,hg,eg⟩:=cP.mp hm
        have eg':g.1=a.1.1:=Sum.inr.inj eg
        obtain ⟨m,Hk⟩:=dM hg
        have Il:m < i:=by have:=(aF.mp Hk).1; rw [bT] at this; omega
        rw [gM Il] at Hk
        have n1:(fs.map (·.1))[m]? = some a.1.1:=by rw [bG,Hk,← eg']; rfl
        have n2:(fs.map (·.1))[i]? = some a.1.1:=by rw [bG,e5]; rfl
        have:=(List.getElem?_inj (by rw [aE]; omega) B6).mp (n1.trans n2.symm)
        omega
       have Ba:=hk [vT (Kd.rcd fs).x,vT (.lst (xs.map Dx.int)),vT (.int p),.v (.od (vxF (fs.take (i + 1)) (vs.take (i + 1)))),.un,.un,.un,vT (a.1.2.vx a.2),vT (.lst ((fs.map fun f:Str×Kd=>f.2).map Kd.x)),vT (.lst l),y10,vT a.1.2.x,y12,y13,vT (.str a.1.1)] ⟨i + 1,_,_,_,e2,Bw,rfl⟩
       rw [cv_ e5,cv_ e6,ia_ Br,← ii_ C8] at Ba
       have Ji:(vxF (fs.take i) (vs.take i)).length≤100000:=by rw [oQ Br,bT]; omega
       exact ⟨rfl,rfl,⟨_,rfl⟩,by omega,Ba⟩
     rintro ρ ⟨y7,y11,y14,rfl⟩
     exact qy (.rcd vs) _ hv A4 (by simp only [Kd.vx]; rfl)
end
def gDU (n:Nat):GC:=fun ds Q => ∃ (kd:Kd) (d:Dx),ds=[kd.x,d]∧d.Sz∧kd.Fit∧kd.deep≤n∧n≤5∧kd.rm.1≤100000∧(∀ vd s,o_ kd d vd→s.d=kd.vx vd→Q s)∧((¬ ∃ vd,o_ kd d vd)→Q (.tr .non))
theorem aAc {c:XC} {G:XS} {ρ ρ':En} {D:XD} (hc:∀ Q:Bool→En→Prop,Q false ρ'→c ρ Q) (h:D.nx ρ'):xIf c G fM ρ D:=hc _ h
theorem vX {d:Dx} {kd:Kd} {vd:Vd} {Q:Sv→Prop} (hs:d=kd.vx vd) (hv:kd.Val vd) (q:Q (.tr (.bl false))):vY false d .non Q:=aHp (by rw [hs]; exact aEd hv) q
section
variable {f:Addr} {n j jM jB:Nat}
theorem aRw (F:Fun K "_law_due" "_law_due" iy_ f fd) (D2:Cal P w K mg base jM "_law_room" AG (spX (gLM 5))) (Ff:Cal P w K mg base j "_law_read" AL (spX (l9 n))) (He:Cal P w K mg base jB "_law_bytes" AE (spX (gLY 5))) (Ab:mg "isinstance" = none) (m_list:mg "list" = none) (Ae:mg "len" = none) (m_int:mg "int" = none) (Ay:mg "bool" = none) (hj:jM≤j) (Lz:jB≤j):FnOk P w K mg base CX0 (j + 1) f fd AI (spX (gDU n)):=by
 refine lU F lJ (fun ds Q h=>by obtain ⟨_,_,rfl,_⟩:=h; rfl) (by decide) fun Ak A outer s H E hr => ?_
 have As:=qK hr
 have Am:=bV As
 refine ⟨_,(dO (iE (XW.pt (lE (ff_ (xG (b_ .list Ab (bE (pv 1)) (rV (v:=.ty "list") rfl m_list hs_ rfl)))) (gk_ (iM (hv_ K Am) pF (mX (wU K) zK (by rfl) Ae PySem.boot_len (bF (bE (pv 1)) bX)) (jZ K (fW D2 (hr.mono (by omega)) (bF (bE (pv 0)) bX)) dH (fun _ _=>rfl)) (bY _))))) (eF (gD ef_)) jE)
  (dO (wM PassesOwn.never rfl (mW (bE (pv 1))) (gG (i:=2) lJ.nd rfl (Or.inl rfl)) (kJ (n:=99) (i:=2) (by decide)) (eF (iE (XW.pt (lE (ff_ (xG (b_ .int Ab (bE (pv 2)) (rV (v:=.ty "int") rfl m_int qW rfl)))) (lE (xG (b_ .bool Ab (bE (pv 2)) (rV (v:=.ty "bool") rfl Ay oG rfl))) (gk_ (ff_ (aDq aOm aOl pI pG dH (bE (pv 2)) dH)))))) (eF (gD ef_)) jE)))
  (dO (eS (i:=3) lJ.nd rfl (Or.inl rfl) (fW Ff (hr.mono (by omega)) (bF (bE (pv 0)) (bF (bE (pv 1)) (bF dH bX)))))
  (dO (iE (XW.pt (lE (iM vG vC (bE (pv 3)) ef_ (bY _)) (gk_ (iM (aGh Am) aGd (fW He (hr.mono (by omega)) (bF (bE (pv 0)) (bF (bE (pv 3)) bX))) (bE (pv 1)) (bY _))))) (eF (gD ef_)) jE)
  (eF (gD (tQ (pv 3)))))))),fun ds Q h => ?_⟩
 clear Am As hj Lz
 obtain ⟨kd,d,rfl,hsz,Af,hd,hn,C7,qy,qn⟩:=h
 obtain ⟨b0,b1,b2,b3⟩:=kd.bd Af.ok
 have qno:abD d kd.rm.1=false→Q (.tr .non):=fun h=>qn fun ⟨vd,hv⟩=>by rw [aIn Af hv] at h; cases h
 by_cases isl:∃ l,d=.lst l
 rotate_left 1
 ·have hf:abD d kd.rm.1=false:=by
   cases d <;> first | rfl | exact absurd ⟨_,rfl⟩ isl
  have q:=qno hf
  cases d <;> first | exact q | exact absurd ⟨_,rfl⟩ isl | exact hsz.elim
 obtain ⟨l,rfl⟩:=isl
 simp only [Dx.Sz] at hsz
 by_cases Aj:(l.length:Int)=kd.rm.1
 rotate_left 1
 ·have q:=qno (by show (decide ((l.length:Int)=kd.rm.1) && _)=false; rw [dzF Aj]; rfl)
  refine ⟨kd,rfl,Af.ok,Af.full,by omega,by decide,?_⟩
  show if (!decide ((l.length:Int)=kd.rm.1))=true then _ else _
  rw [dzF Aj]
  exact q
 refine m7 (ρ':=[vT kd.x,vT (.lst l),.un,.un]) (fun Q q => ?_) ?_
 ·refine ⟨kd,rfl,Af.ok,Af.full,by omega,by decide,?_⟩
  show Q (!decide ((l.length:Int)=kd.rm.1)) _
  rw [dzT Aj]
  exact q
 refine tP (fun ρ=>l.all byD=true∧∃ y,ρ=[vT kd.x,vT (.lst l),y,.un]) ?_ (fun nx Bo => ?_)
 rotate_left 1
 ·show iJ _ _ _ l _
  refine il_ (fun rest ρ => ∃ (done:List Dx) (y:Sl),l=done ++ rest∧done.all byD=true∧ρ=[vT kd.x,vT (.lst l),y,.un]) (fun ρ h => ?_) (fun e rest ρ K2 h El => ?_) ⟨[],.un,rfl,rfl,rfl⟩
  ·obtain ⟨done,y,e1,e2,rfl⟩:=h
   rw [bZ] at e1
   subst e1
   exact Bo _ ⟨e2,_,rfl⟩
  ·obtain ⟨done,y,e1,e2,rfl⟩:=h
   have hez:=ga_ hsz.2 (show e∈l by rw [e1]; exact aK _ aB)
   cases Ge:byD e with
   | true =>
    have Ba:=El [vT kd.x,vT (.lst l),vT e,.un] ⟨done ++ [e],_,by rw [e1,bD]; rfl,by rw [List.all_append,e2]; show (true && (byD e && true))=true; rw [Ge]; rfl,rfl⟩
    cases e <;> simp only [byD,eZ] at Ge
    rename_i i
    rw [cZ,decide_eq_true_eq,decide_eq_true_eq] at Ge
    show xIf _ _ _ [vT kd.x,vT (.lst l),vT (.int i),.un] _
    refine aAc (ρ':=[vT kd.x,vT (.lst l),vT (.int i),.un]) (fun Q q => ?_) Ba
    show if decide (0≤i)=true then _ else _
    rw [if_pos (dzT Ge.1)]
    show Q (!decide (i < 256)) _
    rw [dzT Ge.2]
    exact q
   | false =>
    have q:=qno (by show (decide ((l.length:Int)=kd.rm.1) && _)=false; rw [e1,List.all_append,iS,Ge]; simp)
    cases e <;> first | exact q | exact hez.elim | skip
    rename_i i
    simp only [byD,Bool.and_eq_false_iff,decide_eq_false_iff_not] at Ge
    by_cases h1:0≤i
    ·have h2:¬ i < 256:=Ge.elim (fun z=>absurd h1 z) id
     show if decide (0≤i)=true then _ else _
     rw [if_pos (dzT h1)]
     show if (!decide (i < 256))=true then _ else _
     rw [dzF h2]
     exact q
    ·show if decide (0≤i)=true then _ else _
     rw [dzF h1]
     exact q
 rintro ρ ⟨Au,y,rfl⟩
 obtain ⟨xs,rfl,K9⟩:=wY Au
 rw [aE] at Aj hsz
 have A4:∀ {vd},o_ kd (.lst (xs.map Dx.int)) vd→kd.Val vd∧xs=kd.byt vd∧kd.Ag xs 0 vd:=fun {vd} h=>by
  have e:=pZ (Dx.lst.inj h.2)
  exact ⟨h.1,e,c9 kd.deep kd vd 0 (aV _) Af h.1 (by rw [e]; exact AtP.self _)⟩
 refine ⟨kd,xs,0,rfl,⟨Af,hd,by omega,by decide,by omega,K9,by show 0 + _≤_; omega⟩,hn,fun vd s An ha hs => ?_,fun Az => ?_⟩
 ·dsimp only
  change cV _ _ [vT kd.x,vT (.lst (xs.map Dx.int)),y,.v s] _
  have Jx:∀ (Q2:Sv→En→Prop),Q2 (.ol ((kd.byt vd).map Dx.int)) [vT kd.x,vT (.lst (xs.map Dx.int)),y,vT s.d]→dS (gLY 5) (bL (bW 0) (bL (bW 3) dD)) [vT kd.x,vT (.lst (xs.map Dx.int)),y,vT s.d] Q2:=fun Q2 q2=>by
   refine ⟨kd,vd,by rw [← hs]; rfl,Af,An,by omega,by decide,C7,q2⟩
  by_cases e:xs=kd.byt vd
  ·refine m7 (ρ':=[vT kd.x,vT (.lst (xs.map Dx.int)),y,vT s.d]) (fun Q q => ?_) ?_
   ·show vY false s.d .non _
    refine vX hs An ?_
    show xOp (eqI true) (dS (gLY 5) (bL (bW 0) (bL (bW 3) dD))) (bW 1) [vT kd.x,vT (.lst (xs.map Dx.int)),y,vT s.d] _
    refine oA (Jx _ ?_)
    refine ⟨kd.byt vd,xs,rfl,rfl,?_⟩
    show Q (!decide (kd.byt vd=xs)) _
    rw [dzT e.symm]
    exact q
   ·exact qy vd _ ⟨An,by rw [e]⟩ hs
  ·have q:=qn fun ⟨v2,h⟩=>by
    obtain ⟨g1,g2,g3⟩:=A4 h
    rw [kb_ kd.deep kd vd v2 0 (aV _) Af An g1 ha g3] at e
    exact e g2
   show vY false s.d .non _
   refine vX hs An ?_
   show xOp (eqI true) (dS (gLY 5) (bL (bW 0) (bL (bW 3) dD))) (bW 1) [vT kd.x,vT (.lst (xs.map Dx.int)),y,vT s.d] _
   refine oA (Jx _ ?_)
   refine ⟨kd.byt vd,xs,rfl,rfl,?_⟩
   show if (!decide (kd.byt vd=xs))=true then _ else _
   rw [dzF fun z=>e z.symm]
   exact q
 ·exact qn fun ⟨vd,h⟩=>Az ⟨vd,(A4 h).1,(A4 h).2.2⟩
end
theorem sH:bootBuiltins "ValueError" = some (.type "ValueError"):=by decide +kernel
structure Kit21 (K:eE) (mg:lN) (Ar Ac Aq Ao Ap A0:Addr):Prop where
 mV:mg "NoValue" = some (.ref Ar)
 mB:mg "NoBytes" = some (.ref Ac)
 mM:mg "NoMake" = some (.ref Aq)
 mT:mg "NoText" = some (.ref Ao)
 mN:mg "NoName" = some (.ref Ap)
 mR:mg "NoRow" = some (.ref A0)
 kit:PySem.W.excKit K Ac=true
 kV:PySem.W.kitOne K (.ref Ac) (.ref Ar)=some false
 kB:PySem.W.kitOne K (.ref Ac) (.ref Ac)=some true
 kE:PySem.W.kitOne K (.ref Ac) (.type "ValueError")=some true
 kA:PySem.W.kitAny K (.ref Ac) [.ref Aq,.ref Ao,.ref Ap,.ref A0]=some false
def gIS (C:Addr):GC:=fun ds Q=>ds=[.exc (.ref C),.int 1]∧Q (.tr (.bl true))
def gRG (n:Nat):GC:=fun ds Q => ∃ (kd:Kd) (d:Dx),ds=[kd.x,d]∧d.Sz∧d.deep≤15∧kd.Fit∧kd.deep≤n∧n≤5∧kd.rm.1≤100000∧Q (.tr (.bl true))
theorem wF {f:Dx→Option Bool} {i:Nat} {d:Dx} {b:Bool} {ρ:En} {Q:Sv→En→Prop} (hi:ρ[i]? = some (vT d)) (e:f d=some b) (q:Q (.tr (.bl b)) ρ):aKd f (bW i) ρ Q:=by
 unfold aKd bW
 rw [hi]
 show match f d with | some b=>Q (.tr (.bl b)) (ρ.set i (.v (.tr d))) | none=>False
 rw [e]
 have e2:ρ.set i (vT d)=ρ:=by
  obtain ⟨h1,h2⟩:=aF.mp hi
  rw [← h2,List.set_getElem_self]
 rw [e2]
 exact q
theorem aXp {c u:XC} {ρ:En} {Q:Bool→En→Prop} (h:c ρ fun b ρ1=>if b=true then Q true ρ1 else u ρ1 Q):xOr c u ρ Q:=h
theorem aSu {c:XC} {ρ:En} {Q:Bool→En→Prop} (h:c ρ fun b ρ1=>Q (!b) ρ1):aDy c ρ Q:=h
theorem aHz {t:XT} {ρ:En} {Q:Bool→En→Prop} (h:t ρ fun s ρ'=>match s with
 | .tr (.bl b)=>Q b ρ'
 | _=>False):xB t ρ Q:=h
theorem aMl {t:XT} {ρ:En} {Q:Sv→En→Prop} (h:xB t ρ fun c ρ1=>Q (.tr (.bl (!c))) ρ1):aNv t ρ Q:=h
theorem aHw {t:XT} {ρ:En} {D:XD} (h:t ρ fun s ρ'=>D.rt s ρ'):iW t ρ D:=h
theorem hm_ {i:Nat} {t:XT} {ρ:En} {D:XD} (h:t ρ fun s ρ'=>D.nx (ρ'.set i (.v s))):eU i t ρ D:=h
theorem aSv {u:XA} {ρ:En} {Q:Sv→En→Prop} (h:u ρ fun ss ρ'=>ss.length≤1000000∧Q (.ol (ss.map Sv.d)) ρ'):jF u ρ Q:=h
section
variable {f:Addr} {n j jS jI:Nat} {Ar Ac Aq Ao Ap A0 Be:Addr}
theorem aRu (F:Fun K "_law_is" "_law_is" ie_ f fd) (Kt:Kit21 K mg Ar Ac Aq Ao Ap A0) (Ab:mg "isinstance" = none) (m_range:mg "range" = none) (Bc:mg "ValueError" = none):FnOk P w K mg base CX0 1 f fd ["caught","due"] (spX (gIS Ac)):=by
 have Fc:=Kt.mV
 have Fd:=Kt.mB
 have Ga:=Kt.mM
 have F7:=Kt.mT
 have F8:=Kt.mN
 have Gz:=Kt.mR
 refine lU F sR (fun ds Q h=>by obtain ⟨rfl,_⟩:=h; rfl) (by decide) fun Ak A outer s H E hr => ?_
 have As:=qK hr
 have Am:=bV As
 refine ⟨_,(dO (eS (i:=2) sR.nd rfl (Or.inl rfl) (jH (bF (d6 (c:=.ref Ar) K Ab (bE (pv 0)) (ge_ (v:=.ref Ar) (by rfl) Fc rfl) (fun _ h=>h)) (bF (d6 (c:=.ref Ac) K Ab (bE (pv 0)) (ge_ (v:=.ref Ac) (by rfl) Fd rfl) (fun _ h=>h)) bX))))
  (dO (iE (XW.pt (lE (ff_ (xG (d6 (c:=.type "ValueError") K Ab (bE (pv 0)) (rV (v:=.ty "ValueError") rfl Bc sH rfl) (fun _ h=>h)))) (gk_ (iM (aLe Am) aQt (bE (pv 2)) (rW (dsc:=aQ ie_) (N:=["caught","due","kinds"]) (tgs:=["k"]) (outs:=[1]) (N':=["k","due"]) (by refine ⟨rfl,?_,?_,?_,rfl,?_,?_,?_⟩ <;> decide +kernel) (cg_ m_range (bF dH bX)) (fun _ _ _ _ _=>(gG (i:=0) (show (["k","due"]:List Str).Nodup by decide +kernel) rfl (Or.inl rfl) (.inr rfl))) (kJ (n:=1) (i:=0) (by decide)) (qZ (by decide)) (fun _ _ _ _ _=>mD) (fun _ _ _ _ _=>(fx_ (kO K Am) kL (bE (pv 0)) (bE (pv 1)) (bY _)))) (bY _))))) (eF (gD mZ)) jE)
  (eF (gD (aDs (aKa (cs:=[.ref Aq,.ref Ao,.ref Ap,.ref A0]) (vcs:=[.ref Aq,.ref Ao,.ref Ap,.ref A0]) K Ab (bE (pv 0)) (lZ (ge_ (v:=.ref Aq) (by rfl) Ga rfl) (lZ (ge_ (v:=.ref Ao) (by rfl) F7 rfl) (lZ (ge_ (v:=.ref Ap) (by rfl) F8 rfl) (lZ (ge_ (v:=.ref A0) (by rfl) Gz rfl) zM)))) (fun _ _ _ q=>q) (fun _ h=>oR (as:=[Aq,Ao,Ap,A0]) h) (by simp only [aM,aU]; decide))))))),fun ds Q h => ?_⟩
 clear Am As
 obtain ⟨rfl,q⟩:=h
 have e1:isC K (.ref Ar) (.exc (.ref Ac))=some false:=by simp only [isC]; rw [if_pos Kt.kit]; exact Kt.kV
 have e2:isC K (.ref Ac) (.exc (.ref Ac))=some true:=by simp only [isC]; rw [if_pos Kt.kit]; exact Kt.kB
 have e3:isC K (.type "ValueError") (.exc (.ref Ac))=some true:=by simp only [isC]; rw [if_pos Kt.kit]; exact Kt.kE
 have e4:aHq K [.ref Aq,.ref Ao,.ref Ap,.ref A0] (.exc (.ref Ac))=some false:=by simp only [aHq]; rw [if_pos Kt.kit]; exact Kt.kA
 refine xD (aSv (gi_ (wF rfl e1 (gi_ (wF rfl e2 ?_)))))
 refine ⟨iC,?_⟩
 change cV _ _ [vT (.exc (.ref Ac)),vT (.int 1),.v (.ol [.bl false,.bl true])] _
 refine m7 (ρ':=[vT (.exc (.ref Ac)),vT (.int 1),vT (.lst [.bl false,.bl true])]) (fun Q q => ?_) ?_
 ·refine aXp (aSu (aHz (wF rfl e3 ?_)))
  refine aHz (oA (rR rfl ?_))
  refine ⟨⟨by decide,by decide⟩,by decide,?_⟩
  exact ⟨[false,true],[false,true],rfl,rfl,rfl,q⟩
 ·exact aHw (aMl (aHz (wF rfl e4 q)))
theorem aRk (F:Fun K "_law_right" "_law_right" gb_ f fd) (CDU:Cal P w K mg base j "_law_due" AI (spX (gDU n))) (Iu:Cal P w K mg base jS "_law_copy" AO (spX (gCP 20))) (Ir:Cal P w K mg base jS "_law_same" AN (spX (gSA 20))) (CIS:Cal P w K mg base 1 "_law_is" ["caught","due"] (spX (gIS Ac))) (Da:PyProof.Rows.OwnCls "FieldError" Be veM "ValueError.__new__" mg base) (hun:c_ base Ac Be) (CVE:rQ P w K mg base j "value_of" AI (spE (aXt Ac n))) (hjS:jS≤j) (J2:1≤j):FnOk P w K mg base CX0 (j + 1) f fd AI (spX (gRG n)):=by
 refine lU F fF (fun ds Q h=>by obtain ⟨_,_,rfl,_⟩:=h; rfl) (by decide) fun Ak A outer s H E hr => ?_
 have As:=qK hr
 have Am:=bV As
 refine ⟨_,(dO (eS (i:=2) fF.nd rfl (Or.inl rfl) (fW CDU (hr.mono (by omega)) (bF (bE (pv 0)) (bF (bE (pv 1)) bX))))
  (dO (eS (i:=3) fF.nd rfl (Or.inl rfl) (jH (bF (fW Iu (hr.mono (by omega)) (bF (bE (pv 0)) bX)) (bF (fW Iu (hr.mono (by omega)) (bF (bE (pv 1)) bX)) bX))))
  (dO (eS (i:=4) fF.nd rfl (Or.inl rfl) ef_)
  (dO (eS (i:=5) fF.nd rfl (Or.inl rfl) ef_)
  (dO (aPe (jn:=6) (aPf (i:=5) fun _ _ _ _=>ai_ (i:=5) fF.nd rfl (Or.inl rfl) (aFz CVE (hr.mono (by omega)) (bF (fC K (pv 3)) (bF (fC K (pv 3)) bX)))) Da rfl rfl (by rfl) fF.nd rfl (by rfl) (fun _=>(eF (eS (i:=4) fF.nd rfl (Or.inl rfl) (bE (pv 6))))))
  (dO (iE (XW.pt (lE (ff_ (xG (fW Ir (hr.mono (by omega)) (bF (fC K (pv 3)) (bF (bE (pv 0)) bX))))) (gk_ (ff_ (xG (fW Ir (hr.mono (by omega)) (bF (fC K (pv 3)) (bF (bE (pv 1)) bX)))))))) (eF (gD mZ)) jE)
  (dO (iE (iM vG vC (bE (pv 2)) ef_ (bY _)) (eF (gD (fW CIS (hr.mono (by omega)) (bF (bE (pv 4)) (bF dH bX))))) jE)
  (eF (gD (oP (fx_ vG vC (bE (pv 4)) ef_ (bY _)) (oM (fW Ir (hr.mono (by omega)) (bF (bE (pv 5)) (bF (bE (pv 2)) bX)))))))))))))),fun ds Q h => ?_⟩
 clear Am As hjS J2
 obtain ⟨kd,d,rfl,hsz,G7,Af,hd,hn,C7,q⟩:=h
 obtain ⟨kz,kdp⟩:=kd.x_sz Af
 refine ⟨kd,d,rfl,hsz,Af,hd,hn,C7,fun vd s hv hs => ?_,fun Az => ?_⟩
 ·dsimp only
  change cV _ _ [vT kd.x,vT d,.v s,.un,.un,.un,.un] _
  obtain ⟨vz,vdp⟩:=kd.vx_sz vd Af hv.1
  refine ⟨kd.x,rfl,kz,by omega,d,rfl,hsz,by omega,iC,?_⟩
  dsimp only
  refine xD (qE (xD (qE ?_)))
  rw [show List.map Sv.d [kd.x.own,d.own]=[kd.x,d] from by simp only [aP,bP,lG]]
  change cV _ _ [vT kd.x,vT d,.v s,.v (.ol [kd.x,d]),vT .non,vT .non,.un] _
  refine ⟨kd,d,rfl,hsz,Af,hd,by omega,C7,fun G1 Kr => ?_,fun Az=>absurd ⟨vd,hv⟩ Az⟩
  have ev:G1=vd:=oF kd.deep kd G1 vd (aV _) Af Kr.1 hv.1 (pZ (Dx.lst.inj (Kr.2.symm.trans hv.2)))
  subst ev
  dsimp only
  change cV _ _ [vT kd.x,vT d,.v s,vT (.lst [kd.x,d]),vT .non,vT (kd.vx G1),.un] _
  refine m7 (ρ':=[vT kd.x,vT d,.v s,vT (.lst [kd.x,d]),vT .non,vT (kd.vx G1),.un]) (fun Q q => ?_) ?_
  ·exact ⟨kd.x,rfl,kz,by omega,d,rfl,hsz,by omega,q⟩
  refine m7 (ρ':=[vT kd.x,vT d,vT s.d,vT (.lst [kd.x,d]),vT .non,vT (kd.vx G1),.un]) (fun Q q => ?_) ?_
  ·show vY false s.d .non _
   exact vX hs hv.1 q
  ·exact ⟨kd.vx G1,by rw [← hs]; rfl,vz,by omega,q⟩
 ·dsimp only
  change cV _ _ [vT kd.x,vT d,vT .non,.un,.un,.un,.un] _
  refine ⟨kd.x,rfl,kz,by omega,d,rfl,hsz,by omega,iC,?_⟩
  dsimp only
  refine xD (qE (xD (qE ?_)))
  rw [show List.map Sv.d [kd.x.own,d.own]=[kd.x,d] from by simp only [aP,bP,lG]]
  change cV _ _ [vT kd.x,vT d,vT .non,.v (.ol [kd.x,d]),vT .non,vT .non,.un] _
  refine ⟨kd,d,rfl,hsz,Af,hd,by omega,C7,fun G1 Kr=>absurd ⟨G1,Kr⟩ Az,fun _=>⟨⟨Ac,rfl,hun⟩,?_⟩⟩
  refine hm_ (rR rfl ?_)
  dsimp only
  change cV _ _ [vT kd.x,vT d,vT .non,vT (.lst [kd.x,d]),vT (.exc (.ref Ac)),vT .non,.un] _
  refine m7 (ρ':=[vT kd.x,vT d,vT .non,vT (.lst [kd.x,d]),vT (.exc (.ref Ac)),vT .non,.un]) (fun Q q => ?_) ?_
  ·exact ⟨kd.x,rfl,kz,by omega,d,rfl,hsz,by omega,q⟩
  ·exact ⟨rfl,q⟩
end
theorem aNk {tg e:Expr} {t:XT} (h:Bx (XE X Ex e t)):Bx (XIt X Ex tg e (xiL t)):=⟨mW h.out⟩
theorem aUa {tg iter:Expr} {pos:Pos} {body:List Stmt} {ti:XI} {n:Nat} {g:TG} {gx:XG} {G:XS} (hp:PassesOwn (model X.prog X.w) X.A X.env X.xe) (hc:X.calm=true) (hi:Bx (XIt X Ex tg iter ti)) (hg:PG X tg g) (By:GX n g gx) (hb:Bx (XSs X Ex body G)) (hs:∀ x,foldedSetIterable iter X.env x=pure x:=by intro _; rfl):Bx (XSt X Ex (.For tg iter body [] pos) (lA ti gx G)):=⟨wM hp hc hi.out hg By hb.out hs⟩
theorem n6 {l:List Stmt} {G:XS} (h:Bx (XSs X Ex l G)):XSs X Ex l G:=h.out
theorem aUc {a b:Expr} {pos:Pos} {ta tb:XT} (ha:Bx (XE X Ex a ta)) (hb:Bx (XE X Ex b tb)):Bx (XE X Ex (.BinOp a .Sub b pos) (xOp aVv ta tb)):=⟨fg_ ha.out hb.out⟩
def OkE (d:Dx):Prop:=d.Sz∧d.deep≤2
def OkR (d:Dx):Prop:=d.Sz∧d.deep≤3
theorem dn_ {l:List Dx} (h1:l.length≤100000) (h2:∀ e∈l,OkE e):OkR (.lst l):=by
 refine ⟨by simp only [Dx.Sz]; exact ⟨h1,mF fun e he=>(h2 e he).1⟩,?_⟩
 have:=fc_ (l:=l) (n:=2) fun e he=>(h2 e he).2
 simp only [Dx.deep]
 omega
theorem zR {l:List Dx} {lo hi:Option Int} {e:Dx} (h:e∈mS l lo hi):e∈l:=by
 unfold mS at h
 exact List.mem_of_mem_drop (List.mem_of_mem_take h)
theorem aAq {α:Type} (xs:List α) (lo hi:Option Int):(mS xs lo hi).length≤xs.length:=by
 unfold mS
 rw [bT,iG]
 omega
theorem gh_ {l:List Dx} {j:Nat} {i:Int} {d:Dx} {Q:Sv→Prop} (e:i=(j:Int)) (h:l[j]? = some d) (q:Q (.tr d)):ixX (.lst l) (.int i) Q:=by
 subst e
 show (match atI l (j:Int) with | some d=>Q (.tr d) | none=>False)
 rw [em_ h]
 exact q
theorem aSp {n:Nat} {i:Int} (h0:0≤i) (h1:i < n):ixN n i=some i.toNat:=by
 unfold ixN
 rw [if_pos h0,if_pos h1]
theorem aAb {i ji:Nat} {te:XT} {l:List Dx} {d:Dx} {r:Int} {ρ ρ1:En} {D:XD} {K:XS} (ht:∀ Q:Sv→En→Prop,Q (.tr d) ρ1→te ρ Q) (hi:ρ1[i]? = some (.v (.ol l))) (hj:ρ1[ji]? = some (vT (.int r))) (hij:ji≠i) (h0:0≤r) (h1:r < l.length) (h:K (ρ1.set i (.v (.ol (l.set r.toNat d)))) D):cV (sJ i (bW ji) te) K ρ D:=by
 have e:ρ1.set ji (vT (.int r))=ρ1:=by
  obtain ⟨h1,h2⟩:=aF.mp hj
  rw [← h2,List.set_getElem_self]
 refine ht _ ⟨by rw [hi]; rfl,?_⟩
 unfold bW
 rw [hj]
 show (match ((ρ1.set ji (.v (.tr (.int r))))[i]?).bind kK,Dx.int r with | some (l,f),.int j=>(match ixN l.length j with | some n=>K ((ρ1.set ji (.v (.tr (.int r)))).set i (f (l.set n d))) D | none=>False) | _,_=>False)
 rw [e,hi]
 show (match ixN l.length r with | some n=>K (ρ1.set i (.v (.ol (l.set n d)))) D | none=>False)
 rw [aSp h0 h1]
 exact h
theorem aWs {α:Type} {a b c:α}:[a,b,c].length≤1000000:=by show 3≤1000000; decide
theorem aHx {ρ:En} {Q:List Sv→En→Prop} (h:Q [] ρ):dD ρ Q:=h
theorem aHy {l:List Dx} {Q:Sv→Prop} (h:Q (.ol l)):aHb [.lst l] Q:=h
theorem aSw {c u:XC} {ρ:En} {Q:Bool→En→Prop} (h:c ρ fun b ρ1=>if b=true then u ρ1 Q else Q false ρ1):aBd c u ρ Q:=h
def aMr:GB:=fun l ds Q => ∃ (B:Int) (LX LY:List Dx),ds=[.lst LX,.lst LY]∧PoolX B l∧1≤LX.length∧LX.length≤2000∧LY.length=LX.length∧(∀ e∈LX,∃ z:Int,e=.int z)∧(∀ e∈LY,∃ z:Int,e=.int z)∧B + 20 < 2 ^ 60∧∀ (d:Dx) (l':List Dx),OkR d→PoolX (B + 20) l'→Q d l'
section
variable {f:Addr}
theorem aLj (F:Fun K "_law_spoilt" "_law_spoilt" eh_ f fd) (A6:Cal P w K mg base 1 "_law_take" AF (spB gTK)) (Ae:mg "len" = none) (m_range:mg "range" = none) (m_list:mg "list" = none):FnOk P w K mg base CX0 2 f fd AZ (spB aMr):=by
 refine aCm F dG (fun l ds Q h=>by obtain ⟨_,_,_,rfl,_⟩:=h; rfl) (by decide) fun Ak A outer s H E hr => ?_
 have As:=qK hr
 have Am:=bV As
 refine ⟨_,(n6 (qY (Bx.mk (eS (i:=3) dG.nd rfl (Or.inl rfl) (iQ (i:=0) A6 (hr.mono (by omega)) (pv 0) (bF (mX (wU K) zK (by rfl) Ae PySem.boot_len (bF (bE (pv 1)) bX)) bX))))
  (qY (Bx.mk (qL fun F=>PS.weak (gc_ (i:=4) dG.nd rfl rfl (dsc:=aQ eh_) (N:=AQ) (tgs:=["k"]) (outs:=[1,2]) (N':=["k","laid","other"]) (by refine ⟨rfl,?_,?_,?_,rfl,?_,?_,?_⟩ <;> decide +kernel) (XIt.at (Ex:=dU) F (cg_ m_range (bF (mX (wU K) zK (by rfl) Ae PySem.boot_len (bF (bE (pv 1)) bX)) bX))) (fun _ _ _ _ _=>(gG (i:=0) (show (["k","laid","other"]:List Str).Nodup by decide +kernel) rfl (Or.inl rfl) (.inr rfl))) (qZ (by decide)) (fun a b c d e=>XCs.at (Ex:=dU) F (nK (XW.pt (oI (iM (kO K Am) kL (jZ K (bE (pv 1)) (bE (pv 0)) (fun _ _=>rfl)) (jZ K (bE (pv 2)) (bE (pv 0)) (fun _ _=>rfl)) (bY _)) (iq_ (iM pI pG (jZ K (bE (pv 1)) (bE (pv 0)) (fun _ _=>rfl)) dH (bY _))))))) (fun a b c d e=>XE.at (Ex:=dU) F (bE (pv 0)))) (ix_ (kJ (n:=1) (i:=0) (by decide)) (by decide))))
  (qY (Bx.mk (iE (XW.pt (oI (iM (hv_ K Am) pF (bE (pv 4)) (jH bX) (bY _)) (iq_ (iM (kO K Am) kL (iQ (i:=0) A6 (hr.mono (by omega)) (pv 0) (bF dH bX)) dH (bY _))))) (n6 (gj_ (Bx.mk (eS (i:=3) dG.nd rfl (Or.inl rfl) (jZ K (bE (pv 4)) (iQ (i:=0) A6 (hr.mono (by omega)) (pv 0) (bF (mX (wU K) zK (by rfl) Ae PySem.boot_len (bF (bE (pv 4)) bX)) bX)) (fun _ _=>rfl)))))) jE))
  (qY (Bx.mk (eS (i:=5) dG.nd rfl (Or.inl rfl) (iQ (i:=0) A6 (hr.mono (by omega)) (pv 0) (bF (mX (wU K) zK (by rfl) Ae PySem.boot_len (bF (bE (pv 1)) bX)) bX))))
  (qY (Bx.mk (eS (i:=6) dG.nd rfl (Or.inl rfl) (iQ (i:=0) A6 (hr.mono (by omega)) (pv 0) (bF (d4 dH dH) bX))))
  (qY (aTz (i:=7) dG.nd rfl (Or.inl rfl) (aYq K (qX (mU fz_ (mU (n_ fz_) (mU aJg (mU aJg (mU aJe (mU aJd (mU (qX (mU fz_ ha_)) (mU fz_ (mU (aJc (mU fz_ ha_)) (mU (o0 fz_ (ka_ (pv 6))) (mU (aUc (n_ fz_) (ka_ (pv 6))) (mU (n_ fz_) ha_))))))))))))) (aJf (i:=0) A6 (hr.mono (by omega)) (pv 0) (mU fz_ ha_)) (fun _ _=>rfl)))
  (qY (Bx.mk (eS (i:=8) dG.nd rfl (Or.inl rfl) (jZ K (jH (bF dH (bF dH (bF (iQ (i:=0) A6 (hr.mono (by omega)) (pv 0) (bF dH bX)) (bF (iQ (i:=0) A6 (hr.mono (by omega)) (pv 0) (bF dH bX)) bX))))) (iQ (i:=0) A6 (hr.mono (by omega)) (pv 0) (bF dH bX)) (fun _ _=>rfl))))
  (qY (Bx.mk (eS (i:=9) dG.nd rfl (Or.inl rfl) (en_ (n5 K) aNd (by rfl) m_list hs_ (bF (bE (pv 1)) bX))))
  (qY (Bx.mk (qL fun F=>PS.weak (hu_ (XE.at (Ex:=dU) F (jZ K (bE (pv 1)) (bE (pv 5)) (fun _ _=>rfl))) (mK (pv 9) (XE.at (Ex:=dU) F (bE (pv 3))) fq_)) hf_))
  (qY (Bx.mk (qL fun F=>PS.weak (hu_ (XE.at (Ex:=dU) F (jZ K (bE (pv 1)) (bE (pv 3)) (fun _ _=>rfl))) (mK (pv 9) (XE.at (Ex:=dU) F (bE (pv 5))) fq_)) hf_))
  (qY (Bx.mk (eS (i:=10) dG.nd rfl (Or.inl rfl) (qT (jH (bF (iD (iD (m_ K (bE (pv 1)) dd_ (zX (bE (pv 3)))) (jH (bF (bE (pv 8)) bX))) (m_ K (bE (pv 1)) (zX (iD (bE (pv 3)) dH)) dd_)) bX)) dH)))
  (qY (Bx.mk (eS (i:=10) dG.nd rfl (Or.inl rfl) (iD (bE (pv 10)) (qT (jH (bF (iD (iD (m_ K (bE (pv 1)) dd_ (zX (bE (pv 3)))) (jH (bF (bE (pv 7)) bX))) (m_ K (bE (pv 1)) (zX (iD (bE (pv 3)) dH)) dd_)) bX)) dH))))
  (qY (Bx.mk (eS (i:=10) dG.nd rfl (Or.inl rfl) (iD (bE (pv 10)) (jH (bF (iD (iD (m_ K (bE (pv 1)) dd_ (zX (bE (pv 3)))) (jH (bF (bE (pv 8)) bX))) (m_ K (bE (pv 1)) (zX (bE (pv 3))) dd_)) (bF (iD (m_ K (bE (pv 1)) dd_ (zX (bE (pv 3)))) (m_ K (bE (pv 1)) (zX (iD (bE (pv 3)) dH)) dd_)) bX))))))
  (qY (Bx.mk (eS (i:=10) dG.nd rfl (Or.inl rfl) (iD (bE (pv 10)) (jH (bF (bE (pv 9)) (bF (iD (bE (pv 1)) (jH (bF dH bX))) (bF (m_ K (bE (pv 1)) dd_ (zX (oN dH))) bX)))))))
  (gj_ (Bx.mk (gD (jZ K (bE (pv 10)) (iQ (i:=0) A6 (hr.mono (by omega)) (pv 0) (bF dH bX)) (fun _ _=>rfl)))))))))))))))))))),fun l ds Q h => ?_⟩
 clear Am As
 obtain ⟨B,LX,LY,rfl,hP,h1,h2,hYl,hX,hY,hB,q⟩:=h
 have hc:∀ lo hi,(mS LX lo hi).length≤2000:=fun lo hi=>nzL (aAq LX lo hi) h2
 have Gg:∀ e∈LX,OkE e:=fun e he=>by obtain ⟨z,rfl⟩:=hX e he; exact ⟨trivial,by simp only [Dx.deep]; omega⟩
 refine ⟨rfl,B,(LX.length:Int),rfl,hP,by omega,by omega,by omega,fun r1 l0 r10 r11 D1 => ?_⟩
 dsimp only
 change cV _ _ [.bw l0,vT (.lst LX),vT (.lst LY),vT (.int r1),.un,.un,.un,.un,.un,.un,.un] _
 refine tP (fun ρ => ∃ sm:List Dx,(∀ e∈sm,∃ z:Int,e=.int z∧0≤z∧z < LX.length)∧sm.length≤2000∧ρ=[.bw l0,vT (.lst LX),vT (.lst LY),vT (.int r1),.v (.ol sm),.un,.un,.un,.un,.un,.un]) ?_ (fun nx Bo => ?_)
 rotate_left 1
 ·refine hm_ ?_
  refine ⟨⟨by omega,by omega⟩,show ((List.range _).map _).length≤_ by rw [aE,bR]; omega,?_⟩
  show dX _ _ _ _ _ ((List.range (LX.length:Int).toNat).map fun k:Nat=>Dx.int (0 + (k:Int))) _ _
  rw [cL]
  refine cb_ (fun k:Nat=>Dx.int (0 + (k:Int))) (fun rest Ad cs=>cs=[vT (.lst LX),vT (.lst LY)]∧(∀ k∈rest,k < LX.length)∧Ad.length + rest.length≤LX.length∧∀ e∈Ad,∃ z:Int,e=.int z∧0≤z∧z < LX.length) (fun Ad cs h => ?_) (fun k rest Ad cs Pn h hk => ?_) ⟨rfl,fun k hk=>gO.mp hk,by rw [bR]; simp,fun e he=>absurd he (by simp)⟩
  ·obtain ⟨rfl,_,hl,Au⟩:=h
   rw [aU] at hl
   exact Bo _ ⟨Ad,Au,by omega,rfl⟩
  ·obtain ⟨rfl,Gr,hl,Au⟩:=h
   rw [aM] at hl
   have Go:=Gr k aB
   have g1:=aA (l:=LX) (i:=k) Go
   have g2:=aA (l:=LY) (i:=k) (by omega)
   obtain ⟨z1,e1⟩:=hX _ (aJ g1)
   obtain ⟨z2,e2⟩:=hY _ (aJ g2)
   rw [e1] at g1
   rw [e2] at g2
   have skip:Pn Ad [vT (.lst LX),vT (.lst LY)]:=hk _ _ ⟨rfl,fun k' h'=>Gr k' (aD _ h'),by omega,Au⟩
   have take:Pn (Ad ++ [.int (0 + (k:Int))]) [vT (.lst LX),vT (.lst LY)]:=hk _ _ ⟨rfl,fun k' h'=>Gr k' (aD _ h'),by rw [aC]; show Ad.length + 1 + _≤_; omega,fun e he=>by
    rcases bA.mp he with he | he
    ·exact Au e he
    ·rw [aO.mp he]; exact ⟨_,rfl,by omega,by omega⟩⟩
   show aBd _ _ [vT (.int (0 + (k:Int))),vT (.lst LX),vT (.lst LY)] _
   refine aSw (aHz (oA (oA (rR rfl (rR rfl (gh_ (j:=k) (by omega) g1 (oA (rR rfl (rR rfl (gh_ (j:=k) (by omega) g2 ?_))))))))))
   by_cases c1:z1=z2
   ·show if decide (z1=z2)=true then _ else _
    rw [if_pos (dzT c1)]
    refine aHz (oA (oA (rR rfl (rR rfl (gh_ (j:=k) (by omega) g1 ?_)))))
    by_cases c2:z1 < 7
    ·show if decide (z1 < 7)=true then _ else _
     rw [if_pos (dzT c2)]
     exact take
    ·show if decide (z1 < 7)=true then _ else _
     rw [dzF c2]
     exact skip
   ·show if decide (z1=z2)=true then _ else _
    rw [dzF c1]
    exact skip
 rintro ρ ⟨sm,Nc,Li,rfl⟩
 refine tP (fun ρ => ∃ (a:Int) (l0:List Dx) (y4:Sl),0≤a∧a < LX.length∧PoolX (B + 3) l0∧ρ=[.bw l0,vT (.lst LX),vT (.lst LY),vT (.int a),y4,.un,.un,.un,.un,.un,.un]) ?_ (fun nx Bo => ?_)
 rotate_left 1
 ·cases sm with
  | nil=>exact ⟨cK _,Bo _ ⟨r1,l0,_,r10,r11,D1.mono (by omega),rfl⟩⟩
  | cons s0 sr =>
   have sml:1≤(s0 :: sr).length:=by rw [aM]; omega
   generalize s0 :: sr=sm at *
   have Bf:sm≠[]:=fun z=>by rw [z] at sml; simp at sml
   have Hr:sm.isEmpty=false:=by cases sm <;> first | rfl | exact absurd rfl Bf
   refine ⟨cK _,?_⟩
   show if (!sm.isEmpty)=true then _ else _
   rw [Hr]
   refine ⟨rfl,_,2,rfl,D1,by omega,by decide,by decide,fun r2 l1 r20 r21 Df => ?_⟩
   by_cases c:r2=0
   ·show if decide (r2=0)=true then _ else _
    rw [if_pos (dzT c)]
    refine ⟨rfl,_,(sm.length:Int),rfl,Df,by omega,by omega,by omega,fun r3 l2 r30 r31 Ed => ?_⟩
    have g:=aA (l:=sm) (i:=r3.toNat) (by omega)
    obtain ⟨z,ez,z0,z1⟩:=Nc _ (aJ g)
    rw [ez] at g
    refine gh_ (j:=r3.toNat) (by omega) g ?_
    exact Bo _ ⟨z,l2,_,z0,z1,Ed.mono (by omega),rfl⟩
   ·show if decide (r2=0)=true then _ else _
    rw [dzF c]
    exact Bo _ ⟨r1,l1,_,r10,r11,Df.mono (by omega),rfl⟩
 rintro ρ ⟨a,l0,y4,a0,a1,Ed,rfl⟩
 clear D1 Nc Li
 refine ⟨rfl,_,(LX.length:Int),rfl,Ed,by omega,by omega,by omega,fun r5 l1 r50 r51 Eo => ?_⟩
 refine ⟨rfl,⟨by decide,by decide⟩,_,10 ^ 30,rfl,Eo,by omega,by decide,by decide,fun far l2 f0 f1 Dr => ?_⟩
 dsimp only
 change cV _ _ [.bw l2,vT (.lst LX),vT (.lst LY),vT (.int a),y4,vT (.int r5),vT (.int far),.un,.un,.un,.un] _
 refine tP (fun ρ => ∃ (o:Dx) (l2:List Dx),OkE o∧PoolX (B + 6) l2∧ρ=[.bw l2,vT (.lst LX),vT (.lst LY),vT (.int a),y4,vT (.int r5),vT (.int far),vT o,.un,.un,.un]) ?_ (fun nx Bo => ?_)
 rotate_left 1
 ·refine hm_ (oA ?_)
  refine ⟨lC,lC,by show 12≤1000000; decide,rfl,_,12,rfl,Dr,by omega,by decide,by decide,fun r l3 r0 r1 Bj => ?_⟩
  refine fy_ r0 r1 fun v hv=>Bo _ ⟨v,l3,?_,Bj.mono (by omega),rfl⟩
  simp only [aP,bP,Sv.d,aI,bI,or_false] at hv
  rcases hv with rfl | rfl | rfl | rfl | rfl | rfl | rfl | rfl | rfl | rfl | rfl | rfl
  all_goals first
   | exact ⟨trivial,by simp only [Dx.deep]; omega⟩
   | exact ⟨by simp only [Dx.Sz,szX,aM,aU]; exact ⟨by decide,trivial,trivial⟩,by simp only [Dx.deep,jC]; omega⟩
 rintro ρ ⟨o,l2,hoE,Bj,rfl⟩
 clear Dr
 refine tP (fun ρ => ∃ (b:Dx) (l2:List Dx),OkE b∧PoolX (B + 9) l2∧ρ=[.bw l2,vT (.lst LX),vT (.lst LY),vT (.int a),y4,vT (.int r5),vT (.int far),vT o,vT b,.un,.un]) ?_ (fun nx Bo => ?_)
 rotate_left 1
 ·refine hm_ (oA ?_)
  refine ⟨rfl,_,8,rfl,Bj,by omega,by decide,by decide,fun b1 l3 b10 b11 Cj => ?_⟩
  refine ⟨rfl,_,256,rfl,Cj,by omega,by decide,by decide,fun b2 l4 b20 b21 Hz => ?_⟩
  refine ⟨by show 4≤1000000; decide,rfl,_,4,rfl,Hz,by omega,by decide,by decide,fun r l5 r0 r1 Mp => ?_⟩
  refine fy_ r0 r1 fun v hv=>Bo _ ⟨v,l5,?_,Mp.mono (by omega),rfl⟩
  simp only [aP,bP,Sv.d,aI,bI,or_false] at hv
  rcases hv with rfl | rfl | rfl | rfl
  all_goals first
   | exact ⟨trivial,by simp only [Dx.deep]; omega⟩
   | exact ⟨by simp only [Dx.Sz,szX,aM,aU]; exact ⟨by decide,trivial,trivial⟩,by simp only [Dx.deep,jC]; omega⟩
 rintro ρ ⟨b,l2,Nr,Mp,rfl⟩
 clear Bj
 refine xD (nY (gi_ (rR rfl (aHx (aHy ?_)))))
 change cV _ _ [.bw l2,vT (.lst LX),vT (.lst LY),vT (.int a),y4,vT (.int r5),vT (.int far),vT o,vT b,.v (.ol LX),.un] _
 have g5:=aA (l:=LX) (i:=r5.toNat) (by omega)
 have ga:=aA (l:=LX) (i:=a.toNat) (by omega)
 have m5:=Gg _ (aJ g5)
 have ma:=Gg _ (aJ ga)
 generalize LX[r5.toNat]'(by omega)=d5 at g5 m5
 generalize LX[a.toNat]'(by omega)=da at ga ma
 refine aAb (d:=d5) (l:=LX) (r:=a) (ρ1:=[.bw l2,vT (.lst LX),vT (.lst LY),vT (.int a),y4,vT (.int r5),vT (.int far),vT o,vT b,.v (.ol LX),.un]) (fun Q q=>oA (rR rfl (rR rfl (gh_ (j:=r5.toNat) (by omega) g5 q)))) rfl rfl (by decide) a0 a1 ?_
 change cV _ _ [.bw l2,vT (.lst LX),vT (.lst LY),vT (.int a),y4,vT (.int r5),vT (.int far),vT o,vT b,.v (.ol (LX.set a.toNat d5)),.un] _
 refine aAb (d:=da) (l:=LX.set a.toNat d5) (r:=r5) (ρ1:=[.bw l2,vT (.lst LX),vT (.lst LY),vT (.int a),y4,vT (.int r5),vT (.int far),vT o,vT b,.v (.ol (LX.set a.toNat d5)),.un]) (fun Q q=>oA (rR rfl (rR rfl (gh_ (j:=a.toNat) (by omega) ga q)))) rfl rfl (by decide) r50 (by rw [bB]; exact r51) ?_
 have Na:∀ e∈(LX.set a.toNat d5).set r5.toNat da,OkE e:=fun e he=>by
  rcases List.mem_or_eq_of_mem_set he with h | h
  ·rcases List.mem_or_eq_of_mem_set h with h | h
   ·exact Gg e h
   ·rw [h]; exact m5
  ·rw [h]; exact ma
 have Cr:((LX.set a.toNat d5).set r5.toNat da).length=LX.length:=by rw [bB,bB]
 generalize (LX.set a.toNat d5).set r5.toNat da=TU at Na Cr
 change cV _ _ [.bw l2,vT (.lst LX),vT (.lst LY),vT (.int a),y4,vT (.int r5),vT (.int far),vT o,vT b,.v (.ol TU),.un] _
 have cE:∀ lo hi,∀ e∈mS LX lo hi,OkE e:=fun lo hi e he=>Gg e (zR he)
 have join:∀ {p q:List Dx},(∀ e∈p,OkE e)→(∀ e∈q,OkE e)→∀ e∈p ++ q,OkE e:=fun {p q} h1 h2 e he=>(bA.mp he).elim (h1 e) (h2 e)
 have one:∀ {x:Dx},OkE x→∀ e∈[x],OkE e:=fun {x} h e he=>by rw [aO.mp he]; exact h
 have hc1:=hc none (some a)
 have hc2:=hc (some (a + 1)) none
 have No:=hc (some a) none
 have hc4:=hc none (some (-1))
 clear r50 r51 a0 a1 h1 hYl f0 f1
 refine tP (fun ρ => ∃ rw_:List Dx,rw_.length=5∧(∀ d∈rw_,OkR d)∧ρ=[.bw l2,vT (.lst LX),vT (.lst LY),vT (.int a),y4,vT (.int r5),vT (.int far),vT o,vT b,.v (.ol TU),.v (.ol rw_)]) ?_ (fun nx Bo => ?_)
 rotate_left 1
 ·refine ⟨lC,show _ + 1≤1000000 by omega,?_⟩
  refine ⟨by rw [aC]; show _ + 1 + _≤1000000; omega,lC,⟨by decide,by decide,by show 1 * 5≤1000000; decide⟩,?_⟩
  refine Bo _ ⟨_,?_,fun d hd => ?_,rfl⟩
  ·rfl
  ·obtain ⟨l,hl,hd⟩:=List.mem_flatten.mp hd
   rw [List.eq_of_mem_replicate hl] at hd
   rw [aO.mp hd]
   exact dn_ (by rw [aC,aC]; show _ + 1 + _≤_; omega) (join (join (cE _ _) (one Nr)) (cE _ _))
 rintro ρ ⟨r1w,l1w,h1w,rfl⟩
 refine tP (fun ρ => ∃ rw_:List Dx,rw_.length=7∧(∀ d∈rw_,OkR d)∧ρ=[.bw l2,vT (.lst LX),vT (.lst LY),vT (.int a),y4,vT (.int r5),vT (.int far),vT o,vT b,.v (.ol TU),.v (.ol rw_)]) ?_ (fun nx Bo => ?_)
 rotate_left 1
 ·refine ⟨lC,show _ + 1≤1000000 by omega,?_⟩
  refine ⟨by rw [aC]; show _ + 1 + _≤1000000; omega,lC,⟨by decide,by decide,by show 1 * 2≤1000000; decide⟩,?_⟩
  refine ⟨by rw [l1w]; show 5 + 2≤1000000; decide,?_⟩
  refine Bo _ ⟨_,?_,fun d hd => ?_,rfl⟩
  ·rw [aC,l1w]; rfl
  ·rcases bA.mp hd with hd | hd
   ·exact h1w d hd
   obtain ⟨l,hl,hd⟩:=List.mem_flatten.mp hd
   rw [List.eq_of_mem_replicate hl] at hd
   rw [aO.mp hd]
   exact dn_ (by rw [aC,aC]; show _ + 1 + _≤_; omega) (join (join (cE _ _) (one hoE)) (cE _ _))
 rintro ρ ⟨r2w,l2w,h2w,rfl⟩
 refine tP (fun ρ => ∃ rw_:List Dx,rw_.length=9∧(∀ d∈rw_,OkR d)∧ρ=[.bw l2,vT (.lst LX),vT (.lst LY),vT (.int a),y4,vT (.int r5),vT (.int far),vT o,vT b,.v (.ol TU),.v (.ol rw_)]) ?_ (fun nx Bo => ?_)
 rotate_left 1
 ·refine ⟨lC,show _ + 1≤1000000 by omega,?_⟩
  refine ⟨by rw [aC]; show _ + 1 + _≤1000000; omega,by show _ + _≤1000000; omega,iC,by rw [l2w]; show 7 + 2≤1000000; decide,?_⟩
  refine Bo _ ⟨_,?_,fun d hd => ?_,rfl⟩
  ·rw [aC,l2w]; rfl
  ·rcases bA.mp hd with hd | hd
   ·exact h2w d hd
   rcases aI.mp hd with rfl | hd
   ·exact dn_ (by rw [aC,aC]; show _ + 1 + _≤_; omega) (join (join (cE _ _) (one Nr)) (cE _ _))
   ·rw [aO.mp hd]
    exact dn_ (by rw [aC]; omega) (join (cE _ _) (cE _ _))
 rintro ρ ⟨r3w,l3w,h3w,rfl⟩
 refine tP (fun ρ => ∃ (rw_:List Dx) (y9:Sl),rw_.length=12∧(∀ d∈rw_,OkR d)∧ρ=[.bw l2,vT (.lst LX),vT (.lst LY),vT (.int a),y4,vT (.int r5),vT (.int far),vT o,vT b,y9,.v (.ol rw_)]) ?_ (fun nx Bo => ?_)
 rotate_left 1
 ·refine ⟨lC,show _ + 1≤1000000 by omega,aWs,by rw [l3w]; show 9 + 3≤1000000; decide,?_⟩
  refine Bo _ ⟨_,_,?_,fun d hd => ?_,rfl⟩
  ·rw [aC,l3w]; rfl
  ·rcases bA.mp hd with hd | hd
   ·exact h3w d hd
   rcases aI.mp hd with rfl | hd
   ·exact dn_ (by omega) Na
   rcases aI.mp hd with rfl | hd
   ·exact dn_ (by rw [aC]; show _ + 1≤_; omega) (join Gg (one (x:=.int 0) ⟨trivial,by simp only [Dx.deep]; omega⟩))
   ·rw [aO.mp hd]
    exact dn_ (by omega) (cE _ _)
 rintro ρ ⟨r4w,y9,l4w,h4w,rfl⟩
 refine aHw (oA (rR rfl ?_))
 refine ⟨rfl,_,12,rfl,Mp,by omega,by decide,by decide,fun r l5 r0 r1 Mq => ?_⟩
 have g:=aA (l:=r4w) (i:=r.toNat) (by omega)
 refine gh_ (j:=r.toNat) (by omega) g ?_
 exact q _ _ (h4w _ (aJ g)) (Mq.mono (by omega))
end
def aFg (K : eE) : XS := (cV (lA (xL (bL (dS aGx (bL (xC (.int 1)) (bL (dS aGw (bL (xC (.int 4)) (bL (dS (aSc K) (bL (bW 0) dD)) dD))) dD))) dD)) (gxN 1) (cV (eU 2 (dS (gPL K) (bL (bW 0) (bL (bW 1) dD))))
    (cV (eU 3 (xOp ixX (jF (bL (xC (.int 60)) (bL (xC (.int 200)) (bL (xC (.int 200)) (bL (xOp ixX (jF (bL (xC (.int 2000)) (bL (xC (.int 200)) dD))) (dS aCi (bL (xOp gtX (bW 1) (xC (.int 0))) dD))) dD))))) (fU gTK 2 (bL (xC (.int 4)) dD))))
    (cV (eU 4 (fU (gLK 5) 2 (bL (xOp iL (xC (.int 1)) (fU gTK 2 (bL (xC (.int 5)) dD))) (bL (bW 3) dD))))
    (cV (eU 5 (dS (gLY 5) (bL (bW 4) (bL (fU (gVA 5) 2 (bL (bW 4) dD)) dD))))
    (cV (eU 6 (dS (gLY 5) (bL (bW 4) (bL (fU (gVA 5) 2 (bL (bW 4) dD)) dD))))
    (cV (eU 7 (xOp iL (jF (bL (bW 5) dD)) (iR 1 [2,5,6] (xL (bL (xC (.int 8)) dD)) (gxN 0) lO (fU aMr 1 (bL (bW 2) (bL (bW 3) dD))))))
    (cV (aBc 7 (iR 1 [2] (xiL (bW 5)) (gxN 0) lO (fU gTK 1 (bL (xC (.int 3)) dD))))
    (cV (xIf (xB (xOp gtX (bW 3) (xC (.int 200)))) (eU 7 (xSl (bW 7) xoN (xoS (xC (.int 4))))) fM)
    (lA (xiL (xOp iL (bW 7) (jF (bL (xC .non) (bL (xC (.int 0)) (bL (xC (.bl true)) (bL (xC (.str "")) (bL (jF dD) (bL xO (bL (xN dD) (bL (dS f8 (bL (bW 5) dD)) (bL (xOp iL (bW 5) (bW 5)) (bL (jF (bL (bW 5) dD)) dD))))))))))))) (gxN 8) (xIf (aDy (xB (dS (gRG 5) (bL (bW 4) (bL (bW 8) dD))))) (iW (xC (.bl false))) fM)))))))))))
    (iW (xC (.bl true))))
section
variable {f:Addr} {L:Nat}
theorem aMz (M2:Cal P w K mg base 1 "_law_pool" ["script","k"] (spX (gPL K)))
  (A6:Cal P w K mg base 1 "_law_take" AF (spB gTK)) (Ib:Cal P w K mg base L "_law_kind" AK (spB (gLK 5))) (Hd:Cal P w K mg base L "_law_value" AX (spB (gVA 5))) (He:Cal P w K mg base L "_law_bytes" AE (spX (gLY 5))) (My:Cal P w K mg base L "_law_spoilt" AZ (spB aMr)) (Mz:Cal P w K mg base L "_law_right" AI (spX (gRG 5)))
  (m_max:mg "max" = none) (Dk:mg "min" = none) (m_range:mg "range" = none) (Ae:mg "len" = none) (m_int:mg "int" = none) (Ai:mg "tuple" = none) (hL:1≤L)
  {Ak:Value} {A:Around} {outer:List Env} {s:Shared} {H:Hp} {E:XK} (hr:Room L (A.deeper (PyProof.Rows.envOfC "law" (aQ iz_) s.heap.objs.size f Ak))) :
  XSs (lM CX0 P w K mg base (["script","k","pool","most","kind","laid","other","rows","thing"]:List Str) "law" (aQ iz_) f Ak A outer s H E).nox dU (hU iz_) (aFg K):=by
 have As:=qK hr
 have Am:=bV As
 exact (n6 (qY (Bx.mk (wM PassesOwn.never rfl (cg_ m_range (bF (mX (aDa (by rfl)) aNc (by rfl) m_max jz_ (bF dH (bF (mX (aCw (by rfl)) aNb (by rfl) Dk aTx (bF dH (bF (mX (wU K) aAo (by rfl) Ae PySem.boot_len (bF (bE (pv 0)) bX)) bX))) bX))) bX)) (gG (i:=1) jL.nd rfl (Or.inl rfl)) (kJ (n:=99) (i:=1) (by decide)) (n6 (qY (Bx.mk (eS (i:=2) jL.nd rfl (Or.inr rfl) (fW M2 (hr.mono (by omega)) (bF (bE (pv 0)) (bF (bE (pv 1)) bX)))))
  (qY (Bx.mk (eS (i:=3) jL.nd rfl (Or.inl rfl) (jZ K (jH (bF dH (bF dH (bF dH (bF (jZ K (jH (bF dH (bF dH bX))) (en_ jy_ m6 (by rfl) m_int qW (bF (fx_ aGj aGb (bE (pv 1)) dH (bY _)) bX)) (fun _ _=>rfl)) bX))))) (iQ (i:=2) A6 (hr.mono (by omega)) (pv 2) (bF dH bX)) (fun _ _=>rfl))))
  (qY (Bx.mk (eS (i:=4) jL.nd rfl (Or.inl rfl) (iQ (i:=2) Ib (hr.mono (by omega)) (pv 2) (bF (iD dH (iQ (i:=2) A6 (hr.mono (by omega)) (pv 2) (bF dH bX))) (bF (bE (pv 3)) bX)))))
  (qY (Bx.mk (eS (i:=5) jL.nd rfl (Or.inr rfl) (fW He (hr.mono (by omega)) (bF (bE (pv 4)) (bF (iQ (i:=2) Hd (hr.mono (by omega)) (pv 2) (bF (bE (pv 4)) bX)) bX)))))
  (qY (Bx.mk (eS (i:=6) jL.nd rfl (Or.inr rfl) (fW He (hr.mono (by omega)) (bF (bE (pv 4)) (bF (iQ (i:=2) Hd (hr.mono (by omega)) (pv 2) (bF (bE (pv 4)) bX)) bX)))))
  (qY (Bx.mk (eS (i:=7) jL.nd rfl (Or.inl rfl) (iD (jH (bF (bE (pv 5)) bX)) (rW (dsc:=aQ iz_) (N:=AJ) (tgs:=["turn"]) (outs:=[2,5,6]) (N':=["turn","pool","laid","other"]) (by refine ⟨rfl,?_,?_,?_,rfl,?_,?_,?_⟩ <;> decide +kernel) (cg_ m_range (bF dH bX)) (fun _ _ _ _ _=>(gG (i:=0) (show (["turn","pool","laid","other"]:List Str).Nodup by decide +kernel) rfl (Or.inl rfl) (.inr rfl))) (kJ (n:=1) (i:=0) (by decide)) (qZ (by decide)) (fun _ _ _ _ _=>mD) (fun _ _ _ _ _=>(iQ (i:=1) My (hr.mono (by omega)) (pv 1) (bF (bE (pv 2)) (bF (bE (pv 3)) bX))))))))
  (qY (Bx.mk (qL fun F=>PS.weak (gd_ (pE PySem.F.plainAttrs_list PySem.F.slot_list_append PySem.F.type_list_append es_ (pv 7) (lZ (XE.at (Ex:=dU) F (rW (dsc:=aQ iz_) (N:=AJ) (tgs:=["byte"]) (outs:=[2]) (N':=["byte","pool"]) (by refine ⟨rfl,?_,?_,?_,rfl,?_,?_,?_⟩ <;> decide +kernel) (mW (bE (pv 5))) (fun _ _ _ _ _=>(gG (i:=0) (show (["byte","pool"]:List Str).Nodup by decide +kernel) rfl (Or.inl rfl) (.inr rfl))) (kJ (n:=1) (i:=0) (by decide)) (qZ (by decide)) (fun _ _ _ _ _=>mD) (fun _ _ _ _ _=>(iQ (i:=1) A6 (hr.mono (by omega)) (pv 1) (bF dH bX))))) zM))) mE))
  (qY (Bx.mk (iE (iM aGj aGb (bE (pv 3)) dH (bY _)) (n6 (gj_ (Bx.mk (eS (i:=7) jL.nd rfl (Or.inl rfl) (m_ K (bE (pv 7)) dd_ (zX dH)))))) jE))
  (gj_ (aUa PassesOwn.never rfl (aNk (o0 (ka_ (pv 7)) (qX (mU aJe (mU fz_ (mU aJg (mU aJd (mU (qX ha_) (mU aNl (mU (aJc ha_) (mU (aDi (jx_ K) zQ (by rfl) Ai fd_ (mU (ka_ (pv 5)) ha_)) (mU (o0 (ka_ (pv 5)) (ka_ (pv 5))) (mU (qX (mU (ka_ (pv 5)) ha_)) ha_))))))))))))) (gG (i:=8) jL.nd rfl (Or.inl rfl)) (kJ (n:=99) (i:=8) (by decide)) (Bx.mk (n6 (gj_ (Bx.mk (iE (ff_ (xG (fW Mz (hr.mono (by omega)) (bF (bE (pv 4)) (bF (bE (pv 8)) bX))))) (n6 (gj_ (Bx.mk (gD mZ)))) jE))))))))))))))))))
  (gj_ (Bx.mk (gD mZ)))))
end
theorem aLx {v:Dx} {z:Int} (h:v∈[Dx.int 60,Dx.int 200,Dx.int 200,Dx.int z]) (hz:z=2000∨z=200):∃ mo,v=.int mo∧8≤mo∧mo≤2000:=by
 simp only [aI,bI,or_false] at h
 rcases h with rfl | rfl | rfl | rfl
 ·exact ⟨_,rfl,by omega,by omega⟩
 ·exact ⟨_,rfl,by omega,by omega⟩
 ·exact ⟨_,rfl,by omega,by omega⟩
 ·exact ⟨_,rfl,by omega,by omega⟩
theorem aPo {v:Dx} {a b:Int} (h:v∈[Dx.int a,Dx.int b]):∃ z,v=.int z∧(z=a∨z=b):=by
 simp only [aI,bI,or_false] at h
 rcases h with rfl | rfl
 ·exact ⟨_,rfl,.inl rfl⟩
 ·exact ⟨_,rfl,.inr rfl⟩
theorem uP:∀ (n:Nat) (kd:Kd),kd.deep≤n→kd.Fit→1≤kd.rm.1.toNat
 | 0,kd,hd,_=>by have:=Kd.deep_pos kd; omega
 | n + 1,.num w m,_,hf=>by have:=hf.1; show 1≤w.toNat; omega
 | n + 1,.row k m,hd,hf=>by
  have Cw:k.deep + 1≤n + 1:=hd
  have:=uP n k (by omega) hf.1
  have:=wG (t:=0) hf (by have:=hf.2.1; omega)
  omega
 | n + 1,.rcd fs,hd,hf=>by
  have Cw:eJ fs + 1≤n + 1:=hd
  have h1:=hf.2.1
  have e1:=aA (l:=fs) (i:=0) (by omega)
  have e2:=aA (l:=dW 0 (rmF fs)) (i:=0) (by rw [go_]; omega)
  obtain ⟨ff,fdp⟩:=jV hf.1 (aJ e1)
  have:=uP n _ (nzL fdp (by omega)) ff
  have:=(wH hf e1 e2).2
  omega
 | n + 1,.cho ks,hd,hf=>by
  have h1:=hf.2.1
  have e1:=aA (l:=ks) (i:=0) (by omega)
  have:=jn_ hf e1
  obtain ⟨b0,b1,b2,b3⟩:=(Kd.cho ks).bd hf.ok
  obtain ⟨u1,u2⟩:=jN (n:=1) (m:=(Kd.cho ks).rm.2) (by omega)
  omega
theorem v3 (z:Int):OkE (.int z):=⟨trivial,by simp only [Dx.deep]; omega⟩
theorem v0 {l:List Dx} (h1:l.length≤100000) (h2:∀ e∈l,OkE e):OkR (.tup l):=by
 refine ⟨by simp only [Dx.Sz]; exact ⟨h1,mF fun e he=>(h2 e he).1⟩,?_⟩
 have:=fc_ (l:=l) (n:=2) fun e he=>(h2 e he).2
 simp only [Dx.deep]
 omega
def aGs (LX:List Dx):List Dx:=[.non,.int 0,.bl true,.str "",.lst [],.dic [],.tup [],.tup LX,.lst (LX ++ LX),.lst [.lst LX]]
theorem aMn {t:XT} {gx:XG} {G:XS} {ρ:En} {D:XD} (h:t ρ fun s ρ'=>match s.d with
 | .lst l=>iJ gx G D l ρ'
 | _=>False):lA (xiL t) gx G ρ D:=h
section
variable {f:Addr} {L:Nat}
theorem aLn (F:Fun K "law" "law" iz_ f fd) (M2:Cal P w K mg base 1 "_law_pool" ["script","k"] (spX (gPL K)))
  (A6:Cal P w K mg base 1 "_law_take" AF (spB gTK)) (Ib:Cal P w K mg base L "_law_kind" AK (spB (gLK 5))) (Hd:Cal P w K mg base L "_law_value" AX (spB (gVA 5))) (He:Cal P w K mg base L "_law_bytes" AE (spX (gLY 5))) (My:Cal P w K mg base L "_law_spoilt" AZ (spB aMr)) (Mz:Cal P w K mg base L "_law_right" AI (spX (gRG 5)))
  (m_max:mg "max" = none) (Dk:mg "min" = none) (m_range:mg "range" = none) (Ae:mg "len" = none) (m_int:mg "int" = none) (Ai:mg "tuple" = none) (hL:1≤L) :
  FnOk P w K mg base CX0 (L + 1) f fd ["script"] (spX (aXw K)):=by
 refine lU F jL (fun ds Q h=>by obtain ⟨ns,rfl,_⟩:=h; rfl) (by decide) fun Ak A outer s H E hr => ?_
 refine ⟨_,aMz M2 A6 Ib Hd He My Mz m_max Dk m_range Ae m_int Ai hL hr,fun ds Q h => ?_⟩
 obtain ⟨ns,rfl,h63,q⟩:=h
 have t5:tk 5=67863000:=by decide
 have v5:tv 5=2042050:=by decide
 unfold aFg
 refine tP (fun ρ=>True) (fun ρ _=>q) (fun nx Bo => ?_)
 refine ⟨rfl,?_⟩
 refine ⟨⟨by split <;> (try split) <;> omega,by split <;> (try split) <;> omega⟩,?_⟩
 refine xH (fun k:Nat=>Dx.int (0 + (k:Int))) (fun rest ρ=>(∀ k∈rest,k < 63)∧∃ y1 y2 y3 y4 y5 y6 y7 y8,ρ=[vT (.scr K ns),y1,y2,y3,y4,y5,y6,y7,y8]) (fun ρ h=>Bo ρ trivial) (fun k rest ρ Kn h hk => ?_) ⟨fun k hk=>by
   have:=gO.mp hk
   revert this
   split <;> (try split) <;> omega,.un,.un,.un,.un,.un,.un,.un,.un,rfl⟩
 obtain ⟨Br,y1,y2,y3,y4,y5,y6,y7,y8,rfl⟩:=h
 have hk4:=Br k aB
 have Hm:∀ a1 a2 a3 a4 a5 a6 a7 a8,Kn [vT (.scr K ns),a1,a2,a3,a4,a5,a6,a7,a8]:=fun a1 a2 a3 a4 a5 a6 a7 a8=>hk _ ⟨fun k' Ba=>Br k' (aD _ Ba),_,_,_,_,_,_,_,_,rfl⟩
 refine ⟨ns,0 + (k:Int),rfl,by omega,by omega,fun l hP => ?_⟩
 dsimp only
 refine ⟨iC,?_⟩
 refine aJw rfl ?_
 refine fy_ ?_ ?_ fun v hv => ?_
 ·split <;> decide
 ·show _ < (2:Int); split <;> decide
 obtain ⟨z,rfl,hz⟩:=aPo hv
 refine ⟨k4 (by show 4≤1000000; decide),rfl,_,4,rfl,hP,by omega,by decide,by decide,fun r1 l1 r10 r11 D1 => ?_⟩
 refine fy_ r10 r11 fun v hv => ?_
 obtain ⟨mo,rfl,mo1,mo2⟩:=aLx hv hz
 refine ⟨rfl,rfl,_,5,rfl,D1,by omega,by decide,by decide,fun r2 l2 r20 r21 Df => ?_⟩
 refine ⟨_,1 + r2,mo,rfl,Df,by omega,by omega,by omega,by decide,by rw [t5]; omega,fun kd l3 hF Bz C7 Ed => ?_⟩
 rw [t5] at Ed
 have Ip:kd.deep≤5:=by omega
 have hrp:=uP 5 kd Ip hF
 dsimp only
 change cV _ _ [vT (.scr K ns),vT (.int (0 + (k:Int))),.v (.ol l3),vT (.int mo),vT kd.x,y5,y6,y7,y8] _
 refine ⟨rfl,_,kd,rfl,Ed,hF,Ip,by decide,by rw [v5]; omega,fun v1 l4 Nu Eo => ?_⟩
 rw [v5] at Eo
 refine ⟨kd,v1,rfl,hF,Nu,Ip,by decide,by omega,?_⟩
 dsimp only
 change cV _ _ [vT (.scr K ns),vT (.int (0 + (k:Int))),.v (.ol l4),vT (.int mo),vT kd.x,.v (.ol ((kd.byt v1).map Dx.int)),y6,y7,y8] _
 refine ⟨rfl,_,kd,rfl,Eo,hF,Ip,by decide,by rw [v5]; omega,fun v2 l5 Nt Dr => ?_⟩
 rw [v5] at Dr
 refine ⟨kd,v2,rfl,hF,Nt,Ip,by decide,by omega,?_⟩
 dsimp only
 change cV _ _ [vT (.scr K ns),vT (.int (0 + (k:Int))),.v (.ol l5),vT (.int mo),vT kd.x,.v (.ol ((kd.byt v1).map Dx.int)),.v (.ol ((kd.byt v2).map Dx.int)),y7,y8] _
 obtain ⟨LX,eX⟩ : ∃ LX,(kd.byt v1).map Dx.int=LX:=⟨_,rfl⟩
 obtain ⟨LY,eY⟩ : ∃ LY,(kd.byt v2).map Dx.int=LY:=⟨_,rfl⟩
 have hX:∀ e∈LX,∃ z:Int,e=.int z:=fun e he=>by rw [← eX] at he; obtain ⟨z,_,rfl⟩:=cP.mp he; exact ⟨z,rfl⟩
 have hY:∀ e∈LY,∃ z:Int,e=.int z:=fun e he=>by rw [← eY] at he; obtain ⟨z,_,rfl⟩:=cP.mp he; exact ⟨z,rfl⟩
 have lX:LX.length=kd.rm.1.toNat:=by rw [← eX,aE,Kd.byt_len Nu]
 have lY:LY.length=kd.rm.1.toNat:=by rw [← eY,aE,Kd.byt_len Nt]
 have Gg:∀ e∈LX,OkE e:=fun e he=>by obtain ⟨z,rfl⟩:=hX e he; exact v3 z
 rw [eX,eY]
 obtain ⟨PB,N0,hPBb⟩ : ∃ PB:Int,PoolX PB l5∧PB + 1000000 < 2 ^ 60:=⟨_,Dr,by omega⟩
 clear hP D1 Df Ed Eo Dr t5 v5 r10 r11 r20 r21 Bz hk4 h63
 have okL:OkR (.lst LX):=dn_ (by omega) Gg
 refine tP (fun ρ => ∃ (l5:List Dx) (rs:List Dx) (so:Sv),rs.length=9∧(∀ d∈rs,OkR d)∧PoolX (PB + 160) l5∧ρ=[vT (.scr K ns),vT (.int (0 + (k:Int))),.v (.ol l5),vT (.int mo),vT kd.x,vT (.lst LX),.v so,.v (.ol rs),y8]) ?_ (fun I0 Bp => ?_)
 rotate_left 1
 ·refine hm_ (oA ?_)
  refine ⟨lC,?_⟩
  refine ⟨⟨by decide,by decide⟩,by decide,?_⟩
  obtain ⟨rg,Nd⟩ : ∃ rg,rg=List.range 8:=⟨_,rfl⟩
  show dX _ _ _ _ _ ((List.range 8).map fun k:Nat=>Dx.int (0 + (k:Int))) _ _
  rw [← Nd]
  have hrl:rg.length=8:=by rw [Nd]; rfl
  refine cb_ (fun k:Nat=>Dx.int (0 + (k:Int))) (fun rest Ad cs => ∃ (l':List Dx) (so:Sv),so.d=.lst LY∧Ad.length + rest.length=8∧cs=[.v (.ol l'),vT (.lst LX),.v so]∧(∀ d∈Ad,OkR d)∧PoolX (PB + (Ad.length:Int) * 20) l') (fun Ad cs h => ?_) (fun t rest Ad cs Pn h hk => ?_) ⟨l5,.ol LY,rfl,by rw [hrl]; rfl,rfl,(by intro d hd; cases hd),N0.mono (by simp)⟩
  ·obtain ⟨l',so,Lh,e1,rfl,Cq,Bj⟩:=h
   rw [aU] at e1
   refine ⟨show 1 + Ad.length≤1000000 by omega,?_⟩
   refine Bp _ ⟨l',.lst LX :: Ad,so,by rw [aM]; omega,fun d hd => ?_,Bj.mono (by omega),rfl⟩
   rcases aI.mp hd with rfl | hd
   ·exact okL
   ·exact Cq d hd
  ·obtain ⟨l',so,Lh,e1,rfl,Cq,Bj⟩:=h
   rw [aM] at e1
   refine ⟨rfl,_,LX,LY,by rw [← Lh]; rfl,Bj,by omega,by omega,by omega,hX,hY,by omega,fun d l4 hd Cj=>hk _ _ ⟨l4,.tr so.d,Lh,by rw [aC,cT]; omega,rfl,fun e he => ?_,Cj.mono (by rw [aC,cT]; push_cast; omega)⟩⟩
   rcases bA.mp he with he | he
   ·exact Cq e he
   ·rw [aO.mp he]; exact hd
 rintro ρ ⟨l5,rs,so,lrs,Gc,Bj,rfl⟩
 clear N0
 refine tP (fun ρ => ∃ (l5:List Dx) (rs:List Dx),rs.length=10∧(∀ d∈rs,OkR d)∧ρ=[vT (.scr K ns),vT (.int (0 + (k:Int))),.v (.ol l5),vT (.int mo),vT kd.x,vT (.lst LX),.v so,.v (.ol rs),y8]) ?_ (fun I0 Bp => ?_)
 rotate_left 1
 ·refine ⟨rfl,show LX.length≤1000000 by omega,show dX _ _ _ _ _ LX _ _ from ?_⟩
  rw [show LX=LX.map (fun d:Dx=>d) from (List.map_id' LX).symm]
  refine cb_ (fun d:Dx=>d) (fun rest Ad cs => ∃ l':List Dx,Ad.length + rest.length=LX.length∧cs=[.v (.ol l')]∧(∀ d∈Ad,OkE d)∧PoolX (PB + 160 + (Ad.length:Int)) l') (fun Ad cs h => ?_) (fun t rest Ad cs Pn h hk => ?_) ⟨l5,by simp,rfl,(by intro d hd; cases hd),Bj.mono (by simp)⟩
  ·obtain ⟨l',e1,rfl,Cq,Cj⟩:=h
   rw [aU] at e1
   rw [List.map_id']
   refine ⟨by omega,?_⟩
   refine Bp _ ⟨l',rs ++ [.lst Ad],by rw [aC,lrs]; rfl,fun d hd => ?_,rfl⟩
   rcases bA.mp hd with hd | hd
   ·exact Gc d hd
   ·rw [aO.mp hd]; exact dn_ (by omega) Cq
  ·obtain ⟨l',e1,rfl,Cq,Cj⟩:=h
   rw [aM] at e1
   refine ⟨rfl,_,3,rfl,Cj,by omega,by decide,by decide,fun r l4 r0 r1 Hz=>hk _ _ ⟨l4,by rw [aC,cT]; omega,rfl,fun e he => ?_,Hz.mono (by rw [aC,cT]; push_cast; omega)⟩⟩
   rcases bA.mp he with he | he
   ·exact Cq e he
   ·rw [aO.mp he]; exact v3 r
 rintro ρ ⟨l5,rs,lrs,Gc,rfl⟩
 clear Bj
 refine tP (fun ρ => ∃ (rs:List Dx) (y7:Sv),y7.d=.lst rs∧rs.length≤10∧(∀ d∈rs,OkR d)∧ρ=[vT (.scr K ns),vT (.int (0 + (k:Int))),.v (.ol l5),vT (.int mo),vT kd.x,vT (.lst LX),.v so,.v y7,y8]) ?_ (fun I0 Bp => ?_)
 rotate_left 1
 ·by_cases hm:mo > 200
  ·show if decide (mo > 200)=true then _ else _
   rw [if_pos (dzT hm)]
   exact Bp _ ⟨mS rs none (some 4),_,rfl,nzL (aAq _ _ _) (by omega),fun d hd=>Gc d (zR hd),rfl⟩
  ·show if decide (mo > 200)=true then _ else _
   rw [dzF hm]
   exact Bp _ ⟨rs,_,rfl,by omega,Gc,rfl⟩
 rintro ρ ⟨rs,y7,h7,lrs,Gc,rfl⟩
 refine aMn (oA (rR rfl ?_))
 refine ⟨cK _,cK _,?_⟩
 refine ⟨show LX.length + LX.length≤1000000 by omega,lC,by show 10≤1000000; decide,?_⟩
 have Ng:∀ d∈aGs LX,OkR d:=fun d hd=>by
  simp only [aGs,aI,bI,or_false] at hd
  rcases hd with rfl | rfl | rfl | rfl | rfl | rfl | rfl | rfl | rfl | rfl
  ·exact ⟨trivial,by simp only [Dx.deep]; omega⟩
  ·exact ⟨trivial,by simp only [Dx.deep]; omega⟩
  ·exact ⟨trivial,by simp only [Dx.deep]; omega⟩
  ·exact ⟨trivial,by simp only [Dx.deep]; omega⟩
  ·exact dn_ (by simp) fun e he=>absurd he (by simp)
  ·exact ⟨by simp only [Dx.Sz,aEu,aU,bP]; exact ⟨by omega,List.nodup_nil,trivial⟩,by simp only [Dx.deep,qN]; omega⟩
  ·exact v0 (by simp) fun e he=>absurd he (by simp)
  ·exact v0 (by omega) Gg
  ·exact dn_ (by rw [aC]; omega) fun e he=>(bA.mp he).elim (Gg e) (Gg e)
  ·refine dn_ (by show 1≤100000; decide) fun e he => ?_
   rw [aO.mp he]
   refine ⟨okL.1,?_⟩
   have:=fc_ (l:=LX) (n:=1) fun e he=>by obtain ⟨z,rfl⟩:=hX e he; simp only [Dx.deep]; omega
   simp only [Dx.deep]
   omega
 show iL y7.d (.lst (aGs LX)) _
 have Lm:(aGs LX).length=10:=rfl
 generalize aGs LX=OD at Ng Lm
 rw [h7]
 refine ⟨by omega,?_⟩
 show iJ _ _ _ (rs ++ OD) _
 have Nw:∀ d∈rs ++ OD,OkR d:=fun d hd=>(bA.mp hd).elim (Gc d) (Ng d)
 generalize rs ++ OD=TL at Nw
 refine il_ (fun rest ρ=>(∀ d∈rest,d∈TL)∧∃ y1 y7 y8,ρ=[vT (.scr K ns),y1,.v (.ol l5),vT (.int mo),vT kd.x,vT (.lst LX),.v so,y7,y8]) (fun ρ h => ?_) (fun d rest ρ K2 h El => ?_) ⟨fun d h=>h,_,_,_,rfl⟩
 ·obtain ⟨_,y1,y7,y8,rfl⟩:=h
  exact Hm _ _ _ _ _ _ _ _
 ·obtain ⟨Gr,y1,y7,y8,rfl⟩:=h
  obtain ⟨hz,G7⟩:=Nw d (Gr d aB)
  show xIf _ _ _ [vT (.scr K ns),y1,.v (.ol l5),vT (.int mo),vT kd.x,vT (.lst LX),.v so,y7,vT d] _
  refine aAc (ρ':=[vT (.scr K ns),y1,.v (.ol l5),vT (.int mo),vT kd.x,vT (.lst LX),.v so,y7,vT d]) (fun Q q => ?_) (El _ ⟨fun d' h'=>Gr d' (aD _ h'),_,_,_,rfl⟩)
  exact ⟨kd,d,rfl,hz,by omega,hF,Ip,by decide,by omega,q⟩
end
def yA : XS := (cV (eU 2 (xC (.str "abcdefghijklmnopqrstuvwxyz")))
    (cV (eU 3 (xOp ixX (jF (bL (xC (.str "abcdefg")) (bL (xC (.str "placeof")) (bL (xC (.str "zyxwvut")) (bL (xC (.str "kjqrshn")) dD))))) (fU gTK 0 (bL (xC (.int 4)) dD))))
    (cV (eU 4 (jF dD))
    (cV (lA (xL (bL (bW 1) dD)) (gxN 5) (cV (eU 6 (xOp iL (xSl (bW 3) xoN (xoS (fU gTK 0 (bL (xC (.int 8)) dD)))) (xOp ixX (bW 2) (fU gTK 0 (bL (xC (.int 26)) dD)))))
    (cV (eU 7 (fU gTK 0 (bL (xC (.int 3)) dD)))
    (cV (xIf (xB (xOp eqX (bW 7) (xC (.int 1)))) (eU 6 (aNx "" (iR 1 [0,2] (xL (bL (xOp iL (xC (.int 1)) (fU gTK 0 (bL (xC (.int 8)) dD))) dD)) (gxN 0) lO (xOp ixX (bW 2) (fU gTK 1 (bL (xC (.int 26)) dD)))))) fM)
    (cV (xIf (aBd (xB (xOp eqX (bW 7) (xC (.int 2)))) (xB (uD (neP true) 4 (jF dD)))) (cV (eU 8 (fU gTK 0 (bL (dS sB (bL (uD ixP 4 (aBb (xC (.int 1)))) dD)) dD)))
    (eU 6 (xOp iL (xOp iL (xSl (uD ixP 4 (aBb (xC (.int 1)))) xoN (xoS (bW 8))) (xOp ixX (bW 2) (fU gTK 0 (bL (xC (.int 26)) dD)))) (xSl (uD ixP 4 (aBb (xC (.int 1)))) (xoS (xOp iL (bW 8) (xC (.int 1)))) xoN)))) fM)
    (cV (eU 9 (xC (.int 0)))
    (cV (aDx (xB (aPk (inP false) (bW 6) 4)) (cV (eU 6 (xOp sA (xOp ixX (bW 2) (bW 9)) (xC (.int 8))))
    (eU 9 (xOp iL (bW 9) (xC (.int 1))))))
    (aBc 4 (bW 6)))))))))
    (iW (jO 4))))))
section
variable {f:Addr}
theorem aCo (A6:Cal P w K mg base 1 "_law_take" AF (spB gTK)) (m_range:mg "range" = none) (Ae:mg "len" = none)
  {Ak:Value} {A:Around} {outer:List Env} {s:Shared} {H:Hp} {E:XK} (hr:Room 1 (A.deeper (PyProof.Rows.envOfC "_law_names" (aQ cm_) s.heap.objs.size f Ak))) :
  XSs (lM CX0 P w K mg base (["pool","many","letters","stem","found","k","name","way","at","turn"]:List Str) "_law_names" (aQ cm_) f Ak A outer s H E).nox dU (hU cm_) yA:=by
 have As:=qK hr
 have Am:=bV As
 exact (dO (eS (i:=2) dP.nd rfl (Or.inr rfl) lI)
  (dO (eS (i:=3) dP.nd rfl (Or.inl rfl) (jZ K (jH (bF lI (bF lI (bF lI (bF lI bX))))) (iQ (i:=0) A6 (hr.mono (by omega)) (pv 0) (bF dH bX)) (fun _ _=>rfl)))
  (dO (eS (i:=4) dP.nd rfl (Or.inl rfl) (jH bX))
  (dO (wM PassesOwn.never rfl (cg_ m_range (bF (bE (pv 1)) bX)) (gG (i:=5) dP.nd rfl (Or.inl rfl)) (kJ (n:=99) (i:=5) (by decide)) (dO (eS (i:=6) dP.nd rfl (Or.inl rfl) (iD (m_ K (bE (pv 3)) dd_ (zX (iQ (i:=0) A6 (hr.mono (by omega)) (pv 0) (bF dH bX)))) (jZ K (bE (pv 2)) (iQ (i:=0) A6 (hr.mono (by omega)) (pv 0) (bF dH bX)) (fun _ _=>rfl))))
  (dO (eS (i:=7) dP.nd rfl (Or.inl rfl) (iQ (i:=0) A6 (hr.mono (by omega)) (pv 0) (bF dH bX)))
  (dO (iE (iM (kO K Am) kL (bE (pv 7)) dH (bY _)) (eF (eS (i:=6) dP.nd rfl (Or.inl rfl) (aJz (rW (dsc:=aQ cm_) (N:=AS) (tgs:=["turn"]) (outs:=[0,2]) (N':=["turn","pool","letters"]) (by refine ⟨rfl,?_,?_,?_,rfl,?_,?_,?_⟩ <;> decide +kernel) (cg_ m_range (bF (iD dH (iQ (i:=0) A6 (hr.mono (by omega)) (pv 0) (bF dH bX))) bX)) (fun _ _ _ _ _=>(gG (i:=0) (show (["turn","pool","letters"]:List Str).Nodup by decide +kernel) rfl (Or.inl rfl) (.inr rfl))) (kJ (n:=1) (i:=0) (by decide)) (qZ (by decide)) (fun _ _ _ _ _=>mD) (fun _ _ _ _ _=>(jZ K (bE (pv 2)) (iQ (i:=1) A6 (hr.mono (by omega)) (pv 1) (bF dH bX)) (fun _ _=>rfl))))))) jE)
  (dO (iE (XW.pt (oI (iM (kO K Am) kL (bE (pv 7)) dH (bY _)) (iq_ (aJt K Am (pv 4) (jH bX) (bY _))))) (dO (eS (i:=8) dP.nd rfl (Or.inl rfl) (iQ (i:=0) A6 (hr.mono (by omega)) (pv 0) (bF (mX (wU K) zK (by rfl) Ae PySem.boot_len (bF (eu_ K (pv 4) (oN dH) (fun _ _=>rfl)) bX)) bX)))
  (eF (eS (i:=6) dP.nd rfl (Or.inl rfl) (iD (iD (m_ K (eu_ K (pv 4) (oN dH) (fun _ _=>rfl)) dd_ (zX (bE (pv 8)))) (jZ K (bE (pv 2)) (iQ (i:=0) A6 (hr.mono (by omega)) (pv 0) (bF dH bX)) (fun _ _=>rfl))) (m_ K (eu_ K (pv 4) (oN dH) (fun _ _=>rfl)) (zX (iD (bE (pv 8)) dH)) dd_))))) jE)
  (dO (eS (i:=9) dP.nd rfl (Or.inl rfl) dH)
  (dO (aDr PassesOwn.never (aJu K (bE (pv 6)) (pv 4) (by with_unfolding_all rfl)) (dO (eS (i:=6) dP.nd rfl (Or.inl rfl) (qT (jZ K (bE (pv 2)) (bE (pv 9)) (fun _ _=>rfl)) dH))
  (eF (eS (i:=9) dP.nd rfl (Or.inl rfl) (iD (bE (pv 9)) dH)))))
  (eF (qL fun F=>PS.weak (gd_ (pE PySem.F.plainAttrs_list PySem.F.slot_list_append PySem.F.type_list_append es_ (pv 4) (lZ (XE.at (Ex:=dU) F (bE (pv 6))) zM))) mE)))))))))
  (eF (gD (tQ (pv 4))))))))
end
theorem aEv {v:Dx} (h:v∈[Dx.str "abcdefg",.str "placeof",.str "zyxwvut",.str "kjqrshn"]):∃ st:Str,v=.str st∧aUh st:=by
 simp only [aI,bI,or_false] at h
 rcases h with rfl | rfl | rfl | rfl
 ·obtain ⟨st,e,h⟩:=nN (v:=.str "abcdefg") (by simp); cases e; exact ⟨_,rfl,h⟩
 ·obtain ⟨st,e,h⟩:=nN (v:=.str "placeof") (by simp); cases e; exact ⟨_,rfl,h⟩
 ·obtain ⟨st,e,h⟩:=nN (v:=.str "zyxwvut") (by simp); cases e; exact ⟨_,rfl,h⟩
 ·obtain ⟨st,e,h⟩:=nN (v:=.str "kjqrshn") (by simp); cases e; exact ⟨_,rfl,h⟩
theorem nW {r:Int} {Q:Sv→Prop} (h0:0≤r) (h1:r < 26) (q:Q (.tr (.str ⟨#[97 + r.toNat]⟩))):ixX (.str lets) (.int r) Q:=by
 refine ⟨by decide +kernel,?_⟩
 rw [aLy h0 h1]
 exact q
theorem aSd {xs:List Str} (h:xs≠[]):∃ y∈xs,atI (xs.map Dx.str) (-1)=some (.str y):=by
 refine ⟨xs.getLast h,List.getLast_mem h,?_⟩
 have hl:0 < xs.length:=List.length_pos_iff.mpr h
 unfold atI ixN
 rw [if_neg (by omega),aE,if_pos (by omega)]
 show (xs.map Dx.str)[((-1:Int) + (xs.length:Int)).toNat]? = _
 rw [show ((-1:Int) + (xs.length:Int)).toNat=xs.length - 1 from by omega,bG,← List.getLast?_eq_getElem?,List.getLast?_eq_getLast h]
 rfl
theorem aKj (xs:List Str):((xs.map Dx.str).all fun d=>(scV d).isSome)=true:=by
 rw [List.all_map,gP]
 intro x _
 rfl
theorem aPw (xs:List Str):(xs.map Dx.str).filterMap scV=xs.map V.str:=by
 induction xs with
 | nil=>rfl
 | cons x r ih=>rw [aP,iO]; show V.str x :: _=_; rw [ih]; rfl
section
variable {f:Addr}
theorem aBs (F:Fun K "_law_names" "_law_names" cm_ f fd) (A6:Cal P w K mg base 1 "_law_take" AF (spB gTK)) (m_range:mg "range" = none) (Ae:mg "len" = none):FnOk P w K mg base CX0 2 f fd AF (spB gLN):=by
 refine aCm F dP (fun l ds Q h=>by obtain ⟨_,_,rfl,_⟩:=h; rfl) (by decide) fun Ak A outer s H E hr => ?_
 refine ⟨_,aCo A6 m_range Ae hr,fun l ds Q h => ?_⟩
 clear hr
 obtain ⟨B,many,rfl,hP,m0,m12,hB,q⟩:=h
 unfold yA
 refine xD (qE ?_)
 refine xD (oA ?_)
 refine ⟨by show 4≤1000000; decide,rfl,B,4,rfl,hP,by omega,by decide,by decide,fun r l1 r0 r1 D1 => ?_⟩
 refine fy_ r0 r1 fun v hv => ?_
 obtain ⟨st,rfl,Jm,Lg⟩:=aEv hv
 have sl7:st.length≤1000000:=by rw [cc_,Jm]; decide
 refine ⟨cK _,?_⟩
 dsimp only
 change cV _ _ [.bw l1,vT (.int many),vT (.str lets),vT (.str st),.v (.ol []),.un,.un,.un,.un,.un] _
 refine tP (fun ρ => ∃ (l1:List Dx) (xs:List Str) (y5 y6 y7 y8 y9:Sl),xs.length=many.toNat∧xs.Nodup∧(∀ x∈xs,Nm x)∧PoolX (B + 200) l1∧ρ=[.bw l1,vT (.int many),vT (.str lets),vT (.str st),.v (.ol (xs.map Dx.str)),y5,y6,y7,y8,y9]) ?_ (fun nx Bo => ?_)
 ·rintro ρ ⟨l1,xs,y5,y6,y7,y8,y9,Hg,B6,G3,Df,rfl⟩
  exact q xs l1 Hg B6 G3 Df
 refine ⟨⟨by omega,by omega⟩,?_⟩
 refine xH (fun k:Nat=>Dx.int (0 + (k:Int))) (fun rest ρ => ∃ (l1:List Dx) (xs:List Str) (y5 y6 y7 y8 y9:Sl),xs.length + rest.length=many.toNat∧xs.Nodup∧(∀ x∈xs,Nm x)∧PoolX (B + 1 + 14 * (xs.length:Int)) l1∧ρ=[.bw l1,.v (.tr (.int many)),.v (.tr (.str lets)),.v (.tr (.str st)),.v (.ol (xs.map Dx.str)),y5,y6,y7,y8,y9]) (fun ρ h => ?_) (fun i rest ρ Kn h hk => ?_) ⟨l1,[],.un,.un,.un,.un,.un,by rw [bR]; simp,List.nodup_nil,(fun x hx=>nomatch hx),D1.mono (by simp),rfl⟩
 ·obtain ⟨l1,xs,y5,y6,y7,y8,y9,Hg,B6,G3,Df,rfl⟩:=h
  rw [aU] at Hg
  exact Bo _ ⟨l1,xs,_,_,_,_,_,Hg,B6,G3,Df.mono (by omega),rfl⟩
 obtain ⟨l1,xs,y5,y6,y7,y8,y9,Hg,B6,G3,Df,rfl⟩:=h
 rw [aM] at Hg
 have hx12:xs.length≤11:=by omega
 clear hP D1 hv
 obtain ⟨C,hC⟩ : ∃ C,C=B + 1 + 14 * (xs.length:Int):=⟨_,rfl⟩
 have hCb:C + 100 < 2 ^ 60:=by omega
 rw [← hC] at Df
 refine ⟨rfl,_,8,rfl,Df,by omega,by decide,by decide,fun r2 l2 r20 r21 Ed=>⟨sl7,?_⟩⟩
 refine ⟨rfl,_,26,rfl,Ed,by omega,by decide,by decide,fun r3 l3 r30 r31 Eo=>nW r30 r31 ?_⟩
 obtain ⟨K6,sz0⟩:=aLv Jm Lg r20 r21 r30 r31
 refine ⟨by rw [jd_]; omega,?_⟩
 refine ⟨rfl,_,3,rfl,Eo,by omega,by decide,by decide,fun way l4 w0 w1 Dr => ?_⟩
 generalize Txt.slice st none (some r2) ++ (⟨#[97 + r3.toNat]⟩ : Str)=nmA at K6 ⊢
 dsimp only
 change cV _ _ [.bw l4,vT (.int many),vT (.str lets),vT (.str st),.v (.ol (xs.map Dx.str)),vT (.int (0 + (i:Int))),vT (.str nmA),vT (.int way),y8,y9] _
 clear Df Ed Eo
 refine tP (fun ρ => ∃ (l4:List Dx) (nmA:Str),Nm nmA∧PoolX (C + 12) l4∧ρ=[.bw l4,vT (.int many),vT (.str lets),vT (.str st),.v (.ol (xs.map Dx.str)),vT (.int (0 + (i:Int))),vT (.str nmA),vT (.int way),y8,y9]) ?_ (fun I0 Bp => ?_)
 rotate_left 1
 ·by_cases c:way=1
  rotate_left 1
  ·show if decide (way=1)=true then _ else _
   rw [dzF c]
   exact Bp _ ⟨l4,nmA,K6,Dr.mono (by omega),rfl⟩
  show if decide (way=1)=true then _ else _
  rw [if_pos (dzT c)]
  refine ⟨rfl,_,8,rfl,Dr,by omega,by decide,by decide,fun r6 l5 r60 r61 Bj => ?_⟩
  refine ⟨⟨by omega,by omega⟩,show ((List.range _).map _).length≤_ by rw [aE,bR]; omega,?_⟩
  refine cb_ (fun k:Nat=>Dx.int (0 + (k:Int))) (fun rest Ad cs => ∃ (ys:List Str) (l':List Dx),ys.length + rest.length=(1 + r6).toNat∧Ad=ys.map Dx.str∧(∀ y∈ys,∃ j:Nat,j < 26∧y=⟨#[97 + j]⟩)∧cs=[.bw l',.v (.tr (.str lets))]∧PoolX (C + 4 + (ys.length:Int)) l') (fun Ad cs h => ?_) (fun nm rest Ad cs Pn h hk => ?_) ⟨[],l5,by rw [bR]; simp,rfl,(fun y hy=>nomatch hy),rfl,Bj.mono (by simp; omega)⟩
  ·obtain ⟨ys,l',e1,rfl,hy,rfl,Cj⟩:=h
   rw [aU] at e1
   have es:=yF hy
   refine ⟨ys,rfl,?_,?_⟩
   ·rw [es]
    show ys.length + ys.length * 0≤16777216
    omega
   ·exact Bp _ ⟨l',_,aLu hy (by omega) (by omega),Cj.mono (by omega),rfl⟩
  ·obtain ⟨ys,l',e1,rfl,hy,rfl,Cj⟩:=h
   rw [aM] at e1
   refine ⟨rfl,_,26,rfl,Cj,by omega,by decide,by decide,fun r7 l6 r70 r71 Hz=>nW r70 r71 (hk _ _ ⟨ys ++ [⟨#[97 + r7.toNat]⟩],l6,by rw [aC,cT]; omega,by rw [cU]; rfl,fun y Jf => ?_,rfl,Hz.mono (by rw [aC,cT]; push_cast; omega)⟩)⟩
   rcases bA.mp Jf with Jf | Jf
   ·exact hy y Jf
   ·exact ⟨r7.toNat,by omega,aO.mp Jf⟩
 rintro ρ ⟨l5,nmB,nmBok,Bj,rfl⟩
 clear Dr K6 sz0
 refine tP (fun ρ => ∃ (l4:List Dx) (nmA:Str) (y8:Sl),Nm nmA∧PoolX (C + 14) l4∧ρ=[.bw l4,vT (.int many),vT (.str lets),vT (.str st),.v (.ol (xs.map Dx.str)),vT (.int (0 + (i:Int))),vT (.str nmA),vT (.int way),y8,y9]) ?_ (fun I0 Bp => ?_)
 rotate_left 1
 ·by_cases c:way=2
  rotate_left 1
  ·show if decide (way=2)=true then _ else _
   rw [dzF c]
   exact Bp _ ⟨l5,nmB,y8,nmBok,Bj.mono (by omega),rfl⟩
  show if decide (way=2)=true then _ else _
  rw [if_pos (dzT c)]
  by_cases Bf:xs=[]
  ·subst Bf
   exact ⟨rfl,cK _,Bp _ ⟨l5,nmB,y8,nmBok,Bj.mono (by omega),rfl⟩⟩
  have Hr:(xs.map Dx.str).isEmpty=false:=by cases xs <;> first | rfl | exact absurd rfl Bf
  refine ⟨rfl,cK _,?_⟩
  show if (!(xs.map Dx.str).isEmpty)=true then _ else _
  rw [Hr,Bool.not_false,if_pos rfl]
  obtain ⟨y,hy,Hb⟩:=aSd Bf
  have Kv:=G3 y hy
  have hy1:1≤y.length:=by rw [cc_]; exact Kv.1
  have hy2:y.length≤8:=by rw [cc_]; exact Kv.2.1
  have K8:y.length≤1000000:=by omega
  have pk:∀ (ρ:En) (Q:Sv→En→Prop),ρ[4]? = some (.v (.ol (xs.map Dx.str)))→Q (.tr (.str y)) ρ→uD ixP 4 (aBb (xC (.int 1))) ρ Q:=fun ρ Q h q=>by
   refine ⟨by rw [h]; rfl,?_⟩
   show match (ρ[4]?).bind kK with | some (l,_)=>ixP l (.int (-1)) fun d=>Q (.tr d) ρ | none=>False
   rw [h]
   show match atI (xs.map Dx.str) (-1) with | some d=>Q (.tr d) ρ | none=>False
   rw [Hb]
   exact q
  change cV _ _ [.bw l5,vT (.int many),vT (.str lets),vT (.str st),.v (.ol (xs.map Dx.str)),vT (.int (0 + (i:Int))),vT (.str nmB),vT (.int way),y8,y9] _
  refine xD ⟨rfl,gi_ (nY (gi_ (pk _ _ rfl (aHx ⟨K8,?_⟩))))⟩
  refine ⟨_,(y.length:Int),rfl,Bj,by omega,by omega,by omega,fun r8 l6 r80 r81 Cj => ?_⟩
  dsimp only
  obtain ⟨t1,t2,t3⟩:=v4 Kv r80 r81 (s:=0) (by decide) (by decide)
  change eU _ _ [.bw l6,vT (.int many),vT (.str lets),vT (.str st),.v (.ol (xs.map Dx.str)),vT (.int (0 + (i:Int))),vT (.str nmB),vT (.int way),vT (.int r8),y9] _
  refine hm_ (oA (oA (pk _ _ rfl ⟨K8,?_⟩)))
  refine ⟨rfl,_,26,rfl,Cj,by omega,by decide,by decide,fun r9 l7 r90 r91 Hz=>nW r90 r91 ?_⟩
  refine ⟨by rw [jd_]; omega,?_⟩
  refine pk _ _ rfl ⟨K8,?_⟩
  refine ⟨by rw [aMa,jd_]; omega,?_⟩
  exact Bp _ ⟨l7,_,_,(v4 Kv r80 r81 r90 r91).1,Hz.mono (by omega),rfl⟩
 rintro ρ ⟨l6,nmC,y8,nmCok,Cj,rfl⟩
 clear Bj
 refine xD (qE ?_)
 refine tP (fun ρ => ∃ (nmD:Str) (y9:Sl),Nm nmD∧nmD∉xs∧ρ=[.bw l6,vT (.int many),vT (.str lets),vT (.str st),.v (.ol (xs.map Dx.str)),vT (.int (0 + (i:Int))),vT (.str nmD),vT (.int way),y8,y9]) ?_ (fun I0 Bp => ?_)
 ·rintro ρ ⟨nmD,y9,nok,Lj,rfl⟩
  refine ⟨rfl,by rw [aE]; omega,?_⟩
  refine hk _ ⟨l6,xs ++ [nmD],_,_,_,_,_,by rw [aC,cT]; omega,gJ.mpr ⟨B6,by simp,fun a ha b hb=>by rw [aO.mp hb]; intro e; exact Lj (by rw [← e]; exact ha)⟩,fun x hx => ?_,Cj.mono (by rw [aC,cT]; push_cast; omega),by rw [cU]; rfl⟩
  rcases bA.mp hx with hx | hx
  ·exact G3 x hx
  ·rw [aO.mp hx]; exact nok
 refine ⟨fun m ρ => ∃ (t:Nat) (nmD:Str),m=30 - t∧t≤20∧Nm nmD∧(∀ j,j + 1 < t→qU j∈xs)∧(0 < t→nmD=qU (t - 1))∧ρ=[.bw l6,vT (.int many),vT (.str lets),vT (.str st),.v (.ol (xs.map Dx.str)),vT (.int (0 + (i:Int))),vT (.str nmD),vT (.int way),y8,vT (.int (t:Int))],⟨30,0,nmC,rfl,by omega,nmCok,(fun j hj=>absurd hj (by omega)),(fun z=>absurd z (by omega)),rfl⟩,fun m ρ h => ?_⟩
 obtain ⟨t,nmD,rfl,ht,nok,hc,hn,rfl⟩:=h
 refine ⟨aKj xs,?_⟩
 rw [aPw]
 by_cases c:nmD∈xs
 ·have J6:∀ j,j < t→qU j∈xs:=fun j hj=>by
   by_cases z:j + 1 < t
   ·exact hc j z
   ·have:j=t - 1:=by omega
    rw [this,← hn (by omega)]
    exact c
  have ht':=aIw J6
  show if inV (.str nmD) (xs.map V.str)=true then _ else _
  rw [if_pos (yR.mpr c)]
  refine ⟨fun ρ=>ρ=[.bw l6,vT (.int many),vT (.str lets),vT (.str st),.v (.ol (xs.map Dx.str)),vT (.int (0 + (i:Int))),vT (.str (qU t)),vT (.int way),y8,vT (.int ((t:Int) + 1))],fun ρ' h'=>⟨30 - (t + 1),by omega,t + 1,qU t,rfl,by omega,aNj (by omega),(fun j hj=>J6 j (by omega)),(fun _=>rfl),h'⟩,?_⟩
  refine xD (oA (oA (rR rfl (rR rfl (nW (by omega) (by omega) ?_)))))
  refine ⟨⟨by rw [jd_]; decide,by decide,by decide⟩,?_⟩
  show ([_,_,_,_,_,_,vT (.str (Txt.mul ⟨#[97 + (t:Int).toNat]⟩ 8)),_,_,_]:En)=_
  rw [cL]
  rfl
 ·show if inV (.str nmD) (xs.map V.str)=true then _ else _
  rw [if_neg (fun z=>c (yR.mp z))]
  exact Bp _ ⟨nmD,_,nok,c,rfl⟩
end
structure Fx (K:eE) (mg:lN) (nm:Str) (st:Stmt) (ps:List Str) (f:Addr) (fd:FuncData):Prop where
 F:Fun K nm nm st f fd
 b:Binds K fd ps []
 k:PySem.W.keepIn K (.ref f)=true
 m:mg nm=some (.ref f)
theorem Fx.cal {nm:Str} {st:Stmt} {ps:List Str} {f:Addr} {fd:FuncData} {j:Nat} {sp:Sp} (x:Fx K mg nm st ps f fd) (h:FnOk P w K mg base CX0 j f fd ps sp):Cal P w K mg base j nm ps sp:=⟨f,fd,h,x.b,x.k,x.m⟩
theorem aIe {j:Nat} {f:Addr} {fd:FuncData} {ps:List Str} {g:GB} (no:∀ l ds Q,¬ g l ds Q):FnOk P w K mg base CX0 j f fd ps (spB g) :=
 ⟨fun vs H Q E h=>by obtain ⟨_,_,_,_,_,_,_,_,_,_,_,_,_,h3,_⟩:=h; exact (no _ _ _ h3).elim,fun A outer s H args us vs Q E hr he hb hv h=>by obtain ⟨_,_,_,_,_,_,_,_,_,_,_,_,_,h3,_⟩:=h; exact (no _ _ _ h3).elim⟩
theorem qM (d:Dx):1≤d.deep:=by cases d <;> simp only [Dx.deep] <;> omega
section
variable {fRU fRO fRS fGM fSO fRR fRC fPB fRH fCA fPO fT fLR fLM fLN fLK fVA fTP fLY fCP fSA fTU fIV fIW fIRV fIDV fICV fNB fLAY fLB fBY f:Addr} {dRU dRO dRS dGM dSO dRR dRC dPB dRH dCA dPO dT dLR dLM dLN dLK dVA dTP dLY dCP dSA dTU dIV dIW dIRV dIDV dICV dNB dLAY dLB dBY fd:FuncData}
structure RoomX (K:eE) (mg:lN) (fRU fRO fRS fGM fSO fRR fRC fPB fRH fCA:Addr) (dRU dRO dRS dGM dSO dRR dRC dPB dRH dCA:FuncData):Prop where
 RU:Fx K mg "rounded_up" eg_ AD fRU dRU
 RO:Fx K mg "room_of" fk_ AG fRO dRO
 RS:Fx K mg "rooms_of" eq_ AM fRS dRS
 GM:Fx K mg "greatest_multiple" bq_ AU fGM dGM
 SO:Fx K mg "step_of" gm_ BD fSO dSO
 RR:Fx K mg "room_of_row" dq_ ["kind","n"] fRR dRR
 RC:Fx K mg "room_of_record" ch_ AM fRC dRC
 PB:Fx K mg "places_behind" cy_ AU fPB dPB
 RH:Fx K mg "room_of_choice" ci_ AM fRH dRH
 CA:Fx K mg "chosen_at" ez_ BE fCA dCA
 m_max:mg "max" = none
 m_zip:mg "zip" = none
theorem hj_ (X:RoomX K mg fRU fRO fRS fGM fSO fRR fRC fPB fRH fCA dRU dRO dRS dGM dSO dRR dRC dPB dRH dCA):∀ n,FnOk P w K mg base CX0 (2 + 3 * n) fRO dRO AG (spX (gRO n))
 | 0=>aFa
 | n + 1=>by
  have ih:=hj_ X n
  have Gb:=X.RU.cal (P:=P) (w:=w) (base:=base) (vH X.RU.F)
  have GSO:=X.SO.cal (j3 X.SO.F Gb)
  have GCA:=X.CA.cal (j5 X.CA.F Gb)
  have N8:=X.GM.cal (P:=P) (w:=w) (base:=base) (aRv X.GM.F X.m_max)
  have GPB:=X.PB.cal (aGp X.PB.F Gb)
  have N6:=X.RS.cal (aGo X.RS.F (X.RO.cal ih))
  have GRR:=X.RR.cal (aRh X.RR.F (X.RO.cal (ih.mono (Nat.le_succ _))) GSO (by omega))
  have GRC:=X.RC.cal (aRl X.RC.F N6 N8 GPB Gb X.m_max X.m_zip (by omega))
  have GRH:=X.RH.cal (aRj X.RH.F N6 N8 GCA Gb X.m_max (by omega))
  exact (aRi X.RO.F GRR GRC GRH).mono (by omega)
theorem u9 (X:RoomX K mg fRU fRO fRS fGM fSO fRR fRC fPB fRH fCA dRU dRO dRS dGM dSO dRR dRC dPB dRH dCA) (PO:Fx K mg "places_in_order" ay_ BF fPO dPO) (n:Nat):FnOk P w K mg base CX0 (4 + 3 * n) fPO dPO BF (spX (gPO n)) :=
 (aRm PO.F (X.PB.cal (aGp X.PB.F (X.RU.cal (vH X.RU.F)))) (X.RS.cal (aGo X.RS.F (X.RO.cal (hj_ X n)))) X.m_zip (by omega)).mono (by omega)
theorem jf_ (LM:Fx K mg "_law_room" bw_ AG fLM dLM) (LR:Fx K mg "_law_rounded" ce_ AD fLR dLR) (m_max:mg "max" = none):∀ n,FnOk P w K mg base CX0 (1 + n) fLM dLM AG (spX (gLM n))
 | 0=>aHa
 | n + 1=>(aRr LM.F (LM.cal (jf_ LM LR m_max n)) (LR.cal (j4 LR.F)) m_max (by omega)).mono (by omega)
theorem v8 (LK:Fx K mg "_law_kind" dt_ AK fLK dLK) (T:Fx K mg "_law_take" er_ AF fT dT) (LN:Fx K mg "_law_names" cm_ AF fLN dLN) (LM:Fx K mg "_law_room" bw_ AG fLM dLM) (LR:Fx K mg "_law_rounded" ce_ AD fLR dLR)
  (m_max:mg "max" = none) (m_range:mg "range" = none) (Ae:mg "len" = none) (m_int:mg "int" = none):∀ n,FnOk P w K mg base CX0 (6 + n) fLK dLK AK (spB (gLK n))
 | 0=>aIe fun l ds Q h=>by obtain ⟨_,_,_,_,_,_,_,_,_⟩:=h; omega
 | n + 1=>(aRs LK.F (T.cal (ij_ T.F)) (LN.cal (aBs LN.F (T.cal (ij_ T.F)) m_range Ae)) (LM.cal (jf_ LM LR m_max 5)) (by omega) (by omega) (LK.cal (v8 LK T LN LM LR m_max m_range Ae m_int n)) m_range m_int).mono (by omega)
theorem q9 (VA:Fx K mg "_law_value" dy_ AX fVA dVA) (T:Fx K mg "_law_take" er_ AF fT dT) (TP:Fx K mg "_law_top" gn_ ["width"] fTP dTP) (m_range:mg "range" = none) (Ae:mg "len" = none):∀ n,FnOk P w K mg base CX0 (1 + n) fVA dVA AX (spB (gVA n))
 | 0=>aIe fun l ds Q h=>by obtain ⟨_,kd,_,_,_,hd,_⟩:=h; have:=Kd.deep_pos kd; omega
 | n + 1=>(aRe VA.F (T.cal (ij_ T.F)) (TP.cal (aRf TP.F m_range)) (VA.cal (q9 VA T TP m_range Ae n)) m_range Ae (by omega)).mono (by omega)
theorem aAr (CP:Fx K mg "_law_copy" du_ AO fCP dCP) (Ab:mg "isinstance" = none) (m_list:mg "list" = none) (Ai:mg "tuple" = none) (Ax:mg "dict" = none):∀ n,FnOk P w K mg base CX0 n fCP dCP AO (spX (gCP n))
 | 0=>qH fun ds Q h=>by obtain ⟨d,_,_,hd,_⟩:=h; have:=qM d; omega
 | n + 1=>aWp CP.F (CP.cal (aAr CP Ab m_list Ai Ax n)) Ab m_list Ai Ax
theorem v_ (X:RoomX K mg fRU fRO fRS fGM fSO fRR fRC fPB fRH fCA dRU dRO dRS dGM dSO dRR dRC dPB dRH dCA) (PO:Fx K mg "places_in_order" ay_ BF fPO dPO) (NB:Fx K mg "number_bytes" dh_ ["w","value"] fNB dNB) (Mw:Fx K mg "lay" u0 AY fLAY dLAY) (LB:Fx K mg "laid_bytes" ei_ AE fLB dLB)
  (Du:∃ t,mg "HOW_MANY_BYTES" = some (.int 256 t)) (m_range:mg "range" = none) (Al:mg "enumerate" = none):∀ n,FnOk P w K mg base CX0 (5 + 3 * n) fLB dLB AE (spX (gLB n))
 | 0=>qH fun ds Q h=>by obtain ⟨kd,_,_,_,_,_,_,hd,_⟩:=h; have:=Kd.deep_pos kd; omega
 | n + 1=>by
  have ih:=LB.cal (v_ X PO NB Mw LB Du m_range Al n)
  have Gb:=X.RU.cal (P:=P) (w:=w) (base:=base) (vH X.RU.F)
  exact (aRt LB.F (NB.cal (aRo NB.F Du m_range)) (X.RO.cal (hj_ X (n + 1))) (X.SO.cal (j3 X.SO.F Gb)) (PO.cal (u9 X PO n)) (X.CA.cal (j5 X.CA.F Gb)) (Mw.cal (aLm Mw.F Al)) ih X.m_zip Al (by omega) (by omega) (by omega)).mono (by omega)
theorem t_ (SB:Fx K mg "_law_same" de_ AN fSA dSA) (Ab:mg "isinstance" = none) (m_list:mg "list" = none) (Ai:mg "tuple" = none) (Ax:mg "dict" = none) (Ay:mg "bool" = none) (Cp:mg "str" = none) (Ae:mg "len" = none) (m_zip:mg "zip" = none):∀ n,FnOk P w K mg base CX0 n fSA dSA AN (spX (gSA n))
 | 0=>qH fun ds Q h=>by obtain ⟨d,_,_,hd,_⟩:=h; have:=qM d; omega
 | n + 1=>aRg SB.F (SB.cal (t_ SB Ab m_list Ai Ax Ay Cp Ae m_zip n)) Ab m_list Ai Ax Ay Cp Ae m_zip
theorem v7 {fLY:Addr} {dLY:FuncData} (LY:Fx K mg "_law_bytes" cs_ AE fLY dLY) (LM:Fx K mg "_law_room" bw_ AG fLM dLM) (LR:Fx K mg "_law_rounded" ce_ AD fLR dLR) (m_range:mg "range" = none) (Ae:mg "len" = none) (m_max:mg "max" = none):∀ n,FnOk P w K mg base CX0 (6 + n) fLY dLY AE (spX (gLY n))
 | 0=>aGy
 | n + 1=>(aRq LY.F (LM.cal (jf_ LM LR m_max 5)) (LR.cal (j4 LR.F)) (LY.cal (v7 LY LM LR m_range Ae m_max n)) m_range Ae m_max (by omega) (by omega)).mono (by omega)
theorem Fx.calE {nm:Str} {st:Stmt} {ps:List Str} {j:Nat} {sp:Sp} (x:Fx K mg nm st ps f fd) (h:FnOk P w K mg base (CXe P w) j f fd ps sp):rQ P w K mg base j nm ps sp:=⟨f,fd,h,x.b,x.k,x.m⟩
theorem xP {fVT fNA fRD fCH Ac:Addr} {dVT dNA dRD dCH:FuncData} (X:RoomX K mg fRU fRO fRS fGM fSO fRR fRC fPB fRH fCA dRU dRO dRS dGM dSO dRR dRC dPB dRH dCA) (PO:Fx K mg "places_in_order" ay_ BF fPO dPO) (VT:Fx K mg "value_at" ep_ AA fVT dVT) (NA:Fx K mg "number_at" ey_ BC fNA dNA) (RD:Fx K mg "record_at" ex_ AV fRD dRD) (CH:Fx K mg "choice_at" fa_ AA fCH dCH)
  (O:PyProof.Rows.OwnCls "NoBytes" Ac veM "ValueError.__new__" mg base) (Du:∃ t,mg "HOW_MANY_BYTES" = some (.int 256 t)) (m_range:mg "range" = none) (Aw:mg "reversed" = none) (Ae:mg "len" = none):∀ n,FnOk P w K mg base (CXe P w) (5 + 3 * n) fVT dVT AA (spE (l8 Ac n))
 | 0=>aEg
 | n + 1=>by
  have ih:=VT.calE (xP X PO VT NA RD CH O Du m_range Aw Ae n)
  have Gb:=X.RU.cal (P:=P) (w:=w) (base:=base) (vH X.RU.F)
  exact (aLh VT.F (NA.cal (aRp NA.F Du Aw)) ih (X.RO.cal (hj_ X n)) (X.SO.cal (j3 X.SO.F Gb)) (RD.calE (aLk RD.F ih (PO.cal (u9 X PO n)) X.m_zip (by omega))) (CH.calE (aLp CH.F ih (X.RO.cal (hj_ X (n + 1))) (X.CA.cal (j5 X.CA.F Gb)) Ae O (by omega) (by omega))) m_range (by omega) (by omega)).mono (by omega)
theorem yM {fRD:Addr} {dRD:FuncData} (RD:Fx K mg "_law_read" cp_ AL fRD dRD) (LM:Fx K mg "_law_room" bw_ AG fLM dLM) (LR:Fx K mg "_law_rounded" ce_ AD fLR dLR) (m_max:mg "max" = none) (Ae:mg "len" = none) (m_int:mg "int" = none) (m_zip:mg "zip" = none):∀ n,FnOk P w K mg base CX0 (6 + n) fRD dRD AL (spX (l9 n))
 | 0=>qH fun ds Q h=>by obtain ⟨kd,_,_,_,hP,_⟩:=h; have:=Kd.deep_pos kd; have:=hP.2.1; omega
 | n + 1=>(aLl RD.F (LM.cal (jf_ LM LR m_max 5)) (LR.cal (j4 LR.F)) (RD.cal (yM RD LM LR m_max Ae m_int m_zip n)) m_max Ae m_int m_zip (by omega) (by omega)).mono (by omega)
end
structure VConsts (mg:lN):Prop where
 many:∃ t,mg "HOW_MANY_BYTES" = some (.int 256 t)
theorem sX {K:eE} {t:Value}:∀ {cs:List Value},(∀ c∈cs,PySem.W.kitOne K t c=some false)→PySem.W.kitAny K t cs=some false
 | [],_=>by simp only [PySem.W.kitAny]
 | c :: r,h=>by
  have h1:=h c aB
  have h2:=sX (cs:=r) fun c' h'=>h c' (aD _ h')
  simp only [PySem.W.kitAny,h1,h2]
theorem aWt {K:eE} {mg:lN} {base:Heap} {CF CV CB CM CT CN CR:Addr} (hF:ClsX K mg "FieldError" CF) (hV:ClsX K mg "NoValue" CV) (hB:ClsX K mg "NoBytes" CB) (hM:ClsX K mg "NoMake" CM) (hT:ClsX K mg "NoText" CT) (hN:ClsX K mg "NoName" CN) (hR:ClsX K mg "NoRow" CR)
  (l:[(some true,true),(some false,false),(some true,true),(some false,false),(some false,false),(some false,false),(some false,false)]=(["FieldError","NoValue","NoBytes","NoMake","NoText","NoName","NoRow"]:List Str).map (fun m=>match lV K m with | some D=>(PySem.W.kitOne K (.ref CB) (.ref D),aBe K CB D) | none=>(none,false))) (v:PySem.W.kitOne K (.ref CB) (.type "ValueError")=some true) (hb:K.In base):Kit21 K mg CV CB CM CT CN CR∧c_ base CB CF:=by
 simp only [aP,bP,hF.at',hV.at',hB.at',hM.at',hT.at',hN.at',hR.at',List.cons.injEq,Prod.mk.injEq,and_true] at l
 obtain ⟨⟨_,f2⟩,⟨kV,_⟩,⟨kB,_⟩,⟨kM,_⟩,⟨kT,_⟩,⟨kN,_⟩,⟨kR,_⟩⟩:=l
 refine ⟨⟨hV.m,hB.m,hM.m,hT.m,hN.m,hR.m,aCs hB.ok,kV.symm,kB.symm,v,sX fun c hc => ?_⟩,zW hB.ok f2.symm hb⟩
 simp only [aI,bI,or_false] at hc
 rcases hc with rfl | rfl | rfl | rfl
 ·exact kM.symm
 ·exact kT.symm
 ·exact kN.symm
 ·exact kR.symm
theorem bBd:Nat.ble 1 PySem.Challenge.pw_laidfields_k21_bytes_of_no_value.main.body.length=true:=by k_qdec
def aYr (s:Stmt):Option V:=match s with
 | .Assign _ (.Constant (.int i) _ _) _=>some (.int i)
 | .Assign _ (.Constant (.str x) _ _) _=>some (.str x)
 | _=>none
def bBe (e:Expr):Option V:=match e with
 | .Constant (.int i) _ _=>some (.int i)
 | _=>none
def bCh (s:Stmt):Option (List (Option V)):=match s with
 | .Assign _ (.Tuple es _ _) _=>some (es.map bBe)
 | _=>none
abbrev zF:Option Bool×Bool:=(some false,false)
def seenF (p:Program) (K:eE):List FO×List Bool×List (Option V)×List (Option (List (Option V)))×List OX:=([9,10,11,12,13,14,15,16,17,18,19,21,24,25,26,27,28,29,30,31,32,33,35,36,37,38,39,40,41,42,43,44,45,46,47,48,49,50,51].map fun i=>vK K (gU (lF p i)),(bltNs ++ [(⟨#[86,97,108,117,101,69,114,114,111,114]⟩ : Str)]).map (pJ K),[23].map fun i=>vJ K (gU (lF p i)),[].map fun i=>aSa K (gU (lF p i)),aRz K AT)
def seenV (p:Program):List FO×List Bool×List (Option V)×List (Option (List (Option V)))×List OX:=([9,10,11,12,13,14,15,16,17,18,19,21,24,25,26,27,28,29,30,31,32,33,35,36,37,38,39,40,41,42,43,44,45,46,47,48,49,50,51].map fun i=>wK (lF p i),List.replicate 18 true,[23].map fun i=>aYr (lF p i),[].map fun i=>bCh (lF p i),[(true,[(some true,true),zF,zF,zF,zF,zF,zF],some true,some false),(true,[(some true,true),(some true,true),zF,zF,zF,zF,zF],some true,some false),(true,[(some true,true),zF,(some true,true),zF,zF,zF,zF],some true,some false),(true,[(some true,true),zF,zF,(some true,true),zF,zF,zF],some true,some false),(true,[(some true,true),zF,zF,zF,(some true,true),zF,zF],some true,some false),(true,[(some true,true),zF,zF,zF,zF,(some true,true),zF],some true,some false),(true,[(some true,true),zF,zF,zF,zF,zF,(some true,true)],some true,some false)])
theorem aGn:∀ w:World,onceSeen PySem.W.topRun treeTable importedModules (fun m s=>PySem.W.openSeen (PySem.W.view PySem.Challenge.pw_laidfields_k21_bytes_of_no_value [1,2,3,4,5,6,7,9,10,11,12,13,14,15,16,17,18,19,21,23,24,25,26,27,28,29,30,31,32,33,35,36,37,38,39,40,41,42,43,44,45,46,47,48,49,50,51]) [] m (fun s=>PySem.W.xlAt (PySem.W.view PySem.Challenge.pw_laidfields_k21_bytes_of_no_value [1,2,3,4,5,6,7,9,10,11,12,13,14,15,16,17,18,19,21,23,24,25,26,27,28,29,30,31,32,33,35,36,37,38,39,40,41,42,43,44,45,46,47,48,49,50,51]) [] s && PySem.W.recOk [] s) true s) PySem.Challenge.pw_laidfields_k21_bytes_of_no_value 5420 (seenF PySem.Challenge.pw_laidfields_k21_bytes_of_no_value) w=fun _=>some (true,PySem.W.openGood (PySem.W.view PySem.Challenge.pw_laidfields_k21_bytes_of_no_value [1,2,3,4,5,6,7,9,10,11,12,13,14,15,16,17,18,19,21,23,24,25,26,27,28,29,30,31,32,33,35,36,37,38,39,40,41,42,43,44,45,46,47,48,49,50,51]) [],seenV PySem.Challenge.pw_laidfields_k21_bytes_of_no_value):=by
 have _:=bBd
 rw [PySem.W.Fast.te6552924554934028110,PySem.W.Fast.te14082659384304107361,PySem.W.Fast.te14364793385576792824,PySem.W.Fast.te5923862056798008813,PySem.W.Fast.te4187177175401517315]
 exact fun w=>by kernel_rfl
theorem left_top:PySem.W.LeftO PySem.Challenge.pw_laidfields_k21_bytes_of_no_value (PySem.W.view PySem.Challenge.pw_laidfields_k21_bytes_of_no_value [1,2,3,4,5,6,7,9,10,11,12,13,14,15,16,17,18,19,21,23,24,25,26,27,28,29,30,31,32,33,35,36,37,38,39,40,41,42,43,44,45,46,47,48,49,50,51]) [] (fun s=>PySem.W.xlAt (PySem.W.view PySem.Challenge.pw_laidfields_k21_bytes_of_no_value [1,2,3,4,5,6,7,9,10,11,12,13,14,15,16,17,18,19,21,23,24,25,26,27,28,29,30,31,32,33,35,36,37,38,39,40,41,42,43,44,45,46,47,48,49,50,51]) [] s && PySem.W.recOk [] s) (exHook (seenF PySem.Challenge.pw_laidfields_k21_bytes_of_no_value) (seenV PySem.Challenge.pw_laidfields_k21_bytes_of_no_value)).obs (exHook (seenF PySem.Challenge.pw_laidfields_k21_bytes_of_no_value) (seenV PySem.Challenge.pw_laidfields_k21_bytes_of_no_value)).val 5420 true:=aCa (by decide) (by kernel_rfl) (fun s=>by kernel_rfl) aGn
theorem pN {α:Type} {f g:Nat→α}:∀ {l:List Nat},l.map f=l.map g→∀ i,i∈l→f i=g i:=fun h i hi=>List.map_inj_left.mp h i hi
theorem aDh {K:eE} {f:Addr} {fd:FuncData} (F:Fun K "law" "law" iz_ f fd) (s:Shared) (v:Value):BindsTo s fd ⟨[v],[]⟩ [("script",v)]:=by
 obtain ⟨oc,od,kV,doc,pm,an,Ak,ct,osl,rfl,_⟩:=F.ex
 exact .of_eq rfl
theorem all_mk {l:PySem.W.OpenLaw} {w:World} {K:eE} {mg:lN} {fa:Addr} {h:Heap} (hK:seenF PySem.Challenge.pw_laidfields_k21_bytes_of_no_value K=seenV PySem.Challenge.pw_laidfields_k21_bytes_of_no_value) (X:K.In h) (G:h.Ns mainGlobals mg) (L8:mg "law" = some (.ref fa)) :
  ∃ fd:FuncData,(∀ (s:Shared) (v:Value),BindsTo s fd ⟨[v],[]⟩ [("script",v)])∧∀ base:Heap,K.In base→base.Ns mainGlobals mg→FnOk l.prog w K mg base CX0 30 fa fd ["script"] (spLaw K):=by
 have hd:=pN (f:=fun i=>vK K (gU (lF PySem.Challenge.pw_laidfields_k21_bytes_of_no_value i))) (g:=fun i=>wK (lF PySem.Challenge.pw_laidfields_k21_bytes_of_no_value i)) (l:=[9,10,11,12,13,14,15,16,17,18,19,21,24,25,26,27,28,29,30,31,32,33,35,36,37,38,39,40,41,42,43,44,45,46,47,48,49,50,51]) (congrArg (fun x=>x.1) hK)
 have Jt:(bltNs ++ [(⟨#[86,97,108,117,101,69,114,114,111,114]⟩ : Str)]).map (pJ K)=List.replicate 18 true:=congrArg (fun x=>x.2.1) hK
 rw [cU] at Jt
 have Lq:bltNs.map (pJ K) ++ [pJ K (⟨#[86,97,108,117,101,69,114,114,111,114]⟩ : Str)]=List.replicate 17 true ++ [true]:=Jt
 obtain ⟨hn,hv⟩:=List.append_inj Lq (by rw [aE]; rfl)
 have e_VE:(⟨#[86,97,108,117,101,69,114,114,111,114]⟩ : Str) = "ValueError" := by rfl
 have Bc:mg "ValueError" = none:=PySem.W.mg_none_of X G (e_VE ▸ yG (List.cons.inj hv).1)
 have hc:=pN (f:=fun i=>vJ K (gU (lF PySem.Challenge.pw_laidfields_k21_bytes_of_no_value i))) (g:=fun i=>aYr (lF PySem.Challenge.pw_laidfields_k21_bytes_of_no_value i)) (l:=[23]) (congrArg (fun x=>x.2.2.1) hK)
 obtain ⟨f9,d9,a9,F9⟩:=kH (hd 9 (by decide))
 have Cn:Fx K mg "is_whole" hi_ AO f9 d9:=⟨F9,gX F9 (fun _ _ _ _ _ _ _=>rfl),F9.kp,PySem.W.mg_of X G a9⟩
 obtain ⟨f10,d10,a10,F10⟩:=kH (hd 10 (by decide))
 have C5:Fx K mg "rounded_up" eg_ AD f10 d10:=⟨F10,gT F10 (fun _ _ _ _ _ _ _ _=>rfl),F10.kp,PySem.W.mg_of X G a10⟩
 obtain ⟨f11,d11,a11,F11⟩:=kH (hd 11 (by decide))
 have Cz:Fx K mg "room_of" fk_ AG f11 d11:=⟨F11,gX F11 (fun _ _ _ _ _ _ _=>rfl),F11.kp,PySem.W.mg_of X G a11⟩
 obtain ⟨f12,d12,a12,F12⟩:=kH (hd 12 (by decide))
 have D3:Fx K mg "rooms_of" eq_ AM f12 d12:=⟨F12,gX F12 (fun _ _ _ _ _ _ _=>rfl),F12.kp,PySem.W.mg_of X G a12⟩
 obtain ⟨f13,d13,a13,F13⟩:=kH (hd 13 (by decide))
 have Bl:Fx K mg "greatest_multiple" bq_ AU f13 d13:=⟨F13,gX F13 (fun _ _ _ _ _ _ _=>rfl),F13.kp,PySem.W.mg_of X G a13⟩
 obtain ⟨f14,d14,a14,F14⟩:=kH (hd 14 (by decide))
 have Ep:Fx K mg "step_of" gm_ BD f14 d14:=⟨F14,gX F14 (fun _ _ _ _ _ _ _=>rfl),F14.kp,PySem.W.mg_of X G a14⟩
 obtain ⟨f15,d15,a15,F15⟩:=kH (hd 15 (by decide))
 have Ct:Fx K mg "room_of_row" dq_ ["kind","n"] f15 d15:=⟨F15,gT F15 (fun _ _ _ _ _ _ _ _=>rfl),F15.kp,PySem.W.mg_of X G a15⟩
 obtain ⟨f16,d16,a16,F16⟩:=kH (hd 16 (by decide))
 have B4:Fx K mg "room_of_record" ch_ AM f16 d16:=⟨F16,gX F16 (fun _ _ _ _ _ _ _=>rfl),F16.kp,PySem.W.mg_of X G a16⟩
 obtain ⟨f17,d17,a17,F17⟩:=kH (hd 17 (by decide))
 have Cg:Fx K mg "places_behind" cy_ AU f17 d17:=⟨F17,gX F17 (fun _ _ _ _ _ _ _=>rfl),F17.kp,PySem.W.mg_of X G a17⟩
 obtain ⟨f18,d18,a18,F18⟩:=kH (hd 18 (by decide))
 have B5:Fx K mg "room_of_choice" ci_ AM f18 d18:=⟨F18,gX F18 (fun _ _ _ _ _ _ _=>rfl),F18.kp,PySem.W.mg_of X G a18⟩
 obtain ⟨f19,d19,a19,F19⟩:=kH (hd 19 (by decide))
 have Di:Fx K mg "chosen_at" ez_ BE f19 d19:=⟨F19,gX F19 (fun _ _ _ _ _ _ _=>rfl),F19.kp,PySem.W.mg_of X G a19⟩
 obtain ⟨f21,d21,a21,F21⟩:=kH (hd 21 (by decide))
 have A7:Fx K mg "places_in_order" ay_ BF f21 d21:=⟨F21,gX F21 (fun _ _ _ _ _ _ _=>rfl),F21.kp,PySem.W.mg_of X G a21⟩
 obtain ⟨f24,d24,a24,F24⟩:=kH (hd 24 (by decide))
 have Bs:Fx K mg "laid_bytes" ei_ AE f24 d24:=⟨F24,gT F24 (fun _ _ _ _ _ _ _ _=>rfl),F24.kp,PySem.W.mg_of X G a24⟩
 obtain ⟨f25,d25,a25,F25⟩:=kH (hd 25 (by decide))
 have Cm:Fx K mg "number_bytes" dh_ ["w","value"] f25 d25:=⟨F25,gT F25 (fun _ _ _ _ _ _ _ _=>rfl),F25.kp,PySem.W.mg_of X G a25⟩
 obtain ⟨f26,d26,a26,F26⟩:=kH (hd 26 (by decide))
 have Iv:Fx K mg "lay" u0 AY f26 d26:=⟨F26,kY F26 (fun _ _ _ _ _ _ _ _ _=>rfl),F26.kp,PySem.W.mg_of X G a26⟩
 obtain ⟨f27,d27,a27,F27⟩:=kH (hd 27 (by decide))
 have Ck:Fx K mg "value_of" hg_ AI f27 d27:=⟨F27,gT F27 (fun _ _ _ _ _ _ _ _=>rfl),F27.kp,PySem.W.mg_of X G a27⟩
 obtain ⟨f28,d28,a28,F28⟩:=kH (hd 28 (by decide))
 have B7:Fx K mg "are_bytes" fb_ AW f28 d28:=⟨F28,gT F28 (fun _ _ _ _ _ _ _ _=>rfl),F28.kp,PySem.W.mg_of X G a28⟩
 obtain ⟨f29,d29,a29,F29⟩:=kH (hd 29 (by decide))
 have C0:Fx K mg "is_byte" ja_ AO f29 d29:=⟨F29,gX F29 (fun _ _ _ _ _ _ _=>rfl),F29.kp,PySem.W.mg_of X G a29⟩
 obtain ⟨f30,d30,a30,F30⟩:=kH (hd 30 (by decide))
 have Cl:Fx K mg "value_at" ep_ AA f30 d30:=⟨F30,kY F30 (fun _ _ _ _ _ _ _ _ _=>rfl),F30.kp,PySem.W.mg_of X G a30⟩
 obtain ⟨f31,d31,a31,F31⟩:=kH (hd 31 (by decide))
 have Dh:Fx K mg "number_at" ey_ BC f31 d31:=⟨F31,kY F31 (fun _ _ _ _ _ _ _ _ _=>rfl),F31.kp,PySem.W.mg_of X G a31⟩
 obtain ⟨f32,d32,a32,F32⟩:=kH (hd 32 (by decide))
 have Dg:Fx K mg "record_at" ex_ AV f32 d32:=⟨F32,kY F32 (fun _ _ _ _ _ _ _ _ _=>rfl),F32.kp,PySem.W.mg_of X G a32⟩
 obtain ⟨f33,d33,a33,F33⟩:=kH (hd 33 (by decide))
 have Dj:Fx K mg "choice_at" fa_ AA f33 d33:=⟨F33,kY F33 (fun _ _ _ _ _ _ _ _ _=>rfl),F33.kp,PySem.W.mg_of X G a33⟩
 obtain ⟨f35,d35,a35,F35⟩:=kH (hd 35 (by decide))
 have Ca:Fx K mg "_law_pool" hh_ ["script","k"] f35 d35:=⟨F35,gT F35 (fun _ _ _ _ _ _ _ _=>rfl),F35.kp,PySem.W.mg_of X G a35⟩
 obtain ⟨f36,d36,a36,F36⟩:=kH (hd 36 (by decide))
 have A8:Fx K mg "_law_take" er_ AF f36 d36:=⟨F36,gT F36 (fun _ _ _ _ _ _ _ _=>rfl),F36.kp,PySem.W.mg_of X G a36⟩
 obtain ⟨f37,d37,a37,F37⟩:=kH (hd 37 (by decide))
 have At:Fx K mg "_law_rounded" ce_ AD f37 d37:=⟨F37,gT F37 (fun _ _ _ _ _ _ _ _=>rfl),F37.kp,PySem.W.mg_of X G a37⟩
 obtain ⟨f38,d38,a38,F38⟩:=kH (hd 38 (by decide))
 have A3:Fx K mg "_law_room" bw_ AG f38 d38:=⟨F38,gX F38 (fun _ _ _ _ _ _ _=>rfl),F38.kp,PySem.W.mg_of X G a38⟩
 obtain ⟨f39,d39,a39,F39⟩:=kH (hd 39 (by decide))
 have C6:Fx K mg "_law_names" cm_ AF f39 d39:=⟨F39,gT F39 (fun _ _ _ _ _ _ _ _=>rfl),F39.kp,PySem.W.mg_of X G a39⟩
 obtain ⟨f40,d40,a40,F40⟩:=kH (hd 40 (by decide))
 have Cb:Fx K mg "_law_kind" dt_ AK f40 d40:=⟨F40,kY F40 (fun _ _ _ _ _ _ _ _ _=>rfl),F40.kp,PySem.W.mg_of X G a40⟩
 obtain ⟨f41,d41,a41,F41⟩:=kH (hd 41 (by decide))
 have Cd:Fx K mg "_law_copy" du_ AO f41 d41:=⟨F41,gX F41 (fun _ _ _ _ _ _ _=>rfl),F41.kp,PySem.W.mg_of X G a41⟩
 obtain ⟨f42,d42,a42,F42⟩:=kH (hd 42 (by decide))
 have B8:Fx K mg "_law_same" de_ AN f42 d42:=⟨F42,gT F42 (fun _ _ _ _ _ _ _ _=>rfl),F42.kp,PySem.W.mg_of X G a42⟩
 obtain ⟨f43,d43,a43,F43⟩:=kH (hd 43 (by decide))
 have D4:Fx K mg "_law_top" gn_ ["width"] f43 d43:=⟨F43,gX F43 (fun _ _ _ _ _ _ _=>rfl),F43.kp,PySem.W.mg_of X G a43⟩
 obtain ⟨f44,d44,a44,F44⟩:=kH (hd 44 (by decide))
 have Bt:Fx K mg "_law_value" dy_ AX f44 d44:=⟨F44,gT F44 (fun _ _ _ _ _ _ _ _=>rfl),F44.kp,PySem.W.mg_of X G a44⟩
 obtain ⟨f45,d45,a45,F45⟩:=kH (hd 45 (by decide))
 have Bv:Fx K mg "_law_bytes" cs_ AE f45 d45:=⟨F45,gT F45 (fun _ _ _ _ _ _ _ _=>rfl),F45.kp,PySem.W.mg_of X G a45⟩
 obtain ⟨f46,d46,a46,F46⟩:=kH (hd 46 (by decide))
 have C1:Fx K mg "_law_is" ie_ ["caught","due"] f46 d46:=⟨F46,gT F46 (fun _ _ _ _ _ _ _ _=>rfl),F46.kp,PySem.W.mg_of X G a46⟩
 obtain ⟨f47,d47,a47,F47⟩:=kH (hd 47 (by decide))
 have B9:Fx K mg "_law_read" cp_ AL f47 d47:=⟨F47,kY F47 (fun _ _ _ _ _ _ _ _ _=>rfl),F47.kp,PySem.W.mg_of X G a47⟩
 obtain ⟨f48,d48,a48,F48⟩:=kH (hd 48 (by decide))
 have Co:Fx K mg "_law_due" iy_ AI f48 d48:=⟨F48,gT F48 (fun _ _ _ _ _ _ _ _=>rfl),F48.kp,PySem.W.mg_of X G a48⟩
 obtain ⟨f49,d49,a49,F49⟩:=kH (hd 49 (by decide))
 have Bu:Fx K mg "_law_right" gb_ AI f49 d49:=⟨F49,gT F49 (fun _ _ _ _ _ _ _ _=>rfl),F49.kp,PySem.W.mg_of X G a49⟩
 obtain ⟨f50,d50,a50,F50⟩:=kH (hd 50 (by decide))
 have Bm:Fx K mg "_law_spoilt" eh_ AZ f50 d50:=⟨F50,kY F50 (fun _ _ _ _ _ _ _ _ _=>rfl),F50.kp,PySem.W.mg_of X G a50⟩
 obtain ⟨f51,N4,a51,F51⟩:=kH (hd 51 (by decide))
 have Fq:Fx K mg "law" iz_ ["script"] f51 N4:=⟨F51,gX F51 (fun _ _ _ _ _ _ _=>rfl),F51.kp,PySem.W.mg_of X G a51⟩
 have Ab:mg "isinstance" = none:=PySem.W.mg_none_of X G (k_ hn 0 (by decide) (by rfl))
 have m_int:mg "int" = none:=PySem.W.mg_none_of X G (k_ hn 1 (by decide) (by rfl))
 have Ay:mg "bool" = none:=PySem.W.mg_none_of X G (k_ hn 2 (by decide) (by rfl))
 have m_list:mg "list" = none:=PySem.W.mg_none_of X G (k_ hn 3 (by decide) (by rfl))
 have Ae:mg "len" = none:=PySem.W.mg_none_of X G (k_ hn 4 (by decide) (by rfl))
 have Cp:mg "str" = none:=PySem.W.mg_none_of X G (k_ hn 5 (by decide) (by rfl))
 have Ai:mg "tuple" = none:=PySem.W.mg_none_of X G (k_ hn 6 (by decide) (by rfl))
 have Fs:mg "all" = none:=PySem.W.mg_none_of X G (k_ hn 7 (by decide) (by rfl))
 have Ax:mg "dict" = none:=PySem.W.mg_none_of X G (k_ hn 8 (by decide) (by rfl))
 have m_max:mg "max" = none:=PySem.W.mg_none_of X G (k_ hn 9 (by decide) (by rfl))
 have Dk:mg "min" = none:=PySem.W.mg_none_of X G (k_ hn 10 (by decide) (by rfl))
 have m_range:mg "range" = none:=PySem.W.mg_none_of X G (k_ hn 11 (by decide) (by rfl))
 have m_zip:mg "zip" = none:=PySem.W.mg_none_of X G (k_ hn 12 (by decide) (by rfl))
 have Al:mg "enumerate" = none:=PySem.W.mg_none_of X G (k_ hn 13 (by decide) (by rfl))
 have Aw:mg "reversed" = none:=PySem.W.mg_none_of X G (k_ hn 16 (by decide) (by rfl))
 obtain ⟨_,Ah,r_HOW_MANY_BYTES⟩:=aBu (x:=.int 256) (hc 23 (by decide))
 obtain ⟨_,rfl⟩:=r_HOW_MANY_BYTES
 have hx:aRz K AT=[(true,[(some true,true),zF,zF,zF,zF,zF,zF],some true,some false),(true,[(some true,true),(some true,true),zF,zF,zF,zF,zF],some true,some false),(true,[(some true,true),zF,(some true,true),zF,zF,zF,zF],some true,some false),(true,[(some true,true),zF,zF,(some true,true),zF,zF,zF],some true,some false),(true,[(some true,true),zF,zF,zF,(some true,true),zF,zF],some true,some false),(true,[(some true,true),zF,zF,zF,zF,(some true,true),zF],some true,some false),(true,[(some true,true),zF,zF,zF,zF,zF,(some true,true)],some true,some false)]:=congrArg (fun x=>x.2.2.2.2) hK
 rw [aLt] at hx
 simp only [aP,bP,List.cons.injEq,and_true] at hx
 obtain ⟨Cu,D5,D6,Ew,Eu,Ev,Fu⟩:=hx
 obtain ⟨Be,Bi,l_FieldError,v_FieldError,n_FieldError⟩:=jw_ Cu X G
 obtain ⟨Ar,Ds,Ih,Id,Ie⟩:=jw_ D5 X G
 obtain ⟨Ac,Bh,Et,Er,Ig⟩:=jw_ D6 X G
 obtain ⟨Aq,Eh,Je,Iy,Jb⟩:=jw_ Ew X G
 obtain ⟨Ao,Ef,Jc,Iw,I9⟩:=jw_ Eu X G
 obtain ⟨Ap,Eg,Jd,Ix,Ja⟩:=jw_ Ev X G
 obtain ⟨A0,Fb,Kp,Kl,Ko⟩:=jw_ Fu X G
 have B3:VConsts mg:=⟨⟨_,PySem.W.mg_of X G Ah⟩⟩
 have e:=L8.symm.trans Fq.m
 cases e
 refine ⟨N4,fun s v=>aDh Fq.F s v,fun base K1 _ => ?_⟩
 exact have RX:=(⟨C5,Cz,D3,Bl,Ep,Ct,B4,Cg,B5,Di,m_max,m_zip⟩ : RoomX K mg _ _ _ _ _ _ _ _ _ _ _ _ _ _ _ _ _ _ _ _)
  have KT:=aWt Bi Ds Bh Eh Ef Eg Fb Et Er K1
  have GLB:=Bs.cal (P:=l.prog) (w:=w) (base:=base) (v_ RX A7 Cm Iv Bs B3.many m_range Al 5)
  have GIW:=Cn.cal (P:=l.prog) (w:=w) (base:=base) (aRd Cn.F Ab m_int Ay)
  have GAB:=B7.cal (aLq B7.F (C0.cal (aLo C0.F GIW B3.many)) Ab m_list Ae Fs)
  have GRO:=Cz.cal (P:=l.prog) (w:=w) (base:=base) (hj_ RX 5)
  have GVT:=Cl.calE (P:=l.prog) (w:=w) (base:=base) (xP RX A7 Cl Dh Dg Dj (Bh.own K1) B3.many m_range Aw Ae 5)
  have GVE:=Ck.calE (aLi Ck.F GAB GRO GVT GLB (by decide) (by decide) (by decide) (Bh.own K1))
  have N5:=A8.cal (P:=l.prog) (w:=w) (base:=base) (ij_ A8.F)
  have GLM:=A3.cal (P:=l.prog) (w:=w) (base:=base) (jf_ A3 At m_max 5)
  have N7:=Bv.cal (P:=l.prog) (w:=w) (base:=base) (v7 Bv A3 At m_range Ae m_max 5)
  have Mx:=B9.cal (P:=l.prog) (w:=w) (base:=base) (yM B9 A3 At m_max Ae m_int m_zip 5)
  have GDU:=Co.cal (aRw Co.F GLM Mx N7 Ab m_list Ae m_int Ay (by decide) (by decide))
  have GCP:=Cd.cal (P:=l.prog) (w:=w) (base:=base) (aAr Cd Ab m_list Ai Ax 20)
  have GSA:=B8.cal (P:=l.prog) (w:=w) (base:=base) (t_ B8 Ab m_list Ai Ax Ay Cp Ae m_zip 20)
  have GIS:=C1.cal (P:=l.prog) (w:=w) (base:=base) (aRu C1.F KT.1 Ab m_range Bc)
  have GRG:=Bu.cal (aRk Bu.F (GDU.mono (by decide)) GCP GSA GIS (Bi.own K1) KT.2 GVE (by decide) (by decide))
  have GSP:=Bm.cal (P:=l.prog) (w:=w) (base:=base) (aLj Bm.F N5 Ae m_range m_list)
  aHd ((aLn (L:=29) Fq.F (Ca.cal (aRn Ca.F Ae)) N5 ((Cb.cal (v8 Cb A8 C6 A3 At m_max m_range Ae m_int 5)).mono (by decide)) ((Bt.cal (q9 Bt A8 D4 m_range Ae 5)).mono (by decide)) (N7.mono (by decide)) (GSP.mono (by decide)) (GRG.mono (by decide)) m_max Dk m_range Ae m_int Ai (by decide)))
def lawRec:DefRec:=match iz_ with
 | .FunctionDef n a b _ _ _ sc _ _ pos=>⟨n,a,b,sc,pos⟩
 | _=>⟨⟨#[]⟩,⟨[],[],none,[],[],none,[]⟩,[],aQ iz_,⟨0,0,0,0⟩⟩
end Lf
open PySem PySem.W PyProof.Rows
set_option maxHeartbeats 0 in
theorem PySem.Challenge.cw_laidfields_k21_bytes_of_no_value_holds : PySem.Challenge.rw_laidfields_k21_bytes_of_no_value.Holds := by
 w_on; o_law
 refine holds_open (d := Lf.lawRec) (kwd := []) (XP := XL (PySem.W.view PySem.Challenge.pw_laidfields_k21_bytes_of_no_value [1, 2, 3, 4, 5, 6, 7, 9, 10, 11, 12, 13, 14, 15, 16, 17, 18, 19, 21, 23, 24, 25, 26, 27, 28, 29, 30, 31, 32, 33, 35, 36, 37, 38, 39, 40, 41, 42, 43, 44, 45, 46, 47, 48, 49, 50, 51]) []) Lf.left_top (Hook.of (L2.exHook (Lf.seenF PySem.Challenge.pw_laidfields_k21_bytes_of_no_value) (Lf.seenV PySem.Challenge.pw_laidfields_k21_bytes_of_no_value))) (Hook.keeps (L2.exHook (Lf.seenF PySem.Challenge.pw_laidfields_k21_bytes_of_no_value) (Lf.seenV PySem.Challenge.pw_laidfields_k21_bytes_of_no_value))) (fun s e => xl_of s (gL.mp e).1) XL.keeps (by kernel_rfl) (by kernel_rfl) (by kernel_rfl) (fun s e => recFacts_of (gL.mp e).2) (by rfl) (by assumption) (by decide +kernel) ⟨rfl, rfl, rfl, rfl, rfl, by decide +kernel⟩ ?hw ?hc
 case hw=>w_witness2
 case hc=>exact L2.walk_ex (l:=PySem.Challenge.rw_laidfields_k21_bytes_of_no_value) (n:=63) (k:=30) (x := "script") (CX:=L2.CX0) (sp:=Lf.spLaw) rfl (by decide) (by rfl) ⟨rfl,by decide,by decide⟩ (fun w K mg fa h hK X G L8=>Lf.all_mk hK X G L8) (fun K H a ns hl _ hS=>⟨a,ns,rfl,hS,hl,fun _=>rfl⟩) (fun _ _ _ _ z=>z)
#print axioms PySem.Challenge.cw_laidfields_k21_bytes_of_no_value_holds

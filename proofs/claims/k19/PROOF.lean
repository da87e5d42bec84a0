import PyProof.Rows.All
import Wide.All
import OpenK.AllK
import Wide.FinOn
import PyProof.EqAt
import PyProof.EqKinds
import PyProof.NeKinds
import PyProof.TupleCall
import PyProof.StrWalks
import PyProof.ConsumeWalk
import PyProof.EnumMake
import PyProof.EnumFor
import PyProof.ListNew
import PyProof.ListRange
import PyProof.Rows.SortWalk
import PyProof.Rows.Range3
import PyProof.Rows.ChunkEnd
import PyProof.Rows.ChunkLeaf
import PyProof.Rows.StrInSeq
import Wide.Txt
import PyProof.DictIter
import PyProof.DictWalks
import PyProof.AttrMissHeap
import KE.KDictOf
import KE.KSortTup
import KE.KDictList
import KE.KRevIter
import PyProof.Rows.Own
import PyProof.ExcBaseAll.ValueError
import PyProof.RulesAs
import PyProof.NsDelKeeps
import PyProof.ExcClass3
import PyProof.ExcArgsOwn
import KE.KIsAll
import KE.IntBitsLaws
import PyProof.Rows.StrRev
import PyProof.PureStr
import PyProof.ToksMono
import PyProof.MeetsStr3
import PyProof.StrCalls6
import KE.KDictSum
import PyProof.Rows.SortStr
import PyProof.Rows.SortShellK
import PyProof.Rows.StrKeys3
import Lean
import PySem.Challenge.RW_laidfields_k19_values_of_bytes
set_option Elab.async false
set_option linter.all false
set_option maxRecDepth 100000
set_option maxHeartbeats 16000000
abbrev FG_:=PySem.W.Frag
abbrev MG_:=PySem.Str→Option PySem.Value
abbrev PN_:=List (PySem.Addr×PySem.Obj)
abbrev SV_:=PySem.Value→PySem.Shared→Prop
namespace L2
open PySem PySem.Spec PyProof.Rows
abbrev Key:=Sum Int Str
def keyIs:Key→Value→Bool
 | .inl k,v=>Value.isInt k v
 | .inr x,v=>Value.isStrOf x v
def keyH (w:World):Key→Int
 | .inl k=>hashInt k
 | .inr x=>hashStr w x
theorem bx_:∀ {k:Key} {v:Value},keyIs k v=true→(∃ i t,k=Sum.inl i∧v=Value.int i t)∨(∃ x t,k=Sum.inr x∧v=Value.str x t)
 | .inl i,v,h=>by
  obtain ⟨t,e⟩:=Value.isInt_shape (k:=i) (v:=v) h
  exact .inl ⟨i,t,rfl,e⟩
 | .inr x,v,h=>by
  obtain ⟨t,e⟩:=Value.isStrOf_shape (x:=x) (v:=v) h
  exact .inr ⟨x,t,rfl,e⟩
theorem keyIs_int (i:Int) (t:Tok):keyIs (.inl i) (.int i t)=true:=by simp [keyIs,Value.isInt]
theorem keyIs_str (x:Str) (t:Tok):keyIs (.inr x) (.str x t)=true:=by simp [keyIs,Value.isStrOf]
theorem key_ll (a b:Int):decide ((Sum.inl a:Key)=Sum.inl b)=(a == b):=by
 by_cases e:a=b
 ·subst e; simp
 ·have h:¬ (Sum.inl a:Key)=Sum.inl b:=fun q=>e (Sum.inl.inj q)
  rw [decide_eq_false h]
  exact (beq_eq_false_iff_ne.mpr e).symm
theorem key_rr (a b:Str):decide ((Sum.inr a:Key)=Sum.inr b)=decide (a=b):=by
 by_cases e:a=b
 ·subst e; simp
 ·have h:¬ (Sum.inr a:Key)=Sum.inr b:=fun q=>e (Sum.inr.inj q)
  rw [decide_eq_false h,decide_eq_false e]
theorem key_lr (a:Int) (b:Str):decide ((Sum.inl a:Key)=Sum.inr b)=false:=decide_eq_false (fun q=>nomatch q)
theorem key_rl (a:Str) (b:Int):decide ((Sum.inr a:Key)=Sum.inl b)=false:=decide_eq_false (fun q=>nomatch q)
def mixKind (prog:Program) (w:World):PySem.KeyKind prog w Key where
 is:=keyIs
 hash:=keyH w
 inj:=fun v a b ha hb=>by
  rcases bx_ ha with ⟨i,t,rfl,rfl⟩ | ⟨x,t,rfl,rfl⟩
  ·rcases bx_ hb with ⟨j,u,rfl,e⟩ | ⟨y,u,rfl,e⟩
   ·injection e with e1 _; rw [e1]
   ·exact nomatch e
  ·rcases bx_ hb with ⟨j,u,rfl,e⟩ | ⟨y,u,rfl,e⟩
   ·exact nomatch e
   ·injection e with e1 _; rw [e1]
 byValue:=fun k v h=>by
  rcases bx_ h with ⟨i,t,rfl,rfl⟩ | ⟨x,t,rfl,rfl⟩ <;> rfl
 pyHash:=fun hv h=>by
  rcases bx_ hv with ⟨i,t,rfl,rfl⟩ | ⟨x,t,rfl,rfl⟩
  ·exact wpAny_pyHash_int h
  ·exact wpAny_pyHash_str h
 eqBool:=fun hu hv h=>by
  rcases bx_ hu with ⟨i,t,rfl,rfl⟩ | ⟨x,t,rfl,rfl⟩
  ·rcases bx_ hv with ⟨j,u,rfl,rfl⟩ | ⟨y,u,rfl,rfl⟩
   ·rw [key_ll] at h; exact wpAny_eqBool_int h
   ·rw [key_lr] at h; exact SeqAt.EqAt.int_str i t y u _ _ _ _ h
  ·rcases bx_ hv with ⟨j,u,rfl,rfl⟩ | ⟨y,u,rfl,rfl⟩
   ·rw [key_rl] at h; exact SeqAt.EqAt.str_int x t j u _ _ _ _ h
   ·rw [key_rr] at h; exact wpAny_eqBool_str h
 «strs» := fun k x t v h=>by
  rcases bx_ h with ⟨i,u,rfl,e⟩ | ⟨y,u,rfl,e⟩
  ·exact nomatch e
  ·injection e with e1 _
   subst e1
   cases v <;> rfl
theorem mixKind_int (prog:Program) (w:World) (i:Int) (t:Tok):(mixKind prog w).is (.inl i) (.int i t)=true:=keyIs_int i t
theorem mixKind_str (prog:Program) (w:World) (x:Str) (t:Tok):(mixKind prog w).is (.inr x) (.str x t)=true:=keyIs_str x t
inductive V where
 | non | bl (b:Bool) | int (i:Int) | str (x:Str) | byt (b:Array UInt8) | flt (b:UInt64) | ref (a:Addr) | ty (n:String)
 deriving DecidableEq
def RelV:V→Value→Prop
 | .non,u=>u=Value.none
 | .bl b,u=>u=Value.bool b
 | .int i,u => ∃ t,u=Value.int i t
 | .str x,u => ∃ t,u=Value.str x t
 | .byt b,u => ∃ t,u=Value.bytes b t
 | .flt b,u => ∃ t,u=Value.float b t
 | .ref a,u=>u=Value.ref a
 | .ty n,u=>u=Value.type n
abbrev Vals:List V→List Value→Prop:=Paired RelV
theorem Vals.length {xs:List V} {us:List Value} (r:Vals xs us):xs.length=us.length:=Paired.length r
theorem Vals.get:∀ {xs:List V} {us:List Value} {i:Nat} {x:V},Vals xs us→xs[i]? = some x→∃ u,us[i]? = some u∧RelV x u
 | _,_,_,_,.nil,e=>by simp at e
 | _,_,0,_,.cons r _,e=>by simp at e; subst e; exact ⟨_,rfl,r⟩
 | _,_,i + 1,x,.cons _ t,e=>by
  obtain ⟨u,h1,h2⟩:=Vals.get (i:=i) (x:=x) t (by simpa using e)
  exact ⟨u,by simpa using h1,h2⟩
theorem Vals.set {x:V} {u:Value} (r:RelV x u):∀ {xs:List V} {us:List Value} (i:Nat),Vals xs us→Vals (xs.set i x) (us.set i u)
 | _,_,_,.nil=>.nil
 | _,_,0,.cons _ t=>.cons r t
 | _,_,i + 1,.cons q t=>.cons q (Vals.set r i t)
theorem Vals.append:∀ {xs ys:List V} {us ws:List Value},Vals xs us→Vals ys ws→Vals (xs ++ ys) (us ++ ws)
 | _,_,_,_,.nil,s=>s
 | _,_,_,_,.cons r t,s=>.cons r (Vals.append t s)
theorem Vals.take:∀ {xs:List V} {us:List Value} (n:Nat),Vals xs us→Vals (xs.take n) (us.take n)
 | _,_,0,_=>.nil
 | _,_,_ + 1,.nil=>.nil
 | _,_,n + 1,.cons r t=>.cons r (Vals.take n t)
theorem Vals.drop:∀ {xs:List V} {us:List Value} (n:Nat),Vals xs us→Vals (xs.drop n) (us.drop n)
 | _,_,0,r=>r
 | _,_,_ + 1,.nil=>.nil
 | _,_,n + 1,.cons _ t=>Vals.drop n t
def RelO:Option V→Option Value→Prop
 | some v,some u=>RelV v u
 | none,none=>True
 | _,_=>False
def KV {κ:Type}:List (κ×V)→List (κ×Value)→Prop:=Paired fun (p:κ×V) (q:κ×Value)=>p.1=q.1∧RelV p.2 q.2
def kV:Key→V
 | .inl i=>.int i
 | .inr x=>.str x
inductive HO where
 /-- a list -/
 | lst (xs:List V)
 /-- a tuple (never changes) -/
 | tup (xs:List V)
 /-- a dict whose keys are ints and texts; one whose keys are tuples of ints and texts (the empty one is both) -/
 | dK (kvs:List (Key×V)) | dT (kvs:List (List Key×V))
 /-- a set of ints: its members,its size -/
 | set (S:Int→Bool) (n:Nat)
 /-- an instance of the class at C,its dict at dx,its attributes -/
 | ins (C dx:Addr) (fs:List (Str×V))
 /-- the dict of the instance at x -/
 | own (x:Addr)
 /-- the dict of an exception -/
 | xd (fs:List (Str×V))
 /-- a bound method,f of x -/
 | met (f x:Addr)
 /-- a range object lo,lo + 1,.. below hi -/
 | rng (lo hi:Int)
 /-- a thing that is known to the object (the script; a dict while a loop walks it): read,never written while it is so -/
 | frz (o:Obj) (u:HO)
 /-- a code object's table -/
 | tbl (ps:Array Value)
 /-- any other thing,by what is true of its one object (a def of one's own: SetO a S n:=HO.ext fun h=>..) -/
 | ext (φ:Heap→Prop)
abbrev Hp:=Addr→Option HO
def upd (H:Hp) (a:Addr) (o:HO):Hp:=fun b=>if b=a then some o else H b
theorem upd_same {H:Hp} {a:Addr} {o:HO}:upd H a o a=some o:=by unfold upd; rw [if_pos rfl]
theorem ah_ {H:Hp} {a b:Addr} {o:HO} (h:b≠a):upd H a o b=H b:=by unfold upd; rw [if_neg h]
theorem ne_of {H:Hp} {a b:Addr} {o u:HO} (h:H a=some o) (h':H b=some u) (d:o≠u):a≠b:=by
 intro e; subst e; rw [h] at h'; exact d (Option.some.inj h')
theorem ba_ {H:Hp} {a b:Addr} {o:HO} (h:H a=some o) (h':H b=none):a≠b:=by
 intro e; subst e; rw [h] at h'; cases h'
section
variable (P:Program) (w:World)
def ObjOk (H:Hp) (h:Heap) (a:Addr):HO→Prop
 | .lst xs=>xs.length≤sizeLine∧∃ (its:List Value) (n:Nat),Vals xs its∧h.get? a=some { cls:=.type "list",data:=.seq its.toArray n }
 | .tup xs=>xs.length≤sizeLine∧∃ its:List Value,Vals xs its∧IsTup h a its.toArray
 | .dK kvs=>kvs.length≤sizeLine∧(a == sysModules)=false∧∃ vs,KV kvs vs∧h.DictOf (mixKind P w) a vs
 | .dT kvs => kvs.length ≤ sizeLine ∧ (a == sysModules) = false ∧ ∃ xs : List (List Key × Addr × Value),
   Paired (fun (p:List Key×V) (q:List Key×Addr×Value)=>p.1=q.1∧H q.2.1=some (.tup (p.1.map kV))∧RelV p.2 q.2.2) kvs xs ∧
   ∃ o es ep,h.get? a=some o∧o.ExactDict∧o.data=.dict es ep∧es.toList=xs.map (entryOfKey (tupleKind (mixKind P w)))∧(xs.map (·.1)).Nodup
 | .set S n=>h.SetOf (intKind P w) a S n
 | .ins C dx fs => H dx = some (.own a) ∧ fs.length ≤ 1000 ∧ dx ≠ a ∧ h.get? a = some (PySem.W.instObj C dx) ∧
   ∃ mA,h.Ns1 dx mA∧(∀ f,RelO (fs.lookup f) (mA f))∧PySem.Within mA (fs.map (·.1))
 | .own _ => ∃ o,h.get? a=some o
 | .xd fs => ∃ mA,h.Ns1 a mA∧∀ f,RelO (fs.lookup f) (mA f)
 | .rng lo hi => ∃ t u v,h.get? a=some { cls:=.type "range",data:=.fields #[.int lo t,.int hi u,.int 1 v] }
 | .frz o u=>h.get? a=some o∧ObjOk H h a u
 | .tbl ps=>h.get? a=some { cls:=.none,data:=.fields ps }
 | .met f x=>h.get? a=some (PySem.W.methodObj (.ref f) (.ref x))
 | .ext φ=>φ h∧(∃ o,h.get? a=some o)∧∀ h1 h2:Heap,φ h1→(∀ o,h1.get? a=some o→h2.get? a=some o)→φ h2
def HOk (H:Hp) (h:Heap):Prop := ∀ a o,H a=some o→ObjOk P w H h a o
end
section
variable {P:Program} {w:World} {H H':Hp} {h h':Heap} {a:Addr} {o:HO}
theorem ObjOk.lt (x:ObjOk P w H h a o):a < h.objs.size:=by
 cases o with
 | lst xs=>obtain ⟨_,_,_,_,e⟩:=x; exact Heap.lt_size e
 | tup xs=>obtain ⟨_,_,_,p⟩:=x; exact p.lt
 | dK kvs=>obtain ⟨_,_,_,_,o,_,_,e,_⟩:=x; exact Heap.lt_size e
 | dT kvs=>obtain ⟨_,_,_,_,o,_,_,e,_⟩:=x; exact Heap.lt_size e
 | set S n=>obtain ⟨o,_,_,_,e,_⟩:=x; exact Heap.lt_size e
 | ins C dx fs=>obtain ⟨_,_,_,e,_⟩:=x; exact Heap.lt_size e
 | own y=>obtain ⟨_,e⟩:=x; exact Heap.lt_size e
 | xd fs=>obtain ⟨_,⟨_,_,_,e,_⟩,_⟩:=x; exact Heap.lt_size e
 | rng lo hi=>obtain ⟨_,_,_,e⟩:=x; exact Heap.lt_size e
 | frz ob u=>obtain ⟨e,_⟩:=x; exact Heap.lt_size e
 | tbl ps=>exact Heap.lt_size (show h.get? a=some _ from x)
 | met f y=>exact Heap.lt_size (show h.get? a=some _ from x)
 | ext φ=>obtain ⟨_,⟨_,e⟩,_⟩:=x; exact Heap.lt_size e
theorem Paired.mapP {α β:Type} {F G:α→β→Prop}:∀ {l₁:List α} {l₂:List β},Paired F l₁ l₂→(∀ a b,F a b→G a b)→Paired G l₁ l₂
 | _,_,.nil,_=>.nil
 | _,_,.cons r t,f=>.cons (f _ _ r) (Paired.mapP t f)
theorem ObjOk.stay (x:ObjOk P w H h a o) (k:∀ b u,(b=a∨H b=some (.own a))→h.get? b=some u→h'.get? b=some u)
  (ho:∀ b,H b=some (.own a)→H' b=some (.own a)) (ht:∀ b xs,H b=some (.tup xs)→H' b=some (.tup xs)):ObjOk P w H' h' a o:=by
 induction o with
 | lst xs=>obtain ⟨z,its,n,r,e⟩:=x; exact ⟨z,its,n,r,k _ _ (.inl rfl) e⟩
 | tup xs=>obtain ⟨z,its,r,ob,e,c⟩:=x; exact ⟨z,its,r,ob,k _ _ (.inl rfl) e,c⟩
 | dK kvs=>obtain ⟨z,y,vs,r,ob,es,ep,e,c⟩:=x; exact ⟨z,y,vs,r,ob,es,ep,k _ _ (.inl rfl) e,c⟩
 | dT kvs =>
  obtain ⟨z,y,xs,r,ob,es,ep,e,c⟩:=x
  exact ⟨z,y,xs,Paired.mapP r fun p q z=>⟨z.1,ht _ _ z.2.1,z.2.2⟩,ob,es,ep,k _ _ (.inl rfl) e,c⟩
 | set S n=>obtain ⟨ob,es,ep,t,e,c⟩:=x; exact ⟨ob,es,ep,t,k _ _ (.inl rfl) e,c⟩
 | ins C dx fs =>
  obtain ⟨d,z,ne,e,mA,⟨od,es,ep,e2,c⟩,r⟩:=x
  exact ⟨ho _ d,z,ne,k _ _ (.inl rfl) e,mA,⟨od,es,ep,k _ _ (.inr d) e2,c⟩,r⟩
 | own y=>obtain ⟨ob,e⟩:=x; exact ⟨ob,k _ _ (.inl rfl) e⟩
 | xd fs=>obtain ⟨mA,⟨od,es,ep,e,c⟩,r⟩:=x; exact ⟨mA,⟨od,es,ep,k _ _ (.inl rfl) e,c⟩,r⟩
 | rng lo hi=>obtain ⟨t,u,v,e⟩:=x; exact ⟨t,u,v,k _ _ (.inl rfl) e⟩
 | frz ob u ih=>obtain ⟨e,q⟩:=x; exact ⟨k _ _ (.inl rfl) e,ih q⟩
 | tbl ps =>
  have e:h.get? a=some { cls:=.none,data:=.fields ps }:=x
  show h'.get? a=some { cls:=.none,data:=.fields ps }
  exact k a _ (.inl rfl) e
 | met f y =>
  have e:h.get? a=some (PySem.W.methodObj (.ref f) (.ref y)):=x
  show h'.get? a=some (PySem.W.methodObj (.ref f) (.ref y))
  exact k a _ (.inl rfl) e
 | ext φ=>obtain ⟨p,⟨o,e⟩,st⟩:=x; exact ⟨st _ _ p fun o q=>k _ _ (.inl rfl) q,⟨o,k _ _ (.inl rfl) e⟩,st⟩
theorem HOk.lt (x:HOk P w H h) (e:H a=some o):a < h.objs.size:=(x a o e).lt
theorem HOk.fresh (x:HOk P w H h) (e:h.objs.size≤a):H a=none:=by
 cases q:H a with
 | none=>rfl
 | some u=>exact absurd (Nat.lt_of_lt_of_le (x.lt q) e) (Nat.lt_irrefl _)
theorem HOk.kept (x:HOk P w H h) (k:∀ b u,h.get? b=some u→h'.get? b=some u):HOk P w H h':=fun a o e =>
 (x a o e).stay (fun b u _ q=>k b u q) (fun _ q=>q) fun _ _ q=>q
theorem HOk.laid (x:HOk P w H h) (k:∀ b u,h.get? b=some u→h'.get? b=some u) (hp:h.objs.size≤a) (new:ObjOk P w (upd H a o) h' a o):HOk P w (upd H a o) h':=fun b u e=>by
 have hn:=x.fresh hp
 by_cases hb:b=a
 ·subst hb; rw [upd_same] at e; cases e; exact new
 ·rw [ah_ hb] at e
  exact (x b u e).stay (fun c v _ q=>k c v q) (fun c q=>by rw [ah_ (ba_ q hn)]; exact q) fun c xs q=>by rw [ah_ (ba_ q hn)]; exact q
end
def Rd (H:Hp) (a:Addr) (u:HO):Prop:=H a=some u∨∃ o,H a=some (.frz o u)
theorem Rd.ok {P:Program} {w:World} {H:Hp} {h:Heap} {a:Addr} {u:HO} (r:Rd H a u) (x:HOk P w H h):ObjOk P w H h a u:=by
 rcases r with r | ⟨o,r⟩
 ·exact x a u r
 ·obtain ⟨_,q⟩:=x a _ r
  exact q
def Mut:Option HO→Prop
 | some (.lst _)=>True
 | some (.dK _)=>True
 | some (.dT _)=>True
 | some (.set _ _)=>True
 | some (.ins _ _ _)=>True
 | some (.ext _)=>True
 | _=>False
section
variable {P:Program} {w:World} {H:Hp} {h h':Heap} {x e:Addr} {o':HO}
theorem HOk.write (ok:HOk P w H h) (mu:Mut (H x)) (he:e=x∨H e=some (.own x)) (k:∀ b u,b≠e→h.get? b=some u→h'.get? b=some u) (heo:∃ u,h'.get? e=some u)
  (new:ObjOk P w (upd H x o') h' x o'):HOk P w (upd H x o') h':=fun b u q=>by
 have nown:∀ c y,H c=some (.own y)→c≠x:=fun c y r z=>by subst z; rw [r] at mu; exact mu
 have ntup:∀ c xs,H c=some (.tup xs)→c≠x:=fun c xs r z=>by subst z; rw [r] at mu; exact mu
 by_cases hb:b=x
 ·subst hb; rw [upd_same] at q; cases q; exact new
 ·rw [ah_ hb] at q
  by_cases hbe:b=e
  ·have q':H b=some (.own x):=by
    rcases he with z | z
    ·exact absurd (hbe.trans z) hb
    ·rw [hbe]; exact z
   rw [q] at q'; cases q'
   obtain ⟨v,hv⟩:=heo
   exact ⟨v,by rw [hbe]; exact hv⟩
  ·refine (ok b u q).stay (fun c v hc r=>k c v ?_ r) (fun c r=>by rw [ah_ (nown c b r)]; exact r) fun c xs r=>by rw [ah_ (ntup c xs r)]; exact r
   rcases hc with rfl | hc
   ·exact hbe
   ·rintro rfl
    rcases he with z | z
    ·exact nown c b hc z
    ·rw [hc] at z; cases z; exact hb rfl
end
structure Un (fs ex:List Addr) (H H':Hp) (h h':Heap):Prop where
 keep:∀ b o,h.get? b=some o→H b=none→b∉fs→b∉ex→h'.get? b=some o
 slot:∀ b o,h.get? b=some o→H b=none→b∈fs→b∉ex→∃ sl,h'.get? b=some { o with slots:=sl }
 free:∀ b o,h.get? b=some o→H b=none→b∉ex→H' b=none
 there:∀ b o,h.get? b=some o→b∉ex→∃ o',h'.get? b=some o'
 tups:∀ b xs,H b=some (.tup xs)→H' b=some (.tup xs)
 frzs:∀ b o u,H b=some (.frz o u)→H' b=some (.frz o u)
 tbls:∀ b ps,H b=some (.tbl ps)→∃ more,H' b=some (.tbl (ps ++ more))
section
variable {fs fs' ex ex':List Addr} {H H1 H2:Hp} {h h1 h2 h':Heap} {a x e:Addr} {o:HO}
theorem Un.any (u:Un fs ex H H1 h h1) {b:Addr} {ob:Obj} (q:h.get? b=some ob) (n:H b=none) (hx:b∉ex):∃ sl,h1.get? b=some { ob with slots:=sl }:=by
 by_cases hb:b∈fs
 ·exact u.slot b ob q n hb hx
 ·exact ⟨ob.slots,u.keep b ob q n hb hx⟩
theorem Un.kept (k:∀ b u,h.get? b=some u→h'.get? b=some u):Un fs ex H H h h' :=
 ⟨fun b ob q _ _ _=>k b ob q,fun b ob q _ _ _=>⟨ob.slots,k b ob q⟩,fun _ _ _ n _=>n,fun b ob q _=>⟨ob,k b ob q⟩,fun _ _ q=>q,fun _ _ _ q=>q,fun _ ps q=>⟨#[],by rw [q]; simp⟩⟩
theorem Un.refl:Un fs ex H H h h:=Un.kept fun _ _ q=>q
theorem Un.laid (k:∀ b u,h.get? b=some u→h'.get? b=some u) (hp:h.objs.size≤a) (hn:H a=none):Un fs ex H (upd H a o) h h' where
 keep:=fun b u q _ _ _=>k b u q
 slot:=fun b u q _ _ _=>⟨u.slots,k b u q⟩
 free:=fun b u q n _=>by rw [ah_ (Nat.ne_of_lt (Nat.lt_of_lt_of_le (Heap.lt_size q) hp))]; exact n
 there:=fun b u q _=>⟨u,k b u q⟩
 tups:=fun b xs q=>by rw [ah_ (ba_ q hn)]; exact q
 frzs:=fun b u xs q=>by rw [ah_ (ba_ q hn)]; exact q
 tbls:=fun b ps q=>⟨#[],by rw [ah_ (ba_ q hn),q]; simp⟩
theorem Un.write (mu:Mut (H x)) (he:e=x∨H e=some (.own x)) (k:∀ b u,b≠e→h.get? b=some u→h'.get? b=some u) (heo:∃ u,h'.get? e=some u):Un fs ex H (upd H x o) h h':=by
 have hx:∀ b,H b=none→b≠x:=fun b n z=>by subst z; rw [n] at mu; exact mu
 have hb:∀ b,H b=none→b≠e:=fun b n z=>by
  subst z
  rcases he with r | r
  ·exact hx b n r
  ·rw [n] at r; cases r
 have hm:∀ b u,H b=some u→¬ Mut (some u)→b≠x:=fun b u q nm z=>by subst z; rw [q] at mu; exact nm mu
 refine ⟨fun b u q n _ _=>k b u (hb b n) q,fun b u q n _ _=>⟨u.slots,k b u (hb b n) q⟩,fun b u q n _=>by rw [ah_ (hx b n)]; exact n,fun b u q _ => ?_,
  fun b xs q=>by rw [ah_ (hm b _ q fun z=>z)]; exact q,fun b u xs q=>by rw [ah_ (hm b _ q fun z=>z)]; exact q,fun b ps q=>⟨#[],by rw [ah_ (hm b _ q fun z=>z),q]; simp⟩⟩
 by_cases hbe:b=e
 ·subst hbe; exact heo
 ·exact ⟨u,k b u hbe q⟩
end
def trk (h:Heap) (H:Hp):List Addr:=(List.range h.objs.size).filter fun a=>(H a).isSome
def hidT (h:Heap) (H:Hp):Heap:=PySem.W.hideAll h (trk h H)
theorem hidT_size (h:Heap) (H:Hp):(hidT h H).objs.size=h.objs.size:=PySem.W.hideAll_size _ _
theorem hidT_get {h:Heap} {H:Hp} {b:Addr} {o:Obj} (e:h.get? b=some o) (n:H b=none):(hidT h H).get? b=some o :=
 PySem.W.hideAll_get _ e fun hm=>by
  have q:(H b).isSome=true:=(List.mem_filter.mp hm).2
  rw [n] at q; simp at q
theorem of_hidT {h:Heap} {H:Hp} {b:Addr} {o:Obj} (e:(hidT h H).get? b=some o):h.get? b=some o∧H b=none:=by
 have e':h.get? b=some o:=PySem.W.of_hideAll (trk h H) e
 refine ⟨e',?_⟩
 cases q:H b with
 | none=>rfl
 | some x =>
  have hm:b∈trk h H:=List.mem_filter.mpr ⟨List.mem_range.mpr (Heap.lt_size e'),by simp [q]⟩
  have z:(hidT h H).get? b=none:=PySem.W.hideAll_none (trk h H) hm
  rw [z] at e; cases e
def allNews (g h:Heap) (L:Addr):List (Addr×Obj):=(List.range h.objs.size).filterMap fun a=>if a=L∨(g.get? a).isSome=true then none else (h.get? a).map fun o=>(a,o)
def rest (g h:Heap) (L d:Addr):List (Addr×Obj):=(allNews g h L).filter fun p=>decide (p.1≠d)
structure Mod (K:FG_) (mg:MG_) (base:Heap):Prop where
 kin:K.In base
 glob:base.Ns mainGlobals mg
 blt:∃ mb,base.Ns builtinsNs mb∧∀ x:Str,x ≠ "__name__" → mb x=bootBuiltins x
 nolimit:base.NoLimit
structure Cx where
 prog:Program
 w:World
 K:PySem.W.Frag
 mg:Str→Option Value
 base:Heap
 A:Around
 N:List Str
 s₀:Shared
 H₀:Hp
 env:Env
 outer:List Env
 stack:List Env
 ex:List Addr
 fn:Str→Bool
 calm:Bool
 pn:List (Addr×Obj)
 xe:Value→Shared→Prop
def frs (l:List Env):List Addr:=l.filterMap (·.frame)
abbrev Cx.fs (X:Cx):List Addr:=frs X.outer
def Vis (sc:Scope) (x:Str):Prop:=sc.names.lookup x=some .local∨sc.names.lookup x=some .cell∨sc.names.lookup x=some .free
def Loc (sc:Scope) (x:Str):Prop:=sc.names.lookup x=some .local∨sc.names.lookup x=some .cell
def Look (env:Env) (h:Heap) (m:MG_) (x:Str) (u:Value):Prop :=
 (env.kindOf x=some .local∧m x=some u)∨((env.kindOf x=some .cell∨env.kindOf x=some .free)∧∃ c,env.cells.lookup x=some c∧h.IsCell c (some u))
structure Cx.Ok (X:Cx):Prop where
 mod:Mod X.K X.mg X.base
 kind:X.env.scope.kind=.function
 glob:X.env.globals=mainGlobals
 blt:X.env.builtins=builtinsNs
 above:X.s₀.heap.objs.size≤X.env.locals
 inj:∀ x y c,X.env.cells.lookup x=some c→X.env.cells.lookup y=some c→x=y
 has:∀ x,(X.env.kindOf x=some .cell∨X.env.kindOf x=some .free)→∃ c,X.env.cells.lookup x=some c
 cab:∀ x c,X.fn x=true→X.env.cells.lookup x=some c→X.s₀.heap.objs.size≤c
 hd:X.calm=true→X.A.handled=none
 frames:X.A.frames=some X.stack
 stk:X.stack=X.outer∨(X.stack=X.env :: X.outer∧X.env.frame=some X.env.locals)
 exf:∀ b∈X.ex,b≠X.env.locals∧∀ x c,X.env.cells.lookup x=some c→c≠b
 bs:∀ b o,X.base.get? b=some o→X.s₀.heap.get? b=some o∧X.H₀ b=none
 bsz:X.base.objs.size≤X.s₀.heap.objs.size
 noex:∀ b o,X.base.get? b=some o→b∉X.ex
 exfs:∀ b∈X.ex,b∉X.fs
 funs:X.s₀.heap.FunFrames X.base X.outer
 frf:∀ b∈X.fs,X.H₀ b=none
structure Inv (X:Cx) (pins:PN_) (σ:List (Option V)) (H:Hp) (s:Shared):Prop where
 ok:X.Ok
 os:s.os=X.s₀.os
 bare:AllBare s.gens
 base:Un X.fs X.ex X.H₀ H X.s₀.heap s.heap
 loc:∃ m,s.heap.Ns X.env.locals m∧∀ (i:Nat) (x:Str) (v:V),X.N[i]? = some x→σ[i]? = some (some v)→Vis X.env.scope x→∃ u,RelV v u∧Look X.env s.heap m x u
 cell:∀ x c,X.env.cells.lookup x=some c→∃ v,s.heap.IsCell c v
 free:H X.env.locals=none
 freeC:∀ x c,X.env.cells.lookup x=some c→H c=none
 pin:∀ p∈X.pn ++ pins,s.heap.get? p.1=some p.2∧H p.1=none∧p.1≠X.env.locals∧p.1∉X.fs∧∀ v,p.2.data ≠ .cell v
 hok:HOk X.prog X.w H s.heap
 len:σ.length=X.N.length
section
variable {X:Cx} {pins:PN_} {σ:List (Option V)} {H H':Hp} {s:Shared} {h':Heap}
theorem Cx.Ok.nofr (ok:X.Ok) {b:Addr} {o:Obj} (e:X.base.get? b=some o):b∉X.fs:=fun hb=>by
 have:=(ok.funs.mem hb).1
 rw [e] at this; cases this
theorem Inv.bs (I:Inv X pins σ H s):∀ b o,X.base.get? b=some o→s.heap.get? b=some o∧H b=none:=fun b o e =>
 ⟨I.base.keep b o (I.ok.bs b o e).1 (I.ok.bs b o e).2 (I.ok.nofr e) (I.ok.noex b o e),I.base.free b o (I.ok.bs b o e).1 (I.ok.bs b o e).2 (I.ok.noex b o e)⟩
theorem Inv.bk (I:Inv X pins σ H s):∀ b o,X.base.get? b=some o→s.heap.get? b=some o:=fun b o e=>(I.bs b o e).1
theorem Inv.mod (I:Inv X pins σ H s):Mod X.K X.mg X.base:=I.ok.mod
theorem Inv.kIn (I:Inv X pins σ H s):X.K.In s.heap:=I.ok.mod.kin.keeps I.bk
theorem Inv.fr (I:Inv X pins σ H s):∃ m,Fr X.base X.env.locals s.heap m :=
 let ⟨m,hn,_⟩:=I.loc
 ⟨m,hn,I.bk,Nat.le_trans I.ok.bsz I.ok.above⟩
theorem Inv.lt (I:Inv X pins σ H s):X.env.locals < s.heap.objs.size:=let ⟨_,hn,_⟩:=I.loc; hn.lt
theorem Inv.sz (I:Inv X pins σ H s):X.s₀.heap.objs.size≤s.heap.objs.size:=Nat.le_trans I.ok.above (Nat.le_of_lt I.lt)
theorem Inv.nofs (I:Inv X pins σ H s) {a:Addr} (h:s.heap.objs.size≤a):a∉X.fs:=fun hb=>by
 obtain ⟨_,o,ho,_⟩:=I.ok.funs.mem hb
 exact absurd (Nat.lt_of_lt_of_le (Heap.lt_size ho) (Nat.le_trans I.sz h)) (Nat.lt_irrefl _)
theorem Inv.cne (I:Inv X pins σ H s):∀ x c,X.env.cells.lookup x=some c→c≠X.env.locals:=fun x c e z=>by
 obtain ⟨v,o,ho,hd⟩:=I.cell x c e
 obtain ⟨m,⟨o',es,ep,ho',hd',_⟩,_⟩:=I.loc
 rw [z,ho'] at ho; cases ho; rw [hd'] at hd; cases hd
theorem Inv.funs (I:Inv X pins σ H s):s.heap.FunFrames X.base X.outer:=by
 have all:∀ (l:List Env),(∀ b∈frs l,b∈X.fs)→X.s₀.heap.FunFrames X.base l→s.heap.FunFrames X.base l:=by
  intro l
  induction l with
  | nil=>intro _ _; trivial
  | cons env r ih =>
   intro hs hl
   obtain ⟨hk,⟨L,o,hf,hn,ho,hd⟩,hr⟩:=hl
   have hL:L∈X.fs:=hs L (by unfold frs; rw [List.filterMap_cons,hf]; exact List.mem_cons_self)
   obtain ⟨sl,e⟩:=I.base.slot L o ho (I.ok.frf L hL) hL fun z=>I.ok.exfs L z hL
   exact ⟨hk,⟨L,_,hf,hn,e,hd⟩,ih (fun b hb=>hs b (by unfold frs; rw [List.filterMap_cons,hf]; exact List.mem_cons_of_mem _ hb)) hr⟩
 exact all X.outer (fun _ hb=>hb) I.ok.funs
theorem Inv.stack (I:Inv X pins σ H s):s.heap.FunFrames X.base X.stack:=by
 rcases I.ok.stk with e | ⟨e,hf⟩
 ·rw [e]; exact I.funs
 ·rw [e]
  obtain ⟨m,hn,_⟩:=I.loc
  refine .cons (by rw [I.ok.kind]; decide) hf hn ?_ I.funs
  exact Heap.get?_none_of_le (Nat.le_trans I.ok.bsz I.ok.above)
theorem Inv.stkSub (I:Inv X pins σ H s):∀ b∈frs X.stack,b∈X.env.locals :: X.fs:=fun b hb=>by
 rcases I.ok.stk with e | ⟨e,hf⟩
 ·rw [e] at hb; exact List.mem_cons_of_mem _ hb
 ·rw [e] at hb
  unfold frs at hb
  rw [List.filterMap_cons,hf] at hb
  exact hb
theorem Inv.stkFree (I:Inv X pins σ H s):∀ b∈frs X.stack,H b=none:=fun b hb=>by
 rcases List.mem_cons.mp (I.stkSub b hb) with e | hb
 ·rw [e]; exact I.free
 ·obtain ⟨_,o,ho,_⟩:=I.ok.funs.mem hb
  exact I.base.free b o ho (I.ok.frf b hb) fun z=>I.ok.exfs b z hb
theorem Inv.step {g':Array GenState} {t':Nat} {d':Drawn} {ch:List Addr} (I:Inv X pins σ H s)
  (hch:∀ b∈ch,(b∈X.ex∨X.s₀.heap.objs.size≤b)∧b≠X.env.locals∧(∀ x c,X.env.cells.lookup x=some c→c≠b)∧∀ p∈X.pn ++ pins,p.1≠b)
  (keep:∀ b o,b≠X.env.locals→b∉X.fs→b∉ch→s.heap.get? b=some o→H b=none→h'.get? b=some o)
  (slot:∀ b o,b≠X.env.locals→b∈X.fs→b∉ch→s.heap.get? b=some o→H b=none→∃ sl,h'.get? b=some { o with slots:=sl }) (free:∀ b o,b∉ch→s.heap.get? b=some o→H b=none→H' b=none)
  (there:∀ b o,b∉ch→s.heap.get? b=some o→∃ o',h'.get? b=some o')
  (tups:∀ b xs,H b=some (.tup xs)→H' b=some (.tup xs)) (frzs:∀ b o u,H b=some (.frz o u)→H' b=some (.frz o u)) (tbls:∀ b ps,H b=some (.tbl ps)→∃ more,H' b=some (.tbl (ps ++ more)))
  (ns:∀ m,s.heap.Ns X.env.locals m→h'.Ns X.env.locals m) (hok:HOk X.prog X.w H' h') (hg:AllBare g') :
  Inv X pins σ H' { s with heap:=h',gens:=g',drawn:=d',toks:=t' }:=by
 have neL:∀ b o,X.s₀.heap.get? b=some o→b≠X.env.locals:=fun b o e=>Nat.ne_of_lt (Nat.lt_of_lt_of_le (Heap.lt_size e) I.ok.above)
 have neC:∀ b o,X.s₀.heap.get? b=some o→b∉X.ex→b∉ch:=fun b o e hx hb=>by
  rcases (hch b hb).1 with z | z
  ·exact hx z
  ·exact absurd (Nat.lt_of_lt_of_le (Heap.lt_size e) z) (Nat.lt_irrefl _)
 have cellK:∀ x c,X.env.cells.lookup x=some c→∀ v,s.heap.IsCell c v→h'.IsCell c v:=fun x c e v ⟨o,ho,hd⟩=>by
  have nch:c∉ch:=fun z=>(hch c z).2.2.1 x c e rfl
  by_cases hc:c∈X.fs
  ·obtain ⟨sl,q⟩:=slot c o (I.cne x c e) hc nch ho (I.freeC x c e)
   exact ⟨_,q,hd⟩
  ·exact ⟨o,keep c o (I.cne x c e) hc nch ho (I.freeC x c e),hd⟩
 refine ⟨I.ok,I.os,hg,⟨fun b o e n hb hx => ?_,fun b o e n hb hx => ?_,fun b o e n hx => ?_,fun b o e hx => ?_,fun b xs e=>tups b xs (I.base.tups b xs e),fun b o xs e=>frzs b o xs (I.base.frzs b o xs e),fun b ps e => ?_⟩,?_,fun x c e => ?_,?_,fun x c e => ?_,fun p hp => ?_,hok,I.len⟩
 ·exact keep b o (neL b o e) hb (neC b o e hx) (I.base.keep b o e n hb hx) (I.base.free b o e n hx)
 ·obtain ⟨sl,e1⟩:=I.base.slot b o e n hb hx
  obtain ⟨sl',e2⟩:=slot b _ (neL b o e) hb (neC b o e hx) e1 (I.base.free b o e n hx)
  exact ⟨sl',e2⟩
 ·obtain ⟨o',e1⟩:=I.base.there b o e hx
  exact free b o' (neC b o e hx) e1 (I.base.free b o e n hx)
 ·obtain ⟨o',e1⟩:=I.base.there b o e hx
  exact there b o' (neC b o e hx) e1
 ·obtain ⟨m1,e1⟩:=I.base.tbls b ps e
  obtain ⟨m2,e2⟩:=tbls b _ e1
  exact ⟨m1 ++ m2,by rw [e2,Array.append_assoc]⟩
 ·obtain ⟨m,hn,hl⟩:=I.loc
  refine ⟨m,ns m hn,fun i x v e1 e2 e3 => ?_⟩
  obtain ⟨u,r,l⟩:=hl i x v e1 e2 e3
  refine ⟨u,r,?_⟩
  rcases l with l | ⟨k,c,e,z⟩
  ·exact .inl l
  ·exact .inr ⟨k,c,e,cellK x c e _ z⟩
 ·obtain ⟨v,z⟩:=I.cell x c e
  exact ⟨v,cellK x c e v z⟩
 ·obtain ⟨m,⟨o,_,_,ho,_⟩,_⟩:=I.loc
  exact free _ o (fun z=>(hch _ z).2.1 rfl) ho I.free
 ·obtain ⟨v,o,ho,hd⟩:=I.cell x c e
  exact free c o (fun z=>(hch c z).2.2.1 x c e rfl) ho (I.freeC x c e)
 ·obtain ⟨e,n,ne,nf,d⟩:=I.pin p hp
  have nch:p.1∉ch:=fun z=>(hch p.1 z).2.2.2 p hp rfl
  exact ⟨keep p.1 p.2 ne nf nch e n,free p.1 p.2 nch e n,ne,nf,d⟩
theorem Inv.un {t':Nat} (I:Inv X pins σ H s) (u:Un X.fs [] H H' s.heap h') (hok:HOk X.prog X.w H' h'):Inv X pins σ H' { s with heap:=h',toks:=t' }:=by
 obtain ⟨m,⟨o,es,ep,ho,r⟩,_⟩:=id I.loc
 obtain ⟨sl,hL⟩:=u.any ho I.free (by simp)
 exact I.step (g':=s.gens) (d':=s.drawn) (ch:=[]) (fun _ z=>nomatch z) (fun b o _ hb _ e n=>u.keep b o e n hb (by simp)) (fun b o _ hb _ e n=>u.slot b o e n hb (by simp)) (fun b o _ e n=>u.free b o e n (by simp)) (fun b o _ e=>u.there b o e (by simp)) u.tups u.frzs u.tbls (fun m' hm=>by
  obtain ⟨o',es',ep',ho',r'⟩:=hm
  rw [ho] at ho'; cases ho'
  exact ⟨_,es',ep',hL,r'⟩) hok I.bare
theorem Inv.call {g':Array GenState} {t':Nat} {d':Drawn} {ch:List Addr} (I:Inv X pins σ H s) (u:Un (frs X.stack) ch H H' s.heap h') (hok:HOk X.prog X.w H' h') (hg:AllBare g')
  (hch:∀ b∈ch,(b∈X.ex∨X.s₀.heap.objs.size≤b)∧b≠X.env.locals∧(∀ x c,X.env.cells.lookup x=some c→c≠b)∧∀ p∈X.pn ++ pins,p.1≠b) :
  Inv X pins σ H' { s with heap:=h',gens:=g',drawn:=d',toks:=t' }:=by
 obtain ⟨m,⟨o,es,ep,ho,r⟩,_⟩:=id I.loc
 obtain ⟨sl,hL⟩:=u.any ho I.free fun z=>(hch _ z).2.1 rfl
 exact I.step (ch:=ch) hch (fun b o hL hb hc e n=>u.keep b o e n (fun z=>(List.mem_cons.mp (I.stkSub b z)).elim hL hb) hc) (fun b o _ _ hc e n=>u.any e n hc) (fun b o hc e n=>u.free b o e n hc) (fun b o hc e=>u.there b o e hc) u.tups u.frzs u.tbls (fun m' hm=>by
  obtain ⟨o',es',ep',ho',r'⟩:=hm
  rw [ho] at ho'; cases ho'
  exact ⟨_,es',ep',hL,r'⟩) hok hg
theorem Inv.turned {t':Nat} {it:Addr} (I:Inv X pins σ H s) (k:∀ b o,b≠it→s.heap.get? b=some o→h'.get? b=some o) (hn:H it=none) (hL:it≠X.env.locals)
  (h1:it∈X.ex∨X.s₀.heap.objs.size≤it) (h2:∀ x c,X.env.cells.lookup x=some c→c≠it) (h3:∀ p∈X.pn ++ pins,p.1≠it):Inv X pins σ H { s with heap:=h',toks:=t' }:=by
 have nit:∀ b u,H b=some u→b≠it:=fun b u e z=>by rw [z,hn] at e; cases e
 refine I.step (g':=s.gens) (d':=s.drawn) (ch:=[it]) (fun b hb => ?_) (fun b o _ _ hc e _=>k b o (fun z=>hc (by simp [z])) e) (fun b o _ _ hc e _=>⟨o.slots,k b o (fun z=>hc (by simp [z])) e⟩) (fun _ _ _ _ n=>n)
  (fun b o hc e=>⟨o,k b o (fun z=>hc (by simp [z])) e⟩) (fun _ _ e=>e) (fun _ _ _ e=>e) (fun b ps e=>⟨#[],by rw [e]; simp⟩) (fun m hm => ?_) (fun b u e => ?_) I.bare
 ·have e:b=it:=by simpa using hb
  subst e
  exact ⟨h1,hL,h2,h3⟩
 ·obtain ⟨o,es,ep,ho,r⟩:=hm
  exact ⟨o,es,ep,k _ o (Ne.symm hL) ho,r⟩
 ·refine (I.hok b u e).stay (fun c v hc q=>k c v ?_ q) (fun _ q=>q) fun _ _ q=>q
  rcases hc with z | z
  ·rw [z]; exact nit b u e
  ·exact nit c _ z
theorem Inv.tok (I:Inv X pins σ H s) (t:Nat):Inv X pins σ H { s with toks:=t }:=I.un (h':=s.heap) (t':=t) Un.refl I.hok
theorem Inv.kept {t':Nat} (I:Inv X pins σ H s) (k:∀ b u,s.heap.get? b=some u→h'.get? b=some u):Inv X pins σ H { s with heap:=h',toks:=t' }:=I.un (Un.kept k) (I.hok.kept k)
theorem Inv.laid {a:Addr} {o:HO} {t':Nat} (I:Inv X pins σ H s) (k:∀ b u,s.heap.get? b=some u→h'.get? b=some u) (hp:s.heap.objs.size≤a) (new:ObjOk X.prog X.w (upd H a o) h' a o) :
  Inv X pins σ (upd H a o) { s with heap:=h',toks:=t' }:=I.un (Un.laid k hp (I.hok.fresh hp)) (I.hok.laid k hp new)
theorem Inv.write {x e:Addr} {o:HO} {t':Nat} (I:Inv X pins σ H s) (mu:Mut (H x)) (he:e=x∨H e=some (.own x)) (k:∀ b u,b≠e→s.heap.get? b=some u→h'.get? b=some u) (heo:∃ u,h'.get? e=some u)
  (new:ObjOk X.prog X.w (upd H x o) h' x o):Inv X pins σ (upd H x o) { s with heap:=h',toks:=t' }:=I.un (Un.write mu he k heo) (I.hok.write mu he k heo new)
theorem Inv.weak {σ':List (Option V)} (I:Inv X pins σ H s) (hl:σ'.length=σ.length) (w:∀ (i:Nat) v,σ'[i]? = some (some v)→σ[i]? = some (some v)):Inv X pins σ' H s :=
 ⟨I.ok,I.os,I.bare,I.base,let ⟨m,hn,hl'⟩:=I.loc; ⟨m,hn,fun i x v e1 e2 e3=>hl' i x v e1 (w i v e2) e3⟩,I.cell,I.free,I.freeC,I.pin,I.hok,hl.trans I.len⟩
theorem Inv.pins_of {pins':PN_} (I:Inv X pins σ H s) (h:∀ p∈pins',s.heap.get? p.1=some p.2∧H p.1=none∧p.1≠X.env.locals∧p.1∉X.fs∧∀ v,p.2.data ≠ .cell v):Inv X pins' σ H s :=
 ⟨I.ok,I.os,I.bare,I.base,I.loc,I.cell,I.free,I.freeC,fun p hp=>(List.mem_append.mp hp).elim (fun z=>I.pin p (List.mem_append_left _ z)) (h p),I.hok,I.len⟩
theorem nodup_ix {N:List Str} (hN:N.Nodup) {i j:Nat} {x:Str} (a:N[i]? = some x) (b:N[j]? = some x):i=j:=by
 obtain ⟨h1,e1⟩:=List.getElem?_eq_some_iff.mp a
 obtain ⟨h2,e2⟩:=List.getElem?_eq_some_iff.mp b
 exact (List.getElem_inj hN).mp (e1.trans e2.symm)
theorem store_ok2 {M:Model} {A:Around} {E:SV_} {i:Nat} {x:Str} {v:V} {u:Value} {Q:Unit→Shared→Prop} (I:Inv X pins σ H s) (hN:X.N.Nodup) (hi:X.N[i]? = some x) (hx:Loc X.env.scope x) (r:RelV v u)
  (h:∀ s',Inv X pins (σ.set i (some v)) H s'→(∃ a,Heap.SameBut a s.heap s'.heap∧(a=X.env.locals∨X.env.cells.lookup x=some a))→Q () s') (hf:X.fn x=true∨X.env.scope.names.lookup x=some .local:=by first | exact .inl rfl | exact .inr rfl | assumption):wpAny M A (storeName X.env x u) Q E s:=by
 obtain ⟨m,hn,hl⟩:=id I.loc
 have hcls:(X.env.scope.kind == .class || (X.env.scope.kind == .module && X.env.locals != X.env.globals))=false:=by rw [I.ok.kind]; rfl
 have hiσ:i < σ.length:=by rw [I.len]; exact (List.getElem?_eq_some_iff.mp hi).1
 have cne:=I.cne
 have tracked:∀ {a:Addr} {h':Heap},(∃ o,s.heap.get? a=some o∧H a=none)→Heap.SameBut a s.heap h'→HOk X.prog X.w H h':=fun {a h'} ha hs b ob e=>by
  obtain ⟨_,_,hfree⟩:=ha
  refine (I.hok b ob e).stay (fun c w' hc q=>(hs.2 c ?_).trans q) (fun _ q=>q) fun _ _ q=>q
  rintro rfl
  rcases hc with rfl | hc
  ·rw [hfree] at e; cases e
  ·rw [hfree] at hc; cases hc
 rcases hx with hk | hk
 ·refine wpAny_storeName_local hk hn (fun h' hn' hs => ?_) hcls
  obtain ⟨oL,_,_,hoL,_⟩:=id hn
  refine h _ ⟨I.ok,I.os,I.bare,⟨fun b o e n hb hx => ?_,fun b o e n hb hx => ?_,I.base.free,fun b o e hx => ?_,I.base.tups,I.base.frzs,I.base.tbls⟩,⟨_,hn',fun j y v' e1 e2 e3 => ?_⟩,fun y c e => ?_,I.free,I.freeC,fun p hp => ?_,tracked ⟨oL,hoL,I.free⟩ hs,by simpa using I.len⟩ ⟨_,hs,.inl rfl⟩
  ·exact (hs.2 b (Nat.ne_of_lt (Nat.lt_of_lt_of_le (Heap.lt_size e) I.ok.above))).trans (I.base.keep b o e n hb hx)
  ·obtain ⟨sl,e1⟩:=I.base.slot b o e n hb hx
   exact ⟨sl,(hs.2 b (Nat.ne_of_lt (Nat.lt_of_lt_of_le (Heap.lt_size e) I.ok.above))).trans e1⟩
  ·obtain ⟨o',e1⟩:=I.base.there b o e hx
   exact ⟨o',(hs.2 b (Nat.ne_of_lt (Nat.lt_of_lt_of_le (Heap.lt_size e) I.ok.above))).trans e1⟩
  ·by_cases hj:j=i
   ·subst hj
    rw [hi] at e1; cases e1
    rw [List.getElem?_set_self hiσ] at e2
    cases e2
    exact ⟨u,r,.inl ⟨hk,by simp⟩⟩
   ·rw [List.getElem?_set_ne (Ne.symm hj)] at e2
    obtain ⟨u',r',q⟩:=hl j y v' e1 e2 e3
    refine ⟨u',r',?_⟩
    rcases q with ⟨k,e⟩ | ⟨k,c,e,z⟩
    ·refine .inl ⟨k,?_⟩
     have:y≠x:=fun e=>hj (nodup_ix hN e1 (e ▸ hi))
     simp [this,e]
    ·exact .inr ⟨k,c,e,z.sameBut hs (cne y c e)⟩
  ·obtain ⟨w',z⟩:=I.cell y c e
   exact ⟨w',z.sameBut hs (cne y c e)⟩
  ·obtain ⟨e,n,ne,nf,d⟩:=I.pin p hp
   exact ⟨(hs.2 p.1 ne).trans e,n,ne,nf,d⟩
 ·have hfn:X.fn x=true:=by
   rcases hf with z | z
   ·exact z
   ·rw [z] at hk; cases hk
  obtain ⟨c,hc⟩:=I.ok.has x (.inl hk)
  obtain ⟨w',z⟩:=I.cell x c hc
  refine wpAny_storeName_cell I.ok.kind hk hc z (fun h' hc' hs => ?_)
  obtain ⟨oc,hoc,hocd⟩:=id z
  refine h { s with heap:=h' } ⟨I.ok,I.os,I.bare,⟨fun b o e n hb hx => ?_,fun b o e n hb hx => ?_,I.base.free,fun b o e hx => ?_,I.base.tups,I.base.frzs,I.base.tbls⟩,⟨m,hn.sameBut hs (Ne.symm (cne x c hc)),fun j y v' e1 e2 e3 => ?_⟩,fun y c' e => ?_,I.free,I.freeC,fun p hp => ?_,tracked ⟨oc,hoc,I.freeC x c hc⟩ hs,by simpa using I.len⟩ ⟨c,hs,.inr hc⟩
  ·exact (hs.2 b (Nat.ne_of_lt (Nat.lt_of_lt_of_le (Heap.lt_size e) (I.ok.cab x c hfn hc)))).trans (I.base.keep b o e n hb hx)
  ·obtain ⟨sl,e1⟩:=I.base.slot b o e n hb hx
   exact ⟨sl,(hs.2 b (Nat.ne_of_lt (Nat.lt_of_lt_of_le (Heap.lt_size e) (I.ok.cab x c hfn hc)))).trans e1⟩
  ·obtain ⟨o',e1⟩:=I.base.there b o e hx
   exact ⟨o',(hs.2 b (Nat.ne_of_lt (Nat.lt_of_lt_of_le (Heap.lt_size e) (I.ok.cab x c hfn hc)))).trans e1⟩
  ·by_cases hj:j=i
   ·subst hj
    rw [hi] at e1; cases e1
    rw [List.getElem?_set_self hiσ] at e2
    cases e2
    exact ⟨u,r,.inr ⟨.inl hk,c,hc,hc'⟩⟩
   ·rw [List.getElem?_set_ne (Ne.symm hj)] at e2
    obtain ⟨u',r',q⟩:=hl j y v' e1 e2 e3
    refine ⟨u',r',?_⟩
    rcases q with q | ⟨k,c',e,z'⟩
    ·exact .inl q
    ·refine .inr ⟨k,c',e,z'.sameBut hs ?_⟩
     rintro rfl
     exact hj (nodup_ix hN e1 (I.ok.inj _ _ _ e hc ▸ hi))
  ·by_cases hcc:c'=c
   ·subst hcc; exact ⟨_,hc'⟩
   ·obtain ⟨w2,z2⟩:=I.cell y c' e
    exact ⟨w2,z2.sameBut hs hcc⟩
  ·obtain ⟨e,n,ne,nf,d⟩:=I.pin p hp
   refine ⟨(hs.2 p.1 ?_).trans e,n,ne,nf,d⟩
   intro q
   rw [q,hoc] at e
   have q':oc=p.2:=Option.some.inj e
   exact d w' (by rw [← q']; exact hocd)
theorem store_ok {M:Model} {A:Around} {E:SV_} {i:Nat} {x:Str} {v:V} {u:Value} {Q:Unit→Shared→Prop} (I:Inv X pins σ H s) (hN:X.N.Nodup) (hi:X.N[i]? = some x) (hx:Loc X.env.scope x) (r:RelV v u)
  (h:∀ s',Inv X pins (σ.set i (some v)) H s'→Q () s') (hf:X.fn x=true∨X.env.scope.names.lookup x=some .local:=by first | exact .inl rfl | exact .inr rfl | assumption):wpAny M A (storeName X.env x u) Q E s :=
 store_ok2 I hN hi hx r (fun s' I' _=>h s' I') hf
theorem Inv.call' {s':Shared} {ch:List Addr} (I:Inv X pins σ H s) (ho:s'.os=s.os) (u:Un (frs X.stack) ch H H' s.heap s'.heap) (hok:HOk X.prog X.w H' s'.heap) (hg:AllBare s'.gens)
  (hch:∀ b∈ch,(b∈X.ex∨X.s₀.heap.objs.size≤b)∧b≠X.env.locals∧(∀ x c,X.env.cells.lookup x=some c→c≠b)∧∀ p∈X.pn ++ pins,p.1≠b):Inv X pins σ H' s':=by
 obtain ⟨h',g',d',t',o'⟩:=s'
 have e:o'=s.os:=ho
 subst e
 exact I.call (g':=g') (t':=t') (d':=d') u hok hg hch
end
abbrev XK:=Value→Option Addr→Hp→Prop
abbrev St:=List (Option V)
abbrev VK:=V→Hp→Prop
abbrev TE:=St→Hp→VK→Prop
abbrev TT:=St→Hp→(Bool→Hp→Prop)→Prop
abbrev TA:=St→Hp→(List V→Hp→Prop)→Prop
structure Ends where
 nx:St→Hp→Prop
 rt:VK
 bk:St→Hp→Prop:=fun _ _=>False
 ct:St→Hp→Prop:=fun _ _=>False
abbrev TS:=Ends→St→Hp→Prop
def EP (X:Cx) (pins:PN_) (σ:St) (Q:VK) (u:Value) (s':Shared):Prop := ∃ v H',Inv X pins σ H' s'∧RelV v u∧Q v H'
def TP (X:Cx) (pins:PN_) (σ:St) (Q:Bool→Hp→Prop) (b:Bool) (s':Shared):Prop := ∃ H',Inv X pins σ H' s'∧Q b H'
def AP (X:Cx) (pins:PN_) (σ:St) (Q:List V→Hp→Prop) (us:List Value) (s':Shared):Prop := ∃ vs H',Inv X pins σ H' s'∧Vals vs us∧Q vs H'
def SP (X:Cx) (pins:PN_) (D:Ends) (f:Flow) (s':Shared):Prop :=
 match f with
 | .next => ∃ σ' H',Inv X pins σ' H' s'∧D.nx σ' H'
 | .brk => ∃ σ' H',Inv X pins σ' H' s'∧D.bk σ' H'
 | .cont => ∃ σ' H',Inv X pins σ' H' s'∧D.ct σ' H'
 | .ret u => ∃ v σ' H',Inv X pins σ' H' s'∧RelV v u∧D.rt v H'
def PE (X:Cx) (e:Expr) (t:TE):Prop :=
 ∀ (pins:PN_) (s:Shared) (σ:St) (H:Hp) (Q:VK),Inv X pins σ H s→t σ H Q→wpAny (model X.prog X.w) X.A (eval e X.env) (EP X pins σ Q) X.xe s
def PT (X:Cx) (e:Expr) (t:TT):Prop :=
 ∀ (pins:PN_) (s:Shared) (σ:St) (H:Hp) (Q:Bool→Hp→Prop),Inv X pins σ H s→t σ H Q→wpAny (model X.prog X.w) X.A (isTrue e X.env (eval e X.env)) (TP X pins σ Q) X.xe s
def PW (X:Cx) (e:Expr) (t:TT):Prop :=
 ∀ (whole:Sem Value) (pins:PN_) (s:Shared) (σ:St) (H:Hp) (Q:Bool→Hp→Prop),Inv X pins σ H s→t σ H Q→wpAny (model X.prog X.w) X.A (isTrue e X.env whole) (TP X pins σ Q) X.xe s
theorem PW.pt {X:Cx} {e:Expr} {t:TT} (h:PW X e t):PT X e t:=h _
def PA (X:Cx) (es:List Expr) (t:TA):Prop :=
 ∀ (pos:Pos) (pins:PN_) (s:Shared) (σ:St) (H:Hp) (Q:List V→Hp→Prop),Inv X pins σ H s→t σ H Q→wpAny (model X.prog X.w) X.A (spliced (backTo pos (starEach es X.env))) (AP X pins σ Q) X.xe s
def PS (X:Cx) (st:Stmt) (t:TS):Prop :=
 ∀ (pins:PN_) (s:Shared) (σ:St) (H:Hp) (D:Ends),Inv X pins σ H s→t D σ H→wpAny (model X.prog X.w) X.A (exec st X.env) (SP X pins D) X.xe s
def PSs (X:Cx) (st:List Stmt) (t:TS):Prop :=
 ∀ (pins:PN_) (s:Shared) (σ:St) (H:Hp) (D:Ends),Inv X pins σ H s→t D σ H→wpAny (model X.prog X.w) X.A (execs st X.env) (SP X pins D) X.xe s
theorem thn {α:Type} {t:Sem α} {Q Q':α→Shared→Prop} {M:Model} {A:Around} {E:SV_} {s:Shared} (h:wpAny M A t Q E s) (hQ:∀ a s,Q a s→Q' a s):wpAny M A t Q' E s:=wpAny_mono h hQ fun _ _ x=>x
section
variable {X:Cx}
theorem bin {a b:Expr} {ta tb:TE} (ha:PE X a ta) (hb:PE X b tb) {pins:PN_} {s:Shared} {σ:St} {H:Hp} {R:V→V→Hp→Prop} (I:Inv X pins σ H s) (h:ta σ H fun x H1=>tb σ H1 fun y H2=>R x y H2)
  {α:Type} {Q:α→Shared→Prop} {f:Value→Value→Sem α}
  (hf:∀ v u s2 x y H2,Inv X pins σ H2 s2→RelV x v→RelV y u→R x y H2→wpAny (model X.prog X.w) X.A (f v u) Q X.xe s2) :
  wpAny (model X.prog X.w) X.A (eval a X.env) (fun v s₁=>wpAny (model X.prog X.w) X.A (eval b X.env) (fun u s₂=>wpAny (model X.prog X.w) X.A (f v u) Q X.xe s₂) X.xe s₁) X.xe s:=by
 refine thn (ha pins s σ H _ I h) fun v s1 ⟨x,H1,I1,r1,q1⟩ => ?_
 refine thn (hb pins s1 σ H1 _ I1 q1) fun u s2 ⟨y,H2,I2,r2,q2⟩ => ?_
 exact hf v u s2 x y H2 I2 r1 r2 q2
def tVar (i:Nat):TE:=fun σ H Q => ∃ v,σ[i]? = some (some v)∧Q v H
def tC (v:V):TE:=fun _ H Q=>Q v H
theorem pe_var {i:Nat} {x:Str} {pos:Pos} (hN:X.N[i]? = some x) (hv:Vis X.env.scope x) (hd:(x == ("__debug__" : Str))=false:=by decide) (hcd:(x == ("__classdict__" : Str))=false:=by decide):PE X (.Name x pos) (tVar i):=by
 intro pins s σ H Q I h
 obtain ⟨v,e,h⟩:=h
 obtain ⟨m,hn,hl⟩:=I.loc
 obtain ⟨u,r,l⟩:=hl i x v hN e hv
 have fin:EP X pins σ Q u s:=⟨v,H,I,r,h⟩
 rcases l with ⟨hk,hm⟩ | ⟨hk,c,hc,hcell⟩
 ·exact wpAny_Name (wpAny_loadName_local I.ok.kind hk hn hm fin) hd
 ·rcases hk with hk | hk
  ·exact wpAny_Name (wpAny_loadName_cell I.ok.kind hk hc hcell fin) hd
  ·exact wpAny_Name (wpAny_loadName_free I.ok.kind hk hc hcell fin hcd) hd
theorem ep_ {i j pos}:PE X (.Constant (.int i) j pos) (tC (.int i)):=fun _ _ _ H _ I h=>wpAny_Constant_int ⟨.int i,H,I.tok _,⟨_,rfl⟩,h⟩
theorem pe_bl {b j pos}:PE X (.Constant (.bool b) j pos) (tC (.bl b)):=fun _ _ _ H _ I h=>Constant_bool ⟨.bl b,H,I,rfl,h⟩
theorem pe_str {x j pos}:PE X (.Constant (.str x) j pos) (tC (.str x)):=fun _ _ _ H _ I h=>Calls.Constant_str ⟨.str x,H,I.tok _,⟨_,rfl⟩,h⟩
def Gl (X:Cx) (x:Str):Prop:=X.env.kindOf x=some .globalImplicit
theorem ld_glob {E:SV_} {pins:PN_} {s:Shared} {σ:St} {H:Hp} {x:Str} {u:Value} {pos:Pos} {Q:SV_} (I:Inv X pins σ H s) (hg:Gl X x) (hm:X.mg x=some u) (h:Q u s)
  (hd:(x == ("__debug__" : Str))=false:=by decide):wpAny (model X.prog X.w) X.A (eval (.Name x pos) X.env) Q E s :=
 Calls.Name_function_global I.ok.kind hg (Calls.loadGlobal_global (by rw [I.ok.glob]; exact I.mod.glob.keeps I.bk) hm h) hd
theorem gr_ {E:SV_} {pins:PN_} {s:Shared} {σ:St} {H:Hp} {x:Str} {u:Value} {pos:Pos} {Q:SV_} (I:Inv X pins σ H s) (hg:Gl X x) (hm:X.mg x=none) (hv:bootBuiltins x=some u) (h:Q u s)
  (hn:x ≠ "__name__" := by decide) (hd:(x == ("__debug__" : Str))=false:=by decide):wpAny (model X.prog X.w) X.A (eval (.Name x pos) X.env) Q E s:=by
 obtain ⟨mb,h1,h2⟩:=I.mod.blt
 exact Calls.Name_function_global I.ok.kind hg (Calls.loadGlobal_builtin (by rw [I.ok.glob]; exact I.mod.glob.keeps I.bk) hm (by rw [I.ok.blt]; exact h1.keeps I.bk) ((h2 x hn).trans hv) h) hd
theorem pe_glob {x:Str} {v:V} {u:Value} {pos:Pos} (hg:Gl X x) (hm:X.mg x=some u) (r:RelV v u) (hd:(x == ("__debug__" : Str))=false:=by decide):PE X (.Name x pos) (tC v) :=
 fun _ _ _ H _ I h=>ld_glob I hg hm ⟨v,H,I,r,h⟩ hd
theorem bp_ {x:Str} {v:V} {u:Value} {pos:Pos} (hg:Gl X x) (hm:X.mg x=none) (hv:bootBuiltins x=some u) (r:RelV v u) (hn:x ≠ "__name__" := by decide) (hd:(x == ("__debug__" : Str))=false:=by decide):PE X (.Name x pos) (tC v) :=
 fun _ _ _ H _ I h=>gr_ I hg hm hv ⟨v,H,I,r,h⟩ hn hd
def t2I (ta tb:TE) (k:Int→Int→Hp→Prop):St→Hp→Prop:=fun σ H=>ta σ H fun x H1=>tb σ H1 fun y H2 => ∃ i j,x=.int i∧y=.int j∧k i j H2
def tAdd (ta tb:TE):TE:=fun σ H Q=>t2I ta tb (fun i j H2=>Q (.int (i + j)) H2) σ H
variable {a b:Expr} {ta tb:TE} {pos:Pos}
theorem pe_add (ha:PE X a ta) (hb:PE X b tb):PE X (.BinOp a .Add b pos) (tAdd ta tb):=by
 intro pins s σ H Q I h
 refine wpAny_BinOp (bin ha hb I h fun v u s2 x y H2 I2 rx ry q => ?_)
 obtain ⟨i,j,rfl,rfl,q⟩:=q
 obtain ⟨t,rfl⟩:=rx
 obtain ⟨t',rfl⟩:=ry
 exact add_int ⟨.int _,H2,I2.tok _,⟨_,rfl⟩,q⟩
def PC (X:Cx) (op:CmpOp) (a b:Expr) (t:TE):Prop :=
 ∀ (pins:PN_) (s:Shared) (σ:St) (H:Hp) (Q:VK),Inv X pins σ H s→t σ H Q →
  wpAny (model X.prog X.w) X.A (eval a X.env) (fun v s₁=>wpAny (model X.prog X.w) X.A (eval b X.env) (fun u s₂=>wpAny (model X.prog X.w) X.A (compareOp op v u) (EP X pins σ Q) X.xe s₂) X.xe s₁) X.xe s
theorem nobehind (b:Expr) {op:CmpOp} (h:op ≠ .In) (h2:op ≠ .NotIn):behindInMarks op b=false:=by
 have e1:(op == CmpOp.In)=false:=by cases op <;> first | rfl | exact absurd rfl h
 have e2:(op == CmpOp.NotIn)=false:=by cases op <;> first | rfl | exact absurd rfl h2
 cases b <;> simp [behindInMarks,e1,e2]
def tB (t:TE):TT:=fun σ H Q=>t σ H fun x H1 => ∃ c,x=.bl c∧Q c H1
theorem pt_cmp {op:CmpOp} {t:TE} (h:PC X op a b t) (h1:behindInMarks op b=false:=by first | exact nobehind _ (by decide) (by decide) | rfl):PT X (.Compare a [op] [b] pos) (tB t):=by
 intro pins s σ H Q I hw
 refine wpAny_isTrue_Compare1 (thn (h pins s σ H _ I hw) fun v s1 h1=>thn h1 fun u s2 h2=>thn h2 fun c s3 ⟨x,H1,I1,r1,q1⟩ => ?_) h1
 obtain ⟨d,rfl,q⟩:=q1
 cases r1
 exact wpAny_truthy_bool ⟨H1,I1,q⟩
theorem pt_val {e:Expr} {t:TE} (h:PE X e t) (he:∀ whole,isTrue e X.env whole=(do let v ← whole; standAt e.pos; holding [v] (truthy v)):=by intro _; rfl):PT X e (tB t):=by
 intro pins s σ H Q I hw
 refine isTrue_plain (thn (h pins s σ H _ I hw) fun v s1 ⟨x,H1,I1,r1,q1⟩ => ?_) (he _)
 obtain ⟨d,rfl,q⟩:=q1
 cases r1
 exact wpAny_truthy_bool ⟨H1,I1,q⟩
variable {tA tB':TT} {rest:List Expr}
def tAnd (t u:TT):TT:=fun σ H Q=>t σ H fun c H1=>if c=true then u σ H1 Q else Q false H1
def tOr (t u:TT):TT:=fun σ H Q=>t σ H fun c H1=>if c=true then Q true H1 else u σ H1 Q
def tNot (t:TT):TT:=fun σ H Q=>t σ H fun c H1=>Q (!c) H1
theorem pw_and1 (ha:PT X a tA):PW X (.BoolOp .And [a] pos) tA:=by
 intro wh pins s σ H Q I h
 refine isTrue_and (thn (ha pins s σ H Q I h) fun c s1 e => ?_)
 cases c with
 | true=>exact isTrue_and_nil e
 | false=>exact e
theorem pw_or1 (ha:PT X a tA):PW X (.BoolOp .Or [a] pos) tA:=by
 intro wh pins s σ H Q I h
 refine isTrue_or (thn (ha pins s σ H Q I h) fun c s1 e => ?_)
 cases c with
 | false=>exact isTrue_or_nil e
 | true=>exact e
theorem pw_and (ha:PT X a tA) (hb:PW X (.BoolOp .And (b :: rest) pos) tB'):PW X (.BoolOp .And (a :: b :: rest) pos) (tAnd tA tB'):=by
 intro wh pins s σ H Q I h
 refine isTrue_and (thn (ha pins s σ H _ I h) fun c s1 ⟨H1,I1,q1⟩ => ?_)
 cases c with
 | true=>exact hb wh pins s1 σ H1 Q I1 q1
 | false=>exact ⟨H1,I1,q1⟩
theorem pw_or (ha:PT X a tA) (hb:PW X (.BoolOp .Or (b :: rest) pos) tB'):PW X (.BoolOp .Or (a :: b :: rest) pos) (tOr tA tB'):=by
 intro wh pins s σ H Q I h
 refine isTrue_or (thn (ha pins s σ H _ I h) fun c s1 ⟨H1,I1,q1⟩ => ?_)
 cases c with
 | true=>exact ⟨H1,I1,q1⟩
 | false=>exact hb wh pins s1 σ H1 Q I1 q1
theorem pt_not (ha:PT X a tA):PT X (.UnaryOp .Not a pos) (tNot tA):=by
 intro pins s σ H Q I h
 exact isTrue_not (ha pins s σ H (fun c H1=>Q (!c) H1) I h)
def tAndV (ta tb:TE):TE:=fun σ H Q=>ta σ H fun x H1 => ∃ c,x=.bl c∧if c=true then tb σ H1 Q else Q (.bl false) H1
def tNotV (ta:TE):TE:=fun σ H Q=>ta σ H fun x H1 => ∃ c,x=.bl c∧Q (.bl (!c)) H1
theorem pe_one {op} {t:TE} (h:PE X a t):PE X (.BoolOp op [a] pos) t:=fun pins s σ H Q I hw=>BoolOp_one (h pins s σ H Q I hw)
theorem pe_and (ha:PE X a ta) (hb:PE X (.BoolOp .And (b :: rest) pos) tb):PE X (.BoolOp .And (a :: b :: rest) pos) (tAndV ta tb):=by
 intro pins s σ H Q I h
 refine BoolOp_and (thn (ha pins s σ H _ I h) fun v s1 ⟨x,H1,I1,r1,q1⟩ => ?_)
 obtain ⟨c,rfl,q1⟩:=q1
 cases r1
 refine wpAny_truthy_bool ?_
 cases c with
 | true=>exact hb pins s1 σ H1 Q I1 q1
 | false=>exact ⟨.bl false,H1,I1,rfl,q1⟩
theorem pe_not (ha:PE X a ta):PE X (.UnaryOp .Not a pos) (tNotV ta):=by
 intro pins s σ H Q I h
 refine UnaryOp_ (thn (ha pins s σ H _ I h) fun v s1 ⟨x,H1,I1,r1,q1⟩ => ?_)
 obtain ⟨c,rfl,q1⟩:=q1
 cases r1
 exact not_of (wpAny_truthy_bool ⟨.bl (!c),H1,I1,rfl,q1⟩)
end
def SqL (K:FG_) (H:Hp) (a:Addr) (xs:List V):Prop :=
 Rd H a (.lst xs) ∨
  ∃ (o:Obj) (its:Array Value) (n:Nat),K.lookup a=some o∧o.cls=.type "list" ∧ o.dict=none∧o.data=.seq its n∧its.size≤sizeLine∧Vals xs its.toList
def SqT (K:FG_) (H:Hp) (a:Addr) (xs:List V):Prop :=
 Rd H a (.tup xs) ∨
  ∃ (o:Obj) (its:Array Value) (n:Nat),K.lookup a=some o∧o.cls=.type "tuple" ∧ o.data=.seq its n∧its.size≤sizeLine∧Vals xs its.toList
def absV:Value→Option V
 | .none=>some .non
 | .bool b=>some (.bl b)
 | .int i _=>some (.int i)
 | .str x _=>some (.str x)
 | .bytes b _=>some (.byt b)
 | .float b _=>some (.flt b)
 | .ref a=>some (.ref a)
 | .type n=>some (.ty n)
 | _=>none
theorem RelV.abs {x:V} {u:Value} (r:RelV x u):absV u=some x:=by
 cases x with
 | non=>cases r; rfl
 | bl _=>cases r; rfl
 | int _=>obtain ⟨t,rfl⟩:=r; rfl
 | str _=>obtain ⟨t,rfl⟩:=r; rfl
 | byt _=>obtain ⟨t,rfl⟩:=r; rfl
 | flt _=>obtain ⟨t,rfl⟩:=r; rfl
 | ref _=>cases r; rfl
 | ty _=>cases r; rfl
theorem RelV.inj {x y:V} {u:Value} (r:RelV x u) (q:RelV y u):x=y:=Option.some.inj (r.abs.symm.trans q.abs)
theorem Vals.inj:∀ {xs ys:List V} {us:List Value},Vals xs us→Vals ys us→xs=ys
 | _,_,_,.nil,.nil=>rfl
 | _,_,_,.cons r t,.cons r' t'=>by rw [r.inj r',Vals.inj t t']
section
variable {X:Cx} {pins:PN_} {σ:St} {H:Hp} {s:Shared} {a:Addr} {xs ys:List V}
theorem SqL.of {K:FG_} (h:H a=some (.lst xs)):SqL K H a xs:=.inl (.inl h)
theorem SqT.of {K:FG_} (h:H a=some (.tup xs)):SqT K H a xs:=.inl (.inl h)
theorem Inv.list (I:Inv X pins σ H s) (h:SqL X.K H a xs):∃ its:List Value,Vals xs its∧PlainL s.heap a its.toArray∧xs.length≤sizeLine:=by
 rcases h with h | ⟨o,its,n,hk,hc,hd,hs,hz,r⟩
 ·obtain ⟨z,its,n,r,e⟩:=h.ok I.hok
  exact ⟨its,r,⟨_,n,e,rfl,rfl,rfl⟩,z⟩
 ·refine ⟨its.toList,r,⟨o,n,I.kIn a o hk,hc,hd,by simpa using hs⟩,?_⟩
  have e:=r.length
  simp only [Array.length_toList] at e
  omega
theorem Inv.tuple (I:Inv X pins σ H s) (h:SqT X.K H a xs):∃ its:List Value,Vals xs its∧IsTup s.heap a its.toArray∧xs.length≤sizeLine:=by
 rcases h with h | ⟨o,its,n,hk,hc,hs,hz,r⟩
 ·obtain ⟨z,its,r,p⟩:=h.ok I.hok
  exact ⟨its,r,p,z⟩
 ·refine ⟨its.toList,r,⟨o,I.kIn a o hk,hc,n,by simpa using hs⟩,?_⟩
  have e:=r.length
  simp only [Array.length_toList] at e
  omega
theorem Inv.list_inj (I:Inv X pins σ H s) (h:SqL X.K H a xs) (h':SqL X.K H a ys):xs=ys:=by
 obtain ⟨its,r,⟨o,n,e,_,_,d⟩,_⟩:=I.list h
 obtain ⟨its',r',⟨o',n',e',_,_,d'⟩,_⟩:=I.list h'
 rw [e] at e'; cases e'
 rw [d] at d'
 injection d' with d1 _
 have:its=its':=by simpa using congrArg Array.toList d1
 subst this
 exact r.inj r'
theorem Inv.tuple_inj (I:Inv X pins σ H s) (h:SqT X.K H a xs) (h':SqT X.K H a ys):xs=ys:=by
 obtain ⟨its,r,⟨o,e,_,n,d⟩,_⟩:=I.tuple h
 obtain ⟨its',r',⟨o',e',_,n',d'⟩,_⟩:=I.tuple h'
 rw [e] at e'; cases e'
 rw [d] at d'
 injection d' with d1 _
 have:its=its':=by simpa using congrArg Array.toList d1
 subst this
 exact r.inj r'
end
abbrev Cx.wish (X:Cx) (E:SV_):Cx:={ X with xe:=E }
abbrev Cx.nox (X:Cx):Cx:=X.wish fun _ _=>False
theorem Cx.Ok.wish {X:Cx} (ok:X.Ok) (E:SV_):(X.wish E).Ok :=
 ⟨ok.mod,ok.kind,ok.glob,ok.blt,ok.above,ok.inj,ok.has,ok.cab,ok.hd,ok.frames,ok.stk,ok.exf,ok.bs,ok.bsz,ok.noex,ok.exfs,ok.funs,ok.frf⟩
theorem Cx.Ok.unwish {X:Cx} {E:SV_} (ok:(X.wish E).Ok):X.Ok :=
 ⟨ok.mod,ok.kind,ok.glob,ok.blt,ok.above,ok.inj,ok.has,ok.cab,ok.hd,ok.frames,ok.stk,ok.exf,ok.bs,ok.bsz,ok.noex,ok.exfs,ok.funs,ok.frf⟩
section
variable {X:Cx} {pins:PN_} {σ:St} {H:Hp} {s:Shared} {E:SV_}
theorem Inv.wish (I:Inv X pins σ H s) (E:SV_):Inv (X.wish E) pins σ H s:=⟨I.ok.wish E,I.os,I.bare,I.base,I.loc,I.cell,I.free,I.freeC,I.pin,I.hok,I.len⟩
theorem Inv.unwish (I:Inv (X.wish E) pins σ H s):Inv X pins σ H s:=⟨I.ok.unwish,I.os,I.bare,I.base,I.loc,I.cell,I.free,I.freeC,I.pin,I.hok,I.len⟩
theorem SP.unwish {D:Ends} {f:Flow} {s':Shared} (h:SP (X.wish E) pins D f s'):SP X pins D f s':=by
 cases f with
 | next=>obtain ⟨σ',H',I,q⟩:=h; exact ⟨σ',H',I.unwish,q⟩
 | brk=>obtain ⟨σ',H',I,q⟩:=h; exact ⟨σ',H',I.unwish,q⟩
 | cont=>obtain ⟨σ',H',I,q⟩:=h; exact ⟨σ',H',I.unwish,q⟩
 | ret u=>obtain ⟨v,σ',H',I,r,q⟩:=h; exact ⟨v,σ',H',I.unwish,r,q⟩
theorem PSs.nox {st:List Stmt} {t:TS} (h:PSs X.nox st t):PSs X st t:=fun pins s σ H D I hw =>
 wpAny_mono (h pins s σ H D (I.wish _) hw) (fun _ _ q=>q.unwish) fun _ _ z=>False.elim z
end
section
variable {X:Cx} {st:Stmt} {rest:List Stmt} {t u:TS} {e:Expr} {te:TE} {pos:Pos}
def tNext:TS:=fun D σ H=>D.nx σ H
def tSeq (t u:TS):TS:=fun D σ H=>t { D with nx:=u D } σ H
theorem pss_nil:PSs X [] tNext:=fun _ _ σ H _ I h=>wpAny_execs_nil ⟨σ,H,I,h⟩
theorem hb_ (h1:PS X st t) (h2:PSs X rest u):PSs X (st :: rest) (tSeq t u):=by
 intro pins s σ H D I h
 refine wpAny_execs_cons (thn (h1 pins s σ H { D with nx:=u D } I h) fun f s1 q => ?_)
 cases f with
 | next =>
  obtain ⟨σ',H',I',q⟩:=q
  exact h2 pins s1 σ' H' D I' q
 | ret v=>exact q
 | brk=>exact q
 | cont=>exact q
theorem el_ (h1:PS X st t):PSs X [st] t:=by
 intro pins s σ H D I h
 refine wpAny_execs_cons (thn (h1 pins s σ H D I h) fun f s1 q => ?_)
 cases f with
 | next=>exact wpAny_execs_nil q
 | ret v=>exact q
 | brk=>exact q
 | cont=>exact q
theorem Inv.quiet {pins:PN_} {σ:St} {H:Hp} {s:Shared} (I:Inv X pins σ H s):interactive X.env=false:=by simp [interactive,I.ok.kind]
def tDrop (te:TE):TS:=fun D σ H=>te σ H fun _ H1=>D.nx σ H1
theorem dw_ (he:PE X e te) (hs:swapsWith e none pos.line X.env=pure false:=by rfl):PS X (.Expr e pos) (tDrop te):=by
 intro pins s σ H D I h
 exact wpAny_Expr_any (thn (he pins s σ H _ I h) fun v s1 ⟨x,H1,I1,r1,q1⟩=>⟨σ,H1,I1,q1⟩) I.quiet hs
def tRet (te:TE):TS:=fun D σ H=>te σ H D.rt
theorem ps_ret (he:PE X e te):PS X (.Return (some e) pos) (tRet te):=by
 intro pins s σ H D I h
 exact wpAny_Return_some (thn (he pins s σ H _ I h) fun v s1 ⟨x,H1,I1,r1,q1⟩=>⟨x,σ,H1,I1,r1,q1⟩)
def tIfS (c:TT) (t u:TS):TS:=fun D σ H=>c σ H fun b H1=>if b=true then t D σ H1 else u D σ H1
theorem ps_if {c:Expr} {a b:List Stmt} {tc:TT} (hc:PT X c tc) (ha:PSs X a t) (hb:PSs X b u):PS X (.If c a b pos) (tIfS tc t u):=by
 intro pins s σ H D I h
 refine wpAny_If (thn (hc pins s σ H _ I h) fun d s1 ⟨H1,I1,q1⟩ => ?_)
 cases d with
 | true=>exact ha pins s1 σ H1 D I1 q1
 | false=>exact hb pins s1 σ H1 D I1 q1
def tNever:TS:=fun _ _ _=>False
theorem ps_never:PS X st tNever:=fun _ _ _ _ _ _ h=>h.elim
end
abbrev TG:=V→St→Hp→(St→Hp→Prop)→Prop
abbrev TGs:=List V→St→Hp→(St→Hp→Prop)→Prop
def PG (X:Cx) (target:Expr) (t:TG):Prop :=
 ∀ (pins:PN_) (s:Shared) (σ:St) (H:Hp) (v:V) (u:Value) (Q:St→Hp→Prop),Inv X pins σ H s→RelV v u→t v σ H Q →
  wpAny (model X.prog X.w) X.A (assign target X.env u) (fun _ s' => ∃ σ' H',Inv X pins σ' H' s'∧Q σ' H') X.xe s
def PGs (X:Cx) (ts:List Expr) (t:TGs):Prop :=
 ∀ (pins:PN_) (s:Shared) (σ:St) (H:Hp) (vs:List V) (us:List Value) (Q:St→Hp→Prop),Inv X pins σ H s→Vals vs us→t vs σ H Q →
  wpAny (model X.prog X.w) X.A (assignInOrder ((assignEach ts X.env).map (·.2)) us) (fun _ s' => ∃ σ' H',Inv X pins σ' H' s'∧Q σ' H') X.xe s
abbrev TSet:=V→V→V→Hp→(Hp→Prop)→Prop
def PSet (X:Cx) (t:TSet):Prop :=
 ∀ (pins:PN_) (s:Shared) (σ:St) (H:Hp) (o i v:V) (ov iv u:Value) (Q:Hp→Prop),Inv X pins σ H s→RelV o ov→RelV i iv→RelV v u→t o i v H Q →
  wpAny (model X.prog X.w) X.A (setItem ov iv u) (fun _ s' => ∃ H',Inv X pins σ H' s'∧Q H') X.xe s
section
variable {X:Cx} {pos:Pos}
def gName (i:Nat):TG:=fun v σ H Q=>Q (σ.set i (some v)) H
theorem aj_ {i:Nat} {x:Str} (hN:X.N.Nodup) (hi:X.N[i]? = some x) (hx:Loc X.env.scope x) (hf:X.fn x=true∨X.env.scope.names.lookup x=some .local:=by first | exact .inl rfl | exact .inr rfl | assumption):PG X (.Name x pos) (gName i):=by
 intro pins s σ H v u Q I r h
 exact wpAny_assign_Name (store_ok I hN hi hx r (fun s' I'=>⟨_,H,I',h⟩) hf)
def gNil:TGs:=fun vs σ H Q=>vs=[]∧Q σ H
def gCons (t:TG) (u:TGs):TGs:=fun vs σ H Q => ∃ v r,vs=v :: r∧t v σ H fun σ' H'=>u r σ' H' Q
theorem cj_:PGs X [] gNil:=by
 intro pins s σ H vs us Q I r h
 obtain ⟨e,h⟩:=h
 subst e
 cases r
 exact assignInOrder_nil ⟨σ,H,I,h⟩
theorem ar_ {e:Expr} {es:List Expr} {t:TG} {u:TGs} (h1:PG X e t) (h2:PGs X es u)
  (hs:(assignEach (e :: es) X.env).map (·.2)=assign e X.env :: (assignEach es X.env).map (·.2):=by rfl):PGs X (e :: es) (gCons t u):=by
 intro pins s σ H vs us Q I r h
 obtain ⟨v,vr,e1,h⟩:=h
 subst e1
 cases r with
 | cons r rr =>
  rw [hs]
  refine assignInOrder_cons (thn (h1 pins s σ H _ _ _ I r h) fun _ s1 ⟨σ1,H1,I1,q1⟩ => ?_)
  exact h2 pins s1 σ1 H1 _ _ Q I1 rr q1
def gTup (K:FG_) (n:Nat) (t:TGs):TG:=fun v σ H Q => ∃ a xs,v=.ref a∧SqT K H a xs∧xs.length=n∧t xs σ H Q
theorem hy_ {es:List Expr} {k:Nat} {t:TGs} {n:Nat} (hc:X.calm=true) (h:PGs X es t)
  (hn:(assignEach es X.env).length=n:=by rfl) (hst:(assignEach es X.env).findIdx? (·.1)=none:=by rfl):PG X (.Tuple es k pos) (gTup X.K n t):=by
 intro pins s σ H v u Q I r hw
 obtain ⟨a,xs,e1,hq,hl,hw⟩:=hw
 subst e1
 cases r
 obtain ⟨its,rv,ht,hz⟩:=I.tuple hq
 refine assign_Tuple_tuple (I.ok.hd hc) ht (by simp [hn,← hl,rv.length]) hst fun h' hx => ?_
 have I1:Inv X pins σ H { s with heap:=h' }:=I.kept (t':=s.toks) fun b o e=>hx b o (Nat.ne_of_lt (Heap.lt_size e)) e
 exact h pins _ σ H xs _ Q I1 (by simpa using rv) hw
def gSub (to ti:TE) (t:TSet):TG:=fun v σ H Q=>to σ H fun o H1=>ti σ H1 fun i H2=>t o i v H2 fun H3=>Q σ H3
theorem pg_sub {o i:Expr} {to ti:TE} {t:TSet} (ho:PE X o to) (hi:PE X i ti) (hs:PSet X t)
  (ha:∀ v,assign (.Subscript o i pos) X.env v=(do
   let ov ← holding [v] (eval o X.env)
   let iv ← holding [v,ov] (eval i X.env)
   standAt pos
   holding [v,ov,iv] (setItem ov iv v)
   release [v,ov,iv] []):=by intro _; rfl):PG X (.Subscript o i pos) (gSub to ti t):=by
 intro pins s σ H v u Q I r h
 rw [ha]
 refine wpAny_bind (wpAny_holding (thn (ho pins s σ H _ I h) fun ov s1 ⟨x,H1,I1,r1,q1⟩ => ?_))
 refine wpAny_bind (wpAny_holding (thn (hi pins s1 σ H1 _ I1 q1) fun iv s2 ⟨y,H2,I2,r2,q2⟩ => ?_))
 refine wpAny_bind (wpAny_standAt (wpAny_bind (wpAny_holding (thn (hs pins s2 σ H2 x y v ov iv u _ I2 r1 r2 r q2) fun _ s3 ⟨H3,I3,q3⟩ => ?_))))
 exact wpAny_release ⟨σ,H3,I3,q3⟩
def tAsg (te:TE) (g:TG):TS:=fun D σ H=>te σ H fun x H1=>g x σ H1 D.nx
theorem ps_asg {tg e:Expr} {te:TE} {g:TG} (he:PE X e te) (hg:PG X tg g) (hs:swapsWithSole [tg] e pos.line X.env=pure false:=by rfl) (hw:swappedStores [tg] e X.env=pure none:=by rfl)
  (h1:(assignEach [tg] X.env).map (·.2)=[assign tg X.env]:=by rfl):PS X (.Assign [tg] e pos) (tAsg te g):=by
 intro pins s σ H D I h
 refine wpAny_Assign_stores (thn (he pins s σ H _ I h) fun v s1 ⟨x,H1,I1,r1,q1⟩ => ?_) hs hw
 rw [h1]
 exact thn (hg pins s1 σ H1 x v _ I1 r1 q1) fun _ s2 q=>q
theorem ak_ {i:Nat} {x:Str} {e:Expr} {te:TE} {pos':Pos} (hN:X.N.Nodup) (hi:X.N[i]? = some x) (hx:Loc X.env.scope x) (he:PE X e te) (hs:swapsWith e (some (.Name x pos')) pos.line X.env=pure false:=by rfl) (hf:X.fn x=true∨X.env.scope.names.lookup x=some .local:=by first | exact .inl rfl | exact .inr rfl | assumption) :
  PS X (.Assign [.Name x pos'] e pos) (tAsg te (gName i)):=by
 intro pins s σ H D I h
 refine wpAny_Assign_Name (thn (he pins s σ H _ I h) fun v s1 ⟨y,H1,I1,r1,q1⟩ => ?_) hs
 exact store_ok I1 hN hi hx r1 (fun s2 I2=>⟨_,H1,I2,q1⟩) hf
end
section
variable {X:Cx} {pos:Pos}
def tWhile (c:TT) (tb:TS):TS:=fun D σ H => ∃ W:Nat→St→Hp→Prop,(∃ m,W m σ H)∧∀ m σ H,W m σ H →
 c σ H fun b H1=>if b=true then ∃ N:St→Hp→Prop,(∀ σ' H',N σ' H'→∃ m',m' < m∧W m' σ' H')∧tb { D with nx:=N,ct:=N,bk:=D.nx } σ H1 else D.nx σ H1
theorem ps_while {c:Expr} {body:List Stmt} {tc:TT} {tb:TS} (hp:PassesOwn (model X.prog X.w) X.A X.env X.xe) (hc:PT X c tc) (hb:PSs X body tb):PS X (.While c body [] pos) (tWhile tc tb):=by
 intro pins s σ H D I h
 obtain ⟨W,⟨m0,w0⟩,turn⟩:=h
 refine wpAny_While (codeAny_whileLoop (fun n s' => ∃ σ' H',Inv X pins σ' H' s'∧W n σ' H') ?_ m0 ⟨σ,H,I,w0⟩)
 rintro n s1 ⟨σ1,H1,I1,w1⟩
 refine wpAny_passesOwn hp (thn (hc pins s1 σ1 H1 _ I1 (turn n σ1 H1 w1)) fun b s2 ⟨H2,I2,q2⟩ => ?_)
 cases b with
 | true =>
  obtain ⟨N,hN,q2⟩:=q2
  rw [if_pos rfl]
  refine wpAny_passesOwn hp (thn (hb pins s2 σ1 H2 _ I2 q2) fun f s3 q3 => ?_)
  cases f with
  | next =>
   obtain ⟨σ3,H3,I3,n3⟩:=q3
   obtain ⟨m',hm,w3⟩:=hN σ3 H3 n3
   exact ⟨m',hm,σ3,H3,I3,w3⟩
  | cont =>
   obtain ⟨σ3,H3,I3,n3⟩:=q3
   obtain ⟨m',hm,w3⟩:=hN σ3 H3 n3
   exact ⟨m',hm,σ3,H3,I3,w3⟩
  | brk=>exact q3
  | ret v=>exact q3
 | false =>
  rw [if_neg Bool.false_ne_true]
  exact wpAny_execs_nil ⟨σ1,H2,I2,q2⟩
end
structure It where
 go:Nat→Hp→Prop
 yld:Nat→Hp→V→Hp→Prop
 stop:Nat→Hp→Prop
def FpOk (X:Cx) (pins:PN_) (H:Hp) (b:Addr):Prop :=
 H b=none∧b≠X.env.locals∧b∉X.fs∧(b∈X.ex∨X.s₀.heap.objs.size≤b)∧(∀ x c,X.env.cells.lookup x=some c→c≠b)∧∀ p∈X.pn ++ pins,p.1≠b
theorem Inv.fpOk {X:Cx} {pins:PN_} {σ:St} {H H':Hp} {s:Shared} {b:Addr} (I:Inv X pins σ H s) (hb:s.heap.objs.size≤b) (hn:H' b=none):FpOk X pins H' b:=by
 refine ⟨hn,Nat.ne_of_gt (Nat.lt_of_lt_of_le I.lt hb),I.nofs hb,.inr (Nat.le_trans I.sz hb),fun x c e z => ?_,fun p hp z => ?_⟩
 ·obtain ⟨v,q⟩:=I.cell x c e
  exact absurd (Nat.lt_of_lt_of_le q.lt (by rw [z]; exact hb)) (Nat.lt_irrefl _)
 ·exact absurd (Nat.lt_of_lt_of_le (Heap.lt_size (I.pin p hp).1) (by rw [z]; exact hb)) (Nat.lt_irrefl _)
structure Turn (P:Program) (w:World) (K:FG_) (tg:Expr) (J:It) (fp:List Addr) (it:Addr) (tn:Nat→Heap→Prop):Prop where
 mem:it∈fp
 obj:∀ i h,tn i h→∀ b∈fp,∃ o,h.get? b=some o∧∀ v,o.data ≠ .cell v
 keep:∀ i h h',tn i h→(∀ b∈fp,∀ o,h.get? b=some o→h'.get? b=some o)→tn i h'
 item:∀ (X:Cx),X.prog=P→X.w=w→X.K=K→X.calm=true→∀ (i:Nat) (pins:PN_) (s:Shared) (σ:St) (H:Hp) (E:SV_),Inv X pins σ H s→(∀ b∈fp,FpOk X pins H b)→tn i s.heap→J.go i H →
  wpAny (model P w) X.A (pyNext (.ref it)) (fun r s1 => ∃ u,r=some u ∧
   wpAny (model P w) X.A (letOwnedTupleGo tg (.ref it) u) (fun _ s2 => ∃ x H',Inv X pins σ H' s2∧RelV x u∧J.yld i H x H'∧tn (i + 1) s2.heap∧∀ b∈fp,H' b=none) E s1) E s
 done:∀ (X:Cx),X.prog=P→X.w=w→X.K=K→X.calm=true→∀ (i:Nat) (pins:PN_) (s:Shared) (σ:St) (H:Hp) (E:SV_),Inv X pins σ H s→(∀ b∈fp,FpOk X pins H b)→tn i s.heap→J.stop i H →
  wpAny (model P w) X.A (pyNext (.ref it)) (fun r s1=>r=none∧Inv X pins σ H s1) E s
 self:∀ (A:Around) (i:Nat) (s:Shared) (Q:SV_) (E:SV_),tn i s.heap→Q (.ref it) s→wpAny (model P w) A (pyIter (.ref it)) Q E s
abbrev TI:=St→Hp→(It→Hp→Prop)→Prop
def PIE (X:Cx) (pins:PN_) (σ:St) (tg:Expr) (R:It→Hp→Prop) (itv:Value) (s2:Shared):Prop :=
 ∃ (it:Addr) (fp:List Addr) (tn:Nat→Heap→Prop) (J:It) (H':Hp),itv=.ref it∧Inv X pins σ H' s2∧Turn X.prog X.w X.K tg J fp it tn∧tn 0 s2.heap∧(∀ b∈fp,FpOk X pins H' b)∧R J H'
def PI (X:Cx) (tg iter:Expr) (wi:TI):Prop :=
 ∀ (pins:PN_) (s:Shared) (σ:St) (H:Hp) (R:It→Hp→Prop),Inv X pins σ H s→wi σ H R →
  wpAny (model X.prog X.w) X.A (eval iter X.env) (fun v s1=>wpAny (model X.prog X.w) X.A (pyIter v) (PIE X pins σ tg R) X.xe s1) X.xe s
theorem go_of {M:Model} {A:Around} {E:SV_} {s:Shared} {tg:Expr} {it:Addr} {u:Value} {o:Obj} {n:String} {vs:Array Value} {Q:Unit→Shared→Prop} (ho:s.heap.get? it=some o) (hc:o.cls=.type n) (hd:o.data=.fields vs)
    (hn:["enumerate", "zip", "dict_itemiterator", "dict_reverseitemiterator", "odict_iterator", "itertools.zip_longest", "itertools.pairwise"].contains n=false) (hQ:Q () s):wpAny M A (letOwnedTupleGo tg (.ref it) u) Q E s:=by
  unfold letOwnedTupleGo
  cases tg <;> first
    | exact wpAny_pure hQ
    | (cases u <;> first
        | exact wpAny_pure hQ
        | (refine wpAny_bind (wpAny_load ho ?_)
           rw [hc,hd]
           show wpAny M A (if (["enumerate", "zip", "dict_itemiterator", "dict_reverseitemiterator", "odict_iterator", "itertools.zip_longest", "itertools.pairwise"].contains n && vs[0]? == some (rawInt _))=true then _ else _) Q E s
           rw [if_neg (by intro h; rw [hn,Bool.false_and] at h; cases h)]
           exact wpAny_pure hQ))
def Itl (K:FG_) (a:Addr):It :=
 ⟨fun i H => ∃ xs x,SqL K H a xs∧xs[i]? = some x,fun i H x H'=>H'=H∧∀ xs,SqL K H a xs→xs[i]? = some x,fun i H => ∃ xs,SqL K H a xs∧xs.length≤i⟩
def Itt (K:FG_) (a:Addr):It :=
 ⟨fun i H => ∃ xs x,SqT K H a xs∧xs[i]? = some x,fun i H x H'=>H'=H∧∀ xs,SqT K H a xs→xs[i]? = some x,fun i H => ∃ xs,SqT K H a xs∧xs.length≤i⟩
def Itr (lo:Int) (n:Nat):It:=⟨fun i _=>i < n,fun i H x H'=>H'=H∧x=.int (lo + i),fun i _=>n≤i⟩
theorem turn_list {P:Program} {w:World} {K:FG_} {tg:Expr} (a it:Addr):Turn P w K tg (Itl K a) [it] it (fun i h=>h.IsListIter it a i) where
 mem:=by simp
 obj:=fun i h st b hb=>by
  have e:b=it:=by simpa using hb
  subst e
  obtain ⟨o,e,c,d⟩:=st
  exact ⟨o,e,fun v z=>by rw [d] at z; cases z⟩
 keep:=fun i h h' st k=>st.at fun o e=>k it (by simp) o e
 item:=by
  intro X hP hw hK hc i pins s σ H E I hf st hg
  subst hP hw hK
  obtain ⟨xs,x,hq,hx⟩:=hg
  obtain ⟨its,rv,p,hz⟩:=I.list hq
  obtain ⟨u,hu,ru⟩:=rv.get hx
  obtain ⟨f0,f1,f2,f3,f4,f5⟩:=hf it (by simp)
  refine wpAny_pyNext_list_item st p.isList (x:=u) (by simpa using hu) fun h' st' sb => ?_
  have I1:Inv X pins σ H { s with heap:=h' }:=I.turned (t':=s.toks) (fun b o hb e=>(sb.2 b hb).trans e) f0 f1 f3 f4 f5
  obtain ⟨o,e,c,d⟩:=id st'
  exact ⟨u,rfl,go_of (s:={ s with heap:=h' }) e c d (by decide) ⟨x,H,I1,ru,⟨rfl,fun ys hy=>by rw [I.list_inj hy hq]; exact hx⟩,st',fun b hb=>(hf b hb).1⟩⟩
 done:=by
  intro X hP hw hK hc i pins s σ H E I hf st hg
  subst hP hw hK
  obtain ⟨xs,hq,hx⟩:=hg
  obtain ⟨its,rv,p,hz⟩:=I.list hq
  obtain ⟨f0,f1,f2,f3,f4,f5⟩:=hf it (by simp)
  have hl:=rv.length
  exact wpAny_pyNext_list_end (I.ok.hd hc) st p.isList (by simp; omega) fun h' eb=>⟨rfl,I.turned (t':=s.toks) (fun b o hb e=>eb b o hb e) f0 f1 f3 f4 f5⟩
 self:=fun _ _ _ _ _ st h=>wpAny_pyIter_listiter st h
theorem turn_tuple {P:Program} {w:World} {K:FG_} {tg:Expr} (a it:Addr):Turn P w K tg (Itt K a) [it] it (fun i h=>h.IsTupleIter it a i) where
 mem:=by simp
 obj:=fun i h st b hb=>by
  have e:b=it:=by simpa using hb
  subst e
  obtain ⟨o,e,c,d⟩:=st
  exact ⟨o,e,fun v z=>by rw [d] at z; cases z⟩
 keep:=fun i h h' st k=>st.at fun o e=>k it (by simp) o e
 item:=by
  intro X hP hw hK hc i pins s σ H E I hf st hg
  subst hP hw hK
  obtain ⟨xs,x,hq,hx⟩:=hg
  obtain ⟨its,rv,p,hz⟩:=I.tuple hq
  obtain ⟨u,hu,ru⟩:=rv.get hx
  obtain ⟨f0,f1,f2,f3,f4,f5⟩:=hf it (by simp)
  refine wpAny_pyNext_tuple_item st (show s.heap.IsTuple a its.toArray from p) (x:=u) (by simpa using hu) fun h' st' sb => ?_
  have I1:Inv X pins σ H { s with heap:=h' }:=I.turned (t':=s.toks) (fun b o hb e=>(sb.2 b hb).trans e) f0 f1 f3 f4 f5
  obtain ⟨o,e,c,d⟩:=id st'
  exact ⟨u,rfl,go_of (s:={ s with heap:=h' }) e c d (by decide) ⟨x,H,I1,ru,⟨rfl,fun ys hy=>by rw [I.tuple_inj hy hq]; exact hx⟩,st',fun b hb=>(hf b hb).1⟩⟩
 done:=by
  intro X hP hw hK hc i pins s σ H E I hf st hg
  subst hP hw hK
  obtain ⟨xs,hq,hx⟩:=hg
  obtain ⟨its,rv,p,hz⟩:=I.tuple hq
  obtain ⟨f0,f1,f2,f3,f4,f5⟩:=hf it (by simp)
  have hl:=rv.length
  exact wpAny_pyNext_tuple_end (I.ok.hd hc) st (show s.heap.IsTuple a its.toArray from p) (by simp; omega) fun h' eb=>⟨rfl,I.turned (t':=s.toks) (fun b o hb e=>eb b o hb e) f0 f1 f3 f4 f5⟩
 self:=fun _ _ _ _ _ st h=>wpAny_pyIter_tupleiter st h
theorem turn_range {P:Program} {w:World} {K:FG_} {tg:Expr} (it:Addr) (lo:Int) (n:Nat):Turn P w K tg (Itr lo n) [it] it (fun i h=>IsRangeIter h it (lo + (i:Nat) * 1) ((n:Int) - (i:Nat)) 1) where
 mem:=by simp
 obj:=fun i h st b hb=>by
  have e:b=it:=by simpa using hb
  subst e
  exact ⟨_,st,fun v z=>by
   have z':Data.fields _=Data.cell v:=z
   cases z'⟩
 keep:=fun i h h' st k=>k it (by simp) _ st
 item:=by
  intro X hP hw hK hc i pins s σ H E I hf st hg
  subst hP hw hK
  obtain ⟨f0,f1,f2,f3,f4,f5⟩:=hf it (by simp)
  have W:=Walks.range (prog:=X.prog) (w:=X.w) (I.ok.hd hc) it lo 1 n
  refine W.item i s _ _ hg st fun v h' tk hv st' kk => ?_
  obtain ⟨t,rfl⟩:=hv
  have I1:Inv X pins σ H { s with heap:=h',toks:=tk }:=I.turned (fun b o hb e=>kk b o (by simpa using hb) e) f0 f1 f3 f4 f5
  refine ⟨_,rfl,go_of (s:={ s with heap:=h',toks:=tk }) (n := "range_iterator") st' rfl rfl (by decide) ⟨.int (lo + i),H,I1,⟨t,?_⟩,⟨rfl,rfl⟩,st',fun b hb=>(hf b hb).1⟩⟩
  rw [Int.mul_one]
 done:=by
  intro X hP hw hK hc i pins s σ H E I hf st hg
  subst hP hw hK
  obtain ⟨f0,f1,f2,f3,f4,f5⟩:=hf it (by simp)
  exact wpAny_pyNext_range_end (I.ok.hd hc) st (by have:n≤i:=hg; omega) fun h' eb=>⟨rfl,I.turned (t':=s.toks) (fun b o hb e=>eb b o hb e) f0 f1 f3 f4 f5⟩
 self:=fun _ _ _ _ _ st h=>wpAny_pyIter_rangeiter st h
section
variable {X:Cx} {tg:Expr}
def iList (K:FG_) (tl:TE):TI:=fun σ H R=>tl σ H fun x H1 => ∃ a,x=.ref a∧(∃ xs,SqL K H1 a xs)∧R (Itl K a) H1
def iTup (K:FG_) (tl:TE):TI:=fun σ H R=>tl σ H fun x H1 => ∃ a,x=.ref a∧(∃ xs,SqT K H1 a xs)∧R (Itt K a) H1
theorem pi_list {l:Expr} {tl:TE} (hl:PE X l tl):PI X tg l (iList X.K tl):=by
 intro pins s σ H R I h
 refine thn (hl pins s σ H _ I h) fun v s1 ⟨x,H1,I1,r1,q1⟩ => ?_
 obtain ⟨a,e,⟨xs,hq⟩,q⟩:=q1
 subst e
 cases r1
 obtain ⟨its,rv,p,hz⟩:=I1.list hq
 refine wpAny_pyIter_list p.isList ?_
 refine ⟨s1.heap.objs.size,[s1.heap.objs.size],_,_,H1,rfl,I1.kept (t':=s1.toks) fun b o e=>Heap.get?_push_of_some _ e,turn_list a _,⟨_,Heap.get?_push_size _ rfl,rfl,rfl⟩,fun b hb => ?_,q⟩
 have e:b=s1.heap.objs.size:=by simpa using hb
 subst e
 exact I1.fpOk (Nat.le_refl _) (I1.hok.fresh (Nat.le_refl _))
theorem pi_tup {l:Expr} {tl:TE} (hl:PE X l tl):PI X tg l (iTup X.K tl):=by
 intro pins s σ H R I h
 refine thn (hl pins s σ H _ I h) fun v s1 ⟨x,H1,I1,r1,q1⟩ => ?_
 obtain ⟨a,e,⟨xs,hq⟩,q⟩:=q1
 subst e
 cases r1
 obtain ⟨its,rv,p,hz⟩:=I1.tuple hq
 refine wpAny_pyIter_tuple (show s1.heap.IsTuple a its.toArray from p) ?_
 refine ⟨s1.heap.objs.size,[s1.heap.objs.size],_,_,H1,rfl,I1.kept (t':=s1.toks) fun b o e=>Heap.get?_push_of_some _ e,turn_tuple a _,⟨_,Heap.get?_push_size _ rfl,rfl,rfl⟩,fun b hb => ?_,q⟩
 have e:b=s1.heap.objs.size:=by simpa using hb
 subst e
 exact I1.fpOk (Nat.le_refl _) (I1.hok.fresh (Nat.le_refl _))
theorem range_it {pins:PN_} {σ:St} {H:Hp} {s:Shared} {R:It→Hp→Prop} {E:SV_} {lo hi:Int} {t u v:Tok} {tk:Nat} (I:Inv X pins σ H s) (h1 : -(2 ^ 62)≤lo) (h2:lo < 2 ^ 62) (h3 : -(2 ^ 62)≤hi) (h4:hi < 2 ^ 62)
  (q:R (Itr lo (hi - lo).toNat) H):wpAny (model X.prog X.w) X.A (pyIter (.ref s.heap.objs.size)) (PIE X pins σ tg R) E { s with heap:=s.heap.push { cls:=.type "range",data:=.fields #[.int lo t,.int hi u,.int 1 v] },toks:=tk }:=by
 refine wpAny_pyIter_range (IsRange.new ..) (small_one h1 h2 h3 h4) ?_
 have I1:Inv X pins σ H { s with heap:=s.heap.push { cls:=.type "range",data:=.fields #[.int lo t,.int hi u,.int 1 v] },toks:=tk }:=I.kept fun b o e=>Heap.get?_push_of_some _ e
 refine ⟨(s.heap.push { cls:=.type "range",data:=.fields #[.int lo t,.int hi u,.int 1 v] }).objs.size,[(s.heap.push { cls:=.type "range",data:=.fields #[.int lo t,.int hi u,.int 1 v] }).objs.size],_,_,H,rfl,
  I1.kept (t':=tk) fun b o e=>Heap.get?_push_of_some _ e,turn_range _ lo (hi - lo).toNat,?_,fun b hb => ?_,q⟩
 ·have e1:lo + ((0:Nat):Int) * 1=lo:=by simp
  have e2:(((hi - lo).toNat:Nat):Int) - ((0:Nat):Int)=Builtin.Range.rangeSize lo hi 1:=by rw [rangeSize_one]; split <;> omega
  show IsRangeIter _ _ (lo + ((0:Nat):Int) * 1) ((((hi - lo).toNat:Nat):Int) - ((0:Nat):Int)) 1
  rw [e1,e2]
  exact Heap.get?_push_size _ rfl
 ·have e:b=(s.heap.push { cls:=.type "range",data:=.fields #[.int lo t,.int hi u,.int 1 v] }).objs.size:=by simpa using hb
  subst e
  exact I1.fpOk (Nat.le_refl _) (I1.hok.fresh (Nat.le_refl _))
def iRng1 (ta:TA):TI:=fun σ H R=>ta σ H fun vs H1 => ∃ j:Int,vs=[.int j] ∧ -(2 ^ 62)≤j∧j < 2 ^ 62∧R (Itr 0 j.toNat) H1
theorem pi_range1 {a:Expr} {ta:TA} {p pos:Pos} (hg:Gl X "range") (hm:X.mg "range" = none) (ha:PA X [a] ta) (hs:starEach [a] X.env=[(false,eval a X.env)]:=by rfl):PI X tg (.Call (.Name "range" p) [a] [] pos) (iRng1 ta):=by
 intro pins s σ H R I h
 refine Call_ (gr_ I hg hm boot_range (PyProof.Rows.callWith_type1 (thn (ha pos pins s σ H _ I h) fun us s1 ⟨vs,H1,I1,r1,q1⟩ => ?_) hs rfl))
 obtain ⟨j,e,q1,q2,q⟩:=q1
 subst e
 cases r1 with
 | cons r rr =>
  cases rr
  obtain ⟨t,rfl⟩:=r
  exact call_range_1 (range_it I1 (by omega) (by omega) q1 q2 (by simpa using q))
def tFor (wi:TI) (g:TG) (tb:TS):TS:=fun D σ H=>wi σ H fun J H1 => ∃ W:Nat→Nat→St→Hp→Prop,(∃ m,W 0 m σ H1)∧∀ i m σ H,W i m σ H →
 (J.stop i H∧D.nx σ H)∨(J.go i H∧∃ N:St→Hp→Prop,(∀ σ' H',N σ' H'→∃ m',m' < m∧W (i + 1) m' σ' H')∧∀ x H',J.yld i H x H'→g x σ H' fun σ2 H2=>tb { D with nx:=N,ct:=N,bk:=D.nx } σ2 H2)
def pinsAt (fp:List Addr) (h:Heap):List (Addr×Obj):=fp.filterMap fun b=>(h.get? b).map fun o=>(b,o)
theorem ex_ {fp:List Addr} {h:Heap} {b:Addr} {o:Obj} (hb:b∈fp) (e:h.get? b=some o):(b,o)∈pinsAt fp h:=List.mem_filterMap.mpr ⟨b,hb,by rw [e]; rfl⟩
theorem of_pinsAt {fp:List Addr} {h:Heap} {p:Addr×Obj} (hp:p∈pinsAt fp h):p.1∈fp∧h.get? p.1=some p.2:=by
 obtain ⟨b,hb,e⟩:=List.mem_filterMap.mp hp
 cases q:h.get? b with
 | none=>rw [q] at e; cases e
 | some o =>
  rw [q] at e
  have e':(b,o)=p:=Option.some.inj e
  subst e'
  exact ⟨hb,q⟩
theorem Inv.pinned {pins:PN_} {σ:St} {H:Hp} {s:Shared} {fp:List Addr} (I:Inv X pins σ H s) (hf:∀ b∈fp,FpOk X pins H b) (ho:∀ b∈fp,∃ o,s.heap.get? b=some o∧∀ v,o.data ≠ .cell v):Inv X (pins ++ pinsAt fp s.heap) σ H s :=
 I.pins_of fun p hp=>(List.mem_append.mp hp).elim (fun z=>I.pin p (List.mem_append_right _ z)) fun z=>by
  obtain ⟨hb,e⟩:=of_pinsAt z
  obtain ⟨f0,f1,f2,_⟩:=hf p.1 hb
  obtain ⟨o,e',d⟩:=ho p.1 hb
  rw [e] at e'; cases e'
  exact ⟨e,f0,f1,f2,d⟩
theorem Inv.unpinned {pins pl:PN_} {σ:St} {H:Hp} {s:Shared} (I:Inv X (pins ++ pl) σ H s):Inv X pins σ H s:=I.pins_of fun p hp=>I.pin p (List.mem_append_right _ (List.mem_append_left _ hp))
theorem ps_for {iter:Expr} {body:List Stmt} {wi:TI} {g:TG} {tb:TS} {pos:Pos} (hp:PassesOwn (model X.prog X.w) X.A X.env X.xe) (hc:X.calm=true) (hi:PI X tg iter wi) (hg:PG X tg g) (hb:PSs X body tb)
  (hs:∀ x,foldedSetIterable iter X.env x=pure x:=by intro _; rfl):PS X (.For tg iter body [] pos) (tFor wi g tb):=by
 intro pins s σ H D I h
 refine wpAny_For (thn (hi pins s σ H _ I h) fun v s1 h1=>thn h1 fun itv s2 h2 => ?_) hs
 obtain ⟨it,fp,tn,J,H2,e,I2,T,st2,f2,W,⟨m0,w0⟩,turn⟩:=h2
 subst e
 have stat:∀ {H':Hp},(∀ b∈fp,H' b=none)→∀ b∈fp,FpOk X pins H' b:=fun hn b hb=>⟨hn b hb,(f2 b hb).2⟩
 refine codeAny_forLoop_any (fun n s' => ∃ i σ' H',Inv X pins σ' H' s'∧tn i s'.heap∧(∀ b∈fp,H' b=none)∧W i n σ' H') ?_ m0 ⟨0,σ,H2,I2,st2,fun b hb=>(f2 b hb).1,w0⟩
 rintro n s3 ⟨i,σ3,H3,I3,st3,fr3,w3⟩
 rcases turn i n σ3 H3 w3 with ⟨stop,qn⟩ | ⟨go,N,hN,step⟩
 ·refine wpAny_passesOwn hp (thn (T.done X rfl rfl rfl hc i pins s3 σ3 H3 X.xe I3 (stat fr3) st3 stop) fun r s4 ⟨hr,I4⟩ => ?_)
  subst hr
  exact wpAny_execs_nil ⟨σ3,H3,I4,qn⟩
 ·refine wpAny_passesOwn hp (thn (T.item X rfl rfl rfl hc i pins s3 σ3 H3 X.xe I3 (stat fr3) st3 go) fun r s4 ⟨u,hr,h4⟩ => ?_)
  subst hr
  refine wpAny_passesOwn hp (thn h4 fun _ s5 ⟨x,H5,I5,r5,y5,st5,fr5⟩ => ?_)
  have I5':=I5.pinned (stat fr5) (T.obj _ _ st5)
  refine wpAny_passesOwn hp (thn (hg _ s5 σ3 H5 x u _ I5' r5 (step x H5 y5)) fun _ s6 ⟨σ6,H6,I6,q6⟩ => ?_)
  refine wpAny_passesOwn hp (thn (hb _ s6 σ6 H6 _ I6 q6) fun f s7 q7 => ?_)
  have again:∀ {σ7:St} {H7:Hp},Inv X (pins ++ pinsAt fp s5.heap) σ7 H7 s7→N σ7 H7→∃ m,m < n∧∃ i σ' H',Inv X pins σ' H' s7∧tn i s7.heap∧(∀ b∈fp,H' b=none)∧W i m σ' H':=fun {σ7 H7} I7 n7=>by
   obtain ⟨m',hm,w7⟩:=hN σ7 H7 n7
   refine ⟨m',hm,i + 1,σ7,H7,I7.unpinned,T.keep _ _ _ st5 fun b hb o e=>(I7.pin (b,o) (List.mem_append_right _ (List.mem_append_right _ (ex_ hb e)))).1,fun b hb => ?_,w7⟩
   obtain ⟨o,e,d⟩:=T.obj _ _ st5 b hb
   exact (I7.pin (b,o) (List.mem_append_right _ (List.mem_append_right _ (ex_ hb e)))).2.1
  cases f with
  | next=>obtain ⟨σ7,H7,I7,n7⟩:=q7; exact again I7 n7
  | cont=>obtain ⟨σ7,H7,I7,n7⟩:=q7; exact again I7 n7
  | brk=>obtain ⟨σ7,H7,I7,q7⟩:=q7; exact ⟨σ7,H7,I7.unpinned,q7⟩
  | ret v=>obtain ⟨x7,σ7,H7,I7,r7,q7⟩:=q7; exact ⟨x7,σ7,H7,I7.unpinned,r7,q7⟩
end
theorem for_list {K:FG_} {a:Addr} {xs:List V} {g:TG} {tb:TS} {D:Ends} {σ:St} {H:Hp} (Pv:Nat→St→Hp→Prop) (h0:Pv 0 σ H) (hl:∀ i σ H,i≤xs.length→Pv i σ H→SqL K H a xs)
  (hs:∀ i x σ H,xs[i]? = some x→Pv i σ H→g x σ H fun σ2 H2=>tb { D with nx:=Pv (i + 1),ct:=Pv (i + 1),bk:=D.nx } σ2 H2) (hd:∀ σ H,Pv xs.length σ H→D.nx σ H) :
  ∃ W:Nat→Nat→St→Hp→Prop,(∃ m,W 0 m σ H)∧∀ i m σ H,W i m σ H →
   ((Itl K a).stop i H∧D.nx σ H)∨((Itl K a).go i H∧∃ N:St→Hp→Prop,(∀ σ' H',N σ' H'→∃ m',m' < m∧W (i + 1) m' σ' H')∧∀ x H',(Itl K a).yld i H x H'→g x σ H' fun σ2 H2=>tb { D with nx:=N,ct:=N,bk:=D.nx } σ2 H2):=by
 refine ⟨fun i m σ H=>m=xs.length - i∧i≤xs.length∧Pv i σ H,⟨xs.length,by simp,Nat.zero_le _,h0⟩,?_⟩
 rintro i m σ H ⟨rfl,hi,p⟩
 have q:=hl i σ H hi p
 by_cases hlt:i < xs.length
 ·refine .inr ⟨⟨xs,xs[i],q,by simp [hlt]⟩,Pv (i + 1),fun σ' H' p'=>⟨xs.length - (i + 1),by omega,rfl,hlt,p'⟩,fun x H' y => ?_⟩
  obtain ⟨e,y⟩:=y
  subst e
  exact hs i x σ _ (y xs q) p
 ·have e:i=xs.length:=by omega
  subst e
  exact .inl ⟨⟨xs,q,Nat.le_refl _⟩,hd σ H p⟩
abbrev R2:=V→V→Hp→VK→Prop
def OpR (X:Cx) (f:Value→Value→Sem Value) (r:R2):Prop :=
 ∀ (pins:PN_) (s:Shared) (σ:St) (H:Hp) (x y:V) (v u:Value) (Q:VK),Inv X pins σ H s→RelV x v→RelV y u→r x y H Q →
  wpAny (model X.prog X.w) X.A (f v u) (EP X pins σ Q) X.xe s
def UnR (X:Cx) (f:Value→Sem Value) (r:V→Hp→VK→Prop):Prop :=
 ∀ (pins:PN_) (s:Shared) (σ:St) (H:Hp) (x:V) (v:Value) (Q:VK),Inv X pins σ H s→RelV x v→r x H Q →
  wpAny (model X.prog X.w) X.A (f v) (EP X pins σ Q) X.xe s
def CallR (X:Cx) (f:Value) (r:List V→Hp→VK→Prop):Prop :=
 ∀ (pins:PN_) (s:Shared) (σ:St) (H:Hp) (xs:List V) (us:List Value) (Q:VK),Inv X pins σ H s→Vals xs us→r xs H Q →
  wpAny (model X.prog X.w) X.A (call f us) (EP X pins σ Q) X.xe s
def tOp (r:R2) (ta tb:TE):TE:=fun σ H Q=>ta σ H fun x H1=>tb σ H1 fun y H2=>r x y H2 Q
def tUn (r:V→Hp→VK→Prop) (ta:TE):TE:=fun σ H Q=>ta σ H fun x H1=>r x H1 Q
def rI (C:Int→Int→Prop) (g:Int→Int→V):R2:=fun x y H Q => ∃ i j,x=.int i∧y=.int j∧C i j∧Q (g i j) H
def rI0 (g:Int→Int→V):R2:=fun x y H Q => ∃ i j,x=.int i∧y=.int j∧Q (g i j) H
def rU (g:Int→V):V→Hp→VK→Prop:=fun x H Q => ∃ i,x=.int i∧Q (g i) H
section
variable {X:Cx} {a b c:Expr} {ta tb tc:TE} {pos:Pos}
theorem binT (ha:PE X a ta) (hb:PE X b tb) {pins:PN_} {s:Shared} {σ:St} {H:Hp} {R:V→V→Hp→Prop} (I:Inv X pins σ H s)
  (h:ta σ H fun x H1=>tb σ H1 fun y H2=>R x y H2) {Q:SV_} {f:Value→Value→Sem Value}
  (hf:∀ v u s2 x y H2,Inv X pins σ H2 s2→RelV x v→RelV y u→R x y H2→wpAny (model X.prog X.w) X.A (f v u) Q X.xe s2) :
  wpAny (model X.prog X.w) X.A (eval a X.env) (fun v s₁=>wpAny (model X.prog X.w) X.A (eval b X.env) (fun u s₂=>wpAny (model X.prog X.w) X.A (f v u) Q X.xe s₂) X.xe s₁) X.xe s:=by
 refine thn (ha pins s σ H _ I h) fun v s1 ⟨x,H1,I1,r1,q1⟩ => ?_
 refine thn (hb pins s1 σ H1 _ I1 q1) fun u s2 ⟨y,H2,I2,r2,q2⟩ => ?_
 exact hf v u s2 x y H2 I2 r1 r2 q2
theorem pe_op {op:Operator} {r:R2} (ho:OpR X (binaryOp op) r) (ha:PE X a ta) (hb:PE X b tb):PE X (.BinOp a op b pos) (tOp r ta tb):=by
 intro pins s σ H Q I h
 exact wpAny_BinOp (binT ha hb I h fun v u s2 x y H2 I2 rx ry q=>ho pins s2 σ H2 x y v u Q I2 rx ry q)
theorem pe_un {op:UnaryOp} {r:V→Hp→VK→Prop} (ho:UnR X (unaryOp op) r) (ha:PE X a ta):PE X (.UnaryOp op a pos) (tUn r ta):=by
 intro pins s σ H Q I h
 exact UnaryOp_ (thn (ha pins s σ H _ I h) fun v s1 ⟨x,H1,I1,r1,q1⟩=>ho pins s1 σ H1 x v Q I1 r1 q1)
theorem opI {f:Value→Value→Sem Value} {C:Int→Int→Prop} {g:Int→Int→Int}
  (rule:∀ (i j:Int) (t u:Tok) (s:Shared) (Q:SV_) (E:SV_),C i j→Q (.int (g i j) s.toks) { s with toks:=s.toks + 1 }→wpAny (model X.prog X.w) X.A (f (.int i t) (.int j u)) Q E s) :
  OpR X f (rI C fun i j=>.int (g i j)):=by
 intro pins s σ H x y v u Q I rx ry h
 obtain ⟨i,j,rfl,rfl,hc,q⟩:=h
 obtain ⟨t,rfl⟩:=rx
 obtain ⟨t',rfl⟩:=ry
 exact rule i j t t' s _ _ hc ⟨.int (g i j),H,I.tok _,⟨_,rfl⟩,q⟩
theorem opI0 {f:Value→Value→Sem Value} {g:Int→Int→Int}
  (rule:∀ (i j:Int) (t u:Tok) (s:Shared) (Q:SV_) (E:SV_),Q (.int (g i j) s.toks) { s with toks:=s.toks + 1 }→wpAny (model X.prog X.w) X.A (f (.int i t) (.int j u)) Q E s) :
  OpR X f (rI0 fun i j=>.int (g i j)):=by
 intro pins s σ H x y v u Q I rx ry h
 obtain ⟨i,j,rfl,rfl,q⟩:=h
 obtain ⟨t,rfl⟩:=rx
 obtain ⟨t',rfl⟩:=ry
 exact rule i j t t' s _ _ ⟨.int (g i j),H,I.tok _,⟨_,rfl⟩,q⟩
theorem opB0 {f:Value→Value→Sem Value} {g:Int→Int→Bool}
  (rule:∀ (i j:Int) (t u:Tok) (s:Shared) (Q:SV_) (E:SV_),Q (.bool (g i j)) s→wpAny (model X.prog X.w) X.A (f (.int i t) (.int j u)) Q E s) :
  OpR X f (rI0 fun i j=>.bl (g i j)):=by
 intro pins s σ H x y v u Q I rx ry h
 obtain ⟨i,j,rfl,rfl,q⟩:=h
 obtain ⟨t,rfl⟩:=rx
 obtain ⟨t',rfl⟩:=ry
 exact rule i j t t' s _ _ ⟨.bl (g i j),H,I,rfl,q⟩
def CPow (i j:Int):Prop:=0≤j∧j≤1000000∧i.natAbs < 2 ^ 64
def CMul (i j:Int):Prop:=(-(2 ^ 64) < i∧i < 2 ^ 64)∨(-(2 ^ 64) < j∧j < 2 ^ 64)
theorem CMul.ok {i j:Int} (h:CMul i j):IntMulOk i j:=by
 rcases h with ⟨h1,h2⟩ | ⟨h1,h2⟩
 ·exact .of_left (intBits_le_64 h1 h2)
 ·exact .of_right (intBits_le_64 h1 h2)
theorem op_add:OpR X (binaryOp .Add) (rI0 fun i j=>.int (i + j)):=opI0 fun _ _ _ _ _ _ _ q=>add_int q
theorem op_sub:OpR X (binaryOp .Sub) (rI0 fun i j=>.int (i - j)):=opI0 fun _ _ _ _ _ _ _ q=>sub_int q
theorem op_mod:OpR X (binaryOp .Mod) (rI (fun _ j=>0 < j) fun i j=>.int (i % j)):=opI fun i j _ _ _ _ _ hc q=>by
 have h1:(0:Int) < j:=hc
 exact mod_int' (by omega) (by rw [Int.fmod_eq_emod_of_nonneg i (by omega)]; exact q)
theorem op_pow:OpR X (binaryOp .Pow) (rI CPow fun i j=>.int (i ^ j.toNat)):=opI fun _ _ _ _ _ _ _ hc q=>pow_int_small hc.1 hc.2.1 hc.2.2 q
theorem unI {f:Value→Sem Value} {g:Int→Int}
  (rule:∀ (i:Int) (t:Tok) (s:Shared) (Q:SV_) (E:SV_),Q (.int (g i) s.toks) { s with toks:=s.toks + 1 }→wpAny (model X.prog X.w) X.A (f (.int i t)) Q E s) :
  UnR X f (rU fun i=>.int (g i)):=by
 intro pins s σ H x v Q I rx h
 obtain ⟨i,rfl,q⟩:=h
 obtain ⟨t,rfl⟩:=rx
 exact rule i t s _ _ ⟨.int (g i),H,I.tok _,⟨_,rfl⟩,q⟩
theorem un_neg:UnR X (unaryOp .USub) (rU fun i=>.int (-i)):=unI fun _ _ _ _ _ q=>neg_int q
end
def scal:V→V→Bool
 | .non,.non=>true | .non,.int _=>true | .int _,.non=>true | .non,.bl _=>true | .bl _,.non=>true | .non,.str _=>true | .str _,.non=>true
 | .int _,.int _=>true | .bl _,.bl _=>true | .str _,.str _=>true | .byt _,.byt _=>true
 | .int _,.str _=>true | .str _,.int _=>true | .bl _,.str _=>true | .str _,.bl _=>true
 | _,_=>false
def rEq:R2:=fun x y H Q=>scal x y=true∧Q (.bl (decide (x=y))) H
def rNe:R2:=fun x y H Q=>scal x y=true∧Q (.bl (!decide (x=y))) H
theorem dec_int {i j:Int}:decide (V.int i=V.int j)=(i == j):=by
 rw [Bool.eq_iff_iff]
 simp
theorem dec_bl {i j:Bool}:decide (V.bl i=V.bl j)=(i == j):=by
 rw [Bool.eq_iff_iff]
 simp
theorem dec_str {i j:Str}:decide (V.str i=V.str j)=(i == j):=by
 rw [Bool.eq_iff_iff]
 simp
theorem dec_byt {i j:Array UInt8}:decide (V.byt i=V.byt j)=(i.toList == j.toList):=by
 rw [Bool.eq_iff_iff]
 cases i
 cases j
 simp
section
variable {X:Cx} {a b c:Expr} {ta tb tc:TE} {pos:Pos}
theorem bh_ {pins:PN_} {σ:St} {H:Hp} {s:Shared} {Q:VK} {k k':Bool} (I:Inv X pins σ H s) (q:Q (.bl k) H) (e:k=k'):EP X pins σ Q (.bool k') s:=by
 subst e
 exact ⟨.bl k,H,I,rfl,q⟩
theorem op_eq:OpR X (compareOp .Eq) rEq:=by
 intro pins s σ H x y v u Q I rx ry h
 obtain ⟨hs,q⟩:=h
 cases x with
 | non =>
  cases rx
  cases y with
  | non=>cases ry; exact PySem.EqNone.eq_none_none (bh_ I q (by simp))
  | bl j=>cases ry; exact PySem.EqNone.eq_none_bool (bh_ I q (by simp))
  | int j=>obtain ⟨t',rfl⟩:=ry; exact PySem.EqNone.eq_none_int (bh_ I q (by simp))
  | str j=>obtain ⟨t',rfl⟩:=ry; exact PySem.EqNone.eq_none_str (bh_ I q (by simp))
  | _=>exact absurd (show false=true from hs) Bool.false_ne_true
 | bl i =>
  cases rx
  cases y with
  | non=>cases ry; exact PySem.EqNone.eq_bool_none (bh_ I q (by simp))
  | bl j=>cases ry; exact eq_bool (bh_ I q dec_bl)
  | str j=>obtain ⟨t',rfl⟩:=ry; exact PySem.EqMixed.eq_bool_str (bh_ I q (by simp))
  | _=>exact absurd (show false=true from hs) Bool.false_ne_true
 | int i =>
  obtain ⟨t,rfl⟩:=rx
  cases y with
  | non=>cases ry; exact PySem.EqNone.eq_int_none (bh_ I q (by simp))
  | int j=>obtain ⟨t',rfl⟩:=ry; exact eq_int (bh_ I q dec_int)
  | str j=>obtain ⟨t',rfl⟩:=ry; exact PySem.EqMixed.eq_int_str (bh_ I q (by simp))
  | _=>exact absurd (show false=true from hs) Bool.false_ne_true
 | str i =>
  obtain ⟨t,rfl⟩:=rx
  cases y with
  | non=>cases ry; exact PySem.EqNone.eq_str_none (bh_ I q (by simp))
  | bl j=>cases ry; exact PySem.EqMixed.eq_str_bool (bh_ I q (by simp))
  | int j=>obtain ⟨t',rfl⟩:=ry; exact PySem.EqMixed.eq_str_int (bh_ I q (by simp))
  | str j=>obtain ⟨t',rfl⟩:=ry; exact eq_str (bh_ I q dec_str)
  | _=>exact absurd (show false=true from hs) Bool.false_ne_true
 | byt i =>
  obtain ⟨t,rfl⟩:=rx
  cases y with
  | byt j=>obtain ⟨t',rfl⟩:=ry; exact PySem.W.eq_bytes (bh_ I q dec_byt)
  | _=>exact absurd (show false=true from hs) Bool.false_ne_true
 | _=>cases y <;> exact absurd (show false=true from hs) Bool.false_ne_true
theorem op_ne:OpR X (compareOp .NotEq) rNe:=by
 intro pins s σ H x y v u Q I rx ry h
 obtain ⟨hs,q⟩:=h
 cases x with
 | non =>
  cases rx
  cases y with
  | non=>cases ry; exact PySem.EqNone.ne_none_none (bh_ I q (by simp))
  | bl j=>cases ry; exact PySem.EqNone.ne_none_bool (bh_ I q (by simp))
  | int j=>obtain ⟨t',rfl⟩:=ry; exact PySem.EqNone.ne_none_int (bh_ I q (by simp))
  | str j=>obtain ⟨t',rfl⟩:=ry; exact PySem.EqNone.ne_none_str (bh_ I q (by simp))
  | _=>exact absurd (show false=true from hs) Bool.false_ne_true
 | bl i =>
  cases rx
  cases y with
  | non=>cases ry; exact PySem.EqNone.ne_bool_none (bh_ I q (by simp))
  | bl j=>cases ry; exact ne_bool (bh_ I q (congrArg not dec_bl))
  | str j=>obtain ⟨t',rfl⟩:=ry; exact PySem.EqMixed.ne_bool_str (bh_ I q (by simp))
  | _=>exact absurd (show false=true from hs) Bool.false_ne_true
 | int i =>
  obtain ⟨t,rfl⟩:=rx
  cases y with
  | non=>cases ry; exact PySem.EqNone.ne_int_none (bh_ I q (by simp))
  | int j=>obtain ⟨t',rfl⟩:=ry; exact ne_int (bh_ I q (congrArg not dec_int))
  | str j=>obtain ⟨t',rfl⟩:=ry; exact PySem.EqMixed.ne_int_str (bh_ I q (by simp))
  | _=>exact absurd (show false=true from hs) Bool.false_ne_true
 | str i =>
  obtain ⟨t,rfl⟩:=rx
  cases y with
  | non=>cases ry; exact PySem.EqNone.ne_str_none (bh_ I q (by simp))
  | bl j=>cases ry; exact PySem.EqMixed.ne_str_bool (bh_ I q (by simp))
  | int j=>obtain ⟨t',rfl⟩:=ry; exact PySem.EqMixed.ne_str_int (bh_ I q (by simp))
  | str j=>obtain ⟨t',rfl⟩:=ry; exact ne_str (bh_ I q (congrArg not dec_str))
  | _=>exact absurd (show false=true from hs) Bool.false_ne_true
 | byt i =>
  obtain ⟨t,rfl⟩:=rx
  cases y with
  | byt j=>obtain ⟨t',rfl⟩:=ry; exact PySem.W.ne_bytes (bh_ I q (congrArg not dec_byt))
  | _=>exact absurd (show false=true from hs) Bool.false_ne_true
 | _=>cases y <;> exact absurd (show false=true from hs) Bool.false_ne_true
theorem op_lt:OpR X (compareOp .Lt) (rI0 fun i j=>.bl (decide (i < j))):=opB0 fun _ _ _ _ _ _ _ q=>lt_int q
theorem op_le:OpR X (compareOp .LtE) (rI0 fun i j=>.bl (decide (i≤j))):=opB0 fun _ _ _ _ _ _ _ q=>le_int q
theorem op_gt:OpR X (compareOp .Gt) (rI0 fun i j=>.bl (decide (j < i))):=opB0 fun _ _ _ _ _ _ _ q=>gt_int q
theorem op_ge:OpR X (compareOp .GtE) (rI0 fun i j=>.bl (decide (j≤i))):=opB0 fun _ _ _ _ _ _ _ q=>ge_int q
theorem OpR.or {f:Value→Value→Sem Value} {r r':R2} (h:OpR X f r) (h':OpR X f r'):OpR X f (fun x y H Q=>r x y H Q∨r' x y H Q):=by
 intro pins s σ H x y v u Q I rx ry q
 rcases q with q | q
 ·exact h pins s σ H x y v u Q I rx ry q
 ·exact h' pins s σ H x y v u Q I rx ry q
theorem nomark (b:Expr) {op:CmpOp} (h:op ≠ .In:=by decide) (h2:op ≠ .NotIn:=by decide):behindInMarks op b=false:=by
 have e1:(op == CmpOp.In)=false:=by cases op <;> first | rfl | exact absurd rfl h
 have e2:(op == CmpOp.NotIn)=false:=by cases op <;> first | rfl | exact absurd rfl h2
 cases b <;> simp [behindInMarks,e1,e2]
theorem pe_cmpR {op:CmpOp} {r:R2} (ho:OpR X (compareOp op) r) (ha:PE X a ta) (hb:PE X b tb) (hm:behindInMarks op b=false):PE X (.Compare a [op] [b] pos) (tOp r ta tb):=by
 intro pins s σ H Q I h
 exact wpAny_Compare1 (binT ha hb I h fun v u s2 x y H2 I2 rx ry q=>ho pins s2 σ H2 x y v u Q I2 rx ry q) hm
def tTest (t:TE):TT:=fun σ H Q=>t σ H fun x H' => ∃ k,x=.bl k∧Q k H'
theorem pt_cmpR {op:CmpOp} {r:R2} (ho:OpR X (compareOp op) r) (ha:PE X a ta) (hb:PE X b tb) (hm:behindInMarks op b=false):PT X (.Compare a [op] [b] pos) (tTest (tOp r ta tb)):=by
 intro pins s σ H Q I h
 refine wpAny_isTrue_Compare1 (thn (ha pins s σ H _ I h) fun v s1 ⟨x,H1,I1,r1,q1⟩=>thn (hb pins s1 σ H1 _ I1 q1) fun u s2 ⟨y,H2,I2,r2,q2⟩ =>
  thn (ho pins s2 σ H2 x y v u _ I2 r1 r2 q2) fun c s3 ⟨z,H3,I3,r3,k,e,q3⟩ => ?_) hm
 subst e
 cases r3
 exact wpAny_truthy_bool ⟨H3,I3,q3⟩
def tChain (r r':R2) (ta tb tc:TE):TE:=fun σ H Q=>ta σ H fun x H1=>tb σ H1 fun y H2=>r x y H2 fun z H3 => ∃ k,z=.bl k ∧
 (if k=true then tc σ H3 fun w' H4=>r' y w' H4 Q else Q (.bl false) H3)
theorem pe_chain {op op':CmpOp} {r r':R2} (ho:OpR X (compareOp op) r) (ho':OpR X (compareOp op') r') (ha:PE X a ta) (hb:PE X b tb) (hc:PE X c tc)
  (hm:lastMarks [op,op'] [b,c]=false:=by with_unfolding_all rfl):PE X (.Compare a [op,op'] [b,c] pos) (tChain r r' ta tb tc):=by
 intro pins s σ H Q I h
 refine Compare_chain (thn (ha pins s σ H _ I h) fun v s1 ⟨x,H1,I1,r1,q1⟩=>chain_link (thn (hb pins s1 σ H1 _ I1 q1) fun u s2 ⟨y,H2,I2,r2,q2⟩ =>
  thn (ho pins s2 σ H2 x y v u _ I2 r1 r2 q2) fun d s3 ⟨z,H3,I3,r3,k,e,q3⟩ => ?_)) hm
 subst e
 cases r3
 refine wpAny_truthy_bool ?_
 cases k with
 | false=>exact ite_ff ⟨.bl false,H3,I3,rfl,q3⟩
 | true=>exact ite_tt (chain_last (thn (hc pins s3 σ H3 _ I3 q3) fun w' s4 ⟨z',H4,I4,r4,q4⟩=>ho' pins s4 σ H4 y z' u w' Q I4 r2 r4 q4))
theorem line63:(sizeLine:Nat) < 2 ^ 63:=by rw [sizeLine_eq]; decide
theorem op_add_str:OpR X (binaryOp .Add) (fun x y H Q => ∃ i j,x=.str i∧y=.str j∧i.length + j.length≤sizeLine∧Q (.str (i ++ j)) H):=by
 intro pins s σ H x y v u Q I rx ry h
 obtain ⟨i,j,rfl,rfl,hz,q⟩:=h
 obtain ⟨t,rfl⟩:=rx
 obtain ⟨t',rfl⟩:=ry
 exact add_str (fun t' tk=>⟨.str (i ++ j),H,I.tok _,⟨_,rfl⟩,q⟩) hz
theorem vals1 {x:V} {us:List Value} (r:Vals [x] us):∃ u,us=[u]∧RelV x u:=by
 cases r with
 | cons r1 r2=>cases r2; exact ⟨_,rfl,r1⟩
theorem vals2 {x y:V} {us:List Value} (r:Vals [x,y] us):∃ u w',us=[u,w']∧RelV x u∧RelV y w':=by
 cases r with
 | cons r1 r2 =>
  cases r2 with
  | cons r3 r4=>cases r4; exact ⟨_,_,rfl,r1,r3⟩
theorem call_max2 (hc:X.calm=true):CallR X (.builtin "max") (fun xs H Q => ∃ i j,xs=[.int i,.int j]∧Q (.int (if j > i then j else i)) H):=by
 intro pins s σ H xs us Q I r h
 obtain ⟨i,j,rfl,q⟩:=h
 obtain ⟨u,w',rfl,⟨t,rfl⟩,⟨t',rfl⟩⟩:=vals2 r
 refine max_two_ints (I.ok.hd hc) fun h' tk k=>⟨_,H,I.kept k,?_,q⟩
 by_cases hj:j > i
 ·rw [if_pos hj,if_pos hj]; exact ⟨_,rfl⟩
 ·rw [if_neg hj,if_neg hj]; exact ⟨_,rfl⟩
theorem call_min2 (hc:X.calm=true):CallR X (.builtin "min") (fun xs H Q => ∃ i j,xs=[.int i,.int j]∧Q (.int (if j < i then j else i)) H):=by
 intro pins s σ H xs us Q I r h
 obtain ⟨i,j,rfl,q⟩:=h
 obtain ⟨u,w',rfl,⟨t,rfl⟩,⟨t',rfl⟩⟩:=vals2 r
 refine min_two_ints (I.ok.hd hc) fun h' tk k=>⟨_,H,I.kept k,?_,q⟩
 by_cases hj:j < i
 ·rw [if_pos hj,if_pos hj]; exact ⟨_,rfl⟩
 ·rw [if_neg hj,if_neg hj]; exact ⟨_,rfl⟩
theorem call_int1:CallR X (.type "int") (fun xs H Q=>(∃ i,xs=[.int i]∧Q (.int i) H)∨∃ k,xs=[.bl k]∧Q (.int (if k then 1 else 0)) H):=by
 intro pins s σ H xs us Q I r h
 rcases h with ⟨i,rfl,q⟩ | ⟨k,rfl,q⟩
 ·obtain ⟨u,rfl,t,rfl⟩:=vals1 r
  exact call_int_int ⟨.int i,H,I,⟨_,rfl⟩,q⟩
 ·obtain ⟨u,rfl,r1⟩:=vals1 r
  cases r1
  exact call_int_bool ⟨.int (if k then 1 else 0),H,I.tok _,⟨_,rfl⟩,q⟩
end
structure ObjM (h:Heap) (x dx C:Addr) (mA:MG_):Prop where
 obj:h.get? x=some (PySem.W.instObj C dx)
 ns:h.Ns1 dx mA
 ne:dx≠x
theorem lookIn_ns {h:Heap} {dx:Addr} {mA:MG_} (n:h.Ns1 dx mA):∃ od,h.get? dx=some od∧∀ name,PySem.W.lookIn name od=some (mA name):=by
 obtain ⟨o,es,ep,ho,hd,hk,_,hm⟩:=n
 refine ⟨o,ho,fun name => ?_⟩
 have e:=hm name
 unfold nsFind findBy at e
 rw [← Array.find?_toList] at e
 unfold PySem.W.lookIn
 rw [hd]
 dsimp only
 split
 ·rename_i y q
  rw [q] at e
  exact congrArg some e
 ·rename_i q
  rw [q] at e
  have a:es.toList.any (·.refKey)=false:=by
   rw [List.any_eq_false]
   intro y hy
   obtain ⟨z,t,hkey⟩:=hk y (Array.mem_toList_iff.mp hy)
   simp [DictEntry.refKey,hkey]
  have a':¬ es.toList.any (·.refKey)=true:=by rw [a]; exact Bool.false_ne_true
  rw [if_neg a']
  exact congrArg some e
theorem ObjM.look {h:Heap} {x dx C:Addr} {mA:MG_} (I:ObjM h x dx C mA):∃ od,PySem.W.InstAt h x (PySem.W.instObj C dx) C (some od)∧∀ name,PySem.W.lookIn name od=some (mA name) :=
 let ⟨od,ho,hl⟩:=lookIn_ns I.ns
 ⟨od,⟨I.obj,rfl,rfl,ho⟩,hl⟩
theorem RelO.some_of {v:V} {o:Option Value} (r:RelO (some v) o):∃ u,o=some u∧RelV v u:=by
 cases o with
 | none=>exact (show False from r).elim
 | some u=>exact ⟨u,rfl,r⟩
section
variable {P:Program} {w:World} {H H':Hp} {h h':Heap} {a C dx:Addr} {fs fs':List (Str×V)}
theorem ins_get (hok:HOk P w H h) (e:H a=some (.ins C dx fs)):∃ mA,ObjM h a dx C mA∧(∀ f,RelO (fs.lookup f) (mA f))∧PySem.Within mA (fs.map (·.1))∧fs.length≤1000∧H dx=some (.own a):=by
 obtain ⟨d,z,ne,ob,mA,n,r,q⟩:=(show ObjOk P w H h a (.ins C dx fs) from hok a _ e)
 exact ⟨mA,⟨ob,n,ne⟩,r,q,z,d⟩
end
structure Cls (K:FG_) (C:Addr):Prop where
 pg:PySem.W.plainGet K C Str.empty=true
 hd:PySem.W.hasDictIn K C=true
 po:PySem.W.plainOver K C=true
 sa:PySem.W.findIn K (.ref C) "__setattr__" = some (some (.builtin "object.__setattr__"))
theorem Cls.get {K:FG_} {C:Addr} (c:Cls K C) (f:Str):PySem.W.plainGet K C f=true:=c.pg
section
variable {X:Cx} {pins:PN_} {σ:St} {H:Hp} {s:Shared} {A:Around} {E:SV_} {Q:SV_} {c:Value} {b:Bool}
inductive TyOf (K:FG_) (H:Hp):V→Value→Prop where
 | non:TyOf K H .non (.type "NoneType")
 | bl (x:Bool):TyOf K H (.bl x) (.type "bool")
 | int (i:Int):TyOf K H (.int i) (.type "int")
 | str (x:Str):TyOf K H (.str x) (.type "str")
 | flt (x:UInt64):TyOf K H (.flt x) (.type "float")
 | lst {a:Addr} {xs:List V} (e:H a=some (.lst xs)):TyOf K H (.ref a) (.type "list")
 | frz {a:Addr} {o:Obj} {xs:List V} (e:H a=some (.frz o (.lst xs))):TyOf K H (.ref a) (.type "list")
 | tup {a:Addr} {xs:List V} (e:H a=some (.tup xs)):TyOf K H (.ref a) (.type "tuple")
 | dK {a:Addr} {kvs:List (Key×V)} (e:H a=some (.dK kvs)):TyOf K H (.ref a) (.type "dict")
 | dT {a:Addr} {kvs:List (List Key×V)} (e:H a=some (.dT kvs)):TyOf K H (.ref a) (.type "dict")
 | ins {a C dx : Addr} {fs : List (Str × V)} (e : H a = some (.ins C dx fs)) (cl : Cls K C) (ha : PySem.W.findIn K (.ref C) "__class__" = some (some (.builtin "object.__class__")))
   (hn:PySem.W.specialIn K (.builtin "object.__class__") "__get__" = some (some (.builtin "getset_descriptor.__get__"))) (htk:PySem.W.takesIn K (.builtin "object.__class__")=some true)
   (hm:PySem.W.mroIn K C (.type "object")=some true):TyOf K H (.ref a) (.ref C)
theorem da_ {x:V} {u t:Value} (I:Inv X pins σ H s) (rx:RelV x u) (ty:TyOf X.K H x t) (e:PySem.W.kitOne X.K t c=some b) (h:∀ tk,Q (.bool b) { s with toks:=tk }) :
  wpAny (model X.prog X.w) A (call (.builtin "isinstance") [u,c]) Q E s:=by
 cases ty with
 | non=>cases (show u=Value.none from rx); exact PySem.W.kia_one PySem.W.kitx_none I.kIn True.intro e (fun z=>nomatch z) h
 | bl y=>cases (show u=Value.bool y from rx); exact PySem.W.kia_one PySem.W.kitx_bool I.kIn True.intro e (fun z=>nomatch z) h
 | int i=>obtain ⟨t,q⟩:=(show ∃ t,u=Value.int i t from rx); cases q; exact PySem.W.kia_one PySem.W.kitx_int I.kIn True.intro e (fun z=>nomatch z) h
 | str y=>obtain ⟨t,q⟩:=(show ∃ t,u=Value.str y t from rx); cases q; exact PySem.W.kia_one PySem.W.kitx_str I.kIn True.intro e (fun z=>nomatch z) h
 | flt y=>obtain ⟨t,q⟩:=(show ∃ t,u=Value.float y t from rx); cases q; exact PySem.W.kia_one PySem.W.kitx_float I.kIn True.intro e (fun z=>nomatch z) h
 | @lst a xs ea =>
  cases (show u=Value.ref a from rx)
  obtain ⟨_,_,n,_,h1⟩:=(show ObjOk X.prog X.w H s.heap a (.lst xs) from I.hok a _ ea)
  exact PySem.W.kia_one PySem.W.kitx_list I.kIn ⟨_,h1,rfl⟩ e (fun z=>nomatch z) h
 | @frz a ob xs ea =>
  cases (show u=Value.ref a from rx)
  obtain ⟨_,_,_,n,_,h1⟩:=(show ObjOk X.prog X.w H s.heap a (.frz ob (.lst xs)) from I.hok a _ ea)
  exact PySem.W.kia_one PySem.W.kitx_list I.kIn ⟨_,h1,rfl⟩ e (fun z=>nomatch z) h
 | @tup a xs ea =>
  cases (show u=Value.ref a from rx)
  obtain ⟨_,_,_,p⟩:=(show ObjOk X.prog X.w H s.heap a (.tup xs) from I.hok a _ ea)
  obtain ⟨o,h1,h2,_⟩:=p
  exact PySem.W.kia_one PySem.W.kitx_tuple I.kIn ⟨o,h1,h2⟩ e (fun z=>nomatch z) h
 | @dK a kvs ea =>
  cases (show u=Value.ref a from rx)
  obtain ⟨_,_,vs,_,p⟩:=(show ObjOk X.prog X.w H s.heap a (.dK kvs) from I.hok a _ ea)
  obtain ⟨o,es,ep,h1,h2,_⟩:=p
  exact PySem.W.kia_one PySem.W.kitx_dict I.kIn ⟨o,h1,h2.1⟩ e (fun z=>nomatch z) h
 | @dT a kvs ea =>
  cases (show u=Value.ref a from rx)
  obtain ⟨_,_,xs,_,o,es,ep,h1,h2,_⟩:=(show ObjOk X.prog X.w H s.heap a (.dT kvs) from I.hok a _ ea)
  exact PySem.W.kia_one PySem.W.kitx_dict I.kIn ⟨o,h1,h2.1⟩ e (fun z=>nomatch z) h
 | @ins a C dx fs ea cl ha hn htk hm =>
  cases (show u=Value.ref a from rx)
  obtain ⟨mA,O,_⟩:=ins_get I.hok ea
  obtain ⟨od,J,_⟩:=O.look
  exact PySem.W.kia_one (PySem.W.kitx_own (cl.get _) cl.hd ha hn htk hm) I.kIn J e (fun z=>nomatch z) h
end
structure Room (k:Nat) (A:Around):Prop where
 hd:A.handled=none
 dp:A.depth + 3 * k + 5 < recursionLimit
 un:A.units + 16 * k + 200 < cLine
theorem Room.mono {j k:Nat} {A:Around} (r:Room k A) (h:j≤k):Room j A:=⟨r.hd,by have:=r.dp; omega,by have:=r.un; omega⟩
theorem Room.deeper {k:Nat} {A:Around} (r:Room (k + 1) A) (env:Env):Room k (A.deeper env) :=
 ⟨r.hd,by have:=r.dp; show A.depth + 1 + 3 * k + 5 < _; omega,by have:=r.un; show A.units + 3 + 16 * k + 200 < _; omega⟩
theorem Room.depth {k:Nat} {A:Around} (r:Room k A):A.depth < recursionLimit:=by have:=r.dp; omega
theorem Room.units {k:Nat} {A:Around} (r:Room k A):A.units + 64 < cLine:=by have:=r.un; omega
def tNil:TA:=fun _ H Q=>Q [] H
def tCons (ta:TE) (tr:TA):TA:=fun σ H Q=>ta σ H fun x H1=>tr σ H1 fun xs H2=>Q (x :: xs) H2
section
variable {X:Cx} {e:Expr} {es:List Expr} {te:TE} {t:TA} {pos:Pos}
theorem cb_:PA X [] tNil:=fun _ _ _ _ H Q I h=>Calls.spliced_nil ⟨[],H,I,.nil,h⟩
theorem as_ (ha:PE X e te) (hr:PA X es t) (hs:starEach (e :: es) X.env=(false,eval e X.env) :: starEach es X.env:=by rfl):PA X (e :: es) (tCons te t):=by
 intro pos pins s σ H Q I h
 rw [hs]
 show wpAny _ _ (spliced ((false,eval e X.env) :: backTo pos (starEach es X.env))) _ _ s
 refine Calls.spliced_cons (thn (ha pins s σ H _ I h) fun u s1 ⟨x,H1,I1,r1,q1⟩ => ?_)
 exact thn (hr pos pins s1 σ H1 _ I1 q1) fun us s2 ⟨xs,H2,I2,r2,q2⟩=>⟨x :: xs,H2,I2,.cons r1 r2,q2⟩
def tTup (t:TA):TE:=fun σ H Q=>t σ H fun xs H1=>xs.length≤sizeLine∧∀ p,H1 p=none→Q (.ref p) (upd H1 p (.tup xs))
def tLst (t:TA):TE:=fun σ H Q=>t σ H fun xs H1=>xs.length≤sizeLine∧∀ p,H1 p=none→Q (.ref p) (upd H1 p (.lst xs))
theorem pe_tup {x1} (h:PA X es t):PE X (.Tuple es x1 pos) (tTup t):=by
 intro pins s σ H Q I hq
 refine wpAny_Tuple_spliced (thn (h pos pins s σ H _ I hq) fun us s1 ⟨xs,H1,I1,r,z,q⟩=>⟨by rw [← r.length]; exact z,?_⟩)
 have hf:H1 s1.heap.objs.size=none:=I1.hok.fresh (Nat.le_refl _)
 refine ⟨.ref s1.heap.objs.size,upd H1 s1.heap.objs.size (.tup xs),I1.laid (t':=s1.toks) (fun b u e=>Heap.get?_push_of_some _ e) (Nat.le_refl _) ?_,rfl,q _ hf⟩
 exact ⟨z,us,r,⟨_,Heap.get?_push_size _ rfl,rfl,_,rfl⟩⟩
theorem pe_lst (h:PA X es t):PE X (.List es pos) (tLst t):=by
 intro pins s σ H Q I hq
 refine wpAny_List_spliced (thn (h pos pins s σ H _ I hq) fun us s1 ⟨xs,H1,I1,r,z,q⟩=>⟨by rw [← r.length]; exact z,?_⟩)
 have hf:H1 s1.heap.objs.size=none:=I1.hok.fresh (Nat.le_refl _)
 refine ⟨.ref s1.heap.objs.size,upd H1 s1.heap.objs.size (.lst xs),I1.laid (t':=s1.toks) (fun b u e=>Heap.get?_push_of_some _ e) (Nat.le_refl _) ?_,rfl,q _ hf⟩
 exact ⟨z,us,0,r,Heap.get?_push_size _ rfl⟩
end
abbrev Sp:=List V→Hp→VK→XK→Prop
abbrev CXT:=List Env→Hp→Shared→XK→Value→Shared→Prop
structure Env0 (P:Program) (w:World) (K:FG_) (mg:MG_) (base:Heap) (A:Around) (outer:List Env) (s:Shared) (H:Hp):Prop where
 frames:A.frames=some outer
 mod:Mod K mg base
 bs:∀ b o,base.get? b=some o→s.heap.get? b=some o∧H b=none
 bsz:base.objs.size≤s.heap.objs.size
 funs:s.heap.FunFrames base outer
 frf:∀ b∈frs outer,H b=none
 hok:HOk P w H s.heap
 bare:AllBare s.gens
def CE (outer:List Env) (P:Program) (w:World) (H:Hp) (s:Shared) (Q:VK) (u:Value) (s':Shared):Prop :=
 ∃ v H',s'.os=s.os∧AllBare s'.gens∧Un (frs outer) [] H H' s.heap s'.heap∧HOk P w H' s'.heap∧RelV v u∧Q v H'
def CR (CX:CXT) (outer:List Env) (P:Program) (w:World) (H:Hp) (s:Shared) (Q:VK) (E:XK) (r:Result) (s':Shared):Prop :=
 match r with
 | .ok (.ret u)=>CE outer P w H s Q u s'
 | .ok _=>False
 | .error e=>CX outer H s E e s'
structure FnOk (P:Program) (w:World) (K:FG_) (mg:MG_) (base:Heap) (CX:CXT) (k:Nat) (f:Addr) (fd:FuncData) (ps:List Str) (sp:Sp):Prop where
 len:∀ vs H Q E,sp vs H Q E→vs.length=ps.length
 run:∀ (A:Around) (outer:List Env) (s:Shared) (H:Hp) (args:Args) (us:List Value) (vs:List V) (Q:VK) (E:XK),Room k A→Env0 P w K mg base A outer s H→BindsTo s fd args (ps.zip us)→Vals vs us→sp vs H Q E →
  codeAny (model P w) A (.call (.ref f) args) (CR CX outer P w H s Q E) s
theorem FnOk.mono {P:Program} {w:World} {K:FG_} {mg:MG_} {base:Heap} {CX:CXT} {j k:Nat} {f:Addr} {fd:FuncData} {ps:List Str} {sp:Sp} (F:FnOk P w K mg base CX j f fd ps sp) (h:j≤k) :
  FnOk P w K mg base CX k f fd ps sp:=⟨F.len,fun A outer s H args us vs Q E hr=>F.run A outer s H args us vs Q E (hr.mono h)⟩
theorem FnOk.imp {P:Program} {w:World} {K:FG_} {mg:MG_} {base:Heap} {CX:CXT} {k:Nat} {f:Addr} {fd:FuncData} {ps:List Str} {sp sp':Sp} (F:FnOk P w K mg base CX k f fd ps sp)
  (h:∀ vs H Q E,sp' vs H Q E→sp vs H Q E):FnOk P w K mg base CX k f fd ps sp' :=
 ⟨fun vs H Q E q=>F.len vs H Q E (h _ _ _ _ q),fun A outer s H args us vs Q E hr he hb hv hs=>F.run A outer s H args us vs Q E hr he hb hv (h _ _ _ _ hs)⟩
section
variable {X:Cx} {pins:PN_} {σ:St} {H:Hp} {s s':Shared}
theorem Inv.env0 (I:Inv X pins σ H s):Env0 X.prog X.w X.K X.mg X.base X.A X.stack s H :=
 ⟨I.ok.frames,I.ok.mod,I.bs,Nat.le_trans I.ok.bsz I.sz,I.stack,I.stkFree,I.hok,I.bare⟩
theorem Inv.after {Q:VK} {u:Value} (I:Inv X pins σ H s) (h:CE X.stack X.prog X.w H s Q u s'):EP X pins σ Q u s':=by
 obtain ⟨v,H',os,bare,un,hok,r,q⟩:=h
 obtain ⟨hh,g,d,t,os'⟩:=s'
 obtain rfl:os'=s.os:=os
 exact ⟨v,H',I.call (h':=hh) (g':=g) (d':=d) (t':=t) (ch:=[]) un hok bare (fun b z=>absurd z (by simp)),r,q⟩
end
def tCall (sp:Sp) (dvs:List V) (E:XK) (t:TA):TE:=fun σ H Q=>t σ H fun vs H1=>sp (vs ++ dvs) H1 Q E
def Binds (K:FG_) (fd:FuncData) (ps:List Str) (ds:List Value):Prop :=
 ∀ (s:Shared) (us:List Value),K.In s.heap→(us ++ ds).length=ps.length→BindsTo s fd ⟨us,[]⟩ (ps.zip (us ++ ds))
theorem Binds.all {K:FG_} {fd:FuncData} {ps:List Str} (h:∀ us:List Value,us.length=ps.length→bindArgs fd ⟨us,[]⟩=pure (ps.zip us)):Binds K fd ps []:=fun s us _ hl=>by
 rw [List.append_nil] at hl ⊢
 exact .of_eq (h us hl)
def Passes (CX:CXT) (X:Cx) (E:XK):Prop := ∀ (pins:PN_) (σ:St) (H:Hp) (s:Shared) (e:Value) (s':Shared),Inv X pins σ H s→CX X.stack H s E e s'→X.xe e s'
section
variable {X:Cx} {CX:CXT} {k:Nat} {f C:Addr} {fd:FuncData} {ps:List Str} {sp:Sp} {dvs:List V} {ds:List Value} {E:XK} {x m:Str} {p pos apos:Pos} {e o:Expr} {es:List Expr} {ta:TE} {t:TA}
theorem run_fn {pins:PN_} {σ:St} {H:Hp} {s:Shared} {Q:VK} {us:List Value} {vs:List V} (F:FnOk X.prog X.w X.K X.mg X.base CX k f fd ps sp) (hr:Room k X.A) (hb:Binds X.K fd ps ds) (hd:Vals dvs ds) (hx:Passes CX X E)
  (I:Inv X pins σ H s) (r:Vals vs us) (h:sp (vs ++ dvs) H Q E):wpAny (model X.prog X.w) X.A (call (.ref f) us) (EP X pins σ Q) X.xe s:=by
 have r2:Vals (vs ++ dvs) (us ++ ds):=r.append hd
 have hl:(us ++ ds).length=ps.length:=by rw [← r2.length]; exact F.len _ _ _ _ h
 refine wpAny_call (codeAny_mono (F.run X.A X.stack s H ⟨us,[]⟩ (us ++ ds) (vs ++ dvs) Q E hr I.env0 (hb s us I.kIn hl) r2 h) fun r s' hq => ?_)
 cases r with
 | error e=>exact hx pins σ H s e s' I hq
 | ok fl =>
  cases fl with
  | ret u=>exact I.after hq
  | next=>exact False.elim hq
  | brk=>exact False.elim hq
  | cont=>exact False.elim hq
theorem pe_call (F:FnOk X.prog X.w X.K X.mg X.base CX k f fd ps sp) (hr:Room k X.A) (hg:Gl X x) (hm:X.mg x=some (.ref f)) (hk:PySem.W.keepIn X.K (.ref f)=true) (hb:Binds X.K fd ps ds) (hd:Vals dvs ds) (hx:Passes CX X E)
  (ha:PA X (e :: es) t) (hdb:(x == ("__debug__" : Str))=false:=by decide) (he:starEach (e :: es) X.env=(false,eval e X.env) :: starEach es X.env:=by rfl) (hpl:(backTo pos (starEach es X.env)).any (·.1)=false:=by rfl) :
  PE X (.Call (.Name x p) (e :: es) [] pos) (tCall sp dvs E t):=by
 intro pins s σ H Q I h
 refine wpAny_Call_Name_kw (ld_glob I hg hm ?_ hdb)
 refine PySem.W.callWith_K (h₀:=X.base) I.ok.mod.kin hk (thn (ha pos pins s σ H _ I h) fun us s1 ⟨vs,H1,I1,r,q⟩=>⟨I1.kIn,?_⟩) he hpl
 exact run_fn F hr hb hd hx I1 r q
end
def PK (X:Cx) (kws:List Keyword) (t:TA):Prop :=
 ∀ (pos:Pos) (pins:PN_) (s:Shared) (σ:St) (H:Hp) (Q:List V→Hp→Prop),Inv X pins σ H s→t σ H Q→wpAny (model X.prog X.w) X.A (evalAll ((backToKw pos (keywordEach kws X.env)).map (·.2))) (AP X pins σ Q) X.xe s
section
variable {X:Cx} {CX:CXT} {k:Nat} {f C:Addr} {fd:FuncData} {ps ks:List Str} {sp:Sp} {E:XK} {x m:Str} {p pos apos kpos:Pos} {e o:Expr} {es:List Expr} {kws:List Keyword} {te ta:TE} {t tk:TA} {nm:Option Str}
theorem pk_nil:PK X [] tNil:=fun _ _ _ _ H Q I h=>wpAny_evalAll_nil ⟨[],H,I,.nil,h⟩
theorem pk_cons (ha:PE X e te) (hr:PK X kws t):PK X (⟨nm,e,kpos⟩ :: kws) (tCons te t):=by
 intro pos pins s σ H Q I h
 show wpAny _ _ (evalAll ((do let v ← eval e X.env; standAt pos; pure v) :: (backToKw pos (keywordEach kws X.env)).map (·.2))) _ _ s
 refine wpAny_evalAll_cons (wpAny_bind (thn (ha pins s σ H _ I h) fun u s1 ⟨x,H1,I1,r1,q1⟩=>wpAny_bind (wpAny_standAt (wpAny_pure ?_))))
 exact thn (hr pos pins s1 σ H1 _ I1 q1) fun us s2 ⟨xs,H2,I2,r2,q2⟩=>⟨x :: xs,H2,I2,.cons r1 r2,q2⟩
variable {g:List Value→List Value→List Value} {gV:List V→List V→List V}
end
structure FnScope (N P:List Str) (sc:Scope):Prop where
 kind:sc.kind=.function
 co:sc.isCoroutine=false
 gen:sc.isGenerator=false
 nd:N.Nodup
 pre:N.take P.length=P
 par:∀ x∈P,sc.names.lookup x=some .local∨sc.names.lookup x=some .cell
 nofree:∀ y∈sc.names,y.2 ≠ .free
theorem bindL_out {kindOf:Str→Option NameKind} {x:Str}:∀ {binds:List (Str×Value)} {m:MG_},(∀ v,(x,v)∉binds)→bindL kindOf binds m x=m x
 | [],_,_=>rfl
 | (n,v) :: r,m,h=>by
  unfold bindL
  rw [bindL_out fun w hw=>h w (List.mem_cons_of_mem _ hw)]
  split
  ·have:x≠n:=by rintro rfl; exact h v List.mem_cons_self
   simp [this]
  ·rfl
theorem bindC_out {kindOf:Str→Option NameKind} {x:Str}:∀ {binds:List (Str×Value)} {m:MG_},(∀ v,(x,v)∉binds)→bindC kindOf binds m x=m x
 | [],_,_=>rfl
 | (n,v) :: r,m,h=>by
  unfold bindC
  rw [bindC_out fun w hw=>h w (List.mem_cons_of_mem _ hw)]
  split
  ·rfl
  ·have:x≠n:=by rintro rfl; exact h v List.mem_cons_self
   simp [this]
theorem bindL_get {kindOf:Str→Option NameKind} {x:Str} {v:Value}:∀ {P:List Str} {vs:List Value} {i:Nat} {m:MG_},P.Nodup→P[i]? = some x→vs[i]? = some v→kindOf x=some .local →
  bindL kindOf (P.zip vs) m x=some v
 | [],_,_,_,_,h,_,_=>by simp at h
 | _ :: _,[],_,_,_,_,h,_=>by simp at h
 | p :: P,w :: vs,0,m,nd,h1,h2,hk=>by
  simp at h1 h2; subst h1; subst h2
  show bindL kindOf ((p,w) :: P.zip vs) m p=_
  unfold bindL
  rw [bindL_out fun v hv=>(List.nodup_cons.mp nd).1 (List.of_mem_zip hv).1,if_pos hk]
  simp
 | p :: P,w :: vs,i + 1,m,nd,h1,h2,hk=>by
  show bindL kindOf ((p,w) :: P.zip vs) m x=_
  unfold bindL
  exact bindL_get (i:=i) (List.nodup_cons.mp nd).2 (by simpa using h1) (by simpa using h2) hk
theorem bindC_get {kindOf:Str→Option NameKind} {x:Str} {v:Value}:∀ {P:List Str} {vs:List Value} {i:Nat} {m:MG_},P.Nodup→P[i]? = some x→vs[i]? = some v→kindOf x≠some .local →
  bindC kindOf (P.zip vs) m x=some v
 | [],_,_,_,_,h,_,_=>by simp at h
 | _ :: _,[],_,_,_,_,h,_=>by simp at h
 | p :: P,w :: vs,0,m,nd,h1,h2,hk=>by
  simp at h1 h2; subst h1; subst h2
  show bindC kindOf ((p,w) :: P.zip vs) m p=_
  unfold bindC
  rw [bindC_out fun v hv=>(List.nodup_cons.mp nd).1 (List.of_mem_zip hv).1,if_neg hk]
  simp
 | p :: P,w :: vs,i + 1,m,nd,h1,h2,hk=>by
  show bindC kindOf ((p,w) :: P.zip vs) m x=_
  unfold bindC
  exact bindC_get (i:=i) (List.nodup_cons.mp nd).2 (by simpa using h1) (by simpa using h2) hk
def start (N:List Str) (vs:List V):St:=vs.map some ++ List.replicate (N.length - vs.length) none
def cxOf (CX:CXT) (P:Program) (w:World) (K:FG_) (mg:MG_) (base:Heap) (N:List Str) (qual:Str) (scope:Scope) (f:Addr) (cd:Value) (A:Around) (outer:List Env) (s:Shared) (H:Hp) (E:XK):Cx where
 prog:=P
 w:=w
 K:=K
 mg:=mg
 base:=base
 A:=A.deeper (envOfC qual scope s.heap.objs.size f cd)
 N:=N
 s₀:=s
 H₀:=H
 env:=envOfC qual scope s.heap.objs.size f cd
 outer:=outer
 stack:=envOfC qual scope s.heap.objs.size f cd :: outer
 ex:=[]
 calm:=true
 fn:=fun _=>true
 pn:=[]
 xe:=fun e s'=>wpAny (model P w) (A.deeper (envOfC qual scope s.heap.objs.size f cd)) (leaving (envOfC qual scope s.heap.objs.size f cd) e) (fun _ s''=>CX outer H s E e s'') (fun e' s''=>CX outer H s E e' s'') s'
theorem cell_has {sc:Scope} {n:Nat} {x:Str} (h:sc.names.lookup x=some .cell):∃ c,(cellsFrom n sc.names []).lookup x=some c:=by
 have q:=PySem.W.cellsFrom_some sc.names n [] (.inl h)
 exact Option.isSome_iff_exists.mp q
theorem inv_start {CX:CXT} {P:Program} {w:World} {K:FG_} {mg:MG_} {base:Heap} {N ps:List Str} {qual:Str} {scope:Scope} {f:Addr} {cd:Value} {A:Around} {outer:List Env} {s s1:Shared} {H:Hp} {E:XK} {us:List Value} {vs:List V}
  (S:FnScope N ps scope) (hd:A.handled=none) (e0:Env0 P w K mg base A outer s H) (hl:vs.length=ps.length) (r:Vals vs us)
  (x:InCallC s s.heap.objs.size (bindL (envOfC qual scope s.heap.objs.size f cd).kindOf (ps.zip us) fun _=>none) (cellsFrom (s.heap.objs.size + 1) scope.names []) (bindC (envOfC qual scope s.heap.objs.size f cd).kindOf (ps.zip us) fun _=>none) s1) :
  Inv (cxOf CX P w K mg base N qual scope f cd A outer s H E) [] (start N vs) H s1:=by
 have hpl:ps.length≤N.length:=by have:=congrArg List.length S.pre; rw [List.length_take] at this; omega
 obtain ⟨h1,tk,rfl,hk⟩:=x.done
 have noA:∀ b:Addr,b∉(cxOf CX P w K mg base N qual scope f cd A outer s H E).ex:=fun b z=>absurd (show b∈([]:List Addr) from z) (by simp)
 refine ⟨⟨e0.mod,S.kind,rfl,rfl,Nat.le_refl _,fun y z c h1 h2 => ?_,fun y hy => ?_,fun y c _ h => ?_,fun _=>hd,Around.frames_deeper e0.frames,.inr ⟨rfl,rfl⟩,fun b z=>absurd z (noA b),e0.bs,e0.bsz,fun b _ _=>noA b,fun b z=>absurd z (noA b),e0.funs,e0.frf⟩,
  rfl,e0.bare,Un.kept hk,⟨_,x.toInCall.ns,fun i y v h1 h2 h3 => ?_⟩,fun y c h=>⟨_,x.cell y c h⟩,e0.hok.fresh (Nat.le_refl _),fun y c h => ?_,fun p hp=>absurd (show p∈([]:PN_) from hp) (by simp),e0.hok.kept hk,?_⟩
 ·exact name_of_addr x.apart (PySem.mem_of_lookup h1) (PySem.mem_of_lookup h2)
 ·have hy:scope.names.lookup y=some .cell∨scope.names.lookup y=some .free:=hy
  rcases hy with hy | hy
  ·exact cell_has hy
  ·exact absurd rfl (S.nofree _ (PySem.mem_of_lookup hy))
 ·exact Nat.le_of_lt (x.above y c (PySem.mem_of_lookup h))
 ·have hi:i < vs.length:=by
   unfold start at h2
   by_cases hi:i < vs.length
   ·exact hi
   ·rw [List.getElem?_append_right (by simpa using hi)] at h2
    rw [List.getElem?_replicate] at h2
    split at h2 <;> cases h2
  have ha:vs[i]? = some v:=by
   unfold start at h2
   rw [List.getElem?_append_left (by simpa using hi),List.getElem?_map] at h2
   cases e:vs[i]? with
   | none=>rw [e] at h2; cases h2
   | some a=>rw [e] at h2; cases h2; rfl
  obtain ⟨u,hu,rv⟩:=r.get ha
  have hp:ps[i]? = some y:=by
   rw [← S.pre,List.getElem?_take_of_lt (by omega)]; exact h1
  have ndP:ps.Nodup:=by rw [← S.pre]; exact S.nd.sublist (List.take_sublist _ _)
  refine ⟨u,rv,?_⟩
  rcases S.par y (List.mem_of_getElem? hp) with k | k
  ·exact .inl ⟨k,bindL_get ndP hp hu k⟩
  ·obtain ⟨c,e⟩:=cell_has (n:=s.heap.objs.size + 1) k
   refine .inr ⟨.inl k,c,e,?_⟩
   have q:=x.cell y c e
   rw [bindC_get ndP hp hu (by show scope.names.lookup y≠_; rw [k]; decide)] at q
   exact q
 ·exact e0.hok.fresh (Nat.le_of_lt (x.above y c (PySem.mem_of_lookup h)))
 ·unfold start
  show _=N.length
  rw [List.length_append,List.length_map,List.length_replicate]
  omega
theorem fn_of {CX:CXT} {P:Program} {w:World} {K:FG_} {mg:MG_} {base:Heap} {k:Nat} {f:Addr} {name qual:Str} {params:Arguments} {body:List Stmt} {scope:Scope} {dV kV doc pm cdv ct oc:Value} {an od:Option Addr}
  {osl:Array (Option Value)} {N ps:List Str} {sp:Sp} (lk:K.lookup f=some ⟨oc,od,.func (PySem.W.fnOf name qual params body scope dV kV doc pm an cdv ct),osl⟩) (hcd:PySem.W.codeIn K cdv qual=true) (S:FnScope N ps scope)
  (len:∀ vs H Q E,sp vs H Q E→vs.length=ps.length)
  (hbody:∀ (A:Around) (outer:List Env) (s:Shared) (H:Hp) (vs:List V) (Q:VK) (E:XK),Room k (A.deeper (envOfC qual scope s.heap.objs.size f cdv))→sp vs H Q E →
   ∃ t,PSs (cxOf CX P w K mg base N qual scope f cdv A outer s H E) body t∧t { nx:=fun _ H'=>Q .non H',rt:=Q } (start N vs) H) :
  FnOk P w K mg base CX (k + 1) f (PySem.W.fnOf name qual params body scope dV kV doc pm an cdv ct) ps sp:=by
 refine ⟨len,fun A outer s H args us vs Q E hr e0 hb r hsp => ?_⟩
 have hl:=len _ _ _ _ hsp
 have KX:K.In s.heap:=e0.mod.kin.keeps fun b o e=>(e0.bs b o e).1
 have lim:s.heap.NoLimit:=e0.mod.nolimit.keeps fun b o e=>(e0.bs b o e).1
 have hkind:∀ y∈ps.zip us,scope.names.lookup y.1=some .local∨(scope.names.lookup y.1=some .cell∧((cellsFrom (s.heap.objs.size + 1) scope.names []).lookup y.1).isSome=true):=fun ⟨n,v⟩ hy=>by
  rcases S.par n (List.of_mem_zip hy).1 with q | q
  ·exact .inl q
  ·exact .inr ⟨q,PySem.W.cellsFrom_some _ _ _ (.inl q)⟩
 refine codeAny_call_function hr.depth (KX _ _ lk) rfl S.co S.gen rfl (PySem.W.codeRec_of KX hcd) (hb _ _ _ _ ?_)
 refine wpAny_newFunctionEnv_cells S.kind hkind fun env he s1 x => ?_
 subst he
 refine ⟨lim.keeps x.toInCall.keep,codeAny_func ?_⟩
 obtain ⟨t,ht,hq⟩:=hbody A outer s H vs Q E (hr.deeper _) hsp
 have I:Inv (cxOf CX P w K mg base N qual scope f cdv A outer s H E) [] (start N vs) H s1:=inv_start S hr.hd e0 hl r x
 refine wpAny_mono (ht [] s1 (start N vs) H _ I hq) (fun fl s' hs => ?_) fun e s' hs=>hs
 have fin:∀ {σ':St} {H':Hp} {v:V} {u:Value},Inv (cxOf CX P w K mg base N qual scope f cdv A outer s H E) [] σ' H' s'→RelV v u→Q v H'→CE outer P w H s Q u s' :=
  fun {σ' H' v u} J rv q=>⟨v,H',J.os,J.bare,J.base,J.hok,rv,q⟩
 cases fl with
 | ret u =>
  obtain ⟨v,σ',H',J,rv,q⟩:=hs
  exact fin J rv q
 | next =>
  obtain ⟨σ',H',J,q⟩:=hs
  exact fin (v:=V.non) (u:=Value.none) J rfl q
 | brk =>
  obtain ⟨_,_,_,q⟩:=hs
  exact False.elim q
 | cont =>
  obtain ⟨_,_,_,q⟩:=hs
  exact False.elim q
section
variable {X:Cx} {x:Str} {p pos:Pos} {e:Expr} {es:List Expr} {t:TA} {id T:String} {r:List V→Hp→VK→Prop}
def tCB (r:List V→Hp→VK→Prop) (t:TA):TE:=fun σ H Q=>t σ H fun vs H1=>r vs H1 Q
theorem em_ (hc:CallR X (.builtin id) r) (hg:Gl X x) (hm:X.mg x=none) (hv:bootBuiltins x=some (.builtin id)) (ha:PA X (e :: es) t) (hn:x ≠ "__name__" := by decide) (hdb:(x == ("__debug__" : Str))=false:=by decide)
  (he:starEach (e :: es) X.env=(false,eval e X.env) :: starEach es X.env:=by rfl) (hpl:(backTo pos (starEach es X.env)).any (·.1)=false:=by rfl):PE X (.Call (.Name x p) (e :: es) [] pos) (tCB r t):=by
 intro pins s σ H Q I h
 refine wpAny_Call_Name_kw (gr_ I hg hm hv ?_ hn hdb)
 exact PyProof.Rows.callWith_builtin1 (thn (ha pos pins s σ H _ I h) fun us s1 ⟨vs,H1,I1,r1,q1⟩=>hc pins s1 σ H1 vs us Q I1 r1 q1) he hpl
theorem fr_ (hc:CallR X (.type T) r) (hg:Gl X x) (hm:X.mg x=none) (hv:bootBuiltins x=some (.type T)) (ha:PA X (e :: es) t) (hn:x ≠ "__name__" := by decide) (hdb:(x == ("__debug__" : Str))=false:=by decide)
  (he:starEach (e :: es) X.env=(false,eval e X.env) :: starEach es X.env:=by rfl) (hpl:(backTo pos (starEach es X.env)).any (·.1)=false:=by rfl):PE X (.Call (.Name x p) (e :: es) [] pos) (tCB r t):=by
 intro pins s σ H Q I h
 refine wpAny_Call_Name_kw (gr_ I hg hm hv ?_ hn hdb)
 exact PyProof.Rows.callWith_type1 (thn (ha pos pins s σ H _ I h) fun us s1 ⟨vs,H1,I1,r1,q1⟩=>hc pins s1 σ H1 vs us Q I1 r1 q1) he hpl
end
end L2
namespace HT
open PySem PyProof.Rows
section
open PySem.SeqAt
open PySem.AutoSeq1 (wpAny_loadPart')
open PySem.MeetsSeq PySem.MeetsSeq2 PySem.MeetsSeq3
end
section
variable {prog:Program} {w:World} {A:Around} {E:SV_} {s:Shared}
def sIx (n d:Nat):Option Int→Nat
 | none=>d
 | some v=>if v < 0 then (v + (n:Int)).toNat else min v.toNat n
theorem sIx_nat (n d k:Nat):sIx n d (some (k:Int))=min k n:=by
 show (if (k:Int) < 0 then ((k:Int) + (n:Int)).toNat else min (k:Int).toNat n)=min k n
 rw [if_neg (by omega),Int.toNat_natCast]
end
end HT
namespace L2
open PySem PySem.Spec PyProof.Rows
abbrev TO:=St→Hp→(Option Int→Hp→Prop)→Prop
def PO (X:Cx) (e:Option Expr) (t:TO):Prop :=
 ∀ (pins:PN_) (s:Shared) (σ:St) (H:Hp) (Q:Option Int→Hp→Prop),Inv X pins σ H s→t σ H Q →
  wpAny (model X.prog X.w) X.A (evalPart e X.env) (fun u s' => ∃ o H',Inv X pins σ H' s'∧IsPart u o∧Q o H') X.xe s
def tNoPart:TO:=fun _ H Q=>Q none H
def tPart (t:TE):TO:=fun σ H Q=>t σ H fun x H1 => ∃ i,x=.int i∧Q (some i) H1
theorem intsAre_of {ns:List Int}:∀ {us:List Value},Vals (ns.map V.int) us→IntsAre us ns:=by
 induction ns with
 | nil=>intro us r; rw [List.map_nil] at r; cases r; exact .nil
 | cons n ns ih =>
  intro us r
  rw [List.map_cons] at r
  cases r with
  | cons r1 r2 =>
   obtain ⟨t,e⟩:=r1
   subst e
   exact .cons n t (ih r2)
section
variable {X:Cx} {e:Expr} {te:TE} {lo hi:Option Expr} {tl th:TO} {pos p2:Pos}
theorem po_none:PO X none tNoPart:=by
 intro pins s σ H Q I h
 rw [evalPart_none]
 exact wpAny_pure ⟨none,H,I,.none,h⟩
theorem po_some (h:PE X e te):PO X (some e) (tPart te):=by
 intro pins s σ H Q I hw
 rw [evalPart_some]
 refine thn (h pins s σ H _ I hw) fun u s1 ⟨x,H1,I1,r1,q1⟩ => ?_
 obtain ⟨i,rfl,q⟩:=q1
 obtain ⟨t,rfl⟩:=r1
 exact ⟨some i,H1,I1,.int i t,q⟩
def SlR (X:Cx) (r:V→Option Int→Option Int→Hp→VK→Prop):Prop :=
 ∀ (pins:PN_) (s:Shared) (σ:St) (H:Hp) (x:V) (v vl vu:Value) (lo hi:Option Int) (sl:Addr) (Q:VK),Inv X pins σ H s→RelV x v→s.heap.IsSliceOf sl vl vu .none→IsPart vl lo→IsPart vu hi→r x lo hi H Q →
  ∃ T id,typeLookup (.type T) "__getitem__" = pure (some (.builtin id))∧s.TypeIs v T∧wpAny (model X.prog X.w) X.A (getItem v (.ref sl)) (EP X pins σ Q) X.xe s
theorem SlR.or {r r':V→Option Int→Option Int→Hp→VK→Prop} (h:SlR X r) (h':SlR X r'):SlR X (fun x lo hi H Q=>r x lo hi H Q∨r' x lo hi H Q):=by
 intro pins s σ H x v vl vu lo hi sl Q I rx hs pl pu q
 rcases q with q | q
 ·exact h pins s σ H x v vl vu lo hi sl Q I rx hs pl pu q
 ·exact h' pins s σ H x v vl vu lo hi sl Q I rx hs pl pu q
def tSl (r:V→Option Int→Option Int→Hp→VK→Prop) (te:TE) (tl th:TO):TE:=fun σ H Q=>te σ H fun x H1=>tl σ H1 fun l H2=>th σ H2 fun u H3=>r x l u H3 Q
theorem pe_slice {r:V→Option Int→Option Int→Hp→VK→Prop} (hr:SlR X r) (he:PE X e te) (hl:PO X lo tl) (hu:PO X hi th):PE X (.Subscript e (.Slice lo hi none p2) pos) (tSl r te tl th):=by
 intro pins s σ H Q I h
 refine Subscript_ (thn (he pins s σ H _ I h) fun v s1 ⟨x,H1,I1,r1,q1⟩ => ?_)
 refine wpAny_Slice (thn (hl pins s1 σ H1 _ I1 q1) fun vl s2 ⟨l,H2,I2,pl,q2⟩=>thn (hu pins s2 σ H2 _ I2 q2) fun vu s3 ⟨u,H3,I3,pu,q3⟩ => ?_)
 rw [evalPart_none]
 refine wpAny_pure ?_
 have I4:Inv X pins σ H3 { s3 with heap:=s3.heap.push { cls:=.type "slice",data:=.fields #[vl,vu,.none] } }:=I3.kept (t':=s3.toks) fun b ob q=>Heap.get?_push_of_some _ q
 obtain ⟨T,id,hT,ht,hg⟩:=hr pins { s3 with heap:=s3.heap.push { cls:=.type "slice",data:=.fields #[vl,vu,.none] } } σ H3 x v vl vu l u s3.heap.objs.size Q I4 r1 (Heap.IsSliceOf.new ..) pl pu q3
 show wpAny (model X.prog X.w) X.A (subscriptTail e (.Slice lo hi none p2) v (.ref s3.heap.objs.size)) (EP X pins σ Q) X.xe { s3 with heap:=s3.heap.push { cls:=.type "slice",data:=.fields #[vl,vu,.none] } }
 exact tail_any (ops:=[.ref s3.heap.objs.size,v]) ht hT hg (by with_unfolding_all rfl)
def cutV (xs:List V) (lo hi:Option Int):List V:=(xs.drop (HT.sIx xs.length 0 lo)).take (HT.sIx xs.length xs.length hi - HT.sIx xs.length 0 lo)
theorem cutV_length (xs:List V) (lo hi:Option Int):(cutV xs lo hi).length≤xs.length:=by
 unfold cutV
 rw [List.length_take,List.length_drop]
 omega
end
def ixN (n:Nat) (i:Int):Option Nat:=if 0≤i then (if i < n then some i.toNat else none) else if -(n:Int)≤i then some (i + n).toNat else none
def atI {α:Type} (xs:List α) (i:Int):Option α:=(ixN xs.length i).bind fun j=>xs[j]?
theorem ixN_seq {n:Nat} {i:Int} {j:Nat} (h:ixN n i=some j):seqIndex? i n=some j∧j < n ∧ -(n:Int)≤i∧i < n:=by
 unfold ixN at h
 by_cases h0:0≤i
 ·rw [if_pos h0] at h
  by_cases h1:i < n
  ·rw [if_pos h1] at h
   have e:i.toNat=j:=Option.some.inj h
   exact ⟨by rw [seqIndex_of h0 h1,e],by omega,by omega,h1⟩
  ·rw [if_neg h1] at h; cases h
 ·rw [if_neg h0] at h
  by_cases h1 : -(n:Int)≤i
  ·rw [if_pos h1] at h
   have e:(i + n).toNat=j:=Option.some.inj h
   exact ⟨by rw [seqIndex_neg (by omega) h1,e],by omega,h1,by omega⟩
  ·rw [if_neg h1] at h; cases h
theorem atI_get {α:Type} {xs:List α} {i:Int} {v:α} (h:atI xs i=some v):∃ j,seqIndex? i xs.length=some j∧xs[j]? = some v∧j < xs.length ∧ -(xs.length:Int)≤i∧i < xs.length:=by
 unfold atI at h
 cases e:ixN xs.length i with
 | none=>rw [e] at h; cases h
 | some j =>
  rw [e] at h
  obtain ⟨h1,h2,h3,h4⟩:=ixN_seq e
  exact ⟨j,h1,h,h2,h3,h4⟩
theorem fl_ {α:Type} {xs:List α} {j:Nat} {v:α} (h:xs[j]? = some v):atI xs (j:Int)=some v:=by
 have hj:j < xs.length:=(List.getElem?_eq_some_iff.mp h).1
 have e:ixN xs.length (j:Int)=some j:=by
  unfold ixN
  rw [if_pos (by omega),if_pos (by omega)]; simp
 unfold atI; rw [e]; exact h
def PlainIx (b:Expr):Prop := ∀ o i,subscripted b false o i=operate [o,i] (getItem o i)
def IxR (X:Cx) (r:R2):Prop :=
 ∀ (value slice:Expr) (pins:PN_) (s:Shared) (σ:St) (H:Hp) (x y:V) (v u:Value) (Q:VK),Inv X pins σ H s→RelV x v→RelV y u→r x y H Q →
  subscripted slice false v u=operate [v,u] (getItem v u)→wpAny (model X.prog X.w) X.A (subscriptTail value slice v u) (EP X pins σ Q) X.xe s
def MtR (X:Cx) (id:String) (r:V→List V→Hp→VK→Prop):Prop :=
 ∀ (pins:PN_) (s:Shared) (σ:St) (H:Hp) (x:V) (xs:List V) (v:Value) (us:List Value) (Q:VK),Inv X pins σ H s→RelV x v→Vals xs us→r x xs H Q →
  wpAny (model X.prog X.w) X.A (call (.builtin id) (v :: us)) (EP X pins σ Q) X.xe s
section
variable {X:Cx} {a b:Expr} {ta tb:TE} {pos:Pos}
theorem IxR.or {r r':R2} (h:IxR X r) (h':IxR X r'):IxR X (fun x y H Q=>r x y H Q∨r' x y H Q):=by
 intro value slice pins s σ H x y v u Q I rx ry q hs
 rcases q with q | q
 ·exact h value slice pins s σ H x y v u Q I rx ry q hs
 ·exact h' value slice pins s σ H x y v u Q I rx ry q hs
theorem pe_ix {r:R2} (hr:IxR X r) (ha:PE X a ta) (hb:PE X b tb) (hs:PlainIx b):PE X (.Subscript a b pos) (tOp r ta tb):=by
 intro pins s σ H Q I h
 exact Subscript_ (binT ha hb I h fun v u s2 x y H2 I2 rx ry q=>hr a b pins s2 σ H2 x y v u Q I2 rx ry q (hs _ _))
def rIxL (K:FG_):R2:=fun x y H Q => ∃ p xs i v,x=.ref p∧y=.int i∧SqL K H p xs∧atI xs i=some v∧Q v H
def rIxT (K:FG_):R2:=fun x y H Q => ∃ p xs i v,x=.ref p∧y=.int i∧SqT K H p xs∧atI xs i=some v∧Q v H
def rIxS:R2:=fun x y H Q => ∃ z i c,x=.str z∧y=.int i∧z.length≤sizeLine∧atI z.cps.toList i=some c∧Q (.str ⟨#[c]⟩) H
theorem gj_:IxR X (rIxL X.K):=by
 intro value slice pins s σ H x y v u Q I rx ry h hs
 obtain ⟨p,xs,i,z,rfl,rfl,hq,he,q⟩:=h
 cases rx
 obtain ⟨t,rfl⟩:=ry
 obtain ⟨its,r,pl,hz⟩:=I.list hq
 obtain ⟨j,h1,h2,h3,h4,h5⟩:=atI_get he
 obtain ⟨w,ew,rw'⟩:=r.get h2
 have hl:=r.length
 have hn:=line63
 have fin:EP X pins σ Q w s:=⟨z,H,I,rw',q⟩
 by_cases h0:0≤i
 ·have hj:i.toNat=j:=by
   rw [seqIndex_of h0 h5] at h1
   exact Option.some.inj h1
  exact item_listR pl.isList h0 (by omega) (by rw [hj]; simpa using ew) fin hs
 ·have hj:(i + (its.toArray.size:Int)).toNat=j:=by
   rw [seqIndex_neg (by omega) h4] at h1
   rw [List.size_toArray,← hl]
   exact Option.some.inj h1
  exact subscriptTail_builtinR (x:=w) pl.isList.typeIs slot_list_getitem.lookup
   (wpAny_getItem_list_neg (Q:=fun r s'=>r=w∧EP X pins σ Q r s') pl.isList (by omega) (by rw [List.size_toArray] <;> omega) (by omega) (by rw [hj]; simpa using ew) ⟨rfl,fin⟩) hs
theorem ix_tup:IxR X (rIxT X.K):=by
 intro value slice pins s σ H x y v u Q I rx ry h hs
 obtain ⟨p,xs,i,z,rfl,rfl,hq,he,q⟩:=h
 cases rx
 obtain ⟨t,rfl⟩:=ry
 obtain ⟨its,r,pl,hz⟩:=I.tuple hq
 obtain ⟨j,h1,h2,h3,h4,h5⟩:=atI_get he
 obtain ⟨w,ew,rw'⟩:=r.get h2
 have hl:=r.length
 have hn:=line63
 have fin:EP X pins σ Q w s:=⟨z,H,I,rw',q⟩
 exact subscriptTail_builtinR (x:=w) pl.typeIs slot_tuple_getitem.lookup
  (getItem_tuple (j:=j) (Q:=fun r s'=>r=w∧EP X pins σ Q r s') pl (by omega) (by omega) (by rw [List.size_toArray,← hl]; exact h1) (by simpa using ew) ⟨rfl,fin⟩) hs
theorem ix_str:IxR X rIxS:=by
 intro value slice pins s σ H x y v u Q I rx ry h hs
 obtain ⟨z,i,c,rfl,rfl,hz,he,q⟩:=h
 obtain ⟨t,rfl⟩:=rx
 obtain ⟨t',rfl⟩:=ry
 obtain ⟨j,h1,h2,h3,h4,h5⟩:=atI_get he
 have hl:z.cps.toList.length=z.length:=by simp [Str.length]
 rw [hl] at h1 h4 h5
 have hn:=line63
 exact tail_any (typeIs_str s z t) slot_str_getitem.lookup (getItem_str (c:=c) (by
  have e1:decide (i < -(2 ^ 63:Int))=false:=decide_eq_false (by omega)
  have e2:decide (i≥2 ^ 63)=false:=decide_eq_false (by omega)
  rw [e1,e2,Bool.or_false]) (by rw [h1]; simpa using h2) ⟨.str ⟨#[c]⟩,H,I.tok _,⟨_,rfl⟩,q⟩) hs
theorem mapSeq_set (its:List Value) (n j:Nat) (u:Value):Obj.mapSeq (·.setIfInBounds j u) { cls:=.type "list",data:=.seq its.toArray n }={ cls:=.type "list",data:=.seq (its.set j u).toArray n }:=by
 simp [Obj.mapSeq]
theorem Inv.lst {pins:PN_} {σ:St} {H:Hp} {s:Shared} {p:Addr} {xs:List V} (I:Inv X pins σ H s) (h:H p=some (.lst xs)) :
  ∃ (its:List Value) (n:Nat),Vals xs its∧s.heap.get? p=some { cls:=.type "list",data:=.seq its.toArray n }∧xs.length≤sizeLine:=by
 obtain ⟨z,its,n,r,e⟩:=I.hok p _ h
 exact ⟨its,n,r,e,z⟩
theorem Inv.lstUpd {pins:PN_} {σ:St} {H:Hp} {s:Shared} {p:Addr} {xs ys:List V} {its its':List Value} {n n':Nat} {f:Obj→Obj} (I:Inv X pins σ H s) (h:H p=some (.lst xs))
  (ho:s.heap.get? p=some { cls:=.type "list",data:=.seq its.toArray n }) (hf:f { cls:=.type "list",data:=.seq its.toArray n }={ cls:=.type "list",data:=.seq its'.toArray n' }) (r:Vals ys its') (hz:ys.length≤sizeLine) (t:Nat) :
  Inv X pins σ (upd H p (.lst ys)) { s with heap:=s.heap.update p f,toks:=t }:=by
 have e:(s.heap.update p f).get? p=some { cls:=.type "list",data:=.seq its'.toArray n' }:=by
  rw [Heap.get?_update_self f ho (by rw [hf] <;> rfl),hf]
 refine I.write (x:=p) (e:=p) (by rw [h]; trivial) (.inl rfl) (fun b u hb q=>(Heap.get?_update_other _ _ (Ne.symm hb)).trans q) ⟨_,e⟩ ?_
 exact ⟨hz,its',n',r,e⟩
def rSetL:V→V→V→Hp→(Hp→Prop)→Prop:=fun o i v H Q => ∃ p xs k j,o=.ref p∧i=.int k∧H p=some (.lst xs)∧ixN xs.length k=some j∧Q (upd H p (.lst (xs.set j v)))
theorem fn_:PSet X rSetL:=by
 intro pins s σ H o i v ov iv u Q I ro ri rv h
 obtain ⟨p,xs,k,j,rfl,rfl,hp,hj,q⟩:=h
 cases ro
 obtain ⟨t,rfl⟩:=ri
 obtain ⟨its,n,r,ho,hz⟩:=I.lst hp
 obtain ⟨h1,h2,h3,h4⟩:=ixN_seq hj
 have hl:=r.length
 have hn:=line63
 have I':Inv X pins σ (upd H p (.lst (xs.set j v))) { s with heap:=s.heap.update p (Obj.mapSeq (·.setIfInBounds j u)) } :=
  I.lstUpd hp ho (mapSeq_set its n j u) (r.set rv j) (by rw [List.length_set]; exact hz) s.toks
 by_cases h0:0≤k
 ·have hk:k.toNat=j:=by
   rw [seqIndex_of h0 h4] at h1
   exact Option.some.inj h1
  exact PySem.W.ki_setAt ho h0 (by omega) (by rw [List.size_toArray,← hl]; exact h4) (by rw [hk]; exact ⟨_,I',q⟩)
 ·have hk:(k + (its.toArray.size:Int)).toNat=j:=by
   rw [seqIndex_neg (by omega) h3] at h1
   rw [List.size_toArray,← hl]
   exact Option.some.inj h1
  exact PySem.W.ki_setBack ho (by omega) (by rw [List.size_toArray,← hl]; exact h3) (by omega) (by rw [hk]; exact ⟨_,I',q⟩)
theorem slice_bounds (lo hi:Option Int) (n:Nat):(sliceBounds lo hi none n).1=((HT.sIx n 0 lo:Nat):Int)∧(sliceBounds lo hi none n).2.1=((HT.sIx n n hi:Nat):Int)∧(sliceBounds lo hi none n).2.2=1:=by
 refine ⟨?_,?_,rfl⟩
 ·cases lo with
  | none=>simp [sliceBounds,HT.sIx]
  | some i =>
   simp only [sliceBounds,HT.sIx,Option.getD_none,show (1:Int) > 0 by decide,if_true]
   by_cases h:i < 0
   ·simp only [h,if_true] <;> omega
   ·simp only [h,if_false] <;> omega
 ·cases hi with
  | none=>simp [sliceBounds,HT.sIx]
  | some i =>
   simp only [sliceBounds,HT.sIx,Option.getD_none,show (1:Int) > 0 by decide,if_true]
   by_cases h:i < 0
   ·simp only [h,if_true] <;> omega
   ·simp only [h,if_false] <;> omega
theorem slicePick_cut (its:List Value) (lo hi:Option Int):slicePick its.toArray lo hi none=((its.drop (HT.sIx its.length 0 lo)).take (HT.sIx its.length its.length hi - HT.sIx its.length 0 lo)).toArray:=by
 obtain ⟨h1,h2,h3⟩:=slice_bounds lo hi its.toArray.size
 unfold slicePick
 rw [h1,h2,h3]
 simp only [sliceRange_one,pick_run,List.size_toArray] <;> rfl
def rSlL (K:FG_):V→Option Int→Option Int→Hp→VK→Prop:=fun x lo hi H Q => ∃ a xs,x=.ref a∧SqL K H a xs∧∀ p,H p=none→Q (.ref p) (upd H p (.lst (cutV xs lo hi)))
theorem sl_list:SlR X (rSlL X.K):=by
 intro pins s σ H x v vl vu lo hi sl Q I rx hs pl pu h
 obtain ⟨a,xs,rfl,hx,q⟩:=h
 cases rx
 obtain ⟨its,r,ht,hz⟩:=I.list hx
 have hlen:=r.length
 refine ⟨"list",_,slot_list_getitem.lookup,ht.isList.typeIs,?_⟩
 refine wpAny_getItem_list_slice ht.isList hs pl pu .none (by simp) ?_ (by rw [List.size_toArray] <;> omega)
 rw [slicePick_cut,← hlen]
 refine ⟨.ref s.heap.objs.size,_,I.laid (t':=s.toks) (o:=.lst (cutV xs lo hi)) (fun b ob q=>Heap.get?_push_of_some _ q) (Nat.le_refl _) ?_,rfl,q _ (I.hok.fresh (Nat.le_refl _))⟩
 exact ⟨Nat.le_trans (cutV_length xs lo hi) hz,_,0,(r.drop (HT.sIx xs.length 0 lo)).take (HT.sIx xs.length xs.length hi - HT.sIx xs.length 0 lo),Heap.get?_push_size _ rfl⟩
def flatV:V→Bool
 | .non=>true
 | .bl _=>true
 | .int _=>true
 | .str _=>true
 | _=>false
def eqV:V→V→Bool
 | .non,.non=>true
 | .bl a,.bl b=>a == b
 | .bl a,.int b=>(if a then 1 else 0) == b
 | .int a,.bl b=>a == (if b then 1 else 0)
 | .int a,.int b=>a == b
 | .str a,.str b=>a == b
 | _,_=>false
theorem eqAt_V {A:Around} {s:Shared} {y x:V} {u v:Value} (ry:RelV y u) (rx:RelV x v) (fy:flatV y=true) (fx:flatV x=true):SeqAt.EqAt A s u v (eqV y x):=by
 cases y with
 | non =>
  cases ry
  cases x with
  | non=>cases rx; exact SeqAt.EqAt.same _
  | bl b=>cases rx; exact SeqAt.EqAt.none_bool b
  | int b=>obtain ⟨t,rfl⟩:=rx; exact SeqAt.EqAt.none_int b t
  | str b=>obtain ⟨t,rfl⟩:=rx; exact SeqAt.EqAt.none_str b t
  | _=>exact absurd (show false=true from fx) Bool.false_ne_true
 | bl a =>
  cases ry
  cases x with
  | non=>cases rx; exact SeqAt.EqAt.bool_none a
  | bl b=>cases rx; exact SeqAt.EqAt.bool_bool a b
  | int b=>obtain ⟨t,rfl⟩:=rx; exact SeqAt.EqAt.bool_int a b t
  | str b=>obtain ⟨t,rfl⟩:=rx; exact SeqAt.EqAt.bool_str a b t
  | _=>exact absurd (show false=true from fx) Bool.false_ne_true
 | int a =>
  obtain ⟨t',rfl⟩:=ry
  cases x with
  | non=>cases rx; exact SeqAt.EqAt.int_none a t'
  | bl b=>cases rx; exact SeqAt.EqAt.int_bool a t' b
  | int b=>obtain ⟨t,rfl⟩:=rx; exact SeqAt.EqAt.int_int a t' b t
  | str b=>obtain ⟨t,rfl⟩:=rx; exact SeqAt.EqAt.int_str a t' b t
  | _=>exact absurd (show false=true from fx) Bool.false_ne_true
 | str a =>
  obtain ⟨t',rfl⟩:=ry
  cases x with
  | non=>cases rx; exact SeqAt.EqAt.str_none a t'
  | bl b=>cases rx; exact SeqAt.EqAt.str_bool a t' b
  | int b=>obtain ⟨t,rfl⟩:=rx; exact SeqAt.EqAt.str_int a t' b t
  | str b=>obtain ⟨t,rfl⟩:=rx; exact SeqAt.EqAt.str_str a t' b t
  | _=>exact absurd (show false=true from fx) Bool.false_ne_true
 | _=>exact absurd (show false=true from fy) Bool.false_ne_true
def eqU (x:V) (u:Value):Bool:=match u with
 | .none=>eqV .non x
 | .bool b=>eqV (.bl b) x
 | .int i _=>eqV (.int i) x
 | .str z _=>eqV (.str z) x
 | _=>false
theorem eqU_of {x y:V} {u:Value} (r:RelV y u) (f:flatV y=true):eqU x u=eqV y x:=by
 cases y with
 | non=>cases r; rfl
 | bl b=>cases r; rfl
 | int i=>obtain ⟨t,rfl⟩:=r; rfl
 | str z=>obtain ⟨t,rfl⟩:=r; rfl
 | _=>exact absurd (show false=true from f) Bool.false_ne_true
theorem any_eqU {x:V}:∀ {xs:List V} {us:List Value},Vals xs us→xs.all flatV=true→us.any (eqU x)=xs.any fun y=>eqV y x
 | _,_,.nil,_=>rfl
 | y :: xs,u :: us,.cons r t,f=>by
  rw [List.all_cons,Bool.and_eq_true] at f
  rw [List.any_cons,List.any_cons,eqU_of r f.1,any_eqU t f.2]
theorem mem_eqAt {A:Around} {s:Shared} {x:V} {v:Value} (rx:RelV x v) (fx:flatV x=true):∀ {xs:List V} {us:List Value},Vals xs us→xs.all flatV=true→∀ u∈us,SeqAt.EqAt A s u v (eqU x u)
 | _,_,.nil,_=>fun u hu=>by cases hu
 | y :: xs,u :: us,.cons r t,f=>fun u' hu=>by
  rw [List.all_cons,Bool.and_eq_true] at f
  rcases List.mem_cons.mp hu with rfl | hu
  ·rw [eqU_of r f.1]; exact eqAt_V r rx f.1 fx
  ·exact mem_eqAt rx fx t f.2 u' hu
def inV (x:V) (xs:List V):Bool:=xs.any fun y=>eqV y x
def rIn (K:FG_) (neg:Bool):R2:=fun x y H Q => ∃ p xs,y=.ref p∧(SqL K H p xs∨SqT K H p xs)∧flatV x=true∧xs.all flatV=true∧Q (.bl (if neg then !inV x xs else inV x xs)) H
theorem op_in_seq:OpR X (compareOp .In) (rIn X.K false):=by
 intro pins s σ H x y v u Q I rx ry h
 obtain ⟨p,xs,rfl,hq,fx,fs,q⟩:=h
 cases ry
 rcases hq with hq | hq
 ·obtain ⟨its,r,pl,hz⟩:=I.list hq
  refine SeqAt.in_listAt (eqU x) pl.isList (fun w hw=>mem_eqAt rx fx r fs w (by simpa using hw)) ⟨.bl _,H,I,rfl,?_⟩
  rw [show its.toArray.any (eqU x)=its.any (eqU x) by simp,any_eqU r fs]
  exact q
 ·obtain ⟨its,r,pl,hz⟩:=I.tuple hq
  refine SeqAt.in_tupleAt (eqU x) pl (fun w hw=>mem_eqAt rx fx r fs w (by simpa using hw)) ⟨.bl _,H,I,rfl,?_⟩
  rw [show its.toArray.any (eqU x)=its.any (eqU x) by simp,any_eqU r fs]
  exact q
theorem call_len_seq:CallR X (.builtin "len") (fun xs H Q => ∃ p ys,xs=[.ref p]∧(SqL X.K H p ys∨SqT X.K H p ys)∧Q (.int ys.length) H):=by
 intro pins s σ H xs us Q I r h
 obtain ⟨p,ys,rfl,hq,q⟩:=h
 obtain ⟨u,rfl,rx⟩:=vals1 r
 cases rx
 have hn:=line63
 rcases hq with hq | hq
 ·obtain ⟨its,r',pl,hz⟩:=I.list hq
  have hlen:=r'.length
  exact Calls.call_len_list pl.isList (by simp only [List.size_toArray] <;> omega) ⟨.int ys.length,H,I.tok _,⟨s.toks + 1,by rw [List.size_toArray,hlen]⟩,q⟩
 ·obtain ⟨its,r',pl,hz⟩:=I.tuple hq
  have hlen:=r'.length
  exact len_tuple pl (by simp only [List.size_toArray] <;> omega) ⟨.int ys.length,H,I.tok _,⟨s.toks + 1,by rw [List.size_toArray,hlen]⟩,q⟩
theorem call_len_str:CallR X (.builtin "len") (fun xs H Q => ∃ z,xs=[.str z]∧z.length≤sizeLine∧Q (.int z.length) H):=by
 intro pins s σ H xs us Q I r h
 obtain ⟨z,rfl,hz,q⟩:=h
 obtain ⟨u,rfl,t,rfl⟩:=vals1 r
 have hn:=line63
 exact len_str (by omega) ⟨.int z.length,H,I.tok _,⟨_,rfl⟩,q⟩
theorem CallR.or {f:Value} {r r':List V→Hp→VK→Prop} (h:CallR X f r) (h':CallR X f r'):CallR X f (fun xs H Q=>r xs H Q∨r' xs H Q):=by
 intro pins s σ H xs us Q I rs q
 rcases q with q | q
 ·exact h pins s σ H xs us Q I rs q
 ·exact h' pins s σ H xs us Q I rs q
theorem gu_:CallR X (.type "list") (fun xs H Q => ∃ p ys,xs=[.ref p]∧(SqL X.K H p ys∨SqT X.K H p ys)∧∀ l,H l=none→Q (.ref l) (upd H l (.lst ys))):=by
 intro pins s σ H xs us Q I r h
 obtain ⟨p,ys,rfl,hq,q⟩:=h
 obtain ⟨u,rfl,rx⟩:=vals1 r
 cases rx
 have fin:∀ (its:List Value),Vals ys its→ys.length≤sizeLine→∀ (h':Heap) (c':Nat),(∀ b o',s.heap.get? b=some o'→h'.get? b=some o') →
   h'.get? s.heap.objs.size=some { cls:=.type "list",dict:=none,data:=.seq its.toArray c',slots := #[] }→EP X pins σ Q (.ref s.heap.objs.size) { s with heap:=h' }:=fun its r' hz h' c' kp e =>
  ⟨.ref s.heap.objs.size,_,I.laid (t':=s.toks) kp (Nat.le_refl _) (show ObjOk X.prog X.w _ h' _ (.lst ys) from ⟨hz,its,c',r',e⟩),rfl,q _ (I.hok.fresh (Nat.le_refl _))⟩
 rcases hq with hq | hq
 ·obtain ⟨its,r',pl,hz⟩:=I.list hq
  have hlen:=r'.length
  obtain ⟨o,ho,hc,n,hd⟩:=pl.isList
  exact call_list_seq p (.inl rfl) ho hc hd (fun h' c' kp e=>fin its r' hz h' c' kp e) (by simp only [List.size_toArray] <;> omega)
 ·obtain ⟨its,r',pl,hz⟩:=I.tuple hq
  have hlen:=r'.length
  obtain ⟨o,ho,hc,n,hd⟩:=pl
  exact call_list_seq p (.inr rfl) ho hc hd (fun h' c' kp e=>fin its r' hz h' c' kp e) (by simp only [List.size_toArray] <;> omega)
theorem call_tuple_of:CallR X (.type "tuple") (fun xs H Q => ∃ p ys,xs=[.ref p]∧((SqL X.K H p ys∧∀ l,H l=none→Q (.ref l) (upd H l (.tup ys)))∨(SqT X.K H p ys∧Q (.ref p) H))):=by
 intro pins s σ H xs us Q I r h
 obtain ⟨p,ys,rfl,h⟩:=h
 obtain ⟨u,rfl,rx⟩:=vals1 r
 cases rx
 rcases h with ⟨hq,q⟩ | ⟨hq,q⟩
 ·obtain ⟨its,r',pl,hz⟩:=I.list hq
  have hlen:=r'.length
  refine call_tuple_list pl.isList (fun h' kp => ?_) (by simp only [List.size_toArray] <;> omega)
  have I1:Inv X pins σ H { s with heap:=h' }:=I.kept (t':=s.toks) kp
  have I2:Inv X pins σ (upd H h'.objs.size (.tup ys)) { s with heap:=h'.push { cls:=.type "tuple",data:=.seq its.toArray } } :=
   I1.laid (t':=s.toks) (fun b o e=>Heap.get?_push_of_some _ e) (Nat.le_refl _) (show ObjOk X.prog X.w _ _ _ (.tup ys) from ⟨hz,its,r',IsTup.new _ _⟩)
  exact ⟨.ref h'.objs.size,_,I2,rfl,q _ (I1.hok.fresh (Nat.le_refl _))⟩
 ·obtain ⟨its,r',pl,hz⟩:=I.tuple hq
  exact call_tuple_same pl ⟨.ref p,H,I,rfl,q⟩
def tyV (K:FG_) (T:String) (x:V) (H:Hp):Prop:=match x with
 | .str _=>T = "str"
 | .int _=>T = "int"
 | .ref p => (T = "list" ∧ ∃ xs, SqL K H p xs) ∨ (T = "tuple" ∧ ∃ o, K.lookup p = some o ∧ o.cls = .type "tuple" ∧ o.dict = none) ∨
   (T = "dict" ∧ ((∃ kvs,H p=some (.dK kvs))∨∃ kvs,H p=some (.dT kvs)))∨(T = "set" ∧ ∃ S n,H p=some (.set S n))
 | _=>False
theorem tyV_is {pins:PN_} {σ:St} {H:Hp} {s:Shared} {T:String} {x:V} {v:Value} (I:Inv X pins σ H s) (r:RelV x v) (ty:tyV X.K T x H) :
  s.TypeIs v T∧∀ a,v=.ref a→∃ ob,s.heap.get? a=some ob∧ob.dict=none:=by
 cases x with
 | str z =>
  obtain ⟨t,rfl⟩:=r
  cases (show T = "str" from ty)
  exact ⟨typeIs_str s z t,fun _ e=>nomatch e⟩
 | int i =>
  obtain ⟨t,rfl⟩:=r
  cases (show T = "int" from ty)
  exact ⟨typeIs_int s i t,fun _ e=>nomatch e⟩
 | ref p =>
  cases r
  rcases ty with ⟨rfl,xs,hq⟩ | ⟨rfl,o,hk,hc,hd⟩ | ⟨rfl,hk⟩ | ⟨rfl,S,n,hk⟩
  ·obtain ⟨its,_,pl,_⟩:=I.list hq
   refine ⟨pl.isList.typeIs,fun a e => ?_⟩
   cases e
   obtain ⟨o,n,e,c,hd,_⟩:=pl
   exact ⟨o,e,hd⟩
  ·refine ⟨⟨o,I.kIn p o hk,hc⟩,fun a e => ?_⟩
   cases e
   exact ⟨o,I.kIn _ o hk,hd⟩
  ·have z:∃ o,s.heap.get? p=some o∧o.ExactDict:=by
    rcases hk with ⟨kvs,hk⟩ | ⟨kvs,hk⟩
    ·obtain ⟨_,_,_,_,o,_,_,e,ex,_⟩:=I.hok p _ hk
     exact ⟨o,e,ex⟩
    ·obtain ⟨_,_,_,_,o,_,_,e,ex,_⟩:=I.hok p _ hk
     exact ⟨o,e,ex⟩
   obtain ⟨o,e,ex⟩:=z
   refine ⟨⟨o,e,ex.1⟩,fun a e2 => ?_⟩
   cases e2
   exact ⟨o,e,ex.2.1⟩
  ·obtain ⟨o,_,_,_,e,ex,_⟩:=I.hok p _ hk
   refine ⟨⟨o,e,ex.1⟩,fun a e2 => ?_⟩
   cases e2
   exact ⟨o,e,ex.2.1⟩
 | _=>exact False.elim ty
def tBM (K:FG_) (T:String) (r:V→List V→Hp→VK→Prop) (to:TE) (t:TA):TE:=fun σ H Q=>to σ H fun x H1=>tyV K T x H1∧t σ H1 fun xs H2=>r x xs H2 Q
variable {o e:Expr} {es:List Expr} {to:TE} {t:TA} {name:Str} {apos cpos:Pos} {T id:String} {r:V→List V→Hp→VK→Prop}
theorem pe_bm (pa:PlainAttrs T) (slot:Slot T name id) (hty:typeOf (.builtin id)=pure (.type "method_descriptor")) (hm:MtR X id r) (ho:PE X o to) (ha:PA X (e :: es) t)
  (hbase:attributeBase o name X.env (eval o X.env)=eval o X.env:=by rfl)
  (hfew:((backTo cpos (starEach (e :: es) X.env)).all (fun x => !x.1) && (backToKw cpos (keywordEach [] X.env)).all (fun x=>x.1.isSome)
   && decide ((e :: es).length + ([]:List Keyword).length + (if ([]:List Keyword).isEmpty then 0 else 1) < 30))=true:=by rfl)
  (hline:(apos.endLine == cpos.line)=true:=by rfl) (hs:starEach (e :: es) X.env=(false,eval e X.env) :: starEach es X.env:=by rfl) (hplain:(backTo cpos (starEach es X.env)).any (·.1)=false:=by rfl) :
  PE X (.Call (.Attribute o name apos) (e :: es) [] cpos) (tBM X.K T r to t):=by
 intro pins s σ H Q I h
 refine wpAny_Call_method_late hbase hfew hline rfl (thn (ho pins s σ H _ I h) fun v s1 ⟨x,H1,I1,r1,ty,q1⟩ => ?_)
 obtain ⟨h1,h2⟩:=tyV_is I1 r1 ty
 refine ⟨T,id,pa,slot,hty,h1,h2,?_⟩
 have hA:=ha cpos pins s1 σ H1 _ I1 q1
 rw [hs] at hA ⊢
 refine Calls.callWith_builtin (by show (false || (backTo cpos (starEach es X.env)).any (·.1))=false; rw [hplain] <;> rfl) (Calls.evalArgs_plain ?_)
 exact thn hA fun us s2 ⟨vs,H2,I2,r2,q2⟩=>hm pins s2 σ H2 x vs v us Q I2 r1 r2 q2
end
def MtM (X:Cx) (id:String) (r:V→List V→Hp→VK→Prop):Prop :=
 ∀ (pins:PN_) (s:Shared) (σ:St) (H:Hp) (x:V) (xs:List V) (v:Value) (us:List Value) (Q:VK),Inv X pins σ H s→RelV x v→Vals xs us→r x xs H Q →
  wpAny (model X.prog X.w) X.A (call (.builtin id) (v :: us)) (EP X pins σ Q) X.xe s
theorem Vals.one:∀ {x:V} {us:List Value},Vals [x] us→∃ u,us=[u]∧RelV x u
 | _,_,.cons r .nil=>⟨_,rfl,r⟩
theorem Vals.two:∀ {x y:V} {us:List Value},Vals [x,y] us→∃ u v,us=[u,v]∧RelV x u∧RelV y v:=by
 intro x y us h
 cases h with
 | cons r t=>cases t with | cons q z=>cases z; exact ⟨_,_,rfl,r,q⟩
theorem Vals.rep {xs:List V} {us:List Value} (h:Vals xs us):∀ k:Nat,Vals (List.replicate k xs).flatten (List.replicate k us).flatten
 | 0=>.nil
 | k + 1=>by
  rw [List.replicate_succ,List.replicate_succ,List.flatten_cons,List.flatten_cons]
  exact Vals.append h (Vals.rep h k)
theorem foldl_rep (its:List Value):∀ (k:Nat) (acc:List Value),
  List.foldl (fun x1 x2=>x1 ++ x2) acc.toArray (List.replicate k its.toArray)=(acc ++ (List.replicate k its).flatten).toArray
 | 0,acc=>by simp
 | k + 1,acc=>by
  have e:acc.toArray ++ its.toArray=(acc ++ its).toArray:=by simp
  have e2:(acc ++ its) ++ (List.replicate k its).flatten=acc ++ (List.replicate (k + 1) its).flatten:=by
   rw [List.replicate_succ,List.flatten_cons,List.append_assoc]
  rw [← e2,← foldl_rep its k (acc ++ its),← e,List.replicate_succ,List.foldl_cons]
section
variable {X:Cx} {pins:PN_} {σ:St} {H:Hp} {s:Shared} {l b:Addr} {xs ys zs:List V}
theorem Inv.lset {its its':List Value} {n:Nat} {f:Array Value→Array Value} {t':Nat} (I:Inv X pins σ H s) (hH:H l=some (.lst xs))
  (e:s.heap.get? l=some { cls:=.type "list",data:=.seq its.toArray n }) (hf:f its.toArray=its'.toArray) (hv:Vals ys its') (hz:ys.length≤sizeLine) :
  Inv X pins σ (upd H l (.lst ys)) { s with heap:=s.heap.update l (Obj.mapSeq f),toks:=t' }:=by
 have q:=PySem.IsL.update e f
 rw [hf] at q
 refine I.write (x:=l) (e:=l) (by rw [hH]; exact trivial) (.inl rfl) (fun b' u hb hu=>(Heap.get?_update_other s.heap (Obj.mapSeq f) (Ne.symm hb)).trans hu) ⟨_,q⟩ ?_
 exact ⟨hz,its',_,hv,q⟩
theorem Inv.lnew {its:List Value} {t':Nat} (I:Inv X pins σ H s) (hv:Vals ys its) (hz:ys.length≤sizeLine) :
  Inv X pins σ (upd H s.heap.objs.size (.lst ys)) { s with heap:=s.heap.push { cls:=.type "list",data:=.seq its.toArray },toks:=t' } :=
 I.laid (fun _ _ q=>Heap.get?_push_of_some _ q) (Nat.le_refl _) ⟨hz,its,0,hv,Heap.get?_push_size _ rfl⟩
theorem Inv.fresh (I:Inv X pins σ H s):H s.heap.objs.size=none:=I.hok.fresh (Nat.le_refl _)
theorem Inv.lstM (I:Inv X pins σ H s) (hH:H l=some (.lst xs)):xs.length≤sizeLine∧∃ (its:List Value) (n:Nat),Vals xs its∧xs.length=its.length∧s.heap.get? l=some { cls:=.type "list",data:=.seq its.toArray n }:=by
 obtain ⟨z,its,n,r,e⟩:=I.hok l _ hH
 exact ⟨z,its,n,r,r.length,e⟩
theorem notLongL {n:Nat} (h:n≤sizeLine):Builtin.List.listTooLong n=false:=by
 unfold Builtin.List.listTooLong
 exact decide_eq_false (by omega)
end
section
variable {X:Cx}
def rAppend:V→List V→Hp→VK→Prop:=fun x vs H Q => ∃ l xs y,x=.ref l∧vs=[y]∧H l=some (.lst xs)∧xs.length < sizeLine∧Q .non (upd H l (.lst (xs ++ [y])))
theorem er_:MtM X "list.append" rAppend:=by
 intro pins s σ H x vs v us Q I rx rv h
 obtain ⟨l,xs,y,rfl,rfl,hH,hz,q⟩:=h
 cases rx
 obtain ⟨u,rfl,ru⟩:=rv.one
 obtain ⟨z,its,n,r,hl,e⟩:=I.lstM hH
 refine call_meets F.slot_list_append ⟨_,e,rfl⟩ F.entry_list_append (F.args_list_append_2 _ _) (PySem.list_append l its.toArray n u (by rw [List.size_toArray]; omega)) ⟨e,?_⟩
 refine ⟨.non,_,I.lset (its':=its ++ [u]) hH e (by simp) (r.append (.cons ru .nil)) ?_,rfl,q⟩
 rw [List.length_append,List.length_singleton]
 omega
def rCat:R2:=fun x y H Q => ∃ l b xs zs,x=.ref l∧y=.ref b∧H l=some (.lst xs)∧H b=some (.lst zs)∧xs.length + zs.length≤sizeLine∧∀ p,H p=none→Q (.ref p) (upd H p (.lst (xs ++ zs)))
theorem op_cat:OpR X (binaryOp .Add) rCat:=by
 intro pins s σ H x y v u Q I rx ry h
 obtain ⟨l,b,xs,zs,rfl,rfl,hH,hB,hz,q⟩:=h
 cases rx
 cases ry
 obtain ⟨z,its,n,r,hl,e⟩:=I.lstM hH
 obtain ⟨z2,its2,n2,r2,hl2,e2⟩:=I.lstM hB
 refine PySem.P.add_list e e2 ?_ (by rw [List.size_toArray,List.size_toArray]; omega)
 have ea:its.toArray ++ its2.toArray=(its ++ its2).toArray:=by simp
 rw [ea]
 exact ⟨.ref _,_,I.lnew (t':=s.toks) (r.append r2) (by rw [List.length_append]; omega),rfl,q _ I.fresh⟩
def rRep:R2:=fun x y H Q => ∃ l k xs,x=.ref l∧y=.int k∧H l=some (.lst xs) ∧ -(2 ^ 63)≤k∧k < 2 ^ 63∧xs.length * k.toNat≤sizeLine ∧
 ∀ p,H p=none→Q (.ref p) (upd H p (.lst (List.replicate k.toNat xs).flatten))
theorem len_rep {α:Type} (xs:List α) (k:Nat):(List.replicate k xs).flatten.length=k * xs.length:=by
 induction k with
 | zero=>simp
 | succ k ih=>rw [List.replicate_succ,List.flatten_cons,List.length_append,ih,Nat.succ_mul,Nat.add_comm]
theorem op_rep:OpR X (binaryOp .Mult) rRep:=by
 intro pins s σ H x y v u Q I rx ry h
 obtain ⟨l,k,xs,rfl,rfl,hH,h1,h2,hz,q⟩:=h
 cases rx
 obtain ⟨t,rfl⟩:=ry
 obtain ⟨z,its,n,r,hl,e⟩:=I.lstM hH
 have hlen:its.toArray.size * k.toNat≤sizeLine:=by rw [List.size_toArray,← hl]; exact hz
 have hcap:¬ its.toArray.size * k.toNat > (2 ^ 63 - 1) / 8:=by
  have:(sizeLine:Nat)≤(2 ^ 63 - 1) / 8:=by decide
  omega
 have hfit:¬ (!Builtin.List.listFitsIndex k)=true:=by
  rw [fitsIndex_both h1 h2]
  exact Bool.false_ne_true
 have hlong:¬ Builtin.List.listTooLong (its.toArray.size * k.toNat)=true:=by
  rw [notLongL hlen]
  exact Bool.false_ne_true
 have hnew:List.foldl (fun x1 x2=>x1 ++ x2) #[] (List.replicate (if its.toArray.isEmpty=true then 0 else k.toNat) its.toArray)=(List.replicate k.toNat its).flatten.toArray:=by
  have f0:∀ m:Nat,List.foldl (fun x1 x2=>x1 ++ x2) #[] (List.replicate m its.toArray)=(List.replicate m its).flatten.toArray:=fun m=>by
   have:=foldl_rep its m []
   rw [List.nil_append] at this
   exact this
  rw [f0]
  cases its with
  | nil=>simp
  | cons a r'=>rw [if_neg (by simp)]
 refine wpAny_binaryOp_repeat_ref (T := "list") (U := "int") (by decide) ⟨_,e,rfl⟩ (fun s'=>typeIs_int s' k t) noFill_list_mul F.fills_int_mul F.slot_int_rmul repeat_list F.slot_int_index.lookup
  (call_meets F.slot_int_rmul (typeIs_int s k t) F.entry_int_rmul (F.args_int_rmul_2 _ _) (int___rmul___int_list k t l its.toArray n)
   ⟨e,rfl,⟨_,e,rfl⟩,call_meets F.slot_list_mul ⟨_,e,rfl⟩ F.entry_list_mul (F.args_list_mul_2 _ _) (AutoListH.list___mul___list_int_3 l its.toArray n k t hfit hcap hlong) ⟨e,?_⟩⟩)
 rw [hnew]
 exact ⟨.ref _,_,I.lnew (t':=s.toks) (r.rep k.toNat) (by rw [len_rep,Nat.mul_comm]; exact hz),rfl,q _ I.fresh⟩
end
end L2
namespace Att
open PySem PySem.W PySem.Calls PyProof.Rows
theorem ij_ {P:Params} {h:Heap}:∀ (ns:List Int) (vs:List Value),WellAll P h vs (ns.map WData.int)→IntsAre vs ns:=by
 intro ns
 induction ns with
 | nil =>
  intro vs w
  rw [List.map_nil] at w
  cases w
  exact .nil
 | cons n ns ih =>
  intro vs w
  rw [List.map_cons] at w
  cases w with
  | cons a b =>
   cases a
   exact .cons _ _ (ih _ b)
theorem script_of {l:OpenLaw} {n:Nat} (hn:l.most=some n) {P:Params} {h:Heap} {args:List WData} {vals:List Value}
  (hpre:l.row.toRowW.claim.pre args=true) (hwl:WellAll P h vals args) :
  ∃ a vs ns,vals=[Value.ref a]∧args=[WData.list (ns.map WData.int)]∧h.get? a=some { cls:=.type "list",data:=.seq vs.toArray }∧IntsAre vs ns∧ns.length≤n:=by
 have hsh:WShape.hasAll [] args [.list .int]=true:=(pre_splitW hpre).1
 have hc:l.pre.holds [] { args:=args }=true:=(pre_splitW hpre).2
 obtain ⟨d,r,rfl,h1,h2⟩:=hasAllW_cons hsh
 obtain rfl:=hasAllW_nil h2
 obtain ⟨xs,rfl,h3⟩:=hasW_list h1
 obtain ⟨ns,rfl⟩:=items_int h3
 have hlen:ns.length≤n:=by
  unfold OpenLaw.pre at hc
  have h4:(WTm.not (.lt (.lit (.int (n:Int))) (.len (.arg 0)))).holds [] { args:=[.list (ns.map .int)] }=true:=by
   have h4:=(holds_andW hc).1
   rw [hn] at h4
   exact h4
  have h5:=condW_of h4 (w_not (w_lt w_lit (w_len_list (w_arg rfl))))
  rw [List.length_map] at h5
  refine Nat.le_of_not_lt fun q => ?_
  have q':(n:Int) < ((ns.length:Nat):Int):=by omega
  first
   | (rw [decide_eq_true q'] at h5; exact absurd h5 (by decide))
   | (simp at h5; omega)
 cases hwl with
 | cons w1 w2 =>
  cases w2
  cases w1 with
  | list ho hall=>exact ⟨_,_,ns,rfl,rfl,ho,ij_ ns _ hall,hlen⟩
theorem post_true (l:OpenLaw) (args:List WData):l.row.toRowW.claim.post args (.bool true) args=true :=
 postW_of (r:=l.row.toRowW) (X:=(true == true))
  (show WShape.has [] (.bool true) .bool=true by first | rfl | decide | simp [WShape.has,WShape.arms,WShape.armsAll])
  (show (WTm.eq .res (.lit (.bool true))).value [] { args:=args,res:=some (.bool true),after:=args }=some (.bool (true == true)) from w_eq_bool (w_res rfl) w_lit) rfl
theorem attach_call {l:OpenLaw} {n:Nat} {q:Program} {loose:List Str} {XP:(Str→Option Value)→Heap→Prop} {YP:World→Heap→Prop} {d:DefRec}
  (hn:l.most=some n) (hdf:d.params.defaults=[])
  (call:∀ (w:World) (s₀ s₁:Shared) (mg mb:MG_) (fa:Addr) (o:Obj) (pm cd doc:Value) (a:Addr) (vs:List Value) (ns:List Int),
   Ground q loose [] XP w s₀ mg mb s₁.heap→YP w s₁.heap →
   s₁.heap.get? fa=some o→o.data=.func (docDef d.name d.params d.body d.scope pm cd doc)→s₁.heap.CodeRec cd d.name→mg d.name=some (.ref fa) →
   s₁.heap.get? a=some { cls:=.type "list",data:=.seq vs.toArray }→IntsAre vs ns→ns.length≤n→s₁.gens = #[] →
   codeAny (model l.prog w) callerA (.call (.ref fa) ⟨[.ref a],[]⟩) (fun r s'=>r=.ok (.ret (.bool true))∧OldK s₁.heap s'.heap∧s'.os=s₁.os∧AllBare s'.gens) s₁) :
  WalkO q loose XP YP l.row.toRowW d [] (fun f vs=>PySem.call f vs):=by
 intro w s₀ s₁ mg mb G Y fa o pm cd doc dV kV ho hd hcd hD hmg hg args vals as hpre hlay hrd hwl hlo
 obtain rfl:dV=.none:=Dflts.none hD hdf
 obtain rfl:kV=.none:=Dflts.noKw hD
 obtain ⟨a,vs,ns,rfl,rfl,hobj,hints,hlen⟩:=script_of hn hpre hwl
 refine enter_call (codeAny_mono (call w s₀ s₁ mg mb fa o pm cd doc a vs ns G Y ho (fd_plain hd) hcd hmg hobj hints hlen hg) fun r s' hq => ?_)
 obtain ⟨rfl,h2,h3,h4⟩:=hq
 exact ⟨.inl ⟨.bool true,.bool true,[],rfl,fun _=>rfl,.bool true,post_true l _,fun _=>⟨List.Pairwise.nil,fun _ hm=>(nomatch hm)⟩⟩,h2,h3,h4⟩
end Att
namespace L2
open PySem PySem.Spec PyProof.Rows
theorem vals_ints:∀ {vs:List Value} {ns:List Int},IntsAre vs ns→Vals (ns.map V.int) vs
 | _,_,.nil=>.nil
 | _,_,.cons n t h=>.cons ⟨t,rfl⟩ (vals_ints h)
def Only (H:Hp):Prop := ∀ b,H b=none∨∃ o xs,H b=some (.frz o (.lst xs))
theorem law_call {P:Program} {w:World} {K:FG_} {mg mb:MG_} {CX:CXT} {k:Nat} {fa a:Addr} {fd:FuncData} {x:Str} {sp:Sp} {s₁:Shared} {vs:List Value} {ns:List Int}
  (KX:K.In s₁.heap) (hns:s₁.heap.Ns mainGlobals mg) (hb:s₁.heap.Ns builtinsNs mb) (hbb:∀ x:Str,x ≠ "__name__" → mb x=bootBuiltins x) (hlim:s₁.heap.NoLimit) (hg:s₁.gens = #[])
  (ha:s₁.heap.get? a=some { cls:=.type "list",data:=.seq vs.toArray }) (hi:IntsAre vs ns) (hl:ns.length≤sizeLine) (hr:Room k callerA)
  (F:∀ base:Heap,K.In base→base.Ns mainGlobals mg→FnOk P w K mg base CX k fa fd [x] sp) (hbind:∀ (s:Shared) (u:Value),BindsTo s fd ⟨[u],[]⟩ [(x,u)])
  (hsp:∀ H:Hp,Only H→SqL K H a (ns.map V.int)→sp [.ref a] H (fun v _=>v=.bl true) fun _ _ _=>False)
  (hCX:∀ H e s',CX [] H s₁ (fun _ _ _=>False) e s'→False) :
  codeAny (model P w) callerA (.call (.ref fa) ⟨[.ref a],[]⟩) (fun r s'=>r=.ok (.ret (.bool true))∧OldK s₁.heap s'.heap∧s'.os=s₁.os∧AllBare s'.gens) s₁:=by
 have rv:=vals_ints hi
 have lenV:=hi.length
 have core:∀ H:Hp,Only H→SqL K H a (ns.map V.int)→HOk P w H s₁.heap→(∀ b,H b≠none→b=a)→(H a≠none→K.lookup a=none) →
   codeAny (model P w) callerA (.call (.ref fa) ⟨[.ref a],[]⟩) (fun r s'=>r=.ok (.ret (.bool true))∧OldK s₁.heap s'.heap∧s'.os=s₁.os∧AllBare s'.gens) s₁:=by
  intro H hO hS hok hA hK
  have base_of:∀ {b:Addr} {o:Obj},s₁.heap.get? b=some o→H b=none→(hidT s₁.heap H).get? b=some o:=fun e n=>hidT_get e n
  have noA:∀ {b:Addr} {o:Obj} {es:Array DictEntry} {ep:Nat},s₁.heap.get? b=some o→o.data=.dict es ep→H b=none:=fun {b o es ep} e d=>by
   cases q:H b with
   | none=>rfl
   | some u =>
    have e':b=a:=hA b (by rw [q]; simp)
    subst e'
    rw [ha] at e; cases e
    have d':Data.seq vs.toArray _=Data.dict es ep:=d
    cases d'
  have nsK:∀ {b:Addr} {m:MG_},s₁.heap.Ns b m→(hidT s₁.heap H).Ns b m:=fun {b m} ⟨o,es,ep,e,d,r⟩=>⟨o,es,ep,base_of e (noA e d),d,r⟩
  have hKb:K.In (hidT s₁.heap H):=fun b o e=>base_of (KX b o e) (by
   cases q:H b with
   | none=>rfl
   | some u =>
    have e':b=a:=hA b (by rw [q]; simp)
    subst e'
    rw [hK (by rw [q]; simp)] at e; cases e)
  have hM:Mod K mg (hidT s₁.heap H):=⟨hKb,nsK hns,⟨mb,nsK hb,hbb⟩,let ⟨mc,h1,h2⟩:=hlim; ⟨mc,nsK h1,h2⟩⟩
  have e0:Env0 P w K mg (hidT s₁.heap H) callerA [] s₁ H:=⟨rfl,hM,fun b o e=>of_hidT e,Nat.le_of_eq (hidT_size _ _),trivial,fun b hb=>absurd (show b∈([]:List Addr) from hb) (by simp),hok,.of_eq hg⟩
  refine codeAny_mono ((F _ hKb (nsK hns)).run callerA [] s₁ H ⟨[.ref a],[]⟩ [.ref a] [.ref a] _ _ hr e0 (hbind s₁ (.ref a)) (.cons rfl .nil) (hsp H hO hS)) fun r s' h => ?_
  cases r with
  | error e=>exact (hCX H e s' h).elim
  | ok fl =>
   cases fl with
   | next=>exact False.elim h
   | brk=>exact False.elim h
   | cont=>exact False.elim h
   | ret u =>
    obtain ⟨v,H',os,bare,un,hok',r',q⟩:=h
    have q':v=.bl true:=q
    subst q'
    obtain rfl:u=Value.bool true:=r'
    refine ⟨rfl,OldK.of_keep fun b o e => ?_,os,bare⟩
    cases q:H b with
    | none=>exact un.keep b o e q (by intro z; exact absurd (show b∈([]:List Addr) from z) (by simp)) (by simp)
    | some u =>
     rcases hO b with z | ⟨ob,xs,z⟩
     ·rw [q] at z; cases z
     ·have z2:=un.frzs b ob _ z
      obtain ⟨e1,_⟩:=hok b _ z
      obtain ⟨e2,_⟩:=hok' b _ z2
      rw [e] at e1; cases e1
      exact e2
 cases hk:K.lookup a with
 | some o =>
  have e:=KX a o hk
  rw [ha] at e
  cases e
  refine core (fun _=>none) (fun _=>.inl rfl) (.inr ⟨_,vs.toArray,_,hk,rfl,rfl,rfl,by rw [List.size_toArray,lenV]; exact hl,by simpa using rv⟩) (fun b u z=>by have z':(none:Option HO)=some u:=z; cases z') (fun b z=>absurd rfl z) fun z=>absurd rfl z
 | none =>
  refine core (fun b=>if b=a then some (.frz { cls:=.type "list",data:=.seq vs.toArray } (.lst (ns.map V.int))) else none) (fun b => ?_) (.inl (.inr ⟨{ cls:=.type "list",data:=.seq vs.toArray },if_pos rfl⟩)) (fun b u z => ?_) (fun b z => ?_) fun _=>hk
  ·by_cases hb:b=a
   ·exact .inr ⟨_,_,if_pos hb⟩
   ·exact .inl (if_neg hb)
  ·by_cases hb:b=a
   ·have z':=(if_pos hb).symm.trans z
    cases z'
    subst hb
    exact ⟨ha,by rw [List.length_map]; exact hl,vs,_,rv,ha⟩
   ·have z':=(if_neg hb).symm.trans z
    cases z'
  ·by_cases hb:b=a
   ·exact hb
   ·exact absurd (if_neg hb) z
def defArgs (s:Stmt):Arguments:=match s with
 | .FunctionDef _ a _ _ _ _ _ _ _ _=>a
 | _=>{ posonlyargs:=[],args:=[],vararg:=none,kwonlyargs:=[],kw_defaults:=[],kwarg:=none,defaults:=[] }
def defBody (s:Stmt):List Stmt:=match s with
 | .FunctionDef _ _ b _ _ _ _ _ _ _=>b
 | _=>[]
def defScope (s:Stmt):Scope:=match s with
 | .FunctionDef _ _ _ _ _ _ sc _ _ _=>sc
 | _=>{ kind:=.function,names:=[],isGenerator:=false,isCoroutine:=false }
abbrev CX0:CXT:=fun _ _ _ _ _ _=>False
abbrev E0:XK:=fun _ _ _=>False
theorem pass0 {X:Cx}:Passes CX0 X E0:=fun _ _ _ _ _ _ _ h=>h.elim
structure Fun (K:FG_) (x qual:Str) (st:Stmt) (f:Addr) (fd:FuncData):Prop where
 ex:∃ (oc:Value) (od:Option Addr) (kV doc pm:Value) (an:Option Addr) (cdv ct:Value) (osl:Array (Option Value)),
  fd=PySem.W.fnOf x qual (defArgs st) (defBody st) (defScope st) .none kV doc pm an cdv ct∧K.lookup f=some ⟨oc,od,.func fd,osl⟩∧PySem.W.codeIn K cdv qual=true
 kp:PySem.W.keepIn K (.ref f)=true
section
variable {P:Program} {w:World} {K:FG_} {mg:MG_} {base:Heap}
theorem Fun.ok {x qual:Str} {st:Stmt} {f:Addr} {fd:FuncData} {N ps:List Str} {k:Nat} {sp:Sp} (F:Fun K x qual st f fd) (S:FnScope N ps (defScope st)) (len:∀ vs H Q E,sp vs H Q E→vs.length=ps.length)
  (hbody:∀ (cdv:Value) (A:Around) (outer:List Env) (s:Shared) (H:Hp) (vs:List V) (Q:VK) (E:XK),Room k (A.deeper (envOfC qual (defScope st) s.heap.objs.size f cdv))→sp vs H Q E →
   ∃ t,PSs (cxOf CX0 P w K mg base N qual (defScope st) f cdv A outer s H E).nox (defBody st) t∧t { nx:=fun _ H'=>Q .non H',rt:=Q } (start N vs) H):FnOk P w K mg base CX0 (k + 1) f fd ps sp:=by
 obtain ⟨oc,od,kV,doc,pm,an,cdv,ct,osl,rfl,lk,hcd⟩:=F.ex
 refine fn_of lk hcd S len fun A outer s H vs Q E hr hsp => ?_
 obtain ⟨t,h,q⟩:=hbody cdv A outer s H vs Q E hr hsp
 exact ⟨t,h.nox,q⟩
theorem Fun.binds {x qual:Str} {st:Stmt} {f:Addr} {fd:FuncData} {ps:List Str} (F:Fun K x qual st f fd)
  (h:∀ (kV doc pm:Value) (an:Option Addr) (cdv ct:Value) (us:List Value),us.length=ps.length→bindArgs (PySem.W.fnOf x qual (defArgs st) (defBody st) (defScope st) .none kV doc pm an cdv ct) ⟨us,[]⟩=pure (ps.zip us)):Binds K fd ps []:=by
 obtain ⟨oc,od,kV,doc,pm,an,cdv,ct,osl,rfl,lk,hcd⟩:=F.ex
 exact .all (h kV doc pm an cdv ct)
end
theorem en_ {A:Around} {k:Nat} (hr:Room k A):A.units + 1 < cLine:=Nat.lt_of_le_of_lt (Nat.add_le_add_left (by decide:1≤64) _) hr.units
section
variable {X:Cx}
theorem pv (i:Nat) {x:Str} {pos:Pos} (hN:X.N[i]? = some x:=by rfl) (hv:Vis X.env.scope x:=by first | exact Or.inl rfl | exact Or.inr (Or.inl rfl) | exact Or.inr (Or.inr rfl)) (hd:(x == ("__debug__" : Str))=false:=by decide)
  (hcd:(x == ("__classdict__" : Str))=false:=by decide):PE X (.Name x pos) (tVar i):=pe_var hN hv hd hcd
end
theorem iteF {A B:Prop} (h:B):if false=true then A else B:=by
 rw [if_neg Bool.false_ne_true]
 exact h
theorem iteT {A B:Prop} (h:A):if true=true then A else B:=by
 rw [if_pos rfl]
 exact h
theorem ite2 {c A B:Prop} [Decidable c] (h1:c→A) (h2:¬ c→B):if c then A else B:=by
 by_cases h:c
 ·rw [if_pos h]
  exact h1 h
 ·rw [if_neg h]
  exact h2 h
def Same (H H':Hp):Prop := ∀ b o,H b=some o→H' b=some o
theorem Same.refl (H:Hp):Same H H:=fun _ _ h=>h
section
variable {X:Cx}
def CDivB (_ j:Int):Prop:=0 < j∧j < 2 ^ 250
theorem log2_big {j:Int} (h1:0 < j) (h2:j < 2 ^ 250):j.natAbs.log2 < 9000:=by
 have h0:j.natAbs≠0:=by omega
 have h3:j.natAbs < 2 ^ 250:=by omega
 exact Nat.lt_trans ((Nat.log2_lt h0).mpr h3) (by decide)
theorem op_fdivB:OpR X (binaryOp .FloorDiv) (rI CDivB fun i j=>.int (i / j)):=opI fun i j _ _ _ _ _ hc q=>by
 have h1:(0:Int) < j:=hc.1
 exact floordiv_int (by omega) (by rw [Int.fdiv_eq_ediv_of_nonneg i (by omega)]; exact q) (.inl (PyProof.noPylong_of_log2 (log2_big hc.1 hc.2)))
def CMulB (i j:Int):Prop:=i.natAbs < 2 ^ 250∧j.natAbs < 2 ^ 250
theorem CMulB.ok {i j:Int} (h:CMulB i j):IntMulOk i j:=by
 have a:Builtin.Int.intBits i≤250:=intBits_le h.1
 have b:Builtin.Int.intBits j≤250:=intBits_le h.2
 unfold IntMulOk Builtin.Int.intTooBig
 intro z
 rw [Bool.and_eq_true] at z
 have c:=of_decide_eq_true z.2
 rw [bitsLine_eq] at c
 omega
theorem op_mulB:OpR X (binaryOp .Mult) (rI CMulB fun i j=>.int (i * j)):=opI fun _ _ _ _ _ _ _ hc q=>mul_int q hc.ok
theorem call_isinst:CallR X (.builtin "isinstance") (fun xs H Q => ∃ x n t b,xs=[x,.ty n]∧TyOf X.K H x t∧PySem.W.kitOne X.K t (.type n)=some b∧Q (.bl b) H):=by
 intro pins s σ H xs us Q I r h
 obtain ⟨x,n,t,b,rfl,ty,e,q⟩:=h
 obtain ⟨u,w',rfl,r1,r2⟩:=vals2 r
 cases (show w'=Value.type n from r2)
 exact da_ I r1 ty e (fun tk=>⟨.bl b,H,I.tok _,rfl,q⟩)
end
section
variable {K:FG_}
theorem hf_ (T:String):PySem.W.kitOne K (.type T) (.type T)=some true:=by
 unfold PySem.W.kitOne
 rw [if_pos (beq_self_eq_true _)]
theorem ih_ {T S:String} {b:Bool} (h1:(Value.type T == Value.type S)=false) (h2:PySem.W.kitMeta S=true) (h3:(fastBuiltinMro T).map (·.contains (Value.type S))=some b):PySem.W.kitOne K (.type T) (.type S)=some b:=by
 unfold PySem.W.kitOne
 rw [if_neg (by rw [h1]; exact Bool.false_ne_true)]
 show (if PySem.W.kitMeta S=true then PySem.W.subIn K (.type T) (.type S) else none)=some b
 rw [if_pos h2]
 exact h3
theorem ct_:bootBuiltins "isinstance" = some (.builtin "isinstance"):=by decide +kernel
theorem bt_max:bootBuiltins "max" = some (.builtin "max"):=by decide +kernel
theorem bt_min:bootBuiltins "min" = some (.builtin "min"):=by decide +kernel
theorem bt_int:bootBuiltins "int" = some (.type "int"):=by decide +kernel
theorem bt_bool:bootBuiltins "bool" = some (.type "bool"):=by decide +kernel
theorem bt_str:bootBuiltins "str" = some (.type "str"):=by decide +kernel
theorem fj_:bootBuiltins "list" = some (.type "list"):=by decide +kernel
theorem eo_:bootBuiltins "tuple" = some (.type "tuple"):=by decide +kernel
theorem bt_dict:bootBuiltins "dict" = some (.type "dict"):=by decide +kernel
end
theorem closure_of {scope:Scope} {env:Env} (h:∀ y∈scope.names,y.2=.free→∃ c,env.cells.lookup y.1=some c) :
  ∃ cl,closureFor scope env=pure cl∧(∀ x c,cl.lookup x=some c→env.cells.lookup x=some c)∧(∀ y∈scope.names,y.2=.free→∃ c,cl.lookup y.1=some c):=by
 have key:∀ (ns:List (Str×NameKind)) (cs:List (Str×Addr)),(∀ y∈ns,y.2=.free→∃ c,env.cells.lookup y.1=some c)→(∀ x c,cs.lookup x=some c→env.cells.lookup x=some c) →
   ∃ cl,(forIn ns cs fun (x:Str×NameKind) (cs:List (Str×Addr))=>(if x.2 == .free then do let c ← cellOf env x.1; pure (ForInStep.yield ((x.1,c) :: cs)) else pure (ForInStep.yield cs):Sem _))=pure cl ∧
    (∀ x c,cl.lookup x=some c→env.cells.lookup x=some c)∧(∀ x c,cs.lookup x=some c→∃ c,cl.lookup x=some c)∧(∀ y∈ns,y.2=.free→∃ c,cl.lookup y.1=some c):=by
  intro ns
  induction ns with
  | nil=>intro cs _ hc; exact ⟨cs,rfl,hc,fun x c e=>⟨c,e⟩,fun y hy=>nomatch hy⟩
  | cons y r ih =>
   intro cs hn hc
   obtain ⟨n,k⟩:=y
   by_cases hk:k=.free
   ·subst hk
    obtain ⟨c,e⟩:=hn (n,.free) List.mem_cons_self rfl
    obtain ⟨cl,e1,e2,e3,e4⟩:=ih ((n,c) :: cs) (fun y hy=>hn y (List.mem_cons_of_mem _ hy)) (fun x c' q=>by
     rw [List.lookup_cons] at q
     cases hx:x == n with
     | true =>
      rw [hx] at q
      cases q
      have:x=n:=by simpa using hx
      rw [this]
      exact e
     | false =>
      rw [hx] at q
      exact hc x c' q)
    refine ⟨cl,?_,e2,fun x c' q => ?_,fun y hy hyk => ?_⟩
    ·rw [List.forIn_cons]
     have e':env.cells.lookup n=some c:=e
     simp only [beq_self_eq_true,if_true,cellOf,e']
     exact e1
    ·cases hx:x == n with
     | true=>exact e3 x c (by rw [List.lookup_cons,hx])
     | false=>exact e3 x c' (by rw [List.lookup_cons,hx]; exact q)
    ·rcases List.mem_cons.mp hy with rfl | hy
     ·exact e3 n c (by rw [List.lookup_cons]; simp)
     ·exact e4 y hy hyk
   ·obtain ⟨cl,e1,e2,e3,e4⟩:=ih cs (fun y hy=>hn y (List.mem_cons_of_mem _ hy)) hc
    refine ⟨cl,?_,e2,e3,fun y hy hyk => ?_⟩
    ·rw [List.forIn_cons]
     have hb:(k == NameKind.free)=false:=by simpa using hk
     simp only [hb,Bool.false_eq_true,if_false]
     exact e1
    ·rcases List.mem_cons.mp hy with rfl | hy
     ·exact absurd hyk hk
     ·exact e4 y hy hyk
 obtain ⟨cl,e1,e2,_,e4⟩:=key scope.names [] h (fun x c e=>by simp at e)
 refine ⟨cl,?_,e2,e4⟩
 simp only [closureFor]
 rw [show (forIn scope.names ([]:List (Str×Addr)) fun (x:Str×NameKind) (cs:List (Str×Addr))=>(if x.2 == .free then do let c ← cellOf env x.1; pure (ForInStep.yield ((x.1,c) :: cs)) else pure (ForInStep.yield cs):Sem _))=pure cl from e1]
 rfl
theorem hv_ {scope:Scope} {env:Env} {x:Str} {k:NameKind} (h:(relabel scope env).names.lookup x=some k):∃ k0,scope.names.lookup x=some k0∧(k0=k∨(k0=.free∧k=.cell)):=by
 unfold relabel at h
 dsimp only at h
 revert h
 generalize scope.names=ns
 induction ns with
 | nil=>intro h; simp at h
 | cons y r ih =>
  obtain ⟨n,k'⟩:=y
  intro h
  rw [List.map_cons] at h
  cases hx:x == n with
  | true =>
   rw [List.lookup_cons,hx]
   refine ⟨k',rfl,?_⟩
   dsimp only at h
   split at h
   ·rename_i hc
    rw [List.lookup_cons,hx] at h
    cases h
    rw [Bool.and_eq_true,Bool.and_eq_true] at hc
    exact .inr ⟨by simpa using hc.1.1,rfl⟩
   ·rw [List.lookup_cons,hx] at h
    cases h
    exact .inl rfl
  | false =>
   rw [List.lookup_cons,hx]
   dsimp only at h
   apply ih
   split at h
   ·rw [List.lookup_cons,hx] at h; exact h
   ·rw [List.lookup_cons,hx] at h; exact h
theorem relabel_free {scope:Scope} {env:Env} {x:Str} (h:scope.names.lookup x=some .free) (hk:env.scope.kind=.function) (hc:env.kindOf x=some .cell):(relabel scope env).names.lookup x=some .cell:=by
 unfold relabel
 dsimp only
 revert h
 generalize scope.names=ns
 induction ns with
 | nil=>intro h; simp at h
 | cons y r ih =>
  obtain ⟨n,k'⟩:=y
  intro h
  rw [List.map_cons]
  cases hx:x == n with
  | true =>
   rw [List.lookup_cons,hx] at h
   cases h
   have:x=n:=by simpa using hx
   subst this
   dsimp only
   rw [if_pos (by rw [hk,hc]; rfl),List.lookup_cons,hx]
  | false =>
   rw [List.lookup_cons,hx] at h
   dsimp only
   split
   ·rw [List.lookup_cons,hx]; exact ih h
   ·rw [List.lookup_cons,hx]; exact ih h
section
variable {prog:Program} {w:World} {A:Around} {R:Result→Shared→Prop} {s:Shared}
theorem compLoop_any {elt target iter:Expr} {ifs:List Expr} {scope:Scope} {pos:Pos} {it acc:Value} {env:Env} (I:Nat→Shared→Prop)
  (turn:∀ n s,I n s→wpAny (model prog w) A (pyNext it) (fun r s₁=>match r with
   | none=>R (.ok .next) s₁
   | some v => wpAny (model prog w) A (letOwnedTupleGo target it v) (fun _ s₀ => wpAny (model prog w) A (assign target env v) (fun _ s₂ =>
     wpAny (model prog w) A (forIn ifs true fun c r=>if r=true then do let ok ← isTrue c env (eval c env); pure (ForInStep.yield ok) else pure (ForInStep.yield r)) (fun ok s₃ =>
      if ok=true then wpAny (model prog w) A (eval elt env) (fun x s₄ =>
       wpAny (model prog w) A (call (.builtin "list.append") [acc,x]) (fun _ s₅ => ∃ m,m < n∧I m s₅) (fun _ _=>False) s₄) (fun _ _=>False) s₃
      else ∃ m,m < n∧I m s₃) (fun _ _=>False) s₂) (fun _ _=>False) s₀) (fun _ _=>False) s₁) (fun _ _=>False) s)
  (n:Nat) (h:I n s) :
  codeAny (model prog w) A (.compLoop (.ListComp elt [⟨target,iter,ifs,0⟩] scope pos) 0 it acc env) R s:=by
 refine codeAny_loop rfl I (fun n s hI => ?_) n h
 show wpAny _ A ((compTurn (.ListComp elt [⟨target,iter,ifs,0⟩] scope pos) 0 it acc env).onRaise (fun x=>do noteFrame x env; theTreesLotGoes x)) _ _ s
 refine wpAny_noted ?_
 rw [compTurn_list]
 refine wpAny_bind (wpAny_standAt (wpAny_bind (wpAny_mono (turn n s hI) (fun r s₁ h₁ => ?_) fun _ _ h'=>h'.elim)))
 cases r with
 | none=>exact wpAny_pure h₁
 | some v =>
  refine wpAny_bind (wpAny_mono h₁ (fun _ s₀ h₀ => ?_) fun _ _ h'=>h'.elim)
  refine wpAny_bind (wpAny_mono h₀ (fun _ s₂ h₂=>wpAny_bind (wpAny_mono h₂ (fun ok s₃ h₃ => ?_) fun _ _ h'=>h'.elim)) fun _ _ h'=>h'.elim)
  cases ok with
  | false=>exact wpAny_pure ⟨rfl,h₃⟩
  | true =>
   exact wpAny_bind (wpAny_bind (wpAny_mono h₃ (fun x s₄ h₄=>wpAny_bind (wpAny_mono h₄ (fun _ s₅ h₅=>wpAny_pure (wpAny_pure ⟨rfl,h₅⟩)) fun _ _ h'=>h'.elim)) fun _ _ h'=>h'.elim))
end
section
variable {X:Cx} {pins:PN_} {σ:St} {H:Hp} {s:Shared}
def PCs (X:Cx) (ifs:List Expr) (t:TT):Prop :=
 ∀ (pins:PN_) (s:Shared) (σ:St) (H:Hp) (Q:Bool→Hp→Prop),Inv X pins σ H s→t σ H Q →
  wpAny (model X.prog X.w) X.A (forIn ifs true fun c r=>if r=true then do let ok ← isTrue c X.env (eval c X.env); pure (ForInStep.yield ok) else pure (ForInStep.yield r)) (TP X pins σ Q) X.xe s
def tYes:TT:=fun _ H Q=>Q true H
theorem pcs_nil:PCs X [] tYes:=fun pins s σ H Q I h=>wpAny_tests_nil ⟨H,I,h⟩
theorem pcs_one {c:Expr} {t:TT} (h:PT X c t):PCs X [c] t:=fun pins s σ H Q I q=>wpAny_tests_one (h pins s σ H Q I q)
end
def pick (n:Nat) (outs:List Nat) (σ:St):St:=List.replicate n none ++ outs.map fun j=>(σ[j]?).join
theorem fq_ (n:Nat) (outs:List Nat) (σ:St):(pick n outs σ).length=n + outs.length:=by
 unfold pick
 rw [List.length_append,List.length_replicate,List.length_map]
def cxComp (X:Cx) (N':List Str) (scope:Scope) (cl:List (Str×Addr)) (C:Addr) (s:Shared) (H:Hp) (ex:List Addr):Cx where
 prog:=X.prog
 w:=X.w
 K:=X.K
 mg:=X.mg
 base:=X.base
 A:=X.A
 N:=N'
 s₀:=s
 H₀:=H
 env:=compEnvC scope cl C X.env
 outer:=X.stack
 stack:=X.stack
 ex:=ex
 fn:=fun _=>false
 calm:=X.calm
 pn:=[]
 xe:=fun _ _=>False
structure CompScope (dsc scope:Scope) (N tgs:List Str) (outs:List Nat) (N':List Str):Prop where
 kind:scope.kind=.function
 names:∀ x∈scope.names,x.2=.local→scope.names.lookup x.1=some .local
 nocell:∀ y∈scope.names,y.2 ≠ .cell
 free:∀ y∈scope.names,y.2=.free→dsc.names.lookup y.1=some .cell
 isN:N'=tgs ++ outs.map (fun j=>N.getD j "")
 lts:∀ j∈outs,j < N.length
 outF:∀ j∈outs,scope.names.lookup (N.getD j "")=some .free
 nd:N'.Nodup
def Tgt (n:Nat) (g:TG):Prop := ∀ x σ H Q,g x σ H Q→g x σ H (fun σ2 H2=>Q σ2 H2∧σ2.length=σ.length∧∀ i,n≤i→σ2[i]? = σ[i]?)
theorem bl_ {n i:Nat} (h:i < n):Tgt n (gName i):=fun x σ H Q q=>⟨q,by rw [List.length_set],fun j hj=>List.getElem?_set_ne (by omega)⟩
def Tgts (n:Nat) (g:TGs):Prop := ∀ xs σ H Q,g xs σ H Q→g xs σ H (fun σ2 H2=>Q σ2 H2∧σ2.length=σ.length∧∀ i,n≤i→σ2[i]? = σ[i]?)
theorem ds_ {n:Nat}:Tgts n gNil:=fun xs σ H Q ⟨e,q⟩=>⟨e,q,rfl,fun _ _=>rfl⟩
def TMono (g:TGs):Prop := ∀ xs σ H Q Q',(∀ σ2 H2,Q σ2 H2→Q' σ2 H2)→g xs σ H Q→g xs σ H Q'
theorem bg_ {n i:Nat} {u:TGs} (h:i < n) (hu:Tgts n u) (mu:TMono u):Tgts n (gCons (gName i) u):=fun xs σ H Q ⟨v,r,e,q⟩=>by
 refine ⟨v,r,e,?_⟩
 have z:=hu r (σ.set i (some v)) H Q q
 refine mu r _ H _ _ (fun σ2 H2 ⟨a,b,c⟩=>⟨a,?_,fun j hj => ?_⟩) z
 ·rw [b,List.length_set]
 ·rw [c j hj,List.getElem?_set_ne (by omega)]
theorem bf_:TMono gNil:=fun xs σ H Q Q' h ⟨e,q⟩=>⟨e,h _ _ q⟩
theorem cn_ {i:Nat} {u:TGs} (mu:TMono u):TMono (gCons (gName i) u):=fun xs σ H Q Q' h ⟨v,r,e,q⟩=>⟨v,r,e,mu r _ H _ _ h q⟩
theorem hs_ {K:FG_} {n k:Nat} {t:TGs} (h:Tgts n t):Tgt n (gTup K k t):=fun x σ H Q ⟨a,xs,e,hq,hl,q⟩=>⟨a,xs,e,hq,hl,h xs σ H Q q⟩
def tComp (n:Nat) (outs:List Nat) (wi:TI) (g:TG) (tc:TT) (te:TE):TE:=fun σ H Q=>wi σ H fun J H1 =>
 ∃ W:Nat→Nat→List V→Hp→Prop,(∃ m,W 0 m [] H1)∧∀ i m acc H,W i m acc H →
  (J.stop i H∧acc.length≤sizeLine∧∀ l,H l=none→Q (.ref l) (upd H l (.lst acc))) ∨
  (J.go i H∧acc.length < sizeLine∧∃ N:List V→Hp→Prop,(∀ acc' H',N acc' H'→∃ m',m' < m∧W (i + 1) m' acc' H')∧∀ x H',J.yld i H x H'→g x (pick n outs σ) H' fun σ2 H2=>tc σ2 H2 fun b H3 =>
   if b=true then te σ2 H3 fun y H4=>N (acc ++ [y]) H4 else N acc H3)
section
variable {X:Cx} {pins:PN_} {σ:St} {H2:Hp} {s2:Shared} {dsc scope:Scope} {tgs N':List Str} {outs:List Nat} {cl:List (Str×Addr)} {fp:List Addr} {C D:Addr} {h1:Heap} {tk:Nat} {mC:MG_}
theorem comp_start (S:CompScope dsc scope X.N tgs outs N') (hsc:X.env.scope=dsc) (I2:Inv X pins σ H2 s2) (f2:∀ b∈fp,FpOk X pins H2 b) (hfp:∀ b∈fp,b < s2.heap.objs.size)
  (hcl1:∀ x c,cl.lookup x=some c→X.env.cells.lookup x=some c) (hcl2:∀ y∈scope.names,y.2=.free→∃ c,cl.lookup y.1=some c)
  (hC:s2.heap.objs.size≤C) (kp:∀ b o,s2.heap.get? b=some o→h1.get? b=some o) (nC:h1.Ns C mC) :
  Inv (cxComp X N' scope cl C s2 H2 fp) [] (pick tgs.length outs σ) H2 { s2 with heap:=h1,toks:=tk }:=by
 have freeAt:∀ x,scope.names.lookup x=some .free→(relabel scope X.env).names.lookup x=some .cell:=fun x e =>
  relabel_free e I2.ok.kind (by show X.env.scope.names.lookup x=some .cell; rw [hsc]; exact S.free (x,.free) (PySem.mem_of_lookup e) rfl)
 refine ⟨⟨I2.ok.mod,?_,I2.ok.glob,I2.ok.blt,hC,fun x y c e1 e2=>I2.ok.inj x y c (hcl1 x c e1) (hcl1 y c e2),fun x hx => ?_,(fun x c h=>nomatch h),I2.ok.hd,I2.ok.frames,.inl rfl,fun b hb => ?_,I2.bs,Nat.le_trans I2.ok.bsz I2.sz,fun b o e hb => ?_,fun b hb => ?_,I2.stack,I2.stkFree⟩,
  rfl,I2.bare,Un.kept kp,⟨mC,nC,fun i x v e1 e2 e3 => ?_⟩,fun x c e => ?_,I2.hok.fresh hC,fun x c e=>I2.freeC x c (hcl1 x c e),fun p hp=>absurd (show p∈([]:PN_) from hp) (by simp),I2.hok.kept kp,?_⟩
 ·exact S.kind
 ·have hx':(relabel scope X.env).names.lookup x=some .cell∨(relabel scope X.env).names.lookup x=some .free:=hx
  have z:scope.names.lookup x=some .free:=by
   rcases hx' with hx' | hx'
   ·obtain ⟨k0,e,h | ⟨h,_⟩⟩:=hv_ hx'
    ·rw [h] at e
     exact absurd rfl (S.nocell _ (PySem.mem_of_lookup e))
    ·rw [h] at e; exact e
   ·obtain ⟨k0,e,h | ⟨h,_⟩⟩:=hv_ hx'
    ·rw [h] at e; exact e
    ·rw [h] at e; exact e
  exact hcl2 (x,.free) (PySem.mem_of_lookup z) rfl
 ·refine ⟨fun z => ?_,fun x c e=>(f2 b hb).2.2.2.2.1 x c (hcl1 x c e)⟩
  have z':b=C:=z
  exact absurd (Nat.lt_of_lt_of_le (hfp b hb) hC) (by rw [z']; exact Nat.lt_irrefl _)
 ·rcases (f2 b hb).2.2.2.1 with z | z
  ·exact I2.ok.noex b o e z
  ·exact absurd (Nat.lt_of_lt_of_le (Heap.lt_size e) (Nat.le_trans I2.ok.bsz z)) (Nat.lt_irrefl _)
 ·intro z
  rcases List.mem_cons.mp (I2.stkSub b z) with z | z
  ·exact (f2 b hb).2.1 z
  ·exact (f2 b hb).2.2.1 z
 ·have e2':(List.replicate tgs.length (none:Option V) ++ outs.map fun j=>(σ[j]?).join)[i]? = some (some v):=e2
  have e1':N'[i]? = some x:=e1
  by_cases hi:i < tgs.length
  ·rw [List.getElem?_append_left (by rw [List.length_replicate]; exact hi),List.getElem?_replicate,if_pos hi] at e2'
   cases e2'
  ·rw [List.getElem?_append_right (by rw [List.length_replicate]; omega),List.length_replicate,List.getElem?_map] at e2'
   rw [S.isN,List.getElem?_append_right (by omega),List.getElem?_map] at e1'
   cases ej:outs[i - tgs.length]? with
   | none=>rw [ej] at e2'; cases e2'
   | some j =>
    rw [ej] at e1' e2'
    have hj:j∈outs:=List.mem_of_getElem? ej
    have ex:X.N.getD j "" = x:=Option.some.inj e1'
    have ev:(σ[j]?).join=some v:=Option.some.inj e2'
    have ev':σ[j]? = some (some v):=by
     cases q:σ[j]? with
     | none=>rw [q] at ev; cases ev
     | some o=>rw [q] at ev; exact congrArg some ev
    have eN:X.N[j]? = some x:=by
     have hl:=S.lts j hj
     rw [← ex,List.getD_eq_getElem?_getD,List.getElem?_eq_getElem hl]
     rfl
    have fx:scope.names.lookup x=some .free:=by rw [← ex]; exact S.outF j hj
    have cx:X.env.scope.names.lookup x=some .cell:=by rw [hsc]; exact S.free (x,.free) (PySem.mem_of_lookup fx) rfl
    obtain ⟨m,hn,hl⟩:=I2.loc
    obtain ⟨u,ru,lk⟩:=hl j x v eN ev' (.inr (.inl cx))
    refine ⟨u,ru,?_⟩
    rcases lk with ⟨k,_⟩ | ⟨k,c,ec,⟨oc,hoc,hdc⟩⟩
    ·have k':X.env.scope.names.lookup x=some .local:=k
     rw [cx] at k'; cases k'
    ·obtain ⟨c',ec'⟩:=hcl2 (x,.free) (PySem.mem_of_lookup fx) rfl
     have ecc:=hcl1 x c' ec'
     rw [ec] at ecc
     cases ecc
     exact .inr ⟨.inl (freeAt x fx),c,ec',oc,kp _ _ hoc,hdc⟩
 ·obtain ⟨v,oc,hoc,hdc⟩:=I2.cell x c (hcl1 x c e)
  exact ⟨v,oc,kp _ _ hoc,hdc⟩
 ·show (pick tgs.length outs σ).length=N'.length
  rw [fq_,S.isN,List.length_append,List.length_map]
theorem comp_end {σ5:St} {H5:Hp} {s5:Shared} {acc:List V} {its:List Value} {n:Nat} (I2:Inv X pins σ H2 s2) (I5:Inv (cxComp X N' scope cl C s2 H2 fp) [] σ5 H5 s5) (f2:∀ b∈fp,FpOk X pins H2 b)
  (hD:s2.heap.objs.size≤D) (eD:s5.heap.get? D=some { cls:=.type "list",data:=.seq its.toArray n }) (r:Vals acc its) (hz:acc.length≤sizeLine) (hn:H5 D=none):Inv X pins σ (upd H5 D (.lst acc)) s5:=by
 have ne:∀ b o,s2.heap.get? b=some o→b≠D:=fun b o e z=>absurd (Nat.lt_of_lt_of_le (Heap.lt_size e) (by rw [z]; exact hD)) (Nat.lt_irrefl _)
 refine I2.call' (ch:=fp) I5.os ⟨fun b o e nn hb hx => ?_,fun b o e nn hb hx => ?_,fun b o e nn hx => ?_,fun b o e hx => ?_,fun b xs e => ?_,fun b o u e => ?_,fun b ps e => ?_⟩ (fun b u e => ?_) I5.bare fun b hb=>⟨(f2 b hb).2.2.2.1,(f2 b hb).2.1,(f2 b hb).2.2.2.2.1,(f2 b hb).2.2.2.2.2⟩
 ·exact I5.base.keep b o e nn hb hx
 ·exact I5.base.slot b o e nn hb hx
 ·rw [ah_ (ne b o e)]
  exact I5.base.free b o e nn hx
 ·exact I5.base.there b o e hx
 ·have q:=I5.base.tups b xs e
  rw [ah_ (ba_ q hn)]
  exact q
 ·have q:=I5.base.frzs b o u e
  rw [ah_ (ba_ q hn)]
  exact q
 ·obtain ⟨more,q⟩:=I5.base.tbls b ps e
  refine ⟨more,?_⟩
  rw [ah_ (ba_ q hn)]
  exact q
 ·by_cases hb:b=D
  ·subst hb
   rw [upd_same] at e
   cases e
   exact ⟨hz,its,n,r,eD⟩
  ·rw [ah_ hb] at e
   exact (I5.hok b u e).stay (fun c v _ q=>q) (fun c q=>by rw [ah_ (ba_ q hn)]; exact q) fun c xs q=>by rw [ah_ (ba_ q hn)]; exact q
end
theorem pick_weak {n:Nat} {outs:List Nat} {σ σ6:St} (k6:∀ i,n≤i→σ6[i]? = (pick n outs σ)[i]?):∀ (i:Nat) v,(pick n outs σ)[i]? = some (some v)→σ6[i]? = some (some v):=fun i v e=>by
 by_cases hi:n≤i
 ·rw [k6 i hi]; exact e
 ·unfold pick at e
  rw [List.getElem?_append_left (by rw [List.length_replicate]; omega),List.getElem?_replicate,if_pos (by omega)] at e
  cases e
section
variable {X:Cx} {tg elt iter:Expr} {ifs:List Expr} {dsc scope:Scope} {tgs N':List Str} {outs:List Nat} {wi:TI} {g:TG} {tc:TT} {te:TE} {pos:Pos}
theorem comp_block {pins:PN_} {σ:St} {H2:Hp} {s2:Shared} {cl:List (Str×Addr)} {it:Addr} {fp:List Addr} {tn:Nat→Heap→Prop} {J:It} (S:CompScope dsc scope X.N tgs outs N') (hsc:X.env.scope=dsc) (hc:X.calm=true)
  (hg:∀ cl C s H ex,PG (cxComp X N' scope cl C s H ex) tg g) (hgt:Tgt tgs.length g) (hcs:∀ cl C s H ex,PCs (cxComp X N' scope cl C s H ex) ifs tc) (he:∀ cl C s H ex,PE (cxComp X N' scope cl C s H ex) elt te)
  (hcl1:∀ x c,cl.lookup x=some c→X.env.cells.lookup x=some c) (hcl2:∀ y∈scope.names,y.2=.free→∃ c,cl.lookup y.1=some c)
  (I2:Inv X pins σ H2 s2) (T:Turn X.prog X.w X.K tg J fp it tn) (st2:tn 0 s2.heap) (f2:∀ b∈fp,FpOk X pins H2 b)
  {W:Nat→Nat→List V→Hp→Prop} {m0:Nat} (w0:W 0 m0 [] H2) {Qf:List V→Hp→Prop}
  (turn:∀ i m acc H,W i m acc H→(J.stop i H∧acc.length≤sizeLine∧Qf acc H)∨(J.go i H∧acc.length < sizeLine∧∃ N:List V→Hp→Prop,(∀ acc' H',N acc' H'→∃ m',m' < m∧W (i + 1) m' acc' H')∧∀ x H',J.yld i H x H'→g x (pick tgs.length outs σ) H' fun σ2 H2=>tc σ2 H2 fun b H3 =>
   if b=true then te σ2 H3 fun y H4=>N (acc ++ [y]) H4 else N acc H3))
  {E:SV_} {RR:Value→Addr→Result→Shared→Prop}
  (fin:∀ D C s5 mC acc H5,Inv X pins σ (upd H5 D (.lst acc)) s5→H5 D=none→Qf acc H5→s5.heap.Ns C mC→FpOk X pins (upd H5 D (.lst acc)) C→RR (.ref D) C (.ok .next) s5) :
  wpAny (model X.prog X.w) X.A (newList []) (fun acc s₃=>wpAny (model X.prog X.w) X.A (newFunctionEnv scope X.env.globals cl [] X.env.qual none .none (some X.env)) (fun cenv s₄ =>
   codeAny (model X.prog X.w) X.A (.compStart (.ListComp elt [⟨tg,iter,ifs,0⟩] scope pos) 0 (.ref it) acc { cenv with scope:=relabel scope X.env }) (RR acc cenv.locals) s₄) E s₃) E s2:=by
 have hfp:∀ b∈fp,b < s2.heap.objs.size:=fun b hb=>let ⟨o,e,_⟩:=T.obj 0 _ st2 b hb; Heap.lt_size e
 refine wpAny_newObj_type (wpAny_newFunctionEnv S.nocell (by intro y hy; simp at hy) (fun h₁ hns₁ hsb₁ => ?_) S.kind)
 dsimp only at hns₁ hsb₁ ⊢
 generalize hHH:s2.heap.push { cls:=.type "list",dict:=none,data:=.seq ([]:List Value).toArray }=HH at hns₁ hsb₁ ⊢
 have hC:HH.objs.size=s2.heap.objs.size + 1:=by rw [← hHH,Heap.size_push]
 have hDC:s2.heap.objs.size≠HH.objs.size:=by rw [hC]; exact Nat.ne_of_lt (Nat.lt_succ_self _)
 have hCle:s2.heap.objs.size≤HH.objs.size:=by rw [hC]; exact Nat.le_succ _
 have old:∀ b o,s2.heap.get? b=some o→h₁.get? b=some o:=fun b o e=>hsb₁.extBut b o (by rw [hC]; exact Nat.ne_of_lt (Nat.lt_succ_of_lt (Heap.lt_size e))) (Heap.get?_push_of_some _ (hHH ▸ Heap.get?_push_of_some _ e))
 have hacc:h₁.get? s2.heap.objs.size=some { cls:=.type "list",data:=.seq ([]:List Value).toArray 0 }:=hsb₁.extBut _ _ hDC (Heap.get?_push_of_some _ (hHH ▸ Heap.get?_push_size _ rfl))
 have hDfp:∀ b∈fp,s2.heap.objs.size≠b:=fun b hb=>Nat.ne_of_gt (hfp b hb)
 have fresh2:H2 s2.heap.objs.size=none:=I2.hok.fresh (Nat.le_refl _)
 have I4:=comp_start (tk:=s2.toks + ([]:List (Str×Value)).length) S hsc I2 f2 hfp hcl1 hcl2 hCle old hns₁
 have st1:tn 0 h₁:=T.keep 0 _ _ st2 fun b hb o e=>old b o e
 generalize hCC:HH.objs.size=C at *
 generalize hDD:s2.heap.objs.size=D at *
 have nofs:D∉(cxComp X N' scope cl C s2 H2 fp).fs:=fun z=>by
  obtain ⟨_,o,ho,_⟩:=I2.stack.mem (show D∈frs X.stack from z)
  have:=Heap.lt_size ho
  rw [hDD] at this
  exact Nat.lt_irrefl _ this
 have pinD:∀ {σ':St} {H':Hp} {s':Shared} {its:List Value} {n:Nat},Inv (cxComp X N' scope cl C s2 H2 fp) [] σ' H' s'→s'.heap.get? D=some { cls:=.type "list",data:=.seq its.toArray n }→H' D=none →
   Inv (cxComp X N' scope cl C s2 H2 fp) [(D,{ cls:=.type "list",data:=.seq its.toArray n })] σ' H' s':=fun {σ' H' s' its n} J e hn=>J.pins_of fun p hp=>by
  have ep:p=(D,{ cls:=.type "list",data:=.seq its.toArray n }):=by simpa using hp
  subst ep
  exact ⟨e,hn,hDC,nofs,fun v z=>by cases z⟩
 have stat:∀ {H':Hp} {o:Obj},(∀ b∈fp,H' b=none)→∀ b∈fp,FpOk (cxComp X N' scope cl C s2 H2 fp) [(D,o)] H' b:=fun {H' o} hn b hb=>by
  refine ⟨hn b hb,(I4.ok.exf b hb).1,I4.ok.exfs b hb,.inl hb,(I4.ok.exf b hb).2,fun p hp => ?_⟩
  have hp':p∈([]:PN_) ++ [(D,o)]:=hp
  have ep:p=(D,o):=by simpa using hp'
  subst ep
  exact hDfp b hb
 have loop:∀ s₃:Shared,s₃={ s2 with heap:=h₁,toks:=s2.toks + ([]:List (Str×Value)).length } →
   codeAny (model X.prog X.w) X.A (.compLoop (.ListComp elt [⟨tg,iter,ifs,0⟩] scope pos) 0 (.ref it) (.ref D) (compEnvC scope cl C X.env)) (RR (.ref D) C) s₃:=by
  rintro s₃ rfl
  refine compLoop_any (fun m s' => ∃ i acc H its n,Inv (cxComp X N' scope cl C s2 H2 fp) [(D,{ cls:=.type "list",data:=.seq its.toArray n })] (pick tgs.length outs σ) H s'∧tn i s'.heap∧(∀ b∈fp,H b=none)∧Vals acc its∧W i m acc H) ?_ m0
   ⟨0,[],H2,[],0,pinD I4 hacc fresh2,st1,fun b hb=>(f2 b hb).1,.nil,w0⟩
  rintro m s' ⟨i,acc,H,its,n,I',st',fr',rD,w'⟩
  rcases turn i m acc H w' with ⟨stop,hz,q⟩ | ⟨go,hz,N,hN,step⟩
  ·refine thn (T.done (cxComp X N' scope cl C s2 H2 fp) rfl rfl rfl hc i _ s' _ H _ I' (stat fr') st' stop) fun r s4 ⟨hr,J4⟩ => ?_
   subst hr
   obtain ⟨eD,nD,_⟩:=J4.pin (D,{ cls:=.type "list",data:=.seq its.toArray n }) (List.mem_append_right _ List.mem_cons_self)
   obtain ⟨mC,nsC,_⟩:=J4.loc
   have I5:Inv X pins σ (upd H D (.lst acc)) s4:=comp_end (D:=D) I2 (J4.pins_of (pins':=[]) (fun p hp=>nomatch hp)) f2 (by rw [hDD]; exact Nat.le_refl _) eD rD hz nD
   refine fin D C s4 mC acc H I5 nD q nsC (I2.fpOk (by rw [hDD]; exact hCle) ?_)
   rw [ah_ (Ne.symm hDC)]
   exact J4.free
  ·refine thn (T.item (cxComp X N' scope cl C s2 H2 fp) rfl rfl rfl hc i _ s' _ H _ I' (stat fr') st' go) fun r s4 ⟨u,hr,h4⟩ => ?_
   subst hr
   dsimp only
   refine thn h4 fun _ s5 ⟨x,H5,I5,r5,y5,st5,fr5⟩ => ?_
   have I5':=I5.pinned (stat fr5) (T.obj _ _ st5)
   refine thn (hg cl C s2 H2 fp _ s5 _ H5 x u _ I5' r5 (hgt x _ H5 _ (step x H5 y5))) fun _ s6 ⟨σ6,H6,I6,q6,l6,k6⟩ => ?_
   refine thn (hcs cl C s2 H2 fp _ s6 σ6 H6 _ I6 q6) fun b s7 ⟨H7,I7,q7⟩ => ?_
   have tail:∀ {H':Hp} {s':Shared},Inv (cxComp X N' scope cl C s2 H2 fp) ([(D,{ cls:=.type "list",data:=.seq its.toArray n })] ++ pinsAt fp s5.heap) σ6 H' s'→(∀ b∈fp,∀ o,s5.heap.get? b=some o→s'.heap.get? b=some o)∧∀ b∈fp,H' b=none:=fun {H' s'} J =>
    ⟨fun b hb o e=>(J.pin (b,o) (List.mem_append_right _ (List.mem_append_right _ (ex_ hb e)))).1,fun b hb=>by
     obtain ⟨o,e,d⟩:=T.obj _ _ st5 b hb
     exact (J.pin (b,o) (List.mem_append_right _ (List.mem_append_right _ (ex_ hb e)))).2.1⟩
   cases b with
   | false =>
    rw [if_neg Bool.false_ne_true] at q7 ⊢
    obtain ⟨m',hm,w7⟩:=hN _ _ q7
    obtain ⟨t1,t2⟩:=tail I7
    exact ⟨m',hm,i + 1,acc,H7,its,n,I7.unpinned.weak l6.symm (pick_weak k6),T.keep _ _ _ st5 t1,t2,rD,w7⟩
   | true =>
    rw [if_pos rfl] at q7 ⊢
    refine thn (he cl C s2 H2 fp _ s7 σ6 H7 _ I7 q7) fun v s8 ⟨y,H8,I8,r8,q8⟩ => ?_
    obtain ⟨m',hm,w8⟩:=hN _ _ q8
    obtain ⟨t1,t2⟩:=tail I8
    obtain ⟨eD,nD,_⟩:=I8.pin (D,{ cls:=.type "list",data:=.seq its.toArray n }) (List.mem_append_right _ (List.mem_append_left _ List.mem_cons_self))
    have hl:=rD.length
    refine call_meets F.slot_list_append ⟨_,eD,rfl⟩ F.entry_list_append (F.args_list_append_2 _ _) (PySem.list_append D its.toArray n v (by rw [List.size_toArray]; omega)) ⟨eD,?_⟩
    have q:=PySem.IsL.update eD (·.push v)
    have eA:its.toArray.push v=(its ++ [v]).toArray:=by simp
    rw [eA] at q
    refine ⟨m',hm,i + 1,acc ++ [y],H8,its ++ [v],_,pinD (Inv.weak (Inv.turned (it:=D) (I8.pins_of (pins':=[]) (fun p hp=>nomatch hp)) (fun b o hb e=>(Heap.get?_update_other _ _ (Ne.symm hb)).trans e) nD hDC (.inr (by show s2.heap.objs.size≤D; rw [hDD]; exact Nat.le_refl _)) (fun x c e z => ?_) (fun p hp=>nomatch hp)) l6.symm (pick_weak k6)) q nD,
     T.keep _ _ _ st5 (fun b hb o e=>(Heap.get?_update_other _ _ (hDfp b hb)).trans (t1 b hb o e)),t2,rD.append (.cons r8 .nil),w8⟩
    obtain ⟨v',oc,hoc,hdc⟩:=I8.cell x c e
    rw [z,eD] at hoc
    cases hoc
    cases hdc
 exact codeAny_compStart_list (loop _ rfl) (T.self X.A 0 _ _ _ st1 (loop _ rfl))
theorem pe_comp {N:List Str} (S:CompScope dsc scope N tgs outs N') (hi:PI X tg iter wi) (hg:∀ cl C s H ex,PG (cxComp X N' scope cl C s H ex) tg g) (hgt:Tgt tgs.length g) (hcs:∀ cl C s H ex,PCs (cxComp X N' scope cl C s H ex) ifs tc)
  (he:∀ cl C s H ex,PE (cxComp X N' scope cl C s H ex) elt te) (hN0:X.N=N:=by rfl) (hsc:X.env.scope=dsc:=by rfl) (hc:X.calm=true:=by rfl) (hs:∀ x,foldedSetIterable iter X.env x=pure x:=by intro _; rfl) :
  PE X (.ListComp elt [⟨tg,iter,ifs,0⟩] scope pos) (tComp tgs.length outs wi g tc te):=by
 subst hN0
 intro pins s σ H Q I h
 obtain ⟨cl,e1,e2,e3⟩:=closure_of (scope:=scope) (env:=X.env) (fun y hy hk=>I.ok.has y.1 (.inl (by show X.env.scope.names.lookup y.1=_; rw [hsc]; exact S.free y hy hk)))
 rw [eval_ListComp]
 refine wpAny_comprehension_free (use:=none) rfl hs e1 S.kind S.names (wpAny_mono (hi pins s σ H _ I h) (fun xv s1 h1=>wpAny_mono h1 (fun itv s2 h2 => ?_) fun _ _ e=>e) fun _ _ e=>e)
 obtain ⟨it,fp,tn,J,H2,rfl,I2,T,st2,f2,W,⟨m0,w0⟩,turn⟩:=h2
 refine comp_block (RR:=fun acc C=>compPost (model X.prog X.w) X.A X.xe none (EP X pins σ Q) acc C) S hsc hc hg hgt hcs he e2 e3 I2 T st2 f2 w0 (Qf:=fun acc H => ∀ l,H l=none→Q (.ref l) (upd H l (.lst acc))) turn ?_
 intro D C s5 mC acc H5 I5 nD q nsC hf
 refine ⟨mC,nsC,fun h' hs'=>⟨.ref D,_,?_,rfl,q D nD⟩⟩
 exact I5.turned (it:=C) (t':=s5.toks) (fun b o hb e=>(hs'.2 b hb).trans e) hf.1 hf.2.1 hf.2.2.2.1 hf.2.2.2.2.1 hf.2.2.2.2.2
theorem hw_ {N:List Str} {i:Nat} {x:Str} {px spos:Pos} (hN:X.N.Nodup) (hx:X.N[i]? = some x) (hl:X.env.scope.names.lookup x=some .local) (S:CompScope dsc scope N tgs outs N') (hi:PI X tg iter wi) (hg:∀ cl C s H ex,PG (cxComp X N' scope cl C s H ex) tg g) (hgt:Tgt tgs.length g)
  (hcs:∀ cl C s H ex,PCs (cxComp X N' scope cl C s H ex) ifs tc) (he:∀ cl C s H ex,PE (cxComp X N' scope cl C s H ex) elt te)
  (hsw:swapsWith (.ListComp elt [⟨tg,iter,ifs,0⟩] scope pos) (some (.Name x px)) spos.line X.env=pure true:=by rfl)
  (hN0:X.N=N:=by rfl) (hsc:X.env.scope=dsc:=by rfl) (hc:X.calm=true:=by rfl) (hs:∀ x,foldedSetIterable iter X.env x=pure x:=by intro _; rfl) :
  PS X (.Assign [.Name x px] (.ListComp elt [⟨tg,iter,ifs,0⟩] scope pos) spos) (tAsg (tComp tgs.length outs wi g tc te) (gName i)):=by
 subst hN0
 intro pins s σ H Dn I h
 obtain ⟨cl,e1,e2,e3⟩:=closure_of (scope:=scope) (env:=X.env) (fun y hy hk=>I.ok.has y.1 (.inl (by show X.env.scope.names.lookup y.1=_; rw [hsc]; exact S.free y hy hk)))
 rw [exec_Assign_Name_used _ _ _ _ hsw]
 refine wpAny_bind (wpAny_standAt (wpAny_bind ?_))
 show wpAny _ X.A (do let _ ← comprehension (.ListComp elt [⟨tg,iter,ifs,0⟩] scope pos) scope X.env _ (newList []) false (eval iter X.env) (some (assign (.Name x px) X.env))) _ _ s
 refine wpAny_bind (wpAny_mono (wpAny_comprehension_free (use:=some (assign (.Name x px) X.env)) (Q:=fun _ s'=>SP X pins Dn .next s') rfl hs e1 S.kind S.names
  (wpAny_mono (hi pins s σ H _ I h) (fun xv s1 h1=>wpAny_mono h1 (fun itv s2 h2 => ?_) fun _ _ e=>e) fun _ _ e=>e)) (fun _ s' hq=>wpAny_pure (wpAny_pure hq)) fun _ _ e=>e)
 obtain ⟨it,fp,tn,J,H2,rfl,I2,T,st2,f2,W,⟨m0,w0⟩,turn⟩:=h2
 refine comp_block (RR:=fun acc C=>compPost (model X.prog X.w) X.A X.xe (some (assign (.Name x px) X.env)) (fun _ s'=>SP X pins Dn .next s') acc C) S hsc hc hg hgt hcs he e2 e3 I2 T st2 f2 w0
  (Qf:=fun acc H => ∀ l,H l=none→Dn.nx (σ.set i (some (.ref l))) (upd H l (.lst acc))) turn ?_
 intro D C s5 mC acc H5 I5 nD q nsC hf
 show wpAny _ X.A (assign (.Name x px) X.env (.ref D)) _ _ _
 refine wpAny_assign_Name (store_ok2 I5 hN hx (.inl hl) (show RelV (.ref D) (.ref D) from rfl) (fun s' I' ⟨a,sb,ha⟩ => ?_) (.inr hl))
 have hCa:C≠a:=by
  rcases ha with ha | ha
  ·rw [ha]; exact hf.2.1
  ·exact Ne.symm (hf.2.2.2.2.1 x a ha)
 refine ⟨mC,nsC.sameBut sb hCa,fun h' hs'=>⟨_,_,I'.turned (it:=C) (t':=s'.toks) (fun b o hb e=>(hs'.2 b hb).trans e) hf.1 hf.2.1 hf.2.2.2.1 hf.2.2.2.2.1 hf.2.2.2.2.2,q D nD⟩⟩
end
def SIter (t:Bool) (h:Heap) (it l:Addr) (k:Nat):Prop:=if t=true then h.IsTupleIter it l k else h.IsListIter it l k
def SSeq (t:Bool) (h:Heap) (l:Addr) (xs:Array Value):Prop:=if t=true then h.IsTuple l xs else h.IsList l xs
theorem SIter.obj {t:Bool} {h:Heap} {it l:Addr} {k:Nat} (x:SIter t h it l k):∃ o,h.get? it=some o∧∀ v,o.data ≠ .cell v:=by
 cases t
 ·obtain ⟨o,e,_,d⟩:=(show h.IsListIter it l k from x); exact ⟨o,e,fun v z=>by rw [d] at z; cases z⟩
 ·obtain ⟨o,e,_,d⟩:=(show h.IsTupleIter it l k from x); exact ⟨o,e,fun v z=>by rw [d] at z; cases z⟩
theorem SIter.to {t:Bool} {h h':Heap} {it l:Addr} {k:Nat} (x:SIter t h it l k) (e:∀ o,h.get? it=some o→h'.get? it=some o):SIter t h' it l k:=by
 cases t
 ·obtain ⟨o,a,r⟩:=(show h.IsListIter it l k from x); exact ⟨o,e o a,r⟩
 ·obtain ⟨o,a,r⟩:=(show h.IsTupleIter it l k from x); exact ⟨o,e o a,r⟩
theorem SSeq.to {t:Bool} {h h':Heap} {l:Addr} {xs:Array Value} (x:SSeq t h l xs) (e:∀ o,h.get? l=some o→h'.get? l=some o):SSeq t h' l xs:=by
 cases t
 ·obtain ⟨o,a,r⟩:=(show h.IsList l xs from x); exact ⟨o,e o a,r⟩
 ·obtain ⟨o,a,r⟩:=(show h.IsTuple l xs from x); exact ⟨o,e o a,r⟩
section
variable {prog:Program} {w:World} {A:Around} {E:SV_} {s:Shared}
theorem nextOf_tup {it l:Addr} {i:Nat} {items:Array Value} {x:Value} {Q:SV_} (hit:s.heap.IsTupleIter it l i) (hl:s.heap.IsTuple l items) (hx:items[i]? = some x)
  (hQ:∀ h',h'.IsTupleIter it l (i + 1)→Heap.SameBut it s.heap h'→Q x { s with heap:=h' }):wpAny (model prog w) A (Builtin.SmallTypes.nextOf (.ref it)) Q E s:=by
 obtain ⟨o,ho,hc,hd⟩:=id hit; obtain ⟨ol,hol,_,nl,hdl⟩:=hl
 unfold Builtin.SmallTypes.nextOf
 refine wpAny_bind (wpAny_callSpecial?_slot (name:=Str.ofString "__next__") hit.typeIs F.slot_tuple_iterator_next (wpAny_call_entry F.slot_tuple_iterator_next hit.typeIs F.entry_tuple_iterator_next ?_ (F.args_tuple_iterator_next_1 _)))
 show wpAny _ _ (field (.ref it) 0 >>= _) _ _ s; refine wpAny_bind (wpAny_field ho hd (x:=.ref l) rfl ?_)
 show wpAny _ _ (if (Value.ref l == Value.none)=true then _ else _) _ _ s; rw [if_neg (show ¬ ((Value.ref l == Value.none)=true) from Bool.false_ne_true)]
 show wpAny _ _ (field (.ref it) 1 >>= _) _ _ s; refine wpAny_bind (wpAny_field ho hd (x:=.int i 0) rfl ?_)
 show wpAny _ _ (seqItems? (.ref l) >>= _) _ _ s; refine wpAny_bind (wpAny_seqItems hol hdl ?_); simp only [Int.toNat_natCast,hx]
 exact wpAny_bind (wpAny_setField ho hd (by simp) (wpAny_pure ⟨x,rfl,wpAny_pure (hQ _ ⟨_,Heap.get?_update_self _ ho (Obj.isFreed_of_fields (Obj.data_mapFields hd _)),(Obj.cls_mapFields ..).trans hc,by rw [Obj.data_mapFields hd]; simp [rawInt]⟩ (Heap.SameBut.update ..))⟩))
theorem nextOf_tupE {it l:Addr} {i:Nat} {items:Array Value} {Q:SV_} (hh:A.handled=none) (hit:s.heap.IsTupleIter it l i) (hl:s.heap.IsTuple l items) (hx:items[i]? = none)
  (hE:∀ h' e,Heap.ExtBut it s.heap h'→(∃ o,h'.get? e=some o∧o.cls=.type "StopIteration")→E (.ref e) { s with heap:=h' }):wpAny (model prog w) A (Builtin.SmallTypes.nextOf (.ref it)) Q E s:=by
 obtain ⟨o,ho,hc,hd⟩:=id hit; obtain ⟨ol,hol,_,nl,hdl⟩:=hl
 unfold Builtin.SmallTypes.nextOf
 refine wpAny_bind (wpAny_callSpecial?_slot (name:=Str.ofString "__next__") hit.typeIs F.slot_tuple_iterator_next (wpAny_call_entry F.slot_tuple_iterator_next hit.typeIs F.entry_tuple_iterator_next ?_ (F.args_tuple_iterator_next_1 _)))
 show wpAny _ _ (field (.ref it) 0 >>= _) _ _ s; refine wpAny_bind (wpAny_field ho hd (x:=.ref l) rfl ?_)
 show wpAny _ _ (if (Value.ref l == Value.none)=true then _ else _) _ _ s; rw [if_neg (show ¬ ((Value.ref l == Value.none)=true) from Bool.false_ne_true)]
 show wpAny _ _ (field (.ref it) 1 >>= _) _ _ s; refine wpAny_bind (wpAny_field ho hd (x:=.int i 0) rfl ?_)
 show wpAny _ _ (seqItems? (.ref l) >>= _) _ _ s; refine wpAny_bind (wpAny_seqItems hol hdl ?_); simp only [Int.toNat_natCast,hx]
 refine wpAny_bind (wpAny_rule (wpAny_bind (wpAny_setField ho hd (by simp) ?_))); show wpAny _ _ (newExc (.type "StopIteration") [] >>= _) _ _ _
 refine wpAny_bind ?_; simp only [newExc,newTuple]; refine wpAny_bind (wpAny_newObj_type ?_ (by size_fits))
 refine wpAny_bind (m:=firstArgMember _ _) (wpAny_of_eq (a:=Value.none) (by first | rfl | (simp only [firstArgMember]; rfl)) ?_); refine wpAny_newObj_type ?_ (by size_fits); simp only [raiseNew]
 refine wpAny_bind (wpAny_handled ?_); first | rw [show A.in1.handled=none from hh] | rw [hh]
 refine wpAny_bind (wpAny_pure (wpAny_throw ?_)); exact hE _ _ (((Heap.SameBut.update ..).extBut.push _).push _) ⟨_,Heap.get?_push_size _ rfl,rfl⟩
theorem nextOf_s {t:Bool} {it l:Addr} {i:Nat} {items:Array Value} {x:Value} {Q:SV_} (hit:SIter t s.heap it l i) (hl:SSeq t s.heap l items) (hx:items[i]? = some x)
  (hQ:∀ h',SIter t h' it l (i + 1)→Heap.SameBut it s.heap h'→Q x { s with heap:=h' }):wpAny (model prog w) A (Builtin.SmallTypes.nextOf (.ref it)) Q E s:=by
 cases t
 ·exact wpAny_nextOf_list_item hit hl hx hQ
 ·exact nextOf_tup hit hl hx hQ
theorem nextOf_sE {t:Bool} {it l:Addr} {i:Nat} {items:Array Value} {Q:SV_} (hh:A.handled=none) (hit:SIter t s.heap it l i) (hl:SSeq t s.heap l items) (hx:items[i]? = none)
  (hE:∀ h' e,Heap.ExtBut it s.heap h'→(∃ o,h'.get? e=some o∧o.cls=.type "StopIteration")→E (.ref e) { s with heap:=h' }):wpAny (model prog w) A (Builtin.SmallTypes.nextOf (.ref it)) Q E s:=by
 cases t
 ·exact wpAny_nextOf_list_end hh hit hl hx hE
 ·exact nextOf_tupE hh hit hl hx hE
theorem zipS_item {t1 t2:Bool} {z TI TO i1 i2 l1 l2:Addr} {k1 k2:Nat} {xs ys:Array Value} {x y a b:Value} {Q:SV_} (D:ZipApart z TI TO i1 i2 l1 l2)
  (hz:IsZip s.heap z TI TO .none) (hTI:IsPair s.heap TI (.ref i1) (.ref i2)) (hTO:IsPair s.heap TO a b)
  (h1:SIter t1 s.heap i1 l1 k1) (h2:SIter t2 s.heap i2 l2 k2) (hl1:SSeq t1 s.heap l1 xs) (hl2:SSeq t2 s.heap l2 ys) (hx:xs[k1]? = some x) (hy:ys[k2]? = some y)
  (hQ:∀ h',IsZip h' z TI TO (rawInt s.heap.objs.size)→IsPair h' TO x y→SIter t1 h' i1 l1 (k1 + 1)→SIter t2 h' i2 l2 (k2 + 1)→IsPair h' s.heap.objs.size x y→h'.objs.size=s.heap.objs.size + 1 →
   (∀ c o,c≠z→c≠TO→c≠i1→c≠i2→s.heap.get? c=some o→h'.get? c=some o)→Q (.ref s.heap.objs.size) { s with heap:=h' }) :
  wpAny (model prog w) A (Builtin.«zip.__next__» ⟨[.ref z],[]⟩) (fun fin s' => ∃ v,fin=.done (.ret v)∧Q v s') E s:=by
 show wpAny _ _ (field (.ref z) 2 >>= _) _ _ _; refine wpAny_bind (wpAny_field hz rfl (x:=.bool false) rfl ?_)
 show wpAny _ _ (field (.ref z) 3 >>= _) _ _ _; refine wpAny_bind (wpAny_field hz rfl (x:=.ref TI) rfl ?_); refine wpAny_bind (wpAny_seqItems hTI rfl ?_)
 show wpAny _ _ (Builtin.SmallTypes.ownedTupleIsFree (.ref z) >>= _) _ _ _; refine wpAny_bind ?_; unfold Builtin.SmallTypes.ownedTupleIsFree
 refine wpAny_bind (wpAny_field hz rfl (x:=.none) rfl (wpAny_pure ?_)); simp only [if_true]; refine wpAny_bind (wpAny_rule ?_)
 refine wpAny_bind (wpAny_field hz rfl (x:=.ref TO) rfl ?_); refine wpAny_bind (wpAny_setField_rec hz (by simp) fun q1 hz₁ s1 => ?_); replace hz₁:IsZip q1 z TI TO .ellipsis:=hz₁
 refine wpAny_bind ?_; simp only [List.zipIdx_cons,List.zipIdx_nil,List.forIn_cons,List.forIn_nil]
 refine wpAny_bind (wpAny_bind (wpAny_onRaise ?_)); show wpAny _ _ (Builtin.SmallTypes.nextOf (.ref i1) >>= _) _ _ _
 refine wpAny_bind (nextOf_s (h1.to fun o e=>s1.extBut _ _ D.i1z e) (hl1.to fun o e=>s1.extBut _ _ D.l1z e) hx fun q2 a2 s2=>wpAny_pure ?_)
 have b2:IsPair q2 TO a b:=s2.extBut _ _ D.TOi1 (s1.extBut _ _ D.TOz hTO)
 refine wpAny_bind (wpAny_seqItems b2 rfl ?_); refine wpAny_bind (wpAny_updateSeq_pair b2 fun q3 b3 s3 => ?_); replace b3:IsPair q3 TO x b:=b3
 refine wpAny_bind (wpAny_letGo (wpAny_pure ?_)); refine wpAny_bind (wpAny_bind (wpAny_onRaise ?_)); show wpAny _ _ (Builtin.SmallTypes.nextOf (.ref i2) >>= _) _ _ _
 refine wpAny_bind (nextOf_s (h2.to fun o e=>s3.extBut _ _ D.TOi2.symm (s2.extBut _ _ D.i12.symm (s1.extBut _ _ D.i2z e))) (hl2.to fun o e=>s3.extBut _ _ D.l2TO (s2.extBut _ _ D.l2i1 (s1.extBut _ _ D.l2z e))) hy fun q4 a4 s4=>wpAny_pure ?_)
 have b4:IsPair q4 TO x b:=s4.extBut _ _ D.TOi2 b3
 refine wpAny_bind (wpAny_seqItems b4 rfl ?_); refine wpAny_bind (wpAny_updateSeq_pair b4 fun q5 b5 s5 => ?_); replace b5:IsPair q5 TO x y:=b5
 refine wpAny_bind (wpAny_letGo (wpAny_pure (wpAny_pure ?_))); refine wpAny_bind (wpAny_seqItems b5 rfl ?_); refine wpAny_bind (wpAny_newTuple ?_)
 have hsz:q5.objs.size=s.heap.objs.size:=by rw [s5.1,s4.1,s3.1,s2.1,s1.1]
 have z5:IsZip q5 z TI TO .ellipsis:=s5.extBut _ _ D.TOz.symm (s4.extBut _ _ D.i2z.symm (s3.extBut _ _ D.TOz.symm (s2.extBut _ _ D.i1z.symm hz₁)))
 have k5:∀ c o,c≠z→c≠TO→c≠i1→c≠i2→s.heap.get? c=some o→q5.get? c=some o:=fun c o c1 c2 c3 c4 e=>s5.extBut _ _ c2 (s4.extBut _ _ c4 (s3.extBut _ _ c2 (s2.extBut _ _ c3 (s1.extBut _ _ c1 e))))
 have d1:SIter t1 q5 i1 l1 (k1 + 1):=a2.to fun o e=>s5.extBut _ _ D.TOi1.symm (s4.extBut _ _ D.i12 (s3.extBut _ _ D.TOi1.symm e))
 have d2:SIter t2 q5 i2 l2 (k2 + 1):=a4.to fun o e=>s5.extBut _ _ D.TOi2.symm e
 have zlt:z < q5.objs.size:=Heap.lt_size z5
 show wpAny _ _ (Builtin.SmallTypes.ownedTupleHandOut (.ref z) (.ref q5.objs.size) >>= _) _ _ _; refine wpAny_bind ?_; unfold Builtin.SmallTypes.ownedTupleHandOut
 have z6:IsZip (q5.push { cls:=.type "tuple",data:=.seq #[x,y] }) z TI TO .ellipsis:=Heap.get?_push_of_some _ z5
 refine wpAny_bind (wpAny_setField_rec z6 (by simp) fun q7 z7 s7 => ?_); replace z7:IsZip q7 z TI TO (rawInt q5.objs.size):=z7
 refine wpAny_setField_rec z7 (by simp) fun q8 z8 s8 => ?_; replace z8:IsZip q8 z TI TO (rawInt q5.objs.size):=z8
 have up:∀ c o,c≠z→q5.get? c=some o→q8.get? c=some o:=fun c o c1 e=>s8.extBut _ _ c1 (s7.extBut _ _ c1 (Heap.get?_push_of_some _ e))
 have t8:IsPair q8 q5.objs.size x y:=s8.extBut _ _ (Nat.ne_of_gt zlt) (s7.extBut _ _ (Nat.ne_of_gt zlt) (Heap.get?_push_size _ rfl))
 have n8:q8.objs.size=q5.objs.size + 1:=by rw [s8.1,s7.1,Heap.size_push]
 rw [hsz] at z8 t8 n8; refine wpAny_pure ⟨_,rfl,?_⟩; show Q (.ref q5.objs.size) _; rw [hsz]
 exact hQ q8 z8 (up _ _ D.TOz b5) (d1.to fun o e=>up _ o D.i1z e) (d2.to fun o e=>up _ o D.i2z e) t8 n8 fun c o c1 c2 c3 c4 e=>up c o c1 (k5 c o c1 c2 c3 c4 e)
theorem zipS_end {t1 t2:Bool} {z TI TO i1 i2 l1 l2:Addr} {k1 k2:Nat} {xs ys:Array Value} {a b:Value} {Q:Fin→Shared→Prop} (hh:A.handled=none) (D:ZipApart z TI TO i1 i2 l1 l2)
  (hz:IsZip s.heap z TI TO .none) (hTI:IsPair s.heap TI (.ref i1) (.ref i2)) (hTO:IsPair s.heap TO a b)
  (h1:SIter t1 s.heap i1 l1 k1) (h2:SIter t2 s.heap i2 l2 k2) (hl1:SSeq t1 s.heap l1 xs) (hl2:SSeq t2 s.heap l2 ys) (hend:xs[k1]? = none∨ys[k2]? = none)
  (hE:∀ h' e,(∀ c o,c≠z→c≠TO→c≠i1→c≠i2→s.heap.get? c=some o→h'.get? c=some o)→(∃ o,h'.get? e=some o∧o.cls=.type "StopIteration")→E (.ref e) { s with heap:=h' }) :
  wpAny (model prog w) A (Builtin.«zip.__next__» ⟨[.ref z],[]⟩) Q E s:=by
 show wpAny _ _ (field (.ref z) 2 >>= _) _ _ _; refine wpAny_bind (wpAny_field hz rfl (x:=.bool false) rfl ?_)
 show wpAny _ _ (field (.ref z) 3 >>= _) _ _ _; refine wpAny_bind (wpAny_field hz rfl (x:=.ref TI) rfl ?_); refine wpAny_bind (wpAny_seqItems hTI rfl ?_)
 show wpAny _ _ (Builtin.SmallTypes.ownedTupleIsFree (.ref z) >>= _) _ _ _; refine wpAny_bind ?_; unfold Builtin.SmallTypes.ownedTupleIsFree
 refine wpAny_bind (wpAny_field hz rfl (x:=.none) rfl (wpAny_pure ?_)); simp only [if_true]; refine wpAny_bind (wpAny_rule ?_)
 refine wpAny_bind (wpAny_field hz rfl (x:=.ref TO) rfl ?_); refine wpAny_bind (wpAny_setField_rec hz (by simp) fun q1 hz₁ s1 => ?_); replace hz₁:IsZip q1 z TI TO .ellipsis:=hz₁
 refine wpAny_bind ?_; simp only [List.zipIdx_cons,List.zipIdx_nil,List.forIn_cons,List.forIn_nil]
 refine wpAny_bind (wpAny_bind (wpAny_onRaise ?_)); show wpAny _ _ (Builtin.SmallTypes.nextOf (.ref i1) >>= _) _ _ _
 cases hx:xs[k1]? with
 | none =>
  refine wpAny_bind (nextOf_sE hh (h1.to fun o e=>s1.extBut _ _ D.i1z e) (hl1.to fun o e=>s1.extBut _ _ D.l1z e) hx fun q2 e s2 he => ?_)
  obtain ⟨oe,hoe,hce⟩:=he
  have z2:IsZip q2 z TI TO .ellipsis:=s2 _ _ D.i1z.symm hz₁
  have ez:e≠z:=fun x=>by subst x; rw [z2] at hoe; cases hoe; simp at hce
  exact wpAny_setField_rec z2 (by simp) fun q3 _ s3=>hE q3 e (fun c o c1 _ c3 _ x=>s3.extBut _ _ c1 (s2 _ _ c3 (s1.extBut _ _ c1 x))) ⟨oe,s3.extBut _ _ ez hoe,hce⟩
 | some x =>
  have hy:ys[k2]? = none:=by rcases hend with h | h; rw [hx] at h; cases h; exact h
  refine wpAny_bind (nextOf_s (h1.to fun o e=>s1.extBut _ _ D.i1z e) (hl1.to fun o e=>s1.extBut _ _ D.l1z e) hx fun q2 a2 s2=>wpAny_pure ?_)
  have b2:IsPair q2 TO a b:=s2.extBut _ _ D.TOi1 (s1.extBut _ _ D.TOz hTO)
  refine wpAny_bind (wpAny_seqItems b2 rfl ?_); refine wpAny_bind (wpAny_updateSeq_pair b2 fun q3 b3 s3 => ?_)
  refine wpAny_bind (wpAny_letGo (wpAny_pure ?_)); refine wpAny_bind (wpAny_bind (wpAny_onRaise ?_)); show wpAny _ _ (Builtin.SmallTypes.nextOf (.ref i2) >>= _) _ _ _
  refine wpAny_bind (nextOf_sE hh (h2.to fun o e=>s3.extBut _ _ D.TOi2.symm (s2.extBut _ _ D.i12.symm (s1.extBut _ _ D.i2z e))) (hl2.to fun o e=>s3.extBut _ _ D.l2TO (s2.extBut _ _ D.l2i1 (s1.extBut _ _ D.l2z e))) hy fun q4 e s4 he => ?_)
  obtain ⟨oe,hoe,hce⟩:=he
  have z4:IsZip q4 z TI TO .ellipsis:=s4 _ _ D.i2z.symm (s3.extBut _ _ D.TOz.symm (s2.extBut _ _ D.i1z.symm hz₁))
  have ez:e≠z:=fun x=>by subst x; rw [z4] at hoe; cases hoe; simp at hce
  exact wpAny_setField_rec z4 (by simp) fun q5 _ s5=>hE q5 e (fun c o c1 c2 c3 c4 x=>s5.extBut _ _ c1 (s4 _ _ c4 (s3.extBut _ _ c2 (s2.extBut _ _ c3 (s1.extBut _ _ c1 x))))) ⟨oe,s5.extBut _ _ ez hoe,hce⟩
theorem pyNext_zipS {t1 t2:Bool} {z TI TO i1 i2 l1 l2:Addr} {k1 k2:Nat} {xs ys:Array Value} {x y a b:Value} {Q:Option Value→Shared→Prop} (D:ZipApart z TI TO i1 i2 l1 l2)
  (hz:IsZip s.heap z TI TO .none) (hTI:IsPair s.heap TI (.ref i1) (.ref i2)) (hTO:IsPair s.heap TO a b)
  (h1:SIter t1 s.heap i1 l1 k1) (h2:SIter t2 s.heap i2 l2 k2) (hl1:SSeq t1 s.heap l1 xs) (hl2:SSeq t2 s.heap l2 ys) (hx:xs[k1]? = some x) (hy:ys[k2]? = some y)
  (hQ:∀ h',IsZip h' z TI TO (rawInt s.heap.objs.size)→IsPair h' TO x y→SIter t1 h' i1 l1 (k1 + 1)→SIter t2 h' i2 l2 (k2 + 1)→IsPair h' s.heap.objs.size x y→h'.objs.size=s.heap.objs.size + 1 →
   (∀ c o,c≠z→c≠TO→c≠i1→c≠i2→s.heap.get? c=some o→h'.get? c=some o)→Q (some (.ref s.heap.objs.size)) { s with heap:=h' }) :
  wpAny (model prog w) A (pyNext (.ref z)) Q E s:=by
 have hT:s.TypeIs (.ref z) "zip" := ⟨_,hz,rfl⟩
 unfold pyNext
 exact wpAny_bind (wpAny_attempt (wpAny_callSpecial?_slot (name:=Str.ofString "__next__") hT F.slot_zip_next (wpAny_call_entry F.slot_zip_next hT F.entry_zip_next (zipS_item D hz hTI hTO h1 h2 hl1 hl2 hx hy fun h' a1 a2 a3 a4 a5 a6 a7=>wpAny_pure (hQ h' a1 a2 a3 a4 a5 a6 a7)) (F.args_zip_next_1 _))))
theorem pyNext_zipSE {t1 t2:Bool} {z TI TO i1 i2 l1 l2:Addr} {k1 k2:Nat} {xs ys:Array Value} {a b:Value} {Q:Option Value→Shared→Prop} (hh:A.handled=none) (D:ZipApart z TI TO i1 i2 l1 l2)
  (hz:IsZip s.heap z TI TO .none) (hTI:IsPair s.heap TI (.ref i1) (.ref i2)) (hTO:IsPair s.heap TO a b)
  (h1:SIter t1 s.heap i1 l1 k1) (h2:SIter t2 s.heap i2 l2 k2) (hl1:SSeq t1 s.heap l1 xs) (hl2:SSeq t2 s.heap l2 ys) (hend:xs[k1]? = none∨ys[k2]? = none)
  (hQ:∀ h',(∀ c o,c≠z→c≠TO→c≠i1→c≠i2→s.heap.get? c=some o→h'.get? c=some o)→Q none { s with heap:=h' }):wpAny (model prog w) A (pyNext (.ref z)) Q E s:=by
 have hT:s.TypeIs (.ref z) "zip" := ⟨_,hz,rfl⟩
 unfold pyNext
 refine wpAny_bind (wpAny_attempt (wpAny_callSpecial?_slot (name:=Str.ofString "__next__") hT F.slot_zip_next (wpAny_call_entry F.slot_zip_next hT F.entry_zip_next (zipS_end hh D hz hTI hTO h1 h2 hl1 hl2 hend fun h' e hk he => ?_) (F.args_zip_next_1 _))))
 obtain ⟨o,ho,hc⟩:=he
 exact wpAny_bind (wpAny_isInstance (T := "StopIteration") (b:=true) ⟨o,ho,hc⟩ isSubtype_stop (wpAny_pure (hQ _ hk)))
end
abbrev itName (t:Bool):String:=if t=true then "tuple_iterator" else "list_iterator"
abbrev zq1 (t1:Bool) (h:Heap) (l1:Addr):Heap:=h.push { cls:=.type (itName t1),data:=.fields #[.ref l1,.int 0 0] }
abbrev zq2 (t1 t2:Bool) (h:Heap) (l1 l2:Addr):Heap:=(zq1 t1 h l1).push { cls:=.type (itName t2),data:=.fields #[.ref l2,.int 0 0] }
abbrev zq3 (t1 t2:Bool) (h:Heap) (l1 l2:Addr):Heap:=(zq2 t1 t2 h l1 l2).push { cls:=.type "tuple",data:=.seq #[.ref h.objs.size,.ref (zq1 t1 h l1).objs.size] }
abbrev zq4 (t1 t2:Bool) (h:Heap) (l1 l2:Addr):Heap:=(zq3 t1 t2 h l1 l2).push { cls:=.type "tuple",data:=.seq #[.none,.none] }
abbrev zq5 (t1 t2:Bool) (h:Heap) (l1 l2:Addr):Heap:=(zq4 t1 t2 h l1 l2).push { cls:=.type "zip",data:=.fields #[.none,.bool false,.bool false,.ref (zq2 t1 t2 h l1 l2).objs.size,.ref (zq3 t1 t2 h l1 l2).objs.size] }
theorem pyIter_s {prog:Program} {w:World} {A:Around} {E:SV_} {s:Shared} {t:Bool} {l:Addr} {xs:Array Value} {Q:SV_} (hl:SSeq t s.heap l xs)
  (hQ:Q (.ref s.heap.objs.size) { s with heap:=zq1 t s.heap l }):wpAny (model prog w) A (pyIter (.ref l)) Q E s:=by
 cases t
 ·exact wpAny_pyIter_list hl hQ
 ·exact wpAny_pyIter_tuple hl hQ
theorem zipS_new (t1 t2:Bool) (l1 l2:Addr) (xs ys:Array Value) :
  Meets (Builtin.«zip.__new__» ⟨[.type "zip",.ref l1,.ref l2],[]⟩) (fun _ R s=>SSeq t1 s.heap l1 xs∧SSeq t2 s.heap l2 ys∧R (.ok (.ret (.ref (zq4 t1 t2 s.heap l1 l2).objs.size))) { s with heap:=zq5 t1 t2 s.heap l1 l2 }) :=
 .of_wp fun prog w A R s h=>by
  obtain ⟨hp,g,d,tk,os⟩:=s
  obtain ⟨hl1,hl2,h⟩:=h
  have hsub:=sub_zip
  have hL1:SSeq t1 (Shared.heap ⟨hp,g,d,tk,os⟩) l1 xs:=hl1
  have hL2:SSeq t2 (Shared.heap ⟨zq1 t1 hp l1,g,d,tk,os⟩) l2 ys:=hl2.to fun o e=>Heap.get?_push_of_some _ e
  wp_walk using pyIter_s hL1,pyIter_s hL2
  exact ⟨_,rfl,h⟩
theorem call_zipS {prog:Program} {w:World} {A:Around} {E:SV_} {s:Shared} {t1 t2:Bool} {l1 l2:Addr} {xs ys:Array Value} {Q:SV_} (hl1:SSeq t1 s.heap l1 xs) (hl2:SSeq t2 s.heap l2 ys)
  (h:∀ h',IsZip h' (s.heap.objs.size + 4) (s.heap.objs.size + 2) (s.heap.objs.size + 3) .none→IsPair h' (s.heap.objs.size + 2) (.ref s.heap.objs.size) (.ref (s.heap.objs.size + 1)) →
   IsPair h' (s.heap.objs.size + 3) .none .none→SIter t1 h' s.heap.objs.size l1 0→SIter t2 h' (s.heap.objs.size + 1) l2 0→(∀ c o,s.heap.get? c=some o→h'.get? c=some o)→Q (.ref (s.heap.objs.size + 4)) { s with heap:=h' }) :
  wpAny (model prog w) A (call (.type "zip") [.ref l1,.ref l2]) Q E s:=by
 refine callType_new F.called_zip (by decide) (F.typeCall_zip_2 _ _) (F.newCall_zip_2 _ _) (fun obj=>F.args_object_init_3 obj _ _) F.entry_zip_new (zipS_new t1 t2 l1 l2 xs ys) ⟨hl1,hl2,?_⟩
 have z1:(zq1 t1 s.heap l1).objs.size=s.heap.objs.size + 1:=Heap.size_push ..
 have z2:(zq2 t1 t2 s.heap l1 l2).objs.size=s.heap.objs.size + 2:=by rw [Heap.size_push,z1]
 have z3:(zq3 t1 t2 s.heap l1 l2).objs.size=s.heap.objs.size + 3:=by rw [Heap.size_push,z2]
 have z4:(zq4 t1 t2 s.heap l1 l2).objs.size=s.heap.objs.size + 4:=by rw [Heap.size_push,z3]
 have g5:(zq5 t1 t2 s.heap l1 l2).get? (zq4 t1 t2 s.heap l1 l2).objs.size=some _:=Heap.get?_push_size _ rfl
 have g4:(zq5 t1 t2 s.heap l1 l2).get? (zq3 t1 t2 s.heap l1 l2).objs.size=some _:=Heap.get?_push_of_some _ (Heap.get?_push_size _ rfl)
 have g3:(zq5 t1 t2 s.heap l1 l2).get? (zq2 t1 t2 s.heap l1 l2).objs.size=some _:=Heap.get?_push_of_some _ (Heap.get?_push_of_some _ (Heap.get?_push_size _ rfl))
 have g2:(zq5 t1 t2 s.heap l1 l2).get? (zq1 t1 s.heap l1).objs.size=some _:=Heap.get?_push_of_some _ (Heap.get?_push_of_some _ (Heap.get?_push_of_some _ (Heap.get?_push_size _ rfl)))
 have g1:(zq5 t1 t2 s.heap l1 l2).get? s.heap.objs.size=some _:=Heap.get?_push_of_some _ (Heap.get?_push_of_some _ (Heap.get?_push_of_some _ (Heap.get?_push_of_some _ (Heap.get?_push_size _ rfl))))
 show _∧_
 rw [z2,z3,z4] at g5; rw [z1,z2] at g3; rw [z3] at g4; rw [z1] at g2; rw [z4]
 refine ⟨⟨_,g5,rfl⟩,h _ g5 g3 g4 ?_ ?_ fun c o x=>Heap.get?_push_of_some _ (Heap.get?_push_of_some _ (Heap.get?_push_of_some _ (Heap.get?_push_of_some _ (Heap.get?_push_of_some _ x))))⟩
 ·cases t1 <;> exact ⟨_,g1,rfl,rfl⟩
 ·cases t2 <;> exact ⟨_,g2,rfl,rfl⟩
section
variable {prog:Program} {w:World} {A:Around} {R:Result→Shared→Prop} {I:Addr} {fp wr:List Addr} {n:Nat} {P:Nat→Value→Prop} {St:Nat→Heap→Prop}
theorem maxK_loop (kw:List (Str×Value)) (W:Walks prog w A.in1 I fp wr n P St) (bt:Nat→Nat→Bool) (hcmp:CmpOf prog w A.in1 .Gt P bt) (S:Addr) (hSf:S∉fp) :
  ∀ (k j:Nat) (s:Shared) (vb:Value) (c:Nat),n - (j + 1)=k→j + 1≤n→St (j + 1) s.heap→P (argBest bt j) vb→s.heap.get? S=some { cls:=.type "list",dict:=none,data:=.seq #[vb,vb] c,slots := #[] } →
  (∀ v h' tk,P (argBest bt (n - 1)) v→(∀ b o,b∉wr→b≠S→s.heap.get? b=some o→h'.get? b=some o)→R (.ok (.ret v)) { s with heap:=h',toks:=tk }) →
  codeAny (model prog w) A (.builtin "max.loop" ⟨[.ref I,.none,.ref S],kw⟩) R s:=by
 have hSw:S∉wr:=fun h=>hSf (W.sub _ h)
 have hname:(toString "max" ++ toString ".loop" : String) = "max.loop" := by decide
 intro k
 induction k with
 | zero =>
  intro j s vb c hk hj hst hPb hS hR
  have hin:j + 1=n:=by omega
  refine codeAny_builtin F.entry_max_loop ?_; rw [Around.under_plainId F.plain_max_loop _]
  show wpAny _ A.in1 (seqItems? (.ref S) >>= _) _ _ s; refine wpAny_bind (wpAny_seqItems hS rfl ?_)
  show wpAny _ A.in1 (tryCatch (pyNext (.ref I)) _ >>= _) _ _ s; refine wpAny_bind (wpAny_tryCatch (W.done s _ _ (hin ▸ hst) fun h' tk hk' => ?_))
  have hS':=hk' S _ hSw hS
  show wpAny _ A.in1 (updateSeq S (fun _ => #[]) >>= _) _ _ _; refine wpAny_bind ?_; refine wpAny_updateSeq hS' rfl (wpAny_bind (wpAny_letGo (wpAny_pure ?_)))
  exact hR vb _ tk (by rw [← hin]; exact hPb) fun b o hbw hbS e=>(Heap.get?_update_other _ _ (Ne.symm hbS)).trans (hk' b o hbw e)
 | succ k ih =>
  intro j s vb c hk hj hst hPb hS hR
  have hlt:j + 1 < n:=by omega
  refine codeAny_builtin F.entry_max_loop ?_; rw [Around.under_plainId F.plain_max_loop _]
  show wpAny _ A.in1 (seqItems? (.ref S) >>= _) _ _ s; refine wpAny_bind (wpAny_seqItems hS rfl ?_)
  show wpAny _ A.in1 (tryCatch (pyNext (.ref I)) _ >>= _) _ _ s; refine wpAny_bind (wpAny_tryCatch (W.item (j + 1) s _ _ hlt hst fun v h' tk hP hst' hk' => ?_))
  have hS':=hk' S _ hSw hS
  show wpAny _ A.in1 (tryCatch (holding [v,v] (richCompare .Gt v vb >>= _)) _ >>= _) _ _ _; refine wpAny_bind (wpAny_tryCatch (wpAny_holding (wpAny_bind (hcmp (j + 1) (argBest bt j) v vb _ _ _ hP hPb ?_))))
  refine wpAny_bind (wpAny_holding (wpAny_truthy_bool ?_)); refine wpAny_bind (wpAny_letGo (wpAny_pure ?_))
  cases hb:bt (j + 1) (argBest bt j) with
  | true =>
   simp only [if_true]; refine wpAny_bind ?_; refine wpAny_updateSeq hS' rfl (wpAny_bind (wpAny_letGo ?_)); rw [hname]
   refine wpAny_pure ⟨plainId_quiet F.plain_max_loop _,ih (j + 1) _ v _ (by omega) hlt (W.frame _ _ _ hst' fun b hbf o e => ?_) (by simp only [argBest,hb,if_true]; exact hP) (Heap.get?_update_self _ hS' rfl) fun v' h'' tk'' hP' hk'' => ?_⟩
   ·exact (Heap.get?_update_other _ _ (fun h:S=b=>hSf (by rw [h]; exact hbf))).trans e
   ·exact hR v' h'' tk'' hP' fun b o hbw hbS e=>hk'' b o hbw hbS ((Heap.get?_update_other _ _ (Ne.symm hbS)).trans (hk' b o hbw e))
  | false =>
   simp only [Bool.false_eq_true,if_false]; refine wpAny_bind (wpAny_letGo ?_); rw [hname]
   refine wpAny_pure ⟨plainId_quiet F.plain_max_loop _,ih (j + 1) _ vb c (by omega) hlt hst' (by simp only [argBest,hb,Bool.false_eq_true,if_false]; exact hPb) hS' fun v' h'' tk'' hP' hk'' => ?_⟩
   exact hR v' h'' tk'' hP' fun b o hbw hbS e=>hk'' b o hbw hbS (hk' b o hbw e)
theorem maxK_first (kw:List (Str×Value)) (W:Walks prog w A.in1 I fp wr n P St) (bt:Nat→Nat→Bool) (hcmp:CmpOf prog w A.in1 .Gt P bt) (S:Addr) (hSf:S∉fp) (hn:0 < n) {s:Shared} {c:Nat} (hst:St 0 s.heap)
  (hS:s.heap.get? S=some { cls:=.type "list",dict:=none,data:=.seq #[] c,slots := #[] })
  (hR:∀ v h' tk,P (argBest bt (n - 1)) v→(∀ b o,b∉wr→b≠S→s.heap.get? b=some o→h'.get? b=some o)→R (.ok (.ret v)) { s with heap:=h',toks:=tk }) :
  codeAny (model prog w) A (.builtin "max.loop" ⟨[.ref I,.none,.ref S],kw⟩) R s:=by
 have hSw:S∉wr:=fun h=>hSf (W.sub _ h)
 have hname:(toString "max" ++ toString ".loop" : String) = "max.loop" := by decide
 refine codeAny_builtin F.entry_max_loop ?_; rw [Around.under_plainId F.plain_max_loop _]
 show wpAny _ A.in1 (seqItems? (.ref S) >>= _) _ _ s; refine wpAny_bind (wpAny_seqItems hS rfl ?_)
 show wpAny _ A.in1 (tryCatch (pyNext (.ref I)) _ >>= _) _ _ s; refine wpAny_bind (wpAny_tryCatch (W.item 0 s _ _ hn hst fun v h' tk hP hst' hk' => ?_))
 have hS':=hk' S _ hSw hS
 show wpAny _ A.in1 (updateSeq S (fun _ => #[v,v]) >>= _) _ _ _; refine wpAny_bind ?_; refine wpAny_updateSeq hS' rfl ?_; rw [hname]
 refine wpAny_pure ⟨plainId_quiet F.plain_max_loop _,maxK_loop kw W bt hcmp S hSf _ 0 _ v _ rfl hn (W.frame _ _ _ hst' fun b hbf o e => ?_) hP (Heap.get?_update_self _ hS' rfl) fun v' h'' tk'' hP' hk'' => ?_⟩
 ·exact (Heap.get?_update_other _ _ (fun h:S=b=>hSf (by rw [h]; exact hbf))).trans e
 ·exact hR v' h'' tk'' hP' fun b o hbw hbS e=>hk'' b o hbw hbS ((Heap.get?_update_other _ _ (Ne.symm hbS)).trans (hk' b o hbw e))
theorem maxK_none {d:Value} {nm:Str} (W:Walks prog w A.in1 I fp wr 0 P St) (S:Addr) (hSf:S∉fp) {s:Shared} {c:Nat} (hst:St 0 s.heap)
  (hS:s.heap.get? S=some { cls:=.type "list",dict:=none,data:=.seq #[] c,slots := #[] })
  (hR:∀ h' tk,(∀ b o,b∉wr→s.heap.get? b=some o→h'.get? b=some o)→R (.ok (.ret d)) { s with heap:=h',toks:=tk }) :
  codeAny (model prog w) A (.builtin "max.loop" ⟨[.ref I,.none,.ref S],[(nm,d)]⟩) R s:=by
 have hSw:S∉wr:=fun h=>hSf (W.sub _ h)
 refine codeAny_builtin F.entry_max_loop ?_; rw [Around.under_plainId F.plain_max_loop _]
 show wpAny _ A.in1 (seqItems? (.ref S) >>= _) _ _ s; refine wpAny_bind (wpAny_seqItems hS rfl ?_)
 show wpAny _ A.in1 (tryCatch (pyNext (.ref I)) _ >>= _) _ _ s; refine wpAny_bind (wpAny_tryCatch (W.done s _ _ hst fun h' tk hk' => ?_))
 refine wpAny_bind (wpAny_rule (wpAny_pure ?_))
 exact hR h' tk hk'
end
theorem args_maxD (a d:Value):argsOk "max" ⟨[a],[(Str.ofString "default",d)]⟩:=by unfold argsOk; kernel_rfl
def Sq (t:Bool) (K:FG_) (H:Hp) (a:Addr) (xs:List V):Prop:=if t=true then SqT K H a xs else SqL K H a xs
theorem Inv.sseq {X:Cx} {pins:PN_} {σ:St} {H:Hp} {s:Shared} {t:Bool} {a:Addr} {xs:List V} (I:Inv X pins σ H s) (h:Sq t X.K H a xs):∃ its:List Value,Vals xs its∧SSeq t s.heap a its.toArray∧xs.length≤sizeLine:=by
 cases t
 ·obtain ⟨its,r,p,z⟩:=I.list h
  exact ⟨its,r,p.isList,z⟩
 ·obtain ⟨its,r,p,z⟩:=I.tuple h
  exact ⟨its,r,p,z⟩
theorem Inv.sseq_inj {X:Cx} {pins:PN_} {σ:St} {H:Hp} {s:Shared} {t:Bool} {a:Addr} {xs ys:List V} (I:Inv X pins σ H s) (h:Sq t X.K H a xs) (h':Sq t X.K H a ys):xs=ys:=by
 cases t
 ·exact I.list_inj h h'
 ·exact I.tuple_inj h h'
def Itz (t1 t2:Bool) (K:FG_) (a b:Addr):It :=
  ⟨fun i H => ∃ xs ys x y,Sq t1 K H a xs∧Sq t2 K H b ys∧xs[i]? = some x∧ys[i]? = some y,
   fun i H v H' => ∃ p x y,v=.ref p∧H p=none∧H'=upd H p (.tup [x,y])∧∀ xs ys,Sq t1 K H a xs→Sq t2 K H b ys→xs[i]? = some x∧ys[i]? = some y,
   fun i H => ∃ xs ys,Sq t1 K H a xs∧Sq t2 K H b ys∧(xs.length≤i∨ys.length≤i)⟩
section
variable {X:Cx} {pins:PN_} {σ:St} {H:Hp} {s:Shared}
theorem Inv.turnedL {ch:List Addr} {h':Heap} {t':Nat} (I:Inv X pins σ H s) (hf:∀ b∈ch,FpOk X pins H b) (k:∀ b o,b∉ch→s.heap.get? b=some o→h'.get? b=some o):Inv X pins σ H { s with heap:=h',toks:=t' }:=by
 have nch:∀ b u,H b=some u→b∉ch:=fun b u e z=>by rw [(hf b z).1] at e; cases e
 refine I.step (g':=s.gens) (d':=s.drawn) (ch:=ch) (fun b hb=>⟨(hf b hb).2.2.2.1,(hf b hb).2.1,(hf b hb).2.2.2.2.1,(hf b hb).2.2.2.2.2⟩) (fun b o _ _ hc e _=>k b o hc e) (fun b o _ _ hc e _=>⟨o.slots,k b o hc e⟩) (fun _ _ _ _ n=>n)
  (fun b o hc e=>⟨o,k b o hc e⟩) (fun _ _ e=>e) (fun _ _ _ e=>e) (fun b ps e=>⟨#[],by rw [e]; simp⟩) (fun m hm => ?_) (fun b u e => ?_) I.bare
 ·obtain ⟨o,es,ep,ho,r⟩:=hm
  exact ⟨o,es,ep,k _ o (fun z=>(hf _ z).2.1 rfl) ho,r⟩
 ·refine (I.hok b u e).stay (fun c v hc q=>k c v ?_ q) (fun _ q=>q) fun _ _ q=>q
  rcases hc with z | z
  ·rw [z]; exact nch b u e
  ·exact nch c _ z
theorem Inv.turnedT {ch:List Addr} {h':Heap} {t':Nat} {T:Addr} {xs:List V} {its:List Value} (I:Inv X pins σ H s) (hf:∀ b∈ch,FpOk X pins H b) (k:∀ b o,b∉ch→s.heap.get? b=some o→h'.get? b=some o)
  (hT:s.heap.objs.size≤T) (r:Vals xs its) (hz:xs.length≤sizeLine) (e:IsTup h' T its.toArray):Inv X pins σ (upd H T (.tup xs)) { s with heap:=h',toks:=t' }:=by
 have nT:H T=none:=I.hok.fresh hT
 have nch:∀ b u,H b=some u→b∉ch:=fun b u e z=>by rw [(hf b z).1] at e; cases e
 have neT:∀ b o,s.heap.get? b=some o→b≠T:=fun b o e z=>absurd (Nat.lt_of_lt_of_le (Heap.lt_size e) (by rw [z]; exact hT)) (Nat.lt_irrefl _)
 refine I.step (g':=s.gens) (d':=s.drawn) (ch:=ch) (fun b hb=>⟨(hf b hb).2.2.2.1,(hf b hb).2.1,(hf b hb).2.2.2.2.1,(hf b hb).2.2.2.2.2⟩) (fun b o _ _ hc e _=>k b o hc e) (fun b o _ _ hc e _=>⟨o.slots,k b o hc e⟩)
  (fun b o _ e n=>by rw [ah_ (neT b o e)]; exact n) (fun b o hc e=>⟨o,k b o hc e⟩) (fun b ys q=>by rw [ah_ (ba_ q nT)]; exact q) (fun b o u q=>by rw [ah_ (ba_ q nT)]; exact q)
  (fun b ps q=>⟨#[],by rw [ah_ (ba_ q nT),q]; simp⟩) (fun m hm => ?_) (fun b u q => ?_) I.bare
 ·obtain ⟨o,es,ep,ho,rr⟩:=hm
  exact ⟨o,es,ep,k _ o (fun z=>(hf _ z).2.1 rfl) ho,rr⟩
 ·by_cases hb:b=T
  ·subst hb
   rw [upd_same] at q
   cases q
   exact ⟨hz,its,r,e⟩
  ·rw [ah_ hb] at q
   refine (I.hok b u q).stay (fun c v hc z=>k c v ?_ z) (fun c z=>by rw [ah_ (ba_ z nT)]; exact z) fun c ys z=>by rw [ah_ (ba_ z nT)]; exact z
   rcases hc with z | z
   ·rw [z]; exact nch b u q
   ·exact nch c _ z
end
theorem turn_zip {P:Program} {w:World} {K:FG_} {es:List Expr} {kk:Nat} {tpos:Pos} {t1 t2:Bool} {a b z TI TO i1 i2:Addr} (D:ZipApart z TI TO i1 i2 a b) :
  Turn P w K (.Tuple es kk tpos) (Itz t1 t2 K a b) [z,TI,TO,i1,i2] z (fun i h=>IsZip h z TI TO .none∧IsPair h TI (.ref i1) (.ref i2)∧(∃ u v,IsPair h TO u v)∧SIter t1 h i1 a i∧SIter t2 h i2 b i) where
 mem:=by simp
 obj:=fun i h st c hb=>by
  obtain ⟨hz,hTI,⟨u,v,hTO⟩,h1,h2⟩:=st
  simp only [List.mem_cons,List.not_mem_nil,or_false] at hb
  rcases hb with rfl | rfl | rfl | rfl | rfl
  ·exact ⟨_,hz,fun v e=>nomatch e⟩
  ·exact ⟨_,hTI,fun v e=>nomatch e⟩
  ·exact ⟨_,hTO,fun v e=>nomatch e⟩
  ·exact h1.obj
  ·exact h2.obj
 keep:=fun i h h' st k=>by
  obtain ⟨hz,hTI,⟨u,v,hTO⟩,h1,h2⟩:=st
  exact ⟨k z (by simp) _ hz,k TI (by simp) _ hTI,⟨u,v,k TO (by simp) _ hTO⟩,h1.to fun o e=>k i1 (by simp) o e,h2.to fun o e=>k i2 (by simp) o e⟩
 item:=by
  intro X hP hw hK hc i pins s σ H E I hf st hg
  subst hP hw hK
  obtain ⟨xs,ys,x,y,q1,q2,e1,e2⟩:=hg
  obtain ⟨its1,r1,p1,z1⟩:=I.sseq q1
  obtain ⟨its2,r2,p2,z2⟩:=I.sseq q2
  obtain ⟨u1,eu1,ru1⟩:=r1.get e1
  obtain ⟨u2,eu2,ru2⟩:=r2.get e2
  obtain ⟨hz,hTI,⟨u,v,hTO⟩,h1,h2⟩:=st
  have hf4:∀ c∈[z,TO,i1,i2],FpOk X pins H c:=fun c hc=>hf c (by simp only [List.mem_cons,List.not_mem_nil,or_false] at hc ⊢; rcases hc with rfl | rfl | rfl | rfl <;> simp)
  have lt:∀ {c o},s.heap.get? c=some o→s.heap.objs.size≠c:=fun e=>Nat.ne_of_gt (Heap.lt_size e)
  refine pyNext_zipS D hz hTI hTO h1 h2 p1 p2 (x:=u1) (y:=u2) (by simpa using eu1) (by simpa using eu2) fun h' a1 a2 a3 a4 a5 a6 hk => ?_
  refine ⟨_,rfl,wpAny_letOwnedTupleGo_zip a1 fun h'' b1 b2 => ?_⟩
  have b2':Heap.SameBut z h' h'':=b2
  have kk:∀ c o,c∉[z,TO,i1,i2]→s.heap.get? c=some o→h''.get? c=some o:=fun c o hc e=>by
   simp only [List.mem_cons,List.not_mem_nil,or_false,not_or] at hc
   exact b2'.extBut _ _ hc.1 (hk c o hc.1 hc.2.1 hc.2.2.1 hc.2.2.2 e)
  have tT:h''.get? s.heap.objs.size=some { cls:=.type "tuple",data:=.seq #[u1,u2] }:=b2'.extBut _ _ (lt hz) a5
  have nT:H s.heap.objs.size=none:=I.hok.fresh (Nat.le_refl _)
  have I':Inv X pins σ (upd H s.heap.objs.size (.tup [x,y])) { s with heap:=h'' }:=I.turnedT (t':=s.toks) (its:=[u1,u2]) hf4 kk (Nat.le_refl _) (.cons ru1 (.cons ru2 .nil)) (by show 2≤sizeLine; decide) ⟨_,tT,rfl,_,rfl⟩
  refine ⟨.ref s.heap.objs.size,upd H s.heap.objs.size (.tup [x,y]),I',rfl,
   ⟨_,x,y,rfl,nT,rfl,fun xs' ys' w1 w2=>⟨by rw [I.sseq_inj w1 q1]; exact e1,by rw [I.sseq_inj w2 q2]; exact e2⟩⟩,⟨b1,b2'.extBut _ _ D.TIz (hk _ _ D.TIz D.TITO D.TIi1 D.TIi2 hTI),⟨_,_,b2'.extBut _ _ D.TOz a2⟩,a3.to fun o e=>b2'.extBut _ _ D.i1z e,a4.to fun o e=>b2'.extBut _ _ D.i2z e⟩,fun c hc => ?_⟩
  obtain ⟨o,eo,_⟩ : ∃ o,s.heap.get? c=some o∧True:=by
   simp only [List.mem_cons,List.not_mem_nil,or_false] at hc
   rcases hc with rfl | rfl | rfl | rfl | rfl
   ·exact ⟨_,hz,trivial⟩
   ·exact ⟨_,hTI,trivial⟩
   ·exact ⟨_,hTO,trivial⟩
   ·obtain ⟨o,e,_⟩:=h1.obj; exact ⟨o,e,trivial⟩
   ·obtain ⟨o,e,_⟩:=h2.obj; exact ⟨o,e,trivial⟩
  rw [ah_ (Ne.symm (lt eo))]
  exact (hf c hc).1
 done:=by
  intro X hP hw hK hc i pins s σ H E I hf st hg
  subst hP hw hK
  obtain ⟨xs,ys,q1,q2,e⟩:=hg
  obtain ⟨its1,r1,p1,z1⟩:=I.sseq q1
  obtain ⟨its2,r2,p2,z2⟩:=I.sseq q2
  obtain ⟨hz,hTI,⟨u,v,hTO⟩,h1,h2⟩:=st
  have hf4:∀ c∈[z,TO,i1,i2],FpOk X pins H c:=fun c hc=>hf c (by simp only [List.mem_cons,List.not_mem_nil,or_false] at hc ⊢; rcases hc with rfl | rfl | rfl | rfl <;> simp)
  have l1:=r1.length
  have l2:=r2.length
  refine pyNext_zipSE (I.ok.hd hc) D hz hTI hTO h1 h2 p1 p2 ?_ fun h' hk=>⟨rfl,I.turnedL (t':=s.toks) hf4 fun c o hc e => ?_⟩
  ·rcases e with e | e
   ·exact .inl (by simp; omega)
   ·exact .inr (by simp; omega)
  ·simp only [List.mem_cons,List.not_mem_nil,or_false,not_or] at hc
   exact hk c o hc.1 hc.2.1 hc.2.2.1 hc.2.2.2 e
 self:=fun _ _ _ _ _ st h=>wpAny_pyIter_zip st.1 h
theorem bt_zip:bootBuiltins "zip" = some (.type "zip"):=by decide +kernel
def iZip (t1 t2:Bool) (K:FG_) (ta:TA):TI:=fun σ H R=>ta σ H fun vs H1 => ∃ a b,vs=[.ref a,.ref b]∧(∃ xs,Sq t1 K H1 a xs)∧(∃ ys,Sq t2 K H1 b ys)∧R (Itz t1 t2 K a b) H1
theorem pi_zip {X:Cx} {ea eb:Expr} {ta:TA} {p pos:Pos} {es:List Expr} {kk:Nat} {tpos:Pos} {t1 t2:Bool} (hg:Gl X "zip") (hm:X.mg "zip" = none) (ha:PA X [ea,eb] ta) (hs:starEach [ea,eb] X.env=[(false,eval ea X.env),(false,eval eb X.env)]:=by rfl) (hs2:starEach [eb] X.env=[(false,eval eb X.env)]:=by rfl) :
  PI X (.Tuple es kk tpos) (.Call (.Name "zip" p) [ea,eb] [] pos) (iZip t1 t2 X.K ta):=by
 intro pins s σ H R I h
 refine Call_ (gr_ I hg hm bt_zip (PyProof.Rows.callWith_type1 (thn (ha pos pins s σ H _ I h) fun us s1 ⟨vs,H1,I1,r1,q1⟩ => ?_) (by rw [hs,hs2]) (by rw [hs2]; rfl)))
 obtain ⟨a,b,e,⟨xs,w1⟩,⟨ys,w2⟩,q⟩:=q1
 subst e
 obtain ⟨u,v,rfl,ru,rv⟩:=r1.two
 cases ru
 cases rv
 obtain ⟨its1,r1,p1,z1⟩:=I1.sseq w1
 obtain ⟨its2,r2,p2,z2⟩:=I1.sseq w2
 have lt1:a < s1.heap.objs.size:=by cases t1 <;> (obtain ⟨_,e,_⟩:=p1; exact Heap.lt_size e)
 have lt2:b < s1.heap.objs.size:=by cases t2 <;> (obtain ⟨_,e,_⟩:=p2; exact Heap.lt_size e)
 refine call_zipS p1 p2 fun h' hz hTI hTO hi1 hi2 hk=>wpAny_pyIter_zip hz ?_
 refine ⟨_,_,_,_,H1,rfl,I1.kept (t':=s1.toks) hk,turn_zip (t1:=t1) (t2:=t2) (zipApart_new lt1 lt2),⟨hz,hTI,⟨_,_,hTO⟩,hi1,hi2⟩,fun c hc => ?_,q⟩
 have hle:s1.heap.objs.size≤c:=by
  simp only [List.mem_cons,List.not_mem_nil,or_false] at hc
  rcases hc with rfl | rfl | rfl | rfl | rfl <;> omega
 exact I1.fpOk hle (I1.hok.fresh hle)
section
variable {X:Cx}
theorem call_maxL (hc:X.calm=true):CallR X (.builtin "max") (fun xs H Q => ∃ p ns,xs=[.ref p]∧SqL X.K H p (ns.map V.int)∧ns≠[]∧∀ M,M∈ns→(∀ a∈ns,a≤M)→Q (.int M) H):=by
 intro pins s σ H xs us Q I r h
 obtain ⟨p,ns,rfl,hq,hne,q⟩:=h
 obtain ⟨u,rfl,rx⟩:=vals1 r
 cases rx
 obtain ⟨its,r',pl,hz⟩:=I.list hq
 have hi:=intsAre_of r'
 obtain ⟨zs,e⟩:=hi.allInts.items
 have hns:ns=zs.toList.map (·.1):=by rw [← hi.numsOf,← nums_intItems,← e]
 have hsz:0 < zs.size:=by
  have h3:=List.length_pos_iff.mpr hne
  rw [hns,List.length_map,Array.length_toList] at h3
  exact h3
 have pl':=pl.isList
 rw [e] at pl'
 refine max_intList (I.ok.hd hc) pl' hsz fun v h' tk hv hk => ?_
 obtain ⟨t,rfl⟩:=intItems_at hv
 obtain ⟨h1,h2⟩:=argBest_gt (numAt zs) (zs.size - 1)
 refine ⟨.int _,H,I.kept hk,⟨t,rfl⟩,q _ ?_ fun a ha => ?_⟩
 ·rw [hns,numAt_eq]
  exact getD_mem (by rw [List.length_map,Array.length_toList]; omega)
 ·rw [hns] at ha
  obtain ⟨j,hj,rfl⟩:=mem_getD ha
  rw [List.length_map,Array.length_toList] at hj
  rw [← numAt_eq]
  exact h2 j (by omega)
def CallKR (X:Cx) (f:Value) (ks:List Str) (r:List V→List V→Hp→VK→Prop):Prop :=
 ∀ (pins:PN_) (s:Shared) (σ:St) (H:Hp) (xs zs:List V) (us ws:List Value) (Q:VK),Inv X pins σ H s→Vals xs us→Vals zs ws→r xs zs H Q →
  wpAny (model X.prog X.w) X.A (call f us (ks.zip ws)) (EP X pins σ Q) X.xe s
def tCBK (r:List V→List V→Hp→VK→Prop) (t tk:TA):TE:=fun σ H Q=>t σ H fun vs H1=>tk σ H1 fun zs H2=>r vs zs H2 Q
theorem pe_callBK {x:Str} {p pos:Pos} {e:Expr} {es:List Expr} {kws:List Keyword} {t tk:TA} {id:String} {ks:List Str} {r:List V→List V→Hp→VK→Prop} (hc:CallKR X (.builtin id) ks r) (hg:Gl X x) (hm:X.mg x=none) (hv:bootBuiltins x=some (.builtin id))
  (ha:PA X (e :: es) t) (hkw:PK X kws tk) (hks:(backToKw pos (keywordEach kws X.env)).filterMap (·.1)=ks:=by rfl) (hn:x ≠ "__name__" := by decide) (hdb:(x == ("__debug__" : Str))=false:=by decide)
  (he:backTo pos (starEach (e :: es) X.env)=(false,eval e X.env) :: backTo pos (starEach es X.env):=by rfl) (hpl:(backTo pos (starEach (e :: es) X.env)).any (·.1)=false:=by rfl)
  (hall:(backToKw pos (keywordEach kws X.env)).all (·.1.isSome)=true:=by rfl) (hkn:(backToKw pos (keywordEach kws X.env)).any (·.1.isNone)=false:=by rfl):PE X (.Call (.Name x p) (e :: es) kws pos) (tCBK r t tk):=by
 intro pins s σ H Q I h
 refine wpAny_Call_Name_kw (gr_ I hg hm hv ?_ hn hdb)
 refine PyProof.Rows.callWith_kw (thn (ha pos pins s σ H _ I h) fun us s1 ⟨vs,H1,I1,r1,q1⟩=>thn (hkw pos pins s1 σ H1 _ I1 q1) fun ws s2 ⟨zs,H2,I2,r2,q2⟩ => ?_) he hpl hall hkn
 rw [hks]
 exact hc pins s2 σ H2 vs zs us ws Q I2 r1 r2 q2
theorem call_maxD (hc:X.calm=true):CallKR X (.builtin "max") ["default"] (fun xs zs H Q => ∃ p ns d,xs=[.ref p]∧zs=[.int d]∧SqL X.K H p (ns.map V.int)∧(ns=[]→Q (.int d) H)∧(∀ M,M∈ns→(∀ a∈ns,a≤M)→Q (.int M) H)):=by
 intro pins s σ H xs zs us ws Q I r rz h
 obtain ⟨p,ns,d,rfl,rfl,hq,q0,q⟩:=h
 obtain ⟨u,rfl,rx⟩:=vals1 r
 cases rx
 obtain ⟨v,rfl,td,rfl⟩:=vals1 rz
 obtain ⟨its,r',pl,hz⟩:=I.list hq
 have hi:=intsAre_of r'
 obtain ⟨ys,e⟩:=hi.allInts.items
 have hns:ns=ys.toList.map (·.1):=by rw [← hi.numsOf,← nums_intItems,← e]
 have pl':=pl.isList
 rw [e] at pl'
 have hname:(toString "max" ++ toString ".loop" : String) = "max.loop" := by decide
 have hh:X.A.handled=none:=I.ok.hd hc
 refine kmk_tree PySem.F.kind_max PySem.F.plain_max PySem.F.entry_max (args_maxD _ _) ?_
 show wpAny _ X.A.in1 (Builtin.Builtins.bindParams "max" ["key", "default"] 0 ⟨[],[(Str.ofString "default",.int d td)]⟩ >>= _) _ _ s
 refine wpAny_bind (wpAny_of_eq (show Builtin.Builtins.bindParams "max" ["key", "default"] 0 ⟨[],[(Str.ofString "default",.int d td)]⟩=pure [none,some (.int d td)] from rfl) ?_)
 refine wpAny_bind (wpAny_pure ?_)
 refine wpAny_bind (iter_intList pl' fun s2 e2 st hfp hlI => ?_)
 subst e2
 refine wpAny_bind (wpAny_newObj_type ?_)
 have W:=Walks.list (prog:=X.prog) (w:=X.w) (A:=X.A.in1) hh s.heap.objs.size p hlI (intItems ys)
 rw [hname]
 have old:∀ b o,s.heap.get? b=some o→b≠s.heap.objs.size:=fun b o e=>Nat.ne_of_lt (Heap.lt_size e)
 refine wpAny_pure ⟨plainId_quiet PySem.F.plain_max_loop _,?_⟩
 have hSf:(s.heap.push { cls:=.type "list_iterator",data:=.fields #[.ref p,.int 0 0] }).objs.size∉[s.heap.objs.size,p]:=fun hm=>Nat.lt_irrefl _ (hfp _ hm)
 have st':=W.frame 0 _ ((s.heap.push { cls:=.type "list_iterator",data:=.fields #[.ref p,.int 0 0] }).push { cls:=.type "list",dict:=none,data:=.seq ([]:List Value).toArray }) st fun b _ o e=>Heap.get?_push_of_some _ e
 by_cases hn:0 < ys.size
 ·refine maxK_first _ W (fun i j=>decide (numAt ys i > numAt ys j)) (CmpOf.ints_gt (numAt ys) (fun _ _=>intItems_at)) _ hSf (by simpa [intItems] using hn) st' (Heap.get?_push_size _ rfl) fun v h' tk hP hk => ?_
  have hv:(intItems ys)[argBest (fun i j=>decide (numAt ys i > numAt ys j)) (ys.size - 1)]? = some v:=by simpa [intItems] using hP
  obtain ⟨t,rfl⟩:=intItems_at hv
  obtain ⟨h1,h2⟩:=argBest_gt (numAt ys) (ys.size - 1)
  refine ⟨.int _,H,I.kept fun b o e=>hk b o (by simpa using old b o e) ?_ (Heap.get?_push_of_some _ (Heap.get?_push_of_some _ e)),⟨t,rfl⟩,q _ ?_ fun a ha => ?_⟩
  ·have:=Heap.lt_size e
   rw [Heap.size_push]
   exact Nat.ne_of_lt (Nat.lt_succ_of_lt this)
  ·rw [hns,numAt_eq]
   exact getD_mem (by rw [List.length_map,Array.length_toList]; omega)
  ·rw [hns] at ha
   obtain ⟨j,hj,rfl⟩:=mem_getD ha
   rw [List.length_map,Array.length_toList] at hj
   rw [← numAt_eq]
   exact h2 j (by omega)
 ·have e0:(intItems ys).size=0:=by rw [intItems,Array.size_map]; omega
  rw [e0] at W
  refine maxK_none W _ hSf st' (Heap.get?_push_size _ rfl) fun h' tk hk => ?_
  refine ⟨.int d,H,I.kept fun b o e=>hk b o (by simpa using old b o e) (Heap.get?_push_of_some _ (Heap.get?_push_of_some _ e)),⟨td,rfl⟩,q0 ?_⟩
  rw [hns]
  have:ys.toList.length=0:=by rw [Array.length_toList]; omega
  rw [List.eq_nil_of_length_eq_zero this]
  rfl
theorem op_eqNil (hu:X.A.units < cLine):OpR X (compareOp .Eq) (fun x y H Q => ∃ p b xs,x=.ref p∧y=.ref b∧SqL X.K H p xs∧SqL X.K H b []∧Q (.bl xs.isEmpty) H):=by
 intro pins s σ H x y v u Q I rx ry h
 obtain ⟨p,b,xs,rfl,rfl,h1,h2,q⟩:=h
 cases rx
 cases ry
 obtain ⟨its,r1,p1,_⟩:=I.list h1
 obtain ⟨its2,r2,p2,_⟩:=I.list h2
 cases r2
 cases r1 with
 | nil=>exact PySem.SeqAt.eq_listAt (e:=fun _=>true) p1.isList p2.isList rfl hu (fun j a1=>absurd a1 (by simp)) ⟨.bl true,H,I,rfl,q⟩
 | cons ra rb=>exact PySem.SeqAt.eq_list_lengthsAt p1.isList p2.isList (by simp) hu ⟨.bl false,H,I,rfl,q⟩
theorem op_neNil (hu:X.A.units < cLine):OpR X (compareOp .NotEq) (fun x y H Q => ∃ p b xs,x=.ref p∧y=.ref b∧SqL X.K H p xs∧SqL X.K H b []∧Q (.bl (!xs.isEmpty)) H):=by
 intro pins s σ H x y v u Q I rx ry h
 obtain ⟨p,b,xs,rfl,rfl,h1,h2,q⟩:=h
 cases rx
 cases ry
 obtain ⟨its,r1,p1,_⟩:=I.list h1
 obtain ⟨its2,r2,p2,_⟩:=I.list h2
 cases r2
 cases r1 with
 | nil=>exact PySem.SeqAt.RcNeAt.lists (e:=fun _=>true) p1.isList p2.isList rfl hu (fun j a1=>absurd a1 (by simp)) _ _ _ _ ⟨.bl false,H,I,rfl,q⟩
 | cons ra rb=>exact PySem.SeqAt.RcNeAt.lists_lengths p1.isList p2.isList (by simp) hu _ _ _ _ ⟨.bl true,H,I,rfl,q⟩
theorem tys_of:∀ {ns:List String} {its:List Value},Vals (ns.map V.ty) its→its=ns.map Value.type
 | [],_,h=>by cases h; rfl
 | m :: ms,_,h=>by
  cases h with
  | cons ra rb =>
   rw [List.map_cons,← tys_of rb]
   exact congrArg (· :: _) (show _=Value.type m from ra)
theorem call_isinstT:CallR X (.builtin "isinstance") (fun xs H Q => ∃ (x:V) (p:Addr) (t:Value) (b:Bool) (ns:List String),xs=[x,.ref p]∧TyOf X.K H x t∧H p=some (.tup (ns.map V.ty))∧PySem.W.kitAny X.K t (ns.map Value.type)=some b∧Q (.bl b) H):=by
 intro pins s σ H xs us Q I r h
 obtain ⟨x,p,t,b,ns,rfl,ty,hp,e,q⟩:=h
 obtain ⟨u,w',rfl,r1,r2⟩:=vals2 r
 cases r2
 obtain ⟨_,its,rv,o,h1,h2,n,h3⟩:=(show ObjOk X.prog X.w H s.heap p (.tup (ns.map V.ty)) from I.hok p _ hp)
 have ei:=tys_of rv
 subst ei
 obtain ⟨cls,dd,data,sl⟩:=o
 dsimp only at h2 h3
 subst h2 h3
 have fin:∀ tk,EP X pins σ Q (.bool b) { s with toks:=tk }:=fun tk=>⟨.bl b,H,I.tok _,rfl,q⟩
 cases ty with
 | non=>cases (show u=Value.none from r1); exact PySem.W.kia_tup PySem.W.kitx_none I.kIn True.intro h1 e (fun z=>nomatch z) fin
 | bl y=>cases (show u=Value.bool y from r1); exact PySem.W.kia_tup PySem.W.kitx_bool I.kIn True.intro h1 e (fun z=>nomatch z) fin
 | int i=>obtain ⟨t,z⟩:=(show ∃ t,u=Value.int i t from r1); cases z; exact PySem.W.kia_tup PySem.W.kitx_int I.kIn True.intro h1 e (fun z=>nomatch z) fin
 | str y=>obtain ⟨t,z⟩:=(show ∃ t,u=Value.str y t from r1); cases z; exact PySem.W.kia_tup PySem.W.kitx_str I.kIn True.intro h1 e (fun z=>nomatch z) fin
 | flt y=>obtain ⟨t,z⟩:=(show ∃ t,u=Value.float y t from r1); cases z; exact PySem.W.kia_tup PySem.W.kitx_float I.kIn True.intro h1 e (fun z=>nomatch z) fin
 | @lst a xs ea =>
  cases (show u=Value.ref a from r1)
  obtain ⟨_,_,n,_,g1⟩:=(show ObjOk X.prog X.w H s.heap a (.lst xs) from I.hok a _ ea)
  exact PySem.W.kia_tup PySem.W.kitx_list I.kIn ⟨_,g1,rfl⟩ h1 e (fun z=>nomatch z) fin
 | @frz a ob xs ea =>
  cases (show u=Value.ref a from r1)
  obtain ⟨_,_,_,n,_,g1⟩:=(show ObjOk X.prog X.w H s.heap a (.frz ob (.lst xs)) from I.hok a _ ea)
  exact PySem.W.kia_tup PySem.W.kitx_list I.kIn ⟨_,g1,rfl⟩ h1 e (fun z=>nomatch z) fin
 | @tup a xs ea =>
  cases (show u=Value.ref a from r1)
  obtain ⟨_,_,_,p⟩:=(show ObjOk X.prog X.w H s.heap a (.tup xs) from I.hok a _ ea)
  obtain ⟨o,g1,g2,_⟩:=p
  exact PySem.W.kia_tup PySem.W.kitx_tuple I.kIn ⟨o,g1,g2⟩ h1 e (fun z=>nomatch z) fin
 | @dK a kvs ea =>
  cases (show u=Value.ref a from r1)
  obtain ⟨_,_,vs,_,p⟩:=(show ObjOk X.prog X.w H s.heap a (.dK kvs) from I.hok a _ ea)
  obtain ⟨o,es,ep,g1,g2,_⟩:=p
  exact PySem.W.kia_tup PySem.W.kitx_dict I.kIn ⟨o,g1,g2.1⟩ h1 e (fun z=>nomatch z) fin
 | @dT a kvs ea =>
  cases (show u=Value.ref a from r1)
  obtain ⟨_,_,xs,_,o,es,ep,g1,g2,_⟩:=(show ObjOk X.prog X.w H s.heap a (.dT kvs) from I.hok a _ ea)
  exact PySem.W.kia_tup PySem.W.kitx_dict I.kIn ⟨o,g1,g2.1⟩ h1 e (fun z=>nomatch z) fin
 | @ins a C dx fs ea cl ha hn htk hm =>
  cases (show u=Value.ref a from r1)
  obtain ⟨mA,O,_⟩:=ins_get I.hok ea
  obtain ⟨od,J,_⟩:=O.look
  exact PySem.W.kia_tup (PySem.W.kitx_own (cl.get _) cl.hd ha hn htk hm) I.kIn J h1 e (fun z=>nomatch z) fin
theorem sl_str:SlR X (fun x lo hi H Q => ∃ z,x=.str z∧z.length≤sizeLine∧Q (.str (Txt.slice z lo hi)) H):=by
 intro pins s σ H x v vl vu lo hi sl Q I rx hs pl pu h
 obtain ⟨z,rfl,hz,q⟩:=h
 obtain ⟨t,rfl⟩:=rx
 refine ⟨"str",_,PySem.F.slot_str_getitem.lookup,typeIs_str _ _ _,?_⟩
 obtain ⟨o,h1,h2,h3⟩:=hs
 cases pl with
 | none =>
  cases pu with
  | none=>exact wpAny_getItem_str_slice (l:=none) (u:=none) (st:=none) ⟨o,h1,h2,h3⟩ rfl (post_val_or_str ⟨Nat.le_trans (Txt.slice_le z _ _) hz,fun t' k=>⟨.str _,H,I.tok _,⟨_,rfl⟩,q⟩⟩)
  | int j uj=>exact wpAny_getItem_str_slice (l:=none) (u:=some (j,uj)) (st:=none) ⟨o,h1,h2,h3⟩ rfl (post_val_or_str ⟨Nat.le_trans (Txt.slice_le z _ _) hz,fun t' k=>⟨.str _,H,I.tok _,⟨_,rfl⟩,q⟩⟩)
 | int i ui =>
  cases pu with
  | none=>exact wpAny_getItem_str_slice (l:=some (i,ui)) (u:=none) (st:=none) ⟨o,h1,h2,h3⟩ rfl (post_val_or_str ⟨Nat.le_trans (Txt.slice_le z _ _) hz,fun t' k=>⟨.str _,H,I.tok _,⟨_,rfl⟩,q⟩⟩)
  | int j uj=>exact wpAny_getItem_str_slice (l:=some (i,ui)) (u:=some (j,uj)) (st:=none) ⟨o,h1,h2,h3⟩ rfl (post_val_or_str ⟨Nat.le_trans (Txt.slice_le z _ _) hz,fun t' k=>⟨.str _,H,I.tok _,⟨_,rfl⟩,q⟩⟩)
theorem op_mul_str:OpR X (binaryOp .Mult) (fun x y H Q => ∃ z n,x=.str z∧y=.int n∧z.length≤1000∧0≤n∧n≤1000∧Q (.str (Txt.mul z n)) H):=by
 intro pins s σ H x y v u Q I rx ry h
 obtain ⟨z,n,rfl,rfl,hz,h0,h1,q⟩:=h
 obtain ⟨t,rfl⟩:=rx
 obtain ⟨t',rfl⟩:=ry
 exact SB.mul (mulOk_of 1000 1000 hz (by omega) (by omega) (by decide) (by decide)) fun t' k=>⟨.str _,H,I.tok _,⟨_,rfl⟩,q⟩
theorem strsAre_of {ys:List Str}:∀ {us:List Value},Vals (ys.map V.str) us→StrsAre us ys:=by
 induction ys with
 | nil=>intro us r; rw [List.map_nil] at r; cases r; exact .nil
 | cons n ns ih =>
  intro us r
  rw [List.map_cons] at r
  cases r with
  | cons r1 r2 =>
   obtain ⟨t,e⟩:=r1
   subst e
   exact .cons n t (ih r2)
theorem mt_join:MtR X "str.join" (fun x vs H Q => ∃ z p ys,x=.str z∧vs=[.ref p]∧SqL X.K H p (ys.map V.str)∧(ys.map (·.length)).sum + ys.length * z.length≤16777216∧Q (.str (Txt.join z ys)) H):=by
 intro pins s σ H x vs v us Q I rx rv h
 obtain ⟨z,p,ys,rfl,rfl,hq,hok,q⟩:=h
 obtain ⟨t,rfl⟩:=rx
 obtain ⟨u,rfl,ru⟩:=rv.one
 cases ru
 obtain ⟨its,r',pl,hz⟩:=I.list hq
 exact join_list pl.isList (by rw [List.toList_toArray]; exact strsAre_of r') hok fun t' k=>⟨.str _,H,I.tok _,⟨_,rfl⟩,q⟩
end
section
variable {prog:Program} {w:World} {A:Around} {E:SV_}
theorem draw_lst {it l:Addr} {items:Array Value} (hne:l≠it):∀ (n i:Nat) (s:Shared) (Q:List Value→Shared→Prop),s.heap.IsListIter it l i→s.heap.IsList l items→i + n≤items.size →
  (∀ h',h'.IsListIter it l (i + n)→Heap.SameBut it s.heap h'→Q ((items.toList.drop i).take n) { s with heap:=h' })→wpAny (model prog w) A (draw (.ref it) n) Q E s
 | 0,i,s,Q,hit,_,_,hQ=>by
  show wpAny _ _ (pure []) Q E s; exact wpAny_pure (by simpa using hQ s.heap hit (Heap.SameBut.refl ..))
 | n + 1,i,s,Q,hit,ht,hle,hQ=>by
  have hlt:i < items.size:=by omega
  show wpAny _ _ (pyNext (.ref it) >>= _) Q E s; refine wpAny_bind (wpAny_pyNext_list_item hit ht (x:=items[i]) (by simp [hlt]) fun h1 hit1 hs1 => ?_)
  refine wpAny_bind (wpAny_holding (draw_lst hne n (i + 1) _ _ hit1 (ht.extBut hs1.extBut hne) (by omega) fun h2 hit2 hs2=>wpAny_pure ?_))
  have hd:items.toList.drop i=items[i] :: items.toList.drop (i + 1):=by simp [List.drop_eq_getElem_cons,hlt]
  have z:=hQ h2 (by rw [show i + (n + 1)=i + 1 + n by omega]; exact hit2) (hs1.trans hs2)
  rw [hd,List.take_succ_cons] at z; exact z
theorem unpack_lst {s:Shared} {l:Addr} {items:Array Value} {Q:List Value→Shared→Prop} (hh:A.handled=none) (ht:s.heap.IsList l items)
  (hQ:∀ h',Heap.ExtBut s.heap.objs.size s.heap h'→Q items.toList { s with heap:=h' }):wpAny (model prog w) A (unpackItems (.ref l) items.size none) Q E s:=by
 have hlt:l≠s.heap.objs.size:=by obtain ⟨o,ho,_⟩:=ht; exact Nat.ne_of_lt (Heap.lt_size ho)
 unfold unpackItems; refine wpAny_bind ?_; unfold notIterableAtAll
 refine wpAny_bind (wpAny_specialOf ht.typeIs PySem.F.slot_list_iter.lookup ?_); refine wpAny_pure ?_; simp only [Bool.false_eq_true,if_false]
 refine wpAny_bind (wpAny_holding (wpAny_pyIter_list ht ?_))
 refine wpAny_bind (wpAny_holding (draw_lst hlt items.size 0 _ _ ⟨_,Heap.get?_push_size _ rfl,rfl,rfl⟩ (ht.push _) (by omega) fun h1 hit1 hs1 => ?_))
 have hall:List.take items.size (List.drop 0 items.toList)=items.toList:=by rw [List.drop_zero]; exact List.take_of_length_le (by simp)
 rw [hall,if_neg (by simp)]
 have ht1:h1.IsList l items:=(ht.push _).extBut hs1.extBut hlt
 refine wpAny_bind (wpAny_holding (wpAny_pyNext_list_end hh hit1 ht1 (by simp) fun h2 he2 => ?_)); simp only [Option.isSome_none,Bool.false_eq_true,if_false]
 exact wpAny_pure (hQ h2 fun b o hb e=>he2 b o hb (hs1.extBut b o hb (Heap.get?_push_of_some _ e)))
end
def gLst (K:FG_) (n:Nat) (t:TGs):TG:=fun v σ H Q => ∃ a xs,v=.ref a∧SqL K H a xs∧xs.length=n∧t xs σ H Q
theorem pg_lst {X:Cx} {pos:Pos} {es:List Expr} {k:Nat} {t:TGs} {n:Nat} (hc:X.calm=true) (h:PGs X es t) (hn:(assignEach es X.env).length=n:=by rfl) (hst:(assignEach es X.env).findIdx? (·.1)=none:=by rfl):PG X (.Tuple es k pos) (gLst X.K n t):=by
 intro pins s σ H v u Q I r hw
 obtain ⟨a,xs,e1,hq,hl,hw⟩:=hw
 subst e1
 cases r
 obtain ⟨its,rv,ht,hz⟩:=I.list hq
 rw [assign_Tuple]
 refine wpAny_bind (wpAny_standAt ?_)
 unfold unpack
 have hlen:(assignEach es X.env).length=its.toArray.size:=by rw [List.size_toArray,hn,← hl,rv.length]
 rw [hlen,hst]
 refine wpAny_bind (wpAny_holding (unpack_lst (I.ok.hd hc) ht.isList fun h' hx => ?_))
 have I1:Inv X pins σ H { s with heap:=h' }:=I.kept (t':=s.toks) fun b o e=>hx b o (Nat.ne_of_lt (Heap.lt_size e)) e
 exact h pins _ σ H xs _ Q I1 (by simpa using rv) hw
theorem tgt_lst {K:FG_} {n k:Nat} {t:TGs} (h:Tgts n t):Tgt n (gLst K k t):=fun x σ H Q ⟨a,xs,e,hq,hl,q⟩=>⟨a,xs,e,hq,hl,h xs σ H Q q⟩
section
variable {X:Cx} (K:FG_) (h:X.K=K:=by rfl)
include h
theorem ix_tupK:IxR X (rIxT K):=h ▸ ix_tup
theorem ix_listK:IxR X (rIxL K):=h ▸ gj_
theorem ev_:CallR X (.builtin "isinstance") (fun xs H Q => ∃ x n t b,xs=[x,.ty n]∧TyOf K H x t∧PySem.W.kitOne K t (.type n)=some b∧Q (.bl b) H):=h ▸ call_isinst
theorem op_inK:OpR X (compareOp .In) (rIn K false):=h ▸ op_in_seq
theorem sl_listK:SlR X (rSlL K):=h ▸ sl_list
theorem hx_ {pos:Pos} {es:List Expr} {k:Nat} {t:TGs} {n:Nat} (hc:X.calm=true) (hh:PGs X es t) (hn:(assignEach es X.env).length=n:=by rfl) (hst:(assignEach es X.env).findIdx? (·.1)=none:=by rfl):PG X (.Tuple es k pos) (gTup K n t):=h ▸ hy_ hc hh hn hst
theorem pg_lstK {pos:Pos} {es:List Expr} {k:Nat} {t:TGs} {n:Nat} (hc:X.calm=true) (hh:PGs X es t) (hn:(assignEach es X.env).length=n:=by rfl) (hst:(assignEach es X.env).findIdx? (·.1)=none:=by rfl):PG X (.Tuple es k pos) (gLst K n t):=h ▸ pg_lst hc hh hn hst
end
def rMaxL (K:FG_):List V→Hp→VK→Prop:=fun xs H Q => ∃ p ns,xs=[.ref p]∧SqL K H p (ns.map V.int)∧ns≠[]∧∀ M,M∈ns→(∀ a∈ns,a≤M)→Q (.int M) H
theorem call_maxR {X:Cx} (hc:X.calm=true):CallR X (.builtin "max") (rMaxL X.K):=call_maxL hc
section
variable {K:FG_}
theorem kit_int_list:PySem.W.kitOne K (.type "int") (.type "list")=some false:=ih_ (by decide +kernel) (by decide +kernel) (by decide +kernel)
theorem kit_int_tuple:PySem.W.kitOne K (.type "int") (.type "tuple")=some false:=ih_ (by decide +kernel) (by decide +kernel) (by decide +kernel)
theorem kit_int_dict:PySem.W.kitOne K (.type "int") (.type "dict")=some false:=ih_ (by decide +kernel) (by decide +kernel) (by decide +kernel)
theorem kit_tuple_list:PySem.W.kitOne K (.type "tuple") (.type "list")=some false:=ih_ (by decide +kernel) (by decide +kernel) (by decide +kernel)
theorem kitAny_2 {t a b:Value} {x y:Bool} (h1:PySem.W.kitOne K t a=some x) (h2:PySem.W.kitOne K t b=some y):PySem.W.kitAny K t [a,b]=some (x || y):=by
 unfold PySem.W.kitAny
 rw [h1]
 cases x with
 | true=>rfl
 | false =>
  show PySem.W.kitAny K t [b]=_
  unfold PySem.W.kitAny
  rw [h2]
  cases y <;> rfl
end
end L2
namespace Lf
open PySem
inductive Kd where
 | num (w m:Int)
 | row (k:Kd) (n:Int)
 | rcd (fs:List (Str×Kd))
 | cho (ks:List Kd)
def up (n m:Int):Int:=(n + m - 1) / m * m
theorem up_eq {n m:Int} (hm:0 < m):up n m=n + m - 1 - (n + m - 1) % m:=by
 have:=Int.mul_ediv_add_emod (n + m - 1) m
 rw [Int.mul_comm] at this
 unfold up
 omega
theorem an_ {n m:Int} (hm:0 < m):n≤up n m∧up n m < n + m:=by
 have a:=Int.emod_nonneg (n + m - 1) (Int.ne_of_gt hm)
 have b:=Int.emod_lt_of_pos (n + m - 1) hm
 rw [up_eq hm]
 omega
theorem up_mod {n m:Int}:up n m % m=0:=Int.mul_emod_left _ _
def upL (n m:Int):Int:=if n % m=0 then n else n + m - n % m
theorem ew_ {a b m:Int} (hm:0 < m) (ha:a % m=0) (hb:b % m=0) (h1:a - b < m) (h2:b - a < m):a=b:=by
 have h:(a - b) % m=0:=by rw [Int.sub_emod,ha,hb]; simp
 obtain ⟨c,hc⟩:=Int.dvd_of_emod_eq_zero h
 by_cases c0:c=0
 ·subst c0; omega
 ·rcases Int.lt_or_gt_of_ne c0 with c1 | c1
  ·have:m * c≤m * (-1):=Int.mul_le_mul_of_nonneg_left (by omega) (by omega)
   omega
  ·have:m * 1≤m * c:=Int.mul_le_mul_of_nonneg_left (by omega) (by omega)
   omega
theorem upL_eq {n m:Int} (hm:0 < m):upL n m=up n m:=by
 have a:=Int.emod_nonneg n (Int.ne_of_gt hm)
 have b:=Int.emod_lt_of_pos n hm
 obtain ⟨c,d⟩:=an_ (n:=n) hm
 refine ew_ hm ?_ up_mod ?_ ?_
 ·unfold upL
  split
  ·assumption
  ·have e:n + m - n % m=(n - n % m) + m:=by omega
   rw [e,Int.add_emod_right,Int.sub_emod]
   simp
 ·unfold upL; split <;> omega
 ·unfold upL; split <;> omega
def maxL (d:Int) (l:List Int):Int:=l.foldr max d
theorem gi_ {d:Int}:∀ {l:List Int} {a:Int},a∈l→a≤maxL d l
 | b :: r,a,h=>by
  show a≤max b (maxL d r)
  rcases List.mem_cons.mp h with rfl | h
  ·exact Int.le_max_left _ _
  ·exact Int.le_trans (gi_ h) (Int.le_max_right _ _)
theorem maxL_is {d M:Int} {l:List Int} (hm:M∈l) (hd:d≤M) (hM:∀ a∈l,a≤M):M=maxL d l:=by
 refine Int.le_antisymm (gi_ hm) ?_
 clear hm
 induction l with
 | nil=>exact hd
 | cons b r ih =>
  show max b (maxL d r)≤M
  exact Int.max_le.mpr ⟨hM b List.mem_cons_self,ih fun a ha=>hM a (List.mem_cons_of_mem _ ha)⟩
def ends (e:Int):List (Int×Int)→List Int
 | []=>[]
 | r :: rs=>(up e r.2 + r.1) :: ends (up e r.2 + r.1) rs
def lastEnd (e:Int):List (Int×Int)→Int
 | []=>e
 | r :: rs=>lastEnd (up e r.2 + r.1) rs
def plcs (e:Int):List (Int×Int)→List Int
 | []=>[]
 | r :: rs=>up e r.2 :: plcs (up e r.2 + r.1) rs
def Rms (rs:List (Int×Int)):Prop := ∀ r∈rs,0≤r.1∧0 < r.2
theorem dj_:∀ {rs:List (Int×Int)} {e:Int},Rms rs→e≤lastEnd e rs
 | [],e,_=>Int.le_refl e
 | r :: rs,e,h=>by
  obtain ⟨a,b⟩:=h r List.mem_cons_self
  have:=dj_ (rs:=rs) (e:=up e r.2 + r.1) fun x hx=>h x (List.mem_cons_of_mem _ hx)
  have:=(an_ (n:=e) b).1
  show e≤lastEnd (up e r.2 + r.1) rs
  omega
theorem ends_max:∀ {rs:List (Int×Int)} {e:Int},Rms rs→rs≠[]→lastEnd e rs∈ends e rs∧∀ a∈ends e rs,a≤lastEnd e rs
 | [],_,_,h=>absurd rfl h
 | [r],e,h,_=>by
  refine ⟨List.mem_cons_self,fun a ha => ?_⟩
  rcases List.mem_cons.mp ha with rfl | ha
  ·exact Int.le_refl _
  ·cases ha
 | r :: s :: rs,e,h,_=>by
  have ih:=ends_max (rs:=s :: rs) (e:=up e r.2 + r.1) (fun x hx=>h x (List.mem_cons_of_mem _ hx)) (by simp)
  refine ⟨List.mem_cons_of_mem _ ih.1,fun a ha => ?_⟩
  rcases List.mem_cons.mp ha with rfl | ha
  ·exact dj_ (rs:=s :: rs) fun x hx=>h x (List.mem_cons_of_mem _ hx)
  ·exact ih.2 a ha
theorem dn_:∀ (rs:List (Int×Int)) (e:Int),(plcs e rs).length=rs.length
 | [],_=>rfl
 | r :: rs,e=>by show (plcs _ rs).length + 1=_; rw [dn_ rs]; rfl
theorem plcs_snoc:∀ (rs:List (Int×Int)) (r:Int×Int) (e:Int),plcs e (rs ++ [r])=plcs e rs ++ [up (lastEnd e rs) r.2]
 | [],_,_=>rfl
 | s :: rs,r,e=>by show up e s.2 :: plcs _ (rs ++ [r])=up e s.2 :: (plcs _ rs ++ _); rw [plcs_snoc rs]; rfl
theorem es_:∀ (rs:List (Int×Int)) (r:Int×Int) (e:Int),lastEnd e (rs ++ [r])=up (lastEnd e rs) r.2 + r.1
 | [],_,_=>rfl
 | s :: rs,r,e=>es_ rs r _
theorem ends_zip:∀ (rs:List (Int×Int)) (e:Int),ends e rs=((plcs e rs).zip rs).map fun p=>p.1 + p.2.1
 | [],_=>rfl
 | r :: rs,e=>by show _ :: ends _ rs=_ :: _; rw [ends_zip rs]; rfl
def rcdRm (rs:List (Int×Int)):Int×Int:=(up (lastEnd 0 rs) (maxL 1 (rs.map (·.2))),maxL 1 (rs.map (·.2)))
def choRm (rs:List (Int×Int)):Int×Int:=(up (up 1 (maxL 1 (rs.map (·.2))) + maxL 0 (rs.map (·.1))) (maxL 1 (rs.map (·.2))),maxL 1 (rs.map (·.2)))
mutual
def Kd.rm:Kd→Int×Int
 | .num w m=>(w,m)
 | .row k n=>(n * up k.rm.1 k.rm.2,k.rm.2)
 | .rcd fs=>rcdRm (rmF fs)
 | .cho ks=>choRm (rmK ks)
def rmF:List (Str×Kd)→List (Int×Int)
 | []=>[]
 | f :: r=>f.2.rm :: rmF r
def rmK:List Kd→List (Int×Int)
 | []=>[]
 | k :: r=>k.rm :: rmK r
end
mutual
def Kd.deep:Kd→Nat
 | .num _ _=>1
 | .row k _=>k.deep + 1
 | .rcd fs=>deepF fs + 1
 | .cho ks=>deepK ks + 1
def deepF:List (Str×Kd)→Nat
 | []=>0
 | f :: r=>max f.2.deep (deepF r)
def deepK:List Kd→Nat
 | []=>0
 | k :: r=>max k.deep (deepK r)
end
mutual
def Kd.Ok:Kd→Prop
 | .num w m=>1≤w∧w≤8∧1≤m∧m≤8
 | .row k n=>k.Ok∧0≤n∧n≤100
 | .rcd fs=>okF fs∧fs.length≤10
 | .cho ks=>okK ks∧ks.length≤10
def okF:List (Str×Kd)→Prop
 | []=>True
 | f :: r=>f.2.Ok∧okF r
def okK:List Kd→Prop
 | []=>True
 | k :: r=>k.Ok∧okK r
end
theorem maxL_le {d M:Int}:∀ {l:List Int},d≤M→(∀ a∈l,a≤M)→maxL d l≤M
 | [],hd,_=>hd
 | b :: r,hd,h=>Int.max_le.mpr ⟨h b List.mem_cons_self,maxL_le hd fun a ha=>h a (List.mem_cons_of_mem _ ha)⟩
theorem ic_ {d:Int}:∀ (l:List Int),d≤maxL d l
 | []=>Int.le_refl _
 | b :: r=>Int.le_trans (ic_ r) (Int.le_max_right _ _)
def Bd (B:Int) (r:Int×Int):Prop:=0≤r.1∧r.1≤B∧1≤r.2∧r.2≤8
theorem di_ {B:Int}:∀ {rs:List (Int×Int)} {e:Int},0≤e→(∀ r∈rs,Bd B r)→0≤lastEnd e rs∧lastEnd e rs≤e + (rs.length:Int) * (B + 8)
 | [],e,h0,_=>⟨h0,by simp [lastEnd]⟩
 | r :: rs,e,h0,h=>by
  obtain ⟨a,b,c,d⟩:=h r List.mem_cons_self
  obtain ⟨u1,u2⟩:=an_ (n:=e) (m:=r.2) (by omega)
  have ih:=di_ (B:=B) (rs:=rs) (e:=up e r.2 + r.1) (by omega) fun x hx=>h x (List.mem_cons_of_mem _ hx)
  refine ⟨ih.1,?_⟩
  show lastEnd (up e r.2 + r.1) rs≤_
  have e1:((r :: rs).length:Int) * (B + 8)=(rs.length:Int) * (B + 8) + (B + 8):=by
   rw [List.length_cons]
   push_cast
   rw [Int.add_mul]
   omega
  rw [e1]
  omega
theorem mx_bd {B:Int} {rs:List (Int×Int)} (h:∀ r∈rs,Bd B r):1≤maxL 1 (rs.map (·.2))∧maxL 1 (rs.map (·.2))≤8 :=
 ⟨ic_ _,maxL_le (by decide) fun a ha=>by obtain ⟨r,hr,rfl⟩:=List.mem_map.mp ha; exact (h r hr).2.2.2⟩
theorem rcd_bd {B:Int} {rs:List (Int×Int)} (h:∀ r∈rs,Bd B r) (hl:rs.length≤10) (hB:0≤B):Bd (1000 * (B + 8)) (rcdRm rs):=by
 obtain ⟨a,b⟩:=mx_bd h
 obtain ⟨c,d⟩:=di_ (e:=0) (by omega) h
 obtain ⟨u1,u2⟩:=an_ (n:=lastEnd 0 rs) (m:=maxL 1 (rs.map (·.2))) (by omega)
 have:(rs.length:Int) * (B + 8)≤10 * (B + 8):=Int.mul_le_mul_of_nonneg_right (by omega) (by omega)
 exact ⟨by show 0≤up _ _; omega,by show up _ _≤_; omega,a,b⟩
theorem cho_bd {B:Int} {rs:List (Int×Int)} (h:∀ r∈rs,Bd B r) (hB:0≤B):Bd (1000 * (B + 8)) (choRm rs):=by
 obtain ⟨a,b⟩:=mx_bd h
 have c:0≤maxL 0 (rs.map (·.1)):=ic_ _
 have d:maxL 0 (rs.map (·.1))≤B:=maxL_le hB fun z hz=>by obtain ⟨r,hr,rfl⟩:=List.mem_map.mp hz; exact (h r hr).2.1
 obtain ⟨u1,u2⟩:=an_ (n:=1) (m:=maxL 1 (rs.map (·.2))) (by omega)
 obtain ⟨v1,v2⟩:=an_ (n:=up 1 (maxL 1 (rs.map (·.2))) + maxL 0 (rs.map (·.1))) (m:=maxL 1 (rs.map (·.2))) (by omega)
 exact ⟨by show 0≤up _ _; omega,by show up _ _≤_; omega,a,b⟩
def bnd:Nat→Int
 | 0=>0
 | n + 1=>1000 * (bnd n + 8)
theorem fa_:∀ n,0≤bnd n
 | 0=>Int.le_refl _
 | n + 1=>by have:=fa_ n; show 0≤1000 * (bnd n + 8); omega
theorem gb_ {n m:Nat} (h:n≤m):bnd n≤bnd m:=by
 induction m with
 | zero=>cases (Nat.le_zero.mp h); exact Int.le_refl _
 | succ m ih =>
  by_cases e:n=m + 1
  ·subst e; exact Int.le_refl _
  ·have:=ih (by omega)
   have:=fa_ m
   show bnd n≤1000 * (bnd m + 8)
   omega
theorem Bd.mono {B C:Int} {r:Int×Int} (h:Bd B r) (hb:B≤C):Bd C r:=⟨h.1,Int.le_trans h.2.1 hb,h.2.2⟩
mutual
theorem Kd.bd:∀ (k:Kd),k.Ok→Bd (bnd k.deep) k.rm
 | .num w m,h=>by
  obtain ⟨a,b,c,d⟩:=h
  refine ⟨by show 0≤w; omega,?_,c,d⟩
  show w≤1000 * (0 + 8)
  omega
 | .row k n,h=>by
  obtain ⟨hk,h0,h1⟩:=h
  obtain ⟨a,b,c,d⟩:=Kd.bd k hk
  obtain ⟨u1,u2⟩:=an_ (n:=k.rm.1) (m:=k.rm.2) (by omega)
  refine ⟨Int.mul_nonneg h0 (by omega),?_,c,d⟩
  have e1:n * up k.rm.1 k.rm.2≤100 * up k.rm.1 k.rm.2:=Int.mul_le_mul_of_nonneg_right h1 (by omega)
  show n * up k.rm.1 k.rm.2≤1000 * (bnd k.deep + 8)
  omega
 | .rcd fs,h=>by
  refine rcd_bd (rs:=rmF fs) (bdF fs h.1) ?_ (fa_ _)
  have:(rmF fs).length=fs.length:=lenF fs
  rw [this]; exact h.2
 | .cho ks,h=>cho_bd (rs:=rmK ks) (bdK ks h.1) (fa_ _)
theorem bdF:∀ (fs:List (Str×Kd)),okF fs→∀ r∈rmF fs,Bd (bnd (deepF fs)) r
 | [],_,_,h=>nomatch h
 | f :: fs,h,r,hr=>by
  have hr':r∈f.2.rm :: rmF fs:=hr
  rcases List.mem_cons.mp hr' with rfl | hr'
  ·exact (Kd.bd f.2 h.1).mono (gb_ (Nat.le_max_left _ _))
  ·exact (bdF fs h.2 r hr').mono (gb_ (Nat.le_max_right _ _))
theorem bdK:∀ (ks:List Kd),okK ks→∀ r∈rmK ks,Bd (bnd (deepK ks)) r
 | [],_,_,h=>nomatch h
 | k :: ks,h,r,hr=>by
  have hr':r∈k.rm :: rmK ks:=hr
  rcases List.mem_cons.mp hr' with rfl | hr'
  ·exact (Kd.bd k h.1).mono (gb_ (Nat.le_max_left _ _))
  ·exact (bdK ks h.2 r hr').mono (gb_ (Nat.le_max_right _ _))
theorem lenF:∀ (fs:List (Str×Kd)),(rmF fs).length=fs.length
 | []=>rfl
 | f :: fs=>by show (rmF fs).length + 1=_; rw [lenF fs]; rfl
end
theorem lenK:∀ (ks:List Kd),(rmK ks).length=ks.length
 | []=>rfl
 | f :: fs=>by show (rmK fs).length + 1=_; rw [lenK fs]; rfl
inductive Dt where
 | int (i:Int)
 | str (x:Str)
 | bl (b:Bool)
 | tup (ds:List Dt)
 | lst (ds:List Dt)
mutual
def Kd.dt:Kd→Dt
 | .num w m=>.tup [.str "number",.int w,.int m]
 | .row k n=>.tup [.str "row",k.dt,.int n]
 | .rcd fs=>.tup [.str "record",.lst (dtF fs)]
 | .cho ks=>.tup [.str "choice",.lst (dtK ks)]
def dtF:List (Str×Kd)→List Dt
 | []=>[]
 | f :: r=>.tup [.str f.1,f.2.dt] :: dtF r
def dtK:List Kd→List Dt
 | []=>[]
 | k :: r=>k.dt :: dtK r
end
theorem Kd.deep_pos:∀ k:Kd,1≤k.deep
 | .num _ _=>Nat.le_refl _
 | .row k _=>Nat.le_add_left 1 k.deep
 | .rcd fs=>Nat.le_add_left 1 (deepF fs)
 | .cho ks=>Nat.le_add_left 1 (deepK ks)
end Lf
namespace Lf
open PySem L2
theorem gz_ {H:Hp} {p:Addr} (h:H p=none) (o:HO):Same H (upd H p o):=fun b u q=>by rw [ah_ (ba_ q h)]; exact q
def hide (p:Addr) (H:Hp):Hp:=fun b=>if b=p then none else H b
theorem il_ {p b:Addr} {H:Hp} (h:b≠p):hide p H b=H b:=if_neg h
theorem hide_some {p b:Addr} {H:Hp} {o:HO} (h:hide p H b=some o):b≠p∧H b=some o:=by
 by_cases e:b=p
 ·subst e; rw [show hide b H b=none from if_pos rfl] at h; cases h
 ·rw [il_ e] at h; exact ⟨e,h⟩
abbrev SameX (p:Addr) (H H':Hp):Prop:=Same (hide p H) (hide p H')
theorem SameX.upd (p:Addr) (H:Hp) (o:HO):SameX p H (L2.upd H p o):=fun b u h=>by
 obtain ⟨n,q⟩:=hide_some h
 rw [il_ n,ah_ n]
 exact q
theorem SameX.get {p b:Addr} {H H':Hp} {o:HO} (e:SameX p H H') (n:b≠p) (h:H b=some o):H' b=some o:=by
 have:=e b o (by rw [il_ n]; exact h)
 rw [il_ n] at this
 exact this
theorem atI_in {α:Type} {xs:List α} {i:Int} (h0:0≤i) (h1:i < (xs.length:Int)):∃ v,atI xs i=some v∧v∈xs:=by
 have hk:i.toNat < xs.length:=by omega
 have ek:((i.toNat:Nat):Int)=i:=by omega
 have q:atI xs ((i.toNat:Nat):Int)=some xs[i.toNat]:=fl_ (List.getElem?_eq_getElem hk)
 rw [ek] at q
 exact ⟨_,q,List.getElem_mem _⟩
end Lf
namespace L2
open PySem PySem.Spec PyProof.Rows
section
variable {κ:Type} [DecidableEq κ]
def valV (kvs:List (κ×V)) (k:κ):Option V:=(kvs.find? fun kv=>decide (kv.1=k)).map (·.2)
def putK (kvs:List (κ×V)) (k:κ) (v:V):List (κ×V) :=
 if (kvs.any fun kv=>decide (kv.1=k))=true then kvs.map (fun kv=>if kv.1=k then (kv.1,v) else kv) else kvs ++ [(k,v)]
theorem gx_ {p:κ×V} {r:List (κ×V)} {k:κ} (e:p.1=k):valV (p :: r) k=some p.2:=by simp [valV,List.find?_cons,e]
theorem gy_ {p:κ×V} {r:List (κ×V)} {k:κ} (e:¬ p.1=k):valV (p :: r) k=valV r k:=by simp [valV,List.find?_cons,e]
theorem valV_any (k:κ):∀ kvs:List (κ×V),(kvs.any fun kv=>decide (kv.1=k))=(valV kvs k).isSome
 | []=>rfl
 | p :: r=>by
  rw [List.any_cons]
  by_cases e:p.1=k
  ·simp only [gx_ e,decide_eq_true e,Bool.true_or,Option.isSome_some]
  ·rw [gy_ e,decide_eq_false e,Bool.false_or]; exact valV_any k r
theorem id_ (kvs:List (κ×V)) (k:κ) (v:V):(putK kvs k v).length≤kvs.length + 1:=by
 unfold putK
 split
 ·rw [List.length_map]; omega
 ·rw [List.length_append,List.length_cons,List.length_nil]; omega
theorem RelO.isSome_eq {o:Option V} {u:Option Value} (r:RelO o u):o.isSome=u.isSome:=by
 cases o with
 | none=>cases u with
  | none=>rfl
  | some _=>exact (show False from r).elim
 | some _=>cases u with
  | none=>exact (show False from r).elim
  | some _=>rfl
theorem RelO.getD {o:Option V} {u:Option Value} {d:V} {d':Value} (r:RelO o u) (rd:RelV d d'):RelV (o.getD d) (u.getD d'):=by
 cases o with
 | none=>cases u with
  | none=>exact rd
  | some _=>exact (show False from r).elim
 | some _=>cases u with
  | none=>exact (show False from r).elim
  | some _=>exact r
theorem KV.val {kvs:List (κ×V)} {vs:List (κ×Value)} (r:KV kvs vs) (k:κ):RelO (valV kvs k) (valueAt vs k):=by
 unfold KV at r
 induction r with
 | nil=>exact True.intro
 | @cons p q ps qs h t ih =>
  obtain ⟨h1,h2⟩:=h
  by_cases e:p.1=k
  ·have e':q.1=k:=h1.symm.trans e
   have b:valueAt (q :: qs) k=some q.2:=by simp [valueAt,List.find?_cons,e']
   rw [gx_ e,b]; exact h2
  ·have e':¬ q.1=k:=fun z=>e (h1.trans z)
   have b:valueAt (q :: qs) k=valueAt qs k:=by simp [valueAt,List.find?_cons,e']
   rw [gy_ e,b]; exact ih
theorem KV.any {kvs:List (κ×V)} {vs:List (κ×Value)} (r:KV kvs vs) (k:κ):(kvs.any fun kv=>decide (kv.1=k))=vs.any fun kv=>decide (kv.1=k):=by
 unfold KV at r
 induction r with
 | nil=>rfl
 | cons h t ih=>rw [List.any_cons,List.any_cons,ih,h.1]
theorem KV.repl {kvs:List (κ×V)} {vs:List (κ×Value)} (r:KV kvs vs) (k:κ) {y:V} {u:Value} (ry:RelV y u) :
  KV (kvs.map fun kv=>if kv.1=k then (kv.1,y) else kv) (vs.map fun kv=>if kv.1=k then (kv.1,u) else kv):=by
 unfold KV at r ⊢
 induction r with
 | nil=>exact .nil
 | @cons p q ps qs h t ih =>
  rw [List.map_cons,List.map_cons]
  refine .cons ?_ ih
  obtain ⟨h1,h2⟩:=h
  by_cases e:p.1=k
  ·rw [if_pos e,if_pos (h1.symm.trans e)]; exact ⟨h1,ry⟩
  ·rw [if_neg e,if_neg (fun z=>e (h1.trans z))]; exact ⟨h1,h2⟩
theorem KV.put {kvs:List (κ×V)} {vs:List (κ×Value)} (r:KV kvs vs) (k:κ) {y:V} {u:Value} (ry:RelV y u):KV (putK kvs k y) (stored vs k u):=by
 unfold putK stored
 rw [r.any k]
 by_cases e:(vs.any fun kv=>decide (kv.1=k))=true
 ·rw [if_pos e,if_pos e]; exact r.repl k ry
 ·rw [if_neg e,if_neg e]; exact Paired.snoc r ⟨rfl,ry⟩
theorem KV.length {kvs:List (κ×V)} {vs:List (κ×Value)} (r:KV kvs vs):kvs.length=vs.length:=Paired.length r
end
theorem kV_is {P:Program} {w:World} {k:Key} {u:Value} (r:RelV (kV k) u):(mixKind P w).is k u=true:=by
 cases k with
 | inl i=>obtain ⟨t,e⟩:=(show ∃ t,u=Value.int i t from r); subst e; exact mixKind_int P w i t
 | inr x=>obtain ⟨t,e⟩:=(show ∃ t,u=Value.str x t from r); subst e; exact mixKind_str P w x t
theorem items_are {P:Program} {w:World}:∀ {ks:List Key} {us:List Value},Vals (ks.map kV) us→ItemsAre (mixKind P w) ks us
 | [],_,r=>by rw [List.map_nil] at r; cases r; exact .nil
 | k :: ks,_,r=>by
  rw [List.map_cons] at r
  cases r with
  | cons h t=>exact .cons (kV_is h) (items_are t)
abbrev KT (H:Hp):List (List Key×V)→List (List Key×Addr×Value)→Prop:=Paired fun p q=>p.1=q.1∧H q.2.1=some (.tup (p.1.map kV))∧RelV p.2 q.2.2
theorem KT.val {H:Hp} {kvs:List (List Key×V)} {xs:List (List Key×Addr×Value)} (r:KT H kvs xs) (k:List Key):RelO (valV kvs k) ((atKey xs k).map (·.2)):=by
 induction r with
 | nil=>exact True.intro
 | @cons p q ps qs h t ih =>
  obtain ⟨h1,_,h2⟩:=h
  by_cases e:p.1=k
  ·have e':q.1=k:=h1.symm.trans e
   have b:atKey (q :: qs) k=some q.2:=by simp [atKey,List.find?_cons,e']
   rw [gx_ e,b]; exact h2
  ·have e':¬ q.1=k:=fun z=>e (h1.trans z)
   have b:atKey (q :: qs) k=atKey qs k:=by simp [atKey,List.find?_cons,e']
   rw [gy_ e,b]; exact ih
theorem KT.repl {H:Hp} {kvs:List (List Key×V)} {xs:List (List Key×Addr×Value)} (r:KT H kvs xs) (k:List Key) {y:V} {u:Value} (ry:RelV y u) :
  KT H (kvs.map fun kv=>if kv.1=k then (kv.1,y) else kv) (xs.map (putAt k u)):=by
 induction r with
 | nil=>exact .nil
 | @cons p q ps qs h t ih =>
  rw [List.map_cons,List.map_cons]
  refine .cons ?_ ih
  obtain ⟨h1,h2,h3⟩:=h
  unfold putAt
  by_cases e:p.1=k
  ·rw [if_pos e,if_pos (h1.symm.trans e)]; exact ⟨h1,h2,ry⟩
  ·rw [if_neg e,if_neg (fun z=>e (h1.trans z))]; exact ⟨h1,h2,h3⟩
theorem KT.put {H:Hp} {kvs:List (List Key×V)} {xs:List (List Key×Addr×Value)} (r:KT H kvs xs) (k:List Key) {b:Addr} {y:V} {u:Value} (hb:H b=some (.tup (k.map kV))) (ry:RelV y u) :
  KT H (putK kvs k y) (storedH xs k b u):=by
 have e:(kvs.any fun kv=>decide (kv.1=k))=(atKey xs k).isSome:=by
  rw [valV_any,(r.val k).isSome_eq,Option.isSome_map]
 unfold putK storedH
 rw [e]
 by_cases q:(atKey xs k).isSome=true
 ·rw [if_pos q,if_pos q]; exact r.repl k ry
 ·rw [if_neg q,if_neg q]; exact Paired.snoc r ⟨rfl,hb,ry⟩
theorem KT.keeps {H H':Hp} {kvs:List (List Key×V)} {xs:List (List Key×Addr×Value)} (r:KT H kvs xs) (ht:∀ b ys,H b=some (.tup ys)→H' b=some (.tup ys)):KT H' kvs xs :=
 Paired.mapP r fun _ _ z=>⟨z.1,ht _ _ z.2.1,z.2.2⟩
section
variable {P:Program} {w:World} {H:Hp} {h:Heap} {a:Addr}
theorem rd_of {u:HO} (ok:HOk P w H h) (e:Rd H a u):ObjOk P w H h a u:=e.ok ok
theorem dk_rd {kvs:List (Key×V)} (ok:HOk P w H h) (e:Rd H a (.dK kvs)):kvs.length≤sizeLine∧(a == sysModules)=false∧∃ vs,KV kvs vs∧h.DictOf (mixKind P w) a vs :=
 show ObjOk P w H h a (.dK kvs) from rd_of ok e
theorem dk_of {kvs:List (Key×V)} (ok:HOk P w H h) (e:H a=some (.dK kvs)):kvs.length≤sizeLine∧(a == sysModules)=false∧∃ vs,KV kvs vs∧h.DictOf (mixKind P w) a vs:=dk_rd ok (.inl e)
theorem key_of {ks:List Key} (ok:HOk P w H h) (e:H a=some (.tup (ks.map kV))):(tupleKind (mixKind P w)).is h ks a:=by
 obtain ⟨_,its,r,o,h1,h2,n,h3⟩:=(show ObjOk P w H h a (.tup (ks.map kV)) from ok a _ e)
 exact ⟨o,its.toArray,n,h1,h2,h3,by simpa using items_are r⟩
theorem dt_rd {kvs:List (List Key×V)} (ok:HOk P w H h) (e:Rd H a (.dT kvs)):kvs.length≤sizeLine∧(a == sysModules)=false ∧
  ∃ xs,KT H kvs xs∧h.DictOfH (tupleKind (mixKind P w)) a xs:=by
 obtain ⟨z,y,xs,r,o,es,ep,h1,h2,h3,h4,h5⟩:=(show ObjOk P w H h a (.dT kvs) from rd_of ok e)
 refine ⟨z,y,xs,r,o,es,ep,h1,h2,h3,h4,fun x hx => ?_,h5⟩
 have all:∀ {l:List (List Key×V)} {m:List (List Key×Addr×Value)},KT H l m→∀ x∈m,(tupleKind (mixKind P w)).is h x.1 x.2.1:=by
  intro l m q
  induction q with
  | nil=>intro x hx; exact nomatch hx
  | @cons p q ps qs hq t ih =>
   intro x hx
   rcases List.mem_cons.mp hx with e | hx
   ·subst e
    exact key_of ok (by rw [← hq.1]; exact hq.2.1)
   ·exact ih x hx
 exact all r x hx
theorem dt_of {kvs:List (List Key×V)} (ok:HOk P w H h) (e:H a=some (.dT kvs)):kvs.length≤sizeLine∧(a == sysModules)=false ∧
  ∃ xs,KT H kvs xs∧h.DictOfH (tupleKind (mixKind P w)) a xs:=dt_rd ok (.inl e)
end
def DGet (H:Hp) (a:Addr) (y:V) (r:Option V):Prop :=
 (∃ kvs k,Rd H a (.dK kvs)∧y=kV k∧r=valV kvs k)∨∃ kvs k b,Rd H a (.dT kvs)∧y=.ref b∧H b=some (.tup (k.map kV))∧r=valV kvs k
def DPut (H:Hp) (a:Addr) (y v:V) (H':Hp):Prop :=
 (∃ kvs k,H a=some (.dK kvs)∧y=kV k∧kvs.length < sizeLine∧H'=upd H a (.dK (putK kvs k v))) ∨
 ∃ kvs k b,H a=some (.dT kvs)∧y=.ref b∧H b=some (.tup (k.map kV))∧kvs.length < sizeLine∧H'=upd H a (.dT (putK kvs k v))
theorem DGet.k {H:Hp} {a:Addr} {kvs:List (Key×V)} {k:Key} (e:H a=some (.dK kvs)):DGet H a (kV k) (valV kvs k):=.inl ⟨kvs,k,.inl e,rfl,rfl⟩
theorem DGet.t {H:Hp} {a b:Addr} {kvs:List (List Key×V)} {k:List Key} (e:H a=some (.dT kvs)) (eb:H b=some (.tup (k.map kV))):DGet H a (.ref b) (valV kvs k):=.inr ⟨kvs,k,b,.inl e,rfl,eb,rfl⟩
theorem DPut.k {H:Hp} {a:Addr} {kvs:List (Key×V)} {k:Key} {v:V} (e:H a=some (.dK kvs)) (hl:kvs.length < sizeLine):DPut H a (kV k) v (upd H a (.dK (putK kvs k v))):=.inl ⟨kvs,k,e,rfl,hl,rfl⟩
theorem DPut.t {H:Hp} {a b:Addr} {kvs:List (List Key×V)} {k:List Key} {v:V} (e:H a=some (.dT kvs)) (eb:H b=some (.tup (k.map kV))) (hl:kvs.length < sizeLine) :
  DPut H a (.ref b) v (upd H a (.dT (putK kvs k v))):=.inr ⟨kvs,k,b,e,rfl,eb,hl,rfl⟩
section
variable {X:Cx} {pins:PN_} {σ:St} {H:Hp} {s:Shared} {a:Addr} {y v:V} {u r:Value} {o:Option V} {A:Around} {E:SV_}
theorem Inv.big (I:Inv X pins σ H s):sysModules < s.heap.objs.size:=by
 have h:mainGlobals < s.heap.objs.size:=(I.mod.glob.keeps I.bk).lt
 exact Nat.lt_trans (by decide) h
theorem d_getItem {Q:SV_} (hu:A.units + 1 < cLine) (I:Inv X pins σ H s) (g:DGet H a y (some v)) (ry:RelV y u) (h:∀ w' s',Inv X pins σ H s'→RelV v w'→Q w' s') :
  wpAny (model X.prog X.w) A (getItem (.ref a) u) Q E s:=by
 rcases g with ⟨kvs,k,e,ey,l⟩ | ⟨kvs,k,b,e,ey,eb,l⟩
 ·subst ey
  obtain ⟨z,hd,vs,rel,dd⟩:=dk_rd I.hok e
  obtain ⟨w',hw,rw'⟩:=RelO.some_of (v:=v) (o:=valueAt vs k) (by rw [l]; exact rel.val k)
  exact wpAny_getItem_of (kV_is ry) dd.mapOf hw (h w' _ (I.tok _) rw')
 ·subst ey
  cases (show u=Value.ref b from ry)
  obtain ⟨z,hd,xs,rel,dd⟩:=dt_rd I.hok e
  obtain ⟨w',hw,rw'⟩:=RelO.some_of (v:=v) (o:=(atKey xs k).map (·.2)) (by rw [l]; exact rel.val k)
  obtain ⟨p,hp,hp2⟩:=Option.map_eq_some_iff.mp hw
  refine wpAny_getItem_heap (tupleKind_room_in1 hu) (key_of I.hok eb) dd hp ?_
  rw [hp2]
  exact h w' _ (I.tok _) rw'
theorem d_notIn {Q:SV_} (hu:A.units + 1 < cLine) (I:Inv X pins σ H s) (g:DGet H a y o) (ry:RelV y u) (h:∀ s',Inv X pins σ H s'→Q (.bool (!o.isSome)) s') :
  wpAny (model X.prog X.w) A (compareOp .NotIn u (.ref a)) Q E s:=by
 rcases g with ⟨kvs,k,e,ey,l⟩ | ⟨kvs,k,b,e,ey,eb,l⟩
 ·subst ey
  obtain ⟨z,hd,vs,rel,dd⟩:=dk_rd I.hok e
  refine wpAny_notIn_of (kV_is ry) hd dd.mapOf ?_
  rw [← (rel.val k).isSome_eq,← l]
  exact h _ (I.tok _)
 ·subst ey
  cases (show u=Value.ref b from ry)
  obtain ⟨z,hd,xs,rel,dd⟩:=dt_rd I.hok e
  refine wpAny_notIn_heap (tupleKind_room_in1 hu) (key_of I.hok eb) hd dd ?_
  have q:=(rel.val k).isSome_eq
  rw [Option.isSome_map] at q
  rw [← q,← l]
  exact h _ (I.tok _)
theorem d_write {h':Heap} {t':Nat} {ob:HO} (I:Inv X pins σ H s) (mu:Mut (H a)) (hs:Heap.SameBut a s.heap h') (he:∃ q,h'.get? a=some q) (new:ObjOk X.prog X.w (upd H a ob) h' a ob) :
  Inv X pins σ (upd H a ob) { s with heap:=h',toks:=t' } :=
 I.write (x:=a) (e:=a) mu (.inl rfl) (fun b q hb z=>(hs.2 b hb).trans z) he new
theorem dk_new {P:Program} {w:World} {H':Hp} {h':Heap} {kvs:List (Key×V)} {vs:List (Key×Value)} (z:kvs.length≤sizeLine) (hd:(a == sysModules)=false) (rel:KV kvs vs) (dd:h'.DictOf (mixKind P w) a vs) :
  ObjOk P w H' h' a (.dK kvs):=⟨z,hd,vs,rel,dd⟩
theorem d_setItem {H':Hp} {Q:Unit→Shared→Prop} (hu:A.units + 1 < cLine) (I:Inv X pins σ H s) (g:DPut H a y v H') (ry:RelV y u) (rv:RelV v r) (h:∀ s',Inv X pins σ H' s'→Q () s') :
  wpAny (model X.prog X.w) A (setItem (.ref a) u r) Q E s:=by
 rcases g with ⟨kvs,k,e,ey,l,eH⟩ | ⟨kvs,k,b,e,ey,eb,l,eH⟩
 ·subst ey eH
  obtain ⟨z,hd,vs,rel,dd⟩:=dk_of I.hok e
  have hz:vs.length≤sizeLine:=by rw [← rel.length]; exact z
  have hl:(putK kvs k v).length≤sizeLine:=by have:=id_ kvs k v; omega
  refine wpAny_setItem_pairs (hsz:=hz) (kV_is ry) dd fun h' dd' hs=>h _ ?_
  have he:∃ q,h'.get? a=some q:=let ⟨q,_,_,hq,_⟩:=dd'; ⟨q,hq⟩
  exact d_write I (by rw [e]; exact True.intro) hs he (dk_new hl hd (rel.put k rv) dd')
 ·subst ey eH
  cases (show u=Value.ref b from ry)
  obtain ⟨z,hd,xs,rel,dd⟩:=dt_of I.hok e
  have hz:xs.length≤sizeLine:=by rw [← Paired.length rel]; exact z
  have hl:(putK kvs k v).length≤sizeLine:=by have:=id_ kvs k v; omega
  refine wpAny_setItem_heap (hsz:=hz) (tupleKind_room_in1 hu) (key_of I.hok eb) dd fun h' dd' hs=>h _ ?_
  obtain ⟨q,es,ep,hq,h2,h3,h4,_,h5⟩:=dd'
  refine d_write I (by rw [e]; exact True.intro) hs ⟨q,hq⟩ ⟨hl,hd,_,(rel.put k eb rv).keeps fun c ys ec => ?_,q,es,ep,hq,h2,h3,h4,h5⟩
  rw [ah_ (ne_of ec e (fun z=>nomatch z))]
  exact ec
end
section
variable {X:Cx} {pins:PN_} {σ:St} {H:Hp} {s:Shared} {a:Addr} {kvs:List (Key×V)} {k:Key} {u:Value} {A:Around} {E:SV_}
theorem d_len {Q:SV_} (I:Inv X pins σ H s) (e:Rd H a (.dK kvs)) (h:∀ t s',Inv X pins σ H s'→Q (.int kvs.length t) s'):wpAny (model X.prog X.w) A (call (.builtin "len") [.ref a]) Q E s:=by
 obtain ⟨z,hd,vs,rel,dd⟩:=dk_rd I.hok e
 refine call_len_dict hd dd (by rw [← rel.length]; rw [sizeLine_eq] at z; omega) ?_
 rw [← rel.length]
 exact h _ _ (I.tok _)
end
def NoSl (i:Expr):Prop := ∀ ov iv,subscripted i false ov iv=operate [ov,iv] (getItem ov iv)
theorem subD_of {prog:Program} {w:World} {A:Around} {E:SV_} {s:Shared} {env:Env} {value slice:Expr} {pos:Pos} {T id:String} {Q:SV_}
  (hl:typeLookup (.type T) "__getitem__" = pure (some (.builtin id))) (hs:NoSl slice)
  (h:wpAny (model prog w) A (eval value env) (fun o s₁=>wpAny (model prog w) A (eval slice env) (fun i s₂=>s₂.TypeIs o T∧wpAny (model prog w) A (getItem o i) Q E s₂) E s₁) E s) :
  wpAny (model prog w) A (eval (.Subscript value slice pos) env) Q E s:=by
 refine Subscript_ (wpAny_mono h (fun o s₁ h₁=>wpAny_mono h₁ (fun i s₂ h₂ => ?_) fun _ _ x=>x) fun _ _ x=>x)
 obtain ⟨hT,h₂⟩:=h₂
 unfold subscriptTail
 refine wpAny_bind ?_
 rw [getitemInPython_of_ne hT.not_modules]
 refine wpAny_bind (wpAny_specialOf hT hl ?_)
 have fin:wpAny (model prog w) A (subscripted slice false o i) (fun r s₃=>wpAny (model prog w) A (letTemporaryGo value o r >>= fun _=>pure r) Q E s₃) E s₂:=by
  rw [hs o i]
  exact wpAny_operating (wpAny_mono h₂ (fun r s₃ h₃=>wpAny_bind (wpAny_letTemporaryGo (wpAny_pure h₃))) fun _ _ x=>x)
 first
  | exact wpAny_pure (wpAny_bind fin)
  | exact wpAny_bind (wpAny_pure (wpAny_bind fin))
  | exact wpAny_bind fin
theorem dict_typeIs {X:Cx} {pins:PN_} {σ:St} {H:Hp} {s:Shared} {a:Addr} {y:V} {o:Option V} (I:Inv X pins σ H s) (g:DGet H a y o):s.TypeIs (.ref a) "dict" := by
 rcases g with ⟨kvs,k,e,_,_⟩ | ⟨kvs,k,b,e,_,_,_⟩
 ·obtain ⟨_,_,vs,_,dd⟩:=dk_rd I.hok e
  exact dd.typeIs
 ·obtain ⟨_,_,xs,_,dd⟩:=dt_rd I.hok e
  exact dd.typeIs
def tDGet (td ty:TE):TE:=fun σ H Q=>td σ H fun x H1=>ty σ H1 fun y H2 => ∃ a v,x=.ref a∧DGet H2 a y (some v)∧Q v H2
def tDNotIn (ty td:TE):TE:=fun σ H Q=>ty σ H fun y H1=>td σ H1 fun x H2 => ∃ a o,x=.ref a∧DGet H2 a y o∧Q (.bl (!o.isSome)) H2
def sDPut (td ty tv:TE):TS:=fun D σ H=>tv σ H fun v H1=>td σ H1 fun x H2=>ty σ H2 fun y H3 => ∃ a H4,x=.ref a∧DPut H3 a y v H4∧D.nx σ H4
section
variable {X:Cx} {o i e value:Expr} {pos pos' tpos:Pos} {td ty tv:TE}
theorem pe_dget (hu:X.A.units + 1 < cLine) (ho:PE X o td) (hi:PE X i ty) (hs:NoSl i):PE X (.Subscript o i pos) (tDGet td ty):=by
 intro pins s σ H Q I h
 refine subD_of PySem.F.slot_dict_getitem.lookup hs (thn (ho pins s σ H _ I h) fun u s1 ⟨x,H1,I1,rx,q1⟩=>thn (hi pins s1 σ H1 _ I1 q1) fun iv s2 ⟨y,H2,I2,ry,a,v,ex,g,q2⟩ => ?_)
 subst ex
 obtain rfl:u=Value.ref a:=rx
 exact ⟨dict_typeIs I2 g,d_getItem hu I2 g ry fun w' s3 I3 rw'=>⟨v,H2,I3,rw',q2⟩⟩
theorem pc_dnotin (hu:X.A.units + 1 < cLine) (hi:PE X i ty) (ho:PE X o td):PC X .NotIn i o (tDNotIn ty td):=by
 intro pins s σ H Q I h
 refine thn (hi pins s σ H _ I h) fun iv s1 ⟨y,H1,I1,ry,q1⟩=>thn (ho pins s1 σ H1 _ I1 q1) fun u s2 ⟨x,H2,I2,rx,a,ov,ex,g,q2⟩ => ?_
 subst ex
 obtain rfl:u=Value.ref a:=rx
 exact d_notIn hu I2 g ry fun s3 I3=>⟨.bl (!ov.isSome),H2,I3,rfl,q2⟩
theorem ps_dput (hu:X.A.units + 1 < cLine) (ho:PE X o td) (hi:PE X i ty) (hv:PE X value tv) (hs:swapsWith value (some (.Subscript o i pos')) pos.line X.env=pure false) :
  PS X (.Assign [.Subscript o i pos'] value pos) (sDPut td ty tv):=by
 intro pins s σ H D I h
 refine wpAny_Assign_Subscript (thn (hv pins s σ H _ I h) fun r s1 ⟨v,H1,I1,rv,q1⟩=>thn (ho pins s1 σ H1 _ I1 q1) fun u s2 ⟨x,H2,I2,rx,q2⟩=>thn (hi pins s2 σ H2 _ I2 q2) fun iv s3 ⟨y,H3,I3,ry,a,H4,ex,g,q3⟩ => ?_) hs
 subst ex
 obtain rfl:u=Value.ref a:=rx
 exact d_setItem hu I3 g ry rv fun s4 I4=>⟨σ,H4,I4,q3⟩
end
theorem dk_empty {P:Program} {w:World} {H:Hp} (h:Heap) (hb:sysModules < h.objs.size):ObjOk P w H (h.push { cls:=.type "dict",data:=.dict #[] }) h.objs.size (.dK []) :=
 ⟨Nat.zero_le _,beq_eq_false_iff_ne.mpr (Ne.symm (Nat.ne_of_lt hb)),[],.nil,Heap.DictOf.new h⟩
def tDNewK:TE:=fun _ H Q => ∀ p,H p=none→Q (.ref p) (upd H p (.dK []))
section
variable {X:Cx} {pos:Pos}
theorem pe_dnewK:PE X (.Dict [] [] pos) tDNewK:=fun pins s σ H Q I h =>
 wpAny_Dict_empty ⟨.ref s.heap.objs.size,_,I.laid (a:=s.heap.objs.size) (o:=.dK []) (t':=s.toks) (fun _ _ q=>Heap.get?_push_of_some _ q) (Nat.le_refl _) (dk_empty s.heap I.big),rfl,h _ (I.hok.fresh (Nat.le_refl _))⟩
end
theorem bt_all:bootBuiltins "all" = some (.builtin "all"):=by decide +kernel
theorem vals_bl:∀ {bs:List Bool} {us:List Value},Vals (bs.map V.bl) us→us=bs.map Value.bool
 | [],_,h=>by cases h; rfl
 | b :: bs,_,h=>by
  cases h with
  | cons ra rb =>
   cases ra
   rw [vals_bl rb]
   rfl
theorem range_all:∀ (bs:List Bool),(List.range bs.length).all (fun i=>bs[i]?.getD false)=bs.all id:=by
 intro bs
 rw [Bool.eq_iff_iff,List.all_eq_true,List.all_eq_true]
 constructor
 ·intro h b hb
  obtain ⟨i,hi,rfl⟩:=List.getElem_of_mem hb
  have:=h i (List.mem_range.mpr hi)
  rw [List.getElem?_eq_getElem hi] at this
  exact this
 ·intro h i hi
  have hi':=List.mem_range.mp hi
  rw [List.getElem?_eq_getElem hi']
  exact h _ (List.getElem_mem hi')
section
variable {X:Cx}
def rAllL (K:FG_):List V→Hp→VK→Prop:=fun xs H Q => ∃ (p:Addr) (bs:List Bool),xs=[.ref p]∧SqL K H p (bs.map V.bl)∧Q (.bl (bs.all id)) H
theorem call_allL (hc:X.calm=true):CallR X (.builtin "all") (rAllL X.K):=by
 intro pins s σ H xs us Q I r h
 obtain ⟨p,bs,rfl,hq,q⟩:=h
 obtain ⟨u,rfl,rx⟩:=vals1 r
 cases rx
 obtain ⟨its,r',pl,hz⟩:=I.list hq
 have hi:=vals_bl r'
 subst hi
 have hh:X.A.in1.handled=none:=I.ok.hd hc
 have lt:p < s.heap.objs.size:=by obtain ⟨_,e,_⟩:=pl.isList; exact Heap.lt_size e
 refine call_all_walk (wpAny_pyIter_list pl.isList ⟨_,_,_,_,_,_,fun i=>bs[i]?.getD false,rfl,Walks.list hh s.heap.objs.size p (Nat.ne_of_lt lt) (bs.map Value.bool).toArray,⟨⟨_,Heap.get?_push_size _ rfl,rfl,rfl⟩,?_⟩,?_,fun h' tk hk => ?_⟩)
 ·obtain ⟨o,e,r⟩:=pl.isList
  exact ⟨o,Heap.get?_push_of_some _ e,r⟩
 ·intro i v s' Q' E' hv hQ
  have hv':(bs.map Value.bool)[i]? = some v:=by simpa using hv
  rw [List.getElem?_map] at hv'
  cases hb:bs[i]? with
  | none=>rw [hb] at hv'; cases hv'
  | some b =>
   rw [hb] at hv'
   cases hv'
   have hQ':Q' (bs[i]?.getD false) s':=hQ
   rw [hb] at hQ'
   exact wpAny_truthy_bool hQ'
 ·have hk':∀ b o,s.heap.get? b=some o→h'.get? b=some o:=fun b o e=>hk b o (by simp; exact Nat.ne_of_lt (Heap.lt_size e)) (Heap.get?_push_of_some _ e)
  refine ⟨.bl _,H,I.kept hk',?_,q⟩
  show Value.bool _=Value.bool _
  rw [List.size_toArray,List.length_map,range_all]
end
def Ite (K:FG_) (a:Addr):It :=
  ⟨fun i H => ∃ xs x,SqL K H a xs∧xs[i]? = some x,
   fun i H v H' => ∃ p x,v=.ref p∧H p=none∧H'=upd H p (.tup [.int (i:Int),x])∧∀ xs,SqL K H a xs→xs[i]? = some x,
   fun i H => ∃ xs,SqL K H a xs∧xs.length≤i⟩
theorem turn_enum {P:Program} {w:World} {K:FG_} {es:List Expr} {kk:Nat} {tpos:Pos} {a e it:Addr} (hne:e≠it) :
  Turn P w K (.Tuple es kk tpos) (Ite K a) [e,it] e (fun i h=>(∃ old,IsEnum h e it (i:Int) old)∧h.IsListIter it a i) where
 mem:=by simp
 obj:=fun i h st c hb=>by
  obtain ⟨⟨old,he⟩,h1⟩:=st
  simp only [List.mem_cons,List.not_mem_nil,or_false] at hb
  rcases hb with rfl | rfl
  ·exact ⟨_,he,fun v e=>nomatch e⟩
  ·obtain ⟨o,e,_,d⟩:=h1; exact ⟨o,e,fun v z=>by rw [d] at z; cases z⟩
 keep:=fun i h h' st k=>by
  obtain ⟨⟨old,he⟩,o,a,r⟩:=st
  exact ⟨⟨old,k e (by simp) _ he⟩,⟨o,k it (by simp) o a,r⟩⟩
 item:=by
  intro X hP hw hK hc i pins s σ H E I hf st hg
  subst hP hw hK
  obtain ⟨xs,x,q1,e1⟩:=hg
  obtain ⟨its1,r1,p1,z1⟩:=I.list q1
  obtain ⟨u1,eu1,ru1⟩:=r1.get e1
  obtain ⟨⟨old,he⟩,h1⟩:=st
  have lt:∀ {c o},s.heap.get? c=some o→s.heap.objs.size≠c:=fun e=>Nat.ne_of_gt (Heap.lt_size e)
  refine wpAny_pyNext_enum_item he h1 p1.isList (x:=u1) (by simpa using eu1) hne fun h' a1 a2 a3 a4 hk => ?_
  refine ⟨_,rfl,wpAny_letOwnedTupleGo_enum a1 fun h'' b1 b2 => ?_⟩
  have b2':Heap.SameBut e h' h'':=b2
  have kk:∀ c o,c∉[e,it]→s.heap.get? c=some o→h''.get? c=some o:=fun c o hc e=>by
   simp only [List.mem_cons,List.not_mem_nil,or_false,not_or] at hc
   exact b2'.extBut _ _ hc.1 (hk c o hc.1 hc.2 e)
  have tT:h''.get? s.heap.objs.size=some { cls:=.type "tuple",data:=.seq #[.int i s.toks,u1] }:=b2'.extBut _ _ (lt he) a3
  have nT:H s.heap.objs.size=none:=I.hok.fresh (Nat.le_refl _)
  have I':Inv X pins σ (upd H s.heap.objs.size (.tup [.int (i:Int),x])) { s with heap:=h'',toks:=s.toks + 1 }:=I.turnedT (t':=s.toks + 1) (its:=[.int i s.toks,u1]) hf kk (Nat.le_refl _) (.cons ⟨_,rfl⟩ (.cons ru1 .nil)) (by show 2≤sizeLine; decide) ⟨_,tT,rfl,_,rfl⟩
  obtain ⟨o2,ho2,r2⟩:=a2
  refine ⟨.ref s.heap.objs.size,upd H s.heap.objs.size (.tup [.int (i:Int),x]),I',rfl,⟨_,x,rfl,nT,rfl,fun xs' w1=>by rw [I.list_inj w1 q1]; exact e1⟩,⟨⟨_,b1⟩,⟨o2,b2'.extBut _ _ (Ne.symm hne) ho2,r2⟩⟩,fun c hc => ?_⟩
  obtain ⟨o,eo⟩ : ∃ o,s.heap.get? c=some o:=by
   simp only [List.mem_cons,List.not_mem_nil,or_false] at hc
   rcases hc with rfl | rfl
   ·exact ⟨_,he⟩
   ·obtain ⟨o,e,_⟩:=h1; exact ⟨o,e⟩
  rw [ah_ (Ne.symm (lt eo))]
  exact (hf c hc).1
 done:=by
  intro X hP hw hK hc i pins s σ H E I hf st hg
  subst hP hw hK
  obtain ⟨xs,q1,e⟩:=hg
  obtain ⟨its1,r1,p1,z1⟩:=I.list q1
  obtain ⟨⟨old,he⟩,h1⟩:=st
  have l1:=r1.length
  refine wpAny_pyNext_enum_end (I.ok.hd hc) he h1 p1.isList (by simp; omega) fun h' hk=>⟨rfl,I.turnedL (t':=s.toks) hf fun c o hc e => ?_⟩
  simp only [List.mem_cons,List.not_mem_nil,or_false,not_or] at hc
  exact hk c o hc.2 e
 self:=fun _ _ _ _ _ st h=>by
  obtain ⟨⟨old,he⟩,_⟩:=st
  exact wpAny_pyIter_enum he h
theorem bt_enumerate:bootBuiltins "enumerate" = some (.type "enumerate"):=by decide +kernel
def iEnum (K:FG_) (ta:TA):TI:=fun σ H R=>ta σ H fun vs H1 => ∃ a,vs=[.ref a]∧(∃ xs,SqL K H1 a xs)∧R (Ite K a) H1
theorem pi_enum {X:Cx} {ea:Expr} {ta:TA} {p pos:Pos} {es:List Expr} {kk:Nat} {tpos:Pos} (hg:Gl X "enumerate") (hm:X.mg "enumerate" = none) (ha:PA X [ea] ta) (hs:starEach [ea] X.env=[(false,eval ea X.env)]:=by rfl) :
  PI X (.Tuple es kk tpos) (.Call (.Name "enumerate" p) [ea] [] pos) (iEnum X.K ta):=by
 intro pins s σ H R I h
 refine Call_ (gr_ I hg hm bt_enumerate (PyProof.Rows.callWith_type1 (thn (ha pos pins s σ H _ I h) fun us s1 ⟨vs,H1,I1,r1,q1⟩ => ?_) hs rfl))
 obtain ⟨a,e,⟨xs,w1⟩,q⟩:=q1
 subst e
 obtain ⟨u,rfl,ru⟩:=vals1 r1
 cases ru
 obtain ⟨its1,r2,p1,z1⟩:=I1.list w1
 refine call_enumerate_list p1.isList fun h' he hi hsz hk=>wpAny_pyIter_enum he ?_
 refine ⟨_,_,_,_,H1,rfl,I1.kept (t':=s1.toks) hk,turn_enum (a:=a) (e:=s1.heap.objs.size + 1) (it:=s1.heap.objs.size) (Nat.succ_ne_self _),⟨⟨_,he⟩,hi⟩,fun c hc => ?_,q⟩
 have hle:s1.heap.objs.size≤c:=by
  simp only [List.mem_cons,List.not_mem_nil,or_false] at hc
  rcases hc with rfl | rfl <;> omega
 exact I1.fpOk hle (I1.hok.fresh hle)
end L2
namespace Lf
open PySem L2
end Lf
namespace L2
open PySem PySem.Spec PyProof.Rows
section
variable {X:Cx}
theorem bt_sorted:bootBuiltins "sorted" = some (.builtin "sorted"):=by decide +kernel
end
end L2
namespace Lf
open PySem PySem.W PyProof.Rows
section
variable {lt:Nat→Nat→Bool}
def Blw (n:Nat) (p:Array Nat):Prop:=0 < n∧∀ x∈p.toList,x < n
theorem Blw.at {n:Nat} {p:Array Nat} (h:Blw n p) (k:Nat):p.getD k 0 < n:=by
 rw [Array.getD_eq_getD_getElem?]
 cases e:p[k]? with
 | none=>exact h.1
 | some x =>
  refine h.2 x ?_
  rw [← Array.getElem?_toList] at e
  exact List.mem_of_getElem? e
end
end Lf
namespace L2
open PySem PySem.Spec PyProof.Rows PySem.W
section
variable {prog:Program} {w:World} {A:Around} {E:SV_} {s:Shared}
abbrev TI2:=Addr×List Int
def t0:TI2:=(0,[])
end
end L2
namespace Lf
open PySem
theorem up_of_mod {n m:Int} (hm:0 < m) (h:n % m=0):up n m=n:=by
 obtain ⟨a,b⟩:=an_ (n:=n) hm
 exact ew_ hm up_mod h (by omega) (by omega)
theorem up_zero {m:Int} (hm:0 < m):up 0 m=0:=up_of_mod hm (Int.zero_emod _)
theorem up_add {n k m:Int} (hm:0 < m) (h:k % m=0):up (k + n) m=k + up n m:=by
 obtain ⟨a,b⟩:=an_ (n:=n) hm
 obtain ⟨c,d⟩:=an_ (n:=k + n) hm
 refine ew_ hm up_mod ?_ (by omega) (by omega)
 rw [Int.add_emod,h,up_mod]
 simp
def Pw (m:Int):Prop:=m=1∨m=2∨m=4∨m=8
theorem Pw.max {a b:Int} (ha:Pw a) (hb:Pw b):Pw (max a b):=by
 by_cases h:a≤b
 ·rw [Int.max_eq_right h]; exact hb
 ·rw [Int.max_eq_left (by omega)]; exact ha
theorem Pw.maxL {l:List Int} (h:∀ a∈l,Pw a):Pw (maxL 1 l):=by
 induction l with
 | nil=>exact .inl rfl
 | cons b r ih=>exact Pw.max (h b List.mem_cons_self) (ih fun a ha=>h a (List.mem_cons_of_mem _ ha))
theorem Pw.pos {a:Int} (h:Pw a):1≤a:=by rcases h with rfl | rfl | rfl | rfl <;> decide
theorem Pw.dvd {a b n:Int} (ha:Pw a) (hb:Pw b) (h:a≤b) (hn:n % b=0):n % a=0:=by
 rcases ha with rfl | rfl | rfl | rfl <;> rcases hb with rfl | rfl | rfl | rfl <;> omega
theorem ff_ {m:Int} (h:1≤m):up 1 m=m:=by
 obtain ⟨a,b⟩:=an_ (n:=1) (m:=m) (by omega)
 exact ew_ (by omega) up_mod (Int.emod_self) (by omega) (by omega)
end Lf
namespace Lf
end Lf
namespace Lf
open PySem
end Lf
namespace Lf
inductive Vd where
 | num (n:Int)
 | row (vs:List Vd)
 | rcd (vs:List Vd)
 | cho (k:Nat) (v:Vd)
def numB:Nat→Int→List Int
 | 0,_=>[]
 | w + 1,n=>n % 256 :: numB w (n / 256)
theorem ft_:∀ (w:Nat) (n:Int),(numB w n).length=w
 | 0,_=>rfl
 | w + 1,n=>by show (numB w _).length + 1=_; rw [ft_ w]
theorem gh_:∀ (w:Nat) (n:Int),∀ b∈numB w n,0≤b∧b < 256
 | 0,_,b,h=>(nomatch h)
 | w + 1,n,b,h=>by
  rcases List.mem_cons.mp h with e | e
  ·rw [e]; exact ⟨Int.emod_nonneg _ (by decide),Int.emod_lt_of_pos _ (by decide)⟩
  ·exact gh_ w _ b e
theorem ia_:∀ (w:Nat) (n:Int),numB (w + 1) n=numB w n ++ [n / 256 ^ w % 256]
 | 0,n=>by show [n % 256]=[n / 1 % 256]; rw [Int.ediv_one]
 | w + 1,n=>by
  show n % 256 :: numB (w + 1) (n / 256)=n % 256 :: numB w (n / 256) ++ _
  rw [ia_ w (n / 256),Int.ediv_ediv_of_nonneg (by decide)]
  have e:(256:Int) * 256 ^ w=256 ^ (w + 1):=by rw [Int.pow_succ,Int.mul_comm]
  rw [e]
  rfl
def lay (l:List Int) (p:Nat) (some:List Int):List Int:=l.mapIdx fun i b=>if p≤i∧i < p + some.length then some.getD (i - p) 0 else b
theorem dz_ (l:List Int) (p:Nat) (some:List Int):(lay l p some).length=l.length:=by simp [lay]
theorem gs_ (l:List Int) (p:Nat) (s:List Int) (i:Nat):(lay l p s)[i]? = l[i]?.map fun b=>if p≤i∧i < p + s.length then s.getD (i - p) 0 else b:=by
 rw [lay,List.getElem?_mapIdx]
theorem lay_nil (l:List Int) (p:Nat):lay l p []=l:=by
 refine List.ext_getElem? fun i => ?_
 rw [gs_]
 cases l[i]? with
 | none=>rfl
 | some c =>
  show some (if p≤i∧i < p + 0 then _ else c)=some c
  rw [if_neg (by omega)]
theorem lay_snoc {l:List Int} {p:Nat} {s:List Int} {b:Int} (h:p + s.length < l.length):lay l p (s ++ [b])=(lay l p s).set (p + s.length) b:=by
 refine List.ext_getElem? fun i => ?_
 by_cases hi:i=p + s.length
 ·subst hi
  rw [List.getElem?_set_self (by rw [dz_]; exact h),gs_,List.getElem?_eq_getElem h]
  show some (if p≤p + s.length∧p + s.length < p + (s ++ [b]).length then (s ++ [b]).getD (p + s.length - p) 0 else _)=some b
  rw [if_pos ⟨by omega,by rw [List.length_append]; show _ < p + (s.length + 1); omega⟩,Nat.add_sub_cancel_left,List.getD_eq_getElem?_getD,List.getElem?_append_right (Nat.le_refl _),Nat.sub_self]
  rfl
 ·rw [List.getElem?_set_ne (fun e=>hi e.symm),gs_,gs_]
  cases l[i]? with
  | none=>rfl
  | some c =>
   show some (if _ then _ else c)=some (if _ then _ else c)
   by_cases hp:p≤i∧i < p + s.length
   ·rw [if_pos hp,if_pos ⟨hp.1,by rw [List.length_append]; show i < p + (s.length + 1); omega⟩,List.getD_eq_getElem?_getD,List.getD_eq_getElem?_getD,List.getElem?_append_left (by omega)]
   ·rw [if_neg hp,if_neg (by rw [List.length_append]; show ¬ (p≤i∧i < p + (s.length + 1)); omega)]
def layRow (f:Vd→List Int) (step:Nat):Nat→List Vd→List Int→List Int
 | _,[],l=>l
 | j,v :: r,l=>layRow f step (j + 1) r (lay l (j * step) (f v))
mutual
def Kd.byt:Kd→Vd→List Int
 | .num w _,.num n=>numB w.toNat n
 | .row k n,.row vs=>layRow k.byt (up k.rm.1 k.rm.2).toNat 0 vs (List.replicate (n * up k.rm.1 k.rm.2).toNat 0)
 | .rcd fs,.rcd vs=>bytF (plcs 0 (rmF fs)) fs vs (List.replicate (rcdRm (rmF fs)).1.toNat 0)
 | .cho ks,.cho k v=>lay ((List.replicate (choRm (rmK ks)).1.toNat (0:Int)).set 0 (k:Int)) (up 1 (choRm (rmK ks)).2).toNat (bytK ks k v)
 | _,_=>[]
def bytF:List Int→List (PySem.Str×Kd)→List Vd→List Int→List Int
 | p :: ps,f :: r,v :: vs,l=>bytF ps r vs (lay l p.toNat (f.2.byt v))
 | _,_,_,l=>l
def bytK:List Kd→Nat→Vd→List Int
 | [],_,_=>[]
 | k :: _,0,v=>k.byt v
 | _ :: r,j + 1,v=>bytK r j v
end
mutual
def Kd.Val:Kd→Vd→Prop
 | .num w _,.num n=>0≤n∧n < 256 ^ w.toNat
 | .row k n,.row vs=>(vs.length:Int)=n∧∀ v∈vs,k.Val v
 | .rcd fs,.rcd vs=>valF fs vs
 | .cho ks,.cho k v=>valK ks k v
 | _,_=>False
def valF:List (PySem.Str×Kd)→List Vd→Prop
 | [],[]=>True
 | f :: r,v :: vs=>f.2.Val v∧valF r vs
 | _,_=>False
def valK:List Kd→Nat→Vd→Prop
 | [],_,_=>False
 | k :: _,0,v=>k.Val v
 | _ :: r,j + 1,v=>valK r j v
end
theorem ed_ (f:Vd→List Int) (step:Nat):∀ (vs:List Vd) (j:Nat) (l:List Int),(layRow f step j vs l).length=l.length
 | [],_,_=>rfl
 | v :: r,j,l=>by show (layRow f step (j + 1) r _).length=_; rw [ed_ f step r,dz_]
theorem ga_:∀ (fs:List (PySem.Str×Kd)) (ps:List Int) (vs:List Vd) (l:List Int),(bytF ps fs vs l).length=l.length
 | [],_,_,_=>by simp [bytF]
 | _ :: _,[],_,_=>by simp [bytF]
 | _ :: _,_ :: _,[],_=>by simp [bytF]
 | f :: r,p :: ps,v :: vs,l=>by simp only [bytF]; rw [ga_ r,dz_]
theorem Kd.byt_len:∀ {kd:Kd} {v:Vd},kd.Val v→(kd.byt v).length=kd.rm.1.toNat
 | .num w m,.num n,_=>by simp only [Kd.byt]; rw [ft_]; rfl
 | .row k n,.row vs,_=>by simp only [Kd.byt]; rw [ed_,List.length_replicate]; rfl
 | .rcd fs,.rcd vs,_=>by simp only [Kd.byt]; rw [ga_,List.length_replicate]; rfl
 | .cho ks,.cho k v,_=>by simp only [Kd.byt]; rw [dz_,List.length_set,List.length_replicate]; rfl
end Lf
namespace Lf
theorem lay_get {l s:List Int} {p i:Nat} (hi:i < l.length):(lay l p s).getD i 0=if p≤i∧i < p + s.length then s.getD (i - p) 0 else l.getD i 0:=by
 rw [List.getD_eq_getElem?_getD,gs_,List.getElem?_eq_getElem hi]
 show (if p≤i∧i < p + s.length then s.getD (i - p) 0 else l[i])=_
 split
 ·rfl
 ·rw [List.getD_eq_getElem?_getD,List.getElem?_eq_getElem hi]
  rfl
theorem ig_ (f:Vd→List Int) (step:Nat):∀ (vs:List Vd) (j:Nat) (l:List Int) (i:Nat),i < j * step→(layRow f step j vs l).getD i 0=l.getD i 0
 | [],_,_,_,_=>rfl
 | v :: r,j,l,i,h=>by
  have h':i < (j + 1) * step:=Nat.lt_of_lt_of_le h (Nat.mul_le_mul_right _ (Nat.le_succ _))
  show (layRow f step (j + 1) r _).getD i 0=_
  rw [ig_ f step r (j + 1) _ i h']
  by_cases c:i < l.length
  ·rw [lay_get c,if_neg (by omega)]
  ·rw [List.getD_eq_getElem?_getD,List.getD_eq_getElem?_getD,List.getElem?_eq_none (by rw [dz_]; omega),List.getElem?_eq_none (by omega)]
theorem layRow_get (f:Vd→List Int) (step:Nat):∀ (vs:List Vd) (j:Nat) (l:List Int) (i t:Nat) (v:Vd),(∀ u∈vs,(f u).length≤step)→vs[t]? = some v→(j + t) * step≤i→i < (j + t) * step + (f v).length→i < l.length→(layRow f step j vs l).getD i 0=(f v).getD (i - (j + t) * step) 0
 | [],_,_,_,_,_,_,h,_,_,_=>by simp at h
 | u :: r,j,l,i,0,v,hs,h,h1,h2,h3=>by
  have e:u=v:=by simpa using h
  subst e
  have hl:=hs u List.mem_cons_self
  rw [Nat.add_zero] at h1 h2 ⊢
  show (layRow f step (j + 1) r _).getD i 0=_
  rw [ig_ f step r (j + 1) _ i (by rw [Nat.add_mul,Nat.one_mul]; omega),lay_get h3,if_pos ⟨h1,h2⟩]
 | u :: r,j,l,i,t + 1,v,hs,h,h1,h2,h3=>by
  have e:j + (t + 1)=j + 1 + t:=by omega
  rw [e] at h1 h2 ⊢
  exact layRow_get f step r (j + 1) _ i t v (fun w hw=>hs w (List.mem_cons_of_mem _ hw)) (by simpa using h) h1 h2 (by rw [dz_]; exact h3)
end Lf
namespace Lf
theorem bytF_keep:∀ (fs:List (PySem.Str×Kd)) (ps:List Int) (vs:List Vd) (l:List Int) (i:Nat),(∀ p∈ps,i < p.toNat)→(bytF ps fs vs l).getD i 0=l.getD i 0
 | [],ps,vs,l,i,_=>by simp only [bytF]
 | f :: r,[],vs,l,i,_=>by simp only [bytF]
 | f :: r,p :: ps,[],l,i,_=>by simp only [bytF]
 | f :: r,p :: ps,v :: vs,l,i,h=>by
  simp only [bytF]
  rw [bytF_keep r ps vs _ i fun q hq=>h q (List.mem_cons_of_mem _ hq)]
  have hp:=h p List.mem_cons_self
  by_cases c:i < l.length
  ·rw [lay_get c,if_neg (by omega)]
  ·rw [List.getD_eq_getElem?_getD,List.getD_eq_getElem?_getD,List.getElem?_eq_none (by rw [dz_]; omega),List.getElem?_eq_none (by omega)]
end Lf
namespace Lf
end Lf
namespace L2
open PySem PySem.Spec PyProof.Rows
section
variable {X:Cx} {pins:PN_} {σ:St} {H:Hp} {s:Shared} {a:Addr}
theorem Inv.other {u u':HO} (I:Inv X pins σ H s) (e:H a=some u) (n1:∀ y,u ≠ .own y) (n2:∀ xs,u ≠ .tup xs) (n3:∀ ps,u ≠ .tbl ps) (n4:∀ o v,X.H₀ a≠some (.frz o v)) (hok:ObjOk X.prog X.w (upd H a u') s.heap a u'):Inv X pins σ (upd H a u') s:=by
 have ne:∀ {b:Addr},H b=none→b≠a:=fun h z=>by rw [z,e] at h; cases h
 refine ⟨I.ok,I.os,I.bare,⟨I.base.keep,I.base.slot,fun b o h1 h2 h3 => ?_,I.base.there,fun b xs h => ?_,fun b o v h => ?_,fun b ps h => ?_⟩,I.loc,I.cell,?_,fun x c h => ?_,fun p hp => ?_,fun b v h => ?_,I.len⟩
 ·have:=I.base.free b o h1 h2 h3
  rw [ah_ (ne this)]; exact this
 ·have:=I.base.tups b xs h
  rw [ah_ (fun z=>by rw [z,e] at this; exact n2 _ (Option.some.inj this))]; exact this
 ·have:=I.base.frzs b o v h
  rw [ah_ (fun z=>n4 o v (by rw [← z]; exact h))]; exact this
 ·obtain ⟨m,q⟩:=I.base.tbls b ps h
  exact ⟨m,by rw [ah_ (fun z=>by rw [z,e] at q; exact n3 _ (Option.some.inj q))]; exact q⟩
 ·rw [ah_ (ne I.free)]; exact I.free
 ·rw [ah_ (ne (I.freeC x c h))]; exact I.freeC x c h
 ·obtain ⟨p1,p2,p3⟩:=I.pin p hp
  exact ⟨p1,by rw [ah_ (ne p2)]; exact p2,p3⟩
 ·by_cases hb:b=a
  ·subst hb
   rw [upd_same] at h
   cases h
   exact hok
  ·rw [ah_ hb] at h
   refine (I.hok b v h).stay (fun _ _ _ q=>q) (fun c q => ?_) fun c xs q => ?_
   ·rw [ah_ (fun z=>by rw [z,e] at q; exact n1 _ (Option.some.inj q))]; exact q
   ·rw [ah_ (fun z=>by rw [z,e] at q; exact n2 _ (Option.some.inj q))]; exact q
theorem dk_upd {P:Program} {w:World} {H H':Hp} {h:Heap} {a:Addr} {kvs:List (Key×V)} (x:ObjOk P w H h a (.dK kvs)):ObjOk P w H' h a (.dK kvs):=x
theorem Inv.freeze {kvs:List (Key×V)} (I:Inv X pins σ H s) (e:H a=some (.dK kvs)):∃ o,Inv X pins σ (upd H a (.frz o (.dK kvs))) s:=by
 have x:=I.hok a _ e
 obtain ⟨_,_,vs,r,o,es,ep,h1,h2⟩:=id x
 refine ⟨o,I.other e (fun _ z=>by cases z) (fun _ z=>by cases z) (fun _ z=>by cases z) (fun o v z => ?_) ⟨h1,dk_upd x⟩⟩
 have:=I.base.frzs a o v z
 rw [e] at this; cases this
theorem Inv.thaw {o:Obj} {kvs:List (Key×V)} (I:Inv X pins σ H s) (e:H a=some (.frz o (.dK kvs))) (n:∀ o v,X.H₀ a≠some (.frz o v)):Inv X pins σ (upd H a (.dK kvs)) s :=
 I.other e (fun _ z=>by cases z) (fun _ z=>by cases z) (fun _ z=>by cases z) n (dk_upd (I.hok a _ e).2)
end
def tFrz (H0:Hp) (t:TE):TE:=fun σ H Q => ∃ a kvs,H a=some (.dK kvs)∧(∀ o v,H0 a≠some (.frz o v))∧∀ o,t σ (upd H a (.frz o (.dK kvs))) fun v H'=>H' a=some (.frz o (.dK kvs))∧Q v (upd H' a (.dK kvs))
theorem pe_frz {X:Cx} {e:Expr} {t:TE} (h:PE X e t):PE X e (tFrz X.H₀ t):=by
 intro pins s σ H Q I ⟨a,kvs,ha,hn,q⟩
 obtain ⟨o,I1⟩:=I.freeze ha
 refine thn (h pins s σ _ _ I1 (q o)) fun u s1 ⟨v,H1,I2,r,e1,q1⟩=>⟨v,_,I2.thaw e1 hn,r,q1⟩
def sFrz (H0:Hp) (t:TS):TS:=fun D σ H => ∃ a kvs,H a=some (.dK kvs)∧(∀ o v,H0 a≠some (.frz o v))∧∀ o,
 t ⟨fun σ' H'=>H' a=some (.frz o (.dK kvs))∧D.nx σ' (upd H' a (.dK kvs)),fun v H'=>H' a=some (.frz o (.dK kvs))∧D.rt v (upd H' a (.dK kvs)),fun σ' H'=>H' a=some (.frz o (.dK kvs))∧D.bk σ' (upd H' a (.dK kvs)),fun σ' H'=>H' a=some (.frz o (.dK kvs))∧D.ct σ' (upd H' a (.dK kvs))⟩ σ (upd H a (.frz o (.dK kvs)))
theorem ps_frz {X:Cx} {st:Stmt} {t:TS} (h:PS X st t):PS X st (sFrz X.H₀ t):=by
 intro pins s σ H D I ⟨a,kvs,ha,hn,q⟩
 obtain ⟨o,I1⟩:=I.freeze ha
 refine thn (h pins s σ _ _ I1 (q o)) fun f s1 h1 => ?_
 cases f with
 | next=>obtain ⟨σ',H',I2,e1,q1⟩:=h1; exact ⟨σ',_,I2.thaw e1 hn,q1⟩
 | brk=>obtain ⟨σ',H',I2,e1,q1⟩:=h1; exact ⟨σ',_,I2.thaw e1 hn,q1⟩
 | cont=>obtain ⟨σ',H',I2,e1,q1⟩:=h1; exact ⟨σ',_,I2.thaw e1 hn,q1⟩
 | ret u=>obtain ⟨v,σ',H',I2,r,e1,q1⟩:=h1; exact ⟨v,σ',_,I2.thaw e1 hn,r,q1⟩
def Itd (a:Addr) (o:Obj) (kvs:List (Key×V)):It :=
 ⟨fun i H=>H a=some (.frz o (.dK kvs))∧i < kvs.length,fun i H x H'=>H'=H∧∃ kv,kvs[i]? = some kv∧x=kV kv.1,fun i H=>H a=some (.frz o (.dK kvs))∧kvs.length≤i⟩
theorem is_kV {P:Program} {w:World} {k:Key} {u:Value} (h:(mixKind P w).is k u=true):RelV (kV k) u:=by
 cases k with
 | inl i=>exact Value.isInt_shape (k:=i) h
 | inr x=>exact Value.isStrOf_shape (x:=x) h
theorem KV.at' {kvs:List (Key×V)} {vs:List (Key×Value)} (r:KV kvs vs):∀ {i:Nat} {kv:Key×V},kvs[i]? = some kv→∃ u,vs[i]? = some (kv.1,u):=by
 induction r with
 | nil=>intro i kv h; simp at h
 | @cons p q ps qs hq t ih =>
  intro i kv h
  cases i with
  | zero=>simp at h; subst h; exact ⟨q.2,by simp [hq.1]⟩
  | succ i=>obtain ⟨u,e⟩:=ih (i:=i) (by simpa using h); exact ⟨u,by simpa using e⟩
theorem frz_dict {X:Cx} {pins:PN_} {σ:St} {H:Hp} {s:Shared} {a:Addr} {o:Obj} {kvs:List (Key×V)} {es:Array DictEntry} {ep:Nat} (I:Inv X pins σ H s) (e:H a=some (.frz o (.dK kvs))) (hd:o.data=.dict es ep) :
  (a == sysModules)=false∧∃ vs,KV kvs vs∧s.heap.DictAt (mixKind X.prog X.w) a vs ep:=by
 obtain ⟨h0,_,y,vs,r,o',es',ep',h1,h2,h3,h4⟩:=(show ObjOk X.prog X.w H s.heap a (.frz o (.dK kvs)) from I.hok a _ e)
 rw [h0] at h1
 cases h1
 rw [hd] at h3
 cases h3
 exact ⟨y,vs,r,o,es,h0,h2,hd,h4⟩
theorem turn_keys {P:Program} {w:World} {K:FG_} {tg:Expr} (a it:Addr) (hne:a≠it) (o:Obj) (kvs:List (Key×V)) (es:Array DictEntry) (ep:Nat) (hd:o.data=.dict es ep):Turn P w K tg (Itd a o kvs) [it] it (fun i h=>h.IsKeyIter it a i kvs.length ep) where
 mem:=by simp
 obj:=fun i h st b hb=>by
  have e:b=it:=by simpa using hb
  subst e
  obtain ⟨o,e,c,d⟩:=st
  exact ⟨o,e,fun v z=>by rw [d] at z; cases z⟩
 keep:=fun i h h' st k=>st.at fun o e=>k it (by simp) o e
 item:=by
  intro X hP hw hK hc i pins s σ H E I hf st hg
  subst hP hw hK
  obtain ⟨ha,hi⟩:=hg
  obtain ⟨y,vs,r,dd⟩:=frz_dict I ha hd
  obtain ⟨f0,f1,f2,f3,f4,f5⟩:=hf it (by simp)
  have hl:kvs.length=vs.length:=r.length
  obtain ⟨u,hu⟩:=r.at' (List.getElem?_eq_getElem hi)
  rw [hl] at st
  refine wpAny_pyNext_dict_item st dd hu fun key h' hk st' sb => ?_
  have I1:Inv X pins σ H { s with heap:=h' }:=I.turned (t':=s.toks) (fun b o hb e=>(sb.2 b hb).trans e) f0 f1 f3 f4 f5
  rw [← hl] at st'
  obtain ⟨o',e,c,d⟩:=id st'
  exact ⟨key,rfl,go_of (s:={ s with heap:=h' }) e c d (by decide) ⟨kV kvs[i].1,H,I1,is_kV hk,⟨rfl,_,List.getElem?_eq_getElem hi,rfl⟩,st',fun b hb=>(hf b hb).1⟩⟩
 done:=by
  intro X hP hw hK hc i pins s σ H E I hf st hg
  subst hP hw hK
  obtain ⟨ha,hi⟩:=hg
  obtain ⟨y,vs,r,dd⟩:=frz_dict I ha hd
  obtain ⟨f0,f1,f2,f3,f4,f5⟩:=hf it (by simp)
  have hl:kvs.length=vs.length:=r.length
  rw [hl] at st
  exact wpAny_pyNext_dict_end (I.ok.hd hc) st dd (by simp; omega) fun h' eb=>⟨rfl,I.turned (t':=s.toks) (fun b o hb e=>eb b o hb e) f0 f1 f3 f4 f5⟩
 self:=fun _ _ _ _ _ st h=>wpAny_pyIter_keyiter st h
def iKeys (tl:TE):TI:=fun σ H R=>tl σ H fun x H1 => ∃ a o kvs,x=.ref a∧H1 a=some (.frz o (.dK kvs))∧R (Itd a o kvs) H1
theorem pi_keys {X:Cx} {tg l:Expr} {tl:TE} (hl:PE X l tl):PI X tg l (iKeys tl):=by
 intro pins s σ H R I h
 refine thn (hl pins s σ H _ I h) fun v s1 ⟨x,H1,I1,r1,q1⟩ => ?_
 obtain ⟨a,o,kvs,e,ha,q⟩:=q1
 subst e
 cases r1
 obtain ⟨h0,_,y,vs,r,o',es,ep,h1,h2,h3,h4⟩:=(show ObjOk X.prog X.w H1 s1.heap a (.frz o (.dK kvs)) from I1.hok a _ ha)
 rw [h0] at h1
 cases h1
 have hl:kvs.length=vs.length:=r.length
 refine wpAny_pyIter_dict y (⟨o,es,h0,h2,h3,h4⟩ : s1.heap.DictAt (mixKind X.prog X.w) a vs ep) ?_
 refine ⟨s1.heap.objs.size,[s1.heap.objs.size],_,_,H1,rfl,I1.kept (t':=s1.toks) fun b o e=>Heap.get?_push_of_some _ e,turn_keys a _ (Nat.ne_of_lt (Heap.lt_size h0)) o kvs es ep h3,⟨_,Heap.get?_push_size _ rfl,rfl,by rw [hl]; rfl⟩,fun b hb => ?_,q⟩
 have e:b=s1.heap.objs.size:=by simpa using hb
 subst e
 exact I1.fpOk (Nat.le_refl _) (I1.hok.fresh (Nat.le_refl _))
end L2
namespace L2
open PySem PySem.W PySem.Spec PyProof.Rows PySem.Calls
def allF (h:Heap):Frag:=(List.range h.objs.size).filterMap fun a=>(h.get? a).map fun o=>(a,o)
theorem lookup_mem {α β:Type} [BEq α] [LawfulBEq α] {a:α} {b:β}:∀ {l:List (α×β)},l.lookup a=some b→(a,b)∈l
 | [],h=>by simp at h
 | (c,d) :: r,h=>by
  by_cases e:a=c
  ·subst e; simp at h; subst h; exact List.mem_cons_self
  ·rw [List.lookup_cons,beq_eq_false_iff_ne.mpr e] at h
   exact List.mem_cons_of_mem _ (lookup_mem h)
theorem allF_in (h:Heap):(allF h).In h:=fun a o e=>by
 obtain ⟨b,_,hb⟩:=List.mem_filterMap.mp (lookup_mem e)
 obtain ⟨o',h1,h2⟩:=Option.map_eq_some_iff.mp hb
 cases h2
 exact h1
def exHook {α:Type} (f:Frag→α) (v:α):Hook where
 α:=α
 obs:=fun s=>f (allF s.heap)
 val:=fun _=>v
 says:=fun _ h => ∃ K:Frag,K.In h∧f K=v
 of:=fun _ s e=>⟨allF s.heap,allF_in _,e⟩
 keeps:=fun _ _ _ e g=>by
  obtain ⟨K,k,e⟩:=e
  exact ⟨K,fun a o q=>g _ _ (k a o q),e⟩
theorem boot_size:∀ w:World,((boot_heap w.params).isNs mainGlobals && (Array.mk []:Array GenState).size == 0,(boot_heap w.params).objs.size,(boot_heap w.params).nsMap mainGlobals "__annotations__")=(true,11,some (.ref 6)):=fun w=>by kernel_rfl
noncomputable def onceSeen (tr:(String→Option Builtin)→Program→World→Nat→Option Value→Nat→Shared→Thread→Option Shared) (tb:String→Option Builtin) (im:List Stmt→List Str) {β:Type} (os:List Str→Shared→β) (p:Program) (N:Nat) {α:Type} (Yf:Frag→α) (w:World) (o:OsState):Option (Bool×β×α) :=
 (tr tb p w 11 (some (.ref 6)) N ⟨boot_heap w.params,Array.mk [],boot_drawn,boot_toks,o⟩ (topStub p)).map fun s₁ =>
  (staticsOk (im p.main.body) (boot_heap w.params) s₁.heap && namesBound p s₁.heap && gensDone s₁ && laidKept (boot_heap w.params) s₁.heap,os (im p.main.body) s₁,Yf (allF s₁.heap))
theorem left_once {p q:Program} {loose:List Str} {Xt:Shared→Bool} {α:Type} {Yf:Frag→α} {v:α} {N:Nat} {g0:Bool} (hN:Nat.ble 600 N=true) (e:opening p=plainProg p.main.scope.names) (f:∀ s,fenceModules? p s=some s)
  (all:∀ w:World,onceSeen topRun treeTable importedModules (fun m s=>openSeen q loose m Xt g0 s) p N Yf w=fun _=>some (true,openGood q loose,v)) :
  LeftO p q loose Xt (exHook Yf v).obs (exHook Yf v).val N g0:=fun w=>by
 obtain ⟨⟨h,gs,d,k,os⟩,e1,e'⟩:=Option.map_eq_some_iff.mp (boot_open e hN f w)
 obtain ⟨rfl,rfl,rfl,rfl⟩ : h=boot_heap w.params∧gs=Array.mk []∧d=boot_drawn∧k=boot_toks:=by simpa using e'
 obtain ⟨z1,z2,z3⟩ : _∧_∧_:=by simpa only [Prod.mk.injEq] using boot_size w
 obtain ⟨s₁,r,r2⟩:=Option.map_eq_some_iff.mp (congrFun (all w) os)
 obtain ⟨l1,l2,l3⟩ : _∧_∧_:=by simpa only [Prod.mk.injEq] using r2
 have t:topFrom treeTable p w N ⟨boot_heap w.params,Array.mk [],boot_drawn,boot_toks,os⟩=some s₁:=by
  unfold topFrom
  dsimp only
  rw [z1,z2,z3]
  show (topRun treeTable p w 11 (some (.ref 6)) N _ (topStub p)).bind _=_
  rw [r]
  show (match staticsOk (importedModules p.main.body) (boot_heap w.params) s₁.heap && namesBound p s₁.heap && gensDone s₁ && laidKept (boot_heap w.params) s₁.heap with | true=>_ | false=>_)=_
  rw [l1]
 unfold openEnds
 rw [e1]
 show (topFrom treeTable p w N _).map _=_
 rw [t]
 exact congrArg some (Prod.ext l2 l3)
theorem walk_ex {l:PySem.W.OpenLaw} {n k:Nat} {q:Program} {loose:List Str} {XP:(Str→Option Value)→Heap→Prop} {α:Type} {f:Frag→α} {v:α} {d:DefRec} {CX:CXT} {sp:PySem.W.Frag→Sp} {x:Str}
  (hn:l.most=some n) (hn2:n≤sizeLine) (hdf:d.params.defaults=[]) (hr:Room k callerA)
  (F:∀ (w:World) (K:Frag) (mg:MG_) (fa:Addr) (h:Heap),f K=v→K.In h→h.Ns mainGlobals mg→mg d.name=some (.ref fa) →
   ∃ fd:FuncData,(∀ (s:Shared) (u:Value),BindsTo s fd ⟨[u],[]⟩ [(x,u)]) ∧
    ∀ base:Heap,K.In base→base.Ns mainGlobals mg→FnOk l.prog w K mg base CX k fa fd [x] (sp K))
  (hsp:∀ (K:FG_) (H:Hp) (a:Addr) (ns:List Int),ns.length≤n→Only H→SqL K H a (ns.map V.int)→sp K [.ref a] H (fun v _=>v=.bl true) fun _ _ _=>False)
  (hCX:∀ (H:Hp) (s:Shared) (e:Value) (s':Shared),CX [] H s (fun _ _ _=>False) e s'→False) :
  PySem.W.WalkO q loose XP (exHook f v).says l.row.toRowW d [] (fun f vs=>PySem.call f vs):=by
 refine Att.attach_call hn hdf fun w s₀ s₁ mg mb fa o pm cd doc a vs ns G Y ho hd hcd hmg hobj hints hlen hg => ?_
 obtain ⟨K,KX,hK⟩:=Y
 obtain ⟨fd,hb,hF⟩:=F w K mg fa _ hK KX G.T.g hmg
 exact law_call KX G.T.g G.T.b G.T.builtins G.T.nolimit hg hobj hints (Nat.le_trans hlen hn2) hr hF hb (fun H hO hS=>hsp K H a ns hlen hO hS) fun H e s'=>hCX H s₁ e s'
def topOf (p:Program) (i:Nat):Stmt:=p.main.body.getD i (.Pass ⟨0,0,0,0⟩)
def defName (s:Stmt):Str:=match s with
 | .FunctionDef n .. => n
 | .Assign [.Name n _] _ _=>n
 | _=>⟨#[]⟩
abbrev FO:=Option ((Str×Str×Arguments×FuncBody×Scope)×(Addr×List (Str×Addr)×Value×Addr)×Bool)
def obsDef (K:Frag) (n:Str):FO:=match nsIn K mainGlobals n with
 | some (some (.ref f))=>(match K.lookup f with
  | some ⟨_,_,.func fd,_⟩=>some ((fd.name,fd.qualname,fd.params,fd.body,fd.scope),(fd.globals,fd.closure,fd.defaults,fd.builtins),codeIn K fd.code n)
  | _=>none)
 | _=>none
def expDef (s:Stmt):FO:=some ((defName s,defName s,defArgs s,.stmts (defBody s),defScope s),(mainGlobals,[],.none,builtinsNs),true)
def obsNo (K:Frag) (n:Str):Bool:=match nsIn K mainGlobals n with
 | some none=>true
 | _=>false
def obsVal (K:Frag) (n:Str):Option V:=match nsIn K mainGlobals n with
 | some (some v)=>absV v
 | _=>none
def obsTup (K:Frag) (n:Str):Option (List (Option V)):=match nsIn K mainGlobals n with
 | some (some (.ref a))=>(match K.lookup a with
  | some ⟨.type "tuple",_,.seq xs _,_⟩=>some (xs.toList.map absV)
  | _=>none)
 | _=>none
theorem al_ {K:Frag} {s:Stmt} (h:obsDef K (defName s)=expDef s):∃ f fd,nsIn K mainGlobals (defName s)=some (some (.ref f))∧Fun K (defName s) (defName s) s f fd:=by
 unfold obsDef at h
 cases e:nsIn K mainGlobals (defName s) with
 | none=>rw [e] at h; cases h
 | some o =>
  cases o with
  | none=>rw [e] at h; cases h
  | some v =>
   cases v with
   | ref f =>
    rw [e] at h
    dsimp only at h
    cases e2:K.lookup f with
    | none=>rw [e2] at h; cases h
    | some ob =>
     obtain ⟨oc,od,da,sl⟩:=ob
     rw [e2] at h
     cases da with
     | func fd =>
      obtain ⟨nm,qn,pa,bo,sc,gl,cl,df,kw,dc,pm,an,cd,ct,bl⟩:=fd
      simp only [expDef,Option.some.injEq,Prod.mk.injEq] at h
      obtain ⟨⟨rfl,rfl,rfl,rfl,rfl⟩,⟨rfl,rfl,rfl,rfl⟩,h3⟩:=h
      refine ⟨f,_,rfl,⟨oc,od,kw,dc,pm,an,cd,ct,sl,rfl,e2,h3⟩,?_⟩
      unfold keepIn
      dsimp only
      rw [e2]
     | _=>cases h
   | _=>rw [e] at h; cases h
theorem obsNo_ex {K:Frag} {n:Str} (h:obsNo K n=true):nsIn K mainGlobals n=some none:=by
 unfold obsNo at h
 split at h
 ·assumption
 ·cases h
theorem absV_rel:∀ {v:Value} {x:V},absV v=some x→RelV x v
 | .none,x,h=>by cases h; rfl
 | .bool b,x,h=>by cases h; rfl
 | .int i t,x,h=>by cases h; exact ⟨t,rfl⟩
 | .str i t,x,h=>by cases h; exact ⟨t,rfl⟩
 | .bytes i t,x,h=>by cases h; exact ⟨t,rfl⟩
 | .float i t,x,h=>by cases h; exact ⟨t,rfl⟩
 | .ref a,x,h=>by cases h; rfl
 | .type n,x,h=>by cases h; rfl
 | .builtin _,x,h=>by cases h
theorem obsVal_ex {K:Frag} {n:Str} {x:V} (h:obsVal K n=some x):∃ v,nsIn K mainGlobals n=some (some v)∧RelV x v:=by
 unfold obsVal at h
 split at h
 ·exact ⟨_,by assumption,absV_rel h⟩
 ·cases h
section
variable {K:Frag} {x qual:Str} {st:Stmt} {f:Addr} {fd:FuncData} {p1 p2 p3 p4 p5 p6:Str}
abbrev BA (x qual:Str) (st:Stmt) (us:List Value) (r:List (Str×Value)):Prop := ∀ (kV doc pm:Value) (an:Option Addr) (cdv ct:Value),bindArgs (PySem.W.fnOf x qual (defArgs st) (defBody st) (defScope st) .none kV doc pm an cdv ct) ⟨us,[]⟩=pure r
theorem binds1 (F:Fun K x qual st f fd) (h:∀ a,BA x qual st [a] [(p1,a)]):Binds K fd [p1] []:=F.binds fun _ _ _ _ _ _ us hl=>by
 match us,hl with
 | [a],_=>exact h a _ _ _ _ _ _
theorem binds2 (F:Fun K x qual st f fd) (h:∀ a b,BA x qual st [a,b] [(p1,a),(p2,b)]):Binds K fd [p1,p2] []:=F.binds fun _ _ _ _ _ _ us hl=>by
 match us,hl with
 | [a,b],_=>exact h a b _ _ _ _ _ _
theorem binds3 (F:Fun K x qual st f fd) (h:∀ a b c,BA x qual st [a,b,c] [(p1,a),(p2,b),(p3,c)]):Binds K fd [p1,p2,p3] []:=F.binds fun _ _ _ _ _ _ us hl=>by
 match us,hl with
 | [a,b,c],_=>exact h a b c _ _ _ _ _ _
end
def bltNs:List Str:=[⟨#[105,115,105,110,115,116,97,110,99,101]⟩,⟨#[105,110,116]⟩,⟨#[98,111,111,108]⟩,⟨#[108,105,115,116]⟩,⟨#[108,101,110]⟩,⟨#[115,116,114]⟩,⟨#[116,117,112,108,101]⟩,⟨#[97,108,108]⟩,⟨#[100,105,99,116]⟩,⟨#[109,97,120]⟩,⟨#[109,105,110]⟩,⟨#[114,97,110,103,101]⟩,⟨#[122,105,112]⟩,⟨#[101,110,117,109,101,114,97,116,101]⟩,⟨#[115,111,114,116,101,100]⟩,⟨#[115,117,109]⟩,⟨#[114,101,118,101,114,115,101,100]⟩]
theorem fd_ {K:Frag} (h:bltNs.map (obsNo K)=List.replicate 17 true) {n:Str} (i:Nat) (hi:i < 17) (e:bltNs[i]? = some n):nsIn K mainGlobals n=some none:=by
 refine obsNo_ex ?_
 have:=congrArg (fun l=>l[i]?) h
 simp only [List.getElem?_map,e,Option.map_some,List.getElem?_replicate,hi,if_true,Option.some.injEq] at this
 exact this
end L2
namespace Lf
open PySem L2
def All2 {α β:Type} (g:α→β→Prop):List α→List β→Prop
 | [],ys=>ys=[]
 | x :: xs,ys => ∃ y yr,ys=y :: yr∧g x y∧All2 g xs yr
section
variable {α β:Type} {g h:α→β→Prop}
theorem All2.nil:All2 g [] []:=rfl
theorem All2.imp (i:∀ v x,g v x→h v x):∀ {vs:List α} {xs:List β},All2 g vs xs→All2 h vs xs
 | [],_,e=>e
 | _ :: _,_,⟨x,xr,e,a,b⟩=>⟨x,xr,e,i _ _ a,All2.imp i b⟩
theorem All2.len:∀ {vs:List α} {xs:List β},All2 g vs xs→xs.length=vs.length
 | [],_,e=>by rw [show _=[] from e]; rfl
 | _ :: _,_,⟨x,xr,e,a,b⟩=>by rw [e,List.length_cons,List.length_cons,All2.len b]
theorem All2.get:∀ {vs:List α} {xs:List β} {i:Nat} {x:β},All2 g vs xs→xs[i]? = some x→∃ v,vs[i]? = some v∧g v x
 | [],_,_,_,e,h=>by rw [show _=[] from e] at h; simp at h
 | v :: vs,_,0,x,⟨y,yr,e,a,b⟩,h=>by rw [e] at h; cases (Option.some.inj h); exact ⟨v,rfl,a⟩
 | v :: vs,_,i + 1,x,⟨y,yr,e,a,b⟩,h=>by
  rw [e] at h
  obtain ⟨u,hu,hg⟩:=All2.get (i:=i) b (by simpa using h)
  exact ⟨u,by simpa using hu,hg⟩
theorem All2.at:∀ {vs:List α} {xs:List β} {i:Nat} {v:α},All2 g vs xs→vs[i]? = some v→∃ x,xs[i]? = some x∧g v x
 | [],_,_,_,e,h=>by simp at h
 | v :: vs,_,0,w,⟨y,yr,e,a,b⟩,h=>by rw [e]; cases (Option.some.inj h); exact ⟨y,rfl,a⟩
 | v :: vs,_,i + 1,w,⟨y,yr,e,a,b⟩,h=>by
  rw [e]
  obtain ⟨u,hu,hg⟩:=All2.at (i:=i) b (by simpa using h)
  exact ⟨u,by simpa using hu,hg⟩
theorem All2.app {us:List α} {ys:List β} (hu:All2 g us ys):∀ {vs:List α} {xs:List β},All2 g vs xs→All2 g (vs ++ us) (xs ++ ys)
 | [],_,e=>by rw [show _=[] from e]; exact hu
 | _ :: _,_,⟨y,yr,e,a,b⟩=>by rw [e]; exact ⟨y,yr ++ ys,rfl,a,All2.app hu b⟩
theorem All2.one {v:α} {x:β} (hg:g v x):All2 g [v] [x]:=⟨x,[],rfl,hg,rfl⟩
theorem All2.snoc {v:α} {x:β} (hg:g v x) {vs:List α} {xs:List β} (h:All2 g vs xs):All2 g (vs ++ [v]) (xs ++ [x]):=All2.app (All2.one hg) h
theorem All2.take:∀ (n:Nat) {vs:List α} {xs:List β},All2 g vs xs→All2 g (vs.take n) (xs.take n)
 | 0,_,_,_=>by simp only [List.take_zero]; rfl
 | n + 1,[],_,e=>by rw [show _=[] from e]; rfl
 | n + 1,_ :: _,_,⟨y,yr,e,a,b⟩=>by rw [e]; exact ⟨y,yr.take n,rfl,a,All2.take n b⟩
theorem All2.drop:∀ (n:Nat) {vs:List α} {xs:List β},All2 g vs xs→All2 g (vs.drop n) (xs.drop n)
 | 0,_,_,h=>h
 | n + 1,[],_,e=>by rw [show _=[] from e]; rfl
 | n + 1,_ :: _,_,⟨y,yr,e,a,b⟩=>by rw [e]; exact All2.drop n b
theorem All2.rev:∀ {vs:List α} {xs:List β},All2 g vs xs→All2 g vs.reverse xs.reverse
 | [],_,e=>by rw [show _=[] from e]; rfl
 | _ :: _,_,⟨y,yr,e,a,b⟩=>by rw [e,List.reverse_cons,List.reverse_cons]; exact All2.snoc a (All2.rev b)
theorem All2.set {v:α} {x:β} (hg:g v x):∀ (i:Nat) {vs:List α} {xs:List β},All2 g vs xs→All2 g (vs.set i v) (xs.set i x)
 | _,[],_,e=>by rw [show _=[] from e]; rfl
 | 0,_ :: _,_,⟨y,yr,e,a,b⟩=>by rw [e]; exact ⟨x,yr,rfl,hg,b⟩
 | i + 1,_ :: _,_,⟨y,yr,e,a,b⟩=>by rw [e]; exact ⟨y,yr.set i x,rfl,a,All2.set hg i b⟩
end
inductive Dx where
 | non | bl (b:Bool) | int (i:Int) | str (x:Str) | tup (l:List Dx) | lst (l:List Dx) | dic (l:List (Key×Dx)) | scr (K:FG_) (ns:List Int)
 | ins (C:Addr) (fs:List (Str×Dx)) | exc (c:Value)
def excP (a:Addr) (c:Value):Heap→Prop:=fun h => ∃ o vs,h.get? a=some o∧o.cls=c∧o.data=.fields vs∧o.dict=none
mutual
def IsX (H:Hp):Dx→V→Prop
 | .non,v=>v=.non
 | .bl b,v=>v=.bl b
 | .int i,v=>v=.int i
 | .str x,v=>v=.str x
 | .tup ds,v => ∃ a vs,v=.ref a∧H a=some (.tup vs)∧IsXs H ds vs
 | .lst ds,v => ∃ a vs,v=.ref a∧H a=some (.lst vs)∧IsXs H ds vs
 | .dic ks,v => ∃ a ws,v=.ref a∧Rd H a (.dK ws)∧IsXk H ks ws
 | .scr K ns,v => ∃ a,v=.ref a∧SqL K H a (ns.map V.int)
 | .ins C fs,v => ∃ a dx ws,v=.ref a∧H a=some (.ins C dx ws)∧IsXf H fs ws
 | .exc c,v => ∃ a,v=.ref a∧H a=some (.ext (excP a c))
def IsXs (H:Hp):List Dx→List V→Prop
 | [],vs=>vs=[]
 | d :: r,vs => ∃ v vr,vs=v :: vr∧IsX H d v∧IsXs H r vr
def IsXk (H:Hp):List (Key×Dx)→List (Key×V)→Prop
 | [],ws=>ws=[]
 | k :: r,ws => ∃ w wr,ws=w :: wr∧(k.1=w.1∧IsX H k.2 w.2)∧IsXk H r wr
def IsXf (H:Hp):List (Str×Dx)→List (Str×V)→Prop
 | [],ws=>ws=[]
 | k :: r,ws => ∃ w wr,ws=w :: wr∧(k.1=w.1∧IsX H k.2 w.2)∧IsXf H r wr
end
theorem IsXs.all {H:Hp}:∀ {ds:List Dx} {vs:List V},IsXs H ds vs↔All2 (IsX H) ds vs
 | [],vs=>by simp only [IsXs,All2]
 | d :: r,vs=>by
  simp only [IsXs,All2]
  constructor
  ·rintro ⟨v,vr,e,a,b⟩; exact ⟨v,vr,e,a,IsXs.all.mp b⟩
  ·rintro ⟨v,vr,e,a,b⟩; exact ⟨v,vr,e,a,IsXs.all.mpr b⟩
abbrev KvX (H:Hp) (k:Key×Dx) (w:Key×V):Prop:=k.1=w.1∧IsX H k.2 w.2
theorem IsXk.all {H:Hp}:∀ {ds:List (Key×Dx)} {vs:List (Key×V)},IsXk H ds vs↔All2 (KvX H) ds vs
 | [],vs=>by simp only [IsXk,All2]
 | d :: r,vs=>by
  simp only [IsXk,All2]
  constructor
  ·rintro ⟨v,vr,e,a,b⟩; exact ⟨v,vr,e,a,IsXk.all.mp b⟩
  ·rintro ⟨v,vr,e,a,b⟩; exact ⟨v,vr,e,a,IsXk.all.mpr b⟩
abbrev FvX (H:Hp) (k:Str×Dx) (w:Str×V):Prop:=k.1=w.1∧IsX H k.2 w.2
theorem IsXf.all {H:Hp}:∀ {ds:List (Str×Dx)} {vs:List (Str×V)},IsXf H ds vs↔All2 (FvX H) ds vs
 | [],vs=>by simp only [IsXf,All2]
 | d :: r,vs=>by
  simp only [IsXf,All2]
  constructor
  ·rintro ⟨v,vr,e,a,b⟩; exact ⟨v,vr,e,a,IsXf.all.mp b⟩
  ·rintro ⟨v,vr,e,a,b⟩; exact ⟨v,vr,e,a,IsXf.all.mpr b⟩
def SameF (H H':Hp):Prop := ∀ b o,H b=some o→H' b=some o∨∃ ob ws,(o=.dK ws∧H' b=some (.frz ob (.dK ws)))∨(o=.frz ob (.dK ws)∧H' b=some (.dK ws))
theorem SameF.of {H H':Hp} (e:Same H H'):SameF H H':=fun b o h=>.inl (e _ _ h)
theorem SameF.tup {H H':Hp} (e:SameF H H') {a:Addr} {vs:List V} (h:H a=some (.tup vs)):H' a=some (.tup vs):=by
 rcases e _ _ h with q | ⟨ob,ws,q | q⟩
 ·exact q
 ·cases q.1
 ·cases q.1
theorem SameF.lst {H H':Hp} (e:SameF H H') {a:Addr} {vs:List V} (h:H a=some (.lst vs)):H' a=some (.lst vs):=by
 rcases e _ _ h with q | ⟨ob,ws,q | q⟩
 ·exact q
 ·cases q.1
 ·cases q.1
theorem SameF.dic {H H':Hp} (e:SameF H H') {a:Addr} {ws:List (Key×V)} (h:Rd H a (.dK ws)):Rd H' a (.dK ws):=by
 rcases h with h | ⟨o,h⟩
 ·rcases e _ _ h with q | ⟨ob,ws,q | q⟩
  ·exact .inl q
  ·obtain ⟨q1,q2⟩:=q; cases q1; exact .inr ⟨_,q2⟩
  ·cases q.1
 ·rcases e _ _ h with q | ⟨ob,ws,q | q⟩
  ·exact .inr ⟨_,q⟩
  ·cases q.1
  ·obtain ⟨q1,q2⟩:=q; cases q1; exact .inl q2
theorem SameF.ins {H H':Hp} (e:SameF H H') {a C dx:Addr} {ws:List (Str×V)} (h:H a=some (.ins C dx ws)):H' a=some (.ins C dx ws):=by
 rcases e _ _ h with q | ⟨ob,ws,q | q⟩
 ·exact q
 ·cases q.1
 ·cases q.1
theorem SameF.ext {H H':Hp} (e:SameF H H') {a:Addr} {φ:Heap→Prop} (h:H a=some (.ext φ)):H' a=some (.ext φ):=by
 rcases e _ _ h with q | ⟨ob,ws,q | q⟩
 ·exact q
 ·cases q.1
 ·cases q.1
theorem SameF.sq {H H':Hp} (e:SameF H H') {K:FG_} {a:Addr} {xs:List V} (h:SqL K H a xs):SqL K H' a xs:=by
 rcases h with (h | ⟨o,h⟩) | h
 ·exact .inl (.inl (e.lst h))
 ·rcases e _ _ h with q | ⟨ob,ws,q | q⟩
  ·exact .inl (.inr ⟨o,q⟩)
  ·cases q.1
  ·cases q.1
 ·exact .inr h
mutual
theorem IsX.sameF {H H':Hp} (e:SameF H H'):∀ (d:Dx) (v:V),IsX H d v→IsX H' d v
 | .non,v,h=>by simpa only [IsX] using h
 | .bl _,v,h=>by simpa only [IsX] using h
 | .int _,v,h=>by simpa only [IsX] using h
 | .str _,v,h=>by simpa only [IsX] using h
 | .tup ds,v,h=>by
  simp only [IsX] at h ⊢
  obtain ⟨a,vs,h1,h2,h3⟩:=h
  exact ⟨a,vs,h1,e.tup h2,IsXs.sameF e ds vs h3⟩
 | .lst ds,v,h=>by
  simp only [IsX] at h ⊢
  obtain ⟨a,vs,h1,h2,h3⟩:=h
  exact ⟨a,vs,h1,e.lst h2,IsXs.sameF e ds vs h3⟩
 | .dic ks,v,h=>by
  simp only [IsX] at h ⊢
  obtain ⟨a,ws,h1,h2,h3⟩:=h
  exact ⟨a,ws,h1,e.dic h2,IsXk.sameF e ks ws h3⟩
 | .scr K ns,v,h=>by
  simp only [IsX] at h ⊢
  obtain ⟨a,h1,h2⟩:=h
  exact ⟨a,h1,e.sq h2⟩
 | .ins C fs,v,h=>by
  simp only [IsX] at h ⊢
  obtain ⟨a,dx,ws,h1,h2,h3⟩:=h
  exact ⟨a,dx,ws,h1,e.ins h2,IsXf.sameF e fs ws h3⟩
 | .exc c,v,h=>by
  simp only [IsX] at h ⊢
  obtain ⟨a,h1,h2⟩:=h
  exact ⟨a,h1,e.ext h2⟩
theorem IsXs.sameF {H H':Hp} (e:SameF H H'):∀ (ds:List Dx) (vs:List V),IsXs H ds vs→IsXs H' ds vs
 | [],vs,h=>by simpa only [IsXs] using h
 | d :: r,vs,h=>by
  simp only [IsXs] at h ⊢
  obtain ⟨v,vr,h1,h2,h3⟩:=h
  exact ⟨v,vr,h1,IsX.sameF e d v h2,IsXs.sameF e r vr h3⟩
theorem IsXk.sameF {H H':Hp} (e:SameF H H'):∀ (ds:List (Key×Dx)) (ws:List (Key×V)),IsXk H ds ws→IsXk H' ds ws
 | [],vs,h=>by simpa only [IsXk] using h
 | d :: r,vs,h=>by
  simp only [IsXk] at h ⊢
  obtain ⟨v,vr,h1,h2,h3⟩:=h
  exact ⟨v,vr,h1,⟨h2.1,IsX.sameF e d.2 v.2 h2.2⟩,IsXk.sameF e r vr h3⟩
theorem IsXf.sameF {H H':Hp} (e:SameF H H'):∀ (ds:List (Str×Dx)) (ws:List (Str×V)),IsXf H ds ws→IsXf H' ds ws
 | [],vs,h=>by simpa only [IsXf] using h
 | d :: r,vs,h=>by
  simp only [IsXf] at h ⊢
  obtain ⟨v,vr,h1,h2,h3⟩:=h
  exact ⟨v,vr,h1,⟨h2.1,IsX.sameF e d.2 v.2 h2.2⟩,IsXf.sameF e r vr h3⟩
end
theorem IsX.toF {H H':Hp} {d:Dx} {v:V} (h:IsX H d v) (e:SameF H H'):IsX H' d v:=IsX.sameF e d v h
theorem IsX.to {H H':Hp} {d:Dx} {v:V} (h:IsX H d v) (e:Same H H'):IsX H' d v:=IsX.sameF (.of e) d v h
theorem IsX.int_eq {H:Hp} {i:Int} {v:V} (h:IsX H (.int i) v):v=.int i:=by simpa only [IsX] using h
theorem IsX.bl_eq {H:Hp} {i:Bool} {v:V} (h:IsX H (.bl i) v):v=.bl i:=by simpa only [IsX] using h
theorem IsX.str_eq {H:Hp} {i:Str} {v:V} (h:IsX H (.str i) v):v=.str i:=by simpa only [IsX] using h
theorem IsX.non_eq {H:Hp} {v:V} (h:IsX H .non v):v=.non:=by simpa only [IsX] using h
theorem IsX.tup_eq {H:Hp} {l:List Dx} {v:V} (h:IsX H (.tup l) v):∃ a vs,v=.ref a∧H a=some (.tup vs)∧All2 (IsX H) l vs:=by
 simp only [IsX] at h
 obtain ⟨a,vs,h1,h2,h3⟩:=h
 exact ⟨a,vs,h1,h2,IsXs.all.mp h3⟩
theorem IsX.lst_eq {H:Hp} {l:List Dx} {v:V} (h:IsX H (.lst l) v):∃ a vs,v=.ref a∧H a=some (.lst vs)∧All2 (IsX H) l vs:=by
 simp only [IsX] at h
 obtain ⟨a,vs,h1,h2,h3⟩:=h
 exact ⟨a,vs,h1,h2,IsXs.all.mp h3⟩
theorem IsX.dic_eq {H:Hp} {l:List (Key×Dx)} {v:V} (h:IsX H (.dic l) v):∃ a ws,v=.ref a∧Rd H a (.dK ws)∧All2 (KvX H) l ws:=by
 simp only [IsX] at h
 obtain ⟨a,vs,h1,h2,h3⟩:=h
 exact ⟨a,vs,h1,h2,IsXk.all.mp h3⟩
theorem IsX.scr_eq {H:Hp} {K:FG_} {ns:List Int} {v:V} (h:IsX H (.scr K ns) v):∃ a,v=.ref a∧SqL K H a (ns.map V.int):=by simpa only [IsX] using h
theorem IsX.of_scr {H:Hp} {K:FG_} {ns:List Int} {a:Addr} (h:SqL K H a (ns.map V.int)):IsX H (.scr K ns) (.ref a):=by simp only [IsX]; exact ⟨a,rfl,h⟩
theorem IsX.of_ins {H:Hp} {C a dx:Addr} {fs:List (Str×Dx)} {ws:List (Str×V)} (h:H a=some (.ins C dx ws)) (h':All2 (FvX H) fs ws):IsX H (.ins C fs) (.ref a):=by simp only [IsX]; exact ⟨a,dx,ws,rfl,h,IsXf.all.mpr h'⟩
theorem IsX.of_int {H:Hp} (i:Int):IsX H (.int i) (.int i):=by simp only [IsX]
theorem IsX.of_bl {H:Hp} (i:Bool):IsX H (.bl i) (.bl i):=by simp only [IsX]
theorem IsX.of_str {H:Hp} (i:Str):IsX H (.str i) (.str i):=by simp only [IsX]
theorem IsX.of_non {H:Hp}:IsX H .non .non:=by simp only [IsX]
theorem IsX.of_tup {H:Hp} {l:List Dx} {a:Addr} {vs:List V} (h:H a=some (.tup vs)) (h':All2 (IsX H) l vs):IsX H (.tup l) (.ref a):=by simp only [IsX]; exact ⟨a,vs,rfl,h,IsXs.all.mpr h'⟩
theorem IsX.of_lst {H:Hp} {l:List Dx} {a:Addr} {vs:List V} (h:H a=some (.lst vs)) (h':All2 (IsX H) l vs):IsX H (.lst l) (.ref a):=by simp only [IsX]; exact ⟨a,vs,rfl,h,IsXs.all.mpr h'⟩
theorem IsX.of_dic {H:Hp} {l:List (Key×Dx)} {a:Addr} {vs:List (Key×V)} (h:Rd H a (.dK vs)) (h':All2 (KvX H) l vs):IsX H (.dic l) (.ref a):=by simp only [IsX]; exact ⟨a,vs,rfl,h,IsXk.all.mpr h'⟩
inductive Ow where
 | tr (d:Dx) | ol (a:Addr) (l:List Ow) | od (a:Addr) (l:List (Key×Ow)) | oi (C a dx:Addr) (l:List (Str×Ow)) | ot (l:List Ow)
mutual
def Ow.d:Ow→Dx
 | .tr d=>d
 | .ol _ l=>.lst (owDs l)
 | .od _ l=>.dic (owDk l)
 | .oi C _ _ l=>.ins C (owDf l)
 | .ot l=>.tup (owDs l)
def owDs:List Ow→List Dx
 | []=>[]
 | o :: r=>o.d :: owDs r
def owDk:List (Key×Ow)→List (Key×Dx)
 | []=>[]
 | o :: r=>(o.1,o.2.d) :: owDk r
def owDf:List (Str×Ow)→List (Str×Dx)
 | []=>[]
 | o :: r=>(o.1,o.2.d) :: owDf r
end
mutual
def Ow.fp:Ow→List Addr
 | .tr _=>[]
 | .ol a l=>a :: owFs l
 | .od a l=>a :: owFk l
 | .oi _ a dx l=>a :: dx :: owFf l
 | .ot l=>owFs l
def owFs:List Ow→List Addr
 | []=>[]
 | o :: r=>o.fp ++ owFs r
def owFk:List (Key×Ow)→List Addr
 | []=>[]
 | o :: r=>o.2.fp ++ owFk r
def owFf:List (Str×Ow)→List Addr
 | []=>[]
 | o :: r=>o.2.fp ++ owFf r
end
mutual
def OwOk (G H:Hp):Ow→V→Prop
 | .tr d,v=>IsX G d v
 | .ol a l,v=>v=.ref a∧∃ vs,H a=some (.lst vs)∧OwOks G H l vs
 | .od a l,v=>v=.ref a∧∃ ws,H a=some (.dK ws)∧OwOkk G H l ws
 | .oi C a dx l,v=>v=.ref a∧∃ ws,H a=some (.ins C dx ws)∧H dx=some (.own a)∧OwOkf G H l ws
 | .ot l,v => ∃ a vs,v=.ref a∧G a=some (.tup vs)∧OwOks G H l vs
def OwOks (G H:Hp):List Ow→List V→Prop
 | [],vs=>vs=[]
 | o :: r,vs => ∃ v vr,vs=v :: vr∧OwOk G H o v∧OwOks G H r vr
def OwOkk (G H:Hp):List (Key×Ow)→List (Key×V)→Prop
 | [],vs=>vs=[]
 | o :: r,vs => ∃ v vr,vs=v :: vr∧(o.1=v.1∧OwOk G H o.2 v.2)∧OwOkk G H r vr
def OwOkf (G H:Hp):List (Str×Ow)→List (Str×V)→Prop
 | [],vs=>vs=[]
 | o :: r,vs => ∃ v vr,vs=v :: vr∧(o.1=v.1∧OwOk G H o.2 v.2)∧OwOkf G H r vr
end
section
variable {G G' H H':Hp}
mutual
theorem OwOk.mono (e:SameF G G'):∀ (o:Ow) (v:V),(∀ b∈o.fp,H' b=H b)→OwOk G H o v→OwOk G' H' o v
 | .tr d,v,_,h=>by simp only [OwOk] at h ⊢; exact h.toF e
 | .ol a l,v,k,h=>by
  simp only [OwOk,Ow.fp] at h k ⊢
  obtain ⟨h1,vs,h2,h3⟩:=h
  exact ⟨h1,vs,by rw [k a List.mem_cons_self]; exact h2,OwOks.mono e l vs (fun b hb=>k b (List.mem_cons_of_mem _ hb)) h3⟩
 | .od a l,v,k,h=>by
  simp only [OwOk,Ow.fp] at h k ⊢
  obtain ⟨h1,vs,h2,h3⟩:=h
  exact ⟨h1,vs,by rw [k a List.mem_cons_self]; exact h2,OwOkk.mono e l vs (fun b hb=>k b (List.mem_cons_of_mem _ hb)) h3⟩
 | .oi C a dx l,v,k,h=>by
  simp only [OwOk,Ow.fp] at h k ⊢
  obtain ⟨h1,vs,h2,h4,h3⟩:=h
  exact ⟨h1,vs,by rw [k a List.mem_cons_self]; exact h2,by rw [k dx (List.mem_cons_of_mem _ List.mem_cons_self)]; exact h4,OwOkf.mono e l vs (fun b hb=>k b (List.mem_cons_of_mem _ (List.mem_cons_of_mem _ hb))) h3⟩
 | .ot l,v,k,h=>by
  simp only [OwOk,Ow.fp] at h k ⊢
  obtain ⟨a,vs,h1,h2,h3⟩:=h
  exact ⟨a,vs,h1,e.tup h2,OwOks.mono e l vs k h3⟩
theorem OwOks.mono (e:SameF G G'):∀ (l:List Ow) (vs:List V),(∀ b∈owFs l,H' b=H b)→OwOks G H l vs→OwOks G' H' l vs
 | [],vs,_,h=>by simpa only [OwOks] using h
 | o :: r,vs,k,h=>by
  simp only [OwOks,owFs] at h k ⊢
  obtain ⟨v,vr,h1,h2,h3⟩:=h
  exact ⟨v,vr,h1,OwOk.mono e o v (fun b hb=>k b (List.mem_append_left _ hb)) h2,OwOks.mono e r vr (fun b hb=>k b (List.mem_append_right _ hb)) h3⟩
theorem OwOkk.mono (e:SameF G G'):∀ (l:List (Key×Ow)) (vs:List (Key×V)),(∀ b∈owFk l,H' b=H b)→OwOkk G H l vs→OwOkk G' H' l vs
 | [],vs,_,h=>by simpa only [OwOkk] using h
 | o :: r,vs,k,h=>by
  simp only [OwOkk,owFk] at h k ⊢
  obtain ⟨v,vr,h1,h2,h3⟩:=h
  exact ⟨v,vr,h1,⟨h2.1,OwOk.mono e o.2 v.2 (fun b hb=>k b (List.mem_append_left _ hb)) h2.2⟩,OwOkk.mono e r vr (fun b hb=>k b (List.mem_append_right _ hb)) h3⟩
theorem OwOkf.mono (e:SameF G G'):∀ (l:List (Str×Ow)) (vs:List (Str×V)),(∀ b∈owFf l,H' b=H b)→OwOkf G H l vs→OwOkf G' H' l vs
 | [],vs,_,h=>by simpa only [OwOkf] using h
 | o :: r,vs,k,h=>by
  simp only [OwOkf,owFf] at h k ⊢
  obtain ⟨v,vr,h1,h2,h3⟩:=h
  exact ⟨v,vr,h1,⟨h2.1,OwOk.mono e o.2 v.2 (fun b hb=>k b (List.mem_append_left _ hb)) h2.2⟩,OwOkf.mono e r vr (fun b hb=>k b (List.mem_append_right _ hb)) h3⟩
end
def Fine (H:Hp) (b:Addr):Prop := ∃ o,H b=some o∧∀ ob u,o ≠ .frz ob u
mutual
theorem OwOk.there:∀ (o:Ow) (v:V),OwOk G H o v→∀ b∈o.fp,Fine H b
 | .tr d,v,_,b,hb=>by simp only [Ow.fp] at hb; cases hb
 | .ol a l,v,h,b,hb=>by
  simp only [OwOk,Ow.fp] at h hb
  obtain ⟨h1,vs,h2,h3⟩:=h
  rcases List.mem_cons.mp hb with rfl | hb
  ·exact ⟨_,h2,fun _ _ z=>nomatch z⟩
  ·exact OwOks.there l vs h3 b hb
 | .od a l,v,h,b,hb=>by
  simp only [OwOk,Ow.fp] at h hb
  obtain ⟨h1,vs,h2,h3⟩:=h
  rcases List.mem_cons.mp hb with rfl | hb
  ·exact ⟨_,h2,fun _ _ z=>nomatch z⟩
  ·exact OwOkk.there l vs h3 b hb
 | .oi C a dx l,v,h,b,hb=>by
  simp only [OwOk,Ow.fp] at h hb
  obtain ⟨h1,vs,h2,h4,h3⟩:=h
  rcases List.mem_cons.mp hb with rfl | hb
  ·exact ⟨_,h2,fun _ _ z=>nomatch z⟩
  ·rcases List.mem_cons.mp hb with rfl | hb
   ·exact ⟨_,h4,fun _ _ z=>nomatch z⟩
   ·exact OwOkf.there l vs h3 b hb
 | .ot l,v,h,b,hb=>by
  simp only [OwOk,Ow.fp] at h hb
  obtain ⟨a,vs,h1,h2,h3⟩:=h
  exact OwOks.there l vs h3 b hb
theorem OwOks.there:∀ (l:List Ow) (vs:List V),OwOks G H l vs→∀ b∈owFs l,Fine H b
 | [],vs,_,b,hb=>by simp only [owFs] at hb; cases hb
 | o :: r,vs,h,b,hb=>by
  simp only [OwOks,owFs] at h hb
  obtain ⟨v,vr,h1,h2,h3⟩:=h
  rcases List.mem_append.mp hb with hb | hb
  ·exact OwOk.there o v h2 b hb
  ·exact OwOks.there r vr h3 b hb
theorem OwOkk.there:∀ (l:List (Key×Ow)) (vs:List (Key×V)),OwOkk G H l vs→∀ b∈owFk l,Fine H b
 | [],vs,_,b,hb=>by simp only [owFk] at hb; cases hb
 | o :: r,vs,h,b,hb=>by
  simp only [OwOkk,owFk] at h hb
  obtain ⟨v,vr,h1,h2,h3⟩:=h
  rcases List.mem_append.mp hb with hb | hb
  ·exact OwOk.there o.2 v.2 h2.2 b hb
  ·exact OwOkk.there r vr h3 b hb
theorem OwOkf.there:∀ (l:List (Str×Ow)) (vs:List (Str×V)),OwOkf G H l vs→∀ b∈owFf l,Fine H b
 | [],vs,_,b,hb=>by simp only [owFf] at hb; cases hb
 | o :: r,vs,h,b,hb=>by
  simp only [OwOkf,owFf] at h hb
  obtain ⟨v,vr,h1,h2,h3⟩:=h
  rcases List.mem_append.mp hb with hb | hb
  ·exact OwOk.there o.2 v.2 h2.2 b hb
  ·exact OwOkf.there r vr h3 b hb
end
mutual
theorem OwOk.tree (e:SameF G G'):∀ (o:Ow) (v:V),(∀ b∈o.fp,G' b=H b)→OwOk G H o v→IsX G' o.d v
 | .tr d,v,_,h=>by simp only [OwOk,Ow.d] at h ⊢; exact h.toF e
 | .ol a l,v,k,h=>by
  simp only [OwOk,Ow.fp,Ow.d] at h k ⊢
  obtain ⟨h1,vs,h2,h3⟩:=h
  subst h1
  exact IsX.of_lst (by rw [k a List.mem_cons_self]; exact h2) (OwOks.tree e l vs (fun b hb=>k b (List.mem_cons_of_mem _ hb)) h3)
 | .od a l,v,k,h=>by
  simp only [OwOk,Ow.fp,Ow.d] at h k ⊢
  obtain ⟨h1,vs,h2,h3⟩:=h
  subst h1
  exact IsX.of_dic (.inl (by rw [k a List.mem_cons_self]; exact h2)) (OwOkk.tree e l vs (fun b hb=>k b (List.mem_cons_of_mem _ hb)) h3)
 | .oi C a dx l,v,k,h=>by
  simp only [OwOk,Ow.fp,Ow.d] at h k ⊢
  obtain ⟨h1,vs,h2,h4,h3⟩:=h
  subst h1
  exact IsX.of_ins (by rw [k a List.mem_cons_self]; exact h2) (OwOkf.tree e l vs (fun b hb=>k b (List.mem_cons_of_mem _ (List.mem_cons_of_mem _ hb))) h3)
 | .ot l,v,k,h=>by
  simp only [OwOk,Ow.fp,Ow.d] at h k ⊢
  obtain ⟨a,vs,h1,h2,h3⟩:=h
  subst h1
  exact IsX.of_tup (e.tup h2) (OwOks.tree e l vs k h3)
theorem OwOks.tree (e:SameF G G'):∀ (l:List Ow) (vs:List V),(∀ b∈owFs l,G' b=H b)→OwOks G H l vs→All2 (IsX G') (owDs l) vs
 | [],vs,_,h=>by simpa only [OwOks,owDs,All2] using h
 | o :: r,vs,k,h=>by
  simp only [OwOks,owFs,owDs] at h k ⊢
  obtain ⟨v,vr,h1,h2,h3⟩:=h
  exact ⟨v,vr,h1,OwOk.tree e o v (fun b hb=>k b (List.mem_append_left _ hb)) h2,OwOks.tree e r vr (fun b hb=>k b (List.mem_append_right _ hb)) h3⟩
theorem OwOkk.tree (e:SameF G G'):∀ (l:List (Key×Ow)) (vs:List (Key×V)),(∀ b∈owFk l,G' b=H b)→OwOkk G H l vs→All2 (KvX G') (owDk l) vs
 | [],vs,_,h=>by simpa only [OwOkk,owDk,All2] using h
 | o :: r,vs,k,h=>by
  simp only [OwOkk,owFk,owDk] at h k ⊢
  obtain ⟨v,vr,h1,h2,h3⟩:=h
  exact ⟨v,vr,h1,⟨h2.1,OwOk.tree e o.2 v.2 (fun b hb=>k b (List.mem_append_left _ hb)) h2.2⟩,OwOkk.tree e r vr (fun b hb=>k b (List.mem_append_right _ hb)) h3⟩
theorem OwOkf.tree (e:SameF G G'):∀ (l:List (Str×Ow)) (vs:List (Str×V)),(∀ b∈owFf l,G' b=H b)→OwOkf G H l vs→All2 (FvX G') (owDf l) vs
 | [],vs,_,h=>by simpa only [OwOkf,owDf,All2] using h
 | o :: r,vs,k,h=>by
  simp only [OwOkf,owFf,owDf] at h k ⊢
  obtain ⟨v,vr,h1,h2,h3⟩:=h
  exact ⟨v,vr,h1,⟨h2.1,OwOk.tree e o.2 v.2 (fun b hb=>k b (List.mem_append_left _ hb)) h2.2⟩,OwOkf.tree e r vr (fun b hb=>k b (List.mem_append_right _ hb)) h3⟩
end
end
inductive Sv where
 | tr (d:Dx) | ol (l:List Dx) | od (l:List (Key×Dx)) | ow (o:Ow)
def Sv.d:Sv→Dx
 | .tr d=>d
 | .ol l=>.lst l
 | .od l=>.dic l
 | .ow o=>o.d
inductive Sl where
 | un | v (s:Sv) | bw (l:List Dx) | bo (o:Ow) | pn (v:V)
abbrev Rw:=Sl×Option V
def ownA:Rw→List Addr
 | (.v (.ol _),some (.ref a))=>[a]
 | (.v (.od _),some (.ref a))=>[a]
 | (.bw _,some (.ref a))=>[a]
 | (.v (.ow o),_)=>o.fp
 | (.bo o,_)=>o.fp
 | _=>[]
def owns (P:List Rw):List Addr:=P.flatMap ownA
def hid (O:List Addr) (H:Hp):Hp:=fun b=>if b∈O then none else H b
theorem hid_some {O:List Addr} {H:Hp} {b:Addr} {o:HO}:hid O H b=some o↔b∉O∧H b=some o:=by
 unfold hid
 by_cases h:b∈O
 ·rw [if_pos h]; simp [h]
 ·rw [if_neg h]; simp [h]
theorem hid_same {O:List Addr} {H H':Hp} (e:Same H H'):Same (hid O H) (hid O H'):=fun b o h=>hid_some.mpr ⟨(hid_some.mp h).1,e _ _ (hid_some.mp h).2⟩
theorem at_ {O O':List Addr} {H:Hp} (e:∀ a∈O',a∈O):Same (hid O H) (hid O' H):=fun b o h=>hid_some.mpr ⟨fun z=>(hid_some.mp h).1 (e _ z),(hid_some.mp h).2⟩
theorem hid_sub {O:List Addr} {H:Hp}:Same (hid O H) H:=fun b o h=>(hid_some.mp h).2
def nf:Option HO→Option HO
 | some (.frz _ _)=>none
 | o=>o
theorem nf_some {x:Option HO} {o:HO} (h:nf x=some o):x=some o:=by
 unfold nf at h
 split at h
 ·cases h
 ·exact h
theorem ib_ {x y:Option HO} {o:HO} (h:nf x=some o) (e:∀ o,x=some o→y=some o):nf y=some o:=by
 have hx:=nf_some h
 rw [hx] at h
 rw [e o hx]
 exact h
def ext (Hs H0 H:Hp):Hp:=fun b=>match H0 b with | none=>nf (H b) | some _=>Hs b
theorem aw_ {Hs H0 H:Hp} {b:Addr} (h:H0 b=none):ext Hs H0 H b=nf (H b):=by unfold ext; rw [h]
theorem az_ {Hs H0 H:Hp} {b:Addr} {o:HO} (h:H0 b=some o):ext Hs H0 H b=Hs b:=by unfold ext; rw [h]
theorem fw_ {Hs H0 H H':Hp} (e:Same H H'):Same (ext Hs H0 H) (ext Hs H0 H'):=fun b o h=>by
 cases q:H0 b with
 | none=>rw [aw_ q] at h ⊢; exact ib_ h (e b)
 | some u=>rw [az_ q] at h ⊢; exact h
def RowOk (O:List Addr) (G H:Hp):Rw→Prop
 | (.un,_)=>True
 | (.pn w,v)=>v=some w
 | (.v (.tr d),v) => ∃ x,v=some x∧IsX (hid O G) d x
 | (.v (.ol l),v) => ∃ a vs,v=some (.ref a)∧H a=some (.lst vs)∧All2 (IsX (hid O G)) l vs
 | (.v (.od l),v) => ∃ a ws,v=some (.ref a)∧H a=some (.dK ws)∧All2 (KvX (hid O G)) l ws
 | (.bw l,v) => ∃ a vs,v=some (.ref a)∧H a=some (.lst vs)∧All2 (IsX (hid O G)) l vs
 | (.v (.ow o),v) => ∃ x,v=some x∧OwOk (hid O G) H o x
 | (.bo o,v) => ∃ x,v=some x∧OwOk (hid O G) H o x
theorem KvX.toF {H H':Hp} {k:Key×Dx} {w:Key×V} (h:KvX H k w) (e:SameF H H'):KvX H' k w:=⟨h.1,h.2.toF e⟩
theorem KvX.to {H H':Hp} {k:Key×Dx} {w:Key×V} (h:KvX H k w) (e:Same H H'):KvX H' k w:=⟨h.1,h.2.to e⟩
theorem RowOk.mono {O O':List Addr} {G G' H H':Hp} {r:Rw} (h:RowOk O G H r) (e:SameF (hid O G) (hid O' G')) (ho:∀ a∈ownA r,H' a=H a):RowOk O' G' H' r:=by
 match r,h,ho with
 | (.un,_),_,_=>trivial
 | (.pn w,v),h,_=>exact h
 | (.v (.tr d),v),⟨x,h1,h2⟩,_=>exact ⟨x,h1,h2.toF e⟩
 | (.v (.ol l),v),⟨a,vs,h1,h2,h3⟩,ho =>
  subst h1
  exact ⟨a,vs,rfl,by rw [ho a (List.mem_singleton.mpr rfl)]; exact h2,h3.imp fun _ _ z=>z.toF e⟩
 | (.v (.od l),v),⟨a,vs,h1,h2,h3⟩,ho =>
  subst h1
  exact ⟨a,vs,rfl,by rw [ho a (List.mem_singleton.mpr rfl)]; exact h2,h3.imp fun _ _ z=>z.toF e⟩
 | (.bw l,v),⟨a,vs,h1,h2,h3⟩,ho =>
  subst h1
  exact ⟨a,vs,rfl,by rw [ho a (List.mem_singleton.mpr rfl)]; exact h2,h3.imp fun _ _ z=>z.toF e⟩
 | (.v (.ow o),v),⟨x,h1,h2⟩,ho=>exact ⟨x,h1,OwOk.mono e o x ho h2⟩
 | (.bo o,v),⟨x,h1,h2⟩,ho=>exact ⟨x,h1,OwOk.mono e o x ho h2⟩
structure Fm where
 H0:Hp
 Hs:Hp
 B:List Addr
 sub:Same Hs H0
 nb:∀ b∈B,Hs b=none
 ib:∀ b∈B,∃ o,H0 b=some o
abbrev Fm.vis (F:Fm) (H:Hp):Hp:=ext F.Hs F.H0 H
def FrOk (F:Fm) (r:Rw) (a:Addr):Prop:=match r.1 with
 | .bw _=>a∈F.B
 | .bo _=>a∈F.B∨F.H0 a=none
 | _=>F.H0 a=none
theorem FrOk.or {F:Fm} {r:Rw} {a:Addr} (h:FrOk F r a):a∈F.B∨F.H0 a=none:=by
 unfold FrOk at h
 split at h
 ·exact .inl h
 ·exact h
 ·exact .inr h
structure Rep (F:Fm) (P:List Rw) (H:Hp):Prop where
 nd:(owns P).Nodup
 ok:∀ r∈P,RowOk (owns P) (F.vis H) H r
 fr:∀ r∈P,∀ a∈ownA r,FrOk F r a
 kp:∀ b o,F.H0 b=some o→b∉F.B→H b=some o
 lv:∀ b∈F.B,∃ o,H b=some o
section
variable {F:Fm} {P P':List Rw} {H H':Hp} {r r':Rw} {d:Dx} {v:V} {a p:Addr} {l l':List Dx} {vs vs':List V} {k k':List (Key×Dx)} {ws ws':List (Key×V)} {s:Sv} {x:Option V}
theorem av_:owns (r :: P)=ownA r ++ owns P:=by
 unfold owns
 rw [List.flatMap_cons]
theorem ay_:owns (P ++ P')=owns P ++ owns P':=by
 unfold owns
 rw [List.flatMap_append]
theorem aq_ (h:ownA r=[a]):owns (r :: P)=a :: owns P:=by rw [av_,h]; rfl
theorem do_ (h:ownA r=[]):owns (r :: P)=owns P:=by rw [av_,h]; rfl
theorem owns_perm (h:P.Perm P'):(owns P).Perm (owns P'):=h.flatMap_right _
theorem Rep.vis (R:Rep F P H):Same (F.vis H) H:=fun b o h=>by
 cases q:F.H0 b with
 | none=>exact nf_some ((aw_ q).symm.trans h)
 | some u =>
  have h:=(az_ q).symm.trans h
  have:=F.sub _ _ h
  exact R.kp b o this fun z=>by rw [F.nb b z] at h; cases h
theorem Rep.hv (R:Rep F P H) {O:List Addr}:Same (hid O (F.vis H)) H:=fun b o h=>R.vis b o (hid_some.mp h).2
theorem Rep.fresh (R:Rep F P H) (hp:H p=none):F.H0 p=none:=by
 cases q:F.H0 p with
 | none=>rfl
 | some o =>
  by_cases hB:p∈F.B
  ·obtain ⟨u,hu⟩:=R.lv p hB; rw [hp] at hu; cases hu
  ·rw [R.kp p o q hB] at hp; cases hp
theorem Rep.perm (R:Rep F P H) (h:P.Perm P'):Rep F P' H:=by
 have hp:(owns P).Perm (owns P'):=owns_perm h
 exact ⟨hp.nodup_iff.mp R.nd,fun r hr=>(R.ok r (h.mem_iff.mpr hr)).mono (.of (at_ fun a ha=>hp.mem_iff.mpr ha)) fun _ _=>rfl,fun r hr=>R.fr r (h.mem_iff.mpr hr),R.kp,R.lv⟩
theorem Rep.tail (R:Rep F (r :: P) H):Rep F P H:=by
 have hs:∀ a∈owns P,a∈owns (r :: P):=fun a ha=>by rw [av_]; exact List.mem_append_right _ ha
 refine ⟨?_,fun x hx=>(R.ok x (List.mem_cons_of_mem _ hx)).mono (.of (at_ hs)) fun _ _=>rfl,fun x hx=>R.fr x (List.mem_cons_of_mem _ hx),R.kp,R.lv⟩
 have:=R.nd
 rw [av_] at this
 exact (List.nodup_append.mp this).2.1
theorem ck_ (h:r∈P) (e:a∈ownA r):a∈owns P:=List.mem_flatMap.mpr ⟨r,h,e⟩
theorem mem1 {α:Type} {x:α} {l:List α} (h:l=[x]):x∈l:=by rw [h]; exact List.mem_singleton.mpr rfl
theorem eq1 {α:Type} {x y:α} {l:List α} (h:l=[x]) (hy:y∈l):y=x:=by rw [h] at hy; exact List.mem_singleton.mp hy
theorem Rep.own_in (R:Rep F P H) (h:a∈owns P):∃ o,H a=some o:=by
 obtain ⟨⟨sl,v⟩,hr,e⟩:=List.mem_flatMap.mp h
 have t:=R.ok (sl,v) hr
 cases sl with
 | v s =>
  cases s with
  | tr d=>exact absurd (show a∈([]:List Addr) from e) List.not_mem_nil
  | ol l =>
   obtain ⟨c,vs,h1,h2,_⟩:=t
   cases h1
   rw [List.mem_singleton.mp (show a∈[c] from e)]
   exact ⟨_,h2⟩
  | od l =>
   obtain ⟨c,vs,h1,h2,_⟩:=t
   cases h1
   rw [List.mem_singleton.mp (show a∈[c] from e)]
   exact ⟨_,h2⟩
  | ow o =>
   obtain ⟨x,h1,h2⟩:=t
   obtain ⟨u,hu,_⟩:=OwOk.there o x h2 a e
   exact ⟨u,hu⟩
 | bw l =>
  obtain ⟨c,vs,h1,h2,_⟩:=t
  cases h1
  rw [List.mem_singleton.mp (show a∈[c] from e)]
  exact ⟨_,h2⟩
 | bo o =>
  obtain ⟨x,h1,h2⟩:=t
  obtain ⟨u,hu,_⟩:=OwOk.there o x h2 a e
  exact ⟨u,hu⟩
 | un=>exact absurd (show a∈([]:List Addr) from e) List.not_mem_nil
 | pn _=>exact absurd (show a∈([]:List Addr) from e) List.not_mem_nil
theorem Rep.not_own (R:Rep F P H) (hp:H p=none):p∉owns P:=fun z=>by
 obtain ⟨o,ho⟩:=R.own_in z
 rw [hp] at ho
 cases ho
theorem Rep.grow (R:Rep F P H) (e:Same H H'):Rep F P H':=by
 refine ⟨R.nd,fun r hr=>(R.ok r hr).mono (.of (hid_same (fw_ e))) fun a ha => ?_,R.fr,fun b o h1 h2=>e _ _ (R.kp b o h1 h2),fun b hb => ?_⟩
 ·obtain ⟨o,ho⟩:=R.own_in (ck_ hr ha)
  rw [ho,e _ _ ho]
 ·obtain ⟨o,ho⟩:=R.lv b hb
  exact ⟨o,e _ _ ho⟩
theorem Rep.cons0 (R:Rep F P H) (ho:ownA r=[]) (h:RowOk (owns P) (F.vis H) H r):Rep F (r :: P) H:=by
 refine ⟨by rw [do_ ho]; exact R.nd,fun x hx => ?_,fun x hx a ha => ?_,R.kp,R.lv⟩
 ·rw [do_ ho]
  rcases List.mem_cons.mp hx with rfl | hx
  ·exact h
  ·exact R.ok x hx
 ·rcases List.mem_cons.mp hx with rfl | hx
  ·rw [ho] at ha; cases ha
  ·exact R.fr x hx a ha
theorem Rep.add (R:Rep F P H) (h:IsX (hid (owns P) (F.vis H)) d v):Rep F ((.v (.tr d),some v) :: P) H:=R.cons0 rfl ⟨v,rfl,h⟩
theorem Rep.addU (R:Rep F P H):Rep F ((.un,x) :: P) H:=R.cons0 rfl trivial
theorem Rep.head (R:Rep F ((.v s,x) :: P) H):∃ v,x=some v∧IsX (hid (owns P) (F.vis H)) s.d v:=by
 have h:=R.ok _ List.mem_cons_self
 have hs:∀ a∈owns P,a∈owns ((.v s,x) :: P):=fun a ha=>by rw [av_]; exact List.mem_append_right _ ha
 have hn:=R.nd
 have hf:=R.fr _ List.mem_cons_self
 match s,h with
 | .tr d,⟨v,h1,h2⟩=>exact ⟨v,h1,h2.to (at_ hs)⟩
 | .ol l,⟨a,vs,h1,h2,h3⟩ =>
  subst h1
  have q:F.H0 a=none:=hf a (List.mem_singleton.mpr rfl)
  rw [aq_ (a:=a) rfl] at hn
  exact ⟨.ref a,rfl,IsX.of_lst (vs:=vs) (hid_some.mpr ⟨(List.nodup_cons.mp hn).1,(aw_ q).trans (by rw [h2]; rfl)⟩) (h3.imp fun _ _ z=>z.to (at_ hs))⟩
 | .od l,⟨a,vs,h1,h2,h3⟩ =>
  subst h1
  have q:F.H0 a=none:=hf a (List.mem_singleton.mpr rfl)
  rw [aq_ (a:=a) rfl] at hn
  exact ⟨.ref a,rfl,IsX.of_dic (vs:=vs) (.inl (hid_some.mpr ⟨(List.nodup_cons.mp hn).1,(aw_ q).trans (by rw [h2]; rfl)⟩)) (h3.imp fun _ _ z=>z.to (at_ hs))⟩
 | .ow o,⟨v,h1,h2⟩ =>
  refine ⟨v,h1,OwOk.tree (.of (at_ hs)) o v (fun b hb => ?_) h2⟩
  have q:F.H0 b=none:=hf b hb
  obtain ⟨u,hu,hn'⟩:=OwOk.there o v h2 b hb
  rw [av_] at hn
  have hb2:b∉owns P:=fun z=>(List.nodup_append.mp hn).2.2 b hb b z rfl
  rw [hu]
  refine hid_some.mpr ⟨hb2,(aw_ q).trans ?_⟩
  rw [hu]
  unfold nf
  split
  ·rename_i e; cases e; exact absurd rfl (hn' _ _)
  ·rfl
theorem Rep.frz (R:Rep F ((.v s,x) :: P) H):Rep F ((.v (.tr s.d),x) :: P) H:=by
 obtain ⟨v,rfl,h⟩:=R.head
 exact R.tail.add h
theorem im_ {O:List Addr} {Hs H0:Hp} (hp:H p=none) {o:HO} (hq:H0 p=none):Same (hid O (ext Hs H0 H)) (hid (p :: O) (ext Hs H0 (upd H p o))):=fun b u hb=>by
 have hb':=hid_some.mp hb
 have hbp:b≠p:=fun z=>by have:=nf_some ((aw_ hq).symm.trans (z ▸ hb'.2)); rw [hp] at this; cases this
 refine hid_some.mpr ⟨fun z=>(List.mem_cons.mp z).elim hbp hb'.1,?_⟩
 cases q:H0 b with
 | none=>exact (aw_ q).trans ((congrArg nf (ah_ hbp)).trans ((aw_ q).symm.trans hb'.2))
 | some w=>exact (az_ q).trans ((az_ q).symm.trans hb'.2)
theorem Rep.new_own (R:Rep F P H) (hp:H p=none) {o:HO} (hA:ownA (.v s,some (.ref p))=[p]) (h:RowOk (p :: owns P) (F.vis (upd H p o)) (upd H p o) (.v s,some (.ref p))):Rep F ((.v s,some (.ref p)) :: P) (upd H p o):=by
 have hno:=R.not_own hp
 have hq:=R.fresh hp
 refine ⟨by rw [aq_ hA]; exact List.nodup_cons.mpr ⟨hno,R.nd⟩,fun r hr => ?_,fun r hr a ha => ?_,fun b o h1 h2 => ?_,fun b hb => ?_⟩
 ·rw [aq_ hA]
  rcases List.mem_cons.mp hr with rfl | hr
  ·exact h
  ·exact (R.ok r hr).mono (.of (im_ hp hq)) fun a ha=>ah_ fun z=>hno (z ▸ ck_ hr ha)
 ·rcases List.mem_cons.mp hr with rfl | hr
  ·cases eq1 hA ha; exact hq
  ·exact R.fr r hr a ha
 ·have:=R.kp b o h1 h2
  rw [ah_ fun z=>by rw [z,hp] at this; cases this]
  exact this
 ·obtain ⟨u,hu⟩:=R.lv b hb
  exact ⟨u,by rw [ah_ fun z=>by rw [z,hp] at hu; cases hu]; exact hu⟩
theorem Rep.newL (R:Rep F P H) (hp:H p=none) (h:All2 (IsX (hid (owns P) (F.vis H))) l vs):Rep F ((.v (.ol l),some (.ref p)) :: P) (upd H p (.lst vs)) :=
 R.new_own hp rfl ⟨p,vs,rfl,upd_same,h.imp fun _ _ z=>z.to (im_ hp (R.fresh hp))⟩
theorem Rep.newD (R:Rep F P H) (hp:H p=none) (h:All2 (KvX (hid (owns P) (F.vis H))) k ws):Rep F ((.v (.od k),some (.ref p)) :: P) (upd H p (.dK ws)) :=
 R.new_own hp rfl ⟨p,ws,rfl,upd_same,h.imp fun _ _ z=>z.to (im_ hp (R.fresh hp))⟩
theorem Rep.newT (R:Rep F P H) (hp:H p=none) (h:All2 (IsX (hid (owns P) (F.vis H))) l vs):Rep F ((.v (.tr (.tup l)),some (.ref p)) :: P) (upd H p (.tup vs)):=by
 have e:Same H (upd H p (.tup vs)):=gz_ hp _
 exact (R.grow e).add (IsX.of_tup (vs:=vs) (hid_some.mpr ⟨R.not_own hp,(aw_ (R.fresh hp)).trans (by rw [upd_same]; rfl)⟩) (h.imp fun _ _ z=>z.to (hid_same (fw_ e))))
theorem hid_put {O:List Addr} {o:HO} {Hs H0:Hp}:Same (hid (a :: O) (ext Hs H0 H)) (hid (a :: O) (ext Hs H0 (upd H a o))):=fun b u hb=>by
 have hb':=hid_some.mp hb
 have hba:b≠a:=fun z=>hb'.1 (by rw [z]; exact List.mem_cons_self)
 refine hid_some.mpr ⟨hb'.1,?_⟩
 cases q:H0 b with
 | none=>exact (aw_ q).trans ((congrArg nf (ah_ hba)).trans ((aw_ q).symm.trans hb'.2))
 | some w=>exact (az_ q).trans ((az_ q).symm.trans hb'.2)
theorem Rep.put {o:HO} (R:Rep F (r :: P) H) (hA:ownA r=[a]) (hA':ownA r'=[a]) (hF:FrOk F r a→FrOk F r' a) (h:RowOk (a :: owns P) (F.vis (upd H a o)) (upd H a o) r'):Rep F (r' :: P) (upd H a o):=by
 have hn:=R.nd
 rw [aq_ hA] at hn
 have hna:=(List.nodup_cons.mp hn).1
 have R1:=R.ok
 rw [aq_ hA] at R1
 have hfr:=R.fr r List.mem_cons_self a (mem1 hA)
 refine ⟨by rw [aq_ hA']; exact hn,fun x hx => ?_,fun x hx b hb => ?_,fun b u h1 h2 => ?_,fun b hb => ?_⟩
 ·rw [aq_ hA']
  rcases List.mem_cons.mp hx with rfl | hx
  ·exact h
  ·exact (R1 x (List.mem_cons_of_mem _ hx)).mono (.of hid_put) fun b hb=>ah_ fun z=>hna (z ▸ ck_ hx hb)
 ·rcases List.mem_cons.mp hx with rfl | hx
  ·cases eq1 hA' hb; exact hF hfr
  ·exact R.fr x (List.mem_cons_of_mem _ hx) b hb
 ·have hb:=R.kp b u h1 h2
  by_cases z:b=a
  ·subst z
   rcases hfr.or with hfr | hfr
   ·exact absurd hfr h2
   ·rw [hfr] at h1; cases h1
  ·rw [ah_ z]; exact hb
 ·by_cases z:b=a
  ·subst z; exact ⟨o,upd_same⟩
  ·rw [ah_ z]; exact R.lv b hb
theorem Rep.putD (R:Rep F ((.v (.od k),some (.ref a)) :: P) H) (h:All2 (KvX (hid (a :: owns P) (F.vis H))) k' ws'):Rep F ((.v (.od k'),some (.ref a)) :: P) (upd H a (.dK ws')) :=
 R.put (a:=a) rfl rfl id ⟨a,ws',rfl,upd_same,h.imp fun _ _ z=>z.to hid_put⟩
theorem Rep.atL (R:Rep F ((.v (.ol l),x) :: P) H):∃ a vs,x=some (.ref a)∧H a=some (.lst vs)∧All2 (IsX (hid (a :: owns P) (F.vis H))) l vs:=by
 obtain ⟨a,vs,h1,h2,h3⟩:=R.ok _ List.mem_cons_self
 subst h1
 exact ⟨a,vs,rfl,h2,by rw [← aq_ (a:=a) (r:=(.v (.ol l),some (.ref a))) rfl]; exact h3⟩
theorem Rep.atB (R:Rep F ((.bw l,x) :: P) H):∃ a vs,x=some (.ref a)∧H a=some (.lst vs)∧All2 (IsX (hid (a :: owns P) (F.vis H))) l vs:=by
 obtain ⟨a,vs,h1,h2,h3⟩:=R.ok _ List.mem_cons_self
 subst h1
 exact ⟨a,vs,rfl,h2,by rw [← aq_ (a:=a) (r:=(.bw l,some (.ref a))) rfl]; exact h3⟩
theorem Rep.atD (R:Rep F ((.v (.od k),x) :: P) H):∃ a ws,x=some (.ref a)∧H a=some (.dK ws)∧All2 (KvX (hid (a :: owns P) (F.vis H))) k ws:=by
 obtain ⟨a,vs,h1,h2,h3⟩:=R.ok _ List.mem_cons_self
 subst h1
 exact ⟨a,vs,rfl,h2,by rw [← aq_ (a:=a) (r:=(.v (.od k),some (.ref a))) rfl]; exact h3⟩
theorem Rep.atT (R:Rep F ((.v (.tr d),x) :: P) H):∃ v,x=some v∧IsX (hid (owns P) (F.vis H)) d v:=R.head
end
section
variable {ρ:List Sl} {σ:St} {i:Nat} {s s':Sl} {v v':Option V}
theorem zip_at (h1:ρ[i]? = some s) (h2:σ[i]? = some v):(ρ.zip σ)[i]? = some (s,v):=(List.getElem?_zip_eq_some (z:=(s,v))).mpr ⟨h1,h2⟩
theorem pullN {α:Type}:∀ (l:List α) (i:Nat) (h:i < l.length),l.Perm (l[i] :: l.eraseIdx i)
 | x :: l,0,_=>.refl _
 | x :: l,i + 1,h=>((pullN l i (by simpa using h)).cons x).trans (.swap _ _ _)
theorem pull {α:Type} {l:List α} {x:α} {i:Nat} (h:l[i]? = some x):l.Perm (x :: l.eraseIdx i):=by
 obtain ⟨hi,e⟩:=List.getElem?_eq_some_iff.mp h
 subst e
 exact pullN l i hi
theorem de_ (h1:ρ[i]? = some s) (h2:σ[i]? = some v):(ρ.zip σ).Perm ((s,v) :: (ρ.zip σ).eraseIdx i):=pull (zip_at h1 h2)
theorem zip_set:∀ {ρ:List Sl} {σ:St} (i:Nat),(ρ.set i s).zip (σ.set i v)=(ρ.zip σ).set i (s,v)
 | [],_,_=>by simp
 | _ :: _,[],_=>by simp
 | a :: ρ,b :: σ,0=>rfl
 | a :: ρ,b :: σ,i + 1=>by simp only [List.set_cons_succ,List.zip_cons_cons]; rw [zip_set i]
theorem zip_put (hl:ρ.length=σ.length) (h:i < ρ.length):((ρ.set i s).zip (σ.set i v)).Perm ((s,v) :: (ρ.zip σ).eraseIdx i):=by
 rw [zip_set]
 have hi:i < (ρ.zip σ).length:=by rw [List.length_zip]; omega
 have:=pull (l:=(ρ.zip σ).set i (s,v)) (x:=(s,v)) (i:=i) (by rw [List.getElem?_set_self hi])
 rwa [List.eraseIdx_set_eq] at this
theorem set_same (h:σ[i]? = some v):σ.set i v=σ:=by
 obtain ⟨hi,e⟩:=List.getElem?_eq_some_iff.mp h
 subst e
 exact List.set_getElem_self hi
theorem cl_ (hl:ρ.length=σ.length) (h:i < ρ.length) (h2:σ[i]? = some v):((ρ.set i s).zip σ).Perm ((s,v) :: (ρ.zip σ).eraseIdx i):=by
 have:=zip_put (s:=s) (v:=v) hl h
 rwa [set_same h2] at this
end
end Lf
namespace L2
open PySem
theorem PE.weak {X:Cx} {e:Expr} {t u:TE} (h:PE X e t) (w:∀ σ H Q,u σ H Q→t σ H Q):PE X e u:=fun pins s σ H Q I q=>h pins s σ H Q I (w σ H Q q)
theorem PT.weak {X:Cx} {e:Expr} {t u:TT} (h:PT X e t) (w:∀ σ H Q,u σ H Q→t σ H Q):PT X e u:=fun pins s σ H Q I q=>h pins s σ H Q I (w σ H Q q)
theorem PW.weak {X:Cx} {e:Expr} {t u:TT} (h:PW X e t) (w:∀ σ H Q,u σ H Q→t σ H Q):PW X e u:=fun wh pins s σ H Q I q=>h wh pins s σ H Q I (w σ H Q q)
theorem PA.weak {X:Cx} {e:List Expr} {t u:TA} (h:PA X e t) (w:∀ σ H Q,u σ H Q→t σ H Q):PA X e u:=fun pos pins s σ H Q I q=>h pos pins s σ H Q I (w σ H Q q)
theorem PE.or {X:Cx} {e:Expr} {t u:TE} (h:PE X e t) (h':PE X e u):PE X e (fun σ H Q=>t σ H Q∨u σ H Q):=fun pins s σ H Q I q=>q.elim (h pins s σ H Q I) (h' pins s σ H Q I)
end L2
namespace Lf
open PySem L2
abbrev En:=List Sl
abbrev XT:=En→(Sv→En→Prop)→Prop
abbrev XC:=En→(Bool→En→Prop)→Prop
abbrev XA:=En→(List Sv→En→Prop)→Prop
structure EOk (F:Fm) (ρ:En) (σ:St) (fr:List Rw) (H:Hp):Prop where
 len:ρ.length=σ.length
 rep:Rep F (ρ.zip σ ++ fr) H
def tX (F:Fm) (t:XT):TE:=fun σ H Q => ∃ ρ fr Qx,EOk F ρ σ fr H∧t ρ Qx∧∀ v s H' ρ',EOk F ρ' σ ((.v s,some v) :: fr) H'→Qx s ρ'→Q v H'
def tXc (F:Fm) (t:XC):TT:=fun σ H Q => ∃ ρ fr Qx,EOk F ρ σ fr H∧t ρ Qx∧∀ b H' ρ',EOk F ρ' σ fr H'→Qx b ρ'→Q b H'
def tmps (ss:List Sv) (vs:List V):List Rw:=(ss.zip vs).map fun p=>(.v p.1,some p.2)
def tXa (F:Fm) (t:XA):TA:=fun σ H Q => ∃ ρ fr Qx,EOk F ρ σ fr H∧t ρ Qx∧∀ vs ss H' ρ',ss.length=vs.length→EOk F ρ' σ (tmps ss vs ++ fr) H'→Qx ss ρ'→Q vs H'
abbrev ExT:=Value→Prop
abbrev noEx:ExT:=fun _=>False
def Kept (F:Fm) (H:Hp):Prop := ∀ b o,F.H0 b=some o→b∉F.B→H b=some o
def Air (nw:Addr→Prop) (h':Heap) (H:Hp) (ea:Addr) (cls:Value):Prop:=nw ea∧H ea=none∧∃ oe vs,h'.get? ea=some oe∧oe.cls=cls∧oe.data=.fields vs∧oe.dict=none∧1 < vs.size ∧
 (vs[1]? = some .none∨∃ T oT ts,vs[1]? = some (.ref T)∧T≠ea∧nw T∧H T=none∧h'.get? T=some oT∧oT.data=.fields ts∧3 < ts.size)
abbrev NwX (X:Cx) (pins:PN_):Addr→Prop:=fun b=>(X.s₀.heap.get? b=none∨b∈X.ex)∧∀ p∈X.pn ++ pins,p.1≠b
class OkF (X:Cx) (Ex:ExT) (F:Fm):Prop where
 pass1:∀ (pins:PN_) (σ:St) (H:Hp) (s':Shared) (ea:Addr) (cls:Value),Inv X pins σ H s'→Air (NwX X pins) s'.heap H ea cls→Ex cls→Kept F H→X.xe (.ref ea) s'
instance {X:Cx} {F:Fm}:OkF X noEx F:=⟨fun _ _ _ _ _ _ _ _ h _=>h.elim⟩
def XE (X:Cx) (Ex:ExT) (e:Expr) (t:XT):Prop := ∀ F,[OkF X Ex F]→PE X e (tX F t)
def XTe (X:Cx) (Ex:ExT) (e:Expr) (t:XC):Prop := ∀ F,[OkF X Ex F]→PT X e (tXc F t)
def XW (X:Cx) (Ex:ExT) (e:Expr) (t:XC):Prop := ∀ F,[OkF X Ex F]→PW X e (tXc F t)
def XAs (X:Cx) (Ex:ExT) (es:List Expr) (t:XA):Prop := ∀ F,[OkF X Ex F]→PA X es (tXa F t)
section
variable {F:Fm} {ρ ρ':En} {σ:St} {fr P:List Rw} {H H':Hp} {s:Sv} {v x y:V} {a b:Dx}
theorem mid {α:Type} {x:α} {A B:List α}:(A ++ x :: B).Perm (x :: (A ++ B)):=List.perm_middle
theorem EOk.front {r:Rw} (E:EOk F ρ σ (r :: fr) H):Rep F (r :: (ρ.zip σ ++ fr)) H:=E.rep.perm mid
theorem EOk.back {r:Rw} (hl:ρ.length=σ.length) (R:Rep F (r :: (ρ.zip σ ++ fr)) H):EOk F ρ σ (r :: fr) H:=⟨hl,R.perm mid.symm⟩
theorem EOk.drop {r:Rw} (E:EOk F ρ σ (r :: fr) H):EOk F ρ σ fr H:=⟨E.len,E.front.tail⟩
theorem EOk.one (E:EOk F ρ σ ((.v s,some v) :: fr) H):Rep F (ρ.zip σ ++ fr) H∧IsX (hid (owns (ρ.zip σ ++ fr)) (F.vis H)) s.d v:=by
 obtain ⟨v',e,h⟩:=E.front.head
 cases e
 exact ⟨E.front.tail,h⟩
theorem EOk.two {s1 s2:Sv} {v1 v2:V} (E:EOk F ρ σ ((.v s2,some v2) :: (.v s1,some v1) :: fr) H) :
  Rep F (ρ.zip σ ++ fr) H∧IsX (hid (owns (ρ.zip σ ++ fr)) (F.vis H)) s1.d v1∧IsX (hid (owns (ρ.zip σ ++ fr)) (F.vis H)) s2.d v2:=by
 obtain ⟨R1,h1⟩:=E.drop.one
 obtain ⟨R2,h2⟩:=E.one
 refine ⟨R1,h1,h2.to (at_ fun c hc => ?_)⟩
 have:(owns ((.v s1,some v1) :: (ρ.zip σ ++ fr))).Perm (owns (ρ.zip σ ++ (.v s1,some v1) :: fr)):=mid.symm.flatMap_right _
 refine this.mem_iff.mp ?_
 rw [av_]
 exact List.mem_append_right _ hc
end
def xVar (i:Nat):XT:=fun ρ Q=>match ρ[i]? with
 | some (.v s)=>Q (.tr s.d) (ρ.set i (.v (.tr s.d)))
 | _=>False
def xMove (i:Nat):XT:=fun ρ Q=>match ρ[i]? with
 | some (.v s)=>Q s (ρ.set i .un)
 | _=>False
theorem get_zip {ρ:En} {σ:St} {i:Nat} {s:Sl} (hl:ρ.length=σ.length) (h:ρ[i]? = some s):∃ v,σ[i]? = some v:=by
 have:=(List.getElem?_eq_some_iff.mp h).1
 exact ⟨_,List.getElem?_eq_getElem (by omega)⟩
section
variable {X:Cx} {Ex:ExT} {i:Nat} {x:Str} {pos:Pos}
theorem by_ {F:Fm} {ρ:En} {σ:St} {fr:List Rw} {H:Hp} {s:Sl} (E:EOk F ρ σ fr H) (h:ρ[i]? = some s):∃ v,σ[i]? = some v∧i < ρ.length∧Rep F ((s,v) :: ((ρ.zip σ).eraseIdx i ++ fr)) H:=by
 obtain ⟨v,hv⟩:=get_zip E.len h
 exact ⟨v,hv,(List.getElem?_eq_some_iff.mp h).1,E.rep.perm ((de_ h hv).append_right fr)⟩
theorem eok_put {F:Fm} {ρ:En} {σ:St} {fr:List Rw} {H:Hp} {s:Sl} {v:Option V} (hl:ρ.length=σ.length) (hi:i < ρ.length) (hv:σ[i]? = some v) (R:Rep F ((s,v) :: ((ρ.zip σ).eraseIdx i ++ fr)) H):EOk F (ρ.set i s) σ fr H :=
 ⟨by rw [List.length_set]; exact hl,R.perm ((cl_ hl hi hv).append_right fr).symm⟩
theorem ab_ (h:PE X (.Name x pos) (tVar i)):XE X Ex (.Name x pos) (xVar i):=fun F=>h.weak fun σ H Q=>by
 rintro ⟨ρ,fr,Qx,E,t,k⟩
 unfold xVar at t
 split at t
 ·rename_i s hs
  obtain ⟨v,hv,hi,R⟩:=by_ E hs
  obtain ⟨w,rfl,hx⟩:=R.head
  refine ⟨w,hv,k w _ H _ ?_ t⟩
  have R2:=R.frz
  have R3:Rep F ((.v (.tr s.d),some w) :: (.v (.tr s.d),some w) :: ((ρ.zip σ).eraseIdx i ++ fr)) H:=R2.add hx
  exact EOk.back (by rw [List.length_set]; exact E.len) (R3.perm (((cl_ E.len hi hv).append_right fr).symm.cons _))
 ·exact t.elim
theorem ch_ (h:PE X (.Name x pos) (tVar i)):XE X Ex (.Name x pos) (xMove i):=fun F=>h.weak fun σ H Q=>by
 rintro ⟨ρ,fr,Qx,E,t,k⟩
 unfold xMove at t
 split at t
 ·rename_i s hs
  obtain ⟨v,hv,hi,R⟩:=by_ E hs
  obtain ⟨w,rfl,hx⟩:=R.head
  refine ⟨w,hv,k w _ H _ ?_ t⟩
  have R3:Rep F ((.v s,some w) :: (.un,some w) :: ((ρ.zip σ).eraseIdx i ++ fr)) H:=(R.addU (x:=some w)).perm (.swap _ _ _)
  exact EOk.back (by rw [List.length_set]; exact E.len) (R3.perm (((cl_ E.len hi hv).append_right fr).symm.cons _))
 ·exact t.elim
end
def xC (d:Dx):XT:=fun ρ Q=>Q (.tr d) ρ
theorem xe_c {X:Cx} {Ex:ExT} {e:Expr} {v:V} (h:PE X e (tC v)) (d:Dx) (hd:∀ H,IsX H d v):XE X Ex e (xC d):=fun F=>h.weak fun σ H Q=>by
 rintro ⟨ρ,fr,Qx,E,t,k⟩
 exact k v _ H ρ (EOk.back E.len (E.rep.add (hd _))) t
section
variable {X:Cx} {Ex:ExT}
theorem ac_ {i j pos}:XE X Ex (.Constant (.int i) j pos) (xC (.int i)):=xe_c ep_ _ fun _=>IsX.of_int _
theorem xe_bl {b j pos}:XE X Ex (.Constant (.bool b) j pos) (xC (.bl b)):=xe_c pe_bl _ fun _=>IsX.of_bl _
theorem bt_ {x j pos}:XE X Ex (.Constant (.str x) j pos) (xC (.str x)):=xe_c pe_str _ fun _=>IsX.of_str _
end
abbrev G2:=Dx→Dx→(Sv→Prop)→Prop
def OpX (r:R2) (g:G2):Prop := ∀ (F:Fm) (P:List Rw) (H:Hp) (a b:Dx) (x y:V) (Q:VK) (Qx:Sv→Prop),Rep F P H→IsX (hid (owns P) (F.vis H)) a x→IsX (hid (owns P) (F.vis H)) b y→g a b Qx →
 (∀ v s H',Rep F ((.v s,some v) :: P) H'→Qx s→Q v H')→r x y H Q
def xOp (g:G2) (ta tb:XT):XT:=fun ρ Q=>ta ρ fun a ρ1=>tb ρ1 fun b ρ2=>g a.d b.d fun s=>Q s ρ2
theorem tOp_x {F:Fm} {r:R2} {g:G2} {ta tb:XT} (hx:OpX r g):∀ σ H Q,tX F (xOp g ta tb) σ H Q→tOp r (tX F ta) (tX F tb) σ H Q:=by
 rintro σ H Q ⟨ρ,fr,Qx,E,t,k⟩
 refine ⟨ρ,fr,_,E,t,fun v s H' ρ' E' t' => ?_⟩
 refine ⟨ρ',_,_,E',t',fun w s2 H2 ρ2 E2 t2 => ?_⟩
 obtain ⟨R,h1,h2⟩:=E2.two
 exact hx F _ H2 s.d s2.d v w Q (fun z=>Qx z ρ2) R h1 h2 t2 fun v' s' H' R' q=>k v' s' H' ρ2 (EOk.back E2.len R') q
def xB (t:XT):XC:=fun ρ Q=>t ρ fun s ρ'=>match s with
 | .tr (.bl b)=>Q b ρ'
 | _=>False
theorem ht_ {F:Fm} {t:TE} {u:XT} (h:∀ σ H Q,tX F u σ H Q→t σ H Q):∀ σ H Q,tXc F (xB u) σ H Q→tTest t σ H Q:=by
 rintro σ H Q ⟨ρ,fr,Qx,E,t,k⟩
 refine h _ _ _ ⟨ρ,fr,_,E,t,fun v s H' ρ' E' q => ?_⟩
 split at q
 ·rename_i b
  obtain ⟨_,hx⟩:=E'.one
  cases hx.bl_eq
  exact ⟨b,rfl,k b H' ρ' E'.drop q⟩
 ·exact q.elim
section
variable {X:Cx} {Ex:ExT} {a b c e:Expr} {pos:Pos} {r r':R2} {g g':G2} {ta tb tc:XT}
theorem xe_op {op:Operator} (ho:OpR X (binaryOp op) r) (hx:OpX r g) (ha:XE X Ex a ta) (hb:XE X Ex b tb):XE X Ex (.BinOp a op b pos) (xOp g ta tb):=fun F=>(pe_op ho (ha F) (hb F)).weak (tOp_x hx)
theorem ho_ {op:CmpOp} (ho:OpR X (compareOp op) r) (hx:OpX r g) (ha:XE X Ex a ta) (hb:XE X Ex b tb) (hm:behindInMarks op b=false):XE X Ex (.Compare a [op] [b] pos) (xOp g ta tb):=fun F=>(pe_cmpR ho (ha F) (hb F) hm).weak (tOp_x hx)
theorem bc_ {op:CmpOp} (ho:OpR X (compareOp op) r) (hx:OpX r g) (ha:XE X Ex a ta) (hb:XE X Ex b tb) (hm:behindInMarks op b=false):XTe X Ex (.Compare a [op] [b] pos) (xB (xOp g ta tb)):=fun F=>(pt_cmpR ho (ha F) (hb F) hm).weak (ht_ (tOp_x hx))
theorem dk_ {t:XT} (h:XE X Ex e t) (he:∀ whole,isTrue e X.env whole=(do let v ← whole; standAt e.pos; holding [v] (truthy v)):=by intro _; rfl):XTe X Ex e (xB t):=fun F=>(pt_val (h F) he).weak (ht_ fun _ _ _ z=>z)
def xAnd (t u:XC):XC:=fun ρ Q=>t ρ fun c ρ1=>if c=true then u ρ1 Q else Q false ρ1
def xOr (t u:XC):XC:=fun ρ Q=>t ρ fun c ρ1=>if c=true then Q true ρ1 else u ρ1 Q
def xNot (t:XC):XC:=fun ρ Q=>t ρ fun c ρ1=>Q (!c) ρ1
theorem xw_and1 {t:XC} (h:XTe X Ex a t):XW X Ex (.BoolOp .And [a] pos) t:=fun F=>pw_and1 (h F)
theorem xw_or1 {t:XC} (h:XTe X Ex a t):XW X Ex (.BoolOp .Or [a] pos) t:=fun F=>pw_or1 (h F)
theorem xw_and {t u:XC} {rest:List Expr} (h:XTe X Ex a t) (h':XW X Ex (.BoolOp .And (b :: rest) pos) u):XW X Ex (.BoolOp .And (a :: b :: rest) pos) (xAnd t u):=fun F=>(pw_and (h F) (h' F)).weak fun σ H Q=>by
 rintro ⟨ρ,fr,Qx,E,t,k⟩
 refine ⟨ρ,fr,_,E,t,fun c H' ρ' E' q => ?_⟩
 cases c with
 | true=>exact ⟨ρ',fr,Qx,E',q,k⟩
 | false=>exact k false H' ρ' E' q
theorem xw_or {t u:XC} {rest:List Expr} (h:XTe X Ex a t) (h':XW X Ex (.BoolOp .Or (b :: rest) pos) u):XW X Ex (.BoolOp .Or (a :: b :: rest) pos) (xOr t u):=fun F=>(pw_or (h F) (h' F)).weak fun σ H Q=>by
 rintro ⟨ρ,fr,Qx,E,t,k⟩
 refine ⟨ρ,fr,_,E,t,fun c H' ρ' E' q => ?_⟩
 cases c with
 | true=>exact k true H' ρ' E' q
 | false=>exact ⟨ρ',fr,Qx,E',q,k⟩
theorem go_ {t:XC} (h:XTe X Ex a t):XTe X Ex (.UnaryOp .Not a pos) (xNot t):=fun F=>(pt_not (h F)).weak fun σ H Q=>by
 rintro ⟨ρ,fr,Qx,E,t,k⟩
 exact ⟨ρ,fr,_,E,t,fun c H' ρ' E' q=>k (!c) H' ρ' E' q⟩
theorem XW.pt {t:XC} (h:XW X Ex e t):XTe X Ex e t:=fun F=>(h F).pt
def xAndV (t u:XT):XT:=fun ρ Q=>xB t ρ fun c ρ1=>if c=true then u ρ1 Q else Q (.tr (.bl false)) ρ1
def xNotV (t:XT):XT:=fun ρ Q=>xB t ρ fun c ρ1=>Q (.tr (.bl (!c))) ρ1
theorem xe_one {op} {t:XT} (h:XE X Ex a t):XE X Ex (.BoolOp op [a] pos) t:=fun F=>pe_one (h F)
theorem xe_and {t u:XT} {rest:List Expr} (h:XE X Ex a t) (h':XE X Ex (.BoolOp .And (b :: rest) pos) u):XE X Ex (.BoolOp .And (a :: b :: rest) pos) (xAndV t u):=fun F=>(pe_and (h F) (h' F)).weak fun σ H Q=>by
 rintro ⟨ρ,fr,Qx,E,t,k⟩
 refine ⟨ρ,fr,_,E,t,fun v s H' ρ' E' q => ?_⟩
 split at q
 ·rename_i c
  obtain ⟨_,hx⟩:=E'.one
  cases hx.bl_eq
  refine ⟨c,rfl,?_⟩
  cases c with
  | true=>exact ⟨ρ',fr,Qx,E'.drop,q,k⟩
  | false=>exact k _ _ H' ρ' (EOk.back E'.len (E'.drop.rep.add (IsX.of_bl _))) q
 ·exact q.elim
theorem xe_not {t:XT} (h:XE X Ex a t):XE X Ex (.UnaryOp .Not a pos) (xNotV t):=fun F=>(pe_not (h F)).weak fun σ H Q=>by
 rintro ⟨ρ,fr,Qx,E,t,k⟩
 refine ⟨ρ,fr,_,E,t,fun v s H' ρ' E' q => ?_⟩
 split at q
 ·rename_i c
  obtain ⟨_,hx⟩:=E'.one
  cases hx.bl_eq
  exact ⟨c,rfl,k _ _ H' ρ' (EOk.back E'.len (E'.drop.rep.add (IsX.of_bl _))) q⟩
 ·exact q.elim
end
def xNil:XA:=fun ρ Q=>Q [] ρ
def xCons (t:XT) (u:XA):XA:=fun ρ Q=>t ρ fun s ρ1=>u ρ1 fun ss ρ2=>Q (s :: ss) ρ2
section
variable {X:Cx} {Ex:ExT} {e:Expr} {es:List Expr} {t:XT} {u:XA} {pos:Pos}
theorem ad_:XAs X Ex [] xNil:=fun F=>(cb_ (X:=X)).weak fun σ H Q=>by
 rintro ⟨ρ,fr,Qx,E,t,k⟩
 exact k [] [] H ρ rfl E t
theorem aa_ (h:XE X Ex e t) (h':XAs X Ex es u) (he:starEach (e :: es) X.env=(false,eval e X.env) :: starEach es X.env:=by rfl):XAs X Ex (e :: es) (xCons t u):=fun F=>(as_ (h F) (h' F) he).weak fun σ H Q=>by
 rintro ⟨ρ,fr,Qx,E,t,k⟩
 refine ⟨ρ,fr,_,E,t,fun v s H' ρ' E' q=>⟨ρ',_,_,E',q,fun vs ss H2 ρ2 hl E2 q2 => ?_⟩⟩
 refine k (v :: vs) (s :: ss) H2 ρ2 (by rw [List.length_cons,List.length_cons,hl]) ⟨E2.len,E2.rep.perm ?_⟩ q2
 exact List.Perm.append_left _ List.perm_middle
theorem EOk.many {F:Fm} {ρ:En} {σ:St} {fr:List Rw} {H:Hp}:∀ {ss:List Sv} {vs:List V},ss.length=vs.length→EOk F ρ σ (tmps ss vs ++ fr) H→Rep F (ρ.zip σ ++ fr) H∧All2 (IsX (hid (owns (ρ.zip σ ++ fr)) (F.vis H))) (ss.map Sv.d) vs
 | [],[],_,E=>⟨E.rep,rfl⟩
 | [],_ :: _,h,_=>by simp at h
 | _ :: _,[],h,_=>by simp at h
 | s :: ss,v :: vs,h,E=>by
  have E':EOk F ρ σ ((.v s,some v) :: (tmps ss vs ++ fr)) H:=E
  obtain ⟨R,hs⟩:=EOk.many (ss:=ss) (vs:=vs) (by simpa using h) E'.drop
  obtain ⟨_,hx⟩:=E'.one
  refine ⟨R,v,vs,rfl,hx.to (at_ fun c hc => ?_),hs⟩
  have:owns (ρ.zip σ ++ (tmps ss vs ++ fr))=owns (ρ.zip σ) ++ (owns (tmps ss vs) ++ owns fr):=by unfold owns; rw [List.flatMap_append,List.flatMap_append]
  rw [this]
  have h2:owns (ρ.zip σ ++ fr)=owns (ρ.zip σ) ++ owns fr:=by unfold owns; rw [List.flatMap_append]
  rw [h2] at hc
  rcases List.mem_append.mp hc with hc | hc
  ·exact List.mem_append_left _ hc
  ·exact List.mem_append_right _ (List.mem_append_right _ hc)
def xTup (u:XA):XT:=fun ρ Q=>u ρ fun ss ρ'=>ss.length≤1000000∧Q (.tr (.tup (ss.map Sv.d))) ρ'
def xLst (u:XA):XT:=fun ρ Q=>u ρ fun ss ρ'=>ss.length≤1000000∧Q (.ol (ss.map Sv.d)) ρ'
theorem line1:(1000000:Nat) < sizeLine:=by rw [sizeLine_eq]; decide
theorem dq_ {j:Nat} (h:XAs X Ex es u):XE X Ex (.Tuple es j pos) (xTup u):=fun F=>(pe_tup (h F)).weak fun σ H Q=>by
 rintro ⟨ρ,fr,Qx,E,t,k⟩
 refine ⟨ρ,fr,_,E,t,fun vs ss H2 ρ2 hl E2 q2=>⟨by have:=line1; omega,fun p hp => ?_⟩⟩
 obtain ⟨R,hs⟩:=E2.many hl
 exact k _ _ _ ρ2 (EOk.back E2.len (R.newT hp hs)) q2.2
theorem bq_ (h:XAs X Ex es u):XE X Ex (.List es pos) (xLst u):=fun F=>(pe_lst (h F)).weak fun σ H Q=>by
 rintro ⟨ρ,fr,Qx,E,t,k⟩
 refine ⟨ρ,fr,_,E,t,fun vs ss H2 ρ2 hl E2 q2=>⟨by have:=line1; omega,fun p hp => ?_⟩⟩
 obtain ⟨R,hs⟩:=E2.many hl
 exact k _ _ _ ρ2 (EOk.back E2.len (R.newL hp hs)) q2.2
end
def gI (f:Int→Int→Dx):G2
 | .int i,.int j,Q=>Q (.tr (f i j))
 | _,_,_=>False
def gIC (C:Int→Int→Prop) (f:Int→Int→Dx):G2
 | .int i,.int j,Q=>C i j∧Q (.tr (f i j))
 | _,_,_=>False
theorem opx_i {f:Int→Int→V} {fd:Int→Int→Dx} (h:∀ H i j,IsX H (fd i j) (f i j)):OpX (rI0 f) (gI fd):=by
 intro F P H a b x y Q Qx R ha hb g k
 unfold gI at g
 split at g
 ·cases ha.int_eq; cases hb.int_eq
  exact ⟨_,_,rfl,rfl,k _ _ H (R.add (h _ _ _)) g⟩
 ·exact g.elim
theorem opx_ic {C:Int→Int→Prop} {f:Int→Int→V} {fd:Int→Int→Dx} (h:∀ H i j,IsX H (fd i j) (f i j)):OpX (rI C f) (gIC C fd):=by
 intro F P H a b x y Q Qx R ha hb g k
 unfold gIC at g
 split at g
 ·cases ha.int_eq; cases hb.int_eq
  exact ⟨_,_,rfl,rfl,g.1,k _ _ H (R.add (h _ _ _)) g.2⟩
 ·exact g.elim
abbrev subX:G2:=gI fun i j=>.int (i - j)
abbrev fdivX:G2:=gIC CDivB fun i j=>.int (i / j)
abbrev modX:G2:=gIC (fun _ j=>0 < j) fun i j=>.int (i % j)
abbrev powX:G2:=gIC CPow fun i j=>.int (i ^ j.toNat)
abbrev ltX:G2:=gI fun i j=>.bl (decide (i < j))
abbrev leX:G2:=gI fun i j=>.bl (decide (i≤j))
abbrev gtX:G2:=gI fun i j=>.bl (decide (j < i))
abbrev geX:G2:=gI fun i j=>.bl (decide (j≤i))
theorem oi {f:Int→Int→Int}:∀ H i j,IsX H (.int (f i j)) (.int (f i j)):=fun _ _ _=>IsX.of_int _
theorem ob {f:Int→Int→Bool}:∀ H i j,IsX H (.bl (f i j)) (.bl (f i j)):=fun _ _ _=>IsX.of_bl _
def addX:G2
 | .int i,.int j,Q=>Q (.tr (.int (i + j)))
 | .str i,.str j,Q=>i.length + j.length≤1000000∧Q (.tr (.str (i ++ j)))
 | .lst l,.lst m,Q=>l.length + m.length≤1000000∧Q (.ol (l ++ m))
 | _,_,_=>False
def mulX:G2
 | .int i,.int j,Q=>CMulB i j∧Q (.tr (.int (i * j)))
 | .lst l,.int j,Q=>(j≤1000000 ∧ -1000000≤j∧l.length * j.toNat≤1000000)∧Q (.ol (List.replicate j.toNat l).flatten)
 | .str z,.int j,Q=>(z.length≤1000∧0≤j∧j≤1000)∧Q (.tr (.str (Txt.mul z j)))
 | _,_,_=>False
section
variable {X:Cx} {Ex:ExT} {a b e:Expr} {pos:Pos} {ta tb:XT}
theorem be_ (ha:XE X Ex a ta) (hb:XE X Ex b tb):XE X Ex (.BinOp a .Add b pos) (xOp addX ta tb):=xe_op (op_add.or (op_add_str.or op_cat)) (by
 intro F P H a b x y Q Qx R ha hb g k
 unfold addX at g
 split at g
 ·cases ha.int_eq; cases hb.int_eq
  exact .inl ⟨_,_,rfl,rfl,k _ _ H (R.add (IsX.of_int _)) g⟩
 ·cases ha.str_eq; cases hb.str_eq
  exact .inr (.inl ⟨_,_,rfl,rfl,by have:=line1; omega,k _ _ H (R.add (IsX.of_str _)) g.2⟩)
 ·obtain ⟨p,vs,rfl,h1,h2⟩:=ha.lst_eq
  obtain ⟨q,ws,rfl,h3,h4⟩:=hb.lst_eq
  refine .inr (.inr ⟨p,q,vs,ws,rfl,rfl,R.hv _ _ h1,R.hv _ _ h3,by rw [h2.len,h4.len]; have:=line1; omega,fun l hl=>k _ _ _ (R.newL hl (All2.app h4 h2)) g.2⟩)
 ·exact g.elim) ha hb
theorem all2_flat {α β:Type} {g:α→β→Prop} {l:List α} {m:List β} (h:All2 g l m):∀ n,All2 g (List.replicate n l).flatten (List.replicate n m).flatten
 | 0=>rfl
 | n + 1=>by rw [List.replicate_succ,List.replicate_succ,List.flatten_cons,List.flatten_cons]; exact All2.app (all2_flat h n) h
theorem cp_ (ha:XE X Ex a ta) (hb:XE X Ex b tb):XE X Ex (.BinOp a .Mult b pos) (xOp mulX ta tb):=xe_op (op_mulB.or (op_rep.or op_mul_str)) (by
 intro F P H a b x y Q Qx R ha hb g k
 unfold mulX at g
 split at g
 ·cases ha.int_eq; cases hb.int_eq
  exact .inl ⟨_,_,rfl,rfl,g.1,k _ _ H (R.add (IsX.of_int _)) g.2⟩
 ·obtain ⟨p,vs,rfl,h1,h2⟩:=ha.lst_eq
  cases hb.int_eq
  obtain ⟨⟨g1,g2,g3⟩,g4⟩:=g
  refine .inr (.inl ⟨p,_,vs,rfl,rfl,R.hv _ _ h1,by omega,by omega,by rw [h2.len]; have:=line1; omega,fun l hl=>k _ _ _ (R.newL hl (all2_flat h2 _)) g4⟩)
 ·cases ha.str_eq; cases hb.int_eq
  exact .inr (.inr ⟨_,_,rfl,rfl,g.1.1,g.1.2.1,g.1.2.2,k _ _ H (R.add (IsX.of_str _)) g.2⟩)
 ·exact g.elim) ha hb
theorem fe_ (ha:XE X Ex a ta) (hb:XE X Ex b tb):XE X Ex (.BinOp a .Sub b pos) (xOp subX ta tb):=xe_op op_sub (opx_i oi) ha hb
theorem hm_ (ha:XE X Ex a ta) (hb:XE X Ex b tb):XE X Ex (.BinOp a .FloorDiv b pos) (xOp fdivX ta tb):=xe_op op_fdivB (opx_ic oi) ha hb
theorem gp_ (ha:XE X Ex a ta) (hb:XE X Ex b tb):XE X Ex (.BinOp a .Mod b pos) (xOp modX ta tb):=xe_op op_mod (opx_ic oi) ha hb
theorem xe_pow (ha:XE X Ex a ta) (hb:XE X Ex b tb):XE X Ex (.BinOp a .Pow b pos) (xOp powX ta tb):=xe_op op_pow (opx_ic oi) ha hb
end
theorem ox_lt:OpX (rI0 fun i j=>.bl (decide (i < j))) ltX:=opx_i ob
theorem ox_le:OpX (rI0 fun i j=>.bl (decide (i≤j))) leX:=opx_i ob
theorem ox_gt:OpX (rI0 fun i j=>.bl (decide (j < i))) gtX:=opx_i ob
theorem ox_ge:OpX (rI0 fun i j=>.bl (decide (j≤i))) geX:=opx_i ob
def eqS:Dx→Dx→Option Bool
 | .int i,.int j=>some (decide (i=j))
 | .str i,.str j=>some (decide (i=j))
 | .bl i,.bl j=>some (decide (i=j))
 | .non,.non=>some true
 | .non,.int _=>some false | .int _,.non=>some false | .non,.bl _=>some false | .bl _,.non=>some false | .non,.str _=>some false | .str _,.non=>some false
 | .int _,.str _=>some false | .str _,.int _=>some false | .bl _,.str _=>some false | .str _,.bl _=>some false
 | .lst l,.lst []=>some l.isEmpty
 | _,_=>none
def eqX:G2:=fun a b Q=>match eqS a b with
 | some c=>Q (.tr (.bl c))
 | none=>False
def neX:G2:=fun a b Q=>match eqS a b with
 | some c=>Q (.tr (.bl (!c)))
 | none=>False
def scV:Dx→Option V
 | .int i=>some (.int i)
 | .str i=>some (.str i)
 | .bl i=>some (.bl i)
 | .non=>some .non
 | _=>none
theorem scV_is {H:Hp} {d:Dx} {x v:V} (h:IsX H d x) (e:scV d=some v):x=v:=by
 cases d <;> simp only [scV,Option.some.injEq] at e <;> first | (subst e; first | exact h.int_eq | exact h.str_eq | exact h.bl_eq | exact h.non_eq) | cases e
theorem eqS_scal {a b:Dx} {c:Bool} (h:eqS a b=some c):(∃ l,a=.lst l∧b=.lst []∧c=l.isEmpty)∨∃ x y,scV a=some x∧scV b=some y∧scal x y=true∧decide (x=y)=c:=by
 unfold eqS at h
 split at h <;> (try simp only [Option.some.injEq] at h) <;> first
  | (subst h; exact .inr ⟨_,_,rfl,rfl,rfl,by simp⟩)
  | (subst h; exact .inl ⟨_,rfl,rfl,rfl⟩)
  | cases h
section
variable {K:FG_}
def rEqN (K:FG_) (n:Bool):R2:=fun x y H Q => ∃ p b xs,x=.ref p∧y=.ref b∧SqL K H p xs∧SqL K H b []∧Q (.bl (if n then !xs.isEmpty else xs.isEmpty)) H
theorem cr_:OpX (fun x y H Q=>rEq x y H Q∨rEqN K false x y H Q) eqX:=by
 intro F P H a b x y Q Qx R ha hb g k
 unfold eqX at g
 split at g
 ·rename_i c hc
  rcases eqS_scal hc with ⟨l,rfl,rfl,rfl⟩ | ⟨u,w,h1,h2,h3,h4⟩
  ·obtain ⟨p,vs,rfl,q1,q2⟩:=ha.lst_eq
   obtain ⟨p',vs',rfl,q3,q4⟩:=hb.lst_eq
   cases (show vs'=[] from q4)
   refine .inr ⟨p,p',vs,rfl,rfl,SqL.of (R.hv _ _ q1),SqL.of (R.hv _ _ q3),k _ (.tr (.bl l.isEmpty)) H (R.add ?_) g⟩
   have:vs.isEmpty=l.isEmpty:=by
    have:=q2.len
    cases vs <;> cases l <;> simp at this ⊢
   simp only [IsX,this]; rfl
  ·cases scV_is ha h1; cases scV_is hb h2
   exact .inl ⟨h3,k _ _ H (R.add (by rw [h4]; exact IsX.of_bl _)) g⟩
 ·exact g.elim
theorem ox_ne:OpX (fun x y H Q=>rNe x y H Q∨rEqN K true x y H Q) neX:=by
 intro F P H a b x y Q Qx R ha hb g k
 unfold neX at g
 split at g
 ·rename_i c hc
  rcases eqS_scal hc with ⟨l,rfl,rfl,rfl⟩ | ⟨u,w,h1,h2,h3,h4⟩
  ·obtain ⟨p,vs,rfl,q1,q2⟩:=ha.lst_eq
   obtain ⟨p',vs',rfl,q3,q4⟩:=hb.lst_eq
   cases (show vs'=[] from q4)
   refine .inr ⟨p,p',vs,rfl,rfl,SqL.of (R.hv _ _ q1),SqL.of (R.hv _ _ q3),k _ (.tr (.bl (!l.isEmpty))) H (R.add ?_) g⟩
   have:vs.isEmpty=l.isEmpty:=by
    have:=q2.len
    cases vs <;> cases l <;> simp at this ⊢
   simp only [IsX,this]; rfl
  ·cases scV_is ha h1; cases scV_is hb h2
   exact .inl ⟨h3,k _ _ H (R.add (by rw [h4]; exact IsX.of_bl _)) g⟩
 ·exact g.elim
end
section
variable {X:Cx} {Ex:ExT} (K:FG_) (h:X.K=K)
theorem bn_ (hu:X.A.units < cLine) (h:X.K=K:=by rfl):OpR X (compareOp .Eq) (fun x y H Q=>rEq x y H Q∨rEqN K false x y H Q):=by subst h; exact op_eq.or (op_eqNil hu)
theorem op_neA (hu:X.A.units < cLine) (h:X.K=K:=by rfl):OpR X (compareOp .NotEq) (fun x y H Q=>rNe x y H Q∨rEqN K true x y H Q):=by subst h; exact op_ne.or (op_neNil hu)
end
def ixX:G2
 | .lst l,.int i,Q=>(match atI l i with | some d=>Q (.tr d) | none=>False)
 | .tup l,.int i,Q=>(match atI l i with | some d=>Q (.tr d) | none=>False)
 | .str z,.int i,Q=>z.length≤1000000∧(match atI z.cps.toList i with | some c=>Q (.tr (.str ⟨#[c]⟩)) | none=>False)
 | _,_,_=>False
theorem all2_atI {α β:Type} {g:α→β→Prop} {l:List α} {m:List β} {i:Int} {d:α} (h:All2 g l m) (e:atI l i=some d):∃ v,atI m i=some v∧g d v:=by
 unfold atI at e ⊢
 rw [h.len]
 obtain ⟨j,h1,h2⟩:=Option.bind_eq_some_iff.mp e
 obtain ⟨v,h3,h4⟩:=h.at h2
 exact ⟨v,Option.bind_eq_some_iff.mpr ⟨j,h1,h3⟩,h4⟩
theorem ox_ix {K:FG_}:OpX (fun x y H Q=>rIxL K x y H Q∨rIxT K x y H Q∨rIxS x y H Q) ixX:=by
 intro F P H a b x y Q Qx R ha hb g k
 unfold ixX at g
 split at g
 ·obtain ⟨p,vs,rfl,h1,h2⟩:=ha.lst_eq
  cases hb.int_eq
  split at g
  ·rename_i d hd
   obtain ⟨v,h3,h4⟩:=all2_atI h2 hd
   exact .inl ⟨p,vs,_,v,rfl,rfl,SqL.of (R.hv _ _ h1),h3,k _ _ H (R.add h4) g⟩
  ·exact g.elim
 ·obtain ⟨p,vs,rfl,h1,h2⟩:=ha.tup_eq
  cases hb.int_eq
  split at g
  ·rename_i d hd
   obtain ⟨v,h3,h4⟩:=all2_atI h2 hd
   exact .inr (.inl ⟨p,vs,_,v,rfl,rfl,SqT.of (R.hv _ _ h1),h3,k _ _ H (R.add h4) g⟩)
  ·exact g.elim
 ·cases ha.str_eq; cases hb.int_eq
  obtain ⟨g0,g⟩:=g
  split at g
  ·rename_i c hc
   exact .inr (.inr ⟨_,_,c,rfl,rfl,by have:=line1; omega,hc,k _ _ H (R.add (IsX.of_str _)) g⟩)
  ·exact g.elim
 ·exact g.elim
theorem IxR.or {X:Cx} {r r':R2} (h:IxR X r) (h':IxR X r'):IxR X (fun x y H Q=>r x y H Q∨r' x y H Q):=fun a b pins s σ H x y v u Q I rx ry q hs=>q.elim (fun q=>h a b pins s σ H x y v u Q I rx ry q hs) fun q=>h' a b pins s σ H x y v u Q I rx ry q hs
theorem am_ {X:Cx} {Ex:ExT} {a b:Expr} {pos:Pos} {ta tb:XT} (K:FG_) (ha:XE X Ex a ta) (hb:XE X Ex b tb) (hs:PlainIx b) (h:X.K=K:=by rfl):XE X Ex (.Subscript a b pos) (xOp ixX ta tb):=fun F =>
 (pe_ix (IxR.or (ix_listK K h) (IxR.or (ix_tupK K h) ix_str)) (ha F) (hb F) hs).weak (tOp_x ox_ix)
def getK (l:List (Key×Dx)) (k:Key):Option Dx:=(l.find? fun p=>decide (p.1=k)).map (·.2)
theorem getK_val {G:Hp} {k:Key}:∀ {l:List (Key×Dx)} {ws:List (Key×V)},All2 (KvX G) l ws→(getK l k=none∧valV ws k=none)∨∃ d v,getK l k=some d∧valV ws k=some v∧IsX G d v
 | [],_,h=>by rw [show _=[] from h]; exact .inl ⟨rfl,rfl⟩
 | p :: l,_,⟨w,wr,e,⟨h1,h2⟩,h3⟩=>by
  rw [e]
  by_cases hk:p.1=k
  ·refine .inr ⟨p.2,w.2,?_,gx_ (h1 ▸ hk),h2⟩
   unfold getK
   rw [List.find?_cons,decide_eq_true hk]
   rfl
  ·rw [gy_ (h1 ▸ hk)]
   have:getK (p :: l) k=getK l k:=by unfold getK; rw [List.find?_cons,decide_eq_false hk]
   rw [this]
   exact getK_val h3
def keyD:Dx→Option Key
 | .int i=>some (.inl i)
 | .str x=>some (.inr x)
 | _=>none
theorem keyD_is {H:Hp} {d:Dx} {x:V} {k:Key} (h:IsX H d x) (e:keyD d=some k):x=kV k:=by
 cases d <;> simp only [keyD,Option.some.injEq] at e <;> first | (subst e; first | exact h.int_eq | exact h.str_eq) | cases e
def dgX:G2:=fun a b Q=>match a,keyD b with
 | .dic l,some k=>(match getK l k with | some d=>Q (.tr d) | none=>False)
 | _,_=>False
def dinX (neg:Bool):G2:=fun a b Q=>match keyD a,b with
 | some k,.dic l=>Q (.tr (.bl (if neg then !(getK l k).isSome else (getK l k).isSome)))
 | _,_=>False
theorem DGet.rd {H:Hp} {a:Addr} {kvs:List (Key×V)} {k:Key} (e:Rd H a (.dK kvs)):DGet H a (kV k) (valV kvs k):=.inl ⟨kvs,k,e,rfl,rfl⟩
theorem rd_hv {F:Fm} {P:List Rw} {H:Hp} (R:Rep F P H) {O:List Addr} {a:Addr} {u:HO} (h:Rd (hid O (F.vis H)) a u):Rd H a u:=by
 rcases h with h | ⟨o,h⟩
 ·exact .inl (R.hv _ _ h)
 ·exact .inr ⟨o,R.hv _ _ h⟩
theorem ox_dget:OpX (fun x y H Q => ∃ a v,x=.ref a∧DGet H a y (some v)∧Q v H) dgX:=by
 intro F P H a b x y Q Qx R ha hb g k
 unfold dgX at g
 split at g
 ·rename_i l kk hk
  obtain ⟨p,ws,rfl,h1,h2⟩:=ha.dic_eq
  cases keyD_is hb hk
  split at g
  ·rename_i d hd
   rcases getK_val (k:=kk) h2 with ⟨z,_⟩ | ⟨d',v,z1,z2,z3⟩
   ·rw [z] at hd; cases hd
   ·rw [z1] at hd; cases hd
    exact ⟨p,v,rfl,by rw [← z2]; exact DGet.rd (rd_hv R h1),k _ _ H (R.add z3) g⟩
  ·exact g.elim
 ·exact g.elim
theorem ox_din (neg:Bool):OpX (fun y x H Q => ∃ a o,x=.ref a∧DGet H a y o∧Q (.bl (if neg then !o.isSome else o.isSome)) H) (dinX neg):=by
 intro F P H a b x y Q Qx R ha hb g k
 unfold dinX at g
 split at g
 ·rename_i kk l hk
  obtain ⟨p,ws,rfl,h1,h2⟩:=hb.dic_eq
  cases keyD_is ha hk
  refine ⟨p,_,rfl,DGet.rd (k:=kk) (rd_hv R h1),k _ _ H (R.add ?_) g⟩
  rcases getK_val (k:=kk) h2 with ⟨z1,z2⟩ | ⟨d',v,z1,z2,z3⟩
  ·rw [z1,z2]; simp only [IsX]; rfl
  ·rw [z1,z2]; simp only [IsX]; rfl
 ·exact g.elim
section
variable {X:Cx} {Ex:ExT} {a b o i:Expr} {pos:Pos} {ta tb:XT}
theorem hn_ (hu:X.A.units + 1 < cLine) (ha:XE X Ex o ta) (hb:XE X Ex i tb) (hs:NoSl i):XE X Ex (.Subscript o i pos) (xOp dgX ta tb):=fun F=>(pe_dget hu (ha F) (hb F) hs).weak fun σ H Q h=>tOp_x ox_dget σ H Q h
theorem xt_dnotin (hu:X.A.units + 1 < cLine) (ha:XE X Ex i ta) (hb:XE X Ex o tb) (hm:behindInMarks .NotIn o=false):XTe X Ex (.Compare i [.NotIn] [o] pos) (xB (xOp (dinX true) ta tb)):=fun F=>(pt_cmp (pc_dnotin hu (ha F) (hb F)) hm).weak (ht_ (t:=tDNotIn (tX F ta) (tX F tb)) fun σ H Q h=>tOp_x (ox_din true) σ H Q h)
def xDNew:XT:=fun ρ Q=>Q (.od []) ρ
theorem xe_dnew:XE X Ex (.Dict [] [] pos) xDNew:=fun F=>(pe_dnewK (X:=X)).weak fun σ H Q=>by
 rintro ⟨ρ,fr,Qx,E,t,k⟩
 exact fun p hp=>k _ _ _ ρ (EOk.back E.len (E.rep.newD hp All2.nil)) t
end
abbrev GC:=List Dx→(Sv→Prop)→Prop
def CallX (r:List V→Hp→VK→Prop) (g:GC):Prop := ∀ (F:Fm) (P:List Rw) (H:Hp) (ds:List Dx) (xs:List V) (Q:VK) (Qx:Sv→Prop),Rep F P H→All2 (IsX (hid (owns P) (F.vis H))) ds xs→g ds Qx →
 (∀ v s H',Rep F ((.v s,some v) :: P) H'→Qx s→Q v H')→r xs H Q
def xCall (g:GC) (u:XA):XT:=fun ρ Q=>u ρ fun ss ρ'=>g (ss.map Sv.d) fun s=>Q s ρ'
theorem tCB_x {F:Fm} {r:List V→Hp→VK→Prop} {g:GC} {u:XA} (hx:CallX r g):∀ σ H Q,tX F (xCall g u) σ H Q→tCB r (tXa F u) σ H Q:=by
 rintro σ H Q ⟨ρ,fr,Qx,E,t,k⟩
 refine ⟨ρ,fr,_,E,t,fun vs ss H2 ρ2 hl E2 q2 => ?_⟩
 obtain ⟨R,hs⟩:=E2.many hl
 exact hx F _ H2 _ vs Q (fun s=>Qx s ρ2) R hs q2 fun v s H' R' q=>k v s H' ρ2 (EOk.back E2.len R') q
section
variable {X:Cx} {Ex:ExT} {e:Expr} {es:List Expr} {x:Str} {p pos:Pos} {r:List V→Hp→VK→Prop} {g:GC} {u:XA} {id T:String}
theorem bd_ (hc:CallR X (.builtin id) r) (hx:CallX r g) (hg:Gl X x) (hm:X.mg x=none) (hv:bootBuiltins x=some (.builtin id)) (ha:XAs X Ex (e :: es) u) (hn:x ≠ "__name__" := by decide) (hdb:(x == ("__debug__" : Str))=false:=by decide)
  (he:starEach (e :: es) X.env=(false,eval e X.env) :: starEach es X.env:=by rfl) (hpl:(backTo pos (starEach es X.env)).any (·.1)=false:=by rfl):XE X Ex (.Call (.Name x p) (e :: es) [] pos) (xCall g u):=fun F=>(em_ hc hg hm hv (ha F) hn hdb he hpl).weak (tCB_x hx)
theorem hp_ (hc:CallR X (.type T) r) (hx:CallX r g) (hg:Gl X x) (hm:X.mg x=none) (hv:bootBuiltins x=some (.type T)) (ha:XAs X Ex (e :: es) u) (hn:x ≠ "__name__" := by decide) (hdb:(x == ("__debug__" : Str))=false:=by decide)
  (he:starEach (e :: es) X.env=(false,eval e X.env) :: starEach es X.env:=by rfl) (hpl:(backTo pos (starEach es X.env)).any (·.1)=false:=by rfl):XE X Ex (.Call (.Name x p) (e :: es) [] pos) (xCall g u):=fun F=>(fr_ hc hg hm hv (ha F) hn hdb he hpl).weak (tCB_x hx)
end
theorem dd_ {α β:Type} {g:α→β→Prop} {a:α} {xs:List β} (h:All2 g [a] xs):∃ x,xs=[x]∧g a x:=by
 obtain ⟨x,xr,rfl,h1,h2⟩:=h
 cases (show xr=[] from h2)
 exact ⟨x,rfl,h1⟩
theorem all2_2 {α β:Type} {g:α→β→Prop} {a b:α} {xs:List β} (h:All2 g [a,b] xs):∃ x y,xs=[x,y]∧g a x∧g b y:=by
 obtain ⟨x,xr,rfl,h1,h2⟩:=h
 obtain ⟨y,rfl,h3⟩:=dd_ h2
 exact ⟨x,y,rfl,h1,h3⟩
def lenX:GC
 | [.lst l],Q=>Q (.tr (.int l.length))
 | [.tup l],Q=>Q (.tr (.int l.length))
 | [.str z],Q=>z.length≤1000000∧Q (.tr (.int z.length))
 | [.dic l],Q=>Q (.tr (.int l.length))
 | _,_=>False
abbrev rLen (K:FG_):List V→Hp→VK→Prop:=fun xs H Q=>(∃ p ys,xs=[.ref p]∧(SqL K H p ys∨SqT K H p ys)∧Q (.int ys.length) H)∨(∃ z,xs=[.str z]∧z.length≤sizeLine∧Q (.int z.length) H)∨(∃ a kvs,xs=[V.ref a]∧Rd H a (.dK kvs)∧Q (.int kvs.length) H)
theorem bw_ {X:Cx} (K:FG_) (h:X.K=K:=by rfl):CallR X (.builtin "len") (rLen K):=by
 subst h
 refine call_len_seq.or (call_len_str.or ?_)
 intro pins s σ H xs us Q I r h
 obtain ⟨a,kvs,rfl,ha,q⟩:=h
 obtain ⟨u,rfl,ru⟩:=vals1 r
 cases ru
 exact d_len I ha fun t s' I'=>⟨.int kvs.length,H,I',⟨t,rfl⟩,q⟩
theorem eu_ {K:FG_}:CallX (rLen K) lenX:=by
 intro F P H ds xs Q Qx R hs g k
 unfold lenX at g
 split at g
 ·obtain ⟨x,rfl,hx⟩:=dd_ hs
  obtain ⟨a,vs,rfl,h1,h2⟩:=hx.lst_eq
  exact .inl ⟨a,vs,rfl,.inl (SqL.of (R.hv _ _ h1)),k _ _ H (R.add (by rw [h2.len]; exact IsX.of_int _)) g⟩
 ·obtain ⟨x,rfl,hx⟩:=dd_ hs
  obtain ⟨a,vs,rfl,h1,h2⟩:=hx.tup_eq
  exact .inl ⟨a,vs,rfl,.inr (SqT.of (R.hv _ _ h1)),k _ _ H (R.add (by rw [h2.len]; exact IsX.of_int _)) g⟩
 ·obtain ⟨x,rfl,hx⟩:=dd_ hs
  cases hx.str_eq
  exact .inr (.inl ⟨_,rfl,by have:=line1; omega,k _ _ H (R.add (IsX.of_int _)) g.2⟩)
 ·obtain ⟨x,rfl,hx⟩:=dd_ hs
  obtain ⟨a,vs,rfl,h1,h2⟩:=hx.dic_eq
  exact .inr (.inr ⟨a,vs,rfl,rd_hv R h1,k _ _ H (R.add (by rw [h2.len]; exact IsX.of_int _)) g⟩)
 ·exact g.elim
def intX:GC
 | [.int i],Q=>Q (.tr (.int i))
 | [.bl b],Q=>Q (.tr (.int (if b then 1 else 0)))
 | _,_=>False
theorem cx_int:CallX (fun xs H Q=>(∃ i,xs=[.int i]∧Q (.int i) H)∨∃ k,xs=[.bl k]∧Q (.int (if k then 1 else 0)) H) intX:=by
 intro F P H ds xs Q Qx R hs g k
 unfold intX at g
 split at g
 ·obtain ⟨x,rfl,hx⟩:=dd_ hs
  cases hx.int_eq
  exact .inl ⟨_,rfl,k _ _ H (R.add (IsX.of_int _)) g⟩
 ·obtain ⟨x,rfl,hx⟩:=dd_ hs
  cases hx.bl_eq
  exact .inr ⟨_,rfl,k _ _ H (R.add (IsX.of_int _)) g⟩
 ·exact g.elim
def listX:GC
 | [.lst l],Q=>Q (.ol l)
 | [.tup l],Q=>Q (.ol l)
 | _,_=>False
theorem call_listA {X:Cx} (K:FG_) (h:X.K=K:=by rfl):CallR X (.type "list") (fun xs H Q => ∃ p ys,xs=[.ref p]∧(SqL K H p ys∨SqT K H p ys)∧∀ l,H l=none→Q (.ref l) (upd H l (.lst ys))):=by subst h; exact gu_
theorem call_tupleA {X:Cx} (K:FG_) (h:X.K=K:=by rfl):CallR X (.type "tuple") (fun xs H Q => ∃ p ys,xs=[.ref p]∧((SqL K H p ys∧∀ l,H l=none→Q (.ref l) (upd H l (.tup ys)))∨(SqT K H p ys∧Q (.ref p) H))):=by subst h; exact call_tuple_of
theorem cx_list {K:FG_}:CallX (fun xs H Q => ∃ p ys,xs=[.ref p]∧(SqL K H p ys∨SqT K H p ys)∧∀ l,H l=none→Q (.ref l) (upd H l (.lst ys))) listX:=by
 intro F P H ds xs Q Qx R hs g k
 unfold listX at g
 split at g
 ·obtain ⟨x,rfl,hx⟩:=dd_ hs
  obtain ⟨a,vs,rfl,h1,h2⟩:=hx.lst_eq
  exact ⟨a,vs,rfl,.inl (SqL.of (R.hv _ _ h1)),fun l hl=>k _ _ _ (R.newL hl h2) g⟩
 ·obtain ⟨x,rfl,hx⟩:=dd_ hs
  obtain ⟨a,vs,rfl,h1,h2⟩:=hx.tup_eq
  exact ⟨a,vs,rfl,.inr (SqT.of (R.hv _ _ h1)),fun l hl=>k _ _ _ (R.newL hl h2) g⟩
 ·exact g.elim
inductive Ty where
 | bool | int | str | tuple | list | dict
def Ty.nm:Ty→String
 | .bool => "bool" | .int => "int" | .str => "str" | .tuple => "tuple" | .list => "list" | .dict => "dict"
def tyN:Dx→String
 | .non => "NoneType" | .bl _ => "bool" | .int _ => "int" | .str _ => "str" | .tup _ => "tuple" | .lst _ => "list" | .dic _ => "dict" | .scr _ _ => "list" | .ins _ _ => "object" | .exc _ => "object"
def isT:Ty→Dx→Bool
 | .bool,.bl _=>true
 | .int,.int _=>true
 | .int,.bl _=>true
 | .str,.str _=>true
 | .tuple,.tup _=>true
 | .list,.lst _=>true
 | .dict,.dic _=>true
 | .list,.scr _ _=>true
 | _,_=>false
def noScr:Dx→Prop
 | .scr _ _=>False
 | .ins _ _=>False
 | .exc _=>False
 | _=>True
theorem kit_tab {K:FG_} {d:Dx} {n:Ty} (hd:noScr d):PySem.W.kitOne K (.type (tyN d)) (.type n.nm)=some (isT n d):=by
 have h:∀ T∈["NoneType", "bool", "int", "str", "tuple", "list", "dict"],∀ n:Ty,PySem.W.kitOne K (.type T) (.type n.nm)=some (T == n.nm || (n.nm == "int" && T == "bool")):=by
  intro T hT n
  simp only [List.mem_cons,List.not_mem_nil,or_false] at hT
  rcases hT with rfl | rfl | rfl | rfl | rfl | rfl | rfl <;> cases n <;> first
   | exact hf_ _
   | exact ih_ (by decide +kernel) (by decide +kernel) (by decide +kernel)
 rw [h _ (by cases d <;> first | exact hd.elim | simp [tyN]) n]
 cases d <;> cases n <;> first | rfl | exact hd.elim
theorem isinst_rd {X:Cx} {pins:PN_} {σ:St} {H:Hp} {s:Shared} {A:Around} {E:SV_} {Q:SV_} {b:Bool} {c:Value} {d:Dx} {x:V} {u:Value} (I:Inv X pins σ H s) (rx:RelV x u) (hx:IsX H d x) (hd:noScr d) (e:PySem.W.kitOne X.K (.type (tyN d)) c=some b) (h:∀ tk,Q (.bool b) { s with toks:=tk }) :
  wpAny (model X.prog X.w) A (call (.builtin "isinstance") [u,c]) Q E s:=by
 cases d with
 | non=>cases hx.non_eq; exact da_ I rx .non e h
 | bl _=>cases hx.bl_eq; exact da_ I rx (.bl _) e h
 | int _=>cases hx.int_eq; exact da_ I rx (.int _) e h
 | str _=>cases hx.str_eq; exact da_ I rx (.str _) e h
 | tup _=>obtain ⟨a,vs,rfl,h1,_⟩:=hx.tup_eq; exact da_ I rx (.tup h1) e h
 | lst _=>obtain ⟨a,vs,rfl,h1,_⟩:=hx.lst_eq; exact da_ I rx (.lst h1) e h
 | dic _ =>
  obtain ⟨a,vs,rfl,h1,_⟩:=hx.dic_eq
  rcases h1 with h1 | ⟨ob,h1⟩
  ·exact da_ I rx (.dK h1) e h
  ·cases (show u=Value.ref a from rx)
   obtain ⟨_,_,_,_,_,p⟩:=(show ObjOk X.prog X.w H s.heap a (.frz ob (.dK vs)) from I.hok a _ h1)
   obtain ⟨o,es,ep,h1,h2,_⟩:=p
   exact PySem.W.kia_one PySem.W.kitx_dict I.kIn ⟨o,h1,h2.1⟩ e (fun z=>nomatch z) h
 | scr _ _=>exact hd.elim
 | ins _ _=>exact hd.elim
 | exc _=>exact hd.elim
theorem call_isX {X:Cx} (n:Ty):CallR X (.builtin "isinstance") (fun xs H Q => ∃ x d,xs=[x,.ty n.nm]∧IsX H d x∧noScr d∧Q (.bl (isT n d)) H):=by
 intro pins s σ H xs us Q I r h
 obtain ⟨x,d,rfl,hx,hd,q⟩:=h
 obtain ⟨u,w',rfl,r1,r2⟩:=vals2 r
 cases (show w'=Value.type n.nm from r2)
 exact isinst_rd I r1 hx hd (kit_tab hd) (fun tk=>⟨.bl _,H,I.tok _,rfl,q⟩)
def xIs (n:Ty) (t:XT):XT:=fun ρ Q=>t ρ fun s ρ'=>match s.d with
 | .scr _ _=>False
 | .ins _ _=>False
 | .exc _=>False
 | d=>Q (.tr (.bl (isT n d))) ρ'
theorem bm_ {X:Cx} {Ex:ExT} {e:Expr} {t:XT} {nm:Str} {p q pos:Pos} (n:Ty) (hm:X.mg "isinstance" = none) (h:XE X Ex e t) (hT:PE X (.Name nm q) (tC (.ty n.nm))) (hg:Gl X "isinstance" := by rfl)
  (he:starEach [e,.Name nm q] X.env=(false,eval e X.env) :: starEach [.Name nm q] X.env:=by rfl) (he2:starEach [.Name nm q] X.env=(false,eval (.Name nm q) X.env) :: starEach [] X.env:=by rfl) (hpl:(backTo pos (starEach [.Name nm q] X.env)).any (·.1)=false:=by rfl):XE X Ex (.Call (.Name "isinstance" p) [e,.Name nm q] [] pos) (xIs n t):=fun F =>
 (em_ (call_isX n) hg hm ct_ (as_ (h F) (as_ hT cb_ he2) he) (by decide) (by decide) he hpl).weak fun σ H Q=>by
  rintro ⟨ρ,fr,Qx,E,t,k⟩
  refine ⟨ρ,fr,_,E,t,fun v s H' ρ' E' q => ?_⟩
  obtain ⟨R,hx⟩:=E'.one
  generalize hd:s.d=d at q hx
  cases d with
  | scr _ _=>exact q.elim
  | ins _ _=>exact q.elim
  | exc _=>exact q.elim
  | _=>exact ⟨v,_,rfl,hx.to R.hv,trivial,k _ _ H' ρ' (EOk.back E'.len (R.add (IsX.of_bl _))) q⟩
def Cal (P:Program) (w:World) (K:FG_) (mg:MG_) (base:Heap) (j:Nat) (x:Str) (ps:List Str) (sp:Sp):Prop := ∃ f fd,FnOk P w K mg base CX0 j f fd ps sp∧Binds K fd ps []∧PySem.W.keepIn K (.ref f)=true∧mg x=some (.ref f)
theorem gq_ {X:Cx} {j:Nat} {x:Str} {ps:List Str} {sp:Sp} {e:Expr} {es:List Expr} {t:TA} {p pos:Pos} (C:Cal X.prog X.w X.K X.mg X.base j x ps sp) (hr:Room j X.A) (ha:PA X (e :: es) t) (hg:Gl X x:=by rfl) (hdb:(x == ("__debug__" : Str))=false:=by decide)
  (he:starEach (e :: es) X.env=(false,eval e X.env) :: starEach es X.env:=by rfl) (hpl:(backTo pos (starEach es X.env)).any (·.1)=false:=by rfl):PE X (.Call (.Name x p) (e :: es) [] pos) (tCall sp [] E0 t):=by
 obtain ⟨f,fd,G,b,k,m⟩:=C
 exact pe_call G hr hg m k b .nil pass0 ha hdb he hpl
def ResOk (Hs H H':Hp):Sv→V→Prop
 | .tr d,v=>IsX (ext Hs H H') d v
 | .ol l,v => ∃ a vs,v=.ref a∧H a=none∧H' a=some (.lst vs)∧All2 (IsX (hid [a] (ext Hs H H'))) l vs
 | .od l,v => ∃ a ws,v=.ref a∧H a=none∧H' a=some (.dK ws)∧All2 (KvX (hid [a] (ext Hs H H'))) l ws
 | .ow o,v=>o.fp.Nodup∧(∀ a∈o.fp,H a=none)∧OwOk (hid o.fp (ext Hs H H')) H' o v
def spX (g:GC):Sp:=fun vs H Q _ => ∃ Hs ds Qx,Same Hs H∧All2 (IsX Hs) ds vs∧g ds Qx∧∀ s v H',Same H H'→ResOk Hs H H' s v→Qx s→Q v H'
section
variable {F:Fm} {P:List Rw} {H H':Hp} {a:Addr} {s:Sv} {v:V}
theorem ext_hid (R:Rep F P H) (e:Same H H'):Same (ext (hid (owns P) (F.vis H)) H H') (hid (owns P) (F.vis H')):=fun b o hb=>by
 cases q:H b with
 | none =>
  rw [aw_ q] at hb
  exact hid_some.mpr ⟨R.not_own q,(aw_ (R.fresh q)).trans hb⟩
 | some u =>
  rw [az_ q] at hb
  exact hid_same (fw_ e) _ _ hb
theorem Rep.adopt (R:Rep F P H) (e:Same H H') (ha:H a=none) (hA:ownA (.v s,some (.ref a))=[a]) (h:RowOk (a :: owns P) (F.vis H') H' (.v s,some (.ref a))):Rep F ((.v s,some (.ref a)) :: P) H':=by
 have hno:=R.not_own ha
 have hq:=R.fresh ha
 have R':=R.grow e
 refine ⟨by rw [aq_ hA]; exact List.nodup_cons.mpr ⟨hno,R.nd⟩,fun r hr => ?_,fun r hr b hb => ?_,R'.kp,R'.lv⟩
 ·rw [aq_ hA]
  rcases List.mem_cons.mp hr with rfl | hr
  ·exact h
  ·refine (R.ok r hr).mono (.of fun b o hb => ?_) fun b hb => ?_
   ·have hb':=hid_some.mp hb
    have hba:b≠a:=fun z=>by have:=R.vis _ _ hb'.2; rw [z,ha] at this; cases this
    exact hid_some.mpr ⟨fun z=>(List.mem_cons.mp z).elim hba hb'.1,fw_ e _ _ hb'.2⟩
   ·obtain ⟨o,ho⟩:=R.own_in (ck_ hr hb)
    rw [ho,e _ _ ho]
 ·rcases List.mem_cons.mp hr with rfl | hr
  ·cases eq1 hA hb; exact hq
  ·exact R.fr r hr b hb
theorem Rep.adoptW {o:Ow} (R:Rep F P H) (e:Same H H') (hn:o.fp.Nodup) (ha:∀ a∈o.fp,H a=none) (h:OwOk (hid (o.fp ++ owns P) (F.vis H')) H' o v):Rep F ((.v (.ow o),some v) :: P) H':=by
 have R':=R.grow e
 have hO:owns ((.v (.ow o),some v) :: P)=o.fp ++ owns P:=av_
 have hdis:∀ a∈o.fp,a∉owns P:=fun a h1=>R.not_own (ha a h1)
 refine ⟨?_,fun r hr => ?_,fun r hr b hb => ?_,R'.kp,R'.lv⟩
 ·rw [hO]
  exact List.nodup_append.mpr ⟨hn,R.nd,fun a h1 b h2 z=>hdis a h1 (z ▸ h2)⟩
 ·rw [hO]
  rcases List.mem_cons.mp hr with rfl | hr
  ·exact ⟨v,rfl,h⟩
  ·refine (R.ok r hr).mono (.of fun b u hb => ?_) fun b hb => ?_
   ·have hb':=hid_some.mp hb
    refine hid_some.mpr ⟨fun z=>(List.mem_append.mp z).elim (fun z => ?_) hb'.1,fw_ e _ _ hb'.2⟩
    have:=R.vis _ _ hb'.2; rw [ha b z] at this; cases this
   ·obtain ⟨u,hu⟩:=R.own_in (ck_ hr hb)
    rw [hu,e _ _ hu]
 ·rcases List.mem_cons.mp hr with rfl | hr
  ·exact R.fresh (ha b hb)
  ·exact R.fr r hr b hb
theorem ext_hid1 (R:Rep F P H) (e:Same H H') (ha:H a=none):Same (hid [a] (ext (hid (owns P) (F.vis H)) H H')) (hid (a :: owns P) (F.vis H')):=fun b o hb=>by
 have hb':=hid_some.mp hb
 have:=hid_some.mp (ext_hid R e _ _ hb'.2)
 exact hid_some.mpr ⟨fun z=>(List.mem_cons.mp z).elim (fun z=>hb'.1 (by rw [z]; exact List.mem_cons_self)) this.1,this.2⟩
theorem Rep.res (R:Rep F P H) (e:Same H H') (h:ResOk (hid (owns P) (F.vis H)) H H' s v):Rep F ((.v s,some v) :: P) H':=by
 match s,h with
 | .tr d,h=>exact (R.grow e).add (IsX.to h (ext_hid R e))
 | .ol l,⟨a,vs,h1,h2,h3,h4⟩ =>
  subst h1
  exact R.adopt e h2 rfl ⟨a,vs,rfl,h3,h4.imp fun _ _ z=>z.to (ext_hid1 R e h2)⟩
 | .od l,⟨a,vs,h1,h2,h3,h4⟩ =>
  subst h1
  exact R.adopt e h2 rfl ⟨a,vs,rfl,h3,h4.imp fun _ _ z=>z.to (ext_hid1 R e h2)⟩
 | .ow o,⟨h1,h2,h3⟩ =>
  refine R.adoptW e h1 h2 (OwOk.mono (.of fun b u hb => ?_) o v (fun _ _=>rfl) h3)
  have hb':=hid_some.mp hb
  have:=hid_some.mp (ext_hid R e _ _ hb'.2)
  exact hid_some.mpr ⟨fun z=>(List.mem_append.mp z).elim hb'.1 this.1,this.2⟩
end
theorem ai_ {X:Cx} {Ex:ExT} {j:Nat} {x:Str} {ps:List Str} {g:GC} {e:Expr} {es:List Expr} {u:XA} {p pos:Pos} (C:Cal X.prog X.w X.K X.mg X.base j x ps (spX g)) (hr:Room j X.A) (ha:XAs X Ex (e :: es) u) (hg:Gl X x:=by rfl) (hdb:(x == ("__debug__" : Str))=false:=by decide)
  (he:starEach (e :: es) X.env=(false,eval e X.env) :: starEach es X.env:=by rfl) (hpl:(backTo pos (starEach es X.env)).any (·.1)=false:=by rfl):XE X Ex (.Call (.Name x p) (e :: es) [] pos) (xCall g u):=fun F=>(gq_ C hr (ha F) hg hdb he hpl).weak fun σ H Q=>by
 rintro ⟨ρ,fr,Qx,E,t,k⟩
 refine ⟨ρ,fr,_,E,t,fun vs ss H2 ρ2 hl E2 q2 => ?_⟩
 obtain ⟨R,hs⟩:=E2.many hl
 rw [List.append_nil]
 exact ⟨_,_,_,R.hv,hs,q2,fun s v H' e hr q=>k v s H' ρ2 (EOk.back E2.len (R.res e hr)) q⟩
abbrev GB:=List Dx→List Dx→(Dx→List Dx→Prop)→Prop
def spB (g:GB):Sp:=fun vs H Q _ => ∃ p ws l vr Hs ds Qx,vs=.ref p :: vr∧H p=some (.lst ws)∧Same Hs H∧Hs p=none∧All2 (IsX Hs) l ws∧All2 (IsX Hs) ds vr∧g l ds Qx ∧
 ∀ d v l' ws' H',SameX p H H'→H' p=some (.lst ws')→All2 (IsX (hid [p] (ext Hs H H'))) l' ws'→IsX (ext Hs H H') d v→Qx d l'→Q v H'
def lent:Sl→Option (List Dx×(List Dx→Sl))
 | .bw l=>some (l,.bw)
 | .v (.ol l)=>some (l,fun l'=>.v (.ol l'))
 | _=>none
def xCallB (g:GB) (i:Nat) (u:XA):XT:=fun ρ Q=>((ρ[i]?).bind lent).isSome=true∧u ρ fun ss ρ'=>match (ρ'[i]?).bind lent with
 | some (l,f)=>g l (ss.map Sv.d) fun d l'=>Q (.tr d) (ρ'.set i (f l'))
 | none=>False
section
variable {F:Fm} {P:List Rw} {H H':Hp} {a p:Addr} {s:Sv} {v:V} {r r':Rw}
theorem Rep.called (R:Rep F (r :: P) H) (hA:ownA r=[p]) (hA':ownA r'=[p]) (hF:FrOk F r p→FrOk F r' p) (e:SameX p H H') (hp:∃ o,H' p=some o) (h:RowOk (p :: owns P) (F.vis H') H' r'):Rep F (r' :: P) H':=by
 have hn:=R.nd
 rw [aq_ hA] at hn
 have hna:=(List.nodup_cons.mp hn).1
 have R1:=R.ok
 rw [aq_ hA] at R1
 have hfr:=R.fr r List.mem_cons_self p (mem1 hA)
 have ev:Same (hid (p :: owns P) (F.vis H)) (hid (p :: owns P) (F.vis H')):=fun b o hb=>by
  have hb':=hid_some.mp hb
  have hbp:b≠p:=fun z=>hb'.1 (by rw [z]; exact List.mem_cons_self)
  refine hid_some.mpr ⟨hb'.1,?_⟩
  cases q:F.H0 b with
  | none=>exact (aw_ q).trans (ib_ ((aw_ q).symm.trans hb'.2) fun o h=>e.get hbp h)
  | some u=>exact (az_ q).trans ((az_ q).symm.trans hb'.2)
 refine ⟨by rw [aq_ hA']; exact hn,fun x hx => ?_,fun x hx b hb => ?_,fun b u h1 h2 => ?_,fun b hb => ?_⟩
 ·rw [aq_ hA']
  rcases List.mem_cons.mp hx with rfl | hx
  ·exact h
  ·refine (R1 x (List.mem_cons_of_mem _ hx)).mono (.of ev) fun b hb => ?_
   have hbp:b≠p:=fun z=>hna (z ▸ ck_ hx hb)
   obtain ⟨o,ho⟩:=R.own_in (ck_ (List.mem_cons_of_mem _ hx) hb)
   rw [ho,e.get hbp ho]
 ·rcases List.mem_cons.mp hx with rfl | hx
  ·cases eq1 hA' hb; exact hF hfr
  ·exact R.fr x (List.mem_cons_of_mem _ hx) b hb
 ·have hb:=R.kp b u h1 h2
  by_cases z:b=p
  ·subst z
   rcases hfr.or with hfr | hfr
   ·exact absurd hfr h2
   ·rw [hfr] at h1; cases h1
  ·exact e.get z hb
 ·by_cases z:b=p
  ·subst z; exact hp
  ·obtain ⟨o,ho⟩:=R.lv b hb
   exact ⟨o,e.get z ho⟩
theorem ext_called (R:Rep F (r :: P) H) (hA:ownA r=[p]) (e:SameX p H H'):Same (ext (hid (owns (r :: P)) (F.vis H)) H H') (hid (owns (r :: P)) (F.vis H')):=fun b o hb=>by
 have hpo:p∈owns (r :: P):=by rw [aq_ hA]; exact List.mem_cons_self
 cases q:H b with
 | none =>
  rw [aw_ q] at hb
  exact hid_some.mpr ⟨R.not_own q,(aw_ (R.fresh q)).trans hb⟩
 | some u =>
  rw [az_ q] at hb
  have hb':=hid_some.mp hb
  have hbp:b≠p:=fun z=>hb'.1 (by rw [z]; exact hpo)
  refine hid_some.mpr ⟨hb'.1,?_⟩
  cases q:F.H0 b with
  | none=>exact (aw_ q).trans (ib_ ((aw_ q).symm.trans hb'.2) fun o h=>e.get hbp h)
  | some u=>exact (az_ q).trans ((az_ q).symm.trans hb'.2)
end
theorem lent_row {sl:Sl} {x:Option V} {l:List Dx} {f:List Dx→Sl} {F:Fm} {P:List Rw} {H:Hp} (h:lent sl=some (l,f)) (R:Rep F ((sl,x) :: P) H):∃ p ws,x=some (.ref p)∧H p=some (.lst ws)∧ownA (sl,some (.ref p))=[p]∧All2 (IsX (hid (p :: owns P) (F.vis H))) l ws ∧
  ∀ l',ownA (f l',some (.ref p))=[p]∧(FrOk F (sl,some (.ref p)) p→FrOk F (f l',some (.ref p)) p)∧∀ {O:List Addr} {G H':Hp} {ws':List V},H' p=some (.lst ws')→All2 (IsX (hid O G)) l' ws'→RowOk O G H' (f l',some (.ref p)):=by
 match sl,h with
 | .bw l,h =>
  cases h
  obtain ⟨p,ws,h1,h2,h3⟩:=R.atB
  exact ⟨p,ws,h1,h2,rfl,h3,fun l'=>⟨rfl,id,fun a b=>⟨p,_,rfl,a,b⟩⟩⟩
 | .v (.ol l),h =>
  cases h
  obtain ⟨p,ws,h1,h2,h3⟩:=R.atL
  exact ⟨p,ws,h1,h2,rfl,h3,fun l'=>⟨rfl,id,fun a b=>⟨p,_,rfl,a,b⟩⟩⟩
theorem ao_ {X:Cx} {Ex:ExT} {j i:Nat} {x:Str} {ps:List Str} {g:GB} {e:Expr} {es:List Expr} {u:XA} {p pos:Pos} (C:Cal X.prog X.w X.K X.mg X.base j x ps (spB g)) (hr:Room j X.A) (hv:PE X e (tVar i)) (ha:XAs X Ex es u) (hg:Gl X x:=by rfl) (hdb:(x == ("__debug__" : Str))=false:=by decide)
  (he:starEach (e :: es) X.env=(false,eval e X.env) :: starEach es X.env:=by rfl) (hpl:(backTo pos (starEach es X.env)).any (·.1)=false:=by rfl):XE X Ex (.Call (.Name x p) (e :: es) [] pos) (xCallB g i u):=fun F=>(gq_ C hr (as_ hv (ha F) he) hg hdb he hpl).weak fun σ H Q=>by
 rintro ⟨ρ,fr,Qx,E,⟨t0,t⟩,k⟩
 obtain ⟨⟨l0,f0⟩,h0⟩:=Option.isSome_iff_exists.mp t0
 obtain ⟨sl0,h1,h2⟩:=Option.bind_eq_some_iff.mp h0
 obtain ⟨v,hv,hi,R0⟩:=by_ E h1
 obtain ⟨p,_,rfl,_⟩:=lent_row h2 R0
 refine ⟨.ref p,hv,ρ,fr,_,E,t,fun vs ss H2 ρ2 hl E2 q2 => ?_⟩
 obtain ⟨R,hs⟩:=E2.many hl
 split at q2
 ·rename_i l f hb
  obtain ⟨sl,h3,h4⟩:=Option.bind_eq_some_iff.mp hb
  have E3:EOk F ρ2 σ fr H2:=⟨E2.len,R⟩
  obtain ⟨v',hv',hi',R2⟩:=by_ E3 h3
  rw [hv] at hv'
  cases hv'
  obtain ⟨p',ws,ep,h5,h6,h7,h8⟩:=lent_row h4 R2
  cases ep
  rw [List.append_nil]
  have hO:(owns (ρ2.zip σ ++ fr)).Perm (owns ((sl,some (V.ref p)) :: ((ρ2.zip σ).eraseIdx i ++ fr))):=((de_ h3 hv).append_right fr).flatMap_right _
  have hOm:∀ a∈owns ((sl,some (V.ref p)) :: ((ρ2.zip σ).eraseIdx i ++ fr)),a∈owns (ρ2.zip σ ++ fr):=fun a ha=>hO.mem_iff.mpr ha
  refine ⟨p,ws,l,vs,hid (owns ((sl,some (V.ref p)) :: ((ρ2.zip σ).eraseIdx i ++ fr))) (F.vis H2),_,_,rfl,h5,R2.hv,?_,?_,hs.imp fun _ _ z=>z.to (at_ hOm),q2,fun d w l' ws' H' e hp hl' hd q => ?_⟩
  ·unfold hid
   rw [if_pos (by rw [aq_ h6]; exact List.mem_cons_self)]
  ·rw [aq_ h6]
   exact h7
  ·obtain ⟨k1,k2,k3⟩:=h8 l'
   have ev:=ext_called R2 h6 e
   have R3:=R2.called h6 k1 k2 e ⟨_,hp⟩ (k3 hp (hl'.imp fun _ _ z=>z.to fun b o hb=>by
    have hb':=hid_some.mp hb
    have:=ev _ _ hb'.2
    rw [aq_ h6] at this
    exact this))
   refine k w (.tr d) H' _ (EOk.back (by rw [List.length_set]; exact E2.len) ?_) q
   have R4:=R3.add (d:=d) (v:=w) (hd.to fun b o hb=>by
    have:=ev _ _ hb
    rw [aq_ h6] at this
    rw [aq_ k1]
    exact this)
   exact R4.perm (((cl_ E2.len hi' hv).append_right fr).symm.cons _)
 ·exact q2.elim
end Lf
namespace L2
open PySem
theorem PI.weak {X:Cx} {tg e:Expr} {t u:TI} (h:PI X tg e t) (w:∀ σ H Q,u σ H Q→t σ H Q):PI X tg e u:=fun pins s σ H Q I q=>h pins s σ H Q I (w σ H Q q)
theorem PCs.weak {X:Cx} {e:List Expr} {t u:TT} (h:PCs X e t) (w:∀ σ H Q,u σ H Q→t σ H Q):PCs X e u:=fun pins s σ H Q I q=>h pins s σ H Q I (w σ H Q q)
end L2
namespace Lf
open PySem L2
abbrev XI:=En→(List Dx→En→Prop)→Prop
structure ItX (F:Fm) (J:It) (row:List Rw) (ds:List Dx):Prop where
 go:∀ P H i d,Rep F (row ++ P) H→ds[i]? = some d→J.go i H
 stop:∀ P H i,Rep F (row ++ P) H→ds.length≤i→J.stop i H
 yld:∀ P H i d x H',Rep F (row ++ P) H→ds[i]? = some d→J.yld i H x H'→Rep F ((.v (.tr d),some x) :: (row ++ P)) H'
def tXi (F:Fm) (t:XI):TI:=fun σ H R => ∃ ρ fr Qx,EOk F ρ σ fr H∧t ρ Qx∧∀ J H' ρ' row ds,EOk F ρ' σ (row ++ fr) H'→ItX F J row ds→Qx ds ρ'→R J H'
def XIt (X:Cx) (Ex:ExT) (tg iter:Expr) (t:XI):Prop := ∀ F,[OkF X Ex F]→PI X tg iter (tXi F t)
def xiL (t:XT):XI:=fun ρ Q=>t ρ fun s ρ'=>match s.d with
 | .lst l=>Q l ρ'
 | _=>False
def xiT (t:XT):XI:=fun ρ Q=>t ρ fun s ρ'=>match s.d with
 | .tup l=>Q l ρ'
 | _=>False
theorem itx_list {F:Fm} {K:FG_} {a:Addr} {l:List Dx}:ItX F (Itl K a) [(.v (.tr (.lst l)),some (.ref a))] l where
 go:=fun P H i d R hd=>by
  obtain ⟨v,e,h⟩:=R.atT; cases e
  obtain ⟨_,vs,e,h1,h2⟩:=h.lst_eq; cases e
  obtain ⟨x,h3,_⟩:=h2.at hd
  exact ⟨vs,x,SqL.of (R.hv _ _ h1),h3⟩
 stop:=fun P H i R hi=>by
  obtain ⟨v,e,h⟩:=R.atT; cases e
  obtain ⟨_,vs,e,h1,h2⟩:=h.lst_eq; cases e
  exact ⟨vs,SqL.of (R.hv _ _ h1),by rw [h2.len]; exact hi⟩
 yld:=fun P H i d x H' R hd q=>by
  obtain ⟨rfl,q⟩:=q
  obtain ⟨v,e,h⟩:=R.atT; cases e
  obtain ⟨_,vs,e,h1,h2⟩:=h.lst_eq; cases e
  obtain ⟨y,h3,h4⟩:=h2.at hd
  rw [q vs (SqL.of (R.hv _ _ h1))] at h3
  cases h3
  exact R.add h4
theorem itx_tup {F:Fm} {K:FG_} {a:Addr} {l:List Dx}:ItX F (Itt K a) [(.v (.tr (.tup l)),some (.ref a))] l where
 go:=fun P H i d R hd=>by
  obtain ⟨v,e,h⟩:=R.atT; cases e
  obtain ⟨_,vs,e,h1,h2⟩:=h.tup_eq; cases e
  obtain ⟨x,h3,_⟩:=h2.at hd
  exact ⟨vs,x,SqT.of (R.hv _ _ h1),h3⟩
 stop:=fun P H i R hi=>by
  obtain ⟨v,e,h⟩:=R.atT; cases e
  obtain ⟨_,vs,e,h1,h2⟩:=h.tup_eq; cases e
  exact ⟨vs,SqT.of (R.hv _ _ h1),by rw [h2.len]; exact hi⟩
 yld:=fun P H i d x H' R hd q=>by
  obtain ⟨rfl,q⟩:=q
  obtain ⟨v,e,h⟩:=R.atT; cases e
  obtain ⟨_,vs,e,h1,h2⟩:=h.tup_eq; cases e
  obtain ⟨y,h3,h4⟩:=h2.at hd
  rw [q vs (SqT.of (R.hv _ _ h1))] at h3
  cases h3
  exact R.add h4
section
variable {X:Cx} {Ex:ExT} {tg l a b:Expr} {t:XT} {u:XA} {p pos:Pos}
theorem bs_ (h:XE X Ex l t):XIt X Ex tg l (xiL t):=fun F=>(pi_list (h F)).weak fun σ H R=>by
 rintro ⟨ρ,fr,Qx,E,t,k⟩
 refine ⟨ρ,fr,_,E,t,fun v s H' ρ' E' q => ?_⟩
 split at q
 ·rename_i m hm
  have R1:=E'.front.frz
  rw [hm] at R1
  obtain ⟨v',e,h⟩:=R1.atT; cases e
  obtain ⟨c,vs,rfl,h1,h2⟩:=h.lst_eq
  exact ⟨c,rfl,⟨vs,SqL.of (R1.hv _ _ h1)⟩,k _ H' ρ' [(.v (.tr (.lst m)),some (.ref c))] m (EOk.back E'.len R1) itx_list q⟩
 ·exact q.elim
theorem xi_tup (h:XE X Ex l t):XIt X Ex tg l (xiT t):=fun F=>(pi_tup (h F)).weak fun σ H R=>by
 rintro ⟨ρ,fr,Qx,E,t,k⟩
 refine ⟨ρ,fr,_,E,t,fun v s H' ρ' E' q => ?_⟩
 split at q
 ·rename_i m hm
  have R1:=E'.front.frz
  rw [hm] at R1
  obtain ⟨v',e,h⟩:=R1.atT; cases e
  obtain ⟨c,vs,rfl,h1,h2⟩:=h.tup_eq
  exact ⟨c,rfl,⟨vs,SqT.of (R1.hv _ _ h1)⟩,k _ H' ρ' [(.v (.tr (.tup m)),some (.ref c))] m (EOk.back E'.len R1) itx_tup q⟩
 ·exact q.elim
def rngX (lo:Int) (n:Nat):List Dx:=(List.range n).map fun k:Nat=>.int (lo + (k:Int))
theorem rngX_at {lo:Int} {n i:Nat} {d:Dx} (h:(rngX lo n)[i]? = some d):i < n∧d=.int (lo + i):=by
 unfold rngX at h
 rw [List.getElem?_map] at h
 obtain ⟨k,h1,h2⟩:=Option.map_eq_some_iff.mp h
 obtain ⟨h3,h4⟩:=List.getElem?_eq_some_iff.mp h1
 rw [List.getElem_range] at h4
 rw [List.length_range] at h3
 subst h4
 exact ⟨h3,h2.symm⟩
theorem itx_range {F:Fm} {lo:Int} {n:Nat}:ItX F (Itr lo n) [] (rngX lo n) where
 go:=fun P H i d R hd=>(rngX_at hd).1
 stop:=fun P H i R hi=>by unfold rngX at hi; rw [List.length_map,List.length_range] at hi; exact hi
 yld:=fun P H i d x H' R hd q=>by
  obtain ⟨rfl,rfl⟩:=q
  rw [(rngX_at hd).2]
  exact R.add (IsX.of_int _)
def xiR1 (u:XA):XI:=fun ρ Q=>u ρ fun ss ρ'=>match ss.map Sv.d with
 | [.int j]=>(-(2 ^ 62)≤j∧j < 2 ^ 62)∧Q (rngX 0 j.toNat) ρ'
 | _=>False
theorem cc_ (hm:X.mg "range" = none) (ha:XAs X Ex [a] u) (hg:Gl X "range" := by rfl) (hs:starEach [a] X.env=[(false,eval a X.env)]:=by rfl):XIt X Ex tg (.Call (.Name "range" p) [a] [] pos) (xiR1 u):=fun F=>(pi_range1 hg hm (ha F) hs).weak fun σ H R=>by
 rintro ⟨ρ,fr,Qx,E,t,k⟩
 refine ⟨ρ,fr,_,E,t,fun vs ss H2 ρ2 hl E2 q => ?_⟩
 obtain ⟨R,hs⟩:=E2.many hl
 split at q
 ·rename_i j hj
  rw [hj] at hs
  obtain ⟨x,rfl,hx⟩:=dd_ hs
  cases hx.int_eq
  exact ⟨j,rfl,q.1.1,q.1.2,k _ H2 ρ2 [] _ ⟨E2.len,R⟩ itx_range q.2⟩
 ·exact q.elim
def zipX (l m:List Dx):List Dx:=List.zipWith (fun a b=>.tup [a,b]) l m
def xiZ (u:XA):XI:=fun ρ Q=>u ρ fun ss ρ'=>match ss.map Sv.d with
 | [.lst l,.lst m]=>Q (zipX l m) ρ'
 | _=>False
def enuX (l:List Dx):List Dx:=zipX (rngX 0 l.length) l
def xiE (u:XA):XI:=fun ρ Q=>u ρ fun ss ρ'=>match ss.map Sv.d with
 | [.lst l]=>Q (enuX l) ρ'
 | _=>False
theorem gc_ {l m:List Dx} {i:Nat} {d:Dx} (h:(zipX l m)[i]? = some d):∃ a b,l[i]? = some a∧m[i]? = some b∧d=.tup [a,b]:=by
 unfold zipX at h
 rw [List.getElem?_zipWith] at h
 cases e1:l[i]? with
 | none=>rw [e1] at h; cases h
 | some a =>
  cases e2:m[i]? with
  | none=>rw [e1,e2] at h; cases h
  | some b=>rw [e1,e2] at h; exact ⟨a,b,rfl,rfl,(Option.some.inj h).symm⟩
theorem itx_zip {F:Fm} {K:FG_} {a b:Addr} {l m:List Dx}:ItX F (Itz false false K a b) [(.v (.tr (.lst l)),some (.ref a)),(.v (.tr (.lst m)),some (.ref b))] (zipX l m) where
 go:=fun P H i d R hd=>by
  obtain ⟨v,e,h⟩:=R.atT; cases e
  obtain ⟨_,vs,e,h1,h2⟩:=h.lst_eq; cases e
  obtain ⟨v,e,h'⟩:=R.tail.atT; cases e
  obtain ⟨_,ws,e,h3,h4⟩:=h'.lst_eq; cases e
  obtain ⟨c,c',e1,e2,_⟩:=gc_ hd
  obtain ⟨x,h5,_⟩:=h2.at e1
  obtain ⟨y,h6,_⟩:=h4.at e2
  exact ⟨vs,ws,x,y,SqL.of (R.hv _ _ h1),SqL.of (R.hv _ _ h3),h5,h6⟩
 stop:=fun P H i R hi=>by
  obtain ⟨v,e,h⟩:=R.atT; cases e
  obtain ⟨_,vs,e,h1,h2⟩:=h.lst_eq; cases e
  obtain ⟨v,e,h'⟩:=R.tail.atT; cases e
  obtain ⟨_,ws,e,h3,h4⟩:=h'.lst_eq; cases e
  refine ⟨vs,ws,SqL.of (R.hv _ _ h1),SqL.of (R.hv _ _ h3),?_⟩
  unfold zipX at hi
  rw [List.length_zipWith] at hi
  rw [h2.len,h4.len]
  omega
 yld:=fun P H i d x H' R hd q=>by
  obtain ⟨p,x,y,rfl,hp,rfl,q⟩:=q
  obtain ⟨v,e,h⟩:=R.atT; cases e
  obtain ⟨_,vs,e,h1,h2⟩:=h.lst_eq; cases e
  obtain ⟨v,e,h'⟩:=R.tail.atT; cases e
  obtain ⟨_,ws,e,h3,h4⟩:=h'.lst_eq; cases e
  obtain ⟨c,c',e1,e2,rfl⟩:=gc_ hd
  obtain ⟨x',h5,h7⟩:=h2.at e1
  obtain ⟨y',h6,h8⟩:=h4.at e2
  obtain ⟨q1,q2⟩:=q vs ws (SqL.of (R.hv _ _ h1)) (SqL.of (R.hv _ _ h3))
  rw [q1] at h5; cases h5
  rw [q2] at h6; cases h6
  exact R.newT hp ⟨_,_,rfl,h7,_,_,rfl,h8,rfl⟩
theorem itx_enum {F:Fm} {K:FG_} {a:Addr} {l:List Dx}:ItX F (Ite K a) [(.v (.tr (.lst l)),some (.ref a))] (enuX l) where
 go:=fun P H i d R hd=>by
  obtain ⟨v,e,h⟩:=R.atT; cases e
  obtain ⟨_,vs,e,h1,h2⟩:=h.lst_eq; cases e
  obtain ⟨c,c',e1,e2,_⟩:=gc_ hd
  obtain ⟨y,h6,_⟩:=h2.at e2
  exact ⟨vs,y,SqL.of (R.hv _ _ h1),h6⟩
 stop:=fun P H i R hi=>by
  obtain ⟨v,e,h⟩:=R.atT; cases e
  obtain ⟨_,vs,e,h1,h2⟩:=h.lst_eq; cases e
  refine ⟨vs,SqL.of (R.hv _ _ h1),?_⟩
  unfold enuX zipX rngX at hi
  rw [List.length_zipWith,List.length_map,List.length_range] at hi
  rw [h2.len]
  omega
 yld:=fun P H i d x H' R hd q=>by
  obtain ⟨p,x,rfl,hp,rfl,q⟩:=q
  obtain ⟨v,e,h⟩:=R.atT; cases e
  obtain ⟨_,vs,e,h1,h2⟩:=h.lst_eq; cases e
  obtain ⟨c,c',e1,e2,rfl⟩:=gc_ hd
  obtain ⟨y',h6,h8⟩:=h2.at e2
  rw [q vs (SqL.of (R.hv _ _ h1))] at h6; cases h6
  rw [(rngX_at e1).2]
  exact R.newT hp ⟨_,_,rfl,by rw [show (0:Int) + (i:Int)=i from Int.zero_add _]; exact IsX.of_int _,_,_,rfl,h8,rfl⟩
theorem xi_zip {es:List Expr} {kk:Nat} {tpos:Pos} (hm:X.mg "zip" = none) (ha:XAs X Ex [a,b] u) (hg:Gl X "zip" := by rfl) (hs:starEach [a,b] X.env=[(false,eval a X.env),(false,eval b X.env)]:=by rfl) (hs2:starEach [b] X.env=[(false,eval b X.env)]:=by rfl) :
  XIt X Ex (.Tuple es kk tpos) (.Call (.Name "zip" p) [a,b] [] pos) (xiZ u):=fun F=>(pi_zip (t1:=false) (t2:=false) hg hm (ha F) hs hs2).weak fun σ H R=>by
 rintro ⟨ρ,fr,Qx,E,t,k⟩
 refine ⟨ρ,fr,_,E,t,fun vs ss H2 ρ2 hl E2 q => ?_⟩
 obtain ⟨R,hs⟩:=E2.many hl
 split at q
 ·rename_i l m hj
  rw [hj] at hs
  obtain ⟨x,y,rfl,hx,hy⟩:=all2_2 hs
  obtain ⟨c,cs,rfl,h1,_⟩:=hx.lst_eq
  obtain ⟨d,ds,rfl,h3,_⟩:=hy.lst_eq
  have R1:=(R.add hy).add (d:=.lst l) (v:=.ref c) hx
  exact ⟨c,d,rfl,⟨cs,SqL.of (R.hv _ _ h1)⟩,⟨ds,SqL.of (R.hv _ _ h3)⟩,k _ H2 ρ2 [(.v (.tr (.lst l)),some (.ref c)),(.v (.tr (.lst m)),some (.ref d))] _ ⟨E2.len,R1.perm ((mid.symm.cons _).trans mid.symm)⟩ itx_zip q⟩
 ·exact q.elim
theorem xi_enum {es:List Expr} {kk:Nat} {tpos:Pos} (hm:X.mg "enumerate" = none) (ha:XAs X Ex [a] u) (hg:Gl X "enumerate" := by rfl) (hs:starEach [a] X.env=[(false,eval a X.env)]:=by rfl) :
  XIt X Ex (.Tuple es kk tpos) (.Call (.Name "enumerate" p) [a] [] pos) (xiE u):=fun F=>(pi_enum hg hm (ha F) hs).weak fun σ H R=>by
 rintro ⟨ρ,fr,Qx,E,t,k⟩
 refine ⟨ρ,fr,_,E,t,fun vs ss H2 ρ2 hl E2 q => ?_⟩
 obtain ⟨R,hs⟩:=E2.many hl
 split at q
 ·rename_i l hj
  rw [hj] at hs
  obtain ⟨x,rfl,hx⟩:=dd_ hs
  obtain ⟨c,cs,rfl,h1,_⟩:=hx.lst_eq
  exact ⟨c,rfl,⟨cs,SqL.of (R.hv _ _ h1)⟩,k _ H2 ρ2 [(.v (.tr (.lst l)),some (.ref c))] _ (EOk.back E2.len (R.add hx)) itx_enum q⟩
 ·exact q.elim
end
abbrev XG:=Dx→En→(En→Prop)→Prop
def GX (n:Nat) (g:TG) (gx:XG):Prop := ∀ (F:Fm) (ρ:En) (σ:St) (fr:List Rw) (H:Hp) (d:Dx) (x:V) (Q:St→Hp→Prop) (Qx:En→Prop),EOk F ρ σ ((.v (.tr d),some x) :: fr) H→gx d ρ Qx →
 (∀ σ' H' ρ',EOk F ρ' σ' fr H'→σ'.length=σ.length→(∀ i,n≤i→σ'[i]? = σ[i]?)→Qx ρ'→Q σ' H')→g x σ H Q
def gxN (i:Nat):XG:=fun d ρ Q=>Q (ρ.set i (.v (.tr d)))
theorem eok_set {F:Fm} {ρ:En} {σ:St} {fr:List Rw} {H:Hp} {s:Sv} {x:V} {i:Nat} (E:EOk F ρ σ ((.v s,some x) :: fr) H):EOk F (ρ.set i (.v s)) (σ.set i (some x)) fr H:=by
 by_cases hi:i < ρ.length
 ·refine ⟨by rw [List.length_set,List.length_set]; exact E.len,?_⟩
  have hz:=pull (l:=ρ.zip σ) (i:=i) (List.getElem?_eq_getElem (by rw [List.length_zip]; have:=E.len; omega))
  have R:=E.front.perm ((hz.append_right fr).cons _)
  exact (R.perm (.swap _ _ _)).tail.perm ((zip_put E.len hi).append_right fr).symm
 ·rw [List.set_eq_of_length_le (by omega),List.set_eq_of_length_le (by have:=E.len; omega)]
  exact E.drop
theorem bb_ {n i:Nat} (h:i < n):GX n (gName i) (gxN i):=fun F ρ σ fr H d x Q Qx E g k=>k _ H _ (eok_set E) (List.length_set) (fun j hj=>List.getElem?_set_ne (by omega)) g
@[reducible] def gsOf:List Nat→TGs
 | []=>gNil
 | i :: is=>gCons (gName i) (gsOf is)
def gxs:List Nat→List Dx→En→(En→Prop)→Prop
 | [],[],ρ,Q=>Q ρ
 | i :: is,d :: ds,ρ,Q=>gxs is ds (ρ.set i (.v (.tr d))) Q
 | _,_,_,_=>False
def gxT (is:List Nat):XG:=fun d ρ Q=>match d with
 | .tup ds=>gxs is ds ρ Q
 | _=>False
def gxL (is:List Nat):XG:=fun d ρ Q=>match d with
 | .lst ds=>gxs is ds ρ Q
 | _=>False
theorem gxs_ok {n:Nat} {F:Fm} {fr:List Rw} {H:Hp} {Q:St→Hp→Prop} {Qx:En→Prop}:∀ {is:List Nat} {ds:List Dx} {xs:List V} {ρ:En} {σ:St},(∀ i∈is,i < n)→EOk F ρ σ fr H→All2 (IsX (hid (owns (ρ.zip σ ++ fr)) (F.vis H))) ds xs→gxs is ds ρ Qx →
  (∀ σ' ρ',EOk F ρ' σ' fr H→σ'.length=σ.length→(∀ i,n≤i→σ'[i]? = σ[i]?)→Qx ρ'→Q σ' H)→gsOf is xs σ H Q
 | [],[],xs,ρ,σ,_,E,ha,g,k=>⟨ha,k σ ρ E rfl (fun _ _=>rfl) g⟩
 | i :: is,d :: ds,xs,ρ,σ,hi,E,⟨x,xr,e,h1,h2⟩,g,k=>by
  have E1:EOk F (ρ.set i (.v (.tr d))) (σ.set i (some x)) fr H:=eok_set (EOk.back E.len (E.rep.add h1))
  refine ⟨x,xr,e,gxs_ok (fun j hj=>hi j (List.mem_cons_of_mem _ hj)) E1 (h2.imp fun a b z=>z.to (at_ fun c hc => ?_)) g fun σ' ρ' E' hl hs q=>k σ' ρ' E' (hl.trans List.length_set) (fun j hj=>(hs j hj).trans (List.getElem?_set_ne (by have:=hi i List.mem_cons_self; omega))) q⟩
  by_cases hlt:i < ρ.length
  ·have hp:=((zip_put (s:=.v (.tr d)) (v:=some x) E.len hlt).append_right fr).flatMap_right ownA
   have hz:=((pull (l:=ρ.zip σ) (i:=i) (List.getElem?_eq_getElem (by rw [List.length_zip]; have:=E.len; omega))).append_right fr).flatMap_right ownA
   refine hz.mem_iff.mpr ?_
   have:=hp.mem_iff.mp hc
   rw [List.cons_append,List.flatMap_cons] at this
   rw [List.cons_append,List.flatMap_cons]
   rcases List.mem_append.mp this with z | z
   ·cases z
   ·exact List.mem_append_right _ z
  ·rw [List.set_eq_of_length_le (by omega),List.set_eq_of_length_le (by have:=E.len; omega)] at hc
   exact hc
 | [],_ :: _,_,_,_,_,_,_,g,_=>g.elim
 | _ :: _,[],_,_,_,_,_,_,g,_=>g.elim
theorem gxs_len {Q:En→Prop}:∀ {is:List Nat} {ds:List Dx} {ρ:En},gxs is ds ρ Q→ds.length=is.length
 | [],[],_,_=>rfl
 | i :: is,d :: ds,ρ,g=>congrArg (· + 1) (gxs_len (is:=is) (ds:=ds) (ρ:=ρ.set i (.v (.tr d))) g)
 | [],_ :: _,_,g=>g.elim
 | _ :: _,[],_,g=>g.elim
theorem et_ {K:FG_} {n m:Nat} {is:List Nat} (hm:is.length=m) (h:∀ i∈is,i < n):GX n (gTup K m (gsOf is)) (gxT is):=fun F ρ σ fr H d x Q Qx E g k=>by
 unfold gxT at g
 split at g
 ·obtain ⟨R,hx⟩:=E.one
  obtain ⟨a,vs,rfl,h1,h2⟩:=hx.tup_eq
  exact ⟨a,vs,rfl,SqT.of (R.hv _ _ h1),by rw [h2.len,gxs_len g,hm],gxs_ok h E.drop h2 g fun σ' ρ' E' hl hs q=>k σ' H ρ' E' hl hs q⟩
 ·exact g.elim
theorem gx_lst {K:FG_} {n m:Nat} {is:List Nat} (hm:is.length=m) (h:∀ i∈is,i < n):GX n (gLst K m (gsOf is)) (gxL is):=fun F ρ σ fr H d x Q Qx E g k=>by
 unfold gxL at g
 split at g
 ·obtain ⟨R,hx⟩:=E.one
  obtain ⟨a,vs,rfl,h1,h2⟩:=hx.lst_eq
  exact ⟨a,vs,rfl,SqL.of (R.hv _ _ h1),by rw [h2.len,gxs_len g,hm],gxs_ok h E.drop h2 g fun σ' ρ' E' hl hs q=>k σ' H ρ' E' hl hs q⟩
 ·exact g.elim
def xYes:XC:=fun ρ Q=>Q true ρ
def XCs (X:Cx) (Ex:ExT) (ifs:List Expr) (t:XC):Prop := ∀ F,[OkF X Ex F]→PCs X ifs (tXc F t)
theorem bi_ {X:Cx} {Ex:ExT}:XCs X Ex [] xYes:=fun F=>(pcs_nil (X:=X)).weak fun σ H Q=>by
 rintro ⟨ρ,fr,Qx,E,t,k⟩
 exact k true H ρ E t
theorem xcs_one {X:Cx} {Ex:ExT} {c:Expr} {t:XC} (h:XTe X Ex c t):XCs X Ex [c] t:=fun F=>pcs_one (h F)
def compX (n:Nat) (gx:XG) (tc:XC) (te:XT) (Q:List Dx→List Sl→Prop):List Dx→List Sl→List Dx→Prop
 | [],cs,acc=>Q acc cs
 | d :: ds,cs,acc=>gx d (List.replicate n .un ++ cs) fun ρ1=>tc ρ1 fun b ρ2=>if b=true then te ρ2 fun s ρ3=>compX n gx tc te Q ds (ρ3.drop n) (acc ++ [s.d]) else compX n gx tc te Q ds (ρ2.drop n) acc
def cut:List Nat→En→En
 | [],ρ=>ρ
 | j :: js,ρ=>cut js (ρ.set j .un)
def caps (outs:List Nat) (ρ:En):List Sl:=outs.map fun j=>(ρ[j]?).getD .un
def back:List Nat→List Sl→En→En
 | j :: js,c :: cs,ρ=>back js cs (ρ.set j c)
 | _,_,ρ=>ρ
def xComp (n:Nat) (outs:List Nat) (ti:XI) (gx:XG) (tc:XC) (te:XT):XT:=fun ρ Q=>ti ρ fun ds ρ1=>ds.length≤1000000∧compX n gx tc te (fun acc cs=>Q (.ol acc) (back outs cs ρ1)) ds (caps outs ρ1) []
theorem sw {α:Type} {A B C:List α}:(A ++ (B ++ C)).Perm (B ++ (A ++ C)):=by
 rw [← List.append_assoc,← List.append_assoc]
 exact List.perm_append_comm.append_right C
section
variable {F:Fm} {H:Hp} {σ:St}
abbrev vals (σ:St) (outs:List Nat):St:=outs.map fun j=>(σ[j]?).join
theorem caps_set {js:List Nat} {j:Nat} {s:Sl} {ρ:En} (h:j∉js):caps js (ρ.set j s)=caps js ρ:=by
 unfold caps
 refine List.map_congr_left fun k hk => ?_
 rw [List.getElem?_set_ne (fun z=>h (by rw [z]; exact hk))]
theorem cut_len:∀ {js:List Nat} {ρ:En},(cut js ρ).length=ρ.length
 | [],_=>rfl
 | j :: js,ρ=>(cut_len (js:=js)).trans List.length_set
theorem cut_set:∀ {js:List Nat} {j:Nat} {s:Sl} {ρ:En},j∉js→cut js (ρ.set j s)=(cut js ρ).set j s
 | [],_,_,_,_=>rfl
 | k :: js,j,s,ρ,h=>by
  show cut js ((ρ.set j s).set k .un)=(cut js (ρ.set k .un)).set j s
  rw [List.set_comm _ _ (fun z=>h (by rw [z]; exact List.mem_cons_self)),cut_set fun z=>h (List.mem_cons_of_mem _ z)]
theorem pullAll:∀ {outs:List Nat} {ρ:En} {T:List Rw},outs.Nodup→ρ.length=σ.length→Rep F (ρ.zip σ ++ T) H→Rep F ((caps outs ρ).zip (vals σ outs) ++ ((cut outs ρ).zip σ ++ T)) H
 | [],_,_,_,_,R=>R
 | j :: js,ρ,T,hn,hl,R=>by
  have hn':=List.nodup_cons.mp hn
  have step:Rep F ((ρ.set j .un).zip σ ++ (((ρ[j]?).getD .un,(σ[j]?).join) :: T)) H:=by
   by_cases hj:j < ρ.length
   ·have h1:ρ[j]? = some ρ[j]:=List.getElem?_eq_getElem hj
    have h2:σ[j]? = some (σ[j]'(by omega)):=List.getElem?_eq_getElem (by omega)
    have R1:=R.perm ((de_ h1 h2).append_right T)
    have R2:=R1.addU (x:=σ[j]'(by omega))
    rw [h1,h2]
    refine R2.perm ?_
    refine (List.Perm.swap _ _ _).trans ?_
    exact (((cl_ hl hj h2).append_right T).symm.cons _).trans mid.symm
   ·rw [List.set_eq_of_length_le (by omega),List.getElem?_eq_none (by omega),List.getElem?_eq_none (by omega)]
    exact (R.addU (x:=none)).perm mid.symm
  have:=pullAll (outs:=js) hn'.2 (by rw [List.length_set]; exact hl) step
  rw [caps_set hn'.1] at this
  show Rep F ((((ρ[j]?).getD .un,(σ[j]?).join) :: (caps js ρ).zip (vals σ js)) ++ ((cut js (ρ.set j .un)).zip σ ++ T)) H
  refine this.perm ?_
  refine List.Perm.trans ?_ (List.Perm.refl _)
  rw [← List.append_assoc]
  exact mid.trans (by rw [List.append_assoc]; exact .refl _)
theorem putAll:∀ {outs:List Nat} {cs:List Sl} {ρ:En} {T:List Rw},outs.Nodup→ρ.length=σ.length→cs.length=outs.length→Rep F (cs.zip (vals σ outs) ++ ((cut outs ρ).zip σ ++ T)) H→Rep F ((back outs cs ρ).zip σ ++ T) H
 | [],[],_,_,_,_,_,R=>R
 | [],_ :: _,_,_,_,_,h,_=>by simp at h
 | _ :: _,[],_,_,_,_,h,_=>by simp at h
 | j :: js,c :: cs,ρ,T,hn,hl,hc,R=>by
  have hn':=List.nodup_cons.mp hn
  refine putAll (outs:=js) (cs:=cs) (ρ:=ρ.set j c) hn'.2 (by rw [List.length_set]; exact hl) (by simpa using hc) ?_
  have R1:Rep F ((c,(σ[j]?).join) :: (cs.zip (vals σ js) ++ ((cut js (ρ.set j .un)).zip σ ++ T))) H:=R
  rw [cut_set hn'.1] at R1 ⊢
  have hcl:(cut js ρ).length=σ.length:=cut_len.trans hl
  by_cases hj:j < ρ.length
  ·have hjc:j < (cut js ρ).length:=by rw [cut_len]; exact hj
   have h2:σ[j]? = some (σ[j]'(by omega)):=List.getElem?_eq_getElem (by omega)
   rw [h2] at R1
   have p1:=((cl_ (s:=.un) hcl hjc h2).append_right T)
   have p2:=((cl_ (s:=c) hcl hjc h2).append_right T)
   have R2:=R1.perm ((List.Perm.append_left _ p1).cons _)
   have R3:=R2.perm ((mid.cons _).trans (.swap _ _ _))
   exact R3.tail.perm (mid.symm.trans (List.Perm.append_left _ p2.symm))
  ·have hz:(cut js ρ).length≤j:=by rw [cut_len]; omega
   rw [List.set_eq_of_length_le hz] at R1 ⊢
   exact R1.tail
theorem Rep.drops:∀ {A P:List Rw},Rep F (A ++ P) H→Rep F P H
 | [],_,R=>R
 | _ :: _,_,R=>Rep.drops R.tail
theorem Rep.addUs {P:List Rw} (R:Rep F P H):∀ n,Rep F (List.replicate n (.un,none) ++ P) H
 | 0=>R
 | n + 1=>(Rep.addUs R n).addU
def accR (ds:List Dx) (xs:List V):List Rw:=(ds.zip xs).map fun p=>(.v (.tr p.1),some p.2)
theorem Rep.accs:∀ {ds:List Dx} {xs:List V} {P:List Rw},ds.length=xs.length→Rep F (accR ds xs ++ P) H→Rep F P H∧All2 (IsX (hid (owns P) (F.vis H))) ds xs
 | [],[],P,_,R=>⟨R,rfl⟩
 | [],_ :: _,_,h,_=>by simp at h
 | _ :: _,[],_,h,_=>by simp at h
 | d :: ds,x :: xs,P,h,R=>by
  obtain ⟨v,e,hx⟩:=Rep.atT (show Rep F ((.v (.tr d),some x) :: (accR ds xs ++ P)) H from R)
  cases e
  obtain ⟨R1,h1⟩:=Rep.accs (ds:=ds) (xs:=xs) (by simpa using h) (Rep.tail (show Rep F ((.v (.tr d),some x) :: (accR ds xs ++ P)) H from R))
  refine ⟨R1,x,xs,rfl,hx.to (at_ fun c hc => ?_),h1⟩
  unfold owns
  rw [List.flatMap_append]
  exact List.mem_append_right _ hc
end
section
variable {X:Cx} {Ex:ExT} {dsc scope:Scope} {tgs N':List Str} {outs:List Nat} {tg iter elt:Expr} {ifs:List Expr} {pos:Pos} {ti:XI} {g:TG} {gx:XG} {tc:XC} {te:XT}
theorem ir_ {F:Fm} {n:Nat} (hgx:GX n g gx) (hno:outs.Nodup) {tcT:TT} {teT:TE} (htc:∀ σ H Q,tXc F tc σ H Q→tcT σ H Q) (hte:∀ σ H Q,tX F te σ H Q→teT σ H Q) {σ:St} {H':Hp} {Q:VK} {Qx:Sv→En→Prop} {ρ':En} {fr row:List Rw} {ds:List Dx} {J:It}
  (k:∀ v s H' ρ',EOk F ρ' σ ((.v s,some v) :: fr) H'→Qx s ρ'→Q v H') (E':EOk F ρ' σ (row ++ fr) H') (hJ:ItX F J row ds) (q:ds.length≤1000000∧compX n gx tc te (fun acc cs=>Qx (.ol acc) (back outs cs ρ')) ds (caps outs ρ') []) :
  ∃ W:Nat→Nat→List V→Hp→Prop,(∃ m,W 0 m [] H')∧∀ i m acc H,W i m acc H →
  (J.stop i H∧acc.length≤sizeLine∧∀ l,H l=none→Q (.ref l) (upd H l (.lst acc))) ∨
  (J.go i H∧acc.length < sizeLine∧∃ N:List V→Hp→Prop,(∀ acc' H',N acc' H'→∃ m',m' < m∧W (i + 1) m' acc' H')∧∀ x H',J.yld i H x H'→g x (pick n outs σ) H' fun σ2 H2=>tcT σ2 H2 fun b H3 =>
   if b=true then teT σ2 H3 fun y H4=>N (acc ++ [y]) H4 else N acc H3):=by
 obtain ⟨hd,q⟩:=q
 have zl:=line1
 refine ⟨fun i m acc H=>m=ds.length - i∧i≤ds.length∧∃ cs accD,cs.length=outs.length∧accD.length=acc.length∧acc.length≤i∧Rep F (cs.zip (vals σ outs) ++ (accR accD acc ++ (row ++ ((cut outs ρ').zip σ ++ fr)))) H ∧
  compX n gx tc te (fun acc cs=>Qx (.ol acc) (back outs cs ρ')) (ds.drop i) cs accD,⟨ds.length,by simp,Nat.zero_le _,caps outs ρ',[],by simp [caps],rfl,Nat.le_refl _,?_,by simpa using q⟩,?_⟩
 ·have R:=pullAll (outs:=outs) hno E'.len E'.rep
  refine R.perm (List.Perm.append_left _ ?_)
  exact sw
 rintro i m acc H3 ⟨rfl,hi,cs,accD,hcl,hal,hai,R,hq⟩
 have hrow:Rep F (row ++ (cs.zip (vals σ outs) ++ (accR accD acc ++ ((cut outs ρ').zip σ ++ fr)))) H3:=by
  exact R.perm ((List.Perm.append_left _ sw).trans sw)
 by_cases hlt:i < ds.length
 ·right
  have hdi:ds[i]? = some ds[i]:=List.getElem?_eq_getElem hlt
  rw [List.drop_eq_getElem_cons hlt] at hq
  refine ⟨hJ.go _ _ i _ hrow hdi,by omega,fun acc' H4 => ∃ m',m' < ds.length - i∧(m'=ds.length - (i + 1)∧i + 1≤ds.length∧∃ cs accD,cs.length=outs.length∧accD.length=acc'.length∧acc'.length≤i + 1∧Rep F (cs.zip (vals σ outs) ++ (accR accD acc' ++ (row ++ ((cut outs ρ').zip σ ++ fr)))) H4 ∧
   compX n gx tc te (fun acc cs=>Qx (.ol acc) (back outs cs ρ')) (ds.drop (i + 1)) cs accD),fun acc' H4 h=>h,fun x H4 hy => ?_⟩
  have R4:=hJ.yld _ _ i _ x H4 hrow hdi hy
  have hzip:∀ (cs:List Sl),cs.length=outs.length→(List.replicate n Sl.un ++ cs).zip (pick n outs σ)=List.replicate n (Sl.un,none) ++ cs.zip (vals σ outs):=fun cs hcs=>by
   unfold pick
   rw [List.zip_append (by rw [List.length_replicate,List.length_replicate]),List.zip_replicate]
   simp
  have Ei:EOk F (List.replicate n .un ++ cs) (pick n outs σ) ((.v (.tr ds[i]),some x) :: (accR accD acc ++ (row ++ ((cut outs ρ').zip σ ++ fr)))) H4:=by
   refine ⟨by rw [fq_,List.length_append,List.length_replicate,hcl],?_⟩
   rw [hzip cs hcl,List.append_assoc]
   refine Rep.addUs (R4.perm ?_) n
   exact ((sw.trans (List.Perm.append_left _ sw)).cons _).trans mid.symm
  have fin:∀ {ρ3:En} {σ2:St} {H5:Hp} {accD':List Dx} {acc':List V},σ2.length=(pick n outs σ).length→(∀ j,n≤j→σ2[j]? = (pick n outs σ)[j]?)→EOk F ρ3 σ2 (accR accD' acc' ++ (row ++ ((cut outs ρ').zip σ ++ fr))) H5→accD'.length=acc'.length→acc'.length≤i + 1 →
    compX n gx tc te (fun acc cs=>Qx (.ol acc) (back outs cs ρ')) (ds.drop (i + 1)) (ρ3.drop n) accD' →
    ∃ m',m' < ds.length - i∧(m'=ds.length - (i + 1)∧i + 1≤ds.length∧∃ cs accD,cs.length=outs.length∧accD.length=acc'.length∧acc'.length≤i + 1∧Rep F (cs.zip (vals σ outs) ++ (accR accD acc' ++ (row ++ ((cut outs ρ').zip σ ++ fr)))) H5 ∧
     compX n gx tc te (fun acc cs=>Qx (.ol acc) (back outs cs ρ')) (ds.drop (i + 1)) cs accD):=fun {ρ3 σ2 H5 accD' acc'} hl2 hs2 E3 h1 h2 h3=>by
   have hl3:ρ3.length=n + outs.length:=by rw [E3.len,hl2,fq_]
   refine ⟨ds.length - (i + 1),by omega,rfl,hlt,ρ3.drop n,accD',by rw [List.length_drop,hl3]; omega,h1,h2,?_,h3⟩
   have hv:σ2.drop n=vals σ outs:=by
    apply List.ext_getElem?
    intro j
    rw [List.getElem?_drop,hs2 _ (Nat.le_add_right n j)]
    unfold pick
    rw [List.getElem?_append_right (by rw [List.length_replicate]; omega),List.length_replicate,Nat.add_sub_cancel_left]
   have hz:ρ3.zip σ2=(ρ3.take n).zip (σ2.take n) ++ (ρ3.drop n).zip (σ2.drop n):=by
    rw [← List.zip_append (by rw [List.length_take,List.length_take,E3.len]),List.take_append_drop,List.take_append_drop]
   have R5:=E3.rep
   rw [hz,hv,List.append_assoc] at R5
   exact Rep.drops R5
  refine hgx F _ _ _ H4 _ x _ _ Ei hq fun σ2 H5 ρ1 E1 hl2 hs2 q1=>htc _ _ _ ⟨ρ1,_,_,E1,q1,fun b H6 ρ2 E2 q2 => ?_⟩
  cases b with
  | false=>exact fin hl2 hs2 E2 hal (by omega) q2
  | true =>
   refine hte _ _ _ ⟨ρ2,_,_,E2,q2,fun y s H7 ρ3 E3 q3 => ?_⟩
   refine fin (accD':=accD ++ [s.d]) (acc':=acc ++ [y]) hl2 hs2 ⟨E3.len,?_⟩ (by rw [List.length_append,List.length_append,hal]; rfl) (by rw [List.length_append]; show acc.length + 1≤_; omega) q3
   have R7:=(EOk.front E3).frz
   have he:accR (accD ++ [s.d]) (acc ++ [y])=accR accD acc ++ [(.v (.tr s.d),some y)]:=by
    unfold accR
    rw [List.zip_append hal,List.map_append]
    rfl
   rw [he,List.append_assoc]
   exact R7.perm (mid.symm.trans (List.Perm.append_left _ mid.symm))
 ·left
  have hie:i=ds.length:=by omega
  subst hie
  rw [List.drop_length] at hq
  refine ⟨hJ.stop _ _ _ hrow (Nat.le_refl _),by omega,fun l hl => ?_⟩
  have R1:=R.perm (sw.trans (List.Perm.append_left _ sw))
  obtain ⟨R2,ha⟩:=R1.accs hal
  have R3:Rep F (row ++ ((.v (.ol accD),some (.ref l)) :: (cs.zip (vals σ outs) ++ ((cut outs ρ').zip σ ++ fr)))) (upd H3 l (.lst acc)):=(R2.newL hl ha).perm mid.symm
  have R4:Rep F (cs.zip (vals σ outs) ++ ((cut outs ρ').zip σ ++ ((.v (.ol accD),some (.ref l)) :: fr))) (upd H3 l (.lst acc)):=R3.drops.perm (mid.symm.trans (List.Perm.append_left _ mid.symm))
  have hbl:∀ {js:List Nat} {cs:List Sl} {ρ:En},(back js cs ρ).length=ρ.length:=by
   intro js
   induction js with
   | nil=>intro cs ρ; cases cs <;> rfl
   | cons j js ih=>intro cs ρ; cases cs with
    | nil=>rfl
    | cons c cs=>exact (ih (cs:=cs) (ρ:=ρ.set j c)).trans List.length_set
  exact k _ (.ol accD) _ (back outs cs ρ') ⟨hbl.trans E'.len,putAll hno E'.len hcl R4⟩ hq
theorem tComp_x {F:Fm} {n:Nat} (hgx:GX n g gx) (hno:outs.Nodup):∀ σ H Q,tX F (xComp n outs ti gx tc te) σ H Q→tComp n outs (tXi F ti) g (tXc F tc) (tX F te) σ H Q:=by
 rintro σ H Q ⟨ρ,fr,Qx,E,t,k⟩
 exact ⟨ρ,fr,_,E,t,fun J H' ρ' row ds E' hJ q=>ir_ hgx hno (fun _ _ _ z=>z) (fun _ _ _ z=>z) k E' hJ q⟩
end
end Lf
namespace L2
open PySem
theorem PS.weak {X:Cx} {e:Stmt} {t u:TS} (h:PS X e t) (w:∀ D σ H,u D σ H→t D σ H):PS X e u:=fun pins s σ H D I q=>h pins s σ H D I (w D σ H q)
theorem PSs.weak {X:Cx} {e:List Stmt} {t u:TS} (h:PSs X e t) (w:∀ D σ H,u D σ H→t D σ H):PSs X e u:=fun pins s σ H D I q=>h pins s σ H D I (w D σ H q)
end L2
namespace Lf
open PySem L2
theorem ci_ {X:Cx} {Ex:ExT} {dsc scope:Scope} {tgs N' N:List Str} {outs:List Nat} {tg iter elt:Expr} {ifs:List Expr} {pos:Pos} {ti:XI} {g:TG} {gx:XG} {tc:XC} {te:XT} (S:CompScope dsc scope N tgs outs N') (hi:XIt X Ex tg iter ti) (hg:∀ cl C s H ex,PG (cxComp X N' scope cl C s H ex) tg g) (hgx:GX tgs.length g gx) (hgt:Tgt tgs.length g)
  (hcs:∀ cl C s H ex,XCs (cxComp X N' scope cl C s H ex) noEx ifs tc) (he:∀ cl C s H ex,XE (cxComp X N' scope cl C s H ex) noEx elt te) (hno:outs.Nodup:=by decide) (hN0:X.N=N:=by rfl) (hsc:X.env.scope=dsc:=by rfl) (hc:X.calm=true:=by rfl) (hs:∀ x,foldedSetIterable iter X.env x=pure x:=by intro _; rfl) :
  XE X Ex (.ListComp elt [⟨tg,iter,ifs,0⟩] scope pos) (xComp tgs.length outs ti gx tc te):=fun F =>
 (pe_comp S (hi F) hg hgt (fun a b c d e=>hcs a b c d e F) (fun a b c d e=>he a b c d e F) hN0 hsc hc hs).weak (tComp_x hgx hno)
structure XD where
 nx:En→Prop
 rt:Sv→En→Prop
 bk:En→Prop
 ct:En→Prop
abbrev XS:=En→XD→Prop
structure DOk (F:Fm) (n:Nat) (fr:List Rw) (D:Ends) (d:XD):Prop where
 nx:∀ σ' H' ρ',σ'.length=n→EOk F ρ' σ' fr H'→d.nx ρ'→D.nx σ' H'
 rt:∀ v s σ' H' ρ',σ'.length=n→EOk F ρ' σ' ((.v s,some v) :: fr) H'→d.rt s ρ'→D.rt v H'
 bk:∀ σ' H' ρ',σ'.length=n→EOk F ρ' σ' fr H'→d.bk ρ'→D.bk σ' H'
 ct:∀ σ' H' ρ',σ'.length=n→EOk F ρ' σ' fr H'→d.ct ρ'→D.ct σ' H'
def tXS (F:Fm) (G:XS):TS:=fun D σ H => ∃ ρ fr d,EOk F ρ σ fr H∧G ρ d∧DOk F σ.length fr D d
def XSt (X:Cx) (Ex:ExT) (st:Stmt) (G:XS):Prop := ∀ F,[OkF X Ex F]→PS X st (tXS F G)
def XSs (X:Cx) (Ex:ExT) (st:List Stmt) (G:XS):Prop := ∀ F,[OkF X Ex F]→PSs X st (tXS F G)
def xNext:XS:=fun ρ D=>D.nx ρ
def xSeq (G K:XS):XS:=fun ρ D=>G ρ { D with nx:=fun ρ'=>K ρ' D }
def xSet (i:Nat) (t:XT):XS:=fun ρ D=>t ρ fun s ρ'=>D.nx (ρ'.set i (.v s))
def xAsg (t:XT) (gx:XG):XS:=fun ρ D=>t ρ fun s ρ'=>gx s.d ρ' D.nx
def xExp (t:XT):XS:=fun ρ D=>t ρ fun _ ρ'=>D.nx ρ'
def xRet (t:XT):XS:=fun ρ D=>t ρ fun s ρ'=>D.rt s ρ'
def xIf (c:XC) (G K:XS):XS:=fun ρ D=>c ρ fun b ρ'=>if b=true then G ρ' D else K ρ' D
def forX (gx:XG) (G:XS) (D:XD):List Dx→En→Prop
 | [],ρ=>D.nx ρ
 | d :: ds,ρ=>gx d ρ fun ρ1=>G ρ1 { D with nx:=forX gx G D ds,ct:=forX gx G D ds,bk:=D.nx }
def xFor (ti:XI) (gx:XG) (G:XS):XS:=fun ρ D=>ti ρ fun ds ρ'=>forX gx G D ds ρ'
section
variable {X:Cx} {Ex:ExT} {st:Stmt} {rest:List Stmt} {G K:XS} {e c tg iter:Expr} {t:XT} {tc:XC} {pos:Pos} {i:Nat}
theorem au_:XSs X Ex [] xNext:=fun F=>(pss_nil (X:=X)).weak fun D σ H=>by
 rintro ⟨ρ,fr,d,E,q,k⟩
 exact k.nx σ H ρ rfl E q
theorem ae_ (h:XSt X Ex st G) (h':XSs X Ex rest K):XSs X Ex (st :: rest) (xSeq G K):=fun F=>(hb_ (h F) (h' F)).weak fun D σ H=>by
 rintro ⟨ρ,fr,d,E,q,k⟩
 exact ⟨ρ,fr,_,E,q,⟨fun σ' H' ρ' hl E' q'=>⟨ρ',fr,d,E',q',by rw [hl]; exact k⟩,k.rt,k.bk,k.ct⟩⟩
theorem af_ (h:XSt X Ex st G):XSs X Ex [st] G:=fun F=>el_ (h F)
theorem ag_ (h:∀ F,[OkF X Ex F]→PS X st (tAsg (tX F t) (gName i))):XSt X Ex st (xSet i t):=fun F=>(h F).weak fun D σ H=>by
 rintro ⟨ρ,fr,d,E,q,k⟩
 exact ⟨ρ,fr,_,E,q,fun v s H' ρ' E' q'=>k.nx _ H' _ List.length_set (eok_set E') q'⟩
theorem xs_asgP {n:Nat} {g:TG} {gx:XG} (hgx:GX n g gx) (h:∀ F,[OkF X Ex F]→PS X st (tAsg (tX F t) g)):XSt X Ex st (xAsg t gx):=fun F=>(h F).weak fun D σ H=>by
 rintro ⟨ρ,fr,d,E,q,k⟩
 exact ⟨ρ,fr,_,E,q,fun v s H' ρ' E' q'=>hgx F ρ' σ fr H' s.d v _ _ (EOk.back E'.len E'.front.frz) q' fun σ' H2 ρ2 E2 hl _ q2=>k.nx σ' H2 ρ2 hl E2 q2⟩
theorem xs_expr (he:XE X Ex e t) (hs:swapsWith e none pos.line X.env=pure false:=by rfl):XSt X Ex (.Expr e pos) (xExp t):=fun F=>(dw_ (he F) hs).weak fun D σ H=>by
 rintro ⟨ρ,fr,d,E,q,k⟩
 exact ⟨ρ,fr,_,E,q,fun v s H' ρ' E' q'=>k.nx σ H' ρ' rfl E'.drop q'⟩
theorem ap_ (he:XE X Ex e t):XSt X Ex (.Return (some e) pos) (xRet t):=fun F=>(ps_ret (he F)).weak fun D σ H=>by
 rintro ⟨ρ,fr,d,E,q,k⟩
 exact ⟨ρ,fr,_,E,q,fun v s H' ρ' E' q'=>k.rt v s σ H' ρ' rfl E' q'⟩
theorem br_ {a b:List Stmt} (hc:XTe X Ex c tc) (ha:XSs X Ex a G) (hb:XSs X Ex b K):XSt X Ex (.If c a b pos) (xIf tc G K):=fun F=>(ps_if (hc F) (ha F) (hb F)).weak fun D σ H=>by
 rintro ⟨ρ,fr,d,E,q,k⟩
 refine ⟨ρ,fr,_,E,q,fun b H' ρ' E' q' => ?_⟩
 cases b with
 | true=>exact ⟨ρ',fr,d,E',q',k⟩
 | false=>exact ⟨ρ',fr,d,E',q',k⟩
def xNo:XS:=fun _ _=>False
theorem xs_no:XSt X Ex st xNo:=fun F=>(ps_never (X:=X)).weak fun D σ H=>by
 rintro ⟨ρ,fr,d,E,q,k⟩
 exact q
theorem for_core {F:Fm} {n:Nat} {g:TG} {gx:XG} (hgx:GX n g gx) {tb:TS} (htb:∀ D σ H,tXS F G D σ H→tb D σ H) {D:Ends} {d:XD} {σ:St} {H':Hp} {ρ':En} {fr row:List Rw} {ds:List Dx} {J:It} (k:DOk F σ.length fr D d) (E':EOk F ρ' σ (row ++ fr) H') (hJ:ItX F J row ds) (q':forX gx G d ds ρ') :
  ∃ W:Nat→Nat→St→Hp→Prop,(∃ m,W 0 m σ H')∧∀ i m σ H,W i m σ H →
  (J.stop i H∧D.nx σ H)∨(J.go i H∧∃ N:St→Hp→Prop,(∀ σ' H',N σ' H'→∃ m',m' < m∧W (i + 1) m' σ' H')∧∀ x H',J.yld i H x H'→g x σ H' fun σ2 H2=>tb { D with nx:=N,ct:=N,bk:=D.nx } σ2 H2):=by
 refine ⟨fun i m σ1 H1=>m=ds.length - i∧i≤ds.length∧σ1.length=σ.length∧∃ ρ1,EOk F ρ1 σ1 (row ++ fr) H1∧forX gx G d (ds.drop i) ρ1,⟨ds.length,by simp,Nat.zero_le _,rfl,ρ',E',by simpa using q'⟩,?_⟩
 rintro i m σ1 H1 ⟨rfl,hi,hl,ρ1,E1,q1⟩
 have hrow:Rep F (row ++ (ρ1.zip σ1 ++ fr)) H1:=E1.rep.perm sw
 by_cases hlt:i < ds.length
 ·right
  have hdi:ds[i]? = some ds[i]:=List.getElem?_eq_getElem hlt
  rw [List.drop_eq_getElem_cons hlt] at q1
  refine ⟨hJ.go _ _ i _ hrow hdi,fun σ2 H2 => ∃ m',m' < ds.length - i∧(m'=ds.length - (i + 1)∧i + 1≤ds.length∧σ2.length=σ.length∧∃ ρ1,EOk F ρ1 σ2 (row ++ fr) H2∧forX gx G d (ds.drop (i + 1)) ρ1),fun _ _ h=>h,fun x H2 hy => ?_⟩
  have R2:=hJ.yld _ _ i _ x H2 hrow hdi hy
  have E2:EOk F ρ1 σ1 ((.v (.tr ds[i]),some x) :: (row ++ fr)) H2:=⟨E1.len,R2.perm ((sw.cons _).trans mid.symm)⟩
  refine hgx F ρ1 σ1 _ H2 _ x _ _ E2 q1 fun σ2 H3 ρ2 E3 hl2 _ q2 => ?_
  have nxt:∀ σ' H' ρ',σ'.length=σ2.length→EOk F ρ' σ' (row ++ fr) H'→forX gx G d (ds.drop (i + 1)) ρ'→∃ m',m' < ds.length - i∧(m'=ds.length - (i + 1)∧i + 1≤ds.length∧σ'.length=σ.length∧∃ ρ1,EOk F ρ1 σ' (row ++ fr) H'∧forX gx G d (ds.drop (i + 1)) ρ1):=fun σ' H' ρ' h1 h2 h3 =>
   ⟨ds.length - (i + 1),by omega,rfl,hlt,by rw [h1,hl2,hl],ρ',h2,h3⟩
  have ends:∀ {σ':St} {H':Hp} {ρ':En} {fr2:List Rw},EOk F ρ' σ' (row ++ fr2) H'→EOk F ρ' σ' fr2 H':=fun h=>⟨h.len,Rep.drops (A:=row) (h.rep.perm sw)⟩
  refine htb _ _ _ ⟨ρ2,row ++ fr,_,E3,q2,⟨nxt,fun v s σ' H' ρ' h1 h2 h3=>k.rt v s σ' H' ρ' (by rw [h1,hl2,hl]) ?_ h3,fun σ' H' ρ' h1 h2 h3=>k.nx σ' H' ρ' (by rw [h1,hl2,hl]) (ends h2) h3,nxt⟩⟩
  exact ends ⟨h2.len,h2.rep.perm (List.Perm.append_left _ mid.symm)⟩
 ·left
  have hie:i=ds.length:=by omega
  subst hie
  rw [List.drop_length] at q1
  exact ⟨hJ.stop _ _ _ hrow (Nat.le_refl _),k.nx σ1 H1 ρ1 hl ⟨E1.len,Rep.drops (A:=row) hrow⟩ q1⟩
theorem tFor_x {F:Fm} {ti:XI} {n:Nat} {g:TG} {gx:XG} (hgx:GX n g gx):∀ D σ H,tXS F (xFor ti gx G) D σ H→tFor (tXi F ti) g (tXS F G) D σ H:=by
 rintro D σ H ⟨ρ,fr,d,E,q,k⟩
 exact ⟨ρ,fr,_,E,q,fun J H' ρ' row ds E' hJ q'=>for_core hgx (fun _ _ _ z=>z) k E' hJ q'⟩
theorem dc_ {body:List Stmt} {ti:XI} {n:Nat} {g:TG} {gx:XG} (hp:PassesOwn (model X.prog X.w) X.A X.env X.xe) (hc:X.calm=true) (hi:XIt X Ex tg iter ti) (hg:PG X tg g) (hgx:GX n g gx) (hb:XSs X Ex body G) (hs:∀ x,foldedSetIterable iter X.env x=pure x:=by intro _; rfl):XSt X Ex (.For tg iter body [] pos) (xFor ti gx G):=fun F =>
 (ps_for hp hc (hi F) hg (hb F) hs).weak (tFor_x hgx)
theorem fb_ (h:∀ F,[OkF X Ex F]→PS X st (tXS F G)):XSt X Ex st G:=h
end
section
variable {F:Fm} {ρ:En} {σ:St} {fr:List Rw} {H:Hp} {i:Nat}
theorem ey_ {l:List Dx} {f:List Dx→Sl} (E:EOk F ρ σ fr H) (h:(ρ[i]?).bind lent=some (l,f)):∃ p ws,σ[i]? = some (some (.ref p))∧H p=some (.lst ws)∧All2 (IsX (hid (owns (ρ.zip σ ++ fr)) (F.vis H))) l ws ∧
  ∀ l' ws',All2 (IsX (hid (owns (ρ.zip σ ++ fr)) (F.vis H))) l' ws'→EOk F (ρ.set i (f l')) σ fr (upd H p (.lst ws')):=by
 obtain ⟨sl,h3,h4⟩:=Option.bind_eq_some_iff.mp h
 obtain ⟨v,hv,hi,R⟩:=by_ E h3
 obtain ⟨p,ws,rfl,h5,h6,h7,h8⟩:=lent_row h4 R
 have hO:(owns (ρ.zip σ ++ fr)).Perm (owns ((sl,some (V.ref p)) :: ((ρ.zip σ).eraseIdx i ++ fr))):=((de_ h3 hv).append_right fr).flatMap_right _
 rw [aq_ h6] at hO
 refine ⟨p,ws,hv,h5,h7.imp fun _ _ z=>z.to (at_ fun a ha=>hO.mem_iff.mp ha),fun l' ws' hl' => ?_⟩
 obtain ⟨k1,k2,k3⟩:=h8 l'
 exact eok_put E.len hi hv (R.put h6 k1 k2 (k3 upd_same (hl'.imp fun _ _ z=>(z.to (at_ fun a ha=>hO.mem_iff.mpr ha)).to hid_put)))
theorem dict_put {l:List (Key×Dx)} (E:EOk F ρ σ fr H) (h:ρ[i]? = some (.v (.od l))):∃ p ws,σ[i]? = some (some (.ref p))∧H p=some (.dK ws)∧All2 (KvX (hid (owns (ρ.zip σ ++ fr)) (F.vis H))) l ws ∧
  ∀ l' ws',All2 (KvX (hid (owns (ρ.zip σ ++ fr)) (F.vis H))) l' ws'→EOk F (ρ.set i (.v (.od l'))) σ fr (upd H p (.dK ws')):=by
 obtain ⟨v,hv,hi,R⟩:=by_ E h
 obtain ⟨p,ws,rfl,h5,h7⟩:=R.atD
 have hO:(owns (ρ.zip σ ++ fr)).Perm (owns ((.v (.od l),some (V.ref p)) :: ((ρ.zip σ).eraseIdx i ++ fr))):=((de_ h hv).append_right fr).flatMap_right _
 rw [aq_ (a:=p) rfl] at hO
 refine ⟨p,ws,hv,h5,h7.imp fun _ _ z=>z.to (at_ fun a ha=>hO.mem_iff.mp ha),fun l' ws' hl' => ?_⟩
 exact eok_put E.len hi hv (R.putD (hl'.imp fun _ _ z=>z.to (at_ fun a ha=>hO.mem_iff.mpr ha)))
theorem lent_at {l:List Dx} {f:List Dx→Sl} (E:EOk F ρ σ fr H) (h:(ρ[i]?).bind lent=some (l,f)):∃ p ws,σ[i]? = some (some (.ref p))∧H p=some (.lst ws):=by
 obtain ⟨p,ws,h1,h2,_⟩:=ey_ E h
 exact ⟨p,ws,h1,h2⟩
end
def xApp (i:Nat) (t:XT):XS:=fun ρ D=>((ρ[i]?).bind lent).isSome=true∧t ρ fun s ρ'=>match (ρ'[i]?).bind lent with
 | some (l,f)=>l.length < 1000000∧D.nx (ρ'.set i (f (l ++ [s.d])))
 | none=>False
def xExt (i:Nat) (t:XT):XS:=fun ρ D=>((ρ[i]?).bind lent).isSome=true∧t ρ fun s ρ'=>match (ρ'[i]?).bind lent,s.d with
 | some (l,f),.lst m=>l.length + m.length≤1000000∧D.nx (ρ'.set i (f (l ++ m)))
 | _,_=>False
def xSetI (i:Nat) (ti te:XT):XS:=fun ρ D=>te ρ fun s ρ1=>((ρ1[i]?).bind lent).isSome=true∧ti ρ1 fun k ρ2=>match (ρ2[i]?).bind lent,k.d with
 | some (l,f),.int j=>(match ixN l.length j with | some n=>D.nx (ρ2.set i (f (l.set n s.d))) | none=>False)
 | _,_=>False
def putX (l:List (Key×Dx)) (k:Key) (d:Dx):List (Key×Dx):=if (l.any fun kv=>decide (kv.1=k))=true then l.map (fun kv=>if kv.1=k then (kv.1,d) else kv) else l ++ [(k,d)]
def xDPut (i:Nat) (tk tv:XT):XS:=fun ρ D=>tv ρ fun s ρ1=>(∃ l,ρ1[i]? = some (.v (.od l)))∧tk ρ1 fun k ρ2=>match ρ2[i]?,keyD k.d with
 | some (.v (.od l)),some key=>l.length < 1000000∧D.nx (ρ2.set i (.v (.od (putX l key s.d))))
 | _,_=>False
theorem putX_put {G:Hp} {l:List (Key×Dx)} {ws:List (Key×V)} {k:Key} {d:Dx} {v:V} (h:All2 (KvX G) l ws) (hd:IsX G d v):All2 (KvX G) (putX l k d) (putK ws k v):=by
 have any:∀ {l:List (Key×Dx)} {ws:List (Key×V)},All2 (KvX G) l ws→(l.any fun kv=>decide (kv.1=k))=(ws.any fun kv=>decide (kv.1=k)):=by
  intro l
  induction l with
  | nil=>intro ws h; rw [show ws=[] from h]; rfl
  | cons p l ih =>
   intro ws h
   obtain ⟨w,wr,rfl,⟨h1,_⟩,h3⟩:=h
   rw [List.any_cons,List.any_cons,ih h3,h1]
 have mp:∀ {l:List (Key×Dx)} {ws:List (Key×V)},All2 (KvX G) l ws→All2 (KvX G) (l.map fun kv=>if kv.1=k then (kv.1,d) else kv) (ws.map fun kv=>if kv.1=k then (kv.1,v) else kv):=by
  intro l
  induction l with
  | nil=>intro ws h; rw [show ws=[] from h]; rfl
  | cons p l ih =>
   intro ws h
   obtain ⟨w,wr,rfl,⟨h1,h2⟩,h3⟩:=h
   refine ⟨_,_,rfl,?_,ih h3⟩
   by_cases e:p.1=k
   ·show KvX G (if p.1=k then (p.1,d) else p) (if w.1=k then (w.1,v) else w)
    rw [if_pos e,if_pos (h1 ▸ e)]; exact ⟨h1,hd⟩
   ·show KvX G (if p.1=k then (p.1,d) else p) (if w.1=k then (w.1,v) else w)
    rw [if_neg e,if_neg (h1 ▸ e)]; exact ⟨h1,h2⟩
 unfold putX putK
 rw [any h]
 split
 ·exact mp h
 ·exact h.snoc ⟨rfl,hd⟩
section
variable {X:Cx} {Ex:ExT} {st:Stmt} {i:Nat} {t ti te tk tv:XT} {F:Fm} {K:FG_}
theorem tApp_x:∀ D σ H,tXS F (xApp i t) D σ H→tDrop (tBM K "list" rAppend (tVar i) (tCons (tX F t) tNil)) D σ H:=by
 rintro D σ H ⟨ρ,fr,d,E,⟨q0,q⟩,k⟩
 obtain ⟨⟨l0,f0⟩,h0⟩:=Option.isSome_iff_exists.mp q0
 obtain ⟨p,ws,hv,hp⟩:=lent_at E h0
 refine ⟨.ref p,hv,.inl ⟨rfl,ws,SqL.of hp⟩,ρ,fr,_,E,q,fun y s H' ρ' E' q' => ?_⟩
 split at q'
 ·rename_i l f hb
  obtain ⟨R,hx⟩:=E'.one
  obtain ⟨p',ws',hv',hp',hl,hput⟩:=ey_ E'.drop hb
  rw [hv] at hv'
  cases hv'
  exact ⟨p,ws',y,rfl,rfl,hp',by rw [hl.len]; have:=line1; omega,k.nx σ _ _ rfl (hput _ _ (hl.snoc hx)) q'.2⟩
 ·exact q'.elim
theorem tSetI_x:∀ D σ H,tXS F (xSetI i ti te) D σ H→tAsg (tX F te) (gSub (tVar i) (tX F ti) rSetL) D σ H:=by
 rintro D σ H ⟨ρ,fr,d,E,q,k⟩
 refine ⟨ρ,fr,_,E,q,fun y s H' ρ' E' q' => ?_⟩
 obtain ⟨q0,q'⟩:=q'
 obtain ⟨⟨l0,f0⟩,h0⟩:=Option.isSome_iff_exists.mp q0
 obtain ⟨p,ws,hv,hp⟩:=lent_at E' h0
 refine ⟨.ref p,hv,ρ',_,_,E',q',fun z s2 H2 ρ2 E2 q2 => ?_⟩
 split at q2
 ·rename_i l f j hb hj
  obtain ⟨R,hx1,hx2⟩:=E2.two
  rw [hj] at hx2
  cases hx2.int_eq
  obtain ⟨p',ws',hv',hp',hl,hput⟩:=ey_ (E2.drop.drop) hb
  rw [hv] at hv'
  cases hv'
  split at q2
  ·rename_i n hn
   exact ⟨p,ws',j,n,rfl,rfl,hp',by rw [hl.len]; exact hn,k.nx σ _ _ rfl (hput _ _ (hl.set hx1 n)) q2⟩
  ·exact q2.elim
 ·exact q2.elim
theorem tDPut_x:∀ D σ H,tXS F (xDPut i tk tv) D σ H→sDPut (tVar i) (tX F tk) (tX F tv) D σ H:=by
 rintro D σ H ⟨ρ,fr,d,E,q,k⟩
 refine ⟨ρ,fr,_,E,q,fun y s H' ρ' E' q' => ?_⟩
 obtain ⟨⟨l0,h0⟩,q'⟩:=q'
 obtain ⟨p,ws,hv,hp,_⟩:=dict_put E' h0
 refine ⟨.ref p,hv,ρ',_,_,E',q',fun z s2 H2 ρ2 E2 q2 => ?_⟩
 split at q2
 ·rename_i l key hb hk
  obtain ⟨R,hx1,hx2⟩:=E2.two
  obtain ⟨p',ws',hv',hp',hl,hput⟩:=dict_put (E2.drop.drop) hb
  rw [hv] at hv'
  cases hv'
  cases keyD_is hx2 hk
  exact ⟨p,_,rfl,DPut.k hp' (by rw [hl.len]; have:=line1; omega),k.nx σ _ _ rfl (hput _ _ (putX_put hl hx1)) q2.2⟩
 ·exact q2.elim
end
def xWhile (c:XC) (G:XS):XS:=fun ρ D => ∃ W:Nat→En→Prop,(∃ m,W m ρ)∧∀ m ρ,W m ρ→c ρ fun b ρ1=>if b=true then ∃ N:En→Prop,(∀ ρ',N ρ'→∃ m',m' < m∧W m' ρ')∧G ρ1 { D with nx:=N,ct:=N,bk:=D.nx } else D.nx ρ1
theorem xs_while {X:Cx} {Ex:ExT} {c:Expr} {body:List Stmt} {pos:Pos} {tc:XC} {G:XS} (hp:PassesOwn (model X.prog X.w) X.A X.env X.xe) (hc:XTe X Ex c tc) (hb:XSs X Ex body G):XSt X Ex (.While c body [] pos) (xWhile tc G):=fun F=>(ps_while hp (hc F) (hb F)).weak fun D σ H=>by
 rintro ⟨ρ,fr,d,E,⟨W,⟨m0,w0⟩,turn⟩,k⟩
 refine ⟨fun m σ1 H1=>σ1.length=σ.length∧∃ ρ1,EOk F ρ1 σ1 fr H1∧W m ρ1,⟨m0,rfl,ρ,E,w0⟩,?_⟩
 rintro m σ1 H1 ⟨hl,ρ1,E1,w1⟩
 refine ⟨ρ1,fr,_,E1,turn m ρ1 w1,fun b H2 ρ2 E2 q2 => ?_⟩
 cases b with
 | false=>exact k.nx σ1 H2 ρ2 hl E2 q2
 | true =>
  obtain ⟨N,hN,q2⟩:=q2
  have nxt:∀ σ' H' ρ',σ'.length=σ1.length→EOk F ρ' σ' fr H'→N ρ'→∃ m',m' < m∧σ'.length=σ.length∧∃ ρ1,EOk F ρ1 σ' fr H'∧W m' ρ1:=fun σ' H' ρ' h1 h2 h3=>by
   obtain ⟨m',h4,h5⟩:=hN ρ' h3
   exact ⟨m',h4,by rw [h1,hl],ρ',h2,h5⟩
  exact ⟨fun σ' H' => ∃ m',m' < m∧σ'.length=σ.length∧∃ ρ1,EOk F ρ1 σ' fr H'∧W m' ρ1,fun σ' H' h=>h,ρ2,fr,_,E2,q2,⟨nxt,fun v s σ' H' ρ' h1 h2 h3=>k.rt v s σ' H' ρ' (by rw [h1,hl]) h2 h3,fun σ' H' ρ' h1 h2 h3=>k.nx σ' H' ρ' (by rw [h1,hl]) h2 h3,nxt⟩⟩
def startX (N:List Str) (ds:List Dx):En:=ds.map (fun d=>.v (.tr d)) ++ List.replicate (N.length - ds.length) .un
abbrev retX (Q:Sv→Prop):XD:=⟨fun _=>Q (.tr .non),fun s _=>Q s,fun _=>False,fun _=>False⟩
theorem rep_args {F:Fm} {H:Hp} (R0:Rep F [] H) {m:Nat}:∀ {ds:List Dx} {vs:List V},All2 (IsX (F.vis H)) ds vs→Rep F ((ds.map (fun d=>Sl.v (.tr d)) ++ List.replicate m Sl.un).zip (vs.map some ++ List.replicate m none)) H
 | [],_,h=>by
  rw [show _=[] from h]
  simp only [List.map_nil,List.nil_append]
  rw [List.zip_replicate,Nat.min_self]
  have:=R0.addUs m
  simpa using this
 | d :: ds,_,⟨v,vr,e,h1,h2⟩=>by
  subst e
  have R:=rep_args (m:=m) R0 h2
  simp only [List.map_cons,List.cons_append,List.zip_cons_cons]
  refine R.add (h1.to fun b o hb=>hid_some.mpr ⟨fun z => ?_,hb⟩)
  obtain ⟨r,hr,hb⟩:=List.mem_flatMap.mp z
  have:∀ {ds:List Dx} {vs:List (Option V)} {r:Rw},r∈((ds.map (fun d=>Sl.v (.tr d)) ++ List.replicate m Sl.un).zip vs)→ownA r=[]:=by
   intro ds vs r hr
   obtain ⟨a,b⟩:=r
   have:=(List.of_mem_zip hr).1
   rcases List.mem_append.mp this with h | h
   ·obtain ⟨d,_,rfl⟩:=List.mem_map.mp h; rfl
   ·rw [(List.mem_replicate.mp h).2]; rfl
  rw [this hr] at hb
  cases hb
theorem res_ok {H Hs:Hp} {sub:Same Hs H} {nb:∀ b∈([]:List Addr),Hs b=none} {ib:∀ b∈([]:List Addr),∃ o,H b=some o} {P:List Rw} {H':Hp} {s:Sv} {v:V} (R:Rep ⟨H,Hs,[],sub,nb,ib⟩ ((.v s,some v) :: P) H'):Same H H'∧ResOk Hs H H' s v:=by
 refine ⟨fun b o h=>R.kp b o h (by simp),?_⟩
 match s with
 | .tr d =>
  obtain ⟨v',e,h⟩:=R.atT
  cases e
  exact h.to hid_sub
 | .ol l =>
  obtain ⟨a,vs,e,h1,h2⟩:=R.atL
  cases e
  exact ⟨a,vs,rfl,R.fr _ List.mem_cons_self a (List.mem_singleton.mpr rfl),h1,h2.imp fun _ _ z=>z.to (at_ fun c hc=>by rw [List.mem_singleton.mp hc]; exact List.mem_cons_self)⟩
 | .od l =>
  obtain ⟨a,vs,e,h1,h2⟩:=R.atD
  cases e
  exact ⟨a,vs,rfl,R.fr _ List.mem_cons_self a (List.mem_singleton.mpr rfl),h1,h2.imp fun _ _ z=>z.to (at_ fun c hc=>by rw [List.mem_singleton.mp hc]; exact List.mem_cons_self)⟩
 | .ow o =>
  have hn:=R.nd
  rw [av_] at hn
  obtain ⟨x,e,h⟩:=R.ok _ List.mem_cons_self
  cases e
  refine ⟨(List.nodup_append.mp hn).1,fun a ha=>R.fr _ List.mem_cons_self a ha,OwOk.mono (.of (at_ fun c hc => ?_)) o v (fun _ _=>rfl) h⟩
  rw [av_]
  exact List.mem_append_left _ hc
theorem fv_ {P:Program} {w:World} {K:FG_} {mg:MG_} {base:Heap} {x:Str} {st:Stmt} {f:Addr} {fd:FuncData} {N ps:List Str} {k:Nat} {g:GC} (Fn:Fun K x x st f fd) (S:FnScope N ps (defScope st)) (hlen:∀ ds Q,g ds Q→ds.length=ps.length) (hN:ps.length≤N.length)
  (hbody:∀ (cdv:Value) (A:Around) (outer:List Env) (s:Shared) (H:Hp) (E:XK),Room k (A.deeper (PyProof.Rows.envOfC x (defScope st) s.heap.objs.size f cdv)) →
   ∃ G,XSs (cxOf CX0 P w K mg base N x (defScope st) f cdv A outer s H E).nox noEx (defBody st) G∧∀ ds Q,g ds Q→G (startX N ds) (retX Q)):FnOk P w K mg base CX0 (k + 1) f fd ps (spX g):=by
 refine Fn.ok S (fun vs H Q E h => ?_) (fun cdv A outer s H vs Q E hr h => ?_)
 ·obtain ⟨Hs,ds,Qx,h1,h2,h3,_⟩:=h
  rw [h2.len]
  exact hlen ds Qx h3
 obtain ⟨Hs,ds,Qx,h1,h2,h3,h4⟩:=h
 obtain ⟨G,hG,hq⟩:=hbody cdv A outer s H E hr
 have hl:=hlen ds Qx h3
 refine ⟨_,hG ⟨H,Hs,[],h1,by simp,by simp⟩,startX N ds,[],retX Qx,⟨?_,?_⟩,hq ds Qx h3,⟨fun σ' H' ρ' _ E' q => ?_,fun v s σ' H' ρ' _ E' q => ?_,fun _ _ _ _ _ q=>q.elim,fun _ _ _ _ _ q=>q.elim⟩⟩
 ·unfold startX L2.start
  simp only [List.length_append,List.length_map,List.length_replicate]
  rw [h2.len]
 ·rw [List.append_nil]
  have hv:(Fm.vis ⟨H,Hs,[],h1,by simp,by simp⟩ H)=ext Hs H H:=rfl
  have R0:Rep ⟨H,Hs,[],h1,by simp,by simp⟩ [] H:=⟨List.nodup_nil,fun r hr=>by simp at hr,fun r hr=>by simp at hr,fun b o h _=>h,fun b hb=>by simp at hb⟩
  unfold startX L2.start
  rw [h2.len]
  refine rep_args R0 (h2.imp fun _ _ z=>z.to fun b o hb => ?_)
  cases q:H b with
  | none=>rw [h1 _ _ hb] at q; cases q
  | some u=>exact (az_ q).trans hb
 ·have R:=E'.rep.add (d:=.non) (v:=.non) IsX.of_non
  obtain ⟨e1,e2⟩:=res_ok R
  exact h4 _ _ _ e1 e2 q
 ·obtain ⟨e1,e2⟩:=res_ok E'.front
  exact h4 _ _ _ e1 e2 q
end Lf
namespace L2
open PySem
def tFrz' (t:TE):TE:=fun σ H Q => ∃ a kvs,H a=some (.dK kvs)∧∀ o,t σ (upd H a (.frz o (.dK kvs))) fun v H'=>H' a=some (.frz o (.dK kvs))∧Q v (upd H' a (.dK kvs))
theorem pe_frz' {X:Cx} {e:Expr} {t:TE} (h:PE X e t):PE X e (tFrz' t):=by
 intro pins s σ H Q I ⟨a,kvs,ha,q⟩
 exact pe_frz h pins s σ H Q I ⟨a,kvs,ha,fun o v z=>(by have:=I.base.frzs a o v z; rw [ha] at this; cases this),q⟩
def sFrz' (t:TS):TS:=fun D σ H => ∃ a kvs,H a=some (.dK kvs)∧∀ o,
 t ⟨fun σ' H'=>H' a=some (.frz o (.dK kvs))∧D.nx σ' (upd H' a (.dK kvs)),fun v H'=>H' a=some (.frz o (.dK kvs))∧D.rt v (upd H' a (.dK kvs)),fun σ' H'=>H' a=some (.frz o (.dK kvs))∧D.bk σ' (upd H' a (.dK kvs)),fun σ' H'=>H' a=some (.frz o (.dK kvs))∧D.ct σ' (upd H' a (.dK kvs))⟩ σ (upd H a (.frz o (.dK kvs)))
theorem ps_frz' {X:Cx} {st:Stmt} {t:TS} (h:PS X st t):PS X st (sFrz' t):=by
 intro pins s σ H D I ⟨a,kvs,ha,q⟩
 exact ps_frz h pins s σ H D I ⟨a,kvs,ha,fun o v z=>(by have:=I.base.frzs a o v z; rw [ha] at this; cases this),q⟩
theorem PS.or {X:Cx} {st:Stmt} {t u:TS} (h:PS X st t) (h':PS X st u):PS X st (fun D σ H=>t D σ H∨u D σ H):=fun pins s σ H D I q=>q.elim (h pins s σ H D I) (h' pins s σ H D I)
end L2
namespace Lf
open PySem L2
section
variable {F:Fm} {P:List Rw} {H H':Hp} {a:Addr} {kvs:List (Key×V)} {o:Obj}
theorem nem {b a:Addr} {B:List Addr} (h:b∈B) (h':a∉B):b≠a:=fun z=>h' (by rw [← z]; exact h)
def Fm.fz (F:Fm) (a:Addr) (o:Obj) (kvs:List (Key×V)) (ha:a∉F.B):Fm where
 H0:=upd F.H0 a (.frz o (.dK kvs))
 Hs:=upd F.Hs a (.frz o (.dK kvs))
 B:=F.B
 sub:=fun b u h=>by
  by_cases e:b=a
  ·subst e; rw [upd_same] at h ⊢; exact h
  ·rw [ah_ e] at h ⊢; exact F.sub _ _ h
 nb:=fun b hb=>by rw [ah_ (nem hb ha)]; exact F.nb b hb
 ib:=fun b hb=>by rw [ah_ (nem hb ha)]; exact F.ib b hb
theorem vis_B (h:F.vis H a=some (.dK kvs)):a∉F.B:=fun hB=>by
 obtain ⟨u,hu⟩:=F.ib a hB
 have:=(az_ hu).symm.trans h
 rw [F.nb a hB] at this
 cases this
theorem vis_ne {F:Fm} {ha:a∉F.B} {b:Addr} {H H':Hp} (hb:b≠a) (e:H' b=H b):(F.fz a o kvs ha).vis H' b=F.vis H b:=by
 have e1:(F.fz a o kvs ha).H0 b=F.H0 b:=ah_ hb
 have e2:(F.fz a o kvs ha).Hs b=F.Hs b:=ah_ hb
 show ext _ _ _ b=ext _ _ _ b
 unfold ext
 rw [e1,e2,e]
theorem Rep.fzD (R:Rep F P H) (hv:F.vis H a=some (.dK kvs)) (hno:a∉owns P) (ha:a∉F.B):Rep (F.fz a o kvs ha) P (upd H a (.frz o (.dK kvs))):=by
 refine ⟨R.nd,fun r hr=>(R.ok r hr).mono (fun b u hb => ?_) fun b hb=>ah_ fun z=>hno (z ▸ ck_ hr hb),fun r hr b hb => ?_,fun b u h1 h2 => ?_,fun b hb => ?_⟩
 ·have hb':=hid_some.mp hb
  by_cases e:b=a
  ·subst e
   rw [hv] at hb'
   cases hb'.2
   refine .inr ⟨o,kvs,.inl ⟨rfl,hid_some.mpr ⟨hb'.1,?_⟩⟩⟩
   exact (az_ (show (F.fz b o kvs ha).H0 b=some (.frz o (.dK kvs)) from upd_same)).trans upd_same
  ·exact .inl (hid_some.mpr ⟨hb'.1,by rw [vis_ne e (ah_ e)]; exact hb'.2⟩)
 ·have hba:b≠a:=fun z=>hno (z ▸ ck_ hr hb)
  have:=R.fr r hr b hb
  unfold FrOk at this ⊢
  split at this <;> simp_all [Fm.fz,ah_]
 ·by_cases e:b=a
  ·subst e
   have:some (HO.frz o (.dK kvs))=some u:=upd_same.symm.trans h1
   rw [upd_same]; exact this
  ·rw [ah_ e]
   exact R.kp b u ((ah_ e).symm.trans h1) h2
 ·obtain ⟨u,hu⟩:=R.lv b hb
  exact ⟨u,by rw [ah_ (nem hb ha)]; exact hu⟩
theorem Rep.thD {ha:a∉F.B} (R:Rep (F.fz a o kvs ha) P H) (hv:F.H0 a=none∨(F.H0 a=some (.dK kvs)∧F.Hs a=some (.dK kvs))):H a=some (.frz o (.dK kvs))∧Rep F P (upd H a (.dK kvs)):=by
 have hk:H a=some (.frz o (.dK kvs)):=R.kp a _ upd_same ha
 have hno:a∉owns P:=fun z=>by
  obtain ⟨r,hr,e⟩:=List.mem_flatMap.mp z
  have:=R.fr r hr a e
  rcases this.or with this | this
  ·exact ha this
  ·have h2:some (HO.frz o (.dK kvs))=none:=upd_same.symm.trans this
   cases h2
 refine ⟨hk,R.nd,fun r hr=>(R.ok r hr).mono (fun b u hb => ?_) fun b hb=>ah_ fun z=>hno (z ▸ ck_ hr hb),fun r hr b hb => ?_,fun b u h1 h2 => ?_,fun b hb => ?_⟩
 ·have hb':=hid_some.mp hb
  by_cases e:b=a
  ·subst e
   have hu:(F.fz b o kvs ha).vis H b=some (.frz o (.dK kvs)):=(az_ (show (F.fz b o kvs ha).H0 b=some (.frz o (.dK kvs)) from upd_same)).trans upd_same
   rw [hu] at hb'
   cases hb'.2
   refine .inr ⟨o,kvs,.inr ⟨rfl,hid_some.mpr ⟨hb'.1,?_⟩⟩⟩
   rcases hv with q | ⟨q1,q2⟩
   ·exact (aw_ q).trans (by rw [upd_same]; rfl)
   ·exact (az_ q1).trans q2
  ·exact .inl (hid_some.mpr ⟨hb'.1,by rw [← vis_ne (F:=F) (o:=o) (kvs:=kvs) (ha:=ha) e (ah_ (o:=.dK kvs) e).symm]; exact hb'.2⟩)
 ·have hba:b≠a:=fun z=>hno (z ▸ ck_ hr hb)
  have:=R.fr r hr b hb
  unfold FrOk at this ⊢
  split at this <;> simp_all [Fm.fz,ah_]
 ·by_cases e:b=a
  ·subst e
   rcases hv with q | ⟨q1,q2⟩
   ·rw [q] at h1; cases h1
   ·rw [q1] at h1; rw [upd_same]; exact h1
  ·rw [ah_ e]
   exact R.kp b u ((ah_ e).trans h1) h2
 ·obtain ⟨u,hu⟩:=R.lv b hb
  exact ⟨u,by rw [ah_ (nem hb ha)]; exact hu⟩
end
def keyX:Key→Dx
 | .inl i=>.int i
 | .inr x=>.str x
theorem keyX_is {H:Hp} (k:Key):IsX H (keyX k) (kV k):=by cases k <;> simp only [keyX,kV,IsX]
def keysX (l:List (Key×Dx)):List Dx:=l.map fun p=>keyX p.1
theorem ii_ {l:List (Key×Dx)}:(keysX l).length=l.length:=List.length_map _
theorem hg_ {F:Fm} {a:Addr} {o:Obj} {kvs:List (Key×V)} {l:List (Key×Dx)} {G:Hp} (h:∀ P H,Rep F P H→H a=some (.frz o (.dK kvs))) (hl:All2 (KvX G) l kvs):ItX F (Itd a o kvs) [] (keysX l) where
 go:=fun P H i d R hd=>⟨h _ _ R,by have:=(List.getElem?_eq_some_iff.mp hd).1; rw [ii_] at this; rw [hl.len]; exact this⟩
 stop:=fun P H i R hi=>⟨h _ _ R,by rw [ii_] at hi; rw [hl.len]; exact hi⟩
 yld:=fun P H i d x H' R hd q=>by
  obtain ⟨rfl,kv,q1,rfl⟩:=q
  obtain ⟨p,h1,h2⟩:=hl.get q1
  unfold keysX at hd
  rw [List.getElem?_map,h1] at hd
  cases hd
  show Rep F ((Sl.v (Sv.tr (keyX p.1)),some (kV kv.1)) :: ([] ++ P)) H'
  rw [h2.1]
  exact R.add (keyX_is _)
def tXSe (G:XS):TS:=fun D σ H => ∃ F,tXS F G D σ H
def tXe (t:XT):TE:=fun σ H Q => ∃ F,tX F t σ H Q
def tXce (t:XC):TT:=fun σ H Q => ∃ F,tXc F t σ H Q
theorem XSs.ex {X:Cx} {st:List Stmt} {G:XS} (h:XSs X noEx st G):PSs X st (tXSe G):=fun pins s σ H D I ⟨F,q⟩=>h F pins s σ H D I q
theorem XE.ex {X:Cx} {e:Expr} {t:XT} (h:XE X noEx e t):PE X e (tXe t):=fun pins s σ H D I ⟨F,q⟩=>h F pins s σ H D I q
theorem XCs.ex {X:Cx} {e:List Expr} {t:XC} (h:XCs X noEx e t):PCs X e (tXce t):=fun pins s σ H D I ⟨F,q⟩=>h F pins s σ H D I q
def xForK (i:Nat) (gx:XG) (G:XS):XS:=fun ρ D=>match ρ[i]? with
 | some (.v s)=>(match s.d with | .dic l=>forX gx G D (keysX l) (ρ.set i (.v (.tr s.d))) | _=>False)
 | _=>False
def xCompK (i n:Nat) (outs:List Nat) (gx:XG) (tc:XC) (te:XT):XT:=fun ρ Q=>match ρ[i]? with
 | some (.v s)=>(match s.d with | .dic l=>l.length≤1000000∧compX n gx tc te (fun acc cs=>Q (.ol acc) (back outs cs (ρ.set i (.v (.tr s.d))))) (keysX l) (caps outs (ρ.set i (.v (.tr s.d)))) [] | _=>False)
 | _=>False
theorem slot_dict {F:Fm} {ρ:En} {σ:St} {fr:List Rw} {H:Hp} {i:Nat} {s:Sv} {l:List (Key×Dx)} (E:EOk F ρ σ fr H) (h:ρ[i]? = some (.v s)) (hs:s.d=.dic l) :
  ∃ a ws,σ[i]? = some (some (.ref a))∧EOk F (ρ.set i (.v (.tr s.d))) σ fr H∧Rd (hid (owns ((ρ.set i (.v (.tr s.d))).zip σ ++ fr)) (F.vis H)) a (.dK ws)∧All2 (KvX (hid (owns ((ρ.set i (.v (.tr s.d))).zip σ ++ fr)) (F.vis H))) l ws:=by
 obtain ⟨v,hv,hi,R⟩:=by_ E h
 have R2:=R.frz
 have E2:=eok_put E.len hi hv R2
 obtain ⟨w,e,hx⟩:=R2.atT
 subst e
 rw [hs] at hx
 have hO:(owns ((ρ.set i (.v (.tr s.d))).zip σ ++ fr)).Perm (owns ((.v (.tr s.d),some w) :: ((ρ.zip σ).eraseIdx i ++ fr))):=((cl_ E.len hi hv).append_right fr).flatMap_right _
 rw [do_ rfl] at hO
 have hx2:=hx.to (at_ fun a ha=>hO.mem_iff.mp ha)
 obtain ⟨a,ws,rfl,h1,h2⟩:=hx2.dic_eq
 exact ⟨a,ws,hv,E2,h1,h2⟩
theorem vis_or {F:Fm} {P:List Rw} {H:Hp} {a:Addr} {kvs:List (Key×V)} (R:Rep F P H) (h:F.vis H a=some (.dK kvs)):F.H0 a=none∨(F.H0 a=some (.dK kvs)∧F.Hs a=some (.dK kvs)):=by
 cases q:F.H0 a with
 | none=>exact .inl rfl
 | some u =>
  have h1:F.Hs a=some (.dK kvs):=(az_ q).symm.trans h
  have h2:=F.sub _ _ h1
  rw [q] at h2
  exact .inr ⟨h2,h1⟩
theorem frz_vis {F:Fm} {H:Hp} {a:Addr} {o:Obj} {kvs:List (Key×V)} (h:F.vis H a=some (.frz o (.dK kvs))):∀ P H,Rep F P H→H a=some (.frz o (.dK kvs)):=fun P H2 R=>by
 cases q:F.H0 a with
 | none =>
  have h1:=(aw_ q).symm.trans h
  rw [nf_some h1] at h1
  cases h1
 | some u =>
  have h1:F.Hs a=some (.frz o (.dK kvs)):=(az_ q).symm.trans h
  exact R.kp a _ (F.sub _ _ h1) fun hB=>by rw [F.nb a hB] at h1; cases h1
section
variable {X:Cx} {Ex:ExT} {st:Stmt} {i n:Nat} {g:TG} {gx:XG} {G:XS} {outs:List Nat} {tc:XC} {te:XT}
theorem forK_x (hgx:GX n g gx) {F:Fm}:∀ D σ H,tXS F (xForK i gx G) D σ H→tFor (iKeys (tVar i)) g (tXSe G) D σ H∨sFrz' (tFor (iKeys (tVar i)) g (tXSe G)) D σ H:=by
 rintro D σ H ⟨ρ,fr,d,E,q,k⟩
 unfold xForK at q
 split at q
 ·rename_i s hs
  split at q
  ·rename_i l hl
   obtain ⟨a,ws,hv,E2,hr,hk⟩:=slot_dict E hs hl
   rw [hl] at E2 hr hk
   rw [← hl] at E2
   rcases hr with hr | ⟨o,hr⟩
   ·have hr':=hid_some.mp hr
    have hB:=vis_B hr'.2
    have hor:=vis_or E2.rep hr'.2
    refine .inr ⟨a,ws,E2.rep.vis _ _ hr'.2,fun o=>⟨.ref a,hv,a,o,ws,rfl,upd_same,?_⟩⟩
    have E3:EOk (F.fz a o ws hB) (ρ.set i (.v (.tr s.d))) σ ([] ++ fr) (upd H a (.frz o (.dK ws))):=⟨E2.len,E2.rep.fzD hr'.2 (by rw [hl]; exact hr'.1) hB⟩
    refine for_core (F:=F.fz a o ws hB) hgx (tb:=tXSe G) (fun _ _ _ z=>⟨_,z⟩) (d:=d) ⟨fun σ' H' ρ' h1 h2 h3 => ?_,fun v s σ' H' ρ' h1 h2 h3 => ?_,fun σ' H' ρ' h1 h2 h3 => ?_,fun σ' H' ρ' h1 h2 h3 => ?_⟩ E3 (hg_ (fun P H R=>R.kp a _ upd_same hB) hk) q
    ·obtain ⟨e1,e2⟩:=h2.rep.thD hor; exact ⟨e1,k.nx σ' _ ρ' h1 ⟨h2.len,e2⟩ h3⟩
    ·obtain ⟨e1,e2⟩:=h2.rep.thD hor; exact ⟨e1,k.rt v s σ' _ ρ' h1 ⟨h2.len,e2⟩ h3⟩
    ·obtain ⟨e1,e2⟩:=h2.rep.thD hor; exact ⟨e1,k.bk σ' _ ρ' h1 ⟨h2.len,e2⟩ h3⟩
    ·obtain ⟨e1,e2⟩:=h2.rep.thD hor; exact ⟨e1,k.ct σ' _ ρ' h1 ⟨h2.len,e2⟩ h3⟩
   ·have hr':=hid_some.mp hr
    refine .inl ⟨.ref a,hv,a,o,ws,rfl,E2.rep.vis _ _ hr'.2,?_⟩
    exact for_core (F:=F) hgx (tb:=tXSe G) (fun _ _ _ z=>⟨_,z⟩) k (row:=[]) E2 (hg_ (frz_vis hr'.2) hk) q
  ·exact q.elim
 ·exact q.elim
theorem compK_x (hgx:GX n g gx) (hno:outs.Nodup) {F:Fm}:∀ σ H Q,tX F (xCompK i n outs gx tc te) σ H Q→tComp n outs (iKeys (tVar i)) g (tXce tc) (tXe te) σ H Q∨tFrz' (tComp n outs (iKeys (tVar i)) g (tXce tc) (tXe te)) σ H Q:=by
 rintro σ H Q ⟨ρ,fr,Qx,E,q,k⟩
 unfold xCompK at q
 split at q
 ·rename_i s hs
  split at q
  ·rename_i l hl
   obtain ⟨a,ws,hv,E2,hr,hk⟩:=slot_dict E hs hl
   rw [hl] at E2 hr hk
   rw [← hl] at E2
   have q':(keysX l).length≤1000000∧_:=⟨by rw [ii_]; exact q.1,q.2⟩
   rcases hr with hr | ⟨o,hr⟩
   ·have hr':=hid_some.mp hr
    have hB:=vis_B hr'.2
    have hor:=vis_or E2.rep hr'.2
    refine .inr ⟨a,ws,E2.rep.vis _ _ hr'.2,fun o=>⟨.ref a,hv,a,o,ws,rfl,upd_same,?_⟩⟩
    have E3:EOk (F.fz a o ws hB) (ρ.set i (.v (.tr s.d))) σ ([] ++ fr) (upd H a (.frz o (.dK ws))):=⟨E2.len,E2.rep.fzD hr'.2 (by rw [hl]; exact hr'.1) hB⟩
    refine ir_ (F:=F.fz a o ws hB) (Q:=fun v H'=>H' a=some (.frz o (.dK ws))∧Q v (upd H' a (.dK ws))) (tcT:=tXce tc) (teT:=tXe te) hgx hno (fun _ _ _ z=>⟨_,z⟩) (fun _ _ _ z=>⟨_,z⟩) (fun v s H' ρ' h2 h3 => ?_) E3 (hg_ (fun P H R=>R.kp a _ upd_same hB) hk) q'
    obtain ⟨e1,e2⟩:=h2.rep.thD hor
    exact ⟨e1,k v s _ ρ' ⟨h2.len,e2⟩ h3⟩
   ·have hr':=hid_some.mp hr
    refine .inl ⟨.ref a,hv,a,o,ws,rfl,E2.rep.vis _ _ hr'.2,?_⟩
    exact ir_ (F:=F) (Q:=Q) (tcT:=tXce tc) (teT:=tXe te) hgx hno (fun _ _ _ z=>⟨_,z⟩) (fun _ _ _ z=>⟨_,z⟩) k (row:=[]) E2 (hg_ (frz_vis hr'.2) hk) q'
  ·exact q.elim
 ·exact q.elim
theorem xs_forK {x:Str} {px pos:Pos} {tg:Expr} {body:List Stmt} (hp:PassesOwn (model X.prog X.w) X.A X.env X.xe) (hc:X.calm=true) (hv:PE X (.Name x px) (tVar i)) (hg:PG X tg g) (hgx:GX n g gx) (hb:XSs X noEx body G) (hs:∀ y,foldedSetIterable (.Name x px) X.env y=pure y:=by intro _; rfl):XSt X Ex (.For tg (.Name x px) body [] pos) (xForK i gx G):=fun F =>
 (PS.or (ps_for hp hc (pi_keys hv) hg hb.ex hs) (ps_frz' (ps_for hp hc (pi_keys hv) hg hb.ex hs))).weak (forK_x hgx)
theorem xe_compK {dsc scope:Scope} {tgs N' N:List Str} {x:Str} {px pos:Pos} {tg elt:Expr} {ifs:List Expr} (S:CompScope dsc scope N tgs outs N') (hv:PE X (.Name x px) (tVar i)) (hg:∀ cl C s H ex,PG (cxComp X N' scope cl C s H ex) tg g) (hgx:GX tgs.length g gx) (hgt:Tgt tgs.length g)
  (hcs:∀ cl C s H ex,XCs (cxComp X N' scope cl C s H ex) noEx ifs tc) (he:∀ cl C s H ex,XE (cxComp X N' scope cl C s H ex) noEx elt te) (hno:outs.Nodup:=by decide) (hN0:X.N=N:=by rfl) (hsc:X.env.scope=dsc:=by rfl) (hc:X.calm=true:=by rfl) (hs:∀ y,foldedSetIterable (.Name x px) X.env y=pure y:=by intro _; rfl) :
  XE X Ex (.ListComp elt [⟨tg,.Name x px,ifs,0⟩] scope pos) (xCompK i tgs.length outs gx tc te):=fun F =>
 (PE.or (pe_comp S (pi_keys hv) hg hgt (fun a b c d e=>(hcs a b c d e).ex) (fun a b c d e=>(he a b c d e).ex) hN0 hsc hc hs) (pe_frz' (pe_comp S (pi_keys hv) hg hgt (fun a b c d e=>(hcs a b c d e).ex) (fun a b c d e=>(he a b c d e).ex) hN0 hsc hc hs))).weak (compK_x hgx hno)
end
theorem call_isX2 {X:Cx} (n m:Ty):CallR X (.builtin "isinstance") (fun xs H Q => ∃ x d p,xs=[x,.ref p]∧IsX H d x∧noScr d∧H p=some (.tup [.ty n.nm,.ty m.nm])∧Q (.bl (isT n d || isT m d)) H):=by
 intro pins s σ H xs us Q I r h
 obtain ⟨x,d,p,rfl,hx,hns,hp,q⟩:=h
 have e:PySem.W.kitAny X.K (.type (tyN d)) ([n.nm,m.nm].map Value.type)=some (isT n d || isT m d):=kitAny_2 (kit_tab hns) (kit_tab hns)
 have gen:∀ {t:Value},TyOf X.K H x t→t=.type (tyN d)→wpAny (model X.prog X.w) X.A (call (.builtin "isinstance") us) (EP X pins σ Q) X.xe s:=fun ty et =>
  call_isinstT pins s σ H _ us Q I r ⟨x,p,_,_,[n.nm,m.nm],rfl,ty,hp,by rw [et]; exact e,q⟩
 cases d with
 | non=>cases hx.non_eq; exact gen .non rfl
 | bl _=>cases hx.bl_eq; exact gen (.bl _) rfl
 | int _=>cases hx.int_eq; exact gen (.int _) rfl
 | str _=>cases hx.str_eq; exact gen (.str _) rfl
 | tup _=>obtain ⟨a,vs,rfl,h1,_⟩:=hx.tup_eq; exact gen (.tup h1) rfl
 | lst _=>obtain ⟨a,vs,rfl,h1,_⟩:=hx.lst_eq; exact gen (.lst h1) rfl
 | dic _ =>
  obtain ⟨a,vs,rfl,h1,_⟩:=hx.dic_eq
  rcases h1 with h1 | ⟨ob,h1⟩
  ·exact gen (.dK h1) rfl
  ·obtain ⟨u,w',rfl,r1,r2⟩:=vals2 r
   cases r2
   obtain ⟨_,its,rv,o,h2,h3,n',h4⟩:=(show ObjOk X.prog X.w H s.heap p (.tup ([n.nm,m.nm].map V.ty)) from I.hok p _ hp)
   have ei:=tys_of rv
   subst ei
   obtain ⟨cls,dd,data,sl⟩:=o
   dsimp only at h3 h4
   subst h3 h4
   have fin:∀ tk,EP X pins σ Q (.bool (isT n (.dic _) || isT m (.dic _))) { s with toks:=tk }:=fun tk=>⟨.bl _,H,I.tok _,rfl,q⟩
   cases (show u=Value.ref a from r1)
   obtain ⟨_,_,_,_,_,pp⟩:=(show ObjOk X.prog X.w H s.heap a (.frz ob (.dK vs)) from I.hok a _ h1)
   obtain ⟨o,es,ep,g1,g2,_⟩:=pp
   exact PySem.W.kia_tup PySem.W.kitx_dict I.kIn ⟨o,g1,g2.1⟩ h2 e (fun z=>nomatch z) fin
 | scr _ _=>exact hns.elim
 | ins _ _=>exact hns.elim
 | exc _=>exact hns.elim
def xIs2 (n m:Ty) (t:XT):XT:=fun ρ Q=>t ρ fun s ρ'=>match s.d with
 | .scr _ _=>False
 | .ins _ _=>False
 | .exc _=>False
 | d=>Q (.tr (.bl (isT n d || isT m d))) ρ'
theorem xe_isinst2 {X:Cx} {Ex:ExT} {e:Expr} {t:XT} {nm nm2:Str} {p q q2 q3 pos:Pos} {j:Nat} (n m:Ty) (hm:X.mg "isinstance" = none) (h:XE X Ex e t) (hT:PE X (.Tuple [.Name nm q,.Name nm2 q2] j q3) (tTup (tCons (tC (.ty n.nm)) (tCons (tC (.ty m.nm)) tNil)))) (hg:Gl X "isinstance" := by rfl)
  (he:starEach [e,.Tuple [.Name nm q,.Name nm2 q2] j q3] X.env=(false,eval e X.env) :: starEach [.Tuple [.Name nm q,.Name nm2 q2] j q3] X.env:=by rfl) (he2:starEach [.Tuple [.Name nm q,.Name nm2 q2] j q3] X.env=(false,eval (.Tuple [.Name nm q,.Name nm2 q2] j q3) X.env) :: starEach [] X.env:=by rfl)
  (hpl:(backTo pos (starEach [.Tuple [.Name nm q,.Name nm2 q2] j q3] X.env)).any (·.1)=false:=by rfl):XE X Ex (.Call (.Name "isinstance" p) [e,.Tuple [.Name nm q,.Name nm2 q2] j q3] [] pos) (xIs2 n m t):=fun F =>
 (em_ (call_isX2 n m) hg hm ct_ (as_ (h F) (as_ hT cb_ he2) he) (by decide) (by decide) he hpl).weak fun σ H Q=>by
  rintro ⟨ρ,fr,Qx,E,t,k⟩
  refine ⟨ρ,fr,_,E,t,fun v s H' ρ' E' q=>⟨by have:=line1; show 2≤sizeLine; omega,fun p hp => ?_⟩⟩
  obtain ⟨R,hx⟩:=E'.one
  have e:Same H' (upd H' p (.tup [.ty n.nm,.ty m.nm])):=gz_ hp _
  have R2:=R.grow e
  generalize hd:s.d=d at q hx
  cases d with
  | scr _ _=>exact q.elim
  | ins _ _=>exact q.elim
  | exc _=>exact q.elim
  | _=>exact ⟨v,_,p,rfl,(hx.to R.hv).to e,trivial,upd_same,k _ _ _ ρ' (EOk.back E'.len (R2.add (IsX.of_bl _))) q⟩
def xChain (g g':G2) (ta tb tc:XT):XT:=fun ρ Q=>ta ρ fun a ρ1=>tb ρ1 fun b ρ2=>g a.d b.d fun s=>match s with
 | .tr (.bl k)=>if k=true then tc ρ2 fun c ρ3=>g' b.d c.d fun s'=>Q s' ρ3 else Q (.tr (.bl false)) ρ2
 | _=>False
theorem tChain_x {F:Fm} {r r':R2} {g g':G2} {ta tb tc:XT} (hx:OpX r g) (hx':OpX r' g'):∀ σ H Q,tX F (xChain g g' ta tb tc) σ H Q→tChain r r' (tX F ta) (tX F tb) (tX F tc) σ H Q:=by
 rintro σ H Q ⟨ρ,fr,Qx,E,t,k⟩
 refine ⟨ρ,fr,_,E,t,fun v s H' ρ' E' t'=>⟨ρ',_,_,E',t',fun w s2 H2 ρ2 E2 t2 => ?_⟩⟩
 obtain ⟨R,h1,h2⟩:=E2.two
 have E2b:EOk F ρ2 σ ((.v s2,some w) :: fr) H2:=⟨E2.len,((E2.rep.perm (List.Perm.append_left _ (.swap _ _ _))).perm mid).tail.perm (.refl _)⟩
 have E2c:EOk F ρ2 σ ((.v (.tr s2.d),some w) :: fr) H2:=EOk.back E2.len (E2b.front.frz)
 obtain ⟨Rb,hb⟩:=E2c.one
 have h1b:IsX (hid (owns (ρ2.zip σ ++ (.v (.tr s2.d),some w) :: fr)) (F.vis H2)) s.d v:=h1.to (at_ fun c hc=>by
  have:(owns ((.v (.tr s2.d),some w) :: (ρ2.zip σ ++ fr))).Perm (owns (ρ2.zip σ ++ (.v (.tr s2.d),some w) :: fr)):=mid.symm.flatMap_right _
  have:=this.mem_iff.mpr hc
  rw [do_ rfl] at this
  exact this)
 have h2b:IsX (hid (owns (ρ2.zip σ ++ (.v (.tr s2.d),some w) :: fr)) (F.vis H2)) s2.d w:=hb.to (at_ fun c hc=>by
  have:(owns ((.v (.tr s2.d),some w) :: (ρ2.zip σ ++ fr))).Perm (owns (ρ2.zip σ ++ (.v (.tr s2.d),some w) :: fr)):=mid.symm.flatMap_right _
  have:=this.mem_iff.mpr hc
  rw [do_ rfl] at this
  exact this)
 refine hx F (ρ2.zip σ ++ (.v (.tr s2.d),some w) :: fr) H2 s.d s2.d v w _ _ E2c.rep h1b h2b t2 fun z s3 H3 R3 q => ?_
 split at q
 ·rename_i kb
  obtain ⟨z',e,hz⟩:=R3.atT
  cases e
  cases hz.bl_eq
  refine ⟨kb,rfl,?_⟩
  have E3:EOk F ρ2 σ ((.v (.tr s2.d),some w) :: fr) H3:=⟨E2.len,R3.tail⟩
  cases kb with
  | true =>
   refine ⟨ρ2,_,_,E3,q,fun u s4 H4 ρ4 E4 q4 => ?_⟩
   obtain ⟨R5,h5,h6⟩:=E4.two
   exact hx' F _ H4 s2.d s4.d w u Q (fun z=>Qx z ρ4) R5 h5 h6 q4 fun v' s' H' R' q=>k v' s' H' ρ4 (EOk.back E4.len R') q
  | false=>exact k _ _ H3 ρ2 (EOk.back E2.len (E3.drop.rep.add (IsX.of_bl _))) q
 ·exact q.elim
section
variable {X:Cx} {Ex:ExT} {a b c e:Expr} {pos:Pos} {r r':R2} {g g':G2} {ta tb tc te:XT} {op op':CmpOp}
theorem xe_chain (ho:OpR X (compareOp op) r) (hx:OpX r g) (ho':OpR X (compareOp op') r') (hx':OpX r' g') (ha:XE X Ex a ta) (hb:XE X Ex b tb) (hc:XE X Ex c tc) (hm:lastMarks [op,op'] [b,c]=false:=by with_unfolding_all rfl):XE X Ex (.Compare a [op,op'] [b,c] pos) (xChain g g' ta tb tc):=fun F=>(pe_chain ho ho' (ha F) (hb F) (hc F) hm).weak (tChain_x hx hx')
end
abbrev XO:=En→(Option Int→En→Prop)→Prop
def tXo (F:Fm) (t:XO):TO:=fun σ H Q => ∃ ρ fr Qx,EOk F ρ σ fr H∧t ρ Qx∧∀ b H' ρ',EOk F ρ' σ fr H'→Qx b ρ'→Q b H'
def XOp (X:Cx) (Ex:ExT) (e:Option Expr) (t:XO):Prop := ∀ F,[OkF X Ex F]→PO X e (tXo F t)
def xoN:XO:=fun ρ Q=>Q none ρ
def xoS (t:XT):XO:=fun ρ Q=>t ρ fun s ρ'=>match s.d with
 | .int i=>Q (some i) ρ'
 | _=>False
theorem xo_none {X:Cx} {Ex:ExT}:XOp X Ex none xoN:=fun F _ pins s σ H Q I h=>by
 obtain ⟨ρ,fr,Qx,E,t,k⟩:=h
 exact po_none pins s σ H Q I (k none H ρ E t)
theorem hl_ {X:Cx} {Ex:ExT} {e:Expr} {t:XT} (h:XE X Ex e t):XOp X Ex (some e) (xoS t):=fun F _ pins s σ H Q I hq=>by
 refine po_some (h F) pins s σ H Q I ?_
 obtain ⟨ρ,fr,Qx,E,t,k⟩:=hq
 refine ⟨ρ,fr,_,E,t,fun v s H' ρ' E' q => ?_⟩
 split at q
 ·rename_i i hi
  obtain ⟨R,hx⟩:=E'.one
  rw [hi] at hx
  cases hx.int_eq
  exact ⟨i,rfl,k (some i) H' ρ' E'.drop q⟩
 ·exact q.elim
def cutX {α:Type} (xs:List α) (lo hi:Option Int):List α:=(xs.drop (HT.sIx xs.length 0 lo)).take (HT.sIx xs.length xs.length hi - HT.sIx xs.length 0 lo)
def slX (a:Dx) (lo hi:Option Int) (Q:Sv→Prop):Prop:=match a with
 | .lst l=>Q (.ol (cutX l lo hi))
 | .str z=>z.length≤1000000∧Q (.tr (.str (Txt.slice z lo hi)))
 | _=>False
def xSl (t:XT) (lo hi:XO):XT:=fun ρ Q=>t ρ fun a ρ1=>lo ρ1 fun l ρ2=>hi ρ2 fun h ρ3=>slX a.d l h fun s=>Q s ρ3
theorem gv_ {X:Cx} {Ex:ExT} {e:Expr} {lo hi:Option Expr} {p2 pos:Pos} {t:XT} {tl th:XO} (K:FG_) (he:XE X Ex e t) (hl:XOp X Ex lo tl) (hh:XOp X Ex hi th) (h:X.K=K:=by rfl):XE X Ex (.Subscript e (.Slice lo hi none p2) pos) (xSl t tl th):=fun F =>
 (pe_slice (SlR.or (sl_listK K h) sl_str) (he F) (hl F) (hh F)).weak fun σ H Q=>by
  rintro ⟨ρ,fr,Qx,E,t,k⟩
  refine ⟨ρ,fr,_,E,t,fun v s H' ρ' E' q=>⟨ρ',_,_,E',q,fun l H2 ρ2 E2 q2=>⟨ρ2,_,_,E2,q2,fun u H3 ρ3 E3 q3 => ?_⟩⟩⟩
  obtain ⟨R,hx⟩:=E3.one
  unfold slX at q3
  split at q3
  ·rename_i m hm
   rw [hm] at hx
   obtain ⟨a,vs,rfl,h1,h2⟩:=hx.lst_eq
   refine .inl ⟨a,vs,rfl,SqL.of (R.hv _ _ h1),fun p hp=>k _ _ _ ρ3 (EOk.back E3.len (R.newL hp ?_)) q3⟩
   unfold cutV cutX
   rw [h2.len]
   exact (h2.drop _).take _
  ·rename_i z hz
   rw [hz] at hx
   cases hx.str_eq
   exact .inr ⟨z,rfl,by have:=line1; omega,k _ _ H3 ρ3 (EOk.back E3.len (R.add (IsX.of_str _))) q3.2⟩
  ·exact q3.elim
def xRevL (t:XT):XT:=fun ρ Q=>t ρ fun s ρ'=>match s.d with
 | .lst l=>Q (.ol l.reverse) ρ'
 | _=>False
theorem sc_flat {d:Dx} {v:V} (h:scV d=some v):flatV v=true:=by
 cases d <;> simp only [scV,Option.some.injEq] at h <;> first | (subst h; rfl) | cases h
theorem sc_all {G:Hp}:∀ {l:List Dx} {vs:List V},All2 (IsX G) l vs→(l.all fun d=>(scV d).isSome)=true→vs=l.filterMap scV∧vs.all flatV=true
 | [],_,h,_=>by rw [show _=[] from h]; exact ⟨rfl,rfl⟩
 | d :: l,_,⟨v,vr,e,h1,h2⟩,h=>by
  rw [List.all_cons,Bool.and_eq_true] at h
  obtain ⟨x,hx⟩:=Option.isSome_iff_exists.mp h.1
  obtain ⟨e1,e2⟩:=sc_all h2 h.2
  subst e
  have:=scV_is h1 hx
  subst this
  exact ⟨by rw [List.filterMap_cons,hx,← e1],by rw [List.all_cons,sc_flat hx,e2]; rfl⟩
def allX:GC
 | [.lst l],Q=>(∃ bs:List Bool,l=bs.map Dx.bl∧Q (.tr (.bl (bs.all id))))
 | _,_=>False
theorem bls_are {G:Hp}:∀ {bs:List Bool} {vs:List V},All2 (IsX G) (bs.map Dx.bl) vs→vs=bs.map V.bl
 | [],_,h=>h
 | b :: bs,_,⟨v,vr,e,h1,h2⟩=>by rw [e,h1.bl_eq,bls_are h2]; rfl
theorem ints_are {G:Hp}:∀ {bs:List Int} {vs:List V},All2 (IsX G) (bs.map Dx.int) vs→vs=bs.map V.int
 | [],_,h=>h
 | b :: bs,_,⟨v,vr,e,h1,h2⟩=>by rw [e,h1.int_eq,ints_are h2]; rfl
theorem cx_all {K:FG_}:CallX (rAllL K) allX:=by
 intro F P H ds xs Q Qx R hs g k
 unfold allX at g
 split at g
 ·obtain ⟨bs,rfl,g⟩:=g
  obtain ⟨x,rfl,hx⟩:=dd_ hs
  obtain ⟨a,vs,rfl,h1,h2⟩:=hx.lst_eq
  have:=bls_are h2
  subst this
  exact ⟨a,bs,rfl,SqL.of (R.hv _ _ h1),k _ _ H (R.add (IsX.of_bl _)) g⟩
 ·exact g.elim
theorem call_allA {X:Cx} (K:FG_) (hc:X.calm=true) (h:X.K=K:=by rfl):CallR X (.builtin "all") (rAllL K):=by subst h; exact call_allL hc
def max2X:GC
 | [.int i,.int j],Q=>Q (.tr (.int (if j > i then j else i)))
 | _,_=>False
def min2X:GC
 | [.int i,.int j],Q=>Q (.tr (.int (if j < i then j else i)))
 | _,_=>False
theorem cx_max2:CallX (fun xs H Q => ∃ i j,xs=[.int i,.int j]∧Q (.int (if j > i then j else i)) H) max2X:=by
 intro F P H ds xs Q Qx R hs g k
 unfold max2X at g
 split at g
 ·obtain ⟨x,y,rfl,hx,hy⟩:=all2_2 hs
  cases hx.int_eq; cases hy.int_eq
  exact ⟨_,_,rfl,k _ _ H (R.add (IsX.of_int _)) g⟩
 ·exact g.elim
theorem cx_min2:CallX (fun xs H Q => ∃ i j,xs=[.int i,.int j]∧Q (.int (if j < i then j else i)) H) min2X:=by
 intro F P H ds xs Q Qx R hs g k
 unfold min2X at g
 split at g
 ·obtain ⟨x,y,rfl,hx,hy⟩:=all2_2 hs
  cases hx.int_eq; cases hy.int_eq
  exact ⟨_,_,rfl,k _ _ H (R.add (IsX.of_int _)) g⟩
 ·exact g.elim
def maxLX:GC
 | [.lst l],Q=>(∃ ns:List Int,l=ns.map Dx.int∧ns≠[]∧∀ M,M∈ns→(∀ a∈ns,a≤M)→Q (.tr (.int M)))
 | _,_=>False
theorem cx_maxL {K:FG_}:CallX (rMaxL K) maxLX:=by
 intro F P H ds xs Q Qx R hs g k
 unfold maxLX at g
 split at g
 ·obtain ⟨bs,rfl,g1,g⟩:=g
  obtain ⟨x,rfl,hx⟩:=dd_ hs
  obtain ⟨a,vs,rfl,h1,h2⟩:=hx.lst_eq
  have:=ints_are h2
  subst this
  exact ⟨a,bs,rfl,SqL.of (R.hv _ _ h1),g1,fun M h3 h4=>k _ _ H (R.add (IsX.of_int _)) (g M h3 h4)⟩
 ·exact g.elim
theorem fz_ {X:Cx} (K:FG_) (hc:X.calm=true) (h:X.K=K:=by rfl):CallR X (.builtin "max") (rMaxL K):=by subst h; exact call_maxR hc
theorem setC_x {F:Fm} {ti:XI} {n i:Nat} {g:TG} {gx:XG} {outs:List Nat} {tc:XC} {te:XT} (hgx:GX n g gx) (hno:outs.Nodup):∀ D σ H,tXS F (xSet i (xComp n outs ti gx tc te)) D σ H→tAsg (tComp n outs (tXi F ti) g (tXc F tc) (tX F te)) (gName i) D σ H:=by
 rintro D σ H ⟨ρ,fr,d,E,q,k⟩
 exact tComp_x hgx hno σ H _ ⟨ρ,fr,_,E,q,fun v s H' ρ' E' q'=>k.nx _ H' _ List.length_set (eok_set E') q'⟩
def startB (N:List Str) (l:List Dx) (ds:List Dx):En:=.bw l :: (ds.map (fun d=>.v (.tr d)) ++ List.replicate (N.length - (ds.length + 1)) .un)
def lentEnd (Q:Dx→List Dx→Prop) (d:Dx) (ρ:En):Prop:=match (ρ[0]? : Option Sl) with
 | some (Sl.bw l)=>Q d l
 | _=>False
abbrev retB (Q:Dx→List Dx→Prop):XD:=⟨fun ρ=>lentEnd Q .non ρ,fun s ρ=>lentEnd Q s.d ρ,fun _=>False,fun _=>False⟩
theorem fn_b {P:Program} {w:World} {K:FG_} {mg:MG_} {base:Heap} {x:Str} {st:Stmt} {f:Addr} {fd:FuncData} {N ps:List Str} {k:Nat} {g:GB} (Fn:Fun K x x st f fd) (S:FnScope N ps (defScope st)) (hlen:∀ l ds Q,g l ds Q→ds.length + 1=ps.length) (hN:ps.length≤N.length)
  (hbody:∀ (cdv:Value) (A:Around) (outer:List Env) (s:Shared) (H:Hp) (E:XK),Room k (A.deeper (PyProof.Rows.envOfC x (defScope st) s.heap.objs.size f cdv)) →
   ∃ G,XSs (cxOf CX0 P w K mg base N x (defScope st) f cdv A outer s H E).nox noEx (defBody st) G∧∀ l ds Q,g l ds Q→G (startB N l ds) (retB Q)):FnOk P w K mg base CX0 (k + 1) f fd ps (spB g):=by
 refine Fn.ok S (fun vs H Q E h => ?_) (fun cdv A outer s H vs Q E hr h => ?_)
 ·obtain ⟨p,ws,l,vr,Hs,ds,Qx,rfl,_,_,_,_,h2,h3,_⟩:=h
  rw [List.length_cons,h2.len]
  exact hlen l ds Qx h3
 obtain ⟨p,ws,l,vr,Hs,ds,Qx,rfl,hp,h1,hsp,hl,h2,h3,h4⟩:=h
 obtain ⟨G,hG,hq⟩:=hbody cdv A outer s H E hr
 have hlen':=hlen l ds Qx h3
 have nb:∀ b∈[p],Hs b=none:=fun b hb=>by rw [List.mem_singleton.mp hb]; exact hsp
 have ib:∀ b∈[p],∃ o,H b=some o:=fun b hb=>by rw [List.mem_singleton.mp hb]; exact ⟨_,hp⟩
 have fin:∀ {d:Dx} {v:V} {σ':St} {H':Hp} {ρ':En},EOk ⟨H,Hs,[p],h1,nb,ib⟩ ρ' σ' ((.v (.tr d),some v) :: []) H'→lentEnd Qx d ρ'→Q v H':=fun {d v σ' H' ρ'} E' q=>by
  unfold lentEnd at q
  split at q
  ·rename_i l' h0
   obtain ⟨R,hx⟩:=E'.one
   obtain ⟨y,hy,hi,R2⟩:=by_ ⟨E'.len,R⟩ h0
   obtain ⟨a,ws',rfl,h5,h6⟩:=R2.atB
   have ha:a=p:=List.mem_singleton.mp (R2.fr _ List.mem_cons_self a (List.mem_singleton.mpr rfl))
   subst ha
   refine h4 d v l' ws' H' (fun b o hb => ?_) h5 (h6.imp fun _ _ z=>z.to (at_ fun c hc=>by rw [List.mem_singleton.mp hc]; exact List.mem_cons_self)) (hx.to hid_sub) q
   have hb':b≠a:=fun z=>by rw [z] at hb; unfold hide at hb; rw [if_pos rfl] at hb; cases hb
   rw [il_ hb'] at hb ⊢
   exact R.kp b o hb fun z=>hb' (List.mem_singleton.mp z)
  ·exact q.elim
 refine ⟨_,hG ⟨H,Hs,[p],h1,nb,ib⟩,startB N l ds,[],retB Qx,⟨?_,?_⟩,hq l ds Qx h3,⟨fun σ' H' ρ' _ E' q=>fin (EOk.back E'.len (E'.rep.add (d:=.non) (v:=.non) IsX.of_non)) q,fun v s σ' H' ρ' _ E' q=>fin (EOk.back E'.len E'.front.frz) q,fun _ _ _ _ _ q=>q.elim,fun _ _ _ _ _ q=>q.elim⟩⟩
 ·unfold startB L2.start
  simp only [List.length_append,List.length_map,List.length_replicate,List.length_cons]
  rw [h2.len]
  omega
 ·have R0:Rep ⟨H,Hs,[p],h1,nb,ib⟩ [] H:=⟨List.nodup_nil,fun r hr=>by simp at hr,fun r hr=>by simp at hr,fun b o h _=>h,ib⟩
  have hvis:Same Hs (Fm.vis ⟨H,Hs,[p],h1,nb,ib⟩ H):=fun b o hb=>(az_ (h1 _ _ hb)).trans hb
  have R1:=rep_args (m:=N.length - (ds.length + 1)) R0 (h2.imp fun _ _ z=>z.to hvis)
  have hown:owns ((ds.map (fun d=>Sl.v (.tr d)) ++ List.replicate (N.length - (ds.length + 1)) Sl.un).zip (vr.map some ++ List.replicate (N.length - (ds.length + 1)) none))=[]:=by
   unfold owns
   refine List.flatMap_eq_nil_iff.mpr fun r hr => ?_
   obtain ⟨a,b⟩:=r
   rcases List.mem_append.mp (List.of_mem_zip hr).1 with h | h
   ·obtain ⟨d,_,rfl⟩:=List.mem_map.mp h; rfl
   ·rw [(List.mem_replicate.mp h).2]; rfl
  rw [List.append_nil]
  have e:(startB N l ds).zip (L2.start N (.ref p :: vr))=(.bw l,some (.ref p)) :: (ds.map (fun d=>Sl.v (.tr d)) ++ List.replicate (N.length - (ds.length + 1)) Sl.un).zip (vr.map some ++ List.replicate (N.length - (ds.length + 1)) none):=by
   unfold startB L2.start
   rw [List.map_cons,List.cons_append,List.zip_cons_cons,List.length_cons,h2.len]
  rw [e]
  refine ⟨by rw [aq_ (a:=p) rfl,hown]; simp,fun r hr => ?_,fun r hr a ha => ?_,R1.kp,R1.lv⟩
  ·rw [aq_ (a:=p) rfl,hown]
   rcases List.mem_cons.mp hr with rfl | hr
   ·refine ⟨p,ws,rfl,hp,hl.imp fun _ _ z=>z.to fun b o hb=>hid_some.mpr ⟨fun z => ?_,hvis _ _ hb⟩⟩
    rw [List.mem_singleton.mp z,hsp] at hb; cases hb
   ·refine (R1.ok r hr).mono (.of fun b o hb => ?_) fun _ _=>rfl
    have hb':=hid_some.mp hb
    refine hid_some.mpr ⟨fun z => ?_,hb'.2⟩
    have h9:Hs p=some o:=(az_ hp).symm.trans (List.mem_singleton.mp z ▸ hb'.2)
    rw [hsp] at h9; cases h9
  ·rcases List.mem_cons.mp hr with rfl | hr
   ·exact ha
   ·exact R1.fr r hr a ha
theorem Cal.mono {P:Program} {w:World} {K:FG_} {mg:MG_} {base:Heap} {i j:Nat} {x:Str} {ps:List Str} {sp:Sp} (C:Cal P w K mg base i x ps sp) (h:i≤j):Cal P w K mg base j x ps sp:=by
 obtain ⟨f,fd,G,b,k,m⟩:=C
 exact ⟨f,fd,G.mono h,b,k,m⟩
theorem IsX.cast {H:Hp} {d d':Dx} {v:V} (h:IsX H d v) (e:d=d'):IsX H d' v:=e ▸ h
theorem slot_tree {F:Fm} {ρ:En} {σ:St} {fr:List Rw} {H:Hp} {i:Nat} {s:Sv} (E:EOk F ρ σ fr H) (h:ρ[i]? = some (.v s)) :
  ∃ v,σ[i]? = some (some v)∧EOk F (ρ.set i (.v (.tr s.d))) σ fr H∧IsX (hid (owns ((ρ.set i (.v (.tr s.d))).zip σ ++ fr)) (F.vis H)) s.d v:=by
 obtain ⟨v,hv,hi,R⟩:=by_ E h
 have R2:=R.frz
 have E2:=eok_put E.len hi hv R2
 obtain ⟨w,e,hx⟩:=R2.atT
 subst e
 have hO:(owns ((ρ.set i (.v (.tr s.d))).zip σ ++ fr)).Perm (owns ((.v (.tr s.d),some w) :: ((ρ.zip σ).eraseIdx i ++ fr))):=((cl_ E.len hi hv).append_right fr).flatMap_right _
 rw [do_ rfl] at hO
 exact ⟨w,hv,E2,hx.to (at_ fun a ha=>hO.mem_iff.mp ha)⟩
def xiZV (i j:Nat):XI:=fun ρ Q=>match ρ[i]? with
 | some (.v s)=>(match (ρ.set i (.v (.tr s.d)))[j]? with
  | some (.v s')=>(match s.d,s'.d with
   | .lst l,.lst m=>Q (zipX l m) ((ρ.set i (.v (.tr s.d))).set j (.v (.tr s'.d)))
   | .tup l,.tup m=>Q (zipX l m) ((ρ.set i (.v (.tr s.d))).set j (.v (.tr s'.d)))
   | _,_=>False)
  | _=>False)
 | _=>False
theorem itx_zipT {F:Fm} {K:FG_} {a b:Addr} {l m:List Dx}:ItX F (Itz true true K a b) [(.v (.tr (.tup l)),some (.ref a)),(.v (.tr (.tup m)),some (.ref b))] (zipX l m) where
 go:=fun P H i d R hd=>by
  obtain ⟨v,e,h⟩:=R.atT; cases e
  obtain ⟨_,vs,e,h1,h2⟩:=h.tup_eq; cases e
  obtain ⟨v,e,h'⟩:=R.tail.atT; cases e
  obtain ⟨_,ws,e,h3,h4⟩:=h'.tup_eq; cases e
  obtain ⟨c,c',e1,e2,_⟩:=gc_ hd
  obtain ⟨x,h5,_⟩:=h2.at e1
  obtain ⟨y,h6,_⟩:=h4.at e2
  exact ⟨vs,ws,x,y,SqT.of (R.hv _ _ h1),SqT.of (R.hv _ _ h3),h5,h6⟩
 stop:=fun P H i R hi=>by
  obtain ⟨v,e,h⟩:=R.atT; cases e
  obtain ⟨_,vs,e,h1,h2⟩:=h.tup_eq; cases e
  obtain ⟨v,e,h'⟩:=R.tail.atT; cases e
  obtain ⟨_,ws,e,h3,h4⟩:=h'.tup_eq; cases e
  refine ⟨vs,ws,SqT.of (R.hv _ _ h1),SqT.of (R.hv _ _ h3),?_⟩
  unfold zipX at hi
  rw [List.length_zipWith] at hi
  rw [h2.len,h4.len]
  omega
 yld:=fun P H i d x H' R hd q=>by
  obtain ⟨p,x,y,rfl,hp,rfl,q⟩:=q
  obtain ⟨v,e,h⟩:=R.atT; cases e
  obtain ⟨_,vs,e,h1,h2⟩:=h.tup_eq; cases e
  obtain ⟨v,e,h'⟩:=R.tail.atT; cases e
  obtain ⟨_,ws,e,h3,h4⟩:=h'.tup_eq; cases e
  obtain ⟨c,c',e1,e2,rfl⟩:=gc_ hd
  obtain ⟨x',h5,h7⟩:=h2.at e1
  obtain ⟨y',h6,h8⟩:=h4.at e2
  obtain ⟨q1,q2⟩:=q vs ws (SqT.of (R.hv _ _ h1)) (SqT.of (R.hv _ _ h3))
  rw [q1] at h5; cases h5
  rw [q2] at h6; cases h6
  exact R.newT hp ⟨_,_,rfl,h7,_,_,rfl,h8,rfl⟩
theorem xi_zipV {X:Cx} {Ex:ExT} {a b:Expr} {i j:Nat} {p pos:Pos} {es:List Expr} {kk:Nat} {tpos:Pos} (hm:X.mg "zip" = none) (ha:PE X a (tVar i)) (hb:PE X b (tVar j)) (hg:Gl X "zip" := by rfl) (hs:starEach [a,b] X.env=[(false,eval a X.env),(false,eval b X.env)]:=by rfl) (hs2:starEach [b] X.env=[(false,eval b X.env)]:=by rfl)
  (hs3:starEach [a,b] X.env=(false,eval a X.env) :: starEach [b] X.env:=by rfl) (hs4:starEach [b] X.env=(false,eval b X.env) :: starEach [] X.env:=by rfl) :
  XIt X Ex (.Tuple es kk tpos) (.Call (.Name "zip" p) [a,b] [] pos) (xiZV i j):=fun F _ pins s σ H R I h=>by
 have pa:PA X [a,b] (tCons (tVar i) (tCons (tVar j) tNil)):=as_ ha (as_ hb cb_ hs4) hs3
 obtain ⟨ρ,fr,Qx,E,t,k⟩:=h
 unfold xiZV at t
 split at t
 ·rename_i s1 h1
  split at t
  ·rename_i s2 h2
   obtain ⟨v,hv,E1,hx1⟩:=slot_tree E h1
   obtain ⟨w,hw,E2,hx2⟩:=slot_tree E1 h2
   have hx1':IsX (hid (owns (((ρ.set i (.v (.tr s1.d))).set j (.v (.tr s2.d))).zip σ ++ fr)) (F.vis H)) s1.d v:=hx1.to (at_ fun c hc=>by
    obtain ⟨w',hw',hj,R2⟩:=by_ E1 h2
    have hO:(owns (((ρ.set i (.v (.tr s1.d))).set j (.v (.tr s2.d))).zip σ ++ fr)).Perm (owns ((.v (.tr s2.d),w') :: (((ρ.set i (.v (.tr s1.d))).zip σ).eraseIdx j ++ fr))):=((cl_ E1.len hj hw').append_right fr).flatMap_right _
    have hO2:(owns ((ρ.set i (.v (.tr s1.d))).zip σ ++ fr)).Perm (owns ((.v s2,w') :: (((ρ.set i (.v (.tr s1.d))).zip σ).eraseIdx j ++ fr))):=((de_ h2 hw').append_right fr).flatMap_right _
    have:=hO.mem_iff.mp hc
    rw [do_ rfl] at this
    refine hO2.mem_iff.mpr ?_
    rw [av_]
    exact List.mem_append_right _ this)
   split at t
   ·rename_i l m e1 e2
    replace hx1':=hx1'.cast e1
    replace hx2:=hx2.cast e2
    obtain ⟨c,cs,rfl,g1,_⟩:=hx1'.lst_eq
    obtain ⟨d,ds,rfl,g2,_⟩:=hx2.lst_eq
    have R1:=(E2.rep.add hx2).add (d:=.lst l) (v:=.ref c) hx1'
    refine pi_zip (t1:=false) (t2:=false) hg hm pa hs hs2 pins s σ H R I ⟨_,hv,_,hw,c,d,rfl,⟨cs,SqL.of (E2.rep.hv _ _ g1)⟩,⟨ds,SqL.of (E2.rep.hv _ _ g2)⟩,k _ H _ [(.v (.tr (.lst l)),some (.ref c)),(.v (.tr (.lst m)),some (.ref d))] _ ⟨E2.len,R1.perm ((mid.symm.cons _).trans mid.symm)⟩ itx_zip t⟩
   ·rename_i l m e1 e2
    replace hx1':=hx1'.cast e1
    replace hx2:=hx2.cast e2
    obtain ⟨c,cs,rfl,g1,_⟩:=hx1'.tup_eq
    obtain ⟨d,ds,rfl,g2,_⟩:=hx2.tup_eq
    have R1:=(E2.rep.add hx2).add (d:=.tup l) (v:=.ref c) hx1'
    refine pi_zip (t1:=true) (t2:=true) hg hm pa hs hs2 pins s σ H R I ⟨_,hv,_,hw,c,d,rfl,⟨cs,SqT.of (E2.rep.hv _ _ g1)⟩,⟨ds,SqT.of (E2.rep.hv _ _ g2)⟩,k _ H _ [(.v (.tr (.tup l)),some (.ref c)),(.v (.tr (.tup m)),some (.ref d))] _ ⟨E2.len,R1.perm ((mid.symm.cons _).trans mid.symm)⟩ itx_zipT t⟩
   ·exact t.elim
  ·exact t.elim
 ·exact t.elim
theorem forX_ind {gx:XG} {G:XS} {D:XD} (Pv:List Dx→En→Prop) (hd:∀ ρ,Pv [] ρ→D.nx ρ) (hs:∀ d ds ρ (K:En→Prop),Pv (d :: ds) ρ→(∀ ρ',Pv ds ρ'→K ρ')→gx d ρ fun ρ1=>G ρ1 { D with nx:=K,ct:=K,bk:=D.nx }) :
  ∀ {ds:List Dx} {ρ:En},Pv ds ρ→forX gx G D ds ρ
 | [],ρ,h=>hd ρ h
 | d :: ds,ρ,h=>hs d ds ρ (forX gx G D ds) h fun ρ' h'=>forX_ind Pv hd hs h'
section
variable {α:Type} {a b c d:α}
theorem at10:atI [a] 0=some a:=rfl
theorem at20:atI [a,b] 0=some a:=rfl
theorem at21:atI [a,b] 1=some b:=rfl
theorem at30:atI [a,b,c] 0=some a:=rfl
theorem at31:atI [a,b,c] 1=some b:=rfl
theorem at32:atI [a,b,c] 2=some c:=rfl
theorem at40:atI [a,b,c,d] 0=some a:=rfl
theorem at41:atI [a,b,c,d] 1=some b:=rfl
theorem at42:atI [a,b,c,d] 2=some c:=rfl
theorem at43:atI [a,b,c,d] 3=some d:=rfl
theorem ix30:ixN 3 0=some 0:=rfl
theorem ix31:ixN 3 1=some 1:=rfl
theorem ix32:ixN 3 2=some 2:=rfl
end
theorem dy_ {l:List Dx}:lent (.bw l)=some (l,.bw):=rfl
theorem dx_ {l:List Dx}:lent (.v (.ol l))=some (l,fun l'=>.v (.ol l')):=rfl
theorem len3 {α:Type} {a b c:α}:[a,b,c].length=3:=rfl
theorem atI_of {α:Type} {l:List α} {i:Int} (h0:0≤i) (h1:i < l.length):∃ x,atI l i=some x∧l[i.toNat]? = some x:=by
 have hk:i.toNat < l.length:=by omega
 refine ⟨l[i.toNat],?_,List.getElem?_eq_getElem hk⟩
 unfold atI
 have:ixN l.length i=some i.toNat:=by
  unfold ixN
  simp only [h0]
  split <;> simp_all <;> omega
 rw [this]
 exact List.getElem?_eq_getElem hk
abbrev GP:=List Dx→Dx→(Dx→Prop)→Prop
def OpL (r:R2) (g:GP):Prop := ∀ (G:Hp) (H:Hp) (p:Addr) (ws:List V) (l:List Dx) (b:Dx) (y:V) (Q:VK) (Qx:Dx→Prop),Same G H→H p=some (.lst ws)→All2 (IsX G) l ws→IsX G b y→g l b Qx→(∀ v d,IsX G d v→Qx d→Q v H)→r (.ref p) y H Q
def OpRt (r:R2) (g:GP):Prop := ∀ (G:Hp) (H:Hp) (p:Addr) (ws:List V) (l:List Dx) (b:Dx) (y:V) (Q:VK) (Qx:Dx→Prop),Same G H→H p=some (.lst ws)→All2 (IsX G) l ws→IsX G b y→g l b Qx→(∀ v d,IsX G d v→Qx d→Q v H)→r y (.ref p) H Q
def xPkL (g:GP) (i:Nat) (t:XT):XT:=fun ρ Q=>((ρ[i]?).bind lent).isSome=true∧t ρ fun k ρ'=>match (ρ'[i]?).bind lent with
 | some (l,_)=>g l k.d fun d=>Q (.tr d) ρ'
 | none=>False
def xPkR (g:GP) (t:XT) (i:Nat):XT:=fun ρ Q=>t ρ fun k ρ'=>match (ρ'[i]?).bind lent with
 | some (l,_)=>g l k.d fun d=>Q (.tr d) ρ'
 | none=>False
section
variable {X:Cx} {Ex:ExT} {F:Fm} {i:Nat} {t:XT} {r:R2} {g:GP} {x:Str} {a b e:Expr} {p pos:Pos}
theorem pkL_x (hx:OpL r g):∀ σ H Q,tX F (xPkL g i t) σ H Q→tOp r (tVar i) (tX F t) σ H Q:=by
 rintro σ H Q ⟨ρ,fr,Qx,E,⟨h0,q⟩,k⟩
 obtain ⟨⟨l,f⟩,h1⟩:=Option.isSome_iff_exists.mp h0
 obtain ⟨p,ws,hv,_⟩:=ey_ E h1
 refine ⟨.ref p,hv,ρ,fr,_,E,q,fun w s H' ρ' E' q' => ?_⟩
 split at q'
 ·rename_i l' f' hb
  obtain ⟨R,hs⟩:=E'.one
  obtain ⟨p',ws',hv',hp,hl,_⟩:=ey_ E'.drop hb
  rw [hv] at hv'; cases hv'
  exact hx _ H' p ws' l' s.d w Q _ R.hv hp hl hs q' fun v d hd qd=>k v (.tr d) H' ρ' (EOk.back E'.len (R.add hd)) qd
 ·exact q'.elim
theorem pkR_x (hx:OpRt r g):∀ σ H Q,tX F (xPkR g t i) σ H Q→tOp r (tX F t) (tVar i) σ H Q:=by
 rintro σ H Q ⟨ρ,fr,Qx,E,q,k⟩
 refine ⟨ρ,fr,_,E,q,fun w s H' ρ' E' q' => ?_⟩
 split at q'
 ·rename_i l' f' hb
  obtain ⟨R,hs⟩:=E'.one
  obtain ⟨p,ws',hv,hp,hl,_⟩:=ey_ E'.drop hb
  exact ⟨.ref p,hv,hx _ H' p ws' l' s.d w Q _ R.hv hp hl hs q' fun v d hd qd=>k v (.tr d) H' ρ' (EOk.back E'.len (R.add hd)) qd⟩
 ·exact q'.elim
def ixP:GP:=fun l k Q=>match k with
 | .int j=>(match atI l j with | some d=>Q d | none=>False)
 | _=>False
theorem ol_ix {K:FG_}:OpL (rIxL K) ixP:=by
 intro G H p ws l b y Q Qx hs hp hl hb g k
 unfold ixP at g
 split at g
 ·cases hb.int_eq
  split at g
  ·rename_i d hd
   obtain ⟨v,h1,h2⟩:=all2_atI hl hd
   exact ⟨_,_,_,_,rfl,rfl,SqL.of hp,h1,k v d h2 g⟩
  ·exact g.elim
 ·exact g.elim
theorem ee_ (K:FG_) (hv:PE X (.Name x p) (tVar i)) (hb:XE X Ex b t) (hs:PlainIx b) (h:X.K=K:=by rfl):XE X Ex (.Subscript (.Name x p) b pos) (xPkL ixP i t):=fun F=>by
 subst h
 exact (pe_ix gj_ hv (hb F) hs).weak (pkL_x ol_ix)
def neP (n:Bool):GP:=fun l k Q=>match k with
 | .lst []=>Q (.bl (if n then !l.isEmpty else l.isEmpty))
 | _=>False
theorem ol_ne {K:FG_} {r:R2} (n:Bool):OpL (fun x y H Q=>r x y H Q∨rEqN K n x y H Q) (neP n):=by
 intro G H p ws l b y Q Qx hs hp hl hb g k
 unfold neP at g
 split at g
 ·obtain ⟨p',vs',rfl,q3,q4⟩:=hb.lst_eq
  cases (show vs'=[] from q4)
  refine .inr ⟨p,p',ws,rfl,rfl,SqL.of hp,SqL.of (hs _ _ q3),k _ _ ?_ g⟩
  have:ws.isEmpty=l.isEmpty:=by
   have:=hl.len
   cases ws <;> cases l <;> simp at this ⊢
  rw [this]
  exact IsX.of_bl _
 ·exact g.elim
theorem xt_pkNe (K:FG_) (hu:X.A.units < cLine) (hv:PE X (.Name x p) (tVar i)) (hb:XE X Ex b t) (hm:behindInMarks .NotEq b=false) (h:X.K=K:=by rfl):XTe X Ex (.Compare (.Name x p) [.NotEq] [b] pos) (xB (xPkL (neP true) i t)):=fun F=>(pt_cmpR (op_neA K hu h) hv (hb F) hm).weak (ht_ (pkL_x (ol_ne true)))
def inP (neg:Bool):GP:=fun l k Q=>match scV k with
 | some u=>(l.all fun d=>(scV d).isSome)=true∧Q (.bl (if neg then !inV u (l.filterMap scV) else inV u (l.filterMap scV)))
 | none=>False
theorem or_in {K:FG_} (neg:Bool):OpRt (rIn K neg) (inP neg):=by
 intro G H p ws l b y Q Qx hs hp hl hb g k
 unfold inP at g
 split at g
 ·rename_i u hu
  cases scV_is hb hu
  obtain ⟨e1,e2⟩:=sc_all hl g.1
  subst e1
  exact ⟨p,_,rfl,.inl (SqL.of hp),sc_flat hu,e2,k _ _ (IsX.of_bl _) g.2⟩
 ·exact g.elim
theorem xt_pkIn (K:FG_) (hb:XE X Ex b t) (hv:PE X (.Name x p) (tVar i)) (hm:behindInMarks .In (.Name x p)=false) (h:X.K=K:=by rfl):XTe X Ex (.Compare b [.In] [.Name x p] pos) (xB (xPkR (inP false) t i)):=fun F=>(pt_cmpR (op_inK K h) (hb F) hv hm).weak (ht_ (pkR_x (or_in false)))
end
theorem XE.at {X:Cx} {Ex:ExT} {e:Expr} {t:XT} (F:Fm) [OkF X Ex F] (h:XE X Ex e t):PE X e (tX F t):=h F
theorem XIt.at {X:Cx} {Ex:ExT} {tg e:Expr} {t:XI} (F:Fm) [OkF X Ex F] (h:XIt X Ex tg e t):PI X tg e (tXi F t):=h F
theorem XCs.at {X:Cx} {Ex:ExT} {e:List Expr} {t:XC} (F:Fm) [OkF X Ex F] (h:XCs X Ex e t):PCs X e (tXc F t):=h F
section
variable {α:Type} {n:Nat} {gx:XG} {tc:XC} {te:XT} {Q:List Dx→List Sl→Prop}
abbrev stepX (n:Nat) (gx:XG) (tc:XC) (te:XT) (P:List Dx→List Sl→Prop) (d:Dx) (cs:List Sl) (acc:List Dx):Prop:=gx d (List.replicate n .un ++ cs) fun ρ1=>tc ρ1 fun b ρ2=>if b=true then te ρ2 fun s ρ3=>P (acc ++ [s.d]) (ρ3.drop n) else P acc (ρ2.drop n)
theorem bk_ {cs:List Sl} (φ ψ:α→Dx):∀ {as:List α} {acc:List Dx},(∀ a∈as,∀ (acc:List Dx) (P:List Dx→List Sl→Prop),P (acc ++ [ψ a]) cs→stepX n gx tc te P (φ a) cs acc) →
  Q (acc ++ as.map ψ) cs→compX n gx tc te Q (as.map φ) cs acc
 | [],acc,_,q=>by simpa [compX] using q
 | a :: as,acc,h,q=>by
  show gx (φ a) _ _
  exact h a List.mem_cons_self acc (fun acc cs=>compX n gx tc te Q (as.map φ) cs acc) (bk_ φ ψ (fun a' ha=>h a' (List.mem_cons_of_mem _ ha)) (by simpa [List.append_assoc] using q))
theorem cs_ (φ:α→Dx) (I:List α→List Dx→List Sl→Prop) (hd:∀ acc cs,I [] acc cs→Q acc cs) (hs:∀ a as acc cs (P:List Dx→List Sl→Prop),I (a :: as) acc cs→(∀ acc' cs',I as acc' cs'→P acc' cs')→stepX n gx tc te P (φ a) cs acc) :
  ∀ {as:List α} {acc:List Dx} {cs:List Sl},I as acc cs→compX n gx tc te Q (as.map φ) cs acc
 | [],acc,cs,h=>hd acc cs h
 | a :: as,acc,cs,h=>by
  show gx (φ a) _ _
  exact hs a as acc cs (fun acc cs=>compX n gx tc te Q (as.map φ) cs acc) h fun acc' cs' h'=>cs_ φ I hd hs h'
theorem bo_ {gx:XG} {G:XS} {D:XD} (φ:α→Dx) (Pv:List α→En→Prop) (hd:∀ ρ,Pv [] ρ→D.nx ρ) (hs:∀ d ds ρ (K:En→Prop),Pv (d :: ds) ρ→(∀ ρ',Pv ds ρ'→K ρ')→gx (φ d) ρ fun ρ1=>G ρ1 { D with nx:=K,ct:=K,bk:=D.nx }) :
  ∀ {ds:List α} {ρ:En},Pv ds ρ→forX gx G D (ds.map φ) ρ
 | [],ρ,h=>hd ρ h
 | d :: ds,ρ,h=>hs d ds ρ (forX gx G D (ds.map φ)) h fun ρ' h'=>bo_ φ Pv hd hs h'
end
section
variable {X:Cx} {Ex:ExT} {F:Fm} {e:Expr} {kws:List Keyword} {x:Str} {p pos:Pos} {u:XA} {t:XT}
def xMaxD (dd:Int) (u:XA):XT:=fun ρ Q=>u ρ fun ss ρ'=>match ss.map Sv.d with
 | [.lst l] => ∃ ns:List Int,l=ns.map Dx.int∧(ns=[]→Q (.tr (.int dd)) ρ')∧∀ M,M∈ns→(∀ a∈ns,a≤M)→Q (.tr (.int M)) ρ'
 | _=>False
theorem xe_maxD {dd:Int} (hc:X.calm=true) (hg:Gl X "max") (hm:X.mg "max" = none) (ha:XAs X Ex [e] u) (hkw:PK X kws (tCons (tC (.int dd)) tNil)) (hks:(backToKw pos (keywordEach kws X.env)).filterMap (·.1)=(["default"]:List Str):=by rfl)
  (he:backTo pos (starEach [e] X.env)=(false,eval e X.env) :: backTo pos (starEach [] X.env):=by rfl) (hpl:(backTo pos (starEach [e] X.env)).any (·.1)=false:=by rfl)
  (hall:(backToKw pos (keywordEach kws X.env)).all (·.1.isSome)=true:=by rfl) (hkn:(backToKw pos (keywordEach kws X.env)).any (·.1.isNone)=false:=by rfl):XE X Ex (.Call (.Name "max" p) [e] kws pos) (xMaxD dd u):=fun F=>by
 refine (pe_callBK (call_maxD hc) hg hm bt_max (ha F) hkw hks (by decide) (by decide) he hpl hall hkn).weak fun σ H Q => ?_
 rintro ⟨ρ,fr,Qx,E,t,k⟩
 refine ⟨ρ,fr,_,E,t,fun vs ss H2 ρ2 hl E2 q2 => ?_⟩
 obtain ⟨R,hs⟩:=E2.many hl
 generalize hds:ss.map Sv.d=ds at q2 hs
 split at q2
 ·obtain ⟨v,rfl,hv⟩:=dd_ hs
  obtain ⟨a,ws,rfl,h1,h2⟩:=hv.lst_eq
  obtain ⟨ns,rfl,q3,q4⟩:=q2
  have:=ints_are h2
  subst this
  exact ⟨a,ns,dd,rfl,rfl,SqL.of (R.hv _ _ h1),fun en=>k _ _ H2 ρ2 (EOk.back E2.len (R.add (IsX.of_int _))) (q3 en),fun M hM hle=>k _ _ H2 ρ2 (EOk.back E2.len (R.add (IsX.of_int _))) (q4 M hM hle)⟩
 ·exact q2.elim
theorem xe_glob {i:Int} (hg:Gl X x) (hm:∃ t,X.mg x=some (.int i t)) (hd:(x == ("__debug__" : Str))=false:=by decide):XE X Ex (.Name x pos) (xC (.int i)):=by
 obtain ⟨t,hm⟩:=hm
 exact xe_c (pe_glob (v:=.int i) hg hm ⟨t,rfl⟩ hd) _ fun _=>IsX.of_int _
end
theorem vals_of:∀ {xs:List V} {us:List Value},xs.length=us.length→(∀ (i:Nat) x u,xs[i]? = some x→us[i]? = some u→RelV x u)→Vals xs us
 | [],[],_,_=>.nil
 | [],_ :: _,h,_=>by simp at h
 | _ :: _,[],h,_=>by simp at h
 | x :: xs,u :: us,hl,h=>.cons (h 0 x u rfl rfl) (vals_of (by simpa using hl) fun i a b h1 h2=>h (i + 1) a b (by simpa using h1) (by simpa using h2))
def neL:G2:=fun a b Q=>match a,b with
 | .lst l,.lst m => ∃ ns:List Int,l=ns.map Dx.int∧m=ns.map Dx.int∧Q (.tr (.bl false))
 | _,_=>False
section
variable {X:Cx} {Ex:ExT} {F:Fm} {a b e:Expr} {x:Str} {p pos:Pos} {ta tb t:XT} {tl th:XO} {u:XA} {K:FG_}
theorem atI_map {α β:Type} {f:α→β} {l:List α} {i:Int}:atI (l.map f) i=(atI l i).map f:=by
 unfold atI
 rw [List.length_map]
 cases ixN l.length i with
 | none=>rfl
 | some n=>exact List.getElem?_map
def ixZ (K:FG_):G2
 | .scr K' ns,.int i,Q=>K'=K∧(match atI ns i with | some n=>Q (.tr (.int n)) | none=>False)
 | _,_,_=>False
theorem ox_ixZ:OpX (rIxL K) (ixZ K):=by
 intro F P H a b x y Q Qx R ha hb g k
 unfold ixZ at g
 split at g
 ·obtain ⟨rfl,g⟩:=g
  obtain ⟨p,rfl,h1⟩:=ha.scr_eq
  cases hb.int_eq
  split at g
  ·rename_i n hn
   refine ⟨p,_,_,V.int n,rfl,rfl,SameF.sq (.of R.hv) h1,?_,k _ _ H (R.add (IsX.of_int _)) g⟩
   rw [atI_map,hn]; rfl
  ·exact g.elim
 ·exact g.elim
theorem xe_ixZ (K:FG_) (ha:XE X Ex a ta) (hb:XE X Ex b tb) (hs:PlainIx b) (h:X.K=K:=by rfl):XE X Ex (.Subscript a b pos) (xOp (ixZ K) ta tb):=fun F=>(pe_ix (ix_listK K h) (ha F) (hb F) hs).weak (tOp_x ox_ixZ)
def lenZ (K:FG_):GC
 | [.scr K' ns],Q=>K'=K∧Q (.tr (.int ns.length))
 | _,_=>False
theorem cx_lenZ:CallX (rLen K) (lenZ K):=by
 intro F P H ds xs Q Qx R hs g k
 unfold lenZ at g
 split at g
 ·obtain ⟨rfl,g⟩:=g
  obtain ⟨x,rfl,hx⟩:=dd_ hs
  obtain ⟨a,rfl,h1⟩:=hx.scr_eq
  exact .inl ⟨a,_,rfl,.inl (SameF.sq (.of R.hv) h1),k _ _ H (R.add (by rw [List.length_map]; exact IsX.of_int _)) g⟩
 ·exact g.elim
end
def spLaw (K:FG_):Sp:=fun vs H Q _ => ∃ (a:Addr) (ns:List Int),vs=[.ref a]∧SqL K H a (ns.map V.int)∧ns.length≤63∧∀ H',Q (.bl true) H'
def gLaw (K:FG_):GC:=fun ds Q => ∃ ns:List Int,ds=[.scr K ns]∧ns.length≤63∧Q (.tr (.bl true))
theorem law_tree {P:Program} {w:World} {K:FG_} {mg:MG_} {base:Heap} {f:Addr} {fd:FuncData} {j:Nat} (h:FnOk P w K mg base CX0 j f fd ["script"] (spX (gLaw K))):FnOk P w K mg base CX0 j f fd ["script"] (spLaw K):=h.imp fun vs H Q E=>by
 rintro ⟨a,ns,rfl,hS,hl,q⟩
 refine ⟨H,[.scr K ns],fun s=>s=.tr (.bl true),Same.refl _,⟨_,_,rfl,IsX.of_scr hS,rfl⟩,⟨ns,rfl,hl,rfl⟩,fun s v H' _ hr e => ?_⟩
 subst e
 have hr':IsX (ext H H H') (.bl true) v:=hr
 cases hr'.bl_eq
 exact q H'
end Lf
namespace L2
open PySem
end L2
namespace Lf
open PySem L2
abbrev GE:=List Dx→(Sv→Prop)→ExT→Prop
theorem objOk_obj {P:Program} {w:World} {H:Hp} {h:Heap} {a:Addr} {o:HO} (x:ObjOk P w H h a o):∃ ob,h.get? a=some ob:=by
 cases o with
 | lst xs=>obtain ⟨z,its,n,r,e⟩:=x; exact ⟨_,e⟩
 | tup xs=>obtain ⟨z,its,r,ob,e,c⟩:=x; exact ⟨_,e⟩
 | dK kvs=>obtain ⟨z,y,vs,r,ob,es,ep,e,c⟩:=x; exact ⟨_,e⟩
 | dT kvs=>obtain ⟨z,y,xs,r,ob,es,ep,e,c⟩:=x; exact ⟨_,e⟩
 | set S n=>obtain ⟨ob,es,ep,t,e,c⟩:=x; exact ⟨_,e⟩
 | ins C dx fs=>obtain ⟨d,z,ne,e,_⟩:=x; exact ⟨_,e⟩
 | own y=>exact x
 | xd fs=>obtain ⟨mA,⟨od,es,ep,e,c⟩,r⟩:=x; exact ⟨_,e⟩
 | rng lo hi=>obtain ⟨t,u,v,e⟩:=x; exact ⟨_,e⟩
 | frz ob u=>exact ⟨_,x.1⟩
 | tbl ps=>exact ⟨_,x⟩
 | met f y=>exact ⟨_,x⟩
 | ext φ=>exact x.2.1
theorem HOk.none {P:Program} {w:World} {H:Hp} {h:Heap} (x:HOk P w H h) {a:Addr} (n:h.get? a=.none):H a=.none:=by
 cases q:H a with
 | none=>rfl
 | some o =>
  obtain ⟨ob,e⟩:=objOk_obj (x a o q)
  rw [n] at e; cases e
abbrev veM:List Value:=[.type "ValueError",.type "Exception",.type "BaseException",.type "object"]
abbrev XQ:=En→(En→Prop)→(Value→En→Prop)→Prop
end Lf
namespace PySem.W
open PySem PySem.Spec PySem.Calls PyProof.Rows
section
variable {prog:Program} {w:World} {A:Around} {E:SV_} {s:Shared} {K:Frag} {x C D:Addr} {ox:Obj} {od:Obj} {odo:Option Obj} {name:Str}
def excKit (K:Frag) (D:Addr):Bool:=(findIn K (.ref D) "__getattribute__" == some (some (.builtin "BaseException.__getattribute__"))) && (findIn K (.ref D) "__getattr__" == some none) && (mroIn K D (.type "BaseException") == some true) && (mroIn K D (.type "object") == some true) &&
 (findIn K (.ref D) "__class__" == some (some (.builtin "object.__class__"))) && (specialIn K (.builtin "object.__class__") "__get__" == some (some (.builtin "getset_descriptor.__get__"))) && (takesIn K (.builtin "object.__class__") == some true)
end
end PySem.W
namespace Lf
open PySem L2
open PySem.W (Frag nsIn)
def noName (K:Frag) (N:Addr) (n:Str):Bool:=match K.lookup N with
 | some ⟨_,_,.dict es _,_⟩=>es.toList.all (fun e=>match e.key with | .str _ _=>true | _=>false) && (es.toList.find? (·.key.isStr n)).isNone
 | _=>false
def tailOk (K:Frag):Nat→List Value→Bool
 | n + 1,.ref A :: r=>(match K.lookup A with
  | some ⟨_,_,.cls cd,_⟩=>noName K cd.ns "__init__" && tailOk K n r
  | _=>false)
 | _,l=>l == veM
def clsOk (K:Frag) (C:Addr):Bool:=match K.lookup C with
 | some ⟨.type "type",_,.cls cd,sl⟩=>(match cd.mro with
  | .ref C' :: tl=>C' == C && cd.hasDel == false && sl.size == 6 && sl[4]? == some (some (.builtin "ValueError.__new__")) && noName K cd.ns "__init__" && tailOk K 4 tl
  | _=>false) && PySem.W.excKit K C
 | _=>false
def clsAt (K:Frag) (n:Str):Option Addr:=match nsIn K mainGlobals n with
 | some (some (.ref C))=>some C
 | _=>none
section
variable {K:Frag} {h:Heap}
theorem noName_ns {N:Addr} {n:Str} (e:noName K N n=true) (X:K.In h):∃ m,h.Ns N m∧m n=none:=by
 unfold noName at e
 split at e
 ·rename_i c d es ep sl q
  obtain ⟨e1,e2⟩:=Bool.and_eq_true_iff.mp e
  refine ⟨nsFind es,⟨_,es,ep,X _ _ q,rfl,fun en hen => ?_,fun _=>rfl⟩,?_⟩
  ·have:=List.all_eq_true.mp e1 en (by simpa using hen)
   split at this
   ·rename_i x t hk; exact ⟨x,t,hk⟩
   ·cases this
  ·unfold nsFind findBy
   rw [← Array.find?_toList]
   rw [Option.isNone_iff_eq_none] at e2
   rw [e2]
   rfl
 ·cases e
theorem tailOk_own:∀ (k:Nat) (l:List Value),tailOk K k l=true→K.In h→OwnTail h veM l
  | 0, l, e, X => by
    have:l=veM:=by simpa [tailOk] using e
    rw [this]; exact .base
  | k + 1, [], e, X => by
    have:([]:List Value)=veM:=by simpa [tailOk] using e
    rw [this]; exact .base
  | k + 1, v :: r, e, X => by
    cases v with
    | ref A =>
      unfold tailOk at e
      split at e
      · rename_i c d cd sl q
        obtain ⟨e1,e2⟩:=Bool.and_eq_true_iff.mp e
        obtain ⟨m,hm,hn⟩:=noName_ns e1 X
        exact .own (X _ _ q) hm hn (tailOk_own k r e2 X)
      · cases e
    | none => have : Value.none :: r = veM := by simpa [tailOk] using e
              cases this
    | bool b => have : Value.bool b :: r = veM := by simpa [tailOk] using e
                cases this
    | int i t => have : Value.int i t :: r = veM := by simpa [tailOk] using e
                 cases this
    | str x t => have : Value.str x t :: r = veM := by simpa [tailOk] using e
                 cases this
    | bytes x t => have : Value.bytes x t :: r = veM := by simpa [tailOk] using e
                   cases this
    | float x t => have : Value.float x t :: r = veM := by simpa [tailOk] using e
                   cases this
    | builtin x => have : Value.builtin x :: r = veM := by simpa [tailOk] using e
                   cases this
    | type T => have : Value.type T :: r = veM := by simpa [tailOk] using e
                rw [this]; exact .base
    | _=>first | (simp [tailOk] at e; done) | (exfalso; revert e; simp [tailOk])
theorem clsOk_own {C:Addr} {x:Str} {mg:MG_} (e:clsOk K C=true) (hm:mg x=some (.ref C)) (X:K.In h):PyProof.Rows.OwnCls x C veM "ValueError.__new__" mg h:=by
 unfold clsOk at e
 split at e
 ·rename_i dd cd sl q
  obtain ⟨e1,_⟩:=Bool.and_eq_true_iff.mp e
  split at e1
  ·rename_i C' tl hmro
   simp only [Bool.and_eq_true,beq_iff_eq] at e1
   obtain ⟨⟨⟨⟨⟨rfl,h2⟩,h3⟩,h4⟩,h5⟩,h6⟩:=e1
   obtain ⟨m,hns,hni⟩:=noName_ns h5 X
   have hsl:sl = #[sl.getD 0 none,sl.getD 1 none,sl.getD 2 none,sl.getD 3 none,some (.builtin "ValueError.__new__"),sl.getD 5 none]:=by
    apply Array.ext_getElem?
    intro i
    match i with
    | 0=>simp [h3]
    | 1=>simp [h3]
    | 2=>simp [h3]
    | 3=>simp [h3]
    | 4=>simp [h4]
    | 5=>simp [h3]
    | i + 6=>rw [Array.getElem?_eq_none (by rw [h3]; omega),Array.getElem?_eq_none (by simp)]
   refine ⟨hm,tl,cd.ns,cd.name,cd.qualname,cd.bases,cd.hasDict,cd.slotNames,cd.subclasses,cd.abstract,cd.collection,dd,sl.getD 0 none,sl.getD 1 none,sl.getD 2 none,sl.getD 3 none,sl.getD 5 none,m,?_,hns,hni,tailOk_own 4 tl h6 X⟩
   have:=X _ _ q
   rw [this]
   obtain ⟨nm,bs,mro,ns,qn,hd,sn,sub,ab,col,hdel⟩:=cd
   dsimp only at hmro h2 ⊢
   subst hmro h2
   unfold excClassObj
   rw [← hsl]
  ·cases e1
 ·cases e
end
end Lf
namespace L2
open PySem PySem.Spec PySem.SeqAt PySem.AutoSeq1 PySem.MeetsSeq PyProof.Rows
def Itv (K:FG_) (a:Addr) (n:Nat):It :=
 ⟨fun i H => ∃ xs x,SqL K H a xs∧xs.length=n∧xs.reverse[i]? = some x,fun i H x H'=>H'=H∧∀ xs,SqL K H a xs→xs.reverse[i]? = some x,fun i _=>n≤i⟩
theorem turn_rev {P:Program} {w:World} {K:FG_} {tg:Expr} (a it:Addr) (n:Nat):Turn P w K tg (Itv K a n) [it] it (fun i h=>i≤n∧h.IsRevIter it a ((n:Int) - 1 - i)) where
 mem:=by simp
 obj:=fun i h st b hb=>by
  have e:b=it:=by simpa using hb
  subst e
  obtain ⟨_,o,e,c,d⟩:=st
  exact ⟨o,e,fun v z=>by rw [d] at z; cases z⟩
 keep:=fun i h h' st k=>⟨st.1,st.2.at fun o e=>k it (by simp) o e⟩
 item:=by
  intro X hP hw hK hc i pins s σ H E I hf st hg
  subst hP hw hK
  replace st:=st.2
  obtain ⟨xs,x,hq,hn,hx⟩:=hg
  subst hn
  obtain ⟨its,rv,p,hz⟩:=I.list hq
  obtain ⟨f0,f1,f2,f3,f4,f5⟩:=hf it (by simp)
  have hi:i < xs.length:=by
   have:=(List.getElem?_eq_some_iff.mp hx).1
   rwa [List.length_reverse] at this
  have hx':xs[xs.length - 1 - i]? = some x:=by rw [List.getElem?_reverse hi] at hx; exact hx
  obtain ⟨u,hu,ru⟩:=rv.get hx'
  have e1:(xs.length:Int) - 1 - (i:Int)=((xs.length - 1 - i:Nat):Int):=by omega
  rw [e1] at st
  refine wpAny_pyNext_rev_item st p.isList (x:=u) (by simpa using hu) fun h' st' sb => ?_
  have e2:((xs.length - 1 - i:Nat):Int) - 1=(xs.length:Int) - 1 - ((i + 1:Nat):Int):=by omega
  rw [e2] at st'
  have I1:Inv X pins σ H { s with heap:=h' }:=I.turned (t':=s.toks) (fun b o hb e=>(sb.2 b hb).trans e) f0 f1 f3 f4 f5
  obtain ⟨o,e,c,d⟩:=id st'
  exact ⟨u,rfl,go_of (s:={ s with heap:=h' }) e c d (by decide) ⟨x,H,I1,ru,⟨rfl,fun ys hy=>by rw [I.list_inj hy hq]; exact hx⟩,⟨hi,st'⟩,fun b hb=>(hf b hb).1⟩⟩
 done:=by
  intro X hP hw hK hc i pins s σ H E I hf st hg
  subst hP hw hK
  have hx:i=n:=Nat.le_antisymm st.1 hg
  subst hx
  replace st:=st.2
  obtain ⟨f0,f1,f2,f3,f4,f5⟩:=hf it (by simp)
  have e1:(i:Int) - 1 - (i:Int) = -1:=by omega
  rw [e1] at st
  exact wpAny_pyNext_rev_end (I.ok.hd hc) st fun h' eb=>⟨rfl,I.turned (t':=s.toks) (fun b o hb e=>eb b o hb e) f0 f1 f3 f4 f5⟩
 self:=fun _ _ _ _ _ st h=>wpAny_pyIter_revIter st.2 h
theorem bt_reversed:bootBuiltins "reversed" = some (.type "reversed"):=by decide +kernel
def iRev (K:FG_) (ta:TA):TI:=fun σ H R=>ta σ H fun vs H1 => ∃ a xs,vs=[.ref a]∧SqL K H1 a xs∧R (Itv K a xs.length) H1
theorem pi_rev {X:Cx} {tg ea:Expr} {ta:TA} {p pos:Pos} (hg:Gl X "reversed") (hm:X.mg "reversed" = none) (ha:PA X [ea] ta) (hs:starEach [ea] X.env=[(false,eval ea X.env)]:=by rfl) :
  PI X tg (.Call (.Name "reversed" p) [ea] [] pos) (iRev X.K ta):=by
 intro pins s σ H R I h
 refine Call_ (gr_ I hg hm bt_reversed (PyProof.Rows.callWith_type1 (thn (ha pos pins s σ H _ I h) fun us s1 ⟨vs,H1,I1,r1,q1⟩ => ?_) hs rfl))
 obtain ⟨a,xs,e,w1,q⟩:=q1
 subst e
 obtain ⟨u,rfl,ru⟩:=vals1 r1
 cases ru
 obtain ⟨its1,r2,p1,z1⟩:=I1.list w1
 have hlen:=r2.length
 refine call_reversed_list p1.isList ?_
 have st:(s1.heap.push (revObj a ((its1.toArray.size:Int) - 1))).IsRevIter s1.heap.objs.size a ((xs.length:Int) - 1 - ((0:Nat):Int)):=by
  have e:((its1.toArray.size:Nat):Int) - 1=(xs.length:Int) - 1 - ((0:Nat):Int):=by simp [hlen]
  rw [e]
  exact ⟨_,Heap.get?_push_size _ rfl,rfl,rfl⟩
 refine wpAny_pyIter_revIter st ?_
 refine ⟨s1.heap.objs.size,[s1.heap.objs.size],_,_,H1,rfl,I1.kept (t':=s1.toks) fun b o e=>Heap.get?_push_of_some _ e,turn_rev a _ xs.length,⟨Nat.zero_le _,st⟩,fun b hb => ?_,q⟩
 have e:b=s1.heap.objs.size:=by simpa using hb
 subst e
 exact I1.fpOk (Nat.le_refl _) (I1.hok.fresh (Nat.le_refl _))
end L2
namespace L2
open PySem PySem.Spec PySem.SeqAt PyProof.Rows
section
variable {X:Cx}
def rEqZ (K:FG_) (neg:Bool):R2:=fun x y H Q => ∃ (p b:Addr) (xs ys:List Int),x=.ref p∧y=.ref b∧SqL K H p (xs.map V.int)∧SqL K H b (ys.map V.int)∧Q (.bl (if neg then !decide (xs=ys) else decide (xs=ys))) H
theorem fm_:∀ {xs:List Int} {us:List Value},Vals (xs.map V.int) us→us.length=xs.length∧∀ j (h:j < us.length),∃ t,us[j]=Value.int (xs.getD j 0) t
 | [],_,h=>by cases h; exact ⟨rfl,fun j h=>absurd h (Nat.not_lt_zero _)⟩
 | x :: xs,_,h=>by
  cases h with
  | cons ra rb =>
   obtain ⟨e,k⟩:=fm_ rb
   obtain ⟨t,rfl⟩:=ra
   refine ⟨by simp [e],fun j h => ?_⟩
   cases j with
   | zero=>exact ⟨t,rfl⟩
   | succ j =>
    obtain ⟨t',e'⟩:=k j (by simpa using h)
    exact ⟨t',by simpa using e'⟩
theorem all_eq_dec:∀ {xs ys:List Int},xs.length=ys.length→(List.range xs.length).all (fun j=>xs.getD j 0 == ys.getD j 0)=decide (xs=ys):=by
 intro xs ys h
 by_cases e:xs=ys
 ·subst e
  simp
 ·rw [decide_eq_false e,List.all_eq_false]
  have:∃ j,j < xs.length∧xs.getD j 0≠ys.getD j 0:=by
   apply Classical.byContradiction
   intro hn
   apply e
   refine List.ext_getElem? fun j => ?_
   by_cases hj:j < xs.length
   ·have:xs.getD j 0=ys.getD j 0:=Classical.byContradiction fun z=>hn ⟨j,hj,z⟩
    rw [List.getD_eq_getElem?_getD,List.getD_eq_getElem?_getD,List.getElem?_eq_getElem hj,List.getElem?_eq_getElem (by omega)] at this
    rw [List.getElem?_eq_getElem hj,List.getElem?_eq_getElem (by omega)]
    exact congrArg some this
   ·rw [List.getElem?_eq_none (by omega),List.getElem?_eq_none (by omega)]
  obtain ⟨j,hj,hne⟩:=this
  exact ⟨j,List.mem_range.mpr hj,by simpa using hne⟩
theorem eqs_ints {A:Around} {s:Shared} {xs ys:List Int} {us ws:List Value} (r1:Vals (xs.map V.int) us) (r2:Vals (ys.map V.int) ws):∀ (j:Nat) (h1:j < us.toArray.size) (h2:j < ws.toArray.size),SeqAt.EqAt A s us.toArray[j] ws.toArray[j] (xs.getD j 0 == ys.getD j 0):=by
 intro j h1 h2
 obtain ⟨t,e1⟩:=(fm_ r1).2 j (by simpa using h1)
 obtain ⟨u,e2⟩:=(fm_ r2).2 j (by simpa using h2)
 rw [List.getElem_toArray,List.getElem_toArray,e1,e2]
 exact SeqAt.EqAt.int_int _ _ _ _
theorem op_neZ (hu:X.A.units < cLine):OpR X (compareOp .NotEq) (rEqZ X.K true):=by
 intro pins s σ H x y v u Q I rx ry h
 obtain ⟨p,b,xs,ys,rfl,rfl,h1,h2,q⟩:=h
 cases rx
 cases ry
 obtain ⟨its,r1,p1,_⟩:=I.list h1
 obtain ⟨its2,r2,p2,_⟩:=I.list h2
 have l1:=(fm_ r1).1
 have l2:=(fm_ r2).1
 by_cases hl:xs.length=ys.length
 ·refine PySem.SeqAt.RcNeAt.lists p1.isList p2.isList (by simp only [List.size_toArray]; omega) hu (eqs_ints r1 r2) _ _ _ _ ?_
  refine bh_ I q ?_
  rw [List.size_toArray,l1,all_eq_dec hl]
  rfl
 ·refine PySem.SeqAt.RcNeAt.lists_lengths p1.isList p2.isList (by simp only [List.size_toArray]; simp; omega) hu _ _ _ _ (bh_ I q ?_)
  rw [decide_eq_false fun e=>hl (by rw [e])]
  rfl
end
end L2
namespace Lf
open PySem L2
def eqI (neg:Bool):G2:=fun a b Q => ∃ xs ys:List Int,a=.lst (xs.map Dx.int)∧b=.lst (ys.map Dx.int)∧Q (.tr (.bl (if neg then !decide (xs=ys) else decide (xs=ys))))
theorem ints_of {G:Hp}:∀ {xs:List Int} {vs:List V},All2 (IsX G) (xs.map Dx.int) vs→vs=xs.map V.int
 | [],_,h=>h
 | x :: xs,_,⟨v,vr,e,h1,h2⟩=>by rw [e,ints_of h2,h1.int_eq]; rfl
theorem ox_eqI {K:FG_} {neg:Bool}:OpX (rEqZ K neg) (eqI neg):=by
 intro F P H a b x y Q Qx R ha hb g k
 obtain ⟨xs,ys,rfl,rfl,g⟩:=g
 obtain ⟨p,vs,rfl,q1,q2⟩:=ha.lst_eq
 obtain ⟨p',vs',rfl,q3,q4⟩:=hb.lst_eq
 cases ints_of q2
 cases ints_of q4
 exact ⟨p,p',xs,ys,rfl,rfl,SqL.of (R.hv _ _ q1),SqL.of (R.hv _ _ q3),k _ _ H (R.add (IsX.of_bl _)) g⟩
def xiV (u:XA):XI:=fun ρ Q=>u ρ fun ss ρ'=>match ss.map Sv.d with
 | [.lst l]=>Q l.reverse ρ'
 | _=>False
theorem itx_rev {F:Fm} {K:FG_} {a:Addr} {l:List Dx}:ItX F (Itv K a l.length) [(.v (.tr (.lst l)),some (.ref a))] l.reverse where
 go:=fun P H i d R hd=>by
  obtain ⟨v,e,h⟩:=R.atT; cases e
  obtain ⟨_,vs,e,h1,h2⟩:=h.lst_eq; cases e
  obtain ⟨x,h3,_⟩:=h2.rev.at hd
  exact ⟨vs,x,SqL.of (R.hv _ _ h1),h2.len,h3⟩
 stop:=fun P H i R hi=>by
  rw [List.length_reverse] at hi
  exact hi
 yld:=fun P H i d x H' R hd q=>by
  obtain ⟨rfl,q⟩:=q
  obtain ⟨v,e,h⟩:=R.atT; cases e
  obtain ⟨_,vs,e,h1,h2⟩:=h.lst_eq; cases e
  obtain ⟨y,h3,h4⟩:=h2.rev.at hd
  rw [q vs (SqL.of (R.hv _ _ h1))] at h3
  cases h3
  exact R.add h4
section
variable {X:Cx} {Ex:ExT} {tg a b c:Expr} {p pos:Pos} {u:XA}
theorem xi_rev (hm:X.mg "reversed" = none) (ha:XAs X Ex [a] u) (hg:Gl X "reversed" := by rfl) (hs:starEach [a] X.env=[(false,eval a X.env)]:=by rfl):XIt X Ex tg (.Call (.Name "reversed" p) [a] [] pos) (xiV u):=fun F=>(pi_rev hg hm (ha F) hs).weak fun σ H R=>by
 rintro ⟨ρ,fr,Qx,E,t,k⟩
 refine ⟨ρ,fr,_,E,t,fun vs ss H2 ρ2 hl E2 q => ?_⟩
 obtain ⟨R,hs⟩:=E2.many hl
 split at q
 ·rename_i l hj
  rw [hj] at hs
  obtain ⟨x,rfl,hx⟩:=dd_ hs
  obtain ⟨c,cs,rfl,h1,h2⟩:=hx.lst_eq
  refine ⟨c,cs,rfl,SqL.of (R.hv _ _ h1),k _ H2 ρ2 [(.v (.tr (.lst l)),some (.ref c))] _ (EOk.back E2.len (R.add hx)) ?_ q⟩
  rw [h2.len]
  exact itx_rev
 ·exact q.elim
end
open PySem.W (Frag nsIn)
structure ClsX (K:Frag) (mg:MG_) (n:Str) (C:Addr):Prop where
 at':clsAt K n=some C
 m:mg n=some (.ref C)
 ok:clsOk K C=true
theorem ClsX.own {K:Frag} {mg:MG_} {n:Str} {C:Addr} {base:Heap} (x:ClsX K mg n C) (X:K.In base):PyProof.Rows.OwnCls n C veM "ValueError.__new__" mg base:=clsOk_own x.ok x.m X
def xNeg (t:XT):XT:=fun ρ Q=>t ρ fun s ρ'=>match s.d with
 | .int i=>Q (.tr (.int (-i))) ρ'
 | _=>False
theorem xe_neg {X:Cx} {Ex:ExT} {e:Expr} {t:XT} {pos:Pos} (h:XE X Ex e t):XE X Ex (.UnaryOp .USub e pos) (xNeg t):=fun F=>(pe_un un_neg (h F)).weak fun σ H Q=>by
 rintro ⟨ρ,fr,Qx,E,t,k⟩
 refine ⟨ρ,fr,_,E,t,fun v s H' ρ' E' q => ?_⟩
 split at q
 ·rename_i i hi
  obtain ⟨R,hx⟩:=E'.one
  rw [hi] at hx
  cases hx.int_eq
  exact ⟨i,rfl,k _ _ H' ρ' (EOk.back E'.len (R.add (IsX.of_int _))) q⟩
 ·exact q.elim
def rows:List Dx→List V→List Rw
 | d :: ds,v :: vs=>(.v (.tr d),some v) :: rows ds vs
 | _,_=>[]
end Lf
namespace L2
open PySem PySem.Spec PyProof.Rows
end L2
namespace Lf
open PySem L2
theorem hq_ {G K:XS} {ρ:En} {D:XD} (M:En→Prop) (h1:∀ ρ',M ρ'→K ρ' D) (h2:∀ nx:En→Prop,(∀ ρ',M ρ'→nx ρ')→G ρ { D with nx:=nx }):xSeq G K ρ D:=h2 _ h1
end Lf
namespace L2
open PySem PySem.Spec PyProof.Rows
end L2
namespace Lf
open PySem L2
structure Bx (p:Prop):Prop where
 out:p
section
variable {X:Cx} {Ex:ExT} {a b c e o k v l:Expr} {es:List Expr} {t ta tb te tk tv:XT} {u:XA} {pos p p2:Pos} {x:Str} {i j:Nat}
variable {lo hi:Option Expr} {tl th:XO}
variable {r:R2} {g:G2} {op:CmpOp} {tc uc:XC} {rest:List Expr}
variable {st:Stmt} {sts as bs:List Stmt} {G K:XS}
theorem fk_ (h:Bx (XSt X Ex st G)):Bx (XSs X Ex [st] G):=⟨af_ h.out⟩
theorem cg_ (h:Bx (XSt X Ex st G)) (h':Bx (XSs X Ex sts K)):Bx (XSs X Ex (st :: sts) (xSeq G K)):=⟨ae_ h.out h'.out⟩
end
end Lf
namespace L2
open PySem PySem.Spec PySem.SeqAt PySem.AutoSeq1 PySem.MeetsSeq PyProof.Rows
def isNone:Value→Bool
 | .none=>true
 | _=>false
end L2
namespace Lf
open PySem L2
end Lf
namespace L2
open PySem PySem.Spec PySem.SeqAt PyProof.Rows
end L2
namespace Lf
open PySem L2
def xJoin (z:Str) (t:XT):XT:=fun ρ Q=>t ρ fun s ρ' => ∃ ys:List Str,s.d=.lst (ys.map Dx.str)∧(ys.map (·.length)).sum + ys.length * z.length≤16777216∧Q (.tr (.str (Txt.join z ys))) ρ'
theorem strs_of {G:Hp}:∀ {ys:List Str} {vs:List V},All2 (IsX G) (ys.map Dx.str) vs→vs=ys.map V.str
 | [],_,h=>h
 | x :: xs,_,⟨v,vr,e,h1,h2⟩=>by rw [e,strs_of h2,h1.str_eq]; rfl
theorem xe_join {X:Cx} {Ex:ExT} {e:Expr} {t:XT} {z:Str} {j:Nat} {sp apos cpos:Pos} (h:XE X Ex e t)
  (hbase:attributeBase (.Constant (.str z) j sp) "join" X.env (eval (.Constant (.str z) j sp) X.env)=eval (.Constant (.str z) j sp) X.env:=by rfl)
  (hfew:((backTo cpos (starEach [e] X.env)).all (fun x => !x.1) && (backToKw cpos (keywordEach [] X.env)).all (fun x=>x.1.isSome)
   && decide ([e].length + ([]:List Keyword).length + (if ([]:List Keyword).isEmpty then 0 else 1) < 30))=true:=by rfl)
  (hline:(apos.endLine == cpos.line)=true:=by rfl) (hs:starEach [e] X.env=(false,eval e X.env) :: starEach [] X.env:=by rfl) (hplain:(backTo cpos (starEach [] X.env)).any (·.1)=false:=by rfl) :
  XE X Ex (.Call (.Attribute (.Constant (.str z) j sp) "join" apos) [e] [] cpos) (xJoin z t):=fun F =>
 (pe_bm PySem.F.plainAttrs_str PySem.F.slot_str_join PySem.F.type_str_join mt_join (pe_str (x:=z)) (as_ (h F) cb_ hs) hbase hfew hline hs hplain).weak fun σ H Q=>by
  rintro ⟨ρ,fr,Qx,E,t,k⟩
  refine ⟨rfl,ρ,fr,_,E,t,fun v s H' ρ' E' q => ?_⟩
  obtain ⟨ys,hd,hz,q⟩:=q
  obtain ⟨R,hx⟩:=E'.one
  rw [hd] at hx
  obtain ⟨p,vs,rfl,q1,q2⟩:=hx.lst_eq
  cases strs_of q2
  exact ⟨z,p,ys,rfl,rfl,SqL.of (R.hv _ _ q1),hz,k _ _ H' ρ' (EOk.back E'.len (R.add (IsX.of_str _))) q⟩
end Lf
namespace L2
open PySem PySem.Spec PyProof.Rows
end L2
namespace Lf
open PySem L2
end Lf
namespace L2
open PySem PySem.Spec PyProof.Rows Builtin Builtin.Str
end L2
namespace Lf
open PySem L2
def xCallPk (g:GC) (i:Nat) (u:XA):XT:=fun ρ Q=>(∃ s,ρ[i]? = some (.v s))∧u ρ fun ss ρ'=>match ρ'[i]? with
 | some (.v s)=>g (s.d :: ss.map Sv.d) fun r => ∃ b,r=.tr (.bl b)∧Q (.tr (.bl b)) ρ'
 | _=>False
theorem xe_callPk {X:Cx} {Ex:ExT} {j i:Nat} {x:Str} {ps:List Str} {g:GC} {e:Expr} {es:List Expr} {u:XA} {p pos:Pos} (C:Cal X.prog X.w X.K X.mg X.base j x ps (spX g)) (hr:Room j X.A) (hv:PE X e (tVar i)) (ha:XAs X Ex es u) (hg:Gl X x:=by rfl) (hdb:(x == ("__debug__" : Str))=false:=by decide)
  (he:starEach (e :: es) X.env=(false,eval e X.env) :: starEach es X.env:=by rfl) (hpl:(backTo pos (starEach es X.env)).any (·.1)=false:=by rfl):XE X Ex (.Call (.Name x p) (e :: es) [] pos) (xCallPk g i u):=fun F=>(gq_ C hr (as_ hv (ha F) he) hg hdb he hpl).weak fun σ H Q=>by
 rintro ⟨ρ,fr,Qx,E,⟨⟨s0,h0⟩,t⟩,k⟩
 obtain ⟨v,hv',hi,R0⟩:=by_ E h0
 obtain ⟨w,rfl,_⟩:=R0.head
 refine ⟨w,hv',ρ,fr,_,E,t,fun vs ss H2 ρ2 hl E2 q2 => ?_⟩
 split at q2
 ·rename_i s h3
  obtain ⟨R,hs⟩:=E2.many hl
  obtain ⟨v2,hv2,hi2,R2⟩:=by_ ⟨E2.len,R⟩ h3
  rw [hv'] at hv2
  cases hv2
  obtain ⟨w',e,hx⟩:=R2.head
  cases e
  rw [List.append_nil]
  have hO:(owns (ρ2.zip σ ++ fr)).Perm (owns ((.v s,some w) :: ((ρ2.zip σ).eraseIdx i ++ fr))):=((de_ h3 hv').append_right fr).flatMap_right _
  refine ⟨_,s.d :: ss.map Sv.d,_,R2.tail.hv,⟨w,vs,rfl,hx,hs.imp fun _ _ z=>z.to (at_ fun c hc=>hO.mem_iff.mpr (by rw [av_]; exact List.mem_append_right _ hc))⟩,q2,fun r v H' e hr q => ?_⟩
  ·obtain ⟨b,rfl,q⟩:=q
   cases (IsX.bl_eq (H:=ext (hid (owns ((ρ2.zip σ).eraseIdx i ++ fr)) (F.vis H2)) H2 H') hr)
   exact k _ _ H' ρ2 (EOk.back E2.len ((R.grow e).add (IsX.of_bl _))) q
 ·exact q2.elim
end Lf
namespace L2
open PySem PySem.Spec PyProof.Rows Builtin Builtin.Str
end L2
namespace L2
open PySem PySem.Spec PyProof.Rows
end L2
namespace Lf
open PySem L2
def Sv.o? : Sv→Option Ow
 | .tr d=>some (.tr d)
 | .ow o=>some o
 | _=>none
def owR (os:List Ow) (xs:List V):List Rw:=(os.zip xs).map fun p=>(.v (.ow p.1),some p.2)
section
variable {F:Fm} {P:List Rw} {H:Hp} {s:Sv} {x:Option V} {o:Ow} {p:Addr} {os:List Ow} {xs:List V}
theorem Rep.toOw (R:Rep F ((.v s,x) :: P) H) (h:s.o? = some o):Rep F ((.v (.ow o),x) :: P) H:=by
 cases s with
 | tr d =>
  cases h
  have e:ownA (.v (.ow (.tr d)),x)=[]:=by simp only [ownA,Ow.fp]
  obtain ⟨v,rfl,hx⟩:=R.head
  exact R.tail.cons0 e ⟨v,rfl,by simp only [OwOk]; exact hx⟩
 | ol l=>cases h
 | od l=>cases h
 | ow o'=>cases h; exact R
theorem hc_:∀ {os:List Ow} {xs:List V},os.length=xs.length→owns (owR os xs)=owFs os
 | [],[],_=>by simp only [owR,List.zip_nil_left,List.map_nil,owns,List.flatMap_nil,owFs]
 | [],_ :: _,h=>by simp at h
 | _ :: _,[],h=>by simp at h
 | o :: os,x :: xs,h=>by
  show owns ((.v (.ow o),some x) :: owR os xs)=_
  rw [av_,hc_ (by simpa using h)]
  simp only [ownA,owFs]
theorem owR_oks {O:List Addr} {G H:Hp}:∀ {os:List Ow} {xs:List V},os.length=xs.length→(∀ r∈owR os xs,RowOk O G H r)→OwOks (hid O G) H os xs
 | [],[],_,_=>by simp only [OwOks]
 | [],_ :: _,h,_=>by simp at h
 | _ :: _,[],h,_=>by simp at h
 | o :: os,x :: xs,h,k=>by
  obtain ⟨y,e,h1⟩:=k (.v (.ow o),some x) List.mem_cons_self
  cases e
  simp only [OwOks]
  exact ⟨x,xs,rfl,h1,owR_oks (by simpa using h) fun r hr=>k r (List.mem_cons_of_mem _ hr)⟩
theorem owR_v {r:Rw} (h:r∈owR os xs):∃ s,r.1=.v s:=by
 obtain ⟨q,_,rfl⟩:=List.mem_map.mp h
 exact ⟨_,rfl⟩
theorem Rep.join {A:List Rw} {s:Sv} {x:Option V} {ob:HO} (R:Rep F (A ++ P) H) (hp:H p=none) (hA:(ownA (.v s,x)).Perm (p :: owns A)) (hv:∀ r∈A,∃ s,r.1=.v s) (h:RowOk (ownA (.v s,x) ++ owns P) (F.vis (upd H p ob)) (upd H p ob) (.v s,x)):Rep F ((.v s,x) :: P) (upd H p ob):=by
 have hno:=R.not_own hp
 have hq:=R.fresh hp
 have hperm:(ownA (.v s,x) ++ owns P).Perm (p :: owns (A ++ P)):=by
  rw [ay_]
  exact hA.append_right _
 refine ⟨by rw [av_]; exact hperm.nodup_iff.mpr (List.nodup_cons.mpr ⟨hno,R.nd⟩),fun r hr => ?_,fun r hr a ha => ?_,fun b o h1 h2 => ?_,fun b hb => ?_⟩
 ·rw [av_]
  rcases List.mem_cons.mp hr with rfl | hr
  ·exact h
  ·have hr':r∈A ++ P:=List.mem_append_right _ hr
   exact (R.ok r hr').mono (.of fun b u hb=>at_ (fun a ha=>hperm.mem_iff.mp ha) b u (im_ hp hq b u hb)) fun a ha=>ah_ fun z=>hno (z ▸ ck_ hr' ha)
 ·rcases List.mem_cons.mp hr with rfl | hr
  ·rcases List.mem_cons.mp (hA.mem_iff.mp ha) with rfl | ha
   ·exact hq
   ·obtain ⟨r,hr,e⟩:=List.mem_flatMap.mp ha
    have hf:=R.fr r (List.mem_append_left _ hr) a e
    obtain ⟨s',es⟩:=hv r hr
    unfold FrOk at hf
    rw [es] at hf
    exact hf
  ·exact R.fr r (List.mem_append_right _ hr) a ha
 ·have:=R.kp b o h1 h2
  rw [ah_ fun z=>by rw [z,hp] at this; cases this]
  exact this
 ·obtain ⟨u,hu⟩:=R.lv b hb
  exact ⟨u,by rw [ah_ fun z=>by rw [z,hp] at hu; cases hu]; exact hu⟩
theorem Rep.bundleL (R:Rep F (owR os xs ++ P) H) (hl:os.length=xs.length) (hp:H p=none):Rep F ((.v (.ow (.ol p os)),some (.ref p)) :: P) (upd H p (.lst xs)):=by
 have e:ownA (.v (.ow (.ol p os)),some (.ref p))=p :: owns (owR os xs):=by rw [hc_ hl]; simp only [ownA,Ow.fp]
 refine R.join hp (by rw [e]) (fun r hr=>owR_v hr) ?_
 rw [e]
 have hno:=R.not_own hp
 have hq:=R.fresh hp
 refine ⟨.ref p,rfl,?_⟩
 simp only [OwOk]
 refine ⟨trivial,xs,upd_same,?_⟩
 have h1:=owR_oks hl fun r hr=>R.ok r (List.mem_append_left _ hr)
 refine OwOks.mono (.of fun b u hb => ?_) os xs (fun b hb=>ah_ fun z => ?_) h1
 ·have:=im_ hp hq (o:=.lst xs) b u hb
  rw [ay_] at this
  exact this
 ·rw [hc_ hl |>.symm] at hb
  exact hno (z ▸ (by rw [ay_]; exact List.mem_append_left _ hb))
end
def compO (n:Nat) (gx:XG) (tc:XC) (te:XT) (Q:List Ow→List Sl→Prop):List Dx→List Sl→List Ow→Prop
 | [],cs,acc=>Q acc cs
 | d :: ds,cs,acc=>gx d (List.replicate n .un ++ cs) fun ρ1=>tc ρ1 fun b ρ2=>if b=true then te ρ2 fun s ρ3 => ∃ o,s.o? = some o∧compO n gx tc te Q ds (ρ3.drop n) (acc ++ [o]) else compO n gx tc te Q ds (ρ2.drop n) acc
def xCompO (n:Nat) (outs:List Nat) (ti:XI) (gx:XG) (tc:XC) (te:XT):XT:=fun ρ Q=>ti ρ fun ds ρ1=>ds.length≤1000000∧compO n gx tc te (fun acc cs => ∀ a,Q (.ow (.ol a acc)) (back outs cs ρ1)) ds (caps outs ρ1) []
section
variable {X:Cx} {Ex:ExT} {dsc scope:Scope} {tgs N':List Str} {outs:List Nat} {tg iter elt:Expr} {ifs:List Expr} {pos:Pos} {ti:XI} {g:TG} {gx:XG} {tc:XC} {te:XT}
theorem comp_coreO {F:Fm} {n:Nat} (hgx:GX n g gx) (hno:outs.Nodup) {tcT:TT} {teT:TE} (htc:∀ σ H Q,tXc F tc σ H Q→tcT σ H Q) (hte:∀ σ H Q,tX F te σ H Q→teT σ H Q) {σ:St} {H':Hp} {Q:VK} {Qx:Sv→En→Prop} {ρ':En} {fr row:List Rw} {ds:List Dx} {J:It}
  (k:∀ v s H' ρ',EOk F ρ' σ ((.v s,some v) :: fr) H'→Qx s ρ'→Q v H') (E':EOk F ρ' σ (row ++ fr) H') (hJ:ItX F J row ds) (q:ds.length≤1000000∧compO n gx tc te (fun acc cs => ∀ a,Qx (.ow (.ol a acc)) (back outs cs ρ')) ds (caps outs ρ') []) :
  ∃ W:Nat→Nat→List V→Hp→Prop,(∃ m,W 0 m [] H')∧∀ i m acc H,W i m acc H →
  (J.stop i H∧acc.length≤sizeLine∧∀ l,H l=none→Q (.ref l) (upd H l (.lst acc))) ∨
  (J.go i H∧acc.length < sizeLine∧∃ N:List V→Hp→Prop,(∀ acc' H',N acc' H'→∃ m',m' < m∧W (i + 1) m' acc' H')∧∀ x H',J.yld i H x H'→g x (pick n outs σ) H' fun σ2 H2=>tcT σ2 H2 fun b H3 =>
   if b=true then teT σ2 H3 fun y H4=>N (acc ++ [y]) H4 else N acc H3):=by
 obtain ⟨hd,q⟩:=q
 have zl:=line1
 refine ⟨fun i m acc H=>m=ds.length - i∧i≤ds.length∧∃ cs accD,cs.length=outs.length∧accD.length=acc.length∧acc.length≤i∧Rep F (cs.zip (vals σ outs) ++ (owR accD acc ++ (row ++ ((cut outs ρ').zip σ ++ fr)))) H ∧
  compO n gx tc te (fun acc cs => ∀ a,Qx (.ow (.ol a acc)) (back outs cs ρ')) (ds.drop i) cs accD,⟨ds.length,by simp,Nat.zero_le _,caps outs ρ',[],by simp [caps],rfl,Nat.le_refl _,?_,by simpa using q⟩,?_⟩
 ·have R:=pullAll (outs:=outs) hno E'.len E'.rep
  refine R.perm (List.Perm.append_left _ ?_)
  exact sw
 rintro i m acc H3 ⟨rfl,hi,cs,accD,hcl,hal,hai,R,hq⟩
 have hrow:Rep F (row ++ (cs.zip (vals σ outs) ++ (owR accD acc ++ ((cut outs ρ').zip σ ++ fr)))) H3:=by
  exact R.perm ((List.Perm.append_left _ sw).trans sw)
 by_cases hlt:i < ds.length
 ·right
  have hdi:ds[i]? = some ds[i]:=List.getElem?_eq_getElem hlt
  rw [List.drop_eq_getElem_cons hlt] at hq
  refine ⟨hJ.go _ _ i _ hrow hdi,by omega,fun acc' H4 => ∃ m',m' < ds.length - i∧(m'=ds.length - (i + 1)∧i + 1≤ds.length∧∃ cs accD,cs.length=outs.length∧accD.length=acc'.length∧acc'.length≤i + 1∧Rep F (cs.zip (vals σ outs) ++ (owR accD acc' ++ (row ++ ((cut outs ρ').zip σ ++ fr)))) H4 ∧
   compO n gx tc te (fun acc cs => ∀ a,Qx (.ow (.ol a acc)) (back outs cs ρ')) (ds.drop (i + 1)) cs accD),fun acc' H4 h=>h,fun x H4 hy => ?_⟩
  have R4:=hJ.yld _ _ i _ x H4 hrow hdi hy
  have hzip:∀ (cs:List Sl),cs.length=outs.length→(List.replicate n Sl.un ++ cs).zip (pick n outs σ)=List.replicate n (Sl.un,none) ++ cs.zip (vals σ outs):=fun cs hcs=>by
   unfold pick
   rw [List.zip_append (by rw [List.length_replicate,List.length_replicate]),List.zip_replicate]
   simp
  have Ei:EOk F (List.replicate n .un ++ cs) (pick n outs σ) ((.v (.tr ds[i]),some x) :: (owR accD acc ++ (row ++ ((cut outs ρ').zip σ ++ fr)))) H4:=by
   refine ⟨by rw [fq_,List.length_append,List.length_replicate,hcl],?_⟩
   rw [hzip cs hcl,List.append_assoc]
   refine Rep.addUs (R4.perm ?_) n
   exact ((sw.trans (List.Perm.append_left _ sw)).cons _).trans mid.symm
  have fin:∀ {ρ3:En} {σ2:St} {H5:Hp} {accD':List Ow} {acc':List V},σ2.length=(pick n outs σ).length→(∀ j,n≤j→σ2[j]? = (pick n outs σ)[j]?)→EOk F ρ3 σ2 (owR accD' acc' ++ (row ++ ((cut outs ρ').zip σ ++ fr))) H5→accD'.length=acc'.length→acc'.length≤i + 1 →
    compO n gx tc te (fun acc cs => ∀ a,Qx (.ow (.ol a acc)) (back outs cs ρ')) (ds.drop (i + 1)) (ρ3.drop n) accD' →
    ∃ m',m' < ds.length - i∧(m'=ds.length - (i + 1)∧i + 1≤ds.length∧∃ cs accD,cs.length=outs.length∧accD.length=acc'.length∧acc'.length≤i + 1∧Rep F (cs.zip (vals σ outs) ++ (owR accD acc' ++ (row ++ ((cut outs ρ').zip σ ++ fr)))) H5 ∧
     compO n gx tc te (fun acc cs => ∀ a,Qx (.ow (.ol a acc)) (back outs cs ρ')) (ds.drop (i + 1)) cs accD):=fun {ρ3 σ2 H5 accD' acc'} hl2 hs2 E3 h1 h2 h3=>by
   have hl3:ρ3.length=n + outs.length:=by rw [E3.len,hl2,fq_]
   refine ⟨ds.length - (i + 1),by omega,rfl,hlt,ρ3.drop n,accD',by rw [List.length_drop,hl3]; omega,h1,h2,?_,h3⟩
   have hv:σ2.drop n=vals σ outs:=by
    apply List.ext_getElem?
    intro j
    rw [List.getElem?_drop,hs2 _ (Nat.le_add_right n j)]
    unfold pick
    rw [List.getElem?_append_right (by rw [List.length_replicate]; omega),List.length_replicate,Nat.add_sub_cancel_left]
   have hz:ρ3.zip σ2=(ρ3.take n).zip (σ2.take n) ++ (ρ3.drop n).zip (σ2.drop n):=by
    rw [← List.zip_append (by rw [List.length_take,List.length_take,E3.len]),List.take_append_drop,List.take_append_drop]
   have R5:=E3.rep
   rw [hz,hv,List.append_assoc] at R5
   exact Rep.drops R5
  refine hgx F _ _ _ H4 _ x _ _ Ei hq fun σ2 H5 ρ1 E1 hl2 hs2 q1=>htc _ _ _ ⟨ρ1,_,_,E1,q1,fun b H6 ρ2 E2 q2 => ?_⟩
  cases b with
  | false=>exact fin hl2 hs2 E2 hal (by omega) q2
  | true =>
   refine hte _ _ _ ⟨ρ2,_,_,E2,q2,fun y s H7 ρ3 E3 q3 => ?_⟩
   obtain ⟨o,ho,q3⟩:=q3
   refine fin (accD':=accD ++ [o]) (acc':=acc ++ [y]) hl2 hs2 ⟨E3.len,?_⟩ (by rw [List.length_append,List.length_append,hal]; rfl) (by rw [List.length_append]; show acc.length + 1≤_; omega) q3
   have R7:=(EOk.front E3).toOw ho
   have he:owR (accD ++ [o]) (acc ++ [y])=owR accD acc ++ [(.v (.ow o),some y)]:=by
    unfold owR
    rw [List.zip_append hal,List.map_append]
    rfl
   rw [he,List.append_assoc]
   exact R7.perm (mid.symm.trans (List.Perm.append_left _ mid.symm))
 ·left
  have hie:i=ds.length:=by omega
  subst hie
  rw [List.drop_length] at hq
  refine ⟨hJ.stop _ _ _ hrow (Nat.le_refl _),by omega,fun l hl => ?_⟩
  have R1:=R.perm (sw.trans (List.Perm.append_left _ sw))
  have R2:=R1.bundleL hal hl
  have R3:Rep F (row ++ ((.v (.ow (.ol l accD)),some (.ref l)) :: (cs.zip (vals σ outs) ++ ((cut outs ρ').zip σ ++ fr)))) (upd H3 l (.lst acc)):=R2.perm mid.symm
  have R4:Rep F (cs.zip (vals σ outs) ++ ((cut outs ρ').zip σ ++ ((.v (.ow (.ol l accD)),some (.ref l)) :: fr))) (upd H3 l (.lst acc)):=R3.drops.perm (mid.symm.trans (List.Perm.append_left _ mid.symm))
  have hbl:∀ {js:List Nat} {cs:List Sl} {ρ:En},(back js cs ρ).length=ρ.length:=by
   intro js
   induction js with
   | nil=>intro cs ρ; cases cs <;> rfl
   | cons j js ih=>intro cs ρ; cases cs with
    | nil=>rfl
    | cons c cs=>exact (ih (cs:=cs) (ρ:=ρ.set j c)).trans List.length_set
  exact k _ (.ow (.ol l accD)) _ (back outs cs ρ') ⟨hbl.trans E'.len,putAll hno E'.len hcl R4⟩ (hq l)
theorem tComp_xO {F:Fm} {n:Nat} (hgx:GX n g gx) (hno:outs.Nodup):∀ σ H Q,tX F (xCompO n outs ti gx tc te) σ H Q→tComp n outs (tXi F ti) g (tXc F tc) (tX F te) σ H Q:=by
 rintro σ H Q ⟨ρ,fr,Qx,E,t,k⟩
 exact ⟨ρ,fr,_,E,t,fun J H' ρ' row ds E' hJ q=>comp_coreO hgx hno (fun _ _ _ z=>z) (fun _ _ _ z=>z) k E' hJ q⟩
theorem xe_compO {N:List Str} (S:CompScope dsc scope N tgs outs N') (hi:XIt X Ex tg iter ti) (hg:∀ cl C s H ex,PG (cxComp X N' scope cl C s H ex) tg g) (hgx:GX tgs.length g gx) (hgt:Tgt tgs.length g)
  (hcs:∀ cl C s H ex,XCs (cxComp X N' scope cl C s H ex) noEx ifs tc) (he:∀ cl C s H ex,XE (cxComp X N' scope cl C s H ex) noEx elt te) (hno:outs.Nodup:=by decide) (hN0:X.N=N:=by rfl) (hsc:X.env.scope=dsc:=by rfl) (hc:X.calm=true:=by rfl) (hs:∀ x,foldedSetIterable iter X.env x=pure x:=by intro _; rfl) :
  XE X Ex (.ListComp elt [⟨tg,iter,ifs,0⟩] scope pos) (xCompO tgs.length outs ti gx tc te):=fun F =>
 (pe_comp S (hi F) hg hgt (fun a b c d e=>hcs a b c d e F) (fun a b c d e=>he a b c d e F) hN0 hsc hc hs).weak (tComp_xO hgx hno)
end
section
variable {F:Fm} {P A:List Rw} {H H':Hp} {s:Sv} {x:Option V} {o:Ow} {p:Addr} {os:List Ow} {xs:List V}
theorem Rep.shift (R:Rep F (A ++ P) H) (hA:(ownA (.v s,x)).Perm (owns A)) (hv:∀ r∈A,∃ s,r.1=.v s) (e:∀ b,b∉owns A→H' b=H b) (e2:∀ b∈owns A,∃ o,H' b=some o) (h:RowOk (ownA (.v s,x) ++ owns P) (F.vis H') H' (.v s,x)):Rep F ((.v s,x) :: P) H':=by
 have hperm:(ownA (.v s,x) ++ owns P).Perm (owns (A ++ P)):=by
  rw [ay_]
  exact hA.append_right _
 have hn:∀ a∈owns A,F.H0 a=none:=fun a ha=>by
  obtain ⟨r,hr,e⟩:=List.mem_flatMap.mp ha
  have hf:=R.fr r (List.mem_append_left _ hr) a e
  obtain ⟨s',es⟩:=hv r hr
  unfold FrOk at hf
  rw [es] at hf
  exact hf
 have hnd:=R.nd
 rw [ay_] at hnd
 refine ⟨by rw [av_]; exact hperm.nodup_iff.mpr R.nd,fun r hr => ?_,fun r hr a ha => ?_,fun b o h1 h2 => ?_,fun b hb => ?_⟩
 ·rw [av_]
  rcases List.mem_cons.mp hr with rfl | hr
  ·exact h
  ·have hr':r∈A ++ P:=List.mem_append_right _ hr
   refine (R.ok r hr').mono (.of fun b u hb => ?_) fun a ha=>e a fun z=>(List.nodup_append.mp hnd).2.2 a z a (ck_ hr ha) rfl
   have hb':=hid_some.mp hb
   have hbA:b∉owns A:=fun z=>hb'.1 (by rw [ay_]; exact List.mem_append_left _ z)
   refine hid_some.mpr ⟨fun z=>hb'.1 (hperm.mem_iff.mp z),?_⟩
   cases q:F.H0 b with
   | none=>exact (aw_ q).trans ((congrArg nf (e b hbA)).trans ((aw_ q).symm.trans hb'.2))
   | some w=>exact (az_ q).trans ((az_ q).symm.trans hb'.2)
 ·rcases List.mem_cons.mp hr with rfl | hr
  ·exact hn a (hA.mem_iff.mp ha)
  ·exact R.fr r (List.mem_append_right _ hr) a ha
 ·rw [e b fun z=>by rw [hn b z] at h1; cases h1]
  exact R.kp b o h1 h2
 ·by_cases z:b∈owns A
  ·exact e2 b z
  ·obtain ⟨u,hu⟩:=R.lv b hb
   exact ⟨u,by rw [e b z]; exact hu⟩
theorem Rep.bundleT (R:Rep F (owR os xs ++ P) H) (hl:os.length=xs.length) (hp:H p=none):Rep F ((.v (.ow (.ot os)),some (.ref p)) :: P) (upd H p (.tup xs)):=by
 have e:Same H (upd H p (.tup xs)):=gz_ hp _
 have hno:=R.not_own hp
 have hq:=R.fresh hp
 have R1:=R.grow e
 have eA:ownA (.v (.ow (.ot os)),some (.ref p))=owns (owR os xs):=by rw [hc_ hl]; simp only [ownA,Ow.fp]
 refine R1.shift (by rw [eA]) (fun r hr=>owR_v hr) (fun _ _=>rfl) (fun b hb=>R1.own_in (by rw [ay_]; exact List.mem_append_left _ hb)) ?_
 rw [eA]
 refine ⟨.ref p,rfl,?_⟩
 simp only [OwOk]
 have h1:=owR_oks hl fun r hr=>R1.ok r (List.mem_append_left _ hr)
 rw [ay_] at h1
 refine ⟨p,xs,rfl,hid_some.mpr ⟨fun z=>hno (by rw [ay_]; exact z),(aw_ hq).trans (by rw [upd_same]; rfl)⟩,h1⟩
theorem OwOkk.keys {G H:Hp}:∀ {l:List (Key×Ow)} {ws:List (Key×V)},OwOkk G H l ws→l.map (·.1)=ws.map (·.1)
 | [],_,h=>by simp only [OwOkk] at h; rw [h]; rfl
 | k :: r,_,h=>by
  simp only [OwOkk] at h
  obtain ⟨w,wr,rfl,h1,h2⟩:=h
  rw [List.map_cons,List.map_cons,OwOkk.keys h2,h1.1]
theorem OwOkk.snoc {G H:Hp} {k:Key} {v:V} (ho:OwOk G H o v):∀ {l:List (Key×Ow)} {ws:List (Key×V)},OwOkk G H l ws→OwOkk G H (l ++ [(k,o)]) (ws ++ [(k,v)])
 | [],_,h=>by simp only [OwOkk] at h; rw [h]; simp only [List.nil_append,OwOkk]; exact ⟨_,_,rfl,⟨rfl,ho⟩,rfl⟩
 | p :: r,_,h=>by
  simp only [OwOkk] at h
  obtain ⟨w,wr,rfl,h1,h2⟩:=h
  simp only [List.cons_append,OwOkk]
  exact ⟨w,_,rfl,h1,OwOkk.snoc ho h2⟩
theorem owFk_snoc {k:Key}:∀ {l:List (Key×Ow)},owFk (l ++ [(k,o)])=owFk l ++ o.fp
 | []=>by simp only [List.nil_append,owFk,List.append_nil]
 | p :: r=>by simp only [List.cons_append,owFk,owFk_snoc,List.append_assoc]
theorem Rep.putO {a:Addr} {l:List (Key×Ow)} {k:Key} {v:V} (R:Rep F ((.v (.ow o),some v) :: (.v (.ow (.od a l)),x) :: P) H) (hk:k∉l.map (·.1)):x=some (.ref a)∧∃ ws,H a=some (.dK ws)∧ws.length=l.length∧Rep F ((.v (.ow (.od a (l ++ [(k,o)]))),x) :: P) (upd H a (.dK (putK ws k v))):=by
 obtain ⟨y,rfl,h1⟩:=R.ok _ (List.mem_cons_of_mem _ List.mem_cons_self)
 obtain ⟨y2,e2,h2⟩:=R.ok _ List.mem_cons_self
 cases e2
 simp only [OwOk] at h1
 obtain ⟨rfl,ws,h3,h4⟩:=h1
 have hkeys:=h4.keys
 have hput:putK ws k v=ws ++ [(k,v)]:=by
  unfold putK
  rw [if_neg]
  intro z
  obtain ⟨q,hq,e⟩:=List.any_eq_true.mp z
  exact hk (by rw [hkeys]; exact List.mem_map.mpr ⟨q,hq,of_decide_eq_true e⟩)
 refine ⟨rfl,ws,h3,by have:=congrArg List.length hkeys; rw [List.length_map,List.length_map] at this; exact this.symm,?_⟩
 rw [hput]
 have eo:owns [((.v (.ow o),some v):Rw),(.v (.ow (.od a l)),some (.ref a))]=o.fp ++ (a :: owFk l):=by
  rw [av_,av_]
  simp only [ownA,Ow.fp,owns,List.flatMap_nil,List.append_nil]
 have en:ownA (.v (.ow (.od a (l ++ [(k,o)]))),some (.ref a))=a :: (owFk l ++ o.fp):=by simp only [ownA,Ow.fp,owFk_snoc]
 have hnd:=R.nd
 have R':Rep F ([((.v (.ow o),some v):Rw),(.v (.ow (.od a l)),some (.ref a))] ++ P) H:=R
 have hao:a∉o.fp ++ owFk l:=by
  have hn:=R'.nd
  rw [ay_,eo] at hn
  have hn2:=(List.nodup_append.mp hn).1
  have:=(List.perm_middle (a:=a) (l₁:=o.fp) (l₂:=owFk l)).nodup_iff.mp hn2
  exact (List.nodup_cons.mp this).1
 refine R'.shift (A:=[(.v (.ow o),some v),(.v (.ow (.od a l)),some (.ref a))]) ?_ ?_ (fun b hb => ?_) (fun b hb => ?_) ?_
 ·rw [en,eo]
  exact (List.perm_append_comm.cons a).trans List.perm_middle.symm
 ·intro r hr
  rcases List.mem_cons.mp hr with rfl | hr
  ·exact ⟨_,rfl⟩
  ·rw [List.mem_singleton.mp hr]; exact ⟨_,rfl⟩
 ·refine ah_ fun z=>hb ?_
  rw [eo,z]
  exact List.mem_append_right _ List.mem_cons_self
 ·by_cases z:b=a
  ·rw [z]; exact ⟨_,upd_same⟩
  ·obtain ⟨u,hu⟩:=R'.own_in (by rw [ay_]; exact List.mem_append_left _ hb)
   exact ⟨u,by rw [ah_ z]; exact hu⟩
 ·rw [en]
  refine ⟨.ref a,rfl,?_⟩
  simp only [OwOk]
  refine ⟨trivial,_,upd_same,?_⟩
  have hs:∀ b u,hid (owns ([((.v (.ow o),some v):Rw),(.v (.ow (.od a l)),some (.ref a))] ++ P)) (F.vis H) b=some u→hid (a :: (owFk l ++ o.fp) ++ owns P) (F.vis (upd H a (.dK (ws ++ [(k,v)])))) b=some u:=fun b u hb=>by
   have hb':=hid_some.mp hb
   rw [ay_,eo] at hb'
   have hba:b≠a:=fun z=>hb'.1 (by rw [z]; exact List.mem_append_left _ (List.mem_append_right _ List.mem_cons_self))
   refine hid_some.mpr ⟨fun z=>hb'.1 ?_,?_⟩
   ·rcases List.mem_append.mp z with z | z
    ·refine List.mem_append_left _ ?_
     rcases List.mem_cons.mp z with z | z
     ·rw [z]; exact List.mem_append_right _ List.mem_cons_self
     ·rcases List.mem_append.mp z with z | z
      ·exact List.mem_append_right _ (List.mem_cons_of_mem _ z)
      ·exact List.mem_append_left _ z
    ·exact List.mem_append_right _ z
   ·cases q:F.H0 b with
    | none=>exact (aw_ q).trans ((congrArg nf (ah_ hba)).trans ((aw_ q).symm.trans hb'.2))
    | some w=>exact (az_ q).trans ((az_ q).symm.trans hb'.2)
  have k1:∀ b∈o.fp,upd H a (.dK (ws ++ [(k,v)])) b=H b:=fun b hb=>ah_ fun z=>hao (by rw [← z]; exact List.mem_append_left _ hb)
  have k2:∀ b∈owFk l,upd H a (.dK (ws ++ [(k,v)])) b=H b:=fun b hb=>ah_ fun z=>hao (by rw [← z]; exact List.mem_append_right _ hb)
  exact OwOkk.snoc (OwOk.mono (.of hs) o v k1 h2) (OwOkk.mono (.of hs) l ws k2 h4)
end
def xDNewO:XT:=fun ρ Q => ∀ a,Q (.ow (.od a [])) ρ
def xDPutO (i:Nat) (tk tv:XT):XS:=fun ρ D=>tv ρ fun s ρ1=>(∃ a l,ρ1[i]? = some (.v (.ow (.od a l))))∧tk ρ1 fun k ρ2 => ∃ a l key o,ρ2[i]? = some (.v (.ow (.od a l)))∧keyD k.d=some key∧s.o? = some o∧key∉l.map (·.1)∧l.length < 1000000∧D.nx (ρ2.set i (.v (.ow (.od a (l ++ [(key,o)])))))
section
variable {X:Cx} {Ex:ExT} {F:Fm} {i:Nat} {tk tv:XT} {es:List Expr} {u:XA} {pos:Pos}
theorem xe_dnewO:XE X Ex (.Dict [] [] pos) xDNewO:=fun F=>(pe_dnewK (X:=X)).weak fun σ H Q=>by
 rintro ⟨ρ,fr,Qx,E,t,k⟩
 refine fun p hp=>k _ (.ow (.od p [])) _ ρ (EOk.back E.len ?_) (t p)
 have R:=E.rep.newD hp All2.nil
 have R':Rep F ([((.v (.od []),some (V.ref p)):Rw)] ++ (ρ.zip σ ++ fr)) (upd H p (.dK [])):=R
 have e1:ownA (.v (.ow (.od p [])),some (V.ref p))=[p]:=by simp only [ownA,Ow.fp,owFk]
 have e2:owns [((.v (.od []),some (V.ref p)):Rw)]=[p]:=by rw [aq_ (a:=p) rfl]; rfl
 refine R'.shift (A:=[(.v (.od []),some (V.ref p))]) (by rw [e1,e2]) (fun r hr=>by rw [List.mem_singleton.mp hr]; exact ⟨_,rfl⟩) (fun _ _=>rfl) (fun b hb=>⟨.dK [],by rw [e2] at hb; rw [List.mem_singleton.mp hb,upd_same]⟩) ⟨.ref p,rfl,?_⟩
 simp only [OwOk,OwOkk]
 exact ⟨trivial,[],upd_same,rfl⟩
theorem tDPut_xO:∀ D σ H,tXS F (xDPutO i tk tv) D σ H→sDPut (tVar i) (tX F tk) (tX F tv) D σ H:=by
 rintro D σ H ⟨ρ,fr,d,E,q,k⟩
 refine ⟨ρ,fr,_,E,q,fun y s H' ρ' E' q' => ?_⟩
 obtain ⟨⟨a0,l0,h0⟩,q'⟩:=q'
 obtain ⟨v0,hv0,hi0,R0⟩:=by_ E' h0
 obtain ⟨y0,rfl,ho0⟩:=R0.ok _ List.mem_cons_self
 simp only [OwOk] at ho0
 obtain ⟨rfl,_⟩:=ho0
 refine ⟨.ref a0,hv0,ρ',_,_,E',q',fun z s2 H2 ρ2 E2 q2 => ?_⟩
 obtain ⟨a,l,key,o,hb,hk,hso,hnk,hll,q2⟩:=q2
 obtain ⟨R,hx1,hx2⟩:=E2.two
 cases keyD_is hx2 hk
 have E3:=E2.drop
 have R3:=E3.front.toOw hso
 obtain ⟨v1,hv1⟩:=get_zip E3.len hb
 have hi1:i < ρ2.length:=(List.getElem?_eq_some_iff.mp hb).1
 have R4:Rep F ((.v (.ow o),some y) :: (.v (.ow (.od a l)),v1) :: ((ρ2.zip σ).eraseIdx i ++ fr)) H2:=R3.perm (((de_ hb hv1).append_right fr).cons _)
 obtain ⟨rfl,ws,h3,h4,R5⟩:=R4.putO hnk
 rw [hv0] at hv1
 cases hv1
 refine ⟨a0,_,rfl,DPut.k h3 (by rw [h4]; have:=line1; omega),k.nx σ _ _ rfl ⟨by rw [List.length_set]; exact E3.len,?_⟩ q2⟩
 exact R5.perm (((cl_ E3.len hi1 hv0).append_right fr).symm)
def xTupO (u:XA):XT:=fun ρ Q=>u ρ fun ss ρ' => ∃ os,ss.map Sv.o? = os.map some∧ss.length≤1000000∧Q (.ow (.ot os)) ρ'
theorem Rep.tmpsO {P:List Rw} {H:Hp}:∀ {ss:List Sv} {os:List Ow} {vs:List V},ss.length=vs.length→ss.map Sv.o? = os.map some→Rep F (tmps ss vs ++ P) H→Rep F (owR os vs ++ P) H
 | [],[],[],_,_,R=>R
 | [],[],_ :: _,h,_,_=>by simp at h
 | [],_ :: _,_,_,h,_=>by simp at h
 | _ :: _,[],_,_,h,_=>by simp at h
 | _ :: _,_ :: _,[],h,_,_=>by simp at h
 | s :: ss,o :: os,v :: vs,h,e,R=>by
  have e':=List.cons.inj e
  have R1:Rep F ((.v s,some v) :: (tmps ss vs ++ P)) H:=R
  have R2:=R1.toOw e'.1
  have R3:Rep F (tmps ss vs ++ ((.v (.ow o),some v) :: P)) H:=R2.perm mid.symm
  have R4:=Rep.tmpsO (by simpa using h) e'.2 R3
  exact R4.perm mid
theorem xe_tupO {j:Nat} (h:XAs X Ex es u):XE X Ex (.Tuple es j pos) (xTupO u):=fun F=>(pe_tup (h F)).weak fun σ H Q=>by
 rintro ⟨ρ,fr,Qx,E,t,k⟩
 refine ⟨ρ,fr,_,E,t,fun vs ss H2 ρ2 hl E2 q2 => ?_⟩
 obtain ⟨os,ho,hz,q2⟩:=q2
 refine ⟨by have:=line1; omega,fun p hp => ?_⟩
 have R1:Rep F (tmps ss vs ++ (ρ2.zip σ ++ fr)) H2:=E2.rep.perm (List.perm_append_comm_assoc _ _ _)
 have hlo:os.length=vs.length:=by have:=congrArg List.length ho; rw [List.length_map,List.length_map] at this; omega
 exact k _ _ _ ρ2 (EOk.back E2.len ((Rep.tmpsO hl ho R1).bundleT hlo hp)) q2
end
theorem strsAre_of:∀ {ks:List Str} {us:List Value},Vals (ks.map V.str) us→PyProof.Rows.StrsAre us ks
 | [],us,h=>by cases h; exact .nil
 | k :: ks,us,h=>by
  cases h with
  | cons r t =>
   obtain ⟨tk,rfl⟩:=r
   exact .cons k tk (strsAre_of t)
theorem vals_strs:∀ {us:List Value} {ks:List Str},PyProof.Rows.StrsAre us ks→Vals (ks.map V.str) us
 | _,_,.nil=>.nil
 | _,_,.cons y t h=>.cons ⟨t,rfl⟩ (vals_strs h)
theorem ltCps_tr:∀ {a b c:List Nat},Spec.ltCps a b=false→Spec.ltCps b c=false→Spec.ltCps a c=false
 | [],b,[],_,_=>by simp [Spec.ltCps]
 | [],[],c :: cs,h1,h2=>h2
 | [],b :: bs,c :: cs,h1,h2=>by simp [Spec.ltCps] at h1
 | a :: as,b,[],_,_=>by simp [Spec.ltCps]
 | a :: as,[],c :: cs,h1,h2=>by simp [Spec.ltCps] at h2
 | a :: as,b :: bs,c :: cs,h1,h2=>by
  simp only [Spec.ltCps,Bool.or_eq_false_iff,decide_eq_false_iff_not,Bool.and_eq_false_iff,beq_eq_false_iff_ne] at h1 h2 ⊢
  refine ⟨by omega,?_⟩
  by_cases e:a=c
  ·refine .inr (ltCps_tr (b:=bs) ?_ ?_)
   ·rcases h1.2 with h | h
    ·omega
    ·exact h
   ·rcases h2.2 with h | h
    ·omega
    ·exact h
  ·exact .inl e
theorem ltCps_an:∀ {a b:List Nat},Spec.ltCps a b=false→Spec.ltCps b a=false→a=b
 | [],[],_,_=>rfl
 | [],b :: bs,h1,_=>by simp [Spec.ltCps] at h1
 | a :: as,[],_,h2=>by simp [Spec.ltCps] at h2
 | a :: as,b :: bs,h1,h2=>by
  simp only [Spec.ltCps,Bool.or_eq_false_iff,decide_eq_false_iff_not,Bool.and_eq_false_iff,beq_eq_false_iff_ne] at h1 h2
  have e:a=b:=by omega
  subst e
  rw [ltCps_an (a:=as) (b:=bs) (h1.2.elim (fun z=>absurd rfl z) id) (h2.2.elim (fun z=>absurd rfl z) id)]
abbrev leS (a b:Str):Prop:=Spec.ltCps b.cps.toList a.cps.toList=false
theorem rising_pw:∀ {l:List Str} {x:Str},PyProof.Rows.risingS x l=true→(x :: l).Pairwise leS
 | [],x,_=>List.pairwise_singleton _ _
 | y :: l,x,h=>by
  have h':(!Spec.ltCps y.cps.toList x.cps.toList && PyProof.Rows.risingS y l)=true:=h
  rw [Bool.and_eq_true,Bool.not_eq_true'] at h'
  have ih:=rising_pw h'.2
  refine List.pairwise_cons.mpr ⟨fun z hz => ?_,ih⟩
  rcases List.mem_cons.mp hz with rfl | hz
  ·exact h'.1
  ·exact ltCps_tr ((List.pairwise_cons.mp ih).1 z hz) h'.1
theorem sorted_pw {l:List Str} (h:PyProof.Rows.sortedS l=true):l.Pairwise leS:=by
 cases l with
 | nil=>exact .nil
 | cons x l=>exact rising_pw h
theorem sorted_one {a b:List Str} (ha:PyProof.Rows.sortedS a=true) (hb:PyProof.Rows.sortedS b=true) (h:a.Perm b):a=b :=
 List.Perm.eq_of_pairwise (le:=leS) (fun x y _ _ h1 h2=>by
  have e:=ltCps_an h2 h1
  cases x with | mk cx=>cases y with | mk cy=>exact congrArg Str.mk (Array.ext' e)) (sorted_pw ha) (sorted_pw hb) h
section
variable {X:Cx} {Ex:ExT}
def rSortD:List V→Hp→VK→Prop:=fun xs H Q => ∃ a kvs ks,xs=[V.ref a]∧Rd H a (.dK kvs)∧(kvs.map (·.1)=ks.map Sum.inr)∧ks.length < 64∧∀ ss:List Str,ss.Perm ks→PyProof.Rows.sortedS ss=true→∀ l,H l=none→Q (.ref l) (upd H l (.lst (ss.map V.str)))
theorem call_sortedD (hc:X.calm=true):CallR X (.builtin "sorted") rSortD:=by
 intro pins s σ H xs us Q I r h
 obtain ⟨a,kvs,ks,rfl,ha,hks,h64,q⟩:=h
 obtain ⟨u,rfl,rx⟩:=vals1 r
 cases rx
 obtain ⟨z,hd,vs,rel,dd⟩:=dk_rd I.hok ha
 obtain ⟨o,es,ep,h1,h2,h3,h4⟩:=dd
 have hl:kvs.length=vs.length:=rel.length
 have hkl:kvs.length=ks.length:=by have:=congrArg List.length hks; rwa [List.length_map,List.length_map] at this
 refine Calls.call_function_entry PyProof.Rows.kind_sorted PyProof.Rows.plain_sorted PyProof.Rows.entry_sorted (PyProof.Rows.args_sorted1 _) ?_
 unfold Builtin.«sorted»
 refine wpAny_bind (m:=checkCount "sorted" 1 1 _) (wpAny_pure ?_)
 refine wpAny_bind (PySem.W.kdu_collect (A:=X.A.in1) (PySem.W.kdl_dict (knd:=mixKind X.prog X.w) (kvs:=vs) (ep:=ep) hd) (I.ok.hd hc) ⟨o,es,h1,h2,h3,h4⟩ (by omega) fun h' tk acc hk hacc => ?_)
 have hv:Vals (ks.map V.str) acc.toList:=by
  refine vals_of (by have h5:=hacc.1; have h6:=Array.length_toList (xs:=acc); rw [List.length_map]; omega) fun i x u e1 e2 => ?_
  rw [Array.getElem?_toList] at e2
  obtain ⟨k,y,e3,e4⟩:=hacc.2 i u e2
  rw [List.getElem?_map] at e1
  obtain ⟨kx,e5,rfl⟩:=Option.map_eq_some_iff.mp e1
  have e6:(kvs.map (·.1))[i]? = some (Sum.inr kx):=by rw [hks,List.getElem?_map,e5]; rfl
  rw [List.getElem?_map] at e6
  obtain ⟨kv,e7,e8⟩:=Option.map_eq_some_iff.mp e6
  obtain ⟨v',e9⟩:=rel.at' e7
  rw [e3] at e9
  cases e9
  have:=is_kV e4
  rw [e8] at this
  exact this
 have hS:=strsAre_of hv
 have hal:acc.toList.length=ks.length:=by rw [Array.length_toList,hacc.1]; omega
 refine wpAny_bind (wpAny_newList ?_ (by rw [hal,sizeLine_eq]; omega))
 have hoL:(h'.push (PyProof.Rows.seqObj "list" acc.toList.toArray 0)).get? h'.objs.size=some (PyProof.Rows.seqObj "list" acc.toList.toArray 0):=Heap.get?_push_size _ rfl
 show wpAny _ _ _ _ _ { s with heap:=h'.push (PyProof.Rows.seqObj "list" acc.toList.toArray 0),toks:=tk }
 refine wpAny_bind (wpAny_holding (wpAny_call_entry PyProof.Rows.slot_list_sort ⟨_,hoL,rfl⟩ PyProof.Rows.entry_list_sort (PyProof.Rows.list_sort_treeK PyProof.Rows.strKind_oneLt hoL hS.keysOf (fun v₁ v₂ rest e=>PyProof.Rows.keyKind_strs (by rw [← e]; exact hS)) (by rw [hal]; exact h64) fun st' a1 a2=>⟨_,rfl,?_⟩) (PyProof.Rows.args_list_sort _)))
 obtain ⟨ss,b1,b2,b3⟩:=PyProof.Rows.sorted_out_str hS a1 a2
 obtain ⟨e,he⟩:=PyProof.Rows.sortedHeap_at (out:=(PyProof.Rows.arrOf st').map (·.2)) hoL
 have hkeep:∀ b ob,h'.get? b=some ob→(PyProof.Rows.sortedHeap (h'.push (PyProof.Rows.seqObj "list" acc.toList.toArray 0)) h'.objs.size acc.toList ((PyProof.Rows.arrOf st').map (·.2))).get? b=some ob:=fun b ob hb=>by
  have hlt:=Heap.lt_size hb
  rw [PyProof.Rows.sortedHeap_old (Nat.ne_of_lt hlt) (by rw [PyProof.Rows.size_push']; exact Nat.lt_succ_of_lt hlt),Heap.get?_push_ne _ _ _ (Nat.ne_of_lt hlt)]
  exact hb
 refine wpAny_pure ⟨_,rfl,.ref h'.objs.size,_,(I.kept (t':=tk) hk).laid (t':=tk) hkeep (Nat.le_refl _) (show ObjOk X.prog X.w _ _ _ (.lst (ss.map V.str)) from ⟨by rw [List.length_map,b2.length_eq,sizeLine_eq]; omega,_,e,vals_strs b1,by rw [Array.toArray_toList]; exact he⟩),rfl,q ss b2 b3 _ ((I.kept (t':=tk) hk).hok.fresh (Nat.le_refl _))⟩
def txtI (n:Int):Str:=Str.ofString (toString n)
theorem call_strI:CallR X (.type "str") (fun xs H Q => ∃ n:Int,xs=[.int n]∧0≤n∧n < 1000000000∧Q (.str (txtI n)) H):=by
 intro pins s σ H xs us Q I r h
 obtain ⟨n,rfl,h0,h1,q⟩:=h
 obtain ⟨u,rfl,rx⟩:=vals1 r
 obtain ⟨t,rfl⟩:=rx
 exact PyProof.Rows.str_of_int_fit (N:=1000000000) (by rw [if_neg (by omega)]; exact h1) (by decide) fun _=>⟨.str (txtI n),H,I.tok _,⟨_,rfl⟩,q⟩
end
section
variable {F:Fm} {P A A':List Rw} {H H':Hp}
theorem Rep.alter (R:Rep F (A ++ P) H) (hA:(owns A').Nodup) (hs:∀ a∈owns A',a∈owns A) (hv:∀ r∈A,∃ s,r.1=.v s) (hv':∀ r∈A',∃ s,r.1=.v s) (e:∀ b u,b∉owns A→H b=some u→H' b=some u) (e2:∀ b∈owns A,∃ o,H' b=some o) (h:∀ r∈A',RowOk (owns A' ++ owns P) (F.vis H') H' r):Rep F (A' ++ P) H':=by
 have hsub:∀ a∈owns A' ++ owns P,a∈owns (A ++ P):=fun a ha=>by
  rw [ay_]
  rcases List.mem_append.mp ha with ha | ha
  ·exact List.mem_append_left _ (hs a ha)
  ·exact List.mem_append_right _ ha
 have hn:∀ a∈owns A,F.H0 a=none:=fun a ha=>by
  obtain ⟨r,hr,e⟩:=List.mem_flatMap.mp ha
  have hf:=R.fr r (List.mem_append_left _ hr) a e
  obtain ⟨s',es⟩:=hv r hr
  unfold FrOk at hf
  rw [es] at hf
  exact hf
 have hnd:=R.nd
 rw [ay_] at hnd
 refine ⟨by rw [ay_]; exact List.nodup_append.mpr ⟨hA,(List.nodup_append.mp hnd).2.1,fun a h1 b h2 z=>(List.nodup_append.mp hnd).2.2 a (hs a h1) b h2 z⟩,fun r hr => ?_,fun r hr a ha => ?_,fun b o h1 h2 => ?_,fun b hb => ?_⟩
 ·rw [ay_]
  rcases List.mem_append.mp hr with hr | hr
  ·exact h r hr
  ·have hr':r∈A ++ P:=List.mem_append_right _ hr
   refine (R.ok r hr').mono (.of fun b u hb => ?_) fun a ha => ?_
   ·have hb':=hid_some.mp hb
    have hbA:b∉owns A:=fun z=>hb'.1 (by rw [ay_]; exact List.mem_append_left _ z)
    refine hid_some.mpr ⟨fun z=>hb'.1 (hsub b z),?_⟩
    cases q:F.H0 b with
    | none=>exact (aw_ q).trans (ib_ ((aw_ q).symm.trans hb'.2) fun o ho=>e b o hbA ho)
    | some w=>exact (az_ q).trans ((az_ q).symm.trans hb'.2)
   ·obtain ⟨o,ho⟩:=R.own_in (ck_ hr' ha)
    rw [ho]
    exact e a o (fun z=>(List.nodup_append.mp hnd).2.2 a z a (ck_ hr ha) rfl) ho
 ·rcases List.mem_append.mp hr with hr | hr
  ·have:a∈owns A:=hs a (ck_ hr ha)
   obtain ⟨s',es⟩:=hv' r hr
   unfold FrOk
   rw [es]
   exact hn a this
  ·exact R.fr r (List.mem_append_right _ hr) a ha
 ·exact e b o (fun z=>by rw [hn b z] at h1; cases h1) (R.kp b o h1 h2)
 ·by_cases z:b∈owns A
  ·exact e2 b z
  ·obtain ⟨u,hu⟩:=R.lv b hb
   exact ⟨u,e b u z hu⟩
end
theorem ints_isx {G:Hp}:∀ (xs:List Int),All2 (IsX G) (xs.map Dx.int) (xs.map V.int)
 | []=>rfl
 | x :: xs=>⟨_,_,rfl,IsX.of_int _,ints_isx xs⟩
section
variable {X:Cx} {Ex:ExT} {e e2:Expr} {t:XT} {p pos:Pos} {i j:Nat} {x:Str} {ps:List Str} {g:GC}
def xTupleO (t:XT):XT:=fun ρ Q=>t ρ fun s ρ' => ∃ a os,s=.ow (.ol a os)∧Q (.ow (.ot os)) ρ'
theorem xe_tupleO (K:FG_) (h:XE X Ex e t) (hg:Gl X "tuple") (hm:X.mg "tuple" = none) (hv:bootBuiltins "tuple" = some (.type "tuple")) (hK:X.K=K:=by rfl) (hn:("tuple" : Str) ≠ "__name__" := by decide) (hdb:(("tuple" : Str) == ("__debug__" : Str))=false:=by decide)
  (he:starEach [e] X.env=(false,eval e X.env) :: starEach [] X.env:=by rfl) (hpl:(backTo pos (starEach [] X.env)).any (·.1)=false:=by rfl):XE X Ex (.Call (.Name "tuple" p) [e] [] pos) (xTupleO t):=fun F=>(fr_ (call_tupleA K hK) hg hm hv (as_ (h F) cb_ he) hn hdb he hpl).weak fun σ H Q=>by
 rintro ⟨ρ,fr,Qx,E,t,k⟩
 refine ⟨ρ,fr,_,E,t,fun v s H2 ρ2 E2 q2 => ?_⟩
 obtain ⟨a,os,rfl,q2⟩:=q2
 have R:=E2.front
 obtain ⟨y,ey,ho⟩:=R.ok _ List.mem_cons_self
 cases ey
 simp only [OwOk] at ho
 obtain ⟨rfl,xs,ha,hoks⟩:=ho
 refine ⟨a,xs,rfl,.inl ⟨SqL.of ha,fun l hl => ?_⟩⟩
 have hno:=R.not_own hl
 have hq:=R.fresh hl
 have e1:Same H2 (upd H2 l (.tup xs)):=gz_ hl _
 have R1:Rep F ([(.v (.ow (.ol a os)),some (V.ref a))] ++ (ρ2.zip σ ++ fr)) (upd H2 l (.tup xs)):=R.grow e1
 have eA:owns [((.v (.ow (.ol a os)),some (V.ref a)):Rw)]=a :: owFs os:=by simp only [owns,List.flatMap_cons,List.flatMap_nil,ownA,Ow.fp,List.append_nil]
 have hoksN:=R1.ok _ List.mem_cons_self
 obtain ⟨y2,ey2,ho2⟩:=hoksN
 cases ey2
 simp only [OwOk] at ho2
 obtain ⟨_,xs2,ha2,hoks2⟩:=ho2
 rw [ah_ (show a≠l from fun z=>by rw [z] at ha; rw [hl] at ha; cases ha),ha] at ha2
 cases ha2
 have hnd:=R1.nd
 rw [ay_,eA] at hnd
 have eT:owns [((.v (.ow (.ot os)),some (V.ref l)):Rw)]=owFs os:=by simp only [owns,List.flatMap_cons,List.flatMap_nil,ownA,Ow.fp,List.append_nil]
 have R2:Rep F ([(.v (.ow (.ot os)),some (V.ref l))] ++ (ρ2.zip σ ++ fr)) (upd H2 l (.tup xs)):=by
  refine R1.alter (by rw [eT]; exact (List.nodup_cons.mp (List.nodup_append.mp hnd).1).2) (fun b hb=>by rw [eA]; rw [eT] at hb; exact List.mem_cons_of_mem _ hb) (fun r hr=>by rw [List.mem_singleton.mp hr]; exact ⟨_,rfl⟩) (fun r hr=>by rw [List.mem_singleton.mp hr]; exact ⟨_,rfl⟩) (fun _ _ _ z=>z) (fun b hb=>R1.own_in (by rw [ay_]; exact List.mem_append_left _ hb)) fun r hr => ?_
  rw [List.mem_singleton.mp hr,eT]
  refine ⟨.ref l,rfl,?_⟩
  simp only [OwOk]
  refine ⟨l,xs,rfl,hid_some.mpr ⟨fun z=>hno ?_,(aw_ hq).trans (by rw [upd_same]; rfl)⟩,OwOks.mono (.of (at_ fun b hb => ?_)) os xs (fun _ _=>rfl) hoks2⟩
  ·rw [av_]
   rcases List.mem_append.mp z with z | z
   ·exact List.mem_append_left _ (by simp only [ownA,Ow.fp]; exact List.mem_cons_of_mem _ z)
   ·exact List.mem_append_right _ z
  ·rw [ay_,eA]
   rcases List.mem_append.mp hb with hb | hb
   ·exact List.mem_append_left _ (List.mem_cons_of_mem _ hb)
   ·exact List.mem_append_right _ hb
 exact k _ _ _ ρ2 (EOk.back E2.len R2) q2
def clean:Sv→Prop
 | .tr (.bl _)=>True
 | .tr (.int _)=>True
 | .ol l => ∃ xs:List Int,l=xs.map Dx.int
 | _=>False
def xCallPk2 (g:GC) (i:Nat) (t:XT):XT:=fun ρ Q=>t ρ fun s1 ρ'=>match ρ'[i]? with
 | some (.v s)=>g [s1.d,s.d] fun r=>clean r∧Q r ρ'
 | _=>False
theorem xe_callPk2 (C:Cal X.prog X.w X.K X.mg X.base j x ps (spX g)) (hr:Room j X.A) (h:XE X Ex e t) (hv:PE X e2 (tVar i)) (hg:Gl X x:=by rfl) (hdb:(x == ("__debug__" : Str))=false:=by decide)
  (he:starEach [e,e2] X.env=(false,eval e X.env) :: starEach [e2] X.env:=by rfl) (he2:starEach [e2] X.env=(false,eval e2 X.env) :: starEach [] X.env:=by rfl) (hpl:(backTo pos (starEach [e2] X.env)).any (·.1)=false:=by rfl):XE X Ex (.Call (.Name x p) [e,e2] [] pos) (xCallPk2 g i t):=fun F=>(gq_ C hr (as_ (h F) (as_ hv cb_ he2) he) hg hdb he hpl).weak fun σ H Q=>by
 rintro ⟨ρ,fr,Qx,E,t,k⟩
 refine ⟨ρ,fr,_,E,t,fun va s1 H2 ρ2 E2 q2 => ?_⟩
 split at q2
 ·rename_i s h3
  obtain ⟨R,hs⟩:=E2.one
  obtain ⟨v2,hv2,hi2,R2⟩:=by_ ⟨E2.len,R⟩ h3
  obtain ⟨w',rfl,hx⟩:=R2.head
  have hO:(owns (ρ2.zip σ ++ fr)).Perm (owns ((.v s,some w') :: ((ρ2.zip σ).eraseIdx i ++ fr))):=((de_ h3 hv2).append_right fr).flatMap_right _
  refine ⟨w',hv2,_,[s1.d,s.d],_,R2.tail.hv,⟨va,_,rfl,hs.to (at_ fun c hc=>hO.mem_iff.mpr (by rw [av_]; exact List.mem_append_right _ hc)),w',_,rfl,hx,rfl⟩,q2,fun r v H' e hr q => ?_⟩
  obtain ⟨hc,q⟩:=q
  refine k _ _ H' ρ2 (EOk.back E2.len ?_) q
  match r,hc,hr with
  | .tr (.bl b),_,hr =>
   cases (IsX.bl_eq (H:=ext (hid (owns ((ρ2.zip σ).eraseIdx i ++ fr)) (F.vis H2)) H2 H') hr)
   exact (R.grow e).add (IsX.of_bl _)
  | .tr (.int b),_,hr =>
   cases (IsX.int_eq (H:=ext (hid (owns ((ρ2.zip σ).eraseIdx i ++ fr)) (F.vis H2)) H2 H') hr)
   exact (R.grow e).add (IsX.of_int _)
  | .ol l,⟨xs,hxs⟩,⟨a,vs,h1,h2,h3,h4⟩ =>
   subst h1
   subst hxs
   cases ints_of h4
   exact R.adopt e h2 rfl ⟨a,_,rfl,h3,ints_isx xs⟩
 ·exact q2.elim
end
def top (i:Nat):Stmt:=PySem.Challenge.pw_laidfields_k19_values_of_bytes.main.body.getD i (.Pass ⟨0,0,0,0⟩)
abbrev gf_:Stmt:=top 4
abbrev dt_:Stmt:=top 5
abbrev eq_:Stmt:=top 6
abbrev eb_:Stmt:=top 7
abbrev bj_:Stmt:=top 8
abbrev fo_:Stmt:=top 9
abbrev df_:Stmt:=top 10
abbrev bz_:Stmt:=top 11
abbrev cq_:Stmt:=top 12
abbrev ca_:Stmt:=top 13
abbrev ei_:Stmt:=top 14
abbrev ax_:Stmt:=top 16
abbrev dv_:Stmt:=top 19
abbrev cw_:Stmt:=top 20
abbrev s_lay:Stmt:=top 21
abbrev gd_:Stmt:=top 22
abbrev ek_:Stmt:=top 23
abbrev hu_:Stmt:=top 24
abbrev ea_:Stmt:=top 25
abbrev eh_:Stmt:=top 26
abbrev eg_:Stmt:=top 27
abbrev ej_:Stmt:=top 28
abbrev ge_:Stmt:=top 30
abbrev ec_:Stmt:=top 31
abbrev ce_:Stmt:=top 32
abbrev bu_:Stmt:=top 33
abbrev cd_:Stmt:=top 34
abbrev dg_:Stmt:=top 35
abbrev dh_:Stmt:=top 36
abbrev cv_:Stmt:=top 37
abbrev fp_:Stmt:=top 38
abbrev dm_:Stmt:=top 39
abbrev cm_:Stmt:=top 40
abbrev du_:Stmt:=top 41
abbrev s_law:Stmt:=top 42
theorem sc_is_whole:FnScope ["thing"] ["thing"] (defScope gf_):=⟨rfl,rfl,rfl,by decide +kernel,rfl,by decide +kernel,by decide +kernel⟩
theorem sc_rounded_up:FnScope ["number", "m"] ["number", "m"] (defScope dt_):=⟨rfl,rfl,rfl,by decide +kernel,rfl,by decide +kernel,by decide +kernel⟩
theorem sc_room_of:FnScope ["kind"] ["kind"] (defScope eq_):=⟨rfl,rfl,rfl,by decide +kernel,rfl,by decide +kernel,by decide +kernel⟩
theorem sc_rooms_of:FnScope ["kinds"] ["kinds"] (defScope eb_):=⟨rfl,rfl,rfl,by decide +kernel,rfl,by decide +kernel,by decide +kernel⟩
theorem fc_:FnScope ["rooms"] ["rooms"] (defScope bj_):=⟨rfl,rfl,rfl,by decide +kernel,rfl,by decide +kernel,by decide +kernel⟩
theorem sc_step_of:FnScope ["room"] ["room"] (defScope fo_):=⟨rfl,rfl,rfl,by decide +kernel,rfl,by decide +kernel,by decide +kernel⟩
theorem sc_room_of_row:FnScope ["kind", "n", "room"] ["kind", "n"] (defScope df_):=⟨rfl,rfl,rfl,by decide +kernel,rfl,by decide +kernel,by decide +kernel⟩
theorem sc_room_of_record:FnScope ["kinds", "rooms", "multiple", "ends"] ["kinds"] (defScope bz_):=⟨rfl,rfl,rfl,by decide +kernel,rfl,by decide +kernel,by decide +kernel⟩
theorem sc_places_behind:FnScope ["rooms", "places", "end", "room", "place"] ["rooms"] (defScope cq_):=⟨rfl,rfl,rfl,by decide +kernel,rfl,by decide +kernel,by decide +kernel⟩
theorem sc_room_of_choice:FnScope ["kinds", "rooms", "multiple", "greatest"] ["kinds"] (defScope ca_):=⟨rfl,rfl,rfl,by decide +kernel,rfl,by decide +kernel,by decide +kernel⟩
theorem sc_chosen_at:FnScope ["multiple"] ["multiple"] (defScope ei_):=⟨rfl,rfl,rfl,by decide +kernel,rfl,by decide +kernel,by decide +kernel⟩
theorem sc_places_in_order:FnScope ["fields", "places"] ["fields"] (defScope ax_):=⟨rfl,rfl,rfl,by decide +kernel,rfl,by decide +kernel,by decide +kernel⟩
theorem sc_laid_bytes:FnScope ["kind", "value", "laid", "step", "k", "each", "field", "placed"] ["kind", "value"] (defScope dv_):=⟨rfl,rfl,rfl,by decide +kernel,rfl,by decide +kernel,by decide +kernel⟩
theorem sc_number_bytes:FnScope ["w", "value", "some", "rest", "k"] ["w", "value"] (defScope cw_):=⟨rfl,rfl,rfl,by decide +kernel,rfl,by decide +kernel,by decide +kernel⟩
theorem sc_lay:FnScope ["laid", "place", "some", "k", "byte"] ["laid", "place", "some"] (defScope s_lay):=⟨rfl,rfl,rfl,by decide +kernel,rfl,by decide +kernel,by decide +kernel⟩
theorem sc_value_of:FnScope ["kind", "thing", "value"] ["kind", "thing"] (defScope gd_):=⟨rfl,rfl,rfl,by decide +kernel,rfl,by decide +kernel,by decide +kernel⟩
theorem sc_are_bytes:FnScope ["thing", "how_many"] ["thing", "how_many"] (defScope ek_):=⟨rfl,rfl,rfl,by decide +kernel,rfl,by decide +kernel,by decide +kernel⟩
theorem sc_is_byte:FnScope ["thing"] ["thing"] (defScope hu_):=⟨rfl,rfl,rfl,by decide +kernel,rfl,by decide +kernel,by decide +kernel⟩
theorem sc_value_at:FnScope ["kind", "some", "place", "step"] ["kind", "some", "place"] (defScope ea_):=⟨rfl,rfl,rfl,by decide +kernel,rfl,by decide +kernel,by decide +kernel⟩
theorem sc_number_at:FnScope ["w", "some", "place", "value", "byte"] ["w", "some", "place"] (defScope eh_):=⟨rfl,rfl,rfl,by decide +kernel,rfl,by decide +kernel,by decide +kernel⟩
theorem sc_record_at:FnScope ["fields", "some", "place", "value", "field", "placed"] ["fields", "some", "place"] (defScope eg_):=⟨rfl,rfl,rfl,by decide +kernel,rfl,by decide +kernel,by decide +kernel⟩
theorem sc_choice_at:FnScope ["kind", "some", "place", "mark"] ["kind", "some", "place"] (defScope ej_):=⟨rfl,rfl,rfl,by decide +kernel,rfl,by decide +kernel,by decide +kernel⟩
theorem sc_law_pool:FnScope ["script", "k", "cell"] ["script", "k"] (defScope ge_):=⟨rfl,rfl,rfl,by decide +kernel,rfl,by decide +kernel,by decide +kernel⟩
theorem sc_law_take:FnScope ["pool", "many", "found", "step", "mark"] ["pool", "many"] (defScope ec_):=⟨rfl,rfl,rfl,by decide +kernel,rfl,by decide +kernel,by decide +kernel⟩
theorem sc_law_rounded:FnScope ["number", "m", "left"] ["number", "m"] (defScope ce_):=⟨rfl,rfl,rfl,by decide +kernel,rfl,by decide +kernel,by decide +kernel⟩
theorem sc_law_room:FnScope ["kind", "room", "most", "parts", "end", "multiple", "begin"] ["kind"] (defScope bu_):=⟨rfl,rfl,rfl,by decide +kernel,rfl,by decide +kernel,by decide +kernel⟩
theorem sc_law_names:FnScope ["pool", "many", "letters", "stem", "found", "k", "name", "way", "at", "turn"] ["pool", "many"] (defScope cd_):=⟨rfl,rfl,rfl,by decide +kernel,rfl,by decide +kernel,by decide +kernel⟩
theorem sc_law_kind:FnScope ["pool", "deep", "most", "way", "kind", "found", "many"] ["pool", "deep", "most"] (defScope dg_):=⟨rfl,rfl,rfl,by decide +kernel,rfl,by decide +kernel,by decide +kernel⟩
theorem sc_law_copy:FnScope ["thing", "found", "key"] ["thing"] (defScope dh_):=⟨rfl,rfl,rfl,by decide +kernel,rfl,by decide +kernel,by decide +kernel⟩
theorem sc_law_same:FnScope ["one", "other"] ["one", "other"] (defScope cv_):=⟨rfl,rfl,rfl,by decide +kernel,rfl,by decide +kernel,by decide +kernel⟩
theorem sc_law_top:FnScope ["width", "found", "k"] ["width"] (defScope fp_):=⟨rfl,rfl,rfl,by decide +kernel,rfl,by decide +kernel,by decide +kernel⟩
theorem sc_law_value:FnScope ["pool", "kind", "top", "found", "name", "inner", "k"] ["pool", "kind"] (defScope dm_):=⟨rfl,rfl,rfl,by decide +kernel,rfl,by decide +kernel,by decide +kernel⟩
theorem sc_law_bytes:FnScope ["kind", "value", "found", "k", "parts", "most", "inner", "one"] ["kind", "value"] (defScope cm_):=⟨rfl,rfl,rfl,by decide +kernel,rfl,by decide +kernel,by decide +kernel⟩
theorem sc_law_marked:FnScope ["value", "marks", "one", "name"] ["value", "marks"] (defScope du_):=⟨rfl,rfl,rfl,by decide +kernel,rfl,by decide +kernel,by decide +kernel⟩
theorem sc_law:FnScope ["script", "k", "pool", "most", "kind", "turn", "value", "laid", "handed", "again", "found", "due"] ["script"] (defScope s_law):=⟨rfl,rfl,rfl,by decide +kernel,rfl,by decide +kernel,by decide +kernel⟩
noncomputable def srtK (ks:List Str):List Str:=open Classical in if h:∃ ss:List Str,ss.Perm ks∧PyProof.Rows.sortedS ss=true then choose h else ks
theorem srtK_eq {ks ss:List Str} (h1:ss.Perm ks) (h2:PyProof.Rows.sortedS ss=true):srtK ks=ss:=by
 have h:∃ ss:List Str,ss.Perm ks∧PyProof.Rows.sortedS ss=true:=⟨ss,h1,h2⟩
 unfold srtK
 rw [dif_pos h]
 have q:=Classical.choose_spec h
 exact sorted_one q.2 h2 (q.1.trans h1.symm)
def keyS:Key→Str
 | .inr x=>x
 | .inl _=>⟨#[]⟩
def mkS (f:Dx→Int→Dx×Int):List Nat→List Dx→Int→List Dx×Int
 | [],ds,m=>(ds,m)
 | j :: js,ds,m=>match ds[j]? with
  | some d=>mkS f js (ds.set j (f d m).1) (f d m).2
  | none=>(ds,m)
def newK (m:Int):Str:=Str.ofString "-" ++ txtI m
noncomputable def mkD:Nat→Dx→Int→Dx×Int
 | 0,d,m=>(d,m + 1)
 | n + 1,.lst ds,m=>(.lst ((mkS (mkD n) (List.range ds.length) ds m).1 ++ [.int (mkS (mkD n) (List.range ds.length) ds m).2]),(mkS (mkD n) (List.range ds.length) ds m).2 + 1)
 | n + 1,.tup [a,b],m=>(.tup [a,(mkD n b m).1],(mkD n b m).2 + 1)
 | n + 1,.dic l,m =>
  let r:=mkS (mkD n) ((srtK (l.map fun q=>keyS q.1)).map fun k=>(l.map fun q=>keyS q.1).idxOf k) (l.map (·.2)) m
  (.dic ((l.map (·.1)).zip r.1 ++ [(.inr (newK r.2),.int r.2)]),r.2 + 1)
 | _ + 1,d,m=>(d,m + 1)
def MkO:Nat→Ow→Prop
 | _ + 1,.tr (.int _)=>True
 | n + 1,.ol _ l=>l.length≤20∧∀ o∈l,MkO n o
 | n + 1,.od _ l=>l.length≤20∧(∃ ks:List Str,l.map (·.1)=ks.map Sum.inr∧ks.Nodup∧∀ k∈ks,k.cps.toList.head?≠some 45)∧∀ q∈l,MkO n q.2
 | n + 1,.ot [.tr (.int _),o]=>MkO n o
 | _,_=>False
theorem oks_get {G H:Hp}:∀ {os:List Ow} {vs:List V},OwOks G H os vs↔vs.length=os.length∧∀ (j:Nat) o x,os[j]? = some o→vs[j]? = some x→OwOk G H o x
 | [],vs=>by
  simp only [OwOks,List.length_nil,List.length_eq_zero_iff]
  exact ⟨fun h=>⟨h,fun j o x h1 _=>by simp at h1⟩,fun h=>h.1⟩
 | o :: os,vs=>by
  simp only [OwOks]
  constructor
  ·rintro ⟨v,vr,rfl,h1,h2⟩
   obtain ⟨hl,h3⟩:=oks_get.mp h2
   refine ⟨by rw [List.length_cons,List.length_cons,hl],fun j o' x e1 e2 => ?_⟩
   cases j with
   | zero=>cases e1; cases e2; exact h1
   | succ j=>exact h3 j o' x (by simpa using e1) (by simpa using e2)
  ·rintro ⟨hl,h⟩
   cases vs with
   | nil=>simp at hl
   | cons v vr=>exact ⟨v,vr,rfl,h 0 o v rfl rfl,oks_get.mpr ⟨by simpa using hl,fun j o' x e1 e2=>h (j + 1) o' x (by simpa using e1) (by simpa using e2)⟩⟩
theorem cf_:∀ {os:List Ow},owDs os=os.map Ow.d
 | []=>by simp only [owDs,List.map_nil]
 | o :: r=>by simp only [owDs,List.map_cons,cf_]
theorem cz_:∀ {os:List Ow},owFs os=os.flatMap Ow.fp
 | []=>by simp only [owFs,List.flatMap_nil]
 | o :: r=>by simp only [owFs,List.flatMap_cons,cz_]
theorem owFk_map:∀ {l:List (Key×Ow)},owFk l=owFs (l.map (·.2))
 | []=>by simp only [owFk,List.map_nil,owFs]
 | q :: r=>by simp only [owFk,List.map_cons,owFs,owFk_map]
theorem cx_:∀ {l:List (Key×Ow)},owDk l=l.map fun q=>(q.1,q.2.d)
 | []=>by simp only [owDk,List.map_nil]
 | q :: r=>by simp only [owDk,List.map_cons,cx_]
theorem fp_in {os:List Ow} {i:Nat} {o:Ow} (hi:os[i]? = some o) {b:Addr} (hb:b∈o.fp):b∈owFs os:=by
 rw [cz_]
 exact List.mem_flatMap.mpr ⟨o,List.mem_of_getElem? hi,hb⟩
theorem fp_apart {os:List Ow} (h:(owFs os).Nodup) {i j:Nat} {o o':Ow} (hij:i≠j) (hi:os[i]? = some o) (hj:os[j]? = some o') {b:Addr} (hb:b∈o.fp):b∉o'.fp:=by
 induction os generalizing i j with
 | nil=>simp at hi
 | cons a r ih =>
  simp only [owFs] at h
  obtain ⟨_,h2,h3⟩:=List.nodup_append.mp h
  intro hb'
  cases i with
  | zero =>
   cases j with
   | zero=>exact hij rfl
   | succ j=>cases hi; exact h3 b hb b (fp_in (show r[j]? = some o' by simpa using hj) hb') rfl
  | succ i =>
   cases j with
   | zero=>cases hj; exact h3 b hb' b (fp_in (show r[i]? = some o by simpa using hi) hb) rfl
   | succ j=>exact ih h2 (i:=i) (j:=j) (fun z=>hij (congrArg Nat.succ z)) (by simpa using hi) (by simpa using hj) hb'
theorem owFs_set {os:List Ow} {j:Nat} {o o':Ow} (hj:os[j]? = some o) (hf:o'.fp=o.fp):owFs (os.set j o')=owFs os:=by
 induction os generalizing j with
 | nil=>simp at hj
 | cons a r ih =>
  cases j with
  | zero=>cases hj; simp only [List.set_cons_zero,owFs,hf]
  | succ j=>simp only [List.set_cons_succ,owFs,ih (by simpa using hj)]
theorem oks_set {G H H':Hp} {os:List Ow} {vs:List V} {j:Nat} {o o':Ow} {x:V} {p:Addr} (h:OwOks G H os vs) (hn:(owFs os).Nodup) (hp:p∉owFs os) (hj:os[j]? = some o) (hx:vs[j]? = some x) (k:∀ b u,b∉p :: o.fp→H b=some u→H' b=some u) (ho:OwOk G H' o' x):OwOks G H' (os.set j o') vs:=by
 obtain ⟨hl,h⟩:=oks_get.mp h
 refine oks_get.mpr ⟨by rw [List.length_set]; exact hl,fun i q y e1 e2 => ?_⟩
 by_cases z:i=j
 ·subst z
  rw [List.getElem?_set_self (List.getElem?_eq_some_iff.mp hj).1] at e1
  cases e1
  rw [hx] at e2
  cases e2
  exact ho
 ·rw [List.getElem?_set_ne (fun q=>z q.symm)] at e1
  have h1:=h i q y e1 e2
  refine OwOk.mono (.of fun _ _ z=>z) q y (fun b hb => ?_) h1
  obtain ⟨u,hu,_⟩:=OwOk.there q y h1 b hb
  rw [hu]
  refine k b u (fun w => ?_) hu
  rcases List.mem_cons.mp w with rfl | w
  ·exact hp (fp_in e1 hb)
  ·exact fp_apart hn z e1 hj hb w
theorem he_ {G H H':Hp} {os:List Ow} {vs:List V} (h:OwOks G H os vs) (k:∀ b u,b∈owFs os→H b=some u→H' b=some u):OwOks G H' os vs:=by
 obtain ⟨hl,h⟩:=oks_get.mp h
 refine oks_get.mpr ⟨hl,fun i q y e1 e2 => ?_⟩
 have h1:=h i q y e1 e2
 refine OwOk.mono (.of fun _ _ z=>z) q y (fun b hb => ?_) h1
 obtain ⟨u,hu,_⟩:=OwOk.there q y h1 b hb
 rw [hu]
 exact k b u (fp_in e1 hb) hu
theorem okk_oks {G H:Hp}:∀ {l:List (Key×Ow)} {ws:List (Key×V)},OwOkk G H l ws↔l.map (·.1)=ws.map (·.1)∧OwOks G H (l.map (·.2)) (ws.map (·.2))
 | [],ws=>by
  simp only [OwOkk,List.map_nil,OwOks]
  constructor
  ·rintro rfl; exact ⟨rfl,rfl⟩
  ·rintro ⟨h,_⟩
   exact List.map_eq_nil_iff.mp h.symm
 | q :: r,ws=>by
  simp only [OwOkk,List.map_cons,OwOks]
  constructor
  ·rintro ⟨w,wr,rfl,h1,h2⟩
   obtain ⟨h3,h4⟩:=okk_oks.mp h2
   exact ⟨by rw [List.map_cons,h1.1,h3],w.2,wr.map (·.2),rfl,h1.2,h4⟩
  ·rintro ⟨h1,v,vr,h2,h3,h4⟩
   cases ws with
   | nil=>simp at h2
   | cons w wr =>
    have e1:=List.cons.inj h1
    have e2:=List.cons.inj h2
    exact ⟨w,wr,rfl,⟨e1.1,(show w.2=v from e2.1) ▸ h3⟩,okk_oks.mpr ⟨e1.2,(show wr.map (·.2)=vr from e2.2) ▸ h4⟩⟩
def spM (n:Nat):Sp:=fun vs H Q _ => ∃ (v:V) (p:Addr) (o:Ow) (G:Hp) (m:Int),vs=[v,.ref p]∧H p=some (.lst [.int m])∧(p :: o.fp).Nodup∧Same G H∧(∀ b∈p :: o.fp,G b=none)∧OwOk G H o v∧MkO n o∧0≤m∧m + 21 ^ n≤10000000 ∧
 ∀ H' o' m',(∀ b u,b∉p :: o.fp→H b=some u→H' b=some u)→H' p=some (.lst [.int m'])→m≤m'→m'≤m + 21 ^ n→mkD n o.d m=(o'.d,m')→o'.fp=o.fp→OwOk G H' o' v→Q .non H'
structure Wk (n:Nat) (G H0:Hp) (p:Addr) (os0:List Ow) (vs:List V) (js:List Nat) (R:List Dx×Int) (M:Int) (i:Nat) (H:Hp) (os:List Ow) (m:Int):Prop where
 ok:OwOks G H os vs
 fs:owFs os=owFs os0
 un:∀ t j,i≤t→js[t]? = some j→os[j]? = os0[j]?
 run:mkS (mkD n) (js.drop i) (owDs os) m=R
 num:H p=some (.lst [.int m])
 lo:M≤m
 hi:m≤M + i * 21 ^ n
 kp:∀ b u,b∉p :: owFs os0→H0 b=some u→H b=some u
theorem fp_nodup {os:List Ow} (h:(owFs os).Nodup) {j:Nat} {o:Ow} (hj:os[j]? = some o):o.fp.Nodup:=by
 induction os generalizing j with
 | nil=>simp at hj
 | cons a r ih =>
  simp only [owFs] at h
  cases j with
  | zero=>cases hj; exact (List.nodup_append.mp h).1
  | succ j=>exact ih (List.nodup_append.mp h).2.1 (show r[j]? = some o by simpa using hj)
section
variable {P:Program} {w:World} {K:FG_} {mg:MG_} {base:Heap} {f:Addr} {fd:FuncData} {n j:Nat}
theorem Wk.step {G H0 H:Hp} {p:Addr} {os0 os:List Ow} {vs:List V} {js:List Nat} {R:List Dx×Int} {M m:Int} {i j:Nat} {x:V} {Q:VK} {E:XK} (W:Wk n G H0 p os0 vs js R M i H os m) (hj:js[i]? = some j) (hnd:js.Nodup) (hx:vs[j]? = some x) (hmk:∀ o∈os0,MkO n o) (hG:Same G H0) (hGn:∀ b∈p :: owFs os0,G b=none) (hn:(p :: owFs os0).Nodup) (hM:0≤M) (hM2:M + 21 * 21 ^ n≤10000000) (hi:i < 20)
  (q:∀ H' os' m',Wk n G H0 p os0 vs js R M (i + 1) H' os' m'→Q .non H'):spM n [x,.ref p] H Q E:=by
 have hpos:(0:Int) < 21 ^ n:=Int.pow_pos (by decide)
 have hjl:j < vs.length:=(List.getElem?_eq_some_iff.mp hx).1
 obtain ⟨hl,hok⟩:=oks_get.mp W.ok
 obtain ⟨o,ho⟩ : ∃ o,os[j]? = some o:=⟨_,List.getElem?_eq_getElem (by omega)⟩
 have ho0:os0[j]? = some o:=(W.un i j (Nat.le_refl _) hj).symm.trans ho
 have hin:∀ b∈o.fp,b∈owFs os0:=fun b hb=>fp_in ho0 hb
 have hp:p∉owFs os0:=(List.nodup_cons.mp hn).1
 have hno:o.fp.Nodup:=by
  exact fp_nodup (List.nodup_cons.mp hn).2 ho0
 have hmul:(i:Int) * 21 ^ n≤19 * 21 ^ n:=Int.mul_le_mul_of_nonneg_right (by omega) (by omega)
 have e20:(21:Int) * 21 ^ n=19 * 21 ^ n + 2 * 21 ^ n:=by rw [← Int.add_mul]; rfl
 refine ⟨x,p,o,G,m,rfl,W.num,List.nodup_cons.mpr ⟨fun z=>hp (hin p z),hno⟩,fun b u hb=>W.kp b u (fun z=>by rw [hGn b z] at hb; cases hb) (hG b u hb),fun b hb=>hGn b ?_,hok j o x ho hx,hmk o (List.mem_of_getElem? ho0),by have:=W.lo; omega,by have:=W.hi; omega,fun H' o' m' k1 k2 k3 k4 k5 k6 k7=>q H' (os.set j o') m' ?_⟩
 ·rcases List.mem_cons.mp hb with rfl | hb
  ·exact List.mem_cons_self
  ·exact List.mem_cons_of_mem _ (hin b hb)
 ·have hfs:owFs (os.set j o')=owFs os0:=(owFs_set ho k6).trans W.fs
  refine ⟨oks_set W.ok (by rw [W.fs]; exact (List.nodup_cons.mp hn).2) (by rw [W.fs]; exact hp) ho hx k1 k7,hfs,fun t j' ht hj' => ?_,?_,k2,by have:=W.lo; omega,?_,fun b u hb h0=>k1 b u (fun z=>hb ?_) (W.kp b u hb h0)⟩
  ·have hne:j'≠j:=fun z=>by
    subst z
    have:=(List.getElem?_inj (List.getElem?_eq_some_iff.mp hj).1 hnd).mp (hj.trans hj'.symm)
    omega
   rw [List.getElem?_set_ne (fun z=>hne z.symm)]
   exact W.un t j' (by omega) hj'
  ·have hr:=W.run
   rw [List.drop_eq_getElem_cons (List.getElem?_eq_some_iff.mp hj).1,(List.getElem?_eq_some_iff.mp hj).2] at hr
   have hd:(owDs os)[j]? = some o.d:=by rw [cf_,List.getElem?_map,ho]; rfl
   unfold mkS at hr
   rw [hd] at hr
   dsimp only at hr
   rw [k5] at hr
   rw [← hr,cf_,cf_,List.map_set]
  ·have:=W.hi
   have e1:((i + 1:Nat):Int) * 21 ^ n=(i:Int) * 21 ^ n + 21 ^ n:=by push_cast; rw [Int.add_mul,Int.one_mul]
   omega
  ·rcases List.mem_cons.mp z with rfl | z
   ·exact List.mem_cons_self
   ·exact List.mem_cons_of_mem _ (hin b z)
theorem go_mark {sp:Sp} {v1 v2:V} {i j:Nat} {D:Ends} {σ:St} {H:Hp} {E:XK} (h1:σ[i]? = some (some v1)) (h2:σ[j]? = some (some v2)) (h:sp [v1,v2] H (fun _ H1=>D.nx σ H1) E):tDrop (tCall sp [] E (tCons (tVar i) (tCons (tVar j) tNil))) D σ H:=⟨v1,h1,v2,h2,h⟩
theorem newK_head (m:Int):(newK m).cps.toList.head? = some 45:=by
 show ((Str.ofString "-").cps ++ (txtI m).cps).toList.head? = some 45
 rw [Array.toList_append,show (Str.ofString "-").cps.toList=[45] from by decide]
 rfl
theorem zip_keys:∀ {l:List (Key×Ow)} {os:List Ow},os.length=l.length→((l.map (·.1)).zip os).map (·.1)=l.map (·.1)∧((l.map (·.1)).zip os).map (·.2)=os
 | [],[],_=>⟨rfl,rfl⟩
 | [],_ :: _,h=>by simp at h
 | _ :: _,[],h=>by simp at h
 | q :: l,o :: os,h=>by
  obtain ⟨h1,h2⟩:=zip_keys (l:=l) (os:=os) (by simpa using h)
  simp only [List.map_cons,List.zip_cons_cons]
  exact ⟨by rw [h1],by rw [h2]⟩
theorem kit_dict_list:PySem.W.kitOne K (.type "dict") (.type "list")=some false:=ih_ (by decide +kernel) (by decide +kernel) (by decide +kernel)
theorem kit_dict_tuple:PySem.W.kitOne K (.type "dict") (.type "tuple")=some false:=ih_ (by decide +kernel) (by decide +kernel) (by decide +kernel)
theorem go_markD {sp:Sp} {a:Addr} {k y v2:V} {i j t:Nat} {D:Ends} {σ:St} {H:Hp} {E:XK} (h1:σ[i]? = some (some (.ref a))) (h2:σ[t]? = some (some k)) (hd:DGet H a k (some y)) (h3:σ[j]? = some (some v2)) (h:sp [y,v2] H (fun _ H1=>D.nx σ H1) E):tDrop (tCall sp [] E (tCons (tDGet (tVar i) (tVar t)) (tCons (tVar j) tNil))) D σ H:=⟨_,h1,_,h2,a,y,rfl,hd,v2,h3,h⟩
theorem valV_at:∀ {ws:List (Key×V)} {ks:List Str} {j:Nat} {k:Str} {w:Key×V},ws.map (·.1)=ks.map Sum.inr→ks.Nodup→ks[j]? = some k→ws[j]? = some w→valV ws (.inr k)=some w.2
 | [],_,_,_,_,_,_,_,h=>by simp at h
 | q :: ws,[],_,_,_,h,_,_,_=>by simp at h
 | q :: ws,k0 :: ks,0,k,w,h,_,h1,h2=>by
  cases h1; cases h2
  have e:=(List.cons.inj h).1
  unfold valV
  rw [List.find?_cons_of_pos (by exact decide_eq_true e)]
  rfl
 | q :: ws,k0 :: ks,j + 1,k,w,h,hn,h1,h2=>by
  have e:=List.cons.inj h
  have hne:¬ q.1=Sum.inr k:=fun z=>by
   have z2:k0=k:=Sum.inr.inj ((show q.1=Sum.inr k0 from e.1).symm.trans z)
   exact (List.nodup_cons.mp hn).1 (by rw [z2]; exact List.mem_of_getElem? (show ks[j]? = some k by simpa using h1))
  have ih:=valV_at e.2 (List.nodup_cons.mp hn).2 (show ks[j]? = some k by simpa using h1) (show ws[j]? = some w by simpa using h2)
  unfold valV at ih ⊢
  rw [List.find?_cons_of_neg (by simpa using hne)]
  exact ih
theorem ik_ {ks:List Str} {k:Str} (h:k∈ks):ks[ks.idxOf k]? = some k:=by
 have hl:=List.idxOf_lt_length_iff.mpr h
 rw [List.getElem?_eq_getElem hl,List.getElem_idxOf]
theorem ok_mk (F:Fun K "_law_marked" "_law_marked" du_ f fd) (CMK:Cal P w K mg base j "_law_marked" ["value", "marks"] (spM n)) (m_isinstance:mg "isinstance" = none) (m_list:mg "list" = none) (m_tuple:mg "tuple" = none) (m_dict:mg "dict" = none) (m_sorted:mg "sorted" = none) (m_str:mg "str" = none):FnOk P w K mg base CX0 (j + 1) f fd ["value", "marks"] (spM (n + 1)):=by
 refine F.ok sc_law_marked (fun vs H Q E h => ?_) (fun cdv A outer s H vs Q E hr h => ?_)
 ·obtain ⟨_,_,_,_,_,rfl,_⟩:=h
  rfl
 have hu1:=en_ hr
 have hu0:=Nat.lt_of_succ_lt hu1
 refine ⟨_,(hb_ (ps_if (pt_val (em_ (ev_ (h:=rfl)) rfl m_isinstance ct_ (as_ (pv 0) (as_ (bp_ (v:=.ty "list") rfl m_list fj_ rfl) cb_)))) (hb_ (ps_for PassesOwn.never rfl (pi_list (fr_ gu_ rfl m_list fj_ (as_ (pv 0) cb_))) (aj_ (i:=2) sc_law_marked.nd rfl (Or.inl rfl)) (el_ (dw_ (gq_ CMK hr (as_ (pv 2) (as_ (pv 1) cb_))))))
  (el_ (dw_ (pe_bm PySem.F.plainAttrs_list PySem.F.slot_list_append PySem.F.type_list_append er_ (pv 0) (as_ (pe_ix gj_ (pv 1) ep_ (fun _ _=>rfl)) cb_))))) (el_ (ps_if (pt_val (em_ (ev_ (h:=rfl)) rfl m_isinstance ct_ (as_ (pv 0) (as_ (bp_ (v:=.ty "tuple") rfl m_tuple eo_ rfl) cb_)))) (el_ (dw_ (gq_ CMK hr (as_ (pe_ix ix_tup (pv 0) ep_ (fun _ _=>rfl)) (as_ (pv 1) cb_))))) (el_ (ps_if (pt_val (em_ (ev_ (h:=rfl)) rfl m_isinstance ct_ (as_ (pv 0) (as_ (bp_ (v:=.ty "dict") rfl m_dict bt_dict rfl) cb_)))) (hb_ (ps_for PassesOwn.never rfl (pi_list (em_ (call_sortedD rfl) rfl m_sorted bt_sorted (as_ (pv 0) cb_))) (aj_ (i:=3) sc_law_marked.nd rfl (Or.inl rfl)) (el_ (dw_ (gq_ CMK hr (as_ (pe_dget hu1 (pv 0) (pv 3) (fun _ _=>rfl)) (as_ (pv 1) cb_))))))
  (el_ (ps_dput hu1 (pv 0) (pe_op op_add_str pe_str (fr_ call_strI rfl m_str bt_str (as_ (pe_ix gj_ (pv 1) ep_ (fun _ _=>rfl)) cb_))) (pe_ix gj_ (pv 1) ep_ (fun _ _=>rfl)) rfl))) pss_nil)))))
  (el_ (ps_asg (pe_add (pe_ix gj_ (pv 1) ep_ (fun _ _=>rfl)) ep_) (pg_sub (pv 1) ep_ fn_)))),?_⟩
 obtain ⟨v,p,o,G,m,rfl,hp,hnd,hG,hGn,ho,hmk,h0,hM,q⟩:=h
 have hpos:(0:Int) < 21 ^ n:=Int.pow_pos (by decide)
 have hpow:(21:Int) ^ (n + 1)=21 * 21 ^ n:=by rw [Int.pow_succ,Int.mul_comm]
 have hpo:p∉o.fp:=(List.nodup_cons.mp hnd).1
 have tail:∀ (σ1:St) (H1:Hp) (o1:Ow) (m1:Int),σ1[1]? = some (some (.ref p))→(∀ b u,b∉p :: o.fp→H b=some u→H1 b=some u)→H1 p=some (.lst [.int m1])→m≤m1→m1 + 1≤m + 21 ^ (n + 1)→mkD (n + 1) o.d m=(o1.d,m1 + 1)→o1.fp=o.fp→OwOk G H1 o1 v →
   tAsg (tAdd (tOp (rIxL K) (tVar 1) (tC (.int 0))) (tC (.int 1))) (gSub (tVar 1) (tC (.int 0)) rSetL) { nx:=fun _ H'=>Q .non H',rt:=Q } σ1 H1:=fun σ1 H1 o1 m1 hs1 k1 k2 k3 k4 k5 k6 k7=>by
  refine ⟨.ref p,hs1,p,[.int m1],0,.int m1,rfl,rfl,SqL.of k2,rfl,?_⟩
  refine ⟨m1,1,rfl,rfl,.ref p,hs1,p,[.int m1],0,0,rfl,rfl,k2,rfl,?_⟩
  refine q _ o1 (m1 + 1) (fun b u hb hu => ?_) upd_same (by omega) k4 k5 k6 (OwOk.mono (.of fun _ _ z=>z) o1 v (fun b hb=>ah_ fun z=>hpo (by rw [← z,← k6]; exact hb)) k7)
  rw [ah_ fun z=>hb (by rw [z]; exact List.mem_cons_self)]
  exact k1 b u hb hu
 have keep0:∀ b u,b∉p :: o.fp→H b=some u→H b=some u:=fun _ _ _ z=>z
 cases o with
 | tr d =>
  cases d with
  | int i =>
   simp only [OwOk,IsX] at ho
   subst ho
   refine ⟨_,rfl,_,_,_,_,rfl,.int _,kit_int_list,_,rfl,iteF ?_⟩
   refine ⟨_,rfl,_,_,_,_,rfl,.int _,kit_int_tuple,_,rfl,iteF ?_⟩
   refine ⟨_,rfl,_,_,_,_,rfl,.int _,kit_int_dict,_,rfl,iteF ?_⟩
   exact tail _ H (.tr (.int i)) m rfl keep0 hp (Int.le_refl _) (by omega) (by simp only [Ow.d,mkD]) rfl (by simp only [OwOk,IsX])
  | _=>simp only [MkO] at hmk
 | oi C a dx l=>simp only [MkO] at hmk
 | ol a os =>
  simp only [MkO] at hmk
  simp only [OwOk] at ho
  obtain ⟨rfl,vs,ha,hoks⟩:=ho
  simp only [Ow.fp] at hnd hGn hpo tail keep0
  obtain ⟨hvl,_⟩:=oks_get.mp hoks
  have hna:a∉owFs os:=(List.nodup_cons.mp (List.nodup_cons.mp hnd).2).1
  have hpa:p≠a:=fun z=>hpo (by rw [z]; exact List.mem_cons_self)
  refine ⟨_,rfl,_,_,_,_,rfl,.lst ha,hf_ _,_,rfl,iteT ?_⟩
  refine ⟨_,rfl,a,vs,rfl,.inl (SqL.of ha),fun l hl=>⟨l,rfl,⟨vs,SqL.of upd_same⟩,?_⟩⟩
  have hla:l≠a:=fun z=>by rw [z,ha] at hl; cases hl
  have hlp:l≠p:=fun z=>by rw [z,hp] at hl; cases hl
  have hlo:l∉owFs os:=fun z=>by
   obtain ⟨jj,oo,hjj,hbb⟩ : ∃ (jj:Nat) (oo:Ow),os[jj]? = some oo∧l∈oo.fp:=by
    rw [cz_] at z
    obtain ⟨oo,h1,h2⟩:=List.mem_flatMap.mp z
    obtain ⟨jj,h3⟩:=List.getElem?_of_mem h1
    exact ⟨jj,oo,h3,h2⟩
   have hjl:=(List.getElem?_eq_some_iff.mp hjj).1
   obtain ⟨u,hu,_⟩:=OwOk.there oo _ ((oks_get.mp hoks).2 jj oo _ hjj (List.getElem?_eq_getElem (by omega))) l hbb
   rw [hl] at hu
   cases hu
  have hmk2:=hmk.2
  have hM':m + 21 * 21 ^ n≤10000000:=by rw [← hpow]; exact hM
  refine for_list (xs:=vs) (fun i σ' H'=>(∃ y2 y3,σ'=[some (.ref a),some (.ref p),y2,y3])∧∃ os' m',Wk n G (upd H l (.lst vs)) p os vs (List.range vs.length) (mkS (mkD n) (List.range vs.length) (owDs os) m) m i H' os' m') ⟨⟨_,_,rfl⟩,os,m,⟨he_ hoks fun b u hb hu=>by rw [ah_ (show b≠l from fun z=>hlo (z ▸ hb))]; exact hu,rfl,fun t j _ _=>rfl,by rw [List.drop_zero],by rw [ah_ fun z=>hlp z.symm]; exact hp,Int.le_refl _,by simp,fun b u _ z=>z⟩⟩ (fun i σ' H' hi ⟨_,os',m',W⟩=>SqL.of (W.kp l _ (fun z=>by rcases List.mem_cons.mp z with z | z; exact hlp z; exact hlo z) upd_same)) (fun i x σ' H' hx ⟨⟨y2,y3,e⟩,os',m',W⟩ => ?_) (fun σ' H' ⟨⟨y2,y3,e⟩,os',m',W⟩ => ?_)
  ·subst e
   have hil:=(List.getElem?_eq_some_iff.mp hx).1
   refine go_mark (v1:=x) (v2:=.ref p) rfl rfl ?_
   refine W.step (i:=i) (j:=i) (by rw [List.getElem?_range hil]) List.nodup_range hx hmk2 (fun b u hb=>by rw [ah_ fun z=>by have:=hG b u hb; rw [z,hl] at this; cases this]; exact hG b u hb) (fun b hb=>hGn b (by rcases List.mem_cons.mp hb with rfl | hb; exact List.mem_cons_self; exact List.mem_cons_of_mem _ (List.mem_cons_of_mem _ hb))) (List.nodup_cons.mpr ⟨fun z=>hpo (List.mem_cons_of_mem _ z),(List.nodup_cons.mp (List.nodup_cons.mp hnd).2).2⟩) h0 hM' (by omega) ?_
   intro H2 os2 m2 W2
   exact ⟨⟨_,_,rfl⟩,os2,m2,W2⟩
  ·subst e
   have hr:=W.run
   rw [List.drop_eq_nil_iff.mpr (by rw [List.length_range]; exact Nat.le_refl _)] at hr
   have haH:H' a=some (.lst vs):=W.kp a _ (fun z=>by rcases List.mem_cons.mp z with z | z; exact hpa z.symm; exact hna z) (by rw [ah_ fun z=>hla z.symm]; exact ha)
   refine ⟨.ref a,rfl,.inl ⟨rfl,vs,SqL.of haH⟩,.ref p,rfl,p,[.int m'],0,.int m',rfl,rfl,SqL.of W.num,rfl,a,vs,.int m',rfl,rfl,haH,by rw [sizeLine_eq]; omega,?_⟩
   have hhi:=W.hi
   have hlo2:=W.lo
   have hmul:(vs.length:Int) * 21 ^ n≤20 * 21 ^ n:=Int.mul_le_mul_of_nonneg_right (by omega) (by omega)
   have e21:(21:Int) * 21 ^ n=20 * 21 ^ n + 21 ^ n:=by rw [show (21:Int)=20 + 1 from rfl,Int.add_mul,Int.one_mul]
   have hdl:(owDs os).length=vs.length:=by rw [cf_,List.length_map,hvl]
   refine tail _ _ (.ol a (os' ++ [.tr (.int m')])) m' rfl (fun b u hb hu => ?_) (by rw [ah_ hpa]; exact W.num) hlo2 (by rw [hpow]; omega) ?_ ?_ ?_
   ·have hba:b≠a:=fun z=>hb (by rw [z]; exact List.mem_cons_of_mem _ List.mem_cons_self)
    rw [ah_ hba]
    refine W.kp b u (fun z=>hb ?_) (by rw [ah_ fun z=>by rw [z,hl] at hu; cases hu]; exact hu)
    rcases List.mem_cons.mp z with rfl | z
    ·exact List.mem_cons_self
    ·exact List.mem_cons_of_mem _ (List.mem_cons_of_mem _ z)
   ·simp only [Ow.d,mkD]
    rw [hdl,← hr]
    simp only [mkS,cf_,List.map_append,List.map_cons,List.map_nil,Ow.d]
   ·simp only [Ow.fp]
    rw [cz_,List.flatMap_append,← cz_,W.fs]
    simp only [List.flatMap_cons,List.flatMap_nil,Ow.fp,List.append_nil]
   ·simp only [OwOk]
    refine ⟨trivial,_,upd_same,?_⟩
    have hW:=he_ (H':=upd H' a (.lst (vs ++ [.int m']))) W.ok fun b u hb hu=>by
     rw [ah_ fun z=>hna (by rw [← z,← W.fs]; exact hb)]
     exact hu
    obtain ⟨g1,g2⟩:=oks_get.mp hW
    refine oks_get.mpr ⟨by rw [List.length_append,List.length_append,g1]; rfl,fun t oo x e1 e2 => ?_⟩
    by_cases ht:t < os'.length
    ·rw [List.getElem?_append_left ht] at e1
     rw [List.getElem?_append_left (by omega)] at e2
     exact g2 t oo x e1 e2
    ·rw [List.getElem?_append_right (by omega)] at e1
     rw [List.getElem?_append_right (by omega)] at e2
     have ht0:t - os'.length=0:=by have:=(List.getElem?_eq_some_iff.mp e1).1; simp at this; omega
     rw [ht0] at e1
     rw [show t - vs.length=0 by omega] at e2
     cases e1
     cases e2
     simp only [OwOk,IsX]
 | ot l =>
  match l,hmk with
  | [.tr (.int i),o2],hmk =>
   simp only [MkO] at hmk
   simp only [OwOk,OwOks,IsX] at ho
   obtain ⟨a,_,rfl,ha,_,_,rfl,rfl,x,_,rfl,h2,rfl⟩:=ho
   simp only [Ow.fp,owFs,List.nil_append,List.append_nil] at hnd hGn hpo tail keep0
   have haH:H a=some (.tup [.int i,x]):=hG _ _ ha
   refine ⟨_,rfl,_,_,_,_,rfl,.tup haH,kit_tuple_list,_,rfl,iteF ?_⟩
   refine ⟨_,rfl,_,_,_,_,rfl,.tup haH,hf_ _,_,rfl,iteT ?_⟩
   refine ⟨.ref a,rfl,a,[.int i,x],1,x,rfl,rfl,SqT.of haH,rfl,.ref p,rfl,?_⟩
   show spM n [x,.ref p] H (fun _ H1=>tAsg (tAdd (tOp (rIxL K) (tVar 1) (tC (.int 0))) (tC (.int 1))) (gSub (tVar 1) (tC (.int 0)) rSetL) { nx:=fun _ H'=>Q .non H',rt:=Q } (start ["value", "marks", "one", "name"] [.ref a,.ref p]) H1) E0
   refine ⟨x,p,o2,G,m,rfl,hp,hnd,hG,hGn,h2,hmk,h0,by omega,fun H' o' m' k1 k2 k3 k4 k5 k6 k7 => ?_⟩
   refine tail _ H' (.ot [.tr (.int i),o']) m' rfl k1 k2 k3 (by omega) ?_ ?_ ?_
   ·simp only [Ow.d,owDs,mkD,k5]
   ·simp only [Ow.fp,owFs,List.nil_append,List.append_nil,k6]
   ·simp only [OwOk,OwOks,IsX]
    exact ⟨a,_,rfl,ha,_,_,rfl,rfl,x,_,rfl,k7,rfl⟩
 | od a l =>
  simp only [MkO] at hmk
  obtain ⟨hl20,⟨ks,hks,hksn,hkd⟩,hmk2⟩:=hmk
  simp only [OwOk] at ho
  obtain ⟨rfl,ws,ha,hokk⟩:=ho
  obtain ⟨hkw,hoks⟩:=okk_oks.mp hokk
  simp only [Ow.fp] at hnd hGn hpo tail keep0
  rw [owFk_map] at hnd hGn hpo tail keep0
  obtain ⟨os,hos⟩ : ∃ os,os=l.map (·.2):=⟨_,rfl⟩
  obtain ⟨vs,hvs⟩ : ∃ vs,vs=ws.map (·.2):=⟨_,rfl⟩
  rw [← hos] at hnd hGn hpo tail keep0 hoks
  rw [← hvs] at hoks
  have hwk:ws.map (·.1)=ks.map Sum.inr:=hkw.symm.trans hks
  have hkl:ks.length=l.length:=by have:=congrArg List.length hks; rw [List.length_map,List.length_map] at this; exact this.symm
  have hwl:ws.length=l.length:=by have:=congrArg List.length hkw; rw [List.length_map,List.length_map] at this; exact this.symm
  have hvl:vs.length=l.length:=by rw [hvs,List.length_map,hwl]
  have hol:os.length=l.length:=by rw [hos,List.length_map]
  have hmk3:∀ o∈os,MkO n o:=fun o ho=>by rw [hos] at ho; obtain ⟨q,hq,rfl⟩:=List.mem_map.mp ho; exact hmk2 q hq
  have hna:a∉owFs os:=(List.nodup_cons.mp (List.nodup_cons.mp hnd).2).1
  have hpa:p≠a:=fun z=>hpo (by rw [z]; exact List.mem_cons_self)
  refine ⟨_,rfl,_,_,_,_,rfl,.dK ha,kit_dict_list,_,rfl,iteF ?_⟩
  refine ⟨_,rfl,_,_,_,_,rfl,.dK ha,kit_dict_tuple,_,rfl,iteF ?_⟩
  refine ⟨_,rfl,_,_,_,_,rfl,.dK ha,hf_ _,_,rfl,iteT ?_⟩
  refine ⟨_,rfl,a,ws,ks,rfl,.inl ha,hwk,by omega,fun ss hperm hsrt ll hl=>⟨ll,rfl,⟨_,SqL.of upd_same⟩,?_⟩⟩
  have hsrtK:srtK ks=ss:=srtK_eq hperm hsrt
  have hla:ll≠a:=fun z=>by rw [z,ha] at hl; cases hl
  have hlp:ll≠p:=fun z=>by rw [z,hp] at hl; cases hl
  have hlo:ll∉owFs os:=fun z=>by
   obtain ⟨jj,oo,hjj,hbb⟩ : ∃ (jj:Nat) (oo:Ow),os[jj]? = some oo∧ll∈oo.fp:=by
    rw [cz_] at z
    obtain ⟨oo,h1,h2⟩:=List.mem_flatMap.mp z
    obtain ⟨jj,h3⟩:=List.getElem?_of_mem h1
    exact ⟨jj,oo,h3,h2⟩
   have hjl:=(List.getElem?_eq_some_iff.mp hjj).1
   obtain ⟨u,hu,_⟩:=OwOk.there oo _ ((oks_get.mp hoks).2 jj oo _ hjj (List.getElem?_eq_getElem (by omega))) ll hbb
   rw [hl] at hu
   cases hu
  have hM':m + 21 * 21 ^ n≤10000000:=by rw [← hpow]; exact hM
  obtain ⟨js,hjs⟩ : ∃ js,js=ss.map fun k=>ks.idxOf k:=⟨_,rfl⟩
  have hssn:ss.Nodup:=hperm.nodup_iff.mpr hksn
  have hjsn:js.Nodup:=by
   rw [hjs]
   refine List.pairwise_map.mpr (hssn.imp_of_mem fun {x y} hx hy hne z=>hne ?_)
   have e1:=ik_ (hperm.mem_iff.mp hx)
   have e2:=ik_ (hperm.mem_iff.mp hy)
   rw [z] at e1
   rw [e1] at e2
   exact Option.some.inj e2
  have hssl:ss.length=l.length:=by rw [hperm.length_eq,hkl]
  refine for_list (xs:=ss.map V.str) (fun i σ' H'=>(∃ y2 y3,σ'=[some (.ref a),some (.ref p),y2,y3])∧∃ os' m',Wk n G (upd H ll (.lst (ss.map V.str))) p os vs js (mkS (mkD n) js (owDs os) m) m i H' os' m') ⟨⟨_,_,rfl⟩,os,m,⟨he_ hoks fun b u hb hu=>by rw [ah_ (show b≠ll from fun z=>hlo (z ▸ hb))]; exact hu,rfl,fun t j _ _=>rfl,by rw [List.drop_zero],by rw [ah_ fun z=>hlp z.symm]; exact hp,Int.le_refl _,by simp,fun b u _ z=>z⟩⟩ (fun i σ' H' hi ⟨_,os',m',W⟩=>SqL.of (W.kp ll _ (fun z=>by rcases List.mem_cons.mp z with z | z; exact hlp z; exact hlo z) upd_same)) (fun i x σ' H' hx ⟨⟨y2,y3,e⟩,os',m',W⟩ => ?_) (fun σ' H' ⟨⟨y2,y3,e⟩,os',m',W⟩ => ?_)
  ·subst e
   rw [List.getElem?_map] at hx
   obtain ⟨nm,hnm,rfl⟩:=Option.map_eq_some_iff.mp hx
   have hmem:nm∈ks:=hperm.mem_iff.mp (List.mem_of_getElem? hnm)
   have hkj:=ik_ hmem
   have hjl:=(List.getElem?_eq_some_iff.mp hkj).1
   have hil:=(List.getElem?_eq_some_iff.mp hnm).1
   obtain ⟨wj,hwj⟩ : ∃ wj,ws[ks.idxOf nm]? = some wj:=⟨_,List.getElem?_eq_getElem (by omega)⟩
   have haH:H' a=some (.dK ws):=W.kp a _ (fun z=>by rcases List.mem_cons.mp z with z | z; exact hpa z.symm; exact hna z) (by rw [ah_ fun z=>hla z.symm]; exact ha)
   refine go_markD (a:=a) (k:=.str nm) (y:=wj.2) (v2:=.ref p) rfl rfl (by rw [← valV_at hwk hksn hkj hwj]; exact DGet.k (k:=.inr nm) haH) rfl ?_
   refine W.step (i:=i) (j:=ks.idxOf nm) (by rw [hjs,List.getElem?_map,hnm]; rfl) hjsn (by rw [hvs,List.getElem?_map,hwj]; rfl) hmk3 (fun b u hb=>by rw [ah_ fun z=>by have:=hG b u hb; rw [z,hl] at this; cases this]; exact hG b u hb) (fun b hb=>hGn b (by rcases List.mem_cons.mp hb with rfl | hb; exact List.mem_cons_self; exact List.mem_cons_of_mem _ (List.mem_cons_of_mem _ hb))) (List.nodup_cons.mpr ⟨fun z=>hpo (List.mem_cons_of_mem _ z),(List.nodup_cons.mp (List.nodup_cons.mp hnd).2).2⟩) h0 hM' (by omega) ?_
   intro H2 os2 m2 W2
   exact ⟨⟨_,_,rfl⟩,os2,m2,W2⟩
  ·subst e
   rw [List.length_map] at W
   have hr:=W.run
   rw [List.drop_eq_nil_iff.mpr (by rw [hjs,List.length_map]; exact Nat.le_refl _)] at hr
   have haH:H' a=some (.dK ws):=W.kp a _ (fun z=>by rcases List.mem_cons.mp z with z | z; exact hpa z.symm; exact hna z) (by rw [ah_ fun z=>hla z.symm]; exact ha)
   have hhi:=W.hi
   have hlo2:=W.lo
   have hmul:(ss.length:Int) * 21 ^ n≤20 * 21 ^ n:=Int.mul_le_mul_of_nonneg_right (by omega) (by omega)
   have e21:(21:Int) * 21 ^ n=20 * 21 ^ n + 21 ^ n:=by rw [show (21:Int)=20 + 1 from rfl,Int.add_mul,Int.one_mul]
   have hnew:(newK m')∉ks:=fun z=>hkd _ z (newK_head m')
   have hput:putK ws (.inr (newK m')) (.int m')=ws ++ [(.inr (newK m'),.int m')]:=by
    unfold putK
    rw [if_neg]
    intro z
    obtain ⟨q,hq,e⟩:=List.any_eq_true.mp z
    have h5:Sum.inr (newK m')∈ws.map (·.1):=List.mem_map.mpr ⟨q,hq,of_decide_eq_true e⟩
    rw [hwk] at h5
    obtain ⟨k5,h6,h7⟩:=List.mem_map.mp h5
    exact hnew (Sum.inr.inj h7 ▸ h6)
   refine ⟨.ref p,rfl,p,[.int m'],0,.int m',rfl,rfl,SqL.of W.num,rfl,.ref a,rfl,?_⟩
   have hlen:=PyProof.Rows.len_str_of_int m'
   refine ⟨_,rfl,p,[.int m'],0,.int m',rfl,rfl,SqL.of W.num,rfl,m',rfl,by omega,by omega,_,_,rfl,rfl,?_,a,_,rfl,DPut.k (k:=.inr (newK m')) haH (by rw [sizeLine_eq]; omega),?_⟩
   ·have e1:(Str.ofString "-").length=1:=by decide
    rw [e1,sizeLine_eq]
    show 1 + (txtI m').length≤_
    unfold txtI
    omega
   rw [hput]
   have hosl:os'.length=l.length:=by
    obtain ⟨g1,_⟩:=oks_get.mp W.ok
    omega
   obtain ⟨z1,z2⟩:=zip_keys (l:=l) hosl
   have hkeys:(l.map fun q=>keyS q.1)=ks:=by
    have h5:(l.map (·.1)).map keyS=(ks.map Sum.inr).map keyS:=by rw [hks]
    rw [List.map_map,List.map_map] at h5
    rw [show (l.map fun q=>keyS q.1)=l.map (keyS ∘ fun x=>x.1) from rfl,h5]
    exact (List.map_congr_left (fun x _=>rfl)).trans (List.map_id ks)
   refine tail _ _ (.od a ((l.map (·.1)).zip os' ++ [(.inr (newK m'),.tr (.int m'))])) m' rfl (fun b u hb hu => ?_) (by rw [ah_ hpa]; exact W.num) hlo2 (by rw [hpow]; omega) ?_ ?_ ?_
   ·have hba:b≠a:=fun z=>hb (by rw [z]; exact List.mem_cons_of_mem _ List.mem_cons_self)
    rw [ah_ hba]
    refine W.kp b u (fun z=>hb ?_) (by rw [ah_ fun z=>by rw [z,hl] at hu; cases hu]; exact hu)
    rcases List.mem_cons.mp z with rfl | z
    ·exact List.mem_cons_self
    ·exact List.mem_cons_of_mem _ (List.mem_cons_of_mem _ z)
   ·have hdl:owDk l=l.map fun q=>(q.1,q.2.d):=cx_
    have e1:(owDk l).map (fun q=>keyS q.1)=ks:=by rw [hdl,List.map_map]; exact hkeys
    have e2:(owDk l).map (·.2)=owDs os:=by rw [hdl,List.map_map,cf_,hos,List.map_map]; rfl
    have e3:(owDk l).map (·.1)=l.map (·.1):=by rw [hdl,List.map_map]; rfl
    simp only [Ow.d,mkD]
    rw [e1,e2,e3,hsrtK,← hjs,← hr]
    simp only [mkS]
    rw [cx_,List.map_append,List.map_cons,List.map_nil]
    simp only [Ow.d]
    rw [cf_]
    congr 3
    rw [List.zip_map_right]
    exact List.map_congr_left fun q _=>rfl
   ·simp only [Ow.fp]
    rw [owFk_map,List.map_append,z2,cz_,List.flatMap_append,← cz_,W.fs]
    simp only [List.map_cons,List.map_nil,List.flatMap_cons,List.flatMap_nil,Ow.fp,List.append_nil]
   ·simp only [OwOk]
    refine ⟨trivial,_,upd_same,?_⟩
    have hW:=he_ (H':=upd H' a (.dK (ws ++ [(.inr (newK m'),.int m')]))) W.ok fun b u hb hu=>by
     rw [ah_ fun z=>hna (by rw [← z,← W.fs]; exact hb)]
     exact hu
    refine OwOkk.snoc (by simp only [OwOk,IsX]) (okk_oks.mpr ⟨by rw [z1]; exact hkw,?_⟩)
    rw [z2,← hvs]
    exact hW
end
def xMark (n i:Nat):XS:=fun ρ D => ∃ s o,ρ[i]? = some (.v s)∧s.o? = some o∧MkO n o∧(21:Int) ^ n≤10000000∧∀ o':Ow,o'.d=(mkD n o.d 0).1→D.nx (ρ.set i (.v (.ow o')))
theorem xs_mark {X:Cx} {Ex:ExT} {n i j k0:Nat} {x:Str} {p p1 p2 pos pos2:Pos} (C:Cal X.prog X.w X.K X.mg X.base j "_law_marked" ["value", "marks"] (spM n)) (hr:Room j X.A) (hv:PE X (.Name x p1) (tVar i)) (hg:Gl X "_law_marked" := by rfl) (hdb:(("_law_marked" : Str) == ("__debug__" : Str))=false:=by decide)
  (he:starEach [.Name x p1,.List [.Constant (.int 0) k0 p2] pos2] X.env=(false,eval (.Name x p1) X.env) :: starEach [.List [.Constant (.int 0) k0 p2] pos2] X.env:=by rfl) (he2:starEach [.List [.Constant (.int 0) k0 p2] pos2] X.env=(false,eval (.List [.Constant (.int 0) k0 p2] pos2) X.env) :: starEach [] X.env:=by rfl) (he3:starEach [.Constant (.int 0) k0 p2] X.env=(false,eval (.Constant (.int 0) k0 p2) X.env) :: starEach [] X.env:=by rfl)
  {cpos:Pos} (hpl:(backTo cpos (starEach [.List [.Constant (.int 0) k0 p2] pos2] X.env)).any (·.1)=false:=by rfl) (hs:swapsWith (.Call (.Name "_law_marked" p) [.Name x p1,.List [.Constant (.int 0) k0 p2] pos2] [] cpos) none pos.line X.env=pure false:=by rfl) :
  XSt X Ex (.Expr (.Call (.Name "_law_marked" p) [.Name x p1,.List [.Constant (.int 0) k0 p2] pos2] [] cpos) pos) (xMark n i):=fun F=>(dw_ (gq_ C hr (as_ hv (as_ (pe_lst (as_ ep_ cb_ he3)) cb_ he2) he) hg hdb he hpl) hs).weak fun D σ H=>by
 rintro ⟨ρ,fr,d,E,⟨s,o,hsl,hso,hmk,hb,q⟩,k⟩
 obtain ⟨v,hv,hi,R⟩:=by_ E hsl
 obtain ⟨v,rfl,hx⟩:=R.head
 have R0:=R.toOw hso
 refine ⟨v,hv,by show 1≤sizeLine; decide,fun a ha => ?_⟩
 have R1:=R0.newL (l:=[.int 0]) (vs:=[.int 0]) ha ⟨_,_,rfl,IsX.of_int _,rfl⟩
 obtain ⟨y,ey,hok⟩:=R1.ok _ (List.mem_cons_of_mem _ List.mem_cons_self)
 cases ey
 have eA:owns [((.v (.ol [.int 0]),some (V.ref a)):Rw),(.v (.ow o),some v)]=a :: o.fp:=by
  rw [aq_ (a:=a) rfl,av_]
  simp only [ownA,owns,List.flatMap_nil,List.append_nil]
 have R1':Rep F ([((.v (.ol [.int 0]),some (V.ref a)):Rw),(.v (.ow o),some v)] ++ ((ρ.zip σ).eraseIdx i ++ fr)) (upd H a (.lst [.int 0])):=R1
 have hnd:=R1'.nd
 rw [ay_,eA] at hnd
 refine ⟨v,a,o,_,0,rfl,upd_same,(List.nodup_append.mp hnd).1,R1.hv,fun b hb => ?_,hok,hmk,Int.le_refl _,by omega,fun H' o' m' k1 k2 k3 k4 k5 k6 k7 => ?_⟩
 ·unfold hid
  rw [if_pos]
  have:b∈owns ([((.v (.ol [.int 0]),some (V.ref a)):Rw),(.v (.ow o),some v)] ++ ((ρ.zip σ).eraseIdx i ++ fr)):=by rw [ay_,eA]; exact List.mem_append_left _ hb
  exact this
 ·have eO:owns [((.v (.ow o'),some v):Rw)]=o.fp:=by simp only [owns,List.flatMap_cons,List.flatMap_nil,ownA,List.append_nil,k6]
  have R2:Rep F ([((.v (.ow o'),some v):Rw)] ++ ((ρ.zip σ).eraseIdx i ++ fr)) H':=by
   refine R1'.alter (by rw [eO]; exact (List.nodup_cons.mp (List.nodup_append.mp hnd).1).2) (fun b hb=>by rw [eA]; rw [eO] at hb; exact List.mem_cons_of_mem _ hb) (fun r hr => ?_) (fun r hr=>by rw [List.mem_singleton.mp hr]; exact ⟨_,rfl⟩) (fun b u hb hu=>k1 b u (by rw [eA] at hb; exact hb) hu) (fun b hb => ?_) fun r hr => ?_
   ·rcases List.mem_cons.mp hr with rfl | hr
    ·exact ⟨_,rfl⟩
    ·rw [List.mem_singleton.mp hr]; exact ⟨_,rfl⟩
   ·rw [eA] at hb
    rcases List.mem_cons.mp hb with rfl | hb
    ·exact ⟨_,k2⟩
    ·obtain ⟨u,hu,_⟩:=OwOk.there o' v k7 b (by rw [k6]; exact hb)
     exact ⟨u,hu⟩
   ·rw [List.mem_singleton.mp hr,eO]
    refine ⟨v,rfl,OwOk.mono (.of fun b u hb => ?_) o' v (fun _ _=>rfl) k7⟩
    have hb':=hid_some.mp hb
    have hbn:b∉a :: o.fp ++ owns ((ρ.zip σ).eraseIdx i ++ fr):=fun z=>hb'.1 (by
     have:b∈owns ([((.v (.ol [.int 0]),some (V.ref a)):Rw),(.v (.ow o),some v)] ++ ((ρ.zip σ).eraseIdx i ++ fr)):=by rw [ay_,eA]; exact z
     exact this)
    refine hid_some.mpr ⟨fun z=>hbn ?_,?_⟩
    ·rcases List.mem_append.mp z with z | z
     ·exact List.mem_append_left _ (List.mem_cons_of_mem _ z)
     ·exact List.mem_append_right _ z
    ·cases q0:F.H0 b with
     | none=>exact (aw_ q0).trans (ib_ ((aw_ q0).symm.trans hb'.2) fun ob hob=>k1 b ob (fun z=>hbn (List.mem_append_left _ z)) hob)
     | some w=>exact (az_ q0).trans ((az_ q0).symm.trans hb'.2)
  refine k.nx σ H' _ rfl ⟨by rw [List.length_set]; exact E.len,?_⟩ (q o' (by rw [k5]))
  exact (show Rep F ((.v (.ow o'),some v) :: ((ρ.zip σ).eraseIdx i ++ fr)) H' from R2).perm (((cl_ E.len hi hv).append_right fr).symm)
theorem bnd12 {n:Nat} (h:n≤12):bnd n < 2 ^ 150:=Int.lt_of_le_of_lt (gb_ h) (by decide)
section
variable {P:Program} {w:World} {K:FG_} {mg:MG_} {base:Heap} {f g fRU fGM fPB fRS fRO fRR fRC fRH fSO fCA:Addr} {fd gd dRU dGM dPB dRS dRO dRR dRC dRH dSO dCA:FuncData} {n j:Nat}
theorem ok_at:∀ {ks:List Kd} {i:Nat} {k:Kd},okK ks→ks[i]? = some k→k.Ok∧k.deep≤deepK ks
 | [],_,_,_,e=>by simp at e
 | k' :: r,0,k,h,e=>by simp at e; subst e; exact ⟨h.1,Nat.le_max_left _ _⟩
 | k' :: r,i + 1,k,h,e=>by obtain ⟨a,b⟩:=ok_at (i:=i) h.2 (by simpa using e); exact ⟨a,Nat.le_trans b (Nat.le_max_right _ _)⟩
theorem rmK_at:∀ {ks:List Kd} {i:Nat} {k:Kd},ks[i]? = some k→(rmK ks)[i]? = some k.rm
 | [],_,_,e=>by simp at e
 | k' :: r,0,k,e=>by simp at e; subst e; rfl
 | k' :: r,i + 1,k,e=>by show (rmK r)[i]? = _; exact rmK_at (by simpa using e)
theorem bdK12 {ks:List Kd} (h:okK ks) (hd:deepK ks≤n) (hn:n≤12):∀ r∈rmK ks,Bd (2 ^ 150) r:=fun r hr=>(bdK ks h r hr).mono (Int.le_of_lt (bnd12 (Nat.le_trans hd hn)))
theorem bd12 {k:Kd} (h:k.Ok) (hd:k.deep≤n) (hn:n≤12):Bd (2 ^ 150) k.rm:=(Kd.bd k h).mono (Int.le_of_lt (bnd12 (Nat.le_trans hd hn)))
theorem okF_map:∀ {fs:List (Str×Kd)},okF fs→okK (fs.map (·.2))
 | [],_=>trivial
 | f :: r,h=>⟨h.1,okF_map h.2⟩
theorem iq_:∀ (fs:List (Str×Kd)),deepK (fs.map (·.2))=deepF fs
 | []=>rfl
 | f :: r=>by show max f.2.deep (deepK (r.map (·.2)))=_; rw [iq_ r]; rfl
theorem rmF_map:∀ (fs:List (Str×Kd)),rmK (fs.map (·.2))=rmF fs
 | []=>rfl
 | f :: r=>by show f.2.rm :: rmK (r.map (·.2))=_; rw [rmF_map r]; rfl
end
def PoolAt (p:Addr) (md B:Int) (H:Hp):Prop := ∃ c st:Int,H p=some (.lst [.int c,.int md,.int st])∧0≤st∧st≤B
theorem PoolAt.ne {p l:Addr} {md B:Int} {H:Hp} (h:PoolAt p md B H) (hl:H l=none):l≠p:=by
 obtain ⟨c,st,a,b,d⟩:=h
 intro e
 rw [e,a] at hl
 cases hl
def codes (x:Str):List Nat:=x.cps.toList
theorem bv_ (x:Str):x.length=(codes x).length:=by simp [codes,Str.length]
theorem fy_ (x y:Str):codes (x ++ y)=codes x ++ codes y:=by
 show (x.cps ++ y.cps).toList=_
 rw [Array.toList_append]
 rfl
theorem it_ (c:Nat):codes ⟨#[c]⟩=[c]:=rfl
theorem codes_to {x:Str} {k:Int} (h0:0≤k) (h1:k≤(codes x).length):codes (Txt.slice x none (some k))=(codes x).take k.toNat:=by
 have e:=beq_iff_eq.mp (PyProof.Rows.slice_closes_toL (x:=x) h0 (by rw [bv_]; exact h1))
 rw [e]
 show (((x.cps.toList.drop 0).take (k - 0).toNat).toArray).toList=_
 simp [codes]
theorem codes_from {x:Str} {k:Int} (h0:0≤k) (h1:k≤(codes x).length):codes (Txt.slice x (some k) none)=(codes x).drop k.toNat:=by
 rw [PyProof.Rows.slice_from_eq (x:=x) (b:=x.length) h0 (by rw [bv_]; exact h1) rfl]
 show (((x.cps.toList.drop k.toNat).take ((x.length:Int) - k).toNat).toArray).toList=_
 rw [List.toList_toArray,List.take_of_length_le]
 ·rfl
 ·rw [List.length_drop,bv_]
  show x.cps.toList.length - k.toNat≤(((codes x).length:Int) - k).toNat
  show (codes x).length - k.toNat≤(((codes x).length:Int) - k).toNat
  omega
theorem glue_fold (g:Array Nat) (hg:g = #[]):∀ (r:List Str) (acc:Array Nat),(r.foldl (fun acc p=>acc ++ g ++ p.cps) acc).toList=acc.toList ++ (r.map codes).flatten
 | [],acc=>by simp
 | y :: r,acc=>by
  rw [List.foldl_cons,glue_fold g hg r]
  subst hg
  simp [codes]
theorem codes_join (ys:List Str):codes (Txt.join (Str.ofString "") ys)=(ys.map codes).flatten:=by
 show ((ys.drop 1).foldl (fun acc p=>acc ++ (Str.ofString "").cps ++ p.cps) (ys.headD Str.empty).cps).toList=_
 rw [glue_fold _ (by decide)]
 cases ys with
 | nil=>rfl
 | cons y r=>rfl
def Low (l:List Nat):Prop := ∀ c∈l,97≤c∧c≤122
def Nm (x:Str):Prop:=1≤(codes x).length∧(codes x).length≤8∧Low (codes x)
abbrev lets:Str := "abcdefghijklmnopqrstuvwxyz"
theorem lets_codes:codes lets=(List.range 26).map (97 + ·):=by decide +kernel
theorem lets_at {r:Int} (h0:0≤r) (h1:r < 26):atI lets.cps.toList r=some (97 + r.toNat):=by
 have e:((r.toNat:Nat):Int)=r:=by omega
 have q:atI (codes lets) ((r.toNat:Nat):Int)=some (97 + r.toNat):=fl_ (by
  rw [lets_codes,List.getElem?_map,List.getElem?_range (by omega)]
  rfl)
 rw [e] at q
 exact q
def cand (t:Nat):Str:=Txt.mul ⟨#[97 + t]⟩ 8
theorem gn_ (t:Nat):codes (cand t)=List.replicate 8 (97 + t):=PyProof.Rows.mul_one_list (97 + t) 8
theorem cand_inj {s t:Nat} (h:cand s=cand t):s=t:=by
 have e:=congrArg codes h
 rw [gn_,gn_] at e
 have e1:(97 + s) :: List.replicate 7 (97 + s)=(97 + t) :: List.replicate 7 (97 + t):=e
 have:=(List.cons.inj e1).1
 omega
theorem cand_nm {t:Nat} (h:t < 26):Nm (cand t):=by
 unfold Nm
 rw [gn_]
 refine ⟨by simp,by simp,fun c hc => ?_⟩
 have:=(List.mem_replicate.mp hc).2
 omega
theorem pigeon {α:Type} [BEq α] [LawfulBEq α]:∀ (l xs:List α),l.Nodup→(∀ a∈l,a∈xs)→l.length≤xs.length
 | [],_,_,_=>Nat.zero_le _
 | a :: r,xs,hn,hs=>by
  have ha:=hs a List.mem_cons_self
  obtain ⟨h1,h2⟩:=List.nodup_cons.mp hn
  have ih:=pigeon r (xs.erase a) h2 fun b hb=>(List.mem_erase_of_ne (fun e=>h1 (by rw [← e]; exact hb))).mpr (hs b (List.mem_cons_of_mem _ hb))
  rw [List.length_erase_of_mem ha] at ih
  have:=List.length_pos_of_mem ha
  rw [List.length_cons]
  omega
theorem cands_le {xs:List Str} {t:Nat} (h:∀ j < t,cand j∈xs):t≤xs.length:=by
 have q:=pigeon ((List.range t).map cand) xs ?_ ?_
 ·rw [List.length_map,List.length_range] at q
  exact q
 ·refine List.nodup_iff_pairwise_ne.mpr (List.pairwise_map.mpr ?_)
  exact List.Pairwise.imp (fun hab e=>hab (cand_inj e)) (List.nodup_iff_pairwise_ne.mp List.nodup_range)
 ·intro a ha
  obtain ⟨j,hj,rfl⟩:=List.mem_map.mp ha
  exact h j (List.mem_range.mp hj)
theorem inV_strs {x:Str}:∀ {xs:List Str},inV (.str x) (xs.map V.str)=true↔x∈xs:=by
 intro xs
 unfold inV
 rw [List.any_map,List.any_eq_true]
 constructor
 ·rintro ⟨y,hy,e⟩
  have e':(y == x)=true:=e
  have:y=x:=by simpa using e'
  rw [← this]
  exact hy
 ·intro h
  exact ⟨x,h,(beq_self_eq_true x:(x == x)=true)⟩
theorem hz_ (c:Nat):(⟨#[c]⟩ : Str).length=1:=rfl
theorem nm_free {st:Str} {r s:Int} (h7:(codes st).length=7) (hl:Low (codes st)) (h0:0≤r) (h1:r < 8) (h2:0≤s) (h3:s < 26) :
  Nm (Txt.slice st none (some r) ++ ⟨#[97 + s.toNat]⟩)∧(Txt.slice st none (some r)).length≤7:=by
 have e:=codes_to (x:=st) h0 (by omega)
 constructor
 ·unfold Nm
  rw [fy_,e,it_]
  refine ⟨by simp,by simp; omega,fun c hc => ?_⟩
  rcases List.mem_append.mp hc with hc | hc
  ·exact hl c (List.mem_of_mem_take hc)
  ·have:=List.mem_singleton.mp hc
   omega
 ·rw [bv_,e,List.length_take]
  omega
theorem nm_join {ys:List Str} (hl:∀ y∈ys,∃ j:Nat,j < 26∧y=⟨#[97 + j]⟩) (h1:1≤ys.length) (h8:ys.length≤8):Nm (Txt.join (Str.ofString "") ys):=by
 unfold Nm
 rw [codes_join]
 have key:∀ zs:List Str,(∀ y∈zs,∃ j:Nat,j < 26∧y=⟨#[97 + j]⟩)→((zs.map codes).flatten).length=zs.length∧Low (zs.map codes).flatten:=by
  intro zs
  induction zs with
  | nil=>intro _; exact ⟨rfl,fun c hc=>by simp at hc⟩
  | cons z r ih =>
   intro h
   obtain ⟨a,b⟩:=ih fun y hy=>h y (List.mem_cons_of_mem _ hy)
   obtain ⟨j,hj,rfl⟩:=h z List.mem_cons_self
   rw [List.map_cons,List.flatten_cons,it_]
   refine ⟨by rw [List.length_append,a]; simp; omega,fun c hc => ?_⟩
   rcases List.mem_append.mp hc with hc | hc
   ·have:=List.mem_singleton.mp hc
    omega
   ·exact b c hc
 obtain ⟨a,b⟩:=key ys hl
 exact ⟨by omega,by omega,b⟩
theorem nm_twin {x:Str} {r s:Int} (hx:Nm x) (h0:0≤r) (h1:r < x.length) (h2:0≤s) (h3:s < 26) :
  Nm (Txt.slice x none (some r) ++ ⟨#[97 + s.toNat]⟩ ++ Txt.slice x (some (r + 1)) none)∧(Txt.slice x none (some r)).length≤8∧(Txt.slice x (some (r + 1)) none).length≤8:=by
 obtain ⟨a,b,c⟩:=hx
 rw [bv_] at h1
 have e:=codes_to (x:=x) h0 (by omega)
 have e2:=codes_from (x:=x) (k:=r + 1) (by omega) (by omega)
 refine ⟨?_,?_,?_⟩
 ·unfold Nm
  rw [fy_,fy_,e,e2,it_]
  refine ⟨by simp; omega,by simp; omega,fun z hz => ?_⟩
  rcases List.mem_append.mp hz with hz | hz
  ·rcases List.mem_append.mp hz with hz | hz
   ·exact c z (List.mem_of_mem_take hz)
   ·have:=List.mem_singleton.mp hz
    omega
  ·exact c z (List.mem_of_mem_drop hz)
 ·rw [bv_,e,List.length_take]
  omega
 ·rw [bv_,e2,List.length_drop]
  omega
def Stem (st:Str):Prop:=(codes st).length=7∧Low (codes st)
theorem stem_in {v:V} (h:v∈[V.str "abcdefg",V.str "placeof",V.str "zyxwvut",V.str "kjqrshn"]):∃ st:Str,v=.str st∧Stem st:=by
 have L:∀ st:Str,((codes st).length == 7 && (codes st).all fun c=>decide (97≤c) && decide (c≤122))=true→Stem st:=by
  intro st h
  rw [Bool.and_eq_true,List.all_eq_true] at h
  refine ⟨by simpa using h.1,fun c hc => ?_⟩
  have:=h.2 c hc
  simpa using this
 simp only [List.mem_cons,List.not_mem_nil,or_false] at h
 rcases h with rfl | rfl | rfl | rfl
 ·exact ⟨_,rfl,L _ (by decide +kernel)⟩
 ·exact ⟨_,rfl,L _ (by decide +kernel)⟩
 ·exact ⟨_,rfl,L _ (by decide +kernel)⟩
 ·exact ⟨_,rfl,L _ (by decide +kernel)⟩
theorem len_app (x y:Str):(x ++ y).length=x.length + y.length:=by rw [bv_,fy_,List.length_append,bv_ x,bv_ y]
theorem ones_sum:∀ {ys:List Str},(∀ y∈ys,∃ j:Nat,j < 26∧y=⟨#[97 + j]⟩)→(ys.map (·.length)).sum=ys.length
 | [],_=>rfl
 | y :: r,h=>by
  obtain ⟨j,_,rfl⟩:=h y List.mem_cons_self
  rw [List.map_cons,List.sum_cons,ones_sum fun y hy=>h y (List.mem_cons_of_mem _ hy),List.length_cons,hz_]
  omega
mutual
def Kd.Full:Kd→Prop
 | .num _ _=>True
 | .row k _=>k.Full
 | .rcd fs=>fs≠[]∧fullF fs
 | .cho ks=>ks≠[]∧fullK ks
def fullF:List (Str×Kd)→Prop
 | []=>True
 | f :: r=>f.2.Full∧fullF r
def fullK:List Kd→Prop
 | []=>True
 | k :: r=>k.Full∧fullK r
end
theorem fullF_at:∀ {fs:List (Str×Kd)} {i:Nat} {f:Str×Kd},fullF fs→fs[i]? = some f→f.2.Full
 | [],_,_,_,e=>by simp at e
 | k' :: r,0,k,h,e=>by simp at e; subst e; exact h.1
 | k' :: r,i + 1,k,h,e=>fullF_at (i:=i) h.2 (by simpa using e)
theorem fullK_at:∀ {ks:List Kd} {i:Nat} {k:Kd},fullK ks→ks[i]? = some k→k.Full
 | [],_,_,_,e=>by simp at e
 | k' :: r,0,k,h,e=>by simp at e; subst e; exact h.1
 | k' :: r,i + 1,k,h,e=>fullK_at (i:=i) h.2 (by simpa using e)
theorem okF_at:∀ {fs:List (Str×Kd)} {i:Nat} {f:Str×Kd},okF fs→fs[i]? = some f→f.2.Ok∧f.2.deep≤deepF fs
 | [],_,_,_,e=>by simp at e
 | k' :: r,0,k,h,e=>by simp at e; subst e; exact ⟨h.1,Nat.le_max_left _ _⟩
 | k' :: r,i + 1,k,h,e=>by obtain ⟨a,b⟩:=okF_at (i:=i) h.2 (by simpa using e); exact ⟨a,Nat.le_trans b (Nat.le_max_right _ _)⟩
theorem rmF_at:∀ {fs:List (Str×Kd)} {i:Nat} {f:Str×Kd},fs[i]? = some f→(rmF fs)[i]? = some f.2.rm
 | [],_,_,e=>by simp at e
 | k' :: r,0,k,e=>by simp at e; subst e; rfl
 | k' :: r,i + 1,k,e=>by show (rmF r)[i]? = _; exact rmF_at (by simpa using e)
theorem bdF12 {fs:List (Str×Kd)} {n:Nat} (h:okF fs) (hd:deepF fs≤n) (hn:n≤12):∀ r∈rmF fs,Bd (2 ^ 150) r:=fun r hr=>(bdF fs h r hr).mono (Int.le_of_lt (bnd12 (Nat.le_trans hd hn)))
mutual
def Kd.Fit:Kd→Prop
 | .num w m=>1≤w∧w≤8∧(m=1∨m=2∨m=4∨m=8)
 | .row k n=>k.Fit∧1≤n∧n≤20
 | .rcd fs=>fitF fs∧1≤fs.length∧fs.length≤8∧(fs.map (·.1)).Nodup
 | .cho ks=>fitK ks∧1≤ks.length∧ks.length≤6
def fitF:List (Str×Kd)→Prop
 | []=>True
 | f :: r=>(Nm f.1∧f.2.Fit)∧fitF r
def fitK:List Kd→Prop
 | []=>True
 | k :: r=>k.Fit∧fitK r
end
mutual
theorem Kd.Fit.ok:∀ (k:Kd),k.Fit→k.Ok
 | .num w m,h=>by
  obtain ⟨a,b,c⟩:=h
  exact ⟨a,b,by omega,by omega⟩
 | .row k n,h=>⟨Kd.Fit.ok k h.1,by have:=h.2.1; omega,by have:=h.2.2; omega⟩
 | .rcd fs,h=>⟨ip_ fs h.1,by have:=h.2.2.1; omega⟩
 | .cho ks,h=>⟨fitK_ok ks h.1,by have:=h.2.2; omega⟩
theorem ip_:∀ (fs:List (Str×Kd)),fitF fs→okF fs
 | [],_=>trivial
 | f :: r,h=>⟨Kd.Fit.ok f.2 h.1.2,ip_ r h.2⟩
theorem fitK_ok:∀ (ks:List Kd),fitK ks→okK ks
 | [],_=>trivial
 | k :: r,h=>⟨Kd.Fit.ok k h.1,fitK_ok r h.2⟩
end
mutual
theorem Kd.Fit.full:∀ (k:Kd),k.Fit→k.Full
 | .num w m,h=>trivial
 | .row k n,h=>Kd.Fit.full k h.1
 | .rcd fs,h=>⟨(by intro z; rw [z] at h; exact absurd h.2.1 (by decide)),fitF_full fs h.1⟩
 | .cho ks,h=>⟨(by intro z; rw [z] at h; exact absurd h.2.1 (by decide)),fitK_full ks h.1⟩
theorem fitF_full:∀ (fs:List (Str×Kd)),fitF fs→fullF fs
 | [],_=>trivial
 | f :: r,h=>⟨Kd.Fit.full f.2 h.1.2,fitF_full r h.2⟩
theorem fitK_full:∀ (ks:List Kd),fitK ks→fullK ks
 | [],_=>trivial
 | k :: r,h=>⟨Kd.Fit.full k h.1,fitK_full r h.2⟩
end
theorem fitF_snoc:∀ {fs:List (Str×Kd)} {f:Str×Kd},fitF fs→Nm f.1→f.2.Fit→fitF (fs ++ [f])
 | [],_,_,a,b=>⟨⟨a,b⟩,trivial⟩
 | g :: r,f,h,a,b=>⟨h.1,fitF_snoc h.2 a b⟩
theorem fitK_snoc:∀ {ks:List Kd} {k:Kd},fitK ks→k.Fit→fitK (ks ++ [k])
 | [],_,_,b=>⟨b,trivial⟩
 | g :: r,f,h,b=>⟨h.1,fitK_snoc h.2 b⟩
theorem deepF_snoc:∀ {fs:List (Str×Kd)} {f:Str×Kd} {n:Nat},deepF fs≤n→f.2.deep≤n→deepF (fs ++ [f])≤n
 | [],f,n,_,b=>by show max f.2.deep 0≤n; omega
 | g :: r,f,n,h,b=>by
  have h':max g.2.deep (deepF r)≤n:=h
  have:=deepF_snoc (fs:=r) (f:=f) (n:=n) (by omega) b
  show max g.2.deep (deepF (r ++ [f]))≤n
  omega
theorem deepK_snoc:∀ {ks:List Kd} {k:Kd} {n:Nat},deepK ks≤n→k.deep≤n→deepK (ks ++ [k])≤n
 | [],f,n,_,b=>by show max f.deep 0≤n; omega
 | g :: r,f,n,h,b=>by
  have h':max g.deep (deepK r)≤n:=h
  have:=deepK_snoc (ks:=r) (k:=f) (n:=n) (by omega) b
  show max g.deep (deepK (r ++ [f]))≤n
  omega
def tk:Nat→Int
 | 0=>0
 | n + 1=>3000 + 12 * tk n
theorem tk_nonneg:∀ n,0≤tk n
 | 0=>Int.le_refl _
 | n + 1=>by have:=tk_nonneg n; show 0≤3000 + 12 * tk n; omega
mutual
def Kd.x:Kd→Dx
 | .num w m=>.tup [.str "number",.int w,.int m]
 | .row k n=>.tup [.str "row",k.x,.int n]
 | .rcd fs=>.tup [.str "record",.lst (xF fs)]
 | .cho ks=>.tup [.str "choice",.lst (xK ks)]
def xF:List (Str×Kd)→List Dx
 | []=>[]
 | f :: r=>.tup [.str f.1,f.2.x] :: xF r
def xK:List Kd→List Dx
 | []=>[]
 | k :: r=>k.x :: xK r
end
theorem dl_:∀ fs:List (Str×Kd),xF fs=fs.map fun f=>.tup [.str f.1,f.2.x]
 | []=>rfl
 | f :: r=>by rw [xF,dl_ r]; rfl
theorem cu_:∀ ks:List Kd,xK ks=ks.map Kd.x
 | []=>rfl
 | f :: r=>by rw [xK,cu_ r]; rfl
mutual
def Dx.deep:Dx→Nat
 | .tup l=>deepX l + 1
 | .lst l=>deepX l + 1
 | .dic l=>deepXk l + 1
 | _=>1
def deepX:List Dx→Nat
 | []=>0
 | d :: r=>max d.deep (deepX r)
def deepXk:List (Key×Dx)→Nat
 | []=>0
 | k :: r=>max k.2.deep (deepXk r)
end
mutual
def Dx.Sz:Dx→Prop
 | .tup l=>l.length≤100000∧szX l
 | .lst l=>l.length≤100000∧szX l
 | .dic l=>l.length≤100000∧(l.map (·.1)).Nodup∧szXk l
 | .scr _ _=>False
 | .ins _ _=>False
 | .exc _=>False
 | _=>True
def szX:List Dx→Prop
 | []=>True
 | d :: r=>d.Sz∧szX r
def szXk:List (Key×Dx)→Prop
 | []=>True
 | k :: r=>k.2.Sz∧szXk r
end
theorem fx_:∀ {l:List Dx} {d:Dx},d∈l→d.deep≤deepX l
 | e :: r,d,h=>by
  show _≤max _ _
  rcases List.mem_cons.mp h with rfl | h
  ·exact Nat.le_max_left _ _
  ·exact Nat.le_trans (fx_ h) (Nat.le_max_right _ _)
theorem gm_:∀ {l:List (Key×Dx)} {p:Key×Dx},p∈l→p.2.deep≤deepXk l
 | e :: r,d,h=>by
  show _≤max _ _
  rcases List.mem_cons.mp h with rfl | h
  ·exact Nat.le_max_left _ _
  ·exact Nat.le_trans (gm_ h) (Nat.le_max_right _ _)
theorem szX_mem:∀ {l:List Dx} {d:Dx},szX l→d∈l→d.Sz
 | e :: r,d,hs,h=>by
  rcases List.mem_cons.mp h with rfl | h
  ·exact hs.1
  ·exact szX_mem hs.2 h
theorem szXk_mem:∀ {l:List (Key×Dx)} {p:Key×Dx},szXk l→p∈l→p.2.Sz
 | e :: r,d,hs,h=>by
  rcases List.mem_cons.mp h with rfl | h
  ·exact hs.1
  ·exact szXk_mem hs.2 h
def Dx.own:Dx→Sv
 | .lst l=>.ol l
 | .dic l=>.od l
 | d=>.tr d
theorem putX_new {l:List (Key×Dx)} {k:Key} {d:Dx} (h:k∉l.map (·.1)):putX l k d=l ++ [(k,d)]:=by
 unfold putX
 have:(l.any fun kv=>decide (kv.1=k))=false:=by
  rw [List.any_eq_false]
  intro kv hkv z
  exact h (by rw [← of_decide_eq_true z]; exact List.mem_map_of_mem (f:=fun x:Key×Dx=>x.1) hkv)
 rw [this,if_neg Bool.false_ne_true]
theorem gk_:∀ {l:List (Key×Dx)} {p:Key×Dx},(l.map (·.1)).Nodup→p∈l→getK l p.1=some p.2
 | q :: l,p,hn,h=>by
  unfold getK
  rw [List.find?_cons]
  have hn':=List.nodup_cons.mp hn
  rcases List.mem_cons.mp h with rfl | h
  ·rw [decide_eq_true rfl]; rfl
  ·have hne:¬ q.1=p.1:=fun z=>hn'.1 (by show q.1∈_; rw [z]; exact List.mem_map_of_mem (f:=fun x:Key×Dx=>x.1) h)
   rw [decide_eq_false hne]
   exact gk_ hn'.2 h
theorem keyX_key (k:Key):keyD (keyX k)=some k:=by cases k <;> rfl
def scal:Dx→Prop
 | .non=>True
 | .bl _=>True
 | .int _=>True
 | .str _=>True
 | _=>False
mutual
def FullW:Ow→Prop
 | .tr d=>scal d
 | .ol _ l=>fullWs l
 | .od _ l=>fullWk l
 | .ot l=>fullWs l
 | .oi _ _ _ _=>False
def fullWs:List Ow→Prop
 | []=>True
 | o :: r=>FullW o∧fullWs r
def fullWk:List (Key×Ow)→Prop
 | []=>True
 | q :: r=>FullW q.2∧fullWk r
end
theorem fh_:∀ {l:List Ow} {o:Ow},fullWs l→FullW o→fullWs (l ++ [o])
 | [],o,_,h=>by simp only [List.nil_append,fullWs]; exact ⟨h,trivial⟩
 | a :: r,o,h1,h=>by simp only [fullWs] at h1; simp only [List.cons_append,fullWs]; exact ⟨h1.1,fh_ h1.2 h⟩
theorem fi_:∀ {l:List (Key×Ow)} {k:Key} {o:Ow},fullWk l→FullW o→fullWk (l ++ [(k,o)])
 | [],_,o,_,h=>by simp only [List.nil_append,fullWk]; exact ⟨h,trivial⟩
 | a :: r,_,o,h1,h=>by simp only [fullWk] at h1; simp only [List.cons_append,fullWk]; exact ⟨h1.1,fi_ h1.2 h⟩
theorem fullWs_mem:∀ {l:List Ow} {o:Ow},fullWs l→o∈l→FullW o
 | a :: r,o,h1,h=>by
  simp only [fullWs] at h1
  rcases List.mem_cons.mp h with rfl | h
  ·exact h1.1
  ·exact fullWs_mem h1.2 h
theorem fullWk_mem:∀ {l:List (Key×Ow)} {q:Key×Ow},fullWk l→q∈l→FullW q.2
 | a :: r,q,h1,h=>by
  simp only [fullWk] at h1
  rcases List.mem_cons.mp h with rfl | h
  ·exact h1.1
  ·exact fullWk_mem h1.2 h
theorem owDs_snoc {l:List Ow} {o:Ow}:owDs (l ++ [o])=owDs l ++ [o.d]:=by rw [cf_,cf_,List.map_append]; rfl
theorem owDk_snoc {l:List (Key×Ow)} {k:Key} {o:Ow}:owDk (l ++ [(k,o)])=owDk l ++ [(k,o.d)]:=by rw [cx_,cx_,List.map_append]; rfl
theorem fs_ {l:List (Key×Ow)}:(owDk l).map (·.1)=l.map (·.1):=by rw [cx_,List.map_map]; rfl
theorem is_ {α:Type} {n:Nat} {gx:XG} {tc:XC} {te:XT} {Q:List Ow→List Sl→Prop} (φ:α→Dx) (I:List α→List Ow→List Sl→Prop) (hd:∀ acc cs,I [] acc cs→Q acc cs) (hs:∀ a as acc cs (P:List Ow→List Sl→Prop),I (a :: as) acc cs→(∀ acc' cs',I as acc' cs'→P acc' cs')→gx (φ a) (List.replicate n .un ++ cs) fun ρ1=>tc ρ1 fun b ρ2=>if b=true then te ρ2 fun s ρ3 => ∃ o,s.o? = some o∧P (acc ++ [o]) (ρ3.drop n) else P acc (ρ2.drop n)) :
  ∀ {as:List α} {acc:List Ow} {cs:List Sl},I as acc cs→compO n gx tc te Q (as.map φ) cs acc
 | [],acc,cs,h=>hd acc cs h
 | a :: as,acc,cs,h=>hs a as acc cs (fun acc cs=>compO n gx tc te Q (as.map φ) cs acc) h fun acc' cs' h'=>is_ φ I hd hs h'
def gCO (n:Nat):GC:=fun ds Q => ∃ d,ds=[d]∧d.Sz∧d.deep≤n∧∀ s o,s.o? = some o→o.d=d→FullW o→Q s
section
variable {P:Program} {w:World} {K:FG_} {mg:MG_} {base:Heap} {f:Addr} {fd:FuncData} {n j:Nat}
theorem ok_co (F:Fun K "_law_copy" "_law_copy" dh_ f fd) (CCO:Cal P w K mg base j "_law_copy" ["thing"] (spX (gCO n))) (m_isinstance:mg "isinstance" = none) (m_list:mg "list" = none) (m_tuple:mg "tuple" = none) (m_dict:mg "dict" = none) :
  FnOk P w K mg base CX0 (j + 1) f fd ["thing"] (spX (gCO (n + 1))):=by
 refine fv_ F sc_law_copy (fun ds Q h=>by obtain ⟨d,rfl,_⟩:=h; rfl) (by decide) fun cdv A outer s H E hr => ?_
 have hu1:=en_ hr
 refine ⟨_,(ae_ (br_ (dk_ (bm_ .list m_isinstance (ab_ (pv 0)) (bp_ (v:=.ty "list") rfl m_list fj_ rfl))) (af_ (ap_ (xe_compO (dsc:=defScope dh_) (N:=["thing", "found", "key"]) (tgs:=["one"]) (outs:=[]) (N':=["one"]) (by refine ⟨rfl,?_,?_,?_,rfl,?_,?_,?_⟩ <;> decide +kernel) (bs_ (ab_ (pv 0))) (fun _ _ _ _ _=>(aj_ (i:=0) (show (["one"]:List Str).Nodup by decide +kernel) rfl (Or.inl rfl) (.inr rfl))) (bb_ (n:=1) (i:=0) (by decide)) (bl_ (by decide)) (fun _ _ _ _ _=>bi_) (fun _ _ _ _ _=>(ai_ CCO (hr.mono (by omega)) (aa_ (ab_ (pv 0)) ad_)))))) au_)
  (ae_ (br_ (dk_ (bm_ .tuple m_isinstance (ab_ (pv 0)) (bp_ (v:=.ty "tuple") rfl m_tuple eo_ rfl))) (af_ (ap_ (xe_tupleO K (xe_compO (dsc:=defScope dh_) (N:=["thing", "found", "key"]) (tgs:=["one"]) (outs:=[]) (N':=["one"]) (by refine ⟨rfl,?_,?_,?_,rfl,?_,?_,?_⟩ <;> decide +kernel) (xi_tup (ab_ (pv 0))) (fun _ _ _ _ _=>(aj_ (i:=0) (show (["one"]:List Str).Nodup by decide +kernel) rfl (Or.inl rfl) (.inr rfl))) (bb_ (n:=1) (i:=0) (by decide)) (bl_ (by decide)) (fun _ _ _ _ _=>bi_) (fun _ _ _ _ _=>(ai_ CCO (hr.mono (by omega)) (aa_ (ab_ (pv 0)) ad_)))) (by rfl) m_tuple eo_))) au_)
  (ae_ (br_ (dk_ (bm_ .dict m_isinstance (ab_ (pv 0)) (bp_ (v:=.ty "dict") rfl m_dict bt_dict rfl))) (ae_ (ag_ fun F=>ak_ (i:=1) sc_law_copy.nd rfl (Or.inl rfl) (XE.at (Ex:=noEx) F xe_dnewO))
  (ae_ (xs_forK PassesOwn.never rfl (pv 0) (aj_ (i:=2) sc_law_copy.nd rfl (Or.inl rfl)) (bb_ (n:=99) (i:=2) (by decide)) (af_ (fb_ fun F=>PS.weak (ps_dput hu1 (pv 1) (XE.at (Ex:=noEx) F (ab_ (pv 2))) (XE.at (Ex:=noEx) F (ai_ CCO (hr.mono (by omega)) (aa_ (hn_ hu1 (ab_ (pv 0)) (ab_ (pv 2)) (fun _ _=>rfl)) ad_))) rfl) tDPut_xO)))
  (af_ (ap_ (ch_ (pv 1)))))) au_)
  (af_ (ap_ (ch_ (pv 0))))))),fun ds Q h => ?_⟩
 clear hu1
 obtain ⟨d,rfl,hs,hd,q⟩:=h
 have walk:∀ {Q2:List Ow→List Sl→Prop} (l:List Dx),szX l→deepX l≤n→(∀ acc,owDs acc=l→fullWs acc→Q2 acc [])→compO 1 (gxN 0) xYes (xCall (gCO n) (xCons (xVar 0) xNil)) Q2 l [] []:=fun {Q2} l h1 h2 q2=>by
  rw [← List.map_id' l]
  refine is_ (fun d:Dx=>d) (fun rest acc cs=>l=owDs acc ++ rest∧fullWs acc∧cs=[]) (fun acc cs h => ?_) (fun d rest acc cs Pn h hk => ?_) ⟨by simp only [owDs,List.nil_append],trivial,rfl⟩
  ·obtain ⟨e,hf,rfl⟩:=h
   rw [List.append_nil] at e
   exact q2 acc e.symm hf
  ·obtain ⟨e,hf,rfl⟩:=h
   have hm:d∈l:=by rw [e]; exact List.mem_append_right _ List.mem_cons_self
   refine ⟨d,rfl,szX_mem h1 hm,Nat.le_trans (fx_ hm) h2,fun s o so ho fo=>⟨o,so,hk _ _ ⟨?_,fh_ hf fo,rfl⟩⟩⟩
   rw [owDs_snoc,ho,e,List.append_assoc]
   rfl
 cases d with
 | scr _ _=>simp only [Dx.Sz] at hs
 | ins _ _=>simp only [Dx.Sz] at hs
 | exc _=>simp only [Dx.Sz] at hs
 | lst l =>
  show l.length≤1000000∧compO 1 (gxN 0) xYes (xCall (gCO n) (xCons (xVar 0) xNil)) _ l [] []
  simp only [Dx.Sz] at hs
  simp only [Dx.deep] at hd
  refine ⟨by omega,walk l hs.2 (by omega) fun acc e hf a=>q (.ow (.ol a acc)) _ rfl (by simp only [Ow.d,e]) (by simp only [FullW]; exact hf)⟩
 | tup l =>
  show l.length≤1000000∧compO 1 (gxN 0) xYes (xCall (gCO n) (xCons (xVar 0) xNil)) _ l [] []
  simp only [Dx.Sz] at hs
  simp only [Dx.deep] at hd
  refine ⟨by omega,walk l hs.2 (by omega) fun acc e hf a=>⟨a,acc,rfl,q (.ow (.ot acc)) _ rfl (by simp only [Ow.d,e]) (by simp only [FullW]; exact hf)⟩⟩
 | dic l =>
  simp only [Dx.Sz] at hs
  simp only [Dx.deep] at hd
  intro a
  show forX _ _ _ (keysX l) _
  refine forX_ind (fun ks ρ => ∃ done rest x,l=owDk done ++ rest∧fullWk done∧ks=keysX rest∧ρ=[.v (.tr (.dic l)),.v (.ow (.od a done)),x]) (fun ρ h => ?_) (fun k ks ρ K h hk => ?_) ⟨[],l,.un,by simp only [owDk,List.nil_append],trivial,rfl,rfl⟩
  ·obtain ⟨done,rest,x,e1,hf,e2,rfl⟩:=h
   have:rest=[]:=by cases rest with | nil=>rfl | cons a b=>simp [keysX] at e2
   subst this
   rw [List.append_nil] at e1
   exact q (.ow (.od a done)) _ rfl (by simp only [Ow.d,e1]) (by simp only [FullW]; exact hf)
  ·obtain ⟨done,rest,x,e1,hf,e2,rfl⟩:=h
   cases rest with
   | nil=>simp [keysX] at e2
   | cons p rest =>
    simp only [keysX,List.map_cons,List.cons.injEq] at e2
    obtain ⟨rfl,rfl⟩:=e2
    have hm:p∈l:=by rw [e1]; exact List.mem_append_right _ List.mem_cons_self
    have hget:=gk_ hs.2.1 hm
    have hnew:p.1∉done.map (·.1):=by
     have:=hs.2.1
     rw [e1,List.map_append,List.nodup_append,fs_] at this
     exact fun z=>this.2.2 _ z _ (List.mem_map_of_mem (f:=fun x:Key×Dx=>x.1) List.mem_cons_self) rfl
    have hlen:done.length≤l.length:=by rw [e1,List.length_append,cx_,List.length_map]; omega
    simp only [gxN,xDPutO,xCall,xCons,xNil,xOp,xVar,List.getElem?_cons_zero,List.getElem?_cons_succ,List.set_cons_zero,List.set_cons_succ,Sv.d,List.map_cons,List.map_nil,dgX,keyX_key,hget]
    refine ⟨p.2,rfl,szXk_mem hs.2.2 hm,by have:=gm_ hm; omega,fun s o so ho fo=>⟨⟨a,done,rfl⟩,a,done,p.1,o,rfl,rfl,so,hnew,by omega,?_⟩⟩
    refine hk _ ⟨done ++ [(p.1,o)],rest,_,?_,fi_ hf fo,rfl,rfl⟩
    rw [owDk_snoc,ho,e1,List.append_assoc]
    rfl
 | non=>exact q (.tr .non) _ rfl rfl trivial
 | bl b=>exact q (.tr (.bl b)) _ rfl rfl trivial
 | int i=>exact q (.tr (.int i)) _ rfl rfl trivial
 | str x=>exact q (.tr (.str x)) _ rfl rfl trivial
end
def PoolX (B:Int) (l:List Dx):Prop := ∃ c md st:Int,l=[.int c,.int md,.int st]∧0≤st∧st≤B
theorem PoolX.mono {B C:Int} {l:List Dx} (h:PoolX B l) (hb:B≤C):PoolX C l:=by
 obtain ⟨c,md,st,e,h0,h1⟩:=h
 exact ⟨c,md,st,e,h0,by omega⟩
def gTK:GB:=fun l ds Q => ∃ B many:Int,ds=[.int many]∧PoolX B l∧B < 2 ^ 60∧0 < many∧many < 2 ^ 250∧∀ (r:Int) (l':List Dx),0≤r→r < many→PoolX (B + 1) l'→Q (.int r) l'
def gLR:GC:=fun ds Q => ∃ n m:Int,ds=[.int n,.int m]∧0≤n∧0 < m∧Q (.tr (.int (up n m)))
section
variable {P:Program} {w:World} {K:FG_} {mg:MG_} {base:Heap} {f:Addr} {fd:FuncData} {n j:Nat}
theorem hd_ (F:Fun K "_law_take" "_law_take" ec_ f fd):FnOk P w K mg base CX0 1 f fd ["pool", "many"] (spB gTK):=by
 refine fn_b F sc_law_take (fun l ds Q h=>by obtain ⟨B,m,rfl,_⟩:=h; rfl) (by decide) fun cdv A outer s H E hr => ?_
 have hu0:=Nat.lt_of_succ_lt (en_ hr)
 refine ⟨_,(ae_ (br_ (bc_ (bn_ K hu0) cr_ (ee_ K (pv 0) ac_ (fun _ _=>rfl)) ac_ (nomark _)) (ae_ (ag_ fun F=>ak_ (i:=2) sc_law_take.nd rfl (Or.inl rfl) (XE.at (Ex:=noEx) F (gp_ (ee_ K (pv 0) ac_ (fun _ _=>rfl)) (ab_ (pv 1)))))
  (ae_ (fb_ fun F=>PS.weak (ps_asg (XE.at (Ex:=noEx) F (hm_ (ee_ K (pv 0) ac_ (fun _ _=>rfl)) (ab_ (pv 1)))) (pg_sub (pv 0) (XE.at (Ex:=noEx) F ac_) fn_)) tSetI_x)
  (af_ (ap_ (ch_ (pv 2)))))) au_)
  (ae_ (fb_ fun F=>PS.weak (ps_asg (XE.at (Ex:=noEx) F (be_ (ee_ K (pv 0) ac_ (fun _ _=>rfl)) ac_)) (pg_sub (pv 0) (XE.at (Ex:=noEx) F ac_) fn_)) tSetI_x)
  (ae_ (ag_ fun F=>ak_ (i:=3) sc_law_take.nd rfl (Or.inl rfl) (XE.at (Ex:=noEx) F (ee_ K (pv 0) ac_ (fun _ _=>rfl))))
  (ae_ (ag_ fun F=>ak_ (i:=4) sc_law_take.nd rfl (Or.inl rfl) (XE.at (Ex:=noEx) F (cp_ (be_ (gp_ (ee_ K (pv 0) ac_ (fun _ _=>rfl)) ac_) ac_) (be_ (cp_ ac_ (ab_ (pv 3))) ac_))))
  (ae_ (ag_ fun F=>ak_ (i:=4) sc_law_take.nd rfl (Or.inl rfl) (XE.at (Ex:=noEx) F (be_ (ab_ (pv 4)) (cp_ (cp_ ac_ (ab_ (pv 3))) (ab_ (pv 3))))))
  (ae_ (ag_ fun F=>ak_ (i:=4) sc_law_take.nd rfl (Or.inl rfl) (XE.at (Ex:=noEx) F (gp_ (cp_ (ab_ (pv 4)) (ab_ (pv 4))) ac_)))
  (af_ (ap_ (gp_ (hm_ (gp_ (cp_ (ab_ (pv 4)) (be_ (ab_ (pv 4)) ac_)) ac_) ac_) (ab_ (pv 1))))))))))),fun l ds Q h => ?_⟩
 obtain ⟨B,many,rfl,⟨c,md,st,rfl,h0,h1⟩,hB,h2,h3,q⟩:=h
 simp only [xSeq,xNext,xIf,xB,xOp,xVar,xMove,xC,xSet,xRet,xSetI,xPkL,ixP,addX,mulX,gIC,eqX,eqS,retB,lentEnd,startX,startB,dy_,dx_,len3,at10,at20,at21,at30,at31,at32,at40,at41,at42,at43,ix30,ix31,ix32,List.getElem?_cons_zero,List.getElem?_cons_succ,List.set_cons_zero,List.set_cons_succ,Sv.d,List.map_cons,List.map_nil,Option.bind_some,Option.isSome_some,List.cons_append,List.nil_append,List.length_cons,List.length_nil,List.replicate_succ,List.replicate_zero,Nat.reduceAdd,Nat.reduceSub,Nat.reduceLeDiff,true_and,decide_eq_true_eq,cut,caps,back,Option.getD_some,if_true,↓reduceIte,List.drop_succ_cons,List.drop_zero]
 by_cases e:md=1
 ·rw [if_pos e]
  exact ⟨h2,⟨h2,h3⟩,q _ _ (Int.emod_nonneg _ (by omega)) (Int.emod_lt_of_pos _ h2) ⟨_,_,_,rfl,h0,by omega⟩⟩
 ·rw [if_neg e]
  have a0:(0:Int)≤c % 9999999619:=Int.emod_nonneg _ (by decide)
  have a1:c % 9999999619 < 9999999619:=Int.emod_lt_of_pos _ (by decide)
  refine ⟨by decide,⟨by decide,by omega⟩,⟨by omega,by omega⟩,⟨by decide,by omega⟩,⟨by omega,by omega⟩,?_⟩
  have m1:0≤(c % 9999999619 + 983) * (23 * (st + 1) + 53):=Int.mul_nonneg (by omega) (by omega)
  have m2:(c % 9999999619 + 983) * (23 * (st + 1) + 53)≤10000000602 * (23 * (st + 1) + 53):=Int.mul_le_mul_of_nonneg_right (by omega) (by omega)
  have m3:0≤3491 * (st + 1) * (st + 1):=Int.mul_nonneg (by omega) (by omega)
  have m4:3491 * (st + 1) * (st + 1)≤3491 * (st + 1) * 2 ^ 61:=Int.mul_le_mul_of_nonneg_left (by omega) (by omega)
  generalize (c % 9999999619 + 983) * (23 * (st + 1) + 53)=A1 at m1 m2 ⊢
  generalize 3491 * (st + 1) * (st + 1)=A2 at m3 m4 ⊢
  refine ⟨⟨by omega,by omega⟩,by decide,?_⟩
  have b0:(0:Int)≤(A1 + A2) * (A1 + A2) % 99999999659:=Int.emod_nonneg _ (by decide)
  have b1:(A1 + A2) * (A1 + A2) % 99999999659 < 99999999659:=Int.emod_lt_of_pos _ (by decide)
  generalize (A1 + A2) * (A1 + A2) % 99999999659=B2 at b0 b1 ⊢
  exact ⟨⟨by omega,by omega⟩,by decide,⟨by decide,by decide⟩,h2,q _ _ (Int.emod_nonneg _ (by omega)) (Int.emod_lt_of_pos _ h2) ⟨_,_,_,rfl,by omega,by omega⟩⟩
theorem okx_lr (F:Fun K "_law_rounded" "_law_rounded" ce_ f fd):FnOk P w K mg base CX0 1 f fd ["number", "m"] (spX gLR):=by
 refine fv_ F sc_law_rounded (fun ds Q h=>by obtain ⟨B,m,rfl,_⟩:=h; rfl) (by decide) fun cdv A outer s H E hr => ?_
 have hu0:=Nat.lt_of_succ_lt (en_ hr)
 refine ⟨_,(ae_ (ag_ fun F=>ak_ (i:=2) sc_law_rounded.nd rfl (Or.inl rfl) (XE.at (Ex:=noEx) F (gp_ (ab_ (pv 0)) (ab_ (pv 1)))))
  (ae_ (br_ (bc_ (bn_ K hu0) cr_ (ab_ (pv 2)) ac_ (nomark _)) (af_ (ap_ (ch_ (pv 0)))) au_)
  (af_ (ap_ (fe_ (be_ (ab_ (pv 0)) (ab_ (pv 1))) (ab_ (pv 2))))))),fun ds Q h => ?_⟩
 obtain ⟨n,m,rfl,h0,h1,q⟩:=h
 simp only [xSeq,xNext,xIf,xB,xOp,xVar,xMove,xC,xSet,xRet,addX,gI,gIC,eqX,eqS,retB,lentEnd,startX,startB,dy_,dx_,len3,at10,at20,at21,at30,at31,at32,at40,at41,at42,at43,ix30,ix31,ix32,List.getElem?_cons_zero,List.getElem?_cons_succ,List.set_cons_zero,List.set_cons_succ,Sv.d,List.map_cons,List.map_nil,Option.bind_some,Option.isSome_some,List.cons_append,List.nil_append,List.length_cons,List.length_nil,List.replicate_succ,List.replicate_zero,Nat.reduceAdd,Nat.reduceSub,Nat.reduceLeDiff,true_and,decide_eq_true_eq,cut,caps,back,Option.getD_some,if_true,↓reduceIte,List.drop_succ_cons,List.drop_zero]
 refine ⟨h1,?_⟩
 rw [← upL_eq h1] at q
 unfold upL at q
 by_cases e:n % m=0
 ·rw [if_pos e] at q ⊢
  exact q
 ·rw [if_neg e] at q ⊢
  exact q
end
def prD (r:Int×Int):Dx:=.lst [.int r.1,.int r.2]
def gLM (n:Nat):GC:=fun ds Q => ∃ kd:Kd,ds=[kd.x]∧kd.Ok∧kd.Full∧kd.deep≤n∧n≤12∧Q (.ol [.int kd.rm.1,.int kd.rm.2])
theorem max_sel {rs:List (Int×Int)} {sel:Int×Int→Int} {d:Int} {Q:Sv→Prop} (hne:rs≠[]) (hdd:∀ r∈rs,d≤sel r) (q:Q (.tr (.int (maxL d (rs.map sel))))):maxLX [.lst (rs.map fun r=>.int (sel r))] Q:=by
 refine ⟨rs.map sel,by rw [List.map_map]; rfl,fun z=>hne (List.map_eq_nil_iff.mp z),fun M hM hle => ?_⟩
 obtain ⟨r,hr',rfl⟩:=List.mem_map.mp hM
 rw [maxL_is (d:=d) hM (hdd r hr') hle] at *
 exact q
theorem rmF_pr:∀ fs:List (Str×Kd),(fs.map fun f=>prD f.2.rm)=(rmF fs).map prD
 | []=>rfl
 | f :: r=>by rw [List.map_cons,rmF_pr r]; rfl
theorem rmK_pr:∀ ks:List Kd,(ks.map fun k=>prD k.rm)=(rmK ks).map prD
 | []=>rfl
 | f :: r=>by rw [List.map_cons,rmK_pr r]; rfl
theorem ha_ {rs:List (Int×Int)} {sel:Int×Int→Int} {d:Int} {i:Nat} {ρ:En} {Q:Sv→En→Prop} (hl:rs.length≤10) (hne:rs≠[]) (hdd:∀ r∈rs,d≤sel r) (hj:∀ r,([Dx.int r.1,Dx.int r.2]:List Dx)[i]? = some (.int (sel r)))
  {s:Sv} (h3:ρ[3]? = some (.v s)) (hs:s.d=.lst (rs.map prD)) (q:Q (.tr (.int (maxL d (rs.map sel)))) (ρ.set 3 (.v (.tr (.lst (rs.map prD)))))):xCall maxLX (xCons (xComp 2 [] (xiL (xVar 3)) (gxL [0,1]) xYes (xVar i)) xNil) ρ Q:=by
 simp only [xCall,xCons,xNil,xComp,xiL,xVar,h3,hs]
 show _∧_
 refine ⟨by rw [List.length_map]; omega,?_⟩
 refine bk_ prD (fun r=>.int (sel r)) (fun r hr acc P p => ?_) ?_
 ·have hi:=hj r
  show (match (([.v (.tr (.int r.1)),.v (.tr (.int r.2))]:En)[i]?) with | some (.v s)=>_ | _=>_)
  match i,hi with
  | 0,hi=>simp only [List.getElem?_cons_zero,Option.some.injEq] at hi; rw [← hi] at p; exact p
  | 1,hi=>simp only [List.getElem?_cons_zero,List.getElem?_cons_succ,Option.some.injEq] at hi; rw [← hi] at p; exact p
  | i + 2,hi=>simp at hi
 ·exact max_sel hne hdd q
theorem fn_no {P:Program} {w:World} {K:FG_} {mg:MG_} {base:Heap} {j:Nat} {f:Addr} {fd:FuncData} {ps:List Str} {g:GC} (no:∀ ds Q,¬ g ds Q):FnOk P w K mg base CX0 j f fd ps (spX g) :=
 ⟨fun vs H Q E h=>by obtain ⟨_,ds,Qx,_,_,h,_⟩:=h; exact absurd h (no _ _),fun A outer s H args us vs Q E _ _ _ _ h=>by obtain ⟨_,ds,Qx,_,_,h,_⟩:=h; exact absurd h (no _ _)⟩
theorem xcall_c {g:GC} {d:Dx} {t:XT} {ρ:En} {Q:Sv→En→Prop} (h:t ρ fun s ρ'=>g [d,s.d] fun r=>Q r ρ'):xCall g (xCons (xC d) (xCons t xNil)) ρ Q:=h
theorem len2 {α:Type} {a b:α}:[a,b].length≤1000000:=by show 2≤1000000; decide
section
variable {P:Program} {w:World} {K:FG_} {mg:MG_} {base:Heap} {f:Addr} {fd:FuncData} {n j:Nat}
theorem okx_lm (F:Fun K "_law_room" "_law_room" bu_ f fd) (CLM:Cal P w K mg base j "_law_room" ["kind"] (spX (gLM n))) (CLR:Cal P w K mg base 1 "_law_rounded" ["number", "m"] (spX gLR)) (m_max:mg "max" = none) (hj:1≤j) :
  FnOk P w K mg base CX0 (j + 1) f fd ["kind"] (spX (gLM (n + 1))):=by
 refine fv_ F sc_law_room (fun ds Q h=>by obtain ⟨d,rfl,_⟩:=h; rfl) (by decide) fun cdv A outer s H E hr => ?_
 have hu0:=Nat.lt_of_succ_lt (en_ hr)
 refine ⟨_,(ae_ (br_ (bc_ (bn_ K hu0) cr_ (am_ K (ab_ (pv 0)) ac_ (fun _ _=>rfl)) bt_ (nomark _)) (af_ (ap_ (bq_ (aa_ (am_ K (ab_ (pv 0)) ac_ (fun _ _=>rfl)) (aa_ (am_ K (ab_ (pv 0)) ac_ (fun _ _=>rfl)) ad_))))) au_)
  (ae_ (br_ (bc_ (bn_ K hu0) cr_ (am_ K (ab_ (pv 0)) ac_ (fun _ _=>rfl)) bt_ (nomark _)) (ae_ (xs_asgP (gx_lst (n:=99) (is:=[1,2]) rfl (by decide)) fun F=>ps_asg (XE.at (Ex:=noEx) F (ai_ CLM (hr.mono (by omega)) (aa_ (am_ K (ab_ (pv 0)) ac_ (fun _ _=>rfl)) ad_))) (pg_lst rfl (ar_ (aj_ (i:=1) sc_law_room.nd rfl (Or.inl rfl)) (ar_ (aj_ (i:=2) sc_law_room.nd rfl (Or.inl rfl)) cj_))))
  (af_ (ap_ (bq_ (aa_ (cp_ (am_ K (ab_ (pv 0)) ac_ (fun _ _=>rfl)) (ai_ CLR (hr.mono (by omega)) (aa_ (ab_ (pv 1)) (aa_ (ab_ (pv 2)) ad_)))) (aa_ (ab_ (pv 2)) ad_)))))) au_)
  (ae_ (br_ (bc_ (bn_ K hu0) cr_ (am_ K (ab_ (pv 0)) ac_ (fun _ _=>rfl)) bt_ (nomark _)) (ae_ (fb_ fun F=>PS.weak (hw_ (i:=3) sc_law_room.nd rfl rfl (dsc:=defScope bu_) (N:=["kind", "room", "most", "parts", "end", "multiple", "begin"]) (tgs:=["name", "inner"]) (outs:=[]) (N':=["name", "inner"]) (by refine ⟨rfl,?_,?_,?_,rfl,?_,?_,?_⟩ <;> decide +kernel) (XIt.at (Ex:=noEx) F (bs_ (am_ K (ab_ (pv 0)) ac_ (fun _ _=>rfl)))) (fun _ _ _ _ _=>(hx_ K (n:=2) rfl rfl (ar_ (aj_ (i:=0) (show (["name", "inner"]:List Str).Nodup by decide +kernel) rfl (Or.inl rfl) (.inr rfl)) (ar_ (aj_ (i:=1) (show (["name", "inner"]:List Str).Nodup by decide +kernel) rfl (Or.inl rfl) (.inr rfl)) cj_)))) (hs_ (bg_ (by decide) (bg_ (by decide) ds_ bf_) (cn_ bf_))) (fun a b c d e=>XCs.at (Ex:=noEx) F bi_) (fun a b c d e=>XE.at (Ex:=noEx) F (ai_ CLM (hr.mono (by omega)) (aa_ (ab_ (pv 1)) ad_)))) (setC_x (et_ (n:=2) (is:=[0,1]) rfl (by decide)) (by decide)))
  (ae_ (ag_ fun F=>ak_ (i:=4) sc_law_room.nd rfl (Or.inl rfl) (XE.at (Ex:=noEx) F ac_))
  (af_ (dc_ PassesOwn.never rfl (bs_ (ab_ (pv 3))) (pg_lst rfl (ar_ (aj_ (i:=1) sc_law_room.nd rfl (Or.inl rfl)) (ar_ (aj_ (i:=5) sc_law_room.nd rfl (Or.inl rfl)) cj_))) (gx_lst (n:=99) (is:=[1,5]) rfl (by decide)) (af_ (ag_ fun F=>ak_ (i:=4) sc_law_room.nd rfl (Or.inl rfl) (XE.at (Ex:=noEx) F (be_ (ai_ CLR (hr.mono (by omega)) (aa_ (ab_ (pv 4)) (aa_ (ab_ (pv 5)) ad_))) (ab_ (pv 1)))))))))) (ae_ (fb_ fun F=>PS.weak (hw_ (i:=3) sc_law_room.nd rfl rfl (dsc:=defScope bu_) (N:=["kind", "room", "most", "parts", "end", "multiple", "begin"]) (tgs:=["inner"]) (outs:=[]) (N':=["inner"]) (by refine ⟨rfl,?_,?_,?_,rfl,?_,?_,?_⟩ <;> decide +kernel) (XIt.at (Ex:=noEx) F (bs_ (am_ K (ab_ (pv 0)) ac_ (fun _ _=>rfl)))) (fun _ _ _ _ _=>(aj_ (i:=0) (show (["inner"]:List Str).Nodup by decide +kernel) rfl (Or.inl rfl) (.inr rfl))) (bl_ (by decide)) (fun a b c d e=>XCs.at (Ex:=noEx) F bi_) (fun a b c d e=>XE.at (Ex:=noEx) F (ai_ CLM (hr.mono (by omega)) (aa_ (ab_ (pv 0)) ad_)))) (setC_x (bb_ (n:=1) (i:=0) (by decide)) (by decide)))
  (ae_ (ag_ fun F=>ak_ (i:=6) sc_law_room.nd rfl (Or.inl rfl) (XE.at (Ex:=noEx) F (ai_ CLR (hr.mono (by omega)) (aa_ ac_ (aa_ (bd_ (fz_ K (by rfl)) cx_maxL (by rfl) m_max bt_max (aa_ (ci_ (dsc:=defScope bu_) (N:=["kind", "room", "most", "parts", "end", "multiple", "begin"]) (tgs:=["room", "multiple"]) (outs:=[]) (N':=["room", "multiple"]) (by refine ⟨rfl,?_,?_,?_,rfl,?_,?_,?_⟩ <;> decide +kernel) (bs_ (ab_ (pv 3))) (fun _ _ _ _ _=>(pg_lstK K (n:=2) rfl rfl (ar_ (aj_ (i:=0) (show (["room", "multiple"]:List Str).Nodup by decide +kernel) rfl (Or.inl rfl) (.inr rfl)) (ar_ (aj_ (i:=1) (show (["room", "multiple"]:List Str).Nodup by decide +kernel) rfl (Or.inl rfl) (.inr rfl)) cj_)))) (gx_lst (n:=2) (is:=[0,1]) rfl (by decide)) (tgt_lst (bg_ (by decide) (bg_ (by decide) ds_ bf_) (cn_ bf_))) (fun _ _ _ _ _=>bi_) (fun _ _ _ _ _=>(ab_ (pv 1)))) ad_)) ad_)))))
  (af_ (ag_ fun F=>ak_ (i:=4) sc_law_room.nd rfl (Or.inl rfl) (XE.at (Ex:=noEx) F (be_ (ab_ (pv 6)) (bd_ (fz_ K (by rfl)) cx_maxL (by rfl) m_max bt_max (aa_ (ci_ (dsc:=defScope bu_) (N:=["kind", "room", "most", "parts", "end", "multiple", "begin"]) (tgs:=["room", "multiple"]) (outs:=[]) (N':=["room", "multiple"]) (by refine ⟨rfl,?_,?_,?_,rfl,?_,?_,?_⟩ <;> decide +kernel) (bs_ (ab_ (pv 3))) (fun _ _ _ _ _=>(pg_lstK K (n:=2) rfl rfl (ar_ (aj_ (i:=0) (show (["room", "multiple"]:List Str).Nodup by decide +kernel) rfl (Or.inl rfl) (.inr rfl)) (ar_ (aj_ (i:=1) (show (["room", "multiple"]:List Str).Nodup by decide +kernel) rfl (Or.inl rfl) (.inr rfl)) cj_)))) (gx_lst (n:=2) (is:=[0,1]) rfl (by decide)) (tgt_lst (bg_ (by decide) (bg_ (by decide) ds_ bf_) (cn_ bf_))) (fun _ _ _ _ _=>bi_) (fun _ _ _ _ _=>(ab_ (pv 0)))) ad_)))))))))
  (ae_ (ag_ fun F=>ak_ (i:=2) sc_law_room.nd rfl (Or.inl rfl) (XE.at (Ex:=noEx) F (bd_ (fz_ K (by rfl)) cx_maxL (by rfl) m_max bt_max (aa_ (ci_ (dsc:=defScope bu_) (N:=["kind", "room", "most", "parts", "end", "multiple", "begin"]) (tgs:=["room", "multiple"]) (outs:=[]) (N':=["room", "multiple"]) (by refine ⟨rfl,?_,?_,?_,rfl,?_,?_,?_⟩ <;> decide +kernel) (bs_ (ab_ (pv 3))) (fun _ _ _ _ _=>(pg_lstK K (n:=2) rfl rfl (ar_ (aj_ (i:=0) (show (["room", "multiple"]:List Str).Nodup by decide +kernel) rfl (Or.inl rfl) (.inr rfl)) (ar_ (aj_ (i:=1) (show (["room", "multiple"]:List Str).Nodup by decide +kernel) rfl (Or.inl rfl) (.inr rfl)) cj_)))) (gx_lst (n:=2) (is:=[0,1]) rfl (by decide)) (tgt_lst (bg_ (by decide) (bg_ (by decide) ds_ bf_) (cn_ bf_))) (fun _ _ _ _ _=>bi_) (fun _ _ _ _ _=>(ab_ (pv 1)))) ad_))))
  (af_ (ap_ (bq_ (aa_ (ai_ CLR (hr.mono (by omega)) (aa_ (ab_ (pv 4)) (aa_ (ab_ (pv 2)) ad_))) (aa_ (ab_ (pv 2)) ad_))))))))),fun ds Q h => ?_⟩
 obtain ⟨kd,rfl,hk,hf,hdp,hn,q⟩:=h
 cases kd with
 | num wd m=>exact ⟨len2,q⟩
 | row k m =>
  have hdp':k.deep + 1≤n + 1:=hdp
  obtain ⟨b0,b1,b2,b3⟩:=bd12 (n:=n) hk.1 (by omega) (by omega)
  obtain ⟨u1,u2⟩:=an_ (n:=k.rm.1) (m:=k.rm.2) (by omega)
  have hm:=hk.2
  refine ⟨k,rfl,hk.1,hf,by omega,by omega,?_⟩
  exact ⟨_,_,rfl,b0,by omega,⟨by omega,by omega⟩,len2,q⟩
 | rcd fs =>
  have hdp':deepF fs + 1≤n + 1:=hdp
  have hlf:=hk.2
  have hb:=bdF12 (n:=n) hk.1 (by omega) (by omega)
  have hlr:(rmF fs).length=fs.length:=lenF fs
  have hne:rmF fs≠[]:=fun z=>hf.1 (List.eq_nil_of_length_eq_zero (by rw [← hlr,z]; rfl))
  obtain ⟨x0,x1⟩:=mx_bd hb
  obtain ⟨c0,c1⟩:=di_ (e:=0) (by omega) hb
  refine ⟨show (xF fs).length≤1000000 by rw [dl_,List.length_map]; omega,show compX _ _ _ _ _ (xF fs) _ _ from ?_⟩
  rw [dl_]
  refine bk_ _ (fun f=>prD f.2.rm) (fun f hf' acc P p => ?_) ?_
  ·obtain ⟨i,hi⟩:=List.mem_iff_getElem?.mp hf'
   obtain ⟨ok,dk⟩:=okF_at hk.1 hi
   exact ⟨f.2,rfl,ok,fullF_at hf.2 hi,by omega,by omega,p⟩
  ·rw [List.nil_append,rmF_pr]
   refine bo_ prD (fun rest ρ => ∃ done y1 y2 y5,rmF fs=done ++ rest∧ρ=[.v (.tr (Kd.rcd fs).x),y1,y2,.v (.tr (.lst ((rmF fs).map prD))),.v (.tr (.int (lastEnd 0 done))),y5,.un]) (fun ρ h => ?_) (fun r rest ρ Kn h hk' => ?_) ⟨[],.un,.un,.un,rfl,rfl⟩
   ·obtain ⟨done,y1,y2,y5,e1,rfl⟩:=h
    rw [List.append_nil] at e1
    rw [← e1]
    simp only [xSeq,xNext,xSet,xOp,xVar,back,caps,startX,startB,List.map_nil,List.map_cons,List.cons_append,List.nil_append,List.length_cons,List.length_nil,List.replicate_succ,List.replicate_zero,Nat.reduceAdd,Nat.reduceSub,List.getElem?_cons_zero,List.getElem?_cons_succ,List.set_cons_zero,List.set_cons_succ,Sv.d]
    refine ha_ (i:=1) (sel:=fun r=>r.2) (d:=1) (by omega) hne (fun r hr=>(hb r hr).2.2.1) (fun _=>rfl) (by rfl) (by rfl) ?_
    exact ⟨_,_,rfl,c0,by omega,len2,q⟩
   ·obtain ⟨done,y1,y2,y5,e1,rfl⟩:=h
    have hr':r∈rmF fs:=by rw [e1]; exact List.mem_append_right _ List.mem_cons_self
    obtain ⟨b0,b1,b2,b3⟩:=hb r hr'
    obtain ⟨d0,d1⟩:=di_ (e:=0) (rs:=done) (by omega) (fun z hz=>hb z (by rw [e1]; exact List.mem_append_left _ hz))
    refine ⟨_,_,rfl,d0,by omega,hk' _ ⟨done ++ [r],.v (.tr (.int r.1)),y2,.v (.tr (.int r.2)),by rw [e1,List.append_assoc]; rfl,by rw [es_]; rfl⟩⟩
 | cho ks =>
  have hdp':deepK ks + 1≤n + 1:=hdp
  have hlf:=hk.2
  have hb:=bdK12 (n:=n) hk.1 (by omega) (by omega)
  have hlr:(rmK ks).length=ks.length:=lenK ks
  have hne:rmK ks≠[]:=fun z=>hf.1 (List.eq_nil_of_length_eq_zero (by rw [← hlr,z]; rfl))
  obtain ⟨x0,x1⟩:=mx_bd hb
  obtain ⟨u1,u2⟩:=an_ (n:=1) (m:=maxL 1 ((rmK ks).map (·.2))) (by omega)
  have y0:0≤maxL 0 ((rmK ks).map (·.1)):=ic_ _
  refine ⟨show (xK ks).length≤1000000 by rw [cu_,List.length_map]; omega,show compX _ _ _ _ _ (xK ks) _ _ from ?_⟩
  rw [cu_]
  refine bk_ _ (fun k=>prD k.rm) (fun k hf' acc P p => ?_) ?_
  ·obtain ⟨i,hi⟩:=List.mem_iff_getElem?.mp hf'
   obtain ⟨ok,dk⟩:=ok_at hk.1 hi
   exact ⟨k,rfl,ok,fullK_at hf.2 hi,by omega,by omega,p⟩
  ·rw [List.nil_append,rmK_pr]
   simp only [xSeq,xNext,xSet,xOp,xVar,back,caps,startX,startB,List.map_nil,List.map_cons,List.cons_append,List.nil_append,List.length_cons,List.length_nil,List.replicate_succ,List.replicate_zero,Nat.reduceAdd,Nat.reduceSub,List.getElem?_cons_zero,List.getElem?_cons_succ,List.set_cons_zero,List.set_cons_succ,Sv.d]
   refine xcall_c ?_
   refine ha_ (i:=1) (sel:=fun r=>r.2) (d:=1) (by omega) hne (fun r hr=>(hb r hr).2.2.1) (fun _=>rfl) (by rfl) (by rfl) ?_
   refine ⟨_,_,rfl,by decide,by omega,?_⟩
   simp only [xSeq,xNext,xSet,xOp,xVar,back,caps,startX,startB,List.map_nil,List.map_cons,List.cons_append,List.nil_append,List.length_cons,List.length_nil,List.replicate_succ,List.replicate_zero,Nat.reduceAdd,Nat.reduceSub,List.getElem?_cons_zero,List.getElem?_cons_succ,List.set_cons_zero,List.set_cons_succ,Sv.d]
   refine ha_ (i:=0) (sel:=fun r=>r.1) (d:=0) (by omega) hne (fun r hr=>(hb r hr).1) (fun _=>rfl) (by rfl) (by rfl) ?_
   simp only [xSeq,xNext,xSet,xOp,xVar,back,caps,startX,startB,List.map_nil,List.map_cons,List.cons_append,List.nil_append,List.length_cons,List.length_nil,List.replicate_succ,List.replicate_zero,Nat.reduceAdd,Nat.reduceSub,List.getElem?_cons_zero,List.getElem?_cons_succ,List.set_cons_zero,List.set_cons_succ,Sv.d]
   refine ha_ (i:=1) (sel:=fun r=>r.2) (d:=1) (by omega) hne (fun r hr=>(hb r hr).2.2.1) (fun _=>rfl) (by rfl) (by rfl) ?_
   exact ⟨_,_,rfl,by omega,by omega,len2,q⟩
theorem lmx_none:FnOk P w K mg base CX0 j f fd ["kind"] (spX (gLM 0)):=fn_no fun ds Q h=>by
 obtain ⟨kd,_,_,_,hd,_⟩:=h
 have:=Kd.deep_pos kd
 omega
end
def prT (r:Int×Int):Dx:=.tup [.int r.1,.int r.2]
def gRU:GC:=fun ds Q => ∃ n m:Int,ds=[.int n,.int m]∧0≤n∧n < 2 ^ 200∧0 < m∧m < 2 ^ 200∧Q (.tr (.int (up n m)))
def gSO:GC:=fun ds Q => ∃ r:Int×Int,ds=[prT r]∧0≤r.1∧r.1 < 2 ^ 200∧0 < r.2∧r.2 < 2 ^ 200∧Q (.tr (.int (up r.1 r.2)))
def gCA:GC:=fun ds Q => ∃ m:Int,ds=[.int m]∧0 < m∧m < 2 ^ 200∧Q (.tr (.int (up 1 m)))
def gGM:GC:=fun ds Q => ∃ rs:List (Int×Int),ds=[.lst (rs.map prT)]∧rs.length≤10∧(∀ r∈rs,1≤r.2)∧Q (.tr (.int (maxL 1 (rs.map (·.2)))))
def gPB:GC:=fun ds Q => ∃ rs:List (Int×Int),ds=[.lst (rs.map prT)]∧rs.length≤10∧(∀ r∈rs,Bd (2 ^ 150) r)∧Q (.ol ((plcs 0 rs).map Dx.int))
def gRO (n:Nat):GC:=fun ds Q => ∃ kd:Kd,ds=[kd.x]∧kd.Ok∧kd.deep≤n∧n≤12∧Q (.tr (prT kd.rm))
def gRS (n:Nat):GC:=fun ds Q => ∃ ks:List Kd,ds=[.lst (xK ks)]∧okK ks∧deepK ks≤n∧ks.length≤10∧n≤12∧Q (.ol ((rmK ks).map prT))
def gRR (n:Nat):GC:=fun ds Q => ∃ (kd:Kd) (m:Int),ds=[kd.x,.int m]∧kd.Ok∧kd.deep≤n∧n≤12∧0≤m∧m≤100∧Q (.tr (prT (m * up kd.rm.1 kd.rm.2,kd.rm.2)))
def gRL (f:List (Int×Int)→Int×Int) (n:Nat):GC:=fun ds Q => ∃ ks:List Kd,ds=[.lst (xK ks)]∧okK ks∧deepK ks≤n∧ks.length≤10∧n≤12∧Q (.tr (prT (f (rmK ks))))
def gPO (n:Nat):GC:=fun ds Q => ∃ fs:List (Str×Kd),ds=[.lst (xF fs)]∧okF fs∧deepF fs≤n∧fs.length≤10∧n≤12∧Q (.ol ((fs.zip (plcs 0 (rmF fs))).map fun x=>.tup [.str x.1.1,.int x.2]))
theorem rmK_T:∀ ks:List Kd,(ks.map fun k=>prT k.rm)=(rmK ks).map prT
 | []=>rfl
 | f :: r=>by rw [List.map_cons,rmK_T r]; rfl
theorem dp_ {α β:Type} (f:α→Dx) (g:β→Dx):∀ (l:List α) (m:List β),zipX (l.map f) (m.map g)=(l.zip m).map fun p=>.tup [f p.1,g p.2]
 | [],_=>rfl
 | _ :: _,[]=>rfl
 | a :: l,b :: m=>by show _ :: zipX (l.map f) (m.map g)=_; rw [dp_ f g l m]; rfl
section
variable {P:Program} {w:World} {K:FG_} {mg:MG_} {base:Heap} {f:Addr} {fd:FuncData} {n j:Nat}
theorem okx_ru (F:Fun K "rounded_up" "rounded_up" dt_ f fd):FnOk P w K mg base CX0 1 f fd ["number", "m"] (spX gRU):=by
 refine fv_ F sc_rounded_up (fun ds Q h=>by obtain ⟨_,_,rfl,_⟩:=h; rfl) (by decide) fun cdv A outer s H E hr => ?_
 refine ⟨_,(af_ (ap_ (cp_ (hm_ (fe_ (be_ (ab_ (pv 0)) (ab_ (pv 1))) ac_) (ab_ (pv 1))) (ab_ (pv 1))))),fun ds Q h => ?_⟩
 obtain ⟨n,m,rfl,h0,h1,h2,h3,q⟩:=h
 have d0:0≤(n + m - 1) / m:=Int.ediv_nonneg (by omega) (by omega)
 have d1:(n + m - 1) / m≤n + m - 1:=Int.ediv_le_self m (by omega)
 refine ⟨⟨h2,by omega⟩,⟨?_,by omega⟩,q⟩
 generalize (n + m - 1) / m=z at d0 d1
 omega
theorem okx_so (F:Fun K "step_of" "step_of" fo_ f fd) (CRU:Cal P w K mg base 1 "rounded_up" ["number", "m"] (spX gRU)):FnOk P w K mg base CX0 2 f fd ["room"] (spX gSO):=by
 refine fv_ F sc_step_of (fun ds Q h=>by obtain ⟨_,rfl,_⟩:=h; rfl) (by decide) fun cdv A outer s H E hr => ?_
 refine ⟨_,(af_ (ap_ (ai_ CRU (hr.mono (by omega)) (aa_ (am_ K (ab_ (pv 0)) ac_ (fun _ _=>rfl)) (aa_ (am_ K (ab_ (pv 0)) ac_ (fun _ _=>rfl)) ad_))))),fun ds Q h => ?_⟩
 obtain ⟨r,rfl,h0,h1,h2,h3,q⟩:=h
 exact ⟨_,_,rfl,h0,h1,h2,h3,q⟩
theorem okx_ca (F:Fun K "chosen_at" "chosen_at" ei_ f fd) (CRU:Cal P w K mg base 1 "rounded_up" ["number", "m"] (spX gRU)):FnOk P w K mg base CX0 2 f fd ["multiple"] (spX gCA):=by
 refine fv_ F sc_chosen_at (fun ds Q h=>by obtain ⟨_,rfl,_⟩:=h; rfl) (by decide) fun cdv A outer s H E hr => ?_
 refine ⟨_,(af_ (ap_ (ai_ CRU (hr.mono (by omega)) (aa_ ac_ (aa_ (ab_ (pv 0)) ad_))))),fun ds Q h => ?_⟩
 obtain ⟨m,rfl,h2,h3,q⟩:=h
 exact ⟨_,_,rfl,by decide,by decide,h2,h3,q⟩
theorem okx_gm (F:Fun K "greatest_multiple" "greatest_multiple" bj_ f fd) (m_max:mg "max" = none):FnOk P w K mg base CX0 1 f fd ["rooms"] (spX gGM):=by
 refine fv_ F fc_ (fun ds Q h=>by obtain ⟨_,rfl,_⟩:=h; rfl) (by decide) fun cdv A outer s H E hr => ?_
 refine ⟨_,(af_ (ap_ (xe_maxD (by rfl) (by rfl) m_max (aa_ (ci_ (dsc:=defScope bj_) (N:=["rooms"]) (tgs:=["room"]) (outs:=[]) (N':=["room"]) (by refine ⟨rfl,?_,?_,?_,rfl,?_,?_,?_⟩ <;> decide +kernel) (bs_ (ab_ (pv 0))) (fun _ _ _ _ _=>(aj_ (i:=0) (show (["room"]:List Str).Nodup by decide +kernel) rfl (Or.inl rfl) (.inr rfl))) (bb_ (n:=1) (i:=0) (by decide)) (bl_ (by decide)) (fun _ _ _ _ _=>bi_) (fun _ _ _ _ _=>(am_ K (ab_ (pv 0)) ac_ (fun _ _=>rfl)))) ad_) (pk_cons ep_ pk_nil)))),fun ds Q h => ?_⟩
 obtain ⟨rs,rfl,hl,h1,q⟩:=h
 refine ⟨show (rs.map prT).length≤_ by rw [List.length_map]; omega,show compX _ _ _ _ _ (rs.map prT) _ _ from ?_⟩
 refine bk_ prT (fun r=>.int r.2) (fun r hr acc P p=>p) ?_
 refine ⟨rs.map (·.2),by rw [List.map_map]; rfl,fun en => ?_,fun M hM hle => ?_⟩
 ·rw [en] at q; exact q
 ·obtain ⟨r,hr',rfl⟩:=List.mem_map.mp hM
  rw [← maxL_is (d:=1) hM (h1 r hr') hle] at q
  exact q
theorem okx_pb (F:Fun K "places_behind" "places_behind" cq_ f fd) (CRU:Cal P w K mg base 1 "rounded_up" ["number", "m"] (spX gRU)):FnOk P w K mg base CX0 2 f fd ["rooms"] (spX gPB):=by
 refine fv_ F sc_places_behind (fun ds Q h=>by obtain ⟨_,rfl,_⟩:=h; rfl) (by decide) fun cdv A outer s H E hr => ?_
 refine ⟨_,(ae_ (ag_ fun F=>ak_ (i:=1) sc_places_behind.nd rfl (Or.inl rfl) (XE.at (Ex:=noEx) F (bq_ ad_)))
  (ae_ (ag_ fun F=>ak_ (i:=2) sc_places_behind.nd rfl (Or.inl rfl) (XE.at (Ex:=noEx) F ac_))
  (ae_ (dc_ PassesOwn.never rfl (bs_ (ab_ (pv 0))) (aj_ (i:=3) sc_places_behind.nd rfl (Or.inl rfl)) (bb_ (n:=99) (i:=3) (by decide)) (ae_ (ag_ fun F=>ak_ (i:=4) sc_places_behind.nd rfl (Or.inl rfl) (XE.at (Ex:=noEx) F (ai_ CRU (hr.mono (by omega)) (aa_ (ab_ (pv 2)) (aa_ (am_ K (ab_ (pv 3)) ac_ (fun _ _=>rfl)) ad_)))))
  (ae_ (fb_ fun F=>PS.weak (dw_ (pe_bm PySem.F.plainAttrs_list PySem.F.slot_list_append PySem.F.type_list_append er_ (pv 1) (as_ (XE.at (Ex:=noEx) F (ab_ (pv 4))) cb_))) tApp_x)
  (af_ (ag_ fun F=>ak_ (i:=2) sc_places_behind.nd rfl (Or.inl rfl) (XE.at (Ex:=noEx) F (be_ (ab_ (pv 4)) (am_ K (ab_ (pv 3)) ac_ (fun _ _=>rfl)))))))))
  (af_ (ap_ (ch_ (pv 1))))))),fun ds Q h => ?_⟩
 obtain ⟨rs,rfl,hl,h1,q⟩:=h
 refine ⟨Nat.zero_le _,?_⟩
 refine bo_ prT (fun rest ρ => ∃ done y3 y4,rs=done ++ rest∧ρ=[.v (.tr (.lst (rs.map prT))),.v (.ol ((plcs 0 done).map Dx.int)),.v (.tr (.int (lastEnd 0 done))),y3,y4]) (fun ρ h => ?_) (fun r rest ρ Kn h hk => ?_) ⟨[],.un,.un,rfl,rfl⟩
 ·obtain ⟨done,y3,y4,e1,rfl⟩:=h
  rw [List.append_nil] at e1
  subst e1
  exact q
 ·obtain ⟨done,y3,y4,e1,rfl⟩:=h
  obtain ⟨b0,b1,b2,b3⟩:=h1 r (by rw [e1]; exact List.mem_append_right _ List.mem_cons_self)
  have hlen:done.length + (rest.length + 1)=rs.length:=by rw [e1,List.length_append,List.length_cons]
  obtain ⟨c0,c1⟩:=di_ (e:=0) (rs:=done) (by omega) (fun z hz=>h1 z (by rw [e1]; exact List.mem_append_left _ hz))
  have c2:(done.length:Int) * (2 ^ 150 + 8)≤10 * (2 ^ 150 + 8):=Int.mul_le_mul_of_nonneg_right (by omega) (by decide)
  refine ⟨_,_,rfl,c0,by omega,by omega,by omega,rfl,by rw [List.length_map,dn_]; omega,hk _ ⟨done ++ [r],.v (.tr (prT r)),.v (.tr (.int (up (lastEnd 0 done) r.2))),by rw [e1,List.append_assoc]; rfl,?_⟩⟩
  rw [es_,plcs_snoc,List.map_append]
  rfl
theorem okx_rs (F:Fun K "rooms_of" "rooms_of" eb_ f fd) (CRO:Cal P w K mg base j "room_of" ["kind"] (spX (gRO n))):FnOk P w K mg base CX0 (j + 1) f fd ["kinds"] (spX (gRS n)):=by
 refine fv_ F sc_rooms_of (fun ds Q h=>by obtain ⟨_,rfl,_⟩:=h; rfl) (by decide) fun cdv A outer s H E hr => ?_
 refine ⟨_,(af_ (ap_ (ci_ (dsc:=defScope eb_) (N:=["kinds"]) (tgs:=["kind"]) (outs:=[]) (N':=["kind"]) (by refine ⟨rfl,?_,?_,?_,rfl,?_,?_,?_⟩ <;> decide +kernel) (bs_ (ab_ (pv 0))) (fun _ _ _ _ _=>(aj_ (i:=0) (show (["kind"]:List Str).Nodup by decide +kernel) rfl (Or.inl rfl) (.inr rfl))) (bb_ (n:=1) (i:=0) (by decide)) (bl_ (by decide)) (fun _ _ _ _ _=>bi_) (fun _ _ _ _ _=>(ai_ CRO (hr.mono (by omega)) (aa_ (ab_ (pv 0)) ad_)))))),fun ds Q h => ?_⟩
 obtain ⟨ks,rfl,hk,hd,hl,hn,q⟩:=h
 refine ⟨show (xK ks).length≤_ by rw [cu_,List.length_map]; omega,show compX _ _ _ _ _ (xK ks) _ _ from ?_⟩
 rw [cu_]
 refine bk_ Kd.x (fun k=>prT k.rm) (fun k hm acc P p => ?_) ?_
 ·obtain ⟨i,hi⟩:=List.mem_iff_getElem?.mp hm
  obtain ⟨ok,dk⟩:=ok_at hk hi
  exact ⟨k,rfl,ok,by omega,hn,p⟩
 ·rw [List.nil_append,rmK_T]
  exact q
theorem okx_rr (F:Fun K "room_of_row" "room_of_row" df_ f fd) (CRO:Cal P w K mg base j "room_of" ["kind"] (spX (gRO n))) (CSO:Cal P w K mg base 2 "step_of" ["room"] (spX gSO)) (hj:2≤j):FnOk P w K mg base CX0 (j + 1) f fd ["kind", "n"] (spX (gRR n)):=by
 refine fv_ F sc_room_of_row (fun ds Q h=>by obtain ⟨_,_,rfl,_⟩:=h; rfl) (by decide) fun cdv A outer s H E hr => ?_
 refine ⟨_,(ae_ (ag_ fun F=>ak_ (i:=2) sc_room_of_row.nd rfl (Or.inl rfl) (XE.at (Ex:=noEx) F (ai_ CRO (hr.mono (by omega)) (aa_ (ab_ (pv 0)) ad_))))
  (af_ (ap_ (dq_ (aa_ (cp_ (ab_ (pv 1)) (ai_ CSO (hr.mono (by omega)) (aa_ (ab_ (pv 2)) ad_))) (aa_ (am_ K (ab_ (pv 2)) ac_ (fun _ _=>rfl)) ad_)))))),fun ds Q h => ?_⟩
 obtain ⟨kd,m,rfl,hk,hd,hn,m0,m1,q⟩:=h
 obtain ⟨b0,b1,b2,b3⟩:=bd12 (n:=n) hk hd hn
 obtain ⟨u1,u2⟩:=an_ (n:=kd.rm.1) (m:=kd.rm.2) (by omega)
 exact ⟨kd,rfl,hk,hd,hn,kd.rm,rfl,b0,by omega,by omega,by omega,⟨by omega,by omega⟩,len2,q⟩
theorem okx_rc (F:Fun K "room_of_record" "room_of_record" bz_ f fd) (CRS:Cal P w K mg base j "rooms_of" ["kinds"] (spX (gRS n))) (CGM:Cal P w K mg base 1 "greatest_multiple" ["rooms"] (spX gGM)) (CPB:Cal P w K mg base 2 "places_behind" ["rooms"] (spX gPB)) (CRU:Cal P w K mg base 1 "rounded_up" ["number", "m"] (spX gRU)) (m_max:mg "max" = none) (m_zip:mg "zip" = none) (hj:2≤j) :
  FnOk P w K mg base CX0 (j + 1) f fd ["kinds"] (spX (gRL rcdRm n)):=by
 refine fv_ F sc_room_of_record (fun ds Q h=>by obtain ⟨_,rfl,_⟩:=h; rfl) (by decide) fun cdv A outer s H E hr => ?_
 refine ⟨_,(ae_ (ag_ fun F=>ak_ (i:=1) sc_room_of_record.nd rfl (Or.inl rfl) (XE.at (Ex:=noEx) F (ai_ CRS (hr.mono (by omega)) (aa_ (ab_ (pv 0)) ad_))))
  (ae_ (ag_ fun F=>ak_ (i:=2) sc_room_of_record.nd rfl (Or.inl rfl) (XE.at (Ex:=noEx) F (ai_ CGM (hr.mono (by omega)) (aa_ (ab_ (pv 1)) ad_))))
  (ae_ (fb_ fun F=>PS.weak (hw_ (i:=3) sc_room_of_record.nd rfl rfl (dsc:=defScope bz_) (N:=["kinds", "rooms", "multiple", "ends"]) (tgs:=["place", "room"]) (outs:=[]) (N':=["place", "room"]) (by refine ⟨rfl,?_,?_,?_,rfl,?_,?_,?_⟩ <;> decide +kernel) (XIt.at (Ex:=noEx) F (xi_zip m_zip (aa_ (ai_ CPB (hr.mono (by omega)) (aa_ (ab_ (pv 1)) ad_)) (aa_ (ab_ (pv 1)) ad_)))) (fun _ _ _ _ _=>(hx_ K (n:=2) rfl rfl (ar_ (aj_ (i:=0) (show (["place", "room"]:List Str).Nodup by decide +kernel) rfl (Or.inl rfl) (.inr rfl)) (ar_ (aj_ (i:=1) (show (["place", "room"]:List Str).Nodup by decide +kernel) rfl (Or.inl rfl) (.inr rfl)) cj_)))) (hs_ (bg_ (by decide) (bg_ (by decide) ds_ bf_) (cn_ bf_))) (fun a b c d e=>XCs.at (Ex:=noEx) F bi_) (fun a b c d e=>XE.at (Ex:=noEx) F (be_ (ab_ (pv 0)) (am_ K (ab_ (pv 1)) ac_ (fun _ _=>rfl))))) (setC_x (et_ (n:=2) (is:=[0,1]) rfl (by decide)) (by decide)))
  (af_ (ap_ (dq_ (aa_ (ai_ CRU (hr.mono (by omega)) (aa_ (xe_maxD (by rfl) (by rfl) m_max (aa_ (ab_ (pv 3)) ad_) (pk_cons ep_ pk_nil)) (aa_ (ab_ (pv 2)) ad_))) (aa_ (ab_ (pv 2)) ad_)))))))),fun ds Q h => ?_⟩
 obtain ⟨ks,rfl,hk,hd,hl,hn,q⟩:=h
 have hb:=bdK12 hk hd hn
 refine ⟨ks,rfl,hk,hd,hl,hn,?_⟩
 generalize hrs:rmK ks=rs at hb q
 have hlr:rs.length≤10:=by rw [← hrs,lenK]; exact hl
 obtain ⟨c0,c1⟩:=di_ (e:=0) (by omega) hb
 have c2:(rs.length:Int) * (2 ^ 150 + 8)≤10 * (2 ^ 150 + 8):=Int.mul_le_mul_of_nonneg_right (by omega) (by decide)
 obtain ⟨x0,x1⟩:=mx_bd hb
 refine ⟨rs,rfl,hlr,fun r hr=>(hb r hr).2.2.1,?_⟩
 refine ⟨rs,rfl,hlr,hb,?_⟩
 have hzl:(zipX ((plcs 0 rs).map Dx.int) (rs.map prT)).length≤1000000:=by rw [dp_,List.length_map,List.length_zip]; omega
 refine ⟨hzl,show compX _ _ _ _ _ (zipX ((plcs 0 rs).map Dx.int) (rs.map prT)) _ _ from ?_⟩
 rw [dp_]
 refine bk_ _ (fun p:Int×(Int×Int)=>Dx.int (p.1 + p.2.1)) (fun p hp acc P pp=>pp) ?_
 rw [List.nil_append]
 have ez:(((plcs 0 rs).zip rs).map fun p=>Dx.int (p.1 + p.2.1))=(ends 0 rs).map Dx.int:=by rw [ends_zip,List.map_map]; rfl
 rw [ez]
 refine ⟨ends 0 rs,rfl,fun en => ?_,fun M hM hle => ?_⟩
 ·have:rs=[]:=by
   cases rs with
   | nil=>rfl
   | cons r t=>cases en
  subst this
  exact ⟨_,_,rfl,by decide,by decide,by decide,by decide,len2,q⟩
 ·have hne:rs≠[]:=fun z=>by rw [z] at hM; cases hM
  obtain ⟨t1,t2⟩:=ends_max (e:=0) (fun r hr=>⟨(hb r hr).1,by have:=(hb r hr).2.2.1; omega⟩) hne
  have:M=lastEnd 0 rs:=Int.le_antisymm (t2 M hM) (hle _ t1)
  subst this
  exact ⟨_,_,rfl,c0,by omega,by omega,by omega,len2,q⟩
theorem okx_rh (F:Fun K "room_of_choice" "room_of_choice" ca_ f fd) (CRS:Cal P w K mg base j "rooms_of" ["kinds"] (spX (gRS n))) (CGM:Cal P w K mg base 1 "greatest_multiple" ["rooms"] (spX gGM)) (CCA:Cal P w K mg base 2 "chosen_at" ["multiple"] (spX gCA)) (CRU:Cal P w K mg base 1 "rounded_up" ["number", "m"] (spX gRU)) (m_max:mg "max" = none) (hj:2≤j) :
  FnOk P w K mg base CX0 (j + 1) f fd ["kinds"] (spX (gRL choRm n)):=by
 refine fv_ F sc_room_of_choice (fun ds Q h=>by obtain ⟨_,rfl,_⟩:=h; rfl) (by decide) fun cdv A outer s H E hr => ?_
 refine ⟨_,(ae_ (ag_ fun F=>ak_ (i:=1) sc_room_of_choice.nd rfl (Or.inl rfl) (XE.at (Ex:=noEx) F (ai_ CRS (hr.mono (by omega)) (aa_ (ab_ (pv 0)) ad_))))
  (ae_ (ag_ fun F=>ak_ (i:=2) sc_room_of_choice.nd rfl (Or.inl rfl) (XE.at (Ex:=noEx) F (ai_ CGM (hr.mono (by omega)) (aa_ (ab_ (pv 1)) ad_))))
  (ae_ (ag_ fun F=>ak_ (i:=3) sc_room_of_choice.nd rfl (Or.inl rfl) (XE.at (Ex:=noEx) F (xe_maxD (by rfl) (by rfl) m_max (aa_ (ci_ (dsc:=defScope ca_) (N:=["kinds", "rooms", "multiple", "greatest"]) (tgs:=["room"]) (outs:=[]) (N':=["room"]) (by refine ⟨rfl,?_,?_,?_,rfl,?_,?_,?_⟩ <;> decide +kernel) (bs_ (ab_ (pv 1))) (fun _ _ _ _ _=>(aj_ (i:=0) (show (["room"]:List Str).Nodup by decide +kernel) rfl (Or.inl rfl) (.inr rfl))) (bb_ (n:=1) (i:=0) (by decide)) (bl_ (by decide)) (fun _ _ _ _ _=>bi_) (fun _ _ _ _ _=>(am_ K (ab_ (pv 0)) ac_ (fun _ _=>rfl)))) ad_) (pk_cons ep_ pk_nil))))
  (af_ (ap_ (dq_ (aa_ (ai_ CRU (hr.mono (by omega)) (aa_ (be_ (ai_ CCA (hr.mono (by omega)) (aa_ (ab_ (pv 2)) ad_)) (ab_ (pv 3))) (aa_ (ab_ (pv 2)) ad_))) (aa_ (ab_ (pv 2)) ad_)))))))),fun ds Q h => ?_⟩
 obtain ⟨ks,rfl,hk,hd,hl,hn,q⟩:=h
 have hb:=bdK12 hk hd hn
 refine ⟨ks,rfl,hk,hd,hl,hn,?_⟩
 generalize hrs:rmK ks=rs at hb q
 have hlr:rs.length≤10:=by rw [← hrs,lenK]; exact hl
 obtain ⟨x0,x1⟩:=mx_bd hb
 obtain ⟨u1,u2⟩:=an_ (n:=1) (m:=maxL 1 (rs.map (·.2))) (by omega)
 have y0:0≤maxL 0 (rs.map (·.1)):=ic_ _
 have y1:maxL 0 (rs.map (·.1))≤2 ^ 150:=maxL_le (by decide) fun z hz=>by obtain ⟨r,hr,rfl⟩:=List.mem_map.mp hz; exact (hb r hr).2.1
 refine ⟨rs,rfl,hlr,fun r hr=>(hb r hr).2.2.1,?_⟩
 refine ⟨show (rs.map prT).length≤_ by rw [List.length_map]; omega,show compX _ _ _ _ _ (rs.map prT) _ _ from ?_⟩
 refine bk_ prT (fun r=>.int r.1) (fun r hr acc P p=>p) ?_
 refine ⟨rs.map (·.1),by rw [List.map_map]; rfl,fun en => ?_,fun M hM hle => ?_⟩
 ·have:rs=[]:=List.map_eq_nil_iff.mp en
  subst this
  exact ⟨_,rfl,by decide,by decide,_,_,rfl,by decide,by decide,by decide,by decide,len2,q⟩
 ·obtain ⟨r,hr',rfl⟩:=List.mem_map.mp hM
  have e:r.1=maxL 0 (rs.map (·.1)):=(maxL_is (d:=0) hM (hb r hr').1 hle)
  rw [e]
  exact ⟨_,rfl,by omega,by omega,_,_,rfl,by omega,by omega,by omega,by omega,len2,q⟩
theorem okx_ro (F:Fun K "room_of" "room_of" eq_ f fd) (CRR:Cal P w K mg base j "room_of_row" ["kind", "n"] (spX (gRR n))) (CRC:Cal P w K mg base j "room_of_record" ["kinds"] (spX (gRL rcdRm n))) (CRH:Cal P w K mg base j "room_of_choice" ["kinds"] (spX (gRL choRm n))) :
  FnOk P w K mg base CX0 (j + 1) f fd ["kind"] (spX (gRO (n + 1))):=by
 refine fv_ F sc_room_of (fun ds Q h=>by obtain ⟨_,rfl,_⟩:=h; rfl) (by decide) fun cdv A outer s H E hr => ?_
 have hu0:=Nat.lt_of_succ_lt (en_ hr)
 refine ⟨_,(ae_ (br_ (bc_ (bn_ K hu0) cr_ (am_ K (ab_ (pv 0)) ac_ (fun _ _=>rfl)) bt_ (nomark _)) (af_ (ap_ (dq_ (aa_ (am_ K (ab_ (pv 0)) ac_ (fun _ _=>rfl)) (aa_ (am_ K (ab_ (pv 0)) ac_ (fun _ _=>rfl)) ad_))))) au_)
  (ae_ (br_ (bc_ (bn_ K hu0) cr_ (am_ K (ab_ (pv 0)) ac_ (fun _ _=>rfl)) bt_ (nomark _)) (af_ (ap_ (ai_ CRR (hr.mono (by omega)) (aa_ (am_ K (ab_ (pv 0)) ac_ (fun _ _=>rfl)) (aa_ (am_ K (ab_ (pv 0)) ac_ (fun _ _=>rfl)) ad_))))) au_)
  (ae_ (br_ (bc_ (bn_ K hu0) cr_ (am_ K (ab_ (pv 0)) ac_ (fun _ _=>rfl)) bt_ (nomark _)) (af_ (ap_ (ai_ CRC (hr.mono (by omega)) (aa_ (ci_ (dsc:=defScope eq_) (N:=["kind"]) (tgs:=["field"]) (outs:=[]) (N':=["field"]) (by refine ⟨rfl,?_,?_,?_,rfl,?_,?_,?_⟩ <;> decide +kernel) (bs_ (am_ K (ab_ (pv 0)) ac_ (fun _ _=>rfl))) (fun _ _ _ _ _=>(aj_ (i:=0) (show (["field"]:List Str).Nodup by decide +kernel) rfl (Or.inl rfl) (.inr rfl))) (bb_ (n:=1) (i:=0) (by decide)) (bl_ (by decide)) (fun _ _ _ _ _=>bi_) (fun _ _ _ _ _=>(am_ K (ab_ (pv 0)) ac_ (fun _ _=>rfl)))) ad_)))) au_)
  (af_ (ap_ (ai_ CRH (hr.mono (by omega)) (aa_ (am_ K (ab_ (pv 0)) ac_ (fun _ _=>rfl)) ad_))))))),fun ds Q h => ?_⟩
 obtain ⟨kd,rfl,hk,hd,hn,q⟩:=h
 cases kd with
 | num wd m=>exact ⟨len2,q⟩
 | row k m =>
  have hd':k.deep + 1≤n + 1:=hd
  exact ⟨k,m,rfl,hk.1,by omega,by omega,hk.2.1,hk.2.2,q⟩
 | rcd fs =>
  have hd':deepF fs + 1≤n + 1:=hd
  have hl:=hk.2
  refine ⟨show (xF fs).length≤_ by rw [dl_,List.length_map]; omega,show compX _ _ _ _ _ (xF fs) _ _ from ?_⟩
  rw [dl_]
  refine bk_ _ (fun f:Str×Kd=>f.2.x) (fun f hm acc P p=>p) ?_
  refine ⟨fs.map (·.2),by rw [List.nil_append,cu_,List.map_map]; rfl,okF_map hk.1,by rw [iq_]; omega,by rw [List.length_map]; exact hl,by omega,?_⟩
  rw [rmF_map]
  exact q
 | cho ks =>
  have hd':deepK ks + 1≤n + 1:=hd
  exact ⟨ks,rfl,hk.1,by omega,hk.2,by omega,q⟩
theorem okx_po (F:Fun K "places_in_order" "places_in_order" ax_ f fd) (CPB:Cal P w K mg base 2 "places_behind" ["rooms"] (spX gPB)) (CRS:Cal P w K mg base j "rooms_of" ["kinds"] (spX (gRS n))) (m_zip:mg "zip" = none) (hj:2≤j) :
  FnOk P w K mg base CX0 (j + 1) f fd ["fields"] (spX (gPO n)):=by
 refine fv_ F sc_places_in_order (fun ds Q h=>by obtain ⟨_,rfl,_⟩:=h; rfl) (by decide) fun cdv A outer s H E hr => ?_
 refine ⟨_,(ae_ (ag_ fun F=>ak_ (i:=1) sc_places_in_order.nd rfl (Or.inl rfl) (XE.at (Ex:=noEx) F (ai_ CPB (hr.mono (by omega)) (aa_ (ai_ CRS (hr.mono (by omega)) (aa_ (ci_ (dsc:=defScope ax_) (N:=["fields", "places"]) (tgs:=["field"]) (outs:=[]) (N':=["field"]) (by refine ⟨rfl,?_,?_,?_,rfl,?_,?_,?_⟩ <;> decide +kernel) (bs_ (ab_ (pv 0))) (fun _ _ _ _ _=>(aj_ (i:=0) (show (["field"]:List Str).Nodup by decide +kernel) rfl (Or.inl rfl) (.inr rfl))) (bb_ (n:=1) (i:=0) (by decide)) (bl_ (by decide)) (fun _ _ _ _ _=>bi_) (fun _ _ _ _ _=>(am_ K (ab_ (pv 0)) ac_ (fun _ _=>rfl)))) ad_)) ad_))))
  (af_ (ap_ (ci_ (dsc:=defScope ax_) (N:=["fields", "places"]) (tgs:=["field", "place"]) (outs:=[]) (N':=["field", "place"]) (by refine ⟨rfl,?_,?_,?_,rfl,?_,?_,?_⟩ <;> decide +kernel) (xi_zip m_zip (aa_ (ab_ (pv 0)) (aa_ (ab_ (pv 1)) ad_))) (fun _ _ _ _ _=>(hx_ K (n:=2) rfl rfl (ar_ (aj_ (i:=0) (show (["field", "place"]:List Str).Nodup by decide +kernel) rfl (Or.inl rfl) (.inr rfl)) (ar_ (aj_ (i:=1) (show (["field", "place"]:List Str).Nodup by decide +kernel) rfl (Or.inl rfl) (.inr rfl)) cj_)))) (et_ (n:=2) (is:=[0,1]) rfl (by decide)) (hs_ (bg_ (by decide) (bg_ (by decide) ds_ bf_) (cn_ bf_))) (fun _ _ _ _ _=>bi_) (fun _ _ _ _ _=>(dq_ (aa_ (am_ K (ab_ (pv 0)) ac_ (fun _ _=>rfl)) (aa_ (ab_ (pv 1)) ad_)))))))),fun ds Q h => ?_⟩
 obtain ⟨fs,rfl,hk,hd,hl,hn,q⟩:=h
 have hb:=bdF12 hk hd hn
 have hlr:(rmF fs).length=fs.length:=lenF fs
 refine ⟨show (xF fs).length≤_ by rw [dl_,List.length_map]; omega,show compX _ _ _ _ _ (xF fs) _ _ from ?_⟩
 rw [dl_]
 refine bk_ _ (fun f:Str×Kd=>f.2.x) (fun f hm acc P p=>p) ?_
 refine ⟨fs.map (·.2),by rw [List.nil_append,cu_,List.map_map]; rfl,okF_map hk,by rw [iq_]; omega,by rw [List.length_map]; exact hl,hn,?_⟩
 rw [rmF_map]
 refine ⟨rmF fs,rfl,by omega,hb,?_⟩
 have hzl:(zipX (fs.map fun f=>.tup [.str f.1,f.2.x]) ((plcs 0 (rmF fs)).map Dx.int)).length≤1000000:=by rw [dp_,List.length_map,List.length_zip]; omega
 refine ⟨hzl,show compX _ _ _ _ _ (zipX (fs.map fun f=>.tup [.str f.1,f.2.x]) ((plcs 0 (rmF fs)).map Dx.int)) _ _ from ?_⟩
 rw [dp_]
 exact bk_ _ (fun p:(Str×Kd)×Int=>Dx.tup [.str p.1.1,.int p.2]) (fun p hp acc P pp=>⟨len2,pp⟩) q
theorem rox_none:FnOk P w K mg base CX0 j f fd ["kind"] (spX (gRO 0)):=fn_no fun ds Q h=>by
 obtain ⟨kd,_,_,hd,_⟩:=h
 have:=Kd.deep_pos kd
 omega
end
def gLN:GB:=fun l ds Q => ∃ B many:Int,ds=[.int many]∧PoolX B l∧0≤many∧many≤12∧B + 1000 < 2 ^ 60∧∀ (xs:List Str) (l':List Dx),xs.length=many.toNat→xs.Nodup→(∀ x∈xs,Nm x)→PoolX (B + 200) l'→Q (.lst (xs.map Dx.str)) l'
theorem gw_ {G K:XS} {ρ:En} {D:XD} (M:En→Prop) (h1:∀ ρ',M ρ'→K ρ' D) (h2:∀ D':XD,(∀ ρ',M ρ'→D'.nx ρ')→G ρ D'):xSeq G K ρ D:=h2 { D with nx:=fun ρ'=>K ρ' D } h1
theorem fu_ {i:Nat} {t:XT} {K:XS} {ρ:En} {D:XD} (h:t ρ fun s ρ'=>K (ρ'.set i (.v s)) D):xSeq (xSet i t) K ρ D:=h
theorem in_ {i:Nat} {s:Sv} {ρ:En} {Q:Sv→En→Prop} (hi:ρ[i]? = some (.v s)) (h:Q (.tr s.d) (ρ.set i (.v (.tr s.d)))):xVar i ρ Q:=by
 unfold xVar
 rw [hi]
 exact h
theorem xF_snoc (fs:List (Str×Kd)) (f:Str×Kd):xF (fs ++ [f])=xF fs ++ [.tup [.str f.1,f.2.x]]:=by rw [dl_,dl_,List.map_append]; rfl
theorem xK_snoc (ks:List Kd) (k:Kd):xK (ks ++ [k])=xK ks ++ [k.x]:=by rw [cu_,cu_,List.map_append]; rfl
theorem two_inX {v:Dx} {a b B:Int} (h:v∈[Dx.int a,Dx.int b]) (a0:0≤a) (a1:a < B) (b0:0≤b) (b1:b < B):∃ z,v=.int z∧0≤z∧z < B:=by
 simp only [List.mem_cons,List.not_mem_nil,or_false] at h
 rcases h with rfl | rfl
 ·exact ⟨_,rfl,a0,a1⟩
 ·exact ⟨_,rfl,b0,b1⟩
theorem four_inX {v:Dx} (h:v∈[Dx.int 1,Dx.int 2,Dx.int 4,Dx.int 8]):∃ z,v=.int z∧(z=1∨z=2∨z=4∨z=8):=by
 simp only [List.mem_cons,List.not_mem_nil,or_false] at h
 rcases h with rfl | rfl | rfl | rfl
 ·exact ⟨_,rfl,by omega⟩
 ·exact ⟨_,rfl,by omega⟩
 ·exact ⟨_,rfl,by omega⟩
 ·exact ⟨_,rfl,by omega⟩
theorem gt_ {l:List Dx} {r:Int} {Q:Sv→Prop} (h0:0≤r) (h1:r < l.length) (q:∀ d∈l,Q (.tr d)):ixX (.lst l) (.int r) Q:=by
 obtain ⟨v,hv,hm⟩:=atI_in h0 h1
 show (match atI l r with | some d=>Q (.tr d) | none=>False)
 rw [hv]
 exact q v hm
theorem lenA {n:Nat} (h:n≤1000000):n≤1000000:=h
def gLK (n:Nat):GB:=fun l ds Q => ∃ B d mo:Int,ds=[.int d,.int mo]∧PoolX B l∧8≤mo∧1≤d∧d≤n∧n≤5∧B + tk n < 2 ^ 60 ∧
 ∀ (kd:Kd) (l':List Dx),kd.Fit→(kd.deep:Int)≤d→kd.rm.1≤mo→PoolX (B + tk n) l'→Q kd.x l'
section
variable {P:Program} {w:World} {K:FG_} {mg:MG_} {base:Heap} {f:Addr} {fd:FuncData} {n j jM:Nat}
theorem okx_lk (F:Fun K "_law_kind" "_law_kind" dg_ f fd) (CTK:Cal P w K mg base 1 "_law_take" ["pool", "many"] (spB gTK)) (CLN:Cal P w K mg base 2 "_law_names" ["pool", "many"] (spB gLN)) (CLM:Cal P w K mg base jM "_law_room" ["kind"] (spX (gLM 5))) (hjM:jM≤j) (hj2:2≤j)
  (CLK:Cal P w K mg base j "_law_kind" ["pool", "deep", "most"] (spB (gLK n))) (m_range:mg "range" = none) (m_int:mg "int" = none):FnOk P w K mg base CX0 (j + 1) f fd ["pool", "deep", "most"] (spB (gLK (n + 1))):=by
 refine fn_b F sc_law_kind (fun l ds Q h=>by obtain ⟨B,d,mo,rfl,_⟩:=h; rfl) (by decide) fun cdv A outer s H E hr => ?_
 have hu0:=Nat.lt_of_succ_lt (en_ hr)
 refine ⟨_,(ae_ (ag_ fun F=>ak_ (i:=3) sc_law_kind.nd rfl (Or.inl rfl) (XE.at (Ex:=noEx) F (ao_ (i:=0) CTK (hr.mono (by omega)) (pv 0) (aa_ ac_ ad_))))
  (ae_ (ag_ fun F=>ak_ (i:=4) sc_law_kind.nd rfl (Or.inl rfl) (XE.at (Ex:=noEx) F (dq_ (aa_ bt_ (aa_ (be_ ac_ (ao_ (i:=0) CTK (hr.mono (by omega)) (pv 0) (aa_ ac_ ad_))) (aa_ (am_ K (bq_ (aa_ ac_ (aa_ ac_ (aa_ ac_ (aa_ ac_ ad_))))) (ao_ (i:=0) CTK (hr.mono (by omega)) (pv 0) (aa_ ac_ ad_)) (fun _ _=>rfl)) ad_))))))
  (ae_ (br_ (XW.pt (xw_or (bc_ (bn_ K hu0) cr_ (ab_ (pv 1)) ac_ (nomark _)) (xw_or1 (bc_ op_lt ox_lt (ab_ (pv 3)) ac_ (nomark _))))) (af_ (ap_ (ch_ (pv 4)))) au_)
  (ae_ (ag_ fun F=>ak_ (i:=5) sc_law_kind.nd rfl (Or.inl rfl) (XE.at (Ex:=noEx) F (ab_ (pv 4))))
  (ae_ (br_ (bc_ op_lt ox_lt (ab_ (pv 3)) ac_ (nomark _)) (ae_ (ag_ fun F=>ak_ (i:=6) sc_law_kind.nd rfl (Or.inl rfl) (XE.at (Ex:=noEx) F (be_ ac_ (am_ K (bq_ (aa_ (ao_ (i:=0) CTK (hr.mono (by omega)) (pv 0) (aa_ ac_ ad_)) (aa_ (ao_ (i:=0) CTK (hr.mono (by omega)) (pv 0) (aa_ ac_ ad_)) ad_))) (ao_ (i:=0) CTK (hr.mono (by omega)) (pv 0) (aa_ ac_ ad_)) (fun _ _=>rfl)))))
  (af_ (ag_ fun F=>ak_ (i:=5) sc_law_kind.nd rfl (Or.inl rfl) (XE.at (Ex:=noEx) F (dq_ (aa_ bt_ (aa_ (ao_ (i:=0) CLK (hr.mono (by omega)) (pv 0) (aa_ (fe_ (ab_ (pv 1)) ac_) (aa_ (ab_ (pv 2)) ad_))) (aa_ (ab_ (pv 6)) ad_)))))))) (af_ (br_ (bc_ op_lt ox_lt (ab_ (pv 3)) ac_ (nomark _)) (ae_ (ag_ fun F=>ak_ (i:=6) sc_law_kind.nd rfl (Or.inl rfl) (XE.at (Ex:=noEx) F (be_ ac_ (am_ K (bq_ (aa_ (ao_ (i:=0) CTK (hr.mono (by omega)) (pv 0) (aa_ ac_ ad_)) (aa_ (ao_ (i:=0) CTK (hr.mono (by omega)) (pv 0) (aa_ ac_ ad_)) ad_))) (hp_ call_int1 cx_int (by rfl) m_int bt_int (aa_ (ho_ (bn_ K hu0) cr_ (ao_ (i:=0) CTK (hr.mono (by omega)) (pv 0) (aa_ ac_ ad_)) ac_ (nomark _)) ad_)) (fun _ _=>rfl)))))
  (af_ (ag_ fun F=>ak_ (i:=5) sc_law_kind.nd rfl (Or.inl rfl) (XE.at (Ex:=noEx) F (dq_ (aa_ bt_ (aa_ (ci_ (dsc:=defScope dg_) (N:=["pool", "deep", "most", "way", "kind", "found", "many"]) (tgs:=["name"]) (outs:=[0,1,2]) (N':=["name", "pool", "deep", "most"]) (by refine ⟨rfl,?_,?_,?_,rfl,?_,?_,?_⟩ <;> decide +kernel) (bs_ (ao_ (i:=0) CLN (hr.mono (by omega)) (pv 0) (aa_ (ab_ (pv 6)) ad_))) (fun _ _ _ _ _=>(aj_ (i:=0) (show (["name", "pool", "deep", "most"]:List Str).Nodup by decide +kernel) rfl (Or.inl rfl) (.inr rfl))) (bb_ (n:=1) (i:=0) (by decide)) (bl_ (by decide)) (fun _ _ _ _ _=>bi_) (fun _ _ _ _ _=>(dq_ (aa_ (ab_ (pv 0)) (aa_ (ao_ (i:=1) CLK (hr.mono (by omega)) (pv 1) (aa_ (fe_ (ab_ (pv 2)) ac_) (aa_ (ab_ (pv 3)) ad_))) ad_))))) ad_))))))) (ae_ (ag_ fun F=>ak_ (i:=6) sc_law_kind.nd rfl (Or.inl rfl) (XE.at (Ex:=noEx) F (be_ ac_ (am_ K (bq_ (aa_ (ao_ (i:=0) CTK (hr.mono (by omega)) (pv 0) (aa_ ac_ ad_)) (aa_ (ao_ (i:=0) CTK (hr.mono (by omega)) (pv 0) (aa_ ac_ ad_)) ad_))) (ao_ (i:=0) CTK (hr.mono (by omega)) (pv 0) (aa_ ac_ ad_)) (fun _ _=>rfl)))))
  (af_ (ag_ fun F=>ak_ (i:=5) sc_law_kind.nd rfl (Or.inl rfl) (XE.at (Ex:=noEx) F (dq_ (aa_ bt_ (aa_ (ci_ (dsc:=defScope dg_) (N:=["pool", "deep", "most", "way", "kind", "found", "many"]) (tgs:=["k"]) (outs:=[0,1,2]) (N':=["k", "pool", "deep", "most"]) (by refine ⟨rfl,?_,?_,?_,rfl,?_,?_,?_⟩ <;> decide +kernel) (cc_ m_range (aa_ (ab_ (pv 6)) ad_)) (fun _ _ _ _ _=>(aj_ (i:=0) (show (["k", "pool", "deep", "most"]:List Str).Nodup by decide +kernel) rfl (Or.inl rfl) (.inr rfl))) (bb_ (n:=1) (i:=0) (by decide)) (bl_ (by decide)) (fun _ _ _ _ _=>bi_) (fun _ _ _ _ _=>(ao_ (i:=1) CLK (hr.mono (by omega)) (pv 1) (aa_ (fe_ (ab_ (pv 2)) ac_) (aa_ (ab_ (pv 3)) ad_))))) ad_))))))))))
  (ae_ (br_ (bc_ op_gt ox_gt (am_ K (ai_ CLM (hr.mono (by omega)) (aa_ (ab_ (pv 5)) ad_)) ac_ (fun _ _=>rfl)) (ab_ (pv 2)) (nomark _)) (af_ (ap_ (ch_ (pv 4)))) au_)
  (af_ (ap_ (ch_ (pv 5)))))))))),fun l ds Q h => ?_⟩
 clear hu0 hjM hj2
 obtain ⟨B,d,mo,rfl,hp,hmo,hd1,hdn,hn5,hB,q⟩:=h
 have hT0:=tk_nonneg n
 have eT:tk (n + 1)=3000 + 12 * tk n:=rfl
 rw [eT] at hB q
 refine ⟨rfl,B,7,rfl,hp,by omega,by decide,by decide,fun way l1 w0 w1 hP1 => ?_⟩
 refine ⟨rfl,_,8,rfl,hP1,by omega,by decide,by decide,fun r2 l2 r20 r21 hP2 => ?_⟩
 refine ⟨lenA (by decide),rfl,_,4,rfl,hP2,by omega,by decide,by decide,fun r3 l3 r30 r31 hP3 => ?_⟩
 refine gt_ r30 r31 fun v hv => ?_
 obtain ⟨m,rfl,hm⟩:=four_inX hv
 refine ⟨lenA (by show 3≤1000000; decide),?_⟩
 dsimp only
 change xSeq _ _ [.bw l3,.v (.tr (.int d)),.v (.tr (.int mo)),.v (.tr (.int way)),.v (.tr (Kd.num (1 + r2) m).x),.un,.un] _
 have fN:(Kd.num (1 + r2) m).Fit:=⟨by omega,by omega,hm⟩
 have rN:(Kd.num (1 + r2) m).rm.1≤mo:=by show 1 + r2≤mo; omega
 have dN:((Kd.num (1 + r2) m).deep:Int)≤d:=by show ((1:Nat):Int)≤d; omega
 have done:∀ {l':List Dx},PoolX (B + (3000 + 12 * tk n)) l'→Q (Kd.num (1 + r2) m).x l':=fun {l'} hP=>q _ _ fN dN rN hP
 have hP4:PoolX (B + 3) l3:=hP3.mono (by omega)
 clear hP3 hP2 hP1 hv
 generalize Kd.num (1 + r2) m=kN at *
 refine ite2 (fun c=>done (hP4.mono (by omega))) (fun c => ?_)
 have c':¬ d=1:=fun z=>c (by rw [z]; exact decide_eq_true rfl)
 refine ite2 (fun c=>done (hP4.mono (by omega))) (fun c2 => ?_)
 unfold xNext
 dsimp only
 refine fu_ (in_ rfl ?_)
 change xSeq _ _ [.bw l3,.v (.tr (.int d)),.v (.tr (.int mo)),.v (.tr (.int way)),.v (.tr kN.x),.v (.tr kN.x),.un] _
 refine gw_ (fun ρ => ∃ (kd:Kd) (o:Sl) (l':List Dx),ρ=[.bw l',.v (.tr (.int d)),.v (.tr (.int mo)),.v (.tr (.int way)),.v (.tr kN.x),.v (.tr kd.x),o]∧kd.Fit∧(kd.deep:Int)≤d∧PoolX (B + (3000 + 12 * tk n)) l') ?_ (fun D' hD => ?_)
 ·rintro ρ' ⟨kd,o,l',rfl,hF,hdp,hP5⟩
  refine ⟨kd,rfl,hF.ok,hF.full,by omega,by decide,?_⟩
  refine ite2 (fun c3=>done hP5) (fun c3 => ?_)
  have:¬ kd.rm.1 > mo:=fun z=>c3 (decide_eq_true z)
  exact q kd l' hF hdp (by omega) hP5
 ·have hdd:d - 1=((d - 1).toNat:Int):=by omega
  have T8:∀ i:Nat,i≤8→(i:Int) * tk n≤8 * tk n:=fun i hi=>Int.mul_le_mul_of_nonneg_right (by omega) hT0
  have Tn:∀ i:Nat,0≤(i:Int) * tk n:=fun i=>Int.mul_nonneg (by omega) hT0
  have Ts:∀ i:Nat,((i + 1:Nat):Int) * tk n=(i:Int) * tk n + tk n:=fun i=>by push_cast; rw [Int.add_mul,Int.one_mul]
  refine ite2 (fun c3 => ?_) (fun c3=>ite2 (fun c4 => ?_) (fun c4 => ?_))
  ·-- a row
   refine ⟨rfl,_,3,rfl,hP4,by omega,by decide,by decide,fun a la a0 a1 hPa => ?_⟩
   refine ⟨rfl,_,20,rfl,hPa,by omega,by decide,by decide,fun b lb b0 b1 hPb => ?_⟩
   refine ⟨len2,rfl,_,2,rfl,hPb,by omega,by decide,by decide,fun r lr r0 r1 hPr=>gt_ r0 r1 fun v hvm => ?_⟩
   obtain ⟨z,rfl,z0,z1⟩:=two_inX (B:=20) hvm a0 (by omega) b0 b1
   refine ⟨rfl,_,d - 1,mo,rfl,hPr,hmo,by omega,by omega,by omega,by omega,fun kd l5 hF hdp hrm hP5 => ?_⟩
   refine ⟨lenA (by show 3≤1000000; decide),hD _ ⟨.row kd (1 + z),.v (.tr (.int (1 + z))),l5,rfl,⟨hF,by omega,by omega⟩,?_,hP5.mono (by omega)⟩⟩
   show ((kd.deep + 1:Nat):Int)≤d
   omega
  ·-- a record
   refine ⟨rfl,_,4,rfl,hP4,by omega,by decide,by decide,fun a la a0 a1 hPa => ?_⟩
   refine ⟨rfl,_,8,rfl,hPa,by omega,by decide,by decide,fun b lb b0 b1 hPb => ?_⟩
   refine ⟨len2,rfl,_,4,rfl,hPb,by omega,by decide,by decide,fun r lr r0 r1 hPr => ?_⟩
   simp only [xC,eqX,eqS,xNil,Sv.d,List.map_cons,List.map_nil,intX]
   refine gt_ (by split <;> decide) (by show _ < (2:Int); split <;> decide) fun v hvm => ?_
   obtain ⟨z,rfl,z0,z1⟩:=two_inX (B:=8) hvm a0 (by omega) b0 b1
   refine ⟨rfl,_,1 + z,rfl,hPr,by omega,by omega,by omega,fun xs l5 hxl hnd hnm hP5 => ?_⟩
   have hx8:xs.length≤8:=by omega
   refine ⟨by rw [List.length_map]; omega,?_⟩
   refine cs_ Dx.str (fun rest acc cs => ∃ (fs:List (Str×Kd)) (l':List Dx),xs=fs.map (·.1) ++ rest∧acc=xF fs∧cs=[.bw l',.v (.tr (.int d)),.v (.tr (.int mo))]∧fitF fs∧deepF fs≤(d - 1).toNat∧PoolX (B + 300 + (fs.length:Int) * tk n) l') (fun acc cs h => ?_) (fun nm rest acc cs Pn h hk => ?_) ⟨[],l5,rfl,rfl,rfl,trivial,Nat.zero_le _,hP5.mono (by simp; omega)⟩
   ·obtain ⟨fs,l',e1,rfl,rfl,hF,hdp,hP6⟩:=h
    rw [List.append_nil] at e1
    have hfl:fs.length=xs.length:=by rw [e1,List.length_map]
    have t8:=T8 fs.length (by omega)
    refine ⟨len2,hD _ ⟨.rcd fs,.v (.tr (.int (1 + z))),l',rfl,⟨hF,by omega,by omega,by rw [← e1]; exact hnd⟩,?_,hP6.mono (by omega)⟩⟩
    show ((deepF fs + 1:Nat):Int)≤d
    omega
   ·obtain ⟨fs,l',e1,rfl,rfl,hF,hdp,hP6⟩:=h
    have hfl:fs.length + (rest.length + 1)=xs.length:=by rw [e1,List.length_append,List.length_map,List.length_cons]
    have t8:=T8 fs.length (by omega)
    have ts:=Ts fs.length
    have hnm':nm∈xs:=by rw [e1]; exact List.mem_append_right _ List.mem_cons_self
    refine ⟨rfl,_,d - 1,mo,rfl,hP6,hmo,by omega,by omega,by omega,by omega,fun kd l6 hF6 hdp6 hrm hP7=>⟨len2,hk _ _ ⟨fs ++ [(nm,kd)],l6,?_,?_,rfl,fitF_snoc hF (hnm nm hnm') hF6,deepF_snoc hdp (by show kd.deep≤_; omega),hP7.mono (by rw [List.length_append]; show _≤B + 300 + ((fs.length + 1:Nat):Int) * tk n; omega)⟩⟩⟩
    ·rw [e1,List.map_append,List.append_assoc]; rfl
    ·rw [xF_snoc]; rfl
  ·-- a choice
   refine ⟨rfl,_,3,rfl,hP4,by omega,by decide,by decide,fun a la a0 a1 hPa => ?_⟩
   refine ⟨rfl,_,6,rfl,hPa,by omega,by decide,by decide,fun b lb b0 b1 hPb => ?_⟩
   refine ⟨len2,rfl,_,2,rfl,hPb,by omega,by decide,by decide,fun r lr r0 r1 hPr=>gt_ r0 r1 fun v hvm => ?_⟩
   obtain ⟨z,rfl,z0,z1⟩:=two_inX (B:=6) hvm a0 (by omega) b0 b1
   refine ⟨⟨by omega,by omega⟩,by show ((List.range _).map _).length≤_; rw [List.length_map,List.length_range]; omega,?_⟩
   refine cs_ (fun k:Nat=>Dx.int (0 + (k:Int))) (fun rest acc cs => ∃ (ks:List Kd) (l':List Dx),ks.length + rest.length=(1 + z).toNat∧acc=xK ks∧cs=[.bw l',.v (.tr (.int d)),.v (.tr (.int mo))]∧fitK ks∧deepK ks≤(d - 1).toNat∧PoolX (B + 300 + (ks.length:Int) * tk n) l') (fun acc cs h => ?_) (fun nm rest acc cs Pn h hk => ?_) ⟨[],lr,by rw [List.length_range]; simp,rfl,rfl,trivial,Nat.zero_le _,hPr.mono (by simp; omega)⟩
   ·obtain ⟨ks,l',e1,rfl,rfl,hF,hdp,hP6⟩:=h
    rw [List.length_nil] at e1
    have t8:=T8 ks.length (by omega)
    refine ⟨len2,hD _ ⟨.cho ks,.v (.tr (.int (1 + z))),l',rfl,⟨hF,by omega,by omega⟩,?_,hP6.mono (by omega)⟩⟩
    show ((deepK ks + 1:Nat):Int)≤d
    omega
   ·obtain ⟨ks,l',e1,rfl,rfl,hF,hdp,hP6⟩:=h
    rw [List.length_cons] at e1
    have t8:=T8 ks.length (by omega)
    have ts:=Ts ks.length
    refine ⟨rfl,_,d - 1,mo,rfl,hP6,hmo,by omega,by omega,by omega,by omega,fun kd l6 hF6 hdp6 hrm hP7=>hk _ _ ⟨ks ++ [kd],l6,by rw [List.length_append,List.length_singleton]; omega,?_,rfl,fitK_snoc hF hF6,deepK_snoc hdp (by show kd.deep≤_; omega),hP7.mono (by rw [List.length_append]; show _≤B + 300 + ((ks.length + 1:Nat):Int) * tk n; omega)⟩⟩
    rw [xK_snoc]; rfl
end
mutual
def Kd.vx:Kd→Vd→Dx
 | .num _ _,.num n=>.int n
 | .row k _,.row vs=>.lst (vs.map k.vx)
 | .rcd fs,.rcd vs=>.dic (vxF fs vs)
 | .cho ks,.cho j v=>.tup [.int (j:Int),vxK ks j v]
 | _,_=>.non
def vxF:List (Str×Kd)→List Vd→List (Key×Dx)
 | f :: r,v :: vs=>(Sum.inr f.1,f.2.vx v) :: vxF r vs
 | _,_=>[]
def vxK:List Kd→Nat→Vd→Dx
 | [],_,_=>.non
 | k :: _,0,v=>k.vx v
 | _ :: r,j + 1,v=>vxK r j v
end
theorem vxF_snoc:∀ {fs:List (Str×Kd)} {vs:List Vd} {f:Str×Kd} {v:Vd},vs.length=fs.length→vxF (fs ++ [f]) (vs ++ [v])=vxF fs vs ++ [(Sum.inr f.1,f.2.vx v)]
 | [],[],f,v,_=>by simp [vxF]
 | [],_ :: _,_,_,h=>by simp at h
 | _ :: _,[],_,_,h=>by simp at h
 | g :: r,u :: vs,f,v,h=>by simp only [List.cons_append,vxF]; rw [vxF_snoc (by simpa using h)]
theorem ef_:∀ {fs:List (Str×Kd)} {vs:List Vd},vs.length=fs.length→(vxF fs vs).map (·.1)=fs.map fun f=>(Sum.inr f.1:Key)
 | [],[],_=>by simp [vxF]
 | [],_ :: _,h=>by simp at h
 | _ :: _,[],h=>by simp at h
 | g :: r,u :: vs,h=>by simp only [vxF,List.map_cons]; rw [ef_ (by simpa using h)]
theorem hr_ {v:Vd}:∀ {ks:List Kd} {j:Nat} {k:Kd},ks[j]? = some k→vxK ks j v=k.vx v
 | [],_,_,e=>by simp at e
 | k' :: r,0,k,e=>by simp at e; subst e; simp only [vxK]
 | k' :: r,j + 1,k,e=>by simp only [vxK]; exact hr_ (j:=j) (by simpa using e)
theorem cy_:∀ {fs:List (Str×Kd)} {vs:List Vd},valF fs vs→vs.length=fs.length
 | [],[],_=>rfl
 | [],_ :: _,h=>by simp [valF] at h
 | _ :: _,[],h=>by simp [valF] at h
 | f :: r,v :: vs,h=>by simp only [valF] at h; simp [cy_ h.2]
theorem valF_snoc:∀ {fs:List (Str×Kd)} {vs:List Vd} {f:Str×Kd} {v:Vd},valF fs vs→f.2.Val v→valF (fs ++ [f]) (vs ++ [v])
 | [],[],f,v,_,h=>by simp only [List.nil_append,valF]; exact ⟨h,trivial⟩
 | [],_ :: _,_,_,h,_=>by simp [valF] at h
 | _ :: _,[],_,_,h,_=>by simp [valF] at h
 | g :: r,u :: vs,f,v,h,h'=>by simp only [List.cons_append,valF] at h ⊢; exact ⟨h.1,valF_snoc h.2 h'⟩
theorem valK_mk:∀ {ks:List Kd} {j:Nat} {k:Kd} {v:Vd},ks[j]? = some k→k.Val v→valK ks j v
 | [],_,_,_,e,_=>by simp at e
 | k' :: r,0,k,v,e,h=>by simp at e; subst e; simp only [valK]; exact h
 | k' :: r,j + 1,k,v,e,h=>by simp only [valK]; exact valK_mk (j:=j) (by simpa using e) h
theorem fitFx:∀ {fs:List (Str×Kd)} {f:Str×Kd},fitF fs→f∈fs→f.2.Fit∧f.2.deep≤deepF fs
 | g :: r,f,h,hm=>by
  rcases List.mem_cons.mp hm with rfl | hm
  ·exact ⟨h.1.2,Nat.le_max_left _ _⟩
  ·exact ⟨(fitFx h.2 hm).1,Nat.le_trans (fitFx h.2 hm).2 (Nat.le_max_right _ _)⟩
theorem fitKx:∀ {ks:List Kd} {k:Kd},fitK ks→k∈ks→k.Fit∧k.deep≤deepK ks
 | g :: r,f,h,hm=>by
  rcases List.mem_cons.mp hm with rfl | hm
  ·exact ⟨h.1,Nat.le_max_left _ _⟩
  ·exact ⟨(fitKx h.2 hm).1,Nat.le_trans (fitKx h.2 hm).2 (Nat.le_max_right _ _)⟩
theorem pow256 {i:Nat} (h:i≤8):(256:Int) ^ i≤256 ^ 8:=by
 have:=Nat.pow_le_pow_right (n:=256) (by decide) h
 exact_mod_cast this
theorem pow256' {i:Nat} (h:1≤i):(256:Int)≤256 ^ i:=by
 obtain ⟨k,rfl⟩ : ∃ k,i=k + 1:=⟨i - 1,by omega⟩
 rw [Int.pow_succ]
 have:(1:Int)≤256 ^ k:=Int.pow_pos (by decide)
 omega
theorem four_valX {v:Dx} {t a b:Int} (h:v∈[Dx.int 0,Dx.int t,Dx.int a,Dx.int b]) (ht:0≤t) (a0:0≤a) (a1:a≤t) (b0:0≤b) (b1:b≤t):∃ z,v=.int z∧0≤z∧z≤t:=by
 simp only [List.mem_cons,List.not_mem_nil,or_false] at h
 rcases h with rfl | rfl | rfl | rfl
 ·exact ⟨_,rfl,by omega,ht⟩
 ·exact ⟨_,rfl,ht,by omega⟩
 ·exact ⟨_,rfl,a0,a1⟩
 ·exact ⟨_,rfl,b0,b1⟩
def tv:Nat→Int
 | 0=>0
 | n + 1=>10 + 21 * tv n
theorem tv_nonneg:∀ n,0≤tv n
 | 0=>Int.le_refl _
 | n + 1=>by have:=tv_nonneg n; show 0≤10 + 21 * tv n; omega
def gTP:GC:=fun ds Q => ∃ w:Int,ds=[.int w]∧0≤w∧w≤8∧Q (.tr (.int (256 ^ w.toNat - 1)))
def gVA (n:Nat):GB:=fun l ds Q => ∃ (B:Int) (kd:Kd),ds=[kd.x]∧PoolX B l∧kd.Fit∧kd.deep≤n∧n≤5∧B + tv n < 2 ^ 60∧∀ (vd:Vd) (l':List Dx),kd.Val vd→PoolX (B + tv n) l'→Q (kd.vx vd) l'
section
variable {P:Program} {w:World} {K:FG_} {mg:MG_} {base:Heap} {f:Addr} {fd:FuncData} {n j:Nat}
theorem okx_tp (F:Fun K "_law_top" "_law_top" fp_ f fd) (m_range:mg "range" = none):FnOk P w K mg base CX0 1 f fd ["width"] (spX gTP):=by
 refine fv_ F sc_law_top (fun ds Q h=>by obtain ⟨w,rfl,_⟩:=h; rfl) (by decide) fun cdv A outer s H E hr => ?_
 refine ⟨_,(ae_ (ag_ fun F=>ak_ (i:=1) sc_law_top.nd rfl (Or.inl rfl) (XE.at (Ex:=noEx) F ac_))
  (ae_ (dc_ PassesOwn.never rfl (cc_ m_range (aa_ (ab_ (pv 0)) ad_)) (aj_ (i:=2) sc_law_top.nd rfl (Or.inl rfl)) (bb_ (n:=99) (i:=2) (by decide)) (af_ (ag_ fun F=>ak_ (i:=1) sc_law_top.nd rfl (Or.inl rfl) (XE.at (Ex:=noEx) F (cp_ ac_ (ab_ (pv 1)))))))
  (af_ (ap_ (fe_ (ab_ (pv 1)) ac_))))),fun ds Q h => ?_⟩
 obtain ⟨w,rfl,h0,h8,q⟩:=h
 refine ⟨⟨by omega,by omega⟩,?_⟩
 refine bo_ (fun k:Nat=>Dx.int (0 + (k:Int))) (fun rest ρ => ∃ (i:Nat) (y:Sl),i + rest.length=w.toNat∧ρ=[.v (.tr (.int w)),.v (.tr (.int (256 ^ i))),y]) (fun ρ h => ?_) (fun k rest ρ Kn h hk => ?_) ⟨0,.un,by rw [List.length_range]; simp,rfl⟩
 ·obtain ⟨i,y,e,rfl⟩:=h
  rw [List.length_nil,Nat.add_zero] at e
  subst e
  exact q
 ·obtain ⟨i,y,e,rfl⟩:=h
  rw [List.length_cons] at e
  have hp1:=pow256 (show i≤8 by omega)
  have hp0:(0:Int)≤256 ^ i:=Int.pow_nonneg (by decide)
  exact ⟨⟨by decide,by omega⟩,hk _ ⟨i + 1,.v (.tr (.int (0 + (k:Int)))),by omega,by rw [Int.pow_succ,Int.mul_comm]; rfl⟩⟩
theorem okx_va (F:Fun K "_law_value" "_law_value" dm_ f fd) (CTK:Cal P w K mg base 1 "_law_take" ["pool", "many"] (spB gTK)) (CTP:Cal P w K mg base 1 "_law_top" ["width"] (spX gTP)) (CVA:Cal P w K mg base j "_law_value" ["pool", "kind"] (spB (gVA n))) (m_range:mg "range" = none) (m_len:mg "len" = none) (h1:1≤j) :
  FnOk P w K mg base CX0 (j + 1) f fd ["pool", "kind"] (spB (gVA (n + 1))):=by
 refine fn_b F sc_law_value (fun l ds Q h=>by obtain ⟨B,kd,rfl,_⟩:=h; rfl) (by decide) fun cdv A outer s H E hr => ?_
 have hu1:=en_ hr
 have hu0:=Nat.lt_of_succ_lt hu1
 refine ⟨_,(ae_ (br_ (bc_ (bn_ K hu0) cr_ (am_ K (ab_ (pv 1)) ac_ (fun _ _=>rfl)) bt_ (nomark _)) (ae_ (ag_ fun F=>ak_ (i:=2) sc_law_value.nd rfl (Or.inl rfl) (XE.at (Ex:=noEx) F (ai_ CTP (hr.mono (by omega)) (aa_ (am_ K (ab_ (pv 1)) ac_ (fun _ _=>rfl)) ad_))))
  (af_ (ap_ (am_ K (bq_ (aa_ ac_ (aa_ (ab_ (pv 2)) (aa_ (ao_ (i:=0) CTK (hr.mono (by omega)) (pv 0) (aa_ ac_ ad_)) (aa_ (ao_ (i:=0) CTK (hr.mono (by omega)) (pv 0) (aa_ (be_ (ab_ (pv 2)) ac_) ad_)) ad_))))) (ao_ (i:=0) CTK (hr.mono (by omega)) (pv 0) (aa_ ac_ ad_)) (fun _ _=>rfl))))) au_)
  (ae_ (br_ (bc_ (bn_ K hu0) cr_ (am_ K (ab_ (pv 1)) ac_ (fun _ _=>rfl)) bt_ (nomark _)) (af_ (ap_ (ci_ (dsc:=defScope dm_) (N:=["pool", "kind", "top", "found", "name", "inner", "k"]) (tgs:=["k"]) (outs:=[0,1]) (N':=["k", "pool", "kind"]) (by refine ⟨rfl,?_,?_,?_,rfl,?_,?_,?_⟩ <;> decide +kernel) (cc_ m_range (aa_ (am_ K (ab_ (pv 1)) ac_ (fun _ _=>rfl)) ad_)) (fun _ _ _ _ _=>(aj_ (i:=0) (show (["k", "pool", "kind"]:List Str).Nodup by decide +kernel) rfl (Or.inl rfl) (.inr rfl))) (bb_ (n:=1) (i:=0) (by decide)) (bl_ (by decide)) (fun _ _ _ _ _=>bi_) (fun _ _ _ _ _=>(ao_ (i:=1) CVA (hr.mono (by omega)) (pv 1) (aa_ (am_ K (ab_ (pv 2)) ac_ (fun _ _=>rfl)) ad_)))))) au_)
  (ae_ (br_ (bc_ (bn_ K hu0) cr_ (am_ K (ab_ (pv 1)) ac_ (fun _ _=>rfl)) bt_ (nomark _)) (ae_ (ag_ fun F=>ak_ (i:=3) sc_law_value.nd rfl (Or.inl rfl) (XE.at (Ex:=noEx) F xe_dnew))
  (ae_ (dc_ PassesOwn.never rfl (bs_ (am_ K (ab_ (pv 1)) ac_ (fun _ _=>rfl))) (hy_ rfl (ar_ (aj_ (i:=4) sc_law_value.nd rfl (Or.inl rfl)) (ar_ (aj_ (i:=5) sc_law_value.nd rfl (Or.inl rfl)) cj_))) (et_ (n:=99) (is:=[4,5]) rfl (by decide)) (af_ (fb_ fun F=>PS.weak (ps_dput hu1 (pv 3) (XE.at (Ex:=noEx) F (ab_ (pv 4))) (XE.at (Ex:=noEx) F (ao_ (i:=0) CVA (hr.mono (by omega)) (pv 0) (aa_ (ab_ (pv 5)) ad_))) rfl) tDPut_x)))
  (af_ (ap_ (ch_ (pv 3)))))) au_)
  (ae_ (ag_ fun F=>ak_ (i:=6) sc_law_value.nd rfl (Or.inl rfl) (XE.at (Ex:=noEx) F (ao_ (i:=0) CTK (hr.mono (by omega)) (pv 0) (aa_ (bd_ (bw_ K) eu_ (by rfl) m_len PySem.boot_len (aa_ (am_ K (ab_ (pv 1)) ac_ (fun _ _=>rfl)) ad_)) ad_))))
  (af_ (ap_ (dq_ (aa_ (ab_ (pv 6)) (aa_ (ao_ (i:=0) CVA (hr.mono (by omega)) (pv 0) (aa_ (am_ K (am_ K (ab_ (pv 1)) ac_ (fun _ _=>rfl)) (ab_ (pv 6)) (fun _ _=>rfl)) ad_)) ad_))))))))),fun l ds Q h => ?_⟩
 clear hu0 hu1 h1
 obtain ⟨B,kd,rfl,hP,hfit,hdp,hn,hB,q⟩:=h
 have ht0:=tv_nonneg n
 have eT:tv (n + 1)=10 + 21 * tv n:=rfl
 rw [eT] at hB q
 have Tm:∀ i:Nat,i≤20→(i:Int) * tv n≤20 * tv n:=fun i hi=>Int.mul_le_mul_of_nonneg_right (by omega) ht0
 have Ts:∀ i:Nat,((i + 1:Nat):Int) * tv n=(i:Int) * tv n + tv n:=fun i=>by push_cast; rw [Int.add_mul,Int.one_mul]
 cases kd with
 | num wd m =>
  obtain ⟨a1,a2,_⟩:=hfit
  have g1:=pow256 (show wd.toNat≤8 by omega)
  have g2:=pow256' (show 1≤wd.toNat by omega)
  refine ⟨wd,rfl,by omega,by omega,?_⟩
  refine ⟨rfl,B,256,rfl,hP,by omega,by decide,by decide,fun x1 l1 x10 x11 hP1 => ?_⟩
  refine ⟨rfl,_,256 ^ wd.toNat - 1 + 1,rfl,hP1,by omega,by omega,by omega,fun x2 l2 x20 x21 hP2 => ?_⟩
  refine ⟨lenA (by show 4≤1000000; decide),rfl,_,4,rfl,hP2,by omega,by decide,by decide,fun x3 l3 x30 x31 hP3=>gt_ x30 x31 fun v hv => ?_⟩
  obtain ⟨z,rfl,z0,z1⟩:=four_valX hv (by omega) x10 (by omega) x20 (by omega)
  exact q (.num z) l3 (by simp only [Kd.Val]; exact ⟨z0,by omega⟩) (hP3.mono (by omega))
 | row k m =>
  obtain ⟨f1,m1,m2⟩:=hfit
  have hdp':k.deep + 1≤n + 1:=hdp
  refine ⟨⟨by omega,by omega⟩,by show ((List.range _).map _).length≤_; rw [List.length_map,List.length_range]; omega,?_⟩
  refine cs_ (fun k:Nat=>Dx.int (0 + (k:Int))) (fun rest acc cs => ∃ (vs:List Vd) (l':List Dx),vs.length + rest.length=m.toNat∧acc=vs.map k.vx∧cs=[.bw l',.v (.tr (Kd.row k m).x)]∧(∀ v∈vs,k.Val v)∧PoolX (B + (vs.length:Int) * tv n) l') (fun acc cs h => ?_) (fun nm rest acc cs Pn h hk => ?_) ⟨[],l,by rw [List.length_range]; simp,rfl,rfl,(fun v hv=>nomatch hv),hP.mono (by simp)⟩
  ·obtain ⟨vs,l',e1,rfl,rfl,hv,hP6⟩:=h
   rw [List.length_nil] at e1
   have t8:=Tm vs.length (by omega)
   have:=q (.row vs) l' (by simp only [Kd.Val]; exact ⟨by omega,hv⟩) (hP6.mono (by omega))
   simp only [Kd.vx] at this
   exact this
  ·obtain ⟨vs,l',e1,rfl,rfl,hv,hP6⟩:=h
   rw [List.length_cons] at e1
   have t8:=Tm vs.length (by omega)
   have ts:=Ts vs.length
   refine ⟨rfl,_,k,rfl,hP6,f1,by omega,by omega,by omega,fun vd l6 hv6 hP7=>hk _ _ ⟨vs ++ [vd],l6,by rw [List.length_append,List.length_singleton]; omega,by rw [List.map_append]; rfl,rfl,fun v hm => ?_,hP7.mono (by rw [List.length_append]; show _≤B + ((vs.length + 1:Nat):Int) * tv n; omega)⟩⟩
   rcases List.mem_append.mp hm with hm | hm
   ·exact hv v hm
   ·rw [List.mem_singleton.mp hm]; exact hv6
 | rcd fs =>
  obtain ⟨f1,m1,m2,hnd⟩:=hfit
  have hdp':deepF fs + 1≤n + 1:=hdp
  show forX _ _ _ (xF fs) _
  rw [dl_]
  refine bo_ _ (fun rest ρ => ∃ (done:List (Str×Kd)) (vs:List Vd) (l':List Dx) (y4 y5:Sl),fs=done ++ rest∧ρ=[.bw l',.v (.tr (Kd.rcd fs).x),.un,.v (.od (vxF done vs)),y4,y5,.un]∧valF done vs∧PoolX (B + (done.length:Int) * tv n) l') (fun ρ h => ?_) (fun f rest ρ Kn h hk => ?_) ⟨[],[],l,.un,.un,rfl,by simp only [vxF]; rfl,by simp only [valF],hP.mono (by simp)⟩
  ·obtain ⟨done,vs,l',y4,y5,e1,rfl,hv,hP6⟩:=h
   rw [List.append_nil] at e1
   subst e1
   have t8:=Tm fs.length (by omega)
   have:=q (.rcd vs) l' (by simp only [Kd.Val]; exact hv) (hP6.mono (by omega))
   simp only [Kd.vx] at this
   exact this
  ·obtain ⟨done,vs,l',y4,y5,e1,rfl,hv,hP6⟩:=h
   have hm:f∈fs:=by rw [e1]; exact List.mem_append_right _ List.mem_cons_self
   have hlen:done.length + (rest.length + 1)=fs.length:=by rw [e1,List.length_append,List.length_cons]
   obtain ⟨ff,fd'⟩:=fitFx f1 hm
   have t8:=Tm done.length (by omega)
   have ts:=Ts done.length
   have hvl:=cy_ hv
   have hnew:(Sum.inr f.1:Key)∉(vxF done vs).map (·.1):=by
    rw [ef_ hvl]
    intro z
    obtain ⟨g,hg,e⟩:=List.mem_map.mp z
    rw [e1,List.map_append,List.nodup_append] at hnd
    exact hnd.2.2 g.1 (List.mem_map_of_mem (f:=fun x:Str×Kd=>x.1) hg) f.1 (List.mem_map_of_mem (f:=fun x:Str×Kd=>x.1) List.mem_cons_self) (Sum.inr.inj e)
   have hvx:(vxF done vs).length=done.length:=by have:=congrArg List.length (ef_ hvl); simpa using this
   refine ⟨rfl,_,f.2,rfl,hP6,ff,by omega,by omega,by omega,fun vd l6 hv6 hP7=>⟨⟨_,rfl⟩,?_⟩⟩
   refine ⟨show (vxF done vs).length < 1000000 by omega,hk _ ⟨done ++ [f],vs ++ [vd],l6,.v (.tr (.str f.1)),.v (.tr f.2.x),by rw [e1,List.append_assoc]; rfl,?_,valF_snoc hv hv6,hP7.mono (by rw [List.length_append]; show _≤B + ((done.length + 1:Nat):Int) * tv n; omega)⟩⟩
   rw [vxF_snoc hvl,← putX_new hnew]
   rfl
 | cho ks =>
  obtain ⟨f1,m1,m2⟩:=hfit
  have hdp':deepK ks + 1≤n + 1:=hdp
  have hlk:(xK ks).length=ks.length:=by rw [cu_,List.length_map]
  refine ⟨rfl,B,((xK ks).length:Int),rfl,hP,by omega,by omega,by omega,fun r l1 r0 r1 hP1 => ?_⟩
  have hr':r.toNat < ks.length:=by omega
  have hk':=List.getElem?_eq_getElem hr'
  generalize ks[r.toNat]=kc at hk'
  obtain ⟨kf,kdp⟩:=fitKx f1 (List.mem_of_getElem? hk')
  have hxk:(xK ks)[r.toNat]? = some kc.x:=by rw [cu_,List.getElem?_map,hk']; rfl
  refine ⟨rfl,?_⟩
  have hat:=fl_ hxk
  rw [Int.toNat_of_nonneg r0] at hat
  simp only [xSeq,xNext,xIf,xB,xOp,xVar,xMove,xC,xSet,xRet,xCall,xCallB,xCons,xNil,xTup,xLst,xFor,xComp,xiL,xiR1,xDPut,ixX,addX,eqX,eqS,lenX,gxN,gxT,gxs,retB,lentEnd,startX,startB,dy_,dx_,len3,at10,at20,at21,at30,at31,at32,at40,at41,at42,at43,ix30,ix31,ix32,List.getElem?_cons_zero,List.getElem?_cons_succ,List.set_cons_zero,List.set_cons_succ,Sv.d,List.map_cons,List.map_nil,Option.bind_some,Option.isSome_some,List.cons_append,List.nil_append,List.length_cons,List.length_nil,List.replicate_succ,List.replicate_zero,Nat.reduceAdd,Nat.reduceSub,Nat.reduceLeDiff,true_and,decide_eq_true_eq,cut,caps,back,xYes,Option.getD_some,if_true,↓reduceIte,List.drop_succ_cons,List.drop_zero,Kd.x,hat]
  refine ⟨_,kc,rfl,hP1,kf,by omega,by omega,by omega,fun vd l6 hv6 hP7 => ?_⟩
  have:=q (.cho r.toNat vd) l6 (by simp only [Kd.Val]; exact valK_mk hk' hv6) (hP7.mono (by omega))
  simp only [Kd.vx] at this
  rw [hr_ hk',Int.toNat_of_nonneg r0] at this
  exact this
end
def gSA (n:Nat):GC:=fun ds Q => ∃ d:Dx,ds=[d,d]∧d.Sz∧d.deep≤n∧Q (.tr (.bl true))
theorem hj_:∀ l:List Dx,zipX l l=l.map fun a=>.tup [a,a]
 | []=>rfl
 | a :: l=>by show _ :: zipX l l=_; rw [hj_ l]; rfl
section
variable {P:Program} {w:World} {K:FG_} {mg:MG_} {base:Heap} {f:Addr} {fd:FuncData} {n j:Nat}
theorem okx_sa (F:Fun K "_law_same" "_law_same" cv_ f fd) (CSA:Cal P w K mg base j "_law_same" ["one", "other"] (spX (gSA n))) (m_isinstance:mg "isinstance" = none) (m_list:mg "list" = none) (m_tuple:mg "tuple" = none) (m_dict:mg "dict" = none) (m_bool:mg "bool" = none) (m_str:mg "str" = none) (m_len:mg "len" = none) (m_zip:mg "zip" = none) :
  FnOk P w K mg base CX0 (j + 1) f fd ["one", "other"] (spX (gSA (n + 1))):=by
 refine fv_ F sc_law_same (fun ds Q h=>by obtain ⟨d,rfl,_⟩:=h; rfl) (by decide) fun cdv A outer s H E hr => ?_
 have hu1:=en_ hr
 have hu0:=Nat.lt_of_succ_lt hu1
 refine ⟨_,(ae_ (br_ (XW.pt (xw_or (bc_ (op_neA K hu0) ox_ne (bm_ .bool m_isinstance (ab_ (pv 0)) (bp_ (v:=.ty "bool") rfl m_bool bt_bool rfl)) (bm_ .bool m_isinstance (ab_ (pv 1)) (bp_ (v:=.ty "bool") rfl m_bool bt_bool rfl)) (nomark _)) (xw_or1 (bc_ (op_neA K hu0) ox_ne (bm_ .tuple m_isinstance (ab_ (pv 0)) (bp_ (v:=.ty "tuple") rfl m_tuple eo_ rfl)) (bm_ .tuple m_isinstance (ab_ (pv 1)) (bp_ (v:=.ty "tuple") rfl m_tuple eo_ rfl)) (nomark _))))) (af_ (ap_ xe_bl)) au_)
  (ae_ (br_ (XW.pt (xw_and (dk_ (xe_isinst2 .list .tuple m_isinstance (ab_ (pv 0)) (pe_tup (as_ (bp_ (v:=.ty "list") rfl m_list fj_ rfl) (as_ (bp_ (v:=.ty "tuple") rfl m_tuple eo_ rfl) cb_))))) (xw_and1 (dk_ (xe_isinst2 .list .tuple m_isinstance (ab_ (pv 1)) (pe_tup (as_ (bp_ (v:=.ty "list") rfl m_list fj_ rfl) (as_ (bp_ (v:=.ty "tuple") rfl m_tuple eo_ rfl) cb_)))))))) (af_ (ap_ (xe_and (ho_ (bn_ K hu0) cr_ (bd_ (bw_ K) eu_ (by rfl) m_len PySem.boot_len (aa_ (ab_ (pv 0)) ad_)) (bd_ (bw_ K) eu_ (by rfl) m_len PySem.boot_len (aa_ (ab_ (pv 1)) ad_)) (nomark _)) (xe_one (ho_ (bn_ K hu0) cr_ (ci_ (dsc:=defScope cv_) (N:=["one", "other"]) (tgs:=["a", "b"]) (outs:=[]) (N':=["a", "b"]) (by refine ⟨rfl,?_,?_,?_,rfl,?_,?_,?_⟩ <;> decide +kernel) (xi_zipV (i:=0) (j:=1) m_zip (pv 0) (pv 1)) (fun _ _ _ _ _=>(hx_ K (n:=2) rfl rfl (ar_ (aj_ (i:=0) (show (["a", "b"]:List Str).Nodup by decide +kernel) rfl (Or.inl rfl) (.inr rfl)) (ar_ (aj_ (i:=1) (show (["a", "b"]:List Str).Nodup by decide +kernel) rfl (Or.inl rfl) (.inr rfl)) cj_)))) (et_ (n:=2) (is:=[0,1]) rfl (by decide)) (hs_ (bg_ (by decide) (bg_ (by decide) ds_ bf_) (cn_ bf_))) (fun _ _ _ _ _=>(xcs_one (go_ (dk_ (ai_ CSA (hr.mono (by omega)) (aa_ (ab_ (pv 0)) (aa_ (ab_ (pv 1)) ad_))))))) (fun _ _ _ _ _=>ac_)) (bq_ ad_) (nomark _)))))) au_)
  (ae_ (br_ (XW.pt (xw_and (dk_ (bm_ .dict m_isinstance (ab_ (pv 0)) (bp_ (v:=.ty "dict") rfl m_dict bt_dict rfl))) (xw_and1 (dk_ (bm_ .dict m_isinstance (ab_ (pv 1)) (bp_ (v:=.ty "dict") rfl m_dict bt_dict rfl)))))) (ae_ (br_ (XW.pt (xw_or (bc_ (op_neA K hu0) ox_ne (bd_ (bw_ K) eu_ (by rfl) m_len PySem.boot_len (aa_ (ab_ (pv 0)) ad_)) (bd_ (bw_ K) eu_ (by rfl) m_len PySem.boot_len (aa_ (ab_ (pv 1)) ad_)) (nomark _)) (xw_or1 (bc_ (op_neA K hu0) ox_ne (xe_compK (dsc:=defScope cv_) (N:=["one", "other"]) (tgs:=["key"]) (outs:=[1]) (N':=["key", "other"]) (by refine ⟨rfl,?_,?_,?_,rfl,?_,?_,?_⟩ <;> decide +kernel) (pv 0) (fun _ _ _ _ _=>(aj_ (i:=0) (show (["key", "other"]:List Str).Nodup by decide +kernel) rfl (Or.inl rfl) (.inr rfl))) (bb_ (n:=1) (i:=0) (by decide)) (bl_ (by decide)) (fun _ _ _ _ _=>(xcs_one (xt_dnotin hu1 (ab_ (pv 0)) (ab_ (pv 1)) (by with_unfolding_all rfl)))) (fun _ _ _ _ _=>(ab_ (pv 0)))) (bq_ ad_) (nomark _))))) (af_ (ap_ xe_bl)) au_)
  (af_ (ap_ (ho_ (bn_ K hu0) cr_ (xe_compK (dsc:=defScope cv_) (N:=["one", "other"]) (tgs:=["key"]) (outs:=[0,1]) (N':=["key", "one", "other"]) (by refine ⟨rfl,?_,?_,?_,rfl,?_,?_,?_⟩ <;> decide +kernel) (pv 0) (fun _ _ _ _ _=>(aj_ (i:=0) (show (["key", "one", "other"]:List Str).Nodup by decide +kernel) rfl (Or.inl rfl) (.inr rfl))) (bb_ (n:=1) (i:=0) (by decide)) (bl_ (by decide)) (fun _ _ _ _ _=>(xcs_one (go_ (dk_ (ai_ CSA (hr.mono (by omega)) (aa_ (hn_ hu1 (ab_ (pv 1)) (ab_ (pv 0)) (fun _ _=>rfl)) (aa_ (hn_ hu1 (ab_ (pv 2)) (ab_ (pv 0)) (fun _ _=>rfl)) ad_))))))) (fun _ _ _ _ _=>(ab_ (pv 0)))) (bq_ ad_) (nomark _))))) au_)
  (af_ (ap_ (xe_and (ho_ (bn_ K hu0) cr_ (bm_ .str m_isinstance (ab_ (pv 0)) (bp_ (v:=.ty "str") rfl m_str bt_str rfl)) (bm_ .str m_isinstance (ab_ (pv 1)) (bp_ (v:=.ty "str") rfl m_str bt_str rfl)) (nomark _)) (xe_one (ho_ (bn_ K hu0) cr_ (ab_ (pv 0)) (ab_ (pv 1)) (nomark _))))))))),fun ds Q h => ?_⟩
 clear hu0 hu1
 obtain ⟨d,rfl,hs,hd,q⟩:=h
 cases d with
 | scr _ _=>simp only [Dx.Sz] at hs
 | ins _ _=>simp only [Dx.Sz] at hs
 | exc _=>simp only [Dx.Sz] at hs
 | non=>exact q
 | bl b=>show Q (.tr (.bl (decide (b=b)))); rw [decide_eq_true rfl]; exact q
 | int i=>show Q (.tr (.bl (decide (i=i)))); rw [decide_eq_true rfl]; exact q
 | str x=>show Q (.tr (.bl (decide (x=x)))); rw [decide_eq_true rfl]; exact q
 | lst l =>
  simp only [Dx.Sz] at hs
  simp only [Dx.deep] at hd
  show if decide ((l.length:Int)=(l.length:Int))=true then _ else _
  rw [if_pos (decide_eq_true rfl)]
  show (zipX l l).length≤1000000∧compX _ _ _ _ _ (zipX l l) _ _
  rw [hj_]
  refine ⟨by rw [List.length_map]; omega,cs_ _ (fun rest acc cs=>acc=[]∧cs=[]∧∀ a∈rest,a∈l) (fun acc cs h => ?_) (fun a rest acc cs Pn h hk => ?_) ⟨rfl,rfl,fun a h=>h⟩⟩
  ·obtain ⟨rfl,rfl,_⟩:=h
   exact ⟨by decide,q⟩
  ·obtain ⟨rfl,rfl,h⟩:=h
   have hm:=h a List.mem_cons_self
   exact ⟨a,rfl,szX_mem hs.2 hm,by have:=fx_ hm; omega,hk _ _ ⟨rfl,rfl,fun b hb=>h b (List.mem_cons_of_mem _ hb)⟩⟩
 | tup l =>
  simp only [Dx.Sz] at hs
  simp only [Dx.deep] at hd
  show if decide ((l.length:Int)=(l.length:Int))=true then _ else _
  rw [if_pos (decide_eq_true rfl)]
  show (zipX l l).length≤1000000∧compX _ _ _ _ _ (zipX l l) _ _
  rw [hj_]
  refine ⟨by rw [List.length_map]; omega,cs_ _ (fun rest acc cs=>acc=[]∧cs=[]∧∀ a∈rest,a∈l) (fun acc cs h => ?_) (fun a rest acc cs Pn h hk => ?_) ⟨rfl,rfl,fun a h=>h⟩⟩
  ·obtain ⟨rfl,rfl,_⟩:=h
   exact ⟨by decide,q⟩
  ·obtain ⟨rfl,rfl,h⟩:=h
   have hm:=h a List.mem_cons_self
   exact ⟨a,rfl,szX_mem hs.2 hm,by have:=fx_ hm; omega,hk _ _ ⟨rfl,rfl,fun b hb=>h b (List.mem_cons_of_mem _ hb)⟩⟩
 | dic l =>
  simp only [Dx.Sz] at hs
  simp only [Dx.deep] at hd
  show if (!decide ((l.length:Int)=(l.length:Int)))=true then _ else _
  rw [decide_eq_true rfl]
  show l.length≤1000000∧compX _ _ _ _ _ (keysX l) _ _
  refine ⟨by omega,cs_ (fun p:Key×Dx=>keyX p.1) (fun rest acc cs=>acc=[]∧cs=[.v (.tr (.dic l))]∧∀ a∈rest,a∈l) (fun acc cs h => ?_) (fun a rest acc cs Pn h hk => ?_) ⟨rfl,rfl,fun a h=>h⟩⟩
  ·obtain ⟨rfl,rfl,_⟩:=h
   refine ⟨by decide,?_⟩
   show l.length≤1000000∧compX _ _ _ _ _ (keysX l) _ _
   refine ⟨by omega,cs_ (fun p:Key×Dx=>keyX p.1) (fun rest acc cs=>acc=[]∧cs=[.v (.tr (.dic l)),.v (.tr (.dic l))]∧∀ a∈rest,a∈l) (fun acc cs h => ?_) (fun a rest acc cs Pn h hk => ?_) ⟨rfl,rfl,fun a h=>h⟩⟩
   ·obtain ⟨rfl,rfl,_⟩:=h
    exact ⟨by decide,q⟩
   ·obtain ⟨rfl,rfl,h⟩:=h
    have hm:=h a List.mem_cons_self
    have hget:=gk_ hs.2.1 hm
    have:=hk [] [.v (.tr (.dic l)),.v (.tr (.dic l))] ⟨rfl,rfl,fun b hb=>h b (List.mem_cons_of_mem _ hb)⟩
    simp only [stepX,xSeq,xNext,xIf,xB,xOp,xVar,xC,xRet,xCall,xCons,xNil,xLst,xComp,xAnd,xOr,xNot,xAndV,xIs,dgX,eqX,neX,eqS,lenX,gxN,gxT,gxs,retB,lentEnd,startX,startB,dy_,dx_,len3,at10,at20,at21,at30,at31,at32,at40,at41,at42,at43,ix30,ix31,ix32,List.getElem?_cons_zero,List.getElem?_cons_succ,List.set_cons_zero,List.set_cons_succ,Sv.d,List.map_cons,List.map_nil,Option.bind_some,Option.isSome_some,List.cons_append,List.nil_append,List.length_cons,List.length_nil,List.replicate_succ,List.replicate_zero,Nat.reduceAdd,Nat.reduceSub,Nat.reduceLeDiff,true_and,decide_eq_true_eq,cut,caps,back,xYes,Option.getD_some,if_true,↓reduceIte,List.drop_succ_cons,List.drop_zero,keyX_key,hget]
    exact ⟨a.2,rfl,szXk_mem hs.2.2 hm,by have:=gm_ hm; omega,this⟩
  ·obtain ⟨rfl,rfl,h⟩:=h
   have hm:=h a List.mem_cons_self
   have hget:=gk_ hs.2.1 hm
   have:=hk [] [.v (.tr (.dic l))] ⟨rfl,rfl,fun b hb=>h b (List.mem_cons_of_mem _ hb)⟩
   simp only [stepX,xSeq,xNext,xIf,xB,xOp,xVar,xC,xRet,xCall,xCons,xNil,xLst,xComp,xAnd,xOr,xNot,xAndV,xIs,dgX,eqX,neX,eqS,lenX,gxN,gxT,gxs,retB,lentEnd,startX,startB,dy_,dx_,len3,at10,at20,at21,at30,at31,at32,at40,at41,at42,at43,ix30,ix31,ix32,List.getElem?_cons_zero,List.getElem?_cons_succ,List.set_cons_zero,List.set_cons_succ,Sv.d,List.map_cons,List.map_nil,Option.bind_some,Option.isSome_some,List.cons_append,List.nil_append,List.length_cons,List.length_nil,List.replicate_succ,List.replicate_zero,Nat.reduceAdd,Nat.reduceSub,Nat.reduceLeDiff,true_and,decide_eq_true_eq,cut,caps,back,xYes,Option.getD_some,if_true,↓reduceIte,List.drop_succ_cons,List.drop_zero,dinX,keyX_key,hget]
   exact this
end
theorem ie_ {l s:List Int} {p k:Nat} (h1:l.length≤p) (h2:p + s.length≤l.length + k):lay (l ++ List.replicate k 0) p s=l ++ List.replicate (p - l.length) 0 ++ s ++ List.replicate (l.length + k - (p + s.length)) 0:=by
 refine List.ext_getElem? fun i => ?_
 rw [gs_]
 by_cases c1:i < l.length
 ·rw [List.getElem?_append_left c1,List.append_assoc,List.append_assoc,List.getElem?_append_left c1,List.getElem?_eq_getElem c1]
  show some (if _ then _ else _)=_
  rw [if_neg (by omega)]
 ·by_cases c2:i < p
  ·rw [List.getElem?_append_right (by omega),List.append_assoc,List.append_assoc,List.getElem?_append_right (by omega),List.getElem?_append_left (by rw [List.length_replicate]; omega),List.getElem?_replicate,List.getElem?_replicate,if_pos (by omega),if_pos (by omega)]
   show some (if _ then _ else _)=_
   rw [if_neg (by omega)]
  ·by_cases c3:i < p + s.length
   ·rw [List.getElem?_append_right (by omega),List.getElem?_replicate,if_pos (by omega)]
    show some (if _ then _ else _)=_
    rw [if_pos (by omega),List.append_assoc (l ++ _),List.getElem?_append_right (by rw [List.length_append,List.length_replicate]; omega),List.length_append,List.length_replicate,show i - (l.length + (p - l.length))=i - p by omega,List.getElem?_append_left (by omega),List.getD_eq_getElem?_getD,List.getElem?_eq_getElem (by omega)]
    rfl
   ·rw [List.getElem?_append_right (by omega),List.getElem?_append_right (by simp only [List.length_append,List.length_replicate]; omega),List.getElem?_replicate,List.getElem?_replicate]
    simp only [List.length_append,List.length_replicate]
    by_cases c4:i < l.length + k
    ·rw [if_pos (by omega),if_pos (by omega)]
     show some (if _ then _ else _)=_
     rw [if_neg (by omega)]
    ·rw [if_neg (by omega),if_neg (by omega)]
     rfl
def putB (l:List Int) (kv:Kd×Vd):List Int:=l ++ List.replicate ((up l.length kv.1.rm.2).toNat - l.length) 0 ++ kv.1.byt kv.2
def appB:List Int→List (Kd×Vd)→List Int
 | l,[]=>l
 | l,kv :: r=>appB (putB l kv) r
def GoodB (kv:Kd×Vd):Prop:=kv.1.Val kv.2∧0≤kv.1.rm.1∧1≤kv.1.rm.2
theorem putB_len {l:List Int} {kv:Kd×Vd} (h:GoodB kv):((putB l kv).length:Int)=up l.length kv.1.rm.2 + kv.1.rm.1:=by
 obtain ⟨h1,h2,h3⟩:=h
 obtain ⟨u1,u2⟩:=an_ (n:=(l.length:Int)) (m:=kv.1.rm.2) (by omega)
 unfold putB
 rw [List.length_append,List.length_append,List.length_replicate,Kd.byt_len h1]
 omega
theorem bytF_app:∀ {fs:List (Str×Kd)} {vs:List Vd} {l:List Int} {k:Nat},valF fs vs→(∀ kv∈(fs.map (·.2)).zip vs,GoodB kv)→lastEnd l.length (rmF fs)≤l.length + k →
  bytF (plcs l.length (rmF fs)) fs vs (l ++ List.replicate k 0)=appB l ((fs.map (·.2)).zip vs) ++ List.replicate (l.length + k - (appB l ((fs.map (·.2)).zip vs)).length) 0
 | [],[],l,k,_,_,_=>by simp only [rmF,plcs,bytF,List.map_nil,List.zip_nil_left,appB]; rw [Nat.add_sub_cancel_left]
 | [],_ :: _,_,_,h,_,_=>by simp [valF] at h
 | _ :: _,[],_,_,h,_,_=>by simp [valF] at h
 | f :: r,v :: vs,l,k,hv,hg,he=>by
  simp only [valF] at hv
  have g:=hg (f.2,v) (by simp only [List.map_cons,List.zip_cons_cons]; exact List.mem_cons_self)
  have pl:((putB l (f.2,v)).length:Int)=up l.length f.2.rm.2 + f.2.rm.1:=putB_len g
  obtain ⟨g1,g2,g3⟩ : f.2.Val v∧0≤f.2.rm.1∧1≤f.2.rm.2:=g
  obtain ⟨u1,u2⟩:=an_ (n:=(l.length:Int)) (m:=f.2.rm.2) (by omega)
  have bl:(f.2.byt v).length=f.2.rm.1.toNat:=Kd.byt_len g1
  have he':lastEnd (up l.length f.2.rm.2 + f.2.rm.1) (rmF r)≤l.length + k:=he
  have ge:=dj_ (rs:=rmF r) (e:=up l.length f.2.rm.2 + f.2.rm.1) (rms_of hv.2 fun kv h=>hg kv (by simp only [List.map_cons,List.zip_cons_cons]; exact List.mem_cons_of_mem _ h))
  show bytF (plcs (up l.length f.2.rm.2 + f.2.rm.1) (rmF r)) r vs (lay (l ++ List.replicate k 0) (up l.length f.2.rm.2).toNat (f.2.byt v))=_
  have pd:(putB l (f.2,v)).length=(up l.length f.2.rm.2).toNat + (f.2.byt v).length:=by rw [bl]; omega
  rw [ie_ (by omega) (by rw [bl]; omega),← pl]
  have:=bytF_app (fs:=r) (vs:=vs) (l:=putB l (f.2,v)) (k:=l.length + k - ((up l.length f.2.rm.2).toNat + (f.2.byt v).length)) hv.2 (fun kv h=>hg kv (by simp only [List.map_cons,List.zip_cons_cons]; exact List.mem_cons_of_mem _ h)) (by rw [pl]; show lastEnd (up l.length f.2.rm.2 + f.2.rm.1) _≤_; rw [bl]; omega)
  show bytF _ r vs (putB l (f.2,v) ++ _)=_
  have ea:appB l (((f :: r).map (·.2)).zip (v :: vs))=appB (putB l (f.2,v)) ((r.map (·.2)).zip vs):=rfl
  rw [this,ea]
  congr 2
  rw [← pd,Nat.add_sub_cancel' (by omega)]
where rms_of:∀ {fs:List (Str×Kd)} {vs:List Vd},valF fs vs→(∀ kv∈(fs.map (·.2)).zip vs,GoodB kv)→Rms (rmF fs)
 | [],_,_,_,r,hr=>by simp [rmF] at hr
 | _ :: _,[],h,_,_,_=>by simp [valF] at h
 | f :: r,v :: vs,hv,hg,x,hx=>by
  simp only [valF] at hv
  simp only [rmF] at hx
  rcases List.mem_cons.mp hx with rfl | hx
  ·have g:=hg (f.2,v) (by simp only [List.map_cons,List.zip_cons_cons]; exact List.mem_cons_self)
   exact ⟨g.2.1,Int.lt_of_lt_of_le (by decide) (show (1:Int)≤f.2.rm.2 from g.2.2)⟩
  ·exact rms_of hv.2 (fun kv h=>hg kv (by simp only [List.map_cons,List.zip_cons_cons]; exact List.mem_cons_of_mem _ h)) x hx
theorem layRow_app {k:Kd} {st:Nat} (h0:0≤k.rm.1) (h1:1≤k.rm.2) (hst:(st:Int)=up k.rm.1 k.rm.2):∀ {vs:List Vd} {j:Nat} {l:List Int} {z:Nat},(∀ v∈vs,k.Val v)→up l.length k.rm.2=(j:Int) * st→l.length + z=(j + vs.length) * st →
  layRow k.byt st j vs (l ++ List.replicate z 0)=appB l (vs.map fun v=>(k,v)) ++ List.replicate (l.length + z - (appB l (vs.map fun v=>(k,v))).length) 0
 | [],j,l,z,_,_,_=>by simp only [layRow,List.map_nil,appB]; rw [Nat.add_sub_cancel_left]
 | v :: vs,j,l,z,hv,hj,he=>by
  have g1:=hv v List.mem_cons_self
  have pl:((putB l (k,v)).length:Int)=up l.length k.rm.2 + k.rm.1:=putB_len ⟨g1,h0,h1⟩
  have bl:(k.byt v).length=k.rm.1.toNat:=Kd.byt_len g1
  have hrz:((k.rm.1.toNat:Nat):Int)=k.rm.1:=Int.toNat_of_nonneg h0
  generalize k.rm.1.toNat=rN at bl hrz
  obtain ⟨u1,u2⟩:=an_ (n:=(l.length:Int)) (m:=k.rm.2) (by omega)
  obtain ⟨w1,w2⟩:=an_ (n:=k.rm.1) (m:=k.rm.2) (by omega)
  have hjn:((j * st:Nat):Int)=(j:Int) * st:=by push_cast; rfl
  have he2:(j + (vs.length + 1)) * st=j * st + vs.length * st + st:=by rw [Nat.add_mul,Nat.add_mul,Nat.one_mul,Nat.add_assoc]
  rw [List.length_cons,he2] at he
  generalize hV:vs.length * st=V at he
  show layRow k.byt st (j + 1) vs (lay (l ++ List.replicate z 0) (j * st) (k.byt v))=_
  rw [ie_ (by omega) (by rw [bl]; omega)]
  have pd:(putB l (k,v)).length=j * st + (k.byt v).length:=by rw [bl]; omega
  have hup:(up l.length k.rm.2).toNat=j * st:=by rw [hj,← hjn]; exact Int.toNat_natCast _
  have eB:l ++ List.replicate (j * st - l.length) 0 ++ k.byt v=putB l (k,v):=by
   show _=l ++ List.replicate ((up l.length k.rm.2).toNat - l.length) 0 ++ k.byt v
   rw [hup]
  clear hup
  have hnx:up (putB l (k,v)).length k.rm.2=((j + 1:Nat):Int) * st:=by
   rw [pl,hj,up_add (by omega) (by rw [hst,Int.mul_emod,up_mod,Int.mul_zero,Int.zero_emod]),← hst]
   push_cast
   rw [Int.add_mul,Int.one_mul]
  have:=layRow_app h0 h1 hst (vs:=vs) (j:=j + 1) (l:=putB l (k,v)) (z:=l.length + z - (j * st + (k.byt v).length)) (fun u hu=>hv u (List.mem_cons_of_mem _ hu)) hnx (by
   have:(j + 1 + vs.length) * st=j * st + V + st:=by rw [Nat.add_mul,Nat.add_mul,Nat.one_mul,hV]; omega
   rw [this,pd,bl]
   omega)
  rw [eB,this]
  have ea:appB l ((v :: vs).map fun v=>(k,v))=appB (putB l (k,v)) (vs.map fun v=>(k,v)):=rfl
  rw [ea]
  congr 2
  rw [← pd,Nat.add_sub_cancel' (by omega)]
theorem appB_snoc:∀ (l:List Int) (ps:List (Kd×Vd)) (kv:Kd×Vd),appB l (ps ++ [kv])=putB (appB l ps) kv
 | _,[],_=>rfl
 | l,p :: ps,kv=>appB_snoc (putB l p) ps kv
theorem appB_ge:∀ (ps:List (Kd×Vd)) (l:List Int),l.length≤(appB l ps).length
 | [],_=>Nat.le_refl _
 | p :: ps,l=>by
  refine Nat.le_trans ?_ (appB_ge ps (putB l p))
  unfold putB
  rw [List.append_assoc,List.length_append]
  omega
theorem appB_app:∀ (ps qs:List (Kd×Vd)) (l:List Int),appB l (ps ++ qs)=appB (appB l ps) qs
 | [],_,_=>rfl
 | p :: ps,qs,l=>appB_app ps qs (putB l p)
mutual
theorem Kd.Fit.pw:∀ (k:Kd),k.Fit→Pw k.rm.2
 | .num w m,h=>by obtain ⟨_,_,h⟩:=h; exact h
 | .row k n,h=>Kd.Fit.pw k h.1
 | .rcd fs,h=>Pw.maxL fun a ha=>by
  obtain ⟨r,hr,rfl⟩:=List.mem_map.mp ha
  exact fitF_pw fs h.1 r hr
 | .cho ks,h=>Pw.maxL fun a ha=>by
  obtain ⟨r,hr,rfl⟩:=List.mem_map.mp ha
  exact fitK_pw ks h.1 r hr
theorem fitF_pw:∀ (fs:List (Str×Kd)),fitF fs→∀ r∈rmF fs,Pw r.2
 | [],_,r,hr=>by simp [rmF] at hr
 | f :: fs,h,r,hr=>by
  simp only [rmF] at hr
  rcases List.mem_cons.mp hr with rfl | hr
  ·exact Kd.Fit.pw f.2 h.1.2
  ·exact fitF_pw fs h.2 r hr
theorem fitK_pw:∀ (ks:List Kd),fitK ks→∀ r∈rmK ks,Pw r.2
 | [],_,r,hr=>by simp [rmK] at hr
 | f :: fs,h,r,hr=>by
  simp only [rmK] at hr
  rcases List.mem_cons.mp hr with rfl | hr
  ·exact Kd.Fit.pw f h.1
  ·exact fitK_pw fs h.2 r hr
end
theorem good_of {k:Kd} {v:Vd} (h:k.Fit) (hv:k.Val v):GoodB (k,v):=by
 obtain ⟨a,b,c,d⟩:=k.bd h.ok
 exact ⟨hv,a,c⟩
theorem valF_zip:∀ {fs:List (Str×Kd)} {vs:List Vd},fitF fs→valF fs vs→∀ kv∈(fs.map (·.2)).zip vs,kv.1.Fit∧kv.1.Val kv.2∧kv.1.deep≤deepF fs
 | [],_,_,_,kv,h=>by simp at h
 | _ :: _,[],_,h,_,_=>by simp [valF] at h
 | f :: r,v :: vs,hf,hv,kv,h=>by
  simp only [valF] at hv
  simp only [List.map_cons,List.zip_cons_cons] at h
  rcases List.mem_cons.mp h with rfl | h
  ·exact ⟨hf.1.2,hv.1,Nat.le_max_left _ _⟩
  ·obtain ⟨a,b,c⟩:=valF_zip hf.2 hv.2 kv h
   exact ⟨a,b,Nat.le_trans c (Nat.le_max_right _ _)⟩
def LaidB (kd:Kd) (vd:Vd) (n:Nat) (st:List Int) (ps:List (Kd×Vd)):Prop:=kd.byt vd=appB st ps ++ List.replicate (kd.rm.1.toNat - (appB st ps).length) 0∧∀ kv∈ps,kv.1.Fit∧kv.1.Val kv.2∧kv.1.deep≤n
theorem laid_row {k:Kd} {m:Int} {vs:List Vd} {n:Nat} (hf:(Kd.row k m).Fit) (hv:(Kd.row k m).Val (.row vs)) (hd:k.deep≤n):LaidB (.row k m) (.row vs) n [] (vs.map fun v=>(k,v)):=by
 obtain ⟨f1,f2,f3⟩:=hf
 simp only [Kd.Val] at hv
 obtain ⟨a,b,c,d⟩:=k.bd f1.ok
 obtain ⟨u1,u2⟩:=an_ (n:=k.rm.1) (m:=k.rm.2) (by omega)
 refine ⟨?_,fun kv h=>by obtain ⟨v,hv',rfl⟩:=List.mem_map.mp h; exact ⟨f1,hv.2 v hv',hd⟩⟩
 have e:(m * up k.rm.1 k.rm.2).toNat=vs.length * (up k.rm.1 k.rm.2).toNat:=by
  have:m * up k.rm.1 k.rm.2=((vs.length * (up k.rm.1 k.rm.2).toNat:Nat):Int):=by rw [← hv.1]; push_cast; rw [Int.toNat_of_nonneg (by omega)]
  rw [this,Int.toNat_natCast]
 have h:=layRow_app (k:=k) (st:=(up k.rm.1 k.rm.2).toNat) a c (by omega) (vs:=vs) (j:=0) (l:=[]) (z:=(m * up k.rm.1 k.rm.2).toNat) hv.2 (by show up 0 _=_; rw [up_zero (by omega)]; simp) (by rw [e]; simp)
 simp only [Kd.byt]
 rw [List.nil_append] at h
 rw [h]
 simp only [List.length_nil,Nat.zero_add]
 rfl
theorem laid_rcd {fs:List (Str×Kd)} {vs:List Vd} {n:Nat} (hf:(Kd.rcd fs).Fit) (hv:(Kd.rcd fs).Val (.rcd vs)) (hd:deepF fs≤n):LaidB (.rcd fs) (.rcd vs) n [] ((fs.map (·.2)).zip vs):=by
 simp only [Kd.Val] at hv
 have z:=valF_zip hf.1 hv
 refine ⟨?_,fun kv h=>⟨(z kv h).1,(z kv h).2.1,Nat.le_trans (z kv h).2.2 hd⟩⟩
 have pw:=Pw.maxL (l:=(rmF fs).map (·.2)) fun a ha=>by
  obtain ⟨r,hr,rfl⟩:=List.mem_map.mp ha
  exact fitF_pw fs hf.1 r hr
 obtain ⟨u1,u2⟩:=an_ (n:=lastEnd 0 (rmF fs)) (m:=maxL 1 ((rmF fs).map (·.2))) (by have:=pw.pos; omega)
 have hR:Rms (rmF fs):=bytF_app.rms_of hv fun kv h=>good_of (z kv h).1 (z kv h).2.1
 have ge:=dj_ (e:=0) hR
 have h:=bytF_app (fs:=fs) (vs:=vs) (l:=[]) (k:=(rcdRm (rmF fs)).1.toNat) hv (fun kv h=>good_of (z kv h).1 (z kv h).2.1) (by
  show lastEnd 0 (rmF fs)≤0 + (((up (lastEnd 0 (rmF fs)) (maxL 1 ((rmF fs).map (·.2)))).toNat:Nat):Int)
  omega)
 simp only [Kd.byt]
 rw [List.nil_append] at h
 have h':bytF (plcs 0 (rmF fs)) fs vs (List.replicate (rcdRm (rmF fs)).1.toNat 0)=_:=h
 rw [h']
 simp only [List.length_nil,Nat.zero_add]
 rfl
theorem hi_ {v:Vd}:∀ {ks:List Kd} {j:Nat} {k:Kd},ks[j]? = some k→bytK ks j v=k.byt v
 | [],_,_,e=>by simp at e
 | k' :: r,0,k,e=>by simp at e; subst e; simp only [bytK]
 | k' :: r,j + 1,k,e=>by simp only [bytK]; exact hi_ (j:=j) (by simpa using e)
theorem dr_:∀ {ks:List Kd} {j:Nat} {v:Vd},valK ks j v→∃ k,ks[j]? = some k∧k.Val v
 | [],_,_,h=>by simp [valK] at h
 | k :: _,0,v,h=>by simp only [valK] at h; exact ⟨k,rfl,h⟩
 | _ :: r,j + 1,v,h=>by simp only [valK] at h; obtain ⟨k,e,hk⟩:=dr_ h; exact ⟨k,by simpa using e,hk⟩
theorem laid_cho {ks:List Kd} {j:Nat} {k:Kd} {v:Vd} {n:Nat} (hf:(Kd.cho ks).Fit) (hk:ks[j]? = some k) (hv:k.Val v) (hd:deepK ks≤n):LaidB (.cho ks) (.cho j v) n ((j:Int) :: List.replicate ((maxL 1 ((rmK ks).map (·.2))).toNat - 1) 0) [(k,v)]:=by
 obtain ⟨kf,kd⟩:=fitKx hf.1 (List.mem_of_getElem? hk)
 refine ⟨?_,fun kv h=>by rw [List.mem_singleton.mp h]; exact ⟨kf,hv,Nat.le_trans kd hd⟩⟩
 have hrm:k.rm∈rmK ks:=List.mem_of_getElem? (rmK_at hk)
 have pw:=Pw.maxL (l:=(rmK ks).map (·.2)) fun a ha=>by
  obtain ⟨r,hr,rfl⟩:=List.mem_map.mp ha
  exact fitK_pw ks hf.1 r hr
 have p1:=pw.pos
 have pk:=kf.pw
 have hle:k.rm.2≤maxL 1 ((rmK ks).map (·.2)):=gi_ (List.mem_map_of_mem hrm)
 have hl1:k.rm.1≤maxL 0 ((rmK ks).map (·.1)):=gi_ (List.mem_map_of_mem hrm)
 obtain ⟨u1,u2⟩:=an_ (n:=up 1 (maxL 1 ((rmK ks).map (·.2))) + maxL 0 ((rmK ks).map (·.1))) (m:=maxL 1 ((rmK ks).map (·.2))) (by omega)
 rw [ff_ p1] at u1 u2
 have bl:(k.byt v).length=k.rm.1.toNat:=Kd.byt_len hv
 obtain ⟨a,b,c,d⟩:=k.bd kf.ok
 have eR:(Kd.cho ks).rm.1=up (maxL 1 ((rmK ks).map (·.2)) + maxL 0 ((rmK ks).map (·.1))) (maxL 1 ((rmK ks).map (·.2))):=by show up (up 1 _ + _) _=_; rw [ff_ p1]
 have eR':(choRm (rmK ks)).1=(Kd.cho ks).rm.1:=rfl
 have eM:up 1 (choRm (rmK ks)).2=maxL 1 ((rmK ks).map (·.2)):=ff_ p1
 generalize maxL 1 ((rmK ks).map (·.2))=M at *
 generalize maxL 0 ((rmK ks).map (·.1))=R1 at *
 simp only [Kd.byt]
 rw [eM,eR',hi_ hk,eR]
 generalize up (M + R1) M=R at *
 have hM0:((M.toNat:Nat):Int)=M:=Int.toNat_of_nonneg (by omega)
 have hR0:((R.toNat:Nat):Int)=R:=Int.toNat_of_nonneg (by omega)
 have hk0:((k.rm.1.toNat:Nat):Int)=k.rm.1:=Int.toNat_of_nonneg a
 generalize M.toNat=Mn at *
 generalize R.toNat=Rn at *
 generalize k.rm.1.toNat=kn at *
 have e1:(List.replicate Rn (0:Int)).set 0 (j:Int)=[(j:Int)] ++ List.replicate (Rn - 1) 0:=by
  obtain ⟨q,hq⟩ : ∃ q,Rn=q + 1:=⟨Rn - 1,by omega⟩
  rw [hq]; rfl
 rw [e1,ie_ (by show 1≤Mn; omega) (by rw [bl]; show _≤1 + _; omega)]
 have hlen:((j:Int) :: List.replicate (Mn - 1) 0).length=Mn:=by rw [List.length_cons,List.length_replicate]; omega
 have e2:appB ((j:Int) :: List.replicate (Mn - 1) 0) [(k,v)]=(j:Int) :: List.replicate (Mn - 1) 0 ++ k.byt v:=by
  show _ ++ List.replicate ((up (((j:Int) :: List.replicate (Mn - 1) 0).length:Int) k.rm.2).toNat - _) 0 ++ k.byt v=_
  have:up ((Mn:Nat):Int) k.rm.2=((Mn:Nat):Int):=up_of_mod (by omega) (by rw [hM0]; exact pk.dvd pw hle Int.emod_self)
  rw [hlen,this,Int.toNat_natCast,Nat.sub_self,List.replicate_zero,List.append_nil]
 rw [e2]
 simp only [List.length_append,hlen,bl,List.length_singleton,List.singleton_append,List.cons_append]
 have hsub:1 + (Rn - 1) - (Mn + kn)=Rn - (Mn + kn):=by rw [Nat.add_sub_cancel' (by omega)]
 rw [hsub]
 have hl2:((j:Int) :: (List.replicate (Mn - 1) 0 ++ k.byt v)).length=Mn + kn:=by rw [List.length_cons,List.length_append,List.length_replicate,bl]; omega
 rw [hl2,List.nil_append]
theorem fg_ {c:XC} {G K:XS} {ρ ρ':En} {D:XD} (hc:∀ Q:Bool→En→Prop,Q false ρ'→c ρ Q) (h:K ρ' D):xSeq (xIf c G xNext) K ρ D:=hc _ h
theorem getK_vx {fs:List (Str×Kd)} {vs:List Vd} {i:Nat} {f:Str×Kd} {v:Vd} (hn:(fs.map (·.1)).Nodup) (hl:vs.length=fs.length) (h1:fs[i]? = some f) (h2:vs[i]? = some v):getK (vxF fs vs) (Sum.inr f.1)=some (f.2.vx v):=by
 have hk:=ef_ hl
 have hnd:((vxF fs vs).map (·.1)).Nodup:=by
  rw [hk]
  have:(fs.map fun f=>(Sum.inr f.1:Key))=(fs.map (·.1)).map (fun x:Str=>(Sum.inr x:Key)):=by rw [List.map_map]; rfl
  rw [this]
  exact List.Pairwise.map _ (fun a b h e=>h (Sum.inr.inj e)) hn
 exact gk_ (p:=(Sum.inr f.1,f.2.vx v)) hnd (mem_vx h1 h2)
where mem_vx:∀ {fs:List (Str×Kd)} {vs:List Vd} {i:Nat} {f:Str×Kd} {v:Vd},fs[i]? = some f→vs[i]? = some v→((Sum.inr f.1,f.2.vx v):Key×Dx)∈vxF fs vs
 | [],_,_,_,_,h,_=>by simp at h
 | _ :: _,[],_,_,_,_,h=>by simp at h
 | g :: r,u :: vs,0,f,v,h1,h2=>by simp at h1 h2; subst h1 h2; simp only [vxF]; exact List.mem_cons_self
 | g :: r,u :: vs,i + 1,f,v,h1,h2=>by simp only [vxF]; exact List.mem_cons_of_mem _ (mem_vx (i:=i) (by simpa using h1) (by simpa using h2))
theorem len1 {α:Type} {a:α}:[a].length≤1000000:=by show 1≤1000000; decide
theorem rep_flatX {α:Type} (v:α):∀ n,(List.replicate n [v]).flatten=List.replicate n v
 | 0=>rfl
 | n + 1=>by rw [List.replicate_succ,List.flatten_cons,rep_flatX v n]; rfl
theorem zerosX (q:Nat):(List.replicate q (List.map Sv.d [Sv.tr (Dx.int 0)])).flatten=(List.replicate q (0:Int)).map Dx.int:=by show (List.replicate q [Dx.int 0]).flatten=_; rw [rep_flatX,List.map_replicate]
def prB (kv:Kd×Vd):Dx:=.tup [kv.1.x,kv.1.vx kv.2]
def gLY (n:Nat):GC:=fun ds Q => ∃ (kd:Kd) (vd:Vd),ds=[kd.x,kd.vx vd]∧kd.Fit∧kd.Val vd∧kd.deep≤n∧n≤5∧kd.rm.1≤100000∧Q (.ol ((kd.byt vd).map Dx.int))
section
variable {P:Program} {w:World} {K:FG_} {mg:MG_} {base:Heap} {f:Addr} {fd:FuncData} {n j jM:Nat}
theorem okx_ly (F:Fun K "_law_bytes" "_law_bytes" cm_ f fd) (CLM:Cal P w K mg base jM "_law_room" ["kind"] (spX (gLM 5))) (CLR:Cal P w K mg base 1 "_law_rounded" ["number", "m"] (spX gLR)) (CLY:Cal P w K mg base j "_law_bytes" ["kind", "value"] (spX (gLY n))) (m_range:mg "range" = none) (m_len:mg "len" = none) (m_max:mg "max" = none) (hj:1≤j) (hjM:jM≤j) :
  FnOk P w K mg base CX0 (j + 1) f fd ["kind", "value"] (spX (gLY (n + 1))):=by
 refine fv_ F sc_law_bytes (fun ds Q h=>by obtain ⟨_,_,rfl,_⟩:=h; rfl) (by decide) fun cdv A outer s H E hr => ?_
 have hu1:=en_ hr
 have hu0:=Nat.lt_of_succ_lt hu1
 refine ⟨_,(ae_ (ag_ fun F=>ak_ (i:=2) sc_law_bytes.nd rfl (Or.inl rfl) (XE.at (Ex:=noEx) F (bq_ ad_)))
  (ae_ (br_ (bc_ (bn_ K hu0) cr_ (am_ K (ab_ (pv 0)) ac_ (fun _ _=>rfl)) bt_ (nomark _)) (ae_ (dc_ PassesOwn.never rfl (cc_ m_range (aa_ (am_ K (ab_ (pv 0)) ac_ (fun _ _=>rfl)) ad_)) (aj_ (i:=3) sc_law_bytes.nd rfl (Or.inl rfl)) (bb_ (n:=99) (i:=3) (by decide)) (ae_ (fb_ fun F=>PS.weak (dw_ (pe_bm PySem.F.plainAttrs_list PySem.F.slot_list_append PySem.F.type_list_append er_ (pv 2) (as_ (XE.at (Ex:=noEx) F (gp_ (ab_ (pv 1)) ac_)) cb_))) tApp_x)
  (af_ (ag_ fun F=>ak_ (i:=1) sc_law_bytes.nd rfl (Or.inr rfl) (XE.at (Ex:=noEx) F (hm_ (ab_ (pv 1)) ac_))))))
  (af_ (ap_ (ch_ (pv 2))))) au_)
  (ae_ (br_ (bc_ (bn_ K hu0) cr_ (am_ K (ab_ (pv 0)) ac_ (fun _ _=>rfl)) bt_ (nomark _)) (af_ (fb_ fun F=>PS.weak (hw_ (i:=4) sc_law_bytes.nd rfl rfl (dsc:=defScope cm_) (N:=["kind", "value", "found", "k", "parts", "most", "inner", "one"]) (tgs:=["one"]) (outs:=[0]) (N':=["one", "kind"]) (by refine ⟨rfl,?_,?_,?_,rfl,?_,?_,?_⟩ <;> decide +kernel) (XIt.at (Ex:=noEx) F (bs_ (ab_ (pv 1)))) (fun _ _ _ _ _=>(aj_ (i:=0) (show (["one", "kind"]:List Str).Nodup by decide +kernel) rfl (Or.inl rfl) (.inr rfl))) (bl_ (by decide)) (fun a b c d e=>XCs.at (Ex:=noEx) F bi_) (fun a b c d e=>XE.at (Ex:=noEx) F (dq_ (aa_ (am_ K (ab_ (pv 1)) ac_ (fun _ _=>rfl)) (aa_ (ab_ (pv 0)) ad_))))) (setC_x (bb_ (n:=1) (i:=0) (by decide)) (by decide)))) (af_ (br_ (bc_ (bn_ K hu0) cr_ (am_ K (ab_ (pv 0)) ac_ (fun _ _=>rfl)) bt_ (nomark _)) (af_ (fb_ fun F=>PS.weak (hw_ (i:=4) sc_law_bytes.nd rfl rfl (dsc:=defScope cm_) (N:=["kind", "value", "found", "k", "parts", "most", "inner", "one"]) (tgs:=["name", "inner"]) (outs:=[1]) (N':=["name", "inner", "value"]) (by refine ⟨rfl,?_,?_,?_,rfl,?_,?_,?_⟩ <;> decide +kernel) (XIt.at (Ex:=noEx) F (bs_ (am_ K (ab_ (pv 0)) ac_ (fun _ _=>rfl)))) (fun _ _ _ _ _=>(hx_ K (n:=2) rfl rfl (ar_ (aj_ (i:=0) (show (["name", "inner", "value"]:List Str).Nodup by decide +kernel) rfl (Or.inl rfl) (.inr rfl)) (ar_ (aj_ (i:=1) (show (["name", "inner", "value"]:List Str).Nodup by decide +kernel) rfl (Or.inl rfl) (.inr rfl)) cj_)))) (hs_ (bg_ (by decide) (bg_ (by decide) ds_ bf_) (cn_ bf_))) (fun a b c d e=>XCs.at (Ex:=noEx) F bi_) (fun a b c d e=>XE.at (Ex:=noEx) F (dq_ (aa_ (ab_ (pv 1)) (aa_ (hn_ hu1 (ab_ (pv 2)) (ab_ (pv 0)) (fun _ _=>rfl)) ad_))))) (setC_x (et_ (n:=2) (is:=[0,1]) rfl (by decide)) (by decide)))) (ae_ (ag_ fun F=>ak_ (i:=2) sc_law_bytes.nd rfl (Or.inl rfl) (XE.at (Ex:=noEx) F (bq_ (aa_ (am_ K (ab_ (pv 1)) ac_ (fun _ _=>rfl)) ad_))))
  (ae_ (ag_ fun F=>ak_ (i:=5) sc_law_bytes.nd rfl (Or.inl rfl) (XE.at (Ex:=noEx) F (bd_ (fz_ K (by rfl)) cx_maxL (by rfl) m_max bt_max (aa_ (ci_ (dsc:=defScope cm_) (N:=["kind", "value", "found", "k", "parts", "most", "inner", "one"]) (tgs:=["inner"]) (outs:=[]) (N':=["inner"]) (by refine ⟨rfl,?_,?_,?_,rfl,?_,?_,?_⟩ <;> decide +kernel) (bs_ (am_ K (ab_ (pv 0)) ac_ (fun _ _=>rfl))) (fun _ _ _ _ _=>(aj_ (i:=0) (show (["inner"]:List Str).Nodup by decide +kernel) rfl (Or.inl rfl) (.inr rfl))) (bb_ (n:=1) (i:=0) (by decide)) (bl_ (by decide)) (fun _ _ _ _ _=>bi_) (fun _ _ _ _ _=>(am_ K (ai_ CLM (hr.mono (by omega)) (aa_ (ab_ (pv 0)) ad_)) ac_ (fun _ _=>rfl)))) ad_))))
  (ae_ (ag_ fun F=>ak_ (i:=2) sc_law_bytes.nd rfl (Or.inl rfl) (XE.at (Ex:=noEx) F (be_ (ab_ (pv 2)) (cp_ (bq_ (aa_ ac_ ad_)) (fe_ (ai_ CLR (hr.mono (by omega)) (aa_ ac_ (aa_ (ab_ (pv 5)) ad_))) ac_)))))
  (af_ (ag_ fun F=>ak_ (i:=4) sc_law_bytes.nd rfl (Or.inl rfl) (XE.at (Ex:=noEx) F (bq_ (aa_ (dq_ (aa_ (am_ K (am_ K (ab_ (pv 0)) ac_ (fun _ _=>rfl)) (am_ K (ab_ (pv 1)) ac_ (fun _ _=>rfl)) (fun _ _=>rfl)) (aa_ (am_ K (ab_ (pv 1)) ac_ (fun _ _=>rfl)) ad_))) ad_)))))))))))
  (ae_ (dc_ PassesOwn.never rfl (bs_ (ab_ (pv 4))) (hy_ rfl (ar_ (aj_ (i:=6) sc_law_bytes.nd rfl (Or.inl rfl)) (ar_ (aj_ (i:=7) sc_law_bytes.nd rfl (Or.inl rfl)) cj_))) (et_ (n:=99) (is:=[6,7]) rfl (by decide)) (ae_ (ag_ fun F=>ak_ (i:=2) sc_law_bytes.nd rfl (Or.inl rfl) (XE.at (Ex:=noEx) F (be_ (ab_ (pv 2)) (cp_ (bq_ (aa_ ac_ ad_)) (fe_ (ai_ CLR (hr.mono (by omega)) (aa_ (bd_ (bw_ K) eu_ (by rfl) m_len PySem.boot_len (aa_ (ab_ (pv 2)) ad_)) (aa_ (am_ K (ai_ CLM (hr.mono (by omega)) (aa_ (ab_ (pv 6)) ad_)) ac_ (fun _ _=>rfl)) ad_))) (bd_ (bw_ K) eu_ (by rfl) m_len PySem.boot_len (aa_ (ab_ (pv 2)) ad_)))))))
  (af_ (ag_ fun F=>ak_ (i:=2) sc_law_bytes.nd rfl (Or.inl rfl) (XE.at (Ex:=noEx) F (be_ (ab_ (pv 2)) (ai_ CLY (hr.mono (by omega)) (aa_ (ab_ (pv 6)) (aa_ (ab_ (pv 7)) ad_)))))))))
  (af_ (ap_ (be_ (ab_ (pv 2)) (cp_ (bq_ (aa_ ac_ ad_)) (fe_ (am_ K (ai_ CLM (hr.mono (by omega)) (aa_ (ab_ (pv 0)) ad_)) ac_ (fun _ _=>rfl)) (bd_ (bw_ K) eu_ (by rfl) m_len PySem.boot_len (aa_ (ab_ (pv 2)) ad_))))))))))),fun ds Q h => ?_⟩
 clear hu0 hu1 hj hjM
 obtain ⟨kd,vd,rfl,hfit,hval,hdp,hn,hrm,q⟩:=h
 refine ⟨Nat.zero_le _,?_⟩
 dsimp only
 change xSeq _ _ [.v (.tr kd.x),.v (.tr (kd.vx vd)),.v (.ol []),.un,.un,.un,.un,.un] _
 by_cases isnum:∃ wd m,kd=.num wd m
 ·obtain ⟨wd,m,rfl⟩:=isnum
  cases vd with
  | num i =>
   obtain ⟨a1,a2,_⟩:=hfit
   refine ⟨⟨by omega,by omega⟩,?_⟩
   refine bo_ (fun k:Nat=>Dx.int (0 + (k:Int))) (fun rest ρ => ∃ (c:Nat) (y:Sl),c + rest.length=wd.toNat∧ρ=[.v (.tr (Kd.num wd m).x),.v (.tr (.int (i / 256 ^ c))),.v (.ol ((numB c i).map Dx.int)),y,.un,.un,.un,.un]) (fun ρ h => ?_) (fun k rest ρ Kn h hk => ?_) ⟨0,.un,by rw [List.length_range]; simp,by simp only [Kd.vx,numB,Int.pow_zero,Int.ediv_one]; rfl⟩
   ·obtain ⟨c,y,e,rfl⟩:=h
    rw [List.length_nil,Nat.add_zero] at e
    subst e
    simp only [Kd.byt] at q
    exact q
   ·obtain ⟨c,y,e,rfl⟩:=h
    rw [List.length_cons] at e
    refine ⟨rfl,show (0:Int) < 256 by decide,⟨by rw [List.length_map,ft_]; omega,⟨by decide,by decide⟩,hk _ ⟨c + 1,.v (.tr (.int (0 + (k:Int)))),by omega,?_⟩⟩⟩
    rw [ia_,List.map_append,Int.pow_succ,← Int.ediv_ediv_of_nonneg (Int.pow_nonneg (by decide))]
    rfl
  | _=>simp [Kd.Val] at hval
 ·have hnum:∀ Q:Bool→En→Prop,Q false [.v (.tr kd.x),.v (.tr (kd.vx vd)),.v (.ol []),.un,.un,.un,.un,.un]→(xB (xOp eqX (xOp ixX (xVar 0) (xC (.int 0))) (xC (.str "number")))) [.v (.tr kd.x),.v (.tr (kd.vx vd)),.v (.ol []),.un,.un,.un,.un,.un] Q:=by
   cases kd with
   | num wd m=>exact absurd ⟨wd,m,rfl⟩ isnum
   | row k m=>exact fun Q q=>q
   | rcd fs=>exact fun Q q=>q
   | cho ks=>exact fun Q q=>q
  refine fg_ hnum ?_
  refine gw_ (fun ρ => ∃ (st:List Int) (ps:List (Kd×Vd)) (y5:Sl),ρ=[.v (.tr kd.x),.v (.tr (kd.vx vd)),.v (.ol (st.map Dx.int)),.un,.v (.ol (ps.map prB)),y5,.un,.un]∧LaidB kd vd n st ps) ?_ (fun D' hD => ?_)
  ·rintro ρ ⟨st,ps,y5,rfl,e,hps⟩
   have hbl:=Kd.byt_len hval
   have hall:(appB st ps).length≤100000:=by
    have:=congrArg List.length e
    rw [List.length_append,hbl] at this
    omega
   show forX _ _ _ (ps.map prB) _
   refine bo_ prB (fun rest ρ => ∃ (done:List (Kd×Vd)) (y5 y6 y7:Sl),ps=done ++ rest∧ρ=[.v (.tr kd.x),.v (.tr (kd.vx vd)),.v (.ol ((appB st done).map Dx.int)),.un,.v (.tr (.lst (ps.map prB))),y5,y6,y7]) (fun ρ h => ?_) (fun kv rest ρ Kn h hk => ?_) ⟨[],y5,.un,.un,rfl,rfl⟩
   ·obtain ⟨done,y5,y6,y7,e1,rfl⟩:=h
    rw [List.append_nil] at e1
    subst e1
    obtain ⟨b0,b1,b2,b3⟩:=kd.bd hfit.ok
    have hlm:((appB st ps).map Dx.int).length=(appB st ps).length:=List.length_map _
    refine ⟨len1,kd,rfl,hfit.ok,hfit.full,by omega,by decide,?_⟩
    refine ⟨⟨by omega,by omega,by show 1 * _≤_; omega⟩,?_⟩
    rw [zerosX]
    refine ⟨by rw [List.length_map,List.length_map,List.length_replicate]; omega,?_⟩
    have eq2:(kd.rm.1 - (((appB st ps).map Dx.int).length:Int)).toNat=kd.rm.1.toNat - (appB st ps).length:=by rw [List.length_map]; exact Int.toNat_sub' _ _
    rw [eq2,← List.map_append,← e]
    exact q
   ·obtain ⟨done,y5,y6,y7,e1,rfl⟩:=h
    obtain ⟨kf,kv',kdp⟩:=hps kv (by rw [e1]; exact List.mem_append_right _ List.mem_cons_self)
    have pl:((putB (appB st done) kv).length:Int)=up ((appB st done).length:Int) kv.1.rm.2 + kv.1.rm.1:=putB_len (good_of kf kv')
    obtain ⟨g1,g2,g3⟩ : kv.1.Val kv.2∧0≤kv.1.rm.1∧1≤kv.1.rm.2:=good_of kf kv'
    obtain ⟨u1,u2⟩:=an_ (n:=((appB st done).length:Int)) (m:=kv.1.rm.2) (by omega)
    have hle:(putB (appB st done) kv).length≤100000:=by
     have h9:=appB_ge rest (putB (appB st done) kv)
     have h8:appB st ps=appB (putB (appB st done) kv) rest:=by rw [e1,appB_app]; rfl
     rw [h8] at hall
     omega
    have bl:(kv.1.byt kv.2).length=kv.1.rm.1.toNat:=Kd.byt_len g1
    have hlm:((appB st done).map Dx.int).length=(appB st done).length:=List.length_map _
    refine ⟨len1,kv.1,rfl,kf.ok,kf.full,by omega,by decide,?_⟩
    refine ⟨_,_,rfl,by omega,by omega,?_⟩
    have hlm':((((appB st done).map Dx.int).length:Nat):Int)=((appB st done).length:Int):=by rw [hlm]
    refine ⟨⟨by rw [hlm']; omega,by rw [hlm']; omega,by show 1 * _≤_; rw [hlm']; omega⟩,?_⟩
    rw [zerosX,hlm']
    refine ⟨by rw [hlm,List.length_map,List.length_replicate]; omega,?_⟩
    refine ⟨kv.1,kv.2,rfl,kf,kv',by omega,by omega,by omega,?_⟩
    refine ⟨by rw [List.length_append,hlm,List.length_map,List.length_map,List.length_replicate]; omega,hk _ ⟨done ++ [kv],y5,.v (.tr kv.1.x),.v (.tr (kv.1.vx kv.2)),by rw [e1,List.append_assoc]; rfl,?_⟩⟩
    have eq2:(up ((appB st done).length:Int) kv.1.rm.2 - ((appB st done).length:Int)).toNat=(up ((appB st done).length:Int) kv.1.rm.2).toNat - (appB st done).length:=Int.toNat_sub' _ _
    rw [eq2,← List.map_append,← List.map_append,appB_snoc]
    rfl
  ·cases kd with
   | num wd m=>exact absurd ⟨wd,m,rfl⟩ isnum
   | row k m =>
    cases vd with
    | row vs =>
     have hdp':k.deep + 1≤n + 1:=hdp
     have hv:=hval
     simp only [Kd.Val] at hv
     have f3:=hfit.2.2
     have evx:(Kd.row k m).vx (.row vs)=.lst (vs.map k.vx):=by simp only [Kd.vx]
     rw [evx] at hD ⊢
     refine ⟨show (vs.map k.vx).length≤1000000 by rw [List.length_map]; omega,show compX _ _ _ _ _ (vs.map k.vx) _ _ from ?_⟩
     refine bk_ k.vx (fun v=>prB (k,v)) (fun v hv acc P p=>⟨len2,p⟩) ?_
     refine hD _ ⟨[],vs.map fun v=>(k,v),.un,?_,laid_row hfit hval (by omega)⟩
     rw [List.map_map]
     rfl
    | _=>simp [Kd.Val] at hval
   | rcd fs =>
    cases vd with
    | rcd vs =>
     have hdp':deepF fs + 1≤n + 1:=hdp
     have hv:=hval
     simp only [Kd.Val] at hv
     obtain ⟨f1,f2,f3,hnd⟩:=hfit
     have hl:=cy_ hv
     have evx:(Kd.rcd fs).vx (.rcd vs)=.dic (vxF fs vs):=by simp only [Kd.vx]
     rw [evx] at hD ⊢
     refine ⟨show (xF fs).length≤1000000 by rw [dl_,List.length_map]; omega,show compX _ _ _ _ _ (xF fs) _ _ from ?_⟩
     have exf:xF fs=(fs.zip vs).map fun p=>.tup [.str p.1.1,p.1.2.x]:=by
      rw [dl_]
      have:fs=(fs.zip vs).map (·.1):=by rw [List.map_fst_zip (by omega)]
      conv=>lhs; rw [this]
      rw [List.map_map]
      rfl
     rw [exf]
     refine bk_ _ (fun p:(Str×Kd)×Vd=>prB (p.1.2,p.2)) (fun p hp acc P pp => ?_) ?_
     ·obtain ⟨i,hi⟩:=List.mem_iff_getElem?.mp hp
      obtain ⟨h1,h2⟩:=List.getElem?_zip_eq_some.mp hi
      have hg:=getK_vx hnd hl h1 h2
      simp only [stepX,xSeq,xNext,xIf,xB,xOp,xVar,xMove,xC,xSet,xRet,xCall,xCons,xNil,xTup,xLst,xFor,xComp,xiL,xiR1,xApp,ixX,dgX,addX,mulX,gI,gIC,eqX,eqS,lenX,gxN,gxT,gxs,retB,lentEnd,startX,startB,dy_,dx_,len3,at10,at20,at21,at30,at31,at32,at40,at41,at42,at43,ix30,ix31,ix32,List.getElem?_cons_zero,List.getElem?_cons_succ,List.set_cons_zero,List.set_cons_succ,Sv.d,List.map_cons,List.map_nil,Option.bind_some,Option.isSome_some,List.cons_append,List.nil_append,List.length_cons,List.length_nil,List.replicate_succ,List.replicate_zero,Nat.reduceAdd,Nat.reduceSub,Nat.reduceLeDiff,true_and,decide_eq_true_eq,cut,caps,back,xYes,Option.getD_some,if_true,↓reduceIte,List.drop_succ_cons,List.drop_zero,keyD,hg]
      exact pp
     ·refine hD _ ⟨[],(fs.map (·.2)).zip vs,.un,?_,laid_rcd ⟨f1,f2,f3,hnd⟩ hval (by omega)⟩
      have:(fs.map (·.2)).zip vs=(fs.zip vs).map fun p=>(p.1.2,p.2):=by rw [List.zip_map_left]; rfl
      rw [this,List.map_map]
      rfl
    | _=>simp [Kd.Val] at hval
   | cho ks =>
    cases vd with
    | cho jj v =>
     have hdp':deepK ks + 1≤n + 1:=hdp
     have hv:=hval
     simp only [Kd.Val] at hv
     obtain ⟨kc,hkc,hvc⟩:=dr_ hv
     obtain ⟨f1,f2,f3⟩:=id hfit
     have hjl:jj < ks.length:=(List.getElem?_eq_some_iff.mp hkc).1
     have evx:(Kd.cho ks).vx (.cho jj v)=.tup [.int (jj:Int),kc.vx v]:=by simp only [Kd.vx]; rw [hr_ hkc]
     rw [evx] at hD ⊢
     have hlr:(rmK ks).length=ks.length:=lenK ks
     have hne:rmK ks≠[]:=fun z=>by rw [z] at hlr; simp at hlr; omega
     have hb:=bdK12 (n:=5) (fitK_ok ks f1) (by omega) (by decide)
     have hmx:=Pw.maxL (l:=(rmK ks).map (·.2)) fun a ha=>by
      obtain ⟨r,hr,rfl⟩:=List.mem_map.mp ha
      exact fitK_pw ks f1 r hr
     have hm1:=hmx.pos
     obtain ⟨x0,x1⟩:=mx_bd hb
     refine ⟨len1,?_⟩
     refine ⟨show (xK ks).length≤1000000 by rw [cu_,List.length_map]; omega,show compX _ _ _ _ _ (xK ks) _ _ from ?_⟩
     rw [cu_]
     refine bk_ Kd.x (fun k=>.int k.rm.2) (fun k hk acc P p => ?_) ?_
     ·obtain ⟨kf,kdp⟩:=fitKx f1 hk
      exact ⟨k,rfl,kf.ok,kf.full,by omega,by decide,p⟩
     ·have erm:(ks.map fun k=>Dx.int k.rm.2)=(rmK ks).map fun r=>Dx.int r.2:=by
       have:=rmK_pr ks
       clear hb hmx hm1 x0 x1 hD hne hlr evx hkc hjl f1 f2 f3 hdp' hfit hval hv q hrm hdp hnum isnum
       induction ks with
       | nil=>rfl
       | cons k r ih=>simp only [List.map_cons,rmK]; rw [ih (rmK_pr r)]
      simp only [xNil,List.map_cons,List.map_nil,Sv.d,List.nil_append,erm]
      refine max_sel (sel:=fun r=>r.2) (d:=1) hne (fun r hr=>(hb r hr).2.2.1) ?_
      generalize hM:maxL 1 ((rmK ks).map fun r=>r.2)=M at *
      refine ⟨len1,_,_,rfl,by decide,by omega,?_⟩
      rw [ff_ hm1]
      refine ⟨⟨by omega,by omega,by show 1 * _≤_; omega⟩,?_⟩
      rw [zerosX]
      refine ⟨by rw [List.length_map,List.length_replicate]; show 1 + _≤_; omega,?_⟩
      have hxk:(xK ks)[jj]? = some kc.x:=by rw [cu_,List.getElem?_map,hkc]; rfl
      have hat:=fl_ hxk
      simp only [xSeq,xNext,xIf,xB,xOp,xVar,xMove,xC,xSet,xRet,xCall,xCons,xNil,xTup,xLst,xFor,xComp,xiL,xiR1,xApp,ixX,dgX,addX,mulX,gI,gIC,eqX,eqS,lenX,gxN,gxT,gxs,retB,lentEnd,startX,startB,dy_,dx_,len3,at10,at20,at21,at30,at31,at32,at40,at41,at42,at43,ix30,ix31,ix32,List.getElem?_cons_zero,List.getElem?_cons_succ,List.set_cons_zero,List.set_cons_succ,Sv.d,List.map_cons,List.map_nil,Option.bind_some,Option.isSome_some,List.cons_append,List.nil_append,List.length_cons,List.length_nil,List.replicate_succ,List.replicate_zero,Nat.reduceAdd,Nat.reduceSub,Nat.reduceLeDiff,true_and,decide_eq_true_eq,cut,caps,back,xYes,Option.getD_some,if_true,↓reduceIte,List.drop_succ_cons,List.drop_zero,Kd.x,hat]
      have hl:=laid_cho hfit hkc hvc (n:=n) (by omega)
      rw [hM] at hl
      refine hD _ ⟨_,_,.v (.tr (.int M)),?_,hl⟩
      rw [show (M - 1).toNat=M.toNat - 1 from Int.toNat_sub' M 1]
      rfl
    | _=>simp [Kd.Val] at hval
theorem lyx_none:FnOk P w K mg base CX0 j f fd ["kind", "value"] (spX (gLY 0)):=fn_no fun ds Q h=>by
 obtain ⟨kd,_,_,_,_,hd,_⟩:=h
 have:=Kd.deep_pos kd
 omega
end
mutual
def Kd.isv:Kd→Vd→Dx→Prop
 | .num _ _,.num n,d=>d=.int n
 | .row k _,.row vs,d => ∃ ds,d=.lst ds∧All2 k.isv vs ds
 | .rcd fs,.rcd vs,d => ∃ kvs,d=.dic kvs∧kvs.length=fs.length∧(∀ kv∈kvs,∃ x,kv.1=Sum.inr x)∧isvF fs vs kvs
 | .cho ks,.cho j x,d => ∃ u,d=.tup [.int (j:Int),u]∧isvK ks j x u
 | _,_,_=>False
def isvF:List (Str×Kd)→List Vd→List (Key×Dx)→Prop
 | [],[],_=>True
 | f :: r,v :: vs,kvs=>(∃ x,getK kvs (Sum.inr f.1)=some x∧f.2.isv v x)∧isvF r vs kvs
 | _,_,_=>False
def isvK:List Kd→Nat→Vd→Dx→Prop
 | [],_,_,_=>False
 | k :: _,0,v,u=>k.isv v u
 | _ :: r,j + 1,v,u=>isvK r j v u
end
theorem isvF_mem:∀ {fs:List (Str×Kd)} {vs:List Vd} {kvs:List (Key×Dx)} {p:(Str×Kd)×Vd},isvF fs vs kvs→p∈fs.zip vs→∃ x,getK kvs (Sum.inr p.1.1)=some x∧p.1.2.isv p.2 x
 | [],_,_,_,_,h=>by simp at h
 | _ :: _,[],_,_,h,_=>by simp [isvF] at h
 | f :: r,v :: vs,kvs,p,h,hm=>by
  simp only [isvF] at h
  rw [List.zip_cons_cons] at hm
  rcases List.mem_cons.mp hm with rfl | hm
  ·exact h.1
  ·exact isvF_mem h.2 hm
theorem isvK_at:∀ {ks:List Kd} {j:Nat} {v:Vd} {u:Dx},isvK ks j v u→∃ k,ks[j]? = some k∧k.isv v u
 | [],_,_,_,h=>by simp [isvK] at h
 | k :: _,0,v,u,h=>by simp only [isvK] at h; exact ⟨k,rfl,h⟩
 | _ :: r,j + 1,v,u,h=>by simp only [isvK] at h; obtain ⟨k,e,hk⟩:=isvK_at h; exact ⟨k,by simpa using e,hk⟩
theorem valF_mem:∀ {fs:List (Str×Kd)} {vs:List Vd} {p:(Str×Kd)×Vd},okF fs→valF fs vs→p∈fs.zip vs→p.1.2.Ok∧p.1.2.Val p.2∧p.1.2.deep≤deepF fs
 | [],_,_,_,_,h=>by simp at h
 | _ :: _,[],_,_,h,_=>by simp [valF] at h
 | f :: r,v :: vs,p,ho,h,hm=>by
  simp only [valF] at h
  rw [List.zip_cons_cons] at hm
  rcases List.mem_cons.mp hm with rfl | hm
  ·exact ⟨ho.1,h.1,Nat.le_max_left _ _⟩
  ·obtain ⟨a,b,c⟩:=valF_mem ho.2 h.2 hm
   exact ⟨a,b,Nat.le_trans c (Nat.le_max_right _ _)⟩
theorem valK_mem {ks:List Kd} {j:Nat} {v:Vd} {k:Kd} (h:valK ks j v) (e:ks[j]? = some k):k.Val v:=by
 obtain ⟨k',e',h'⟩:=dr_ h
 rw [e] at e'
 cases e'
 exact h'
theorem all2_zip {α β:Type} {g:α→β→Prop}:∀ {l:List α} {m:List β},All2 g l m→∀ p∈l.zip m,g p.1 p.2
 | [],_,_,p,h=>by simp at h
 | a :: l,_,⟨b,r,e,h1,h2⟩,p,h=>by
  subst e
  rw [List.zip_cons_cons] at h
  rcases List.mem_cons.mp h with rfl | h
  ·exact h1
  ·exact all2_zip h2 p h
theorem allX_true {n:Nat} {Q:Sv→Prop} (q:Q (.tr (.bl true))):allX [.lst (List.replicate n (.bl true))] Q:=⟨List.replicate n true,by rw [List.map_replicate],by
 have:(List.replicate n true).all id=true:=by rw [List.all_eq_true]; intro x hx; rw [(List.mem_replicate.mp hx).2]; rfl
 rw [this]
 exact q⟩
theorem map_const_len {α:Type} {d:Dx} (l:List α):(l.map fun _=>d)=List.replicate l.length d:=List.map_const'
theorem vxF_zip:∀ {fs:List (Str×Kd)} {vs:List Vd},vxF fs vs=(fs.zip vs).map fun p=>(Sum.inr p.1.1,p.1.2.vx p.2)
 | [],_=>by simp [vxF]
 | _ :: _,[]=>by simp [vxF]
 | g :: r,u :: vs=>by simp only [vxF,List.zip_cons_cons,List.map_cons]; rw [vxF_zip]
theorem isvF_of:∀ {fs:List (Str×Kd)} {vs:List Vd} {kvs:List (Key×Dx)},vs.length=fs.length→(∀ p∈fs.zip vs,∃ x,getK kvs (Sum.inr p.1.1)=some x∧p.1.2.isv p.2 x)→isvF fs vs kvs
 | [],[],_,_,_=>by simp only [isvF]
 | [],_ :: _,_,h,_=>by simp at h
 | _ :: _,[],_,h,_=>by simp at h
 | f :: r,v :: vs,kvs,hl,h=>by
  simp only [isvF]
  exact ⟨h (f,v) (by rw [List.zip_cons_cons]; exact List.mem_cons_self),isvF_of (by simpa using hl) fun p hp=>h p (by rw [List.zip_cons_cons]; exact List.mem_cons_of_mem _ hp)⟩
theorem isvK_of {v:Vd} {u:Dx}:∀ {ks:List Kd} {j:Nat} {k:Kd},ks[j]? = some k→k.isv v u→isvK ks j v u
 | [],_,_,e,_=>by simp at e
 | k' :: r,0,k,e,h=>by simp at e; subst e; simp only [isvK]; exact h
 | k' :: r,j + 1,k,e,h=>by simp only [isvK]; exact isvK_of (j:=j) (by simpa using e) h
theorem all2_map {α:Type} {g:α→Dx→Prop} {φ:α→Dx}:∀ {l:List α},(∀ a∈l,g a (φ a))→All2 g l (l.map φ)
 | [],_=>rfl
 | a :: l,h=>⟨_,_,rfl,h a List.mem_cons_self,all2_map fun b hb=>h b (List.mem_cons_of_mem _ hb)⟩
theorem zip_names {fs:List (Str×Kd)} {vs:List Vd} (hvl:vs.length=fs.length) (hnd:(fs.map (·.1)).Nodup):((fs.zip vs).map fun p=>p.1.1).Nodup:=by
 have:((fs.zip vs).map fun p=>p.1.1)=fs.map (·.1):=by
  have e:fs.map (·.1)=((fs.zip vs).map (·.1)).map (·.1):=by rw [List.map_fst_zip (by omega)]
  rw [e,List.map_map]
  rfl
 rw [this]
 exact hnd
theorem getK_zip {L:List ((Str×Kd)×Vd)} {φ:(Str×Kd)×Vd→Dx} (hn:(L.map fun p=>p.1.1).Nodup) {p:(Str×Kd)×Vd} (hp:p∈L):getK (L.map fun p=>((Sum.inr p.1.1,φ p):Key×Dx)) (Sum.inr p.1.1)=some (φ p):=by
 refine gk_ (p:=(Sum.inr p.1.1,φ p)) ?_ (List.mem_map_of_mem (f:=fun p=>((Sum.inr p.1.1,φ p):Key×Dx)) hp)
 rw [List.map_map]
 have:(L.map ((fun x:Key×Dx=>x.1) ∘ fun p=>((Sum.inr p.1.1,φ p):Key×Dx)))=(L.map fun p=>p.1.1).map (fun x:Str=>(Sum.inr x:Key)):=by rw [List.map_map]; rfl
 rw [this]
 exact List.Pairwise.map _ (fun a b h e=>h (Sum.inr.inj e)) hn
mutual
theorem isv_vx:∀ (kd:Kd) (vd:Vd),kd.Fit→kd.Val vd→kd.isv vd (kd.vx vd)
 | .num w m,vd,hf,hv=>by
  cases vd with
  | num i=>simp only [Kd.isv,Kd.vx]
  | _=>simp [Kd.Val] at hv
 | .row k m,vd,hf,hv=>by
  cases vd with
  | row vs =>
   simp only [Kd.Val] at hv
   simp only [Kd.isv,Kd.vx]
   exact ⟨_,rfl,all2_map fun v h=>isv_vx k v hf.1 (hv.2 v h)⟩
  | _=>simp [Kd.Val] at hv
 | .rcd fs,vd,hf,hv=>by
  cases vd with
  | rcd vs =>
   simp only [Kd.Val] at hv
   obtain ⟨f1,f2,f3,hnd⟩:=hf
   have hvl:=cy_ hv
   have hz:=isv_vxF fs vs f1 hv
   simp only [Kd.isv,Kd.vx]
   rw [vxF_zip]
   refine ⟨_,rfl,by rw [List.length_map,List.length_zip]; omega,fun kv h => ?_,isvF_of hvl fun p hp=>⟨_,getK_zip (φ:=fun p=>p.1.2.vx p.2) (zip_names hvl hnd) hp,hz p hp⟩⟩
   obtain ⟨p,_,rfl⟩:=List.mem_map.mp h
   exact ⟨_,rfl⟩
  | _=>simp [Kd.Val] at hv
 | .cho ks,vd,hf,hv=>by
  cases vd with
  | cho jj v =>
   simp only [Kd.Val] at hv
   obtain ⟨k,hk,hvk⟩:=dr_ hv
   simp only [Kd.isv,Kd.vx]
   exact ⟨_,rfl,isvK_of hk (by rw [hr_ hk]; exact isv_vxK ks hf.1 k (List.mem_of_getElem? hk) v hvk)⟩
  | _=>simp [Kd.Val] at hv
theorem isv_vxF:∀ (fs:List (Str×Kd)) (vs:List Vd),fitF fs→valF fs vs→∀ p∈fs.zip vs,p.1.2.isv p.2 (p.1.2.vx p.2)
 | [],_,_,_,p,h=>by simp at h
 | _ :: _,[],_,h,_,_=>by simp [valF] at h
 | f :: r,v :: vs,hf,hv,p,h=>by
  simp only [valF] at hv
  rw [List.zip_cons_cons] at h
  rcases List.mem_cons.mp h with rfl | h
  ·exact isv_vx f.2 v hf.1.2 hv.1
  ·exact isv_vxF r vs hf.2 hv.2 p h
theorem isv_vxK:∀ (ks:List Kd),fitK ks→∀ k∈ks,∀ v,k.Val v→k.isv v (k.vx v)
 | [],_,k,h,_,_=>by simp at h
 | k' :: r,hf,k,h,v,hv=>by
  by_cases e:k=k'
  ·rw [e] at hv ⊢; exact isv_vx k' v hf.1 hv
  ·exact isv_vxK r hf.2 k ((List.mem_cons.mp h).resolve_left e) v hv
end
theorem szX_of:∀ {l:List Dx},(∀ d∈l,d.Sz)→szX l
 | [],_=>trivial
 | d :: r,h=>⟨h d List.mem_cons_self,szX_of fun e he=>h e (List.mem_cons_of_mem _ he)⟩
theorem szXk_of:∀ {l:List (Key×Dx)},(∀ p∈l,p.2.Sz)→szXk l
 | [],_=>trivial
 | d :: r,h=>⟨h d List.mem_cons_self,szXk_of fun e he=>h e (List.mem_cons_of_mem _ he)⟩
theorem hh_ {n:Nat}:∀ {l:List Dx},(∀ d∈l,d.deep≤n)→deepX l≤n
 | [],_=>Nat.zero_le _
 | d :: r,h=>Nat.max_le.mpr ⟨h d List.mem_cons_self,hh_ fun e he=>h e (List.mem_cons_of_mem _ he)⟩
theorem deepXk_le {n:Nat}:∀ {l:List (Key×Dx)},(∀ p∈l,p.2.deep≤n)→deepXk l≤n
 | [],_=>Nat.zero_le _
 | d :: r,h=>Nat.max_le.mpr ⟨h d List.mem_cons_self,deepXk_le fun e he=>h e (List.mem_cons_of_mem _ he)⟩
mutual
theorem Kd.x_sz:∀ (k:Kd),k.Fit→k.x.Sz∧k.x.deep≤3 * k.deep + 2
 | .num w m,h=>by
  simp only [Kd.x,Dx.Sz,szX,Dx.deep,deepX,Kd.deep,List.length_cons,List.length_nil]
  exact ⟨⟨by omega,trivial,trivial,trivial,trivial⟩,by decide⟩
 | .row k m,h=>by
  obtain ⟨a,b⟩:=Kd.x_sz k h.1
  simp only [Kd.x,Dx.Sz,szX,Dx.deep,deepX,Kd.deep,List.length_cons,List.length_nil]
  exact ⟨⟨by omega,trivial,a,trivial,trivial⟩,by omega⟩
 | .rcd fs,h=>by
  have z:=xF_sz fs h.1
  have hl:=h.2.2.1
  have e:deepX (xF fs)≤3 * deepF fs + 3:=hh_ fun d hd=>(z d hd).2
  simp only [Kd.x,Dx.Sz,szX,Dx.deep,deepX,Kd.deep,List.length_cons,List.length_nil]
  exact ⟨⟨by omega,trivial,⟨by rw [dl_,List.length_map]; omega,szX_of fun d hd=>(z d hd).1⟩,trivial⟩,by omega⟩
 | .cho ks,h=>by
  have z:=xK_sz ks h.1
  have hl:=h.2.2
  have e:deepX (xK ks)≤3 * deepK ks + 2:=hh_ fun d hd=>(z d hd).2
  simp only [Kd.x,Dx.Sz,szX,Dx.deep,deepX,Kd.deep,List.length_cons,List.length_nil]
  exact ⟨⟨by omega,trivial,⟨by rw [cu_,List.length_map]; omega,szX_of fun d hd=>(z d hd).1⟩,trivial⟩,by omega⟩
theorem xF_sz:∀ (fs:List (Str×Kd)),fitF fs→∀ d∈xF fs,d.Sz∧d.deep≤3 * deepF fs + 3
 | [],_,d,hd=>by simp [xF] at hd
 | f :: r,h,d,hd=>by
  obtain ⟨a,b⟩:=Kd.x_sz f.2 h.1.2
  simp only [xF] at hd
  have e:deepF (f :: r)=max f.2.deep (deepF r):=rfl
  rcases List.mem_cons.mp hd with rfl | hd
  ·simp only [Dx.Sz,szX,Dx.deep,deepX,List.length_cons,List.length_nil]
   exact ⟨⟨by omega,trivial,a,trivial⟩,by omega⟩
  ·obtain ⟨a',b'⟩:=xF_sz r h.2 d hd
   exact ⟨a',by omega⟩
theorem xK_sz:∀ (ks:List Kd),fitK ks→∀ d∈xK ks,d.Sz∧d.deep≤3 * deepK ks + 2
 | [],_,d,hd=>by simp [xK] at hd
 | k :: r,h,d,hd=>by
  obtain ⟨a,b⟩:=Kd.x_sz k h.1
  simp only [xK] at hd
  have e:deepK (k :: r)=max k.deep (deepK r):=rfl
  rcases List.mem_cons.mp hd with rfl | hd
  ·exact ⟨a,by omega⟩
  ·obtain ⟨a',b'⟩:=xK_sz r h.2 d hd
   exact ⟨a',by omega⟩
end
mutual
theorem Kd.vx_sz:∀ (kd:Kd) (vd:Vd),kd.Fit→kd.Val vd→(kd.vx vd).Sz∧(kd.vx vd).deep≤kd.deep
 | .num w m,vd,hf,hv=>by
  cases vd with
  | num i=>simp only [Kd.vx,Dx.Sz,Dx.deep,Kd.deep]; exact ⟨trivial,by omega⟩
  | _=>simp [Kd.Val] at hv
 | .row k m,vd,hf,hv=>by
  cases vd with
  | row vs =>
   simp only [Kd.Val] at hv
   have f3:=hf.2.2
   have z:∀ d∈vs.map k.vx,d.Sz∧d.deep≤k.deep:=fun d hd=>by
    obtain ⟨v,hm,rfl⟩:=List.mem_map.mp hd
    exact Kd.vx_sz k v hf.1 (hv.2 v hm)
   simp only [Kd.vx,Dx.Sz,Dx.deep,Kd.deep]
   have:=hh_ fun d hd=>(z d hd).2
   exact ⟨⟨by rw [List.length_map]; omega,szX_of fun d hd=>(z d hd).1⟩,by omega⟩
  | _=>simp [Kd.Val] at hv
 | .rcd fs,vd,hf,hv=>by
  cases vd with
  | rcd vs =>
   simp only [Kd.Val] at hv
   obtain ⟨f1,f2,f3,hnd⟩:=hf
   have hvl:=cy_ hv
   have z:=vxF_sz fs vs f1 hv
   simp only [Kd.vx,Dx.Sz,Dx.deep,Kd.deep]
   have hk:=ef_ hvl
   have hlen:(vxF fs vs).length=fs.length:=by have:=congrArg List.length hk; simpa using this
   have:=deepXk_le fun d hd=>(z d hd).2
   refine ⟨⟨by omega,?_,szXk_of fun d hd=>(z d hd).1⟩,by omega⟩
   rw [hk]
   have e:(fs.map fun f=>(Sum.inr f.1:Key))=(fs.map (·.1)).map (fun x:Str=>(Sum.inr x:Key)):=by rw [List.map_map]; rfl
   rw [e]
   exact List.Pairwise.map _ (fun a b h e=>h (Sum.inr.inj e)) hnd
  | _=>simp [Kd.Val] at hv
 | .cho ks,vd,hf,hv=>by
  cases vd with
  | cho jj v =>
   simp only [Kd.Val] at hv
   obtain ⟨k,hk,hvk⟩:=dr_ hv
   obtain ⟨a,b⟩:=vxK_sz ks hf.1 k (List.mem_of_getElem? hk) v hvk
   simp only [Kd.vx,Dx.Sz,Dx.deep,Kd.deep,szX,deepX,List.length_cons,List.length_nil]
   rw [hr_ hk]
   have:=Kd.deep_pos k
   have hle:=(fitKx hf.1 (List.mem_of_getElem? hk)).2
   exact ⟨⟨by omega,trivial,a,trivial⟩,by omega⟩
  | _=>simp [Kd.Val] at hv
theorem vxF_sz:∀ (fs:List (Str×Kd)) (vs:List Vd),fitF fs→valF fs vs→∀ p∈vxF fs vs,p.2.Sz∧p.2.deep≤deepF fs
 | [],_,_,_,p,h=>by simp [vxF] at h
 | _ :: _,[],_,h,_,_=>by simp [valF] at h
 | f :: r,v :: vs,hf,hv,p,h=>by
  simp only [valF] at hv
  simp only [vxF] at h
  have e:deepF (f :: r)=max f.2.deep (deepF r):=rfl
  rcases List.mem_cons.mp h with rfl | h
  ·obtain ⟨a,b⟩:=Kd.vx_sz f.2 v hf.1.2 hv.1
   exact ⟨a,Nat.le_trans b (by omega)⟩
  ·obtain ⟨a,b⟩:=vxF_sz r vs hf.2 hv.2 p h
   exact ⟨a,by omega⟩
theorem vxK_sz:∀ (ks:List Kd),fitK ks→∀ k∈ks,∀ v,k.Val v→(k.vx v).Sz∧(k.vx v).deep≤k.deep
 | [],_,k,h,_,_=>by simp at h
 | k' :: r,hf,k,h,v,hv=>by
  by_cases e:k=k'
  ·rw [e] at hv ⊢; exact Kd.vx_sz k' v hf.1 hv
  ·exact vxK_sz r hf.2 k ((List.mem_cons.mp h).resolve_left e) v hv
end
theorem ez_:∀ {rs:List (Int×Int)} {e:Int} {i:Nat} {r:Int×Int} {p:Int},Rms rs→rs[i]? = some r→(plcs e rs)[i]? = some p→p + r.1≤lastEnd e rs∧e≤p
 | [],_,_,_,_,_,h,_=>by simp at h
 | s :: rs,e,0,r,p,hR,h,hp=>by
  simp at h
  subst h
  have hp':up e s.2=p:=by have:(up e s.2 :: plcs (up e s.2 + s.1) rs)[0]? = some p:=hp; simpa using this
  obtain ⟨a,b⟩:=hR s List.mem_cons_self
  have g:=dj_ (rs:=rs) (e:=up e s.2 + s.1) fun x hx=>hR x (List.mem_cons_of_mem _ hx)
  have u:=(an_ (n:=e) b).1
  show p + s.1≤lastEnd (up e s.2 + s.1) rs∧_
  omega
 | s :: rs,e,i + 1,r,p,hR,h,hp=>by
  obtain ⟨a,b⟩:=hR s List.mem_cons_self
  have hp':(plcs (up e s.2 + s.1) rs)[i]? = some p:=by have:(up e s.2 :: plcs (up e s.2 + s.1) rs)[i + 1]? = some p:=hp; simpa using this
  obtain ⟨x,y⟩:=ez_ (rs:=rs) (i:=i) (fun x hx=>hR x (List.mem_cons_of_mem _ hx)) (by simpa using h) hp'
  have u:=(an_ (n:=e) b).1
  exact ⟨x,by omega⟩
theorem if_ (g:Vd→List Int) (step:Nat):∀ (vs:List Vd) (v:Vd) (j:Nat) (l:List Int),layRow g step j (vs ++ [v]) l=lay (layRow g step j vs l) ((j + vs.length) * step) (g v)
 | [],v,j,l=>by simp [layRow]
 | u :: vs,v,j,l=>by
  show layRow g step (j + 1) (vs ++ [v]) _=lay (layRow g step (j + 1) vs _) _ _
  rw [if_ g step vs v (j + 1),List.length_cons,show j + 1 + vs.length=j + (vs.length + 1) by omega]
theorem bytF_snoc:∀ {ps:List Int} {fs:List (Str×Kd)} {vs:List Vd} {p:Int} {f:Str×Kd} {v:Vd} {l:List Int},ps.length=fs.length→vs.length=fs.length→bytF (ps ++ [p]) (fs ++ [f]) (vs ++ [v]) l=lay (bytF ps fs vs l) p.toNat (f.2.byt v)
 | [],[],[],_,_,_,_,_,_=>by simp [bytF]
 | q :: ps,g :: fs,u :: vs,p,f,v,l,h,h'=>by
  show bytF (ps ++ [p]) (fs ++ [f]) (vs ++ [v]) _=lay (bytF ps fs vs _) _ _
  exact bytF_snoc (by simpa using h) (by simpa using h')
 | [],_ :: _,_,_,_,_,_,h,_=>by simp at h
 | _ :: _,[],_,_,_,_,_,h,_=>by simp at h
 | _,[],_ :: _,_,_,_,_,_,h=>by simp at h
 | _,_ :: _,[],_,_,_,_,_,h=>by simp at h
theorem ixN_inX {n:Nat} {k:Int} (h0:0≤k) (h1:k < n):ixN n k=some k.toNat:=by
 unfold ixN
 rw [if_pos h0,if_pos h1]
theorem db_ {α:Type} {l:List α} {i:Nat} {a:α} {as:List α} (h:a :: as=l.drop i):l[i]? = some a∧as=l.drop (i + 1):=by
 have h1:(l.drop i)[0]? = some a:=by rw [← h]; rfl
 rw [List.getElem?_drop,Nat.add_zero] at h1
 refine ⟨h1,?_⟩
 have h2:(l.drop i).tail=as:=by rw [← h]; rfl
 rw [List.tail_drop] at h2
 exact h2.symm
theorem enuX_map {α:Type} (f:α→Dx) (l:List α):enuX (l.map f)=((List.range l.length).zip l).map fun p=>.tup [.int (0 + (p.1:Int)),f p.2]:=by
 unfold enuX rngX
 rw [List.length_map,dp_]
theorem rng_zip {α:Type} {l:List α} {i:Nat} {p:Nat×α} (h:((List.range l.length).zip l)[i]? = some p):p.1=i∧l[i]? = some p.2:=by
 obtain ⟨h1,h2⟩:=List.getElem?_zip_eq_some.mp h
 have hi:=(List.getElem?_eq_some_iff.mp h2).1
 rw [List.getElem?_range hi] at h1
 exact ⟨by simpa using h1.symm,h2⟩
theorem co_ {α:Type} {l:List α} {i:Nat} {x:α} (h:l[i]? = some x):l.take (i + 1)=l.take i ++ [x]:=by
 rw [List.take_succ,h]; rfl
def gNB:GC:=fun ds Q => ∃ w n:Int,ds=[.int w,.int n]∧0≤w∧w≤100∧Q (.ol ((numB w.toNat n).map Dx.int))
def gLAY:GB:=fun l ds Q => ∃ (xs ys:List Int) (p:Int),l=xs.map Dx.int∧ds=[.int p,.lst (ys.map Dx.int)]∧0≤p∧p + (ys.length:Int)≤(xs.length:Int)∧xs.length≤100000∧Q .non ((lay xs p.toNat ys).map Dx.int)
def gLB (n:Nat):GC:=fun ds Q => ∃ (kd:Kd) (vd:Vd) (d:Dx),ds=[kd.x,d]∧kd.isv vd d∧kd.Fit∧kd.Val vd∧kd.deep≤n∧n≤12∧kd.rm.1≤100000∧Q (.ol ((kd.byt vd).map Dx.int))
section
variable {P:Program} {w:World} {K:FG_} {mg:MG_} {base:Heap} {f:Addr} {fd:FuncData} {n j jR jP:Nat}
theorem okx_nb (F:Fun K "number_bytes" "number_bytes" cw_ f fd) (c_HOW_MANY_BYTES:∃ t,mg "HOW_MANY_BYTES" = some (.int 256 t)) (m_range:mg "range" = none):FnOk P w K mg base CX0 1 f fd ["w", "value"] (spX gNB):=by
 refine fv_ F sc_number_bytes (fun ds Q h=>by obtain ⟨_,_,rfl,_⟩:=h; rfl) (by decide) fun cdv A outer s H E hr => ?_
 refine ⟨_,(ae_ (ag_ fun F=>ak_ (i:=2) sc_number_bytes.nd rfl (Or.inl rfl) (XE.at (Ex:=noEx) F (bq_ ad_)))
  (ae_ (ag_ fun F=>ak_ (i:=3) sc_number_bytes.nd rfl (Or.inl rfl) (XE.at (Ex:=noEx) F (ab_ (pv 1))))
  (ae_ (dc_ PassesOwn.never rfl (cc_ m_range (aa_ (ab_ (pv 0)) ad_)) (aj_ (i:=4) sc_number_bytes.nd rfl (Or.inl rfl)) (bb_ (n:=99) (i:=4) (by decide)) (ae_ (fb_ fun F=>PS.weak (dw_ (pe_bm PySem.F.plainAttrs_list PySem.F.slot_list_append PySem.F.type_list_append er_ (pv 2) (as_ (XE.at (Ex:=noEx) F (gp_ (ab_ (pv 3)) (xe_glob (by rfl) c_HOW_MANY_BYTES))) cb_))) tApp_x)
  (af_ (ag_ fun F=>ak_ (i:=3) sc_number_bytes.nd rfl (Or.inl rfl) (XE.at (Ex:=noEx) F (hm_ (ab_ (pv 3)) (xe_glob (by rfl) c_HOW_MANY_BYTES)))))))
  (af_ (ap_ (ch_ (pv 2))))))),fun ds Q h => ?_⟩
 obtain ⟨w,i,rfl,h0,h1,q⟩:=h
 refine ⟨Nat.zero_le _,⟨by omega,by omega⟩,?_⟩
 refine bo_ (fun k:Nat=>Dx.int (0 + (k:Int))) (fun rest ρ => ∃ (c:Nat) (y:Sl),c + rest.length=w.toNat∧ρ=[.v (.tr (.int w)),.v (.tr (.int i)),.v (.ol ((numB c i).map Dx.int)),.v (.tr (.int (i / 256 ^ c))),y]) (fun ρ h => ?_) (fun k rest ρ Kn h hk => ?_) ⟨0,.un,by rw [List.length_range]; simp,by simp only [numB,Int.pow_zero,Int.ediv_one]; rfl⟩
 ·obtain ⟨c,y,e,rfl⟩:=h
  rw [List.length_nil,Nat.add_zero] at e
  subst e
  exact q
 ·obtain ⟨c,y,e,rfl⟩:=h
  rw [List.length_cons] at e
  refine ⟨rfl,show (0:Int) < 256 by decide,⟨by rw [List.length_map,ft_]; omega,⟨by decide,by decide⟩,hk _ ⟨c + 1,.v (.tr (.int (0 + (k:Int)))),by omega,?_⟩⟩⟩
  rw [ia_,List.map_append,Int.pow_succ,← Int.ediv_ediv_of_nonneg (Int.pow_nonneg (by decide))]
  rfl
theorem okx_lay (F:Fun K "lay" "lay" s_lay f fd) (m_enumerate:mg "enumerate" = none):FnOk P w K mg base CX0 1 f fd ["laid", "place", "some"] (spB gLAY):=by
 refine fn_b F sc_lay (fun l ds Q h=>by obtain ⟨_,_,_,_,rfl,_⟩:=h; rfl) (by decide) fun cdv A outer s H E hr => ?_
 refine ⟨_,(af_ (dc_ PassesOwn.never rfl (xi_enum m_enumerate (aa_ (ab_ (pv 2)) ad_)) (hy_ rfl (ar_ (aj_ (i:=3) sc_lay.nd rfl (Or.inl rfl)) (ar_ (aj_ (i:=4) sc_lay.nd rfl (Or.inl rfl)) cj_))) (et_ (n:=99) (is:=[3,4]) rfl (by decide)) (af_ (fb_ fun F=>PS.weak (ps_asg (XE.at (Ex:=noEx) F (ab_ (pv 4))) (pg_sub (pv 0) (XE.at (Ex:=noEx) F (be_ (ab_ (pv 1)) (ab_ (pv 3)))) fn_)) tSetI_x)))),fun l ds Q h => ?_⟩
 obtain ⟨xs,ys,p,rfl,rfl,h0,h1,h2,q⟩:=h
 show forX _ _ _ (enuX (ys.map Dx.int)) _
 rw [enuX_map]
 refine bo_ _ (fun rest ρ => ∃ (i:Nat) (y3 y4:Sl),rest=((List.range ys.length).zip ys).drop i∧i≤ys.length∧ρ=[.bw ((lay xs p.toNat (ys.take i)).map Dx.int),.v (.tr (.int p)),.v (.tr (.lst (ys.map Dx.int))),y3,y4]) (fun ρ h => ?_) (fun a rest ρ Kn h hk => ?_) ⟨0,.un,.un,rfl,Nat.zero_le _,by rw [List.take_zero,lay_nil]; rfl⟩
 ·obtain ⟨i,y3,y4,e,hi,rfl⟩:=h
  have hz:((List.range ys.length).zip ys).length=ys.length:=by rw [List.length_zip,List.length_range]; omega
  have hge:=List.drop_eq_nil_iff.mp e.symm
  rw [hz] at hge
  have:i=ys.length:=by omega
  subst this
  rw [List.take_length]
  exact q
 ·obtain ⟨i,y3,y4,e,hi,rfl⟩:=h
  obtain ⟨e1,e2⟩:=db_ e
  obtain ⟨e3,e4⟩:=rng_zip e1
  have hil:=(List.getElem?_eq_some_iff.mp e4).1
  have hlen:((lay xs p.toNat (ys.take i)).map Dx.int).length=xs.length:=by rw [List.length_map,dz_]
  have htl:(ys.take i).length=i:=by rw [List.length_take]; omega
  have hix:ixN ((lay xs p.toNat (ys.take i)).map Dx.int).length (p + (0 + (a.1:Int)))=some (p.toNat + i):=by
   rw [ixN_inX (by omega) (by rw [hlen]; omega)]
   congr 1
   omega
  have hk':=hk [.bw ((lay xs p.toNat (ys.take (i + 1))).map Dx.int),.v (.tr (.int p)),.v (.tr (.lst (ys.map Dx.int))),.v (.tr (.int (0 + (a.1:Int)))),.v (.tr (.int a.2))] ⟨i + 1,_,_,e2,hil,rfl⟩
  rw [co_ e4,lay_snoc (by rw [htl]; omega),htl,List.map_set] at hk'
  simp only [xSeq,xNext,xOp,xVar,xRet,xCons,xNil,xFor,xSetI,addX,gxT,gxs,retB,lentEnd,startX,startB,dy_,dx_,len3,at10,at20,at21,at30,at31,at32,at40,at41,at42,at43,ix30,ix31,ix32,List.getElem?_cons_zero,List.getElem?_cons_succ,List.set_cons_zero,List.set_cons_succ,Sv.d,List.map_cons,List.map_nil,Option.bind_some,Option.isSome_some,List.cons_append,List.nil_append,List.length_cons,List.length_nil,List.replicate_succ,List.replicate_zero,Nat.reduceAdd,Nat.reduceSub,Nat.reduceLeDiff,true_and,decide_eq_true_eq,cut,caps,back,Option.getD_some,if_true,↓reduceIte,List.drop_succ_cons,List.drop_zero,hix]
  exact hk'
end
section
variable {P:Program} {w:World} {K:FG_} {mg:MG_} {base:Heap} {f:Addr} {fd:FuncData} {n j jR jP jI:Nat}
theorem okx_lb (F:Fun K "laid_bytes" "laid_bytes" dv_ f fd) (CNB:Cal P w K mg base 1 "number_bytes" ["w", "value"] (spX gNB)) (CRO:Cal P w K mg base jR "room_of" ["kind"] (spX (gRO (n + 1)))) (CSO:Cal P w K mg base 2 "step_of" ["room"] (spX gSO)) (CPO:Cal P w K mg base jP "places_in_order" ["fields"] (spX (gPO n))) (CCA:Cal P w K mg base 2 "chosen_at" ["multiple"] (spX gCA)) (CLAY:Cal P w K mg base 1 "lay" ["laid", "place", "some"] (spB gLAY)) (CLB:Cal P w K mg base j "laid_bytes" ["kind", "value"] (spX (gLB n))) (m_zip:mg "zip" = none) (m_enumerate:mg "enumerate" = none) (hR:jR≤j) (hP:jP≤j) (h2j:2≤j) :
  FnOk P w K mg base CX0 (j + 1) f fd ["kind", "value"] (spX (gLB (n + 1))):=by
 refine fv_ F sc_laid_bytes (fun ds Q h=>by obtain ⟨_,_,_,rfl,_⟩:=h; rfl) (by decide) fun cdv A outer s H E hr => ?_
 have hu1:=en_ hr
 have hu0:=Nat.lt_of_succ_lt hu1
 refine ⟨_,(ae_ (br_ (bc_ (bn_ K hu0) cr_ (am_ K (ab_ (pv 0)) ac_ (fun _ _=>rfl)) bt_ (nomark _)) (af_ (ap_ (ai_ CNB (hr.mono (by omega)) (aa_ (am_ K (ab_ (pv 0)) ac_ (fun _ _=>rfl)) (aa_ (ab_ (pv 1)) ad_))))) au_)
  (ae_ (ag_ fun F=>ak_ (i:=2) sc_laid_bytes.nd rfl (Or.inl rfl) (XE.at (Ex:=noEx) F (cp_ (bq_ (aa_ ac_ ad_)) (am_ K (ai_ CRO (hr.mono (by omega)) (aa_ (ab_ (pv 0)) ad_)) ac_ (fun _ _=>rfl)))))
  (ae_ (br_ (bc_ (bn_ K hu0) cr_ (am_ K (ab_ (pv 0)) ac_ (fun _ _=>rfl)) bt_ (nomark _)) (ae_ (ag_ fun F=>ak_ (i:=3) sc_laid_bytes.nd rfl (Or.inl rfl) (XE.at (Ex:=noEx) F (ai_ CSO (hr.mono (by omega)) (aa_ (ai_ CRO (hr.mono (by omega)) (aa_ (am_ K (ab_ (pv 0)) ac_ (fun _ _=>rfl)) ad_)) ad_))))
  (af_ (dc_ PassesOwn.never rfl (xi_enum m_enumerate (aa_ (ab_ (pv 1)) ad_)) (hy_ rfl (ar_ (aj_ (i:=4) sc_laid_bytes.nd rfl (Or.inl rfl)) (ar_ (aj_ (i:=5) sc_laid_bytes.nd rfl (Or.inl rfl)) cj_))) (et_ (n:=99) (is:=[4,5]) rfl (by decide)) (af_ (xs_expr (ao_ (i:=2) CLAY (hr.mono (by omega)) (pv 2) (aa_ (cp_ (ab_ (pv 4)) (ab_ (pv 3))) (aa_ (ai_ CLB (hr.mono (by omega)) (aa_ (am_ K (ab_ (pv 0)) ac_ (fun _ _=>rfl)) (aa_ (ab_ (pv 5)) ad_))) ad_)))))))) (af_ (br_ (bc_ (bn_ K hu0) cr_ (am_ K (ab_ (pv 0)) ac_ (fun _ _=>rfl)) bt_ (nomark _)) (af_ (dc_ PassesOwn.never rfl (xi_zip m_zip (aa_ (am_ K (ab_ (pv 0)) ac_ (fun _ _=>rfl)) (aa_ (ai_ CPO (hr.mono (by omega)) (aa_ (am_ K (ab_ (pv 0)) ac_ (fun _ _=>rfl)) ad_)) ad_))) (hy_ rfl (ar_ (aj_ (i:=6) sc_laid_bytes.nd rfl (Or.inl rfl)) (ar_ (aj_ (i:=7) sc_laid_bytes.nd rfl (Or.inl rfl)) cj_))) (et_ (n:=99) (is:=[6,7]) rfl (by decide)) (af_ (xs_expr (ao_ (i:=2) CLAY (hr.mono (by omega)) (pv 2) (aa_ (am_ K (ab_ (pv 7)) ac_ (fun _ _=>rfl)) (aa_ (ai_ CLB (hr.mono (by omega)) (aa_ (am_ K (ab_ (pv 6)) ac_ (fun _ _=>rfl)) (aa_ (hn_ hu1 (ab_ (pv 1)) (am_ K (ab_ (pv 6)) ac_ (fun _ _=>rfl)) (fun _ _=>rfl)) ad_))) ad_))))))) (ae_ (fb_ fun F=>PS.weak (ps_asg (XE.at (Ex:=noEx) F (am_ K (ab_ (pv 1)) ac_ (fun _ _=>rfl))) (pg_sub (pv 2) (XE.at (Ex:=noEx) F ac_) fn_)) tSetI_x)
  (af_ (xs_expr (ao_ (i:=2) CLAY (hr.mono (by omega)) (pv 2) (aa_ (ai_ CCA (hr.mono (by omega)) (aa_ (am_ K (ai_ CRO (hr.mono (by omega)) (aa_ (ab_ (pv 0)) ad_)) ac_ (fun _ _=>rfl)) ad_)) (aa_ (ai_ CLB (hr.mono (by omega)) (aa_ (am_ K (am_ K (ab_ (pv 0)) ac_ (fun _ _=>rfl)) (am_ K (ab_ (pv 1)) ac_ (fun _ _=>rfl)) (fun _ _=>rfl)) (aa_ (am_ K (ab_ (pv 1)) ac_ (fun _ _=>rfl)) ad_))) ad_)))))))))
  (af_ (ap_ (ch_ (pv 2))))))),fun ds Q h => ?_⟩
 clear hu0 hu1 hR hP h2j
 obtain ⟨kd,vd,d,rfl,hi,hfit,hval,hdp,hn,hrm,q⟩:=h
 change xSeq _ _ [.v (.tr kd.x),.v (.tr d),.un,.un,.un,.un,.un,.un] _
 by_cases isnum:∃ wd m,kd=.num wd m
 ·obtain ⟨wd,m,rfl⟩:=isnum
  cases vd with
  | num i =>
   obtain ⟨a1,a2,_⟩:=hfit
   simp only [Kd.isv] at hi
   subst hi
   simp only [Kd.byt] at q
   exact ⟨wd,i,rfl,by omega,by omega,q⟩
  | _=>simp [Kd.Val] at hval
 ·have hnum:∀ Q:Bool→En→Prop,Q false [.v (.tr kd.x),.v (.tr d),.un,.un,.un,.un,.un,.un]→(xB (xOp eqX (xOp ixX (xVar 0) (xC (.int 0))) (xC (.str "number")))) [.v (.tr kd.x),.v (.tr d),.un,.un,.un,.un,.un,.un] Q:=by
   cases kd with
   | num wd m=>exact absurd ⟨wd,m,rfl⟩ isnum
   | row k m=>exact fun Q q=>q
   | rcd fs=>exact fun Q q=>q
   | cho ks=>exact fun Q q=>q
  refine fg_ hnum ?_
  obtain ⟨b0,b1,b2,b3⟩:=kd.bd hfit.ok
  refine ⟨len1,kd,rfl,hfit.ok,hdp,hn,⟨by omega,by omega,by show 1 * _≤_; omega⟩,?_⟩
  rw [zerosX]
  dsimp only
  change xSeq _ _ [.v (.tr kd.x),.v (.tr d),.v (.ol ((List.replicate kd.rm.1.toNat (0:Int)).map Dx.int)),.un,.un,.un,.un,.un] _
  refine gw_ (fun ρ => ∃ y3 y4 y5 y6 y7,ρ=[.v (.tr kd.x),.v (.tr d),.v (.ol ((kd.byt vd).map Dx.int)),y3,y4,y5,y6,y7]) ?_ (fun D' hD => ?_)
  ·rintro ρ ⟨y3,y4,y5,y6,y7,rfl⟩
   exact q
  ·cases kd with
   | num wd m=>exact absurd ⟨wd,m,rfl⟩ isnum
   | row k m =>
    cases vd with
    | row vs =>
     have hdp':k.deep + 1≤n + 1:=hdp
     obtain ⟨f1,f2,f3⟩:=hfit
     simp only [Kd.Val] at hval
     simp only [Kd.isv] at hi
     obtain ⟨ds,rfl,ha⟩:=hi
     have hl:ds.length=vs.length:=ha.len
     obtain ⟨c0,c1,c2,c3⟩:=bd12 (n:=n) f1.ok (by omega) (by omega)
     obtain ⟨u1,u2⟩:=an_ (n:=k.rm.1) (m:=k.rm.2) (by omega)
     have hst:((up k.rm.1 k.rm.2).toNat:Int)=up k.rm.1 k.rm.2:=Int.toNat_of_nonneg (by omega)
     have hR':(Kd.row k m).rm.1=m * up k.rm.1 k.rm.2:=rfl
     have hRn:(m * up k.rm.1 k.rm.2).toNat=vs.length * (up k.rm.1 k.rm.2).toNat:=by
      have:m * up k.rm.1 k.rm.2=((vs.length * (up k.rm.1 k.rm.2).toNat:Nat):Int):=by rw [← hval.1]; push_cast; rw [hst]
      rw [this,Int.toNat_natCast]
     have hup:up k.rm.1 k.rm.2≤100000:=by
      have:1 * up k.rm.1 k.rm.2≤m * up k.rm.1 k.rm.2:=Int.mul_le_mul_of_nonneg_right (by omega) (by omega)
      rw [hR'] at hrm
      omega
     have hRle:vs.length * (up k.rm.1 k.rm.2).toNat≤100000:=by rw [← hRn]; rw [hR'] at hrm; omega
     rw [hR',hRn]
     refine ⟨k,rfl,f1.ok,by omega,by omega,k.rm,rfl,c0,by omega,by omega,by omega,?_⟩
     generalize hS:(up k.rm.1 k.rm.2).toNat=S at *
     have ez:ds=(vs.zip ds).map (·.2):=by rw [List.map_snd_zip (by omega)]
     have een:enuX ds=((List.range (vs.zip ds).length).zip (vs.zip ds)).map fun p=>.tup [.int (0 + (p.1:Int)),p.2.2]:=by
      conv=>lhs; rw [ez]
      rw [enuX_map]
     have hzl:(vs.zip ds).length=vs.length:=by rw [List.length_zip]; omega
     show forX _ _ _ (enuX ds) _
     rw [een]
     refine bo_ _ (fun rest ρ => ∃ (i:Nat) (y4 y5:Sl),rest=((List.range (vs.zip ds).length).zip (vs.zip ds)).drop i∧i≤vs.length∧ρ=[.v (.tr (Kd.row k m).x),.v (.tr (.lst ds)),.v (.ol ((layRow k.byt S 0 (vs.take i) (List.replicate (vs.length * S) 0)).map Dx.int)),.v (.tr (.int (up k.rm.1 k.rm.2))),y4,y5,.un,.un]) (fun ρ h => ?_) (fun a rest ρ Kn h hk => ?_) ⟨0,.un,.un,rfl,Nat.zero_le _,rfl⟩
     ·obtain ⟨i,y4,y5,e,hi,rfl⟩:=h
      have hge:=List.drop_eq_nil_iff.mp e.symm
      rw [List.length_zip,List.length_range,hzl] at hge
      have:i=vs.length:=by omega
      subst this
      refine hD _ ⟨.v (.tr (.int (up k.rm.1 k.rm.2))),y4,y5,.un,.un,?_⟩
      simp only [Kd.byt]
      rw [List.take_length,hRn,hS]
     ·obtain ⟨i,y4,y5,e,hi,rfl⟩:=h
      obtain ⟨e1,e2⟩:=db_ e
      obtain ⟨e3,e4⟩:=rng_zip e1
      obtain ⟨e5,e6⟩:=List.getElem?_zip_eq_some.mp e4
      have hil:=(List.getElem?_eq_some_iff.mp e5).1
      have hva:=hval.2 a.2.1 (List.mem_of_getElem? e5)
      have hia:=all2_zip ha a.2 (List.mem_of_getElem? e4)
      have bl:(k.byt a.2.1).length=k.rm.1.toNat:=Kd.byt_len hva
      have hmul:(i + 1) * S≤vs.length * S:=Nat.mul_le_mul_right _ hil
      rw [Nat.add_mul,Nat.one_mul] at hmul
      have hcast:(0 + (a.1:Int)) * up k.rm.1 k.rm.2=((i * S:Nat):Int):=by rw [e3,Int.zero_add,← hst]; push_cast; rfl
      have htl:(vs.take i).length=i:=by rw [List.length_take]; omega
      refine ⟨rfl,⟨by omega,by omega⟩,k,a.2.1,a.2.2,rfl,hia,f1,hva,by omega,by omega,by omega,layRow k.byt S 0 (vs.take i) (List.replicate (vs.length * S) 0),k.byt a.2.1,(0 + (a.1:Int)) * up k.rm.1 k.rm.2,rfl,rfl,by rw [hcast]; omega,by rw [hcast,ed_,List.length_replicate,bl]; omega,by rw [ed_,List.length_replicate]; exact hRle,hk _ ⟨i + 1,.v (.tr (.int (0 + (a.1:Int)))),.v (.tr a.2.2),e2,hil,?_⟩⟩
      rw [hcast,Int.toNat_natCast,co_ e5,if_,htl,Nat.zero_add]
      rfl
    | _=>simp [Kd.Val] at hval
   | rcd fs =>
    cases vd with
    | rcd vs =>
     have hdp':deepF fs + 1≤n + 1:=hdp
     obtain ⟨f1,f2,f3,hnd⟩:=hfit
     simp only [Kd.Val] at hval
     simp only [Kd.isv] at hi
     obtain ⟨kvs,rfl,hl,hks,ha⟩:=hi
     have hvl:=cy_ hval
     have hok:=ip_ fs f1
     have hb:=bdF12 (n:=n) hok (by omega) (by omega)
     have hRms:Rms (rmF fs):=fun r hr=>⟨(hb r hr).1,by have:=(hb r hr).2.2.1; omega⟩
     obtain ⟨x0,x1⟩:=mx_bd hb
     obtain ⟨u1,u2⟩:=an_ (n:=lastEnd 0 (rmF fs)) (m:=maxL 1 ((rmF fs).map (·.2))) (by omega)
     have hR':(Kd.rcd fs).rm.1=up (lastEnd 0 (rmF fs)) (maxL 1 ((rmF fs).map (·.2))):=rfl
     have hlr:(rmF fs).length=fs.length:=lenF fs
     have hpl:(plcs 0 (rmF fs)).length=fs.length:=by rw [dn_,hlr]
     refine ⟨fs,rfl,hok,by omega,by omega,by omega,?_⟩
     have exf:xF fs=(fs.zip vs).map fun p=>.tup [.str p.1.1,p.1.2.x]:=by
      rw [dl_]
      have:fs=(fs.zip vs).map (·.1):=by rw [List.map_fst_zip (by omega)]
      conv=>lhs; rw [this]
      rw [List.map_map]
      rfl
     show forX _ _ _ (zipX (xF fs) ((fs.zip (plcs 0 (rmF fs))).map fun x=>.tup [.str x.1.1,.int x.2])) _
     rw [exf,dp_]
     have hzl:((fs.zip vs).zip (fs.zip (plcs 0 (rmF fs)))).length=fs.length:=by rw [List.length_zip,List.length_zip,List.length_zip]; omega
     refine bo_ _ (fun rest ρ => ∃ (i:Nat) (y6 y7:Sl),rest=((fs.zip vs).zip (fs.zip (plcs 0 (rmF fs)))).drop i∧i≤fs.length∧ρ=[.v (.tr (Kd.rcd fs).x),.v (.tr (.dic kvs)),.v (.ol ((bytF ((plcs 0 (rmF fs)).take i) (fs.take i) (vs.take i) (List.replicate (Kd.rcd fs).rm.1.toNat 0)).map Dx.int)),.un,.un,.un,y6,y7]) (fun ρ h => ?_) (fun a rest ρ Kn h hk => ?_) ⟨0,.un,.un,rfl,Nat.zero_le _,by simp only [List.take_zero,bytF]; rfl⟩
     ·obtain ⟨i,y6,y7,e,hi,rfl⟩:=h
      have hge:=List.drop_eq_nil_iff.mp e.symm
      rw [hzl] at hge
      have:i=fs.length:=by omega
      subst this
      refine hD _ ⟨.un,.un,.un,y6,y7,?_⟩
      simp only [Kd.byt]
      have t1:(plcs 0 (rmF fs)).take fs.length=plcs 0 (rmF fs):=List.take_of_length_le (by omega)
      have t2:vs.take fs.length=vs:=List.take_of_length_le (by omega)
      rw [t1,t2,List.take_length]
      rfl
     ·obtain ⟨i,y6,y7,e,hi,rfl⟩:=h
      obtain ⟨e1,e2⟩:=db_ e
      obtain ⟨e3,e4⟩:=List.getElem?_zip_eq_some.mp e1
      obtain ⟨e5,e6⟩:=List.getElem?_zip_eq_some.mp e3
      obtain ⟨e7,e8⟩:=List.getElem?_zip_eq_some.mp e4
      have hil:=(List.getElem?_eq_some_iff.mp e5).1
      obtain ⟨x,hx,hix⟩:=isvF_mem ha (List.mem_of_getElem? e3)
      obtain ⟨o1,o2,o3⟩:=valF_mem hok hval (List.mem_of_getElem? e3)
      have ff:=(fitFx f1 (List.mem_of_getElem? e5)).1
      obtain ⟨l1,l2⟩:=ez_ (e:=0) hRms (rmF_at e5) e8
      have bl:(a.1.1.2.byt a.1.2).length=a.1.1.2.rm.1.toNat:=Kd.byt_len o2
      have hb0:=(hb _ (List.mem_of_getElem? (rmF_at e5))).1
      have hk':=hk [.v (.tr (Kd.rcd fs).x),.v (.tr (.dic kvs)),.v (.ol ((bytF ((plcs 0 (rmF fs)).take (i + 1)) (fs.take (i + 1)) (vs.take (i + 1)) (List.replicate (Kd.rcd fs).rm.1.toNat 0)).map Dx.int)),.un,.un,.un,.v (.tr (.tup [.str a.1.1.1,a.1.1.2.x])),.v (.tr (.tup [.str a.2.1.1,.int a.2.2]))] ⟨i + 1,_,_,e2,hil,rfl⟩
      rw [co_ e5,co_ e6,co_ e8,bytF_snoc (by rw [List.length_take,List.length_take]; omega) (by rw [List.length_take,List.length_take]; omega)] at hk'
      simp only [xSeq,xNext,xIf,xB,xOp,xVar,xMove,xC,xSet,xRet,xExp,xCall,xCallB,xCons,xNil,xLst,xFor,xSetI,ixX,dgX,mulX,eqX,eqS,gxT,gxs,retB,lentEnd,startX,startB,dy_,dx_,len3,at10,at20,at21,at30,at31,at32,at40,at41,at42,at43,ix30,ix31,ix32,List.getElem?_cons_zero,List.getElem?_cons_succ,List.set_cons_zero,List.set_cons_succ,Sv.d,List.map_cons,List.map_nil,Option.bind_some,Option.isSome_some,List.cons_append,List.nil_append,List.length_cons,List.length_nil,List.replicate_succ,List.replicate_zero,Nat.reduceAdd,Nat.reduceSub,Nat.reduceLeDiff,true_and,decide_eq_true_eq,cut,caps,back,Option.getD_some,if_true,↓reduceIte,List.drop_succ_cons,List.drop_zero,keyD,hx,Kd.x]
      exact ⟨a.1.1.2,a.1.2,x,rfl,hix,ff,o2,by omega,by omega,by omega,_,_,a.2.2,rfl,rfl,l2,by rw [ga_,List.length_replicate,bl]; omega,by rw [ga_,List.length_replicate]; omega,hk'⟩
    | _=>simp [Kd.Val] at hval
   | cho ks =>
    cases vd with
    | cho jj v =>
     have hdp':deepK ks + 1≤n + 1:=hdp
     have hf':=hfit
     obtain ⟨f1,f2,f3⟩:=hfit
     have hval':=hval
     simp only [Kd.Val] at hval
     simp only [Kd.isv] at hi
     obtain ⟨u,rfl,ha⟩:=hi
     obtain ⟨k,hk,hik⟩:=isvK_at ha
     obtain ⟨kf,kdp⟩:=fitKx f1 (List.mem_of_getElem? hk)
     have hvk:=valK_mem hval hk
     have hok:=fitK_ok ks f1
     have hb:=bdK12 (n:=n) hok (by omega) (by omega)
     obtain ⟨x0,x1⟩:=mx_bd hb
     have hrk:k.rm∈rmK ks:=List.mem_of_getElem? (rmK_at hk)
     have hl1:k.rm.1≤maxL 0 ((rmK ks).map (·.1)):=gi_ (List.mem_map_of_mem hrk)
     obtain ⟨u1,u2⟩:=an_ (n:=up 1 (maxL 1 ((rmK ks).map (·.2))) + maxL 0 ((rmK ks).map (·.1))) (m:=maxL 1 ((rmK ks).map (·.2))) (by omega)
     rw [ff_ x0] at u1 u2
     have hk0:=(hb _ hrk).1
     have bl:(k.byt v).length=k.rm.1.toNat:=Kd.byt_len hvk
     have eR:(Kd.cho ks).rm.1=up (maxL 1 ((rmK ks).map (·.2)) + maxL 0 ((rmK ks).map (·.1))) (maxL 1 ((rmK ks).map (·.2))):=by show up (up 1 _ + _) _=_; rw [ff_ x0]
     have eM:(Kd.cho ks).rm.2=maxL 1 ((rmK ks).map (·.2)):=rfl
     have eu:up 1 (Kd.cho ks).rm.2=(Kd.cho ks).rm.2:=by rw [eM]; exact ff_ x0
     have hxk:(xK ks)[jj]? = some k.x:=by rw [cu_,List.getElem?_map,hk]; rfl
     have hat:=fl_ hxk
     have hlen:((List.replicate (Kd.cho ks).rm.1.toNat (0:Int)).map Dx.int).length=(Kd.cho ks).rm.1.toNat:=by rw [List.length_map,List.length_replicate]
     have hix:ixN ((List.replicate (Kd.cho ks).rm.1.toNat (0:Int)).map Dx.int).length 0=some 0:=by rw [ixN_inX (by decide) (by rw [hlen]; omega)]; rfl
     refine ⟨rfl,?_⟩
     simp only [xSeq,xNext,xIf,xB,xOp,xVar,xMove,xC,xSet,xRet,xExp,xCall,xCallB,xCons,xNil,xLst,xFor,xSetI,ixX,dgX,mulX,eqX,eqS,gxT,gxs,retB,lentEnd,startX,startB,dy_,dx_,len3,at10,at20,at21,at30,at31,at32,at40,at41,at42,at43,ix30,ix31,ix32,List.getElem?_cons_zero,List.getElem?_cons_succ,List.set_cons_zero,List.set_cons_succ,Sv.d,List.map_cons,List.map_nil,Option.bind_some,Option.isSome_some,List.cons_append,List.nil_append,List.length_cons,List.length_nil,List.replicate_succ,List.replicate_zero,Nat.reduceAdd,Nat.reduceSub,Nat.reduceLeDiff,true_and,decide_eq_true_eq,cut,caps,back,Option.getD_some,if_true,↓reduceIte,List.drop_succ_cons,List.drop_zero,hix,hat,Kd.x]
     refine ⟨.cho ks,rfl,hf'.ok,hdp,hn,(Kd.cho ks).rm.2,rfl,by rw [eM]; omega,by rw [eM]; omega,k,v,u,rfl,hik,kf,hvk,by omega,by omega,by omega,(List.replicate (Kd.cho ks).rm.1.toNat (0:Int)).set 0 (jj:Int),k.byt v,up 1 (Kd.cho ks).rm.2,by rw [List.map_set],rfl,by rw [eu,eM]; omega,by rw [eu,eM,bl,List.length_set,List.length_replicate]; omega,by rw [List.length_set,List.length_replicate]; omega,hD _ ⟨.un,.un,.un,.un,.un,?_⟩⟩
     simp only [Kd.byt]
     rw [hi_ hk]
     rfl
    | _=>simp [Kd.Val] at hval
end
def gPL (K:FG_):GC:=fun ds Q => ∃ (ns:List Int) (k:Int),ds=[.scr K ns,.int k]∧0≤k∧k < 2 ^ 20∧∀ l,PoolX (31 * k) l→Q (.ol l)
section
variable {P:Program} {w:World} {K:FG_} {mg:MG_} {base:Heap} {f:Addr} {fd:FuncData}
theorem okx_pl (F:Fun K "_law_pool" "_law_pool" ge_ f fd) (m_len:mg "len" = none):FnOk P w K mg base CX0 1 f fd ["script", "k"] (spX (gPL K)):=by
 refine fv_ F sc_law_pool (fun ds Q h=>by obtain ⟨ns,k,rfl,_⟩:=h; rfl) (by decide) fun cdv A outer s H E hr => ?_
 have hu1:=en_ hr
 have hu0:=Nat.lt_of_succ_lt hu1
 refine ⟨_,(ae_ (ag_ fun F=>ak_ (i:=2) sc_law_pool.nd rfl (Or.inl rfl) (XE.at (Ex:=noEx) F ac_))
  (ae_ (br_ (bc_ op_lt ox_lt (ab_ (pv 1)) (bd_ (bw_ K) cx_lenZ (by rfl) m_len PySem.boot_len (aa_ (ab_ (pv 0)) ad_)) (nomark _)) (af_ (ag_ fun F=>ak_ (i:=2) sc_law_pool.nd rfl (Or.inl rfl) (XE.at (Ex:=noEx) F (xe_ixZ K (ab_ (pv 0)) (ab_ (pv 1)) (fun _ _=>rfl))))) au_)
  (ae_ (br_ (bc_ op_ge ox_ge (ab_ (pv 2)) (xe_pow ac_ ac_) (nomark _)) (af_ (ap_ (bq_ (aa_ (fe_ (ab_ (pv 2)) (xe_pow ac_ ac_)) (aa_ ac_ (aa_ ac_ ad_)))))) au_)
  (af_ (ap_ (bq_ (aa_ (ab_ (pv 2)) (aa_ ac_ (aa_ (cp_ ac_ (ab_ (pv 1))) ad_))))))))),fun ds Q h => ?_⟩
 clear hu0 hu1
 obtain ⟨ns,k,rfl,h0,h1,q⟩:=h
 have cp:CPow 10 18:=⟨by decide,by decide,by decide⟩
 refine fu_ ?_
 change xSeq _ _ [.v (.tr (.scr K ns)),.v (.tr (.int k)),.v (.tr (.int 0))] _
 refine gw_ (fun ρ => ∃ c:Int,ρ=[.v (.tr (.scr K ns)),.v (.tr (.int k)),.v (.tr (.int c))]) ?_ (fun D' hD => ?_)
 ·rintro ρ' ⟨c,rfl⟩
  refine ⟨cp,?_⟩
  refine ite2 (fun c2 => ?_) (fun c2 => ?_)
  ·exact ⟨cp,lenA (by show 3≤1000000; decide),q _ ⟨_,_,_,rfl,by omega,by omega⟩⟩
  ·exact ⟨⟨by decide,by omega⟩,lenA (by show 3≤1000000; decide),q _ ⟨_,_,_,rfl,by omega,by omega⟩⟩
 ·refine ⟨rfl,?_⟩
  refine ite2 (fun c => ?_) (fun c=>hD _ ⟨0,rfl⟩)
  have c':=of_decide_eq_true c
  obtain ⟨v,hv,_⟩:=atI_of (l:=ns) h0 c'
  refine ⟨rfl,?_⟩
  rw [hv]
  exact hD _ ⟨v,rfl⟩
end
def AtP (xs:List Int) (p:Nat) (ys:List Int):Prop:=p + ys.length≤xs.length∧∀ i,i < ys.length→xs.getD (p + i) 0=ys.getD i 0
theorem AtP.trans {xs ys zs:List Int} {p q:Nat} (h:AtP xs p ys) (h':AtP ys q zs):AtP xs (p + q) zs:=⟨by have:=h.1; have:=h'.1; omega,fun i hi=>by rw [Nat.add_assoc,h.2 (q + i) (by have:=h'.1; omega),h'.2 i hi]⟩
theorem AtP.self (xs:List Int):AtP xs 0 xs:=⟨by omega,fun i _=>by rw [Nat.zero_add]⟩
theorem AtP.cut {xs ys:List Int} {p:Nat} (h:AtP xs p ys):(xs.drop p).take ys.length=ys:=by
 have h1:=h.1
 refine List.ext_getElem? fun i => ?_
 by_cases hi:i < ys.length
 ·have:=h.2 i hi
  rw [List.getElem?_take_of_lt hi,List.getElem?_drop,List.getElem?_eq_getElem (by omega),List.getElem?_eq_getElem hi]
  rw [List.getD_eq_getElem?_getD,List.getD_eq_getElem?_getD,List.getElem?_eq_getElem (by omega),List.getElem?_eq_getElem hi] at this
  exact congrArg some this
 ·rw [List.getElem?_eq_none (by rw [List.length_take]; omega),List.getElem?_eq_none (by omega)]
theorem lay_atP {l s:List Int} {p:Nat} (h:p + s.length≤l.length):AtP (lay l p s) p s:=⟨by rw [dz_]; exact h,fun i hi=>by rw [lay_get (by omega),if_pos (by omega),Nat.add_sub_cancel_left]⟩
theorem at_row {k:Kd} {m:Int} {vs:List Vd} {t:Nat} {v:Vd} (hf:(Kd.row k m).Fit) (hv:(Kd.row k m).Val (.row vs)) (h:vs[t]? = some v):AtP ((Kd.row k m).byt (.row vs)) (t * (up k.rm.1 k.rm.2).toNat) (k.byt v):=by
 obtain ⟨f1,f2,f3⟩:=hf
 simp only [Kd.Val] at hv
 obtain ⟨c0,c1,c2,c3⟩:=k.bd f1.ok
 obtain ⟨u1,u2⟩:=an_ (n:=k.rm.1) (m:=k.rm.2) (by omega)
 have hst:((up k.rm.1 k.rm.2).toNat:Int)=up k.rm.1 k.rm.2:=Int.toNat_of_nonneg (by omega)
 have hRn:(m * up k.rm.1 k.rm.2).toNat=vs.length * (up k.rm.1 k.rm.2).toNat:=by
  have:m * up k.rm.1 k.rm.2=((vs.length * (up k.rm.1 k.rm.2).toNat:Nat):Int):=by rw [← hv.1]; push_cast; rw [hst]
  rw [this,Int.toNat_natCast]
 have htl:=(List.getElem?_eq_some_iff.mp h).1
 have hva:=hv.2 v (List.mem_of_getElem? h)
 have bl:∀ u∈vs,(k.byt u).length≤(up k.rm.1 k.rm.2).toNat:=fun u hu=>by rw [Kd.byt_len (hv.2 u hu)]; omega
 have hmul:(t + 1) * (up k.rm.1 k.rm.2).toNat≤vs.length * (up k.rm.1 k.rm.2).toNat:=Nat.mul_le_mul_right _ htl
 rw [Nat.add_mul,Nat.one_mul] at hmul
 have b2:=bl v (List.mem_of_getElem? h)
 simp only [Kd.byt]
 rw [hRn]
 refine ⟨by rw [ed_,List.length_replicate]; omega,fun i hi => ?_⟩
 have:=layRow_get k.byt (up k.rm.1 k.rm.2).toNat vs 0 (List.replicate (vs.length * (up k.rm.1 k.rm.2).toNat) 0) (t * (up k.rm.1 k.rm.2).toNat + i) t v bl h (by rw [Nat.zero_add]; omega) (by rw [Nat.zero_add]; omega) (by rw [List.length_replicate]; omega)
 rw [this,Nat.zero_add,Nat.add_sub_cancel_left]
theorem bytF_get:∀ {fs:List (Str×Kd)} {vs:List Vd} {e:Int} {l:List Int} {t:Nat} {f:Str×Kd} {v:Vd} {p:Int},Rms (rmF fs)→0≤e→valF fs vs→fs[t]? = some f→vs[t]? = some v→(plcs e (rmF fs))[t]? = some p→lastEnd e (rmF fs)≤(l.length:Int)→AtP (bytF (plcs e (rmF fs)) fs vs l) p.toNat (f.2.byt v)
 | [],_,_,_,_,_,_,_,_,_,_,h,_,_,_=>by simp at h
 | g :: r,[],_,_,_,_,_,_,_,_,h,_,_,_,_=>by simp [valF] at h
 | g :: r,u :: vs,e,l,t,f,v,p,hR,he,hv,h1,h2,h3,hl=>by
  simp only [valF] at hv
  have e0:rmF (g :: r)=g.2.rm :: rmF r:=rfl
  rw [e0] at hR h3 hl ⊢
  have hR':Rms (rmF r):=fun x hx=>hR x (List.mem_cons_of_mem _ hx)
  obtain ⟨c0,c1⟩:=hR _ List.mem_cons_self
  obtain ⟨u1,u2⟩:=an_ (n:=e) (m:=g.2.rm.2) c1
  have hge:=dj_ (rs:=rmF r) (e:=up e g.2.rm.2 + g.2.rm.1) hR'
  have hl':lastEnd (up e g.2.rm.2 + g.2.rm.1) (rmF r)≤(l.length:Int):=hl
  have bl:(g.2.byt u).length=g.2.rm.1.toNat:=Kd.byt_len hv.1
  show AtP (bytF (up e g.2.rm.2 :: plcs (up e g.2.rm.2 + g.2.rm.1) (rmF r)) (g :: r) (u :: vs) l) p.toNat (f.2.byt v)
  simp only [bytF]
  cases t with
  | zero =>
   simp at h1 h2
   subst h1 h2
   have h3':some (up e g.2.rm.2)=some p:=h3
   cases h3'
   have hlay:AtP (lay l (up e g.2.rm.2).toNat (g.2.byt u)) (up e g.2.rm.2).toNat (g.2.byt u):=lay_atP (by omega)
   refine ⟨by rw [ga_]; exact hlay.1,fun i hi => ?_⟩
   rw [bytF_keep r _ vs _ _ fun q hq => ?_]
   ·exact hlay.2 i hi
   ·obtain ⟨n,hn⟩:=List.getElem?_of_mem hq
    have hn':n < (rmF r).length:=by
     have:=(List.getElem?_eq_some_iff.mp hn).1
     rwa [dn_] at this
    have:=(ez_ (e:=up e g.2.rm.2 + g.2.rm.1) hR' (List.getElem?_eq_getElem hn') hn).2
    omega
  | succ t =>
   exact bytF_get (e:=up e g.2.rm.2 + g.2.rm.1) (l:=lay l (up e g.2.rm.2).toNat (g.2.byt u)) hR' (by omega) hv.2 (by simpa using h1) (by simpa using h2) (by simpa [plcs] using h3) (by rw [dz_]; exact hl')
theorem at_rcd {fs:List (Str×Kd)} {vs:List Vd} {t:Nat} {f:Str×Kd} {v:Vd} {p:Int} (hf:(Kd.rcd fs).Fit) (hv:(Kd.rcd fs).Val (.rcd vs)) (h1:fs[t]? = some f) (h2:vs[t]? = some v) (h3:(plcs 0 (rmF fs))[t]? = some p):AtP ((Kd.rcd fs).byt (.rcd vs)) p.toNat (f.2.byt v):=by
 obtain ⟨f1,f2,f3,hnd⟩:=hf
 simp only [Kd.Val] at hv
 have hok:=ip_ fs f1
 have hb:∀ r∈rmF fs,0≤r.1∧1≤r.2:=fun r hr=>by
  obtain ⟨i,hi⟩:=List.getElem?_of_mem hr
  have hil:i < fs.length:=by have:=(List.getElem?_eq_some_iff.mp hi).1; rwa [lenF fs] at this
  have:=rmF_at (List.getElem?_eq_getElem hil)
  rw [this] at hi
  cases hi
  obtain ⟨c0,c1,c2,c3⟩:=(fs[i]).2.bd (fitFx f1 (List.getElem_mem hil)).1.ok
  exact ⟨by omega,by omega⟩
 have hRms:Rms (rmF fs):=fun r hr=>⟨(hb r hr).1,by have:=(hb r hr).2; omega⟩
 have x0:1≤maxL 1 ((rmF fs).map (·.2)):=ic_ _
 obtain ⟨u1,u2⟩:=an_ (n:=lastEnd 0 (rmF fs)) (m:=maxL 1 ((rmF fs).map (·.2))) (by omega)
 simp only [Kd.byt]
 have hR':(rcdRm (rmF fs)).1=up (lastEnd 0 (rmF fs)) (maxL 1 ((rmF fs).map (·.2))):=rfl
 exact bytF_get hRms (by decide) hv h1 h2 h3 (by rw [List.length_replicate,hR']; omega)
theorem at_cho {ks:List Kd} {j:Nat} {k:Kd} {v:Vd} (hf:(Kd.cho ks).Fit) (hk:ks[j]? = some k) (hv:k.Val v):AtP ((Kd.cho ks).byt (.cho j v)) (up 1 (Kd.cho ks).rm.2).toNat (k.byt v)∧((Kd.cho ks).byt (.cho j v))[0]? = some (j:Int):=by
 obtain ⟨f1,f2,f3⟩:=hf
 obtain ⟨kf,kdp⟩:=fitKx f1 (List.mem_of_getElem? hk)
 have x0:1≤maxL 1 ((rmK ks).map (·.2)):=ic_ _
 have hrk:k.rm∈rmK ks:=List.mem_of_getElem? (rmK_at hk)
 have hl1:k.rm.1≤maxL 0 ((rmK ks).map (·.1)):=gi_ (List.mem_map_of_mem hrk)
 obtain ⟨u1,u2⟩:=an_ (n:=up 1 (maxL 1 ((rmK ks).map (·.2))) + maxL 0 ((rmK ks).map (·.1))) (m:=maxL 1 ((rmK ks).map (·.2))) (by omega)
 rw [ff_ x0] at u1 u2
 obtain ⟨c0,c1,c2,c3⟩:=k.bd kf.ok
 have bl:(k.byt v).length=k.rm.1.toNat:=Kd.byt_len hv
 have eR:(choRm (rmK ks)).1=up (maxL 1 ((rmK ks).map (·.2)) + maxL 0 ((rmK ks).map (·.1))) (maxL 1 ((rmK ks).map (·.2))):=by show up (up 1 _ + _) _=_; rw [ff_ x0]
 have eM:(choRm (rmK ks)).2=maxL 1 ((rmK ks).map (·.2)):=rfl
 have eu:up 1 (choRm (rmK ks)).2=maxL 1 ((rmK ks).map (·.2)):=by rw [eM]; exact ff_ x0
 simp only [Kd.byt]
 rw [hi_ hk]
 show AtP (lay _ (up 1 (choRm (rmK ks)).2).toNat _) (up 1 (choRm (rmK ks)).2).toNat (k.byt v)∧_
 refine ⟨lay_atP (by rw [eu,bl,List.length_set,List.length_replicate,eR]; omega),?_⟩
 rw [gs_,List.getElem?_set_self (by rw [List.length_replicate,eR]; omega),Option.map_some,if_neg (by rw [eu]; omega)]
theorem lay_all {Pp:Int→Prop} {l s:List Int} {p:Nat} (hl:∀ b∈l,Pp b) (hs:∀ b∈s,Pp b):∀ b∈lay l p s,Pp b:=fun b hb=>by
 obtain ⟨i,hi⟩:=List.getElem?_of_mem hb
 rw [gs_] at hi
 obtain ⟨c,h1,h2⟩:=Option.map_eq_some_iff.mp hi
 by_cases hc:p≤i∧i < p + s.length
 ·rw [if_pos hc,List.getD_eq_getElem?_getD,List.getElem?_eq_getElem (by omega)] at h2
  rw [← h2]
  exact hs _ (List.getElem_mem _)
 ·rw [if_neg hc] at h2
  rw [← h2]
  exact hl _ (List.mem_of_getElem? h1)
theorem layRow_all {Pp:Int→Prop} (f:Vd→List Int) (st:Nat):∀ (vs:List Vd) (j:Nat) (l:List Int),(∀ b∈l,Pp b)→(∀ v∈vs,∀ b∈f v,Pp b)→∀ b∈layRow f st j vs l,Pp b
 | [],_,_,hl,_=>hl
 | v :: r,j,l,hl,hv=>layRow_all f st r (j + 1) _ (lay_all hl (hv v List.mem_cons_self)) fun u hu=>hv u (List.mem_cons_of_mem _ hu)
theorem hk_ {n:Nat}:∀ b∈List.replicate n (0:Int),0≤b∧b < 256:=fun b hb=>by rw [(List.mem_replicate.mp hb).2]; decide
mutual
theorem byt_rng:∀ (kd:Kd) (v:Vd),kd.Fit→kd.Val v→∀ b∈kd.byt v,0≤b∧b < 256
 | .num w m,.num n,_,_=>by simp only [Kd.byt]; exact gh_ _ _
 | .row k m,.row vs,hf,hv=>by
  simp only [Kd.byt]
  simp only [Kd.Val] at hv
  exact layRow_all _ _ _ _ _ hk_ fun v hm=>byt_rng k v hf.1 (hv.2 v hm)
 | .rcd fs,.rcd vs,hf,hv=>by
  simp only [Kd.byt]
  simp only [Kd.Val] at hv
  exact bytF_rng fs vs hf.1 hv _ _ hk_
 | .cho ks,.cho j v,hf,hv=>by
  simp only [Kd.byt]
  simp only [Kd.Val] at hv
  obtain ⟨k,hk,_⟩:=dr_ hv
  have hj:=(List.getElem?_eq_some_iff.mp hk).1
  have h6:=hf.2.2
  refine lay_all (fun b hb => ?_) (bytK_rng ks j v hf.1 hv)
  rcases List.mem_or_eq_of_mem_set hb with h | h
  ·exact hk_ b h
  ·rw [h]; omega
 | .num _ _,.row _,_,hv=>by simp [Kd.Val] at hv
 | .num _ _,.rcd _,_,hv=>by simp [Kd.Val] at hv
 | .num _ _,.cho _ _,_,hv=>by simp [Kd.Val] at hv
 | .row _ _,.num _,_,hv=>by simp [Kd.Val] at hv
 | .row _ _,.rcd _,_,hv=>by simp [Kd.Val] at hv
 | .row _ _,.cho _ _,_,hv=>by simp [Kd.Val] at hv
 | .rcd _,.num _,_,hv=>by simp [Kd.Val] at hv
 | .rcd _,.row _,_,hv=>by simp [Kd.Val] at hv
 | .rcd _,.cho _ _,_,hv=>by simp [Kd.Val] at hv
 | .cho _,.num _,_,hv=>by simp [Kd.Val] at hv
 | .cho _,.row _,_,hv=>by simp [Kd.Val] at hv
 | .cho _,.rcd _,_,hv=>by simp [Kd.Val] at hv
theorem bytF_rng:∀ (fs:List (Str×Kd)) (vs:List Vd),fitF fs→valF fs vs→∀ (ps l:List Int),(∀ b∈l,0≤b∧b < 256)→∀ b∈bytF ps fs vs l,0≤b∧b < 256
 | [],vs,_,_,ps,l,hl=>by simp only [bytF]; exact hl
 | f :: r,[],_,_,ps,l,hl=>by simp only [bytF]; exact hl
 | f :: r,v :: vs,_,_,[],l,hl=>by simp only [bytF]; exact hl
 | f :: r,v :: vs,hf,hv,p :: ps,l,hl=>by
  simp only [bytF]
  simp only [valF] at hv
  exact bytF_rng r vs hf.2 hv.2 ps _ (lay_all hl (byt_rng f.2 v hf.1.2 hv.1))
theorem bytK_rng:∀ (ks:List Kd) (j:Nat) (v:Vd),fitK ks→valK ks j v→∀ b∈bytK ks j v,0≤b∧b < 256
 | [],_,_,_,h=>by simp [valK] at h
 | k :: r,0,v,hf,hv=>by simp only [bytK]; simp only [valK] at hv; exact byt_rng k v hf.1 hv
 | k :: r,j + 1,v,hf,hv=>by simp only [bytK]; simp only [valK] at hv; exact bytK_rng r j v hf.2 hv
end
def numV:List Int→Int
 | []=>0
 | b :: r=>b + 256 * numV r
theorem numV_numB:∀ (w:Nat) (n:Int),0≤n→n < 256 ^ w→numV (numB w n)=n
 | 0,n,h0,h1=>by simp at h1; show (0:Int)=n; omega
 | w + 1,n,h0,h1=>by
  show n % 256 + 256 * numV (numB w (n / 256))=n
  rw [numV_numB w (n / 256) (Int.ediv_nonneg h0 (by decide)) (Int.ediv_lt_of_lt_mul (by decide) (by rw [Int.pow_succ] at h1; exact h1))]
  omega
theorem valF_at:∀ {fs:List (Str×Kd)} {vs:List Vd} {i:Nat} {f:Str×Kd} {v:Vd},valF fs vs→fs[i]? = some f→vs[i]? = some v→f.2.Val v
 | [],_,_,_,_,_,h,_=>by simp at h
 | g :: r,[],_,_,_,h,_,_=>by simp [valF] at h
 | g :: r,u :: vs,0,f,v,h,h1,h2=>by simp only [valF] at h; simp at h1 h2; subst h1 h2; exact h.1
 | g :: r,u :: vs,i + 1,f,v,h,h1,h2=>by simp only [valF] at h; exact valF_at h.2 (by simpa using h1) (by simpa using h2)
theorem vxF_at {fs:List (Str×Kd)} {vs:List Vd} {p:Key×Dx} (hl:vs.length=fs.length) (h:p∈vxF fs vs):∃ (i:Nat) (f:Str×Kd) (v:Vd),fs[i]? = some f∧vs[i]? = some v∧p=(Sum.inr f.1,f.2.vx v):=by
 rw [vxF_zip] at h
 obtain ⟨q,h1,h2⟩:=List.mem_map.mp h
 obtain ⟨i,hi⟩:=List.getElem?_of_mem h1
 obtain ⟨a,b⟩:=List.getElem?_zip_eq_some.mp hi
 exact ⟨i,q.1,q.2,a,b,h2.symm⟩
theorem vxF_length {fs:List (Str×Kd)} {vs:List Vd} (hl:vs.length=fs.length):(vxF fs vs).length=fs.length:=by rw [vxF_zip,List.length_map,List.length_zip]; omega
theorem val_num {w m:Int} {v:Vd} (h:(Kd.num w m).Val v):∃ i,v=.num i∧0≤i∧i < 256 ^ w.toNat:=by
 cases v with
 | num i=>simp only [Kd.Val] at h; exact ⟨i,rfl,h⟩
 | _=>simp [Kd.Val] at h
theorem val_row {k:Kd} {m:Int} {v:Vd} (h:(Kd.row k m).Val v):∃ vs,v=.row vs∧(vs.length:Int)=m∧∀ u∈vs,k.Val u:=by
 cases v with
 | row vs=>simp only [Kd.Val] at h; exact ⟨vs,rfl,h⟩
 | _=>simp [Kd.Val] at h
theorem val_rcd {fs:List (Str×Kd)} {v:Vd} (h:(Kd.rcd fs).Val v):∃ vs,v=.rcd vs∧valF fs vs:=by
 cases v with
 | rcd vs=>simp only [Kd.Val] at h; exact ⟨vs,rfl,h⟩
 | _=>simp [Kd.Val] at h
theorem val_cho {ks:List Kd} {v:Vd} (h:(Kd.cho ks).Val v):∃ j u k,v=.cho j u∧ks[j]? = some k∧k.Val u:=by
 cases v with
 | cho j u=>simp only [Kd.Val] at h; obtain ⟨k,h1,h2⟩:=dr_ h; exact ⟨j,u,k,rfl,h1,h2⟩
 | _=>simp [Kd.Val] at h
theorem xint_gt {i:Nat} {x c:Int} {ρ:En} {Q:Sv→En→Prop} (h:ρ[i]? = some (.v (.tr (.int x)))) (q:Q (.tr (.int (if decide (c < x)=true then 1 else 0))) (ρ.set i (.v (.tr (.int x))))):xCall intX (xCons (xOp gtX (xVar i) (xC (.int c))) xNil) ρ Q:=by
 unfold xCall xCons xOp xVar
 dsimp only
 rw [h]
 exact q
theorem go_call {g:GC} {u:XA} {ρ:En} {Q:Sv→En→Prop} (h:u ρ fun ss ρ'=>g (ss.map Sv.d) fun s=>Q s ρ'):xCall g u ρ Q:=h
theorem io_ {t:XT} {u:XA} {ρ:En} {Q:List Sv→En→Prop} (h:t ρ fun s ρ1=>u ρ1 fun ss ρ2=>Q (s :: ss) ρ2):xCons t u ρ Q:=h
theorem go_op {g:G2} {ta tb:XT} {ρ:En} {Q:Sv→En→Prop} (h:ta ρ fun a ρ1=>tb ρ1 fun b ρ2=>g a.d b.d fun s=>Q s ρ2):xOp g ta tb ρ Q:=h
theorem to_tr {i:Nat} {s:Sv} {ρ:En} {Q:Sv→En→Prop} {d:Dx} (hi:ρ[i]? = some (.v s)) (hs:s.d=d) (h:Q (.tr d) (ρ.set i (.v (.tr d)))):xVar i ρ Q:=by
 subst hs
 exact in_ hi h
theorem mkS_len {f:Dx→Int→Dx×Int}:∀ (js:List Nat) (ds:List Dx) (m:Int),(mkS f js ds m).1.length=ds.length
 | [],ds,m=>rfl
 | j :: js,ds,m=>by
  unfold mkS
  split
  ·rw [mkS_len js,List.length_set]
  ·rfl
theorem mkS_pr {f:Dx→Int→Dx×Int} {P R:Dx→Prop} (hf:∀ d m,P d→R (f d m).1):∀ (js:List Nat) (ds:List Dx) (m:Int),js.Nodup→(∀ j∈js,∀ d,ds[j]? = some d→P d)→(∀ d∈ds,P d∨R d)→∀ d∈(mkS f js ds m).1,P d∨R d
 | [],ds,m,_,_,h,d,hd=>h d hd
 | j :: js,ds,m,hn,h1,h2,d,hd=>by
  unfold mkS at hd
  split at hd
  ·rename_i d0 hd0
   refine mkS_pr hf js _ _ (List.nodup_cons.mp hn).2 (fun j' hj' d' hd' => ?_) (fun d' hd' => ?_) d hd
   ·have hne:j≠j':=fun z=>(List.nodup_cons.mp hn).1 (z ▸ hj')
    rw [List.getElem?_set_ne hne] at hd'
    exact h1 j' (List.mem_cons_of_mem _ hj') d' hd'
   ·rcases List.mem_or_eq_of_mem_set hd' with h | h
    ·exact h2 d' h
    ·exact .inr (h ▸ hf d0 m (h1 j List.mem_cons_self d0 hd0))
  ·exact h2 d hd
theorem deepX_of {n:Nat}:∀ {l:List Dx},(∀ d∈l,d.deep≤n)→deepX l≤n
 | [],_=>Nat.zero_le _
 | d :: r,h=>Nat.max_le.mpr ⟨h d List.mem_cons_self,deepX_of fun e he=>h e (List.mem_cons_of_mem _ he)⟩
theorem deepXk_of {n:Nat}:∀ {l:List (Key×Dx)},(∀ q∈l,q.2.deep≤n)→deepXk l≤n
 | [],_=>Nat.zero_le _
 | d :: r,h=>Nat.max_le.mpr ⟨h d List.mem_cons_self,deepXk_of fun e he=>h e (List.mem_cons_of_mem _ he)⟩
abbrev Zt (n:Nat) (d:Dx):Prop:=d.Sz∧d.deep≤n + 1
theorem zt_lst {n:Nat} {l:List Dx} (hl:l.length≤100000) (h:∀ d∈l,Zt n d):Zt (n + 1) (.lst l):=⟨by simp only [Dx.Sz]; exact ⟨hl,szX_of fun d hd=>(h d hd).1⟩,by simp only [Dx.deep]; have:=deepX_of fun d hd=>(h d hd).2; omega⟩
theorem zt_dic {n:Nat} {l:List (Key×Dx)} (hl:l.length≤100000) (hn:(l.map (·.1)).Nodup) (h:∀ q∈l,Zt n q.2):Zt (n + 1) (.dic l):=⟨by simp only [Dx.Sz]; exact ⟨hl,hn,szXk_of fun d hd=>(h d hd).1⟩,by simp only [Dx.deep]; have:=deepXk_of fun d hd=>(h d hd).2; omega⟩
theorem zt_int {n:Nat} {i:Int}:Zt n (.int i):=⟨by simp only [Dx.Sz],by simp only [Dx.deep]; omega⟩
theorem zt_tup {n:Nat} {i:Int} {d:Dx} (h:Zt n d):Zt (n + 1) (.tup [.int i,d]):=⟨by simp only [Dx.Sz,szX]; exact ⟨by show 2≤100000; decide,trivial,h.1,trivial⟩,by simp only [Dx.deep,deepX]; have:=h.2; omega⟩
theorem mk_zt:∀ (n:Nat) (o:Ow),MkO n o→Zt n o.d∧∀ m,Zt n (mkD n o.d m).1
 | 0,o,h=>by simp only [MkO] at h
 | n + 1,o,h=>by
  cases o with
  | tr d =>
   cases d with
   | int i=>exact ⟨by simp only [Ow.d]; exact zt_int,fun m=>by simp only [Ow.d,mkD]; exact zt_int⟩
   | _=>simp only [MkO] at h
  | oi C a dx l=>simp only [MkO] at h
  | ol a os =>
   simp only [MkO] at h
   have hP:∀ d∈owDs os,∃ o,MkO n o∧o.d=d:=fun d hd=>by
    rw [cf_] at hd
    obtain ⟨o,ho,rfl⟩:=List.mem_map.mp hd
    exact ⟨o,h.2 o ho,rfl⟩
   have hl:(owDs os).length≤20:=by rw [cf_,List.length_map]; exact h.1
   refine ⟨by simp only [Ow.d]; exact zt_lst (by omega) fun d hd=>by obtain ⟨o,ho,rfl⟩:=hP d hd; exact (mk_zt n o ho).1,fun m => ?_⟩
   simp only [Ow.d,mkD]
   refine zt_lst (by rw [List.length_append,mkS_len]; show _ + 1≤_; omega) fun d hd => ?_
   rcases List.mem_append.mp hd with hd | hd
   ·rcases mkS_pr (P:=fun d => ∃ o,MkO n o∧o.d=d) (R:=Zt n) (fun d m hd=>by obtain ⟨o,ho,rfl⟩:=hd; exact (mk_zt n o ho).2 m) _ _ _ List.nodup_range (fun j _ d hd=>hP d (List.mem_of_getElem? hd)) (fun d hd=>.inl (hP d hd)) d hd with ⟨o,ho,rfl⟩ | hz
    ·exact (mk_zt n o ho).1
    ·exact hz
   ·rw [List.mem_singleton.mp hd]; exact zt_int
  | ot l =>
   match l,h with
   | [.tr (.int i),o2],h =>
    simp only [MkO] at h
    have ih:=mk_zt n o2 h
    exact ⟨by simp only [Ow.d,owDs]; exact zt_tup ih.1,fun m=>by simp only [Ow.d,owDs,mkD]; exact zt_tup (ih.2 m)⟩
  | od a l =>
   simp only [MkO] at h
   obtain ⟨hl20,⟨ks,hks,hksn,hkd⟩,hmk2⟩:=h
   have hdl:owDk l=l.map fun q=>(q.1,q.2.d):=cx_
   have hkeys:(owDk l).map (·.1)=ks.map Sum.inr:=by rw [fs_,hks]
   have hinj:∀ {l:List Str},l.Nodup→(l.map (Sum.inr:Str→Key)).Nodup:=fun {l} h=>List.pairwise_map.mpr (h.imp fun hne z=>hne (Sum.inr.inj z))
   have hP:∀ d∈(owDk l).map (·.2),∃ o,MkO n o∧o.d=d:=fun d hd=>by
    rw [hdl,List.map_map] at hd
    obtain ⟨q,hq,rfl⟩:=List.mem_map.mp hd
    exact ⟨q.2,hmk2 q hq,rfl⟩
   have hlen:(owDk l).length≤20:=by rw [hdl,List.length_map]; exact hl20
   refine ⟨by simp only [Ow.d]; exact zt_dic (by omega) (by rw [hkeys]; exact hinj hksn) fun q hq=>by obtain ⟨o,ho,e⟩:=hP q.2 (List.mem_map_of_mem hq); rw [← e]; exact (mk_zt n o ho).1,fun m => ?_⟩
   simp only [Ow.d,mkD]
   have hks2:((owDk l).map fun q=>keyS q.1)=ks:=by
    have h5:((owDk l).map (·.1)).map keyS=(ks.map Sum.inr).map keyS:=by rw [hkeys]
    rw [List.map_map,List.map_map] at h5
    rw [show ((owDk l).map fun q=>keyS q.1)=(owDk l).map (keyS ∘ fun x=>x.1) from rfl,h5]
    exact (List.map_congr_left (fun x _=>rfl)).trans (List.map_id ks)
   rw [hks2,hkeys]
   obtain ⟨r,hr⟩ : ∃ r,r=mkS (mkD n) ((srtK ks).map fun k=>ks.idxOf k) ((owDk l).map (·.2)) m:=⟨_,rfl⟩
   rw [← hr]
   have hkl:ks.length=(owDk l).length:=by have:=congrArg List.length hkeys; rw [List.length_map,List.length_map] at this; exact this.symm
   have hrl:r.1.length=ks.length:=by rw [hr,mkS_len,List.length_map,hkl]
   have hall:∀ d∈r.1,Zt n d:=fun d hd=>by
    rw [hr] at hd
    by_cases hx:∃ ss:List Str,ss.Perm ks∧PyProof.Rows.sortedS ss=true
    ·obtain ⟨ss,p1,p2⟩:=hx
     have hnd:((srtK ks).map fun k=>ks.idxOf k).Nodup:=by
      rw [srtK_eq p1 p2]
      refine List.pairwise_map.mpr ((p1.nodup_iff.mpr hksn).imp_of_mem fun {x y} hx hy hne z=>hne ?_)
      have e1:=ik_ (p1.mem_iff.mp hx)
      have e2:=ik_ (p1.mem_iff.mp hy)
      rw [z] at e1
      rw [e1] at e2
      exact Option.some.inj e2
     rcases mkS_pr (P:=fun d => ∃ o,MkO n o∧o.d=d) (R:=Zt n) (fun d m hd=>by obtain ⟨o,ho,rfl⟩:=hd; exact (mk_zt n o ho).2 m) _ _ _ hnd (fun j _ d hd=>hP d (List.mem_of_getElem? hd)) (fun d hd=>.inl (hP d hd)) d hd with ⟨o,ho,rfl⟩ | hz
     ·exact (mk_zt n o ho).1
     ·exact hz
    ·have hnd:((srtK ks).map fun k=>ks.idxOf k).Nodup:=by
      unfold srtK
      rw [dif_neg hx]
      refine List.pairwise_map.mpr (hksn.imp_of_mem fun {x y} hx hy hne z=>hne ?_)
      have e1:=ik_ hx
      have e2:=ik_ hy
      rw [z] at e1
      rw [e1] at e2
      exact Option.some.inj e2
     rcases mkS_pr (P:=fun d => ∃ o,MkO n o∧o.d=d) (R:=Zt n) (fun d m hd=>by obtain ⟨o,ho,rfl⟩:=hd; exact (mk_zt n o ho).2 m) _ _ _ hnd (fun j _ d hd=>hP d (List.mem_of_getElem? hd)) (fun d hd=>.inl (hP d hd)) d hd with ⟨o,ho,rfl⟩ | hz
     ·exact (mk_zt n o ho).1
     ·exact hz
   refine zt_dic (by rw [List.length_append,List.length_zip,List.length_map]; show _ + 1≤_; omega) ?_ fun q hq => ?_
   ·rw [List.map_append,List.map_fst_zip (by rw [List.length_map]; omega)]
    show (ks.map Sum.inr ++ [Sum.inr (newK r.2)]).Nodup
    rw [← show (ks ++ [newK r.2]).map Sum.inr=ks.map Sum.inr ++ [Sum.inr (newK r.2)] from List.map_append]
    refine hinj (List.nodup_append.mpr ⟨hksn,List.pairwise_singleton _ _,fun a ha b hb z => ?_⟩)
    rw [List.mem_singleton.mp hb] at z
    exact hkd a ha (by rw [z]; exact newK_head _)
   ·rcases List.mem_append.mp hq with hq | hq
    ·exact hall q.2 (List.of_mem_zip hq).2
    ·rw [List.mem_singleton.mp hq]; exact zt_int
theorem fit_nm:∀ {fs:List (Str×Kd)} {f:Str×Kd},fitF fs→f∈fs→Nm f.1
 | g :: r,f,h,hm=>by
  simp only [fitF] at h
  rcases List.mem_cons.mp hm with rfl | hm
  ·exact h.1.1
  ·exact fit_nm h.2 hm
theorem nm_head {x:Str} (h:Nm x):x.cps.toList.head?≠some 45:=fun z=>by
 have h2:=h.2.2
 have:(45:Nat)∈codes x:=List.mem_of_mem_head? (by rw [show codes x=x.cps.toList from rfl,z]; rfl)
 have:=h2 45 this
 omega
theorem full_int {o:Ow} {i:Int} (h:o.d=.int i):o=.tr (.int i):=by
 cases o with
 | tr d=>simp only [Ow.d] at h; rw [h]
 | _=>simp [Ow.d] at h
theorem gl_:∀ (n:Nat) (kd:Kd) (vd:Vd) (o:Ow),kd.deep≤n→kd.Fit→kd.Val vd→o.d=kd.vx vd→FullW o→MkO n o
 | 0,kd,_,_,h,_,_,_,_=>by have:=Kd.deep_pos kd; omega
 | n + 1,kd,vd,o,hd,hfit,hval,ho,hf=>by
  cases kd with
  | num wd m =>
   obtain ⟨i,rfl,_,_⟩:=val_num hval
   simp only [Kd.vx] at ho
   rw [full_int ho]
   simp only [MkO]
  | row k m =>
   obtain ⟨vs,rfl,hl,hvs⟩:=val_row hval
   have hd':k.deep + 1≤n + 1:=hd
   obtain ⟨f1,f2,f3⟩:=hfit
   simp only [Kd.vx] at ho
   cases o with
   | tr d=>simp only [Ow.d] at ho; subst ho; simp only [FullW,scal] at hf
   | ol a os =>
    simp only [Ow.d,Dx.lst.injEq] at ho
    simp only [FullW] at hf
    rw [cf_] at ho
    have hlen:os.length=vs.length:=by have:=congrArg List.length ho; rwa [List.length_map,List.length_map] at this
    simp only [MkO]
    refine ⟨by omega,fun o ho2 => ?_⟩
    obtain ⟨j,hj⟩:=List.getElem?_of_mem ho2
    have hjl:=(List.getElem?_eq_some_iff.mp hj).1
    have e1:(os.map Ow.d)[j]? = some o.d:=by rw [List.getElem?_map,hj]; rfl
    rw [ho,List.getElem?_map,List.getElem?_eq_getElem (by omega)] at e1
    exact gl_ n k _ o (by omega) f1 (hvs _ (List.getElem_mem (show j < vs.length by omega))) (Option.some.inj e1).symm (fullWs_mem hf ho2)
   | od a l=>simp [Ow.d] at ho
   | ot l=>simp [Ow.d] at ho
   | oi C a dx l=>simp [Ow.d] at ho
  | rcd fs =>
   obtain ⟨vs,rfl,hvs⟩:=val_rcd hval
   have hd':deepF fs + 1≤n + 1:=hd
   obtain ⟨f1,f2,f3,hnd⟩:=hfit
   have hvl:=cy_ hvs
   simp only [Kd.vx] at ho
   cases o with
   | tr d=>simp only [Ow.d] at ho; subst ho; simp only [FullW,scal] at hf
   | od a l =>
    simp only [Ow.d,Dx.dic.injEq] at ho
    simp only [FullW] at hf
    have hkeys:l.map (·.1)=(fs.map (·.1)).map Sum.inr:=by rw [← fs_,ho,ef_ hvl,List.map_map]; rfl
    have hlen:l.length=fs.length:=by have:=congrArg List.length hkeys; rwa [List.length_map,List.length_map,List.length_map] at this
    simp only [MkO]
    refine ⟨by omega,⟨fs.map (·.1),hkeys,hnd,fun k hk => ?_⟩,fun q hq => ?_⟩
    ·obtain ⟨f,hf2,rfl⟩:=List.mem_map.mp hk
     exact nm_head (fit_nm f1 hf2)
    ·have hm:(q.1,q.2.d)∈owDk l:=by rw [cx_]; exact List.mem_map_of_mem (f:=fun q:Key×Ow=>(q.1,q.2.d)) hq
     rw [ho] at hm
     obtain ⟨i,f,v,e1,e2,e3⟩:=vxF_at hvl hm
     obtain ⟨ff,fdp⟩:=fitFx f1 (List.mem_of_getElem? e1)
     exact gl_ n f.2 v q.2 (by omega) ff (valF_at hvs e1 e2) (Prod.mk.inj e3).2 (fullWk_mem hf hq)
   | ol a l=>simp [Ow.d] at ho
   | ot l=>simp [Ow.d] at ho
   | oi C a dx l=>simp [Ow.d] at ho
  | cho ks =>
   obtain ⟨jj,v,k,rfl,hk,hvk⟩:=val_cho hval
   have hd':deepK ks + 1≤n + 1:=hd
   obtain ⟨f1,f2,f3⟩:=hfit
   obtain ⟨kf,kdp⟩:=fitKx f1 (List.mem_of_getElem? hk)
   simp only [Kd.vx] at ho
   rw [hr_ hk] at ho
   cases o with
   | tr d=>simp only [Ow.d] at ho; subst ho; simp only [FullW,scal] at hf
   | ot l =>
    simp only [Ow.d,Dx.tup.injEq] at ho
    simp only [FullW] at hf
    match l,ho,hf with
    | [o1,o2],ho,hf =>
     simp only [owDs,List.cons.injEq,and_true] at ho
     simp only [fullWs] at hf
     rw [full_int ho.1]
     simp only [MkO]
     exact gl_ n k v o2 (by omega) kf hvk ho.2 hf.2.1
    | [],ho,_=>simp [owDs] at ho
    | [_],ho,_=>simp [owDs] at ho
    | _ :: _ :: _ :: _,ho,_=>simp [owDs] at ho
   | ol a l=>simp [Ow.d] at ho
   | od a l=>simp [Ow.d] at ho
   | oi C a dx l=>simp [Ow.d] at ho
def gIW:GC:=fun ds Q => ∃ i:Int,ds=[.int i]∧Q (.tr (.bl true))
def gIB:GC:=fun ds Q => ∃ b:Int,ds=[.int b]∧0≤b∧b < 256∧Q (.tr (.bl true))
def gAB:GC:=fun ds Q => ∃ xs:List Int,ds=[.lst (xs.map Dx.int),.int (xs.length:Int)]∧(∀ b∈xs,0≤b∧b < 256)∧xs.length≤100000∧Q (.tr (.bl true))
def gNA:GC:=fun ds Q => ∃ (w p i:Int) (xs:List Int),ds=[.int w,.lst (xs.map Dx.int),.int p]∧0≤w∧w≤8∧0≤p∧0≤i∧i < 256 ^ w.toNat∧AtP xs p.toNat (numB w.toNat i)∧Q (.tr (.int i))
def gVT (n:Nat):GC:=fun ds Q => ∃ (kd:Kd) (vd:Vd) (xs:List Int) (p:Int),ds=[kd.x,.lst (xs.map Dx.int),.int p]∧kd.Fit∧kd.Val vd∧kd.deep≤n∧n≤12∧0≤p∧xs.length≤100000∧AtP xs p.toNat (kd.byt vd)∧∀ s o,s.o? = some o→o.d=kd.vx vd→FullW o→Q s
def gRD (n:Nat):GC:=fun ds Q => ∃ (fs:List (Str×Kd)) (vs:List Vd) (xs:List Int) (p:Int),ds=[.lst (xF fs),.lst (xs.map Dx.int),.int p]∧(Kd.rcd fs).Fit∧(Kd.rcd fs).Val (.rcd vs)∧deepF fs≤n∧n≤12∧0≤p∧xs.length≤100000∧AtP xs p.toNat ((Kd.rcd fs).byt (.rcd vs))∧∀ a l,owDk l=vxF fs vs→fullWk l→Q (.ow (.od a l))
def gCH (n:Nat):GC:=fun ds Q => ∃ (ks:List Kd) (jj:Nat) (v:Vd) (xs:List Int) (p:Int),ds=[(Kd.cho ks).x,.lst (xs.map Dx.int),.int p]∧(Kd.cho ks).Fit∧(Kd.cho ks).Val (.cho jj v)∧deepK ks≤n∧n≤11∧0≤p∧xs.length≤100000∧AtP xs p.toNat ((Kd.cho ks).byt (.cho jj v))∧∀ s o,s.o? = some o→o.d=(Kd.cho ks).vx (.cho jj v)→FullW o→Q s
theorem numV_bd:∀ {l:List Int},(∀ b∈l,0≤b∧b < 256)→0≤numV l∧numV l < 256 ^ l.length
 | [],_=>by decide
 | b :: r,h=>by
  obtain ⟨h1,h2⟩:=h b List.mem_cons_self
  obtain ⟨h3,h4⟩:=numV_bd (l:=r) fun x hx=>h x (List.mem_cons_of_mem _ hx)
  show 0≤b + 256 * numV r∧b + 256 * numV r < 256 ^ (r.length + 1)
  rw [Int.pow_succ]
  omega
theorem cut_at {xs ys:List Int} {p w:Int} (h:AtP xs p.toNat ys) (hp:0≤p) (hw:w.toNat=ys.length) (hw0:0≤w):cutX (xs.map Dx.int) (some p) (some (p + w))=ys.map Dx.int:=by
 have h1:=h.1
 unfold cutX
 have e1:p=((p.toNat:Nat):Int):=by omega
 have e2:p + w=((p.toNat + ys.length:Nat):Int):=by omega
 rw [e2,e1,HT.sIx_nat,HT.sIx_nat,List.length_map,Nat.min_eq_left (by omega),Nat.min_eq_left (by omega),← List.map_drop,← List.map_take,Int.toNat_natCast,Nat.add_sub_cancel_left,h.cut]
section
variable {P:Program} {w:World} {K:FG_} {mg:MG_} {base:Heap} {f:Addr} {fd:FuncData} {n j jR jP:Nat}
theorem okx_iw (F:Fun K "is_whole" "is_whole" gf_ f fd) (m_isinstance:mg "isinstance" = none) (m_int:mg "int" = none) (m_bool:mg "bool" = none):FnOk P w K mg base CX0 1 f fd ["thing"] (spX gIW):=by
 refine fv_ F sc_is_whole (fun ds Q h=>by obtain ⟨_,rfl,_⟩:=h; rfl) (by decide) fun cdv A outer s H E hr => ?_
 refine ⟨_,(af_ (ap_ (xe_and (bm_ .int m_isinstance (ab_ (pv 0)) (bp_ (v:=.ty "int") rfl m_int bt_int rfl)) (xe_one (xe_not (bm_ .bool m_isinstance (ab_ (pv 0)) (bp_ (v:=.ty "bool") rfl m_bool bt_bool rfl))))))),fun ds Q h => ?_⟩
 obtain ⟨i,rfl,q⟩:=h
 exact q
theorem okx_ib (F:Fun K "is_byte" "is_byte" hu_ f fd) (CIW:Cal P w K mg base 1 "is_whole" ["thing"] (spX gIW)) (c_HOW_MANY_BYTES:∃ t,mg "HOW_MANY_BYTES" = some (.int 256 t)):FnOk P w K mg base CX0 2 f fd ["thing"] (spX gIB):=by
 refine fv_ F sc_is_byte (fun ds Q h=>by obtain ⟨_,rfl,_⟩:=h; rfl) (by decide) fun cdv A outer s H E hr => ?_
 refine ⟨_,(af_ (ap_ (xe_and (ai_ CIW (hr.mono (by omega)) (aa_ (ab_ (pv 0)) ad_)) (xe_one (xe_chain op_le ox_le op_lt ox_lt ac_ (ab_ (pv 0)) (xe_glob (by rfl) c_HOW_MANY_BYTES)))))),fun ds Q h => ?_⟩
 obtain ⟨b,rfl,h0,h1,q⟩:=h
 refine ⟨b,rfl,?_⟩
 show if true=true then _ else _
 rw [if_pos rfl]
 show if decide (0≤b)=true then _ else _
 rw [if_pos (decide_eq_true h0)]
 show Q (.tr (.bl (decide (b < 256))))
 rw [decide_eq_true h1]
 exact q
theorem okx_ab (F:Fun K "are_bytes" "are_bytes" ek_ f fd) (CIB:Cal P w K mg base 2 "is_byte" ["thing"] (spX gIB)) (m_isinstance:mg "isinstance" = none) (m_list:mg "list" = none) (m_len:mg "len" = none) (m_all:mg "all" = none):FnOk P w K mg base CX0 3 f fd ["thing", "how_many"] (spX gAB):=by
 refine fv_ F sc_are_bytes (fun ds Q h=>by obtain ⟨_,rfl,_⟩:=h; rfl) (by decide) fun cdv A outer s H E hr => ?_
 have hu1:=en_ hr
 have hu0:=Nat.lt_of_succ_lt hu1
 refine ⟨_,(ae_ (br_ (XW.pt (xw_or (go_ (dk_ (bm_ .list m_isinstance (ab_ (pv 0)) (bp_ (v:=.ty "list") rfl m_list fj_ rfl)))) (xw_or1 (bc_ (op_neA K hu0) ox_ne (bd_ (bw_ K) eu_ (by rfl) m_len PySem.boot_len (aa_ (ab_ (pv 0)) ad_)) (ab_ (pv 1)) (nomark _))))) (af_ (ap_ xe_bl)) au_)
  (af_ (ap_ (bd_ (call_allA K (by rfl)) cx_all (by rfl) m_all bt_all (aa_ (ci_ (dsc:=defScope ek_) (N:=["thing", "how_many"]) (tgs:=["each"]) (outs:=[]) (N':=["each"]) (by refine ⟨rfl,?_,?_,?_,rfl,?_,?_,?_⟩ <;> decide +kernel) (bs_ (ab_ (pv 0))) (fun _ _ _ _ _=>(aj_ (i:=0) (show (["each"]:List Str).Nodup by decide +kernel) rfl (Or.inl rfl) (.inr rfl))) (bb_ (n:=1) (i:=0) (by decide)) (bl_ (by decide)) (fun _ _ _ _ _=>bi_) (fun _ _ _ _ _=>(ai_ CIB (hr.mono (by omega)) (aa_ (ab_ (pv 0)) ad_)))) ad_))))),fun ds Q h => ?_⟩
 clear hu0 hu1
 obtain ⟨xs,rfl,h0,h1,q⟩:=h
 have e:decide ((((xs.map Dx.int).length:Nat):Int)=(xs.length:Int))=true:=decide_eq_true (by rw [List.length_map])
 show if (!decide ((((xs.map Dx.int).length:Nat):Int)=(xs.length:Int)))=true then _ else _
 rw [e]
 refine ⟨show (xs.map Dx.int).length≤_ by rw [List.length_map]; omega,show compX _ _ _ _ _ (xs.map Dx.int) _ _ from ?_⟩
 refine bk_ _ (fun _:Int=>.bl true) (fun b hb acc P pp => ?_) ?_
 ·exact ⟨b,rfl,(h0 b hb).1,(h0 b hb).2,pp⟩
 ·rw [List.nil_append,map_const_len]
  exact allX_true q
theorem okx_na (F:Fun K "number_at" "number_at" eh_ f fd) (c_HOW_MANY_BYTES:∃ t,mg "HOW_MANY_BYTES" = some (.int 256 t)) (m_reversed:mg "reversed" = none):FnOk P w K mg base CX0 1 f fd ["w", "some", "place"] (spX gNA):=by
 refine fv_ F sc_number_at (fun ds Q h=>by obtain ⟨_,_,_,_,rfl,_⟩:=h; rfl) (by decide) fun cdv A outer s H E hr => ?_
 refine ⟨_,(ae_ (ag_ fun F=>ak_ (i:=3) sc_number_at.nd rfl (Or.inl rfl) (XE.at (Ex:=noEx) F ac_))
  (ae_ (dc_ PassesOwn.never rfl (xi_rev m_reversed (aa_ (gv_ K (ab_ (pv 1)) (hl_ (ab_ (pv 2))) (hl_ (be_ (ab_ (pv 2)) (ab_ (pv 0))))) ad_)) (aj_ (i:=4) sc_number_at.nd rfl (Or.inl rfl)) (bb_ (n:=99) (i:=4) (by decide)) (af_ (ag_ fun F=>ak_ (i:=3) sc_number_at.nd rfl (Or.inl rfl) (XE.at (Ex:=noEx) F (be_ (cp_ (ab_ (pv 3)) (xe_glob (by rfl) c_HOW_MANY_BYTES)) (ab_ (pv 4)))))))
  (af_ (ap_ (ch_ (pv 3)))))),fun ds Q h => ?_⟩
 obtain ⟨w,p,i,xs,rfl,w0,w1,p0,i0,i1,ha,q⟩:=h
 have hl:=ft_ w.toNat i
 have hr:=gh_ w.toNat i
 have hv:=numV_numB w.toNat i i0 i1
 generalize numB w.toNat i=ys at *
 have hc:=cut_at ha p0 hl.symm w0
 show forX _ _ _ (cutX (xs.map Dx.int) (some p) (some (p + w))).reverse _
 rw [hc,← List.map_reverse]
 refine bo_ _ (fun rest ρ => ∃ (done:List Int) (y:Sl),ys=rest.reverse ++ done∧ρ=[.v (.tr (.int w)),.v (.tr (.lst (xs.map Dx.int))),.v (.tr (.int p)),.v (.tr (.int (numV done))),y]) (fun ρ h => ?_) (fun b rest ρ Kn h hk => ?_) ⟨[],.un,by rw [List.reverse_reverse,List.append_nil],rfl⟩
 ·obtain ⟨done,y,e,rfl⟩:=h
  rw [List.reverse_nil,List.nil_append] at e
  rw [e] at hv
  rw [← hv] at q
  exact q
 ·obtain ⟨done,y,e,rfl⟩:=h
  rw [List.reverse_cons,List.append_assoc] at e
  have hd:∀ c∈done,0≤c∧c < 256:=fun c hc=>hr c (by rw [e]; exact List.mem_append_right _ (List.mem_append_right _ hc))
  obtain ⟨n0,n1⟩:=numV_bd hd
  have hdl:done.length≤8:=by
   have:=congrArg List.length e
   rw [List.length_append,List.length_append] at this
   have:ys.length≤8:=by omega
   omega
  have n2:numV done < 256 ^ 8:=Int.lt_of_lt_of_le n1 (pow256 hdl)
  have k':=hk [.v (.tr (.int w)),.v (.tr (.lst (xs.map Dx.int))),.v (.tr (.int p)),.v (.tr (.int (numV (b :: done)))),.v (.tr (.int b))] ⟨b :: done,_,e,rfl⟩
  have e3:numV (b :: done)=numV done * 256 + b:=by show b + 256 * numV done=_; omega
  rw [e3] at k'
  exact ⟨⟨by omega,by decide⟩,k'⟩
theorem okx_rd (F:Fun K "record_at" "record_at" eg_ f fd) (CVT:Cal P w K mg base j "value_at" ["kind", "some", "place"] (spX (gVT n))) (CPO:Cal P w K mg base jP "places_in_order" ["fields"] (spX (gPO n))) (m_zip:mg "zip" = none) (hj:jP≤j):FnOk P w K mg base CX0 (j + 1) f fd ["fields", "some", "place"] (spX (gRD n)):=by
 refine fv_ F sc_record_at (fun ds Q h=>by obtain ⟨_,_,_,_,rfl,_⟩:=h; rfl) (by decide) fun cdv A outer s H E hr => ?_
 have hu1:=en_ hr
 refine ⟨_,(ae_ (ag_ fun F=>ak_ (i:=3) sc_record_at.nd rfl (Or.inl rfl) (XE.at (Ex:=noEx) F xe_dnewO))
  (ae_ (dc_ PassesOwn.never rfl (xi_zip m_zip (aa_ (ab_ (pv 0)) (aa_ (ai_ CPO (hr.mono (by omega)) (aa_ (ab_ (pv 0)) ad_)) ad_))) (hy_ rfl (ar_ (aj_ (i:=4) sc_record_at.nd rfl (Or.inl rfl)) (ar_ (aj_ (i:=5) sc_record_at.nd rfl (Or.inl rfl)) cj_))) (et_ (n:=99) (is:=[4,5]) rfl (by decide)) (af_ (fb_ fun F=>PS.weak (ps_dput hu1 (pv 3) (XE.at (Ex:=noEx) F (am_ K (ab_ (pv 4)) ac_ (fun _ _=>rfl))) (XE.at (Ex:=noEx) F (ai_ CVT (hr.mono (by omega)) (aa_ (am_ K (ab_ (pv 4)) ac_ (fun _ _=>rfl)) (aa_ (ab_ (pv 1)) (aa_ (be_ (ab_ (pv 2)) (am_ K (ab_ (pv 5)) ac_ (fun _ _=>rfl))) ad_))))) rfl) tDPut_xO)))
  (af_ (ap_ (ch_ (pv 3)))))),fun ds Q h => ?_⟩
 clear hu1 hj
 obtain ⟨fs,vs,xs,p,rfl,hfit,hval,hd,hn,p0,hx,ha,q⟩:=h
 have hf':=hfit
 obtain ⟨f1,f2,f3,hnd⟩:=hfit
 have hval':=hval
 simp only [Kd.Val] at hval
 have hvl:=cy_ hval
 have hok:=ip_ fs f1
 have hpl:(plcs 0 (rmF fs)).length=fs.length:=by rw [dn_,lenF fs]
 intro ad
 refine ⟨fs,rfl,hok,by omega,by omega,by omega,?_⟩
 have exf:xF fs=(fs.zip vs).map fun p=>.tup [.str p.1.1,p.1.2.x]:=by
  rw [dl_]
  have:fs=(fs.zip vs).map (·.1):=by rw [List.map_fst_zip (by omega)]
  conv=>lhs; rw [this]
  rw [List.map_map]
  rfl
 show forX _ _ _ (zipX (xF fs) ((fs.zip (plcs 0 (rmF fs))).map fun x=>.tup [.str x.1.1,.int x.2])) _
 have ezz:zipX (xF fs) ((fs.zip (plcs 0 (rmF fs))).map fun x=>.tup [.str x.1.1,.int x.2])=((fs.zip vs).zip (fs.zip (plcs 0 (rmF fs)))).map fun q=>.tup [.tup [.str q.1.1.1,q.1.1.2.x],.tup [.str q.2.1.1,.int q.2.2]]:=by rw [exf,dp_]
 rw [ezz]
 have hzl:((fs.zip vs).zip (fs.zip (plcs 0 (rmF fs)))).length=fs.length:=by rw [List.length_zip,List.length_zip,List.length_zip]; omega
 refine bo_ _ (fun rest ρ => ∃ (i:Nat) (l:List (Key×Ow)) (y4 y5:Sl),owDk l=vxF (fs.take i) (vs.take i)∧fullWk l∧rest=((fs.zip vs).zip (fs.zip (plcs 0 (rmF fs)))).drop i∧i≤fs.length∧ρ=[.v (.tr (.lst (xF fs))),.v (.tr (.lst (xs.map Dx.int))),.v (.tr (.int p)),.v (.ow (.od ad l)),y4,y5]) (fun ρ h => ?_) (fun a rest ρ Kn h hk => ?_) ⟨0,[],.un,.un,by simp only [owDk,List.take_zero,vxF],trivial,rfl,Nat.zero_le _,rfl⟩
 ·obtain ⟨i,l,y4,y5,hl,hf,e,hi,rfl⟩:=h
  have hge:=List.drop_eq_nil_iff.mp e.symm
  rw [hzl] at hge
  have:i=fs.length:=by omega
  subst this
  have t2:vs.take fs.length=vs:=List.take_of_length_le (by omega)
  rw [t2,List.take_length] at hl
  exact q ad l hl hf
 ·obtain ⟨i,l,y4,y5,hl,hf,e,hi,rfl⟩:=h
  obtain ⟨e1,e2⟩:=db_ e
  obtain ⟨e3,e4⟩:=List.getElem?_zip_eq_some.mp e1
  obtain ⟨e5,e6⟩:=List.getElem?_zip_eq_some.mp e3
  obtain ⟨e7,e8⟩:=List.getElem?_zip_eq_some.mp e4
  have hil:=(List.getElem?_eq_some_iff.mp e5).1
  obtain ⟨ff,fdp⟩:=fitFx f1 (List.mem_of_getElem? e5)
  have hat:=ha.trans (at_rcd hf' hval' e5 e6 e8)
  have hRms:Rms (rmF fs):=fun r hr=>by
   obtain ⟨m,hm⟩:=List.getElem?_of_mem hr
   have hml:m < fs.length:=by have:=(List.getElem?_eq_some_iff.mp hm).1; rwa [lenF fs] at this
   have:=rmF_at (List.getElem?_eq_getElem hml)
   rw [this] at hm
   cases hm
   obtain ⟨c0,c1,c2,c3⟩:=(fs[m]).2.bd (fitFx f1 (List.getElem_mem hml)).1.ok
   exact ⟨by omega,by omega⟩
  have l2:=(ez_ (e:=0) hRms (rmF_at e5) e8).2
  have hlt:(vs.take i).length=(fs.take i).length:=by rw [List.length_take,List.length_take]; omega
  have hnew:(Sum.inr a.1.1.1:Key)∉(vxF (fs.take i) (vs.take i)).map (·.1):=by
   rw [ef_ hlt]
   intro hm
   obtain ⟨g,hg,eg⟩:=List.mem_map.mp hm
   have eg':g.1=a.1.1.1:=Sum.inr.inj eg
   obtain ⟨m,hm2⟩:=List.getElem?_of_mem hg
   have hml:m < i:=by have:=(List.getElem?_eq_some_iff.mp hm2).1; rw [List.length_take] at this; omega
   rw [List.getElem?_take_of_lt hml] at hm2
   have n1:(fs.map (·.1))[m]? = some a.1.1.1:=by rw [List.getElem?_map,hm2,← eg']; rfl
   have n2:(fs.map (·.1))[i]? = some a.1.1.1:=by rw [List.getElem?_map,e5]; rfl
   have:=(List.getElem?_inj (by rw [List.length_map]; omega) hnd).mp (n1.trans n2.symm)
   omega
  have hnew2:(Sum.inr a.1.1.1:Key)∉l.map (·.1):=by rw [← fs_,hl]; exact hnew
  have hllen:l.length≤100000:=by
   have h5:=congrArg List.length hl
   rw [cx_,List.length_map,vxF_length hlt,List.length_take] at h5
   omega
  refine ⟨a.1.1.2,a.1.2,xs,p + a.2.2,rfl,ff,valF_at hval e5 e6,by omega,by omega,by omega,hx,by rw [show (p + a.2.2).toNat=p.toNat + a.2.2.toNat from by omega]; exact hat,fun s o so ho fo => ?_⟩
  refine ⟨⟨_,_,rfl⟩,ad,l,.inr a.1.1.1,o,rfl,rfl,so,hnew2,by omega,hk _ ⟨i + 1,l ++ [(.inr a.1.1.1,o)],_,_,?_,fi_ hf fo,e2,hil,rfl⟩⟩
  rw [owDk_snoc,hl,ho,co_ e5,co_ e6,vxF_snoc hlt]
theorem okx_ch (F:Fun K "choice_at" "choice_at" ej_ f fd) (CVT:Cal P w K mg base j "value_at" ["kind", "some", "place"] (spX (gVT n))) (CRO:Cal P w K mg base jR "room_of" ["kind"] (spX (gRO (n + 1)))) (CCA:Cal P w K mg base 2 "chosen_at" ["multiple"] (spX gCA)) (m_len:mg "len" = none) (hj:jR≤j) (hj2:2≤j):FnOk P w K mg base CX0 (j + 1) f fd ["kind", "some", "place"] (spX (gCH n)):=by
 refine fv_ F sc_choice_at (fun ds Q h=>by obtain ⟨_,_,_,_,_,rfl,_⟩:=h; rfl) (by decide) fun cdv A outer s H E hr => ?_
 have hu1:=en_ hr
 refine ⟨_,(ae_ (ag_ fun F=>ak_ (i:=3) sc_choice_at.nd rfl (Or.inl rfl) (XE.at (Ex:=noEx) F (am_ K (ab_ (pv 1)) (ab_ (pv 2)) (fun _ _=>rfl))))
  (ae_ (br_ (bc_ op_ge ox_ge (ab_ (pv 3)) (bd_ (bw_ K) eu_ (by rfl) m_len PySem.boot_len (aa_ (am_ K (ab_ (pv 0)) ac_ (fun _ _=>rfl)) ad_)) (nomark _)) (af_ xs_no) au_)
  (af_ (ap_ (xe_tupO (aa_ (ab_ (pv 3)) (aa_ (ai_ CVT (hr.mono (by omega)) (aa_ (am_ K (am_ K (ab_ (pv 0)) ac_ (fun _ _=>rfl)) (ab_ (pv 3)) (fun _ _=>rfl)) (aa_ (ab_ (pv 1)) (aa_ (be_ (ab_ (pv 2)) (ai_ CCA (hr.mono (by omega)) (aa_ (am_ K (ai_ CRO (hr.mono (by omega)) (aa_ (ab_ (pv 0)) ad_)) ac_ (fun _ _=>rfl)) ad_))) ad_)))) ad_))))))),fun ds Q h => ?_⟩
 clear hu1 hj hj2
 obtain ⟨ks,jj,v,xs,p,rfl,hfit,hval,hd,hn,p0,hx,ha,q⟩:=h
 have hf':=hfit
 obtain ⟨f1,f2,f3⟩:=hfit
 simp only [Kd.Val] at hval
 obtain ⟨k,hk,hvk⟩:=dr_ hval
 obtain ⟨kf,kdp⟩:=fitKx f1 (List.mem_of_getElem? hk)
 have hjl:=(List.getElem?_eq_some_iff.mp hk).1
 obtain ⟨a1,a2⟩:=at_cho hf' hk hvk
 have hat:=ha.trans a1
 obtain ⟨b0,b1,b2,b3⟩:=(Kd.cho ks).bd hf'.ok
 have hlen0:0 < ((Kd.cho ks).byt (.cho jj v)).length:=(List.getElem?_eq_some_iff.mp a2).1
 have h0:=ha.1
 have hxp:xs[p.toNat]? = some (jj:Int):=by
  have:=ha.2 0 hlen0
  rw [Nat.add_zero,List.getD_eq_getElem?_getD,List.getD_eq_getElem?_getD,a2,List.getElem?_eq_getElem (by omega)] at this
  rw [List.getElem?_eq_getElem (by omega)]
  exact congrArg some this
 have hix:ixX (.lst (xs.map Dx.int)) (.int p)=fun Q=>Q (.tr (.int (jj:Int))):=by
  have hm:(xs.map Dx.int)[p.toNat]? = some (.int (jj:Int)):=by rw [List.getElem?_map,hxp]; rfl
  have:=fl_ hm
  rw [show ((p.toNat:Nat):Int)=p from by omega] at this
  funext Q
  simp only [ixX,this]
 have hxk:(xK ks)[jj]? = some k.x:=by rw [cu_,List.getElem?_map,hk]; rfl
 have hat':=fl_ hxk
 have hkl:(xK ks).length=ks.length:=by rw [cu_,List.length_map]
 refine fu_ ?_
 refine go_op (in_ rfl (in_ rfl ?_))
 show ixX (.lst (xs.map Dx.int)) (.int p) _
 rw [hix]
 dsimp only
 change xSeq _ _ [.v (.tr (Kd.cho ks).x),.v (.tr (.lst (xs.map Dx.int))),.v (.tr (.int p)),.v (.tr (.int (jj:Int)))] _
 refine fg_ (ρ':=[.v (.tr (Kd.cho ks).x),.v (.tr (.lst (xs.map Dx.int))),.v (.tr (.int p)),.v (.tr (.int (jj:Int)))]) (fun Q q => ?_) ?_
 ·show Q (decide (((xK ks).length:Int)≤(jj:Int))) _
  rw [decide_eq_false (by omega)]
  exact q
 ·show match atI (xK ks) ((jj:Nat):Int) with | some d=>_ | none=>False
  rw [hat']
  refine ⟨.cho ks,rfl,hf'.ok,by show deepK ks + 1≤n + 1; omega,by omega,(Kd.cho ks).rm.2,rfl,by omega,by omega,k,v,xs,p + up 1 (Kd.cho ks).rm.2,rfl,kf,hvk,by omega,by omega,?_⟩
  obtain ⟨u1,u2⟩:=an_ (n:=1) (m:=(Kd.cho ks).rm.2) (by omega)
  refine ⟨by omega,hx,by rw [show (p + up 1 (Kd.cho ks).rm.2).toNat=p.toNat + (up 1 (Kd.cho ks).rm.2).toNat from by omega]; exact hat,fun s o so ho fo => ?_⟩
  simp only [Kd.vx] at q
  rw [hr_ hk] at q
  refine ⟨[.tr (.int (jj:Int)),o],by rw [List.map_cons,List.map_cons,List.map_nil,so]; rfl,len2,q _ (.ot [.tr (.int (jj:Int)),o]) rfl (by simp only [Ow.d,owDs,ho]) ?_⟩
  simp only [FullW,fullWs,scal]
  exact ⟨trivial,fo,trivial⟩
theorem okx_vt (F:Fun K "value_at" "value_at" ea_ f fd) (CNA:Cal P w K mg base 1 "number_at" ["w", "some", "place"] (spX gNA)) (CVT:Cal P w K mg base j "value_at" ["kind", "some", "place"] (spX (gVT n))) (CRO:Cal P w K mg base jR "room_of" ["kind"] (spX (gRO n))) (CSO:Cal P w K mg base 2 "step_of" ["room"] (spX gSO)) (CRD:Cal P w K mg base (j + 1) "record_at" ["fields", "some", "place"] (spX (gRD n))) (CCH:Cal P w K mg base (j + 1) "choice_at" ["kind", "some", "place"] (spX (gCH n))) (m_range:mg "range" = none) (hj:jR≤j) (hj2:2≤j):FnOk P w K mg base CX0 (j + 2) f fd ["kind", "some", "place"] (spX (gVT (n + 1))):=by
 refine fv_ F sc_value_at (fun ds Q h=>by obtain ⟨_,_,_,_,rfl,_⟩:=h; rfl) (by decide) fun cdv A outer s H E hr => ?_
 have hu1:=en_ hr
 have hu0:=Nat.lt_of_succ_lt hu1
 refine ⟨_,(ae_ (br_ (bc_ (bn_ K hu0) cr_ (am_ K (ab_ (pv 0)) ac_ (fun _ _=>rfl)) bt_ (nomark _)) (af_ (ap_ (ai_ CNA (hr.mono (by omega)) (aa_ (am_ K (ab_ (pv 0)) ac_ (fun _ _=>rfl)) (aa_ (ab_ (pv 1)) (aa_ (ab_ (pv 2)) ad_)))))) au_)
  (ae_ (br_ (bc_ (bn_ K hu0) cr_ (am_ K (ab_ (pv 0)) ac_ (fun _ _=>rfl)) bt_ (nomark _)) (ae_ (ag_ fun F=>ak_ (i:=3) sc_value_at.nd rfl (Or.inr rfl) (XE.at (Ex:=noEx) F (ai_ CSO (hr.mono (by omega)) (aa_ (ai_ CRO (hr.mono (by omega)) (aa_ (am_ K (ab_ (pv 0)) ac_ (fun _ _=>rfl)) ad_)) ad_))))
  (af_ (ap_ (xe_compO (dsc:=defScope ea_) (N:=["kind", "some", "place", "step"]) (tgs:=["k"]) (outs:=[0,1,2,3]) (N':=["k", "kind", "some", "place", "step"]) (by refine ⟨rfl,?_,?_,?_,rfl,?_,?_,?_⟩ <;> decide +kernel) (cc_ m_range (aa_ (am_ K (ab_ (pv 0)) ac_ (fun _ _=>rfl)) ad_)) (fun _ _ _ _ _=>(aj_ (i:=0) (show (["k", "kind", "some", "place", "step"]:List Str).Nodup by decide +kernel) rfl (Or.inl rfl) (.inr rfl))) (bb_ (n:=1) (i:=0) (by decide)) (bl_ (by decide)) (fun _ _ _ _ _=>bi_) (fun _ _ _ _ _=>(ai_ CVT (hr.mono (by omega)) (aa_ (am_ K (ab_ (pv 1)) ac_ (fun _ _=>rfl)) (aa_ (ab_ (pv 2)) (aa_ (be_ (ab_ (pv 3)) (cp_ (ab_ (pv 0)) (ab_ (pv 4)))) ad_))))))))) au_)
  (ae_ (br_ (bc_ (bn_ K hu0) cr_ (am_ K (ab_ (pv 0)) ac_ (fun _ _=>rfl)) bt_ (nomark _)) (af_ (ap_ (ai_ CRD (hr.mono (by omega)) (aa_ (am_ K (ab_ (pv 0)) ac_ (fun _ _=>rfl)) (aa_ (ab_ (pv 1)) (aa_ (ab_ (pv 2)) ad_)))))) au_)
  (af_ (ap_ (ai_ CCH (hr.mono (by omega)) (aa_ (ab_ (pv 0)) (aa_ (ab_ (pv 1)) (aa_ (ab_ (pv 2)) ad_))))))))),fun ds Q h => ?_⟩
 clear hu0 hu1 hj hj2
 obtain ⟨kd,vd,xs,p,rfl,hfit,hval,hd,hn,p0,hx,ha,q⟩:=h
 cases kd with
 | num wd m =>
  obtain ⟨i,rfl,i0,i1⟩:=val_num hval
  simp only [Kd.byt] at ha
  exact ⟨wd,p,i,xs,rfl,by have:=hfit.1; omega,hfit.2.1,p0,i0,i1,ha,q (.tr (.int i)) (.tr (.int i)) rfl (by simp only [Ow.d,Kd.vx]) (by simp only [FullW,scal])⟩
 | row k m =>
  obtain ⟨vs,rfl,hl,hvs⟩:=val_row hval
  have hd':k.deep + 1≤n + 1:=hd
  have hf':=hfit
  obtain ⟨f1,f2,f3⟩:=hfit
  obtain ⟨c0,c1,c2,c3⟩:=bd12 (n:=n) f1.ok (by omega) (by omega)
  obtain ⟨u1,u2⟩:=an_ (n:=k.rm.1) (m:=k.rm.2) (by omega)
  have hst:((up k.rm.1 k.rm.2).toNat:Int)=up k.rm.1 k.rm.2:=Int.toNat_of_nonneg (by omega)
  have hbl:=Kd.byt_len hval
  have h1:=ha.1
  refine ⟨k,rfl,f1.ok,by omega,by omega,k.rm,rfl,c0,by omega,by omega,by omega,?_⟩
  have hup:up k.rm.1 k.rm.2≤100000:=by
   have hR':(Kd.row k m).rm.1=m * up k.rm.1 k.rm.2:=rfl
   have:1 * up k.rm.1 k.rm.2≤m * up k.rm.1 k.rm.2:=Int.mul_le_mul_of_nonneg_right (by omega) (by omega)
   rw [hbl,hR'] at h1
   omega
  have er:rngX 0 m.toNat=((List.range vs.length).zip vs).map fun a:Nat×Vd=>.int (0 + (a.1:Int)):=by
   have:m.toNat=vs.length:=by omega
   rw [this]
   unfold rngX
   have e2:List.range vs.length=((List.range vs.length).zip vs).map (·.1):=by rw [List.map_fst_zip (by rw [List.length_range]; omega)]
   conv=>lhs; rw [e2]
   rw [List.map_map]
   rfl
  refine ⟨⟨by omega,by omega⟩,?_⟩
  have hlen:(rngX 0 m.toNat).length≤1000000:=by unfold rngX; rw [List.length_map,List.length_range]; omega
  refine ⟨hlen,?_⟩
  show compO _ _ _ _ _ (rngX 0 m.toNat) _ _
  rw [er]
  refine is_ (fun a:Nat×Vd=>.int (0 + (a.1:Int))) (fun rest acc cs => ∃ i:Nat,rest=((List.range vs.length).zip vs).drop i∧i≤vs.length∧owDs acc=(vs.take i).map k.vx∧fullWs acc∧cs=[.v (.tr (Kd.row k m).x),.v (.tr (.lst (xs.map Dx.int))),.v (.tr (.int p)),.v (.tr (.int (up k.rm.1 k.rm.2)))]) (fun acc cs h => ?_) (fun a rest acc cs Pp h hk => ?_) ⟨0,rfl,Nat.zero_le _,by simp only [owDs,List.take_zero,List.map_nil],trivial,rfl⟩
  ·obtain ⟨i,e,hi,hacc,hf,rfl⟩:=h
   have hge:=List.drop_eq_nil_iff.mp e.symm
   rw [List.length_zip,List.length_range] at hge
   have:i=vs.length:=by omega
   subst this
   rw [List.take_length] at hacc
   intro ad
   exact q (.ow (.ol ad acc)) _ rfl (by simp only [Ow.d,hacc,Kd.vx]) (by simp only [FullW]; exact hf)
  ·obtain ⟨i,e,hi,hacc,hf,rfl⟩:=h
   obtain ⟨e1,e2⟩:=db_ e
   obtain ⟨e3,e4⟩:=rng_zip e1
   have hil:=(List.getElem?_eq_some_iff.mp e4).1
   have hva:=hvs a.2 (List.mem_of_getElem? e4)
   have hat:=ha.trans (at_row hf' hval e4)
   have hcast:(0 + (a.1:Int)) * up k.rm.1 k.rm.2=((i * (up k.rm.1 k.rm.2).toNat:Nat):Int):=by rw [e3,Int.zero_add,← hst]; push_cast; rfl
   refine ⟨⟨by rw [e3]; omega,by omega⟩,k,a.2,xs,p + (0 + (a.1:Int)) * up k.rm.1 k.rm.2,rfl,f1,hva,by omega,by omega,by rw [hcast]; omega,hx,?_,fun s o so ho fo=>⟨o,so,hk _ _ ⟨i + 1,e2,hil,?_,fh_ hf fo,rfl⟩⟩⟩
   ·rw [hcast,show (p + ((i * (up k.rm.1 k.rm.2).toNat:Nat):Int)).toNat=p.toNat + i * (up k.rm.1 k.rm.2).toNat from by omega]
    exact hat
   ·rw [owDs_snoc,hacc,ho,co_ e4,List.map_append]
    rfl
 | rcd fs =>
  obtain ⟨vs,rfl,hvs⟩:=val_rcd hval
  have hd':deepF fs + 1≤n + 1:=hd
  exact ⟨fs,vs,xs,p,rfl,hfit,hval,by omega,by omega,p0,hx,ha,fun ad l hl hf=>q (.ow (.od ad l)) _ rfl (by simp only [Ow.d,hl,Kd.vx]) (by simp only [FullW]; exact hf)⟩
 | cho ks =>
  obtain ⟨jj,v,k,rfl,hk,hvk⟩:=val_cho hval
  have hd':deepK ks + 1≤n + 1:=hd
  exact ⟨ks,jj,v,xs,p,rfl,hfit,hval,by omega,by omega,p0,hx,ha,q⟩
theorem vtx_none:FnOk P w K mg base CX0 j f fd ["kind", "some", "place"] (spX (gVT 0)):=fn_no fun ds Q h=>by
 obtain ⟨kd,_,_,_,_,_,_,hd,_⟩:=h
 have:=Kd.deep_pos kd
 omega
end
def gVO (n:Nat):GC:=fun ds Q => ∃ (kd:Kd) (vd:Vd),ds=[kd.x,.lst ((kd.byt vd).map Dx.int)]∧kd.Fit∧kd.Val vd∧kd.deep≤n∧n≤12∧kd.rm.1≤100000∧∀ s o,s.o? = some o→o.d=kd.vx vd→FullW o→Q s
theorem o?_d {s:Sv} {o:Ow} (h:s.o? = some o):s.d=o.d:=by
 cases s with
 | tr d=>cases h; simp only [Sv.d,Ow.d]
 | ol l=>cases h
 | od l=>cases h
 | ow o'=>cases h; rfl
section
variable {P:Program} {w:World} {K:FG_} {mg:MG_} {base:Heap} {f:Addr} {fd:FuncData} {n j jR jB:Nat}
theorem okx_vo (F:Fun K "value_of" "value_of" gd_ f fd) (CAB:Cal P w K mg base 3 "are_bytes" ["thing", "how_many"] (spX gAB)) (CRO:Cal P w K mg base jR "room_of" ["kind"] (spX (gRO n))) (CVT:Cal P w K mg base j "value_at" ["kind", "some", "place"] (spX (gVT n))) (CLB:Cal P w K mg base jB "laid_bytes" ["kind", "value"] (spX (gLB n))) (hj:jR≤j) (hjB:jB≤j) (hj3:3≤j):FnOk P w K mg base CX0 (j + 1) f fd ["kind", "thing"] (spX (gVO n)):=by
 refine fv_ F sc_value_of (fun ds Q h=>by obtain ⟨_,_,rfl,_⟩:=h; rfl) (by decide) fun cdv A outer s H E hr => ?_
 have hu1:=en_ hr
 have hu0:=Nat.lt_of_succ_lt hu1
 refine ⟨_,(ae_ (br_ (go_ (dk_ (ai_ CAB (hr.mono (by omega)) (aa_ (ab_ (pv 1)) (aa_ (am_ K (ai_ CRO (hr.mono (by omega)) (aa_ (ab_ (pv 0)) ad_)) ac_ (fun _ _=>rfl)) ad_))))) (af_ xs_no) au_)
  (ae_ (ag_ fun F=>ak_ (i:=2) sc_value_of.nd rfl (Or.inl rfl) (XE.at (Ex:=noEx) F (ai_ CVT (hr.mono (by omega)) (aa_ (ab_ (pv 0)) (aa_ (ab_ (pv 1)) (aa_ ac_ ad_))))))
  (ae_ (br_ (bc_ (op_neZ hu0) ox_eqI (xe_callPk2 (i:=2) CLB (hr.mono (by omega)) (ab_ (pv 0)) (pv 2)) (ab_ (pv 1)) (nomark _)) (af_ xs_no) au_)
  (af_ (ap_ (ch_ (pv 2))))))),fun ds Q h => ?_⟩
 clear hu0 hu1 hj hjB hj3
 obtain ⟨kd,vd,rfl,hfit,hval,hd,hn,hrm,q⟩:=h
 have hbl:=Kd.byt_len hval
 obtain ⟨b0,b1,b2,b3⟩:=kd.bd hfit.ok
 have hrl:kd.rm.1=((kd.byt vd).length:Int):=by rw [hbl]; omega
 refine fg_ (ρ':=[.v (.tr kd.x),.v (.tr (.lst ((kd.byt vd).map Dx.int))),.un]) (fun Q q => ?_) ?_
 ·refine ⟨kd,rfl,hfit.ok,hd,hn,?_⟩
  exact ⟨kd.byt vd,by rw [← hrl]; rfl,byt_rng kd vd hfit hval,by omega,q⟩
 ·refine ⟨kd,vd,kd.byt vd,0,rfl,hfit,hval,hd,hn,by decide,by omega,AtP.self _,fun s o so ho fo => ?_⟩
  dsimp only
  have hsd:s.d=kd.vx vd:=(o?_d so).trans ho
  refine fg_ (ρ':=[.v (.tr kd.x),.v (.tr (.lst ((kd.byt vd).map Dx.int))),.v s]) (fun Q q => ?_) ?_
  ·refine ⟨kd,vd,s.d,rfl,by rw [hsd]; exact isv_vx kd vd hfit hval,hfit,hval,hd,hn,hrm,⟨kd.byt vd,rfl⟩,?_⟩
   refine ⟨kd.byt vd,kd.byt vd,rfl,rfl,?_⟩
   show Q (!decide (kd.byt vd=kd.byt vd)) _
   rw [decide_eq_true rfl]
   exact q
  ·exact q s o so ho fo
end
theorem bxss {X:Cx} {Ex:ExT} {l:List Stmt} {G:XS} (h:Bx (XSs X Ex l G)):XSs X Ex l G:=h.out
def rd_law (K : FG_) : XS := (xSeq (xFor (xiR1 (xCons (xCall max2X (xCons (xC (.int 1)) (xCons (xCall min2X (xCons (xC (.int 4)) (xCons (xCall (lenZ K) (xCons (xVar 0) xNil)) xNil))) xNil))) xNil)) (gxN 1) (xSeq (xSet 2 (xCall (gPL K) (xCons (xVar 0) (xCons (xVar 1) xNil))))
    (xSeq (xSet 3 (xOp ixX (xLst (xCons (xC (.int 60)) (xCons (xC (.int 200)) (xCons (xC (.int 200)) (xCons (xOp ixX (xLst (xCons (xC (.int 2000)) (xCons (xC (.int 200)) xNil))) (xCall intX (xCons (xOp gtX (xVar 1) (xC (.int 0))) xNil))) xNil))))) (xCallB gTK 2 (xCons (xC (.int 4)) xNil))))
    (xSeq (xSet 4 (xCallB (gLK 5) 2 (xCons (xOp addX (xC (.int 1)) (xCallB gTK 2 (xCons (xC (.int 5)) xNil))) (xCons (xVar 3) xNil))))
    (xFor (xiR1 (xCons (xC (.int 2)) xNil)) (gxN 5) (xSeq (xSet 6 (xCallB (gVA 5) 2 (xCons (xVar 4) xNil)))
    (xSeq (xSet 7 (xCall (gLY 5) (xCons (xVar 4) (xCons (xVar 6) xNil))))
    (xSeq (xSet 8 (xLst (xCons (xCall (gCO 20) (xCons (xVar 4) xNil)) (xCons (xCall listX (xCons (xVar 7) xNil)) xNil))))
    (xFor (xiR1 (xCons (xC (.int 2)) xNil)) (gxN 9) (xSeq (xSet 10 (xCall (gVO 5) (xCons (xOp ixX (xVar 8) (xC (.int 0))) (xCons (xOp ixX (xVar 8) (xC (.int 1))) xNil))))
    (xSeq (xIf (xNot (xB (xCallPk (gSA 20) 10 (xCons (xVar 6) xNil)))) (xRet (xC (.bl false))) xNext)
    (xSeq (xIf (xOr (xNot (xB (xCall (gSA 20) (xCons (xOp ixX (xVar 8) (xC (.int 0))) (xCons (xVar 4) xNil))))) (xNot (xB (xCall (gSA 20) (xCons (xOp ixX (xVar 8) (xC (.int 1))) (xCons (xVar 7) xNil)))))) (xRet (xC (.bl false))) xNext)
    (xSeq (xSet 11 (xCall (gCO 20) (xCons (xVar 6) xNil)))
    (xSeq (xMark 5 11)
    (xSeq (xMark 5 10)
    (xIf (xNot (xB (xCall (gSA 20) (xCons (xVar 10) (xCons (xVar 11) xNil))))) (xRet (xC (.bl false))) xNext))))))))))))))))
    (xRet (xC (.bl true))))
section
variable {P:Program} {w:World} {K:FG_} {mg:MG_} {base:Heap} {f:Addr} {fd:FuncData} {L:Nat}
theorem der_law (CPL:Cal P w K mg base 1 "_law_pool" ["script", "k"] (spX (gPL K)))
  (CTK:Cal P w K mg base 1 "_law_take" ["pool", "many"] (spB gTK)) (CLK:Cal P w K mg base L "_law_kind" ["pool", "deep", "most"] (spB (gLK 5))) (CVA:Cal P w K mg base L "_law_value" ["pool", "kind"] (spB (gVA 5))) (CLY:Cal P w K mg base L "_law_bytes" ["kind", "value"] (spX (gLY 5))) (CCO:Cal P w K mg base L "_law_copy" ["thing"] (spX (gCO 20))) (CSA:Cal P w K mg base L "_law_same" ["one", "other"] (spX (gSA 20))) (CVO:Cal P w K mg base L "value_of" ["kind", "thing"] (spX (gVO 5))) (CMK:Cal P w K mg base L "_law_marked" ["value", "marks"] (spM 5))
  (m_max:mg "max" = none) (m_min:mg "min" = none) (m_range:mg "range" = none) (m_len:mg "len" = none) (m_int:mg "int" = none) (m_list:mg "list" = none) (hL:1≤L)
  {cdv:Value} {A:Around} {outer:List Env} {s:Shared} {H:Hp} {E:XK} (hr:Room L (A.deeper (PyProof.Rows.envOfC "law" (defScope s_law) s.heap.objs.size f cdv))) :
  XSs (cxOf CX0 P w K mg base (["script", "k", "pool", "most", "kind", "turn", "value", "laid", "handed", "again", "found", "due"]:List Str) "law" (defScope s_law) f cdv A outer s H E).nox noEx (defBody s_law) (rd_law K):=by
 have hu1:=en_ hr
 have hu0:=Nat.lt_of_succ_lt hu1
 exact (bxss (cg_ (Bx.mk (dc_ PassesOwn.never rfl (cc_ m_range (aa_ (bd_ (call_max2 (by rfl)) cx_max2 (by rfl) m_max bt_max (aa_ ac_ (aa_ (bd_ (call_min2 (by rfl)) cx_min2 (by rfl) m_min bt_min (aa_ ac_ (aa_ (bd_ (bw_ K) cx_lenZ (by rfl) m_len PySem.boot_len (aa_ (ab_ (pv 0)) ad_)) ad_))) ad_))) ad_)) (aj_ (i:=1) sc_law.nd rfl (Or.inl rfl)) (bb_ (n:=99) (i:=1) (by decide)) (bxss (cg_ (Bx.mk (ag_ fun F=>ak_ (i:=2) sc_law.nd rfl (Or.inl rfl) (XE.at (Ex:=noEx) F (ai_ CPL (hr.mono (by omega)) (aa_ (ab_ (pv 0)) (aa_ (ab_ (pv 1)) ad_))))))
  (cg_ (Bx.mk (ag_ fun F=>ak_ (i:=3) sc_law.nd rfl (Or.inl rfl) (XE.at (Ex:=noEx) F (am_ K (bq_ (aa_ ac_ (aa_ ac_ (aa_ ac_ (aa_ (am_ K (bq_ (aa_ ac_ (aa_ ac_ ad_))) (hp_ call_int1 cx_int (by rfl) m_int bt_int (aa_ (ho_ op_gt ox_gt (ab_ (pv 1)) ac_ (nomark _)) ad_)) (fun _ _=>rfl)) ad_))))) (ao_ (i:=2) CTK (hr.mono (by omega)) (pv 2) (aa_ ac_ ad_)) (fun _ _=>rfl)))))
  (cg_ (Bx.mk (ag_ fun F=>ak_ (i:=4) sc_law.nd rfl (Or.inl rfl) (XE.at (Ex:=noEx) F (ao_ (i:=2) CLK (hr.mono (by omega)) (pv 2) (aa_ (be_ ac_ (ao_ (i:=2) CTK (hr.mono (by omega)) (pv 2) (aa_ ac_ ad_))) (aa_ (ab_ (pv 3)) ad_))))))
  (fk_ (Bx.mk (dc_ PassesOwn.never rfl (cc_ m_range (aa_ ac_ ad_)) (aj_ (i:=5) sc_law.nd rfl (Or.inl rfl)) (bb_ (n:=99) (i:=5) (by decide)) (bxss (cg_ (Bx.mk (ag_ fun F=>ak_ (i:=6) sc_law.nd rfl (Or.inl rfl) (XE.at (Ex:=noEx) F (ao_ (i:=2) CVA (hr.mono (by omega)) (pv 2) (aa_ (ab_ (pv 4)) ad_)))))
  (cg_ (Bx.mk (ag_ fun F=>ak_ (i:=7) sc_law.nd rfl (Or.inl rfl) (XE.at (Ex:=noEx) F (ai_ CLY (hr.mono (by omega)) (aa_ (ab_ (pv 4)) (aa_ (ab_ (pv 6)) ad_))))))
  (cg_ (Bx.mk (ag_ fun F=>ak_ (i:=8) sc_law.nd rfl (Or.inl rfl) (XE.at (Ex:=noEx) F (bq_ (aa_ (ai_ CCO (hr.mono (by omega)) (aa_ (ab_ (pv 4)) ad_)) (aa_ (hp_ (call_listA K) cx_list (by rfl) m_list fj_ (aa_ (ab_ (pv 7)) ad_)) ad_))))))
  (fk_ (Bx.mk (dc_ PassesOwn.never rfl (cc_ m_range (aa_ ac_ ad_)) (aj_ (i:=9) sc_law.nd rfl (Or.inl rfl)) (bb_ (n:=99) (i:=9) (by decide)) (bxss (cg_ (Bx.mk (ag_ fun F=>ak_ (i:=10) sc_law.nd rfl (Or.inl rfl) (XE.at (Ex:=noEx) F (ai_ CVO (hr.mono (by omega)) (aa_ (am_ K (ab_ (pv 8)) ac_ (fun _ _=>rfl)) (aa_ (am_ K (ab_ (pv 8)) ac_ (fun _ _=>rfl)) ad_))))))
  (cg_ (Bx.mk (br_ (go_ (dk_ (xe_callPk (i:=10) CSA (hr.mono (by omega)) (pv 10) (aa_ (ab_ (pv 6)) ad_)))) (bxss (fk_ (Bx.mk (ap_ xe_bl)))) au_))
  (cg_ (Bx.mk (br_ (XW.pt (xw_or (go_ (dk_ (ai_ CSA (hr.mono (by omega)) (aa_ (am_ K (ab_ (pv 8)) ac_ (fun _ _=>rfl)) (aa_ (ab_ (pv 4)) ad_))))) (xw_or1 (go_ (dk_ (ai_ CSA (hr.mono (by omega)) (aa_ (am_ K (ab_ (pv 8)) ac_ (fun _ _=>rfl)) (aa_ (ab_ (pv 7)) ad_)))))))) (bxss (fk_ (Bx.mk (ap_ xe_bl)))) au_))
  (cg_ (Bx.mk (ag_ fun F=>ak_ (i:=11) sc_law.nd rfl (Or.inl rfl) (XE.at (Ex:=noEx) F (ai_ CCO (hr.mono (by omega)) (aa_ (ab_ (pv 6)) ad_)))))
  (cg_ (Bx.mk (xs_mark (i:=11) CMK (hr.mono (by omega)) (pv 11)))
  (cg_ (Bx.mk (xs_mark (i:=10) CMK (hr.mono (by omega)) (pv 10)))
  (fk_ (Bx.mk (br_ (go_ (dk_ (ai_ CSA (hr.mono (by omega)) (aa_ (ab_ (pv 10)) (aa_ (ab_ (pv 11)) ad_))))) (bxss (fk_ (Bx.mk (ap_ xe_bl)))) au_))))))))))))))))))))))))))
  (fk_ (Bx.mk (ap_ xe_bl)))))
end
theorem most_in {v:Dx} {z:Int} (h:v∈[Dx.int 60,Dx.int 200,Dx.int 200,Dx.int z]) (hz:z=2000∨z=200):∃ mo,v=.int mo∧8≤mo∧mo≤2000:=by
 simp only [List.mem_cons,List.not_mem_nil,or_false] at h
 rcases h with rfl | rfl | rfl | rfl
 ·exact ⟨_,rfl,by omega,by omega⟩
 ·exact ⟨_,rfl,by omega,by omega⟩
 ·exact ⟨_,rfl,by omega,by omega⟩
 ·exact ⟨_,rfl,by omega,by omega⟩
theorem go_listX {l:List Dx} {Q:Sv→Prop} (h:Q (.ol l)):listX [.lst l] Q:=h
theorem go_nil {ρ:En} {Q:List Sv→En→Prop} (h:Q [] ρ):xNil ρ Q:=h
theorem two_zz {v:Dx} {a b:Int} (h:v∈[Dx.int a,Dx.int b]):∃ z,v=.int z∧(z=a∨z=b):=by
 simp only [List.mem_cons,List.not_mem_nil,or_false] at h
 rcases h with rfl | rfl
 ·exact ⟨_,rfl,.inl rfl⟩
 ·exact ⟨_,rfl,.inr rfl⟩
section
variable {P:Program} {w:World} {K:FG_} {mg:MG_} {base:Heap} {f:Addr} {fd:FuncData} {L:Nat}
theorem okx_law (F:Fun K "law" "law" s_law f fd) (CPL:Cal P w K mg base 1 "_law_pool" ["script", "k"] (spX (gPL K)))
  (CTK:Cal P w K mg base 1 "_law_take" ["pool", "many"] (spB gTK)) (CLK:Cal P w K mg base L "_law_kind" ["pool", "deep", "most"] (spB (gLK 5))) (CVA:Cal P w K mg base L "_law_value" ["pool", "kind"] (spB (gVA 5))) (CLY:Cal P w K mg base L "_law_bytes" ["kind", "value"] (spX (gLY 5))) (CCO:Cal P w K mg base L "_law_copy" ["thing"] (spX (gCO 20))) (CSA:Cal P w K mg base L "_law_same" ["one", "other"] (spX (gSA 20))) (CVO:Cal P w K mg base L "value_of" ["kind", "thing"] (spX (gVO 5))) (CMK:Cal P w K mg base L "_law_marked" ["value", "marks"] (spM 5))
  (m_max:mg "max" = none) (m_min:mg "min" = none) (m_range:mg "range" = none) (m_len:mg "len" = none) (m_int:mg "int" = none) (m_list:mg "list" = none) (hL:1≤L) :
  FnOk P w K mg base CX0 (L + 1) f fd ["script"] (spX (gLaw K)):=by
 refine fv_ F sc_law (fun ds Q h=>by obtain ⟨ns,rfl,_⟩:=h; rfl) (by decide) fun cdv A outer s H E hr => ?_
 refine ⟨_,der_law CPL CTK CLK CVA CLY CCO CSA CVO CMK m_max m_min m_range m_len m_int m_list hL hr,fun ds Q h => ?_⟩
 clear hr
 obtain ⟨ns,rfl,h63,q⟩:=h
 have t5:tk 5=67863000:=by decide
 have v5:tv 5=2042050:=by decide
 unfold rd_law
 refine hq_ (fun ρ=>True) (fun ρ _=>q) (fun nx hnx => ?_)
 refine ⟨rfl,?_⟩
 refine ⟨⟨by split <;> (try split) <;> omega,by split <;> (try split) <;> omega⟩,?_⟩
 refine bo_ (fun k:Nat=>Dx.int (0 + (k:Int))) (fun rest ρ=>(∀ k∈rest,k < 63)∧∃ y1 y2 y3 y4 y5 y6 y7 y8 y9 y10 y11,ρ=[.v (.tr (.scr K ns)),y1,y2,y3,y4,y5,y6,y7,y8,y9,y10,y11]) (fun ρ h=>hnx ρ trivial) (fun k rest ρ Kn h hk => ?_) ⟨fun k hk=>by
   have:=List.mem_range.mp hk
   revert this
   split <;> (try split) <;> omega,.un,.un,.un,.un,.un,.un,.un,.un,.un,.un,.un,rfl⟩
 obtain ⟨hlt,y1,y2,y3,y4,y5,y6,y7,y8,y9,y10,y11,rfl⟩:=h
 have hk4:=hlt k List.mem_cons_self
 have hknext:∀ a1 a2 a3 a4 a5 a6 a7 a8 a9 a10 a11,Kn [.v (.tr (.scr K ns)),a1,a2,a3,a4,a5,a6,a7,a8,a9,a10,a11]:=fun a1 a2 a3 a4 a5 a6 a7 a8 a9 a10 a11=>hk _ ⟨fun k' hk'=>hlt k' (List.mem_cons_of_mem _ hk'),_,_,_,_,_,_,_,_,_,_,_,rfl⟩
 refine ⟨ns,0 + (k:Int),rfl,by omega,by omega,fun l hP => ?_⟩
 dsimp only
 refine ⟨len2,?_⟩
 refine xint_gt rfl ?_
 refine gt_ ?_ ?_ fun v hv => ?_
 ·split <;> decide
 ·show _ < (2:Int); split <;> decide
 obtain ⟨z,rfl,hz⟩:=two_zz hv
 refine ⟨lenA (by show 4≤1000000; decide),rfl,_,4,rfl,hP,by omega,by decide,by decide,fun r1 l1 r10 r11 hP1 => ?_⟩
 refine gt_ r10 r11 fun v hv => ?_
 obtain ⟨mo,rfl,mo1,mo2⟩:=most_in hv hz
 refine ⟨rfl,rfl,_,5,rfl,hP1,by omega,by decide,by decide,fun r2 l2 r20 r21 hP2 => ?_⟩
 refine ⟨_,1 + r2,mo,rfl,hP2,by omega,by omega,by omega,by decide,by rw [t5]; omega,fun kd l3 hF hdp hrm hP3 => ?_⟩
 rw [t5] at hP3
 have hd5:kd.deep≤5:=by omega
 obtain ⟨kz,kdp⟩:=kd.x_sz hF
 dsimp only
 change xFor _ _ _ [.v (.tr (.scr K ns)),.v (.tr (.int (0 + (k:Int)))),.v (.ol l3),.v (.tr (.int mo)),.v (.tr kd.x),y5,y6,y7,y8,y9,y10,y11] _
 obtain ⟨PB,hPB,hPBb⟩ : ∃ PB:Int,PoolX PB l3∧PB + 1000000000 < 2 ^ 60:=⟨_,hP3,by omega⟩
 clear hP hP1 hP2 hP3
 refine ⟨⟨by decide,by decide⟩,?_⟩
 show forX _ _ _ ((List.range 2).map fun k:Nat=>Dx.int (0 + (k:Int))) _
 generalize hT:List.range 2=T2
 have hT2:T2.length=2:=by rw [← hT]; rfl
 refine bo_ (fun k:Nat=>Dx.int (0 + (k:Int))) (fun rest ρ => ∃ (l:List Dx) (y5 y6 y7 y8 y9 y10 y11:Sl),rest.length≤2∧PoolX (PB + 10000000 * (2 - (rest.length:Int))) l∧ρ=[.v (.tr (.scr K ns)),.v (.tr (.int (0 + (k:Int)))),.v (.ol l),.v (.tr (.int mo)),.v (.tr kd.x),y5,y6,y7,y8,y9,y10,y11]) (fun ρ h => ?_) (fun t rest2 ρ Kn2 h hk2 => ?_) ⟨l3,_,_,_,_,_,_,_,by omega,hPB.mono (by omega),rfl⟩
 ·obtain ⟨l,y5,y6,y7,y8,y9,y10,y11,_,_,rfl⟩:=h
  exact hknext _ _ _ _ _ _ _ _ _ _ _
 obtain ⟨l4,y5,y6,y7,y8,y9,y10,y11,hr2,hP4,rfl⟩:=h
 rw [List.length_cons] at hr2 hP4
 refine ⟨rfl,_,kd,rfl,hP4,hF,hd5,by decide,by rw [v5]; omega,fun vd l5 hV hP5 => ?_⟩
 rw [v5] at hP5
 dsimp only
 refine ⟨kd,vd,rfl,hF,hV,hd5,by decide,by omega,?_⟩
 dsimp only
 obtain ⟨vz,vdp⟩:=kd.vx_sz vd hF hV
 have hBl:=Kd.byt_len hV
 obtain ⟨B,hB⟩ : ∃ B,B=(kd.byt vd).map Dx.int:=⟨_,rfl⟩
 have hBz:Zt 1 (.lst B):=zt_lst (by rw [hB,List.length_map,hBl]; omega) fun d hd=>by rw [hB] at hd; obtain ⟨b,_,rfl⟩:=List.mem_map.mp hd; exact zt_int
 rw [← hB]
 change xSeq _ _ [.v (.tr (.scr K ns)),.v (.tr (.int (0 + (k:Int)))),.v (.ol l5),.v (.tr (.int mo)),.v (.tr kd.x),.v (.tr (.int (0 + (t:Int)))),.v (.tr (kd.vx vd)),.v (.ol B),y8,y9,y10,y11] _
 refine ⟨kd.x,rfl,kz,by omega,fun sk ok2 sok hok _ => ?_⟩
 have hskd:sk.d=kd.x:=(o?_d sok).trans hok
 refine io_ (go_call (io_ (in_ rfl (go_nil (go_listX ?_)))))
 refine ⟨len2,?_⟩
 rw [show List.map Sv.d [sk,Sv.ol B]=[kd.x,.lst B] from by rw [List.map_cons,List.map_cons,List.map_nil,hskd]; rfl]
 dsimp only
 change xFor _ _ _ [.v (.tr (.scr K ns)),.v (.tr (.int (0 + (k:Int)))),.v (.ol l5),.v (.tr (.int mo)),.v (.tr kd.x),.v (.tr (.int (0 + (t:Int)))),.v (.tr (kd.vx vd)),.v (.tr (.lst B)),.v (.ol [kd.x,.lst B]),y9,y10,y11] _
 refine ⟨⟨by decide,by decide⟩,?_⟩
 show forX _ _ _ ((List.range 2).map fun k:Nat=>Dx.int (0 + (k:Int))) _
 rw [hT]
 refine bo_ (fun k:Nat=>Dx.int (0 + (k:Int))) (fun rest ρ => ∃ (s8:Sv) (y9 y10 y11:Sl),s8.d=.lst [kd.x,.lst B]∧ρ=[.v (.tr (.scr K ns)),.v (.tr (.int (0 + (k:Int)))),.v (.ol l5),.v (.tr (.int mo)),.v (.tr kd.x),.v (.tr (.int (0 + (t:Int)))),.v (.tr (kd.vx vd)),.v (.tr (.lst B)),.v s8,y9,y10,y11]) (fun ρ h => ?_) (fun t3 rest3 ρ Kn3 h hk3 => ?_) ⟨.ol [kd.x,.lst B],_,_,_,rfl,rfl⟩
 ·obtain ⟨s8,y9,y10,y11,_,rfl⟩:=h
  exact hk2 _ ⟨l5,_,_,_,_,_,_,_,by omega,hP5.mono (by push_cast; omega),rfl⟩
 obtain ⟨s8,y9,y10,y11,h8,rfl⟩:=h
 have hk3':∀ a9 a10 a11,Kn3 [.v (.tr (.scr K ns)),.v (.tr (.int (0 + (k:Int)))),.v (.ol l5),.v (.tr (.int mo)),.v (.tr kd.x),.v (.tr (.int (0 + (t:Int)))),.v (.tr (kd.vx vd)),.v (.tr (.lst B)),.v (.tr (.lst [kd.x,.lst B])),a9,a10,a11]:=fun a9 a10 a11=>hk3 _ ⟨.tr (.lst [kd.x,.lst B]),_,_,_,rfl,rfl⟩
 refine fu_ (go_call (io_ (go_op (to_tr rfl h8 ?_))))
 refine ⟨kd,vd,by rw [← hB]; rfl,hF,hV,hd5,by decide,by omega,fun sf of2 sof hof fof => ?_⟩
 have hsfd:sf.d=kd.vx vd:=(o?_d sof).trans hof
 dsimp only
 change xSeq _ _ [.v (.tr (.scr K ns)),.v (.tr (.int (0 + (k:Int)))),.v (.ol l5),.v (.tr (.int mo)),.v (.tr kd.x),.v (.tr (.int (0 + (t:Int)))),.v (.tr (kd.vx vd)),.v (.tr (.lst B)),.v (.tr (.lst [kd.x,.lst B])),.v (.tr (.int (0 + (t3:Int)))),.v sf,y11] _
 refine fg_ (ρ':=[.v (.tr (.scr K ns)),.v (.tr (.int (0 + (k:Int)))),.v (.ol l5),.v (.tr (.int mo)),.v (.tr kd.x),.v (.tr (.int (0 + (t:Int)))),.v (.tr (kd.vx vd)),.v (.tr (.lst B)),.v (.tr (.lst [kd.x,.lst B])),.v (.tr (.int (0 + (t3:Int)))),.v sf,y11]) (fun Q q => ?_) ?_
 ·exact ⟨⟨_,rfl⟩,kd.vx vd,by show [sf.d,kd.vx vd]=_; rw [hsfd],vz,by omega,true,rfl,q⟩
 refine fg_ (ρ':=[.v (.tr (.scr K ns)),.v (.tr (.int (0 + (k:Int)))),.v (.ol l5),.v (.tr (.int mo)),.v (.tr kd.x),.v (.tr (.int (0 + (t:Int)))),.v (.tr (kd.vx vd)),.v (.tr (.lst B)),.v (.tr (.lst [kd.x,.lst B])),.v (.tr (.int (0 + (t3:Int)))),.v sf,y11]) (fun Q q => ?_) ?_
 ·exact ⟨kd.x,rfl,kz,by omega,.lst B,rfl,hBz.1,by have:=hBz.2; omega,q⟩
 refine ⟨kd.vx vd,rfl,vz,by omega,fun sd od sod hod fod => ?_⟩
 dsimp only
 change xSeq _ _ [.v (.tr (.scr K ns)),.v (.tr (.int (0 + (k:Int)))),.v (.ol l5),.v (.tr (.int mo)),.v (.tr kd.x),.v (.tr (.int (0 + (t:Int)))),.v (.tr (kd.vx vd)),.v (.tr (.lst B)),.v (.tr (.lst [kd.x,.lst B])),.v (.tr (.int (0 + (t3:Int)))),.v sf,.v sd] _
 refine ⟨sd,od,rfl,sod,gl_ 5 kd vd od hd5 hF hV hod fod,by decide,fun o1 h1 => ?_⟩
 refine ⟨sf,of2,rfl,sof,gl_ 5 kd vd of2 hd5 hF hV hof fof,by decide,fun o2 h2 => ?_⟩
 have hz5:=(mk_zt 5 od (gl_ 5 kd vd od hd5 hF hV hod fod)).2 0
 rw [hod] at hz5 h1
 rw [hof] at h2
 generalize (mkD 5 (kd.vx vd) 0).1=MM at hz5 h1 h2
 dsimp only
 change xIf _ _ _ [.v (.tr (.scr K ns)),.v (.tr (.int (0 + (k:Int)))),.v (.ol l5),.v (.tr (.int mo)),.v (.tr kd.x),.v (.tr (.int (0 + (t:Int)))),.v (.tr (kd.vx vd)),.v (.tr (.lst B)),.v (.tr (.lst [kd.x,.lst B])),.v (.tr (.int (0 + (t3:Int)))),.v (.ow o2),.v (.ow o1)] _
 exact ⟨MM,by show [o2.d,o1.d]=_; rw [h1,h2],hz5.1,by have:=hz5.2; omega,hk3' _ _ _⟩
end
def rd_names : XS := (xSeq (xSet 2 (xC (.str "abcdefghijklmnopqrstuvwxyz")))
    (xSeq (xSet 3 (xOp ixX (xLst (xCons (xC (.str "abcdefg")) (xCons (xC (.str "placeof")) (xCons (xC (.str "zyxwvut")) (xCons (xC (.str "kjqrshn")) xNil))))) (xCallB gTK 0 (xCons (xC (.int 4)) xNil))))
    (xSeq (xSet 4 (xLst xNil))
    (xSeq (xFor (xiR1 (xCons (xVar 1) xNil)) (gxN 5) (xSeq (xSet 6 (xOp addX (xSl (xVar 3) xoN (xoS (xCallB gTK 0 (xCons (xC (.int 8)) xNil)))) (xOp ixX (xVar 2) (xCallB gTK 0 (xCons (xC (.int 26)) xNil)))))
    (xSeq (xSet 7 (xCallB gTK 0 (xCons (xC (.int 3)) xNil)))
    (xSeq (xIf (xB (xOp eqX (xVar 7) (xC (.int 1)))) (xSet 6 (xJoin "" (xComp 1 [0,2] (xiR1 (xCons (xOp addX (xC (.int 1)) (xCallB gTK 0 (xCons (xC (.int 8)) xNil))) xNil)) (gxN 0) xYes (xOp ixX (xVar 2) (xCallB gTK 1 (xCons (xC (.int 26)) xNil)))))) xNext)
    (xSeq (xIf (xAnd (xB (xOp eqX (xVar 7) (xC (.int 2)))) (xB (xPkL (neP true) 4 (xLst xNil)))) (xSeq (xSet 8 (xCallB gTK 0 (xCons (xCall lenX (xCons (xPkL ixP 4 (xNeg (xC (.int 1)))) xNil)) xNil)))
    (xSet 6 (xOp addX (xOp addX (xSl (xPkL ixP 4 (xNeg (xC (.int 1)))) xoN (xoS (xVar 8))) (xOp ixX (xVar 2) (xCallB gTK 0 (xCons (xC (.int 26)) xNil)))) (xSl (xPkL ixP 4 (xNeg (xC (.int 1)))) (xoS (xOp addX (xVar 8) (xC (.int 1)))) xoN)))) xNext)
    (xSeq (xSet 9 (xC (.int 0)))
    (xSeq (xWhile (xB (xPkR (inP false) (xVar 6) 4)) (xSeq (xSet 6 (xOp mulX (xOp ixX (xVar 2) (xVar 9)) (xC (.int 8))))
    (xSet 9 (xOp addX (xVar 9) (xC (.int 1))))))
    (xApp 4 (xVar 6)))))))))
    (xRet (xMove 4))))))
section
variable {P:Program} {w:World} {K:FG_} {mg:MG_} {base:Heap} {f:Addr} {fd:FuncData}
theorem der_names (CTK:Cal P w K mg base 1 "_law_take" ["pool", "many"] (spB gTK)) (m_range:mg "range" = none) (m_len:mg "len" = none)
  {cdv:Value} {A:Around} {outer:List Env} {s:Shared} {H:Hp} {E:XK} (hr:Room 1 (A.deeper (PyProof.Rows.envOfC "_law_names" (defScope cd_) s.heap.objs.size f cdv))) :
  XSs (cxOf CX0 P w K mg base (["pool", "many", "letters", "stem", "found", "k", "name", "way", "at", "turn"]:List Str) "_law_names" (defScope cd_) f cdv A outer s H E).nox noEx (defBody cd_) rd_names:=by
 have hu1:=en_ hr
 have hu0:=Nat.lt_of_succ_lt hu1
 exact (ae_ (ag_ fun F=>ak_ (i:=2) sc_law_names.nd rfl (Or.inr rfl) (XE.at (Ex:=noEx) F bt_))
  (ae_ (ag_ fun F=>ak_ (i:=3) sc_law_names.nd rfl (Or.inl rfl) (XE.at (Ex:=noEx) F (am_ K (bq_ (aa_ bt_ (aa_ bt_ (aa_ bt_ (aa_ bt_ ad_))))) (ao_ (i:=0) CTK (hr.mono (by omega)) (pv 0) (aa_ ac_ ad_)) (fun _ _=>rfl))))
  (ae_ (ag_ fun F=>ak_ (i:=4) sc_law_names.nd rfl (Or.inl rfl) (XE.at (Ex:=noEx) F (bq_ ad_)))
  (ae_ (dc_ PassesOwn.never rfl (cc_ m_range (aa_ (ab_ (pv 1)) ad_)) (aj_ (i:=5) sc_law_names.nd rfl (Or.inl rfl)) (bb_ (n:=99) (i:=5) (by decide)) (ae_ (ag_ fun F=>ak_ (i:=6) sc_law_names.nd rfl (Or.inl rfl) (XE.at (Ex:=noEx) F (be_ (gv_ K (ab_ (pv 3)) xo_none (hl_ (ao_ (i:=0) CTK (hr.mono (by omega)) (pv 0) (aa_ ac_ ad_)))) (am_ K (ab_ (pv 2)) (ao_ (i:=0) CTK (hr.mono (by omega)) (pv 0) (aa_ ac_ ad_)) (fun _ _=>rfl)))))
  (ae_ (ag_ fun F=>ak_ (i:=7) sc_law_names.nd rfl (Or.inl rfl) (XE.at (Ex:=noEx) F (ao_ (i:=0) CTK (hr.mono (by omega)) (pv 0) (aa_ ac_ ad_))))
  (ae_ (br_ (bc_ (bn_ K hu0) cr_ (ab_ (pv 7)) ac_ (nomark _)) (af_ (ag_ fun F=>ak_ (i:=6) sc_law_names.nd rfl (Or.inl rfl) (XE.at (Ex:=noEx) F (xe_join (ci_ (dsc:=defScope cd_) (N:=["pool", "many", "letters", "stem", "found", "k", "name", "way", "at", "turn"]) (tgs:=["turn"]) (outs:=[0,2]) (N':=["turn", "pool", "letters"]) (by refine ⟨rfl,?_,?_,?_,rfl,?_,?_,?_⟩ <;> decide +kernel) (cc_ m_range (aa_ (be_ ac_ (ao_ (i:=0) CTK (hr.mono (by omega)) (pv 0) (aa_ ac_ ad_))) ad_)) (fun _ _ _ _ _=>(aj_ (i:=0) (show (["turn", "pool", "letters"]:List Str).Nodup by decide +kernel) rfl (Or.inl rfl) (.inr rfl))) (bb_ (n:=1) (i:=0) (by decide)) (bl_ (by decide)) (fun _ _ _ _ _=>bi_) (fun _ _ _ _ _=>(am_ K (ab_ (pv 2)) (ao_ (i:=1) CTK (hr.mono (by omega)) (pv 1) (aa_ ac_ ad_)) (fun _ _=>rfl)))))))) au_)
  (ae_ (br_ (XW.pt (xw_and (bc_ (bn_ K hu0) cr_ (ab_ (pv 7)) ac_ (nomark _)) (xw_and1 (xt_pkNe K hu0 (pv 4) (bq_ ad_) (nomark _))))) (ae_ (ag_ fun F=>ak_ (i:=8) sc_law_names.nd rfl (Or.inl rfl) (XE.at (Ex:=noEx) F (ao_ (i:=0) CTK (hr.mono (by omega)) (pv 0) (aa_ (bd_ (bw_ K) eu_ (by rfl) m_len PySem.boot_len (aa_ (ee_ K (pv 4) (xe_neg ac_) (fun _ _=>rfl)) ad_)) ad_))))
  (af_ (ag_ fun F=>ak_ (i:=6) sc_law_names.nd rfl (Or.inl rfl) (XE.at (Ex:=noEx) F (be_ (be_ (gv_ K (ee_ K (pv 4) (xe_neg ac_) (fun _ _=>rfl)) xo_none (hl_ (ab_ (pv 8)))) (am_ K (ab_ (pv 2)) (ao_ (i:=0) CTK (hr.mono (by omega)) (pv 0) (aa_ ac_ ad_)) (fun _ _=>rfl))) (gv_ K (ee_ K (pv 4) (xe_neg ac_) (fun _ _=>rfl)) (hl_ (be_ (ab_ (pv 8)) ac_)) xo_none)))))) au_)
  (ae_ (ag_ fun F=>ak_ (i:=9) sc_law_names.nd rfl (Or.inl rfl) (XE.at (Ex:=noEx) F ac_))
  (ae_ (xs_while PassesOwn.never (xt_pkIn K (ab_ (pv 6)) (pv 4) (by with_unfolding_all rfl)) (ae_ (ag_ fun F=>ak_ (i:=6) sc_law_names.nd rfl (Or.inl rfl) (XE.at (Ex:=noEx) F (cp_ (am_ K (ab_ (pv 2)) (ab_ (pv 9)) (fun _ _=>rfl)) ac_)))
  (af_ (ag_ fun F=>ak_ (i:=9) sc_law_names.nd rfl (Or.inl rfl) (XE.at (Ex:=noEx) F (be_ (ab_ (pv 9)) ac_))))))
  (af_ (fb_ fun F=>PS.weak (dw_ (pe_bm PySem.F.plainAttrs_list PySem.F.slot_list_append PySem.F.type_list_append er_ (pv 4) (as_ (XE.at (Ex:=noEx) F (ab_ (pv 6))) cb_))) tApp_x)))))))))
  (af_ (ap_ (ch_ (pv 4))))))))
end
theorem go_c1 {d:Dx} {ρ:En} {Q:Sv→En→Prop} (h:Q (.tr d) ρ):xC d ρ Q:=h
theorem go_setL {i:Nat} {t:XT} {ρ:En} {D:XD} (h:t ρ fun s ρ'=>D.nx (ρ'.set i (.v s))):xSet i t ρ D:=h
theorem stem_inX {v:Dx} (h:v∈[Dx.str "abcdefg",.str "placeof",.str "zyxwvut",.str "kjqrshn"]):∃ st:Str,v=.str st∧Stem st:=by
 simp only [List.mem_cons,List.not_mem_nil,or_false] at h
 rcases h with rfl | rfl | rfl | rfl
 ·obtain ⟨st,e,h⟩:=stem_in (v:=.str "abcdefg") (by simp); cases e; exact ⟨_,rfl,h⟩
 ·obtain ⟨st,e,h⟩:=stem_in (v:=.str "placeof") (by simp); cases e; exact ⟨_,rfl,h⟩
 ·obtain ⟨st,e,h⟩:=stem_in (v:=.str "zyxwvut") (by simp); cases e; exact ⟨_,rfl,h⟩
 ·obtain ⟨st,e,h⟩:=stem_in (v:=.str "kjqrshn") (by simp); cases e; exact ⟨_,rfl,h⟩
theorem ixX_let {r:Int} {Q:Sv→Prop} (h0:0≤r) (h1:r < 26) (q:Q (.tr (.str ⟨#[97 + r.toNat]⟩))):ixX (.str lets) (.int r) Q:=by
 refine ⟨by decide +kernel,?_⟩
 rw [lets_at h0 h1]
 exact q
theorem last_X {xs:List Str} (h:xs≠[]):∃ y∈xs,atI (xs.map Dx.str) (-1)=some (.str y):=by
 refine ⟨xs.getLast h,List.getLast_mem h,?_⟩
 have hl:0 < xs.length:=List.length_pos_iff.mpr h
 unfold atI ixN
 rw [if_neg (by omega),List.length_map,if_pos (by omega)]
 show (xs.map Dx.str)[((-1:Int) + (xs.length:Int)).toNat]? = _
 rw [show ((-1:Int) + (xs.length:Int)).toNat=xs.length - 1 from by omega,List.getElem?_map,← List.getLast?_eq_getElem?,List.getLast?_eq_getLast h]
 rfl
theorem sc_strs (xs:List Str):((xs.map Dx.str).all fun d=>(scV d).isSome)=true:=by
 rw [List.all_map,List.all_eq_true]
 intro x _
 rfl
theorem sc_map (xs:List Str):(xs.map Dx.str).filterMap scV=xs.map V.str:=by
 induction xs with
 | nil=>rfl
 | cons x r ih=>rw [List.map_cons,List.filterMap_cons]; show V.str x :: _=_; rw [ih]; rfl
section
variable {P:Program} {w:World} {K:FG_} {mg:MG_} {base:Heap} {f:Addr} {fd:FuncData}
theorem okx_names (F:Fun K "_law_names" "_law_names" cd_ f fd) (CTK:Cal P w K mg base 1 "_law_take" ["pool", "many"] (spB gTK)) (m_range:mg "range" = none) (m_len:mg "len" = none):FnOk P w K mg base CX0 2 f fd ["pool", "many"] (spB gLN):=by
 refine fn_b F sc_law_names (fun l ds Q h=>by obtain ⟨_,_,rfl,_⟩:=h; rfl) (by decide) fun cdv A outer s H E hr => ?_
 refine ⟨_,der_names CTK m_range m_len hr,fun l ds Q h => ?_⟩
 clear hr
 obtain ⟨B,many,rfl,hP,m0,m12,hB,q⟩:=h
 unfold rd_names
 refine fu_ (go_c1 ?_)
 refine fu_ (go_op ?_)
 refine ⟨by show 4≤1000000; decide,rfl,B,4,rfl,hP,by omega,by decide,by decide,fun r l1 r0 r1 hP1 => ?_⟩
 refine gt_ r0 r1 fun v hv => ?_
 obtain ⟨st,rfl,hst7,hstL⟩:=stem_inX hv
 have sl7:st.length≤1000000:=by rw [bv_,hst7]; decide
 refine ⟨Nat.zero_le _,?_⟩
 dsimp only
 change xSeq _ _ [.bw l1,.v (.tr (.int many)),.v (.tr (.str lets)),.v (.tr (.str st)),.v (.ol []),.un,.un,.un,.un,.un] _
 refine hq_ (fun ρ => ∃ (l1:List Dx) (xs:List Str) (y5 y6 y7 y8 y9:Sl),xs.length=many.toNat∧xs.Nodup∧(∀ x∈xs,Nm x)∧PoolX (B + 200) l1∧ρ=[.bw l1,.v (.tr (.int many)),.v (.tr (.str lets)),.v (.tr (.str st)),.v (.ol (xs.map Dx.str)),y5,y6,y7,y8,y9]) ?_ (fun nx hnx => ?_)
 ·rintro ρ ⟨l1,xs,y5,y6,y7,y8,y9,hxl,hnd,hnm,hP2,rfl⟩
  exact q xs l1 hxl hnd hnm hP2
 refine ⟨⟨by omega,by omega⟩,?_⟩
 refine bo_ (fun k:Nat=>Dx.int (0 + (k:Int))) (fun rest ρ => ∃ (l1:List Dx) (xs:List Str) (y5 y6 y7 y8 y9:Sl),xs.length + rest.length=many.toNat∧xs.Nodup∧(∀ x∈xs,Nm x)∧PoolX (B + 1 + 14 * (xs.length:Int)) l1∧ρ=[.bw l1,.v (.tr (.int many)),.v (.tr (.str lets)),.v (.tr (.str st)),.v (.ol (xs.map Dx.str)),y5,y6,y7,y8,y9]) (fun ρ h => ?_) (fun i rest ρ Kn h hk => ?_) ⟨l1,[],.un,.un,.un,.un,.un,by rw [List.length_range]; simp,List.nodup_nil,(fun x hx=>nomatch hx),hP1.mono (by simp),rfl⟩
 ·obtain ⟨l1,xs,y5,y6,y7,y8,y9,hxl,hnd,hnm,hP2,rfl⟩:=h
  rw [List.length_nil] at hxl
  exact hnx _ ⟨l1,xs,_,_,_,_,_,hxl,hnd,hnm,hP2.mono (by omega),rfl⟩
 obtain ⟨l1,xs,y5,y6,y7,y8,y9,hxl,hnd,hnm,hP2,rfl⟩:=h
 rw [List.length_cons] at hxl
 have hx12:xs.length≤11:=by omega
 clear hP hP1 hv
 obtain ⟨C,hC⟩ : ∃ C,C=B + 1 + 14 * (xs.length:Int):=⟨_,rfl⟩
 have hCb:C + 100 < 2 ^ 60:=by omega
 rw [← hC] at hP2
 refine ⟨rfl,_,8,rfl,hP2,by omega,by decide,by decide,fun r2 l2 r20 r21 hP3=>⟨sl7,?_⟩⟩
 refine ⟨rfl,_,26,rfl,hP3,by omega,by decide,by decide,fun r3 l3 r30 r31 hP4=>ixX_let r30 r31 ?_⟩
 obtain ⟨nm0,sz0⟩:=nm_free hst7 hstL r20 r21 r30 r31
 refine ⟨by rw [hz_]; omega,?_⟩
 refine ⟨rfl,_,3,rfl,hP4,by omega,by decide,by decide,fun way l4 w0 w1 hP5 => ?_⟩
 generalize Txt.slice st none (some r2) ++ (⟨#[97 + r3.toNat]⟩ : Str)=nmA at nm0 ⊢
 dsimp only
 change xSeq _ _ [.bw l4,.v (.tr (.int many)),.v (.tr (.str lets)),.v (.tr (.str st)),.v (.ol (xs.map Dx.str)),.v (.tr (.int (0 + (i:Int)))),.v (.tr (.str nmA)),.v (.tr (.int way)),y8,y9] _
 clear hP2 hP3 hP4
 refine hq_ (fun ρ => ∃ (l4:List Dx) (nmA:Str),Nm nmA∧PoolX (C + 12) l4∧ρ=[.bw l4,.v (.tr (.int many)),.v (.tr (.str lets)),.v (.tr (.str st)),.v (.ol (xs.map Dx.str)),.v (.tr (.int (0 + (i:Int)))),.v (.tr (.str nmA)),.v (.tr (.int way)),y8,y9]) ?_ (fun nx2 hnx2 => ?_)
 rotate_left 1
 ·by_cases c:way=1
  rotate_left 1
  ·show if decide (way=1)=true then _ else _
   rw [decide_eq_false c]
   exact hnx2 _ ⟨l4,nmA,nm0,hP5.mono (by omega),rfl⟩
  show if decide (way=1)=true then _ else _
  rw [if_pos (decide_eq_true c)]
  refine ⟨rfl,_,8,rfl,hP5,by omega,by decide,by decide,fun r6 l5 r60 r61 hP6 => ?_⟩
  refine ⟨⟨by omega,by omega⟩,show ((List.range _).map _).length≤_ by rw [List.length_map,List.length_range]; omega,?_⟩
  refine cs_ (fun k:Nat=>Dx.int (0 + (k:Int))) (fun rest acc cs => ∃ (ys:List Str) (l':List Dx),ys.length + rest.length=(1 + r6).toNat∧acc=ys.map Dx.str∧(∀ y∈ys,∃ j:Nat,j < 26∧y=⟨#[97 + j]⟩)∧cs=[.bw l',.v (.tr (.str lets))]∧PoolX (C + 4 + (ys.length:Int)) l') (fun acc cs h => ?_) (fun nm rest acc cs Pn h hk => ?_) ⟨[],l5,by rw [List.length_range]; simp,rfl,(fun y hy=>nomatch hy),rfl,hP6.mono (by simp; omega)⟩
  ·obtain ⟨ys,l',e1,rfl,hy,rfl,hP7⟩:=h
   rw [List.length_nil] at e1
   have es:=ones_sum hy
   refine ⟨ys,rfl,?_,?_⟩
   ·rw [es]
    show ys.length + ys.length * 0≤16777216
    omega
   ·exact hnx2 _ ⟨l',_,nm_join hy (by omega) (by omega),hP7.mono (by omega),rfl⟩
  ·obtain ⟨ys,l',e1,rfl,hy,rfl,hP7⟩:=h
   rw [List.length_cons] at e1
   refine ⟨rfl,_,26,rfl,hP7,by omega,by decide,by decide,fun r7 l6 r70 r71 hP8=>ixX_let r70 r71 (hk _ _ ⟨ys ++ [⟨#[97 + r7.toNat]⟩],l6,by rw [List.length_append,List.length_singleton]; omega,by rw [List.map_append]; rfl,fun y hy' => ?_,rfl,hP8.mono (by rw [List.length_append,List.length_singleton]; push_cast; omega)⟩)⟩
   rcases List.mem_append.mp hy' with hy' | hy'
   ·exact hy y hy'
   ·exact ⟨r7.toNat,by omega,List.mem_singleton.mp hy'⟩
 rintro ρ ⟨l5,nmB,nmBok,hP6,rfl⟩
 clear hP5 nm0 sz0
 refine hq_ (fun ρ => ∃ (l4:List Dx) (nmA:Str) (y8:Sl),Nm nmA∧PoolX (C + 14) l4∧ρ=[.bw l4,.v (.tr (.int many)),.v (.tr (.str lets)),.v (.tr (.str st)),.v (.ol (xs.map Dx.str)),.v (.tr (.int (0 + (i:Int)))),.v (.tr (.str nmA)),.v (.tr (.int way)),y8,y9]) ?_ (fun nx2 hnx2 => ?_)
 rotate_left 1
 ·by_cases c:way=2
  rotate_left 1
  ·show if decide (way=2)=true then _ else _
   rw [decide_eq_false c]
   exact hnx2 _ ⟨l5,nmB,y8,nmBok,hP6.mono (by omega),rfl⟩
  show if decide (way=2)=true then _ else _
  rw [if_pos (decide_eq_true c)]
  by_cases hne:xs=[]
  ·subst hne
   exact ⟨rfl,Nat.zero_le _,hnx2 _ ⟨l5,nmB,y8,nmBok,hP6.mono (by omega),rfl⟩⟩
  have hemp:(xs.map Dx.str).isEmpty=false:=by cases xs <;> first | rfl | exact absurd rfl hne
  refine ⟨rfl,Nat.zero_le _,?_⟩
  show if (!(xs.map Dx.str).isEmpty)=true then _ else _
  rw [hemp,Bool.not_false,if_pos rfl]
  obtain ⟨y,hy,hat⟩:=last_X hne
  have hny:=hnm y hy
  have hy1:1≤y.length:=by rw [bv_]; exact hny.1
  have hy2:y.length≤8:=by rw [bv_]; exact hny.2.1
  have hyz:y.length≤1000000:=by omega
  have pk:∀ (ρ:En) (Q:Sv→En→Prop),ρ[4]? = some (.v (.ol (xs.map Dx.str)))→Q (.tr (.str y)) ρ→xPkL ixP 4 (xNeg (xC (.int 1))) ρ Q:=fun ρ Q h q=>by
   refine ⟨by rw [h]; rfl,?_⟩
   show match (ρ[4]?).bind lent with | some (l,_)=>ixP l (.int (-1)) fun d=>Q (.tr d) ρ | none=>False
   rw [h]
   show match atI (xs.map Dx.str) (-1) with | some d=>Q (.tr d) ρ | none=>False
   rw [hat]
   exact q
  change xSeq _ _ [.bw l5,.v (.tr (.int many)),.v (.tr (.str lets)),.v (.tr (.str st)),.v (.ol (xs.map Dx.str)),.v (.tr (.int (0 + (i:Int)))),.v (.tr (.str nmB)),.v (.tr (.int way)),y8,y9] _
  refine fu_ ⟨rfl,io_ (go_call (io_ (pk _ _ rfl (go_nil ⟨hyz,?_⟩))))⟩
  refine ⟨_,(y.length:Int),rfl,hP6,by omega,by omega,by omega,fun r8 l6 r80 r81 hP7 => ?_⟩
  dsimp only
  obtain ⟨t1,t2,t3⟩:=nm_twin hny r80 r81 (s:=0) (by decide) (by decide)
  change xSet _ _ [.bw l6,.v (.tr (.int many)),.v (.tr (.str lets)),.v (.tr (.str st)),.v (.ol (xs.map Dx.str)),.v (.tr (.int (0 + (i:Int)))),.v (.tr (.str nmB)),.v (.tr (.int way)),.v (.tr (.int r8)),y9] _
  refine go_setL (go_op (go_op (pk _ _ rfl ⟨hyz,?_⟩)))
  refine ⟨rfl,_,26,rfl,hP7,by omega,by decide,by decide,fun r9 l7 r90 r91 hP8=>ixX_let r90 r91 ?_⟩
  refine ⟨by rw [hz_]; omega,?_⟩
  refine pk _ _ rfl ⟨hyz,?_⟩
  refine ⟨by rw [len_app,hz_]; omega,?_⟩
  exact hnx2 _ ⟨l7,_,_,(nm_twin hny r80 r81 r90 r91).1,hP8.mono (by omega),rfl⟩
 rintro ρ ⟨l6,nmC,y8,nmCok,hP7,rfl⟩
 clear hP6
 refine fu_ (go_c1 ?_)
 refine hq_ (fun ρ => ∃ (nmD:Str) (y9:Sl),Nm nmD∧nmD∉xs∧ρ=[.bw l6,.v (.tr (.int many)),.v (.tr (.str lets)),.v (.tr (.str st)),.v (.ol (xs.map Dx.str)),.v (.tr (.int (0 + (i:Int)))),.v (.tr (.str nmD)),.v (.tr (.int way)),y8,y9]) ?_ (fun nx2 hnx2 => ?_)
 ·rintro ρ ⟨nmD,y9,nok,hout,rfl⟩
  refine ⟨rfl,by rw [List.length_map]; omega,?_⟩
  refine hk _ ⟨l6,xs ++ [nmD],_,_,_,_,_,by rw [List.length_append,List.length_singleton]; omega,List.nodup_append.mpr ⟨hnd,by simp,fun a ha b hb=>by rw [List.mem_singleton.mp hb]; intro e; exact hout (by rw [← e]; exact ha)⟩,fun x hx => ?_,hP7.mono (by rw [List.length_append,List.length_singleton]; push_cast; omega),by rw [List.map_append]; rfl⟩
  rcases List.mem_append.mp hx with hx | hx
  ·exact hnm x hx
  ·rw [List.mem_singleton.mp hx]; exact nok
 refine ⟨fun m ρ => ∃ (t:Nat) (nmD:Str),m=30 - t∧t≤20∧Nm nmD∧(∀ j,j + 1 < t→cand j∈xs)∧(0 < t→nmD=cand (t - 1))∧ρ=[.bw l6,.v (.tr (.int many)),.v (.tr (.str lets)),.v (.tr (.str st)),.v (.ol (xs.map Dx.str)),.v (.tr (.int (0 + (i:Int)))),.v (.tr (.str nmD)),.v (.tr (.int way)),y8,.v (.tr (.int (t:Int)))],⟨30,0,nmC,rfl,by omega,nmCok,(fun j hj=>absurd hj (by omega)),(fun z=>absurd z (by omega)),rfl⟩,fun m ρ h => ?_⟩
 obtain ⟨t,nmD,rfl,ht,nok,hc,hn,rfl⟩:=h
 refine ⟨sc_strs xs,?_⟩
 rw [sc_map]
 by_cases c:nmD∈xs
 ·have hc':∀ j,j < t→cand j∈xs:=fun j hj=>by
   by_cases z:j + 1 < t
   ·exact hc j z
   ·have:j=t - 1:=by omega
    rw [this,← hn (by omega)]
    exact c
  have ht':=cands_le hc'
  show if inV (.str nmD) (xs.map V.str)=true then _ else _
  rw [if_pos (inV_strs.mpr c)]
  refine ⟨fun ρ=>ρ=[.bw l6,.v (.tr (.int many)),.v (.tr (.str lets)),.v (.tr (.str st)),.v (.ol (xs.map Dx.str)),.v (.tr (.int (0 + (i:Int)))),.v (.tr (.str (cand t))),.v (.tr (.int way)),y8,.v (.tr (.int ((t:Int) + 1)))],fun ρ' h'=>⟨30 - (t + 1),by omega,t + 1,cand t,rfl,by omega,cand_nm (by omega),(fun j hj=>hc' j (by omega)),(fun _=>rfl),h'⟩,?_⟩
  refine fu_ (go_op (go_op (in_ rfl (in_ rfl (ixX_let (by omega) (by omega) ?_)))))
  refine ⟨⟨by rw [hz_]; decide,by decide,by decide⟩,?_⟩
  show ([_,_,_,_,_,_,.v (.tr (.str (Txt.mul ⟨#[97 + (t:Int).toNat]⟩ 8))),_,_,_]:En)=_
  rw [Int.toNat_natCast]
  rfl
 ·show if inV (.str nmD) (xs.map V.str)=true then _ else _
  rw [if_neg (fun z=>c (inV_strs.mp z))]
  exact hnx2 _ ⟨nmD,_,nok,c,rfl⟩
end
structure Fx (K:FG_) (mg:MG_) (nm:Str) (st:Stmt) (ps:List Str) (f:Addr) (fd:FuncData):Prop where
 F:Fun K nm nm st f fd
 b:Binds K fd ps []
 k:PySem.W.keepIn K (.ref f)=true
 m:mg nm=some (.ref f)
theorem Fx.cal {P:Program} {w:World} {K:FG_} {mg:MG_} {base:Heap} {nm:Str} {st:Stmt} {ps:List Str} {f:Addr} {fd:FuncData} {j:Nat} {sp:Sp} (x:Fx K mg nm st ps f fd) (h:FnOk P w K mg base CX0 j f fd ps sp):Cal P w K mg base j nm ps sp:=⟨f,fd,h,x.b,x.k,x.m⟩
theorem fn_noB {P:Program} {w:World} {K:FG_} {mg:MG_} {base:Heap} {j:Nat} {f:Addr} {fd:FuncData} {ps:List Str} {g:GB} (no:∀ l ds Q,¬ g l ds Q):FnOk P w K mg base CX0 j f fd ps (spB g) :=
 ⟨fun vs H Q E h=>by obtain ⟨_,_,_,_,_,_,_,_,_,_,_,_,_,h3,_⟩:=h; exact (no _ _ _ h3).elim,fun A outer s H args us vs Q E hr he hb hv h=>by obtain ⟨_,_,_,_,_,_,_,_,_,_,_,_,_,h3,_⟩:=h; exact (no _ _ _ h3).elim⟩
theorem dxDeep_pos (d:Dx):1≤d.deep:=by cases d <;> simp only [Dx.deep] <;> omega
section
variable {P:Program} {w:World} {K:FG_} {mg:MG_} {base:Heap} {fRU fRO fRS fGM fSO fRR fRC fPB fRH fCA fPO fT fLR fLM fLN fLK fVA fTP fLY fCP fSA fTU fIV fIW fIRV fIDV fICV fNB fLAY fLB fBY f:Addr} {dRU dRO dRS dGM dSO dRR dRC dPB dRH dCA dPO dT dLR dLM dLN dLK dVA dTP dLY dCP dSA dTU dIV dIW dIRV dIDV dICV dNB dLAY dLB dBY fd:FuncData}
structure RoomX (K:FG_) (mg:MG_) (fRU fRO fRS fGM fSO fRR fRC fPB fRH fCA:Addr) (dRU dRO dRS dGM dSO dRR dRC dPB dRH dCA:FuncData):Prop where
 RU:Fx K mg "rounded_up" dt_ ["number", "m"] fRU dRU
 RO:Fx K mg "room_of" eq_ ["kind"] fRO dRO
 RS:Fx K mg "rooms_of" eb_ ["kinds"] fRS dRS
 GM:Fx K mg "greatest_multiple" bj_ ["rooms"] fGM dGM
 SO:Fx K mg "step_of" fo_ ["room"] fSO dSO
 RR:Fx K mg "room_of_row" df_ ["kind", "n"] fRR dRR
 RC:Fx K mg "room_of_record" bz_ ["kinds"] fRC dRC
 PB:Fx K mg "places_behind" cq_ ["rooms"] fPB dPB
 RH:Fx K mg "room_of_choice" ca_ ["kinds"] fRH dRH
 CA:Fx K mg "chosen_at" ei_ ["multiple"] fCA dCA
 m_max:mg "max" = none
 m_zip:mg "zip" = none
theorem gg_ (X:RoomX K mg fRU fRO fRS fGM fSO fRR fRC fPB fRH fCA dRU dRO dRS dGM dSO dRR dRC dPB dRH dCA):∀ n,FnOk P w K mg base CX0 (2 + 3 * n) fRO dRO ["kind"] (spX (gRO n))
 | 0=>rox_none
 | n + 1=>by
  have ih:=gg_ X n
  have GRU:=X.RU.cal (P:=P) (w:=w) (base:=base) (okx_ru X.RU.F)
  have GSO:=X.SO.cal (okx_so X.SO.F GRU)
  have GCA:=X.CA.cal (okx_ca X.CA.F GRU)
  have GGM:=X.GM.cal (P:=P) (w:=w) (base:=base) (okx_gm X.GM.F X.m_max)
  have GPB:=X.PB.cal (okx_pb X.PB.F GRU)
  have GRS:=X.RS.cal (okx_rs X.RS.F (X.RO.cal ih))
  have GRR:=X.RR.cal (okx_rr X.RR.F (X.RO.cal (ih.mono (Nat.le_succ _))) GSO (by omega))
  have GRC:=X.RC.cal (okx_rc X.RC.F GRS GGM GPB GRU X.m_max X.m_zip (by omega))
  have GRH:=X.RH.cal (okx_rh X.RH.F GRS GGM GCA GRU X.m_max (by omega))
  exact (okx_ro X.RO.F GRR GRC GRH).mono (by omega)
theorem pox_all (X:RoomX K mg fRU fRO fRS fGM fSO fRR fRC fPB fRH fCA dRU dRO dRS dGM dSO dRR dRC dPB dRH dCA) (PO:Fx K mg "places_in_order" ax_ ["fields"] fPO dPO) (n:Nat):FnOk P w K mg base CX0 (4 + 3 * n) fPO dPO ["fields"] (spX (gPO n)) :=
 (okx_po PO.F (X.PB.cal (okx_pb X.PB.F (X.RU.cal (okx_ru X.RU.F)))) (X.RS.cal (okx_rs X.RS.F (X.RO.cal (gg_ X n)))) X.m_zip (by omega)).mono (by omega)
theorem lmx_all (LM:Fx K mg "_law_room" bu_ ["kind"] fLM dLM) (LR:Fx K mg "_law_rounded" ce_ ["number", "m"] fLR dLR) (m_max:mg "max" = none):∀ n,FnOk P w K mg base CX0 (1 + n) fLM dLM ["kind"] (spX (gLM n))
 | 0=>lmx_none
 | n + 1=>(okx_lm LM.F (LM.cal (lmx_all LM LR m_max n)) (LR.cal (okx_lr LR.F)) m_max (by omega)).mono (by omega)
theorem lkx_all (LK:Fx K mg "_law_kind" dg_ ["pool", "deep", "most"] fLK dLK) (T:Fx K mg "_law_take" ec_ ["pool", "many"] fT dT) (LN:Fx K mg "_law_names" cd_ ["pool", "many"] fLN dLN) (LM:Fx K mg "_law_room" bu_ ["kind"] fLM dLM) (LR:Fx K mg "_law_rounded" ce_ ["number", "m"] fLR dLR)
  (m_max:mg "max" = none) (m_range:mg "range" = none) (m_len:mg "len" = none) (m_int:mg "int" = none):∀ n,FnOk P w K mg base CX0 (6 + n) fLK dLK ["pool", "deep", "most"] (spB (gLK n))
 | 0=>fn_noB fun l ds Q h=>by obtain ⟨_,_,_,_,_,_,_,_,_⟩:=h; omega
 | n + 1=>(okx_lk LK.F (T.cal (hd_ T.F)) (LN.cal (okx_names LN.F (T.cal (hd_ T.F)) m_range m_len)) (LM.cal (lmx_all LM LR m_max 5)) (by omega) (by omega) (LK.cal (lkx_all LK T LN LM LR m_max m_range m_len m_int n)) m_range m_int).mono (by omega)
theorem vax_all (VA:Fx K mg "_law_value" dm_ ["pool", "kind"] fVA dVA) (T:Fx K mg "_law_take" ec_ ["pool", "many"] fT dT) (TP:Fx K mg "_law_top" fp_ ["width"] fTP dTP) (m_range:mg "range" = none) (m_len:mg "len" = none):∀ n,FnOk P w K mg base CX0 (1 + n) fVA dVA ["pool", "kind"] (spB (gVA n))
 | 0=>fn_noB fun l ds Q h=>by obtain ⟨_,kd,_,_,_,hd,_⟩:=h; have:=Kd.deep_pos kd; omega
 | n + 1=>(okx_va VA.F (T.cal (hd_ T.F)) (TP.cal (okx_tp TP.F m_range)) (VA.cal (vax_all VA T TP m_range m_len n)) m_range m_len (by omega)).mono (by omega)
theorem lbx_all (X:RoomX K mg fRU fRO fRS fGM fSO fRR fRC fPB fRH fCA dRU dRO dRS dGM dSO dRR dRC dPB dRH dCA) (PO:Fx K mg "places_in_order" ax_ ["fields"] fPO dPO) (NB:Fx K mg "number_bytes" cw_ ["w", "value"] fNB dNB) (LAY:Fx K mg "lay" s_lay ["laid", "place", "some"] fLAY dLAY) (LB:Fx K mg "laid_bytes" dv_ ["kind", "value"] fLB dLB)
  (c_HOW:∃ t,mg "HOW_MANY_BYTES" = some (.int 256 t)) (m_range:mg "range" = none) (m_enumerate:mg "enumerate" = none):∀ n,FnOk P w K mg base CX0 (5 + 3 * n) fLB dLB ["kind", "value"] (spX (gLB n))
 | 0=>fn_no fun ds Q h=>by obtain ⟨kd,_,_,_,_,_,_,hd,_⟩:=h; have:=Kd.deep_pos kd; omega
 | n + 1=>by
  have ih:=LB.cal (lbx_all X PO NB LAY LB c_HOW m_range m_enumerate n)
  have GRU:=X.RU.cal (P:=P) (w:=w) (base:=base) (okx_ru X.RU.F)
  exact (okx_lb LB.F (NB.cal (okx_nb NB.F c_HOW m_range)) (X.RO.cal (gg_ X (n + 1))) (X.SO.cal (okx_so X.SO.F GRU)) (PO.cal (pox_all X PO n)) (X.CA.cal (okx_ca X.CA.F GRU)) (LAY.cal (okx_lay LAY.F m_enumerate)) ih X.m_zip m_enumerate (by omega) (by omega) (by omega)).mono (by omega)
theorem sax_all (SB:Fx K mg "_law_same" cv_ ["one", "other"] fSA dSA) (m_isinstance:mg "isinstance" = none) (m_list:mg "list" = none) (m_tuple:mg "tuple" = none) (m_dict:mg "dict" = none) (m_bool:mg "bool" = none) (m_str:mg "str" = none) (m_len:mg "len" = none) (m_zip:mg "zip" = none):∀ n,FnOk P w K mg base CX0 n fSA dSA ["one", "other"] (spX (gSA n))
 | 0=>fn_no fun ds Q h=>by obtain ⟨d,_,_,hd,_⟩:=h; have:=dxDeep_pos d; omega
 | n + 1=>okx_sa SB.F (SB.cal (sax_all SB m_isinstance m_list m_tuple m_dict m_bool m_str m_len m_zip n)) m_isinstance m_list m_tuple m_dict m_bool m_str m_len m_zip
theorem lyx_all {fLY:Addr} {dLY:FuncData} (LY:Fx K mg "_law_bytes" cm_ ["kind", "value"] fLY dLY) (LM:Fx K mg "_law_room" bu_ ["kind"] fLM dLM) (LR:Fx K mg "_law_rounded" ce_ ["number", "m"] fLR dLR) (m_range:mg "range" = none) (m_len:mg "len" = none) (m_max:mg "max" = none):∀ n,FnOk P w K mg base CX0 (6 + n) fLY dLY ["kind", "value"] (spX (gLY n))
 | 0=>lyx_none
 | n + 1=>(okx_ly LY.F (LM.cal (lmx_all LM LR m_max 5)) (LR.cal (okx_lr LR.F)) (LY.cal (lyx_all LY LM LR m_range m_len m_max n)) m_range m_len m_max (by omega) (by omega)).mono (by omega)
theorem cox_all (CP:Fx K mg "_law_copy" dh_ ["thing"] fCP dCP) (m_isinstance:mg "isinstance" = none) (m_list:mg "list" = none) (m_tuple:mg "tuple" = none) (m_dict:mg "dict" = none):∀ n,FnOk P w K mg base CX0 n fCP dCP ["thing"] (spX (gCO n))
 | 0=>fn_no fun ds Q h=>by obtain ⟨d,_,_,hd,_⟩:=h; have:=dxDeep_pos d; omega
 | n + 1=>ok_co CP.F (CP.cal (cox_all CP m_isinstance m_list m_tuple m_dict n)) m_isinstance m_list m_tuple m_dict
theorem mkx_all (MK:Fx K mg "_law_marked" du_ ["value", "marks"] f fd) (m_isinstance:mg "isinstance" = none) (m_list:mg "list" = none) (m_tuple:mg "tuple" = none) (m_dict:mg "dict" = none) (m_sorted:mg "sorted" = none) (m_str:mg "str" = none):∀ n,FnOk P w K mg base CX0 n f fd ["value", "marks"] (spM n)
 | 0=>⟨fun vs H Q E h=>by obtain ⟨_,_,o,_,_,_,_,_,_,_,_,h,_⟩:=h; simp only [MkO] at h,fun A outer s H args us vs Q E _ _ _ _ h=>by obtain ⟨_,_,o,_,_,_,_,_,_,_,_,h,_⟩:=h; simp only [MkO] at h⟩
 | n + 1=>ok_mk MK.F (MK.cal (mkx_all MK m_isinstance m_list m_tuple m_dict m_sorted m_str n)) m_isinstance m_list m_tuple m_dict m_sorted m_str
theorem vtx_all {fVT fNA fRD fCH:Addr} {dVT dNA dRD dCH:FuncData} (X:RoomX K mg fRU fRO fRS fGM fSO fRR fRC fPB fRH fCA dRU dRO dRS dGM dSO dRR dRC dPB dRH dCA) (PO:Fx K mg "places_in_order" ax_ ["fields"] fPO dPO) (VT:Fx K mg "value_at" ea_ ["kind", "some", "place"] fVT dVT) (NA:Fx K mg "number_at" eh_ ["w", "some", "place"] fNA dNA) (RD:Fx K mg "record_at" eg_ ["fields", "some", "place"] fRD dRD) (CH:Fx K mg "choice_at" ej_ ["kind", "some", "place"] fCH dCH)
  (c_HOW:∃ t,mg "HOW_MANY_BYTES" = some (.int 256 t)) (m_range:mg "range" = none) (m_reversed:mg "reversed" = none) (m_len:mg "len" = none):∀ n,FnOk P w K mg base CX0 (5 + 3 * n) fVT dVT ["kind", "some", "place"] (spX (gVT n))
 | 0=>vtx_none
 | n + 1=>by
  have ih:=VT.cal (vtx_all X PO VT NA RD CH c_HOW m_range m_reversed m_len n)
  have GRU:=X.RU.cal (P:=P) (w:=w) (base:=base) (okx_ru X.RU.F)
  exact (okx_vt VT.F (NA.cal (okx_na NA.F c_HOW m_reversed)) ih (X.RO.cal (gg_ X n)) (X.SO.cal (okx_so X.SO.F GRU)) (RD.cal (okx_rd RD.F ih (PO.cal (pox_all X PO n)) X.m_zip (by omega))) (CH.cal (okx_ch CH.F ih (X.RO.cal (gg_ X (n + 1))) (X.CA.cal (okx_ca X.CA.F GRU)) m_len (by omega) (by omega))) m_range (by omega) (by omega)).mono (by omega)
end
structure VConsts (mg:MG_):Prop where
 many:∃ t,mg "HOW_MANY_BYTES" = some (.int 256 t)
theorem mkTw:Nat.ble 1 PySem.Challenge.pw_laidfields_k19_values_of_bytes.main.body.length=true:=by k_qdec
def asgV (s:Stmt):Option V:=match s with
 | .Assign _ (.Constant (.int i) _ _) _=>some (.int i)
 | .Assign _ (.Constant (.str x) _ _) _=>some (.str x)
 | _=>none
def litV (e:Expr):Option V:=match e with
 | .Constant (.int i) _ _=>some (.int i)
 | _=>none
def asgT (s:Stmt):Option (List (Option V)):=match s with
 | .Assign _ (.Tuple es _ _) _=>some (es.map litV)
 | _=>none
def seenF (p:Program) (K:FG_):List FO×List Bool×List (Option V)×List (Option (List (Option V))):=([4,5,6,7,8,9,10,11,12,13,14,16,19,20,21,22,23,24,25,26,27,28,30,31,32,33,34,35,36,37,38,39,40,41,42].map fun i=>obsDef K (defName (topOf p i)),bltNs.map (obsNo K),[18].map fun i=>obsVal K (defName (topOf p i)),[].map fun i=>obsTup K (defName (topOf p i)))
def seenV (p:Program):List FO×List Bool×List (Option V)×List (Option (List (Option V))):=([4,5,6,7,8,9,10,11,12,13,14,16,19,20,21,22,23,24,25,26,27,28,30,31,32,33,34,35,36,37,38,39,40,41,42].map fun i=>expDef (topOf p i),List.replicate 17 true,[18].map fun i=>asgV (topOf p i),[].map fun i=>asgT (topOf p i))
theorem once_top:∀ w:World,onceSeen PySem.W.topRun treeTable importedModules (fun m s=>PySem.W.openSeen (PySem.W.view PySem.Challenge.pw_laidfields_k19_values_of_bytes [1,2,4,5,6,7,8,9,10,11,12,13,14,16,18,19,20,21,22,23,24,25,26,27,28,30,31,32,33,34,35,36,37,38,39,40,41,42]) [] m (fun s=>PySem.W.xlAt (PySem.W.view PySem.Challenge.pw_laidfields_k19_values_of_bytes [1,2,4,5,6,7,8,9,10,11,12,13,14,16,18,19,20,21,22,23,24,25,26,27,28,30,31,32,33,34,35,36,37,38,39,40,41,42]) [] s && PySem.W.recOk [] s) true s) PySem.Challenge.pw_laidfields_k19_values_of_bytes 3092 (seenF PySem.Challenge.pw_laidfields_k19_values_of_bytes) w=fun _=>some (true,PySem.W.openGood (PySem.W.view PySem.Challenge.pw_laidfields_k19_values_of_bytes [1,2,4,5,6,7,8,9,10,11,12,13,14,16,18,19,20,21,22,23,24,25,26,27,28,30,31,32,33,34,35,36,37,38,39,40,41,42]) [],seenV PySem.Challenge.pw_laidfields_k19_values_of_bytes):=by
 have _:=mkTw
 rw [PySem.W.Fast.te15661923778557789941,PySem.W.Fast.te14082659384304107361,PySem.W.Fast.te14364793385576792824,PySem.W.Fast.te5923862056798008813,PySem.W.Fast.te4187177175401517315]
 exact fun w=>by kernel_rfl
theorem left_top:PySem.W.LeftO PySem.Challenge.pw_laidfields_k19_values_of_bytes (PySem.W.view PySem.Challenge.pw_laidfields_k19_values_of_bytes [1,2,4,5,6,7,8,9,10,11,12,13,14,16,18,19,20,21,22,23,24,25,26,27,28,30,31,32,33,34,35,36,37,38,39,40,41,42]) [] (fun s=>PySem.W.xlAt (PySem.W.view PySem.Challenge.pw_laidfields_k19_values_of_bytes [1,2,4,5,6,7,8,9,10,11,12,13,14,16,18,19,20,21,22,23,24,25,26,27,28,30,31,32,33,34,35,36,37,38,39,40,41,42]) [] s && PySem.W.recOk [] s) (exHook (seenF PySem.Challenge.pw_laidfields_k19_values_of_bytes) (seenV PySem.Challenge.pw_laidfields_k19_values_of_bytes)).obs (exHook (seenF PySem.Challenge.pw_laidfields_k19_values_of_bytes) (seenV PySem.Challenge.pw_laidfields_k19_values_of_bytes)).val 3092 true:=left_once (by decide) (by kernel_rfl) (fun s=>by kernel_rfl) once_top
theorem mem_map_eq {α:Type} {f g:Nat→α}:∀ {l:List Nat},l.map f=l.map g→∀ i,i∈l→f i=g i:=fun h i hi=>List.map_inj_left.mp h i hi
theorem binds_law {K:FG_} {f:Addr} {fd:FuncData} (F:Fun K "law" "law" s_law f fd) (s:Shared) (v:Value):BindsTo s fd ⟨[v],[]⟩ [("script",v)]:=by
 obtain ⟨oc,od,kV,doc,pm,an,cdv,ct,osl,rfl,_⟩:=F.ex
 exact .of_eq rfl
theorem all_mk {l:PySem.W.OpenLaw} {w:World} {K:FG_} {mg:MG_} {fa:Addr} {h:Heap} (hK:seenF PySem.Challenge.pw_laidfields_k19_values_of_bytes K=seenV PySem.Challenge.pw_laidfields_k19_values_of_bytes) (X:K.In h) (G:h.Ns mainGlobals mg) (hfa:mg "law" = some (.ref fa)) :
  ∃ fd:FuncData,(∀ (s:Shared) (v:Value),BindsTo s fd ⟨[v],[]⟩ [("script",v)])∧∀ base:Heap,K.In base→base.Ns mainGlobals mg→FnOk l.prog w K mg base CX0 30 fa fd ["script"] (spLaw K):=by
 have hd:=mem_map_eq (f:=fun i=>obsDef K (defName (topOf PySem.Challenge.pw_laidfields_k19_values_of_bytes i))) (g:=fun i=>expDef (topOf PySem.Challenge.pw_laidfields_k19_values_of_bytes i)) (l:=[4,5,6,7,8,9,10,11,12,13,14,16,19,20,21,22,23,24,25,26,27,28,30,31,32,33,34,35,36,37,38,39,40,41,42]) (congrArg (fun x=>x.1) hK)
 have hn:bltNs.map (obsNo K)=List.replicate 17 true:=congrArg (fun x=>x.2.1) hK
 have hc:=mem_map_eq (f:=fun i=>obsVal K (defName (topOf PySem.Challenge.pw_laidfields_k19_values_of_bytes i))) (g:=fun i=>asgV (topOf PySem.Challenge.pw_laidfields_k19_values_of_bytes i)) (l:=[18]) (congrArg (fun x=>x.2.2.1) hK)
 obtain ⟨f4,d4,a4,F4⟩:=al_ (hd 4 (by decide))
 have x_is_whole:Fx K mg "is_whole" gf_ ["thing"] f4 d4:=⟨F4,binds1 F4 (fun _ _ _ _ _ _ _=>rfl),F4.kp,PySem.W.mg_of X G a4⟩
 obtain ⟨f5,d5,a5,F5⟩:=al_ (hd 5 (by decide))
 have x_rounded_up:Fx K mg "rounded_up" dt_ ["number", "m"] f5 d5:=⟨F5,binds2 F5 (fun _ _ _ _ _ _ _ _=>rfl),F5.kp,PySem.W.mg_of X G a5⟩
 obtain ⟨f6,d6,a6,F6⟩:=al_ (hd 6 (by decide))
 have x_room_of:Fx K mg "room_of" eq_ ["kind"] f6 d6:=⟨F6,binds1 F6 (fun _ _ _ _ _ _ _=>rfl),F6.kp,PySem.W.mg_of X G a6⟩
 obtain ⟨f7,d7,a7,F7⟩:=al_ (hd 7 (by decide))
 have x_rooms_of:Fx K mg "rooms_of" eb_ ["kinds"] f7 d7:=⟨F7,binds1 F7 (fun _ _ _ _ _ _ _=>rfl),F7.kp,PySem.W.mg_of X G a7⟩
 obtain ⟨f8,d8,a8,F8⟩:=al_ (hd 8 (by decide))
 have x_greatest_multiple:Fx K mg "greatest_multiple" bj_ ["rooms"] f8 d8:=⟨F8,binds1 F8 (fun _ _ _ _ _ _ _=>rfl),F8.kp,PySem.W.mg_of X G a8⟩
 obtain ⟨f9,d9,a9,F9⟩:=al_ (hd 9 (by decide))
 have x_step_of:Fx K mg "step_of" fo_ ["room"] f9 d9:=⟨F9,binds1 F9 (fun _ _ _ _ _ _ _=>rfl),F9.kp,PySem.W.mg_of X G a9⟩
 obtain ⟨f10,d10,a10,F10⟩:=al_ (hd 10 (by decide))
 have x_room_of_row:Fx K mg "room_of_row" df_ ["kind", "n"] f10 d10:=⟨F10,binds2 F10 (fun _ _ _ _ _ _ _ _=>rfl),F10.kp,PySem.W.mg_of X G a10⟩
 obtain ⟨f11,d11,a11,F11⟩:=al_ (hd 11 (by decide))
 have x_room_of_record:Fx K mg "room_of_record" bz_ ["kinds"] f11 d11:=⟨F11,binds1 F11 (fun _ _ _ _ _ _ _=>rfl),F11.kp,PySem.W.mg_of X G a11⟩
 obtain ⟨f12,d12,a12,F12⟩:=al_ (hd 12 (by decide))
 have x_places_behind:Fx K mg "places_behind" cq_ ["rooms"] f12 d12:=⟨F12,binds1 F12 (fun _ _ _ _ _ _ _=>rfl),F12.kp,PySem.W.mg_of X G a12⟩
 obtain ⟨f13,d13,a13,F13⟩:=al_ (hd 13 (by decide))
 have x_room_of_choice:Fx K mg "room_of_choice" ca_ ["kinds"] f13 d13:=⟨F13,binds1 F13 (fun _ _ _ _ _ _ _=>rfl),F13.kp,PySem.W.mg_of X G a13⟩
 obtain ⟨f14,d14,a14,F14⟩:=al_ (hd 14 (by decide))
 have x_chosen_at:Fx K mg "chosen_at" ei_ ["multiple"] f14 d14:=⟨F14,binds1 F14 (fun _ _ _ _ _ _ _=>rfl),F14.kp,PySem.W.mg_of X G a14⟩
 obtain ⟨f16,d16,a16,F16⟩:=al_ (hd 16 (by decide))
 have x_places_in_order:Fx K mg "places_in_order" ax_ ["fields"] f16 d16:=⟨F16,binds1 F16 (fun _ _ _ _ _ _ _=>rfl),F16.kp,PySem.W.mg_of X G a16⟩
 obtain ⟨f19,d19,a19,F19⟩:=al_ (hd 19 (by decide))
 have x_laid_bytes:Fx K mg "laid_bytes" dv_ ["kind", "value"] f19 d19:=⟨F19,binds2 F19 (fun _ _ _ _ _ _ _ _=>rfl),F19.kp,PySem.W.mg_of X G a19⟩
 obtain ⟨f20,d20,a20,F20⟩:=al_ (hd 20 (by decide))
 have x_number_bytes:Fx K mg "number_bytes" cw_ ["w", "value"] f20 d20:=⟨F20,binds2 F20 (fun _ _ _ _ _ _ _ _=>rfl),F20.kp,PySem.W.mg_of X G a20⟩
 obtain ⟨f21,d21,a21,F21⟩:=al_ (hd 21 (by decide))
 have x_lay:Fx K mg "lay" s_lay ["laid", "place", "some"] f21 d21:=⟨F21,binds3 F21 (fun _ _ _ _ _ _ _ _ _=>rfl),F21.kp,PySem.W.mg_of X G a21⟩
 obtain ⟨f22,d22,a22,F22⟩:=al_ (hd 22 (by decide))
 have x_value_of:Fx K mg "value_of" gd_ ["kind", "thing"] f22 d22:=⟨F22,binds2 F22 (fun _ _ _ _ _ _ _ _=>rfl),F22.kp,PySem.W.mg_of X G a22⟩
 obtain ⟨f23,d23,a23,F23⟩:=al_ (hd 23 (by decide))
 have x_are_bytes:Fx K mg "are_bytes" ek_ ["thing", "how_many"] f23 d23:=⟨F23,binds2 F23 (fun _ _ _ _ _ _ _ _=>rfl),F23.kp,PySem.W.mg_of X G a23⟩
 obtain ⟨f24,d24,a24,F24⟩:=al_ (hd 24 (by decide))
 have x_is_byte:Fx K mg "is_byte" hu_ ["thing"] f24 d24:=⟨F24,binds1 F24 (fun _ _ _ _ _ _ _=>rfl),F24.kp,PySem.W.mg_of X G a24⟩
 obtain ⟨f25,d25,a25,F25⟩:=al_ (hd 25 (by decide))
 have x_value_at:Fx K mg "value_at" ea_ ["kind", "some", "place"] f25 d25:=⟨F25,binds3 F25 (fun _ _ _ _ _ _ _ _ _=>rfl),F25.kp,PySem.W.mg_of X G a25⟩
 obtain ⟨f26,d26,a26,F26⟩:=al_ (hd 26 (by decide))
 have x_number_at:Fx K mg "number_at" eh_ ["w", "some", "place"] f26 d26:=⟨F26,binds3 F26 (fun _ _ _ _ _ _ _ _ _=>rfl),F26.kp,PySem.W.mg_of X G a26⟩
 obtain ⟨f27,d27,a27,F27⟩:=al_ (hd 27 (by decide))
 have x_record_at:Fx K mg "record_at" eg_ ["fields", "some", "place"] f27 d27:=⟨F27,binds3 F27 (fun _ _ _ _ _ _ _ _ _=>rfl),F27.kp,PySem.W.mg_of X G a27⟩
 obtain ⟨f28,d28,a28,F28⟩:=al_ (hd 28 (by decide))
 have x_choice_at:Fx K mg "choice_at" ej_ ["kind", "some", "place"] f28 d28:=⟨F28,binds3 F28 (fun _ _ _ _ _ _ _ _ _=>rfl),F28.kp,PySem.W.mg_of X G a28⟩
 obtain ⟨f30,d30,a30,F30⟩:=al_ (hd 30 (by decide))
 have x__law_pool:Fx K mg "_law_pool" ge_ ["script", "k"] f30 d30:=⟨F30,binds2 F30 (fun _ _ _ _ _ _ _ _=>rfl),F30.kp,PySem.W.mg_of X G a30⟩
 obtain ⟨f31,d31,a31,F31⟩:=al_ (hd 31 (by decide))
 have x__law_take:Fx K mg "_law_take" ec_ ["pool", "many"] f31 d31:=⟨F31,binds2 F31 (fun _ _ _ _ _ _ _ _=>rfl),F31.kp,PySem.W.mg_of X G a31⟩
 obtain ⟨f32,d32,a32,F32⟩:=al_ (hd 32 (by decide))
 have x__law_rounded:Fx K mg "_law_rounded" ce_ ["number", "m"] f32 d32:=⟨F32,binds2 F32 (fun _ _ _ _ _ _ _ _=>rfl),F32.kp,PySem.W.mg_of X G a32⟩
 obtain ⟨f33,d33,a33,F33⟩:=al_ (hd 33 (by decide))
 have x__law_room:Fx K mg "_law_room" bu_ ["kind"] f33 d33:=⟨F33,binds1 F33 (fun _ _ _ _ _ _ _=>rfl),F33.kp,PySem.W.mg_of X G a33⟩
 obtain ⟨f34,d34,a34,F34⟩:=al_ (hd 34 (by decide))
 have x__law_names:Fx K mg "_law_names" cd_ ["pool", "many"] f34 d34:=⟨F34,binds2 F34 (fun _ _ _ _ _ _ _ _=>rfl),F34.kp,PySem.W.mg_of X G a34⟩
 obtain ⟨f35,d35,a35,F35⟩:=al_ (hd 35 (by decide))
 have x__law_kind:Fx K mg "_law_kind" dg_ ["pool", "deep", "most"] f35 d35:=⟨F35,binds3 F35 (fun _ _ _ _ _ _ _ _ _=>rfl),F35.kp,PySem.W.mg_of X G a35⟩
 obtain ⟨f36,d36,a36,F36⟩:=al_ (hd 36 (by decide))
 have x__law_copy:Fx K mg "_law_copy" dh_ ["thing"] f36 d36:=⟨F36,binds1 F36 (fun _ _ _ _ _ _ _=>rfl),F36.kp,PySem.W.mg_of X G a36⟩
 obtain ⟨f37,d37,a37,F37⟩:=al_ (hd 37 (by decide))
 have x__law_same:Fx K mg "_law_same" cv_ ["one", "other"] f37 d37:=⟨F37,binds2 F37 (fun _ _ _ _ _ _ _ _=>rfl),F37.kp,PySem.W.mg_of X G a37⟩
 obtain ⟨f38,d38,a38,F38⟩:=al_ (hd 38 (by decide))
 have x__law_top:Fx K mg "_law_top" fp_ ["width"] f38 d38:=⟨F38,binds1 F38 (fun _ _ _ _ _ _ _=>rfl),F38.kp,PySem.W.mg_of X G a38⟩
 obtain ⟨f39,d39,a39,F39⟩:=al_ (hd 39 (by decide))
 have x__law_value:Fx K mg "_law_value" dm_ ["pool", "kind"] f39 d39:=⟨F39,binds2 F39 (fun _ _ _ _ _ _ _ _=>rfl),F39.kp,PySem.W.mg_of X G a39⟩
 obtain ⟨f40,d40,a40,F40⟩:=al_ (hd 40 (by decide))
 have x__law_bytes:Fx K mg "_law_bytes" cm_ ["kind", "value"] f40 d40:=⟨F40,binds2 F40 (fun _ _ _ _ _ _ _ _=>rfl),F40.kp,PySem.W.mg_of X G a40⟩
 obtain ⟨f41,d41,a41,F41⟩:=al_ (hd 41 (by decide))
 have x__law_marked:Fx K mg "_law_marked" du_ ["value", "marks"] f41 d41:=⟨F41,binds2 F41 (fun _ _ _ _ _ _ _ _=>rfl),F41.kp,PySem.W.mg_of X G a41⟩
 obtain ⟨f42,d42,a42,F42⟩:=al_ (hd 42 (by decide))
 have x_law:Fx K mg "law" s_law ["script"] f42 d42:=⟨F42,binds1 F42 (fun _ _ _ _ _ _ _=>rfl),F42.kp,PySem.W.mg_of X G a42⟩
 have m_isinstance:mg "isinstance" = none:=PySem.W.mg_none_of X G (fd_ hn 0 (by decide) (by rfl))
 have m_int:mg "int" = none:=PySem.W.mg_none_of X G (fd_ hn 1 (by decide) (by rfl))
 have m_bool:mg "bool" = none:=PySem.W.mg_none_of X G (fd_ hn 2 (by decide) (by rfl))
 have m_list:mg "list" = none:=PySem.W.mg_none_of X G (fd_ hn 3 (by decide) (by rfl))
 have m_len:mg "len" = none:=PySem.W.mg_none_of X G (fd_ hn 4 (by decide) (by rfl))
 have m_str:mg "str" = none:=PySem.W.mg_none_of X G (fd_ hn 5 (by decide) (by rfl))
 have m_tuple:mg "tuple" = none:=PySem.W.mg_none_of X G (fd_ hn 6 (by decide) (by rfl))
 have m_all:mg "all" = none:=PySem.W.mg_none_of X G (fd_ hn 7 (by decide) (by rfl))
 have m_dict:mg "dict" = none:=PySem.W.mg_none_of X G (fd_ hn 8 (by decide) (by rfl))
 have m_max:mg "max" = none:=PySem.W.mg_none_of X G (fd_ hn 9 (by decide) (by rfl))
 have m_min:mg "min" = none:=PySem.W.mg_none_of X G (fd_ hn 10 (by decide) (by rfl))
 have m_range:mg "range" = none:=PySem.W.mg_none_of X G (fd_ hn 11 (by decide) (by rfl))
 have m_zip:mg "zip" = none:=PySem.W.mg_none_of X G (fd_ hn 12 (by decide) (by rfl))
 have m_enumerate:mg "enumerate" = none:=PySem.W.mg_none_of X G (fd_ hn 13 (by decide) (by rfl))
 have m_sorted:mg "sorted" = none:=PySem.W.mg_none_of X G (fd_ hn 14 (by decide) (by rfl))
 have m_reversed:mg "reversed" = none:=PySem.W.mg_none_of X G (fd_ hn 16 (by decide) (by rfl))
 obtain ⟨_,c_HOW_MANY_BYTES,r_HOW_MANY_BYTES⟩:=obsVal_ex (x:=.int 256) (hc 18 (by decide))
 obtain ⟨_,rfl⟩:=r_HOW_MANY_BYTES
 have x_vconsts:VConsts mg:=⟨⟨_,PySem.W.mg_of X G c_HOW_MANY_BYTES⟩⟩
 have e:=hfa.symm.trans x_law.m
 cases e
 refine ⟨d42,fun s v=>binds_law x_law.F s v,fun base hbK _ => ?_⟩
 exact have RX:=(⟨x_rounded_up,x_room_of,x_rooms_of,x_greatest_multiple,x_step_of,x_room_of_row,x_room_of_record,x_places_behind,x_room_of_choice,x_chosen_at,m_max,m_zip⟩ : RoomX K mg _ _ _ _ _ _ _ _ _ _ _ _ _ _ _ _ _ _ _ _)
  have GLB:=x_laid_bytes.cal (P:=l.prog) (w:=w) (base:=base) (lbx_all RX x_places_in_order x_number_bytes x_lay x_laid_bytes x_vconsts.many m_range m_enumerate 5)
  have GIW:=x_is_whole.cal (P:=l.prog) (w:=w) (base:=base) (okx_iw x_is_whole.F m_isinstance m_int m_bool)
  have GAB:=x_are_bytes.cal (okx_ab x_are_bytes.F (x_is_byte.cal (okx_ib x_is_byte.F GIW x_vconsts.many)) m_isinstance m_list m_len m_all)
  have GRO:=x_room_of.cal (P:=l.prog) (w:=w) (base:=base) (gg_ RX 5)
  have GVT:=x_value_at.cal (P:=l.prog) (w:=w) (base:=base) (vtx_all RX x_places_in_order x_value_at x_number_at x_record_at x_choice_at x_vconsts.many m_range m_reversed m_len 5)
  have GVO:=x_value_of.cal (okx_vo x_value_of.F GAB GRO GVT GLB (by decide) (by decide) (by decide))
  have GTK:=x__law_take.cal (P:=l.prog) (w:=w) (base:=base) (hd_ x__law_take.F)
  have GLY:=x__law_bytes.cal (P:=l.prog) (w:=w) (base:=base) (lyx_all x__law_bytes x__law_room x__law_rounded m_range m_len m_max 5)
  have GCO:=x__law_copy.cal (P:=l.prog) (w:=w) (base:=base) (cox_all x__law_copy m_isinstance m_list m_tuple m_dict 20)
  have GSA:=x__law_same.cal (P:=l.prog) (w:=w) (base:=base) (sax_all x__law_same m_isinstance m_list m_tuple m_dict m_bool m_str m_len m_zip 20)
  have GMK:=x__law_marked.cal (P:=l.prog) (w:=w) (base:=base) (mkx_all x__law_marked m_isinstance m_list m_tuple m_dict m_sorted m_str 5)
  law_tree ((okx_law (L:=29) x_law.F (x__law_pool.cal (okx_pl x__law_pool.F m_len)) GTK ((x__law_kind.cal (lkx_all x__law_kind x__law_take x__law_names x__law_room x__law_rounded m_max m_range m_len m_int 5)).mono (by decide)) ((x__law_value.cal (vax_all x__law_value x__law_take x__law_top m_range m_len 5)).mono (by decide)) (GLY.mono (by decide)) (GCO.mono (by decide)) (GSA.mono (by decide)) (GVO.mono (by decide)) (GMK.mono (by decide)) m_max m_min m_range m_len m_int m_list (by decide)))
def lawRec:DefRec:=match s_law with
 | .FunctionDef n a b _ _ _ sc _ _ pos=>⟨n,a,b,sc,pos⟩
 | _=>⟨⟨#[]⟩,⟨[],[],none,[],[],none,[]⟩,[],defScope s_law,⟨0,0,0,0⟩⟩
end Lf
open PySem PySem.W PyProof.Rows
set_option maxHeartbeats 0 in
theorem PySem.Challenge.cw_laidfields_k19_values_of_bytes_holds : PySem.Challenge.rw_laidfields_k19_values_of_bytes.Holds := by
 w_on; o_law
 refine holds_open (d := Lf.lawRec) (kwd := []) (XP := XL (PySem.W.view PySem.Challenge.pw_laidfields_k19_values_of_bytes [1, 2, 4, 5, 6, 7, 8, 9, 10, 11, 12, 13, 14, 16, 18, 19, 20, 21, 22, 23, 24, 25, 26, 27, 28, 30, 31, 32, 33, 34, 35, 36, 37, 38, 39, 40, 41, 42]) []) Lf.left_top (Hook.of (L2.exHook (Lf.seenF PySem.Challenge.pw_laidfields_k19_values_of_bytes) (Lf.seenV PySem.Challenge.pw_laidfields_k19_values_of_bytes))) (Hook.keeps (L2.exHook (Lf.seenF PySem.Challenge.pw_laidfields_k19_values_of_bytes) (Lf.seenV PySem.Challenge.pw_laidfields_k19_values_of_bytes))) (fun s e => xl_of s (Bool.and_eq_true_iff.mp e).1) XL.keeps (by kernel_rfl) (by kernel_rfl) (by kernel_rfl) (fun s e => recFacts_of (Bool.and_eq_true_iff.mp e).2) (by rfl) (by assumption) (by decide +kernel) ⟨rfl, rfl, rfl, rfl, rfl, by decide +kernel⟩ ?hw ?hc
 case hw=>w_witness2
 case hc=>exact L2.walk_ex (l:=PySem.Challenge.rw_laidfields_k19_values_of_bytes) (n:=63) (k:=30) (x := "script") (CX:=L2.CX0) (sp:=Lf.spLaw) rfl (by decide) (by rfl) ⟨rfl,by decide,by decide⟩ (fun w K mg fa h hK X G hfa=>Lf.all_mk hK X G hfa) (fun K H a ns hl _ hS=>⟨a,ns,rfl,hS,hl,fun _=>rfl⟩) (fun _ _ _ _ z=>z)
#print axioms PySem.Challenge.cw_laidfields_k19_values_of_bytes_holds
